import PyProof.Rows.All
import Wide.All
import OpenK.AllK
import Wide.FinOn
import Lean
import PyProof.EqAt
import PyProof.EqKinds
import PyProof.TupleCall
import KE.KDictOf
import PyProof.DictWalks
import PyProof.AttrMissSeq
import PyProof.Rows.Range3
import PyProof.Rows.RuleIs
import KE.KTryOn
import PyProof.NsDelKeeps
import PyProof.ExcAttrAll.ValueError
import PyProof.FitsBits
import PyProof.StrWalks
import KE.KRevIter
import KE.KStrOpen
import PySem.Challenge.RW_upwords_k61_patterns_known
set_option Elab.async false
set_option linter.all false
set_option maxRecDepth 100000
namespace L2
open PySem PySem.Spec PyProof.Rows
abbrev Key:=Sum Int Str
def Gj:Key->Value->Bool
 |.inl k,v=>Value.isInt k v
 |.inr x,v=>Value.isStrOf x v
def SM (w:World):Key->Int
 |.inl k=>hashInt k
 |.inr x=>hashStr w x
theorem BJ:∀{k:Key} {v:Value},Gj k v=true->(∃i t,k=Sum.inl i/\v=Value.int i t)\/(∃x t,k=Sum.inr x/\v=Value.str x t)
 |.inl i,v,h=>by
  obtain⟨t,e⟩:=Value.isInt_shape (k:=i) (v:=v) h
  exact .inl ⟨i,t,rfl,e⟩
 |.inr x,v,h=>by
  obtain⟨t,e⟩:=Value.isStrOf_shape (x:=x) (v:=v) h
  exact .inr ⟨x,t,rfl,e⟩
theorem Lh (i:Int)(t:Tok):Gj (.inl i) (.int i t)=true:=by simp[Gj,Value.isInt]
theorem Li (x:Str)(t:Tok):Gj (.inr x) (.str x t)=true:=by simp[Gj,Value.isStrOf]
theorem Pt (a b:Int):decide ((Sum.inl a:Key)=Sum.inl b)=(a==b):=by
 by_cases e:a=b
 ·subst e;simp
 ·have h:¬(Sum.inl a:Key)=Sum.inl b:=λq=>e (Sum.inl.inj q)
  rw[decide_eq_false h]
  exact(beq_eq_false_iff_ne.mpr e).symm
theorem Pu (a b:Str):decide ((Sum.inr a:Key)=Sum.inr b)=decide (a=b):=by
 by_cases e:a=b
 ·subst e;simp
 ·have h:¬(Sum.inr a:Key)=Sum.inr b:=λq=>e (Sum.inr.inj q)
  rw[decide_eq_false h,decide_eq_false e]
theorem Px (a:Int)(b:Str):decide ((Sum.inl a:Key)=Sum.inr b)=false:=decide_eq_false (λq=>nomatch q)
theorem Py (a:Str)(b:Int):decide ((Sum.inr a:Key)=Sum.inl b)=false:=decide_eq_false (λq=>nomatch q)
def A6 (prog:Program)(w:World):PySem.KeyKind prog w Key where
 is:=Gj
 hash:=SM w
 inj:=λv a b ha hb=>by
  rcases BJ ha with⟨i,t,rfl,rfl⟩|⟨x,t,rfl,rfl⟩
  ·rcases BJ hb with⟨j,u,rfl,e⟩|⟨y,u,rfl,e⟩
   ·injection e with e1 _;rw[e1]
   ·exact nomatch e
  ·rcases BJ hb with⟨j,u,rfl,e⟩|⟨y,u,rfl,e⟩
   ·exact nomatch e
   ·injection e with e1 _;rw[e1]
 byValue:=λk v h=>by
  rcases BJ h with⟨i,t,rfl,rfl⟩|⟨x,t,rfl,rfl⟩<;>rfl
 pyHash:=λhv h=>by
  rcases BJ hv with⟨i,t,rfl,rfl⟩|⟨x,t,rfl,rfl⟩
  ·exact wpAny_pyHash_int h
  ·exact wpAny_pyHash_str h
 eqBool:=λhu hv h=>by
  rcases BJ hu with⟨i,t,rfl,rfl⟩|⟨x,t,rfl,rfl⟩
  ·rcases BJ hv with⟨j,u,rfl,rfl⟩|⟨y,u,rfl,rfl⟩
   ·rw[Pt]at h;exact wpAny_eqBool_int h
   ·rw[Px]at h;exact SeqAt.EqAt.int_str i t y u _ _ _ _ h
  ·rcases BJ hv with⟨j,u,rfl,rfl⟩|⟨y,u,rfl,rfl⟩
   ·rw[Py]at h;exact SeqAt.EqAt.str_int x t j u _ _ _ _ h
   ·rw[Pu]at h;exact wpAny_eqBool_str h
 «strs»:=λk x t v h=>by
  rcases BJ h with⟨i,u,rfl,e⟩|⟨y,u,rfl,e⟩
  ·exact nomatch e
  ·injection e with e1 _
   subst e1
   cases v<;>rfl
theorem Ik (prog:Program)(w:World)(i:Int)(t:Tok):(A6 prog w).is (.inl i) (.int i t)=true:=Lh i t
theorem Il (prog:Program)(w:World)(x:Str)(t:Tok):(A6 prog w).is (.inr x) (.str x t)=true:=Li x t
end L2
namespace L2
open PySem PySem.Spec PyProof.Rows
inductive V where
 |non|bl (b:Bool)|int (i:Int)|str (x:Str)|byt (b:Array UInt8)|flt (b:UInt64)|ref (a:Addr)|ty (n:String)
 deriving DecidableEq
def RelV:V->Value->Prop
 |.non,u=>u=Value.none
 |.bl b,u=>u=Value.bool b
 |.int i,u=>∃t,u=Value.int i t
 |.str x,u=>∃t,u=Value.str x t
 |.byt b,u=>∃t,u=Value.bytes b t
 |.flt b,u=>∃t,u=Value.float b t
 |.ref a,u=>u=Value.ref a
 |.ty n,u=>u=Value.type n
abbrev Vals:List V->List Value->Prop:=Paired RelV
theorem Vals.length {xs:List V}{us:List Value}(r:Vals xs us):xs.length=us.length:=Paired.length r
theorem Vals.get:∀{xs:List V} {us:List Value} {i:Nat} {x:V},Vals xs us->xs[i]?=some x->∃u,us[i]?=some u/\RelV x u
 |_,_,_,_,.nil,e=>by simp at e
 |_,_,0,_,.cons r _,e=>by simp at e;subst e;exact⟨_,rfl,r⟩
 |_,_,i+1,x,.cons _ t,e=>by
  obtain⟨u,h1,h2⟩:=Vals.get (i:=i) (x:=x) t (by simpa using e)
  exact⟨u,by simpa using h1,h2⟩
theorem Vals.set {x:V}{u:Value}(r:RelV x u):∀{xs:List V} {us:List Value} (i:Nat),Vals xs us->Vals (xs.set i x) (us.set i u)
 |_,_,_,.nil=>.nil
 |_,_,0,.cons _ t=>.cons r t
 |_,_,i+1,.cons q t=>.cons q (Vals.set r i t)
theorem Vals.append:∀{xs ys:List V} {us ws:List Value},Vals xs us->Vals ys ws->Vals (xs++ys) (us++ws)
 |_,_,_,_,.nil,s=>s
 |_,_,_,_,.cons r t,s=>.cons r (Vals.append t s)
theorem Vals.take:∀{xs:List V} {us:List Value} (n:Nat),Vals xs us->Vals (xs.take n) (us.take n)
 |_,_,0,_=>.nil
 |_,_,_+1,.nil=>.nil
 |_,_,n+1,.cons r t=>.cons r (Vals.take n t)
theorem Vals.drop:∀{xs:List V} {us:List Value} (n:Nat),Vals xs us->Vals (xs.drop n) (us.drop n)
 |_,_,0,r=>r
 |_,_,_+1,.nil=>.nil
 |_,_,n+1,.cons _ t=>Vals.drop n t
def J6:Option V->Option Value->Prop
 |some v,some u=>RelV v u
 |none,none=>True
 |_,_=>False
def KV {κ:Type}:List (κ×V)->List (κ×Value)->Prop:=Paired λ(p:κ×V) (q:κ×Value)=>p.1=q.1/\RelV p.2 q.2
def kV:Key->V
 |.inl i=>.int i
 |.inr x=>.str x
inductive HO where
 |lst (xs:List V)
 |tup (xs:List V)
 |dK (kvs:List (Key×V))|dT (kvs:List (List Key×V))
 |set (S:Int->Bool) (n:Nat)
 |ins (C dx:Addr) (fs:List (Str×V))
 |own (x:Addr)
 |xd (fs:List (Str×V))
 |met (f x:Addr)
 |rng (lo hi:Int)
 |frz (o:Obj) (u:HO)
 |tbl (ps:Array Value)
 |ext (φ:Heap->Prop)
abbrev Hp:=Addr->Option HO
def upd (H:Hp)(a:Addr)(o:HO):Hp:=λb=>if b=a then some o else H b
theorem AD {H:Hp}{a:Addr}{o:HO}:upd H a o a=some o:=by unfold upd;rw[if_pos rfl]
theorem AX {H:Hp}{a b:Addr}{o:HO}(h:b≠a):upd H a o b=H b:=by unfold upd;rw[if_neg h]
theorem Ks {H:Hp}{a:Addr}{o u:HO}:upd (upd H a o) a u=upd H a u:=by
 funext b;unfold upd;split<;>rfl
theorem Q7 {H:Hp}{a b:Addr}{o u:HO}(h:H a=some o)(h':H b=some u)(d:o≠u):a≠b:=by
 intro e;subst e;rw[h]at h';exact d (Option.some.inj h')
theorem AV {H:Hp}{a b:Addr}{o:HO}(h:H a=some o)(h':H b=none):a≠b:=by
 intro e;subst e;rw[h]at h';cases h'
section
variable (P:Program)(w:World)
def A0 (H:Hp)(h:Heap)(a:Addr):HO->Prop
 |.lst xs=>xs.length<=sizeLine/\∃(its:List Value) (n:Nat),Vals xs its/\h.get? a=some { cls:=.type "list",data:=.seq its.toArray n }
 |.tup xs=>(xs.length<=sizeLine/\∃o,h.get? a=some o/\o.dict=none)/\∃its:List Value,Vals xs its/\IsTup h a its.toArray
 |.dK kvs=>kvs.length<=sizeLine/\(a==sysModules)=false/\∃vs,KV kvs vs/\h.DictOf (A6 P w) a vs
 |.dT kvs=>kvs.length<=sizeLine/\(a==sysModules)=false/\∃xs:List (List Key×Addr×Value),
  Paired (λ(p:List Key×V) (q:List Key×Addr×Value)=>p.1=q.1/\H q.2.1=some (.tup (p.1.map kV))/\RelV p.2 q.2.2) kvs xs/\
  ∃o es ep,h.get? a=some o/\o.ExactDict/\o.data=.dict es ep/\es.toList=xs.map (entryOfKey (tupleKind (A6 P w)))/\(xs.map (·.1)).Nodup
 |.set S n=>h.SetOf (intKind P w) a S n
 |.ins C dx fs=>H dx=some (.own a)/\fs.length<=1000/\dx≠a/\h.get? a=some (PySem.W.instObj C dx)/\
  ∃mA,h.Ns1 dx mA/\(∀f,J6 (fs.lookup f) (mA f))/\PySem.Within mA (fs.map (·.1))
 |.own _=>∃o,h.get? a=some o
 |.xd fs=>∃mA,h.Ns1 a mA/\∀f,J6 (fs.lookup f) (mA f)
 |.rng lo hi=>∃t u v,h.get? a=some { cls:=.type "range",data:=.fields #[.int lo t,.int hi u,.int 1 v] }
 |.frz o u=>h.get? a=some o/\A0 H h a u
 |.tbl ps=>h.get? a=some { cls:=.none,data:=.fields ps }
 |.met f x=>h.get? a=some (PySem.W.methodObj (.ref f) (.ref x))
 |.ext φ=>φ h/\(∃o,h.get? a=some o)/\∀h1 h2:Heap,φ h1->(∀o,h1.get? a=some o->h2.get? a=some o)->φ h2
def DJ (H:Hp)(h:Heap):Prop:=∀a o,H a=some o->A0 P w H h a o
end
section
variable {P:Program}{w:World}{H H':Hp}{h h':Heap}{a:Addr}{o:HO}
theorem A0.lt (x:A0 P w H h a o):a < h.objs.size:=by
 cases o with
 |lst xs=>obtain⟨_,_,_,_,e⟩:=x;exact Heap.lt_size e
 |tup xs=>obtain⟨_,_,_,p⟩:=x;exact p.lt
 |dK kvs=>obtain⟨_,_,_,_,o,_,_,e,_⟩:=x;exact Heap.lt_size e
 |dT kvs=>obtain⟨_,_,_,_,o,_,_,e,_⟩:=x;exact Heap.lt_size e
 |set S n=>obtain⟨o,_,_,_,e,_⟩:=x;exact Heap.lt_size e
 |ins C dx fs=>obtain⟨_,_,_,e,_⟩:=x;exact Heap.lt_size e
 |own y=>obtain⟨_,e⟩:=x;exact Heap.lt_size e
 |xd fs=>obtain⟨_,⟨_,_,_,e,_⟩,_⟩:=x;exact Heap.lt_size e
 |rng lo hi=>obtain⟨_,_,_,e⟩:=x;exact Heap.lt_size e
 |frz ob u=>obtain⟨e,_⟩:=x;exact Heap.lt_size e
 |tbl ps=>exact Heap.lt_size (show h.get? a=some _ from x)
 |met f y=>exact Heap.lt_size (show h.get? a=some _ from x)
 |ext φ=>obtain⟨_,⟨_,e⟩,_⟩:=x;exact Heap.lt_size e
theorem Paired.Q8 {α β:Type}{F G:α->β->Prop}:∀{l₁:List α} {l₂:List β},Paired F l₁ l₂->(∀a b,F a b->G a b)->Paired G l₁ l₂
 |_,_,.nil,_=>.nil
 |_,_,.cons r t,f=>.cons (f _ _ r) (Paired.Q8 t f)
theorem A0.D7 (x:A0 P w H h a o)(k:∀b u,(b=a\/H b=some (.own a))->h.get? b=some u->h'.get? b=some u)
 (ho:∀b,H b=some (.own a)->H' b=some (.own a))(ht:∀b xs,H b=some (.tup xs)->H' b=some (.tup xs)):A0 P w H' h' a o:=by
 induction o with
 |lst xs=>obtain⟨z,its,n,r,e⟩:=x;exact⟨z,its,n,r,k _ _ (.inl rfl) e⟩
 |tup xs=>obtain⟨⟨z,o1,e1,c1⟩,its,r,ob,e,c⟩:=x;exact⟨⟨z,o1,k _ _ (.inl rfl) e1,c1⟩,its,r,ob,k _ _ (.inl rfl) e,c⟩
 |dK kvs=>obtain⟨z,y,vs,r,ob,es,ep,e,c⟩:=x;exact⟨z,y,vs,r,ob,es,ep,k _ _ (.inl rfl) e,c⟩
 |dT kvs=>
  obtain⟨z,y,xs,r,ob,es,ep,e,c⟩:=x
  exact⟨z,y,xs,Paired.Q8 r λp q z=>⟨z.1,ht _ _ z.2.1,z.2.2⟩,ob,es,ep,k _ _ (.inl rfl) e,c⟩
 |set S n=>obtain⟨ob,es,ep,t,e,c⟩:=x;exact⟨ob,es,ep,t,k _ _ (.inl rfl) e,c⟩
 |ins C dx fs=>
  obtain⟨d,z,ne,e,mA,⟨od,es,ep,e2,c⟩,r⟩:=x
  exact⟨ho _ d,z,ne,k _ _ (.inl rfl) e,mA,⟨od,es,ep,k _ _ (.inr d) e2,c⟩,r⟩
 |own y=>obtain⟨ob,e⟩:=x;exact⟨ob,k _ _ (.inl rfl) e⟩
 |xd fs=>obtain⟨mA,⟨od,es,ep,e,c⟩,r⟩:=x;exact⟨mA,⟨od,es,ep,k _ _ (.inl rfl) e,c⟩,r⟩
 |rng lo hi=>obtain⟨t,u,v,e⟩:=x;exact⟨t,u,v,k _ _ (.inl rfl) e⟩
 |frz ob u ih=>obtain⟨e,q⟩:=x;exact⟨k _ _ (.inl rfl) e,ih q⟩
 |tbl ps=>
  have e:h.get? a=some { cls:=.none,data:=.fields ps }:=x
  show h'.get? a=some { cls:=.none,data:=.fields ps }
  exact k a _ (.inl rfl) e
 |met f y=>
  have e:h.get? a=some (PySem.W.methodObj (.ref f) (.ref y)):=x
  show h'.get? a=some (PySem.W.methodObj (.ref f) (.ref y))
  exact k a _ (.inl rfl) e
 |ext φ=>obtain⟨p,⟨o,e⟩,st⟩:=x;exact⟨st _ _ p λo q=>k _ _ (.inl rfl) q,⟨o,k _ _ (.inl rfl) e⟩,st⟩
theorem DJ.lt (x:DJ P w H h)(e:H a=some o):a < h.objs.size:=(x a o e).lt
theorem DJ.fresh (x:DJ P w H h)(e:h.objs.size<=a):H a=none:=by
 cases q:H a with
 |none=>rfl
 |some u=>exact absurd (Nat.lt_of_lt_of_le (x.lt q) e) (Nat.lt_irrefl _)
theorem DJ.kept (x:DJ P w H h)(k:∀b u,h.get? b=some u->h'.get? b=some u):DJ P w H h':=λa o e=>
 (x a o e).D7 (λb u _ q=>k b u q) (λ_ q=>q) λ_ _ q=>q
theorem DJ.laid (x:DJ P w H h)(k:∀b u,h.get? b=some u->h'.get? b=some u)(hp:h.objs.size<=a)(new:A0 P w (upd H a o) h' a o):DJ P w (upd H a o) h':=λb u e=>by
 have hn:=x.fresh hp
 by_cases hb:b=a
 ·subst hb;rw[AD]at e;cases e;exact new
 ·rw[AX hb]at e
  exact(x b u e).D7 (λc v _ q=>k c v q) (λc q=>by rw[AX (AV q hn)];exact q) λc xs q=>by rw[AX (AV q hn)];exact q
end
def Rd (H:Hp)(a:Addr)(u:HO):Prop:=H a=some u\/∃o,H a=some (.frz o u)
theorem Rd.ok {P:Program}{w:World}{H:Hp}{h:Heap}{a:Addr}{u:HO}(r:Rd H a u)(x:DJ P w H h):A0 P w H h a u:=by
 rcases r with r|⟨o,r⟩
 ·exact x a u r
 ·obtain⟨_,q⟩:=x a _ r
  exact q
def Q9:Option HO->Prop
 |some (.lst _)=>True
 |some (.dK _)=>True
 |some (.dT _)=>True
 |some (.set _ _)=>True
 |some (.ins _ _ _)=>True
 |some (.ext _)=>True
 |_=>False
section
variable {P:Program}{w:World}{H:Hp}{h h':Heap}{x e:Addr}{o':HO}
theorem DJ.write (ok:DJ P w H h)(mu:Q9 (H x))(he:e=x\/H e=some (.own x))(k:∀b u,b≠e->h.get? b=some u->h'.get? b=some u)(heo:∃u,h'.get? e=some u)
 (new:A0 P w (upd H x o') h' x o'):DJ P w (upd H x o') h':=λb u q=>by
 have nown:∀c y,H c=some (.own y)->c≠x:=λc y r z=>by subst z;rw[r]at mu;exact mu
 have ntup:∀c xs,H c=some (.tup xs)->c≠x:=λc xs r z=>by subst z;rw[r]at mu;exact mu
 by_cases hb:b=x
 ·subst hb;rw[AD]at q;cases q;exact new
 ·rw[AX hb]at q
  by_cases hbe:b=e
  ·have q':H b=some (.own x):=by
    rcases he with z|z
    ·exact absurd (hbe.trans z) hb
    ·rw[hbe];exact z
   rw[q]at q';cases q'
   obtain⟨v,hv⟩:=heo
   exact⟨v,by rw[hbe];exact hv⟩
  ·refine(ok b u q).D7 (λc v hc r=>k c v ?_ r) (λc r=>by rw[AX (nown c b r)];exact r) λc xs r=>by rw[AX (ntup c xs r)];exact r
   rcases hc with rfl|hc
   ·exact hbe
   ·rintro rfl
    rcases he with z|z
    ·exact nown c b hc z
    ·rw[hc]at z;cases z;exact hb rfl
end
structure Un (fs ex:List Addr)(H H':Hp)(h h':Heap):Prop where
 keep:∀b o,h.get? b=some o->H b=none->b∉fs->b∉ex->h'.get? b=some o
 slot:∀b o,h.get? b=some o->H b=none->b∈fs->b∉ex->∃sl,h'.get? b=some { o with slots:=sl }
 free:∀b o,h.get? b=some o->H b=none->b∉ex->H' b=none
 there:∀b o,h.get? b=some o->b∉ex->∃o',h'.get? b=some o'
 tups:∀b xs,H b=some (.tup xs)->H' b=some (.tup xs)
 frzs:∀b o u,H b=some (.frz o u)->H' b=some (.frz o u)
 tbls:∀b ps,H b=some (.tbl ps)->∃more,H' b=some (.tbl (ps++more))
section
variable {fs fs' ex ex':List Addr}{H H1 H2:Hp}{h h1 h2 h':Heap}{a x e:Addr}{o:HO}
theorem Un.any (u:Un fs ex H H1 h h1){b:Addr}{ob:Obj}(q:h.get? b=some ob)(n:H b=none)(hx:b∉ex):∃sl,h1.get? b=some { ob with slots:=sl }:=by
 by_cases hb:b∈fs
 ·exact u.slot b ob q n hb hx
 ·exact⟨ob.slots,u.keep b ob q n hb hx⟩
theorem Un.kept (k:∀b u,h.get? b=some u->h'.get? b=some u):Un fs ex H H h h':=
 ⟨λb ob q _ _ _=>k b ob q,λb ob q _ _ _=>⟨ob.slots,k b ob q⟩,λ_ _ _ n _=>n,λb ob q _=>⟨ob,k b ob q⟩,λ_ _ q=>q,λ_ _ _ q=>q,λ_ ps q=>⟨#[],by rw[q];simp⟩⟩
theorem Un.refl:Un fs ex H H h h:=Un.kept λ_ _ q=>q
theorem Un.laid (k:∀b u,h.get? b=some u->h'.get? b=some u)(hp:h.objs.size<=a)(hn:H a=none):Un fs ex H (upd H a o) h h' where
 keep:=λb u q _ _ _=>k b u q
 slot:=λb u q _ _ _=>⟨u.slots,k b u q⟩
 free:=λb u q n _=>by rw[AX (Nat.ne_of_lt (Nat.lt_of_lt_of_le (Heap.lt_size q) hp))];exact n
 there:=λb u q _=>⟨u,k b u q⟩
 tups:=λb xs q=>by rw[AX (AV q hn)];exact q
 frzs:=λb u xs q=>by rw[AX (AV q hn)];exact q
 tbls:=λb ps q=>⟨#[],by rw[AX (AV q hn),q];simp⟩
theorem Un.write (mu:Q9 (H x))(he:e=x\/H e=some (.own x))(k:∀b u,b≠e->h.get? b=some u->h'.get? b=some u)(heo:∃u,h'.get? e=some u):Un fs ex H (upd H x o) h h':=by
 have hx:∀b,H b=none->b≠x:=λb n z=>by subst z;rw[n]at mu;exact mu
 have hb:∀b,H b=none->b≠e:=λb n z=>by
  subst z
  rcases he with r|r
  ·exact hx b n r
  ·rw[n]at r;cases r
 have hm:∀b u,H b=some u->¬Q9 (some u)->b≠x:=λb u q nm z=>by subst z;rw[q]at mu;exact nm mu
 refine⟨λb u q n _ _=>k b u (hb b n) q,λb u q n _ _=>⟨u.slots,k b u (hb b n) q⟩,λb u q n _=>by rw[AX (hx b n)];exact n,λb u q _=>?_,
  λb xs q=>by rw[AX (hm b _ q λz=>z)];exact q,λb u xs q=>by rw[AX (hm b _ q λz=>z)];exact q,λb ps q=>⟨#[],by rw[AX (hm b _ q λz=>z),q];simp⟩⟩
 by_cases hbe:b=e
 ·subst hbe;exact heo
 ·exact⟨u,k b u hbe q⟩
end
def R8 (h:Heap)(H:Hp):List Addr:=(List.range h.objs.size).filter λa=>(H a).isSome
def Hk (h:Heap)(H:Hp):Heap:=PySem.W.hideAll h (R8 h H)
theorem Lj (h:Heap)(H:Hp):(Hk h H).objs.size=h.objs.size:=PySem.W.hideAll_size _ _
theorem Mn {h:Heap}{H:Hp}{b:Addr}{o:Obj}(e:h.get? b=some o)(n:H b=none):(Hk h H).get? b=some o:=
 PySem.W.hideAll_get _ e λhm=>by
  have q:(H b).isSome=true:=(List.mem_filter.mp hm).2
  rw[n]at q;simp at q
theorem OM {h:Heap}{H:Hp}{b:Addr}{o:Obj}(e:(Hk h H).get? b=some o):h.get? b=some o/\H b=none:=by
 have e':h.get? b=some o:=PySem.W.of_hideAll (R8 h H) e
 refine⟨e',?_⟩
 cases q:H b with
 |none=>rfl
 |some x=>
  have hm:b∈R8 h H:=List.mem_filter.mpr ⟨List.mem_range.mpr (Heap.lt_size e'),by simp[q]⟩
  have z:(Hk h H).get? b=none:=PySem.W.hideAll_none (R8 h H) hm
  rw[z]at e;cases e
end L2
namespace L2
open PySem PySem.Spec PyProof.Rows
structure Mod (K:PySem.W.Frag)(mg:Str->Option Value)(base:Heap):Prop where
 kin:K.In base
 glob:base.Ns mainGlobals mg
 blt:∃mb,base.Ns builtinsNs mb/\∀x:Str,x≠"__name__"->mb x=bootBuiltins x
 nolimit:base.NoLimit
structure Cx where
 prog:Program
 w:World
 K:PySem.W.Frag
 mg:Str->Option Value
 base:Heap
 A:Around
 N:List Str
 s₀:Shared
 H₀:Hp
 env:Env
 outer:List Env
 stack:List Env
 ex:List Addr
 fn:Str->Bool
 calm:Bool
 pn:List (Addr×Obj)
 xe:Value->Shared->Prop
def EH (l:List Env):List Addr:=l.filterMap (·.frame)
abbrev Cx.fs (X:Cx):List Addr:=EH X.outer
def R9 (sc:Scope)(x:Str):Prop:=sc.names.lookup x=some .local\/sc.names.lookup x=some .cell\/sc.names.lookup x=some .free
def Loc (sc:Scope)(x:Str):Prop:=sc.names.lookup x=some .local\/sc.names.lookup x=some .cell
def Look (env:Env)(h:Heap)(m:Str->Option Value)(x:Str)(u:Value):Prop:=
 (env.kindOf x=some .local/\m x=some u)\/((env.kindOf x=some .cell\/env.kindOf x=some .free)/\∃c,env.cells.lookup x=some c/\h.IsCell c (some u))
structure Cx.Ok (X:Cx):Prop where
 mod:Mod X.K X.mg X.base
 kind:X.env.scope.kind=.function
 glob:X.env.globals=mainGlobals
 blt:X.env.builtins=builtinsNs
 above:X.s₀.heap.objs.size<=X.env.locals
 inj:∀x y c,X.env.cells.lookup x=some c->X.env.cells.lookup y=some c->x=y
 has:∀x,(X.env.kindOf x=some .cell\/X.env.kindOf x=some .free)->∃c,X.env.cells.lookup x=some c
 cab:∀x c,X.fn x=true->X.env.cells.lookup x=some c->X.s₀.heap.objs.size<=c
 hd:X.calm=true->X.A.handled=none
 frames:X.A.frames=some X.stack
 stk:X.stack=X.outer\/(X.stack=X.env::X.outer/\X.env.frame=some X.env.locals)
 exf:∀b∈X.ex,b≠X.env.locals/\∀x c,X.env.cells.lookup x=some c->c≠b
 bs:∀b o,X.base.get? b=some o->X.s₀.heap.get? b=some o/\X.H₀ b=none
 bsz:X.base.objs.size<=X.s₀.heap.objs.size
 noex:∀b o,X.base.get? b=some o->b∉X.ex
 exfs:∀b∈X.ex,b∉X.fs
 DK:X.s₀.heap.FunFrames X.base X.outer
 frf:∀b∈X.fs,X.H₀ b=none
structure Inv (X:Cx)(pins:List (Addr×Obj))(σ:List (Option V))(H:Hp)(s:Shared):Prop where
 ok:X.Ok
 os:s.os=X.s₀.os
 bare:AllBare s.gens
 base:Un X.fs X.ex X.H₀ H X.s₀.heap s.heap
 loc:∃m,s.heap.Ns X.env.locals m/\∀(i:Nat) (x:Str) (v:V),X.N[i]?=some x->σ[i]?=some (some v)->R9 X.env.scope x->∃u,RelV v u/\Look X.env s.heap m x u
 cell:∀x c,X.env.cells.lookup x=some c->∃v,s.heap.IsCell c v
 free:H X.env.locals=none
 freeC:∀x c,X.env.cells.lookup x=some c->H c=none
 pin:∀p∈X.pn++pins,s.heap.get? p.1=some p.2/\H p.1=none/\p.1≠X.env.locals/\p.1∉X.fs/\∀v,p.2.data≠.cell v
 hok:DJ X.prog X.w H s.heap
 len:σ.length=X.N.length
section
variable {X:Cx}{pins:List (Addr×Obj)}{σ:List (Option V)}{H H':Hp}{s:Shared}{h':Heap}
theorem Cx.Ok.SO (ok:X.Ok){b:Addr}{o:Obj}(e:X.base.get? b=some o):b∉X.fs:=λhb=>by
 have:=(ok.DK.mem hb).1
 rw[e]at this;cases this
theorem Inv.bs (I:Inv X pins σ H s):∀b o,X.base.get? b=some o->s.heap.get? b=some o/\H b=none:=λb o e=>
 ⟨I.base.keep b o (I.ok.bs b o e).1 (I.ok.bs b o e).2 (I.ok.SO e) (I.ok.noex b o e),I.base.free b o (I.ok.bs b o e).1 (I.ok.bs b o e).2 (I.ok.noex b o e)⟩
theorem Inv.bk (I:Inv X pins σ H s):∀b o,X.base.get? b=some o->s.heap.get? b=some o:=λb o e=>(I.bs b o e).1
theorem Inv.mod (I:Inv X pins σ H s):Mod X.K X.mg X.base:=I.ok.mod
theorem Inv.FA (I:Inv X pins σ H s):X.K.In s.heap:=I.ok.mod.kin.keeps I.bk
theorem Inv.fr (I:Inv X pins σ H s):∃m,Fr X.base X.env.locals s.heap m:=
 let⟨m,hn,_⟩:=I.loc
 ⟨m,hn,I.bk,Nat.le_trans I.ok.bsz I.ok.above⟩
theorem Inv.lt (I:Inv X pins σ H s):X.env.locals < s.heap.objs.size:=let⟨_,hn,_⟩:=I.loc;hn.lt
theorem Inv.sz (I:Inv X pins σ H s):X.s₀.heap.objs.size<=s.heap.objs.size:=Nat.le_trans I.ok.above (Nat.le_of_lt I.lt)
theorem Inv.SQ (I:Inv X pins σ H s){a:Addr}(h:s.heap.objs.size<=a):a∉X.fs:=λhb=>by
 obtain⟨_,o,ho,_⟩:=I.ok.DK.mem hb
 exact absurd (Nat.lt_of_lt_of_le (Heap.lt_size ho) (Nat.le_trans I.sz h)) (Nat.lt_irrefl _)
theorem Inv.ON (I:Inv X pins σ H s):∀x c,X.env.cells.lookup x=some c->c≠X.env.locals:=λx c e z=>by
 obtain⟨v,o,ho,hd⟩:=I.cell x c e
 obtain⟨m,⟨o',es,ep,ho',hd',_⟩,_⟩:=I.loc
 rw[z,ho']at ho;cases ho;rw[hd']at hd;cases hd
theorem Inv.DK (I:Inv X pins σ H s):s.heap.FunFrames X.base X.outer:=by
 have all:∀(l:List Env),(∀b∈EH l,b∈X.fs)->X.s₀.heap.FunFrames X.base l->s.heap.FunFrames X.base l:=by
  intro l
  induction l with
  |nil=>intro _ _;trivial
  |cons env r ih=>
   intro hs hl
   obtain⟨hk,⟨L,o,hf,hn,ho,hd⟩,hr⟩:=hl
   have hL:L∈X.fs:=hs L (by unfold EH;rw[List.filterMap_cons,hf];exact List.mem_cons_self)
   obtain⟨sl,e⟩:=I.base.slot L o ho (I.ok.frf L hL) hL λz=>I.ok.exfs L z hL
   exact⟨hk,⟨L,_,hf,hn,e,hd⟩,ih (λb hb=>hs b (by unfold EH;rw[List.filterMap_cons,hf];exact List.mem_cons_of_mem _ hb)) hr⟩
 exact all X.outer (λ_ hb=>hb) I.ok.DK
theorem Inv.stack (I:Inv X pins σ H s):s.heap.FunFrames X.base X.stack:=by
 rcases I.ok.stk with e|⟨e,hf⟩
 ·rw[e];exact I.DK
 ·rw[e]
  obtain⟨m,hn,_⟩:=I.loc
  refine .cons (by rw[I.ok.kind];decide) hf hn ?_ I.DK
  exact Heap.get?_none_of_le (Nat.le_trans I.ok.bsz I.ok.above)
theorem Inv.FX (I:Inv X pins σ H s):∀b∈EH X.stack,b∈X.env.locals::X.fs:=λb hb=>by
 rcases I.ok.stk with e|⟨e,hf⟩
 ·rw[e]at hb;exact List.mem_cons_of_mem _ hb
 ·rw[e]at hb
  unfold EH at hb
  rw[List.filterMap_cons,hf]at hb
  exact hb
theorem Inv.Hl (I:Inv X pins σ H s):∀b∈EH X.stack,H b=none:=λb hb=>by
 rcases List.mem_cons.mp (I.FX b hb)with e|hb
 ·rw[e];exact I.free
 ·obtain⟨_,o,ho,_⟩:=I.ok.DK.mem hb
  exact I.base.free b o ho (I.ok.frf b hb) λz=>I.ok.exfs b z hb
theorem Inv.step {g':Array GenState}{t':Nat}{d':Drawn}{ch:List Addr}(I:Inv X pins σ H s)
 (hch:∀b∈ch,(b∈X.ex\/X.s₀.heap.objs.size<=b)/\b≠X.env.locals/\(∀x c,X.env.cells.lookup x=some c->c≠b)/\∀p∈X.pn++pins,p.1≠b)
 (keep:∀b o,b≠X.env.locals->b∉X.fs->b∉ch->s.heap.get? b=some o->H b=none->h'.get? b=some o)
 (slot:∀b o,b≠X.env.locals->b∈X.fs->b∉ch->s.heap.get? b=some o->H b=none->∃sl,h'.get? b=some { o with slots:=sl })(free:∀b o,b∉ch->s.heap.get? b=some o->H b=none->H' b=none)
 (there:∀b o,b∉ch->s.heap.get? b=some o->∃o',h'.get? b=some o')
 (tups:∀b xs,H b=some (.tup xs)->H' b=some (.tup xs))(frzs:∀b o u,H b=some (.frz o u)->H' b=some (.frz o u))(tbls:∀b ps,H b=some (.tbl ps)->∃more,H' b=some (.tbl (ps++more)))
 (ns:∀m,s.heap.Ns X.env.locals m->h'.Ns X.env.locals m)(hok:DJ X.prog X.w H' h')(hg:AllBare g'):
 Inv X pins σ H' { s with heap:=h',gens:=g',drawn:=d',toks:=t' }:=by
 have neL:∀b o,X.s₀.heap.get? b=some o->b≠X.env.locals:=λb o e=>Nat.ne_of_lt (Nat.lt_of_lt_of_le (Heap.lt_size e) I.ok.above)
 have neC:∀b o,X.s₀.heap.get? b=some o->b∉X.ex->b∉ch:=λb o e hx hb=>by
  rcases(hch b hb).1 with z|z
  ·exact hx z
  ·exact absurd (Nat.lt_of_lt_of_le (Heap.lt_size e) z) (Nat.lt_irrefl _)
 have cellK:∀x c,X.env.cells.lookup x=some c->∀v,s.heap.IsCell c v->h'.IsCell c v:=λx c e v ⟨o,ho,hd⟩=>by
  have nch:c∉ch:=λz=>(hch c z).2.2.1 x c e rfl
  by_cases hc:c∈X.fs
  ·obtain⟨sl,q⟩:=slot c o (I.ON x c e) hc nch ho (I.freeC x c e)
   exact⟨_,q,hd⟩
  ·exact⟨o,keep c o (I.ON x c e) hc nch ho (I.freeC x c e),hd⟩
 refine⟨I.ok,I.os,hg,⟨λb o e n hb hx=>?_,λb o e n hb hx=>?_,λb o e n hx=>?_,λb o e hx=>?_,λb xs e=>tups b xs (I.base.tups b xs e),λb o xs e=>frzs b o xs (I.base.frzs b o xs e),λb ps e=>?_⟩,?_,λx c e=>?_,?_,λx c e=>?_,λp hp=>?_,hok,I.len⟩
 ·exact keep b o (neL b o e) hb (neC b o e hx) (I.base.keep b o e n hb hx) (I.base.free b o e n hx)
 ·obtain⟨sl,e1⟩:=I.base.slot b o e n hb hx
  obtain⟨sl',e2⟩:=slot b _ (neL b o e) hb (neC b o e hx) e1 (I.base.free b o e n hx)
  exact⟨sl',e2⟩
 ·obtain⟨o',e1⟩:=I.base.there b o e hx
  exact free b o' (neC b o e hx) e1 (I.base.free b o e n hx)
 ·obtain⟨o',e1⟩:=I.base.there b o e hx
  exact there b o' (neC b o e hx) e1
 ·obtain⟨m1,e1⟩:=I.base.tbls b ps e
  obtain⟨m2,e2⟩:=tbls b _ e1
  exact⟨m1++m2,by rw[e2,Array.append_assoc]⟩
 ·obtain⟨m,hn,hl⟩:=I.loc
  refine⟨m,ns m hn,λi x v e1 e2 e3=>?_⟩
  obtain⟨u,r,l⟩:=hl i x v e1 e2 e3
  refine⟨u,r,?_⟩
  rcases l with l|⟨k,c,e,z⟩
  ·exact .inl l
  ·exact .inr ⟨k,c,e,cellK x c e _ z⟩
 ·obtain⟨v,z⟩:=I.cell x c e
  exact⟨v,cellK x c e v z⟩
 ·obtain⟨m,⟨o,_,_,ho,_⟩,_⟩:=I.loc
  exact free _ o (λz=>(hch _ z).2.1 rfl) ho I.free
 ·obtain⟨v,o,ho,hd⟩:=I.cell x c e
  exact free c o (λz=>(hch c z).2.2.1 x c e rfl) ho (I.freeC x c e)
 ·obtain⟨e,n,ne,nf,d⟩:=I.pin p hp
  have nch:p.1∉ch:=λz=>(hch p.1 z).2.2.2 p hp rfl
  exact⟨keep p.1 p.2 ne nf nch e n,free p.1 p.2 nch e n,ne,nf,d⟩
theorem Inv.un {t':Nat}(I:Inv X pins σ H s)(u:Un X.fs [] H H' s.heap h')(hok:DJ X.prog X.w H' h'):Inv X pins σ H' { s with heap:=h',toks:=t' }:=by
 obtain⟨m,⟨o,es,ep,ho,r⟩,_⟩:=id I.loc
 obtain⟨sl,hL⟩:=u.any ho I.free (by simp)
 exact I.step (g':=s.gens) (d':=s.drawn) (ch:=[]) (λ_ z=>nomatch z) (λb o _ hb _ e n=>u.keep b o e n hb (by simp)) (λb o _ hb _ e n=>u.slot b o e n hb (by simp)) (λb o _ e n=>u.free b o e n (by simp)) (λb o _ e=>u.there b o e (by simp)) u.tups u.frzs u.tbls (λm' hm=>by
  obtain⟨o',es',ep',ho',r'⟩:=hm
  rw[ho]at ho';cases ho'
  exact⟨_,es',ep',hL,r'⟩) hok I.bare
theorem Inv.call {g':Array GenState}{t':Nat}{d':Drawn}{ch:List Addr}(I:Inv X pins σ H s)(u:Un (EH X.stack) ch H H' s.heap h')(hok:DJ X.prog X.w H' h')(hg:AllBare g')
 (hch:∀b∈ch,(b∈X.ex\/X.s₀.heap.objs.size<=b)/\b≠X.env.locals/\(∀x c,X.env.cells.lookup x=some c->c≠b)/\∀p∈X.pn++pins,p.1≠b):
 Inv X pins σ H' { s with heap:=h',gens:=g',drawn:=d',toks:=t' }:=by
 obtain⟨m,⟨o,es,ep,ho,r⟩,_⟩:=id I.loc
 obtain⟨sl,hL⟩:=u.any ho I.free λz=>(hch _ z).2.1 rfl
 exact I.step (ch:=ch) hch (λb o hL hb hc e n=>u.keep b o e n (λz=>(List.mem_cons.mp (I.FX b z)).elim hL hb) hc) (λb o _ _ hc e n=>u.any e n hc) (λb o hc e n=>u.free b o e n hc) (λb o hc e=>u.there b o e hc) u.tups u.frzs u.tbls (λm' hm=>by
  obtain⟨o',es',ep',ho',r'⟩:=hm
  rw[ho]at ho';cases ho'
  exact⟨_,es',ep',hL,r'⟩) hok hg
theorem Inv.turned {t':Nat}{it:Addr}(I:Inv X pins σ H s)(k:∀b o,b≠it->s.heap.get? b=some o->h'.get? b=some o)(hn:H it=none)(hL:it≠X.env.locals)
 (h1:it∈X.ex\/X.s₀.heap.objs.size<=it)(h2:∀x c,X.env.cells.lookup x=some c->c≠it)(h3:∀p∈X.pn++pins,p.1≠it):Inv X pins σ H { s with heap:=h',toks:=t' }:=by
 have nit:∀b u,H b=some u->b≠it:=λb u e z=>by rw[z,hn]at e;cases e
 refine I.step (g':=s.gens) (d':=s.drawn) (ch:=[it]) (λb hb=>?_) (λb o _ _ hc e _=>k b o (λz=>hc (by simp[z])) e) (λb o _ _ hc e _=>⟨o.slots,k b o (λz=>hc (by simp[z])) e⟩) (λ_ _ _ _ n=>n)
  (λb o hc e=>⟨o,k b o (λz=>hc (by simp[z])) e⟩) (λ_ _ e=>e) (λ_ _ _ e=>e) (λb ps e=>⟨#[],by rw[e];simp⟩) (λm hm=>?_) (λb u e=>?_) I.bare
 ·have e:b=it:=by simpa using hb
  subst e
  exact⟨h1,hL,h2,h3⟩
 ·obtain⟨o,es,ep,ho,r⟩:=hm
  exact⟨o,es,ep,k _ o (Ne.symm hL) ho,r⟩
 ·refine(I.hok b u e).D7 (λc v hc q=>k c v ?_ q) (λ_ q=>q) λ_ _ q=>q
  rcases hc with z|z
  ·rw[z];exact nit b u e
  ·exact nit c _ z
theorem Inv.tok (I:Inv X pins σ H s)(t:Nat):Inv X pins σ H { s with toks:=t }:=I.un (h':=s.heap) (t':=t) Un.refl I.hok
theorem Inv.kept {t':Nat}(I:Inv X pins σ H s)(k:∀b u,s.heap.get? b=some u->h'.get? b=some u):Inv X pins σ H { s with heap:=h',toks:=t' }:=I.un (Un.kept k) (I.hok.kept k)
theorem Inv.laid {a:Addr}{o:HO}{t':Nat}(I:Inv X pins σ H s)(k:∀b u,s.heap.get? b=some u->h'.get? b=some u)(hp:s.heap.objs.size<=a)(new:A0 X.prog X.w (upd H a o) h' a o):
 Inv X pins σ (upd H a o) { s with heap:=h',toks:=t' }:=I.un (Un.laid k hp (I.hok.fresh hp)) (I.hok.laid k hp new)
theorem Inv.write {x e:Addr}{o:HO}{t':Nat}(I:Inv X pins σ H s)(mu:Q9 (H x))(he:e=x\/H e=some (.own x))(k:∀b u,b≠e->s.heap.get? b=some u->h'.get? b=some u)(heo:∃u,h'.get? e=some u)
 (new:A0 X.prog X.w (upd H x o) h' x o):Inv X pins σ (upd H x o) { s with heap:=h',toks:=t' }:=I.un (Un.write mu he k heo) (I.hok.write mu he k heo new)
theorem Inv.weak {σ':List (Option V)}(I:Inv X pins σ H s)(hl:σ'.length=σ.length)(w:∀(i:Nat) v,σ'[i]?=some (some v)->σ[i]?=some (some v)):Inv X pins σ' H s:=
 ⟨I.ok,I.os,I.bare,I.base,let⟨m,hn,hl'⟩:=I.loc;⟨m,hn,λi x v e1 e2 e3=>hl' i x v e1 (w i v e2) e3⟩,I.cell,I.free,I.freeC,I.pin,I.hok,hl.trans I.len⟩
theorem Inv.Kt {pins':List (Addr×Obj)}(I:Inv X pins σ H s)(h:∀p∈pins',s.heap.get? p.1=some p.2/\H p.1=none/\p.1≠X.env.locals/\p.1∉X.fs/\∀v,p.2.data≠.cell v):Inv X pins' σ H s:=
 ⟨I.ok,I.os,I.bare,I.base,I.loc,I.cell,I.free,I.freeC,λp hp=>(List.mem_append.mp hp).elim (λz=>I.pin p (List.mem_append_left _ z)) (h p),I.hok,I.len⟩
theorem FY {N:List Str}(hN:N.Nodup){i j:Nat}{x:Str}(a:N[i]?=some x)(b:N[j]?=some x):i=j:=by
 obtain⟨h1,e1⟩:=List.getElem?_eq_some_iff.mp a
 obtain⟨h2,e2⟩:=List.getElem?_eq_some_iff.mp b
 exact(List.getElem_inj hN).mp (e1.trans e2.symm)
theorem Gk {M:Model}{A:Around}{E:Value->Shared->Prop}{i:Nat}{x:Str}{v:V}{u:Value}{Q:Unit->Shared->Prop}(I:Inv X pins σ H s)(hN:X.N.Nodup)(hi:X.N[i]?=some x)(hx:Loc X.env.scope x)(r:RelV v u)
 (h:∀s',Inv X pins (σ.set i (some v)) H s'->(∃a,Heap.SameBut a s.heap s'.heap/\(a=X.env.locals\/X.env.cells.lookup x=some a))->Q () s')(hf:X.fn x=true\/X.env.scope.names.lookup x=some .local:=by first|exact .inl rfl|exact .inr rfl|assumption):wpAny M A (storeName X.env x u) Q E s:=by
 obtain⟨m,hn,hl⟩:=id I.loc
 have hcls:(X.env.scope.kind==.class||(X.env.scope.kind==.module&&X.env.locals !=X.env.globals))=false:=by rw[I.ok.kind];rfl
 have hiσ:i < σ.length:=by rw[I.len];exact(List.getElem?_eq_some_iff.mp hi).1
 have ON:=I.ON
 have tracked:∀{a:Addr} {h':Heap},(∃o,s.heap.get? a=some o/\H a=none)->Heap.SameBut a s.heap h'->DJ X.prog X.w H h':=λ{a h'} ha hs b ob e=>by
  obtain⟨_,_,hfree⟩:=ha
  refine(I.hok b ob e).D7 (λc w' hc q=>(hs.2 c ?_).trans q) (λ_ q=>q) λ_ _ q=>q
  rintro rfl
  rcases hc with rfl|hc
  ·rw[hfree]at e;cases e
  ·rw[hfree]at hc;cases hc
 rcases hx with hk|hk
 ·refine wpAny_storeName_local hk hn (λh' hn' hs=>?_) hcls
  obtain⟨oL,_,_,hoL,_⟩:=id hn
  refine h _ ⟨I.ok,I.os,I.bare,⟨λb o e n hb hx=>?_,λb o e n hb hx=>?_,I.base.free,λb o e hx=>?_,I.base.tups,I.base.frzs,I.base.tbls⟩,⟨_,hn',λj y v' e1 e2 e3=>?_⟩,λy c e=>?_,I.free,I.freeC,λp hp=>?_,tracked ⟨oL,hoL,I.free⟩ hs,by simpa using I.len⟩ ⟨_,hs,.inl rfl⟩
  ·exact(hs.2 b (Nat.ne_of_lt (Nat.lt_of_lt_of_le (Heap.lt_size e) I.ok.above))).trans (I.base.keep b o e n hb hx)
  ·obtain⟨sl,e1⟩:=I.base.slot b o e n hb hx
   exact⟨sl,(hs.2 b (Nat.ne_of_lt (Nat.lt_of_lt_of_le (Heap.lt_size e) I.ok.above))).trans e1⟩
  ·obtain⟨o',e1⟩:=I.base.there b o e hx
   exact⟨o',(hs.2 b (Nat.ne_of_lt (Nat.lt_of_lt_of_le (Heap.lt_size e) I.ok.above))).trans e1⟩
  ·by_cases hj:j=i
   ·subst hj
    rw[hi]at e1;cases e1
    rw[List.getElem?_set_self hiσ]at e2
    cases e2
    exact⟨u,r,.inl ⟨hk,by simp⟩⟩
   ·rw[List.getElem?_set_ne (Ne.symm hj)]at e2
    obtain⟨u',r',q⟩:=hl j y v' e1 e2 e3
    refine⟨u',r',?_⟩
    rcases q with⟨k,e⟩|⟨k,c,e,z⟩
    ·refine .inl ⟨k,?_⟩
     have:y≠x:=λe=>hj (FY hN e1 (e▸hi))
     simp[this,e]
    ·exact .inr ⟨k,c,e,z.sameBut hs (ON y c e)⟩
  ·obtain⟨w',z⟩:=I.cell y c e
   exact⟨w',z.sameBut hs (ON y c e)⟩
  ·obtain⟨e,n,ne,nf,d⟩:=I.pin p hp
   exact⟨(hs.2 p.1 ne).trans e,n,ne,nf,d⟩
 ·have hfn:X.fn x=true:=by
   rcases hf with z|z
   ·exact z
   ·rw[z]at hk;cases hk
  obtain⟨c,hc⟩:=I.ok.has x (.inl hk)
  obtain⟨w',z⟩:=I.cell x c hc
  refine wpAny_storeName_cell I.ok.kind hk hc z (λh' hc' hs=>?_)
  obtain⟨oc,hoc,hocd⟩:=id z
  refine h { s with heap:=h' } ⟨I.ok,I.os,I.bare,⟨λb o e n hb hx=>?_,λb o e n hb hx=>?_,I.base.free,λb o e hx=>?_,I.base.tups,I.base.frzs,I.base.tbls⟩,⟨m,hn.sameBut hs (Ne.symm (ON x c hc)),λj y v' e1 e2 e3=>?_⟩,λy c' e=>?_,I.free,I.freeC,λp hp=>?_,tracked ⟨oc,hoc,I.freeC x c hc⟩ hs,by simpa using I.len⟩ ⟨c,hs,.inr hc⟩
  ·exact(hs.2 b (Nat.ne_of_lt (Nat.lt_of_lt_of_le (Heap.lt_size e) (I.ok.cab x c hfn hc)))).trans (I.base.keep b o e n hb hx)
  ·obtain⟨sl,e1⟩:=I.base.slot b o e n hb hx
   exact⟨sl,(hs.2 b (Nat.ne_of_lt (Nat.lt_of_lt_of_le (Heap.lt_size e) (I.ok.cab x c hfn hc)))).trans e1⟩
  ·obtain⟨o',e1⟩:=I.base.there b o e hx
   exact⟨o',(hs.2 b (Nat.ne_of_lt (Nat.lt_of_lt_of_le (Heap.lt_size e) (I.ok.cab x c hfn hc)))).trans e1⟩
  ·by_cases hj:j=i
   ·subst hj
    rw[hi]at e1;cases e1
    rw[List.getElem?_set_self hiσ]at e2
    cases e2
    exact⟨u,r,.inr ⟨.inl hk,c,hc,hc'⟩⟩
   ·rw[List.getElem?_set_ne (Ne.symm hj)]at e2
    obtain⟨u',r',q⟩:=hl j y v' e1 e2 e3
    refine⟨u',r',?_⟩
    rcases q with q|⟨k,c',e,z'⟩
    ·exact .inl q
    ·refine .inr ⟨k,c',e,z'.sameBut hs ?_⟩
     rintro rfl
     exact hj (FY hN e1 (I.ok.inj _ _ _ e hc▸hi))
  ·by_cases hcc:c'=c
   ·subst hcc;exact⟨_,hc'⟩
   ·obtain⟨w2,z2⟩:=I.cell y c' e
    exact⟨w2,z2.sameBut hs hcc⟩
  ·obtain⟨e,n,ne,nf,d⟩:=I.pin p hp
   refine⟨(hs.2 p.1 ?_).trans e,n,ne,nf,d⟩
   intro q
   rw[q,hoc]at e
   have q':oc=p.2:=Option.some.inj e
   exact d w' (by rw[<-q'];exact hocd)
theorem FZ {M:Model}{A:Around}{E:Value->Shared->Prop}{i:Nat}{x:Str}{v:V}{u:Value}{Q:Unit->Shared->Prop}(I:Inv X pins σ H s)(hN:X.N.Nodup)(hi:X.N[i]?=some x)(hx:Loc X.env.scope x)(r:RelV v u)
 (h:∀s',Inv X pins (σ.set i (some v)) H s'->Q () s')(hf:X.fn x=true\/X.env.scope.names.lookup x=some .local:=by first|exact .inl rfl|exact .inr rfl|assumption):wpAny M A (storeName X.env x u) Q E s:=
 Gk I hN hi hx r (λs' I' _=>h s' I') hf
theorem Inv.PY {s':Shared}{ch:List Addr}(I:Inv X pins σ H s)(ho:s'.os=s.os)(u:Un (EH X.stack) ch H H' s.heap s'.heap)(hok:DJ X.prog X.w H' s'.heap)(hg:AllBare s'.gens)
 (hch:∀b∈ch,(b∈X.ex\/X.s₀.heap.objs.size<=b)/\b≠X.env.locals/\(∀x c,X.env.cells.lookup x=some c->c≠b)/\∀p∈X.pn++pins,p.1≠b):Inv X pins σ H' s':=by
 obtain⟨h',g',d',t',o'⟩:=s'
 have e:o'=s.os:=ho
 subst e
 exact I.call (g':=g') (t':=t') (d':=d') u hok hg hch
end
abbrev XK:=Value->Option Addr->Hp->Prop
abbrev St:=List (Option V)
abbrev VK:=V->Hp->Prop
abbrev TE:=St->Hp->VK->Prop
abbrev TT:=St->Hp->(Bool->Hp->Prop)->Prop
abbrev TA:=St->Hp->(List V->Hp->Prop)->Prop
structure Ends where
 nx:St->Hp->Prop
 rt:VK
 bk:St->Hp->Prop:=λ_ _=>False
 ct:St->Hp->Prop:=λ_ _=>False
abbrev TS:=Ends->St->Hp->Prop
def EP (X:Cx)(pins:List (Addr×Obj))(σ:St)(Q:VK)(u:Value)(s':Shared):Prop:=∃v H',Inv X pins σ H' s'/\RelV v u/\Q v H'
def TP (X:Cx)(pins:List (Addr×Obj))(σ:St)(Q:Bool->Hp->Prop)(b:Bool)(s':Shared):Prop:=∃H',Inv X pins σ H' s'/\Q b H'
def AP (X:Cx)(pins:List (Addr×Obj))(σ:St)(Q:List V->Hp->Prop)(us:List Value)(s':Shared):Prop:=∃vs H',Inv X pins σ H' s'/\Vals vs us/\Q vs H'
def SP (X:Cx)(pins:List (Addr×Obj))(D:Ends)(f:Flow)(s':Shared):Prop:=
 match f with
 |.next=>∃σ' H',Inv X pins σ' H' s'/\D.nx σ' H'
 |.brk=>∃σ' H',Inv X pins σ' H' s'/\D.bk σ' H'
 |.cont=>∃σ' H',Inv X pins σ' H' s'/\D.ct σ' H'
 |.ret u=>∃v σ' H',Inv X pins σ' H' s'/\RelV v u/\D.rt v H'
def PE (X:Cx)(e:Expr)(t:TE):Prop:=
 ∀(pins:List (Addr×Obj)) (s:Shared) (σ:St) (H:Hp) (Q:VK),Inv X pins σ H s->t σ H Q->wpAny (model X.prog X.w) X.A (eval e X.env) (EP X pins σ Q) X.xe s
def PT (X:Cx)(e:Expr)(t:TT):Prop:=
 ∀(pins:List (Addr×Obj)) (s:Shared) (σ:St) (H:Hp) (Q:Bool->Hp->Prop),Inv X pins σ H s->t σ H Q->wpAny (model X.prog X.w) X.A (isTrue e X.env (eval e X.env)) (TP X pins σ Q) X.xe s
def PW (X:Cx)(e:Expr)(t:TT):Prop:=
 ∀(whole:Sem Value) (pins:List (Addr×Obj)) (s:Shared) (σ:St) (H:Hp) (Q:Bool->Hp->Prop),Inv X pins σ H s->t σ H Q->wpAny (model X.prog X.w) X.A (isTrue e X.env whole) (TP X pins σ Q) X.xe s
theorem PW.pt {X:Cx}{e:Expr}{t:TT}(h:PW X e t):PT X e t:=h _
def PA (X:Cx)(es:List Expr)(t:TA):Prop:=
 ∀(pos:Pos) (pins:List (Addr×Obj)) (s:Shared) (σ:St) (H:Hp) (Q:List V->Hp->Prop),Inv X pins σ H s->t σ H Q->wpAny (model X.prog X.w) X.A (spliced (backTo pos (starEach es X.env))) (AP X pins σ Q) X.xe s
def PS (X:Cx)(st:Stmt)(t:TS):Prop:=
 ∀(pins:List (Addr×Obj)) (s:Shared) (σ:St) (H:Hp) (D:Ends),Inv X pins σ H s->t D σ H->wpAny (model X.prog X.w) X.A (exec st X.env) (SP X pins D) X.xe s
def Fb (X:Cx)(st:List Stmt)(t:TS):Prop:=
 ∀(pins:List (Addr×Obj)) (s:Shared) (σ:St) (H:Hp) (D:Ends),Inv X pins σ H s->t D σ H->wpAny (model X.prog X.w) X.A (execs st X.env) (SP X pins D) X.xe s
theorem BH {α:Type}{t:Sem α}{Q Q':α->Shared->Prop}{M:Model}{A:Around}{E:Value->Shared->Prop}{s:Shared}(h:wpAny M A t Q E s)(hQ:∀a s,Q a s->Q' a s):wpAny M A t Q' E s:=wpAny_mono h hQ λ_ _ x=>x
end L2
namespace L2
open PySem PySem.Spec PyProof.Rows
section
variable {X:Cx}
def RA (i:Nat):TE:=λσ H Q=>∃v,σ[i]?=some (some v)/\Q v H
def tC (v:V):TE:=λ_ H Q=>Q v H
theorem Pz {i:Nat}{x:Str}{pos:Pos}(hN:X.N[i]?=some x)(hv:R9 X.env.scope x)(hd:(x==("__debug__":Str))=false:=by decide)(hcd:(x==("__classdict__":Str))=false:=by decide):PE X (.Name x pos) (RA i):=by
 intro pins s σ H Q I h
 obtain⟨v,e,h⟩:=h
 obtain⟨m,hn,hl⟩:=I.loc
 obtain⟨u,r,l⟩:=hl i x v hN e hv
 have fin:EP X pins σ Q u s:=⟨v,H,I,r,h⟩
 rcases l with⟨hk,hm⟩|⟨hk,c,hc,hcell⟩
 ·exact wpAny_Name (wpAny_loadName_local I.ok.kind hk hn hm fin) hd
 ·rcases hk with hk|hk
  ·exact wpAny_Name (wpAny_loadName_cell I.ok.kind hk hc hcell fin) hd
  ·exact wpAny_Name (wpAny_loadName_free I.ok.kind hk hc hcell fin hcd) hd
theorem AF {i j pos}:PE X (.Constant (.int i) j pos) (tC (.int i)):=λ_ _ _ H _ I h=>wpAny_Constant_int ⟨.int i,H,I.tok _,⟨_,rfl⟩,h⟩
theorem BQ {b j pos}:PE X (.Constant (.bool b) j pos) (tC (.bl b)):=λ_ _ _ H _ I h=>Constant_bool ⟨.bl b,H,I,rfl,h⟩
theorem Cc {j pos}:PE X (.Constant .none j pos) (tC .non):=λ_ _ _ H _ I h=>Constant_none ⟨.non,H,I,rfl,h⟩
theorem AS {x j pos}:PE X (.Constant (.str x) j pos) (tC (.str x)):=λ_ _ _ H _ I h=>Calls.Constant_str ⟨.str x,H,I.tok _,⟨_,rfl⟩,h⟩
def Gl (X:Cx)(x:Str):Prop:=X.env.kindOf x=some .globalImplicit
theorem C3 {E:Value->Shared->Prop}{pins:List (Addr×Obj)}{s:Shared}{σ:St}{H:Hp}{x:Str}{u:Value}{pos:Pos}{Q:Value->Shared->Prop}(I:Inv X pins σ H s)(hg:Gl X x)(hm:X.mg x=some u)(h:Q u s)
 (hd:(x==("__debug__":Str))=false:=by decide):wpAny (model X.prog X.w) X.A (eval (.Name x pos) X.env) Q E s:=
 Calls.Name_function_global I.ok.kind hg (Calls.loadGlobal_global (by rw[I.ok.glob];exact I.mod.glob.keeps I.bk) hm h) hd
theorem C4 {E:Value->Shared->Prop}{pins:List (Addr×Obj)}{s:Shared}{σ:St}{H:Hp}{x:Str}{u:Value}{pos:Pos}{Q:Value->Shared->Prop}(I:Inv X pins σ H s)(hg:Gl X x)(hm:X.mg x=none)(hv:bootBuiltins x=some u)(h:Q u s)
 (hn:x≠"__name__":=by decide)(hd:(x==("__debug__":Str))=false:=by decide):wpAny (model X.prog X.w) X.A (eval (.Name x pos) X.env) Q E s:=by
 obtain⟨mb,h1,h2⟩:=I.mod.blt
 exact Calls.Name_function_global I.ok.kind hg (Calls.loadGlobal_builtin (by rw[I.ok.glob];exact I.mod.glob.keeps I.bk) hm (by rw[I.ok.blt];exact h1.keeps I.bk) ((h2 x hn).trans hv) h) hd
theorem Ac {x:Str}{v:V}{u:Value}{pos:Pos}(hg:Gl X x)(hm:X.mg x=some u)(r:RelV v u)(hd:(x==("__debug__":Str))=false:=by decide):PE X (.Name x pos) (tC v):=
 λ_ _ _ H _ I h=>C3 I hg hm ⟨v,H,I,r,h⟩ hd
theorem B7 {x:Str}{v:V}{u:Value}{pos:Pos}(hg:Gl X x)(hm:X.mg x=none)(hv:bootBuiltins x=some u)(r:RelV v u)(hn:x≠"__name__":=by decide)(hd:(x==("__debug__":Str))=false:=by decide):PE X (.Name x pos) (tC v):=
 λ_ _ _ H _ I h=>C4 I hg hm hv ⟨v,H,I,r,h⟩ hn hd
variable {a b:Expr}{ta tb:TE}{pos:Pos}
def PC (X:Cx)(op:CmpOp)(a b:Expr)(t:TE):Prop:=
 ∀(pins:List (Addr×Obj)) (s:Shared) (σ:St) (H:Hp) (Q:VK),Inv X pins σ H s->t σ H Q->
  wpAny (model X.prog X.w) X.A (eval a X.env) (λv s₁=>wpAny (model X.prog X.w) X.A (eval b X.env) (λu s₂=>wpAny (model X.prog X.w) X.A (compareOp op v u) (EP X pins σ Q) X.xe s₂) X.xe s₁) X.xe s
def tB (t:TE):TT:=λσ H Q=>t σ H λx H1=>∃c,x=.bl c/\Q c H1
theorem P0 {op:CmpOp}{t:TE}(h:PC X op a b t)(h1:behindInMarks op b=false:=by first|exact nobehind _ (by decide) (by decide)|rfl):PT X (.Compare a [op] [b] pos) (tB t):=by
 intro pins s σ H Q I hw
 refine wpAny_isTrue_Compare1 (BH (h pins s σ H _ I hw) λv s1 h1=>BH h1 λu s2 h2=>BH h2 λc s3 ⟨x,H1,I1,r1,q1⟩=>?_) h1
 obtain⟨d,rfl,q⟩:=q1
 cases r1
 exact wpAny_truthy_bool ⟨H1,I1,q⟩
theorem Az {e:Expr}{t:TE}(h:PE X e t)(he:∀whole,isTrue e X.env whole=(do let v<-whole;standAt e.pos;holding [v] (truthy v)):=by intro _;rfl):PT X e (tB t):=by
 intro pins s σ H Q I hw
 refine isTrue_plain (BH (h pins s σ H _ I hw) λv s1 ⟨x,H1,I1,r1,q1⟩=>?_) (he _)
 obtain⟨d,rfl,q⟩:=q1
 cases r1
 exact wpAny_truthy_bool ⟨H1,I1,q⟩
variable {tA tB':TT}{rest:List Expr}
def SR (t u:TT):TT:=λσ H Q=>t σ H λc H1=>if c=true then u σ H1 Q else Q false H1
def TV (t u:TT):TT:=λσ H Q=>t σ H λc H1=>if c=true then Q true H1 else u σ H1 Q
def SS (t:TT):TT:=λσ H Q=>t σ H λc H1=>Q (!c) H1
theorem EI (ha:PT X a tA):PW X (.BoolOp .And [a] pos) tA:=by
 intro wh pins s σ H Q I h
 refine isTrue_and (BH (ha pins s σ H Q I h) λc s1 e=>?_)
 cases c with
 |true=>exact isTrue_and_nil e
 |false=>exact e
theorem CN (ha:PT X a tA):PW X (.BoolOp .Or [a] pos) tA:=by
 intro wh pins s σ H Q I h
 refine isTrue_or (BH (ha pins s σ H Q I h) λc s1 e=>?_)
 cases c with
 |false=>exact isTrue_or_nil e
 |true=>exact e
theorem Ej (ha:PT X a tA)(hb:PW X (.BoolOp .And (b::rest) pos) tB'):PW X (.BoolOp .And (a::b::rest) pos) (SR tA tB'):=by
 intro wh pins s σ H Q I h
 refine isTrue_and (BH (ha pins s σ H _ I h) λc s1 ⟨H1,I1,q1⟩=>?_)
 cases c with
 |true=>exact hb wh pins s1 σ H1 Q I1 q1
 |false=>exact⟨H1,I1,q1⟩
theorem CS (ha:PT X a tA)(hb:PW X (.BoolOp .Or (b::rest) pos) tB'):PW X (.BoolOp .Or (a::b::rest) pos) (TV tA tB'):=by
 intro wh pins s σ H Q I h
 refine isTrue_or (BH (ha pins s σ H _ I h) λc s1 ⟨H1,I1,q1⟩=>?_)
 cases c with
 |true=>exact⟨H1,I1,q1⟩
 |false=>exact hb wh pins s1 σ H1 Q I1 q1
theorem B4 (ha:PT X a tA):PT X (.UnaryOp .Not a pos) (SS tA):=by
 intro pins s σ H Q I h
 exact isTrue_not (ha pins s σ H (λc H1=>Q (!c) H1) I h)
def RB (ta tb:TE):TE:=λσ H Q=>ta σ H λx H1=>∃c,x=.bl c/\if c=true then tb σ H1 Q else Q (.bl false) H1
def SU (ta tb:TE):TE:=λσ H Q=>ta σ H λx H1=>∃c,x=.bl c/\if c=true then Q (.bl true) H1 else tb σ H1 Q
def RC (ta:TE):TE:=λσ H Q=>ta σ H λx H1=>∃c,x=.bl c/\Q (.bl (!c)) H1
theorem Cd {op}{t:TE}(h:PE X a t):PE X (.BoolOp op [a] pos) t:=λpins s σ H Q I hw=>BoolOp_one (h pins s σ H Q I hw)
theorem C5 (ha:PE X a ta)(hb:PE X (.BoolOp .And (b::rest) pos) tb):PE X (.BoolOp .And (a::b::rest) pos) (RB ta tb):=by
 intro pins s σ H Q I h
 refine BoolOp_and (BH (ha pins s σ H _ I h) λv s1 ⟨x,H1,I1,r1,q1⟩=>?_)
 obtain⟨c,rfl,q1⟩:=q1
 cases r1
 refine wpAny_truthy_bool ?_
 cases c with
 |true=>exact hb pins s1 σ H1 Q I1 q1
 |false=>exact⟨.bl false,H1,I1,rfl,q1⟩
theorem PZ (ha:PE X a ta)(hb:PE X (.BoolOp .Or (b::rest) pos) tb):PE X (.BoolOp .Or (a::b::rest) pos) (SU ta tb):=by
 intro pins s σ H Q I h
 refine BoolOp_or (BH (ha pins s σ H _ I h) λv s1 ⟨x,H1,I1,r1,q1⟩=>?_)
 obtain⟨c,rfl,q1⟩:=q1
 cases r1
 refine wpAny_truthy_bool ?_
 cases c with
 |false=>exact hb pins s1 σ H1 Q I1 q1
 |true=>exact⟨.bl true,H1,I1,rfl,q1⟩
theorem P4 (ha:PE X a ta):PE X (.UnaryOp .Not a pos) (RC ta):=by
 intro pins s σ H Q I h
 refine UnaryOp_ (BH (ha pins s σ H _ I h) λv s1 ⟨x,H1,I1,r1,q1⟩=>?_)
 obtain⟨c,rfl,q1⟩:=q1
 cases r1
 exact not_of (wpAny_truthy_bool ⟨.bl (!c),H1,I1,rfl,q1⟩)
def TX (t:TT)(ta tb:TE):TE:=λσ H Q=>t σ H λc H1=>if c=true then ta σ H1 Q else tb σ H1 Q
theorem Aa {c:Expr}(hc:PT X c tA)(ha:PE X a ta)(hb:PE X b tb):PE X (.IfExp c a b pos) (TX tA ta tb):=by
 intro pins s σ H Q I h
 refine wpAny_IfExp (BH (hc pins s σ H _ I h) λd s1 ⟨H1,I1,q1⟩=>?_)
 cases d with
 |true=>exact ha pins s1 σ H1 Q I1 q1
 |false=>exact hb pins s1 σ H1 Q I1 q1
end
end L2
namespace L2
open PySem PySem.Spec PyProof.Rows
def An (K:PySem.W.Frag)(H:Hp)(a:Addr)(xs:List V):Prop:=
 Rd H a (.lst xs)\/
  ∃(o:Obj) (its:Array Value) (n:Nat),K.lookup a=some o/\o.cls=.type "list"/\o.dict=none/\o.data=.seq its n/\its.size<=sizeLine/\Vals xs its.toList
def Ca (K:PySem.W.Frag)(H:Hp)(a:Addr)(xs:List V):Prop:=
 Rd H a (.tup xs)\/
  ∃(o:Obj) (its:Array Value) (n:Nat),K.lookup a=some o/\o.cls=.type "tuple"/\o.data=.seq its n/\its.size<=sizeLine/\Vals xs its.toList
def SV:Value->Option V
 |.none=>some .non
 |.bool b=>some (.bl b)
 |.int i _=>some (.int i)
 |.str x _=>some (.str x)
 |.bytes b _=>some (.byt b)
 |.float b _=>some (.flt b)
 |.ref a=>some (.ref a)
 |.type n=>some (.ty n)
 |_=>none
theorem RelV.abs {x:V}{u:Value}(r:RelV x u):SV u=some x:=by
 cases x with
 |non=>cases r;rfl
 |bl _=>cases r;rfl
 |int _=>obtain⟨t,rfl⟩:=r;rfl
 |str _=>obtain⟨t,rfl⟩:=r;rfl
 |byt _=>obtain⟨t,rfl⟩:=r;rfl
 |flt _=>obtain⟨t,rfl⟩:=r;rfl
 |ref _=>cases r;rfl
 |ty _=>cases r;rfl
theorem RelV.inj {x y:V}{u:Value}(r:RelV x u)(q:RelV y u):x=y:=Option.some.inj (r.abs.symm.trans q.abs)
theorem Vals.inj:∀{xs ys:List V} {us:List Value},Vals xs us->Vals ys us->xs=ys
 |_,_,_,.nil,.nil=>rfl
 |_,_,_,.cons r t,.cons r' t'=>by rw[r.inj r',Vals.inj t t']
section
variable {X:Cx}{pins:List (Addr×Obj)}{σ:St}{H:Hp}{s:Shared}{a:Addr}{xs ys:List V}
theorem An.of {K:PySem.W.Frag}(h:H a=some (.lst xs)):An K H a xs:=.inl (.inl h)
theorem Ca.of {K:PySem.W.Frag}(h:H a=some (.tup xs)):Ca K H a xs:=.inl (.inl h)
theorem Inv.list (I:Inv X pins σ H s)(h:An X.K H a xs):∃its:List Value,Vals xs its/\PlainL s.heap a its.toArray/\xs.length<=sizeLine:=by
 rcases h with h|⟨o,its,n,hk,hc,hd,hs,hz,r⟩
 ·obtain⟨z,its,n,r,e⟩:=h.ok I.hok
  exact⟨its,r,⟨_,n,e,rfl,rfl,rfl⟩,z⟩
 ·refine⟨its.toList,r,⟨o,n,I.FA a o hk,hc,hd,by simpa using hs⟩,?_⟩
  have e:=r.length
  simp only[Array.length_toList]at e
  omega
theorem Inv.tuple (I:Inv X pins σ H s)(h:Ca X.K H a xs):∃its:List Value,Vals xs its/\IsTup s.heap a its.toArray/\xs.length<=sizeLine:=by
 rcases h with h|⟨o,its,n,hk,hc,hs,hz,r⟩
 ·obtain⟨z,its,r,p⟩:=h.ok I.hok
  exact⟨its,r,p,z.1⟩
 ·refine⟨its.toList,r,⟨o,I.FA a o hk,hc,n,by simpa using hs⟩,?_⟩
  have e:=r.length
  simp only[Array.length_toList]at e
  omega
theorem Inv.list_inj (I:Inv X pins σ H s)(h:An X.K H a xs)(h':An X.K H a ys):xs=ys:=by
 obtain⟨its,r,⟨o,n,e,_,_,d⟩,_⟩:=I.list h
 obtain⟨its',r',⟨o',n',e',_,_,d'⟩,_⟩:=I.list h'
 rw[e]at e';cases e'
 rw[d]at d'
 injection d' with d1 _
 have:its=its':=by simpa using congrArg Array.toList d1
 subst this
 exact r.inj r'
theorem Inv.Lk (I:Inv X pins σ H s)(h:Ca X.K H a xs)(h':Ca X.K H a ys):xs=ys:=by
 obtain⟨its,r,⟨o,e,_,n,d⟩,_⟩:=I.tuple h
 obtain⟨its',r',⟨o',e',_,n',d'⟩,_⟩:=I.tuple h'
 rw[e]at e';cases e'
 rw[d]at d'
 injection d' with d1 _
 have:its=its':=by simpa using congrArg Array.toList d1
 subst this
 exact r.inj r'
end
abbrev Cx.GV (X:Cx)(E:Value->Shared->Prop):Cx:={ X with xe:=E }
abbrev Cx.Pa (X:Cx):Cx:=X.GV λ_ _=>False
theorem Cx.Ok.GV {X:Cx}(ok:X.Ok)(E:Value->Shared->Prop):(X.GV E).Ok:=
 ⟨ok.mod,ok.kind,ok.glob,ok.blt,ok.above,ok.inj,ok.has,ok.cab,ok.hd,ok.frames,ok.stk,ok.exf,ok.bs,ok.bsz,ok.noex,ok.exfs,ok.DK,ok.frf⟩
theorem Cx.Ok.DL {X:Cx}{E:Value->Shared->Prop}(ok:(X.GV E).Ok):X.Ok:=
 ⟨ok.mod,ok.kind,ok.glob,ok.blt,ok.above,ok.inj,ok.has,ok.cab,ok.hd,ok.frames,ok.stk,ok.exf,ok.bs,ok.bsz,ok.noex,ok.exfs,ok.DK,ok.frf⟩
section
variable {X:Cx}{pins:List (Addr×Obj)}{σ:St}{H:Hp}{s:Shared}{E:Value->Shared->Prop}
theorem Inv.GV (I:Inv X pins σ H s)(E:Value->Shared->Prop):Inv (X.GV E) pins σ H s:=⟨I.ok.GV E,I.os,I.bare,I.base,I.loc,I.cell,I.free,I.freeC,I.pin,I.hok,I.len⟩
theorem Inv.DL (I:Inv (X.GV E) pins σ H s):Inv X pins σ H s:=⟨I.ok.DL,I.os,I.bare,I.base,I.loc,I.cell,I.free,I.freeC,I.pin,I.hok,I.len⟩
theorem SP.DL {D:Ends}{f:Flow}{s':Shared}(h:SP (X.GV E) pins D f s'):SP X pins D f s':=by
 cases f with
 |next=>obtain⟨σ',H',I,q⟩:=h;exact⟨σ',H',I.DL,q⟩
 |brk=>obtain⟨σ',H',I,q⟩:=h;exact⟨σ',H',I.DL,q⟩
 |cont=>obtain⟨σ',H',I,q⟩:=h;exact⟨σ',H',I.DL,q⟩
 |ret u=>obtain⟨v,σ',H',I,r,q⟩:=h;exact⟨v,σ',H',I.DL,r,q⟩
theorem Fb.Pa {st:List Stmt}{t:TS}(h:Fb X.Pa st t):Fb X st t:=λpins s σ H D I hw=>
 wpAny_mono (h pins s σ H D (I.GV _) hw) (λ_ _ q=>q.DL) λ_ _ z=>False.elim z
end
section
variable {X:Cx}{st:Stmt}{rest:List Stmt}{t u:TS}{e:Expr}{te:TE}{pos:Pos}
def Pb:TS:=λD σ H=>D.nx σ H
def P5 (t u:TS):TS:=λD σ H=>t { D with nx:=u D } σ H
theorem Aq:Fb X [] Pb:=λ_ _ σ H _ I h=>wpAny_execs_nil ⟨σ,H,I,h⟩
theorem AG (h1:PS X st t)(h2:Fb X rest u):Fb X (st::rest) (P5 t u):=by
 intro pins s σ H D I h
 refine wpAny_execs_cons (BH (h1 pins s σ H { D with nx:=u D } I h) λf s1 q=>?_)
 cases f with
 |next=>
  obtain⟨σ',H',I',q⟩:=q
  exact h2 pins s1 σ' H' D I' q
 |ret v=>exact q
 |brk=>exact q
 |cont=>exact q
theorem AE (h1:PS X st t):Fb X [st] t:=by
 intro pins s σ H D I h
 refine wpAny_execs_cons (BH (h1 pins s σ H D I h) λf s1 q=>?_)
 cases f with
 |next=>exact wpAny_execs_nil q
 |ret v=>exact q
 |brk=>exact q
 |cont=>exact q
theorem Inv.quiet {pins:List (Addr×Obj)}{σ:St}{H:Hp}{s:Shared}(I:Inv X pins σ H s):interactive X.env=false:=by simp[interactive,I.ok.kind]
def RD (te:TE):TS:=λD σ H=>te σ H λ_ H1=>D.nx σ H1
theorem BW (he:PE X e te)(hs:swapsWith e none pos.line X.env=pure false:=by rfl):PS X (.Expr e pos) (RD te):=by
 intro pins s σ H D I h
 exact wpAny_Expr_any (BH (he pins s σ H _ I h) λv s1 ⟨x,H1,I1,r1,q1⟩=>⟨σ,H1,I1,q1⟩) I.quiet hs
def RE (te:TE):TS:=λD σ H=>te σ H D.rt
theorem AY (he:PE X e te):PS X (.Return (some e) pos) (RE te):=by
 intro pins s σ H D I h
 exact wpAny_Return_some (BH (he pins s σ H _ I h) λv s1 ⟨x,H1,I1,r1,q1⟩=>⟨x,σ,H1,I1,r1,q1⟩)
def SW (c:TT)(t u:TS):TS:=λD σ H=>c σ H λb H1=>if b=true then t D σ H1 else u D σ H1
theorem Ag {c:Expr}{a b:List Stmt}{tc:TT}(hc:PT X c tc)(ha:Fb X a t)(hb:Fb X b u):PS X (.If c a b pos) (SW tc t u):=by
 intro pins s σ H D I h
 refine wpAny_If (BH (hc pins s σ H _ I h) λd s1 ⟨H1,I1,q1⟩=>?_)
 cases d with
 |true=>exact ha pins s1 σ H1 D I1 q1
 |false=>exact hb pins s1 σ H1 D I1 q1
end
abbrev TG:=V->St->Hp->(St->Hp->Prop)->Prop
abbrev Pc:=List V->St->Hp->(St->Hp->Prop)->Prop
def PG (X:Cx)(target:Expr)(t:TG):Prop:=
 ∀(pins:List (Addr×Obj)) (s:Shared) (σ:St) (H:Hp) (v:V) (u:Value) (Q:St->Hp->Prop),Inv X pins σ H s->RelV v u->t v σ H Q->
  wpAny (model X.prog X.w) X.A (assign target X.env u) (λ_ s'=>∃σ' H',Inv X pins σ' H' s'/\Q σ' H') X.xe s
def RF (X:Cx)(ts:List Expr)(t:Pc):Prop:=
 ∀(pins:List (Addr×Obj)) (s:Shared) (σ:St) (H:Hp) (vs:List V) (us:List Value) (Q:St->Hp->Prop),Inv X pins σ H s->Vals vs us->t vs σ H Q->
  wpAny (model X.prog X.w) X.A (assignInOrder ((assignEach ts X.env).map (·.2)) us) (λ_ s'=>∃σ' H',Inv X pins σ' H' s'/\Q σ' H') X.xe s
abbrev P6:=V->V->V->Hp->(Hp->Prop)->Prop
def RG (X:Cx)(t:P6):Prop:=
 ∀(pins:List (Addr×Obj)) (s:Shared) (σ:St) (H:Hp) (o i v:V) (ov iv u:Value) (Q:Hp->Prop),Inv X pins σ H s->RelV o ov->RelV i iv->RelV v u->t o i v H Q->
  wpAny (model X.prog X.w) X.A (setItem ov iv u) (λ_ s'=>∃H',Inv X pins σ H' s'/\Q H') X.xe s
section
variable {X:Cx}{pos:Pos}
def FC (i:Nat):TG:=λv σ H Q=>Q (σ.set i (some v)) H
theorem Ae {i:Nat}{x:Str}(hN:X.N.Nodup)(hi:X.N[i]?=some x)(hx:Loc X.env.scope x)(hf:X.fn x=true\/X.env.scope.names.lookup x=some .local:=by first|exact .inl rfl|exact .inr rfl|assumption):PG X (.Name x pos) (FC i):=by
 intro pins s σ H v u Q I r h
 exact wpAny_assign_Name (FZ I hN hi hx r (λs' I'=>⟨_,H,I',h⟩) hf)
def SX:Pc:=λvs σ H Q=>vs=[]/\Q σ H
def RH (t:TG)(u:Pc):Pc:=λvs σ H Q=>∃v r,vs=v::r/\t v σ H λσ' H'=>u r σ' H' Q
theorem CU:RF X [] SX:=by
 intro pins s σ H vs us Q I r h
 obtain⟨e,h⟩:=h
 subst e
 cases r
 exact assignInOrder_nil ⟨σ,H,I,h⟩
theorem Ax {e:Expr}{es:List Expr}{t:TG}{u:Pc}(h1:PG X e t)(h2:RF X es u)
 (hs:(assignEach (e::es) X.env).map (·.2)=assign e X.env::(assignEach es X.env).map (·.2):=by rfl):RF X (e::es) (RH t u):=by
 intro pins s σ H vs us Q I r h
 obtain⟨v,vr,e1,h⟩:=h
 subst e1
 cases r with
 |cons r rr=>
  rw[hs]
  refine assignInOrder_cons (BH (h1 pins s σ H _ _ _ I r h) λ_ s1 ⟨σ1,H1,I1,q1⟩=>?_)
  exact h2 pins s1 σ1 H1 _ _ Q I1 rr q1
def RI (K:PySem.W.Frag)(n:Nat)(t:Pc):TG:=λv σ H Q=>∃a xs,v=.ref a/\Ca K H a xs/\xs.length=n/\t xs σ H Q
theorem DM {es:List Expr}{k:Nat}{t:Pc}{n:Nat}(hc:X.calm=true)(h:RF X es t)
 (hn:(assignEach es X.env).length=n:=by rfl)(hst:(assignEach es X.env).findIdx? (·.1)=none:=by rfl):PG X (.Tuple es k pos) (RI X.K n t):=by
 intro pins s σ H v u Q I r hw
 obtain⟨a,xs,e1,hq,hl,hw⟩:=hw
 subst e1
 cases r
 obtain⟨its,rv,ht,hz⟩:=I.tuple hq
 refine assign_Tuple_tuple (I.ok.hd hc) ht (by simp[hn,<-hl,rv.length]) hst λh' hx=>?_
 have I1:Inv X pins σ H { s with heap:=h' }:=I.kept (t':=s.toks) λb o e=>hx b o (Nat.ne_of_lt (Heap.lt_size e)) e
 exact h pins _ σ H xs _ Q I1 (by simpa using rv) hw
def SY (to ti:TE)(t:P6):TG:=λv σ H Q=>to σ H λo H1=>ti σ H1 λi H2=>t o i v H2 λH3=>Q σ H3
theorem Fc {o i:Expr}{to ti:TE}{t:P6}(ho:PE X o to)(hi:PE X i ti)(hs:RG X t)
 (ha:∀v,assign (.Subscript o i pos) X.env v=(do
  let ov<-holding [v] (eval o X.env)
  let iv<-holding [v,ov] (eval i X.env)
  standAt pos
  holding [v,ov,iv] (setItem ov iv v)
  release [v,ov,iv] []):=by intro _;rfl):PG X (.Subscript o i pos) (SY to ti t):=by
 intro pins s σ H v u Q I r h
 rw[ha]
 refine wpAny_bind (wpAny_holding (BH (ho pins s σ H _ I h) λov s1 ⟨x,H1,I1,r1,q1⟩=>?_))
 refine wpAny_bind (wpAny_holding (BH (hi pins s1 σ H1 _ I1 q1) λiv s2 ⟨y,H2,I2,r2,q2⟩=>?_))
 refine wpAny_bind (wpAny_standAt (wpAny_bind (wpAny_holding (BH (hs pins s2 σ H2 x y v ov iv u _ I2 r1 r2 r q2) λ_ s3 ⟨H3,I3,q3⟩=>?_))))
 exact wpAny_release ⟨σ,H3,I3,q3⟩
def OO (te:TE)(g:TG):TS:=λD σ H=>te σ H λx H1=>g x σ H1 D.nx
theorem Ek {tg e:Expr}{te:TE}{g:TG}(he:PE X e te)(hg:PG X tg g)(hs:swapsWithSole [tg] e pos.line X.env=pure false:=by rfl)(hw:swappedStores [tg] e X.env=pure none:=by rfl)
 (h1:(assignEach [tg] X.env).map (·.2)=[assign tg X.env]:=by rfl):PS X (.Assign [tg] e pos) (OO te g):=by
 intro pins s σ H D I h
 refine wpAny_Assign_stores (BH (he pins s σ H _ I h) λv s1 ⟨x,H1,I1,r1,q1⟩=>?_) hs hw
 rw[h1]
 exact BH (hg pins s1 σ H1 x v _ I1 r1 q1) λ_ s2 q=>q
theorem AI {i:Nat}{x:Str}{e:Expr}{te:TE}{pos':Pos}(hN:X.N.Nodup)(hi:X.N[i]?=some x)(hx:Loc X.env.scope x)(he:PE X e te)(hs:swapsWith e (some (.Name x pos')) pos.line X.env=pure false:=by rfl)(hf:X.fn x=true\/X.env.scope.names.lookup x=some .local:=by first|exact .inl rfl|exact .inr rfl|assumption):
 PS X (.Assign [.Name x pos'] e pos) (OO te (FC i)):=by
 intro pins s σ H D I h
 refine wpAny_Assign_Name (BH (he pins s σ H _ I h) λv s1 ⟨y,H1,I1,r1,q1⟩=>?_) hs
 exact FZ I1 hN hi hx r1 (λs2 I2=>⟨_,H1,I2,q1⟩) hf
end
section
variable {X:Cx}{pos:Pos}
def P7 (c:TT)(tb:TS):TS:=λD σ H=>∃W:Nat->St->Hp->Prop,(∃m,W m σ H)/\∀m σ H,W m σ H->
 c σ H λb H1=>if b=true then∃N:St->Hp->Prop,(∀σ' H',N σ' H'->∃m',m' < m/\W m' σ' H')/\tb { D with nx:=N,ct:=N,bk:=D.nx } σ H1 else D.nx σ H1
theorem Im {c:Expr}{body:List Stmt}{tc:TT}{tb:TS}(hp:PassesOwn (model X.prog X.w) X.A X.env X.xe)(hc:PT X c tc)(hb:Fb X body tb):PS X (.While c body [] pos) (P7 tc tb):=by
 intro pins s σ H D I h
 obtain⟨W,⟨m0,w0⟩,turn⟩:=h
 refine wpAny_While (codeAny_whileLoop (λn s'=>∃σ' H',Inv X pins σ' H' s'/\W n σ' H') ?_ m0 ⟨σ,H,I,w0⟩)
 rintro n s1 ⟨σ1,H1,I1,w1⟩
 refine wpAny_passesOwn hp (BH (hc pins s1 σ1 H1 _ I1 (turn n σ1 H1 w1)) λb s2 ⟨H2,I2,q2⟩=>?_)
 cases b with
 |true=>
  obtain⟨N,hN,q2⟩:=q2
  rw[if_pos rfl]
  refine wpAny_passesOwn hp (BH (hb pins s2 σ1 H2 _ I2 q2) λf s3 q3=>?_)
  cases f with
  |next=>
   obtain⟨σ3,H3,I3,n3⟩:=q3
   obtain⟨m',hm,w3⟩:=hN σ3 H3 n3
   exact⟨m',hm,σ3,H3,I3,w3⟩
  |cont=>
   obtain⟨σ3,H3,I3,n3⟩:=q3
   obtain⟨m',hm,w3⟩:=hN σ3 H3 n3
   exact⟨m',hm,σ3,H3,I3,w3⟩
  |brk=>exact q3
  |ret v=>exact q3
 |false=>
  rw[if_neg Bool.false_ne_true]
  exact wpAny_execs_nil ⟨σ1,H2,I2,q2⟩
end
structure It where
 go:Nat->Hp->Prop
 yld:Nat->Hp->V->Hp->Prop
 stop:Nat->Hp->Prop
def El (X:Cx)(pins:List (Addr×Obj))(H:Hp)(b:Addr):Prop:=
 H b=none/\b≠X.env.locals/\b∉X.fs/\(b∈X.ex\/X.s₀.heap.objs.size<=b)/\(∀x c,X.env.cells.lookup x=some c->c≠b)/\∀p∈X.pn++pins,p.1≠b
theorem Inv.Hm {X:Cx}{pins:List (Addr×Obj)}{σ:St}{H H':Hp}{s:Shared}{b:Addr}(I:Inv X pins σ H s)(hb:s.heap.objs.size<=b)(hn:H' b=none):El X pins H' b:=by
 refine⟨hn,Nat.ne_of_gt (Nat.lt_of_lt_of_le I.lt hb),I.SQ hb,.inr (Nat.le_trans I.sz hb),λx c e z=>?_,λp hp z=>?_⟩
 ·obtain⟨v,q⟩:=I.cell x c e
  exact absurd (Nat.lt_of_lt_of_le q.lt (by rw[z];exact hb)) (Nat.lt_irrefl _)
 ·exact absurd (Nat.lt_of_lt_of_le (Heap.lt_size (I.pin p hp).1) (by rw[z];exact hb)) (Nat.lt_irrefl _)
structure Turn (P:Program)(w:World)(K:PySem.W.Frag)(tg:Expr)(J:It)(fp:List Addr)(it:Addr)(tn:Nat->Heap->Prop):Prop where
 mem:it∈fp
 obj:∀i h,tn i h->∀b∈fp,∃o,h.get? b=some o/\∀v,o.data≠.cell v
 keep:∀i h h',tn i h->(∀b∈fp,∀o,h.get? b=some o->h'.get? b=some o)->tn i h'
 item:∀(X:Cx),X.prog=P->X.w=w->X.K=K->X.calm=true->∀(i:Nat) (pins:List (Addr×Obj)) (s:Shared) (σ:St) (H:Hp) (E:Value->Shared->Prop),Inv X pins σ H s->(∀b∈fp,El X pins H b)->tn i s.heap->J.go i H->
  wpAny (model P w) X.A (pyNext (.ref it)) (λr s1=>∃u,r=some u/\
   wpAny (model P w) X.A (letOwnedTupleGo tg (.ref it) u) (λ_ s2=>∃x H',Inv X pins σ H' s2/\RelV x u/\J.yld i H x H'/\tn (i+1) s2.heap/\∀b∈fp,H' b=none) E s1) E s
 done:∀(X:Cx),X.prog=P->X.w=w->X.K=K->X.calm=true->∀(i:Nat) (pins:List (Addr×Obj)) (s:Shared) (σ:St) (H:Hp) (E:Value->Shared->Prop),Inv X pins σ H s->(∀b∈fp,El X pins H b)->tn i s.heap->J.stop i H->
  wpAny (model P w) X.A (pyNext (.ref it)) (λr s1=>r=none/\Inv X pins σ H s1) E s
 self:∀(A:Around) (i:Nat) (s:Shared) (Q:Value->Shared->Prop) (E:Value->Shared->Prop),tn i s.heap->Q (.ref it) s->wpAny (model P w) A (pyIter (.ref it)) Q E s
abbrev TI:=St->Hp->(It->Hp->Prop)->Prop
def TH (X:Cx)(pins:List (Addr×Obj))(σ:St)(tg:Expr)(R:It->Hp->Prop)(itv:Value)(s2:Shared):Prop:=
 ∃(it:Addr) (fp:List Addr) (tn:Nat->Heap->Prop) (J:It) (H':Hp),itv=.ref it/\Inv X pins σ H' s2/\Turn X.prog X.w X.K tg J fp it tn/\tn 0 s2.heap/\(∀b∈fp,El X pins H' b)/\R J H'
def PI (X:Cx)(tg iter:Expr)(wi:TI):Prop:=
 ∀(pins:List (Addr×Obj)) (s:Shared) (σ:St) (H:Hp) (R:It->Hp->Prop),Inv X pins σ H s->wi σ H R->
  wpAny (model X.prog X.w) X.A (eval iter X.env) (λv s1=>wpAny (model X.prog X.w) X.A (pyIter v) (TH X pins σ tg R) X.xe s1) X.xe s
theorem Gm {M:Model}{A:Around}{E:Value->Shared->Prop}{s:Shared}{tg:Expr}{it:Addr}{u:Value}{o:Obj}{n:String}{vs:Array Value}{Q:Unit->Shared->Prop}(ho:s.heap.get? it=some o)(hc:o.cls=.type n)(hd:o.data=.fields vs)
 (hn:["enumerate","zip","dict_itemiterator","dict_reverseitemiterator","odict_iterator","itertools.zip_longest","itertools.pairwise"].contains n=false)(hQ:Q () s):wpAny M A (letOwnedTupleGo tg (.ref it) u) Q E s:=by
 unfold letOwnedTupleGo
 cases tg<;>first
  |exact wpAny_pure hQ
  |(cases u<;>first
   |exact wpAny_pure hQ
   |(refine wpAny_bind (wpAny_load ho ?_)
     rw[hc,hd]
     show wpAny M A (if(["enumerate","zip","dict_itemiterator","dict_reverseitemiterator","odict_iterator","itertools.zip_longest","itertools.pairwise"].contains n&&vs[0]?==some (rawInt _))=true then _ else _) Q E s
     rw[if_neg (by intro h;rw[hn,Bool.false_and]at h;cases h)]
     exact wpAny_pure hQ))
def Mo (K:PySem.W.Frag)(a:Addr):It:=
 ⟨λi H=>∃xs x,An K H a xs/\xs[i]?=some x,λi H x H'=>H'=H/\∀xs,An K H a xs->xs[i]?=some x,λi H=>∃xs,An K H a xs/\xs.length<=i⟩
def TJ (K:PySem.W.Frag)(a:Addr):It:=
 ⟨λi H=>∃xs x,Ca K H a xs/\xs[i]?=some x,λi H x H'=>H'=H/\∀xs,Ca K H a xs->xs[i]?=some x,λi H=>∃xs,Ca K H a xs/\xs.length<=i⟩
def P8 (lo:Int)(n:Nat):It:=⟨λi _=>i < n,λi H x H'=>H'=H/\x=.int (lo+i),λi _=>n<=i⟩
theorem Ll {P:Program}{w:World}{K:PySem.W.Frag}{tg:Expr}(a it:Addr):Turn P w K tg (Mo K a) [it] it (λi h=>h.IsListIter it a i) where
 mem:=by simp
 obj:=λi h st b hb=>by
  have e:b=it:=by simpa using hb
  subst e
  obtain⟨o,e,c,d⟩:=st
  exact⟨o,e,λv z=>by rw[d]at z;cases z⟩
 keep:=λi h h' st k=>st.at λo e=>k it (by simp) o e
 item:=by
  intro X hP hw hK hc i pins s σ H E I hf st hg
  subst hP hw hK
  obtain⟨xs,x,hq,hx⟩:=hg
  obtain⟨its,rv,p,hz⟩:=I.list hq
  obtain⟨u,hu,ru⟩:=rv.get hx
  obtain⟨f0,f1,f2,f3,f4,f5⟩:=hf it (by simp)
  refine wpAny_pyNext_list_item st p.isList (x:=u) (by simpa using hu) λh' st' sb=>?_
  have I1:Inv X pins σ H { s with heap:=h' }:=I.turned (t':=s.toks) (λb o hb e=>(sb.2 b hb).trans e) f0 f1 f3 f4 f5
  obtain⟨o,e,c,d⟩:=id st'
  exact⟨u,rfl,Gm (s:={ s with heap:=h' }) e c d (by decide) ⟨x,H,I1,ru,⟨rfl,λys hy=>by rw[I.list_inj hy hq];exact hx⟩,st',λb hb=>(hf b hb).1⟩⟩
 done:=by
  intro X hP hw hK hc i pins s σ H E I hf st hg
  subst hP hw hK
  obtain⟨xs,hq,hx⟩:=hg
  obtain⟨its,rv,p,hz⟩:=I.list hq
  obtain⟨f0,f1,f2,f3,f4,f5⟩:=hf it (by simp)
  have hl:=rv.length
  exact wpAny_pyNext_list_end (I.ok.hd hc) st p.isList (by simp;omega) λh' eb=>⟨rfl,I.turned (t':=s.toks) (λb o hb e=>eb b o hb e) f0 f1 f3 f4 f5⟩
 self:=λ_ _ _ _ _ st h=>wpAny_pyIter_listiter st h
theorem J7 {P:Program}{w:World}{K:PySem.W.Frag}{tg:Expr}(a it:Addr):Turn P w K tg (TJ K a) [it] it (λi h=>h.IsTupleIter it a i) where
 mem:=by simp
 obj:=λi h st b hb=>by
  have e:b=it:=by simpa using hb
  subst e
  obtain⟨o,e,c,d⟩:=st
  exact⟨o,e,λv z=>by rw[d]at z;cases z⟩
 keep:=λi h h' st k=>st.at λo e=>k it (by simp) o e
 item:=by
  intro X hP hw hK hc i pins s σ H E I hf st hg
  subst hP hw hK
  obtain⟨xs,x,hq,hx⟩:=hg
  obtain⟨its,rv,p,hz⟩:=I.tuple hq
  obtain⟨u,hu,ru⟩:=rv.get hx
  obtain⟨f0,f1,f2,f3,f4,f5⟩:=hf it (by simp)
  refine wpAny_pyNext_tuple_item st (show s.heap.IsTuple a its.toArray from p) (x:=u) (by simpa using hu) λh' st' sb=>?_
  have I1:Inv X pins σ H { s with heap:=h' }:=I.turned (t':=s.toks) (λb o hb e=>(sb.2 b hb).trans e) f0 f1 f3 f4 f5
  obtain⟨o,e,c,d⟩:=id st'
  exact⟨u,rfl,Gm (s:={ s with heap:=h' }) e c d (by decide) ⟨x,H,I1,ru,⟨rfl,λys hy=>by rw[I.Lk hy hq];exact hx⟩,st',λb hb=>(hf b hb).1⟩⟩
 done:=by
  intro X hP hw hK hc i pins s σ H E I hf st hg
  subst hP hw hK
  obtain⟨xs,hq,hx⟩:=hg
  obtain⟨its,rv,p,hz⟩:=I.tuple hq
  obtain⟨f0,f1,f2,f3,f4,f5⟩:=hf it (by simp)
  have hl:=rv.length
  exact wpAny_pyNext_tuple_end (I.ok.hd hc) st (show s.heap.IsTuple a its.toArray from p) (by simp;omega) λh' eb=>⟨rfl,I.turned (t':=s.toks) (λb o hb e=>eb b o hb e) f0 f1 f3 f4 f5⟩
 self:=λ_ _ _ _ _ st h=>wpAny_pyIter_tupleiter st h
theorem J8 {P:Program}{w:World}{K:PySem.W.Frag}{tg:Expr}(it:Addr)(lo:Int)(n:Nat):Turn P w K tg (P8 lo n) [it] it (λi h=>IsRangeIter h it (lo+(i:Nat)*1) ((n:Int) - (i:Nat)) 1) where
 mem:=by simp
 obj:=λi h st b hb=>by
  have e:b=it:=by simpa using hb
  subst e
  exact⟨_,st,λv z=>by
   have z':Data.fields _=Data.cell v:=z
   cases z'⟩
 keep:=λi h h' st k=>k it (by simp) _ st
 item:=by
  intro X hP hw hK hc i pins s σ H E I hf st hg
  subst hP hw hK
  obtain⟨f0,f1,f2,f3,f4,f5⟩:=hf it (by simp)
  have W:=Walks.range (prog:=X.prog) (w:=X.w) (I.ok.hd hc) it lo 1 n
  refine W.item i s _ _ hg st λv h' tk hv st' kk=>?_
  obtain⟨t,rfl⟩:=hv
  have I1:Inv X pins σ H { s with heap:=h',toks:=tk }:=I.turned (λb o hb e=>kk b o (by simpa using hb) e) f0 f1 f3 f4 f5
  refine⟨_,rfl,Gm (s:={ s with heap:=h',toks:=tk }) (n:="range_iterator") st' rfl rfl (by decide) ⟨.int (lo+i),H,I1,⟨t,?_⟩,⟨rfl,rfl⟩,st',λb hb=>(hf b hb).1⟩⟩
  rw[Int.mul_one]
 done:=by
  intro X hP hw hK hc i pins s σ H E I hf st hg
  subst hP hw hK
  obtain⟨f0,f1,f2,f3,f4,f5⟩:=hf it (by simp)
  exact wpAny_pyNext_range_end (I.ok.hd hc) st (by have:n<=i:=hg;omega) λh' eb=>⟨rfl,I.turned (t':=s.toks) (λb o hb e=>eb b o hb e) f0 f1 f3 f4 f5⟩
 self:=λ_ _ _ _ _ st h=>wpAny_pyIter_rangeiter st h
end L2
namespace L2
open PySem PySem.Spec PyProof.Rows
section
variable {X:Cx}{tg:Expr}
def RJ (K:PySem.W.Frag)(tl:TE):TI:=λσ H R=>tl σ H λx H1=>∃a,x=.ref a/\(∃xs,An K H1 a xs)/\R (Mo K a) H1
def Sa (K:PySem.W.Frag)(tl:TE):TI:=λσ H R=>tl σ H λx H1=>∃a,x=.ref a/\(∃xs,Ca K H1 a xs)/\R (TJ K a) H1
theorem CH {l:Expr}{tl:TE}(hl:PE X l tl):PI X tg l (RJ X.K tl):=by
 intro pins s σ H R I h
 refine BH (hl pins s σ H _ I h) λv s1 ⟨x,H1,I1,r1,q1⟩=>?_
 obtain⟨a,e,⟨xs,hq⟩,q⟩:=q1
 subst e
 cases r1
 obtain⟨its,rv,p,hz⟩:=I1.list hq
 refine wpAny_pyIter_list p.isList ?_
 refine⟨s1.heap.objs.size,[s1.heap.objs.size],_,_,H1,rfl,I1.kept (t':=s1.toks) λb o e=>Heap.get?_push_of_some _ e,Ll a _,⟨_,Heap.get?_push_size _ rfl,rfl,rfl⟩,λb hb=>?_,q⟩
 have e:b=s1.heap.objs.size:=by simpa using hb
 subst e
 exact I1.Hm (Nat.le_refl _) (I1.hok.fresh (Nat.le_refl _))
theorem P9 {l:Expr}{tl:TE}(hl:PE X l tl):PI X tg l (Sa X.K tl):=by
 intro pins s σ H R I h
 refine BH (hl pins s σ H _ I h) λv s1 ⟨x,H1,I1,r1,q1⟩=>?_
 obtain⟨a,e,⟨xs,hq⟩,q⟩:=q1
 subst e
 cases r1
 obtain⟨its,rv,p,hz⟩:=I1.tuple hq
 refine wpAny_pyIter_tuple (show s1.heap.IsTuple a its.toArray from p) ?_
 refine⟨s1.heap.objs.size,[s1.heap.objs.size],_,_,H1,rfl,I1.kept (t':=s1.toks) λb o e=>Heap.get?_push_of_some _ e,J7 a _,⟨_,Heap.get?_push_size _ rfl,rfl,rfl⟩,λb hb=>?_,q⟩
 have e:b=s1.heap.objs.size:=by simpa using hb
 subst e
 exact I1.Hm (Nat.le_refl _) (I1.hok.fresh (Nat.le_refl _))
theorem Io {pins:List (Addr×Obj)}{σ:St}{H:Hp}{s:Shared}{R:It->Hp->Prop}{E:Value->Shared->Prop}{lo hi:Int}{t u v:Tok}{tk:Nat}(I:Inv X pins σ H s)(h1:-(2 ^ 62)<=lo)(h2:lo < 2 ^ 62)(h3:-(2 ^ 62)<=hi)(h4:hi < 2 ^ 62)
 (q:R (P8 lo (hi - lo).toNat) H):wpAny (model X.prog X.w) X.A (pyIter (.ref s.heap.objs.size)) (TH X pins σ tg R) E { s with heap:=s.heap.push { cls:=.type "range",data:=.fields #[.int lo t,.int hi u,.int 1 v] },toks:=tk }:=by
 refine wpAny_pyIter_range (IsRange.new ..) (small_one h1 h2 h3 h4) ?_
 have I1:Inv X pins σ H { s with heap:=s.heap.push { cls:=.type "range",data:=.fields #[.int lo t,.int hi u,.int 1 v] },toks:=tk }:=I.kept λb o e=>Heap.get?_push_of_some _ e
 refine⟨(s.heap.push { cls:=.type "range",data:=.fields #[.int lo t,.int hi u,.int 1 v] }).objs.size,[(s.heap.push { cls:=.type "range",data:=.fields #[.int lo t,.int hi u,.int 1 v] }).objs.size],_,_,H,rfl,
  I1.kept (t':=tk) λb o e=>Heap.get?_push_of_some _ e,J8 _ lo (hi - lo).toNat,?_,λb hb=>?_,q⟩
 ·have e1:lo+((0:Nat):Int)*1=lo:=by simp
  have e2:(((hi - lo).toNat:Nat):Int) - ((0:Nat):Int)=Builtin.Range.rangeSize lo hi 1:=by rw[rangeSize_one];split<;>omega
  show IsRangeIter _ _ (lo+((0:Nat):Int)*1) ((((hi - lo).toNat:Nat):Int) - ((0:Nat):Int)) 1
  rw[e1,e2]
  exact Heap.get?_push_size _ rfl
 ·have e:b=(s.heap.push { cls:=.type "range",data:=.fields #[.int lo t,.int hi u,.int 1 v] }).objs.size:=by simpa using hb
  subst e
  exact I1.Hm (Nat.le_refl _) (I1.hok.fresh (Nat.le_refl _))
def RK (ta:TA):TI:=λσ H R=>ta σ H λvs H1=>∃j:Int,vs=[.int j]/\-(2 ^ 62)<=j/\j < 2 ^ 62/\R (P8 0 j.toNat) H1
def RL (ta:TA):TI:=λσ H R=>ta σ H λvs H1=>∃i j:Int,vs=[.int i,.int j]/\(-(2 ^ 62)<=i/\i < 2 ^ 62/\-(2 ^ 62)<=j/\j < 2 ^ 62)/\R (P8 i (j - i).toNat) H1
theorem Gn {a:Expr}{ta:TA}{p pos:Pos}(hg:Gl X "range")(hm:X.mg "range"=none)(ha:PA X [a] ta)(hs:starEach [a] X.env=[(false,eval a X.env)]:=by rfl):PI X tg (.Call (.Name "range" p) [a] [] pos) (RK ta):=by
 intro pins s σ H R I h
 refine Call_ (C4 I hg hm boot_range (PyProof.Rows.callWith_type1 (BH (ha pos pins s σ H _ I h) λus s1 ⟨vs,H1,I1,r1,q1⟩=>?_) hs rfl))
 obtain⟨j,e,q1,q2,q⟩:=q1
 subst e
 cases r1 with
 |cons r rr=>
  cases rr
  obtain⟨t,rfl⟩:=r
  exact call_range_1 (Io I1 (by omega) (by omega) q1 q2 (by simpa using q))
theorem Em {a b:Expr}{ta:TA}{p pos:Pos}(hg:Gl X "range")(hm:X.mg "range"=none)(ha:PA X [a,b] ta)(hs:starEach [a,b] X.env=[(false,eval a X.env),(false,eval b X.env)]:=by rfl)(hs2:starEach [b] X.env=[(false,eval b X.env)]:=by rfl):
 PI X tg (.Call (.Name "range" p) [a,b] [] pos) (RL ta):=by
 intro pins s σ H R I h
 refine Call_ (C4 I hg hm boot_range (PyProof.Rows.callWith_type1 (BH (ha pos pins s σ H _ I h) λus s1 ⟨vs,H1,I1,r1,q1⟩=>?_) (by rw[hs,hs2]) (by rw[hs2];rfl)))
 obtain⟨i,j,e,⟨q1,q2,q3,q4⟩,q⟩:=q1
 subst e
 cases r1 with
 |cons r rr=>
  cases rr with
  |cons r' rr=>
   cases rr
   obtain⟨t,rfl⟩:=r
   obtain⟨t',rfl⟩:=r'
   exact call_range_2 (Io I1 q1 q2 q3 q4 q)
def Sb (wi:TI)(g:TG)(tb:TS):TS:=λD σ H=>wi σ H λJ H1=>∃W:Nat->Nat->St->Hp->Prop,(∃m,W 0 m σ H1)/\∀i m σ H,W i m σ H->
 (J.stop i H/\D.nx σ H)\/(J.go i H/\∃N:St->Hp->Prop,(∀σ' H',N σ' H'->∃m',m' < m/\W (i+1) m' σ' H')/\∀x H',J.yld i H x H'->g x σ H' λσ2 H2=>tb { D with nx:=N,ct:=N,bk:=D.nx } σ2 H2)
def En (fp:List Addr)(h:Heap):List (Addr×Obj):=fp.filterMap λb=>(h.get? b).map λo=>(b,o)
theorem C6 {fp:List Addr}{h:Heap}{b:Addr}{o:Obj}(hb:b∈fp)(e:h.get? b=some o):(b,o)∈En fp h:=List.mem_filterMap.mpr ⟨b,hb,by rw[e];rfl⟩
theorem Lm {fp:List Addr}{h:Heap}{p:Addr×Obj}(hp:p∈En fp h):p.1∈fp/\h.get? p.1=some p.2:=by
 obtain⟨b,hb,e⟩:=List.mem_filterMap.mp hp
 cases q:h.get? b with
 |none=>rw[q]at e;cases e
 |some o=>
  rw[q]at e
  have e':(b,o)=p:=Option.some.inj e
  subst e'
  exact⟨hb,q⟩
theorem Inv.pinned {pins:List (Addr×Obj)}{σ:St}{H:Hp}{s:Shared}{fp:List Addr}(I:Inv X pins σ H s)(hf:∀b∈fp,El X pins H b)(ho:∀b∈fp,∃o,s.heap.get? b=some o/\∀v,o.data≠.cell v):Inv X (pins++En fp s.heap) σ H s:=
 I.Kt λp hp=>(List.mem_append.mp hp).elim (λz=>I.pin p (List.mem_append_right _ z)) λz=>by
  obtain⟨hb,e⟩:=Lm z
  obtain⟨f0,f1,f2,_⟩:=hf p.1 hb
  obtain⟨o,e',d⟩:=ho p.1 hb
  rw[e]at e';cases e'
  exact⟨e,f0,f1,f2,d⟩
theorem Inv.EJ {pins pl:List (Addr×Obj)}{σ:St}{H:Hp}{s:Shared}(I:Inv X (pins++pl) σ H s):Inv X pins σ H s:=I.Kt λp hp=>I.pin p (List.mem_append_right _ (List.mem_append_left _ hp))
theorem Bm {iter:Expr}{body:List Stmt}{wi:TI}{g:TG}{tb:TS}{pos:Pos}(hp:PassesOwn (model X.prog X.w) X.A X.env X.xe)(hc:X.calm=true)(hi:PI X tg iter wi)(hg:PG X tg g)(hb:Fb X body tb)
 (hs:∀x,foldedSetIterable iter X.env x=pure x:=by intro _;rfl):PS X (.For tg iter body [] pos) (Sb wi g tb):=by
 intro pins s σ H D I h
 refine wpAny_For (BH (hi pins s σ H _ I h) λv s1 h1=>BH h1 λitv s2 h2=>?_) hs
 obtain⟨it,fp,tn,J,H2,e,I2,T,st2,f2,W,⟨m0,w0⟩,turn⟩:=h2
 subst e
 have stat:∀{H':Hp},(∀b∈fp,H' b=none)->∀b∈fp,El X pins H' b:=λhn b hb=>⟨hn b hb,(f2 b hb).2⟩
 refine codeAny_forLoop_any (λn s'=>∃i σ' H',Inv X pins σ' H' s'/\tn i s'.heap/\(∀b∈fp,H' b=none)/\W i n σ' H') ?_ m0 ⟨0,σ,H2,I2,st2,λb hb=>(f2 b hb).1,w0⟩
 rintro n s3 ⟨i,σ3,H3,I3,st3,fr3,w3⟩
 rcases turn i n σ3 H3 w3 with⟨stop,qn⟩|⟨go,N,hN,step⟩
 ·refine wpAny_passesOwn hp (BH (T.done X rfl rfl rfl hc i pins s3 σ3 H3 X.xe I3 (stat fr3) st3 stop) λr s4 ⟨hr,I4⟩=>?_)
  subst hr
  exact wpAny_execs_nil ⟨σ3,H3,I4,qn⟩
 ·refine wpAny_passesOwn hp (BH (T.item X rfl rfl rfl hc i pins s3 σ3 H3 X.xe I3 (stat fr3) st3 go) λr s4 ⟨u,hr,h4⟩=>?_)
  subst hr
  refine wpAny_passesOwn hp (BH h4 λ_ s5 ⟨x,H5,I5,r5,y5,st5,fr5⟩=>?_)
  have I5':=I5.pinned (stat fr5) (T.obj _ _ st5)
  refine wpAny_passesOwn hp (BH (hg _ s5 σ3 H5 x u _ I5' r5 (step x H5 y5)) λ_ s6 ⟨σ6,H6,I6,q6⟩=>?_)
  refine wpAny_passesOwn hp (BH (hb _ s6 σ6 H6 _ I6 q6) λf s7 q7=>?_)
  have again:∀{σ7:St} {H7:Hp},Inv X (pins++En fp s5.heap) σ7 H7 s7->N σ7 H7->∃m,m < n/\∃i σ' H',Inv X pins σ' H' s7/\tn i s7.heap/\(∀b∈fp,H' b=none)/\W i m σ' H':=λ{σ7 H7} I7 n7=>by
   obtain⟨m',hm,w7⟩:=hN σ7 H7 n7
   refine⟨m',hm,i+1,σ7,H7,I7.EJ,T.keep _ _ _ st5 λb hb o e=>(I7.pin (b,o) (List.mem_append_right _ (List.mem_append_right _ (C6 hb e)))).1,λb hb=>?_,w7⟩
   obtain⟨o,e,d⟩:=T.obj _ _ st5 b hb
   exact(I7.pin (b,o) (List.mem_append_right _ (List.mem_append_right _ (C6 hb e)))).2.1
  cases f with
  |next=>obtain⟨σ7,H7,I7,n7⟩:=q7;exact again I7 n7
  |cont=>obtain⟨σ7,H7,I7,n7⟩:=q7;exact again I7 n7
  |brk=>obtain⟨σ7,H7,I7,q7⟩:=q7;exact⟨σ7,H7,I7.EJ,q7⟩
  |ret v=>obtain⟨x7,σ7,H7,I7,r7,q7⟩:=q7;exact⟨x7,σ7,H7,I7.EJ,r7,q7⟩
end
theorem Fd {K:PySem.W.Frag}{a:Addr}{xs:List V}{g:TG}{tb:TS}{D:Ends}{σ:St}{H:Hp}(Pv:Nat->St->Hp->Prop)(h0:Pv 0 σ H)(hl:∀i σ H,i<=xs.length->Pv i σ H->An K H a xs)
 (hs:∀i x σ H,xs[i]?=some x->Pv i σ H->g x σ H λσ2 H2=>tb { D with nx:=Pv (i+1),ct:=Pv (i+1),bk:=D.nx } σ2 H2)(hd:∀σ H,Pv xs.length σ H->D.nx σ H):
 ∃W:Nat->Nat->St->Hp->Prop,(∃m,W 0 m σ H)/\∀i m σ H,W i m σ H->
  ((Mo K a).stop i H/\D.nx σ H)\/((Mo K a).go i H/\∃N:St->Hp->Prop,(∀σ' H',N σ' H'->∃m',m' < m/\W (i+1) m' σ' H')/\∀x H',(Mo K a).yld i H x H'->g x σ H' λσ2 H2=>tb { D with nx:=N,ct:=N,bk:=D.nx } σ2 H2):=by
 refine⟨λi m σ H=>m=xs.length - i/\i<=xs.length/\Pv i σ H,⟨xs.length,by simp,Nat.zero_le _,h0⟩,?_⟩
 rintro i m σ H ⟨rfl,hi,p⟩
 have q:=hl i σ H hi p
 by_cases hlt:i < xs.length
 ·refine .inr ⟨⟨xs,xs[i],q,by simp[hlt]⟩,Pv (i+1),λσ' H' p'=>⟨xs.length - (i+1),by omega,rfl,hlt,p'⟩,λx H' y=>?_⟩
  obtain⟨e,y⟩:=y
  subst e
  exact hs i x σ _ (y xs q) p
 ·have e:i=xs.length:=by omega
  subst e
  exact .inl ⟨⟨xs,q,Nat.le_refl _⟩,hd σ H p⟩
theorem Eo {lo:Int}{n:Nat}{g:TG}{tb:TS}{D:Ends}{σ:St}{H:Hp}(Pv:Nat->St->Hp->Prop)(h0:Pv 0 σ H)
 (hs:∀i σ H,i < n->Pv i σ H->g (.int (lo+i)) σ H λσ2 H2=>tb { D with nx:=Pv (i+1),ct:=Pv (i+1),bk:=D.nx } σ2 H2)(hd:∀σ H,Pv n σ H->D.nx σ H):
 ∃W:Nat->Nat->St->Hp->Prop,(∃m,W 0 m σ H)/\∀i m σ H,W i m σ H->
  ((P8 lo n).stop i H/\D.nx σ H)\/((P8 lo n).go i H/\∃N:St->Hp->Prop,(∀σ' H',N σ' H'->∃m',m' < m/\W (i+1) m' σ' H')/\∀x H',(P8 lo n).yld i H x H'->g x σ H' λσ2 H2=>tb { D with nx:=N,ct:=N,bk:=D.nx } σ2 H2):=by
 refine⟨λi m σ H=>m=n - i/\i<=n/\Pv i σ H,⟨n,by simp,Nat.zero_le _,h0⟩,?_⟩
 rintro i m σ H ⟨rfl,hi,p⟩
 by_cases hlt:i < n
 ·refine .inr ⟨hlt,Pv (i+1),λσ' H' p'=>⟨n - (i+1),by omega,rfl,hlt,p'⟩,λx H' y=>?_⟩
  obtain⟨e,y⟩:=y
  subst e y
  exact hs i σ _ hlt p
 ·have e:i=n:=by omega
  subst e
  exact .inl ⟨Nat.le_refl _,hd σ H p⟩
end L2
namespace L2
open PySem PySem.Spec PyProof.Rows
abbrev R2:=V->V->Hp->VK->Prop
def D8 (X:Cx)(f:Value->Value->Sem Value)(r:R2):Prop:=
 ∀(pins:List (Addr×Obj)) (s:Shared) (σ:St) (H:Hp) (x y:V) (v u:Value) (Q:VK),Inv X pins σ H s->RelV x v->RelV y u->r x y H Q->
  wpAny (model X.prog X.w) X.A (f v u) (EP X pins σ Q) X.xe s
def Sd (X:Cx)(f:Value->Sem Value)(r:V->Hp->VK->Prop):Prop:=
 ∀(pins:List (Addr×Obj)) (s:Shared) (σ:St) (H:Hp) (x:V) (v:Value) (Q:VK),Inv X pins σ H s->RelV x v->r x H Q->
  wpAny (model X.prog X.w) X.A (f v) (EP X pins σ Q) X.xe s
def B0 (X:Cx)(f:Value)(r:List V->Hp->VK->Prop):Prop:=
 ∀(pins:List (Addr×Obj)) (s:Shared) (σ:St) (H:Hp) (xs:List V) (us:List Value) (Q:VK),Inv X pins σ H s->Vals xs us->r xs H Q->
  wpAny (model X.prog X.w) X.A (call f us) (EP X pins σ Q) X.xe s
def Se (X:Cx)(r:V->Hp->(Bool->Hp->Prop)->Prop):Prop:=
 ∀(pins:List (Addr×Obj)) (s:Shared) (σ:St) (H:Hp) (x:V) (v:Value) (Q:Bool->Hp->Prop),Inv X pins σ H s->RelV x v->r x H Q->
  wpAny (model X.prog X.w) X.A (truthy v) (TP X pins σ Q) X.xe s
def Qz (r:R2)(ta tb:TE):TE:=λσ H Q=>ta σ H λx H1=>tb σ H1 λy H2=>r x y H2 Q
def TY (r:V->Hp->VK->Prop)(ta:TE):TE:=λσ H Q=>ta σ H λx H1=>r x H1 Q
def rI (C:Int->Int->Prop)(g:Int->Int->V):R2:=λx y H Q=>∃i j,x=.int i/\y=.int j/\C i j/\Q (g i j) H
def Pd (g:Int->Int->V):R2:=λx y H Q=>∃i j,x=.int i/\y=.int j/\Q (g i j) H
def rU (g:Int->V):V->Hp->VK->Prop:=λx H Q=>∃i,x=.int i/\Q (g i) H
section
variable {X:Cx}{a b c:Expr}{ta tb tc:TE}{pos:Pos}
theorem QA (ha:PE X a ta)(hb:PE X b tb){pins:List (Addr×Obj)}{s:Shared}{σ:St}{H:Hp}{R:V->V->Hp->Prop}(I:Inv X pins σ H s)
 (h:ta σ H λx H1=>tb σ H1 λy H2=>R x y H2){Q:Value->Shared->Prop}{f:Value->Value->Sem Value}
 (hf:∀v u s2 x y H2,Inv X pins σ H2 s2->RelV x v->RelV y u->R x y H2->wpAny (model X.prog X.w) X.A (f v u) Q X.xe s2):
 wpAny (model X.prog X.w) X.A (eval a X.env) (λv s₁=>wpAny (model X.prog X.w) X.A (eval b X.env) (λu s₂=>wpAny (model X.prog X.w) X.A (f v u) Q X.xe s₂) X.xe s₁) X.xe s:=by
 refine BH (ha pins s σ H _ I h) λv s1 ⟨x,H1,I1,r1,q1⟩=>?_
 refine BH (hb pins s1 σ H1 _ I1 q1) λu s2 ⟨y,H2,I2,r2,q2⟩=>?_
 exact hf v u s2 x y H2 I2 r1 r2 q2
theorem AZ {op:Operator}{r:R2}(ho:D8 X (binaryOp op) r)(ha:PE X a ta)(hb:PE X b tb):PE X (.BinOp a op b pos) (Qz r ta tb):=by
 intro pins s σ H Q I h
 exact wpAny_BinOp (QA ha hb I h λv u s2 x y H2 I2 rx ry q=>ho pins s2 σ H2 x y v u Q I2 rx ry q)
theorem Bn {op:UnaryOp}{r:V->Hp->VK->Prop}(ho:Sd X (unaryOp op) r)(ha:PE X a ta):PE X (.UnaryOp op a pos) (TY r ta):=by
 intro pins s σ H Q I h
 exact UnaryOp_ (BH (ha pins s σ H _ I h) λv s1 ⟨x,H1,I1,r1,q1⟩=>ho pins s1 σ H1 x v Q I1 r1 q1)
theorem SA {f:Value->Value->Sem Value}{C:Int->Int->Prop}{g:Int->Int->Int}
 (rule:∀(i j:Int) (t u:Tok) (s:Shared) (Q:Value->Shared->Prop) (E:Value->Shared->Prop),C i j->Q (.int (g i j) s.toks) { s with toks:=s.toks+1 }->wpAny (model X.prog X.w) X.A (f (.int i t) (.int j u)) Q E s):
 D8 X f (rI C λi j=>.int (g i j)):=by
 intro pins s σ H x y v u Q I rx ry h
 obtain⟨i,j,rfl,rfl,hc,q⟩:=h
 obtain⟨t,rfl⟩:=rx
 obtain⟨t',rfl⟩:=ry
 exact rule i j t t' s _ _ hc ⟨.int (g i j),H,I.tok _,⟨_,rfl⟩,q⟩
theorem RM {f:Value->Value->Sem Value}{g:Int->Int->Int}
 (rule:∀(i j:Int) (t u:Tok) (s:Shared) (Q:Value->Shared->Prop) (E:Value->Shared->Prop),Q (.int (g i j) s.toks) { s with toks:=s.toks+1 }->wpAny (model X.prog X.w) X.A (f (.int i t) (.int j u)) Q E s):
 D8 X f (Pd λi j=>.int (g i j)):=by
 intro pins s σ H x y v u Q I rx ry h
 obtain⟨i,j,rfl,rfl,q⟩:=h
 obtain⟨t,rfl⟩:=rx
 obtain⟨t',rfl⟩:=ry
 exact rule i j t t' s _ _ ⟨.int (g i j),H,I.tok _,⟨_,rfl⟩,q⟩
theorem OP {f:Value->Value->Sem Value}{g:Int->Int->Bool}
 (rule:∀(i j:Int) (t u:Tok) (s:Shared) (Q:Value->Shared->Prop) (E:Value->Shared->Prop),Q (.bool (g i j)) s->wpAny (model X.prog X.w) X.A (f (.int i t) (.int j u)) Q E s):
 D8 X f (Pd λi j=>.bl (g i j)):=by
 intro pins s σ H x y v u Q I rx ry h
 obtain⟨i,j,rfl,rfl,q⟩:=h
 obtain⟨t,rfl⟩:=rx
 obtain⟨t',rfl⟩:=ry
 exact rule i j t t' s _ _ ⟨.bl (g i j),H,I,rfl,q⟩
def Sg (i j:Int):Prop:=0 < j/\j < 1073741824
def Si (i j:Int):Prop:=0<=j/\j<=1000000/\i.natAbs < 2 ^ 64
def QB (i j:Int):Prop:=(-(2 ^ 64) < i/\i < 2 ^ 64)\/(-(2 ^ 64) < j/\j < 2 ^ 64)
theorem QB.ok {i j:Int}(h:QB i j):IntMulOk i j:=by
 rcases h with⟨h1,h2⟩|⟨h1,h2⟩
 ·exact .of_left (intBits_le_64 h1 h2)
 ·exact .of_right (intBits_le_64 h1 h2)
theorem BM:D8 X (binaryOp .Add) (Pd λi j=>.int (i+j)):=RM λ_ _ _ _ _ _ _ q=>add_int q
theorem Bx:D8 X (binaryOp .Sub) (Pd λi j=>.int (i - j)):=RM λ_ _ _ _ _ _ _ q=>sub_int q
theorem DN:D8 X (binaryOp .Mult) (rI QB λi j=>.int (i*j)):=SA λ_ _ _ _ _ _ _ hc q=>mul_int q hc.ok
theorem Ku:D8 X (binaryOp .FloorDiv) (rI Sg λi j=>.int (i / j)):=SA λi j _ _ _ _ _ hc q=>by
 have h1:(0:Int) < j:=hc.1
 have h2:j < 1073741824:=hc.2
 exact floordiv_int (by omega) (by rw[Int.fdiv_eq_ediv_of_nonneg i (by omega)];exact q) (.inl (PyProof.noPylong_small (by omega)))
theorem Cn:D8 X (binaryOp .Mod) (rI (λ_ j=>0 < j) λi j=>.int (i % j)):=SA λi j _ _ _ _ _ hc q=>by
 have h1:(0:Int) < j:=hc
 exact mod_int' (by omega) (by rw[Int.fmod_eq_emod_of_nonneg i (by omega)];exact q)
theorem Mp:D8 X (binaryOp .Pow) (rI Si λi j=>.int (i ^ j.toNat)):=SA λ_ _ _ _ _ _ _ hc q=>pow_int_small hc.1 hc.2.1 hc.2.2 q
theorem TZ {f:Value->Sem Value}{g:Int->Int}
 (rule:∀(i:Int) (t:Tok) (s:Shared) (Q:Value->Shared->Prop) (E:Value->Shared->Prop),Q (.int (g i) s.toks) { s with toks:=s.toks+1 }->wpAny (model X.prog X.w) X.A (f (.int i t)) Q E s):
 Sd X f (rU λi=>.int (g i)):=by
 intro pins s σ H x v Q I rx h
 obtain⟨i,rfl,q⟩:=h
 obtain⟨t,rfl⟩:=rx
 exact rule i t s _ _ ⟨.int (g i),H,I.tok _,⟨_,rfl⟩,q⟩
theorem BD:Sd X (unaryOp .USub) (rU λi=>.int (-i)):=TZ λ_ _ _ _ _ q=>neg_int q
end
def RN:V->V->Bool
 |.non,.non=>true|.non,.int _=>true|.int _,.non=>true|.non,.bl _=>true|.bl _,.non=>true|.non,.str _=>true|.str _,.non=>true
 |.int _,.int _=>true|.bl _,.bl _=>true|.str _,.str _=>true|.byt _,.byt _=>true
 |.int _,.str _=>true|.str _,.int _=>true|.bl _,.str _=>true|.str _,.bl _=>true
 |_,_=>false
def Ta:R2:=λx y H Q=>RN x y=true/\Q (.bl (decide (x=y))) H
def Tb:R2:=λx y H Q=>RN x y=true/\Q (.bl (!decide (x=y))) H
theorem Kv {i j:Int}:decide (V.int i=V.int j)=(i==j):=by
 rw[Bool.eq_iff_iff]
 simp
theorem Mq {i j:Bool}:decide (V.bl i=V.bl j)=(i==j):=by
 rw[Bool.eq_iff_iff]
 simp
theorem Kw {i j:Str}:decide (V.str i=V.str j)=(i==j):=by
 rw[Bool.eq_iff_iff]
 simp
theorem Kx {i j:Array UInt8}:decide (V.byt i=V.byt j)=(i.toList==j.toList):=by
 rw[Bool.eq_iff_iff]
 cases i
 cases j
 simp
section
variable {X:Cx}{a b c:Expr}{ta tb tc:TE}{pos:Pos}
theorem As {pins:List (Addr×Obj)}{σ:St}{H:Hp}{s:Shared}{Q:VK}{k k':Bool}(I:Inv X pins σ H s)(q:Q (.bl k) H)(e:k=k'):EP X pins σ Q (.bool k') s:=by
 subst e
 exact⟨.bl k,H,I,rfl,q⟩
theorem Am:D8 X (compareOp .Eq) Ta:=by
 intro pins s σ H x y v u Q I rx ry h
 obtain⟨hs,q⟩:=h
 cases x with
 |non=>
  cases rx
  cases y with
  |non=>cases ry;exact PySem.EqNone.eq_none_none (As I q (by simp))
  |bl j=>cases ry;exact PySem.EqNone.eq_none_bool (As I q (by simp))
  |int j=>obtain⟨t',rfl⟩:=ry;exact PySem.EqNone.eq_none_int (As I q (by simp))
  |str j=>obtain⟨t',rfl⟩:=ry;exact PySem.EqNone.eq_none_str (As I q (by simp))
  |_=>exact absurd (show false=true from hs) Bool.false_ne_true
 |bl i=>
  cases rx
  cases y with
  |non=>cases ry;exact PySem.EqNone.eq_bool_none (As I q (by simp))
  |bl j=>cases ry;exact eq_bool (As I q Mq)
  |str j=>obtain⟨t',rfl⟩:=ry;exact PySem.EqMixed.eq_bool_str (As I q (by simp))
  |_=>exact absurd (show false=true from hs) Bool.false_ne_true
 |int i=>
  obtain⟨t,rfl⟩:=rx
  cases y with
  |non=>cases ry;exact PySem.EqNone.eq_int_none (As I q (by simp))
  |int j=>obtain⟨t',rfl⟩:=ry;exact eq_int (As I q Kv)
  |str j=>obtain⟨t',rfl⟩:=ry;exact PySem.EqMixed.eq_int_str (As I q (by simp))
  |_=>exact absurd (show false=true from hs) Bool.false_ne_true
 |str i=>
  obtain⟨t,rfl⟩:=rx
  cases y with
  |non=>cases ry;exact PySem.EqNone.eq_str_none (As I q (by simp))
  |bl j=>cases ry;exact PySem.EqMixed.eq_str_bool (As I q (by simp))
  |int j=>obtain⟨t',rfl⟩:=ry;exact PySem.EqMixed.eq_str_int (As I q (by simp))
  |str j=>obtain⟨t',rfl⟩:=ry;exact eq_str (As I q Kw)
  |_=>exact absurd (show false=true from hs) Bool.false_ne_true
 |byt i=>
  obtain⟨t,rfl⟩:=rx
  cases y with
  |byt j=>obtain⟨t',rfl⟩:=ry;exact PySem.W.eq_bytes (As I q Kx)
  |_=>exact absurd (show false=true from hs) Bool.false_ne_true
 |_=>cases y<;>exact absurd (show false=true from hs) Bool.false_ne_true
theorem Fe:D8 X (compareOp .NotEq) Tb:=by
 intro pins s σ H x y v u Q I rx ry h
 obtain⟨hs,q⟩:=h
 cases x with
 |non=>
  cases rx
  cases y with
  |non=>cases ry;exact PySem.EqNone.ne_none_none (As I q (by simp))
  |bl j=>cases ry;exact PySem.EqNone.ne_none_bool (As I q (by simp))
  |int j=>obtain⟨t',rfl⟩:=ry;exact PySem.EqNone.ne_none_int (As I q (by simp))
  |str j=>obtain⟨t',rfl⟩:=ry;exact PySem.EqNone.ne_none_str (As I q (by simp))
  |_=>exact absurd (show false=true from hs) Bool.false_ne_true
 |bl i=>
  cases rx
  cases y with
  |non=>cases ry;exact PySem.EqNone.ne_bool_none (As I q (by simp))
  |bl j=>cases ry;exact ne_bool (As I q (congrArg not Mq))
  |str j=>obtain⟨t',rfl⟩:=ry;exact PySem.EqMixed.ne_bool_str (As I q (by simp))
  |_=>exact absurd (show false=true from hs) Bool.false_ne_true
 |int i=>
  obtain⟨t,rfl⟩:=rx
  cases y with
  |non=>cases ry;exact PySem.EqNone.ne_int_none (As I q (by simp))
  |int j=>obtain⟨t',rfl⟩:=ry;exact ne_int (As I q (congrArg not Kv))
  |str j=>obtain⟨t',rfl⟩:=ry;exact PySem.EqMixed.ne_int_str (As I q (by simp))
  |_=>exact absurd (show false=true from hs) Bool.false_ne_true
 |str i=>
  obtain⟨t,rfl⟩:=rx
  cases y with
  |non=>cases ry;exact PySem.EqNone.ne_str_none (As I q (by simp))
  |bl j=>cases ry;exact PySem.EqMixed.ne_str_bool (As I q (by simp))
  |int j=>obtain⟨t',rfl⟩:=ry;exact PySem.EqMixed.ne_str_int (As I q (by simp))
  |str j=>obtain⟨t',rfl⟩:=ry;exact ne_str (As I q (congrArg not Kw))
  |_=>exact absurd (show false=true from hs) Bool.false_ne_true
 |byt i=>
  obtain⟨t,rfl⟩:=rx
  cases y with
  |byt j=>obtain⟨t',rfl⟩:=ry;exact PySem.W.ne_bytes (As I q (congrArg not Kx))
  |_=>exact absurd (show false=true from hs) Bool.false_ne_true
 |_=>cases y<;>exact absurd (show false=true from hs) Bool.false_ne_true
theorem BF:D8 X (compareOp .Lt) (Pd λi j=>.bl (decide (i < j))):=OP λ_ _ _ _ _ _ _ q=>lt_int q
theorem Pe:D8 X (compareOp .LtE) (Pd λi j=>.bl (decide (i<=j))):=OP λ_ _ _ _ _ _ _ q=>le_int q
theorem Ip:D8 X (compareOp .Gt) (Pd λi j=>.bl (decide (j < i))):=OP λ_ _ _ _ _ _ _ q=>gt_int q
theorem Mr:D8 X (compareOp .GtE) (Pd λi j=>.bl (decide (j<=i))):=OP λ_ _ _ _ _ _ _ q=>ge_int q
theorem Gp:D8 X (compareOp .Lt) (λx y H Q=>∃i j,x=.str i/\y=.str j/\Q (.bl (decide (i.cps.toList < j.cps.toList))) H):=by
 intro pins s σ H x y v u Q I rx ry h
 obtain⟨i,j,rfl,rfl,q⟩:=h
 obtain⟨t,rfl⟩:=rx
 obtain⟨t',rfl⟩:=ry
 exact lt_str (As I q rfl)
theorem Di:D8 X (compareOp .In) (λx y H Q=>∃i j,x=.str i/\y=.str j/\Q (.bl (!(Builtin.Str.occurrences j i 0 j.length 1).isEmpty)) H):=by
 intro pins s σ H x y v u Q I rx ry h
 obtain⟨i,j,rfl,rfl,q⟩:=h
 obtain⟨t,rfl⟩:=rx
 obtain⟨t',rfl⟩:=ry
 exact in_str (As I q rfl)
theorem AQ (b:Expr){op:CmpOp}(h:op≠.In:=by decide)(h2:op≠.NotIn:=by decide):behindInMarks op b=false:=by
 have e1:(op==CmpOp.In)=false:=by cases op<;>first|rfl|exact absurd rfl h
 have e2:(op==CmpOp.NotIn)=false:=by cases op<;>first|rfl|exact absurd rfl h2
 cases b<;>simp[behindInMarks,e1,e2]
theorem Bg {op:CmpOp}{r:R2}(ho:D8 X (compareOp op) r)(ha:PE X a ta)(hb:PE X b tb)(hm:behindInMarks op b=false):PE X (.Compare a [op] [b] pos) (Qz r ta tb):=by
 intro pins s σ H Q I h
 exact wpAny_Compare1 (QA ha hb I h λv u s2 x y H2 I2 rx ry q=>ho pins s2 σ H2 x y v u Q I2 rx ry q) hm
def RO (t:TE):TT:=λσ H Q=>t σ H λx H'=>∃k,x=.bl k/\Q k H'
theorem AL {op:CmpOp}{r:R2}(ho:D8 X (compareOp op) r)(ha:PE X a ta)(hb:PE X b tb)(hm:behindInMarks op b=false):PT X (.Compare a [op] [b] pos) (RO (Qz r ta tb)):=by
 intro pins s σ H Q I h
 refine wpAny_isTrue_Compare1 (BH (ha pins s σ H _ I h) λv s1 ⟨x,H1,I1,r1,q1⟩=>BH (hb pins s1 σ H1 _ I1 q1) λu s2 ⟨y,H2,I2,r2,q2⟩=>
  BH (ho pins s2 σ H2 x y v u _ I2 r1 r2 q2) λc s3 ⟨z,H3,I3,r3,k,e,q3⟩=>?_) hm
 subst e
 cases r3
 exact wpAny_truthy_bool ⟨H3,I3,q3⟩
def QC (r r':R2)(ta tb tc:TE):TE:=λσ H Q=>ta σ H λx H1=>tb σ H1 λy H2=>r x y H2 λz H3=>∃k,z=.bl k/\
 (if k=true then tc σ H3 λw' H4=>r' y w' H4 Q else Q (.bl false) H3)
theorem Ms {op op':CmpOp}{r r':R2}(ho:D8 X (compareOp op) r)(ho':D8 X (compareOp op') r')(ha:PE X a ta)(hb:PE X b tb)(hc:PE X c tc)
 (hm:lastMarks [op,op'] [b,c]=false:=by with_unfolding_all rfl):PE X (.Compare a [op,op'] [b,c] pos) (QC r r' ta tb tc):=by
 intro pins s σ H Q I h
 refine Compare_chain (BH (ha pins s σ H _ I h) λv s1 ⟨x,H1,I1,r1,q1⟩=>chain_link (BH (hb pins s1 σ H1 _ I1 q1) λu s2 ⟨y,H2,I2,r2,q2⟩=>
  BH (ho pins s2 σ H2 x y v u _ I2 r1 r2 q2) λd s3 ⟨z,H3,I3,r3,k,e,q3⟩=>?_)) hm
 subst e
 cases r3
 refine wpAny_truthy_bool ?_
 cases k with
 |false=>exact ite_ff ⟨.bl false,H3,I3,rfl,q3⟩
 |true=>exact ite_tt (chain_last (BH (hc pins s3 σ H3 _ I3 q3) λw' s4 ⟨z',H4,I4,r4,q4⟩=>ho' pins s4 σ H4 y z' u w' Q I4 r2 r4 q4))
def RP (K:PySem.W.Frag)(x:V)(H:Hp)(k:Bool):Prop:=
 match x with
 |.non=>k=false
 |.bl b=>k=b
 |.int i=>k=(i !=0)
 |.str y=>y.length<=sizeLine/\k=((y.length:Int) !=0)
 |.byt y=>y.size<=sizeLine/\k=((y.size:Int) !=0)
 |.ref p=>(∃xs,An K H p xs/\k=!xs.isEmpty)\/(∃xs,Ca K H p xs/\k=!xs.isEmpty)\/∃kvs,H p=some (.dK kvs)/\k=!kvs.isEmpty
 |_=>False
theorem J9 {κ:Type}{kvs:List (κ×V)}{vs:List (κ×Value)}(r:KV kvs vs):(!vs.isEmpty)=!kvs.isEmpty:=by
 cases r<;>rfl
theorem Ff {xs:List V}{its:List Value}(r:Vals xs its):(!its.toArray.isEmpty)=!xs.isEmpty:=by
 cases r<;>simp
theorem DO:(sizeLine:Nat) < 2 ^ 63:=by rw[sizeLine_eq];decide
theorem QD:Se X (λx H Q=>∃k,RP X.K x H k/\Q k H):=by
 intro pins s σ H x v Q I rx h
 obtain⟨k,e,q⟩:=h
 have hl:=DO
 have hs:sizeLine=16777216:=sizeLine_eq
 cases x with
 |non=>
  cases rx
  have e':k=false:=e
  subst e'
  exact truthy_none ⟨H,I,q⟩
 |bl b=>
  cases rx
  have e':k=b:=e
  subst e'
  exact wpAny_truthy_bool ⟨H,I,q⟩
 |int i=>
  obtain⟨t,rfl⟩:=rx
  have e':k=(i !=0):=e
  subst e'
  exact PySem.P.truthy_int ⟨H,I,q⟩
 |str y=>
  obtain⟨t,rfl⟩:=rx
  obtain⟨hy,e'⟩:y.length<=sizeLine/\k=((y.length:Int) !=0):=e
  subst e'
  exact PySem.P.truthy_str (by omega) ⟨H,I.tok _,q⟩
 |byt y=>
  obtain⟨t,rfl⟩:=rx
  obtain⟨hy,e'⟩:y.size<=sizeLine/\k=((y.size:Int) !=0):=e
  subst e'
  exact PySem.W.truthy_bytes (by omega) ⟨H,I.tok _,q⟩
 |ref p=>
  cases rx
  have e':(∃xs,An X.K H p xs/\k=!xs.isEmpty)\/(∃xs,Ca X.K H p xs/\k=!xs.isEmpty)\/∃kvs,H p=some (.dK kvs)/\k=!kvs.isEmpty:=e
  rcases e' with⟨xs,hx,e'⟩|⟨xs,hx,e'⟩|⟨kvs,hx,e'⟩
  ·subst e'
   obtain⟨its,r,pl,hz⟩:=I.list hx
   have hlen:=r.length
   exact wpAny_truthy_list pl.isList (by simp only[List.size_toArray];omega) ⟨H,I.tok _,by rw[Ff r];exact q⟩
  ·subst e'
   obtain⟨its,r,pl,hz⟩:=I.tuple hx
   have hlen:=r.length
   exact truthy_tuple pl (by simp only[List.size_toArray];omega) ⟨H,I.tok _,by rw[Ff r];exact q⟩
  ·subst e'
   obtain⟨hz,hS,vs,r,m⟩:kvs.length<=sizeLine/\(p==sysModules)=false/\∃vs,KV kvs vs/\s.heap.DictOf (A6 X.prog X.w) p vs:=I.hok p _ hx
   have hlen:kvs.length=vs.length:=Paired.length r
   exact wpAny_truthy_dict hS m (by omega) ⟨H,I.tok _,by rw[J9 r];exact q⟩
 |_=>exact(show False from e).elim
theorem Fg (ha:PE X a ta)(he:∀whole,isTrue a X.env whole=(do let v<-whole;standAt a.pos;holding [v] (truthy v))):
 PT X a (λσ H Q=>ta σ H λx H'=>∃k,RP X.K x H' k/\Q k H'):=by
 intro pins s σ H Q I h
 exact isTrue_plain (BH (ha pins s σ H _ I h) λv s1 ⟨x,H1,I1,r1,q1⟩=>QD pins s1 σ H1 x v Q I1 r1 q1) (he _)
theorem Ah:D8 X (binaryOp .Add) (λx y H Q=>∃i j,x=.str i/\y=.str j/\i.length+j.length<=sizeLine/\Q (.str (i++j)) H):=by
 intro pins s σ H x y v u Q I rx ry h
 obtain⟨i,j,rfl,rfl,hz,q⟩:=h
 obtain⟨t,rfl⟩:=rx
 obtain⟨t',rfl⟩:=ry
 exact add_str (λt' tk=>⟨.str (i++j),H,I.tok _,⟨_,rfl⟩,q⟩) hz
theorem vals1 {x:V}{us:List Value}(r:Vals [x] us):∃u,us=[u]/\RelV x u:=by
 cases r with
 |cons r1 r2=>cases r2;exact⟨_,rfl,r1⟩
theorem vals2 {x y:V}{us:List Value}(r:Vals [x,y] us):∃u w',us=[u,w']/\RelV x u/\RelV y w':=by
 cases r with
 |cons r1 r2=>
  cases r2 with
  |cons r3 r4=>cases r4;exact⟨_,_,rfl,r1,r3⟩
theorem Gq (hc:X.calm=true):B0 X (.builtin "max") (λxs H Q=>∃i j,xs=[.int i,.int j]/\Q (.int (if j > i then j else i)) H):=by
 intro pins s σ H xs us Q I r h
 obtain⟨i,j,rfl,q⟩:=h
 obtain⟨u,w',rfl,⟨t,rfl⟩,⟨t',rfl⟩⟩:=vals2 r
 refine max_two_ints (I.ok.hd hc) λh' tk k=>⟨_,H,I.kept k,?_,q⟩
 by_cases hj:j > i
 ·rw[if_pos hj,if_pos hj];exact⟨_,rfl⟩
 ·rw[if_neg hj,if_neg hj];exact⟨_,rfl⟩
theorem Dj (hc:X.calm=true):B0 X (.builtin "min") (λxs H Q=>∃i j,xs=[.int i,.int j]/\Q (.int (if j < i then j else i)) H):=by
 intro pins s σ H xs us Q I r h
 obtain⟨i,j,rfl,q⟩:=h
 obtain⟨u,w',rfl,⟨t,rfl⟩,⟨t',rfl⟩⟩:=vals2 r
 refine min_two_ints (I.ok.hd hc) λh' tk k=>⟨_,H,I.kept k,?_,q⟩
 by_cases hj:j < i
 ·rw[if_pos hj,if_pos hj];exact⟨_,rfl⟩
 ·rw[if_neg hj,if_neg hj];exact⟨_,rfl⟩
theorem Dk:B0 X (.type "int") (λxs H Q=>(∃i,xs=[.int i]/\Q (.int i) H)\/∃k,xs=[.bl k]/\Q (.int (if k then 1 else 0)) H):=by
 intro pins s σ H xs us Q I r h
 rcases h with⟨i,rfl,q⟩|⟨k,rfl,q⟩
 ·obtain⟨u,rfl,t,rfl⟩:=vals1 r
  exact call_int_int ⟨.int i,H,I,⟨_,rfl⟩,q⟩
 ·obtain⟨u,rfl,r1⟩:=vals1 r
  cases r1
  exact call_int_bool ⟨.int (if k then 1 else 0),H,I.tok _,⟨_,rfl⟩,q⟩
def Sj (K:PySem.W.Frag)(x:V)(H:Hp)(n:Nat):Prop:=
 match x with
 |.str y=>y.length<=sizeLine/\n=y.length
 |.byt y=>y.size<=sizeLine/\n=y.size
 |.ref p=>(∃xs,An K H p xs/\n=xs.length)\/∃xs,Ca K H p xs/\n=xs.length
 |_=>False
theorem Iq:B0 X (.builtin "len") (λxs H Q=>∃x n,xs=[x]/\Sj X.K x H n/\Q (.int n) H):=by
 intro pins s σ H xs us Q I r h
 obtain⟨x,n,rfl,e,q⟩:=h
 obtain⟨u,rfl,rx⟩:=vals1 r
 have hl:=DO
 have hs:sizeLine=16777216:=sizeLine_eq
 cases x with
 |str y=>
  obtain⟨t,rfl⟩:=rx
  obtain⟨hy,e'⟩:y.length<=sizeLine/\n=y.length:=e
  subst e'
  exact len_str (by omega) ⟨.int _,H,I.tok _,⟨_,rfl⟩,q⟩
 |byt y=>
  obtain⟨t,rfl⟩:=rx
  obtain⟨hy,e'⟩:y.size<=sizeLine/\n=y.size:=e
  subst e'
  exact PySem.W.len_bytes (by omega) ⟨.int _,H,I.tok _,⟨_,rfl⟩,q⟩
 |ref p=>
  cases rx
  have e':(∃xs,An X.K H p xs/\n=xs.length)\/∃xs,Ca X.K H p xs/\n=xs.length:=e
  rcases e' with⟨xs,hx,e'⟩|⟨xs,hx,e'⟩
  ·subst e'
   obtain⟨its,r',pl,hz⟩:=I.list hx
   have hlen:=r'.length
   exact Calls.call_len_list pl.isList (by simp only[List.size_toArray];omega) ⟨.int xs.length,H,I.tok _,⟨_,by simp only[List.size_toArray];rw[hlen]⟩,q⟩
  ·subst e'
   obtain⟨its,r',pl,hz⟩:=I.tuple hx
   have hlen:=r'.length
   exact len_tuple pl (by simp only[List.size_toArray];omega) ⟨.int xs.length,H,I.tok _,⟨_,by simp only[List.size_toArray];rw[hlen]⟩,q⟩
 |_=>exact(show False from e).elim
end
end L2
namespace L2
open PySem PySem.Spec PyProof.Rows
structure QE (h:Heap)(x dx C:Addr)(mA:Str->Option Value):Prop where
 obj:h.get? x=some (PySem.W.instObj C dx)
 ns:h.Ns1 dx mA
 ne:dx≠x
theorem Ln {h:Heap}{dx:Addr}{mA:Str->Option Value}(n:h.Ns1 dx mA):∃od,h.get? dx=some od/\∀name,PySem.W.lookIn name od=some (mA name):=by
 obtain⟨o,es,ep,ho,hd,hk,_,hm⟩:=n
 refine⟨o,ho,λname=>?_⟩
 have e:=hm name
 unfold nsFind findBy at e
 rw[<-Array.find?_toList]at e
 unfold PySem.W.lookIn
 rw[hd]
 dsimp only
 split
 ·rename_i y q
  rw[q]at e
  exact congrArg some e
 ·rename_i q
  rw[q]at e
  have a:es.toList.any (·.refKey)=false:=by
   rw[List.any_eq_false]
   intro y hy
   obtain⟨z,t,hkey⟩:=hk y (Array.mem_toList_iff.mp hy)
   simp[DictEntry.refKey,hkey]
  have a':¬es.toList.any (·.refKey)=true:=by rw[a];exact Bool.false_ne_true
  rw[if_neg a']
  exact congrArg some e
theorem QE.look {h:Heap}{x dx C:Addr}{mA:Str->Option Value}(I:QE h x dx C mA):∃od,PySem.W.InstAt h x (PySem.W.instObj C dx) C (some od)/\∀name,PySem.W.lookIn name od=some (mA name):=
 let⟨od,ho,hl⟩:=Ln I.ns
 ⟨od,⟨I.obj,rfl,rfl,ho⟩,hl⟩
section
variable {prog:Program}{w:World}{A:Around}{E:Value->Shared->Prop}{s:Shared}{K:PySem.W.Frag}{x dx C f:Addr}{mA:Str->Option Value}{name:Str}{v:Value}
end
section
variable {P:Program}{w:World}{H H':Hp}{h h':Heap}{a C dx:Addr}{fs fs':List (Str×V)}
theorem OQ (hok:DJ P w H h)(e:H a=some (.ins C dx fs)):∃mA,QE h a dx C mA/\(∀f,J6 (fs.lookup f) (mA f))/\PySem.Within mA (fs.map (·.1))/\fs.length<=1000/\H dx=some (.own a):=by
 obtain⟨d,z,ne,ob,mA,n,r,q⟩:=(show A0 P w H h a (.ins C dx fs)from hok a _ e)
 exact⟨mA,⟨ob,n,ne⟩,r,q,z,d⟩
end
structure Sk (K:PySem.W.Frag)(C:Addr):Prop where
 pg:PySem.W.plainGet K C Str.empty=true
 hd:PySem.W.hasDictIn K C=true
 po:PySem.W.plainOver K C=true
 sa:PySem.W.findIn K (.ref C) "__setattr__"=some (some (.builtin "object.__setattr__"))
theorem Sk.get {K:PySem.W.Frag}{C:Addr}(c:Sk K C)(f:Str):PySem.W.plainGet K C f=true:=c.pg
section
variable {X:Cx}{pins:List (Addr×Obj)}{σ:St}{H:Hp}{s:Shared}{a C dx:Addr}{fs:List (Str×V)}{f:Str}{v:V}{A:Around}{E:Value->Shared->Prop}
end
section
variable {X:Cx}{o e value:Expr}{f:Str}{pos pos' tpos:Pos}{ta tv:TE}
end
section
variable {X:Cx}{pins:List (Addr×Obj)}{σ:St}{H:Hp}{s:Shared}{A:Around}{E:Value->Shared->Prop}{Q:Value->Shared->Prop}{c:Value}{b:Bool}
inductive Ep (K:PySem.W.Frag)(H:Hp):V->Value->Prop where
 |non:Ep K H .non (.type "NoneType")
 |bl (x:Bool):Ep K H (.bl x) (.type "bool")
 |int (i:Int):Ep K H (.int i) (.type "int")
 |str (x:Str):Ep K H (.str x) (.type "str")
 |flt (x:UInt64):Ep K H (.flt x) (.type "float")
 |lst {a:Addr} {xs:List V} (e:H a=some (.lst xs)):Ep K H (.ref a) (.type "list")
 |frz {a:Addr} {o:Obj} {xs:List V} (e:H a=some (.frz o (.lst xs))):Ep K H (.ref a) (.type "list")
 |tup {a:Addr} {xs:List V} (e:H a=some (.tup xs)):Ep K H (.ref a) (.type "tuple")
 |dK {a:Addr} {kvs:List (Key×V)} (e:H a=some (.dK kvs)):Ep K H (.ref a) (.type "dict")
 |dT {a:Addr} {kvs:List (List Key×V)} (e:H a=some (.dT kvs)):Ep K H (.ref a) (.type "dict")
 |ins {a C dx:Addr} {fs:List (Str×V)} (e:H a=some (.ins C dx fs)) (cl:Sk K C) (ha:PySem.W.findIn K (.ref C) "__class__"=some (some (.builtin "object.__class__")))
  (hn:PySem.W.specialIn K (.builtin "object.__class__") "__get__"=some (some (.builtin "getset_descriptor.__get__"))) (htk:PySem.W.takesIn K (.builtin "object.__class__")=some true)
  (hm:PySem.W.mroIn K C (.type "object")=some true):Ep K H (.ref a) (.ref C)
theorem Lo {x:V}{u t:Value}(I:Inv X pins σ H s)(rx:RelV x u)(ty:Ep X.K H x t)(e:PySem.W.kitOne X.K t c=some b)(h:∀tk,Q (.bool b) { s with toks:=tk }):
 wpAny (model X.prog X.w) A (call (.builtin "isinstance") [u,c]) Q E s:=by
 cases ty with
 |non=>cases(show u=Value.none from rx);exact PySem.W.kia_one PySem.W.kitx_none I.FA True.intro e (λz=>nomatch z) h
 |bl y=>cases(show u=Value.bool y from rx);exact PySem.W.kia_one PySem.W.kitx_bool I.FA True.intro e (λz=>nomatch z) h
 |int i=>obtain⟨t,q⟩:=(show∃t,u=Value.int i t from rx);cases q;exact PySem.W.kia_one PySem.W.kitx_int I.FA True.intro e (λz=>nomatch z) h
 |str y=>obtain⟨t,q⟩:=(show∃t,u=Value.str y t from rx);cases q;exact PySem.W.kia_one PySem.W.kitx_str I.FA True.intro e (λz=>nomatch z) h
 |flt y=>obtain⟨t,q⟩:=(show∃t,u=Value.float y t from rx);cases q;exact PySem.W.kia_one PySem.W.kitx_float I.FA True.intro e (λz=>nomatch z) h
 |@lst a xs ea=>
  cases(show u=Value.ref a from rx)
  obtain⟨_,_,n,_,h1⟩:=(show A0 X.prog X.w H s.heap a (.lst xs)from I.hok a _ ea)
  exact PySem.W.kia_one PySem.W.kitx_list I.FA ⟨_,h1,rfl⟩ e (λz=>nomatch z) h
 |@frz a ob xs ea=>
  cases(show u=Value.ref a from rx)
  obtain⟨_,_,_,n,_,h1⟩:=(show A0 X.prog X.w H s.heap a (.frz ob (.lst xs))from I.hok a _ ea)
  exact PySem.W.kia_one PySem.W.kitx_list I.FA ⟨_,h1,rfl⟩ e (λz=>nomatch z) h
 |@tup a xs ea=>
  cases(show u=Value.ref a from rx)
  obtain⟨_,_,_,p⟩:=(show A0 X.prog X.w H s.heap a (.tup xs)from I.hok a _ ea)
  obtain⟨o,h1,h2,_⟩:=p
  exact PySem.W.kia_one PySem.W.kitx_tuple I.FA ⟨o,h1,h2⟩ e (λz=>nomatch z) h
 |@dK a kvs ea=>
  cases(show u=Value.ref a from rx)
  obtain⟨_,_,vs,_,p⟩:=(show A0 X.prog X.w H s.heap a (.dK kvs)from I.hok a _ ea)
  obtain⟨o,es,ep,h1,h2,_⟩:=p
  exact PySem.W.kia_one PySem.W.kitx_dict I.FA ⟨o,h1,h2.1⟩ e (λz=>nomatch z) h
 |@dT a kvs ea=>
  cases(show u=Value.ref a from rx)
  obtain⟨_,_,xs,_,o,es,ep,h1,h2,_⟩:=(show A0 X.prog X.w H s.heap a (.dT kvs)from I.hok a _ ea)
  exact PySem.W.kia_one PySem.W.kitx_dict I.FA ⟨o,h1,h2.1⟩ e (λz=>nomatch z) h
 |@ins a C dx fs ea cl ha hn htk hm=>
  cases(show u=Value.ref a from rx)
  obtain⟨mA,O,_⟩:=OQ I.hok ea
  obtain⟨od,J,_⟩:=O.look
  exact PySem.W.kia_one (PySem.W.kitx_own (cl.get _) cl.hd ha hn htk hm) I.FA J e (λz=>nomatch z) h
end
end L2
namespace L2
open PySem PySem.Spec PyProof.Rows
structure Bj (k:Nat)(A:Around):Prop where
 hd:A.handled=none
 dp:A.depth+3*k+5 < recursionLimit
 un:A.units+16*k+200 < cLine
 gd:A.guards=some []
theorem Bj.mono {j k:Nat}{A:Around}(r:Bj k A)(h:j<=k):Bj j A:=⟨r.hd,by have:=r.dp;omega,by have:=r.un;omega,by first|exact r.gd|(simpa[Around.under,Code.isGuard,guardIds]using r.gd)⟩
theorem Bj.deeper {k:Nat}{A:Around}(r:Bj (k+1) A)(env:Env):Bj k (A.deeper env):=
 ⟨r.hd,by have:=r.dp;show A.depth+1+3*k+5 < _;omega,by have:=r.un;show A.units+3+16*k+200 < _;omega,by first|exact r.gd|(simpa[Around.under,Code.isGuard,guardIds]using r.gd)⟩
theorem Bj.depth {k:Nat}{A:Around}(r:Bj k A):A.depth < recursionLimit:=by have:=r.dp;omega
theorem Bj.units {k:Nat}{A:Around}(r:Bj k A):A.units+64 < cLine:=by have:=r.un;omega
def KA:TA:=λ_ H Q=>Q [] H
def Fh (ta:TE)(tr:TA):TA:=λσ H Q=>ta σ H λx H1=>tr σ H1 λxs H2=>Q (x::xs) H2
section
variable {X:Cx}{e:Expr}{es:List Expr}{te:TE}{t:TA}{pos:Pos}
theorem AB:PA X [] KA:=λ_ _ _ _ H Q I h=>Calls.spliced_nil ⟨[],H,I,.nil,h⟩
theorem AA (ha:PE X e te)(hr:PA X es t)(hs:starEach (e::es) X.env=(false,eval e X.env)::starEach es X.env:=by rfl):PA X (e::es) (Fh te t):=by
 intro pos pins s σ H Q I h
 rw[hs]
 show wpAny _ _ (spliced ((false,eval e X.env)::backTo pos (starEach es X.env))) _ _ s
 refine Calls.spliced_cons (BH (ha pins s σ H _ I h) λu s1 ⟨x,H1,I1,r1,q1⟩=>?_)
 exact BH (hr pos pins s1 σ H1 _ I1 q1) λus s2 ⟨xs,H2,I2,r2,q2⟩=>⟨x::xs,H2,I2,.cons r1 r2,q2⟩
def Sm (t:TA):TE:=λσ H Q=>t σ H λxs H1=>xs.length<=sizeLine/\∀p,H1 p=none->Q (.ref p) (upd H1 p (.tup xs))
def RQ (t:TA):TE:=λσ H Q=>t σ H λxs H1=>xs.length<=sizeLine/\∀p,H1 p=none->Q (.ref p) (upd H1 p (.lst xs))
theorem Bc {x1}(h:PA X es t):PE X (.Tuple es x1 pos) (Sm t):=by
 intro pins s σ H Q I hq
 refine wpAny_Tuple_spliced (BH (h pos pins s σ H _ I hq) λus s1 ⟨xs,H1,I1,r,z,q⟩=>⟨by rw[<-r.length];exact z,?_⟩)
 have hf:H1 s1.heap.objs.size=none:=I1.hok.fresh (Nat.le_refl _)
 refine⟨.ref s1.heap.objs.size,upd H1 s1.heap.objs.size (.tup xs),I1.laid (t':=s1.toks) (λb u e=>Heap.get?_push_of_some _ e) (Nat.le_refl _) ?_,rfl,q _ hf⟩
 exact⟨⟨z,_,Heap.get?_push_size _ rfl,rfl⟩,us,r,⟨_,Heap.get?_push_size _ rfl,rfl,_,rfl⟩⟩
theorem AU (h:PA X es t):PE X (.List es pos) (RQ t):=by
 intro pins s σ H Q I hq
 refine wpAny_List_spliced (BH (h pos pins s σ H _ I hq) λus s1 ⟨xs,H1,I1,r,z,q⟩=>⟨by rw[<-r.length];exact z,?_⟩)
 have hf:H1 s1.heap.objs.size=none:=I1.hok.fresh (Nat.le_refl _)
 refine⟨.ref s1.heap.objs.size,upd H1 s1.heap.objs.size (.lst xs),I1.laid (t':=s1.toks) (λb u e=>Heap.get?_push_of_some _ e) (Nat.le_refl _) ?_,rfl,q _ hf⟩
 exact⟨z,us,0,r,Heap.get?_push_size _ rfl⟩
end
abbrev Sp:=List V->Hp->VK->XK->Prop
abbrev GX:=List Env->Hp->Shared->XK->Value->Shared->Prop
structure Lp (P:Program)(w:World)(K:PySem.W.Frag)(mg:Str->Option Value)(base:Heap)(A:Around)(outer:List Env)(s:Shared)(H:Hp):Prop where
 frames:A.frames=some outer
 mod:Mod K mg base
 bs:∀b o,base.get? b=some o->s.heap.get? b=some o/\H b=none
 bsz:base.objs.size<=s.heap.objs.size
 DK:s.heap.FunFrames base outer
 frf:∀b∈EH outer,H b=none
 hok:DJ P w H s.heap
 bare:AllBare s.gens
def CE (outer:List Env)(P:Program)(w:World)(H:Hp)(s:Shared)(Q:VK)(u:Value)(s':Shared):Prop:=
 ∃v H',s'.os=s.os/\AllBare s'.gens/\Un (EH outer) [] H H' s.heap s'.heap/\DJ P w H' s'.heap/\RelV v u/\Q v H'
def CR (CX:GX)(outer:List Env)(P:Program)(w:World)(H:Hp)(s:Shared)(Q:VK)(E:XK)(r:Result)(s':Shared):Prop:=
 match r with
 |.ok (.ret u)=>CE outer P w H s Q u s'
 |.ok _=>False
 |.error e=>CX outer H s E e s'
structure D9 (P:Program)(w:World)(K:PySem.W.Frag)(mg:Str->Option Value)(base:Heap)(CX:GX)(k:Nat)(f:Addr)(fd:FuncData)(ps:List Str)(sp:Sp):Prop where
 len:∀vs H Q E,sp vs H Q E->vs.length=ps.length
 run:∀(A:Around) (outer:List Env) (s:Shared) (H:Hp) (args:Args) (us:List Value) (vs:List V) (Q:VK) (E:XK),Bj k A->Lp P w K mg base A outer s H->BindsTo s fd args (ps.zip us)->Vals vs us->sp vs H Q E->
  codeAny (model P w) A (.call (.ref f) args) (CR CX outer P w H s Q E) s
theorem D9.mono {P:Program}{w:World}{K:PySem.W.Frag}{mg:Str->Option Value}{base:Heap}{CX:GX}{j k:Nat}{f:Addr}{fd:FuncData}{ps:List Str}{sp:Sp}(F:D9 P w K mg base CX j f fd ps sp)(h:j<=k):
 D9 P w K mg base CX k f fd ps sp:=⟨F.len,λA outer s H args us vs Q E hr=>F.run A outer s H args us vs Q E (hr.mono h)⟩
section
variable {X:Cx}{pins:List (Addr×Obj)}{σ:St}{H:Hp}{s s':Shared}
theorem Inv.OR (I:Inv X pins σ H s):Lp X.prog X.w X.K X.mg X.base X.A X.stack s H:=
 ⟨I.ok.frames,I.ok.mod,I.bs,Nat.le_trans I.ok.bsz I.sz,I.stack,I.Hl,I.hok,I.bare⟩
theorem Inv.after {Q:VK}{u:Value}(I:Inv X pins σ H s)(h:CE X.stack X.prog X.w H s Q u s'):EP X pins σ Q u s':=by
 obtain⟨v,H',os,bare,un,hok,r,q⟩:=h
 obtain⟨hh,g,d,t,os'⟩:=s'
 obtain rfl:os'=s.os:=os
 exact⟨v,H',I.call (h':=hh) (g':=g) (d':=d) (t':=t) (ch:=[]) un hok bare (λb z=>absurd z (by simp)),r,q⟩
end
def Gr (sp:Sp)(dvs:List V)(E:XK)(t:TA):TE:=λσ H Q=>t σ H λvs H1=>sp (vs++dvs) H1 Q E
def Binds (K:PySem.W.Frag)(fd:FuncData)(ps:List Str)(ds:List Value):Prop:=
 ∀(s:Shared) (us:List Value),K.In s.heap->(us++ds).length=ps.length->BindsTo s fd ⟨us,[]⟩ (ps.zip (us++ds))
theorem Binds.all {K:PySem.W.Frag}{fd:FuncData}{ps:List Str}(h:∀us:List Value,us.length=ps.length->bindArgs fd ⟨us,[]⟩=pure (ps.zip us)):Binds K fd ps []:=λs us _ hl=>by
 rw[List.append_nil]at hl ⊢
 exact .of_eq (h us hl)
def Passes (CX:GX)(X:Cx)(E:XK):Prop:=∀(pins:List (Addr×Obj)) (σ:St) (H:Hp) (s:Shared) (e:Value) (s':Shared),Inv X pins σ H s->CX X.stack H s E e s'->X.xe e s'
section
variable {X:Cx}{CX:GX}{k:Nat}{f C:Addr}{fd:FuncData}{ps:List Str}{sp:Sp}{dvs:List V}{ds:List Value}{E:XK}{x m:Str}{p pos apos:Pos}{e o:Expr}{es:List Expr}{ta:TE}{t:TA}
theorem QF {pins:List (Addr×Obj)}{σ:St}{H:Hp}{s:Shared}{Q:VK}{us:List Value}{vs:List V}(F:D9 X.prog X.w X.K X.mg X.base CX k f fd ps sp)(hr:Bj k X.A)(hb:Binds X.K fd ps ds)(hd:Vals dvs ds)(hx:Passes CX X E)
 (I:Inv X pins σ H s)(r:Vals vs us)(h:sp (vs++dvs) H Q E):wpAny (model X.prog X.w) X.A (call (.ref f) us) (EP X pins σ Q) X.xe s:=by
 have r2:Vals (vs++dvs) (us++ds):=r.append hd
 have hl:(us++ds).length=ps.length:=by rw[<-r2.length];exact F.len _ _ _ _ h
 refine wpAny_call (codeAny_mono (F.run X.A X.stack s H ⟨us,[]⟩ (us++ds) (vs++dvs) Q E hr I.OR (hb s us I.FA hl) r2 h) λr s' hq=>?_)
 cases r with
 |error e=>exact hx pins σ H s e s' I hq
 |ok fl=>
  cases fl with
  |ret u=>exact I.after hq
  |next=>exact False.elim hq
  |brk=>exact False.elim hq
  |cont=>exact False.elim hq
theorem Ky (F:D9 X.prog X.w X.K X.mg X.base CX k f fd ps sp)(hr:Bj k X.A)(hg:Gl X x)(hm:X.mg x=some (.ref f))(hk:PySem.W.keepIn X.K (.ref f)=true)(hb:Binds X.K fd ps ds)(hd:Vals dvs ds)(hx:Passes CX X E)
 (ha:PA X (e::es) t)(hdb:(x==("__debug__":Str))=false:=by decide)(he:starEach (e::es) X.env=(false,eval e X.env)::starEach es X.env:=by rfl)(hpl:(backTo pos (starEach es X.env)).any (·.1)=false:=by rfl):
 PE X (.Call (.Name x p) (e::es) [] pos) (Gr sp dvs E t):=by
 intro pins s σ H Q I h
 refine wpAny_Call_Name_kw (C3 I hg hm ?_ hdb)
 refine PySem.W.callWith_K (h₀:=X.base) I.ok.mod.kin hk (BH (ha pos pins s σ H _ I h) λus s1 ⟨vs,H1,I1,r,q⟩=>⟨I1.FA,?_⟩) he hpl
 exact QF F hr hb hd hx I1 r q
end
section
variable {X:Cx}{CX:GX}{k:Nat}{f C:Addr}{fd:FuncData}{ps ks:List Str}{sp:Sp}{E:XK}{x m:Str}{p pos apos kpos:Pos}{e o:Expr}{es:List Expr}{kws:List Keyword}{te ta:TE}{t tk:TA}{nm:Option Str}
variable {g:List Value->List Value->List Value}{gV:List V->List V->List V}
end
structure Ab (N P:List Str)(sc:Scope):Prop where
 kind:sc.kind=.function
 co:sc.isCoroutine=false
 gen:sc.isGenerator=false
 nd:N.Nodup
 pre:N.take P.length=P
 par:∀x∈P,sc.names.lookup x=some .local\/sc.names.lookup x=some .cell
 nofree:∀y∈sc.names,y.2≠.free
theorem Gs {kindOf:Str->Option NameKind}{x:Str}:∀{binds:List (Str×Value)} {m:Str->Option Value},(∀v,(x,v)∉binds)->bindL kindOf binds m x=m x
 |[],_,_=>rfl
 |(n,v)::r,m,h=>by
  unfold bindL
  rw[Gs λw hw=>h w (List.mem_cons_of_mem _ hw)]
  split
  ·have:x≠n:=by rintro rfl;exact h v List.mem_cons_self
   simp[this]
  ·rfl
theorem Gu {kindOf:Str->Option NameKind}{x:Str}:∀{binds:List (Str×Value)} {m:Str->Option Value},(∀v,(x,v)∉binds)->bindC kindOf binds m x=m x
 |[],_,_=>rfl
 |(n,v)::r,m,h=>by
  unfold bindC
  rw[Gu λw hw=>h w (List.mem_cons_of_mem _ hw)]
  split
  ·rfl
  ·have:x≠n:=by rintro rfl;exact h v List.mem_cons_self
   simp[this]
theorem Er {kindOf:Str->Option NameKind}{x:Str}{v:Value}:∀{P:List Str} {vs:List Value} {i:Nat} {m:Str->Option Value},P.Nodup->P[i]?=some x->vs[i]?=some v->kindOf x=some .local->
 bindL kindOf (P.zip vs) m x=some v
 |[],_,_,_,_,h,_,_=>by simp at h
 |_::_,[],_,_,_,_,h,_=>by simp at h
 |p::P,w::vs,0,m,nd,h1,h2,hk=>by
  simp at h1 h2;subst h1;subst h2
  show bindL kindOf ((p,w)::P.zip vs) m p=_
  unfold bindL
  rw[Gs λv hv=>(List.nodup_cons.mp nd).1 (List.of_mem_zip hv).1,if_pos hk]
  simp
 |p::P,w::vs,i+1,m,nd,h1,h2,hk=>by
  show bindL kindOf ((p,w)::P.zip vs) m x=_
  unfold bindL
  exact Er (i:=i) (List.nodup_cons.mp nd).2 (by simpa using h1) (by simpa using h2) hk
theorem Es {kindOf:Str->Option NameKind}{x:Str}{v:Value}:∀{P:List Str} {vs:List Value} {i:Nat} {m:Str->Option Value},P.Nodup->P[i]?=some x->vs[i]?=some v->kindOf x≠some .local->
 bindC kindOf (P.zip vs) m x=some v
 |[],_,_,_,_,h,_,_=>by simp at h
 |_::_,[],_,_,_,_,h,_=>by simp at h
 |p::P,w::vs,0,m,nd,h1,h2,hk=>by
  simp at h1 h2;subst h1;subst h2
  show bindC kindOf ((p,w)::P.zip vs) m p=_
  unfold bindC
  rw[Gu λv hv=>(List.nodup_cons.mp nd).1 (List.of_mem_zip hv).1,if_neg hk]
  simp
 |p::P,w::vs,i+1,m,nd,h1,h2,hk=>by
  show bindC kindOf ((p,w)::P.zip vs) m x=_
  unfold bindC
  exact Es (i:=i) (List.nodup_cons.mp nd).2 (by simpa using h1) (by simpa using h2) hk
def start (N:List Str)(vs:List V):St:=vs.map some++List.replicate (N.length - vs.length) none
def Dw (CX:GX)(P:Program)(w:World)(K:PySem.W.Frag)(mg:Str->Option Value)(base:Heap)(N:List Str)(qual:Str)(scope:Scope)(f:Addr)(cd:Value)(A:Around)(outer:List Env)(s:Shared)(H:Hp)(E:XK):Cx where
 prog:=P
 w:=w
 K:=K
 mg:=mg
 base:=base
 A:=A.deeper (envOfC qual scope s.heap.objs.size f cd)
 N:=N
 s₀:=s
 H₀:=H
 env:=envOfC qual scope s.heap.objs.size f cd
 outer:=outer
 stack:=envOfC qual scope s.heap.objs.size f cd::outer
 ex:=[]
 calm:=true
 fn:=λ_=>true
 pn:=[]
 xe:=λe s'=>wpAny (model P w) (A.deeper (envOfC qual scope s.heap.objs.size f cd)) (leaving (envOfC qual scope s.heap.objs.size f cd) e) (λ_ s''=>CX outer H s E e s'') (λe' s''=>CX outer H s E e' s'') s'
theorem EK {sc:Scope}{n:Nat}{x:Str}(h:sc.names.lookup x=some .cell):∃c,(cellsFrom n sc.names []).lookup x=some c:=by
 have q:=PySem.W.cellsFrom_some sc.names n [] (.inl h)
 exact Option.isSome_iff_exists.mp q
theorem Lq {CX:GX}{P:Program}{w:World}{K:PySem.W.Frag}{mg:Str->Option Value}{base:Heap}{N ps:List Str}{qual:Str}{scope:Scope}{f:Addr}{cd:Value}{A:Around}{outer:List Env}{s s1:Shared}{H:Hp}{E:XK}{us:List Value}{vs:List V}
 (S:Ab N ps scope)(hd:A.handled=none)(e0:Lp P w K mg base A outer s H)(hl:vs.length=ps.length)(r:Vals vs us)
 (x:InCallC s s.heap.objs.size (bindL (envOfC qual scope s.heap.objs.size f cd).kindOf (ps.zip us) λ_=>none) (cellsFrom (s.heap.objs.size+1) scope.names []) (bindC (envOfC qual scope s.heap.objs.size f cd).kindOf (ps.zip us) λ_=>none) s1):
 Inv (Dw CX P w K mg base N qual scope f cd A outer s H E) [] (start N vs) H s1:=by
 have hpl:ps.length<=N.length:=by have:=congrArg List.length S.pre;rw[List.length_take]at this;omega
 obtain⟨h1,tk,rfl,hk⟩:=x.done
 have noA:∀b:Addr,b∉(Dw CX P w K mg base N qual scope f cd A outer s H E).ex:=λb z=>absurd (show b∈([]:List Addr)from z) (by simp)
 refine⟨⟨e0.mod,S.kind,rfl,rfl,Nat.le_refl _,λy z c h1 h2=>?_,λy hy=>?_,λy c _ h=>?_,λ_=>hd,Around.frames_deeper e0.frames,.inr ⟨rfl,rfl⟩,λb z=>absurd z (noA b),e0.bs,e0.bsz,λb _ _=>noA b,λb z=>absurd z (noA b),e0.DK,e0.frf⟩,
  rfl,e0.bare,Un.kept hk,⟨_,x.toInCall.ns,λi y v h1 h2 h3=>?_⟩,λy c h=>⟨_,x.cell y c h⟩,e0.hok.fresh (Nat.le_refl _),λy c h=>?_,λp hp=>absurd (show p∈([]:List (Addr×Obj))from hp) (by simp),e0.hok.kept hk,?_⟩
 ·exact name_of_addr x.apart (PySem.mem_of_lookup h1) (PySem.mem_of_lookup h2)
 ·have hy:scope.names.lookup y=some .cell\/scope.names.lookup y=some .free:=hy
  rcases hy with hy|hy
  ·exact EK hy
  ·exact absurd rfl (S.nofree _ (PySem.mem_of_lookup hy))
 ·exact Nat.le_of_lt (x.above y c (PySem.mem_of_lookup h))
 ·have hi:i < vs.length:=by
   unfold start at h2
   by_cases hi:i < vs.length
   ·exact hi
   ·rw[List.getElem?_append_right (by simpa using hi)]at h2
    rw[List.getElem?_replicate]at h2
    split at h2<;>cases h2
  have ha:vs[i]?=some v:=by
   unfold start at h2
   rw[List.getElem?_append_left (by simpa using hi),List.getElem?_map]at h2
   cases e:vs[i]? with
   |none=>rw[e]at h2;cases h2
   |some a=>rw[e]at h2;cases h2;rfl
  obtain⟨u,hu,rv⟩:=r.get ha
  have hp:ps[i]?=some y:=by
   rw[<-S.pre,List.getElem?_take_of_lt (by omega)];exact h1
  have ndP:ps.Nodup:=by rw[<-S.pre];exact S.nd.sublist (List.take_sublist _ _)
  refine⟨u,rv,?_⟩
  rcases S.par y (List.mem_of_getElem? hp)with k|k
  ·exact .inl ⟨k,Er ndP hp hu k⟩
  ·obtain⟨c,e⟩:=EK (n:=s.heap.objs.size+1) k
   refine .inr ⟨.inl k,c,e,?_⟩
   have q:=x.cell y c e
   rw[Es ndP hp hu (by show scope.names.lookup y≠_;rw[k];decide)]at q
   exact q
 ·exact e0.hok.fresh (Nat.le_of_lt (x.above y c (PySem.mem_of_lookup h)))
 ·unfold start
  show _=N.length
  rw[List.length_append,List.length_map,List.length_replicate]
  omega
theorem Pg {CX:GX}{P:Program}{w:World}{K:PySem.W.Frag}{mg:Str->Option Value}{base:Heap}{k:Nat}{f:Addr}{name qual:Str}{params:Arguments}{body:List Stmt}{scope:Scope}{dV kV doc pm cdv ct oc:Value}{an od:Option Addr}
 {osl:Array (Option Value)}{N ps:List Str}{sp:Sp}(lk:K.lookup f=some ⟨oc,od,.func (PySem.W.fnOf name qual params body scope dV kV doc pm an cdv ct),osl⟩)(hcd:PySem.W.codeIn K cdv qual=true)(S:Ab N ps scope)
 (len:∀vs H Q E,sp vs H Q E->vs.length=ps.length)
 (hbody:∀(A:Around) (outer:List Env) (s:Shared) (H:Hp) (vs:List V) (Q:VK) (E:XK),Bj k (A.deeper (envOfC qual scope s.heap.objs.size f cdv))->sp vs H Q E->
  ∃t,Fb (Dw CX P w K mg base N qual scope f cdv A outer s H E) body t/\t { nx:=λ_ H'=>Q .non H',rt:=Q } (start N vs) H):
 D9 P w K mg base CX (k+1) f (PySem.W.fnOf name qual params body scope dV kV doc pm an cdv ct) ps sp:=by
 refine⟨len,λA outer s H args us vs Q E hr e0 hb r hsp=>?_⟩
 have hl:=len _ _ _ _ hsp
 have KX:K.In s.heap:=e0.mod.kin.keeps λb o e=>(e0.bs b o e).1
 have lim:s.heap.NoLimit:=e0.mod.nolimit.keeps λb o e=>(e0.bs b o e).1
 have hkind:∀y∈ps.zip us,scope.names.lookup y.1=some .local\/(scope.names.lookup y.1=some .cell/\((cellsFrom (s.heap.objs.size+1) scope.names []).lookup y.1).isSome=true):=λ⟨n,v⟩ hy=>by
  rcases S.par n (List.of_mem_zip hy).1 with q|q
  ·exact .inl q
  ·exact .inr ⟨q,PySem.W.cellsFrom_some _ _ _ (.inl q)⟩
 refine codeAny_call_function hr.depth (KX _ _ lk) rfl S.co S.gen rfl (PySem.W.codeRec_of KX hcd) (hb _ _ _ _ ?_)
 refine wpAny_newFunctionEnv_cells S.kind hkind λenv he s1 x=>?_
 subst he
 refine⟨lim.keeps x.toInCall.keep,codeAny_func ?_⟩
 obtain⟨t,ht,hq⟩:=hbody A outer s H vs Q E (hr.deeper _) hsp
 have I:Inv (Dw CX P w K mg base N qual scope f cdv A outer s H E) [] (start N vs) H s1:=Lq S hr.hd e0 hl r x
 refine wpAny_mono (ht [] s1 (start N vs) H _ I hq) (λfl s' hs=>?_) λe s' hs=>hs
 have fin:∀{σ':St} {H':Hp} {v:V} {u:Value},Inv (Dw CX P w K mg base N qual scope f cdv A outer s H E) [] σ' H' s'->RelV v u->Q v H'->CE outer P w H s Q u s':=
  λ{σ' H' v u} J rv q=>⟨v,H',J.os,J.bare,J.base,J.hok,rv,q⟩
 cases fl with
 |ret u=>
  obtain⟨v,σ',H',J,rv,q⟩:=hs
  exact fin J rv q
 |next=>
  obtain⟨σ',H',J,q⟩:=hs
  exact fin (v:=V.non) (u:=Value.none) J rfl q
 |brk=>
  obtain⟨_,_,_,q⟩:=hs
  exact False.elim q
 |cont=>
  obtain⟨_,_,_,q⟩:=hs
  exact False.elim q
end L2
namespace L2
open PySem PySem.Spec PyProof.Rows
section
variable {X:Cx}{x:Str}{p pos:Pos}{e:Expr}{es:List Expr}{t:TA}{id T:String}{r:List V->Hp->VK->Prop}
def TK (r:List V->Hp->VK->Prop)(t:TA):TE:=λσ H Q=>t σ H λvs H1=>r vs H1 Q
theorem AN (hc:B0 X (.builtin id) r)(hg:Gl X x)(hm:X.mg x=none)(hv:bootBuiltins x=some (.builtin id))(ha:PA X (e::es) t)(hn:x≠"__name__":=by decide)(hdb:(x==("__debug__":Str))=false:=by decide)
 (he:starEach (e::es) X.env=(false,eval e X.env)::starEach es X.env:=by rfl)(hpl:(backTo pos (starEach es X.env)).any (·.1)=false:=by rfl):PE X (.Call (.Name x p) (e::es) [] pos) (TK r t):=by
 intro pins s σ H Q I h
 refine wpAny_Call_Name_kw (C4 I hg hm hv ?_ hn hdb)
 exact PyProof.Rows.callWith_builtin1 (BH (ha pos pins s σ H _ I h) λus s1 ⟨vs,H1,I1,r1,q1⟩=>hc pins s1 σ H1 vs us Q I1 r1 q1) he hpl
theorem BI (hc:B0 X (.type T) r)(hg:Gl X x)(hm:X.mg x=none)(hv:bootBuiltins x=some (.type T))(ha:PA X (e::es) t)(hn:x≠"__name__":=by decide)(hdb:(x==("__debug__":Str))=false:=by decide)
 (he:starEach (e::es) X.env=(false,eval e X.env)::starEach es X.env:=by rfl)(hpl:(backTo pos (starEach es X.env)).any (·.1)=false:=by rfl):PE X (.Call (.Name x p) (e::es) [] pos) (TK r t):=by
 intro pins s σ H Q I h
 refine wpAny_Call_Name_kw (C4 I hg hm hv ?_ hn hdb)
 exact PyProof.Rows.callWith_type1 (BH (ha pos pins s σ H _ I h) λus s1 ⟨vs,H1,I1,r1,q1⟩=>hc pins s1 σ H1 vs us Q I1 r1 q1) he hpl
end
end L2
namespace HT
open PySem PyProof.Rows
section
open PySem.SeqAt
open PySem.AutoSeq1 (wpAny_loadPart')
open PySem.MeetsSeq PySem.MeetsSeq2 PySem.MeetsSeq3
end
section
variable {prog:Program}{w:World}{A:Around}{E:Value->Shared->Prop}{s:Shared}
def CD (n d:Nat):Option Int->Nat
 |none=>d
 |some v=>if v < 0 then(v+(n:Int)).toNat else min v.toNat n
theorem Ir (n d:Nat):CD n d none=d:=rfl
theorem Dm (n d k:Nat):CD n d (some (k:Int))=min k n:=by
 show(if(k:Int) < 0 then((k:Int)+(n:Int)).toNat else min (k:Int).toNat n)=min k n
 rw[if_neg (by omega),Int.toNat_natCast]
theorem Mt (n d:Nat)(hd:d<=n)(o:Option Int):CD n d o<=n:=by
 cases o with
 |none=>exact hd
 |some v=>
  show(if v < 0 then(v+(n:Int)).toNat else min v.toNat n)<=n
  by_cases hv:v < 0
  ·rw[if_pos hv];omega
  ·rw[if_neg hv];exact Nat.min_le_right _ _
end
end HT
namespace L2
open PySem PySem.Spec PyProof.Rows
abbrev TO:=St->Hp->(Option Int->Hp->Prop)->Prop
def PO (X:Cx)(e:Option Expr)(t:TO):Prop:=
 ∀(pins:List (Addr×Obj)) (s:Shared) (σ:St) (H:Hp) (Q:Option Int->Hp->Prop),Inv X pins σ H s->t σ H Q->
  wpAny (model X.prog X.w) X.A (evalPart e X.env) (λu s'=>∃o H',Inv X pins σ H' s'/\IsPart u o/\Q o H') X.xe s
def OS:TO:=λ_ H Q=>Q none H
def RT (t:TE):TO:=λσ H Q=>t σ H λx H1=>∃i,x=.int i/\Q (some i) H1
section
variable {X:Cx}{e:Expr}{te:TE}{lo hi:Option Expr}{tl th:TO}{pos p2:Pos}
theorem B2:PO X none OS:=by
 intro pins s σ H Q I h
 rw[evalPart_none]
 exact wpAny_pure ⟨none,H,I,.none,h⟩
theorem BE (h:PE X e te):PO X (some e) (RT te):=by
 intro pins s σ H Q I hw
 rw[evalPart_some]
 refine BH (h pins s σ H _ I hw) λu s1 ⟨x,H1,I1,r1,q1⟩=>?_
 obtain⟨i,rfl,q⟩:=q1
 obtain⟨t,rfl⟩:=r1
 exact⟨some i,H1,I1,.int i t,q⟩
def Sn (X:Cx)(r:V->Option Int->Option Int->Hp->VK->Prop):Prop:=
 ∀(pins:List (Addr×Obj)) (s:Shared) (σ:St) (H:Hp) (x:V) (v vl vu:Value) (lo hi:Option Int) (sl:Addr) (Q:VK),Inv X pins σ H s->RelV x v->s.heap.IsSliceOf sl vl vu .none->IsPart vl lo->IsPart vu hi->r x lo hi H Q->
  ∃T id,typeLookup (.type T) "__getitem__"=pure (some (.builtin id))/\s.TypeIs v T/\wpAny (model X.prog X.w) X.A (getItem v (.ref sl)) (EP X pins σ Q) X.xe s
def Tc (r:V->Option Int->Option Int->Hp->VK->Prop)(te:TE)(tl th:TO):TE:=λσ H Q=>te σ H λx H1=>tl σ H1 λl H2=>th σ H2 λu H3=>r x l u H3 Q
theorem BK {r:V->Option Int->Option Int->Hp->VK->Prop}(hr:Sn X r)(he:PE X e te)(hl:PO X lo tl)(hu:PO X hi th):PE X (.Subscript e (.Slice lo hi none p2) pos) (Tc r te tl th):=by
 intro pins s σ H Q I h
 refine Subscript_ (BH (he pins s σ H _ I h) λv s1 ⟨x,H1,I1,r1,q1⟩=>?_)
 refine wpAny_Slice (BH (hl pins s1 σ H1 _ I1 q1) λvl s2 ⟨l,H2,I2,pl,q2⟩=>BH (hu pins s2 σ H2 _ I2 q2) λvu s3 ⟨u,H3,I3,pu,q3⟩=>?_)
 rw[evalPart_none]
 refine wpAny_pure ?_
 have I4:Inv X pins σ H3 { s3 with heap:=s3.heap.push { cls:=.type "slice",data:=.fields #[vl,vu,.none] } }:=I3.kept (t':=s3.toks) λb ob q=>Heap.get?_push_of_some _ q
 obtain⟨T,id,hT,ht,hg⟩:=hr pins { s3 with heap:=s3.heap.push { cls:=.type "slice",data:=.fields #[vl,vu,.none] } } σ H3 x v vl vu l u s3.heap.objs.size Q I4 r1 (Heap.IsSliceOf.new ..) pl pu q3
 show wpAny (model X.prog X.w) X.A (subscriptTail e (.Slice lo hi none p2) v (.ref s3.heap.objs.size)) (EP X pins σ Q) X.xe { s3 with heap:=s3.heap.push { cls:=.type "slice",data:=.fields #[vl,vu,.none] } }
 exact tail_any (ops:=[.ref s3.heap.objs.size,v]) ht hT hg (by with_unfolding_all rfl)
def Fi (xs:List V)(lo hi:Option Int):List V:=(xs.drop (HT.CD xs.length 0 lo)).take (HT.CD xs.length xs.length hi - HT.CD xs.length 0 lo)
theorem FD (xs:List V)(lo hi:Option Int):(Fi xs lo hi).length<=xs.length:=by
 unfold Fi
 rw[List.length_take,List.length_drop]
 omega
end
end L2
namespace L2
open PySem PySem.Spec PyProof.Rows
def Lr (n:Nat)(i:Int):Option Nat:=if 0<=i then(if i < n then some i.toNat else none)else if -(n:Int)<=i then some (i+n).toNat else none
def DP {α:Type}(xs:List α)(i:Int):Option α:=(Lr xs.length i).bind λj=>xs[j]?
theorem Kz {n:Nat}{i:Int}{j:Nat}(h:Lr n i=some j):seqIndex? i n=some j/\j < n/\-(n:Int)<=i/\i < n:=by
 unfold Lr at h
 by_cases h0:0<=i
 ·rw[if_pos h0]at h
  by_cases h1:i < n
  ·rw[if_pos h1]at h
   have e:i.toNat=j:=Option.some.inj h
   exact⟨by rw[seqIndex_of h0 h1,e],by omega,by omega,h1⟩
  ·rw[if_neg h1]at h;cases h
 ·rw[if_neg h0]at h
  by_cases h1:-(n:Int)<=i
  ·rw[if_pos h1]at h
   have e:(i+n).toNat=j:=Option.some.inj h
   exact⟨by rw[seqIndex_neg (by omega) h1,e],by omega,h1,by omega⟩
  ·rw[if_neg h1]at h;cases h
theorem Hn {α:Type}{xs:List α}{i:Int}{v:α}(h:DP xs i=some v):∃j,seqIndex? i xs.length=some j/\xs[j]?=some v/\j < xs.length/\-(xs.length:Int)<=i/\i < xs.length:=by
 unfold DP at h
 cases e:Lr xs.length i with
 |none=>rw[e]at h;cases h
 |some j=>
  rw[e]at h
  obtain⟨h1,h2,h3,h4⟩:=Kz e
  exact⟨j,h1,h,h2,h3,h4⟩
theorem A4 {α:Type}{xs:List α}{j:Nat}{v:α}(h:xs[j]?=some v):DP xs (j:Int)=some v:=by
 have hj:j < xs.length:=(List.getElem?_eq_some_iff.mp h).1
 have e:Lr xs.length (j:Int)=some j:=by
  unfold Lr
  rw[if_pos (by omega),if_pos (by omega)];simp
 unfold DP;rw[e];exact h
theorem DQ {α:Type}(xs:List α)(v:α):DP (xs++[v]) (-1)=some v:=by
 have hl:(xs++[v]).length=xs.length+1:=by simp
 have e:Lr (xs++[v]).length (-1)=some xs.length:=by
  unfold Lr
  rw[hl,if_neg (by decide),if_pos (by omega)]
  congr 1
  omega
 unfold DP
 rw[e]
 show(xs++[v])[xs.length]?=some v
 simp
def K0 (b:Expr):Prop:=∀o i,subscripted b false o i=operate [o,i] (getItem o i)
def Mi (X:Cx)(r:R2):Prop:=
 ∀(value slice:Expr) (pins:List (Addr×Obj)) (s:Shared) (σ:St) (H:Hp) (x y:V) (v u:Value) (Q:VK),Inv X pins σ H s->RelV x v->RelV y u->r x y H Q->
  subscripted slice false v u=operate [v,u] (getItem v u)->wpAny (model X.prog X.w) X.A (subscriptTail value slice v u) (EP X pins σ Q) X.xe s
def RU (X:Cx)(id:String)(r:V->List V->Hp->VK->Prop):Prop:=
 ∀(pins:List (Addr×Obj)) (s:Shared) (σ:St) (H:Hp) (x:V) (xs:List V) (v:Value) (us:List Value) (Q:VK),Inv X pins σ H s->RelV x v->Vals xs us->r x xs H Q->
  wpAny (model X.prog X.w) X.A (call (.builtin id) (v::us)) (EP X pins σ Q) X.xe s
section
variable {X:Cx}{a b:Expr}{ta tb:TE}{pos:Pos}
theorem Mi.or {r r':R2}(h:Mi X r)(h':Mi X r'):Mi X (λx y H Q=>r x y H Q\/r' x y H Q):=by
 intro value slice pins s σ H x y v u Q I rx ry q hs
 rcases q with q|q
 ·exact h value slice pins s σ H x y v u Q I rx ry q hs
 ·exact h' value slice pins s σ H x y v u Q I rx ry q hs
theorem Ad {r:R2}(hr:Mi X r)(ha:PE X a ta)(hb:PE X b tb)(hs:K0 b):PE X (.Subscript a b pos) (Qz r ta tb):=by
 intro pins s σ H Q I h
 exact Subscript_ (QA ha hb I h λv u s2 x y H2 I2 rx ry q=>hr a b pins s2 σ H2 x y v u Q I2 rx ry q (hs _ _))
def QG (K:PySem.W.Frag):R2:=λx y H Q=>∃p xs i v,x=.ref p/\y=.int i/\An K H p xs/\DP xs i=some v/\Q v H
def QH (K:PySem.W.Frag):R2:=λx y H Q=>∃p xs i v,x=.ref p/\y=.int i/\Ca K H p xs/\DP xs i=some v/\Q v H
def RV:R2:=λx y H Q=>∃z i c,x=.str z/\y=.int i/\z.length<=sizeLine/\DP z.cps.toList i=some c/\Q (.str ⟨#[c]⟩) H
theorem Af:Mi X (QG X.K):=by
 intro value slice pins s σ H x y v u Q I rx ry h hs
 obtain⟨p,xs,i,z,rfl,rfl,hq,he,q⟩:=h
 cases rx
 obtain⟨t,rfl⟩:=ry
 obtain⟨its,r,pl,hz⟩:=I.list hq
 obtain⟨j,h1,h2,h3,h4,h5⟩:=Hn he
 obtain⟨w,ew,rw'⟩:=r.get h2
 have hl:=r.length
 have hn:=DO
 have fin:EP X pins σ Q w s:=⟨z,H,I,rw',q⟩
 by_cases h0:0<=i
 ·have hj:i.toNat=j:=by
   rw[seqIndex_of h0 h5]at h1
   exact Option.some.inj h1
  exact item_listR pl.isList h0 (by omega) (by rw[hj];simpa using ew) fin hs
 ·have hj:(i+(its.toArray.size:Int)).toNat=j:=by
   rw[seqIndex_neg (by omega) h4]at h1
   rw[List.size_toArray,<-hl]
   exact Option.some.inj h1
  exact subscriptTail_builtinR (x:=w) pl.isList.typeIs slot_list_getitem.lookup
   (wpAny_getItem_list_neg (Q:=λr s'=>r=w/\EP X pins σ Q r s') pl.isList (by omega) (by rw[List.size_toArray]<;>omega) (by omega) (by rw[hj];simpa using ew) ⟨rfl,fin⟩) hs
theorem A9:Mi X (QH X.K):=by
 intro value slice pins s σ H x y v u Q I rx ry h hs
 obtain⟨p,xs,i,z,rfl,rfl,hq,he,q⟩:=h
 cases rx
 obtain⟨t,rfl⟩:=ry
 obtain⟨its,r,pl,hz⟩:=I.tuple hq
 obtain⟨j,h1,h2,h3,h4,h5⟩:=Hn he
 obtain⟨w,ew,rw'⟩:=r.get h2
 have hl:=r.length
 have hn:=DO
 have fin:EP X pins σ Q w s:=⟨z,H,I,rw',q⟩
 exact subscriptTail_builtinR (x:=w) pl.typeIs slot_tuple_getitem.lookup
  (getItem_tuple (j:=j) (Q:=λr s'=>r=w/\EP X pins σ Q r s') pl (by omega) (by omega) (by rw[List.size_toArray,<-hl];exact h1) (by simpa using ew) ⟨rfl,fin⟩) hs
theorem C7:Mi X RV:=by
 intro value slice pins s σ H x y v u Q I rx ry h hs
 obtain⟨z,i,c,rfl,rfl,hz,he,q⟩:=h
 obtain⟨t,rfl⟩:=rx
 obtain⟨t',rfl⟩:=ry
 obtain⟨j,h1,h2,h3,h4,h5⟩:=Hn he
 have hl:z.cps.toList.length=z.length:=by simp[Str.length]
 rw[hl]at h1 h4 h5
 have hn:=DO
 exact tail_any (typeIs_str s z t) slot_str_getitem.lookup (getItem_str (c:=c) (by
  have e1:decide (i < -(2 ^ 63:Int))=false:=decide_eq_false (by omega)
  have e2:decide (i≥2 ^ 63)=false:=decide_eq_false (by omega)
  rw[e1,e2,Bool.or_false]) (by rw[h1];simpa using h2) ⟨.str ⟨#[c]⟩,H,I.tok _,⟨_,rfl⟩,q⟩) hs
def Td (K:PySem.W.Frag):R2:=λx y H Q=>QG K x y H Q\/QH K x y H Q\/RV x y H Q
theorem Mu:Mi X (Td X.K):=Af.or (A9.or C7)
theorem KC (its:List Value)(n j:Nat)(u:Value):Obj.mapSeq (·.setIfInBounds j u) { cls:=.type "list",data:=.seq its.toArray n }={ cls:=.type "list",data:=.seq (its.set j u).toArray n }:=by
 simp[Obj.mapSeq]
theorem Inv.lst {pins:List (Addr×Obj)}{σ:St}{H:Hp}{s:Shared}{p:Addr}{xs:List V}(I:Inv X pins σ H s)(h:H p=some (.lst xs)):
 ∃(its:List Value) (n:Nat),Vals xs its/\s.heap.get? p=some { cls:=.type "list",data:=.seq its.toArray n }/\xs.length<=sizeLine:=by
 obtain⟨z,its,n,r,e⟩:=I.hok p _ h
 exact⟨its,n,r,e,z⟩
theorem Inv.QI {pins:List (Addr×Obj)}{σ:St}{H:Hp}{s:Shared}{p:Addr}{xs ys:List V}{its its':List Value}{n n':Nat}{f:Obj->Obj}(I:Inv X pins σ H s)(h:H p=some (.lst xs))
 (ho:s.heap.get? p=some { cls:=.type "list",data:=.seq its.toArray n })(hf:f { cls:=.type "list",data:=.seq its.toArray n }={ cls:=.type "list",data:=.seq its'.toArray n' })(r:Vals ys its')(hz:ys.length<=sizeLine)(t:Nat):
 Inv X pins σ (upd H p (.lst ys)) { s with heap:=s.heap.update p f,toks:=t }:=by
 have e:(s.heap.update p f).get? p=some { cls:=.type "list",data:=.seq its'.toArray n' }:=by
  rw[Heap.get?_update_self f ho (by rw[hf]<;>rfl),hf]
 refine I.write (x:=p) (e:=p) (by rw[h];trivial) (.inl rfl) (λb u hb q=>(Heap.get?_update_other _ _ (Ne.symm hb)).trans q) ⟨_,e⟩ ?_
 exact⟨hz,its',n',r,e⟩
def RW:V->V->V->Hp->(Hp->Prop)->Prop:=λo i v H Q=>∃p xs k j,o=.ref p/\i=.int k/\H p=some (.lst xs)/\Lr xs.length k=some j/\Q (upd H p (.lst (xs.set j v)))
theorem set_list:RG X RW:=by
 intro pins s σ H o i v ov iv u Q I ro ri rv h
 obtain⟨p,xs,k,j,rfl,rfl,hp,hj,q⟩:=h
 cases ro
 obtain⟨t,rfl⟩:=ri
 obtain⟨its,n,r,ho,hz⟩:=I.lst hp
 obtain⟨h1,h2,h3,h4⟩:=Kz hj
 have hl:=r.length
 have hn:=DO
 have I':Inv X pins σ (upd H p (.lst (xs.set j v))) { s with heap:=s.heap.update p (Obj.mapSeq (·.setIfInBounds j u)) }:=
  I.QI hp ho (KC its n j u) (r.set rv j) (by rw[List.length_set];exact hz) s.toks
 by_cases h0:0<=k
 ·have hk:k.toNat=j:=by
   rw[seqIndex_of h0 h4]at h1
   exact Option.some.inj h1
  exact PySem.W.ki_setAt ho h0 (by omega) (by rw[List.size_toArray,<-hl];exact h4) (by rw[hk];exact⟨_,I',q⟩)
 ·have hk:(k+(its.toArray.size:Int)).toNat=j:=by
   rw[seqIndex_neg (by omega) h3]at h1
   rw[List.size_toArray,<-hl]
   exact Option.some.inj h1
  exact PySem.W.ki_setBack ho (by omega) (by rw[List.size_toArray,<-hl];exact h3) (by omega) (by rw[hk];exact⟨_,I',q⟩)
theorem Ho (lo hi:Option Int)(n:Nat):(sliceBounds lo hi none n).1=((HT.CD n 0 lo:Nat):Int)/\(sliceBounds lo hi none n).2.1=((HT.CD n n hi:Nat):Int)/\(sliceBounds lo hi none n).2.2=1:=by
 refine⟨?_,?_,rfl⟩
 ·cases lo with
  |none=>simp[sliceBounds,HT.CD]
  |some i=>
   simp only[sliceBounds,HT.CD,Option.getD_none,show(1:Int) > 0 by decide,if_true]
   by_cases h:i < 0
   ·simp only[h,if_true]<;>omega
   ·simp only[h,if_false]<;>omega
 ·cases hi with
  |none=>simp[sliceBounds,HT.CD]
  |some i=>
   simp only[sliceBounds,HT.CD,Option.getD_none,show(1:Int) > 0 by decide,if_true]
   by_cases h:i < 0
   ·simp only[h,if_true]<;>omega
   ·simp only[h,if_false]<;>omega
theorem GY (its:List Value)(lo hi:Option Int):slicePick its.toArray lo hi none=((its.drop (HT.CD its.length 0 lo)).take (HT.CD its.length its.length hi - HT.CD its.length 0 lo)).toArray:=by
 obtain⟨h1,h2,h3⟩:=Ho lo hi its.toArray.size
 unfold slicePick
 rw[h1,h2,h3]
 simp only[sliceRange_one,pick_run,List.size_toArray]<;>rfl
def So (K:PySem.W.Frag):V->Option Int->Option Int->Hp->VK->Prop:=λx lo hi H Q=>∃a xs,x=.ref a/\An K H a xs/\∀p,H p=none->Q (.ref p) (upd H p (.lst (Fi xs lo hi)))
theorem OT:Sn X (So X.K):=by
 intro pins s σ H x v vl vu lo hi sl Q I rx hs pl pu h
 obtain⟨a,xs,rfl,hx,q⟩:=h
 cases rx
 obtain⟨its,r,ht,hz⟩:=I.list hx
 have hlen:=r.length
 refine⟨"list",_,slot_list_getitem.lookup,ht.isList.typeIs,?_⟩
 refine wpAny_getItem_list_slice ht.isList hs pl pu .none (by simp) ?_ (by rw[List.size_toArray]<;>omega)
 rw[GY,<-hlen]
 refine⟨.ref s.heap.objs.size,_,I.laid (t':=s.toks) (o:=.lst (Fi xs lo hi)) (λb ob q=>Heap.get?_push_of_some _ q) (Nat.le_refl _) ?_,rfl,q _ (I.hok.fresh (Nat.le_refl _))⟩
 exact⟨Nat.le_trans (FD xs lo hi) hz,_,0,(r.drop (HT.CD xs.length 0 lo)).take (HT.CD xs.length xs.length hi - HT.CD xs.length 0 lo),Heap.get?_push_size _ rfl⟩
def DR:V->Bool
 |.non=>true
 |.bl _=>true
 |.int _=>true
 |.str _=>true
 |_=>false
def Mv:V->V->Bool
 |.non,.non=>true
 |.bl a,.bl b=>a==b
 |.bl a,.int b=>(if a then 1 else 0)==b
 |.int a,.bl b=>a==(if b then 1 else 0)
 |.int a,.int b=>a==b
 |.str a,.str b=>a==b
 |_,_=>false
theorem QJ {A:Around}{s:Shared}{y x:V}{u v:Value}(ry:RelV y u)(rx:RelV x v)(fy:DR y=true)(fx:DR x=true):SeqAt.EqAt A s u v (Mv y x):=by
 cases y with
 |non=>
  cases ry
  cases x with
  |non=>cases rx;exact SeqAt.EqAt.same _
  |bl b=>cases rx;exact SeqAt.EqAt.none_bool b
  |int b=>obtain⟨t,rfl⟩:=rx;exact SeqAt.EqAt.none_int b t
  |str b=>obtain⟨t,rfl⟩:=rx;exact SeqAt.EqAt.none_str b t
  |_=>exact absurd (show false=true from fx) Bool.false_ne_true
 |bl a=>
  cases ry
  cases x with
  |non=>cases rx;exact SeqAt.EqAt.bool_none a
  |bl b=>cases rx;exact SeqAt.EqAt.bool_bool a b
  |int b=>obtain⟨t,rfl⟩:=rx;exact SeqAt.EqAt.bool_int a b t
  |str b=>obtain⟨t,rfl⟩:=rx;exact SeqAt.EqAt.bool_str a b t
  |_=>exact absurd (show false=true from fx) Bool.false_ne_true
 |int a=>
  obtain⟨t',rfl⟩:=ry
  cases x with
  |non=>cases rx;exact SeqAt.EqAt.int_none a t'
  |bl b=>cases rx;exact SeqAt.EqAt.int_bool a t' b
  |int b=>obtain⟨t,rfl⟩:=rx;exact SeqAt.EqAt.int_int a t' b t
  |str b=>obtain⟨t,rfl⟩:=rx;exact SeqAt.EqAt.int_str a t' b t
  |_=>exact absurd (show false=true from fx) Bool.false_ne_true
 |str a=>
  obtain⟨t',rfl⟩:=ry
  cases x with
  |non=>cases rx;exact SeqAt.EqAt.str_none a t'
  |bl b=>cases rx;exact SeqAt.EqAt.str_bool a t' b
  |int b=>obtain⟨t,rfl⟩:=rx;exact SeqAt.EqAt.str_int a t' b t
  |str b=>obtain⟨t,rfl⟩:=rx;exact SeqAt.EqAt.str_str a t' b t
  |_=>exact absurd (show false=true from fx) Bool.false_ne_true
 |_=>exact absurd (show false=true from fy) Bool.false_ne_true
def FR (x:V)(u:Value):Bool:=match u with
 |.none=>Mv .non x
 |.bool b=>Mv (.bl b) x
 |.int i _=>Mv (.int i) x
 |.str z _=>Mv (.str z) x
 |_=>false
theorem Mw {x y:V}{u:Value}(r:RelV y u)(f:DR y=true):FR x u=Mv y x:=by
 cases y with
 |non=>cases r;rfl
 |bl b=>cases r;rfl
 |int i=>obtain⟨t,rfl⟩:=r;rfl
 |str z=>obtain⟨t,rfl⟩:=r;rfl
 |_=>exact absurd (show false=true from f) Bool.false_ne_true
theorem EL {x:V}:∀{xs:List V} {us:List Value},Vals xs us->xs.all DR=true->us.any (FR x)=xs.any λy=>Mv y x
 |_,_,.nil,_=>rfl
 |y::xs,u::us,.cons r t,f=>by
  rw[List.all_cons,Bool.and_eq_true]at f
  rw[List.any_cons,List.any_cons,Mw r f.1,EL t f.2]
theorem B8 {A:Around}{s:Shared}{x:V}{v:Value}(rx:RelV x v)(fx:DR x=true):∀{xs:List V} {us:List Value},Vals xs us->xs.all DR=true->∀u∈us,SeqAt.EqAt A s u v (FR x u)
 |_,_,.nil,_=>λu hu=>by cases hu
 |y::xs,u::us,.cons r t,f=>λu' hu=>by
  rw[List.all_cons,Bool.and_eq_true]at f
  rcases List.mem_cons.mp hu with rfl|hu
  ·rw[Mw r f.1];exact QJ r rx f.1 fx
  ·exact B8 rx fx t f.2 u' hu
def Mx (x:V)(xs:List V):Bool:=xs.any λy=>Mv y x
def Sq (K:PySem.W.Frag)(neg:Bool):R2:=λx y H Q=>∃p xs,y=.ref p/\(An K H p xs\/Ca K H p xs)/\DR x=true/\xs.all DR=true/\Q (.bl (if neg then !Mx x xs else Mx x xs)) H
theorem Et:D8 X (compareOp .In) (Sq X.K false):=by
 intro pins s σ H x y v u Q I rx ry h
 obtain⟨p,xs,rfl,hq,fx,fs,q⟩:=h
 cases ry
 rcases hq with hq|hq
 ·obtain⟨its,r,pl,hz⟩:=I.list hq
  refine SeqAt.in_listAt (FR x) pl.isList (λw hw=>B8 rx fx r fs w (by simpa using hw)) ⟨.bl _,H,I,rfl,?_⟩
  rw[show its.toArray.any (FR x)=its.any (FR x) by simp,EL r fs]
  exact q
 ·obtain⟨its,r,pl,hz⟩:=I.tuple hq
  refine SeqAt.in_tupleAt (FR x) pl (λw hw=>B8 rx fx r fs w (by simpa using hw)) ⟨.bl _,H,I,rfl,?_⟩
  rw[show its.toArray.any (FR x)=its.any (FR x) by simp,EL r fs]
  exact q
theorem Hq:D8 X (compareOp .NotIn) (Sq X.K true):=by
 intro pins s σ H x y v u Q I rx ry h
 obtain⟨p,xs,rfl,hq,fx,fs,q⟩:=h
 cases ry
 rcases hq with hq|hq
 ·obtain⟨its,r,pl,hz⟩:=I.list hq
  refine SeqAt.notIn_listAt (FR x) pl.isList (λw hw=>B8 rx fx r fs w (by simpa using hw)) ⟨.bl _,H,I,rfl,?_⟩
  rw[show its.toArray.any (FR x)=its.any (FR x) by simp,EL r fs]
  exact q
 ·obtain⟨its,r,pl,hz⟩:=I.tuple hq
  refine SeqAt.notIn_tupleAt (FR x) pl (λw hw=>B8 rx fx r fs w (by simpa using hw)) ⟨.bl _,H,I,rfl,?_⟩
  rw[show its.toArray.any (FR x)=its.any (FR x) by simp,EL r fs]
  exact q
theorem Aj:B0 X (.builtin "len") (λxs H Q=>∃p ys,xs=[.ref p]/\(An X.K H p ys\/Ca X.K H p ys)/\Q (.int ys.length) H):=by
 intro pins s σ H xs us Q I r h
 obtain⟨p,ys,rfl,hq,q⟩:=h
 obtain⟨u,rfl,rx⟩:=vals1 r
 cases rx
 have hn:=DO
 rcases hq with hq|hq
 ·obtain⟨its,r',pl,hz⟩:=I.list hq
  have hlen:=r'.length
  exact Calls.call_len_list pl.isList (by simp only[List.size_toArray]<;>omega) ⟨.int ys.length,H,I.tok _,⟨s.toks+1,by rw[List.size_toArray,hlen]⟩,q⟩
 ·obtain⟨its,r',pl,hz⟩:=I.tuple hq
  have hlen:=r'.length
  exact len_tuple pl (by simp only[List.size_toArray]<;>omega) ⟨.int ys.length,H,I.tok _,⟨s.toks+1,by rw[List.size_toArray,hlen]⟩,q⟩
theorem Ak:B0 X (.builtin "len") (λxs H Q=>∃z,xs=[.str z]/\z.length<=sizeLine/\Q (.int z.length) H):=by
 intro pins s σ H xs us Q I r h
 obtain⟨z,rfl,hz,q⟩:=h
 obtain⟨u,rfl,t,rfl⟩:=vals1 r
 have hn:=DO
 exact len_str (by omega) ⟨.int z.length,H,I.tok _,⟨_,rfl⟩,q⟩
theorem CI:B0 X (.type "tuple") (λxs H Q=>∃p ys,xs=[.ref p]/\((An X.K H p ys/\∀l,H l=none->Q (.ref l) (upd H l (.tup ys)))\/(Ca X.K H p ys/\Q (.ref p) H))):=by
 intro pins s σ H xs us Q I r h
 obtain⟨p,ys,rfl,h⟩:=h
 obtain⟨u,rfl,rx⟩:=vals1 r
 cases rx
 rcases h with⟨hq,q⟩|⟨hq,q⟩
 ·obtain⟨its,r',pl,hz⟩:=I.list hq
  have hlen:=r'.length
  refine call_tuple_list pl.isList (λh' kp=>?_) (by simp only[List.size_toArray]<;>omega)
  have I1:Inv X pins σ H { s with heap:=h' }:=I.kept (t':=s.toks) kp
  have I2:Inv X pins σ (upd H h'.objs.size (.tup ys)) { s with heap:=h'.push { cls:=.type "tuple",data:=.seq its.toArray } }:=
   I1.laid (t':=s.toks) (λb o e=>Heap.get?_push_of_some _ e) (Nat.le_refl _) (show A0 X.prog X.w _ _ _ (.tup ys)from⟨⟨hz,_,Heap.get?_push_size _ rfl,rfl⟩,its,r',IsTup.new _ _⟩)
  exact⟨.ref h'.objs.size,_,I2,rfl,q _ (I1.hok.fresh (Nat.le_refl _))⟩
 ·obtain⟨its,r',pl,hz⟩:=I.tuple hq
  exact call_tuple_same pl ⟨.ref p,H,I,rfl,q⟩
def TL (K:PySem.W.Frag)(T:String)(x:V)(H:Hp):Prop:=match x with
 |.str _=>T="str"
 |.int _=>T="int"
 |.ref p=>(T="list"/\∃xs,An K H p xs)\/(T="tuple"/\∃o,K.lookup p=some o/\o.cls=.type "tuple"/\o.dict=none)\/
  (T="dict"/\((∃kvs,H p=some (.dK kvs))\/∃kvs,H p=some (.dT kvs)))\/(T="set"/\∃S n,H p=some (.set S n))
 |_=>False
theorem QK {pins:List (Addr×Obj)}{σ:St}{H:Hp}{s:Shared}{T:String}{x:V}{v:Value}(I:Inv X pins σ H s)(r:RelV x v)(ty:TL X.K T x H):
 s.TypeIs v T/\∀a,v=.ref a->∃ob,s.heap.get? a=some ob/\ob.dict=none:=by
 cases x with
 |str z=>
  obtain⟨t,rfl⟩:=r
  cases(show T="str" from ty)
  exact⟨typeIs_str s z t,λ_ e=>nomatch e⟩
 |int i=>
  obtain⟨t,rfl⟩:=r
  cases(show T="int" from ty)
  exact⟨typeIs_int s i t,λ_ e=>nomatch e⟩
 |ref p=>
  cases r
  rcases ty with⟨rfl,xs,hq⟩|⟨rfl,o,hk,hc,hd⟩|⟨rfl,hk⟩|⟨rfl,S,n,hk⟩
  ·obtain⟨its,_,pl,_⟩:=I.list hq
   refine⟨pl.isList.typeIs,λa e=>?_⟩
   cases e
   obtain⟨o,n,e,c,hd,_⟩:=pl
   exact⟨o,e,hd⟩
  ·refine⟨⟨o,I.FA p o hk,hc⟩,λa e=>?_⟩
   cases e
   exact⟨o,I.FA _ o hk,hd⟩
  ·have z:∃o,s.heap.get? p=some o/\o.ExactDict:=by
    rcases hk with⟨kvs,hk⟩|⟨kvs,hk⟩
    ·obtain⟨_,_,_,_,o,_,_,e,ex,_⟩:=I.hok p _ hk
     exact⟨o,e,ex⟩
    ·obtain⟨_,_,_,_,o,_,_,e,ex,_⟩:=I.hok p _ hk
     exact⟨o,e,ex⟩
   obtain⟨o,e,ex⟩:=z
   refine⟨⟨o,e,ex.1⟩,λa e2=>?_⟩
   cases e2
   exact⟨o,e,ex.2.1⟩
  ·obtain⟨o,_,_,_,e,ex,_⟩:=I.hok p _ hk
   refine⟨⟨o,e,ex.1⟩,λa e2=>?_⟩
   cases e2
   exact⟨o,e,ex.2.1⟩
 |_=>exact False.elim ty
def Q0 (K:PySem.W.Frag)(T:String)(r:V->List V->Hp->VK->Prop)(to:TE)(t:TA):TE:=λσ H Q=>to σ H λx H1=>TL K T x H1/\t σ H1 λxs H2=>r x xs H2 Q
variable {o e:Expr}{es:List Expr}{to:TE}{t:TA}{name:Str}{apos cpos:Pos}{T id:String}{r:V->List V->Hp->VK->Prop}
theorem BR (pa:PlainAttrs T)(slot:Slot T name id)(hty:typeOf (.builtin id)=pure (.type "method_descriptor"))(hm:RU X id r)(ho:PE X o to)(ha:PA X (e::es) t)
 (hbase:attributeBase o name X.env (eval o X.env)=eval o X.env:=by rfl)
 (hfew:((backTo cpos (starEach (e::es) X.env)).all (λx=>!x.1)&&(backToKw cpos (keywordEach [] X.env)).all (λx=>x.1.isSome)
  &&decide ((e::es).length+([]:List Keyword).length+(if([]:List Keyword).isEmpty then 0 else 1) < 30))=true:=by rfl)
 (hline:(apos.endLine==cpos.line)=true:=by rfl)(hs:starEach (e::es) X.env=(false,eval e X.env)::starEach es X.env:=by rfl)(hplain:(backTo cpos (starEach es X.env)).any (·.1)=false:=by rfl):
 PE X (.Call (.Attribute o name apos) (e::es) [] cpos) (Q0 X.K T r to t):=by
 intro pins s σ H Q I h
 refine wpAny_Call_method_late hbase hfew hline rfl (BH (ho pins s σ H _ I h) λv s1 ⟨x,H1,I1,r1,ty,q1⟩=>?_)
 obtain⟨h1,h2⟩:=QK I1 r1 ty
 refine⟨T,id,pa,slot,hty,h1,h2,?_⟩
 have hA:=ha cpos pins s1 σ H1 _ I1 q1
 rw[hs]at hA ⊢
 refine Calls.callWith_builtin (by show(false||(backTo cpos (starEach es X.env)).any (·.1))=false;rw[hplain]<;>rfl) (Calls.evalArgs_plain ?_)
 exact BH hA λus s2 ⟨vs,H2,I2,r2,q2⟩=>hm pins s2 σ H2 x vs v us Q I2 r1 r2 q2
end
end L2
namespace L2
open PySem PySem.Spec PyProof.Rows
def Q1 (X:Cx)(id:String)(r:V->List V->Hp->VK->Prop):Prop:=
 ∀(pins:List (Addr×Obj)) (s:Shared) (σ:St) (H:Hp) (x:V) (xs:List V) (v:Value) (us:List Value) (Q:VK),Inv X pins σ H s->RelV x v->Vals xs us->r x xs H Q->
  wpAny (model X.prog X.w) X.A (call (.builtin id) (v::us)) (EP X pins σ Q) X.xe s
theorem Vals.one:∀{x:V} {us:List Value},Vals [x] us->∃u,us=[u]/\RelV x u
 |_,_,.cons r .nil=>⟨_,rfl,r⟩
theorem Vals.rep {xs:List V}{us:List Value}(h:Vals xs us):∀k:Nat,Vals (List.replicate k xs).flatten (List.replicate k us).flatten
 |0=>.nil
 |k+1=>by
  rw[List.replicate_succ,List.replicate_succ,List.flatten_cons,List.flatten_cons]
  exact Vals.append h (Vals.rep h k)
theorem foldl_rep (its:List Value):∀(k:Nat) (acc:List Value),
 List.foldl (λx1 x2=>x1++x2) acc.toArray (List.replicate k its.toArray)=(acc++(List.replicate k its).flatten).toArray
 |0,acc=>by simp
 |k+1,acc=>by
  have e:acc.toArray++its.toArray=(acc++its).toArray:=by simp
  have e2:(acc++its)++(List.replicate k its).flatten=acc++(List.replicate (k+1) its).flatten:=by
   rw[List.replicate_succ,List.flatten_cons,List.append_assoc]
  rw[<-e2,<-foldl_rep its k (acc++its),<-e,List.replicate_succ,List.foldl_cons]
section
variable {X:Cx}{pins:List (Addr×Obj)}{σ:St}{H:Hp}{s:Shared}{l b:Addr}{xs ys zs:List V}
theorem Inv.My {its its':List Value}{n:Nat}{f:Array Value->Array Value}{t':Nat}(I:Inv X pins σ H s)(hH:H l=some (.lst xs))
 (e:s.heap.get? l=some { cls:=.type "list",data:=.seq its.toArray n })(hf:f its.toArray=its'.toArray)(hv:Vals ys its')(hz:ys.length<=sizeLine):
 Inv X pins σ (upd H l (.lst ys)) { s with heap:=s.heap.update l (Obj.mapSeq f),toks:=t' }:=by
 have q:=PySem.IsL.update e f
 rw[hf]at q
 refine I.write (x:=l) (e:=l) (by rw[hH];exact trivial) (.inl rfl) (λb' u hb hu=>(Heap.get?_update_other s.heap (Obj.mapSeq f) (Ne.symm hb)).trans hu) ⟨_,q⟩ ?_
 exact⟨hz,its',_,hv,q⟩
theorem Inv.QL {its:List Value}{t':Nat}(I:Inv X pins σ H s)(hv:Vals ys its)(hz:ys.length<=sizeLine):
 Inv X pins σ (upd H s.heap.objs.size (.lst ys)) { s with heap:=s.heap.push { cls:=.type "list",data:=.seq its.toArray },toks:=t' }:=
 I.laid (λ_ _ q=>Heap.get?_push_of_some _ q) (Nat.le_refl _) ⟨hz,its,0,hv,Heap.get?_push_size _ rfl⟩
theorem Inv.fresh (I:Inv X pins σ H s):H s.heap.objs.size=none:=I.hok.fresh (Nat.le_refl _)
theorem Inv.Fj (I:Inv X pins σ H s)(hH:H l=some (.lst xs)):xs.length<=sizeLine/\∃(its:List Value) (n:Nat),Vals xs its/\xs.length=its.length/\s.heap.get? l=some { cls:=.type "list",data:=.seq its.toArray n }:=by
 obtain⟨z,its,n,r,e⟩:=I.hok l _ hH
 exact⟨z,its,n,r,r.length,e⟩
theorem Iu {n:Nat}(h:n<=sizeLine):Builtin.List.listTooLong n=false:=by
 unfold Builtin.List.listTooLong
 exact decide_eq_false (by omega)
end
section
variable {X:Cx}
def OU:V->List V->Hp->VK->Prop:=λx vs H Q=>∃l xs y,x=.ref l/\vs=[y]/\H l=some (.lst xs)/\xs.length < sizeLine/\Q .non (upd H l (.lst (xs++[y])))
theorem BC:Q1 X "list.append" OU:=by
 intro pins s σ H x vs v us Q I rx rv h
 obtain⟨l,xs,y,rfl,rfl,hH,hz,q⟩:=h
 cases rx
 obtain⟨u,rfl,ru⟩:=rv.one
 obtain⟨z,its,n,r,hl,e⟩:=I.Fj hH
 refine call_meets F.slot_list_append ⟨_,e,rfl⟩ F.entry_list_append (F.args_list_append_2 _ _) (PySem.list_append l its.toArray n u (by rw[List.size_toArray];omega)) ⟨e,?_⟩
 refine⟨.non,_,I.My (its':=its++[u]) hH e (by simp) (r.append (.cons ru .nil)) ?_,rfl,q⟩
 rw[List.length_append,List.length_singleton]
 omega
def OV:V->List V->Hp->VK->Prop:=λx vs H Q=>∃l b xs zs,x=.ref l/\vs=[.ref b]/\H l=some (.lst xs)/\H b=some (.lst zs)/\xs.length+zs.length<=sizeLine/\Q .non (upd H l (.lst (xs++zs)))
theorem Gv:Q1 X "list.extend" OV:=by
 intro pins s σ H x vs v us Q I rx rv h
 obtain⟨l,b,xs,zs,rfl,rfl,hH,hB,hz,q⟩:=h
 cases rx
 obtain⟨u,rfl,ru⟩:=rv.one
 cases ru
 obtain⟨z,its,n,r,hl,e⟩:=I.Fj hH
 obtain⟨z2,its2,n2,r2,hl2,e2⟩:=I.Fj hB
 have hsz:its.toArray.size+its2.toArray.size<=sizeLine:=by rw[List.size_toArray,List.size_toArray];omega
 have hlong:¬(!its.toArray.isEmpty&&Builtin.List.listTooLong (its.toArray.size+its2.toArray.size))=true:=by
  rw[Iu hsz,Bool.and_false]
  exact Bool.false_ne_true
 refine call_meets F.slot_list_extend ⟨_,e,rfl⟩ F.entry_list_extend (F.args_list_extend_2 _ _)
  (AutoSeq1.list_extend_list_list_0 l its.toArray n b its2.toArray n2 hlong (by rw[List.size_toArray];omega) (by omega)) ⟨e,e2,?_⟩
 refine⟨.non,_,I.My (its':=its++its2) hH e (by simp) (r.append r2) ?_,rfl,q⟩
 rw[List.length_append]
 omega
def Sr:R2:=λx y H Q=>∃l b xs zs,x=.ref l/\y=.ref b/\H l=some (.lst xs)/\H b=some (.lst zs)/\xs.length+zs.length<=sizeLine/\∀p,H p=none->Q (.ref p) (upd H p (.lst (xs++zs)))
theorem Hs:D8 X (binaryOp .Add) Sr:=by
 intro pins s σ H x y v u Q I rx ry h
 obtain⟨l,b,xs,zs,rfl,rfl,hH,hB,hz,q⟩:=h
 cases rx
 cases ry
 obtain⟨z,its,n,r,hl,e⟩:=I.Fj hH
 obtain⟨z2,its2,n2,r2,hl2,e2⟩:=I.Fj hB
 refine PySem.P.add_list e e2 ?_ (by rw[List.size_toArray,List.size_toArray];omega)
 have ea:its.toArray++its2.toArray=(its++its2).toArray:=by simp
 rw[ea]
 exact⟨.ref _,_,I.QL (t':=s.toks) (r.append r2) (by rw[List.length_append];omega),rfl,q _ I.fresh⟩
def Ss:R2:=λx y H Q=>∃l k xs,x=.ref l/\y=.int k/\H l=some (.lst xs)/\-(2 ^ 63)<=k/\k < 2 ^ 63/\xs.length*k.toNat<=sizeLine/\
 ∀p,H p=none->Q (.ref p) (upd H p (.lst (List.replicate k.toNat xs).flatten))
theorem len_rep {α:Type}(xs:List α)(k:Nat):(List.replicate k xs).flatten.length=k*xs.length:=by
 induction k with
 |zero=>simp
 |succ k ih=>rw[List.replicate_succ,List.flatten_cons,List.length_append,ih,Nat.succ_mul,Nat.add_comm]
theorem KD:D8 X (binaryOp .Mult) Ss:=by
 intro pins s σ H x y v u Q I rx ry h
 obtain⟨l,k,xs,rfl,rfl,hH,h1,h2,hz,q⟩:=h
 cases rx
 obtain⟨t,rfl⟩:=ry
 obtain⟨z,its,n,r,hl,e⟩:=I.Fj hH
 have hlen:its.toArray.size*k.toNat<=sizeLine:=by rw[List.size_toArray,<-hl];exact hz
 have hcap:¬its.toArray.size*k.toNat > (2 ^ 63 - 1) / 8:=by
  have:(sizeLine:Nat)<=(2 ^ 63 - 1) / 8:=by decide
  omega
 have hfit:¬(!Builtin.List.listFitsIndex k)=true:=by
  rw[fitsIndex_both h1 h2]
  exact Bool.false_ne_true
 have hlong:¬Builtin.List.listTooLong (its.toArray.size*k.toNat)=true:=by
  rw[Iu hlen]
  exact Bool.false_ne_true
 have hnew:List.foldl (λx1 x2=>x1++x2) #[] (List.replicate (if its.toArray.isEmpty=true then 0 else k.toNat) its.toArray)=(List.replicate k.toNat its).flatten.toArray:=by
  have f0:∀m:Nat,List.foldl (λx1 x2=>x1++x2) #[] (List.replicate m its.toArray)=(List.replicate m its).flatten.toArray:=λm=>by
   have:=foldl_rep its m []
   rw[List.nil_append]at this
   exact this
  rw[f0]
  cases its with
  |nil=>simp
  |cons a r'=>rw[if_neg (by simp)]
 refine wpAny_binaryOp_repeat_ref (T:="list") (U:="int") (by decide) ⟨_,e,rfl⟩ (λs'=>typeIs_int s' k t) noFill_list_mul F.fills_int_mul F.slot_int_rmul repeat_list F.slot_int_index.lookup
  (call_meets F.slot_int_rmul (typeIs_int s k t) F.entry_int_rmul (F.args_int_rmul_2 _ _) (int___rmul___int_list k t l its.toArray n)
   ⟨e,rfl,⟨_,e,rfl⟩,call_meets F.slot_list_mul ⟨_,e,rfl⟩ F.entry_list_mul (F.args_list_mul_2 _ _) (AutoListH.list___mul___list_int_3 l its.toArray n k t hfit hcap hlong) ⟨e,?_⟩⟩)
 rw[hnew]
 exact⟨.ref _,_,I.QL (t':=s.toks) (r.rep k.toNat) (by rw[len_rep,Nat.mul_comm];exact hz),rfl,q _ I.fresh⟩
end
section
variable {prog:Program}{w:World}{A:Around}{E:Value->Shared->Prop}{s:Shared}
end
section
variable {X:Cx}
end
end L2
namespace Att
open PySem PySem.W PySem.Calls PyProof.Rows
theorem FN {P:Params}{h:Heap}:∀(ns:List Int) (vs:List Value),WellAll P h vs (ns.map WData.int)->IntsAre vs ns:=by
 intro ns
 induction ns with
 |nil=>
  intro vs w
  rw[List.map_nil]at w
  cases w
  exact .nil
 |cons n ns ih=>
  intro vs w
  rw[List.map_cons]at w
  cases w with
  |cons a b=>
   cases a
   exact .cons _ _ (ih _ b)
theorem Ls {l:OpenLaw}{n:Nat}(hn:l.most=some n){P:Params}{h:Heap}{args:List WData}{vals:List Value}
 (hpre:l.row.toRowW.claim.pre args=true)(hwl:WellAll P h vals args):
 ∃a vs ns,vals=[Value.ref a]/\args=[WData.list (ns.map WData.int)]/\h.get? a=some { cls:=.type "list",data:=.seq vs.toArray }/\IntsAre vs ns/\ns.length<=n:=by
 have hsh:WShape.hasAll [] args [.list .int]=true:=(pre_splitW hpre).1
 have hc:l.pre.holds [] { args:=args }=true:=(pre_splitW hpre).2
 obtain⟨d,r,rfl,h1,h2⟩:=hasAllW_cons hsh
 obtain rfl:=hasAllW_nil h2
 obtain⟨xs,rfl,h3⟩:=hasW_list h1
 obtain⟨ns,rfl⟩:=items_int h3
 have hlen:ns.length<=n:=by
  unfold OpenLaw.pre at hc
  have h4:(WTm.not (.lt (.lit (.int (n:Int))) (.len (.arg 0)))).holds [] { args:=[.list (ns.map .int)] }=true:=by
   have h4:=(holds_andW hc).1
   rw[hn]at h4
   exact h4
  have h5:=condW_of h4 (w_not (w_lt w_lit (w_len_list (w_arg rfl))))
  rw[List.length_map]at h5
  refine Nat.le_of_not_lt λq=>?_
  have q':(n:Int) < ((ns.length:Nat):Int):=by omega
  first
   |(rw[decide_eq_true q']at h5;exact absurd h5 (by decide))
   |(simp at h5;omega)
 cases hwl with
 |cons w1 w2=>
  cases w2
  cases w1 with
  |list ho hall=>exact⟨_,_,ns,rfl,rfl,ho,FN ns _ hall,hlen⟩
theorem Lu (l:OpenLaw)(args:List WData):l.row.toRowW.claim.post args (.bool true) args=true:=
 postW_of (r:=l.row.toRowW) (X:=(true==true))
  (show WShape.has [] (.bool true) .bool=true by first|rfl|decide|simp[WShape.has,WShape.arms,WShape.armsAll])
  (show(WTm.eq .res (.lit (.bool true))).value [] { args:=args,res:=some (.bool true),after:=args }=some (.bool (true==true))from w_eq_bool (w_res rfl) w_lit) rfl
theorem Iv {l:OpenLaw}{n:Nat}{q:Program}{loose:List Str}{XP:(Str->Option Value)->Heap->Prop}{YP:World->Heap->Prop}{d:DefRec}
 (hn:l.most=some n)(hdf:d.params.defaults=[])
 (call:∀(w:World) (s₀ s₁:Shared) (mg mb:Str->Option Value) (fa:Addr) (o:Obj) (pm cd doc:Value) (a:Addr) (vs:List Value) (ns:List Int),
  Ground q loose [] XP w s₀ mg mb s₁.heap->YP w s₁.heap->
  s₁.heap.get? fa=some o->o.data=.func (docDef d.name d.params d.body d.scope pm cd doc)->s₁.heap.CodeRec cd d.name->mg d.name=some (.ref fa)->
  s₁.heap.get? a=some { cls:=.type "list",data:=.seq vs.toArray }->IntsAre vs ns->ns.length<=n->s₁.gens=#[]->
  codeAny (model l.prog w) callerA (.call (.ref fa) ⟨[.ref a],[]⟩) (λr s'=>r=.ok (.ret (.bool true))/\OldK s₁.heap s'.heap/\s'.os=s₁.os/\AllBare s'.gens) s₁):
 WalkO q loose XP YP l.row.toRowW d [] (λf vs=>PySem.call f vs):=by
 intro w s₀ s₁ mg mb G Y fa o pm cd doc dV kV ho hd hcd hD hmg hg args vals as hpre hlay hrd hwl hlo
 obtain rfl:dV=.none:=Dflts.none hD hdf
 obtain rfl:kV=.none:=Dflts.noKw hD
 obtain⟨a,vs,ns,rfl,rfl,hobj,hints,hlen⟩:=Ls hn hpre hwl
 refine enter_call (codeAny_mono (call w s₀ s₁ mg mb fa o pm cd doc a vs ns G Y ho (fd_plain hd) hcd hmg hobj hints hlen hg) λr s' hq=>?_)
 obtain⟨rfl,h2,h3,h4⟩:=hq
 exact⟨.inl ⟨.bool true,.bool true,[],rfl,λ_=>rfl,.bool true,Lu l _,λ_=>⟨List.Pairwise.nil,λ_ hm=>(nomatch hm)⟩⟩,h2,h3,h4⟩
section
variable {prog:Program}{w:World}{A:Around}{E:Value->Shared->Prop}{s:Shared}{K:Frag}
end
end Att
namespace L2
open PySem PySem.Spec PyProof.Rows
theorem Gw:∀{vs:List Value} {ns:List Int},IntsAre vs ns->Vals (ns.map V.int) vs
 |_,_,.nil=>.nil
 |_,_,.cons n t h=>.cons ⟨t,rfl⟩ (Gw h)
def OW (H:Hp):Prop:=∀b,H b=none\/∃o xs,H b=some (.frz o (.lst xs))
theorem Mz {P:Program}{w:World}{K:PySem.W.Frag}{mg mb:Str->Option Value}{CX:GX}{k:Nat}{fa a:Addr}{fd:FuncData}{x:Str}{sp:Sp}{s₁:Shared}{vs:List Value}{ns:List Int}
 (KX:K.In s₁.heap)(hns:s₁.heap.Ns mainGlobals mg)(hb:s₁.heap.Ns builtinsNs mb)(hbb:∀x:Str,x≠"__name__"->mb x=bootBuiltins x)(hlim:s₁.heap.NoLimit)(hg:s₁.gens=#[])
 (ha:s₁.heap.get? a=some { cls:=.type "list",data:=.seq vs.toArray })(hi:IntsAre vs ns)(hl:ns.length<=sizeLine)(hr:Bj k callerA)
 (F:∀base:Heap,K.In base->base.Ns mainGlobals mg->D9 P w K mg base CX k fa fd [x] sp)(hbind:∀(s:Shared) (u:Value),BindsTo s fd ⟨[u],[]⟩ [(x,u)])
 (hsp:∀H:Hp,OW H->An K H a (ns.map V.int)->sp [.ref a] H (λv _=>v=.bl true) λ_ _ _=>False)
 (hCX:∀H e s',CX [] H s₁ (λ_ _ _=>False) e s'->False):
 codeAny (model P w) callerA (.call (.ref fa) ⟨[.ref a],[]⟩) (λr s'=>r=.ok (.ret (.bool true))/\OldK s₁.heap s'.heap/\s'.os=s₁.os/\AllBare s'.gens) s₁:=by
 have rv:=Gw hi
 have lenV:=hi.length
 have core:∀H:Hp,OW H->An K H a (ns.map V.int)->DJ P w H s₁.heap->(∀b,H b≠none->b=a)->(H a≠none->K.lookup a=none)->
  codeAny (model P w) callerA (.call (.ref fa) ⟨[.ref a],[]⟩) (λr s'=>r=.ok (.ret (.bool true))/\OldK s₁.heap s'.heap/\s'.os=s₁.os/\AllBare s'.gens) s₁:=by
  intro H hO hS hok hA hK
  have base_of:∀{b:Addr} {o:Obj},s₁.heap.get? b=some o->H b=none->(Hk s₁.heap H).get? b=some o:=λe n=>Mn e n
  have noA:∀{b:Addr} {o:Obj} {es:Array DictEntry} {ep:Nat},s₁.heap.get? b=some o->o.data=.dict es ep->H b=none:=λ{b o es ep} e d=>by
   cases q:H b with
   |none=>rfl
   |some u=>
    have e':b=a:=hA b (by rw[q];simp)
    subst e'
    rw[ha]at e;cases e
    have d':Data.seq vs.toArray _=Data.dict es ep:=d
    cases d'
  have nsK:∀{b:Addr} {m:Str->Option Value},s₁.heap.Ns b m->(Hk s₁.heap H).Ns b m:=λ{b m} ⟨o,es,ep,e,d,r⟩=>⟨o,es,ep,base_of e (noA e d),d,r⟩
  have hKb:K.In (Hk s₁.heap H):=λb o e=>base_of (KX b o e) (by
   cases q:H b with
   |none=>rfl
   |some u=>
    have e':b=a:=hA b (by rw[q];simp)
    subst e'
    rw[hK (by rw[q];simp)]at e;cases e)
  have hM:Mod K mg (Hk s₁.heap H):=⟨hKb,nsK hns,⟨mb,nsK hb,hbb⟩,let⟨mc,h1,h2⟩:=hlim;⟨mc,nsK h1,h2⟩⟩
  have e0:Lp P w K mg (Hk s₁.heap H) callerA [] s₁ H:=⟨rfl,hM,λb o e=>OM e,Nat.le_of_eq (Lj _ _),trivial,λb hb=>absurd (show b∈([]:List Addr)from hb) (by simp),hok,.of_eq hg⟩
  refine codeAny_mono ((F _ hKb (nsK hns)).run callerA [] s₁ H ⟨[.ref a],[]⟩ [.ref a] [.ref a] _ _ hr e0 (hbind s₁ (.ref a)) (.cons rfl .nil) (hsp H hO hS)) λr s' h=>?_
  cases r with
  |error e=>exact(hCX H e s' h).elim
  |ok fl=>
   cases fl with
   |next=>exact False.elim h
   |brk=>exact False.elim h
   |cont=>exact False.elim h
   |ret u=>
    obtain⟨v,H',os,bare,un,hok',r',q⟩:=h
    have q':v=.bl true:=q
    subst q'
    obtain rfl:u=Value.bool true:=r'
    refine⟨rfl,OldK.of_keep λb o e=>?_,os,bare⟩
    cases q:H b with
    |none=>exact un.keep b o e q (by intro z;exact absurd (show b∈([]:List Addr)from z) (by simp)) (by simp)
    |some u=>
     rcases hO b with z|⟨ob,xs,z⟩
     ·rw[q]at z;cases z
     ·have z2:=un.frzs b ob _ z
      obtain⟨e1,_⟩:=hok b _ z
      obtain⟨e2,_⟩:=hok' b _ z2
      rw[e]at e1;cases e1
      exact e2
 cases hk:K.lookup a with
 |some o=>
  have e:=KX a o hk
  rw[ha]at e
  cases e
  refine core (λ_=>none) (λ_=>.inl rfl) (.inr ⟨_,vs.toArray,_,hk,rfl,rfl,rfl,by rw[List.size_toArray,lenV];exact hl,by simpa using rv⟩) (λb u z=>by have z':(none:Option HO)=some u:=z;cases z') (λb z=>absurd rfl z) λz=>absurd rfl z
 |none=>
  refine core (λb=>if b=a then some (.frz { cls:=.type "list",data:=.seq vs.toArray } (.lst (ns.map V.int)))else none) (λb=>?_) (.inl (.inr ⟨{ cls:=.type "list",data:=.seq vs.toArray },if_pos rfl⟩)) (λb u z=>?_) (λb z=>?_) λ_=>hk
  ·by_cases hb:b=a
   ·exact .inr ⟨_,_,if_pos hb⟩
   ·exact .inl (if_neg hb)
  ·by_cases hb:b=a
   ·have z':=(if_pos hb).symm.trans z
    cases z'
    subst hb
    exact⟨ha,by rw[List.length_map];exact hl,vs,_,rv,ha⟩
   ·have z':=(if_neg hb).symm.trans z
    cases z'
  ·by_cases hb:b=a
   ·exact hb
   ·exact absurd (if_neg hb) z
end L2
namespace L2
open PySem PySem.Spec PyProof.Rows
abbrev KOf {K:PySem.W.Frag}{h:Heap}(_:K.In h):PySem.W.Frag:=K
theorem OX {l:PySem.W.OpenLaw}{n k:Nat}{q:Program}{loose:List Str}{XP:(Str->Option Value)->Heap->Prop}{YP:World->Heap->Prop}{d:DefRec}{K:Params->PySem.W.Frag}{CX:World->GX}{sp:World->Sp}{x:Str}
 (hn:l.most=some n)(hn2:n<=sizeLine)(hdf:d.params.defaults=[])(hr:Bj k callerA)
 (hY:∀(w:World) (h:Heap),YP w h->(K w.params).In h)
 (F:∀(w:World) (mg:Str->Option Value) (fa:Addr) (h:Heap),(K w.params).In h->h.Ns mainGlobals mg->mg d.name=some (.ref fa)->
  ∃fd:FuncData,(∀(s:Shared) (u:Value),BindsTo s fd ⟨[u],[]⟩ [(x,u)])/\
   ∀base:Heap,(K w.params).In base->base.Ns mainGlobals mg->D9 l.prog w (K w.params) mg base (CX w) k fa fd [x] (sp w))
 (hsp:∀(w:World) (H:Hp) (a:Addr) (ns:List Int),ns.length<=n->OW H->An (K w.params) H a (ns.map V.int)->sp w [.ref a] H (λv _=>v=.bl true) λ_ _ _=>False)
 (hCX:∀(w:World) (H:Hp) (s:Shared) (e:Value) (s':Shared),CX w [] H s (λ_ _ _=>False) e s'->False):
 PySem.W.WalkO q loose XP YP l.row.toRowW d [] (λf vs=>PySem.call f vs):=by
 refine Att.Iv hn hdf λw s₀ s₁ mg mb fa o pm cd doc a vs ns G Y ho hd hcd hmg hobj hints hlen hg=>?_
 have KX:=hY w _ Y
 obtain⟨fd,hb,hF⟩:=F w mg fa _ KX G.T.g hmg
 exact Mz KX G.T.g G.T.b G.T.builtins G.T.nolimit hg hobj hints (Nat.le_trans hlen hn2) hr hF hb (λH hO hS=>hsp w H a ns hlen hO hS) λH e s'=>hCX w H s₁ e s'
theorem walk_ofK {l:PySem.W.OpenLaw}{n k:Nat}{q:Program}{loose:List Str}{XP:(Str->Option Value)->Heap->Prop}{YP:World->Heap->Prop}{d:DefRec}{K:Params->PySem.W.Frag}{CX:GX}{sp:PySem.W.Frag->Sp}{x:Str}
 (hn:l.most=some n)(hn2:n<=sizeLine)(hdf:d.params.defaults=[])(hr:Bj k callerA)
 (hY:∀(w:World) (h:Heap),YP w h->(K w.params).In h)
 (F:∀(w:World) (mg:Str->Option Value) (fa:Addr) (h:Heap),(K w.params).In h->h.Ns mainGlobals mg->mg d.name=some (.ref fa)->
  ∃fd:FuncData,(∀(s:Shared) (u:Value),BindsTo s fd ⟨[u],[]⟩ [(x,u)])/\
   ∀base:Heap,(K w.params).In base->base.Ns mainGlobals mg->D9 l.prog w (K w.params) mg base CX k fa fd [x] (sp (K w.params)))
 (hsp:∀(K:PySem.W.Frag) (H:Hp) (a:Addr) (ns:List Int),ns.length<=n->OW H->An K H a (ns.map V.int)->sp K [.ref a] H (λv _=>v=.bl true) λ_ _ _=>False)
 (hCX:∀(H:Hp) (s:Shared) (e:Value) (s':Shared),CX [] H s (λ_ _ _=>False) e s'->False):
 PySem.W.WalkO q loose XP YP l.row.toRowW d [] (λf vs=>PySem.call f vs):=
 OX (K:=K) (CX:=λ_=>CX) (sp:=λw=>sp (K w.params)) hn hn2 hdf hr hY F (λw H a ns h1 h2 h3=>hsp (K w.params) H a ns h1 h2 h3) λ_ H s e s'=>hCX H s e s'
end L2
namespace L2
open PySem PySem.Spec PyProof.Rows
def CV (s:Stmt):Arguments:=match s with
 |.FunctionDef _ a _ _ _ _ _ _ _ _=>a
 |_=>{ posonlyargs:=[],args:=[],vararg:=none,kwonlyargs:=[],kw_defaults:=[],kwarg:=none,defaults:=[] }
def Bh (s:Stmt):List Stmt:=match s with
 |.FunctionDef _ _ b _ _ _ _ _ _ _=>b
 |_=>[]
def AM (s:Stmt):Scope:=match s with
 |.FunctionDef _ _ _ _ _ _ sc _ _ _=>sc
 |_=>{ kind:=.function,names:=[],isGenerator:=false,isCoroutine:=false }
abbrev CX0:GX:=λ_ _ _ _ _ _=>False
abbrev E0:XK:=λ_ _ _=>False
theorem Ph {X:Cx}:Passes CX0 X E0:=λ_ _ _ _ _ _ _ h=>h.elim
structure OY (K:PySem.W.Frag)(x qual:Str)(st:Stmt)(f:Addr)(fd:FuncData):Prop where
 ex:∃(oc:Value) (od:Option Addr) (kV doc pm:Value) (an:Option Addr) (cdv ct:Value) (osl:Array (Option Value)),
  fd=PySem.W.fnOf x qual (CV st) (Bh st) (AM st) .none kV doc pm an cdv ct/\K.lookup f=some ⟨oc,od,.func fd,osl⟩/\PySem.W.codeIn K cdv qual=true
 kp:PySem.W.keepIn K (.ref f)=true
section
variable {P:Program}{w:World}{K:PySem.W.Frag}{mg:Str->Option Value}{base:Heap}
theorem OY.ok {x qual:Str}{st:Stmt}{f:Addr}{fd:FuncData}{N ps:List Str}{k:Nat}{sp:Sp}(F:OY K x qual st f fd)(S:Ab N ps (AM st))(len:∀vs H Q E,sp vs H Q E->vs.length=ps.length)
 (hbody:∀(cdv:Value) (A:Around) (outer:List Env) (s:Shared) (H:Hp) (vs:List V) (Q:VK) (E:XK),Bj k (A.deeper (envOfC qual (AM st) s.heap.objs.size f cdv))->sp vs H Q E->
  ∃t,Fb (Dw CX0 P w K mg base N qual (AM st) f cdv A outer s H E).Pa (Bh st) t/\t { nx:=λ_ H'=>Q .non H',rt:=Q } (start N vs) H):D9 P w K mg base CX0 (k+1) f fd ps sp:=by
 obtain⟨oc,od,kV,doc,pm,an,cdv,ct,osl,rfl,lk,hcd⟩:=F.ex
 refine Pg lk hcd S len λA outer s H vs Q E hr hsp=>?_
 obtain⟨t,h,q⟩:=hbody cdv A outer s H vs Q E hr hsp
 exact⟨t,h.Pa,q⟩
theorem OY.binds {x qual:Str}{st:Stmt}{f:Addr}{fd:FuncData}{ps:List Str}(F:OY K x qual st f fd)
 (h:∀(kV doc pm:Value) (an:Option Addr) (cdv ct:Value) (us:List Value),us.length=ps.length->bindArgs (PySem.W.fnOf x qual (CV st) (Bh st) (AM st) .none kV doc pm an cdv ct) ⟨us,[]⟩=pure (ps.zip us)):Binds K fd ps []:=by
 obtain⟨oc,od,kV,doc,pm,an,cdv,ct,osl,rfl,lk,hcd⟩:=F.ex
 exact .all (h kV doc pm an cdv ct)
theorem QM {x qual:Str}{st:Stmt}{f:Addr}{oc:Value}{od an:Option Addr}{osl:Array (Option Value)}{kV doc pm cdv ct:Value}(l:K.lookup f=some ⟨oc,od,.func (PySem.W.fnOf x qual (CV st) (Bh st) (AM st) .none kV doc pm an cdv ct),osl⟩)
 (c:PySem.W.codeIn K cdv qual=true)(k:PySem.W.keepIn K (.ref f)=true):OY K x qual st f (PySem.W.fnOf x qual (CV st) (Bh st) (AM st) .none kV doc pm an cdv ct):=⟨⟨oc,od,kV,doc,pm,an,cdv,ct,osl,rfl,l,c⟩,k⟩
end
theorem RX {A:Around}{k:Nat}(hr:Bj k A):A.units+1 < cLine:=Nat.lt_of_le_of_lt (Nat.add_le_add_left (by decide:1<=64) _) hr.units
theorem Av {n:Nat}(h:n<=1000):n < sizeLine:=Nat.lt_of_le_of_lt h (by decide)
section
variable {X:Cx}
theorem pv (i:Nat){x:Str}{pos:Pos}(hN:X.N[i]?=some x:=by rfl)(hv:R9 X.env.scope x:=by first|exact Or.inl rfl|exact Or.inr (Or.inl rfl)|exact Or.inr (Or.inr rfl))(hd:(x==("__debug__":Str))=false:=by decide)
 (hcd:(x==("__classdict__":Str))=false:=by decide):PE X (.Name x pos) (RA i):=Pz hN hv hd hcd
end
theorem Ay {A B:Prop}(h:B):if false=true then A else B:=by
 rw[if_neg Bool.false_ne_true]
 exact h
theorem A1 {A B:Prop}(h:A):if true=true then A else B:=by
 rw[if_pos rfl]
 exact h
theorem Ht {c A B:Prop}[Decidable c](h1:c->A)(h2:¬c->B):if c then A else B:=by
 by_cases h:c
 ·rw[if_pos h]
  exact h1 h
 ·rw[if_neg h]
  exact h2 h
def AJ (H H':Hp):Prop:=∀b o,H b=some o->H' b=some o
theorem AJ.refl (H:Hp):AJ H H:=λ_ _ h=>h
theorem AJ.trans {H H1 H2:Hp}(a:AJ H H1)(b:AJ H1 H2):AJ H H2:=λc o h=>b c o (a c o h)
theorem AJ.free {H H':Hp}(e:AJ H H'){l:Addr}(h:H' l=Option.none):H l=Option.none:=by
 cases q:H l with
 |none=>rfl
 |some o=>
  rw[e l o q]at h
  cases h
theorem AJ.seq {K:PySem.W.Frag}{H H':Hp}{a:Addr}{xs:List V}(e:AJ H H')(h:An K H a xs):An K H' a xs:=by
 rcases h with(h|⟨o,h⟩)|h
 ·exact .inl (.inl (e _ _ h))
 ·exact .inl (.inr ⟨o,e _ _ h⟩)
 ·exact .inr h
end L2
set_option maxHeartbeats 16000000
namespace L2
open PySem PySem.Spec PyProof.Rows
theorem lookup_mem {α:Type}:∀{cl:List (Str×α)} {x:Str} {c:α},cl.lookup x=some c->(x,c)∈cl
 |[],_,_,h=>by simp at h
 |(y,d)::r,x,c,h=>by
  rw[List.lookup_cons]at h
  cases e:x==y with
  |true=>
   rw[e]at h
   have e':x=y:=eq_of_beq e
   cases h
   rw[e'];exact List.mem_cons_self
  |false=>
   rw[e]at h
   exact List.mem_cons_of_mem _ (lookup_mem h)
theorem Dx {α:Type}:∀{cl:List (Str×α)} {x:Str} {c:α},(x,c)∈cl->∃c',cl.lookup x=some c'
 |[],_,_,h=>nomatch h
 |(y,d)::r,x,c,h=>by
  rw[List.lookup_cons]
  cases e:x==y with
  |true=>exact⟨d,rfl⟩
  |false=>
   rcases List.mem_cons.mp h with h|h
   ·cases h
    simp at e
   ·exact Dx h
theorem EA {env:Env}{f:(Str×NameKind)->List (Str×Addr)->Sem (ForInStep (List (Str×Addr)))}
 (h1:∀x k cs,k≠NameKind.free->f (x,k) cs=pure (.yield cs))(h2:∀x cs c,env.cells.lookup x=some c->f (x,NameKind.free) cs=pure (.yield ((x,c)::cs))):
 ∀(names:List (Str×NameKind)) (acc:List (Str×Addr)),(∀x,(x,NameKind.free)∈names->∃c,env.cells.lookup x=some c)->
  ∃cl,forIn names acc f=pure cl/\(∀p∈cl,p∈acc\/env.cells.lookup p.1=some p.2)/\(∀p∈acc,p∈cl)/\∀x,(x,NameKind.free)∈names->∃c,(x,c)∈cl
 |[],acc,_=>⟨acc,rfl,λ_ h=>.inl h,λ_ h=>h,λ_ h=>nomatch h⟩
 |(x,k)::r,acc,h=>by
  by_cases hk:k=NameKind.free
  ·subst hk
   obtain⟨c,hc⟩:=h x List.mem_cons_self
   obtain⟨cl,e,a,b,d⟩:=EA h1 h2 r ((x,c)::acc) λy hy=>h y (List.mem_cons_of_mem _ hy)
   refine⟨cl,?_,λp hp=>?_,λp hp=>b p (List.mem_cons_of_mem _ hp),λy hy=>?_⟩
   ·rw[List.forIn_cons,h2 x acc c hc,pure_bind];exact e
   ·rcases a p hp with q|q
    ·rcases List.mem_cons.mp q with q|q
     ·subst q;exact .inr hc
     ·exact .inl q
    ·exact .inr q
   ·rcases List.mem_cons.mp hy with q|q
    ·cases q;exact⟨c,b _ List.mem_cons_self⟩
    ·exact d y q
  ·obtain⟨cl,e,a,b,d⟩:=EA h1 h2 r acc λy hy=>h y (List.mem_cons_of_mem _ hy)
   refine⟨cl,?_,a,b,λy hy=>?_⟩
   ·rw[List.forIn_cons,h1 x k acc hk,pure_bind];exact e
   ·rcases List.mem_cons.mp hy with q|q
    ·cases q;exact absurd rfl hk
    ·exact d y q
theorem Fl {scope:Scope}{env:Env}(h:∀x,(x,NameKind.free)∈scope.names->∃c,env.cells.lookup x=some c):
 ∃cl,closureFor scope env=pure cl/\(∀x c,cl.lookup x=some c->env.cells.lookup x=some c)/\∀x,(x,NameKind.free)∈scope.names->∃c,cl.lookup x=some c:=by
 have go:=EA (env:=env) (f:=λx cs=>match x with|(name,kind)=>if(kind==NameKind.free)=true then do let a<-cellOf env name;pure (.yield ((name,a)::cs))else pure (.yield cs))
  (λx k cs hk=>by
   have:(k==NameKind.free)=false:=by simpa using hk
   simp only[this,Bool.false_eq_true,if_false])
  (λx cs c hc=>by
   simp only[beq_self_eq_true,if_true]
   unfold cellOf
   rw[hc,pure_bind])
  scope.names [] h
 obtain⟨cl,e,a,_,d⟩:=go
 refine⟨cl,?_,λx c hx=>?_,λx hx=>?_⟩
 ·unfold closureFor
  simp only[bind_pure]
  exact e
 ·rcases a _ (lookup_mem hx)with q|q
  ·exact nomatch q
  ·exact q
 ·obtain⟨c,hc⟩:=d x hx
  exact Dx hc
theorem B9 {env:Env}{x:Str}{k:NameKind}:∀{names:List (Str×NameKind)},
 (names.map λ(n,k)=>if(k==NameKind.free&&env.scope.kind==.function&&env.kindOf n==some .cell)then(n,NameKind.cell)else(n,k)).lookup x=some k->
  names.lookup x=some k\/(k=.cell/\names.lookup x=some .free)
 |[],h=>by simp at h
 |(n,j)::r,h=>by
  have ih:=@B9 env x k r
  rw[List.lookup_cons]
  change List.lookup x ((if(j==NameKind.free&&env.scope.kind==.function&&env.kindOf n==some .cell)=true then(n,NameKind.cell)else(n,j))::_)=_ at h
  by_cases hc:(j==NameKind.free&&env.scope.kind==.function&&env.kindOf n==some .cell)=true
  ·rw[if_pos hc,List.lookup_cons]at h
   have hj:j=NameKind.free:=by
    simp only[Bool.and_eq_true]at hc
    exact eq_of_beq hc.1.1
   cases hx:x==n with
   |true=>rw[hx]at h;cases h;exact .inr ⟨rfl,by rw[hj]⟩
   |false=>rw[hx]at h;exact ih h
  ·rw[if_neg hc,List.lookup_cons]at h
   cases hx:x==n with
   |true=>rw[hx]at h;exact .inl h
   |false=>rw[hx]at h;exact ih h
def CO (X:Cx)(scope:Scope)(NL:List Str)(ix:List Nat)(cl:List (Str×Addr))(C:Addr)(s₃:Shared)(H₃:Hp)(fp:List Addr)(pins:List (Addr×Obj)):Cx where
 prog:=X.prog
 w:=X.w
 K:=X.K
 mg:=X.mg
 base:=X.base
 A:=X.A
 N:=NL++ix.map λj=>X.N.getD j ""
 s₀:=s₃
 H₀:=H₃
 env:=compEnvC scope cl C X.env
 outer:=X.stack
 stack:=X.stack
 ex:=fp
 fn:=λ_=>false
 calm:=X.calm
 pn:=X.pn++pins
 xe:=λ_ _=>False
def BO (NL:List Str)(ix:List Nat)(σ:St):St:=NL.map (λ_=>none)++ix.map λj=>σ.getD j none
def M0 (X:Cx)(ifs:List Expr)(t:TT):Prop:=
 ∀(pins:List (Addr×Obj)) (s:Shared) (σ:St) (H:Hp) (Q:Bool->Hp->Prop),Inv X pins σ H s->t σ H Q->
  wpAny (model X.prog X.w) X.A (forIn ifs true λc r=>if r=true then do let ok<-isTrue c X.env (eval c X.env);pure (ForInStep.yield ok)else pure (ForInStep.yield r)) (TP X pins σ Q) X.xe s
def Su:TT:=λ_ H Q=>Q true H
theorem CA {X:Cx}:M0 X [] Su:=λ_ _ _ H _ I h=>wpAny_tests_nil ⟨H,I,h⟩
theorem Fm {X:Cx}{c:Expr}{t:TT}(h:PT X c t):M0 X [c] t:=λpins s σ H Q I q=>wpAny_tests_one (h pins s σ H Q I q)
def Pj (NL:List Str)(ix:List Nat)(wi:TI)(g:TG)(tt:TT)(te:TE):TE:=λσ H Q=>
 wi σ H λJ H1=>∀acc,H1 acc=none->∃W:Nat->Nat->List V->Hp->Prop,(∃m,W 0 m [] (upd H1 acc (.lst [])))/\
  ∀i m ys H2,W i m ys H2->H2 acc=some (.lst ys)/\ys.length < sizeLine/\
   ((J.stop i H2/\Q (.ref acc) H2)\/(J.go i H2/\∃N:List V->Hp->Prop,(∀ys' H',N ys' H'->∃m',m' < m/\W (i+1) m' ys' H')/\
     ∀x H3,J.yld i H2 x H3->g x (BO NL ix σ) H3 λσ' H4=>σ'.drop NL.length=ix.map (λj=>σ.getD j none)/\tt σ' H4 λb H5=>
      if b=true then te σ' H5 λv H6=>H6 acc=some (.lst ys)/\N (ys++[v]) (upd H6 acc (.lst (ys++[v])))else N ys H5))
section
variable {X:Cx}{pins:List (Addr×Obj)}{σ:St}{H:Hp}{s:Shared}
structure Ct (X:Cx)(scope:Scope)(NL:List Str)(ix:List Nat):Prop where
 kind:scope.kind=.function
 cell:∀y∈scope.names,y.2≠.cell
 names:∀y∈scope.names,y.2=.local->scope.names.lookup y.1=some .local
 free:∀y∈scope.names,y.2=.free->X.env.kindOf y.1=some .cell\/X.env.kindOf y.1=some .free
 cap:∀j∈ix,∃x,X.N[j]?=some x/\scope.names.lookup x=some .free
theorem M1 {scope:Scope}{NL:List Str}{ix:List Nat}{cl:List (Str×Addr)}{fp:List Addr}{tn:Nat->Heap->Prop}{s₃:Shared}{h₁:Heap}{m:Str->Option Value}{tk:Nat}
 (S:Ct X scope NL ix)(I:Inv X pins σ H s₃)(c1:∀x c,cl.lookup x=some c->X.env.cells.lookup x=some c)(c2:∀x,(x,NameKind.free)∈scope.names->∃c,cl.lookup x=some c)
 (hf:∀b∈fp,El X pins H b)(ho:∀b∈fp,∃o,s₃.heap.get? b=some o)(hn:h₁.Ns s₃.heap.objs.size m)(old:∀b o,s₃.heap.get? b=some o->h₁.get? b=some o):
 Inv (CO X scope NL ix cl s₃.heap.objs.size s₃ H fp pins) [] (BO NL ix σ) H { s₃ with heap:=h₁,toks:=tk }:=by
 have e0:=I.OR
 have lt:∀b o,s₃.heap.get? b=some o->b≠s₃.heap.objs.size:=λb o e=>Nat.ne_of_lt (Heap.lt_size e)
 have nst:∀b,b≠X.env.locals->b∉X.fs->b∉EH X.stack:=λb h1 h2 h3=>(List.mem_cons.mp (I.FX b h3)).elim h1 h2
 have ok:(CO X scope NL ix cl s₃.heap.objs.size s₃ H fp pins).Ok:=
  { mod:=I.ok.mod
    kind:=S.kind
    glob:=I.ok.glob
    blt:=I.ok.blt
    above:=Nat.le_refl _
    inj:=λx y c h1 h2=>I.ok.inj x y c (c1 x c h1) (c1 y c h2)
    has:=λx hx=>by
     have hfree:scope.names.lookup x=some .free:=by
      rcases hx with hx|hx
      ·rcases B9 hx with q|⟨_,q⟩
       ·exact absurd rfl (S.cell _ (lookup_mem q))
       ·exact q
      ·rcases B9 hx with q|⟨z,_⟩
       ·exact q
       ·cases z
     exact c2 x (lookup_mem hfree)
    cab:=λ_ _ z=>nomatch z
    hd:=I.ok.hd
    frames:=I.ok.frames
    stk:=.inl rfl
    exf:=λb hb=>⟨let⟨o,e⟩:=ho b hb;lt b o e,λx c hx=>(hf b hb).2.2.2.2.1 x c (c1 x c hx)⟩
    bs:=I.bs
    bsz:=e0.bsz
    noex:=λb o e hb=>by
     rcases(hf b hb).2.2.2.1 with z|z
     ·exact I.ok.noex b o e z
     ·exact absurd (Nat.lt_of_lt_of_le (Heap.lt_size e) (Nat.le_trans I.ok.bsz z)) (Nat.lt_irrefl _)
    exfs:=λb hb=>nst b (hf b hb).2.1 (hf b hb).2.2.1
    DK:=e0.DK
    frf:=e0.frf }
 refine⟨ok,rfl,I.bare,Un.kept old,⟨m,hn,λi x v e1 e2 e3=>?_⟩,λx c e=>?_,I.hok.fresh (Nat.le_refl _),λx c e=>I.freeC x c (c1 x c e),λp hp=>?_,I.hok.kept old,?_⟩
 ·have hl:NL.length<=i:=by
   rcases Nat.lt_or_ge i NL.length with z|z
   ·exfalso
    unfold BO at e2
    rw[List.getElem?_append_left (by simpa using z),List.getElem?_map]at e2
    cases q:NL[i]? with
    |none=>rw[q]at e2;cases e2
    |some y=>rw[q]at e2;cases e2
   ·exact z
  unfold BO at e2
  rw[List.getElem?_append_right (by simpa using hl),List.length_map,List.getElem?_map]at e2
  change(NL++ix.map λj=>X.N.getD j "")[i]?=some x at e1
  rw[List.getElem?_append_right hl,List.getElem?_map]at e1
  cases q:ix[i - NL.length]? with
  |none=>rw[q]at e1;cases e1
  |some j=>
   rw[q]at e1 e2
   have e1':X.N.getD j ""=x:=Option.some.inj e1
   have e2':σ.getD j none=some v:=Option.some.inj e2
   obtain⟨x',hx',hfr⟩:=S.cap j (List.mem_of_getElem? q)
   have exx:x'=x:=by
    rw[<-e1',List.getD_eq_getElem?_getD,hx'];rfl
   subst exx
   have hσ:σ[j]?=some (some v):=by
    rw[List.getD_eq_getElem?_getD]at e2'
    cases z:σ[j]? with
    |none=>rw[z]at e2';cases e2'
    |some o=>rw[z]at e2';exact congrArg some e2'
   have kd:=S.free _ (lookup_mem hfr) rfl
   have vis:R9 X.env.scope x':=by
    rcases kd with z|z
    ·exact .inr (.inl z)
    ·exact .inr (.inr z)
   obtain⟨m',hn',hl'⟩:=I.loc
   obtain⟨u,r,l⟩:=hl' j x' v hx' hσ vis
   refine⟨u,r,.inr ?_⟩
   have hk':(compEnvC scope cl s₃.heap.objs.size X.env).kindOf x'=some .cell\/(compEnvC scope cl s₃.heap.objs.size X.env).kindOf x'=some .free:=by
    rcases e3 with z|z|z
    ·rcases B9 z with w|⟨w,_⟩
     ·rw[hfr]at w;cases w
     ·cases w
    ·exact .inl z
    ·exact .inr z
   refine⟨hk',?_⟩
   obtain⟨c,hc⟩:=c2 x' (lookup_mem hfr)
   rcases l with⟨k,_⟩|⟨k,c',ec,o,ho',hd⟩
   ·rcases kd with z|z
    ·rw[k]at z;cases z
    ·rw[k]at z;cases z
   ·have:c'=c:=by
     have:=c1 x' c hc
     rw[ec]at this
     exact Option.some.inj this
    subst this
    exact⟨c',hc,o,old _ _ ho',hd⟩
 ·obtain⟨v,o,ho',hd⟩:=I.cell x c (c1 x c e)
  exact⟨v,o,old _ _ ho',hd⟩
 ·have hp':p∈X.pn++pins:=by
   rcases List.mem_append.mp hp with z|z
   ·exact z
   ·exact nomatch z
  obtain⟨e,n,ne,nf,d⟩:=I.pin p hp'
  exact⟨old _ _ e,n,lt _ _ e,nst _ ne nf,d⟩
 ·show(NL.map (λ_=>(none:Option V))++ix.map λj=>σ.getD j none).length=(NL++ix.map λj=>X.N.getD j "").length
  simp
theorem Iy {scope:Scope}{NL:List Str}{ix:List Nat}{elt tg iter:Expr}{ifs:List Expr}{pos:Pos}{g:TG}{tt:TT}{te:TE}{cl:List (Str×Addr)}{fp:List Addr}{it:Addr}{tn:Nat->Heap->Prop}{J:It}{Q:VK}
 {E:Value->Shared->Prop}{RR:Value->Addr->Result->Shared->Prop}
 (hc:X.calm=true)(S:Ct X scope NL ix)(c1:∀x c,cl.lookup x=some c->X.env.cells.lookup x=some c)(c2:∀x,(x,NameKind.free)∈scope.names->∃c,cl.lookup x=some c)
 (hb:∀(cl:List (Str×Addr)) (C:Addr) (s₃:Shared) (H₃:Hp) (fp:List Addr) (pins:List (Addr×Obj)),PG (CO X scope NL ix cl C s₃ H₃ fp pins) tg g/\M0 (CO X scope NL ix cl C s₃ H₃ fp pins) ifs tt/\PE (CO X scope NL ix cl C s₃ H₃ fp pins) elt te)
 (I:Inv X pins σ H s)(T:Turn X.prog X.w X.K tg J fp it tn)(st:tn 0 s.heap)(hf:∀b∈fp,El X pins H b)
 (q:∀acc,H acc=none->∃W:Nat->Nat->List V->Hp->Prop,(∃m,W 0 m [] (upd H acc (.lst [])))/\
  ∀i m ys H2,W i m ys H2->H2 acc=some (.lst ys)/\ys.length < sizeLine/\
  ((J.stop i H2/\Q (.ref acc) H2)\/(J.go i H2/\∃N:List V->Hp->Prop,(∀ys' H',N ys' H'->∃m',m' < m/\W (i+1) m' ys' H')/\
    ∀x H3,J.yld i H2 x H3->g x (BO NL ix σ) H3 λσ' H4=>σ'.drop NL.length=ix.map (λj=>σ.getD j none)/\tt σ' H4 λb H5=>
     if b=true then te σ' H5 λv H6=>H6 acc=some (.lst ys)/\N (ys++[v]) (upd H6 acc (.lst (ys++[v])))else N ys H5)))
 (hRR:∀(acc C:Addr) (H':Hp) (s':Shared) (m':Str->Option Value),Inv X pins σ H' s'->s'.heap.Ns C m'->El X pins H' C->Q (.ref acc) H'->RR (.ref acc) C (.ok .next) s'):
 wpAny (model X.prog X.w) X.A (newList []) (λacc s₃=>wpAny (model X.prog X.w) X.A (newFunctionEnv scope X.env.globals cl [] X.env.qual none .none (some X.env)) (λcenv s₄=>
  codeAny (model X.prog X.w) X.A (.compStart (.ListComp elt [⟨tg,iter,ifs,0⟩] scope pos) 0 (.ref it) acc { cenv with scope:=relabel scope X.env }) (RR acc cenv.locals) s₄) E s₃) E s:=by
 refine wpAny_newObj_type (wpAny_newFunctionEnv S.cell (by intro y hy;simp at hy) (λh₁ hns₁ hsb₁=>?_) S.kind)
 have I3:Inv X pins σ (upd H s.heap.objs.size (.lst [])) { s with heap:=s.heap.push { cls:=.type "list",data:=.seq ([]:List Value).toArray },toks:=s.toks }:=I.QL (its:=[]) .nil (Nat.zero_le _)
 have hfr:H s.heap.objs.size=none:=I.hok.fresh (Nat.le_refl _)
 generalize hs3:({ s with heap:=s.heap.push { cls:=.type "list",data:=.seq ([]:List Value).toArray },toks:=s.toks }:Shared)=s₃ at I3
 have hsz:s₃.heap.objs.size=s.heap.objs.size+1:=by rw[<-hs3];exact Heap.size_push ..
 have old1:∀b o,s.heap.get? b=some o->s₃.heap.get? b=some o:=λb o e=>by rw[<-hs3];exact Heap.get?_push_of_some _ e
 have key:codeAny (model X.prog X.w) X.A (.compStart (.ListComp elt [⟨tg,iter,ifs,0⟩] scope pos) 0 (.ref it) (.ref s.heap.objs.size) (compEnvC scope cl s₃.heap.objs.size X.env))
  (RR (.ref s.heap.objs.size) s₃.heap.objs.size) { s₃ with heap:=h₁,toks:=s₃.toks+0 }:=by
  have hns:h₁.Ns s₃.heap.objs.size (λ_=>none):=by
   have:=hns₁
   rw[<-hs3]
   exact this
  have hsb:Heap.SameBut s₃.heap.objs.size (s₃.heap.push { cls:=.type "dict",data:=.dict #[] }) h₁:=by
   have:=hsb₁
   rw[<-hs3]
   exact this
  have old:∀b o,s₃.heap.get? b=some o->h₁.get? b=some o:=λb o e=>hsb.extBut b o (Nat.ne_of_lt (Heap.lt_size e)) (Heap.get?_push_of_some _ e)
  have hf3:∀b∈fp,El X pins (upd H s.heap.objs.size (.lst [])) b:=λb hb'=>by
   obtain⟨o,e,_⟩:=T.obj 0 _ st b hb'
   have ne:b≠s.heap.objs.size:=Nat.ne_of_lt (Heap.lt_size e)
   exact⟨by rw[AX ne];exact(hf b hb').1,(hf b hb').2⟩
  have ho3:∀b∈fp,∃o,s₃.heap.get? b=some o:=λb hb'=>by
   obtain⟨o,e,_⟩:=T.obj 0 _ st b hb'
   exact⟨o,old1 b o e⟩
  have st1:tn 0 h₁:=T.keep 0 _ _ st λb hb' o e=>old b o (old1 b o e)
  have I4:=M1 (tn:=tn) (tk:=s₃.toks+0) S I3 c1 c2 hf3 ho3 hns old
  obtain⟨W,⟨m0,w0⟩,turn⟩:=q s.heap.objs.size hfr
  obtain⟨hg,ht,he⟩:=hb cl s₃.heap.objs.size s₃ (upd H s.heap.objs.size (.lst [])) fp pins
  generalize hX':CO X scope NL ix cl s₃.heap.objs.size s₃ (upd H s.heap.objs.size (.lst [])) fp pins=X' at I4 hg ht he
  have p1:X'.prog=X.prog:=by rw[<-hX'];rfl
  have p2:X'.w=X.w:=by rw[<-hX'];rfl
  have p3:X'.K=X.K:=by rw[<-hX'];rfl
  have p4:X'.A=X.A:=by rw[<-hX'];rfl
  have p5:X'.env=compEnvC scope cl s₃.heap.objs.size X.env:=by rw[<-hX'];rfl
  have p6:X'.calm=true:=by rw[<-hX'];exact hc
  have p7:X'.xe=λ_ _=>False:=by rw[<-hX'];rfl
  have stat:∀{H':Hp},(∀b∈fp,H' b=none)->∀b∈fp,El X' [] H' b:=λ{H'} hn b hb'=>by
   have z:=hf3 b hb'
   obtain⟨o,eo⟩:=ho3 b hb'
   rw[<-hX']
   refine⟨hn b hb',Nat.ne_of_lt (Heap.lt_size eo),λq=>(List.mem_cons.mp (I3.FX b q)).elim z.2.1 z.2.2.1,.inl hb',λx c hx=>z.2.2.2.2.1 x c (c1 x c hx),λp hp=>?_⟩
   rcases List.mem_append.mp hp with w|w
   ·exact z.2.2.2.2.2 p w
   ·exact nomatch w
  have fin:∀i n ys H' s',Inv X' [] (BO NL ix σ) H' s'->W i n ys H'->Q (.ref s.heap.objs.size) H'->RR (.ref s.heap.objs.size) s₃.heap.objs.size (.ok .next) s':=λi n ys H' s' I' w' q'=>by
   obtain⟨m',hn',_⟩:=I'.loc
   have hos:s'.os=s₃.os:=by have:=I'.os;rw[<-hX']at this;exact this
   have hu:Un (EH X.stack) fp (upd H s.heap.objs.size (.lst [])) H' s₃.heap s'.heap:=by have:=I'.base;rw[<-hX']at this;exact this
   have hk:DJ X.prog X.w H' s'.heap:=by have:=I'.hok;rw[<-hX']at this;exact this
   have hfC:H' s₃.heap.objs.size=none:=by have:=I'.free;rw[<-hX']at this;exact this
   have hnC:s'.heap.Ns s₃.heap.objs.size m':=by rw[p5]at hn';exact hn'
   exact hRR _ _ H' s' m' (I3.PY hos hu hk I'.bare λb hb'=>⟨(hf3 b hb').2.2.2.1,(hf3 b hb').2.1,(hf3 b hb').2.2.2.2.1,(hf3 b hb').2.2.2.2.2⟩) hnC (I3.Hm (Nat.le_refl _) hfC) q'
  have loop:∀s₄:Shared,Inv X' [] (BO NL ix σ) (upd H s.heap.objs.size (.lst [])) s₄->tn 0 s₄.heap->codeAny (model X.prog X.w) X.A (.compLoop (.ListComp elt [⟨tg,iter,ifs,0⟩] scope pos) 0 (.ref it) (.ref s.heap.objs.size) (compEnvC scope cl s₃.heap.objs.size X.env))
   (RR (.ref s.heap.objs.size) s₃.heap.objs.size) s₄:=λs₄ I4 st1=>by
   refine codeAny_loop rfl (λn s'=>∃i ys H',Inv X' [] (BO NL ix σ) H' s'/\tn i s'.heap/\(∀b∈fp,H' b=none)/\W i n ys H') (λn s' hI=>?_) m0 ⟨0,[],_,I4,st1,λb hb'=>(hf3 b hb').1,w0⟩
   obtain⟨i,ys,H',I',st',fr',w'⟩:=hI
   show wpAny _ X.A ((compTurn (.ListComp elt [⟨tg,iter,ifs,0⟩] scope pos) 0 (.ref it) (.ref s.heap.objs.size) (compEnvC scope cl s₃.heap.objs.size X.env)).onRaise (λx=>do noteFrame x (compEnvC scope cl s₃.heap.objs.size X.env);theTreesLotGoes x)) _ _ s'
   refine wpAny_noted ?_
   rw[compTurn_list]
   obtain⟨hacc,hz8,alt⟩:=turn i n ys H' w'
   rcases alt with⟨stop,qn⟩|⟨go,N,hN,step⟩
   ·have d:=T.done X' p1 p2 p3 p6 i [] s' (BO NL ix σ) H' (notedBy (model X.prog X.w) X.A (compEnvC scope cl s₃.heap.objs.size X.env) λe s'=>RR (.ref s.heap.objs.size) s₃.heap.objs.size (.error e) s') I' (stat fr') st' stop
    rw[p4]at d
    refine wpAny_bind (wpAny_standAt (wpAny_bind (BH d λr s1 ⟨hr,I1⟩=>?_)))
    subst hr
    exact wpAny_pure (fin i n ys H' s1 I1 w' qn)
   ·have d:=T.item X' p1 p2 p3 p6 i [] s' (BO NL ix σ) H' (notedBy (model X.prog X.w) X.A (compEnvC scope cl s₃.heap.objs.size X.env) λe s'=>RR (.ref s.heap.objs.size) s₃.heap.objs.size (.error e) s') I' (stat fr') st' go
    rw[p4]at d
    refine wpAny_bind (wpAny_standAt (wpAny_bind (BH d λr s1 ⟨u,hr,h4⟩=>?_)))
    subst hr
    refine wpAny_bind (BH h4 λ_ s5 ⟨x,H5,I5,r5,y5,st5,fr5⟩=>?_)
    have I5':=I5.pinned (stat fr5) (T.obj _ _ st5)
    have nofail:∀{α:Type} {t:Sem α} {R:α->Shared->Prop} {sx:Shared},wpAny (model X'.prog X'.w) X'.A t R X'.xe sx->wpAny (model X.prog X.w) X.A t R (notedBy (model X.prog X.w) X.A (compEnvC scope cl s₃.heap.objs.size X.env) λe s'=>RR (.ref s.heap.objs.size) s₃.heap.objs.size (.error e) s') sx:=λ{α t R sx} hh=>by
     rw[p1,p2,p4,p7]at hh
     exact wpAny_mono hh (λ_ _ z=>z) λ_ _ z=>z.elim
    have again:∀{σ7:St} {H7:Hp} {s7:Shared} {ys':List V},σ7.drop NL.length=ix.map (λj=>σ.getD j none)->Inv X' ([]++En fp s5.heap) σ7 H7 s7->(∃m',m' < n/\W (i+1) m' ys' H7)->∃m,m < n/\∃i ys H',Inv X' [] (BO NL ix σ) H' s7/\tn i s7.heap/\(∀b∈fp,H' b=none)/\W i m ys H':=λ{σ7 H7 s7 ys'} hσ I7 n7=>by
     obtain⟨m',hm,w7⟩:=n7
     have Iw:Inv X' ([]++En fp s5.heap) (BO NL ix σ) H7 s7:=I7.weak (by rw[I7.len,I'.len]) λj v hj=>by
      have hlj:NL.length<=j:=by
       rcases Nat.lt_or_ge j NL.length with z|z
       ·exfalso
        unfold BO at hj
        rw[List.getElem?_append_left (by simpa using z),List.getElem?_map]at hj
        cases q:NL[j]? with
        |none=>rw[q]at hj;cases hj
        |some y=>rw[q]at hj;cases hj
       ·exact z
      unfold BO at hj
      rw[List.getElem?_append_right (by simpa using hlj),List.length_map,<-hσ,List.getElem?_drop]at hj
      rw[<-hj]
      congr 1
      omega
     refine⟨m',hm,i+1,ys',H7,Iw.EJ,T.keep _ _ _ st5 λb hb' o e=>(I7.pin (b,o) (List.mem_append_right _ (List.mem_append_right _ (C6 hb' e)))).1,λb hb'=>?_,w7⟩
     obtain⟨o,e,d⟩:=T.obj _ _ st5 b hb'
     exact(I7.pin (b,o) (List.mem_append_right _ (List.mem_append_right _ (C6 hb' e)))).2.1
    have hg':=nofail (hg _ s5 (BO NL ix σ) H5 x u _ I5' r5 (step x H5 y5))
    rw[p5]at hg'
    refine wpAny_bind (BH hg' λ_ s6 ⟨σ6,H6,I6,hσ6,q6⟩=>?_)
    have ht':=nofail (ht _ s6 σ6 H6 _ I6 q6)
    rw[p5]at ht'
    refine wpAny_bind (BH ht' λok s7 ⟨H7,I7,q7⟩=>?_)
    cases ok with
    |false=>
     have q7':N ys H7:=by simpa using q7
     exact wpAny_pure ⟨rfl,again hσ6 I7 (hN _ _ q7')⟩
    |true=>
     have q7':=(if_pos rfl).mp q7
     have he':=nofail (he _ s7 σ6 H7 _ I7 q7')
     rw[p5]at he'
     refine wpAny_bind (wpAny_bind (BH he' λv s8 ⟨y,H8,I8,r8,ha8,q8⟩=>?_))
     have ap:=nofail (BC _ s8 σ6 H8 (.ref s.heap.objs.size) [y] (.ref s.heap.objs.size) [v] (λ_ H9=>H9=upd H8 s.heap.objs.size (.lst (ys++[y]))) I8 rfl (.cons r8 .nil) ⟨_,ys,y,rfl,rfl,ha8,hz8,rfl⟩)
     refine wpAny_bind (BH ap λ_ s9 ⟨z,H9,I9,r9,e9⟩=>wpAny_pure (wpAny_pure ⟨rfl,?_⟩))
     subst e9
     exact again hσ6 I9 (hN _ _ q8)
  exact codeAny_compStart_list (loop _ I4 st1) (T.self X.A 0 _ _ _ st1 (loop _ I4 st1))
 exact key
theorem CJ {scope:Scope}{NL:List Str}{ix:List Nat}{elt tg iter:Expr}{ifs:List Expr}{pos:Pos}{wi:TI}{g:TG}{tt:TT}{te:TE}
 (hc:X.calm=true)(hi:PI X tg iter wi)(S:Ct X scope NL ix)
 (hb:∀(cl:List (Str×Addr)) (C:Addr) (s₃:Shared) (H₃:Hp) (fp:List Addr) (pins:List (Addr×Obj)),PG (CO X scope NL ix cl C s₃ H₃ fp pins) tg g/\M0 (CO X scope NL ix cl C s₃ H₃ fp pins) ifs tt/\PE (CO X scope NL ix cl C s₃ H₃ fp pins) elt te)
 (hs:∀x,foldedSetIterable iter X.env x=pure x:=by intro _;rfl):PE X (.ListComp elt [⟨tg,iter,ifs,0⟩] scope pos) (Pj NL ix wi g tt te):=by
 intro pins s σ H Q I h
 obtain⟨cl,hcl,c1,c2⟩:=Fl (scope:=scope) (env:=X.env) λx hx=>by
  rcases S.free _ hx rfl with z|z
  ·exact I.ok.has x (.inl z)
  ·exact I.ok.has x (.inr z)
 rw[eval_ListComp]
 refine wpAny_comprehension_free (use:=none) rfl hs hcl S.kind S.names (BH (hi pins s σ H _ I h) λxv s1 h1=>BH h1 λitv s2 h2=>?_)
 obtain⟨it,fp,tn,J,H2,rfl,I2,T,st2,f2,q⟩:=h2
 refine Iy (RR:=λacc C=>compPost (model X.prog X.w) X.A X.xe none (EP X pins σ Q) acc C) hc S c1 c2 hb I2 T st2 f2 q ?_
 intro acc C H' s' m' I' hn fC q'
 refine⟨m',hn,λh' sb=>⟨.ref acc,H',?_,rfl,q'⟩⟩
 exact I'.turned (t':=s'.toks) (λb o hb e=>sb.extBut b o hb e) fC.1 fC.2.1 fC.2.2.2.1 fC.2.2.2.2.1 fC.2.2.2.2.2
theorem K1 {i:Nat}{y:Str}{py spos:Pos}{scope:Scope}{NL:List Str}{ix:List Nat}{elt tg iter:Expr}{ifs:List Expr}{pos:Pos}{wi:TI}{g:TG}{tt:TT}{te:TE}
 (hN:X.N.Nodup)(hiy:X.N[i]?=some y)(hy:Loc X.env.scope y)
 (hc:X.calm=true)(hi:PI X tg iter wi)(S:Ct X scope NL ix)
 (hb:∀(cl:List (Str×Addr)) (C:Addr) (s₃:Shared) (H₃:Hp) (fp:List Addr) (pins:List (Addr×Obj)),PG (CO X scope NL ix cl C s₃ H₃ fp pins) tg g/\M0 (CO X scope NL ix cl C s₃ H₃ fp pins) ifs tt/\PE (CO X scope NL ix cl C s₃ H₃ fp pins) elt te)
 (hsw:swapsWith (.ListComp elt [⟨tg,iter,ifs,0⟩] scope pos) (some (.Name y py)) spos.line X.env=pure true:=by rfl)
 (hs:∀x,foldedSetIterable iter X.env x=pure x:=by intro _;rfl)
 (hf:X.fn y=true\/X.env.scope.names.lookup y=some .local:=by first|exact .inl rfl|exact .inr rfl|assumption):
 PS X (.Assign [.Name y py] (.ListComp elt [⟨tg,iter,ifs,0⟩] scope pos) spos) (OO (Pj NL ix wi g tt te) (FC i)):=by
 intro pins s σ H D I h
 obtain⟨cl,hcl,c1,c2⟩:=Fl (scope:=scope) (env:=X.env) λx hx=>by
  rcases S.free _ hx rfl with z|z
  ·exact I.ok.has x (.inl z)
  ·exact I.ok.has x (.inr z)
 rw[exec_Assign_Name_used _ _ _ _ hsw]
 refine wpAny_bind (wpAny_standAt (wpAny_bind ?_))
 show wpAny _ X.A (do let _<-comprehension (.ListComp elt [⟨tg,iter,ifs,0⟩] scope pos) scope X.env _ (newList []) false (eval iter X.env) (some (assign (.Name y py) X.env))) _ _ s
 refine wpAny_bind (BH (wpAny_comprehension_free (use:=some (assign (.Name y py) X.env)) (Q:=λ_ s'=>SP X pins D .next s') rfl hs hcl S.kind S.names
  (BH (hi pins s σ H _ I h) λxv s1 h1=>BH h1 λitv s2 h2=>?_)) λ_ s' hq=>wpAny_pure (wpAny_pure hq))
 obtain⟨it,fp,tn,J,H2,rfl,I2,T,st2,f2,q⟩:=h2
 refine Iy (RR:=λacc C=>compPost (model X.prog X.w) X.A X.xe (some (assign (.Name y py) X.env)) (λ_ s'=>SP X pins D .next s') acc C) (Q:=λx H1=>FC i x σ H1 D.nx) hc S c1 c2 hb I2 T st2 f2 q ?_
 intro acc C H' s' m' I' hn fC q'
 show wpAny _ X.A (assign (.Name y py) X.env (.ref acc)) _ _ _
 refine wpAny_assign_Name (Gk I' hN hiy hy (v:=.ref acc) rfl (λs'' I'' hsb=>?_) hf)
 obtain⟨a,sb,ha⟩:=hsb
 have hne:C≠a:=by
  rcases ha with z|z
  ·rw[z];exact fC.2.1
  ·exact λw=>fC.2.2.2.2.1 y a z w.symm
 refine⟨m',hn.sameBut sb hne,λh' sb'=>⟨_,H',?_,q'⟩⟩
 exact I''.turned (t':=s''.toks) (λb o hb e=>sb'.extBut b o hb e) fC.1 fC.2.1 fC.2.2.2.1 fC.2.2.2.2.1 fC.2.2.2.2.2
theorem Hu {J:It}{NL:List Str}{ix:List Nat}{g:TG}{tt:TT}{te:TE}{σ:St}{H1:Hp}{Qs:Hp->Prop}{acc:Addr}(n:Nat)(hn:n < 1000)(Pv:Nat->List V->Hp->Prop)
 (hacc:∀i ys H2,Pv i ys H2->H2 acc=some (.lst ys)/\ys.length<=i)(h0:Pv 0 [] (upd H1 acc (.lst [])))(hstop:∀ys H2,Pv n ys H2->J.stop n H2/\Qs H2)
 (hturn:∀i ys H2,i < n->Pv i ys H2->J.go i H2/\∀x H3,J.yld i H2 x H3->g x (BO NL ix σ) H3 λσ' H4=>σ'.drop NL.length=ix.map (λj=>σ.getD j none)/\tt σ' H4 λb H5=>
  if b=true then te σ' H5 λv H6=>H6 acc=some (.lst ys)/\Pv (i+1) (ys++[v]) (upd H6 acc (.lst (ys++[v])))else Pv (i+1) ys H5):
 ∃W:Nat->Nat->List V->Hp->Prop,(∃m,W 0 m [] (upd H1 acc (.lst [])))/\
 ∀i m ys H2,W i m ys H2->H2 acc=some (.lst ys)/\ys.length < sizeLine/\
  ((J.stop i H2/\Qs H2)\/(J.go i H2/\∃N:List V->Hp->Prop,(∀ys' H',N ys' H'->∃m',m' < m/\W (i+1) m' ys' H')/\
    ∀x H3,J.yld i H2 x H3->g x (BO NL ix σ) H3 λσ' H4=>σ'.drop NL.length=ix.map (λj=>σ.getD j none)/\tt σ' H4 λb H5=>
     if b=true then te σ' H5 λv H6=>H6 acc=some (.lst ys)/\N (ys++[v]) (upd H6 acc (.lst (ys++[v])))else N ys H5)):=by
 refine⟨λi m ys H2=>i<=n/\m=n - i/\Pv i ys H2,⟨n,Nat.zero_le _,rfl,h0⟩,λi m ys H2 ⟨hi,hm,hp⟩=>?_⟩
 obtain⟨a1,a2⟩:=hacc i ys H2 hp
 refine⟨a1,Av (by omega),?_⟩
 rcases Nat.lt_or_ge i n with lt|ge
 ·obtain⟨go,tn⟩:=hturn i ys H2 lt hp
  exact .inr ⟨go,Pv (i+1),λys' H' hN=>⟨n - (i+1),by omega,by omega,rfl,hN⟩,tn⟩
 ·have e:i=n:=by omega
  subst e
  exact .inl (hstop ys H2 hp)
end
end L2
namespace L2
open PySem PySem.Spec PyProof.Rows
section
variable {prog:Program}{w:World}{A:Around}{E:Value->Shared->Prop}{s:Shared}
theorem EM {it t:Addr}{i:Nat}{items:Array Value}{x:Value}{Q:Value->Shared->Prop}(hit:s.heap.IsTupleIter it t i)
 (ht:s.heap.IsTuple t items)(hx:items[i]?=some x)
 (hQ:∀h',h'.IsTupleIter it t (i+1)->Heap.SameBut it s.heap h'->Q x { s with heap:=h' }):
 wpAny (model prog w) A (Builtin.SmallTypes.nextOf (.ref it)) Q E s:=by
 obtain⟨o,ho,hc,hd⟩:=id hit
 obtain⟨ol,hol,_,nl,hdl⟩:=ht
 unfold Builtin.SmallTypes.nextOf
 refine wpAny_bind (wpAny_callSpecial?_slot (name:=Str.ofString "__next__") hit.typeIs F.slot_tuple_iterator_next
  (wpAny_call_entry F.slot_tuple_iterator_next hit.typeIs F.entry_tuple_iterator_next ?_ (F.args_tuple_iterator_next_1 _)))
 show wpAny _ _ (field (.ref it) 0 >>= _) _ _ s
 refine wpAny_bind (wpAny_field ho hd (x:=.ref t) rfl ?_)
 show wpAny _ _ (if(Value.ref t==Value.none)=true then _ else _) _ _ s
 rw[if_neg (show¬((Value.ref t==Value.none)=true)from Bool.false_ne_true)]
 show wpAny _ _ (field (.ref it) 1 >>= _) _ _ s
 refine wpAny_bind (wpAny_field ho hd (x:=.int i 0) rfl ?_)
 show wpAny _ _ (seqItems? (.ref t) >>= _) _ _ s
 refine wpAny_bind (wpAny_seqItems hol hdl ?_)
 simp only[Int.toNat_natCast,hx]
 refine wpAny_bind (wpAny_setField ho hd (by simp) (wpAny_pure ⟨x,rfl,wpAny_pure (hQ _ ?_ (Heap.SameBut.update ..))⟩))
 exact⟨_,Heap.get?_update_self _ ho (Obj.isFreed_of_fields (Obj.data_mapFields hd _)),(Obj.cls_mapFields ..).trans hc,by
  rw[Obj.data_mapFields hd];simp[rawInt]⟩
theorem Eu {it t:Addr}{i:Nat}{items:Array Value}{Q:Value->Shared->Prop}(hh:A.handled=none)
 (hit:s.heap.IsTupleIter it t i)(ht:s.heap.IsTuple t items)(hx:items[i]?=none)
 (hE:∀h' e,Heap.ExtBut it s.heap h'->(∃o,h'.get? e=some o/\o.cls=.type "StopIteration")->E (.ref e) { s with heap:=h' }):
 wpAny (model prog w) A (Builtin.SmallTypes.nextOf (.ref it)) Q E s:=by
 obtain⟨o,ho,hc,hd⟩:=id hit
 obtain⟨ol,hol,_,nl,hdl⟩:=ht
 unfold Builtin.SmallTypes.nextOf
 refine wpAny_bind (wpAny_callSpecial?_slot (name:=Str.ofString "__next__") hit.typeIs F.slot_tuple_iterator_next
  (wpAny_call_entry F.slot_tuple_iterator_next hit.typeIs F.entry_tuple_iterator_next ?_ (F.args_tuple_iterator_next_1 _)))
 show wpAny _ _ (field (.ref it) 0 >>= _) _ _ s
 refine wpAny_bind (wpAny_field ho hd (x:=.ref t) rfl ?_)
 show wpAny _ _ (if(Value.ref t==Value.none)=true then _ else _) _ _ s
 rw[if_neg (show¬((Value.ref t==Value.none)=true)from Bool.false_ne_true)]
 show wpAny _ _ (field (.ref it) 1 >>= _) _ _ s
 refine wpAny_bind (wpAny_field ho hd (x:=.int i 0) rfl ?_)
 show wpAny _ _ (seqItems? (.ref t) >>= _) _ _ s
 refine wpAny_bind (wpAny_seqItems hol hdl ?_)
 simp only[Int.toNat_natCast,hx]
 refine wpAny_bind (wpAny_rule (wpAny_bind (wpAny_setField ho hd (by simp) ?_)))
 show wpAny _ _ (newExc (.type "StopIteration") [] >>= _) _ _ _
 refine wpAny_bind ?_
 simp only[newExc,newTuple]
 refine wpAny_bind (wpAny_newObj_type ?_ (by size_fits))
 refine wpAny_bind (m:=firstArgMember _ _) (wpAny_of_eq (a:=Value.none) (by first|rfl|(simp only[firstArgMember];rfl)) ?_)
 refine wpAny_newObj_type ?_ (by size_fits)
 simp only[raiseNew]
 refine wpAny_bind (wpAny_handled ?_)
 first|rw[show A.in1.handled=none from hh]|rw[hh]
 refine wpAny_bind (wpAny_pure (wpAny_throw ?_))
 exact hE _ _ (((Heap.SameBut.update ..).extBut.push _).push _) ⟨_,Heap.get?_push_size _ rfl,rfl⟩
end
theorem Iz {prog:Program}{w:World}{A:Around}(hh:A.handled=none)(it l:Addr)(hne:l≠it)(items:Array Value):
 Draws prog w A it [it,l] items.size (λi v=>items[i]?=some v) (λi h=>h.IsTupleIter it l i/\h.IsTuple l items) where
 live:=λ_ _ st=>let⟨o,ho,_⟩:=st.1;⟨o,ho⟩
 frame:=λ_ _ _ st hk=>⟨st.1.at λo e=>hk it (by simp) o e,let⟨o,ho,r⟩:=st.2;⟨o,hk l (by simp) o ho,r⟩⟩
 item:=λi s Q E hi st hQ=>by
  refine EM st.1 st.2 (x:=items[i]) (by simp[hi]) λh' hit' hs'=>?_
  exact hQ _ h' s.toks (by simp[hi]) ⟨hit',st.2.extBut hs'.extBut hne⟩ hs'
 done:=λs Q E st hE=>Eu hh st.1 st.2 (by simp) hE
theorem Lv {prog:Program}{w:World}{A:Around}(hh:A.handled=none)(it:Addr)(x:Str)(t:Tok):
 Draws prog w A it [it] x.cps.size (λi v=>∃c u,x.cps[i]?=some c/\v=.str ⟨#[c]⟩ u) (λi h=>h.IsStrIter it (strIterType x) x t i):=by
 unfold strIterType
 cases x.cps.all (·< 128)with
 |true=>exact Draws.strAscii hh it x t
 |false=>exact Draws.strWide hh it x t
inductive SK where
 |lst (a:Addr)|tup (a:Addr)|str (x:Str)
def SK.val:SK->V
 |.lst a=>.ref a
 |.tup a=>.ref a
 |.str x=>.str x
def signs (x:Str):List V:=x.cps.toList.map λc=>.str ⟨#[c]⟩
def SK.has (H:Hp):SK->List V->Prop
 |.lst a,xs=>Rd H a (.lst xs)
 |.tup a,xs=>Rd H a (.tup xs)
 |.str x,xs=>xs=signs x
def SK.own (it:Addr)(k:Nat)(h:Heap):SK->Prop
 |.lst a=>h.IsListIter it a k
 |.tup a=>h.IsTupleIter it a k
 |.str x=>∃t,h.IsStrIter it (strIterType x) x t k
theorem SK.Ew {it:Addr}{k:Nat}{h h':Heap}{κ:SK}(x:κ.own it k h)(e:∀o,h.get? it=some o->h'.get? it=some o):κ.own it k h':=by
 cases κ with
 |lst a=>exact Heap.IsListIter.at x e
 |tup a=>exact Heap.IsTupleIter.at x e
 |str y=>obtain⟨t,o,ho,r⟩:=x;exact⟨t,o,e o ho,r⟩
theorem SK.Dn {it:Addr}{k:Nat}{h:Heap}{κ:SK}(x:κ.own it k h):∃o,h.get? it=some o/\(∀v,o.data≠.cell v)/\o.cls≠.type "tuple"/\o.cls≠.type "zip"/\o.cls≠.type "enumerate":=by
 cases κ with
 |lst a=>obtain⟨o,ho,c,d⟩:=x;exact⟨o,ho,(λv z=>by rw[d]at z;cases z),(λz=>by rw[c]at z;simp at z),(λz=>by rw[c]at z;simp at z),(λz=>by rw[c]at z;simp at z)⟩
 |tup a=>obtain⟨o,ho,c,d⟩:=x;exact⟨o,ho,(λv z=>by rw[d]at z;cases z),(λz=>by rw[c]at z;simp at z),(λz=>by rw[c]at z;simp at z),(λz=>by rw[c]at z;simp at z)⟩
 |str y=>
  obtain⟨t,o,ho,c,d⟩:=x
  refine⟨o,ho,(λv z=>by rw[d]at z;cases z),?_,?_,?_⟩<;>
  ·intro z
   rw[c]at z
   unfold strIterType at z
   split at z<;>simp at z
theorem Rd.inj {H:Hp}{a:Addr}{u v:HO}(hu:∀o w,u≠.frz o w)(hv:∀o w,v≠.frz o w)(x:Rd H a u)(y:Rd H a v):u=v:=by
 rcases x with x|⟨o,x⟩<;>rcases y with y|⟨p,y⟩<;>rw[x]at y
 ·exact Option.some.inj y
 ·exact absurd (Option.some.inj y) (hu p v)
 ·exact absurd (Option.some.inj y).symm (hv o u)
 ·have:=Option.some.inj y
  injection this
theorem SK.inj {H:Hp}{κ:SK}{xs ys:List V}(x:κ.has H xs)(y:κ.has H ys):xs=ys:=by
 cases κ with
 |lst a=>have:=Rd.inj (u:=.lst xs) (v:=.lst ys) (λ_ _ z=>nomatch z) (λ_ _ z=>nomatch z) x y;injection this
 |tup a=>have:=Rd.inj (u:=.tup xs) (v:=.tup ys) (λ_ _ z=>nomatch z) (λ_ _ z=>nomatch z) x y;injection this
 |str z=>exact Eq.trans x (Eq.symm y)
def SK.box:SK->List Addr
 |.lst a=>[a]
 |.tup a=>[a]
 |.str _=>[]
theorem SK.EN {H:Hp}{κ:SK}{xs:List V}(x:κ.has H xs){b:Addr}(hb:b∈κ.box):H b≠none:=by
 cases κ with
 |lst a=>have e:b=a:=by simpa[SK.box]using hb
         subst e;intro z;rcases x with q|⟨o,q⟩<;>(rw[z]at q;cases q)
 |tup a=>have e:b=a:=by simpa[SK.box]using hb
         subst e;intro z;rcases x with q|⟨o,q⟩<;>(rw[z]at q;cases q)
 |str z=>simp[SK.box]at hb
section
variable {X:Cx}{pins:List (Addr×Obj)}{σ:St}{H:Hp}{s:Shared}
theorem Cu {κ:SK}{it:Addr}{k:Nat}{xs:List V}{A:Around}(I:Inv X pins σ H s)(hv:κ.has H xs)(hit:κ.own it k s.heap)(hn:H it=none)(hh:A.handled=none):
 ∃(P:Nat->Value->Prop) (St:Nat->Heap->Prop),Draws X.prog X.w A it (it::κ.box) xs.length P St/\St k s.heap/\(∀i u,P i u->∃x,xs[i]?=some x/\RelV x u)/\(∀i h,St i h->κ.own it i h):=by
 have ne:∀b∈κ.box,b≠it:=λb hb z=>SK.EN hv hb (by rw[z];exact hn)
 cases κ with
 |lst a=>
  obtain⟨_,its,n,r,e⟩:=Rd.ok hv I.hok
  have hl:s.heap.IsList a its.toArray:=⟨_,e,rfl,n,rfl⟩
  have D:=Draws.list (prog:=X.prog) (w:=X.w) hh it a (ne a (by simp[SK.box])) its.toArray
  rw[List.size_toArray,<-r.length]at D
  refine⟨_,_,D,⟨hit,hl⟩,λi u hu=>?_,λi h st=>st.1⟩
  ·have hu':its[i]?=some u:=by simpa using hu
   have hlt:i < xs.length:=by rw[r.length];exact(List.getElem?_eq_some_iff.mp hu').1
   obtain⟨u',e1,e2⟩:=r.get (List.getElem?_eq_getElem hlt)
   rw[hu']at e1;cases e1
   exact⟨_,List.getElem?_eq_getElem hlt,e2⟩
 |tup a=>
  obtain⟨_,its,r,ht⟩:=Rd.ok hv I.hok
  have hl:s.heap.IsTuple a its.toArray:=ht
  have D:=Iz (prog:=X.prog) (w:=X.w) hh it a (ne a (by simp[SK.box])) its.toArray
  rw[List.size_toArray,<-r.length]at D
  refine⟨_,_,D,⟨hit,hl⟩,λi u hu=>?_,λi h st=>st.1⟩
  ·have hu':its[i]?=some u:=by simpa using hu
   have hlt:i < xs.length:=by rw[r.length];exact(List.getElem?_eq_some_iff.mp hu').1
   obtain⟨u',e1,e2⟩:=r.get (List.getElem?_eq_getElem hlt)
   rw[hu']at e1;cases e1
   exact⟨_,List.getElem?_eq_getElem hlt,e2⟩
 |str z=>
  obtain⟨t,hit⟩:=hit
  have hv':xs=signs z:=hv
  subst hv'
  have D:=Lv (prog:=X.prog) (w:=X.w) hh it z t
  have e:(signs z).length=z.cps.size:=by simp[signs]
  rw[<-e]at D
  refine⟨_,_,D,hit,λi u hu=>?_,λi h st=>⟨t,st⟩⟩
  ·obtain⟨c,u',hc,rfl⟩:=hu
   refine⟨.str ⟨#[c]⟩,?_,⟨u',rfl⟩⟩
   simp only[signs,List.getElem?_map,Array.getElem?_toList,hc,Option.map_some]
theorem Inv.Gx {ch:List Addr}{p:Addr}{o:HO}{h':Heap}{tk:Nat}(I:Inv X pins σ H s)
 (hch:∀b∈ch,El X pins H b)(k:∀b ob,b∉ch->s.heap.get? b=some ob->h'.get? b=some ob)(hp:s.heap.objs.size<=p)(new:A0 X.prog X.w (upd H p o) h' p o):
 Inv X pins σ (upd H p o) { s with heap:=h',toks:=tk }:=by
 have hn:H p=none:=I.hok.fresh hp
 refine I.call (g':=s.gens) (d':=s.drawn) (ch:=ch) ⟨λb u q _ _ hx=>k b u hx q,λb u q _ _ hx=>⟨u.slots,k b u hx q⟩,λb u q n _=>?_,λb u q hx=>⟨u,k b u hx q⟩,λb xs q=>?_,λb u xs q=>?_,λb ps q=>⟨#[],?_⟩⟩ (λb u e=>?_) I.bare
  λb hb=>⟨(hch b hb).2.2.2.1,(hch b hb).2.1,(hch b hb).2.2.2.2.1,(hch b hb).2.2.2.2.2⟩
 ·rw[AX (Nat.ne_of_lt (Nat.lt_of_lt_of_le (Heap.lt_size q) hp))];exact n
 ·rw[AX (AV q hn)];exact q
 ·rw[AX (AV q hn)];exact q
 ·rw[AX (AV q hn),q];simp
 ·by_cases hb:b=p
  ·subst hb;rw[AD]at e;cases e;exact new
  ·rw[AX hb]at e
   refine(I.hok b u e).D7 (λc v hc q=>k c v (λhm=>?_) q) (λc q=>by rw[AX (AV q hn)];exact q) λc xs q=>by rw[AX (AV q hn)];exact q
   have z:=(hch c hm).1
   rcases hc with hc|hc
   ·rw[hc,e]at z;cases z
   ·rw[hc]at z;cases z
theorem Inv.KG {ch:List Addr}{h':Heap}{tk:Nat}(I:Inv X pins σ H s)
 (hch:∀b∈ch,El X pins H b)(k:∀b ob,b∉ch->s.heap.get? b=some ob->h'.get? b=some ob):Inv X pins σ H { s with heap:=h',toks:=tk }:=by
 refine I.call (g':=s.gens) (d':=s.drawn) (ch:=ch) ⟨λb u q _ _ hx=>k b u hx q,λb u q _ _ hx=>⟨u.slots,k b u hx q⟩,λb u q n _=>n,λb u q hx=>⟨u,k b u hx q⟩,λb xs q=>q,λb u xs q=>q,λb ps q=>⟨#[],by rw[q];simp⟩⟩ (λb u e=>?_) I.bare
  λb hb=>⟨(hch b hb).2.2.2.1,(hch b hb).2.1,(hch b hb).2.2.2.2.1,(hch b hb).2.2.2.2.2⟩
 refine(I.hok b u e).D7 (λc v hc q=>k c v (λhm=>?_) q) (λ_ q=>q) λ_ _ q=>q
 have z:=(hch c hm).1
 rcases hc with hc|hc
 ·rw[hc,e]at z;cases z
 ·rw[hc]at z;cases z
end
def Pk (κ:SK):It:=
 ⟨λi H=>∃xs x,κ.has H xs/\xs[i]?=some x,λi H v H'=>∃p x,v=.ref p/\H p=none/\H'=upd H p (.tup [.int i,x])/\∀xs,κ.has H xs->xs[i]?=some x,λi H=>∃xs,κ.has H xs/\xs.length=i⟩
theorem Lx {P:Program}{w:World}{K:PySem.W.Frag}{elts:List Expr}{x1:Nat}{tpos:Pos}(κ:SK)(e it:Addr)(hei:e≠it):
 Turn P w K (.Tuple elts x1 tpos) (Pk κ) [e,it] e (λi h=>(∃old,IsEnum h e it i old)/\κ.own it i h) where
 mem:=by simp
 obj:=λi h st b hb=>by
  obtain⟨⟨old,he⟩,ho⟩:=st
  simp only[List.mem_cons,List.not_mem_nil,or_false]at hb
  rcases hb with rfl|rfl
  ·exact⟨_,he,λv z=>by
    have z':Data.fields _=Data.cell v:=z
    cases z'⟩
  ·obtain⟨o,h1,h2,_⟩:=SK.Dn ho
   exact⟨o,h1,h2⟩
 keep:=λi h h' st k=>by
  obtain⟨⟨old,he⟩,ho⟩:=st
  exact⟨⟨old,k e (by simp) _ he⟩,SK.Ew ho λo q=>k it (by simp) o q⟩
 item:=by
  intro X hP hw hK hc i pins s σ H E I hf st hg
  subst hP hw hK
  obtain⟨⟨old,he⟩,ho⟩:=st
  obtain⟨xs,x,hx,hxi⟩:=hg
  have hlt:i < xs.length:=(List.getElem?_eq_some_iff.mp hxi).1
  have hh:X.A.in1.handled=none:=I.ok.hd hc
  obtain⟨Pp,St,D,hst,hrel,hown⟩:=Cu (A:=X.A.in1) I hx ho (hf it (by simp)).1 hh
  have hef:e∉it::κ.box:=λz=>by
   rcases List.mem_cons.mp z with z|z
   ·exact hei z
   ·exact SK.EN hx z (hf e (by simp)).1
  refine wpAny_pyNext_enum_itemD D he hst hlt hei hef λy h' tk hy ho' hst' hT hsz hk=>⟨_,rfl,?_⟩
  refine wpAny_letOwnedTupleGo_enum ho' λh'' he'' hs''=>?_
  obtain⟨x',hx',rx⟩:=hrel i y hy
  have exx:x'=x:=Option.some.inj (hx'.symm.trans hxi)
  subst exx
  have kk:∀b ob,b∉[e,it]->s.heap.get? b=some ob->h''.get? b=some ob:=λb ob hb q=>
   (hs''.2 b (λz=>hb (by simp[z]))).trans (hk b ob (λz=>hb (by simp[z])) (λz=>hb (by simp[z])) q)
  have ne:s.heap.objs.size≠e:=Nat.ne_of_gt (Heap.lt_size he)
  have hT':h''.get? s.heap.objs.size=some { cls:=.type "tuple",data:=.seq #[.int i tk,y] }:=(hs''.2 _ ne).trans hT
  refine⟨.ref s.heap.objs.size,upd H s.heap.objs.size (.tup [.int i,x']),I.Gx (tk:=tk+1) hf kk (Nat.le_refl _) ⟨⟨(by show 2<=sizeLine;decide),_,hT',rfl⟩,[.int i tk,y],.cons ⟨tk,rfl⟩ (.cons rx .nil),_,hT',rfl,0,rfl⟩,rfl,
   ⟨_,x',rfl,I.hok.fresh (Nat.le_refl _),rfl,λys hy'=>by rw[SK.inj hy' hx];exact hxi⟩,⟨⟨y,by simpa using he''⟩,SK.Ew (hown _ _ hst') λo q=>(hs''.2 it (Ne.symm hei)).trans q⟩,λb hb=>?_⟩
  obtain⟨o,hob,_⟩:∃o,s.heap.get? b=some o/\True:=by
   simp only[List.mem_cons,List.not_mem_nil,or_false]at hb
   rcases hb with rfl|rfl
   ·exact⟨_,he,trivial⟩
   ·obtain⟨o,h1,_⟩:=SK.Dn ho;exact⟨o,h1,trivial⟩
  rw[AX (Nat.ne_of_lt (Heap.lt_size hob))]
  exact(hf b hb).1
 done:=by
  intro X hP hw hK hc i pins s σ H E I hf st hg
  subst hP hw hK
  obtain⟨⟨old,he⟩,ho⟩:=st
  obtain⟨xs,hx,hlen⟩:=hg
  have hh:X.A.in1.handled=none:=I.ok.hd hc
  obtain⟨Pp,St,D,hst,hrel,hown⟩:=Cu (A:=X.A.in1) I hx ho (hf it (by simp)).1 hh
  have hst':St xs.length s.heap:=by rw[hlen];exact hst
  refine wpAny_pyNext_enum_endD D he hst' λh' hx'=>⟨rfl,?_⟩
  have f:=hf it (by simp)
  exact I.turned (t':=s.toks) (λb o hb q=>hx' b o hb q) f.1 f.2.1 f.2.2.2.1 f.2.2.2.2.1 f.2.2.2.2.2
 self:=λ_ _ _ _ _ st h=>let⟨⟨_,he⟩,_⟩:=st;wpAny_pyIter_enum he h
open AutoSeq1 (wpAny_loadPart') in
set_option maxHeartbeats 4000000 in
theorem DS (l:Addr)(items:Array Value)(n:Nat)(dct:Option Addr)(sl:Array (Option Value)):
 Meets (Builtin.«enumerate.__new__» ⟨[.type "enumerate",.ref l],[]⟩) (λ_ R s=>s.heap.get? l=some { cls:=.type "tuple",dict:=dct,data:=.seq items n,slots:=sl }/\
  R (.ok (.ret (.ref (s.heap.push { cls:=.type "tuple_iterator",data:=.fields #[.ref l,.int 0 0] }).objs.size)))
   { s with heap:=(s.heap.push { cls:=.type "tuple_iterator",data:=.fields #[.ref l,.int 0 0] }).push { cls:=.type "enumerate",data:=.fields #[.none,.bool false,.ref s.heap.objs.size,rawInt 0,.none,.none] } }):=
 .of_wp λprog w A R s h=>by
  obtain⟨hp,g,d,tk,os⟩:=s;obtain⟨hl,h⟩:=h
  have hsub:=sub_enumerate
  have hL:Heap.IsTuple (Shared.heap ⟨hp,g,d,tk,os⟩) l items:=⟨_,hl,rfl,n,rfl⟩
  wp_walk using wpAny_loadPart' hl
  refine wpAny_stack_any λst=>wpAny_pure ?_
  split
  ·rename_i c _ _ _ _ _
   cases(c==Value.type "enumerate")
   ·wp_walk using wpAny_loadPart' hl,wpAny_pyIter_tuple hL
    exact⟨_,rfl,h⟩
   ·wp_walk using wpAny_loadPart' hl,wpAny_pyIter_tuple hL
    exact⟨_,rfl,h⟩
  ·wp_walk using wpAny_loadPart' hl,wpAny_pyIter_tuple hL
   exact⟨_,rfl,h⟩
theorem DT {prog:Program}{w:World}{A:Around}{E:Value->Shared->Prop}{s:Shared}{l:Addr}{items:Array Value}{Q:Value->Shared->Prop}(hL:s.heap.IsTuple l items)
 (h:∀h',IsEnum h' (s.heap.objs.size+1) s.heap.objs.size 0 .none->h'.IsTupleIter s.heap.objs.size l 0->h'.objs.size=s.heap.objs.size+2->
  (∀b o,s.heap.get? b=some o->h'.get? b=some o)->Q (.ref (s.heap.objs.size+1)) { s with heap:=h' }):
 wpAny (model prog w) A (call (.type "enumerate") [.ref l]) Q E s:=by
 obtain⟨⟨c,dct,dt,sl⟩,hl,hc,n,hd⟩:=hL
 replace hc:c=.type "tuple":=hc
 replace hd:dt=.seq items n:=hd
 subst hc hd
 refine callType_new F.called_enumerate (by decide) (F.typeCall_enumerate_1 _) (F.newCall_enumerate_1 _) (λobj=>F.args_object_init_2 obj _) F.entry_enumerate_new
  (DS l items n dct sl) ⟨hl,?_⟩
 have hz:(s.heap.push { cls:=.type "tuple_iterator",data:=.fields #[.ref l,.int 0 0] }).objs.size=s.heap.objs.size+1:=Heap.size_push ..
 show _/\_
 rw[hz]
 have he:IsEnum ((s.heap.push { cls:=.type "tuple_iterator",data:=.fields #[.ref l,.int 0 0] }).push
  { cls:=.type "enumerate",data:=.fields #[.none,.bool false,.ref s.heap.objs.size,rawInt 0,.none,.none] }) (s.heap.objs.size+1) s.heap.objs.size 0 .none:=by
  have:=Heap.get?_push_size (s.heap.push { cls:=.type "tuple_iterator",data:=.fields #[.ref l,.int 0 0] })
   (o:={ cls:=.type "enumerate",data:=.fields #[.none,.bool false,.ref s.heap.objs.size,rawInt 0,.none,.none] }) rfl
  rw[hz]at this;exact this
 refine⟨⟨_,he,rfl⟩,h _ he ⟨_,Heap.get?_push_of_some _ (Heap.get?_push_size _ rfl),rfl,rfl⟩ (by rw[Heap.size_push,hz]) λb o x=>Heap.get?_push_of_some _ (Heap.get?_push_of_some _ x)⟩
section
variable {X:Cx}{pins:List (Addr×Obj)}{σ:St}{H:Hp}{s:Shared}
theorem Ly {κ:SK}{xs:List V}{u:Value}{E:Value->Shared->Prop}{Q:Value->Shared->Prop}(I:Inv X pins σ H s)(hv:κ.has H xs)(r:RelV κ.val u)
 (h:∀h',IsEnum h' (s.heap.objs.size+1) s.heap.objs.size 0 .none->κ.own s.heap.objs.size 0 h'->(∀b o,s.heap.get? b=some o->h'.get? b=some o)->Q (.ref (s.heap.objs.size+1)) { s with heap:=h' }):
 wpAny (model X.prog X.w) X.A (call (.type "enumerate") [u]) Q E s:=by
 cases κ with
 |lst a=>
  cases(show u=Value.ref a from r)
  obtain⟨_,its,n,rr,e⟩:=Rd.ok hv I.hok
  exact call_enumerate_list ⟨_,e,rfl,n,rfl⟩ λh' a1 a2 _ a4=>h h' a1 a2 a4
 |tup a=>
  cases(show u=Value.ref a from r)
  obtain⟨_,its,rr,e⟩:=Rd.ok hv I.hok
  exact DT e λh' a1 a2 _ a4=>h h' a1 a2 a4
 |str x=>
  obtain⟨t,q⟩:=(show∃t,u=Value.str x t from r)
  subst q
  exact call_enumerate_str λh' a1 a2 _ a4=>h h' a1 ⟨t,a2⟩ a4
def RY (ta:TA):TI:=λσ H R=>ta σ H λvs H1=>∃κ:SK,vs=[κ.val]/\(∃xs,κ.has H1 xs)/\R (Pk κ) H1
theorem Dp {a:Expr}{ta:TA}{p pos:Pos}{elts:List Expr}{x1:Nat}{tpos:Pos}(hg:Gl X "enumerate")(hm:X.mg "enumerate"=none)(ha:PA X [a] ta)
 (hs:starEach [a] X.env=[(false,eval a X.env)]:=by rfl):PI X (.Tuple elts x1 tpos) (.Call (.Name "enumerate" p) [a] [] pos) (RY ta):=by
 intro pins s σ H R I h
 refine Call_ (C4 I hg hm boot_enumerate (PyProof.Rows.callWith_type1 (BH (ha pos pins s σ H _ I h) λus s1 ⟨vs,H1,I1,r1,q1⟩=>?_) hs rfl))
 obtain⟨κ,e,⟨xs,hx⟩,q⟩:=q1
 subst e
 obtain⟨u,rfl,ru⟩:=vals1 r1
 refine Ly I1 hx ru λh' he hi hk=>?_
 refine wpAny_pyIter_enum he ⟨s1.heap.objs.size+1,[s1.heap.objs.size+1,s1.heap.objs.size],_,_,H1,rfl,I1.kept (t':=s1.toks) hk,Lx κ _ _ (Nat.ne_of_gt (Nat.lt_succ_self _)),⟨⟨_,he⟩,hi⟩,λb hb=>?_,q⟩
 have hge:s1.heap.objs.size<=b:=by
  simp only[List.mem_cons,List.not_mem_nil,or_false]at hb
  rcases hb with rfl|rfl
  ·exact Nat.le_succ _
  ·exact Nat.le_refl _
 exact I1.Hm hge (I1.hok.fresh hge)
end
structure ZA (z TI TO i1 i2:Addr)(fp1 fp2:List Addr):Prop where
 TIz:TI≠z
 TOz:TO≠z
 i1z:i1≠z
 i2z:i2≠z
 TITO:TI≠TO
 TIi1:TI≠i1
 TIi2:TI≠i2
 TOi1:TO≠i1
 TOi2:TO≠i2
 i12:i1≠i2
 z1:z∉fp1
 z2:z∉fp2
 o1:TO∉fp1
 o2:TO∉fp2
 a1:i2∉fp1
 a2:i1∉fp2
section
variable {prog:Program}{w:World}{A:Around}{E:Value->Shared->Prop}{s:Shared}
theorem Fn {z TI TO i1 i2:Addr}{fp1 fp2:List Addr}{n1 n2 k:Nat}{P1 P2:Nat->Value->Prop}{S1 S2:Nat->Heap->Prop}{a b:Value}{Q:Value->Shared->Prop}(Z:ZA z TI TO i1 i2 fp1 fp2)
 (D1:Draws prog w A i1 fp1 n1 P1 S1)(D2:Draws prog w A i2 fp2 n2 P2 S2)
 (hz:IsZip s.heap z TI TO .none)(hTI:IsPair s.heap TI (.ref i1) (.ref i2))(hTO:IsPair s.heap TO a b)(h1:S1 k s.heap)(h2:S2 k s.heap)(l1:k < n1)(l2:k < n2)
 (hQ:∀x y h' tk,P1 k x->P2 k y->IsZip h' z TI TO (rawInt s.heap.objs.size)->IsPair h' TO x y->S1 (k+1) h'->S2 (k+1) h'->IsPair h' s.heap.objs.size x y->h'.objs.size=s.heap.objs.size+1->
  (∀c o,c≠z->c≠TO->c≠i1->c≠i2->s.heap.get? c=some o->h'.get? c=some o)->Q (.ref s.heap.objs.size) { s with heap:=h',toks:=tk }):
 wpAny (model prog w) A (Builtin.«zip.__next__» ⟨[.ref z],[]⟩) (λfin s'=>∃v,fin=.done (.ret v)/\Q v s') E s:=by
 obtain⟨hp,g,d,tk₀,os⟩:=s
 show wpAny _ _ (field (.ref z) 2 >>= _) _ _ _
 refine wpAny_bind (wpAny_field hz rfl (x:=.bool false) rfl ?_)
 show wpAny _ _ (field (.ref z) 3 >>= _) _ _ _
 refine wpAny_bind (wpAny_field hz rfl (x:=.ref TI) rfl ?_)
 refine wpAny_bind (wpAny_seqItems hTI rfl ?_)
 show wpAny _ _ (Builtin.SmallTypes.ownedTupleIsFree (.ref z) >>= _) _ _ _
 refine wpAny_bind ?_
 unfold Builtin.SmallTypes.ownedTupleIsFree
 refine wpAny_bind (wpAny_field hz rfl (x:=.none) rfl (wpAny_pure ?_))
 simp only[if_true]
 refine wpAny_bind (wpAny_rule ?_)
 refine wpAny_bind (wpAny_field hz rfl (x:=.ref TO) rfl ?_)
 refine wpAny_bind (wpAny_setField_rec hz (by simp) λh₁ hz₁ hs₁=>?_)
 replace hz₁:IsZip h₁ z TI TO .ellipsis:=hz₁
 replace hs₁:Heap.SameBut z hp h₁:=hs₁
 refine wpAny_bind ?_
 simp only[List.zipIdx_cons,List.zipIdx_nil,List.forIn_cons,List.forIn_nil]
 refine wpAny_bind (wpAny_bind (wpAny_onRaise ?_))
 show wpAny _ _ (Builtin.SmallTypes.nextOf (.ref i1) >>= _) _ _ _
 have h1₁:S1 k h₁:=D1.frame _ _ _ h1 λc hc o e=>hs₁.extBut _ _ (λq=>Z.z1 (q▸hc)) e
 refine wpAny_bind (D1.item k _ _ _ l1 h1₁ λx h₂ tk₂ hx h1₂ hs₂=>wpAny_pure ?_)
 replace hs₂:Heap.SameBut i1 h₁ h₂:=hs₂
 have hTO₂:IsPair h₂ TO a b:=hs₂.extBut _ _ Z.TOi1 (hs₁.extBut _ _ Z.TOz hTO)
 refine wpAny_bind (wpAny_seqItems (s:=⟨h₂,g,d,tk₂,os⟩) hTO₂ rfl ?_)
 refine wpAny_bind (wpAny_updateSeq_pair (s:=⟨h₂,g,d,tk₂,os⟩) hTO₂ λh₃ hTO₃ hs₃=>?_)
 replace hTO₃:IsPair h₃ TO x b:=hTO₃
 replace hs₃:Heap.SameBut TO h₂ h₃:=hs₃
 refine wpAny_bind (wpAny_letGo (wpAny_pure ?_))
 refine wpAny_bind (wpAny_bind (wpAny_onRaise ?_))
 show wpAny _ _ (Builtin.SmallTypes.nextOf (.ref i2) >>= _) _ _ _
 have h2₃:S2 k h₃:=D2.frame _ _ _ h2 λc hc o e=>hs₃.extBut _ _ (λq=>Z.o2 (q▸hc)) (hs₂.extBut _ _ (λq=>Z.a2 (q▸hc)) (hs₁.extBut _ _ (λq=>Z.z2 (q▸hc)) e))
 refine wpAny_bind (D2.item k _ _ _ l2 h2₃ λy h₄ tk₄ hy h2₄ hs₄=>wpAny_pure ?_)
 replace hs₄:Heap.SameBut i2 h₃ h₄:=hs₄
 have hTO₄:IsPair h₄ TO x b:=hs₄.extBut _ _ Z.TOi2 hTO₃
 refine wpAny_bind (wpAny_seqItems (s:=⟨h₄,g,d,tk₄,os⟩) hTO₄ rfl ?_)
 refine wpAny_bind (wpAny_updateSeq_pair (s:=⟨h₄,g,d,tk₄,os⟩) hTO₄ λh₅ hTO₅ hs₅=>?_)
 replace hTO₅:IsPair h₅ TO x y:=hTO₅
 replace hs₅:Heap.SameBut TO h₄ h₅:=hs₅
 refine wpAny_bind (wpAny_letGo (wpAny_pure (wpAny_pure ?_)))
 refine wpAny_bind (wpAny_seqItems (s:=⟨h₅,g,d,tk₄,os⟩) hTO₅ rfl ?_)
 refine wpAny_bind (wpAny_newTuple ?_)
 have hsz:h₅.objs.size=hp.objs.size:=by rw[hs₅.1,hs₄.1,hs₃.1,hs₂.1,hs₁.1]
 have hz₅:IsZip h₅ z TI TO .ellipsis:=hs₅.extBut _ _ Z.TOz.symm (hs₄.extBut _ _ Z.i2z.symm (hs₃.extBut _ _ Z.TOz.symm (hs₂.extBut _ _ Z.i1z.symm hz₁)))
 have hk₅:∀c o,c≠z->c≠TO->c≠i1->c≠i2->hp.get? c=some o->h₅.get? c=some o:=λc o c1 c2 c3 c4 e=>
  hs₅.extBut _ _ c2 (hs₄.extBut _ _ c4 (hs₃.extBut _ _ c2 (hs₂.extBut _ _ c3 (hs₁.extBut _ _ c1 e))))
 have h1₅:S1 (k+1) h₅:=D1.frame _ _ _ h1₂ λc hc o e=>hs₅.extBut _ _ (λq=>Z.o1 (q▸hc)) (hs₄.extBut _ _ (λq=>Z.a1 (q▸hc)) (hs₃.extBut _ _ (λq=>Z.o1 (q▸hc)) e))
 have h2₅:S2 (k+1) h₅:=D2.frame _ _ _ h2₄ λc hc o e=>hs₅.extBut _ _ (λq=>Z.o2 (q▸hc)) e
 have hzlt:z < h₅.objs.size:=Heap.lt_size hz₅
 show wpAny _ _ (Builtin.SmallTypes.ownedTupleHandOut (.ref z) (.ref h₅.objs.size) >>= _) _ _ _
 refine wpAny_bind ?_
 unfold Builtin.SmallTypes.ownedTupleHandOut
 have hz₆:IsZip (h₅.push { cls:=.type "tuple",data:=.seq #[x,y] }) z TI TO .ellipsis:=Heap.get?_push_of_some _ hz₅
 refine wpAny_bind (wpAny_setField_rec hz₆ (by simp) λh₇ hz₇ hs₇=>?_)
 replace hz₇:IsZip h₇ z TI TO (rawInt h₅.objs.size):=hz₇
 replace hs₇:Heap.SameBut z (h₅.push { cls:=.type "tuple",data:=.seq #[x,y] }) h₇:=hs₇
 refine wpAny_setField_rec hz₇ (by simp) λh₈ hz₈ hs₈=>?_
 replace hz₈:IsZip h₈ z TI TO (rawInt h₅.objs.size):=hz₈
 replace hs₈:Heap.SameBut z h₇ h₈:=hs₈
 have up:∀c o,c≠z->h₅.get? c=some o->h₈.get? c=some o:=λc o c1 e=>hs₈.extBut _ _ c1 (hs₇.extBut _ _ c1 (Heap.get?_push_of_some _ e))
 have hT₈:IsPair h₈ h₅.objs.size x y:=hs₈.extBut _ _ (Nat.ne_of_gt hzlt) (hs₇.extBut _ _ (Nat.ne_of_gt hzlt) (Heap.get?_push_size _ rfl))
 have hz8:h₈.objs.size=h₅.objs.size+1:=by rw[hs₈.1,hs₇.1,Heap.size_push]
 rw[hsz]at hz₈ hT₈ hz8
 refine wpAny_pure ⟨_,rfl,?_⟩
 show Q (.ref h₅.objs.size) _
 rw[hsz]
 exact hQ x y h₈ tk₄ hx hy hz₈ (up _ _ Z.TOz hTO₅) (D1.frame _ _ _ h1₅ λc hc o e=>up c o (λq=>Z.z1 (q▸hc)) e) (D2.frame _ _ _ h2₅ λc hc o e=>up c o (λq=>Z.z2 (q▸hc)) e) hT₈ hz8 λc o c1 c2 c3 c4 e=>up c o c1 (hk₅ c o c1 c2 c3 c4 e)
theorem GZ {z TI TO i1 i2:Addr}{fp1 fp2:List Addr}{n1 n2 k:Nat}{P1 P2:Nat->Value->Prop}{S1 S2:Nat->Heap->Prop}{a b:Value}{Q:Fin->Shared->Prop}(Z:ZA z TI TO i1 i2 fp1 fp2)
 (D1:Draws prog w A i1 fp1 n1 P1 S1)(D2:Draws prog w A i2 fp2 n2 P2 S2)
 (hz:IsZip s.heap z TI TO .none)(hTI:IsPair s.heap TI (.ref i1) (.ref i2))(hTO:IsPair s.heap TO a b)(h1:S1 k s.heap)(h2:S2 k s.heap)(hend:n1=k\/(k < n1/\n2=k))
 (hE:∀h' e tk,(∀c o,c≠z->c≠TO->c≠i1->c≠i2->s.heap.get? c=some o->h'.get? c=some o)->(∃o,h'.get? e=some o/\o.cls=.type "StopIteration")->E (.ref e) { s with heap:=h',toks:=tk }):
 wpAny (model prog w) A (Builtin.«zip.__next__» ⟨[.ref z],[]⟩) Q E s:=by
 obtain⟨hp,g,d,tk₀,os⟩:=s
 show wpAny _ _ (field (.ref z) 2 >>= _) _ _ _
 refine wpAny_bind (wpAny_field hz rfl (x:=.bool false) rfl ?_)
 show wpAny _ _ (field (.ref z) 3 >>= _) _ _ _
 refine wpAny_bind (wpAny_field hz rfl (x:=.ref TI) rfl ?_)
 refine wpAny_bind (wpAny_seqItems hTI rfl ?_)
 show wpAny _ _ (Builtin.SmallTypes.ownedTupleIsFree (.ref z) >>= _) _ _ _
 refine wpAny_bind ?_
 unfold Builtin.SmallTypes.ownedTupleIsFree
 refine wpAny_bind (wpAny_field hz rfl (x:=.none) rfl (wpAny_pure ?_))
 simp only[if_true]
 refine wpAny_bind (wpAny_rule ?_)
 refine wpAny_bind (wpAny_field hz rfl (x:=.ref TO) rfl ?_)
 refine wpAny_bind (wpAny_setField_rec hz (by simp) λh₁ hz₁ hs₁=>?_)
 replace hz₁:IsZip h₁ z TI TO .ellipsis:=hz₁
 replace hs₁:Heap.SameBut z hp h₁:=hs₁
 refine wpAny_bind ?_
 simp only[List.zipIdx_cons,List.zipIdx_nil,List.forIn_cons,List.forIn_nil]
 refine wpAny_bind (wpAny_bind (wpAny_onRaise ?_))
 show wpAny _ _ (Builtin.SmallTypes.nextOf (.ref i1) >>= _) _ _ _
 have h1₁:S1 k h₁:=D1.frame _ _ _ h1 λc hc o e=>hs₁.extBut _ _ (λq=>Z.z1 (q▸hc)) e
 rcases hend with hn|⟨l1,hn⟩
 ·subst hn
  refine wpAny_bind (D1.done _ _ _ h1₁ λh₂ e hs₂ he=>?_)
  obtain⟨oe,hoe,hce⟩:=he
  replace hs₂:Heap.ExtBut i1 h₁ h₂:=hs₂
  have hz₂:IsZip h₂ z TI TO .ellipsis:=hs₂ _ _ Z.i1z.symm hz₁
  have hez:e≠z:=λx=>by subst x;rw[hz₂]at hoe;cases hoe;simp at hce
  exact wpAny_setField_rec hz₂ (by simp) λh₃ _ hs₃=>hE h₃ e _ (λc o c1 _ c3 _ x=>hs₃.extBut _ _ c1 (hs₂ _ _ c3 (hs₁.extBut _ _ c1 x))) ⟨oe,hs₃.extBut _ _ hez hoe,hce⟩
 ·subst hn
  refine wpAny_bind (D1.item _ _ _ _ l1 h1₁ λx h₂ tk₂ hx h1₂ hs₂=>wpAny_pure ?_)
  replace hs₂:Heap.SameBut i1 h₁ h₂:=hs₂
  have hTO₂:IsPair h₂ TO a b:=hs₂.extBut _ _ Z.TOi1 (hs₁.extBut _ _ Z.TOz hTO)
  refine wpAny_bind (wpAny_seqItems (s:=⟨h₂,g,d,tk₂,os⟩) hTO₂ rfl ?_)
  refine wpAny_bind (wpAny_updateSeq_pair (s:=⟨h₂,g,d,tk₂,os⟩) hTO₂ λh₃ hTO₃ hs₃=>?_)
  replace hs₃:Heap.SameBut TO h₂ h₃:=hs₃
  refine wpAny_bind (wpAny_letGo (wpAny_pure ?_))
  refine wpAny_bind (wpAny_bind (wpAny_onRaise ?_))
  show wpAny _ _ (Builtin.SmallTypes.nextOf (.ref i2) >>= _) _ _ _
  have h2₃:=D2.frame _ _ h₃ h2 λc hc o e=>hs₃.extBut _ _ (λq=>Z.o2 (q▸hc)) (hs₂.extBut _ _ (λq=>Z.a2 (q▸hc)) (hs₁.extBut _ _ (λq=>Z.z2 (q▸hc)) e))
  refine wpAny_bind (D2.done _ _ _ h2₃ λh₄ e hs₄ he=>?_)
  obtain⟨oe,hoe,hce⟩:=he
  replace hs₄:Heap.ExtBut i2 h₃ h₄:=hs₄
  have hz₄:IsZip h₄ z TI TO .ellipsis:=hs₄ _ _ Z.i2z.symm (hs₃.extBut _ _ Z.TOz.symm (hs₂.extBut _ _ Z.i1z.symm hz₁))
  have hez:e≠z:=λx=>by subst x;rw[hz₄]at hoe;cases hoe;simp at hce
  exact wpAny_setField_rec hz₄ (by simp) λh₅ _ hs₅=>hE h₅ e _ (λc o c1 c2 c3 c4 x=>hs₅.extBut _ _ c1 (hs₄ _ _ c4 (hs₃.extBut _ _ c2 (hs₂.extBut _ _ c3 (hs₁.extBut _ _ c1 x))))) ⟨oe,hs₅.extBut _ _ hez hoe,hce⟩
end
def RZ (κ1 κ2:SK):It:=
 ⟨λi H=>∃xs ys x y,κ1.has H xs/\κ2.has H ys/\xs[i]?=some x/\ys[i]?=some y,
  λi H v H'=>∃p x y,v=.ref p/\H p=none/\H'=upd H p (.tup [x,y])/\(∀xs,κ1.has H xs->xs[i]?=some x)/\∀ys,κ2.has H ys->ys[i]?=some y,
  λi H=>∃xs ys,κ1.has H xs/\κ2.has H ys/\(xs.length=i\/(i < xs.length/\ys.length=i))⟩
theorem M3 {P:Program}{w:World}{K:PySem.W.Frag}{elts:List Expr}{x1:Nat}{tpos:Pos}(κ1 κ2:SK)(z TI TO i1 i2:Addr)(hnd:[z,TI,TO,i1,i2].Nodup):
 Turn P w K (.Tuple elts x1 tpos) (RZ κ1 κ2) [z,TI,TO,i1,i2] z (λi h=>IsZip h z TI TO .none/\IsPair h TI (.ref i1) (.ref i2)/\(∃a b,IsPair h TO a b)/\κ1.own i1 i h/\κ2.own i2 i h) where
 mem:=by simp
 obj:=λi h st b hb=>by
  obtain⟨hz,hTI,⟨a,c,hTO⟩,h1,h2⟩:=st
  simp only[List.mem_cons,List.not_mem_nil,or_false]at hb
  rcases hb with rfl|rfl|rfl|rfl|rfl
  ·exact⟨_,hz,λv y=>by have y':Data.fields _=Data.cell v:=y;cases y'⟩
  ·exact⟨_,hTI,λv y=>by have y':Data.seq _ _=Data.cell v:=y;cases y'⟩
  ·exact⟨_,hTO,λv y=>by have y':Data.seq _ _=Data.cell v:=y;cases y'⟩
  ·obtain⟨o,e1,e2,_⟩:=SK.Dn h1;exact⟨o,e1,e2⟩
  ·obtain⟨o,e1,e2,_⟩:=SK.Dn h2;exact⟨o,e1,e2⟩
 keep:=λi h h' st k=>by
  obtain⟨hz,hTI,⟨a,c,hTO⟩,h1,h2⟩:=st
  exact⟨k z (by simp) _ hz,k TI (by simp) _ hTI,⟨a,c,k TO (by simp) _ hTO⟩,SK.Ew h1 λo q=>k i1 (by simp) o q,SK.Ew h2 λo q=>k i2 (by simp) o q⟩
 item:=by
  intro X hP hw hK hc i pins s σ H E I hf st hg
  subst hP hw hK
  obtain⟨hz,hTI,⟨a,c,hTO⟩,h1,h2⟩:=st
  obtain⟨xs,ys,x,y,hx,hy,hxi,hyi⟩:=hg
  have l1:i < xs.length:=(List.getElem?_eq_some_iff.mp hxi).1
  have l2:i < ys.length:=(List.getElem?_eq_some_iff.mp hyi).1
  have hh:X.A.in1.handled=none:=I.ok.hd hc
  obtain⟨P1,S1,D1,s1,r1,w1⟩:=Cu (A:=X.A.in1) I hx h1 (hf i1 (by simp)).1 hh
  obtain⟨P2,S2,D2,s2,r2,w2⟩:=Cu (A:=X.A.in1) I hy h2 (hf i2 (by simp)).1 hh
  simp only[List.nodup_cons,List.mem_cons,List.not_mem_nil,or_false,not_or]at hnd
  obtain⟨⟨n1,n2,n3,n4⟩,⟨n5,n6,n7⟩,⟨n8,n9⟩,n10,_⟩:=hnd
  have nb:∀{κ:SK} {zs:List V} {b it:Addr},κ.has H zs->H b=none->b≠it->b∉it::κ.box:=λ{κ zs b it} hκ hb hne q=>by
   rcases List.mem_cons.mp q with q|q
   ·exact hne q
   ·exact SK.EN hκ q hb
  have Z:ZA z TI TO i1 i2 (i1::κ1.box) (i2::κ2.box):=
   { TIz:=Ne.symm n1,TOz:=Ne.symm n2,i1z:=Ne.symm n3,i2z:=Ne.symm n4,TITO:=n5,TIi1:=n6,TIi2:=n7,TOi1:=n8,TOi2:=n9,i12:=n10
     z1:=nb hx (hf z (by simp)).1 n3,z2:=nb hy (hf z (by simp)).1 n4,o1:=nb hx (hf TO (by simp)).1 n8,o2:=nb hy (hf TO (by simp)).1 n9,a1:=nb hx (hf i2 (by simp)).1 (Ne.symm n10),a2:=nb hy (hf i1 (by simp)).1 n10 }
  have hT:s.TypeIs (.ref z) "zip":=⟨_,hz,rfl⟩
  unfold pyNext
  refine wpAny_bind (wpAny_attempt (wpAny_callSpecial?_slot (name:=Str.ofString "__next__") hT F.slot_zip_next
   (wpAny_call_entry F.slot_zip_next hT F.entry_zip_next
    (Fn Z D1 D2 hz hTI hTO s1 s2 l1 l2 λu v h' tk hu hv hz' hTO' s1' s2' hT' hsz hk=>wpAny_pure ⟨_,rfl,?_⟩) (F.args_zip_next_1 _))))
  refine wpAny_letOwnedTupleGo_zip hz' λh'' hz'' hs''=>?_
  obtain⟨x',hx',rx⟩:=r1 i u hu
  obtain⟨y',hy',ry⟩:=r2 i v hv
  have ex:x'=x:=Option.some.inj (hx'.symm.trans hxi)
  have ey:y'=y:=Option.some.inj (hy'.symm.trans hyi)
  subst ex ey
  have kk:∀b ob,b∉[z,TI,TO,i1,i2]->s.heap.get? b=some ob->h''.get? b=some ob:=λb ob hb q=>
   (hs''.2 b (λe=>hb (by simp[e]))).trans (hk b ob (λe=>hb (by simp[e])) (λe=>hb (by simp[e])) (λe=>hb (by simp[e])) (λe=>hb (by simp[e])) q)
  have ne:s.heap.objs.size≠z:=Nat.ne_of_gt (Heap.lt_size hz)
  have hT'':h''.get? s.heap.objs.size=some { cls:=.type "tuple",data:=.seq #[u,v] }:=(hs''.2 _ ne).trans hT'
  refine⟨.ref s.heap.objs.size,upd H s.heap.objs.size (.tup [x',y']),I.Gx (tk:=tk) hf kk (Nat.le_refl _) ⟨⟨(by show 2<=sizeLine;decide),_,hT'',rfl⟩,[u,v],.cons rx (.cons ry .nil),_,hT'',rfl,0,rfl⟩,rfl,
   ⟨_,x',y',rfl,I.hok.fresh (Nat.le_refl _),rfl,λzs hzs=>by rw[SK.inj hzs hx];exact hxi,λzs hzs=>by rw[SK.inj hzs hy];exact hyi⟩,
   ⟨hz'',hs''.extBut _ _ (Ne.symm n1) (hk _ _ (Ne.symm n1) n5 n6 n7 hTI),⟨_,_,hs''.extBut _ _ (Ne.symm n2) hTO'⟩,SK.Ew (w1 _ _ s1') λo q=>(hs''.2 i1 (Ne.symm n3)).trans q,SK.Ew (w2 _ _ s2') λo q=>(hs''.2 i2 (Ne.symm n4)).trans q⟩,λb hb=>?_⟩
  have hob:∃o,s.heap.get? b=some o:=by
   simp only[List.mem_cons,List.not_mem_nil,or_false]at hb
   rcases hb with rfl|rfl|rfl|rfl|rfl
   ·exact⟨_,hz⟩
   ·exact⟨_,hTI⟩
   ·exact⟨_,hTO⟩
   ·obtain⟨o,e1,_⟩:=SK.Dn h1;exact⟨o,e1⟩
   ·obtain⟨o,e1,_⟩:=SK.Dn h2;exact⟨o,e1⟩
  obtain⟨o,hob⟩:=hob
  rw[AX (Nat.ne_of_lt (Heap.lt_size hob))]
  exact(hf b hb).1
 done:=by
  intro X hP hw hK hc i pins s σ H E I hf st hg
  subst hP hw hK
  obtain⟨hz,hTI,⟨a,c,hTO⟩,h1,h2⟩:=st
  obtain⟨xs,ys,hx,hy,hend⟩:=hg
  have hh:X.A.in1.handled=none:=I.ok.hd hc
  obtain⟨P1,S1,D1,s1,r1,w1⟩:=Cu (A:=X.A.in1) I hx h1 (hf i1 (by simp)).1 hh
  obtain⟨P2,S2,D2,s2,r2,w2⟩:=Cu (A:=X.A.in1) I hy h2 (hf i2 (by simp)).1 hh
  simp only[List.nodup_cons,List.mem_cons,List.not_mem_nil,or_false,not_or]at hnd
  obtain⟨⟨n1,n2,n3,n4⟩,⟨n5,n6,n7⟩,⟨n8,n9⟩,n10,_⟩:=hnd
  have nb:∀{κ:SK} {zs:List V} {b it:Addr},κ.has H zs->H b=none->b≠it->b∉it::κ.box:=λ{κ zs b it} hκ hb hne q=>by
   rcases List.mem_cons.mp q with q|q
   ·exact hne q
   ·exact SK.EN hκ q hb
  have Z:ZA z TI TO i1 i2 (i1::κ1.box) (i2::κ2.box):=
   { TIz:=Ne.symm n1,TOz:=Ne.symm n2,i1z:=Ne.symm n3,i2z:=Ne.symm n4,TITO:=n5,TIi1:=n6,TIi2:=n7,TOi1:=n8,TOi2:=n9,i12:=n10
     z1:=nb hx (hf z (by simp)).1 n3,z2:=nb hy (hf z (by simp)).1 n4,o1:=nb hx (hf TO (by simp)).1 n8,o2:=nb hy (hf TO (by simp)).1 n9,a1:=nb hx (hf i2 (by simp)).1 (Ne.symm n10),a2:=nb hy (hf i1 (by simp)).1 n10 }
  have hT:s.TypeIs (.ref z) "zip":=⟨_,hz,rfl⟩
  unfold pyNext
  refine wpAny_bind (wpAny_attempt (wpAny_callSpecial?_slot (name:=Str.ofString "__next__") hT F.slot_zip_next
   (wpAny_call_entry F.slot_zip_next hT F.entry_zip_next (GZ Z D1 D2 hz hTI hTO s1 s2 hend λh' e tk hk he=>?_) (F.args_zip_next_1 _))))
  obtain⟨o,ho,hcl⟩:=he
  refine wpAny_bind (wpAny_isInstance (T:="StopIteration") (b:=true) ⟨o,ho,hcl⟩ isSubtype_stop ?_)
  exact wpAny_pure ⟨rfl,I.KG hf λb ob hb q=>hk b ob (λe=>hb (by simp[e])) (λe=>hb (by simp[e])) (λe=>hb (by simp[e])) (λe=>hb (by simp[e])) q⟩
 self:=λ_ _ _ _ _ st h=>wpAny_pyIter_zip st.1 h
def M4 (v:Value):SK->Obj
 |.lst _=>{ cls:=.type "list_iterator",data:=.fields #[v,.int 0 0] }
 |.tup _=>{ cls:=.type "tuple_iterator",data:=.fields #[v,.int 0 0] }
 |.str x=>{ cls:=.type (strIterType x),data:=.fields #[v,.int 0 0] }
theorem Fo (v:Value)(κ:SK):(M4 v κ).isFreed=false:=by cases κ<;>rfl
def I0 (h:Heap)(v:Value)(o:Obj):Prop:=∀(prog:Program) (w:World) (A:Around) (E:Value->Shared->Prop) (s:Shared) (Q:Value->Shared->Prop),(∀b ob,h.get? b=some ob->s.heap.get? b=some ob)->Q (.ref s.heap.objs.size) { s with heap:=s.heap.push o }->wpAny (model prog w) A (pyIter v) Q E s
theorem JA {X:Cx}{pins:List (Addr×Obj)}{σ:St}{H:Hp}{s:Shared}{κ:SK}{xs:List V}{u:Value}(I:Inv X pins σ H s)(hv:κ.has H xs)(r:RelV κ.val u):I0 s.heap u (M4 u κ):=by
 intro prog w A E s' Q k h
 cases κ with
 |lst a=>
  cases(show u=Value.ref a from r)
  obtain⟨_,its,n,rr,e⟩:=Rd.ok hv I.hok
  exact wpAny_pyIter_list (items:=its.toArray) ⟨_,k _ _ e,rfl,n,rfl⟩ h
 |tup a=>
  cases(show u=Value.ref a from r)
  obtain⟨_,its,rr,o,e,c⟩:=Rd.ok hv I.hok
  exact wpAny_pyIter_tuple (items:=its.toArray) ⟨o,k _ _ e,c⟩ h
 |str x=>
  obtain⟨t,q⟩:=(show∃t,u=Value.str x t from r)
  subst q
  exact wpAny_pyIter_strU h
theorem K2 {κ:SK}{u:Value}{h h':Heap}{it:Addr}(r:RelV κ.val u)(e:h.get? it=some (M4 u κ)):κ.own it 0 h:=by
 cases κ with
 |lst a=>cases(show u=Value.ref a from r);exact⟨_,e,rfl,rfl⟩
 |tup a=>cases(show u=Value.ref a from r);exact⟨_,e,rfl,rfl⟩
 |str x=>obtain⟨t,q⟩:=(show∃t,u=Value.str x t from r);subst q;exact⟨t,_,e,rfl,rfl⟩
abbrev SD (h:Heap)(o1:Obj):Heap:=h.push o1
abbrev SE (h:Heap)(o1 o2:Obj):Heap:=(SD h o1).push o2
abbrev SF (h:Heap)(o1 o2:Obj):Heap:=(SE h o1 o2).push { cls:=.type "tuple",data:=.seq #[.ref h.objs.size,.ref (SD h o1).objs.size] }
abbrev SG (h:Heap)(o1 o2:Obj):Heap:=(SF h o1 o2).push { cls:=.type "tuple",data:=.seq #[.none,.none] }
abbrev Q2 (h:Heap)(o1 o2:Obj):Heap:=(SG h o1 o2).push { cls:=.type "zip",data:=.fields #[.none,.bool false,.bool false,.ref (SE h o1 o2).objs.size,.ref (SF h o1 o2).objs.size] }
set_option maxHeartbeats 4000000 in
theorem KH (v1 v2:Value)(o1 o2:Obj):
 Meets (Builtin.«zip.__new__» ⟨[.type "zip",v1,v2],[]⟩) (λ_ R s=>I0 s.heap v1 o1/\I0 s.heap v2 o2/\
  R (.ok (.ret (.ref (SG s.heap o1 o2).objs.size))) { s with heap:=Q2 s.heap o1 o2 }):=
 .of_wp λprog w A R s h=>by
  obtain⟨hp,g,d,tk,os⟩:=s;obtain⟨hl1,hl2,h⟩:=h
  have hsub:=sub_zip
  have g1:∀(A:Around) (E:Value->Shared->Prop) (Q:Value->Shared->Prop),Q (.ref hp.objs.size) ⟨hp.push o1,g,d,tk,os⟩->wpAny (model prog w) A (pyIter v1) Q E ⟨hp,g,d,tk,os⟩:=λA E Q q=>hl1 prog w A E ⟨hp,g,d,tk,os⟩ Q (λ_ _ e=>e) q
  have g2:∀(A:Around) (E:Value->Shared->Prop) (Q:Value->Shared->Prop),Q (.ref (hp.push o1).objs.size) ⟨(hp.push o1).push o2,g,d,tk,os⟩->wpAny (model prog w) A (pyIter v2) Q E ⟨hp.push o1,g,d,tk,os⟩:=λA E Q q=>hl2 prog w A E ⟨hp.push o1,g,d,tk,os⟩ Q (λ_ _ e=>Heap.get?_push_of_some _ e) q
  wp_walk using g1 _ _ _,g2 _ _ _
  exact⟨_,rfl,h⟩
theorem Lz {prog:Program}{w:World}{A:Around}{E:Value->Shared->Prop}{s:Shared}{v1 v2:Value}{o1 o2:Obj}{Q:Value->Shared->Prop}(f1:o1.isFreed=false)(f2:o2.isFreed=false)(hl1:I0 s.heap v1 o1)(hl2:I0 s.heap v2 o2)
 (h:∀h',IsZip h' (s.heap.objs.size+4) (s.heap.objs.size+2) (s.heap.objs.size+3) .none->IsPair h' (s.heap.objs.size+2) (.ref s.heap.objs.size) (.ref (s.heap.objs.size+1))->
  IsPair h' (s.heap.objs.size+3) .none .none->h'.get? s.heap.objs.size=some o1->h'.get? (s.heap.objs.size+1)=some o2->
  (∀c o,s.heap.get? c=some o->h'.get? c=some o)->Q (.ref (s.heap.objs.size+4)) { s with heap:=h' }):
 wpAny (model prog w) A (call (.type "zip") [v1,v2]) Q E s:=by
 refine callType_new F.called_zip (by decide) (F.typeCall_zip_2 _ _) (F.newCall_zip_2 _ _) (λobj=>F.args_object_init_3 obj _ _) F.entry_zip_new
  (KH v1 v2 o1 o2) ⟨hl1,hl2,?_⟩
 have z1:(SD s.heap o1).objs.size=s.heap.objs.size+1:=Heap.size_push ..
 have z2:(SE s.heap o1 o2).objs.size=s.heap.objs.size+2:=by rw[Heap.size_push,z1]
 have z3:(SF s.heap o1 o2).objs.size=s.heap.objs.size+3:=by rw[Heap.size_push,z2]
 have z4:(SG s.heap o1 o2).objs.size=s.heap.objs.size+4:=by rw[Heap.size_push,z3]
 have g5:(Q2 s.heap o1 o2).get? (SG s.heap o1 o2).objs.size=some _:=Heap.get?_push_size _ rfl
 have g4:(Q2 s.heap o1 o2).get? (SF s.heap o1 o2).objs.size=some _:=Heap.get?_push_of_some _ (Heap.get?_push_size _ rfl)
 have g3:(Q2 s.heap o1 o2).get? (SE s.heap o1 o2).objs.size=some _:=Heap.get?_push_of_some _ (Heap.get?_push_of_some _ (Heap.get?_push_size _ rfl))
 have g2:(Q2 s.heap o1 o2).get? (SD s.heap o1).objs.size=some _:=Heap.get?_push_of_some _ (Heap.get?_push_of_some _ (Heap.get?_push_of_some _ (Heap.get?_push_size _ f2)))
 have g1:(Q2 s.heap o1 o2).get? s.heap.objs.size=some _:=Heap.get?_push_of_some _ (Heap.get?_push_of_some _ (Heap.get?_push_of_some _ (Heap.get?_push_of_some _ (Heap.get?_push_size _ f1))))
 show _/\_
 rw[z2,z3,z4]at g5
 rw[z1,z2]at g3
 rw[z3]at g4
 rw[z1]at g2
 rw[z4]
 exact⟨⟨_,g5,rfl⟩,h _ g5 g3 g4 g1 g2 λc o x=>
  Heap.get?_push_of_some _ (Heap.get?_push_of_some _ (Heap.get?_push_of_some _ (Heap.get?_push_of_some _ (Heap.get?_push_of_some _ x))))⟩
section
variable {X:Cx}
def Sv (ta:TA):TI:=λσ H R=>ta σ H λvs H1=>∃κ1 κ2:SK,vs=[κ1.val,κ2.val]/\(∃xs,κ1.has H1 xs)/\(∃ys,κ2.has H1 ys)/\R (RZ κ1 κ2) H1
theorem QN {a b:Expr}{ta:TA}{p pos:Pos}{elts:List Expr}{x1:Nat}{tpos:Pos}(hg:Gl X "zip")(hm:X.mg "zip"=none)(ha:PA X [a,b] ta)
 (hs:starEach [a,b] X.env=[(false,eval a X.env),(false,eval b X.env)]:=by rfl)(hs2:starEach [b] X.env=[(false,eval b X.env)]:=by rfl):PI X (.Tuple elts x1 tpos) (.Call (.Name "zip" p) [a,b] [] pos) (Sv ta):=by
 intro pins s σ H R I h
 refine Call_ (C4 I hg hm boot_zip (PyProof.Rows.callWith_type1 (BH (ha pos pins s σ H _ I h) λus s1 ⟨vs,H1,I1,r1,q1⟩=>?_) (by rw[hs,hs2]) (by rw[hs2];rfl)))
 obtain⟨κ1,κ2,e,⟨xs,hx⟩,⟨ys,hy⟩,q⟩:=q1
 subst e
 obtain⟨u,v,rfl,ru,rv⟩:=vals2 r1
 refine Lz (Fo u κ1) (Fo v κ2) (JA I1 hx ru) (JA I1 hy rv) λh' hz hTI hTO h1 h2 hk=>?_
 refine wpAny_pyIter_zip hz ⟨s1.heap.objs.size+4,[s1.heap.objs.size+4,s1.heap.objs.size+2,s1.heap.objs.size+3,s1.heap.objs.size,s1.heap.objs.size+1],_,_,H1,rfl,I1.kept (t':=s1.toks) hk,
  M3 κ1 κ2 _ _ _ _ _ (by simp),⟨hz,hTI,⟨_,_,hTO⟩,K2 (h':=h') ru h1,K2 (h':=h') rv h2⟩,λb hb=>?_,q⟩
 have hge:s1.heap.objs.size<=b:=by
  simp only[List.mem_cons,List.not_mem_nil,or_false]at hb
  rcases hb with rfl|rfl|rfl|rfl|rfl<;>first|exact Nat.le_add_right _ _|exact Nat.le_refl _
 exact I1.Hm hge (I1.hok.fresh hge)
end
theorem OZ {κ1 κ2:SK}{xs ys:List V}{g:TG}{tb:TS}{D:Ends}{σ:St}{H:Hp}(Pv:Nat->St->Hp->Prop)(h0:Pv 0 σ H)(hlen:xs.length=ys.length)(hl:∀i σ H,i<=xs.length->Pv i σ H->κ1.has H xs/\κ2.has H ys)
 (hs:∀i x y σ H p,xs[i]?=some x->ys[i]?=some y->Pv i σ H->H p=none->g (.ref p) σ (upd H p (.tup [x,y])) λσ2 H2=>tb { D with nx:=Pv (i+1),ct:=Pv (i+1),bk:=D.nx } σ2 H2)(hd:∀σ H,Pv xs.length σ H->D.nx σ H):
 ∃W:Nat->Nat->St->Hp->Prop,(∃m,W 0 m σ H)/\∀i m σ H,W i m σ H->
  ((RZ κ1 κ2).stop i H/\D.nx σ H)\/((RZ κ1 κ2).go i H/\∃N:St->Hp->Prop,(∀σ' H',N σ' H'->∃m',m' < m/\W (i+1) m' σ' H')/\∀x H',(RZ κ1 κ2).yld i H x H'->g x σ H' λσ2 H2=>tb { D with nx:=N,ct:=N,bk:=D.nx } σ2 H2):=by
 refine⟨λi m σ H=>i<=xs.length/\m=xs.length - i/\Pv i σ H,⟨xs.length,Nat.zero_le _,rfl,h0⟩,λi m σ H ⟨hi,hm,hp⟩=>?_⟩
 obtain⟨a1,a2⟩:=hl i σ H hi hp
 rcases Nat.lt_or_ge i xs.length with lt|ge
 ·have lt2:i < ys.length:=by omega
  refine .inr ⟨⟨xs,ys,xs[i],ys[i],a1,a2,List.getElem?_eq_getElem lt,List.getElem?_eq_getElem lt2⟩,Pv (i+1),λσ' H' hn=>⟨xs.length - (i+1),by omega,by omega,rfl,hn⟩,λx H' hy=>?_⟩
  obtain⟨p,x',y',rfl,hpn,rfl,e1,e2⟩:=hy
  exact hs i x' y' σ H p (e1 xs a1) (e2 ys a2) hp hpn
 ·have e:i=xs.length:=by omega
  subst e
  exact .inl ⟨⟨xs,ys,a1,a2,.inl rfl⟩,hd σ H hp⟩
theorem DU {κ:SK}{xs:List V}{g:TG}{tb:TS}{D:Ends}{σ:St}{H:Hp}(Pv:Nat->St->Hp->Prop)(h0:Pv 0 σ H)(hl:∀i σ H,i<=xs.length->Pv i σ H->κ.has H xs)
 (hs:∀(i:Nat) x σ H p,xs[i]?=some x->Pv i σ H->H p=none->g (.ref p) σ (upd H p (.tup [.int i,x])) λσ2 H2=>tb { D with nx:=Pv (i+1),ct:=Pv (i+1),bk:=D.nx } σ2 H2)(hd:∀σ H,Pv xs.length σ H->D.nx σ H):
 ∃W:Nat->Nat->St->Hp->Prop,(∃m,W 0 m σ H)/\∀i m σ H,W i m σ H->
  ((Pk κ).stop i H/\D.nx σ H)\/((Pk κ).go i H/\∃N:St->Hp->Prop,(∀σ' H',N σ' H'->∃m',m' < m/\W (i+1) m' σ' H')/\∀x H',(Pk κ).yld i H x H'->g x σ H' λσ2 H2=>tb { D with nx:=N,ct:=N,bk:=D.nx } σ2 H2):=by
 refine⟨λi m σ H=>i<=xs.length/\m=xs.length - i/\Pv i σ H,⟨xs.length,Nat.zero_le _,rfl,h0⟩,λi m σ H ⟨hi,hm,hp⟩=>?_⟩
 have a1:=hl i σ H hi hp
 rcases Nat.lt_or_ge i xs.length with lt|ge
 ·refine .inr ⟨⟨xs,xs[i],a1,List.getElem?_eq_getElem lt⟩,Pv (i+1),λσ' H' hn=>⟨xs.length - (i+1),by omega,by omega,rfl,hn⟩,λx H' hy=>?_⟩
  obtain⟨p,x',rfl,hpn,rfl,e1⟩:=hy
  exact hs i x' σ H p (e1 xs a1) hp hpn
 ·have e:i=xs.length:=by omega
  subst e
  exact .inl ⟨⟨xs,a1,rfl⟩,hd σ H hp⟩
def BY (z:Str)(lo hi:Option Int):Str:=⟨((z.cps.toList.drop (HT.CD z.length 0 lo)).take (HT.CD z.length z.length hi - HT.CD z.length 0 lo)).toArray⟩
theorem Hv (i:Int)(n d:Nat):max 0 (min (if i < 0 then i+(n:Int)else i) (n:Int))=((HT.CD n d (some i):Nat):Int):=by
 simp only[HT.CD]
 split
 ·omega
 ·omega
theorem Dq (a b:Nat):sliceRange (a:Int) (b:Int) 1=(List.range (b - a)).map λk=>a+k:=by
 unfold sliceRange
 simp only[show((1:Int) > 0)=True from by simp,if_true]
 by_cases hlt:(a:Int) < b
 ·have e3:(((b:Int) - a+1 - 1) / 1).toNat=b - a:=by
   rw[Int.ediv_one];omega
  simp only[hlt,if_true,e3]
  refine List.map_congr_left λk _=>?_
  omega
 ·have:b - a=0:=by omega
  simp[hlt,this]
theorem Hw (lo hi:Option Int)(n:Nat):Builtin.Str.strSliceIndices lo hi 1 n=(List.range (HT.CD n n hi - HT.CD n 0 lo)).map λk=>HT.CD n 0 lo+k:=by
 unfold Builtin.Str.strSliceIndices
 simp only[show((1:Int) > 0)=True from by simp,if_true]
 cases lo with
 |none=>
  cases hi with
  |none=>exact Dq 0 n
  |some j=>dsimp only;rw[Hv j n n];exact Dq 0 _
 |some i=>
  cases hi with
  |none=>dsimp only;rw[Hv i n 0];exact Dq _ n
  |some j=>dsimp only;rw[Hv i n 0,Hv j n n];exact Dq _ _
theorem KI (z:Str)(t:Tok)(l u:Option (Int×Tok)):∀(Q:Value->Shared->Prop) (s:Shared),z.length<=sizeLine->(∀t' s',s'.heap=s.heap->s'.gens=s.gens->s'.drawn=s.drawn->s'.os=s.os->Q (.str (BY z (l.map (·.1)) (u.map (·.1))) t') s')->(sliceMade z t l u none).post Q s:=by
 intro Q s hz h
 have hidx:=Hw (l.map (·.1)) (u.map (·.1)) z.length
 have hle:HT.CD z.length z.length (u.map (·.1))<=z.length:=HT.Mt _ _ (Nat.le_refl _) _
 have hlo:HT.CD z.length 0 (l.map (·.1))<=z.length:=HT.Mt _ _ (Nat.zero_le _) _
 have hzl:z.length=z.cps.toList.length:=by simp[Str.length]
 have cut:((slicePicked z l u none).filterMap (z.cps[·]?))=(z.cps.toList.drop (HT.CD z.length 0 (l.map (·.1)))).take (HT.CD z.length z.length (u.map (·.1)) - HT.CD z.length 0 (l.map (·.1))):=by
  have p:=StrLaws.picks z.cps.toList (HT.CD z.length z.length (u.map (·.1)) - HT.CD z.length 0 (l.map (·.1))) (HT.CD z.length 0 (l.map (·.1))) (by omega)
  rw[<-p]
  unfold slicePicked
  simp only[Option.map_none,Option.getD_none]
  rw[hidx]
  congr 1
  funext k
  simp
 unfold sliceMade
 split
 ·rename_i c
  have whole:BY z (l.map (·.1)) (u.map (·.1))=z:=by
   unfold BY
   have e:(slicePicked z l u none).length=z.length:=by
    simp only[Bool.and_eq_true,beq_iff_eq]at c
    exact c.2
   have e':HT.CD z.length z.length (u.map (·.1)) - HT.CD z.length 0 (l.map (·.1))=z.length:=by
    unfold slicePicked at e
    simp only[Option.map_none,Option.getD_none]at e
    rw[hidx]at e
    simpa using e
   have e0:HT.CD z.length 0 (l.map (·.1))=0:=by omega
   rw[e',e0,List.drop_zero,hzl,List.take_length]
  have:=h t s rfl rfl rfl rfl
  rw[whole]at this
  exact this
 ·rw[cut]
  have hl':(⟨((z.cps.toList.drop (HT.CD z.length 0 (l.map (·.1)))).take (HT.CD z.length z.length (u.map (·.1)) - HT.CD z.length 0 (l.map (·.1)))).toArray⟩:Str).length<=sizeLine:=by
   have:(⟨((z.cps.toList.drop (HT.CD z.length 0 (l.map (·.1)))).take (HT.CD z.length z.length (u.map (·.1)) - HT.CD z.length 0 (l.map (·.1)))).toArray⟩:Str).length<=z.length:=by
    simp only[Str.length,List.size_toArray,List.length_take,List.length_drop]
    have:z.cps.size=z.length:=rfl
    omega
   omega
  first
   |exact⟨hl',h _ _ rfl rfl rfl rfl⟩
   |exact h _ _ rfl rfl rfl rfl
def Sw:V->Option Int->Option Int->Hp->VK->Prop:=λx lo hi H Q=>∃z,x=.str z/\z.length<=sizeLine/\Q (.str (BY z lo hi)) H
theorem CF {X:Cx}:Sn X Sw:=by
 intro pins s σ H x v vl vu lo hi sl Q I rx hs pl pu h
 obtain⟨z,rfl,hz,q⟩:=h
 obtain⟨t,rfl⟩:=rx
 refine⟨"str",_,F.slot_str_getitem.lookup,typeIs_str s z t,?_⟩
 have part:∀{v:Value} {o:Option Int},IsPart v o->∃p:Option (Int×Tok),v=partValue p/\p.map (·.1)=o:=λ{v o} p=>by
  cases p with
  |none=>exact⟨none,rfl,rfl⟩
  |int i t=>exact⟨some (i,t),rfl,rfl⟩
 obtain⟨l,rfl,rfl⟩:=part pl
 obtain⟨u,rfl,rfl⟩:=part pu
 refine wpAny_getItem_str_slice (l:=l) (u:=u) (st:=none) hs rfl (KI z t l u _ s hz λt' s' e1 e2 e3 e4=>⟨.str _,H,?_,⟨t',rfl⟩,q⟩)
 obtain⟨hp,g,d,tk,os⟩:=s'
 cases e1;cases e2;cases e3;cases e4
 exact I.tok tk
theorem BU {X:Cx}:B0 X (.builtin "isinstance") (λvs H Q=>∃x t T b,vs=[x,.ty T]/\Ep X.K H x t/\PySem.W.kitOne X.K t (.type T)=some b/\Q (.bl b) H):=by
 intro pins s σ H xs us Q I r h
 obtain⟨x,t,T,b,rfl,ty,e,q⟩:=h
 obtain⟨u,v,rfl,ru,rv⟩:=vals2 r
 cases(show v=Value.type T from rv)
 exact Lo I ru ty e λtk=>⟨.bl b,H,I.tok tk,rfl,q⟩
end L2
namespace L2
open PySem PySem.Spec PyProof.Rows
theorem Mj {X:Cx}{scope:Scope}{NL:List Str}{ix:List Nat}(esc:Scope)(N:List Str)(h1:X.env.scope=esc:=by rfl)(h2:X.N=N:=by rfl)(c1:scope.kind=.function:=by rfl)
 (c2:∀y∈scope.names,y.2≠.cell:=by decide+kernel)(c3:∀y∈scope.names,y.2=.local->scope.names.lookup y.1=some .local:=by decide+kernel)
 (c4:∀y∈scope.names,y.2=.free->esc.names.lookup y.1=some .cell\/esc.names.lookup y.1=some .free:=by decide+kernel)
 (c5:∀j∈ix,(N[j]?).bind (λx=>scope.names.lookup x)=some .free:=by decide+kernel):Ct X scope NL ix where
 kind:=c1
 cell:=c2
 names:=c3
 free:=λy hy hf=>by
  have:=c4 y hy hf
  rw[<-h1]at this
  exact this
 cap:=λj hj=>by
  have:=c5 j hj
  rw[h2]
  cases e:N[j]? with
  |none=>rw[e]at this;cases this
  |some x=>rw[e]at this;exact⟨x,rfl,this⟩
def Bi (P:Program)(w:World)(K:PySem.W.Frag)(mg:Str->Option Value)(base:Heap)(x:Str)(k:Nat)(ps:List Str)(sp:Sp):Prop:=
 ∃f fd,D9 P w K mg base CX0 k f fd ps sp/\Binds K fd ps []/\PySem.W.keepIn K (.ref f)=true/\mg x=some (.ref f)
section
variable {P:Program}{w:World}{K:PySem.W.Frag}{mg:Str->Option Value}{base:Heap}
theorem Bi.mono {x:Str}{j k:Nat}{ps:List Str}{sp:Sp}(G:Bi P w K mg base x j ps sp)(h:j<=k):Bi P w K mg base x k ps sp:=
 let⟨f,fd,F,r⟩:=G;⟨f,fd,F.mono h,r⟩
def Df (K:PySem.W.Frag)(mg:Str->Option Value)(x:Str)(st:Stmt):Prop:=∃f fd,OY K x x st f fd/\mg x=some (.ref f)
theorem Df.has {x:Str}{st:Stmt}{N ps:List Str}{k:Nat}{sp:Sp}(D:Df K mg x st)(S:Ab N ps (AM st))
 (hb:∀(kV doc pm:Value) (an:Option Addr) (cdv ct:Value) (us:List Value),us.length=ps.length->bindArgs (PySem.W.fnOf x x (CV st) (Bh st) (AM st) .none kV doc pm an cdv ct) ⟨us,[]⟩=pure (ps.zip us))
 (len:∀vs H Q E,sp vs H Q E->vs.length=ps.length)
 (hbody:∀(f:Addr) (cdv:Value) (A:Around) (outer:List Env) (s:Shared) (H:Hp) (vs:List V) (Q:VK) (E:XK),Bj k (A.deeper (envOfC x (AM st) s.heap.objs.size f cdv))->sp vs H Q E->
  ∃t,Fb (Dw CX0 P w K mg base N x (AM st) f cdv A outer s H E).Pa (Bh st) t/\t { nx:=λ_ H'=>Q .non H',rt:=Q } (start N vs) H):Bi P w K mg base x (k+1) ps sp:=by
 obtain⟨f,fd,F,m⟩:=D
 exact⟨f,fd,F.ok S len λcdv A outer s H vs Q E hr h=>hbody f cdv A outer s H vs Q E hr h,F.binds hb,F.kp,m⟩
end
theorem AR {X:Cx}{x:Str}{k:Nat}{ps:List Str}{sp:Sp}{p pos:Pos}{e:Expr}{es:List Expr}{t:TA}(G:Bi X.prog X.w X.K X.mg X.base x k ps sp)(hr:Bj k X.A)(hg:Gl X x)(ha:PA X (e::es) t)
 (hdb:(x==("__debug__":Str))=false:=by decide)(he:starEach (e::es) X.env=(false,eval e X.env)::starEach es X.env:=by rfl)(hpl:(backTo pos (starEach es X.env)).any (·.1)=false:=by rfl):
 PE X (.Call (.Name x p) (e::es) [] pos) (Gr sp [] E0 t):=by
 obtain⟨f,fd,F,b,kp,m⟩:=G
 exact Ky F hr hg m kp b .nil Ph ha hdb he hpl
structure Blt (mg:Str->Option Value):Prop where
 len:mg "len"=none
 range:mg "range"=none
 zip:mg "zip"=none
 enumerate:mg "enumerate"=none
 max:mg "max"=none
 min:mg "min"=none
 int_:mg "int"=none
 str_:mg "str"=none
 bool_:mg "bool"=none
 list_:mg "list"=none
 tuple_:mg "tuple"=none
 isinstance:mg "isinstance"=none
section
variable {p q:Addr}{H H1 H2:Hp}{o:HO}
end
theorem Ar:bootBuiltins "len"=some (.builtin "len"):=by decide+kernel
theorem M5:bootBuiltins "max"=some (.builtin "max"):=by decide+kernel
theorem Hy:bootBuiltins "min"=some (.builtin "min"):=by decide+kernel
theorem Hz:bootBuiltins "all"=some (.builtin "all"):=by decide+kernel
theorem AW:bootBuiltins "isinstance"=some (.builtin "isinstance"):=by decide+kernel
theorem Fp:bootBuiltins "int"=some (.type "int"):=by decide+kernel
theorem IA:bootBuiltins "str"=some (.type "str"):=by decide+kernel
theorem K3:bootBuiltins "bool"=some (.type "bool"):=by decide+kernel
theorem DV:bootBuiltins "tuple"=some (.type "tuple"):=by decide+kernel
theorem AJ.new {H0 H:Hp}{q:Addr}{o:HO}(h:AJ H0 H)(hq:H q=none):AJ H0 (upd H q o):=λb u e=>by
 have:=h b u e
 rw[AX (AV this hq)];exact this
theorem AJ.write {H0 H:Hp}{q:Addr}{o:HO}(h:AJ H0 H)(hq:H0 q=none):AJ H0 (upd H q o):=λb u e=>by
 rw[AX (AV e hq)];exact h b u e
theorem app_list (a y:Str):(a++y).cps.toList=a.cps.toList++y.cps.toList:=by
 show(a.cps++y.cps).toList=_
 simp
end L2
namespace L2
open PySem PySem.Spec PyProof.Rows
section
variable {X:Cx}
theorem Dy:RU X "str.startswith" (λx vs H Q=>∃z p,x=.str z/\vs=[.str p]/\Q (.bl (Txt.startswith z p)) H):=by
 intro pins s σ H x xs v us Q I rx rv h
 obtain⟨z,p,rfl,rfl,q⟩:=h
 obtain⟨t,rfl⟩:=rx
 obtain⟨u,rfl,t',rfl⟩:=rv.one
 exact SC.startswith ⟨.bl _,H,I,rfl,q⟩
theorem L4 {o e:Expr}{to te:TE}{apos cpos:Pos}(ho:PE X o to)(he:PE X e te)(hbase:attributeBase o "startswith" X.env (eval o X.env)=eval o X.env:=by rfl)
 (h1:starEach [e] X.env=[(false,eval e X.env)]:=by rfl)(hl:(apos.endLine==cpos.line)=true:=by rfl):
 PE X (.Call (.Attribute o "startswith" apos) [e] [] cpos) (Q0 X.K "str" (λx vs H Q=>∃z p,x=.str z/\vs=[.str p]/\Q (.bl (Txt.startswith z p)) H) to (Fh te KA)):=
 BR PySem.F.plainAttrs_str PySem.F.slot_str_startswith PySem.F.type_str_startswith Dy ho (AA he AB h1) hbase (by rw[h1];rfl) hl h1 (by rfl)
theorem K4 (K:PySem.W.Frag){es:List Expr}{k:Nat}{t:Pc}{n:Nat}{pos:Pos}(hc:X.calm=true)(h:RF X es t)(hK:X.K=K:=by rfl)(hn:(assignEach es X.env).length=n:=by rfl)
 (hst:(assignEach es X.env).findIdx? (·.1)=none:=by rfl):PG X (.Tuple es k pos) (RI K n t):=by
 subst hK
 exact DM hc h hn hst
theorem EB:∀{ys:List Str} {us:List Value},Vals (ys.map V.str) us->StrsAre us ys
 |[],[],_=>.nil
 |[],_::_,h=>nomatch h
 |_::_,[],h=>nomatch h
 |y::r,u::us,h=>by
  cases h with
  |cons a b=>
   obtain⟨t,rfl⟩:=a
   exact .cons y t (EB b)
theorem FT:RU X "str.join" (λx vs H Q=>∃z a ys,x=.str z/\vs=[.ref a]/\An X.K H a (ys.map V.str)/\(ys.map (·.length)).sum+ys.length*z.length<=16777216/\Q (.str (Txt.join z ys)) H):=by
 intro pins s σ H x xs v us Q I rx rv h
 obtain⟨z,a,ys,rfl,rfl,hl,hok,q⟩:=h
 obtain⟨t,rfl⟩:=rx
 obtain⟨u,rfl,ru⟩:=rv.one
 cases(show u=Value.ref a from ru)
 obtain⟨its,r,ht,hz⟩:=I.list hl
 exact join_list ht.isList (EB (by simpa using r)) hok λt' k=>⟨.str _,H,I.tok k,⟨t',rfl⟩,q⟩
theorem Ce:D8 X (binaryOp .Mult) (λx y H Q=>∃z n,x=.str z/\y=.int n/\MulOk z n/\Q (.str (Txt.mul z n)) H):=by
 intro pins s σ H x y v u Q I rx ry h
 obtain⟨z,n,rfl,rfl,hok,q⟩:=h
 obtain⟨t,rfl⟩:=rx
 obtain⟨t',rfl⟩:=ry
 exact SB.mul hok λt' k=>⟨.str _,H,I.tok k,⟨t',rfl⟩,q⟩
theorem L5 (ns:List Str):(ns.map V.str).all DR=true:=by
 rw[List.all_eq_true];intro x hx;obtain⟨n,_,rfl⟩:=List.mem_map.mp hx;rfl
end
section
variable {NL:List Str}{ix:List Nat}{g:TG}{tt:TT}{te:TE}{σ:St}{H1:Hp}{Qs:Hp->Prop}{acc:Addr}
theorem DW {K:PySem.W.Frag}{a:Addr}{xs:List V}(hn:xs.length < 1000)(Pv:Nat->List V->Hp->Prop)
 (hl:∀i ys H2,Pv i ys H2->An K H2 a xs)(hacc:∀i ys H2,Pv i ys H2->H2 acc=some (.lst ys)/\ys.length<=i)(h0:Pv 0 [] (upd H1 acc (.lst [])))(hstop:∀ys H2,Pv xs.length ys H2->Qs H2)
 (hturn:∀i x ys H2,xs[i]?=some x->Pv i ys H2->g x (BO NL ix σ) H2 λσ' H4=>σ'.drop NL.length=ix.map (λj=>σ.getD j none)/\tt σ' H4 λb H5=>
  if b=true then te σ' H5 λv H6=>H6 acc=some (.lst ys)/\Pv (i+1) (ys++[v]) (upd H6 acc (.lst (ys++[v])))else Pv (i+1) ys H5):
 ∃W:Nat->Nat->List V->Hp->Prop,(∃m,W 0 m [] (upd H1 acc (.lst [])))/\
 ∀i m ys H2,W i m ys H2->H2 acc=some (.lst ys)/\ys.length < sizeLine/\
  (((Mo K a).stop i H2/\Qs H2)\/((Mo K a).go i H2/\∃N:List V->Hp->Prop,(∀ys' H',N ys' H'->∃m',m' < m/\W (i+1) m' ys' H')/\
    ∀x H3,(Mo K a).yld i H2 x H3->g x (BO NL ix σ) H3 λσ' H4=>σ'.drop NL.length=ix.map (λj=>σ.getD j none)/\tt σ' H4 λb H5=>
     if b=true then te σ' H5 λv H6=>H6 acc=some (.lst ys)/\N (ys++[v]) (upd H6 acc (.lst (ys++[v])))else N ys H5)):=by
 refine Hu xs.length hn Pv hacc h0 (λys H2 hp=>⟨⟨xs,hl _ _ _ hp,Nat.le_refl _⟩,hstop ys H2 hp⟩) λi ys H2 hi hp=>?_
 have hs:=hl _ _ _ hp
 refine⟨⟨xs,xs[i],hs,List.getElem?_eq_getElem hi⟩,?_⟩
 rintro x H3 ⟨rfl,hx⟩
 exact hturn i x ys H3 (hx xs hs) hp
theorem L6 {κ:SK}{xs:List V}(hn:xs.length < 1000)(Pv:Nat->List V->Hp->Prop)
 (hl:∀i ys H2,Pv i ys H2->κ.has H2 xs)(hacc:∀i ys H2,Pv i ys H2->H2 acc=some (.lst ys)/\ys.length<=i)(h0:Pv 0 [] (upd H1 acc (.lst [])))(hstop:∀ys H2,Pv xs.length ys H2->Qs H2)
 (hturn:∀(i:Nat) x ys H2 p,xs[i]?=some x->Pv i ys H2->H2 p=none->g (.ref p) (BO NL ix σ) (upd H2 p (.tup [.int i,x])) λσ' H4=>σ'.drop NL.length=ix.map (λj=>σ.getD j none)/\tt σ' H4 λb H5=>
  if b=true then te σ' H5 λv H6=>H6 acc=some (.lst ys)/\Pv (i+1) (ys++[v]) (upd H6 acc (.lst (ys++[v])))else Pv (i+1) ys H5):
 ∃W:Nat->Nat->List V->Hp->Prop,(∃m,W 0 m [] (upd H1 acc (.lst [])))/\
 ∀i m ys H2,W i m ys H2->H2 acc=some (.lst ys)/\ys.length < sizeLine/\
  (((Pk κ).stop i H2/\Qs H2)\/((Pk κ).go i H2/\∃N:List V->Hp->Prop,(∀ys' H',N ys' H'->∃m',m' < m/\W (i+1) m' ys' H')/\
    ∀x H3,(Pk κ).yld i H2 x H3->g x (BO NL ix σ) H3 λσ' H4=>σ'.drop NL.length=ix.map (λj=>σ.getD j none)/\tt σ' H4 λb H5=>
     if b=true then te σ' H5 λv H6=>H6 acc=some (.lst ys)/\N (ys++[v]) (upd H6 acc (.lst (ys++[v])))else N ys H5)):=by
 refine Hu xs.length hn Pv hacc h0 (λys H2 hp=>⟨⟨xs,hl _ _ _ hp,rfl⟩,hstop ys H2 hp⟩) λi ys H2 hi hp=>?_
 have hs:=hl _ _ _ hp
 refine⟨⟨xs,xs[i],hs,List.getElem?_eq_getElem hi⟩,?_⟩
 rintro x H3 ⟨p,x',rfl,hpn,rfl,hx⟩
 exact hturn i x' ys H2 p (hx xs hs) hp hpn
end
theorem IB (K:PySem.W.Frag):PySem.W.kitOne K (.type "int") (.type "bool")=some false:=by rfl
theorem Cf (K:PySem.W.Frag)(T:String):PySem.W.kitOne K (.type T) (.type T)=some true:=by
 unfold PySem.W.kitOne
 rw[if_pos (beq_self_eq_true _)]
theorem Fq (xs:Array Nat):∀(n:Nat) (acc:Array Nat),((List.replicate n xs).foldl (·++·) acc).size=acc.size+n*xs.size
 |0,acc=>by simp
 |n+1,acc=>by
  rw[List.replicate_succ,List.foldl_cons,Fq xs n,Array.size_append,Nat.succ_mul]
  omega
theorem FU {c:Nat}{n:Int}(h:0<=n):(Txt.mul ⟨#[c]⟩ n).cps.toList.length=n.toNat:=by
 unfold Txt.mul
 split
 ·have:n.toNat=0:=by omega
  rw[this];rfl
 ·split
  ·rename_i h1 h2
   have h3:n=1:=by
    simp only[Bool.or_eq_true,beq_iff_eq]at h2
    rcases h2 with h2|h2
    ·exact h2
    ·have h4:(⟨#[c]⟩:Str).length=1:=rfl
     omega
   subst h3;rfl
  ·rw[Array.length_toList]
   show(List.foldl (·++·) #[] (List.replicate n.toNat #[c])).size=n.toNat
   rw[Fq]
   simp
abbrev Co (H:Hp)(p:Addr)(c:Int):Prop:=∃x y z:Int,H p=some (.lst [.int x,.int y,.int z])/\0<=z/\z<=c
structure Kd (p:Addr)(c:Int)(H H':Hp):Prop where
 deck:Co H' p c
 keep:∀b o,b≠p->H b=some o->H' b=some o
section
variable {p q:Addr}{H H1 H2:Hp}{o:HO}{c d:Int}
theorem Co.mono (h:Co H p c)(e:c<=d):Co H p d:=let⟨x,y,z,a,b,f⟩:=h;⟨x,y,z,a,b,Int.le_trans f e⟩
theorem Kd.mono (h:Kd p c H H1)(e:c<=d):Kd p d H H1:=⟨h.deck.mono e,h.keep⟩
theorem Kd.refl (h:Co H p c):Kd p c H H:=⟨h,λ_ _ _ e=>e⟩
theorem Kd.trans (a:Kd p c H H1)(b:Kd p d H1 H2):Kd p d H H2:=⟨b.deck,λk u hc e=>b.keep k u hc (a.keep k u hc e)⟩
theorem Kd.new (a:Kd p c H H1)(hq:H1 q=none):Kd p c H (upd H1 q o):=by
 obtain⟨⟨x,y,z,e,r⟩,k⟩:=a
 refine⟨⟨x,y,z,by rw[AX (AV e hq)];exact e,r⟩,λb u hc h=>?_⟩
 have:=k b u hc h
 rw[AX (AV this hq)];exact this
theorem Kd.write (a:Kd p c H H1)(hq:H q=none)(hp:q≠p):Kd p c H (upd H1 q o):=by
 obtain⟨⟨x,y,z,e,r⟩,k⟩:=a
 refine⟨⟨x,y,z,by rw[AX (Ne.symm hp)];exact e,r⟩,λb u hc h=>?_⟩
 rw[AX (AV h hq)];exact k b u hc h
theorem Co.ne (h:Co H p c)(hq:H q=none):q≠p:=by
 obtain⟨x,y,z,e,_⟩:=h
 exact Ne.symm (AV e hq)
theorem Kd.same (a:Kd p c H H1)(s:AJ H1 H2):Kd p c H H2:=by
 obtain⟨⟨x,y,z,e,r⟩,k⟩:=a
 exact⟨⟨x,y,z,s _ _ e,r⟩,λb u hc h=>s _ _ (k b u hc h)⟩
theorem Kd.fresh (a:Kd p c H H1)(hq:H1 q=none):H q=none:=by
 cases e:H q with
 |none=>rfl
 |some u=>
  have:=a.keep q u (a.deck.ne hq) e
  rw[hq]at this;cases this
theorem K5 {o:HO}(h:Co H p c)(e:H q=some o)(ho:∀x y z:Int,o≠.lst [.int x,.int y,.int z]):q≠p:=λk=>by
 obtain⟨x,y,z,hp,_⟩:=h
 subst k
 rw[hp]at e
 exact ho x y z (Option.some.inj e).symm
end
end L2
namespace L2
open PySem PySem.Spec PyProof.Rows
section
variable {X:Cx}
theorem Fs (K:PySem.W.Frag)(hK:X.K=K:=by rfl):D8 X (compareOp .In) (Sq K false):=by
 subst hK;exact Et
end
end L2
namespace L2
open PySem PySem.Spec PyProof.Rows
section
variable {X:Cx}
theorem FE {vs:List Value}{ss:List Str}(h:StrsAre vs ss):Vals (ss.map V.str) vs:=by
 induction h with
 |nil=>exact .nil
 |cons y t _ ih=>exact .cons ⟨t,rfl⟩ ih
theorem range_all (bs:List Bool):(List.range bs.length).all (λi=>bs.getD i true)=bs.all id:=by
 rw[Bool.eq_iff_iff,List.all_eq_true,List.all_eq_true]
 constructor
 ·intro h b hb
  obtain⟨i,hi,rfl⟩:=List.getElem_of_mem hb
  have:=h i (List.mem_range.mpr hi)
  rw[List.getD_eq_getElem?_getD,List.getElem?_eq_getElem hi]at this
  exact this
 ·intro h i hi
  have hi':=List.mem_range.mp hi
  rw[List.getD_eq_getElem?_getD,List.getElem?_eq_getElem hi']
  exact h _ (List.getElem_mem hi')
theorem EO (hc:X.calm=true):B0 X (.builtin "all") (λvs H Q=>∃(a:Addr) (bs:List Bool),vs=[.ref a]/\An X.K H a (bs.map V.bl)/\Q (.bl (bs.all id)) H):=by
 intro pins s σ H xs us Q I r h
 obtain⟨a,bs,rfl,hl,q⟩:=h
 obtain⟨u,rfl,ru⟩:=vals1 r
 cases(show u=Value.ref a from ru)
 obtain⟨its,rv,ht,hz⟩:=I.list hl
 have hlen:=rv.length
 rw[List.length_map]at hlen
 have hh:X.A.in1.handled=none:=I.ok.hd hc
 have hlt:a < s.heap.objs.size:=by obtain⟨o,e,_⟩:=ht.isList;exact Heap.lt_size e
 refine call_all_walk (wpAny_pyIter_list ht.isList ⟨s.heap.objs.size,_,_,_,_,_,λi=>bs.getD i true,rfl,Walks.list hh s.heap.objs.size a (Nat.ne_of_lt hlt) its.toArray,?_,?_,?_⟩)
 ·exact⟨⟨_,Heap.get?_push_size _ rfl,rfl,rfl⟩,Heap.IsList.push ht.isList _⟩
 ·intro i v s' Q' E' hv hQ
  have hv':its[i]?=some v:=by simpa using hv
  have hi:i < (bs.map V.bl).length:=by rw[List.length_map,hlen];exact(List.getElem?_eq_some_iff.mp hv').1
  obtain⟨u',e1,e2⟩:=rv.get (List.getElem?_eq_getElem hi)
  rw[hv']at e1
  cases e1
  rw[List.getElem_map]at e2
  cases(show v=Value.bool _ from e2)
  refine wpAny_truthy_bool ?_
  have hb:bs.getD i true=bs[i]'(by simpa using hi):=by rw[List.getD_eq_getElem?_getD,List.getElem?_eq_getElem (by simpa using hi)];rfl
  rw[<-hb]
  exact hQ
 ·intro h' tk hk
  refine⟨.bl (bs.all id),H,?_,?_,q⟩
  ·exact I.kept (t':=tk) λb o e=>hk b o (by simp;exact Nat.ne_of_lt (Heap.lt_size e)) (Heap.get?_push_of_some _ e)
  ·show Value.bool _=Value.bool _
   rw[<-range_all,hlen,List.size_toArray]
end
end L2
namespace L2
open PySem PySem.Spec PyProof.Rows PySem.W
end L2
namespace L2
open PySem PySem.Spec PyProof.Rows PySem.W
theorem JB {X:Cx}(K:PySem.W.Frag)(hK:X.K=K:=by rfl):Mi X (QG K):=by
 subst hK;exact Af
end L2
namespace L2
open PySem PySem.Spec PyProof.Rows PySem.W
section
variable {X:Cx}{k:Nat}
theorem IC (K:PySem.W.Frag)(hK:X.K=K:=by rfl):Mi X (QH K):=by
 subst hK;exact A9
end
end L2
namespace L2
open PySem PySem.Spec PyProof.Rows PySem.W
end L2
namespace L2
open PySem PySem.Spec PyProof.Rows PySem.W
def L7 (z:Str):Str:=⟨z.cps.toList.reverse.toArray⟩
theorem JC (z:Str):(L7 z).length=z.length:=by simp[L7,Str.length]
theorem Oa (n:Nat):Builtin.Str.strSliceIndices none none (-1) n=(List.range n).reverse:=by
 unfold Builtin.Str.strSliceIndices sliceRange
 dsimp only
 rw[if_neg (show¬((-1:Int) > 0) by decide),if_neg (show¬((-1:Int) > 0) by decide),if_neg (show¬((-1:Int) > 0) by decide)]
 have e:(if(n:Int) - 1 > -1 then((n:Int) - 1 - -1 - -1 - 1) / - -1 else 0).toNat=n:=by
  split
  ·rw[show(- -1:Int)=1 by decide,Int.ediv_one];omega
  ·omega
 rw[e]
 apply List.ext_getElem
 ·simp
 ·intro i h1 h2
  simp only[List.length_map,List.length_range]at h1
  rw[List.getElem_map,List.getElem_range,List.getElem_reverse,List.getElem_range,List.length_range]
  omega
theorem L8 (z:Str)(t tk:Tok):∀(Q:Value->Shared->Prop) (s:Shared),z.length<=sizeLine->(∀t' s',s'.heap=s.heap->s'.gens=s.gens->s'.drawn=s.drawn->s'.os=s.os->Q (.str (L7 z) t') s')->(sliceMade z t none none (some (-1,tk))).post Q s:=by
 intro Q s hz h
 have cut:((slicePicked z none none (some (-1,tk))).filterMap (z.cps[·]?))=z.cps.toList.reverse:=by
  have p:=StrLaws.picks z.cps.toList z.length 0 (by simp[Str.length])
  unfold slicePicked
  simp only[Option.map_none,Option.map_some,Option.getD_some]
  rw[Oa,List.filterMap_reverse]
  congr 1
  have e1:(List.range z.length).map (λk=>0+k)=List.range z.length:=by simp
  rw[e1,List.drop_zero,List.take_of_length_le (by simp[Str.length])]at p
  rw[<-p]
  congr 1
  funext k
  simp
 unfold sliceMade
 split
 ·rename_i c
  simp at c
 ·rw[cut]
  have hl':(⟨z.cps.toList.reverse.toArray⟩:Str).length<=sizeLine:=by
   have:=JC z
   unfold L7 at this
   omega
  first
   |exact⟨hl',h _ _ rfl rfl rfl rfl⟩
   |exact h _ _ rfl rfl rfl rfl
section
variable {X:Cx}{e st:Expr}{te:TE}{ts:TO}{pos p2:Pos}
def Sx (te:TE)(ts:TO):TE:=λσ H Q=>te σ H λx H1=>ts σ H1 λo H2=>o=some (-1)/\∃z,x=.str z/\z.length<=sizeLine/\Q (.str (L7 z)) H2
theorem QO (he:PE X e te)(hs:PO X (some st) ts):PE X (.Subscript e (.Slice none none (some st) p2) pos) (Sx te ts):=by
 intro pins s σ H Q I h
 refine Subscript_ (BH (he pins s σ H _ I h) λv s1 ⟨x,H1,I1,r1,q1⟩=>?_)
 refine wpAny_Slice ?_
 rw[evalPart_none]
 refine wpAny_pure (wpAny_pure ?_)
 refine BH (hs pins s1 σ H1 _ I1 q1) λvs s3 ⟨o,H3,I3,po,q3⟩=>?_
 obtain⟨rfl,z,rfl,hz,q⟩:=q3
 obtain⟨t,rfl⟩:=r1
 cases po with
 |int i tk=>
 have I4:Inv X pins σ H3 { s3 with heap:=s3.heap.push { cls:=.type "slice",data:=.fields #[.none,.none,.int (-1) tk] } }:=I3.kept (t':=s3.toks) λb ob q=>Heap.get?_push_of_some _ q
 show wpAny (model X.prog X.w) X.A (subscriptTail e (.Slice none none (some st) p2) (.str z t) (.ref s3.heap.objs.size)) (EP X pins σ Q) X.xe { s3 with heap:=s3.heap.push { cls:=.type "slice",data:=.fields #[.none,.none,.int (-1) tk] } }
 refine tail_any (ops:=[.str z t,.ref s3.heap.objs.size]) (T:="str") (typeIs_str _ z t) F.slot_str_getitem.lookup ?_ (by with_unfolding_all rfl)
 refine wpAny_getItem_str_slice (l:=none) (u:=none) (st:=some (-1,tk)) (Heap.IsSliceOf.new ..) rfl (L8 z t tk _ _ hz λt' s' e1 e2 e3 e4=>⟨.str _,H3,?_,⟨t',rfl⟩,q⟩)
 obtain⟨hp,g,d,tk',os⟩:=s'
 cases e1;cases e2;cases e3;cases e4
 exact I4.tok tk'
end
section
variable {X:Cx}{k:Nat}
end
section
variable {X:Cx}{k:Nat}
end
end L2
namespace L2
open PySem PySem.Spec PyProof.Rows PySem.W
section
variable {X:Cx}{k:Nat}
theorem Ga (K:PySem.W.Frag)(hK:X.K=K:=by rfl):B0 X (.builtin "len") (λxs H Q=>∃p ys,xs=[.ref p]/\(An K H p ys\/Ca K H p ys)/\Q (.int (ys.length:Nat)) H):=by
 subst hK;exact Aj
end
end L2
namespace L2
open PySem PySem.Spec PyProof.Rows PySem.W
def keyOf (e:Int×Value):Str:=match e.2 with|.str x _=>x|_=>Str.empty
structure ID (w:World)(led:Bool)(es:Array (Int×Value))(t:SetTable)(S:List Str):Prop where
 ent:∀e∈es.toList,∃x tk,e=(hashStr w x,Value.str x tk)
 nd:(es.toList.map keyOf).Nodup
 mem:∀x,x∈es.toList.map keyOf↔x∈S
 fit:t.fits es.size=true
 led:t.led=led
 pl:es.size=0\/t.plain=false
theorem Gy (t:SetTable)(es:Array (Int×Value))(n:Nat):(relayAll t es n).2.1.led=t.led/\(t.plain=false->(relayAll t es n).2.1.plain=false):=by
 unfold relayAll
 cases e:t.relaid (es.map (·.1)) n with
 |none=>exact⟨rfl,λ_=>rfl⟩
 |some p=>
  obtain⟨t',order⟩:=p
  dsimp only
  have hl:t'.led=t.led/\t'.plain=t.plain:=by
   unfold SetTable.relaid SetTable.laid at e
   cases e2:SetTable.layClean (SetTable.sizeAbove n - 1) (es.map (·.1))with
   |none=>rw[e2]at e;cases e
   |some o=>
    rw[e2]at e
    injection e with e
    injection e with e1 e3
    rw[<-e1]
    exact⟨rfl,rfl⟩
  split
  ·exact⟨hl.1,λh=>by rw[hl.2];exact h⟩
  ·exact⟨rfl,λ_=>rfl⟩
theorem QP (t:SetTable)(n:Nat):(t.orStandIn n).led=t.led:=by
 unfold SetTable.orStandIn
 split<;>rfl
theorem Ob (t:SetTable)(es:Array (Int×Value))(h:Int)(x:Value):(layNew t es h x).2.1.led=t.led:=by
 unfold layNew
 cases e:t.freeSlot h with
 |none=>rfl
 |some p=>
  obtain⟨slot,wd⟩:=p
  exact QP _ _
theorem C8 {a b:List (Int×Value)}(p:a.Perm b):(a.map keyOf).Perm (b.map keyOf):=p.map _
theorem ID.grow {w:World}{led:Bool}{es es':Array (Int×Value)}{t t':SetTable}{S:List Str}{x:Str}{tk:Tok}(h:ID w led es t S)(nx:x∉S)(p:es'.toList.Perm (es.push (hashStr w x,.str x tk)).toList)(f:t'.fits es'.size=true)(l:t'.led=led)(q:t'.plain=false):ID w led es' t' (S++[x]) where
 ent:=λe he=>by
  have:=p.mem_iff.mp he
  rw[Array.toList_push]at this
  rcases List.mem_append.mp this with z|z
  ·exact h.ent e z
  ·exact⟨x,tk,List.mem_singleton.mp z⟩
 nd:=by
  rw[(C8 p).nodup_iff,Array.toList_push,List.map_append,List.nodup_append]
  refine⟨h.nd,by simp,λa ha b hb=>?_⟩
  have hb':b=x:=by simpa[keyOf]using hb
  subst hb'
  exact λe=>nx (by rw[<-e];exact(h.mem a).mp ha)
 mem:=λy=>by
  rw[(C8 p).mem_iff,Array.toList_push,List.map_append,List.mem_append,List.mem_append,h.mem y]
  simp[keyOf]
 fit:=f
 led:=l
 pl:=.inr q
theorem ID.Ra {w:World}{led:Bool}{es:Array (Int×Value)}{t:SetTable}{S:List Str}(h:ID w led es t S)(q:t.plain=false)(n:Nat):ID w led (relayAll t es n).1 (relayAll t es n).2.1 S where
 ent:=λe he=>h.ent e ((relayAll_perm t es n).mem_iff.mp he)
 nd:=by rw[(C8 (relayAll_perm t es n)).nodup_iff];exact h.nd
 mem:=λy=>by rw[(C8 (relayAll_perm t es n)).mem_iff];exact h.mem y
 fit:=relayAll_fits t es n
 led:=(Gy t es n).1.trans h.led
 pl:=.inr ((Gy t es n).2 q)
structure CP (w:World)(led:Bool)(h:Heap)(a:Addr)(S:List Str)(n:Nat):Prop where
 ex:∃es ep t,h.get? a=some { cls:=.type "set",data:=.set es ep t }/\ID w led es t S/\es.size<=n
section
variable {prog:Program}{w:World}{A:Around}{E:Value->Shared->Prop}{s:Shared}
theorem Gz {a:Addr}{es es':Array (Int×Value)}{ep:Nat}{t t':SetTable}{Q:Unit->Shared->Prop}(ha:s.heap.get? a=some { cls:=.type "set",data:=.set es ep t })(hz:es'.size<=sizeLine)
 (h:∀h',Heap.SameBut a s.heap h'->h'.get? a=some { cls:=.type "set",data:=.set es' (ep+1) t' }->Q () { s with heap:=h' }):wpAny (model prog w) A (storeSet a es' t') Q E s:=by
 unfold storeSet
 refine wpAny_bind (wpAny_load ha ?_)
 dsimp only
 rw[if_neg (by omega)]
 refine wpAny_update ha (h _ (Heap.SameBut.update ..) ?_)
 rw[Heap.get?_update_self _ ha rfl]
 rfl
theorem K6 {b:Bool}{Q:Unit->Shared->Prop}(h:Q () s):wpAny (model prog w) A (match b with|true=>rule "set.scan.the-table-gave-way"|false=>pure ()) Q E s:=by
 cases b with
 |true=>exact wpAny_rule h
 |false=>exact wpAny_pure h
theorem JD {a:Addr}{S:List Str}{n:Nat}{led:Bool}{x:Str}{tk:Tok}{Q:Bool->Shared->Prop}(ha:CP w led s.heap a S n)(hn:n+1 < scanBound)
 (h:∀b h',Heap.SameBut a s.heap h'->CP w led h' a (S++[x]) (n+1)->Q b { s with heap:=h',toks:=s.toks+1 }):wpAny (model prog w) A (setAdd a (.str x tk)) Q E s:=by
 obtain⟨es,ep,t,hget,hS,hsz⟩:=ha
 have hsc:scanBound=4096:=rfl
 have is:(strKind prog w).is x (.str x tk)=true:=by show(x==x)=true;exact beq_self_eq_true x
 have elems:ElemsOf (strKind prog w) es.toList:=λe he=>by
  obtain⟨y,tk',rfl⟩:=hS.ent e he
  exact⟨⟨y,by show(y==y)=true;exact beq_self_eq_true y,rfl⟩,rfl⟩
 unfold setAdd
 refine wpAny_holding (wpAny_bind ((strKind prog w).pyHash is ?_))
 unfold setAddHashed
 refine wpAny_holding ?_
 rw[setAddHashedIn.eq_def]
 show wpAny _ _ (setState a >>= _) _ _ _
 refine wpAny_bind (wpAny_setState_of (s:={ s with toks:=s.toks+1 }) hget rfl hS.fit ?_)
 have bs:byScan (.str x tk) es=true:=by
  unfold byScan
  have h1:(Value.str x tk).scannable=true:=rfl
  have h2:(es.all λe=>e.2.scannable)=true:=by
   rw[Array.all_eq_true_iff_forall_mem]
   intro e he
   exact(elems e (Array.mem_toList_iff.mpr he)).2
  rw[h1,h2,decide_eq_true (by omega)];rfl
 dsimp only
 rw[if_pos bs]
 refine wpAny_bind ?_
 unfold setAddByScan
 refine wpAny_bind (wpAny_rule (wpAny_bind (wpAny_setScan_of (s:={ s with toks:=s.toks+1 }) is hget rfl hS.fit elems ?_)))
 cases ef:List.findIdx? (λe=>(strKind prog w).is x e.2) es.toList with
 |some j=>
  dsimp only
  refine wpAny_pure (wpAny_pure ?_)
  have xin:x∈S:=by
   rw[<-hS.mem x]
   obtain⟨hj,hp,_⟩:=List.findIdx?_eq_some_iff_getElem.mp ef
   have hm:=List.getElem_mem hj
   obtain⟨y,tk',e⟩:=hS.ent _ hm
   rw[e]at hp
   have:y=x:=eq_of_beq (show(y==x)=true from hp)
   subst this
   exact List.mem_map.mpr ⟨_,hm,by rw[e];rfl⟩
  refine h false s.heap (Heap.SameBut.refl ..) ⟨es,ep,t,hget,⟨hS.ent,hS.nd,λy=>?_,hS.fit,hS.led,hS.pl⟩,by omega⟩
  rw[hS.mem y,List.mem_append]
  constructor
  ·exact .inl
  ·rintro(z|z)
   ·exact z
   ·rw[List.mem_singleton.mp z];exact xin
 |none=>
  dsimp only
  have xout:x∉S:=λhin=>by
   rw[<-hS.mem x]at hin
   obtain⟨e,he,ek⟩:=List.mem_map.mp hin
   have:=List.findIdx?_eq_none_iff.mp ef e he
   obtain⟨y,tk',rfl⟩:=hS.ent e he
   have ey:y=x:=ek
   subst ey
   exact absurd (show(strKind prog w).is y (.str y tk')=true from(by show(y==y)=true;exact beq_self_eq_true y)) (by rw[this];simp)
  have lp:=layNew_perm t es ((strKind prog w).hash x) (.str x tk)
  have lf:=layNew_fits t es ((strKind prog w).hash x) (.str x tk)
  have ll:=Ob t es ((strKind prog w).hash x) (.str x tk)
  have lz:=lp.length_eq
  rw[Array.length_toList,Array.length_toList,Array.size_push]at lz
  generalize layNew t es ((strKind prog w).hash x) (.str x tk)=L at lp lf ll lz
  obtain⟨es1,t1,wd,gv⟩:=L
  dsimp only at lp lf ll lz ⊢
  have zl:sizeLine=268435455\/4096<=sizeLine:=.inr (by rw[sizeLine_eq];decide)
  have zz:es1.size<=sizeLine:=by rcases zl with z|z<;>omega
  refine wpAny_bind (K6 ?_)
  have fin:∀t2:SetTable,t2.fits es1.size=true->t2.led=led->t2.plain=false->
   wpAny (model prog w) A (do
    storeSet a es1 t2
    have __do_jp:Unit->Sem (Option Bool):=λ__r=>pure (some true)
    if(!wd&&t2.tooFull)=true then
     match relayAll t2 es1 (SetTable.grown es1.size)with
     |(es,t,gave)=>do
      (match gave with|true=>rule "set.scan.the-table-gave-way"|false=>pure ())
      let __r<-storeSet a es t
      __do_jp __r
    else __do_jp ()) (λr s'=>wpAny (model prog w) A (match r with|some added=>pure added|none=>setAddHashedIn a (.str x tk) ((strKind prog w).hash x) 99999) Q E s') E { s with toks:=s.toks+1 }:=λt2 f2 l2 p2=>by
   have g:=hS.grow (es':=es1) (t':=t2) (tk:=tk) xout lp f2 l2 p2
   refine wpAny_bind (Gz (s:={ s with toks:=s.toks+1 }) hget zz λh1 sb1 hg1=>?_)
   dsimp only
   split
   ·have gr:=g.Ra p2 (SetTable.grown es1.size)
    have rz:=(relayAll_perm t2 es1 (SetTable.grown es1.size)).length_eq
    rw[Array.length_toList,Array.length_toList]at rz
    generalize relayAll t2 es1 (SetTable.grown es1.size)=Rr at gr rz
    obtain⟨es3,t3,gv3⟩:=Rr
    dsimp only at gr rz ⊢
    refine wpAny_bind (K6 ?_)
    refine wpAny_bind (Gz (s:={ s with heap:=h1,toks:=s.toks+1 }) hg1 (by omega) λh2 sb2 hg2=>?_)
    refine wpAny_pure (wpAny_pure ?_)
    exact h true h2 (sb1.trans sb2) ⟨es3,_,t3,hg2,gr,by omega⟩
   ·refine wpAny_pure (wpAny_pure ?_)
    exact h true h1 sb1 ⟨es1,_,t2,hg1,g,by omega⟩
  by_cases hp:t1.plain=true
  ·rw[if_pos hp,hashByValue.eq_5]
   refine wpAny_bind (wpAny_pure ?_)
   have ff:=fin { mask:=t1.mask,place:=t1.place,dummies:=t1.dummies,finger:=t1.finger,led:=t1.led,moves:=t1.moves,plain:=false } lf (ll.trans hS.led) rfl
   exact ff
  ·rw[if_neg hp]
   refine wpAny_bind (wpAny_pure ?_)
   have ff:=fin t1 lf (ll.trans hS.led) (by simpa using hp)
   exact ff
end
end L2
namespace L2
open PySem PySem.Spec PyProof.Rows PySem.W
def BV (w:World):Bool:=!w.params.followText "set-order"
section
variable {prog:Program}{w:World}{A:Around}{E:Value->Shared->Prop}{s:Shared}
theorem ER {Q:Bool->Shared->Prop}(h:Q (w.params.followText "set-order") s):wpAny (model prog w) A setsByText Q E s:=by
 unfold setsByText
 exact wpAny_bind (wpAny_askSetting (wpAny_pure h))
theorem Cv (a:Value){Q₁:Value->Shared->Prop}(h:Q₁ (.ref s.heap.objs.size) { s with heap:=s.heap.push { cls:=.type "set",data:=.set #[] 0 (SetTable.fresh 0 0 (BV w)) } }):
 codeAny (model prog w) A (.call (.builtin "set.__new__") ⟨[.type "set",a],[]⟩) (wants Q₁ E) s:=by
 refine codeAny_call_builtin F.plain_set_new F.entry_set_new ?_
 rw[F.newCall_set_1]
 refine wpAny_pure ?_
 unfold Builtin.«set.__new__» Builtin.Frozenset.newClass
 dsimp only
 refine wpAny_bind (wpAny_bind ?_)
 show wpAny _ _ (pure true) _ _ _
 refine wpAny_pure ?_
 rw[if_neg (by decide)]
 refine wpAny_bind ?_
 rw[F.sub_set_set]
 refine wpAny_pure ?_
 rw[if_neg (by decide)]
 refine wpAny_pure ?_
 unfold newSet
 refine wpAny_bind (wpAny_bind (ER ?_))
 dsimp only
 refine wpAny_newObj_type ?_
 exact wpAny_pure h
theorem CP.keeps {led:Bool}{h h':Heap}{a:Addr}{S:List Str}{n:Nat}(x:CP w led h a S n)(k:∀o,h.get? a=some o->h'.get? a=some o):CP w led h' a S n:=by
 obtain⟨es,ep,t,e,r⟩:=x
 exact⟨es,ep,t,k _ e,r⟩
theorem CP.start {h:Heap}{a:Addr}{led:Bool}(e:h.get? a=some { cls:=.type "set",data:=.set #[] 0 (SetTable.fresh 0 0 led) }):CP w led h a [] 0:=
 ⟨#[],0,_,e,⟨λx hx=>by simp at hx,by simp,λx=>by simp,by rfl,rfl,.inl rfl⟩,Nat.le_refl _⟩
theorem JE {led:Bool}{l I S:Addr}{items:Array Value}{ss:List Str}{R:Result->Shared->Prop}(hv:StrsAre items.toList ss)(hh:A.handled=none)(lI:l≠I)(SI:S≠I)(Sl:S≠l)(hn:items.size+1 < scanBound):
 ∀(k i:Nat) (s:Shared),items.size - i=k->i<=items.size->s.heap.IsListIter I l i->s.heap.IsList l items->CP w led s.heap S (ss.take i) i->
  (∀h' tk,(∀b o,b≠I->b≠S->s.heap.get? b=some o->h'.get? b=some o)->CP w led h' S ss items.size->R (.ok (.ret .none)) { s with heap:=h',toks:=tk })->
  codeAny (model prog w) A (.builtin "set.update.loop" ⟨[.ref S,.ref I],[]⟩) R s
 |0,i,s,hk,hi,h1,h2,h3,h=>by
  have ei:i=items.size:=by omega
  subst ei
  refine codeAny_builtin F.entry_set_update_loop ?_
  rw[Around.under_plainId F.plain_set_update_loop _]
  show wpAny _ A.in1 (pyNext (.ref I) >>= _) _ _ s
  have Wk:=Walks.list (prog:=prog) (w:=w) (A:=A.in1) hh I l lI items
  have sl:ss.length=items.size:=by have:=hv.length;simpa using this.symm
  refine wpAny_bind (Wk.done s _ _ ⟨h1,h2⟩ λh' tk kp=>wpAny_pure ?_)
  refine h h' tk (λb o n1 _ e=>kp b o (by simpa using n1) e) ?_
  have:=h3.keeps (h':=h') λo e=>kp S o (by simpa using SI) e
  rw[List.take_of_length_le (by omega)]at this
  exact this
 |k+1,i,s,hk,hi,h1,h2,h3,h=>by
  have il:i < items.size:=by omega
  refine codeAny_builtin F.entry_set_update_loop ?_
  rw[Around.under_plainId F.plain_set_update_loop _]
  show wpAny _ A.in1 (pyNext (.ref I) >>= _) _ _ s
  have Wk:=Walks.list (prog:=prog) (w:=w) (A:=A.in1) hh I l lI items
  have sl:ss.length=items.size:=by have:=hv.length;simpa using this.symm
  refine wpAny_bind (Wk.item i s _ _ il ⟨h1,h2⟩ λv h' tk hP hSt kp=>?_)
  obtain⟨x,tkx,rfl,hx⟩:∃x tkx,v=.str x tkx/\ss[i]?=some x:=by
   have hx:ss[i]?=some (ss[i]'(by omega)):=List.getElem?_eq_getElem _
   obtain⟨u,e1,e2⟩:=(FE hv).get (i:=i) (x:=V.str (ss[i]'(by omega))) (by rw[List.getElem?_map,hx];rfl)
   rw[Array.getElem?_toList,hP]at e1
   cases e1
   obtain⟨tkx,e3⟩:=e2
   exact⟨_,tkx,e3,hx⟩
  have h3':=h3.keeps (h':=h') λo e=>kp S o (by simpa using SI) e
  dsimp only
  refine wpAny_bind (wpAny_holding (JD (s:={ s with heap:=h',toks:=tk }) h3' (by omega) λb h2' sb hA=>?_))
  refine wpAny_pure ⟨plainId_quiet F.plain_set_update_loop _,?_⟩
  have et:ss.take i++[x]=ss.take (i+1):=by rw[List.take_succ,hx];rfl
  rw[et]at hA
  refine JE hv hh lI SI Sl hn k (i+1) { s with heap:=h2',toks:=tk+1 } (by omega) (by omega) ?_ ?_ hA λh4 tk4 k4 hA4=>?_
  ·exact hSt.1.at λo e=>sb.extBut _ _ (Ne.symm SI) e
  ·obtain⟨o,e,r⟩:=hSt.2
   exact⟨o,sb.extBut _ _ (Ne.symm Sl) e,r⟩
  ·exact h h4 tk4 (λb o n1 n2 e=>k4 b o n1 n2 (sb.extBut _ _ n2 (kp b o (by simpa using n1) e))) hA4
end
end L2
namespace L2
open PySem PySem.Spec PyProof.Rows PySem.W
section
variable {prog:Program}{w:World}{A:Around}{E:Value->Shared->Prop}{s:Shared}
theorem JF:typeNameCut 200 (Value.type "set")=pure "set":=by kernel_rfl
theorem M6 {D l:Addr}{items:Array Value}{ss:List Str}{Pf:PySem.Fin->Shared->Prop}(hget:s.heap.get? D=some { cls:=.type "set",data:=.set #[] 0 (SetTable.fresh 0 0 (BV w)) })(hl:s.heap.IsList l items)(Dl:D≠l)(hv:StrsAre items.toList ss)(hh:A.handled=none)(hn:items.size+1 < scanBound)
 (h:∀h' tk,(∀b o,b≠D->s.heap.get? b=some o->h'.get? b=some o)->CP w (BV w) h' D ss items.size->Pf (.done (.ret .none)) { s with heap:=h',toks:=tk }):
 wpAny (model prog w) A (Builtin.«set.__init__» ⟨[.ref D,.ref l],[]⟩) Pf E s:=by
 have hT:s.TypeIs (.ref D) "set":=⟨_,hget,rfl⟩
 have hTl:s.TypeIs (.ref l) "list":=by obtain⟨o,e,r,_⟩:=hl;exact⟨o,e,r⟩
 unfold Builtin.«set.__init__»
 refine wpAny_bind ?_
 unfold noKeywords
 show wpAny _ _ (pure ()) _ _ _
 refine wpAny_pure ?_
 dsimp only
 unfold typeNameOfCut shownTypeOf
 refine wpAny_bind (wpAny_bind (wpAny_bind (wpAny_typeOf hT ?_)))
 rw[if_neg (by decide)]
 refine wpAny_pure ?_
 rw[JF]
 refine wpAny_pure ?_
 refine wpAny_bind ?_
 unfold checkCount
 show wpAny _ _ (pure ()) _ _ _
 refine wpAny_pure ?_
 refine wpAny_bind ?_
 show wpAny _ _ (pure D) _ _ _
 refine wpAny_pure ?_
 refine wpAny_bind ?_
 unfold setUsed
 refine wpAny_bind (wpAny_setState_of hget rfl rfl (wpAny_pure ?_))
 have hfill:(((#[],0,SetTable.fresh 0 0 (BV w)):Array (Int×Value)×Nat×SetTable).2.2.fill !=0)=false:=rfl
 rw[hfill,if_neg (by decide)]
 refine wpAny_bind ?_
 unfold Builtin.Frozenset.updateFrom
 refine wpAny_bind ?_
 unfold Builtin.Frozenset.isAnySet
 refine wpAny_bind (wpAny_isInstance hTl F.sub_list_set ?_)
 refine wpAny_isInstance hTl F.sub_list_frozenset ?_
 rw[if_neg (by decide)]
 refine wpAny_bind (wpAny_typeOf hTl ?_)
 rw[if_neg (by decide)]
 have lD:l < s.heap.objs.size:=by obtain⟨o,e,_⟩:=hl;exact Heap.lt_size e
 have DD:D < s.heap.objs.size:=Heap.lt_size hget
 refine wpAny_bind (wpAny_pyIter_list hl ?_)
 refine wpAny_bind (wpAny_runValue ?_)
 refine JE (led:=BV w) (l:=l) hv (show A.handled=none from hh) (Nat.ne_of_lt lD) (Nat.ne_of_lt DD) Dl hn items.size 0 { s with heap:=s.heap.push { cls:=.type "list_iterator",data:=.fields #[.ref l,.int 0 0] } } (Nat.sub_zero _) (Nat.zero_le _) ⟨_,Heap.get?_push_size _ rfl,rfl,rfl⟩ (Heap.IsList.push hl _) (CP.start (Heap.get?_push_of_some _ hget)) λh' tk kp hA=>?_
 refine wpAny_pure (wpAny_pure ?_)
 exact h h' tk (λb o n e=>kp b o (Nat.ne_of_lt (Heap.lt_size e)) n (Heap.get?_push_of_some _ e)) hA
theorem M7 {l:Addr}{items:Array Value}{ss:List Str}{Q:Value->Shared->Prop}(hl:s.heap.IsList l items)(hv:StrsAre items.toList ss)(hh:A.handled=none)(hn:items.size+1 < scanBound)
 (h:∀h' tk,(∀b o,s.heap.get? b=some o->h'.get? b=some o)->CP w (BV w) h' s.heap.objs.size ss items.size->Q (.ref s.heap.objs.size) { s with heap:=h',toks:=tk }):
 wpAny (model prog w) A (call (.type "set") [.ref l]) Q E s:=by
 have hlt:l < s.heap.objs.size:=by obtain⟨o,e,_⟩:=hl;exact Heap.lt_size e
 obtain⟨c,tl,hmro⟩:=F.called_set.mro
 refine wpAny_call (codeAny_of_tree ?_)
 show wpAny _ _ (pure (Fin.again (.builtin "type.__call__" ⟨[.type "set",.ref l],[]⟩))) _ _ _
 refine wpAny_pure ⟨Code.quiet_builtin _ (by decide+kernel),codeAny_builtin F.entry_type_call ?_⟩
 rw[Around.under_plain (weight_type_call_type "set" [.ref l] []) rfl]
 unfold Builtin.«type.__call__»
 dsimp only
 rw[if_neg (by decide),if_neg (by rw[F.called_set.canCreate];decide)]
 refine wpAny_bind ?_
 rw[F.typeCall_set_1]
 refine wpAny_pure ?_
 refine wpAny_bind ?_
 rw[hmro]
 refine wpAny_pure ?_
 rw[if_neg (by simp)]
 refine wpAny_bind ?_
 rw[F.called_set.made]
 refine wpAny_pure ?_
 dsimp only
 refine wpAny_bind (wpAny_pure ?_)
 refine wpAny_bind (wpAny_holding (wpAny_call ?_))
 refine Cv _ ?_
 have hget:(s.heap.push { cls:=.type "set",data:=.set #[] 0 (SetTable.fresh 0 0 (BV w)) }).get? s.heap.objs.size=some { cls:=.type "set",data:=.set #[] 0 (SetTable.fresh 0 0 (BV w)) }:=Heap.get?_push_size _ rfl
 have hT:({ s with heap:=s.heap.push { cls:=.type "set",data:=.set #[] 0 (SetTable.fresh 0 0 (BV w)) } }:Shared).TypeIs (.ref s.heap.objs.size) "set":=⟨_,hget,rfl⟩
 refine wpAny_bind (wpAny_isInstance hT F.called_set.sub ?_)
 rw[if_neg (by decide)]
 refine wpAny_bind (wpAny_holding ?_)
 refine wpAny_callSpecial?_slot hT F.called_set.init (wpAny_call (codeAny_call_builtin F.called_set.init.plain F.entry_set_init (check_set_init_1 hT ?_)))
 refine M6 (s:={ s with heap:=s.heap.push { cls:=.type "set",data:=.set #[] 0 (SetTable.fresh 0 0 (BV w)) } }) hget (Heap.IsList.push hl _) (Ne.symm (Nat.ne_of_lt hlt)) hv hh hn λh' tk kp hA=>?_
 dsimp only
 rw[if_neg (by decide)]
 refine wpAny_pure ?_
 exact h h' tk (λb o e=>kp b o (Nat.ne_of_lt (Heap.lt_size e)) (Heap.get?_push_of_some _ e)) hA
end
end L2
namespace L2
open PySem PySem.Spec PyProof.Rows PySem.W
theorem Bo:Slot "set_iterator" (Str.ofString "__next__") "set_iterator.__next__":=Slot.of (owner:="set_iterator") (n:="__next__") (by kernel_rfl) (by kernel_rfl) (by kernel_rfl) (by kernel_rfl) (.inl (by kernel_rfl)) (by kernel_rfl)
theorem FO:entryFor table "set_iterator.__next__"=some Builtin.«set_iterator.__next__»:=by kernel_rfl
theorem Ft:entryFor table "set.__iter__"=some Builtin.«frozenset.__iter__»:=by kernel_rfl
theorem JG:List.lookup (String.ofList ['r','o','t','a','r','e','t','i','_','t','e','s'].reverse) Manifest.owners=some Manifest.sig_set_iterator:=by kernel_rfl
theorem Fu (a:Value):argsOk "set_iterator.__next__" { pos:=[a] }:=by
 show(match Manifest.signature? "set_iterator.__next__" with|some sig=>Bind.checkArgs "set_iterator.__next__" sig { pos:=[a] }|none=>pure ())=pure ()
 rw[signature?_of (id:="set_iterator.__next__") (n:=['_','_','t','x','e','n','_','_']) (o:=['r','o','t','a','r','e','t','i','_','t','e','s']) (by kernel_rfl) JG]
 kernel_rfl
theorem Ex {α:Type}:∀{xs:List α} {i:Nat} {x:α},xs[i]?=some x->(x::xs.eraseIdx i).Perm xs
 |[],i,x,h=>by simp at h
 |y::ys,0,x,h=>by
  have:y=x:=by simpa using h
  subst this
  exact List.Perm.refl _
 |y::ys,i+1,x,h=>by
  have ih:=Ex (xs:=ys) (i:=i) (x:=x) (by simpa using h)
  rw[List.eraseIdx_cons_succ]
  exact(List.Perm.swap y x _).trans (ih.cons y)
theorem K7 {α:Type}(next:Nat->Nat):∀(fuel k:Nat) (left:List α) (out:Array α),left.length=fuel->(pickOrder.go next fuel k left out).toList.Perm (out.toList++left)
 |0,k,left,out,h=>by
  rw[pickOrder.go.eq_1]
  have:left=[]:=List.length_eq_zero_iff.mp h
  rw[this,List.append_nil]
 |fuel+1,k,left,out,h=>by
  have lt:next k % left.length < left.length:=Nat.mod_lt _ (by omega)
  have e:left[next k % left.length]?=some left[next k % left.length]:=List.getElem?_eq_getElem lt
  rw[pickOrder.go.eq_2,e]
  dsimp only
  refine(K7 next fuel (k+1) _ _ (by rw[List.length_eraseIdx_of_lt lt];omega)).trans ?_
  rw[Array.toList_push,List.append_assoc]
  exact List.Perm.append_left _ (Ex e)
theorem Ey {α:Type}(next:Nat->Nat)(xs:Array α):(pickOrder next xs).toList.Perm xs.toList:=by
 unfold pickOrder
 have:=K7 next xs.size 0 xs.toList #[] (by simp)
 simpa using this
section
variable {prog:Program}{w:World}{A:Around}{E:Value->Shared->Prop}
theorem L9 {s:Shared}{src:Source}{n:Nat}{Q:Nat->Shared->Prop}(hn:n≠0)(h:∀i d,i < n->Q i { s with drawn:=d }):wpAny (model prog w) A (choose src n) Q E s:=by
 intro Γ p hΓ
 unfold choose
 rw[Sem.wp_choose]
 refine⟨hn,?_⟩
 rw[Sem.wp_pure]
 exact h _ _ (Nat.mod_lt _ (by omega))
theorem K8 {α:Type}:∀(n:Nat) (xs:List α) (s:Shared) (Q:List α->Shared->Prop),xs.length=n->(∀ys d,ys.Perm xs->Q ys { s with drawn:=d })->wpAny (model prog w) A (drawOrder n xs) Q E s
 |0,xs,s,Q,h,q=>by
  rw[drawOrder.eq_1]
  have:xs=[]:=List.length_eq_zero_iff.mp h
  subst this
  exact wpAny_pure (q [] s.drawn (List.Perm.refl _))
 |n+1,xs,s,Q,h,q=>by
  rw[drawOrder.eq_3 _ _ (λe=>by rw[e]at h;cases h)]
  refine wpAny_bind (L9 (by omega) λi d hi=>?_)
  have e:xs[i]?=some xs[i]:=List.getElem?_eq_getElem hi
  rw[e]
  dsimp only
  refine wpAny_bind (K8 n (xs.eraseIdx i) _ _ (by rw[List.length_eraseIdx_of_lt hi];omega) λys d' hp=>?_)
  exact wpAny_pure (q _ _ ((hp.cons _).trans (Ex e)))
theorem G0 (p:Nat):SetTable.below #[p] 0=0/\SetTable.below #[p] (p+1)=1:=by
 constructor
 ·simp[SetTable.below,SetTable.below.go]
 ·simp[SetTable.below,SetTable.below.go]
abbrev DC (f:Value)(i:Nat)(D:Addr)(n ep:Nat):Obj:={ cls:=.type "set_iterator",data:=.fields #[f,rawInt (i:Int),.ref D,rawInt (n:Int),rawInt (ep:Int)] }
theorem Fv {h:Heap}{I:Addr}{f g:Value}{i j:Nat}{D:Addr}{n ep:Nat}(e:h.get? I=some (DC f i D n ep)):(h.update I (Obj.mapFields λvs=>vs.setIfInBounds 1 (rawInt ((i:Int)+1)))).get? I=some (DC f (i+1) D n ep):=by
 rw[Heap.get?_update_self _ e rfl]
 rfl
variable {s:Shared}
theorem Ez {I:Addr}{o:Obj}{vs:Array Value}{Pf:PySem.Fin->Shared->Prop}(hh:A.handled=none)(ho:s.heap.get? I=some o)(hd:o.data=.fields vs)(h2:2 < vs.size)
 (hE:∀h' e,Heap.ExtBut I s.heap h'->(∃o,h'.get? e=some o/\o.cls=.type "StopIteration")->E (.ref e) { s with heap:=h' }):
 wpAny (model prog w) A (do setField (.ref I) 2 .none;let __do_lift<-newExc (.type "StopIteration") [];raiseNew __do_lift) Pf E s:=by
 refine wpAny_bind (wpAny_setField ho hd h2 ?_)
 refine wpAny_bind ?_
 simp only[newExc,newTuple]
 refine wpAny_bind (wpAny_newObj_type ?_ (by size_fits))
 refine wpAny_bind (m:=firstArgMember _ _) (wpAny_of_eq (a:=Value.none) (by first|rfl|(simp only[firstArgMember];rfl)) ?_)
 refine wpAny_newObj_type ?_ (by size_fits)
 simp only[raiseNew]
 refine wpAny_bind (wpAny_handled ?_)
 rw[hh]
 refine wpAny_bind (wpAny_pure (wpAny_throw ?_))
 exact hE _ _ (((Heap.SameBut.update ..).extBut.push _).push _) ⟨_,Heap.get?_push_size _ rfl,rfl⟩
theorem Cw {I D:Addr}{f:Value}{i ep:Nat}{es:Array (Int×Value)}{t:SetTable}{Pf:PySem.Fin->Shared->Prop}(hI:s.heap.get? I=some (DC f i D es.size ep))(hD:s.heap.get? D=some { cls:=.type "set",data:=.set es ep t })(hf:t.fits es.size=true)
 (h:wpAny (model prog w) A (match f with
  |.int slot tok=>do
   let __do_lift<-setNext D slot.toNat i ep
   match __do_lift with
    |some (x,next)=>do
     setField (.ref I) 0 (rawInt next)
     setField (.ref I) 1 (rawInt ((i:Int)+1))
     ret x
    |none=>do
     setField (.ref I) 2 .none
     let __do_lift<-newExc (.type "StopIteration") []
     raiseNew __do_lift
  |x=>do
   let __x<-seqItems? f
   match __x with
    |some places=>
     match places[i]? with
     |some (.int place tok)=>do
      let x<-setNextDrawn D place.toNat ep
      setField (.ref I) 1 (rawInt ((i:Int)+1))
      ret x
     |some val=>unsupported "internal:set_iterator"
     |none=>do
      setField (.ref I) 0 (rawInt 0)
      setField (.ref I) 2 .none
      let __do_lift<-newExc (.type "StopIteration") []
      raiseNew __do_lift
    |x=>unsupported "internal:set_iterator") Pf E s):
 wpAny (model prog w) A (Builtin.«set_iterator.__next__» ⟨[.ref I],[]⟩) Pf E s:=by
 unfold Builtin.«set_iterator.__next__»
 refine wpAny_bind ?_
 show wpAny _ _ (pure (Value.ref I,[])) _ _ _
 refine wpAny_pure ?_
 dsimp only
 refine wpAny_bind (wpAny_fieldsOf hI rfl ?_)
 show wpAny _ _ (setEntries D >>= _) _ _ s
 unfold setEntries
 refine wpAny_bind (wpAny_bind (wpAny_setState_of hD rfl hf (wpAny_pure ?_)))
 dsimp only
 rw[if_neg (by simp)]
 simp only[Int.toNat_natCast]
 exact h
theorem ES {D:Addr}{slot i ep:Nat}{es:Array (Int×Value)}{t:SetTable}{Q:Option (Value×Nat)->Shared->Prop}(bt:w.params.followText "set-order"=true)(hD:s.heap.get? D=some { cls:=.type "set",data:=.set es ep t })(hf:t.fits es.size=true)
 (h:Q (((pickOrder (w.params.setOrder D ep) es)[i]?).map λe=>(e.2,slot)) s):wpAny (model prog w) A (setNext D slot i ep) Q E s:=by
 unfold setNext
 refine wpAny_bind (wpAny_setState_of hD rfl hf ?_)
 dsimp only
 refine wpAny_bind (ER ?_)
 rw[bt,if_pos rfl,if_neg (by simp)]
 unfold setWalk
 refine wpAny_bind (wpAny_bind (wpAny_setState_of hD rfl hf ?_))
 dsimp only
 refine wpAny_bind (ER ?_)
 rw[bt,if_pos rfl]
 refine wpAny_bind (wpAny_askSetting (wpAny_pure (wpAny_pure h)))
theorem DX {D:Addr}{slot i ep:Nat}{es:Array (Int×Value)}{t:SetTable}{Q:Option (Value×Nat)->Shared->Prop}(bt:w.params.followText "set-order"=false)(hD:s.heap.get? D=some { cls:=.type "set",data:=.set es ep t })(hf:t.fits es.size=true)(hl:t.led=true)(hz:es.size<=1)
 (h:Q (match es[SetTable.below t.place slot]?,t.place[SetTable.below t.place slot]? with|some (_,x),some j=>some (x,j+1)|_,_=>none) s):wpAny (model prog w) A (setNext D slot i ep) Q E s:=by
 unfold setNext
 refine wpAny_bind (wpAny_setState_of hD rfl hf ?_)
 dsimp only
 refine wpAny_bind (ER ?_)
 rw[bt,if_neg (by decide)]
 rw[if_neg (by
  show¬((!t.plain&&decide (es.size > 1))=true)
  rw[decide_eq_false (by omega)]
  simp)]
 refine wpAny_bind ?_
 show wpAny _ _ (if(!t.led&&!es.isEmpty)=true then _ else pure ()) _ _ _
 rw[if_neg (by rw[hl];simp)]
 exact wpAny_pure (wpAny_pure h)
end
end L2
namespace L2
open PySem PySem.Spec PyProof.Rows PySem.W
theorem DY:Slot "set_iterator" (Str.ofString "__iter__") "set_iterator.__iter__":=Slot.of (owner:="set_iterator") (n:="__iter__") (by kernel_rfl) (by kernel_rfl) (by kernel_rfl) (by kernel_rfl) (.inl (by kernel_rfl)) (by kernel_rfl)
theorem FP:entryFor table "set_iterator.__iter__"=some Builtin.«dict_keyiterator.__iter__»:=by kernel_rfl
theorem Fw (a:Value):argsOk "set_iterator.__iter__" { pos:=[a] }:=by
 show(match Manifest.signature? "set_iterator.__iter__" with|some sig=>Bind.checkArgs "set_iterator.__iter__" sig { pos:=[a] }|none=>pure ())=pure ()
 rw[signature?_of (id:="set_iterator.__iter__") (n:=['_','_','r','e','t','i','_','_']) (o:=['r','o','t','a','r','e','t','i','_','t','e','s']) (by kernel_rfl) JG]
 kernel_rfl
section
variable {prog:Program}{w:World}{A:Around}
theorem E1 {E:Value->Shared->Prop}{s:Shared}{I D:Addr}{f:Value}{i n ep:Nat}{Q:Value->Shared->Prop}(hI:s.heap.get? I=some (DC f i D n ep))(q:Q (.ref I) s):wpAny (model prog w) A (pyIter (.ref I)) Q E s:=by
 have hT:s.TypeIs (.ref I) "set_iterator":=⟨_,hI,rfl⟩
 refine wpAny_pyIter_slot hT DY (wpAny_call_entry DY hT FP ?_ (Fw _))
 exact wpAny_pure ⟨.ref I,rfl,"set_iterator",_,hT,Bo.lookup,q⟩
theorem Cb {E:Value->Shared->Prop}{s:Shared}{I D:Addr}{f:Value}{i n ep:Nat}{Q:Option Value->Shared->Prop}(hI:s.heap.get? I=some (DC f i D n ep))
 (h:wpAny (model prog w) A.in1 (Builtin.«set_iterator.__next__» ⟨[.ref I],[]⟩) (λfin s'=>∃v,fin=Fin.done (Flow.ret v)/\Q (some v) s') (λe s'=>(∃o,s'.heap.get? (match e with|.ref a=>a|_=>0)=some o/\o.cls=.type "StopIteration")/\(∃a,e=.ref a)/\Q none s') s):
 wpAny (model prog w) A (pyNext (.ref I)) Q E s:=by
 have hT:s.TypeIs (.ref I) "set_iterator":=⟨_,hI,rfl⟩
 unfold pyNext
 refine wpAny_bind (wpAny_attempt (wpAny_callSpecial?_slot (name:=Str.ofString "__next__") hT Bo (wpAny_call_entry Bo hT FO ?_ (Fu _))))
 refine wpAny_mono h (λfin s' hf=>?_) (λe s' he=>?_)
 ·obtain⟨v,e1,q⟩:=hf
  exact⟨v,e1,wpAny_pure q⟩
 ·obtain⟨⟨o,ho,hc⟩,⟨a,rfl⟩,q⟩:=he
  refine wpAny_bind (wpAny_isInstance (T:="StopIteration") (b:=true) ⟨o,ho,hc⟩ isSubtype_stop ?_)
  exact wpAny_pure q
abbrev setAt (D:Addr)(es:Array (Int×Value))(ep:Nat)(t:SetTable)(h:Heap):Prop:=h.get? D=some { cls:=.type "set",data:=.set es ep t }
theorem KJ (bt:w.params.followText "set-order"=true)(hh:A.handled=none){I D:Addr}(DI:D≠I){es:Array (Int×Value)}{ep:Nat}{t:SetTable}(hf:t.fits es.size=true):
 Walks prog w A I [I,D] [I] es.size (λi v=>((pickOrder (w.params.setOrder D ep) es).toList.map (·.2))[i]?=some v) (λi h=>h.get? I=some (DC (rawInt 0) i D es.size ep)/\setAt D es ep t h) where
 sub:=λb hb=>by simp at hb;simp[hb]
 frame:=λi h h' st k=>⟨k I (by simp) _ st.1,k D (by simp) _ st.2⟩
 item:=λi s Q E hi st hQ=>by
  have pz:(pickOrder (w.params.setOrder D ep) es).size=es.size:=by
   have:=(Ey (w.params.setOrder D ep) es).length_eq
   simpa using this
  have e:(pickOrder (w.params.setOrder D ep) es)[i]?=some ((pickOrder (w.params.setOrder D ep) es)[i]'(by omega)):=Array.getElem?_eq_getElem _
  refine Cb st.1 (Cw st.1 st.2 hf ?_)
  show wpAny _ _ (setNext D 0 i ep >>= _) _ _ s
  refine wpAny_bind (ES bt st.2 hf ?_)
  rw[e]
  dsimp only[Option.map_some]
  refine wpAny_bind (wpAny_setField st.1 rfl (by simp) ?_)
  have e1:(s.heap.update I (Obj.mapFields λvs=>vs.setIfInBounds 0 (rawInt ((0:Nat):Int)))).get? I=some (DC (rawInt 0) i D es.size ep):=by
   rw[Heap.get?_update_self _ st.1 rfl];rfl
  refine wpAny_bind (wpAny_setField (s:={ s with heap:=s.heap.update I (Obj.mapFields λvs=>vs.setIfInBounds 0 (rawInt ((0:Nat):Int))) }) e1 rfl (by simp) (wpAny_pure ⟨_,rfl,?_⟩))
  refine hQ _ _ s.toks ?_ ⟨Fv (g:=rawInt 0) (j:=0) e1,?_⟩ (λb o hb eb=>?_)
  ·rw[List.getElem?_map,Array.getElem?_toList,e];rfl
  ·exact(Heap.get?_update_ne _ _ _ _ DI).trans ((Heap.get?_update_ne _ _ _ _ DI).trans st.2)
  ·have nb:b≠I:=by simpa using hb
   rw[Heap.get?_update_ne _ _ _ _ nb,Heap.get?_update_ne _ _ _ _ nb];exact eb
 done:=λs Q E st hQ=>by
  have pz:(pickOrder (w.params.setOrder D ep) es).size=es.size:=by
   have:=(Ey (w.params.setOrder D ep) es).length_eq
   simpa using this
  refine Cb st.1 (Cw st.1 st.2 hf ?_)
  show wpAny _ _ (setNext D 0 es.size ep >>= _) _ _ s
  refine wpAny_bind (ES bt st.2 hf ?_)
  rw[Array.getElem?_eq_none (by omega)]
  dsimp only[Option.map_none]
  refine Ez (show A.in1.handled=none from hh) st.1 rfl (by simp) λh' e x ho=>⟨ho,⟨e,rfl⟩,hQ h' s.toks λb o hb eb=>x b o (by simpa using hb) eb⟩
 self:=λi s Q E st q=>E1 st.1 q
theorem MA (bt:w.params.followText "set-order"=false)(hh:A.handled=none){I D:Addr}(DI:D≠I){es:Array (Int×Value)}{ep:Nat}{t:SetTable}(hf:t.fits es.size=true)(hl:t.led=true)(hz:es.size<=1):
 Walks prog w A I [I,D] [I] es.size (λi v=>(es.toList.map (·.2))[i]?=some v) (λi h=>h.get? I=some (DC (rawInt (if i=0 then 0 else((t.place.getD 0 0:Nat):Int)+1)) i D es.size ep)/\setAt D es ep t h) where
 sub:=λb hb=>by simp at hb;simp[hb]
 frame:=λi h h' st k=>⟨k I (by simp) _ st.1,k D (by simp) _ st.2⟩
 item:=λi s Q E hi st hQ=>by
  have i0:i=0:=by omega
  subst i0
  have pz:t.place.size=es.size:=by
   unfold SetTable.fits at hf
   simp only[Bool.and_eq_true,beq_iff_eq]at hf
   exact hf.1
  obtain⟨p,hp⟩:∃p,t.place=#[p]:=Array.size_eq_one_iff.mp (by omega)
  obtain⟨en,hen⟩:∃en,es=#[en]:=Array.size_eq_one_iff.mp (by omega)
  refine Cb st.1 (Cw st.1 st.2 hf ?_)
  show wpAny _ _ (setNext D 0 0 ep >>= _) _ _ s
  refine wpAny_bind (DX bt st.2 hf hl hz ?_)
  rw[hp,(G0 p).1,hen]
  show wpAny _ _ (do setField (.ref I) 0 (rawInt ((p+1:Nat):Int));setField (.ref I) 1 (rawInt (((0:Nat):Int)+1));ret en.2) _ _ s
  refine wpAny_bind (wpAny_setField st.1 rfl (by simp) ?_)
  have e1:(s.heap.update I (Obj.mapFields λvs=>vs.setIfInBounds 0 (rawInt ((p+1:Nat):Int)))).get? I=some (DC (rawInt ((p+1:Nat):Int)) 0 D es.size ep):=by
   rw[Heap.get?_update_self _ st.1 rfl];rfl
  refine wpAny_bind (wpAny_setField (s:={ s with heap:=s.heap.update I (Obj.mapFields λvs=>vs.setIfInBounds 0 (rawInt ((p+1:Nat):Int))) }) e1 rfl (by simp) (wpAny_pure ⟨_,rfl,?_⟩))
  refine hQ _ _ s.toks ?_ ⟨?_,?_⟩ (λb o hb eb=>?_)
  ·rw[hen];rfl
  ·have:=Fv (g:=rawInt 0) (j:=0) e1
   rw[hp]
   exact this
  ·exact(Heap.get?_update_ne _ _ _ _ DI).trans ((Heap.get?_update_ne _ _ _ _ DI).trans st.2)
  ·have nb:b≠I:=by simpa using hb
   rw[Heap.get?_update_ne _ _ _ _ nb,Heap.get?_update_ne _ _ _ _ nb];exact eb
 done:=λs Q E st hQ=>by
  have pz:t.place.size=es.size:=by
   unfold SetTable.fits at hf
   simp only[Bool.and_eq_true,beq_iff_eq]at hf
   exact hf.1
  refine Cb st.1 (Cw st.1 st.2 hf ?_)
  have fin:wpAny (model prog w) A.in1 (do setField (.ref I) 2 .none;let __do_lift<-newExc (.type "StopIteration") [];raiseNew __do_lift) (λfin s'=>∃v,fin=Fin.done (Flow.ret v)/\Q (some v) s') (λe s'=>(∃o,s'.heap.get? (match e with|.ref a=>a|_=>0)=some o/\o.cls=.type "StopIteration")/\(∃a,e=.ref a)/\Q none s') s:=
   Ez (show A.in1.handled=none from hh) st.1 rfl (by simp) λh' e x ho=>⟨ho,⟨e,rfl⟩,hQ h' s.toks λb o hb eb=>x b o (by simpa using hb) eb⟩
  rcases Nat.eq_zero_or_pos es.size with z|z
  ·rw[if_pos z]
   show wpAny _ _ (setNext D 0 es.size ep >>= _) _ _ s
   refine wpAny_bind (DX bt st.2 hf hl hz ?_)
   have:es=#[]:=Array.eq_empty_of_size_eq_zero z
   rw[this]
   exact fin
  ·rw[if_neg (by omega)]
   obtain⟨p,hp⟩:∃p,t.place=#[p]:=Array.size_eq_one_iff.mp (by omega)
   obtain⟨en,hen⟩:∃en,es=#[en]:=Array.size_eq_one_iff.mp (by omega)
   have e0:((t.place.getD 0 0:Nat):Int)+1=((p+1:Nat):Int):=by rw[hp];rfl
   rw[e0]
   show wpAny _ _ (setNext D (p+1) es.size ep >>= _) _ _ s
   refine wpAny_bind (DX bt st.2 hf hl hz ?_)
   rw[hp,(G0 p).2,hen]
   exact fin
 self:=λi s Q E st q=>E1 st.1 q
theorem JH (hh:A.handled=none){I D T:Addr}(DI:D≠I)(TI:T≠I){es:Array (Int×Value)}{ep:Nat}{t:SetTable}(hf:t.fits es.size=true){ps:List Nat}(hp:ps.Perm (List.range es.size)):
 Walks prog w A I [I,D,T] [I] es.size (λi v=>(ps.map λp=>(es.toList.getD p (0,.none)).2)[i]?=some v) (λi h=>h.get? I=some (DC (.ref T) i D es.size ep)/\setAt D es ep t h/\h.get? T=some { cls:=.type "tuple",data:=.seq (ps.map λp:Nat=>rawInt (p:Int)).toArray }) where
 sub:=λb hb=>by simp at hb;simp[hb]
 frame:=λi h h' st k=>⟨k I (by simp) _ st.1,k D (by simp) _ st.2.1,k T (by simp) _ st.2.2⟩
 item:=λi s Q E hi st hQ=>by
  have pl:ps.length=es.size:=by have:=hp.length_eq;simpa using this
  have ei:ps[i]?=some (ps[i]'(by omega)):=List.getElem?_eq_getElem _
  have pil:ps[i]'(by omega) < es.size:=List.mem_range.mp (hp.mem_iff.mp (List.getElem_mem _))
  refine Cb st.1 (Cw st.1 st.2.1 hf ?_)
  show wpAny _ _ (seqItems? (.ref T) >>= _) _ _ s
  refine wpAny_bind (wpAny_seqItems st.2.2 rfl ?_)
  dsimp only
  have eg:(ps.map λp:Nat=>rawInt (p:Int)).toArray[i]?=some (.int ((ps[i]'(by omega):Nat):Int) 0):=by
   rw[List.getElem?_toArray,List.getElem?_map,ei];rfl
  rw[eg]
  dsimp only
  unfold setNextDrawn
  refine wpAny_bind (wpAny_bind (wpAny_setState_of st.2.1 rfl hf ?_))
  dsimp only
  rw[if_neg (by simp),Int.toNat_natCast,Array.getElem?_eq_getElem pil]
  dsimp only
  refine wpAny_pure ?_
  refine wpAny_bind (wpAny_setField st.1 rfl (by simp) (wpAny_pure ⟨_,rfl,?_⟩))
  refine hQ _ _ s.toks ?_ ⟨Fv (g:=rawInt 0) (j:=0) st.1,?_,?_⟩ (λb o hb eb=>?_)
  ·rw[List.getElem?_map,ei]
   show some ((es.toList.getD (ps[i]'(by omega)) (0,.none)).2)=_
   rw[List.getD_eq_getElem?_getD,Array.getElem?_toList,Array.getElem?_eq_getElem pil];rfl
  ·exact(Heap.get?_update_ne _ _ _ _ DI).trans st.2.1
  ·rw[Heap.get?_update_ne _ _ _ _ TI];exact st.2.2
  ·have nb:b≠I:=by simpa using hb
   rw[Heap.get?_update_ne _ _ _ _ nb];exact eb
 done:=λs Q E st hQ=>by
  have pl:ps.length=es.size:=by have:=hp.length_eq;simpa using this
  refine Cb st.1 (Cw st.1 st.2.1 hf ?_)
  show wpAny _ _ (seqItems? (.ref T) >>= _) _ _ s
  refine wpAny_bind (wpAny_seqItems st.2.2 rfl ?_)
  dsimp only
  rw[show(ps.map λp:Nat=>rawInt (p:Int)).toArray[es.size]?=none by rw[List.getElem?_toArray,List.getElem?_map,List.getElem?_eq_none (by omega)];rfl]
  dsimp only
  refine wpAny_bind (wpAny_setField st.1 rfl (by simp) ?_)
  have e1:(s.heap.update I (Obj.mapFields λvs=>vs.setIfInBounds 0 (rawInt 0))).get? I=some (DC (rawInt 0) es.size D es.size ep):=by
   rw[Heap.get?_update_self _ st.1 rfl];rfl
  refine Ez (s:={ s with heap:=s.heap.update I (Obj.mapFields λvs=>vs.setIfInBounds 0 (rawInt 0)) }) (show A.in1.handled=none from hh) e1 rfl (by simp) λh' e x ho=>⟨ho,⟨e,rfl⟩,hQ h' s.toks λb o hb eb=>x b o (by simpa using hb) (by
   have nb:b≠I:=by simpa using hb
   rw[Heap.get?_update_ne _ _ _ _ nb];exact eb)⟩
 self:=λi s Q E st q=>E1 st.1 q
end
end L2
namespace L2
open PySem PySem.Spec PyProof.Rows PySem.W
section
variable {prog:Program}{w:World}{A:Around}{E:Value->Shared->Prop}{s:Shared}
theorem Fx {α β:Type}(f:α->β)(l:List α)(d:α):((List.range l.length).map λp=>f (l.getD p d))=l.map f:=by
 apply List.ext_getElem
 ·simp
 ·intro i h1 h2
  simp only[List.length_map]at h2
  rw[List.getElem_map,List.getElem_range,List.getElem_map,List.getD_eq_getElem?_getD,List.getElem?_eq_getElem h2];rfl
theorem M8 {D:Addr}{es:Array (Int×Value)}{ep:Nat}{t:SetTable}{S:List Str}{Q:Value->Shared->Prop}(hD:setAt D es ep t s.heap)(hS:ID w (BV w) es t S)(hz:es.size<=1000)
 (h:∀(I:Addr) (fp:List Addr) (St:Nat->Heap->Prop) (vs:List Value) (h1:Heap) (d:Drawn),(∀A':Around,A'.handled=none->Walks prog w A' I fp [I] es.size (λi v=>vs[i]?=some v) St)->St 0 h1->s.heap.objs.size<=I->(∀b∈fp,b < h1.objs.size)->(∀b o,s.heap.get? b=some o->h1.get? b=some o)->vs.Perm (es.toList.map (·.2))->h1.get? I≠none->(∀b∈fp,b=I\/b=D\/s.heap.objs.size<=b)->Q (.ref I) { s with heap:=h1,drawn:=d }):
 wpAny (model prog w) A (pyIter (.ref D)) Q E s:=by
 have hT:s.TypeIs (.ref D) "set":=⟨_,hD,rfl⟩
 have Dlt:D < s.heap.objs.size:=Heap.lt_size hD
 refine wpAny_pyIter_slot hT F.slot_set_iter (wpAny_call_entry F.slot_set_iter hT Ft ?_ (F.args_set_iter_1 _))
 unfold Builtin.«frozenset.__iter__» Builtin.Frozenset.slot0
 refine wpAny_bind (wpAny_bind ?_)
 show wpAny _ _ (pure (Value.ref D,[])) _ _ _
 refine wpAny_pure ?_
 show wpAny _ _ (pure D) _ _ _
 refine wpAny_pure ?_
 unfold Builtin.Frozenset.sizeOf setEntries
 refine wpAny_bind (wpAny_bind (wpAny_bind (wpAny_setState_of hD rfl hS.fit (wpAny_pure (wpAny_pure ?_)))))
 unfold setDrawn
 refine wpAny_bind (wpAny_bind (wpAny_setState_of hD rfl hS.fit ?_))
 dsimp only
 refine wpAny_bind (ER (wpAny_pure ?_))
 have szp:∀(g:Heap) (o:Obj),(g.push o).objs.size=g.objs.size+1:=λg o=>Heap.size_push ..
 by_cases dr:(!w.params.followText "set-order"&&(!t.plain&&decide (es.size > 1)))=true
 ·refine wpAny_ite_true ?_ ?_
  ·exact decide_eq_true dr
  refine wpAny_bind (K8 es.size (List.range es.size) _ _ (by simp) λps d hp=>?_)
  have pl:ps.length=es.size:=by have:=hp.length_eq;simpa using this
  unfold newTuple
  refine wpAny_bind (wpAny_newObj_type ?_ (by
   show(ps.map λi:Nat=>rawInt (i:Int)).toArray.size<=sizeLine
   rw[List.size_toArray,List.length_map,sizeLine_eq];omega))
  unfold setEpoch
  have hD1:setAt D es ep t (s.heap.push { cls:=.type "tuple",data:=.seq (ps.map λi:Nat=>rawInt (i:Int)).toArray }):=Heap.get?_push_of_some _ hD
  refine wpAny_bind (wpAny_bind (wpAny_setState_of (s:={ s with heap:=s.heap.push { cls:=.type "tuple",data:=.seq (ps.map λi:Nat=>rawInt (i:Int)).toArray },drawn:=d }) hD1 rfl hS.fit (wpAny_pure ?_)))
  dsimp only
  unfold newFields
  refine wpAny_bind (wpAny_newObj_type ?_)
  refine wpAny_pure ⟨_,rfl,"set_iterator",_,⟨_,Heap.get?_push_size _ rfl,rfl⟩,Bo.lookup,?_⟩
  have TI:s.heap.objs.size≠(s.heap.push { cls:=.type "tuple",data:=.seq (ps.map λi:Nat=>rawInt (i:Int)).toArray }).objs.size:=by rw[szp];omega
  have DI:D≠(s.heap.push { cls:=.type "tuple",data:=.seq (ps.map λi:Nat=>rawInt (i:Int)).toArray }).objs.size:=by rw[szp];exact Nat.ne_of_lt (Nat.lt_succ_of_lt Dlt)
  refine h _ _ _ _ _ d (λA' hA'=>JH (T:=s.heap.objs.size) hA' DI TI hS.fit hp) ⟨Heap.get?_push_size _ rfl,Heap.get?_push_of_some _ hD1,Heap.get?_push_of_some _ (Heap.get?_push_size _ rfl)⟩ ?_ ?_ (λb o e=>Heap.get?_push_of_some _ (Heap.get?_push_of_some _ e)) ?_ ?_ ?_
  ·rw[szp];omega
  ·intro b hb
   rw[szp,szp]
   simp only[List.mem_cons,List.not_mem_nil,or_false]at hb
   rcases hb with rfl|rfl|rfl
   ·rw[szp];exact Nat.lt_succ_self _
   ·exact Nat.lt_succ_of_lt (Nat.lt_succ_of_lt Dlt)
   ·exact Nat.lt_succ_of_lt (Nat.lt_succ_self _)
  ·have:=hp.map (λp=>(es.toList.getD p (0,.none)).2)
   have e2:=Fx (λe:Int×Value=>e.2) es.toList (0,.none)
   rw[Array.length_toList]at e2
   rw[e2]at this
   exact this
  ·rw[Heap.get?_push_size _ rfl];simp
  ·intro b hb
   simp only[List.mem_cons,List.not_mem_nil,or_false]at hb
   rcases hb with rfl|rfl|rfl
   ·exact .inl rfl
   ·exact .inr (.inl rfl)
   ·exact .inr (.inr (Nat.le_refl _))
 ·refine wpAny_ite_false ?_ ?_
  ·exact decide_eq_false dr
  refine wpAny_bind (wpAny_pure ?_)
  unfold setEpoch
  refine wpAny_bind (wpAny_bind (wpAny_setState_of hD rfl hS.fit (wpAny_pure ?_)))
  dsimp only
  unfold newFields
  refine wpAny_bind (wpAny_newObj_type ?_)
  refine wpAny_pure ⟨_,rfl,"set_iterator",_,⟨_,Heap.get?_push_size _ rfl,rfl⟩,Bo.lookup,?_⟩
  have DI:D≠s.heap.objs.size:=Nat.ne_of_lt Dlt
  have fpl:∀b∈[s.heap.objs.size,D],b < (s.heap.push (DC (rawInt 0) 0 D es.size ep)).objs.size:=λb hb=>by
   rw[szp]
   simp only[List.mem_cons,List.not_mem_nil,or_false]at hb
   rcases hb with rfl|rfl
   ·exact Nat.lt_succ_self _
   ·exact Nat.lt_succ_of_lt Dlt
  have fpw:∀b∈[s.heap.objs.size,D],b=s.heap.objs.size\/b=D\/s.heap.objs.size<=b:=λb hb=>by
   simp only[List.mem_cons,List.not_mem_nil,or_false]at hb
   rcases hb with rfl|rfl
   ·exact .inl rfl
   ·exact .inr (.inl rfl)
  cases bt:w.params.followText "set-order" with
  |true=>
   refine h _ _ _ _ _ s.drawn (λA' hA'=>KJ bt hA' DI hS.fit) ⟨Heap.get?_push_size _ rfl,Heap.get?_push_of_some _ hD⟩ (Nat.le_refl _) fpl (λb o e=>Heap.get?_push_of_some _ e) ((Ey _ es).map _) (by rw[Heap.get?_push_size _ rfl];simp) fpw
  |false=>
   have hl:t.led=true:=by rw[hS.led];unfold BV;rw[bt];rfl
   have z1:es.size<=1:=by
    rcases hS.pl with z|z
    ·omega
    ·rw[bt,z]at dr
     have:¬es.size > 1:=λc=>dr (by simp[c])
     omega
   refine h _ _ _ _ _ s.drawn (λA' hA'=>MA bt hA' DI hS.fit hl z1) ⟨Heap.get?_push_size _ rfl,Heap.get?_push_of_some _ hD⟩ (Nat.le_refl _) fpl (λb o e=>Heap.get?_push_of_some _ e) (List.Perm.refl _) (by rw[Heap.get?_push_size _ rfl];simp) fpw
theorem M9 {r:Addr}{Q:Bool->Shared->Prop}(hT:s.TypeIs (.ref r) "set")(h:Q false s):wpAny (model prog w) A (Builtin.List.listLengthHint (.ref r)) Q E s:=by
 unfold Builtin.List.listLengthHint
 refine wpAny_bind (wpAny_specialOf hT F.slot_set_len.lookup ?_)
 dsimp only
 rw[show splitId "set.__len__"=some ("set","__len__") by kernel_rfl]
 dsimp only
 refine wpAny_bind (wpAny_isInstance hT F.sub_set_set ?_)
 rw[if_neg (by decide)]
 refine wpAny_ite_true (by kernel_rfl) ?_
 refine wpAny_bind (wpAny_typeOf hT ?_)
 exact wpAny_pure h
end
end L2
namespace L2
open PySem PySem.Spec PyProof.Rows PySem.W
section
variable {prog:Program}{w:World}{A:Around}{E:Value->Shared->Prop}{s:Shared}
theorem JI {D:Addr}{es:Array (Int×Value)}{ep:Nat}{t:SetTable}{S:List Str}{Q:List Value->Shared->Prop}(hD:setAt D es ep t s.heap)(hS:ID w (BV w) es t S)(hh:A.handled=none)(hz:es.size<=1000)
 (h:∀h' tk d acc,(∀b o,s.heap.get? b=some o->h'.get? b=some o)->s.heap.objs.size<=h'.objs.size->acc.Perm (es.toList.map (·.2))->Q acc { s with heap:=h',toks:=tk,drawn:=d }):
 wpAny (model prog w) A (collect (.ref D)) Q E s:=by
 have Dlt:D < s.heap.objs.size:=Heap.lt_size hD
 unfold collect
 refine wpAny_bind (wpAny_runValue (codeAny_builtin F.entry_proto_collect ?_))
 rw[Around.under_plainId F.plain_proto_collect _]
 show wpAny _ A.in1 (newList [] >>= λl=>again (.builtin "list.__iadd__" ⟨[l,.ref D],[]⟩)) _ _ s
 refine wpAny_bind (wpAny_newObj_type ?_)
 refine wpAny_pure ⟨plainId_quiet F.plain_list_iadd _,codeAny_builtin F.entry_list_iadd ?_⟩
 rw[Around.under_plainId F.plain_list_iadd _]
 show wpAny _ A.in1 (Builtin.List.listExtendWith (.ref s.heap.objs.size) (.ref D) (.ref s.heap.objs.size)) _ _ _
 have hS₁:(s.heap.push { cls:=.type "list",data:=.seq ([]:List Value).toArray }).get? s.heap.objs.size=some { cls:=.type "list",data:=.seq #[] 0 }:=Heap.get?_push_size _ rfl
 have hD1:setAt D es ep t (s.heap.push { cls:=.type "list",data:=.seq ([]:List Value).toArray }):=Heap.get?_push_of_some _ hD
 have szp:(s.heap.push { cls:=.type "list",data:=.seq ([]:List Value).toArray }).objs.size=s.heap.objs.size+1:=Heap.size_push ..
 have old1:∀b o,s.heap.get? b=some o->(s.heap.push { cls:=.type "list",data:=.seq ([]:List Value).toArray }).get? b=some o:=λb o e=>Heap.get?_push_of_some _ e
 generalize s.heap.push { cls:=.type "list",data:=.seq ([]:List Value).toArray }=g at hS₁ hD1 szp old1
 have hT:({ s with heap:=g }:Shared).TypeIs (.ref D) "set":=⟨_,hD1,rfl⟩
 unfold Builtin.List.listExtendWith
 refine wpAny_bind (wpAny_typeOf hT ?_)
 rw[if_neg (by
  have:(s.heap.objs.size==D)=false:=by simpa using Nat.ne_of_gt Dlt
  show¬(((s.heap.objs.size==D)||_||_)=true)
  rw[this];decide)]
 refine wpAny_bind (M8 (s:={ s with heap:=g }) hD1 hS hz λI fp St vs h1 d Wk st0 Ige fpl old2 vp hI fpw=>?_)
 have hT2:({ s with heap:=h1,drawn:=d }:Shared).TypeIs (.ref D) "set":=⟨_,old2 _ _ hD1,rfl⟩
 refine wpAny_bind (wpAny_holding (M9 hT2 ?_))
 dsimp only
 have Ige':s.heap.objs.size+1<=I:=by rw[<-szp];exact Ige
 have vl:vs.length=es.size:=by have:=vp.length_eq;simpa using this
 have hS2:=old2 _ _ hS₁
 have nfp:s.heap.objs.size∉fp:=λhm=>by
  rcases fpw _ hm with z|z|z
  ·have z':s.heap.objs.size=I:=z
   rw[<-z']at Ige'
   exact Nat.not_succ_le_self _ Ige'
  ·have z':s.heap.objs.size=D:=z
   rw[z']at Dlt
   exact Nat.lt_irrefl _ Dlt
  ·rw[szp]at z
   have z':s.heap.objs.size+1<=s.heap.objs.size:=z
   omega
 have fin:∀(c0:Nat) (h2:Heap),h2.get? s.heap.objs.size=some { cls:=.type "list",data:=.seq #[] c0 }->(∀b o,b≠s.heap.objs.size->h1.get? b=some o->h2.get? b=some o)->
  codeAny (model prog w) A (.builtin "list.extend.loop" ⟨[.ref s.heap.objs.size,.ref I,.ref s.heap.objs.size],[]⟩) (λr s'=>match r with|.ok (.ret v)=>wpAny (model prog w) A (match v with|.ref a=>(do let __do_lift<-load a;match __do_lift.data with|.seq xs _=>pure xs.toList|_=>unsupported "internal:collect")|_=>unsupported "internal:collect") Q E s'|.ok _=>False|.error e=>E e s') { s with heap:=h2,drawn:=d }:=λc0 h2 hg2 k2=>by
  refine codeAny_extend_loopS (Wk A.in1 hh).toS (by rw[sizeLine_eq];omega) s.heap.objs.size nfp (.ref s.heap.objs.size) es.size 0 _ #[] c0 (Nat.sub_zero _) (Nat.zero_le _) ((Wk A.in1 hh).frame 0 _ _ st0 λb hb o e=>k2 b o (λz=>nfp (by rw[<-z];exact hb)) e) hg2 ⟨rfl,λj v hj=>by simp at hj⟩ λs' acc' c' mv hg3 it=>?_
  obtain⟨hp',gn',dr',tk',os'⟩:=s'
  have e1:gn'=s.gens:=mv.gens
  have e2:dr'=d:=mv.drawn
  have e3:os'=s.os:=mv.os
  subst e1;subst e2;subst e3
  refine wpAny_bind (wpAny_load hg3 (wpAny_pure ?_))
  have ea:acc'.toList=vs:=by
   apply List.ext_getElem?
   intro i
   rcases Nat.lt_or_ge i es.size with c|c
   ·have hi:i < acc'.size:=by rw[it.1];exact c
    have:=it.2 i acc'[i] (Array.getElem?_eq_getElem hi)
    rw[Array.getElem?_toList,Array.getElem?_eq_getElem hi,this]
   ·rw[Array.getElem?_toList,Array.getElem?_eq_none (by rw[it.1];exact c),List.getElem?_eq_none (by omega)]
  rw[ea]
  refine h hp' tk' _ vs (λb o e=>?_) ?_ vp
  ·have bl:b≠s.heap.objs.size:=Nat.ne_of_lt (Heap.lt_size e)
   have bI:b≠I:=λz=>by
    have h1:b < s.heap.objs.size:=Heap.lt_size e
    have h2:b=I:=z
    have h3:I < s.heap.objs.size:=by rw[<-h2];exact h1
    exact absurd (Nat.lt_of_lt_of_le h3 (Nat.le_of_succ_le Ige')) (Nat.lt_irrefl _)
   exact mv.heap b o (by simp[bl,bI]) (k2 b o bl (old2 _ _ (old1 _ _ e)))
  ·exact Nat.le_of_lt (Heap.lt_size hg3)
 rw[if_pos (by decide+kernel)]
 refine wpAny_bind (wpAny_rule (wpAny_bind ?_))
 unfold Builtin.List.listTouch
 refine wpAny_bind (listUpdate_at (a:=s.heap.objs.size) (s:={ s with heap:=h1,drawn:=d }) hS2 rfl ?_ (Nat.zero_le _) (by show 1<=sizeLine+1;omega))
 have g1:=get?_update_seq hS2 (λx=>x.push Value.none)
 refine listUpdate_at (a:=s.heap.objs.size) (s:={ s with heap:=h1.update s.heap.objs.size (Obj.mapSeq λx=>x.push Value.none),drawn:=d }) g1 rfl ?_ (by show 1<=sizeLine;rw[sizeLine_eq];decide) (Nat.zero_le _)
 have g2:=get?_update_seq g1 (λx=>x.pop)
 refine wpAny_pure ⟨plainId_quiet (by kernel_rfl) _,?_⟩
 exact fin _ _ g2 λb o n e=>(Heap.get?_update_ne _ _ _ _ n).trans ((Heap.get?_update_ne _ _ _ _ n).trans e)
theorem MB:∀{es:List (Int×Value)} {acc:List Value},(∀e∈es,∃x tk,e=(hashStr w x,Value.str x tk))->acc.Perm (es.map (·.2))->∃ss,StrsAre acc ss/\ss.Perm (es.map keyOf):=λ{es acc} he hp=>by
 let f:Value->Str:=λv=>match v with|.str x _=>x|_=>Str.empty
 have hall:∀v∈acc,∃x tk,v=Value.str x tk:=λv hv=>by
  obtain⟨e,hm,rfl⟩:=List.mem_map.mp (hp.mem_iff.mp hv)
  obtain⟨x,tk,rfl⟩:=he e hm
  exact⟨x,tk,rfl⟩
 have go:∀(l:List Value),(∀v∈l,∃x tk,v=Value.str x tk)->StrsAre l (l.map f):=λl=>by
  induction l with
  |nil=>intro _;exact .nil
  |cons v r ih=>
   intro hl
   obtain⟨x,tk,rfl⟩:=hl v List.mem_cons_self
   exact .cons x tk (ih λu hu=>hl u (List.mem_cons_of_mem _ hu))
 refine⟨acc.map f,go acc hall,?_⟩
 have:=hp.map f
 rw[List.map_map]at this
 have e2:es.map (f∘λe=>e.2)=es.map keyOf:=List.map_congr_left λe _=>rfl
 rw[e2]at this
 exact this
theorem KL {D:Addr}{S:List Str}{n:Nat}{Q:Value->Shared->Prop}(hA:CP w (BV w) s.heap D S n)(hh:A.handled=none)(hn:n < 64)
 (h:∀h' tk d l out ss' e,(∀b o,s.heap.get? b=some o->h'.get? b=some o)->s.heap.objs.size<=l->h'.get? l=some (seqObj "list" out e)->StrsAre out.toList ss'->ss'.Nodup->(∀x,x∈ss'↔x∈S)->sortedS ss'=true->ss'.length<=n->Q (.ref l) { s with heap:=h',toks:=tk,drawn:=d }):
 wpAny (model prog w) A (call (.builtin "sorted") [.ref D]) Q E s:=by
 obtain⟨es,ep,t,hD,hS,hsz⟩:=hA
 refine Calls.call_function_entry kind_sorted plain_sorted entry_sorted (args_sorted1 _) ?_
 unfold Builtin.«sorted»
 refine wpAny_bind (m:=checkCount "sorted" 1 1 _) (wpAny_pure ?_)
 refine wpAny_bind (JI (A:=A.in1) hD hS hh (by omega) λh1 tk d acc old1 sz1 hp=>?_)
 obtain⟨ss,hv,hpk⟩:=MB hS.ent hp
 have al:acc.length=es.size:=by have:=hp.length_eq;simpa using this
 have fz:acc.length<=sizeLine:=by rw[sizeLine_eq];omega
 refine wpAny_bind (wpAny_newList ?_ fz)
 have hDL:(h1.push (seqObj "list" acc.toArray 0)).get? h1.objs.size=some (seqObj "list" acc.toArray 0):=Heap.get?_push_size _ rfl
 refine wpAny_bind (wpAny_holding (wpAny_call_entry slot_list_sort ⟨_,hDL,rfl⟩ entry_list_sort (list_sort_treeK (s:={ s with heap:=h1.push (seqObj "list" acc.toArray 0),toks:=tk,drawn:=d }) strKind_oneLt hDL (StrsAre.keysOf hv) (λv₁ v₂ rest e=>keyKind_strs (by rw[<-e];exact hv)) (by omega) λst' a1 a2=>⟨_,rfl,?_⟩) (args_list_sort _)))
 obtain⟨ss',b1,b2,b3⟩:=sorted_out_str hv a1 a2
 obtain⟨e,he⟩:=sortedHeap_at hDL
 refine wpAny_pure ⟨_,rfl,h _ tk d h1.objs.size _ ss' e (λb o eb=>?_) sz1 he b1 ?_ (λx=>?_) b3 ?_⟩
 ·have lt:=Heap.lt_size (old1 _ _ eb)
  rw[sortedHeap_old (Nat.ne_of_lt lt) (by rw[show(h1.push (seqObj "list" acc.toArray 0)).objs.size=h1.objs.size+1 from Heap.size_push ..];exact Nat.lt_succ_of_lt lt)]
  exact Heap.get?_push_of_some _ (old1 _ _ eb)
 ·exact(b2.trans hpk).nodup_iff.mpr hS.nd
 ·rw[(b2.trans hpk).mem_iff];exact hS.mem x
 ·have t1:(es.toList.map keyOf).length=es.size:=by rw[List.length_map,Array.length_toList]
  have t2:=(b2.trans hpk).length_eq
  exact Nat.le_trans (Nat.le_of_eq (t2.trans t1)) hsz
end
end L2
namespace L2
open PySem PySem.Spec PyProof.Rows PySem.W
theorem Inv.drawn {X:Cx}{pins:List (Addr×Obj)}{σ:St}{H:Hp}{s:Shared}(I:Inv X pins σ H s)(d:Drawn):Inv X pins σ H { s with drawn:=d }:=
 ⟨I.ok,I.os,I.bare,I.base,I.loc,I.cell,I.free,I.freeC,I.pin,I.hok,I.len⟩
theorem KN:bootBuiltins "set"=some (.type "set"):=by kernel_rfl
theorem EC:bootBuiltins "sorted"=some (.builtin "sorted"):=by kernel_rfl
section
variable {X:Cx}{a:Expr}{ta:TA}{p p2 pos pos2:Pos}
end
end L2
namespace L2
open PySem PySem.Spec PyProof.Rows PySem.W
section
variable {X:Cx}
theorem NA:Q1 X "list.index" (λx vs H Q=>∃(l:Addr) (ss:List Str) (y:Str),x=.ref l/\vs=[.str y]/\H l=some (.lst (ss.map V.str))/\y∈ss/\ss.length<=1000/\Q (.int ((ss.idxOf y:Nat):Int)) H):=by
 intro pins s σ H x vs v us Q I rx rv h
 obtain⟨l,ss,y,rfl,rfl,hH,hm,hl,q⟩:=h
 cases rx
 obtain⟨u,rfl,ru⟩:=rv.one
 have ru0:=ru
 obtain⟨ty,rfl⟩:=ru
 obtain⟨z,its,n,r,hz,e⟩:=I.Fj hH
 have rl:=r.length
 rw[List.length_map]at rl
 have jl:ss.idxOf y < ss.length:=List.idxOf_lt_length_of_mem hm
 have key:∀(j:Nat) (hj:j < its.toArray.size),FR (V.str y) its.toArray[j]=(ss[j]'(by rw[rl];simpa using hj)==y):=λj hj=>by
  have hj':j < ss.length:=by rw[rl];simpa using hj
  obtain⟨w',e1,e2⟩:=r.get (i:=j) (x:=V.str (ss[j])) (by rw[List.getElem?_map,List.getElem?_eq_getElem hj'];rfl)
  obtain⟨t',rfl⟩:=e2
  have:its.toArray[j]=Value.str ss[j] t':=by
   rw[List.getElem?_eq_getElem (by omega)]at e1
   simpa using Option.some.inj e1
  rw[this]
  rfl
 refine call_meets F.slot_list_index ⟨_,e,rfl⟩ F.entry_list_index (F.args_list_index_2 _ _) (SeqAt.list_indexAt l its.toArray n none #[] (.str y ty) (FR (V.str y)) (ss.idxOf y) (by rw[List.size_toArray];omega) (by omega) ?_ ?_) ⟨e,λu hu=>B8 (x:=V.str y) ru0 rfl r (L5 ss) u (by simpa using hu),?_⟩
 ·rw[key _ (by rw[List.size_toArray];omega),List.getElem_idxOf jl];exact beq_self_eq_true y
 ·intro m hm' hlt
  rw[key m hm']
  have:=List.not_of_lt_findIdx (p:=(·==y)) (xs:=ss) (i:=m) hlt
  simpa using this
 ·exact⟨.int _,H,I.tok _,⟨_,rfl⟩,q⟩
end
end L2
namespace L2
open PySem PySem.Spec PyProof.Rows PySem.W
section
variable {X:Cx}
def QQ:V->List V->Hp->VK->Prop:=λx vs H Q=>∃(l:Addr) (ss:List Str) (y:Str),x=.ref l/\vs=[.str y]/\H l=some (.lst (ss.map V.str))/\y∈ss/\ss.length<=1000/\Q (.int ((ss.idxOf y:Nat):Int)) H
theorem MC (K:PySem.W.Frag){o e:Expr}{to te:TE}{apos cpos:Pos}(ho:PE X o to)(he:PE X e te)(hK:X.K=K:=by rfl)(hbase:attributeBase o "index" X.env (eval o X.env)=eval o X.env:=by rfl)
 (h1:starEach [e] X.env=[(false,eval e X.env)]:=by rfl)(hl:(apos.endLine==cpos.line)=true:=by rfl):
 PE X (.Call (.Attribute o "index" apos) [e] [] cpos) (Q0 K "list" QQ to (Fh te KA)):=by
 subst hK
 exact BR PySem.F.plainAttrs_list PySem.F.slot_list_index PySem.F.type_list_index NA ho (AA he AB h1) hbase (by rw[h1];rfl) hl h1 (by rfl)
end
end L2
namespace L2
open PySem PySem.Spec PyProof.Rows
section
variable {κ:Type}[DecidableEq κ]
def CW (kvs:List (κ×V))(k:κ):Option V:=(kvs.find? λkv=>decide (kv.1=k)).map (·.2)
def putK (kvs:List (κ×V))(k:κ)(v:V):List (κ×V):=
 if(kvs.any λkv=>decide (kv.1=k))=true then kvs.map (λkv=>if kv.1=k then(kv.1,v)else kv)else kvs++[(k,v)]
theorem Bp {p:κ×V}{r:List (κ×V)}{k:κ}(e:p.1=k):CW (p::r) k=some p.2:=by simp[CW,List.find?_cons,e]
theorem Bq {p:κ×V}{r:List (κ×V)}{k:κ}(e:¬p.1=k):CW (p::r) k=CW r k:=by simp[CW,List.find?_cons,e]
theorem Fy (k:κ):∀kvs:List (κ×V),(kvs.any λkv=>decide (kv.1=k))=(CW kvs k).isSome
 |[]=>rfl
 |p::r=>by
  rw[List.any_cons]
  by_cases e:p.1=k
  ·simp only[Bp e,decide_eq_true e,Bool.true_or,Option.isSome_some]
  ·rw[Bq e,decide_eq_false e,Bool.false_or];exact Fy k r
theorem JJ (k j:κ)(y:V):∀kvs:List (κ×V),CW (kvs.map λkv=>if kv.1=k then(kv.1,y)else kv) j=(CW kvs j).map λx=>if j=k then y else x
 |[]=>rfl
 |p::r=>by
  have ih:=JJ k j y r
  rw[List.map_cons]
  by_cases h:p.1=k
  ·rw[if_pos h]
   by_cases e:p.1=j
   ·rw[Bp (p:=(p.1,y)) e,Bp e,Option.map_some,if_pos (e.symm.trans h)]
   ·rw[Bq (p:=(p.1,y)) e,Bq e,ih]
  ·rw[if_neg h]
   by_cases e:p.1=j
   ·rw[Bp (p:=p) e,Bp e,Option.map_some,if_neg (λz=>h (e.trans z))]
   ·rw[Bq (p:=p) e,Bq e,ih]
theorem HK (k j:κ)(y:V):∀kvs:List (κ×V),CW kvs k=none->CW (kvs++[(k,y)]) j=if j=k then some y else CW kvs j
 |[],_=>by
  by_cases e:k=j
  ·rw[if_pos e.symm];exact Bp (p:=(k,y)) e
  ·rw[if_neg (λz=>e z.symm)];exact Bq (p:=(k,y)) e
 |p::r,hn=>by
  rw[List.cons_append]
  have hk:¬p.1=k:=λz=>by rw[Bp z]at hn;cases hn
  rw[Bq hk]at hn
  have ih:=HK k j y r hn
  by_cases e:p.1=j
  ·rw[Bp e,Bp e,if_neg (λz=>hk (e.trans z))]
  ·rw[Bq e,Bq e,ih]
theorem NB (kvs:List (κ×V))(k j:κ)(y:V):CW (putK kvs k y) j=if j=k then some y else CW kvs j:=by
 unfold putK
 by_cases a:(kvs.any λkv=>decide (kv.1=k))=true
 ·rw[if_pos a,JJ]
  rw[Fy]at a
  by_cases e:j=k
  ·obtain⟨x,hx⟩:=Option.isSome_iff_exists.mp a
   rw[if_pos e,e,hx,Option.map_some,if_pos rfl]
  ·rw[if_neg e]
   cases CW kvs j with
   |none=>rfl
   |some x=>rw[Option.map_some,if_neg e]
 ·rw[if_neg a]
  refine HK k j y kvs ?_
  rw[Fy]at a
  cases q:CW kvs k with
  |none=>rfl
  |some x=>rw[q]at a;exact(a rfl).elim
theorem JK (kvs:List (κ×V))(k:κ)(v:V):(putK kvs k v).length<=kvs.length+1:=by
 unfold putK
 split
 ·rw[List.length_map];omega
 ·rw[List.length_append,List.length_cons,List.length_nil];omega
theorem J6.HL {o:Option V}{u:Option Value}(r:J6 o u):o.isSome=u.isSome:=by
 cases o with
 |none=>cases u with
  |none=>rfl
  |some _=>exact(show False from r).elim
 |some _=>cases u with
  |none=>exact(show False from r).elim
  |some _=>rfl
theorem KV.val {kvs:List (κ×V)}{vs:List (κ×Value)}(r:KV kvs vs)(k:κ):J6 (CW kvs k) (valueAt vs k):=by
 unfold KV at r
 induction r with
 |nil=>exact True.intro
 |@cons p q ps qs h t ih=>
  obtain⟨h1,h2⟩:=h
  by_cases e:p.1=k
  ·have e':q.1=k:=h1.symm.trans e
   have b:valueAt (q::qs) k=some q.2:=by simp[valueAt,List.find?_cons,e']
   rw[Bp e,b];exact h2
  ·have e':¬q.1=k:=λz=>e (h1.trans z)
   have b:valueAt (q::qs) k=valueAt qs k:=by simp[valueAt,List.find?_cons,e']
   rw[Bq e,b];exact ih
theorem KV.any {kvs:List (κ×V)}{vs:List (κ×Value)}(r:KV kvs vs)(k:κ):(kvs.any λkv=>decide (kv.1=k))=vs.any λkv=>decide (kv.1=k):=by
 unfold KV at r
 induction r with
 |nil=>rfl
 |cons h t ih=>rw[List.any_cons,List.any_cons,ih,h.1]
theorem KV.Sy {kvs:List (κ×V)}{vs:List (κ×Value)}(r:KV kvs vs)(k:κ){y:V}{u:Value}(ry:RelV y u):
 KV (kvs.map λkv=>if kv.1=k then(kv.1,y)else kv) (vs.map λkv=>if kv.1=k then(kv.1,u)else kv):=by
 unfold KV at r ⊢
 induction r with
 |nil=>exact .nil
 |@cons p q ps qs h t ih=>
  rw[List.map_cons,List.map_cons]
  refine .cons ?_ ih
  obtain⟨h1,h2⟩:=h
  by_cases e:p.1=k
  ·rw[if_pos e,if_pos (h1.symm.trans e)];exact⟨h1,ry⟩
  ·rw[if_neg e,if_neg (λz=>e (h1.trans z))];exact⟨h1,h2⟩
theorem KV.put {kvs:List (κ×V)}{vs:List (κ×Value)}(r:KV kvs vs)(k:κ){y:V}{u:Value}(ry:RelV y u):KV (putK kvs k y) (stored vs k u):=by
 unfold putK stored
 rw[r.any k]
 by_cases e:(vs.any λkv=>decide (kv.1=k))=true
 ·rw[if_pos e,if_pos e];exact r.Sy k ry
 ·rw[if_neg e,if_neg e];exact Paired.snoc r ⟨rfl,ry⟩
theorem KV.length {kvs:List (κ×V)}{vs:List (κ×Value)}(r:KV kvs vs):kvs.length=vs.length:=Paired.length r
end
theorem K9 {P:Program}{w:World}{k:Key}{u:Value}(r:RelV (kV k) u):(A6 P w).is k u=true:=by
 cases k with
 |inl i=>obtain⟨t,e⟩:=(show∃t,u=Value.int i t from r);subst e;exact Ik P w i t
 |inr x=>obtain⟨t,e⟩:=(show∃t,u=Value.str x t from r);subst e;exact Il P w x t
theorem HM {P:Program}{w:World}:∀{ks:List Key} {us:List Value},Vals (ks.map kV) us->ItemsAre (A6 P w) ks us
 |[],_,r=>by rw[List.map_nil]at r;cases r;exact .nil
 |k::ks,_,r=>by
  rw[List.map_cons]at r
  cases r with
  |cons h t=>exact .cons (K9 h) (HM t)
abbrev KT (H:Hp):List (List Key×V)->List (List Key×Addr×Value)->Prop:=Paired λp q=>p.1=q.1/\H q.2.1=some (.tup (p.1.map kV))/\RelV p.2 q.2.2
theorem KT.val {H:Hp}{kvs:List (List Key×V)}{xs:List (List Key×Addr×Value)}(r:KT H kvs xs)(k:List Key):J6 (CW kvs k) ((atKey xs k).map (·.2)):=by
 induction r with
 |nil=>exact True.intro
 |@cons p q ps qs h t ih=>
  obtain⟨h1,_,h2⟩:=h
  by_cases e:p.1=k
  ·have e':q.1=k:=h1.symm.trans e
   have b:atKey (q::qs) k=some q.2:=by simp[atKey,List.find?_cons,e']
   rw[Bp e,b];exact h2
  ·have e':¬q.1=k:=λz=>e (h1.trans z)
   have b:atKey (q::qs) k=atKey qs k:=by simp[atKey,List.find?_cons,e']
   rw[Bq e,b];exact ih
section
variable {P:Program}{w:World}{H:Hp}{h:Heap}{a:Addr}
theorem Pl {u:HO}(ok:DJ P w H h)(e:Rd H a u):A0 P w H h a u:=e.ok ok
theorem Pm {kvs:List (Key×V)}(ok:DJ P w H h)(e:Rd H a (.dK kvs)):kvs.length<=sizeLine/\(a==sysModules)=false/\∃vs,KV kvs vs/\h.DictOf (A6 P w) a vs:=
 show A0 P w H h a (.dK kvs)from Pl ok e
theorem Rb {kvs:List (Key×V)}(ok:DJ P w H h)(e:H a=some (.dK kvs)):kvs.length<=sizeLine/\(a==sysModules)=false/\∃vs,KV kvs vs/\h.DictOf (A6 P w) a vs:=Pm ok (.inl e)
theorem NC {ks:List Key}(ok:DJ P w H h)(e:H a=some (.tup (ks.map kV))):(tupleKind (A6 P w)).is h ks a:=by
 obtain⟨_,its,r,o,h1,h2,n,h3⟩:=(show A0 P w H h a (.tup (ks.map kV))from ok a _ e)
 exact⟨o,its.toArray,n,h1,h2,h3,by simpa using HM r⟩
theorem Rc {kvs:List (List Key×V)}(ok:DJ P w H h)(e:Rd H a (.dT kvs)):kvs.length<=sizeLine/\(a==sysModules)=false/\
 ∃xs,KT H kvs xs/\h.DictOfH (tupleKind (A6 P w)) a xs:=by
 obtain⟨z,y,xs,r,o,es,ep,h1,h2,h3,h4,h5⟩:=(show A0 P w H h a (.dT kvs)from Pl ok e)
 refine⟨z,y,xs,r,o,es,ep,h1,h2,h3,h4,λx hx=>?_,h5⟩
 have all:∀{l:List (List Key×V)} {m:List (List Key×Addr×Value)},KT H l m->∀x∈m,(tupleKind (A6 P w)).is h x.1 x.2.1:=by
  intro l m q
  induction q with
  |nil=>intro x hx;exact nomatch hx
  |@cons p q ps qs hq t ih=>
   intro x hx
   rcases List.mem_cons.mp hx with e|hx
   ·subst e
    exact NC ok (by rw[<-hq.1];exact hq.2.1)
   ·exact ih x hx
 exact all r x hx
end
def ND (H:Hp)(a:Addr)(y:V)(r:Option V):Prop:=
 (∃kvs k,Rd H a (.dK kvs)/\y=kV k/\r=CW kvs k)\/∃kvs k b,Rd H a (.dT kvs)/\y=.ref b/\H b=some (.tup (k.map kV))/\r=CW kvs k
theorem ND.k {H:Hp}{a:Addr}{kvs:List (Key×V)}{k:Key}(e:H a=some (.dK kvs)):ND H a (kV k) (CW kvs k):=.inl ⟨kvs,k,.inl e,rfl,rfl⟩
section
variable {X:Cx}{pins:List (Addr×Obj)}{σ:St}{H:Hp}{s:Shared}{a:Addr}{y v:V}{u r:Value}{o:Option V}{A:Around}{E:Value->Shared->Prop}
theorem Inv.big (I:Inv X pins σ H s):sysModules < s.heap.objs.size:=by
 have h:mainGlobals < s.heap.objs.size:=(I.mod.glob.keeps I.bk).lt
 exact Nat.lt_trans (by decide) h
theorem Sz {Q:Value->Shared->Prop}(hu:A.units+1 < cLine)(I:Inv X pins σ H s)(g:ND H a y o)(ry:RelV y u)(h:∀s',Inv X pins σ H s'->Q (.bool o.isSome) s'):
 wpAny (model X.prog X.w) A (compareOp .In u (.ref a)) Q E s:=by
 rcases g with⟨kvs,k,e,ey,l⟩|⟨kvs,k,b,e,ey,eb,l⟩
 ·subst ey
  obtain⟨z,hd,vs,rel,dd⟩:=Pm I.hok e
  refine wpAny_in_of (K9 ry) hd dd.mapOf ?_
  rw[<-(rel.val k).HL,<-l]
  exact h _ (I.tok _)
 ·subst ey
  cases(show u=Value.ref b from ry)
  obtain⟨z,hd,xs,rel,dd⟩:=Rc I.hok e
  refine wpAny_in_heap (tupleKind_room_in1 hu) (NC I.hok eb) hd dd ?_
  have q:=(rel.val k).HL
  rw[Option.isSome_map]at q
  rw[<-q,<-l]
  exact h _ (I.tok _)
theorem Oc {h':Heap}{t':Nat}{ob:HO}(I:Inv X pins σ H s)(mu:Q9 (H a))(hs:Heap.SameBut a s.heap h')(he:∃q,h'.get? a=some q)(new:A0 X.prog X.w (upd H a ob) h' a ob):
 Inv X pins σ (upd H a ob) { s with heap:=h',toks:=t' }:=
 I.write (x:=a) (e:=a) mu (.inl rfl) (λb q hb z=>(hs.2 b hb).trans z) he new
theorem NF {P:Program}{w:World}{H':Hp}{h':Heap}{kvs:List (Key×V)}{vs:List (Key×Value)}(z:kvs.length<=sizeLine)(hd:(a==sysModules)=false)(rel:KV kvs vs)(dd:h'.DictOf (A6 P w) a vs):
 A0 P w H' h' a (.dK kvs):=⟨z,hd,vs,rel,dd⟩
end
section
variable {X:Cx}{pins:List (Addr×Obj)}{σ:St}{H:Hp}{s:Shared}{a:Addr}{kvs:List (Key×V)}{k:Key}{u:Value}{A:Around}{E:Value->Shared->Prop}
end
def S0 (ty td:TE):TE:=λσ H Q=>ty σ H λy H1=>td σ H1 λx H2=>∃a o,x=.ref a/\ND H2 a y o/\Q (.bl o.isSome) H2
section
variable {X:Cx}{o i e value:Expr}{pos pos' tpos:Pos}{td ty tv:TE}
theorem QR (hu:X.A.units+1 < cLine)(hi:PE X i ty)(ho:PE X o td):PC X .In i o (S0 ty td):=by
 intro pins s σ H Q I h
 refine BH (hi pins s σ H _ I h) λiv s1 ⟨y,H1,I1,ry,q1⟩=>BH (ho pins s1 σ H1 _ I1 q1) λu s2 ⟨x,H2,I2,rx,a,ov,ex,g,q2⟩=>?_
 subst ex
 obtain rfl:u=Value.ref a:=rx
 exact Sz hu I2 g ry λs3 I3=>⟨.bl ov.isSome,H2,I3,rfl,q2⟩
end
theorem JM {P:Program}{w:World}{H:Hp}(h:Heap)(hb:sysModules < h.objs.size):A0 P w H (h.push { cls:=.type "dict",data:=.dict #[] }) h.objs.size (.dK []):=
 ⟨Nat.zero_le _,beq_eq_false_iff_ne.mpr (Ne.symm (Nat.ne_of_lt hb)),[],.nil,Heap.DictOf.new h⟩
def QS:TE:=λ_ H Q=>∀p,H p=none->Q (.ref p) (upd H p (.dK []))
section
variable {X:Cx}{pos:Pos}
theorem NG:PE X (.Dict [] [] pos) QS:=λpins s σ H Q I h=>
 wpAny_Dict_empty ⟨.ref s.heap.objs.size,_,I.laid (a:=s.heap.objs.size) (o:=.dK []) (t':=s.toks) (λ_ _ q=>Heap.get?_push_of_some _ q) (Nat.le_refl _) (JM s.heap I.big),rfl,h _ (I.hok.fresh (Nat.le_refl _))⟩
end
def KO:List (TE×TE)->St->Hp->(List (V×V)->Hp->Prop)->Prop
 |[],_,H,Q=>Q [] H
 |(tk,tv)::r,σ,H,Q=>tk σ H λx H1=>tv σ H1 λy H2=>KO r σ H2 λps H3=>Q ((x,y)::ps) H3
abbrev VV:List (V×V)->List (Value×Value)->Prop:=Paired λp q=>RelV p.1 q.1/\RelV p.2 q.2
def SH (X:Cx)(pos:Pos)(keys:List (Option Expr))(values:List Expr)(trs:List (TE×TE)):Prop:=
 ∀(pins:List (Addr×Obj)) (s:Shared) (σ:St) (H:Hp) (Q:List (V×V)->Hp->Prop),Inv X pins σ H s->KO trs σ H Q->
  wpAny (model X.prog X.w) X.A (evalPairs (pairTrees keys values X.env pos)) (λvs s'=>∃ps H',Inv X pins σ H' s'/\VV ps vs/\Q ps H') X.xe s
theorem Od {X:Cx}{pos:Pos}:SH X pos [] [] []:=λpins s σ H Q I h=>pairTrees_nil_walk ⟨[],H,I,.nil,h⟩
theorem NH {X:Cx}{pos:Pos}{k v:Expr}{ks:List (Option Expr)}{vs:List Expr}{tk tv:TE}{trs:List (TE×TE)}(hk:PE X k tk)(hv:PE X v tv)(hr:SH X pos ks vs trs):
 SH X pos (some k::ks) (v::vs) ((tk,tv)::trs):=λpins s σ H Q I h=>
 pairTrees_cons_walk (BH (hk pins s σ H _ I h) λu s1 ⟨x,H1,I1,rx,q1⟩=>BH (hv pins s1 σ H1 _ I1 q1) λw2 s2 ⟨y,H2,I2,ry,q2⟩=>
  BH (hr pins s2 σ H2 _ I2 q2) λws s3 ⟨ps,H3,I3,rel,q3⟩=>⟨(x,y)::ps,H3,I3,.cons ⟨rx,ry⟩ rel,q3⟩)
def Bd (kvs more:List (Key×V)):List (Key×V):=more.foldl (λacc kv=>putK acc kv.1 kv.2) kvs
theorem KV.merge:∀{more:List (Key×V)} {rs:List (Key×Value)} {kvs:List (Key×V)} {vs:List (Key×Value)},KV more rs->KV kvs vs->KV (Bd kvs more) (merged vs rs):=by
 intro more rs kvs vs r
 unfold KV at r
 induction r generalizing kvs vs with
 |nil=>intro q;exact q
 |@cons p q ps qs h t ih=>
  intro r0
  have e:KV (putK kvs p.1 p.2) (stored vs q.1 q.2):=by
   have:=r0.put p.1 h.2
   rw[<-h.1];exact this
  exact ih e
theorem Cp:∀(more kvs:List (Key×V)),(Bd kvs more).length<=kvs.length+more.length
 |[],kvs=>by show kvs.length<=kvs.length+0;omega
 |p::r,kvs=>by
  have h1:=Cp r (putK kvs p.1 p.2)
  have h2:=JK kvs p.1 p.2
  show(Bd (putK kvs p.1 p.2) r).length<=_
  rw[List.length_cons];omega
theorem Fz {P:Program}{w:World}:∀{kvs:List (Key×V)} {ws:List (Value×Value)},VV (kvs.map λkv=>(kV kv.1,kv.2)) ws->∃rs,Carries (A6 P w) ws rs/\KV kvs rs
 |[],_,r=>by rw[List.map_nil]at r;cases r;exact⟨[],True.intro,.nil⟩
 |p::kvs,_,r=>by
  rw[List.map_cons]at r
  cases r with
  |@cons a b as bs h t=>
   obtain⟨rs,c,q⟩:=Fz (P:=P) (w:=w) t
   obtain⟨b1,b2⟩:=b
   exact⟨(p.1,b2)::rs,⟨K9 h.1,rfl,c⟩,.cons ⟨rfl,h.2⟩ q⟩
def Rf (trs:List (TE×TE)):TE:=λσ H Q=>∀p,H p=none->KO trs σ (upd H p (.dK [])) λps H2=>H2 p=some (.dK [])/\∃kvs:List (Key×V),ps=kvs.map (λkv=>(kV kv.1,kv.2))/\kvs.length<=15/\Q (.ref p) (upd H2 p (.dK (Bd [] kvs)))
theorem Oe {X:Cx}{pos:Pos}{keys:List (Option Expr)}{values:List Expr}{trs:List (TE×TE)}(h:SH X pos keys values trs)(hall:keys.all (·.isSome)=true)(hl:keys.length=values.length)(h0:keys≠[])
 (h15:keys.length<=15):PE X (.Dict keys values pos) (Rf trs):=by
 intro pins s σ H Q I q
 have hn:=I.hok.fresh (Nat.le_refl s.heap.objs.size)
 have I1:=I.laid (a:=s.heap.objs.size) (o:=.dK []) (h':=s.heap.push { cls:=.type "dict",data:=.dict #[] }) (t':=s.toks) (λ_ _ q=>Heap.get?_push_of_some _ q) (Nat.le_refl _) (JM s.heap I.big)
 refine wpAny_Dict_walk (knd:=A6 X.prog X.w) hall hl h0 h15 (BH (h pins _ σ _ _ I1 (q _ hn)) λws s2 ⟨ps,H2,I2,rel,e,kvs,ep,lk,q2⟩=>?_)
 subst ep
 obtain⟨rs,c,rk⟩:=Fz (P:=X.prog) (w:=X.w) rel
 obtain⟨z,hd,vs0,r0,dd⟩:=Rb I2.hok e
 cases r0
 refine⟨rs,c,dd,λh' dd' hs=>⟨.ref s.heap.objs.size,_,?_,rfl,q2⟩⟩
 have hz:(Bd [] kvs).length<=sizeLine:=by
  have h1:=Cp kvs []
  rw[List.length_nil]at h1
  rw[sizeLine_eq];omega
 have he:∃q,h'.get? s.heap.objs.size=some q:=let⟨q,_,_,hq,_⟩:=dd';⟨q,hq⟩
 exact Oc I2 (by rw[e];exact True.intro) hs he (NF hz hd (rk.merge .nil) dd')
section
variable {X:Cx}{pins:List (Addr×Obj)}{σ:St}{H:Hp}{s:Shared}{a:Addr}{y d:V}{u r:Value}{o:Option V}{A:Around}{E:Value->Shared->Prop}
end
section
variable {X:Cx}{o e f:Expr}{apos cpos:Pos}{td ty tx:TE}
end
section
variable {X:Cx}{pins:List (Addr×Obj)}{σ:St}{H:Hp}{s:Shared}{a:Addr}{kvs:List (Key×V)}{A:Around}{E:Value->Shared->Prop}
end
section
variable {X:Cx}{pins:List (Addr×Obj)}{σ:St}{H:Hp}{s:Shared}{a:Addr}{y:V}{u:Value}{A:Around}{E:Value->Shared->Prop}
end
end L2
namespace L2
open PySem PySem.Spec PyProof.Rows PySem.W
open MeetsSeq MeetsSeq2 MeetsSeq3 SeqRoads2 SeqAt
section
variable {X:Cx}{tg:Expr}
end
section
theorem C9 {n:Nat}(h:n < 10000):n < sizeLine:=by
 rw[sizeLine_eq];omega
theorem JN {J:It}{NL:List Str}{ix:List Nat}{g:TG}{tt:TT}{te:TE}{σ:St}{H1:Hp}{Qs:Hp->Prop}{acc:Addr}(n:Nat)(hn:n < 10000)(Pv:Nat->List V->Hp->Prop)
 (hacc:∀i ys H2,Pv i ys H2->H2 acc=some (.lst ys)/\ys.length<=i)(h0:Pv 0 [] (upd H1 acc (.lst [])))(hstop:∀ys H2,Pv n ys H2->J.stop n H2/\Qs H2)
 (hturn:∀i ys H2,i < n->Pv i ys H2->J.go i H2/\∀x H3,J.yld i H2 x H3->g x (BO NL ix σ) H3 λσ' H4=>σ'.drop NL.length=ix.map (λj=>σ.getD j none)/\tt σ' H4 λb H5=>
  if b=true then te σ' H5 λv H6=>H6 acc=some (.lst ys)/\Pv (i+1) (ys++[v]) (upd H6 acc (.lst (ys++[v])))else Pv (i+1) ys H5):
 ∃W:Nat->Nat->List V->Hp->Prop,(∃m,W 0 m [] (upd H1 acc (.lst [])))/\
 ∀i m ys H2,W i m ys H2->H2 acc=some (.lst ys)/\ys.length < sizeLine/\
  ((J.stop i H2/\Qs H2)\/(J.go i H2/\∃N:List V->Hp->Prop,(∀ys' H',N ys' H'->∃m',m' < m/\W (i+1) m' ys' H')/\
    ∀x H3,J.yld i H2 x H3->g x (BO NL ix σ) H3 λσ' H4=>σ'.drop NL.length=ix.map (λj=>σ.getD j none)/\tt σ' H4 λb H5=>
     if b=true then te σ' H5 λv H6=>H6 acc=some (.lst ys)/\N (ys++[v]) (upd H6 acc (.lst (ys++[v])))else N ys H5)):=by
 refine⟨λi m ys H2=>i<=n/\m=n - i/\Pv i ys H2,⟨n,Nat.zero_le _,rfl,h0⟩,λi m ys H2 ⟨hi,hm,hp⟩=>?_⟩
 obtain⟨a1,a2⟩:=hacc i ys H2 hp
 refine⟨a1,C9 (by omega),?_⟩
 rcases Nat.lt_or_ge i n with lt|ge
 ·obtain⟨go,tn⟩:=hturn i ys H2 lt hp
  exact .inr ⟨go,Pv (i+1),λys' H' hN=>⟨n - (i+1),by omega,by omega,rfl,hN⟩,tn⟩
 ·have e:i=n:=by omega
  subst e
  exact .inl (hstop ys H2 hp)
end
section
variable {NL:List Str}{ix:List Nat}{g:TG}{tt:TT}{te:TE}{σ:St}{H1:Hp}{Qs:Hp->Prop}{acc:Addr}
theorem MD {K:PySem.W.Frag}{a:Addr}{xs:List V}(hn:xs.length < 10000)(Pv:Nat->List V->Hp->Prop)
 (hl:∀i ys H2,Pv i ys H2->An K H2 a xs)(hacc:∀i ys H2,Pv i ys H2->H2 acc=some (.lst ys)/\ys.length<=i)(h0:Pv 0 [] (upd H1 acc (.lst [])))(hstop:∀ys H2,Pv xs.length ys H2->Qs H2)
 (hturn:∀i x ys H2,xs[i]?=some x->Pv i ys H2->g x (BO NL ix σ) H2 λσ' H4=>σ'.drop NL.length=ix.map (λj=>σ.getD j none)/\tt σ' H4 λb H5=>
  if b=true then te σ' H5 λv H6=>H6 acc=some (.lst ys)/\Pv (i+1) (ys++[v]) (upd H6 acc (.lst (ys++[v])))else Pv (i+1) ys H5):
 ∃W:Nat->Nat->List V->Hp->Prop,(∃m,W 0 m [] (upd H1 acc (.lst [])))/\
 ∀i m ys H2,W i m ys H2->H2 acc=some (.lst ys)/\ys.length < sizeLine/\
  (((Mo K a).stop i H2/\Qs H2)\/((Mo K a).go i H2/\∃N:List V->Hp->Prop,(∀ys' H',N ys' H'->∃m',m' < m/\W (i+1) m' ys' H')/\
    ∀x H3,(Mo K a).yld i H2 x H3->g x (BO NL ix σ) H3 λσ' H4=>σ'.drop NL.length=ix.map (λj=>σ.getD j none)/\tt σ' H4 λb H5=>
     if b=true then te σ' H5 λv H6=>H6 acc=some (.lst ys)/\N (ys++[v]) (upd H6 acc (.lst (ys++[v])))else N ys H5)):=by
 refine JN xs.length hn Pv hacc h0 (λys H2 hp=>⟨⟨xs,hl _ _ _ hp,Nat.le_refl _⟩,hstop ys H2 hp⟩) λi ys H2 hi hp=>?_
 have hs:=hl _ _ _ hp
 refine⟨⟨xs,xs[i],hs,List.getElem?_eq_getElem hi⟩,?_⟩
 rintro x H3 ⟨rfl,hx⟩
 exact hturn i x ys H3 (hx xs hs) hp
end
section
variable {X:Cx}
end
end L2
namespace L2
open PySem PySem.Spec PyProof.Rows PySem.W
end L2
namespace L2
open PySem PySem.Spec PyProof.Rows PySem.W
theorem IE:typeLookup (.type "list") "keys"=pure none:=by rw[typeLookup_type,builtinLookup_eq_fast];kernel_rfl
theorem ME {prog:Program}{w:World}{A:Around}{E:Value->Shared->Prop}{s:Shared}{a:Addr}{xs:Array Value}{k:Nat}{Q:Option Value->Shared->Prop}
 (hx:s.heap.get? a=some { cls:=.type "list",data:=.seq xs k })(hA:A.handled=none)
 (h:∀h' tk,(∀b o,s.heap.get? b=some o->h'.get? b=some o)->Q none { s with heap:=h',toks:=tk }):
 wpAny (model prog w) A (getAttr? (.ref a) "keys") Q E s:=by
 obtain⟨hp,g,d,tk,os⟩:=s
 have hT:∀tk',(⟨hp,g,d,tk',os⟩:Shared).TypeIs (.ref a) "list":=λ_=>⟨_,hx,rfl⟩
 have f1:=sub_AttributeError
 have f3:=F.slot_list_getattribute.lookup
 have f4:=F.slot_list_getattribute.bind (.ref a)
 have f5:=am_list_getattr_none
 unfold getAttr? getAttrBy? getAttrBy
 repeat(any_goals (first|assumption|exact hT _|((with_reducible show wpAny _ _ (call (Value.builtin "list.__getattribute__") _ _) _ _ _);refine call_meets F.slot_list_getattribute (hT _) am_entry_list_getattribute (F.args_list_getattribute_2 _ _) (meets_getattribute_miss_list a xs k #[] "keys" _ IE (by decide) (by size_fits)) ⟨hx,hA,λh' tk' e hx'=>?_⟩)|wp_step))
 obtain⟨t',u',he⟩:=hx'.there
 show wpAny _ _ (getattributeRaised _ _ _ _ _ _ _) _ _ _
 unfold getattributeRaised
 repeat(any_goals (first|assumption|wp_step))
 exact h _ _ hx'.keeps
end L2
namespace L2
open PySem PySem.Spec PyProof.Rows PySem.W
theorem DE:entryFor table "dict.update.loop"=some Builtin.«dict.update.loop»:=entryFor_of_tree (by kernel_rfl)
theorem B3:plainId "dict.update.loop"=true:=by decide+kernel
section
variable {prog:Program}{w:World}{A:Around}{E:Value->Shared->Prop}
def NI (h:Heap)(D:Addr)(items:Array Value)(ps:List (Key×Value)):Prop:=
 ps.length=items.size/\∀(j:Nat) (k:Key) (v:Value),ps[j]?=some (k,v)->∃(a:Addr) (ku:Value),items[j]?=some (Value.ref a)/\a≠D/\RelV (kV k) ku/\IsTup h a #[ku,v]
theorem NI.keeps {h h':Heap}{D I:Addr}{items:Array Value}{ps:List (Key×Value)}(p:NI h D items ps)(nI:∀a:Addr,Value.ref a∈items->a≠I)(k:∀b o,b≠I->b≠D->h.get? b=some o->h'.get? b=some o):NI h' D items ps:=by
 refine⟨p.1,λj kk v e=>?_⟩
 obtain⟨a,ku,ha,hD,hk,o,e1,e2⟩:=p.2 j kk v e
 exact⟨a,ku,ha,hD,hk,o,k a o (nI a (Array.mem_of_getElem? ha)) hD e1,e2⟩
end
end L2
namespace L2
open PySem PySem.Spec PyProof.Rows PySem.W
section
variable {prog:Program}{w:World}{A:Around}{E:Value->Shared->Prop}{s:Shared}
end
end L2
namespace L2
open PySem PySem.Spec PyProof.Rows PySem.W
theorem JO {h:Heap}:∀(as:List Addr) (kvs:List (Key×V)),as.length=kvs.length->(∀(j:Nat) a k v,as[j]?=some a->kvs[j]?=some (k,v)->∃ku vu,RelV (kV k) ku/\RelV v vu/\IsTup h a #[ku,vu])->
 ∃ps:List (Key×Value),KV kvs ps/\∀(j:Nat) k vu,ps[j]?=some (k,vu)->∃a ku,as[j]?=some a/\RelV (kV k) ku/\IsTup h a #[ku,vu]
 |[],[],_,_=>⟨[],.nil,λj k vu e=>by simp at e⟩
 |a::as,(k,v)::kvs,hl,hp=>by
  obtain⟨ps,r,q⟩:=JO as kvs (by simpa using hl) λj a k v h1 h2=>hp (j+1) a k v (by simpa using h1) (by simpa using h2)
  obtain⟨ku,vu,r1,r2,r3⟩:=hp 0 a k v rfl rfl
  refine⟨(k,vu)::ps,.cons ⟨rfl,r2⟩ r,λj k' vu' e=>?_⟩
  cases j with
  |zero=>cases e;exact⟨a,ku,rfl,r1,r3⟩
  |succ j=>exact q j k' vu' (by simpa using e)
section
variable {X:Cx}
end
theorem Of:bootBuiltins "dict"=some (.type "dict"):=by decide+kernel
end L2
namespace L2
open PySem PySem.Spec PyProof.Rows PySem.W
section
variable {X:Cx}
variable {e st:Expr}{te:TE}{ts:TO}{pos p2:Pos}
end
def Og (x:Str):It:=⟨λi _=>i < x.cps.size,λi H v H'=>H'=H/\∃c,x.cps[i]?=some c/\v=.str ⟨#[c]⟩,λi _=>x.cps.size<=i⟩
theorem NJ {P:Program}{w:World}{K:PySem.W.Frag}{tg:Expr}(x:Str)(t:Tok)(it:Addr):Turn P w K tg (Og x) [it] it (λi h=>h.IsStrIter it (strIterType x) x t i) where
 mem:=by simp
 obj:=λi h st b hb=>by
  have e:b=it:=by simpa using hb
  subst e
  obtain⟨o,e,c,d⟩:=st
  exact⟨o,e,λv z=>by rw[d]at z;cases z⟩
 keep:=λi h h' st k=>by
  obtain⟨o,e,c,d⟩:=st
  exact⟨o,k it (by simp) o e,c,d⟩
 item:=by
  intro X hP hw hK hc i pins s σ H E I hf st hg
  subst hP hw hK
  have hg:i < x.cps.size:=hg
  obtain⟨f0,f1,f2,f3,f4,f5⟩:=hf it (by simp)
  have hx:x.cps[i]?=some (x.cps[i]'hg):=Array.getElem?_eq_getElem hg
  have go:∀(h':Heap),h'.IsStrIter it (strIterType x) x t (i+1)->Heap.SameBut it s.heap h'->∃u,some (Value.str ⟨#[x.cps[i]'hg]⟩ s.toks)=some u/\
   wpAny (model X.prog X.w) X.A (letOwnedTupleGo tg (.ref it) u) (λ_ s2=>∃v H',Inv X pins σ H' s2/\RelV v u/\(Og x).yld i H v H'/\s2.heap.IsStrIter it (strIterType x) x t (i+1)/\∀b∈[it],H' b=none) E { s with heap:=h',toks:=s.toks+1 }:=λh' st' sb=>by
   have I1:Inv X pins σ H { s with heap:=h',toks:=s.toks+1 }:=I.turned (t':=s.toks+1) (λb o hb e=>(sb.2 b hb).trans e) f0 f1 f3 f4 f5
   obtain⟨o,e,c,d⟩:=id st'
   refine⟨_,rfl,Gm (s:={ s with heap:=h',toks:=s.toks+1 }) e c d ?_ ⟨.str ⟨#[x.cps[i]'hg]⟩,H,I1,⟨_,rfl⟩,⟨rfl,_,hx,rfl⟩,st',λb hb=>(hf b hb).1⟩⟩
   unfold strIterType
   split<;>decide
  cases c:x.cps.all (·< 128)with
  |true=>
   have e:strIterType x="str_ascii_iterator":=by unfold strIterType;rw[c];rfl
   rw[e]at st
   exact wpAny_pyNext_ascii_item st hx λh' st' sb=>go h' (by rw[e];exact st') sb
  |false=>
   have e:strIterType x="str_iterator":=by unfold strIterType;rw[c];rfl
   rw[e]at st
   exact wpAny_pyNext_wide_item st hx λh' st' sb=>go h' (by rw[e];exact st') sb
 done:=by
  intro X hP hw hK hc i pins s σ H E I hf st hg
  subst hP hw hK
  have hg:x.cps.size<=i:=hg
  obtain⟨f0,f1,f2,f3,f4,f5⟩:=hf it (by simp)
  have hx:x.cps[i]?=none:=Array.getElem?_eq_none hg
  cases c:x.cps.all (·< 128)with
  |true=>
   have e:strIterType x="str_ascii_iterator":=by unfold strIterType;rw[c];rfl
   rw[e]at st
   exact wpAny_pyNext_ascii_end (I.ok.hd hc) st hx λh' eb=>⟨rfl,I.turned (t':=s.toks) (λb o hb e=>eb b o hb e) f0 f1 f3 f4 f5⟩
  |false=>
   have e:strIterType x="str_iterator":=by unfold strIterType;rw[c];rfl
   rw[e]at st
   exact wpAny_pyNext_wide_end (I.ok.hd hc) st hx λh' eb=>⟨rfl,I.turned (t':=s.toks) (λb o hb e=>eb b o hb e) f0 f1 f3 f4 f5⟩
 self:=λ_ _ _ _ _ st h=>by
  cases c:x.cps.all (·< 128)with
  |true=>
   have e:strIterType x="str_ascii_iterator":=by unfold strIterType;rw[c];rfl
   rw[e]at st
   exact wpAny_pyIter_striter_ascii st h
  |false=>
   have e:strIterType x="str_iterator":=by unfold strIterType;rw[c];rfl
   rw[e]at st
   exact wpAny_pyIter_striter_wide st h
section
variable {X:Cx}{tg:Expr}
def S3 (tl:TE):TI:=λσ H R=>tl σ H λx H1=>∃z,x=.str z/\R (Og z) H1
theorem KP {l:Expr}{tl:TE}(hl:PE X l tl):PI X tg l (S3 tl):=by
 intro pins s σ H R I h
 refine BH (hl pins s σ H _ I h) λv s1 ⟨x,H1,I1,r1,q1⟩=>?_
 obtain⟨z,rfl,q⟩:=q1
 obtain⟨t,rfl⟩:=r1
 refine wpAny_pyIter_strU ?_
 refine⟨s1.heap.objs.size,[s1.heap.objs.size],_,_,H1,rfl,I1.kept (t':=s1.toks) λb o e=>Heap.get?_push_of_some _ e,NJ z t _,⟨_,Heap.get?_push_size _ rfl,rfl,rfl⟩,λb hb=>?_,q⟩
 have e:b=s1.heap.objs.size:=by simpa using hb
 subst e
 exact I1.Hm (Nat.le_refl _) (I1.hok.fresh (Nat.le_refl _))
end
section
variable {NL:List Str}{ix:List Nat}{g:TG}{tt:TT}{te:TE}{σ:St}{H1:Hp}{Qs:Hp->Prop}{acc:Addr}
theorem JP {z:Str}(hn:z.cps.size < 10000)(Pv:Nat->List V->Hp->Prop)
 (hacc:∀i ys H2,Pv i ys H2->H2 acc=some (.lst ys)/\ys.length<=i)(h0:Pv 0 [] (upd H1 acc (.lst [])))(hstop:∀ys H2,Pv z.cps.size ys H2->Qs H2)
 (hturn:∀i c ys H2,z.cps[i]?=some c->Pv i ys H2->g (.str ⟨#[c]⟩) (BO NL ix σ) H2 λσ' H4=>σ'.drop NL.length=ix.map (λj=>σ.getD j none)/\tt σ' H4 λb H5=>
  if b=true then te σ' H5 λv H6=>H6 acc=some (.lst ys)/\Pv (i+1) (ys++[v]) (upd H6 acc (.lst (ys++[v])))else Pv (i+1) ys H5):
 ∃W:Nat->Nat->List V->Hp->Prop,(∃m,W 0 m [] (upd H1 acc (.lst [])))/\
 ∀i m ys H2,W i m ys H2->H2 acc=some (.lst ys)/\ys.length < sizeLine/\
  (((Og z).stop i H2/\Qs H2)\/((Og z).go i H2/\∃N:List V->Hp->Prop,(∀ys' H',N ys' H'->∃m',m' < m/\W (i+1) m' ys' H')/\
    ∀x H3,(Og z).yld i H2 x H3->g x (BO NL ix σ) H3 λσ' H4=>σ'.drop NL.length=ix.map (λj=>σ.getD j none)/\tt σ' H4 λb H5=>
     if b=true then te σ' H5 λv H6=>H6 acc=some (.lst ys)/\N (ys++[v]) (upd H6 acc (.lst (ys++[v])))else N ys H5)):=by
 refine JN z.cps.size hn Pv hacc h0 (λys H2 hp=>⟨Nat.le_refl _,hstop ys H2 hp⟩) λi ys H2 hi hp=>⟨hi,?_⟩
 rintro x H3 ⟨rfl,c,hc,rfl⟩
 exact hturn i c ys H3 hc hp
end
section
variable {X:Cx}
theorem KQ (K:PySem.W.Frag){o e:Expr}{to te:TE}{apos cpos:Pos}(ho:PE X o to)(he:PE X e te)(hK:X.K=K:=by rfl)(hbase:attributeBase o "startswith" X.env (eval o X.env)=eval o X.env:=by rfl)
 (h1:starEach [e] X.env=[(false,eval e X.env)]:=by rfl)(hl:(apos.endLine==cpos.line)=true:=by rfl):
 PE X (.Call (.Attribute o "startswith" apos) [e] [] cpos) (Q0 K "str" (λx vs H Q=>∃z p,x=.str z/\vs=[.str p]/\Q (.bl (Txt.startswith z p)) H) to (Fh te KA)):=by
 subst hK
 exact L4 ho he hbase h1 hl
end
end L2
namespace L2
open PySem PySem.Spec PyProof.Rows
theorem HN (n:Nat):Builtin.Range.rangeSize ((n:Int) - 1) (-1) (-1)=(n:Int):=by
 unfold Builtin.Range.rangeSize
 rw[if_neg (by decide)]
 split
 ·rw[show(-(-1:Int))=1 by decide,Int.ediv_one];omega
 ·omega
def Rg (lo:Int)(n:Nat):It:=⟨λi _=>i < n,λi H x H'=>H'=H/\x=.int (lo - i),λi _=>n<=i⟩
theorem MF {P:Program}{w:World}{K:PySem.W.Frag}{tg:Expr}(it:Addr)(lo:Int)(n:Nat):Turn P w K tg (Rg lo n) [it] it (λi h=>IsRangeIter h it (lo+(i:Nat)*(-1)) ((n:Int) - (i:Nat)) (-1)) where
 mem:=by simp
 obj:=λi h st b hb=>by
  have e:b=it:=by simpa using hb
  subst e
  exact⟨_,st,λv z=>by
   have z':Data.fields _=Data.cell v:=z
   cases z'⟩
 keep:=λi h h' st k=>k it (by simp) _ st
 item:=by
  intro X hP hw hK hc i pins s σ H E I hf st hg
  subst hP hw hK
  obtain⟨f0,f1,f2,f3,f4,f5⟩:=hf it (by simp)
  have W:=Walks.range (prog:=X.prog) (w:=X.w) (I.ok.hd hc) it lo (-1) n
  refine W.item i s _ _ hg st λv h' tk hv st' kk=>?_
  obtain⟨t,rfl⟩:=hv
  have I1:Inv X pins σ H { s with heap:=h',toks:=tk }:=I.turned (λb o hb e=>kk b o (by simpa using hb) e) f0 f1 f3 f4 f5
  refine⟨_,rfl,Gm (s:={ s with heap:=h',toks:=tk }) (n:="range_iterator") st' rfl rfl (by decide) ⟨.int (lo - i),H,I1,⟨t,?_⟩,⟨rfl,rfl⟩,st',λb hb=>(hf b hb).1⟩⟩
  congr 1
  omega
 done:=by
  intro X hP hw hK hc i pins s σ H E I hf st hg
  subst hP hw hK
  obtain⟨f0,f1,f2,f3,f4,f5⟩:=hf it (by simp)
  exact wpAny_pyNext_range_end (I.ok.hd hc) st (by have:n<=i:=hg;omega) λh' eb=>⟨rfl,I.turned (t':=s.toks) (λb o hb e=>eb b o hb e) f0 f1 f3 f4 f5⟩
 self:=λ_ _ _ _ _ st h=>wpAny_pyIter_rangeiter st h
section
variable {X:Cx}{tg:Expr}
def Rh (ta:TA):TI:=λσ H R=>ta σ H λvs H1=>∃n:Nat,vs=[.int ((n:Int) - 1),.int (-1),.int (-1)]/\n < 10000/\R (Rg ((n:Int) - 1) n) H1
theorem LA {a b c:Expr}{ta:TA}{p pos:Pos}(hg:Gl X "range")(hm:X.mg "range"=none)(ha:PA X [a,b,c] ta)(hs:starEach [a,b,c] X.env=[(false,eval a X.env),(false,eval b X.env),(false,eval c X.env)]:=by rfl)(hs2:starEach [b,c] X.env=[(false,eval b X.env),(false,eval c X.env)]:=by rfl):
 PI X tg (.Call (.Name "range" p) [a,b,c] [] pos) (Rh ta):=by
 intro pins s σ H R I h
 refine Call_ (C4 I hg hm boot_range (PyProof.Rows.callWith_type1 (BH (ha pos pins s σ H _ I h) λus s1 ⟨vs,H1,I1,r1,q1⟩=>?_) (by rw[hs,hs2]) (by rw[hs2];rfl)))
 obtain⟨n,e,hn,q⟩:=q1
 subst e
 cases r1 with
 |cons r rr=>
  cases rr with
  |cons r' rr=>
   cases rr with
   |cons r'' rr=>
   cases rr
   obtain⟨t,rfl⟩:=r
   obtain⟨t',rfl⟩:=r'
   obtain⟨t'',rfl⟩:=r''
   refine call_range_3 (by decide) ?_ (Or.inl (PyProof.noPylong_small (by omega)))
   have I2:Inv X pins σ H1 { s1 with heap:=s1.heap.push { cls:=.type "range",data:=.fields #[.int ((n:Int) - 1) t,.int (-1) t',.int (-1) t''] } }:=I1.kept (t':=s1.toks) λb o e=>Heap.get?_push_of_some _ e
   refine wpAny_pyIter_range (IsRange.new ..) ?_ ?_
   ·unfold Builtin.Range.small
    rw[HN]
    simp only[Builtin.Range.rangeFitsLong,Bool.and_eq_true,Bool.or_eq_true,decide_eq_true_eq,beq_iff_eq]
    rw[if_neg (by decide)]
    refine⟨⟨⟨⟨?_,?_⟩,?_⟩,?_⟩,.inr ?_⟩<;>(try simp only[Bool.and_eq_true,decide_eq_true_eq])<;>omega
   ·refine⟨(s1.heap.push { cls:=.type "range",data:=.fields #[.int ((n:Int) - 1) t,.int (-1) t',.int (-1) t''] }).objs.size,[(s1.heap.push { cls:=.type "range",data:=.fields #[.int ((n:Int) - 1) t,.int (-1) t',.int (-1) t''] }).objs.size],_,_,H1,rfl,
     I2.kept (t':=s1.toks) λb o e=>Heap.get?_push_of_some _ e,MF _ ((n:Int) - 1) n,?_,λb hb=>?_,q⟩
    ·have e2:=HN n
     show IsRangeIter _ _ ((n:Int) - 1+((0:Nat):Int)*(-1)) ((n:Int) - ((0:Nat):Int)) (-1)
     rw[show(n:Int) - 1+((0:Nat):Int)*(-1)=(n:Int) - 1 by omega,show(n:Int) - ((0:Nat):Int)=(n:Int) by omega]
     have:=Heap.get?_push_size (s1.heap.push { cls:=.type "range",data:=.fields #[.int ((n:Int) - 1) t,.int (-1) t',.int (-1) t''] }) (o:={ cls:=.type "range_iterator",data:=.fields #[rawInt ((n:Int) - 1),rawInt (Builtin.Range.rangeSize ((n:Int) - 1) (-1) (-1)),rawInt (-1)] }) rfl
     exact Eq.mp (congrArg (λz=>IsRangeIter _ _ ((n:Int) - 1) z (-1)) e2) this
    ·have e:b=(s1.heap.push { cls:=.type "range",data:=.fields #[.int ((n:Int) - 1) t,.int (-1) t',.int (-1) t''] }).objs.size:=by simpa using hb
     subst e
     exact I2.Hm (Nat.le_refl _) (I2.hok.fresh (Nat.le_refl _))
theorem JQ {lo:Int}{n:Nat}{g:TG}{tb:TS}{D:Ends}{σ:St}{H:Hp}(Pv:Nat->St->Hp->Prop)(h0:Pv 0 σ H)
 (hs:∀(i:Nat) σ H,i < n->Pv i σ H->g (.int (lo - i)) σ H λσ2 H2=>tb { D with nx:=Pv (i+1),ct:=Pv (i+1),bk:=D.nx } σ2 H2)(hd:∀σ H,Pv n σ H->D.nx σ H):
 ∃W:Nat->Nat->St->Hp->Prop,(∃m,W 0 m σ H)/\∀i m σ H,W i m σ H->
  ((Rg lo n).stop i H/\D.nx σ H)\/((Rg lo n).go i H/\∃N:St->Hp->Prop,(∀σ' H',N σ' H'->∃m',m' < m/\W (i+1) m' σ' H')/\∀x H',(Rg lo n).yld i H x H'->g x σ H' λσ2 H2=>tb { D with nx:=N,ct:=N,bk:=D.nx } σ2 H2):=by
 refine⟨λi m σ H=>m=n - i/\i<=n/\Pv i σ H,⟨n,by simp,Nat.zero_le _,h0⟩,?_⟩
 rintro i m σ H ⟨rfl,hi,p⟩
 by_cases hlt:i < n
 ·refine .inr ⟨hlt,Pv (i+1),λσ' H' p'=>⟨n - (i+1),by omega,rfl,hlt,p'⟩,λx H' y=>?_⟩
  obtain⟨e,y⟩:=y
  subst e y
  exact hs i σ _ hlt p
 ·have e:i=n:=by omega
  subst e
  exact .inl ⟨Nat.le_refl _,hd σ H p⟩
end
end L2
namespace L2
open PySem PySem.Spec PyProof.Rows
section
variable {X:Cx}
theorem KR:D8 X (compareOp .Is) (λx y H Q=>∃c d,x=.bl c/\y=.bl d/\Q (.bl (c==d)) H):=by
 intro pins s σ H x y v u Q I rx ry h
 obtain⟨c,d,rfl,rfl,q⟩:=h
 cases rx
 cases ry
 exact is_bool (As I q rfl)
end
end L2
namespace L2
open PySem PySem.Spec PyProof.Rows
theorem A0.obj {P:Program}{w:World}{H:Hp}{h:Heap}{a:Addr}{o:HO}(x:A0 P w H h a o):∃u,h.get? a=some u:=by
 cases o with
 |lst xs=>obtain⟨_,_,_,_,e⟩:=x;exact⟨_,e⟩
 |tup xs=>obtain⟨⟨_,o,e,_⟩,_⟩:=x;exact⟨_,e⟩
 |dK kvs=>obtain⟨_,_,_,_,o,_,_,e,_⟩:=x;exact⟨_,e⟩
 |dT kvs=>obtain⟨_,_,_,_,o,_,_,e,_⟩:=x;exact⟨_,e⟩
 |set S n=>obtain⟨o,_,_,_,e,_⟩:=x;exact⟨_,e⟩
 |ins C dx fs=>obtain⟨_,_,_,e,_⟩:=x;exact⟨_,e⟩
 |own y=>exact x
 |xd fs=>obtain⟨_,⟨_,_,_,e,_⟩,_⟩:=x;exact⟨_,e⟩
 |rng lo hi=>obtain⟨_,_,_,e⟩:=x;exact⟨_,e⟩
 |frz ob u=>exact⟨_,x.1⟩
 |tbl ps=>exact⟨_,x⟩
 |met f y=>exact⟨_,x⟩
 |ext φ=>exact x.2.1
def Ri (l:List Env)(H₀:Hp)(h₀:Heap)(H':Hp)(a C:Addr)(h:Heap):Prop:=
 ∃B a0,Heap.FlyingW B l a (.ref C) a0 h/\(∀b o,h₀.get? b=some o->b∉EH l->∃o',B.get? b=some o'/\(H₀ b=none->o'=o))/\∀b u,H' b=some u->∃o,B.get? b=some o
def Jz (P:Program)(w:World):GX:=λouter H s E e s'=>∃a C H',e=.ref a/\s'.os=s.os/\AllBare s'.gens/\Un (EH outer) [] H H' s.heap s'.heap/\DJ P w H' s'.heap/\Ri outer H s.heap H' a C s'.heap/\H' a=none/\E e (some C) H'
theorem NK {P:Program}{w:World}{H:Hp}{h h' B:Heap}(x:DJ P w H h)(hB:∀b o,B.get? b=some o->h.get? b=some o)(hB':B.StaysIn h')(t:∀b u,H b=some u->∃o,B.get? b=some o):DJ P w H h':=λa o e=>
 (x a o e).D7 (λb u hb q=>by
  have:∃o,B.get? b=some o:=by
   rcases hb with rfl|hb
   ·exact t _ _ e
   ·exact t _ _ hb
  obtain⟨o',e'⟩:=this
  have z:=hB _ _ e'
  rw[q]at z;cases z
  exact hB' _ _ e') (λ_ q=>q) λ_ _ q=>q
theorem LB {X:Cx}{pins:List (Addr×Obj)}{σ:St}{H1 H2:Hp}{s1:Shared}{B h2:Heap}(I:Inv X pins σ H1 s1)(hex:X.ex=[])
 (inB:∀b o,s1.heap.get? b=some o->b∉EH X.stack->∃o',B.get? b=some o'/\(H1 b=none->o'=o))(st:B.StaysIn h2)
 (fr:∀b o,s1.heap.get? b=some o->b∈EH X.stack->∃sl,h2.get? b=some { o with slots:=sl })(free:∀b o,s1.heap.get? b=some o->H1 b=none->H2 b=none)
 (tups:∀b xs,H1 b=some (.tup xs)->H2 b=some (.tup xs))(frzs:∀b o u,H1 b=some (.frz o u)->H2 b=some (.frz o u))(tbls:∀b ps,H1 b=some (.tbl ps)->∃more,H2 b=some (.tbl (ps++more))):
 Un X.fs [] X.H₀ H2 X.s₀.heap h2/\∀b o,X.s₀.heap.get? b=some o->b∉X.fs->∃o',B.get? b=some o'/\(X.H₀ b=none->o'=o):=by
 have nx:∀b:Addr,b∉X.ex:=λb=>by rw[hex];simp
 have ns:∀b o,X.s₀.heap.get? b=some o->b∉X.fs->b∉EH X.stack:=λb o e n z=>by
  rcases List.mem_cons.mp (I.FX b z)with q|q
  ·rw[q]at e
   exact absurd (Nat.lt_of_lt_of_le (Heap.lt_size e) I.ok.above) (Nat.lt_irrefl _)
  ·exact n q
 have toB:∀b o,X.s₀.heap.get? b=some o->b∉X.fs->∃o',B.get? b=some o'/\(X.H₀ b=none->o'=o):=λb o e n=>by
  obtain⟨o1,e1⟩:=I.base.there b o e (nx b)
  obtain⟨o2,e2,k2⟩:=inB b o1 e1 (ns b o e n)
  refine⟨o2,e2,λh0=>?_⟩
  have z:=I.base.keep b o e h0 n (nx b)
  rw[e1]at z;cases z
  exact k2 (I.base.free b o e h0 (nx b))
 have inSt:∀b∈X.fs,∀o1,s1.heap.get? b=some o1->∃sl,h2.get? b=some { o1 with slots:=sl }:=λb hb o1 e1=>by
  by_cases hs:b∈EH X.stack
  ·exact fr b o1 e1 hs
  ·obtain⟨o2,e2,k2⟩:=inB b o1 e1 hs
   have h1:H1 b=none:=by
    obtain⟨_,o,ho,_⟩:=I.ok.DK.mem hb
    exact I.base.free b o ho (I.ok.frf b hb) (nx b)
   rw[k2 h1]at e2
   exact⟨o1.slots,st _ _ e2⟩
 refine⟨⟨λb o e n hb _=>?_,λb o e n hb _=>?_,λb o e n _=>?_,λb o e _=>?_,λb xs e=>tups _ _ (I.base.tups _ _ e),λb o u e=>frzs _ _ _ (I.base.frzs _ _ _ e),λb ps e=>?_⟩,toB⟩
 ·obtain⟨o',e',k⟩:=toB b o e hb
  rw[k n]at e'
  exact st _ _ e'
 ·obtain⟨sl,e1⟩:=I.base.slot b o e n hb (nx b)
  obtain⟨sl2,e2⟩:=inSt b hb _ e1
  exact⟨sl2,e2⟩
 ·obtain⟨o1,e1⟩:=I.base.there b o e (nx b)
  exact free b o1 e1 (I.base.free b o e n (nx b))
 ·obtain⟨o1,e1⟩:=I.base.there b o e (nx b)
  by_cases hb:b∈X.fs
  ·obtain⟨sl,q⟩:=inSt b hb o1 e1
   exact⟨_,q⟩
  ·obtain⟨o',e',_⟩:=toB b o e hb
   exact⟨o',st _ _ e'⟩
 ·obtain⟨m1,e1⟩:=I.base.tbls b ps e
  obtain⟨m2,e2⟩:=tbls b _ e1
  exact⟨m1++m2,by rw[e2,Array.append_assoc]⟩
def Raises (X:Cx)(E:XK):Prop:=∀(pins:List (Addr×Obj)) (σ:St) (H1:Hp) (s1:Shared) (h':Heap) (a C:Addr) (vs:List Value),Inv X pins σ H1 s1->Heap.MadeExcOf s1.heap h' a (.ref C) vs->E (.ref a) (some C) H1->X.xe (.ref a) { s1 with heap:=h' }
section
variable {P:Program}{w:World}{K:PySem.W.Frag}{mg:Str->Option Value}{base:Heap}{N:List Str}{qual:Str}{scope:Scope}{f:Addr}{cd:Value}{A:Around}{outer:List Env}{s:Shared}{H:Hp}{E:XK}
theorem Dr:Raises (Dw (Jz P w) P w K mg base N qual scope f cd A outer s H E) E:=by
 intro pins σ H1 s1 h' a C vs I mk hE
 have stk:=I.stack
 have nTr:∀b u,H1 b=some u->b∉EH (Dw (Jz P w) P w K mg base N qual scope f cd A outer s H E).stack:=λb u e z=>by
  rw[I.Hl b z]at e;cases e
 have inB:∀b o,s1.heap.get? b=some o->b∉EH (Dw (Jz P w) P w K mg base N qual scope f cd A outer s H E).stack->(PySem.W.hideAll s1.heap (EH (Dw (Jz P w) P w K mg base N qual scope f cd A outer s H E).stack)).get? b=some o:=λb o e n=>PySem.W.hideAll_get _ e n
 show wpAny _ _ (leaving _ _) _ _ _
 refine wpAny_leaves_madeW (base:=PySem.W.hideAll s1.heap (EH (Dw (Jz P w) P w K mg base N qual scope f cd A outer s H E).stack)) (h:=s1.heap) I.ok.frames rfl (λb o q=>PySem.W.of_hideAll _ q)
  (PySem.W.funFrames_hide stk λenv he b hb=>List.mem_filterMap.mpr ⟨env,he,hb⟩) mk λh2 t fl _ _ sm=>?_
 generalize PySem.W.hideAll s1.heap (EH (Dw (Jz P w) P w K mg base N qual scope f cd A outer s H E).stack)=B at inB fl
 have BS:∀b o,B.get? b=some o->s1.heap.get? b=some o\/True:=λ_ _ _=>.inr trivial
 obtain⟨u,k1⟩:=LB (H2:=H1) (B:=B) (h2:=h2) I rfl (λb o e n=>⟨o,inB b o e n,λ_=>rfl⟩) fl.1
  (λb o e hb=>by
   obtain⟨_,o',e',nf⟩:=stk.mem hb
   rw[e]at e';cases e'
   exact sm b o (mk.keeps _ _ e) nf)
  (λ_ _ _ z=>z) (λ_ _ z=>z) (λ_ _ _ z=>z) (λb ps z=>⟨#[],by rw[z];simp⟩)
 have tr:∀b u,H1 b=some u->∃o,B.get? b=some o:=λb u e=>by
  obtain⟨o,eo⟩:=(I.hok b u e).obj
  exact⟨o,inB b o eo (nTr b u e)⟩
 refine⟨a,C,H1,rfl,I.os,I.bare,u,λb o e=>?_,⟨B,_,fl,k1,tr⟩,?_,hE⟩
 ·refine(I.hok b o e).D7 (λc v hc q=>?_) (λ_ q=>q) λ_ _ q=>q
  have nc:c∉EH (Dw (Jz P w) P w K mg base N qual scope f cd A outer s H E).stack:=by
   rcases hc with rfl|hc
   ·exact nTr _ _ e
   ·exact nTr _ _ hc
  exact fl.1 _ _ (inB c v q nc)
 ·cases q:H1 a with
  |none=>rfl
  |some u=>
   obtain⟨o,eo⟩:=(I.hok a u q).obj
   rw[mk.new]at eo;cases eo
theorem Ba:Passes (Jz P w) (Dw (Jz P w) P w K mg base N qual scope f cd A outer s H E) E:=by
 intro pins σ H1 s1 e s2 I h
 obtain⟨a,C,H2,rfl,os,bare,un,hok,⟨B,a0,fl,k0,tr⟩,ha,hE⟩:=h
 show wpAny _ _ (leaving _ _) _ _ _
 refine wpAny_leaves_onW (base:=B) I.ok.frames rfl fl λh3 fl3 sm=>?_
 obtain⟨u,k1⟩:=LB (H2:=H2) (B:=B) (h2:=h3) I rfl k0 fl3.1
  (λb o e hb=>by
   obtain⟨sl,e2⟩:=un.slot b o e (I.Hl b hb) hb (by simp)
   obtain⟨_,o',e',nf⟩:=I.stack.mem hb
   rw[e]at e';cases e'
   obtain⟨sl3,e3⟩:=sm b _ e2 nf
   exact⟨sl3,e3⟩)
  (λb o e n=>un.free b o e n (by simp)) un.tups un.frzs un.tbls
 exact⟨a,C,H2,rfl,os.trans I.os,bare,u,NK hok fl.1 fl3.1 tr,⟨B,a0,fl3,k1,tr⟩,ha,hE⟩
end
end L2
namespace L2
open PySem PySem.Spec PyProof.Rows
def A7 (a C:Addr):HO:=.ext λh=>∃o vs,h.get? a=some o/\o.cls=.ref C/\o.data=.fields vs
def Up (X:Cx)(pins:List (Addr×Obj))(σ:St)(a C:Addr)(H2:Hp)(s:Shared):Prop:=
 ∃H1 s1,Inv X pins σ H1 s1/\s.os=s1.os/\AllBare s.gens/\Un (EH X.stack) [] H1 H2 s1.heap s.heap/\DJ X.prog X.w H2 s.heap/\Ri X.stack H1 s1.heap H2 a C s.heap/\H2 a=none
section
variable {X:Cx}{pins:List (Addr×Obj)}{σ:St}{a C:Addr}{H1 H2:Hp}{s s1:Shared}{B h h':Heap}{a0:Value}
theorem Oh (H:Hp)(e:∃o vs,h.get? a=some o/\o.cls=.ref C/\o.data=.fields vs):A0 X.prog X.w H h a (A7 a C):=by
 refine⟨e,?_,λh1 h2 ⟨o,vs,x1,x2,x3⟩ k=>⟨o,vs,k _ x1,x2,x3⟩⟩
 obtain⟨o,_,e,_⟩:=e
 exact⟨o,e⟩
theorem Up.inv (U:Up X pins σ a C H2 s):Inv X pins σ (upd H2 a (A7 a C)) s:=by
 obtain⟨H1,s1,I,os,bare,un,hok,⟨B,a0,fl,k0,tr⟩,ha⟩:=U
 obtain⟨oe,vs,e1,e2,e3,_⟩:=fl.first
 have na:∀b o,s1.heap.get? b=some o->b≠a:=λb o e z=>by
  subst z
  by_cases hb:b∈EH X.stack
  ·obtain⟨_,o',e',nf⟩:=fl.2.2.1.mem hb
   rw[e1]at e';cases e'
   exact nf vs e3
  ·obtain⟨o',e',_⟩:=k0 b o e hb
   rw[fl.2.1]at e';cases e'
 have up:∀b u,H2 b=some u->upd H2 a (A7 a C) b=some u:=λb u e=>by rw[AX (AV e ha)];exact e
 refine I.PY (ch:=[]) os ⟨un.keep,un.slot,λb o e n hx=>?_,un.there,λb xs e=>up _ _ (un.tups b xs e),λb o u e=>up _ _ (un.frzs b o u e),λb ps e=>?_⟩ (λb o e=>?_) bare (λ_ z=>nomatch z)
 ·rw[AX (na b o e)];exact un.free b o e n hx
 ·obtain⟨more,e2⟩:=un.tbls b ps e
  exact⟨more,up _ _ e2⟩
 ·by_cases hb:b=a
  ·subst hb
   rw[AD]at e;cases e
   exact Oh _ ⟨oe,vs,e1,e2,e3⟩
  ·rw[AX hb]at e
   exact(hok b o e).D7 (λ_ _ _ q=>q) (λc q=>up _ _ q) λc xs q=>up _ _ q
theorem Pn (I:Inv X pins σ H1 s1)(os:s.os=s1.os)(bare:AllBare s.gens)(un:Un (EH X.stack) [] H1 H2 s1.heap s.heap)(hok:DJ X.prog X.w H2 s.heap)(hB:B.StaysIn s.heap)(ffs:s.heap.FunFrames B X.stack)
 (k0:∀b o,s1.heap.get? b=some o->b∉EH X.stack->∃o',B.get? b=some o'/\(H1 b=none->o'=o))(tr:∀b u,H2 b=some u->∃o,B.get? b=some o)(ha:H2 a=none)
 (fl':Heap.FlyingW B X.stack a (.ref C) a0 h')(sm:s.heap.UpToSlots h'):Up X pins σ a C H2 { s with heap:=h' }:=by
 refine⟨H1,s1,I,os,bare,⟨λb o e n hb _=>?_,λb o e n hb _=>?_,un.free,λb o e _=>?_,un.tups,un.frzs,un.tbls⟩,NK hok hB fl'.1 tr,⟨B,a0,fl',k0,tr⟩,ha⟩
 ·obtain⟨o',e',k⟩:=k0 b o e hb
  rw[k n]at e'
  exact fl'.1 _ _ e'
 ·obtain⟨sl,e2⟩:=un.slot b o e n hb (by simp)
  obtain⟨_,o',e',nf⟩:=ffs.mem hb
  rw[e2]at e';cases e'
  obtain⟨sl3,e3⟩:=sm b _ e2 nf
  exact⟨sl3,e3⟩
 ·by_cases hb:b∈EH X.stack
  ·obtain⟨_,o',e',_⟩:=fl'.2.2.1.mem hb
   exact⟨o',e'⟩
  ·obtain⟨o',e',_⟩:=k0 b o e hb
   exact⟨o',fl'.1 _ _ e'⟩
theorem JR {M:Model}{A:Around}{E:Value->Shared->Prop}{Q:Unit->Shared->Prop}(U:Up X pins σ a C H2 s)(h:∀h',Up X pins σ a C H2 { s with heap:=h' }->Q () { s with heap:=h' }):
 wpAny M A (setFlight (.ref a) none) Q E s:=by
 obtain⟨H1,s1,I,os,bare,un,hok,⟨B,a0,fl,k0,tr⟩,ha⟩:=U
 exact lands_againW fl λh' fl' sm=>h h' (Pn I os bare un hok fl.1 fl.2.2.1 k0 tr ha fl' sm)
theorem NM {M:Model}{A:Around}{E:Value->Shared->Prop}{Q:Unit->Shared->Prop}(hA:A.frames=some X.stack)(hst:X.stack=X.env::X.outer)(hf:X.env.frame=some X.env.locals)(U:Up X pins σ a C H2 s)
 (h:∀h',Up X pins σ a C H2 { s with heap:=h' }->Q () { s with heap:=h' }):
 wpAny M A (noteFrame (.ref a) X.env) (λ_ s2=>wpAny M A (setFlight (.ref a) none) Q E s2) E s:=by
 obtain⟨H1,s1,I,os,bare,un,hok,⟨B,a0,fl,k0,tr⟩,ha⟩:=U
 have fl0:=fl
 rw[hst]at fl0 hA
 refine wpAny_looks_onW hA hf fl0 λh1 hh sm=>?_
 refine wpAny_landsW hh λh2 fl2 sm2=>?_
 rw[<-hst]at fl2
 exact h h2 (Pn I os bare un hok fl.1 fl.2.2.1 k0 tr ha fl2 (sm.trans sm2))
abbrev Cx.BP (X:Cx)(a:Addr):Cx:={ X with A:=X.A.mark (some (.ref a)),calm:=false,xe:=λ_ _=>False }
theorem Inv.BP {H:Hp}(I:Inv X pins σ H s)(a:Addr):Inv (X.BP a) pins σ H s:=
 ⟨⟨I.ok.mod,I.ok.kind,I.ok.glob,I.ok.blt,I.ok.above,I.ok.inj,I.ok.has,I.ok.cab,(λz=>nomatch z),I.ok.frames,I.ok.stk,I.ok.exf,I.ok.bs,I.ok.bsz,I.ok.noex,I.ok.exfs,I.ok.DK,I.ok.frf⟩,I.os,I.bare,I.base,I.loc,I.cell,I.free,I.freeC,I.pin,I.hok,I.len⟩
theorem Inv.uncaught {H:Hp}(ok:X.Ok)(I:Inv (X.BP a) pins σ H s):Inv X pins σ H s:=⟨ok,I.os,I.bare,I.base,I.loc,I.cell,I.free,I.freeC,I.pin,I.hok,I.len⟩
theorem Inv.KS {M:Model}{A:Around}{E:Value->Shared->Prop}{H:Hp}{i:Nat}{n:Str}{pos:Pos}{Q:Unit->Shared->Prop}(I:Inv X pins σ H s)(hN:X.N.Nodup)(hi:X.N[i]?=some n)(hl:X.env.kindOf n=some .local)
 (h:∀s',Inv X pins (σ.set i none) H s'->Q () s'):wpAny M A (do bindName X.env n .none;unbindBehindTheSuite X.env n pos) Q E s:=by
 obtain⟨m,hn,hl'⟩:=id I.loc
 have hcls:(X.env.scope.kind==.class||(X.env.scope.kind==.module&&X.env.locals !=X.env.globals))=false:=by rw[I.ok.kind];rfl
 have hiσ:i < σ.length:=by rw[I.len];exact(List.getElem?_eq_some_iff.mp hi).1
 refine wpAny_nameGoes_keeps hl hn hcls λh' v hn' hs=>?_
 obtain⟨oL,_,_,hoL,_⟩:=id hn
 refine h _ ⟨I.ok,I.os,I.bare,⟨λb o e n hb hx=>?_,λb o e n hb hx=>?_,I.base.free,λb o e hx=>?_,I.base.tups,I.base.frzs,I.base.tbls⟩,⟨_,hn',λj y v' e1 e2 e3=>?_⟩,λy c e=>?_,I.free,I.freeC,λp hp=>?_,λb ob e=>?_,by simpa using I.len⟩
 ·exact(hs.2 b (Nat.ne_of_lt (Nat.lt_of_lt_of_le (Heap.lt_size e) I.ok.above))).trans (I.base.keep b o e n hb hx)
 ·obtain⟨sl,e1⟩:=I.base.slot b o e n hb hx
  exact⟨sl,(hs.2 b (Nat.ne_of_lt (Nat.lt_of_lt_of_le (Heap.lt_size e) I.ok.above))).trans e1⟩
 ·obtain⟨o',e1⟩:=I.base.there b o e hx
  exact⟨o',(hs.2 b (Nat.ne_of_lt (Nat.lt_of_lt_of_le (Heap.lt_size e) I.ok.above))).trans e1⟩
 ·by_cases hj:j=i
  ·subst hj
   rw[List.getElem?_set_self hiσ]at e2
   cases e2
  ·rw[List.getElem?_set_ne (Ne.symm hj)]at e2
   obtain⟨u',r',q⟩:=hl' j y v' e1 e2 e3
   refine⟨u',r',?_⟩
   rcases q with⟨k,e⟩|⟨k,c,e,z⟩
   ·refine .inl ⟨k,?_⟩
    have:y≠n:=λe=>hj (FY hN e1 (e▸hi))
    simp[this,e]
   ·exact .inr ⟨k,c,e,z.sameBut hs (I.ON y c e)⟩
 ·obtain⟨w',z⟩:=I.cell y c e
  exact⟨w',z.sameBut hs (I.ON y c e)⟩
 ·obtain⟨e,n,ne,nf,d⟩:=I.pin p hp
  exact⟨(hs.2 p.1 ne).trans e,n,ne,nf,d⟩
 ·refine(I.hok b ob e).D7 (λc w' hc q=>(hs.2 c ?_).trans q) (λ_ q=>q) λ_ _ q=>q
  rintro rfl
  rcases hc with rfl|hc
  ·rw[I.free]at e;cases e
  ·rw[I.free]at hc;cases hc
end
def PH (X:Cx)(hs:List ExceptHandler)(th:Addr->Addr->TS):Prop:=
 ∀(pins:List (Addr×Obj)) (s:Shared) (σ:St) (H2:Hp) (D:Ends) (a C:Addr),Up X pins σ a C H2 s->th a C D σ (upd H2 a (A7 a C))->wpAny (model X.prog X.w) X.A (handleBy (.ref a) X.env hs) (SP X pins D) X.xe s
def Ends.KS (D:Ends)(i:Nat):Ends:=⟨λσ H=>D.nx (σ.set i none) H,D.rt,λσ H=>D.bk (σ.set i none) H,λσ H=>D.ct (σ.set i none) H⟩
section
variable {X:Cx}{x n:Str}{i:Nat}{np pos:Pos}{b₀:Stmt}{suite:List Stmt}{rest:List ExceptHandler}{Cl:Addr}{th:Addr->TS}{tr:Addr->Addr->TS}
theorem NN {M:Model}{H:Hp}{h:Heap}{a C:Addr}(e:A0 X.prog X.w H h a (A7 a C)):PySem.W.Looks M h (typeOf (.ref a)) (.ref C):=by
 obtain⟨⟨o,vs,e1,e2,_⟩,_⟩:=e
 rw[<-e2]
 exact(PySem.W.Looks.ld e1).andThen .now
theorem ET (hg:Gl X x)(hm:X.mg x=some (.ref Cl))(hN:X.N.Nodup)(hi:X.N[i]?=some n)(hl:X.env.scope.names.lookup n=some .local)(hb:∀a,Fb (X.BP a) (b₀::suite) (th a))(hd:(x==("__debug__":Str))=false:=by decide):
 PH X (.ExceptHandler (some (.Name x np)) (some n) (b₀::suite) pos::rest) (λa C D σ H=>PySem.W.exmOne X.K (.ref C) (.ref Cl)=some true/\th a (D.KS i) (σ.set i (some (.ref a))) H):=by
 intro pins s σ H2 D a C U h
 obtain⟨hx,h⟩:=h
 have I:=U.inv
 refine wpAny_handleBy_cons (codeAny_handlers_test (C3 (I.BP a) hg hm ?_ hd)) (by intro q;cases q)
 refine(PySem.W.exm_one I.FA (NN (I.hok a _ AD)) hx).here ?_
 refine codeAny_handlers_suite_as ?_
 refine JR U λh' U'=>?_
 have I':=U'.inv
 refine FZ I' hN hi (.inl hl) (v:=.ref a) rfl (λs2 I2=>?_) (.inr hl)
 refine wpAny_mono (hb a pins s2 _ _ (D.KS i) (I2.BP a) h) (λf s3 q=>?_) λ_ _ z=>False.elim z
 cases f with
 |next=>obtain⟨σ',H',J,q⟩:=q;exact(J.uncaught I.ok).KS hN hi hl λs4 J4=>⟨_,H',J4,q⟩
 |brk=>obtain⟨σ',H',J,q⟩:=q;exact(J.uncaught I.ok).KS hN hi hl λs4 J4=>⟨_,H',J4,q⟩
 |cont=>obtain⟨σ',H',J,q⟩:=q;exact(J.uncaught I.ok).KS hN hi hl λs4 J4=>⟨_,H',J4,q⟩
 |ret u=>obtain⟨v,σ',H',J,r,q⟩:=q;exact(J.uncaught I.ok).KS hN hi hl λs4 J4=>⟨v,_,H',J4,r,q⟩
theorem Rj (hg:Gl X x)(hm:X.mg x=some (.ref Cl))(hb:∀a,Fb (X.BP a) (b₀::suite) (th a))(hd:(x==("__debug__":Str))=false:=by decide):
 PH X (.ExceptHandler (some (.Name x np)) none (b₀::suite) pos::rest) (λa C D σ H=>PySem.W.exmOne X.K (.ref C) (.ref Cl)=some true/\th a D σ H):=by
 intro pins s σ H2 D a C U h
 obtain⟨hx,h⟩:=h
 have I:=U.inv
 refine wpAny_handleBy_cons (codeAny_handlers_test (C3 (I.BP a) hg hm ?_ hd)) (by intro q;cases q)
 refine(PySem.W.exm_one I.FA (NN (I.hok a _ AD)) hx).here ?_
 refine codeAny_handlers_suite ?_
 refine JR U λh' U'=>?_
 have I':=U'.inv
 refine wpAny_mono (hb a pins _ _ _ D (I'.BP a) h) (λf s3 q=>?_) λ_ _ z=>False.elim z
 cases f with
 |next=>obtain⟨σ',H',J,q⟩:=q;exact⟨_,H',J.uncaught I.ok,q⟩
 |brk=>obtain⟨σ',H',J,q⟩:=q;exact⟨_,H',J.uncaught I.ok,q⟩
 |cont=>obtain⟨σ',H',J,q⟩:=q;exact⟨_,H',J.uncaught I.ok,q⟩
 |ret u=>obtain⟨v,σ',H',J,r,q⟩:=q;exact⟨v,_,H',J.uncaught I.ok,r,q⟩
end
def F0 (CX:GX)(X:Cx)(E:XK)(σ:St):Prop:=∀(pins:List (Addr×Obj)) (H:Hp) (s:Shared) (e:Value) (s':Shared),Inv X pins σ H s->CX X.stack H s E e s'->X.xe e s'
abbrev Cx.tries (X:Cx)(pn:List (Addr×Obj))(xe:Value->Shared->Prop):Cx:={ X with pn:=pn,xe:=xe }
def Rk (th:Addr->Addr->TS)(D:Ends)(σ:St):XK:=λv c H'=>∃a C,v=.ref a/\c=some C/\th a C D σ (upd H' a (A7 a C))
def S4 (tb:XK->St->TS)(th:Addr->Addr->TS):TS:=λD σ H=>tb (Rk th D σ) σ D σ H
theorem Cq {X:Cx}{body:List Stmt}{h₀:ExceptHandler}{hs:List ExceptHandler}{pos:Pos}{tb:XK->St->TS}{th:Addr->Addr->TS}
 (hb:∀pn xe E σ0,F0 (Jz X.prog X.w) (X.tries pn xe) E σ0->Fb (X.tries pn xe) body (tb E σ0))(hh:PH X (h₀::hs) th)
 (hst:X.stack=X.env::X.outer:=by rfl)(hf:X.env.frame=some X.env.locals:=by rfl):PS X (.Try body (h₀::hs) [] [] pos) (S4 tb th):=by
 intro pins s σ H D I h
 have toX:∀{xe:Value->Shared->Prop} {pins':List (Addr×Obj)} {σ':St} {H':Hp} {s':Shared},Inv (X.tries (X.pn++pins) xe) pins' σ' H' s'->Inv X pins σ' H' s':=λ{xe pins' σ' H' s'} J=>
  ⟨I.ok,J.os,J.bare,J.base,J.loc,J.cell,J.free,J.freeC,λp hp=>J.pin p (List.mem_append_left _ hp),J.hok,J.len⟩
 refine wpAny_Try_except ?_
 have J:∀xe,Inv (X.tries (X.pn++pins) xe) [] σ H s:=λxe=>
  ⟨⟨I.ok.mod,I.ok.kind,I.ok.glob,I.ok.blt,I.ok.above,I.ok.inj,I.ok.has,I.ok.cab,I.ok.hd,I.ok.frames,I.ok.stk,I.ok.exf,I.ok.bs,I.ok.bsz,I.ok.noex,I.ok.exfs,I.ok.DK,I.ok.frf⟩,I.os,I.bare,I.base,I.loc,I.cell,I.free,I.freeC,λp hp=>by
    rw[List.append_nil]at hp
    exact I.pin p hp,I.hok,I.len⟩
 refine wpAny_mono (hb (X.pn++pins) (λe s'=>∃a C H2,e=.ref a/\Up X pins σ a C H2 s'/\th a C D σ (upd H2 a (A7 a C))) (Rk th D σ) σ ?_ [] s σ H D (J _) h) (λf s1 q=>?_) λe s1 q=>?_
 ·rintro pins' H1 s1 e s2 I1 ⟨a,C,H2,rfl,os,bare,un,hok,fly,ha,a',C',e1,e2,hE⟩
  cases e1;cases e2
  exact⟨a,C,H2,rfl,⟨H1,s1,toX I1,os,bare,un,hok,fly,ha⟩,hE⟩
 ·cases f with
  |next=>obtain⟨σ',H',J,q⟩:=q;exact wpAny_execs_nil ⟨σ',H',toX J,q⟩
  |brk=>obtain⟨σ',H',J,q⟩:=q;exact⟨σ',H',toX J,q⟩
  |cont=>obtain⟨σ',H',J,q⟩:=q;exact⟨σ',H',toX J,q⟩
  |ret u=>obtain⟨v,σ',H',J,r,q⟩:=q;exact⟨v,σ',H',toX J,r,q⟩
 ·obtain⟨a,C,H2,rfl,U,hE⟩:=q
  exact NM I.ok.frames hst hf U λh' U'=>hh pins _ σ H2 D a C U' hE
end L2
namespace L2
open PySem PySem.Spec PyProof.Rows PySem.W PySem.Calls PySem.Builtin PySem.Builtin.ObjectAttr PySem.Builtin.Getset_descriptor
structure Ml (K:Frag)(C:Addr):Prop where
 ga:findIn K (.ref C) "__getattribute__"=some (some (.builtin "BaseException.__getattribute__"))
 gn:findIn K (.ref C) "__getattr__"=some none
 cl:findIn K (.ref C) "__class__"=some (some (.builtin "object.__class__"))
 gt:specialIn K (.builtin "object.__class__") "__get__"=some (some (.builtin "getset_descriptor.__get__"))
 tk:takesIn K (.builtin "object.__class__")=some true
 ob:mroIn K C (.type "object")=some true
 be:mroIn K C (.type "BaseException")=some true
 cd:(clsIn K C).isSome=true
section
variable {prog:Program}{w:World}{A:Around}{E:Value->Shared->Prop}{s:Shared}{K:Frag}{x C:Addr}{R:Result->Shared->Prop}
theorem Gb {tp:Value}(X:K.In s.heap)(L0:Looks (model prog w) s.heap (typeOf (.ref x)) (.ref C))(L1:Looks (model prog w) s.heap (isSubtype (.ref C) (.type "object")) true)
 (h:R (.ok (.ret (.ref C))) s):codeAny (model prog w) A (.call (.builtin "getset_descriptor.__get__") ⟨[.builtin "object.__class__",.ref x,tp],[]⟩) R s:=by
 obtain⟨hh,g,dr,t,os⟩:=s
 refine codeAny_call_builtin KF.slot_gs.plain KF.entry_gs (KF.slot_gs.check _ _ _ _ _ _ _ _ KF.type_class (KF.args_gs _ _ _) ?_)
 unfold Builtin.«getset_descriptor.__get__» descrGet
 rw[dga_obj]
 refine wpAny_bind (wpAny_pure ?_)
 unfold descrGetter descrCheckInstance descrNameAndClass isInstance
 simp only[KF.owner_class]
 repeat lk
 refine⟨Code.quiet_builtin _ (by decide+kernel),codeAny_builtin KF.entry_class ?_⟩
 unfold Builtin.«object.__class__» shownTypeOf
 repeat lk
 exact h
theorem NO {M:Model}{h:Heap}(X:K.In h)(Z:Ml K C):Looks M h (find (.ref x) (.ref C) "__class__") (.bind (.builtin "getset_descriptor.__get__") (.builtin "object.__class__")):=by
 have L1:=looks_findIn (M:=M) X Z.cl
 have L2:Looks M h (getOf (some (.builtin "object.__class__"))) (some (.builtin "getset_descriptor.__get__")):=looks_specialIn X Z.gt
 have L3:=looks_takesIn (M:=M) X Z.tk
 refine L1.andThen (L2.andThen ?_)
 exact(show Looks M h (dataDescriptor? (some (.builtin "object.__class__")) (some (.builtin "getset_descriptor.__get__"))) (some (.builtin "getset_descriptor.__get__",.builtin "object.__class__"))from L3.andThen .now).andThen (Looks.tag .now)
theorem MG {tk:Tok}{Q:Fin->Shared->Prop}(X:K.In s.heap)(Z:Ml K C)(L0:Looks (model prog w) s.heap (typeOf (.ref x)) (.ref C))(h:Q (.done (.ret (.ref C))) s):
 wpAny (model prog w) A (Builtin.«object.__getattribute__» ⟨[.ref x,.str "__class__" tk],[]⟩) Q E s:=by
 have L1:=looks_mroIn (M:=model prog w) X Z.ob
 have L2:=NO (M:=model prog w) (x:=x) X Z
 obtain⟨hh,g,dr,t,os⟩:=s
 unfold Builtin.«object.__getattribute__»
 repeat(any_goals (first|assumption|(refine wpAny_bind (L0.at ?_))|(refine wpAny_bind (L2.at ?_))|wp_step))
 refine Gb X L0 L1 ?_
 repeat(any_goals (first|assumption|wp_step))
theorem NP:builtinKind "BaseException.__getattribute__"=some .slot:=by decide+kernel
theorem MH:splitId "BaseException.__getattribute__"=some ("BaseException","__getattribute__"):=by decide+kernel
theorem MI {M:Model}{nameV:Value}{Q:Unit->Shared->Prop}(LI:Looks M s.heap (isInstance (.ref x) (.type "BaseException")) true)(h:Q () s):
 wpAny M A (checkBuiltinCall "BaseException.__getattribute__" ⟨[.ref x,nameV],[]⟩) Q E s:=
 check_slot (i:="BaseException.__getattribute__") (owner:="BaseException") (n:="__getattribute__") (self:=.ref x) (rest:=[nameV]) (kw:=[]) NP MH LI (F.args_bexc_ga (.ref x) nameV) h
theorem NQ {tk:Tok}(X:K.In s.heap)(Z:Ml K C)(L0:Looks (model prog w) s.heap (typeOf (.ref x)) (.ref C))(h:R (.ok (.ret (.ref C))) s):
 codeAny (model prog w) A (.call (.builtin "BaseException.__getattribute__") ⟨[.ref x,.str "__class__" tk],[]⟩) R s:=
 codeAny_call_builtin F.attrBase_ValueError.ga.plain F.entry_bexc_ga (MI (L0.andThen (looks_mroIn (M:=model prog w) X Z.be)) (MG X Z L0 h))
theorem QT {hh:Heap}{g:Array GenState}{dr:Drawn}{t:Nat}{os:OsState}{tk:Tok}{fill expr:Bool}{Q:Value->Shared->Prop}(X:K.In hh)(Z:Ml K C)(L0:Looks (model prog w) hh (typeOf (.ref x)) (.ref C))(h:Q (.ref C) ⟨hh,g,dr,t,os⟩):
 wpAny (model prog w) A (getAttrBy (.ref x) (.str "__class__" tk) fill expr) Q E ⟨hh,g,dr,t,os⟩:=by
 have f3:=F.attrBase_ValueError.ga.bind (.ref x)
 have hx0:(expr&&onTheHeap (Value.builtin "BaseException.__getattribute__"))=false:=by cases expr<;>rfl
 have hx2:(Value.builtin "BaseException.__getattribute__"==Value.builtin "object.__getattribute__")=false:=by decide+kernel
 have hx1:(onTheHeap (Value.ref C)&&Value.builtin "BaseException.__getattribute__"==Value.builtin "object.__getattribute__")=false:=by rw[hx2];rfl
 have L1:=looks_findIn (M:=model prog w) X Z.ga
 have L2:=looks_findIn (M:=model prog w) X Z.gn
 repeat(any_goals (first|assumption|(refine wpAny_bind (L0.at ?_))|(refine wpAny_bind (L1.at ?_))|(refine wpAny_bind (L2.at ?_))|wp_step))
 refine NQ X Z L0 ?_
 repeat(any_goals (first|assumption|wp_step))
theorem MJ {hh:Heap}{g:Array GenState}{dr:Drawn}{t:Nat}{os:OsState}{Q:Option Value->Shared->Prop}(X:K.In hh)(Z:Ml K C)(L0:Looks (model prog w) hh (typeOf (.ref x)) (.ref C))(h:Q (some (.ref C)) ⟨hh,g,dr,t+1,os⟩):
 wpAny (model prog w) A (getAttr? (.ref x) "__class__") Q E ⟨hh,g,dr,t,os⟩:=by
 unfold getAttr? getAttrBy?
 repeat(any_goals (first|assumption|(with_reducible apply QT X Z L0)|wp_step))
end
end L2
namespace L2
open PySem PySem.Spec PyProof.Rows PySem.W
theorem F1 {K:Frag}{a C:Addr}(Z:Ml K C):KitX K (.ref a) (.ref C) (λh=>∃o vs,h.get? a=some o/\o.cls=.ref C/\o.data=.fields vs) where
 ty:=λM h _ ⟨o,vs,e1,e2,_⟩=>e2▸(Looks.ld e1).andThen .now
 it:=λM h X _=>by
  obtain⟨cd,hcD⟩:=Option.isSome_iff_exists.mp Z.cd
  unfold clsIn at hcD
  split at hcD
  ·rename_i c' d' cd' sl' ho
   intro A' Q' E' s' k q
   unfold isType loadHead
   exact wpAny_bind (wpAny_loadPart (k _ _ (X _ _ ho)) (wpAny_pure q))
  ·cases hcD
 ne:=λh tp dd its n sl X htp=>by
  obtain⟨cd,hcD⟩:=Option.isSome_iff_exists.mp Z.cd
  refine Bool.eq_false_iff.mpr λq=>?_
  have e:C=tp:=Value.ref.inj (beq_iff_eq.mp q)
  subst e
  unfold clsIn at hcD
  split at hcD
  ·rename_i c' d' cd' sl' ho
   have z:=(X _ _ ho).symm.trans htp
   cases z
  ·cases hcD
 ca:=λ{prog w A E Q s} X I k=>by
  obtain⟨hh,g,d,t,os⟩:=s
  obtain⟨o,vs,e1,e2,_⟩:=I
  exact MJ (C:=C) X Z (e2▸(Looks.ld e1).andThen .now) k
section
variable {X:Cx}
theorem JS:∀{Ds:List Addr} {its:List Value},Vals (Ds.map V.ref) its->its=Ds.map Value.ref
 |[],_,.nil=>rfl
 |D::Ds,_::_,.cons r h=>by rw[JS h];cases(show _=Value.ref D from r);rfl
theorem BA (K:Frag)(hK:X.K=K:=by rfl):B0 X (.builtin "isinstance") (λvs H Q=>∃(a C D:Addr) (b:Bool),vs=[.ref a,.ref D]/\H a=some (A7 a C)/\Ml K C/\kitOne K (.ref C) (.ref D)=some b/\Q (.bl b) H):=by
 subst hK
 intro pins s σ H xs us Q I r h
 obtain⟨a,C,D,b,rfl,ha,Z,e,q⟩:=h
 obtain⟨u,v,rfl,ru,rv⟩:=vals2 r
 cases(show u=Value.ref a from ru)
 cases(show v=Value.ref D from rv)
 exact kia_one (F1 Z) I.FA (I.hok a _ ha).1 e (λz=>nomatch z) λtk=>⟨.bl b,H,I.tok tk,rfl,q⟩
theorem Cr (K:Frag)(hK:X.K=K:=by rfl):B0 X (.builtin "isinstance") (λvs H Q=>∃(a C:Addr) (T:String) (b:Bool),vs=[.ref a,.ty T]/\H a=some (A7 a C)/\Ml K C/\kitOne K (.ref C) (.type T)=some b/\Q (.bl b) H):=by
 subst hK
 intro pins s σ H xs us Q I r h
 obtain⟨a,C,T,b,rfl,ha,Z,e,q⟩:=h
 obtain⟨u,v,rfl,ru,rv⟩:=vals2 r
 cases(show u=Value.ref a from ru)
 cases(show v=Value.type T from rv)
 exact kia_one (F1 Z) I.FA (I.hok a _ ha).1 e (λz=>nomatch z) λtk=>⟨.bl b,H,I.tok tk,rfl,q⟩
theorem Bb (K:Frag)(hK:X.K=K:=by rfl):B0 X (.builtin "isinstance") (λvs H Q=>∃(a C c:Addr) (Ds:List Addr) (b:Bool),vs=[.ref a,.ref c]/\H a=some (A7 a C)/\H c=some (.tup (Ds.map V.ref))/\Ml K C/\kitAny K (.ref C) (Ds.map Value.ref)=some b/\Q (.bl b) H):=by
 subst hK
 intro pins s σ H xs us Q I r h
 obtain⟨a,C,c,Ds,b,rfl,ha,hc,Z,e,q⟩:=h
 obtain⟨u,v,rfl,ru,rv⟩:=vals2 r
 cases(show u=Value.ref a from ru)
 cases(show v=Value.ref c from rv)
 obtain⟨_,its,rv2,⟨o,h1,h2,n,h3⟩⟩:=(show A0 X.prog X.w H s.heap c (.tup (Ds.map V.ref))from I.hok c _ hc)
 cases JS rv2
 obtain⟨cls,dd,dat,sl⟩:=o
 cases h2;cases h3
 exact kia_tup (F1 Z) I.FA (I.hok a _ ha).1 h1 e (λz=>nomatch z) λtk=>⟨.bl b,H,I.tok tk,rfl,q⟩
end
abbrev QU:List Value:=[.type "ValueError",.type "Exception",.type "BaseException",.type "object"]
theorem Oi {K:Frag}{h:Heap}{C:Addr}{bmB:List Value}{newId:String}(X:K.In h)(q:excIn K C bmB newId=true):
 ∃bm N nm q bs hdct sn sub ab col dd k0 k1 k2 k3 k5 mN,h.get? C=some (excClassObj nm q C N bs bm hdct sn sub ab col dd k0 k1 k2 k3 k5 newId)/\h.Ns N mN/\mN "__init__"=none/\OwnTail h bmB bm:=by
 unfold excIn at q
 split at q
 ·rename_i dd cd sl ho
  split at q
  ·rename_i C' bm k0 k1 k2 k3 n k5 hm hs
   simp only[Bool.and_eq_true,beq_iff_eq,Bool.not_eq_true']at q
   obtain⟨⟨⟨⟨⟨rfl,rfl⟩,hdel⟩,ht⟩,hok⟩,hni⟩:=q
   obtain⟨nm,bs,mro,ns,qn,hd,sn,sub,ab,col,del⟩:=cd
   dsimp only at hm hdel hok hni
   subst hm hdel
   have hsl:sl=#[k0,k1,k2,k3,some (.builtin n),k5]:=by
    obtain⟨l⟩:=sl
    simp only at hs
    rw[hs]
   subst hsl
   exact⟨bm,ns,nm,qn,bs,hd,sn,sub,ab,col,dd,k0,k1,k2,k3,k5,_,X _ _ ho,.of_isNs (isNs_of_in X hok),nsMap_none_of_in X hok hni,tail_of_in X ht⟩
  ·cases q
 ·cases q
def QV (E:XK)(C:Addr)(ta:TA):TS:=λ_ σ H=>ta σ H λvs H1=>vs.length<=sizeLine/\∀a,H1 a=none->E (.ref a) (some C) H1
theorem EU {X:Cx}{E:XK}{x:Str}{C:Addr}{e₀:Expr}{rest:List Expr}{ta:TA}{np cpos pos:Pos}(R:Raises X E)(hm:X.mg x=some (.ref C))(hq:excIn X.K C QU "ValueError.__new__"=true)(hg:Gl X x)(ha:PA X (e₀::rest) ta)
 (hc:X.calm=true:=by rfl)(he:starEach (e₀::rest) X.env=(false,eval e₀ X.env)::starEach rest X.env:=by rfl)(hplain:(backTo cpos (starEach rest X.env)).any (·.1)=false:=by rfl)(hd:(x==("__debug__":Str))=false:=by decide):
 PS X (.Raise (some (.Call (.Name x np) (e₀::rest) [] cpos)) none pos) (QV E C ta):=by
 intro pins s σ H D I h
 obtain⟨tl,N,nm,q,bs,hdct,sn,sub,ab,col,dd,k0,k1,k2,k3,k5,mN,hC,hN,hni,T⟩:=Oi I.ok.mod.kin hq
 refine wpAny_Raise_call_subT (C:=C) (nm:=nm) (q:=q) (N:=N) (bs:=bs) (bm:=tl) (hdct:=hdct) (sn:=sn) (sub:=sub) (ab:=ab) (col:=col) (dd:=dd) (k0:=k0) (k1:=k1) (k2:=k2) (k3:=k3) (k5:=k5)
  F.excBase_ValueError (mN:=mN) (T.hasType F.excBase_ValueError.hasBase) (I.ok.hd hc) (by rw[he];show(false||(backTo cpos (starEach rest X.env)).any (·.1))=false;rw[hplain];rfl) hni (C3 I hg hm ⟨rfl,?_⟩ hd)
 have hh:=ha cpos pins s σ H _ I h
 rw[he]at hh ⊢
 refine Calls.evalArgs_plain (wpAny_mono hh (λvs s₂ h₂=>?_) λ_ _ y=>y)
 obtain⟨us,H1,I1,r,hz,q⟩:=h₂
 refine⟨rfl,by rw[<-r.length];exact hz,I1.bk _ _ hC,hN.keeps I1.bk,T.keeps I1.bk,λh' e mk=>R pins σ H1 s₂ h' e C vs I1 mk (q e ?_)⟩
 cases z:H1 e with
 |none=>rfl
 |some u=>
  obtain⟨o,eo⟩:=(I1.hok e u z).obj
  rw[mk.new]at eo;cases eo
def Bk (P:Program)(w:World)(K:Frag)(mg:Str->Option Value)(base:Heap)(x:Str)(k:Nat)(ps:List Str)(sp:Sp):Prop:=
 ∃f fd,D9 P w K mg base (Jz P w) k f fd ps sp/\Binds K fd ps []/\keepIn K (.ref f)=true/\mg x=some (.ref f)
section
variable {P:Program}{w:World}{K:Frag}{mg:Str->Option Value}{base:Heap}
theorem Bk.mono {x:Str}{j k:Nat}{ps:List Str}{sp:Sp}(G:Bk P w K mg base x j ps sp)(h:j<=k):Bk P w K mg base x k ps sp:=
 let⟨f,fd,F,r⟩:=G;⟨f,fd,F.mono h,r⟩
theorem Df.F2 {x:Str}{st:Stmt}{N ps:List Str}{k:Nat}{sp:Sp}(D:Df K mg x st)(S:Ab N ps (AM st))
 (hb:∀(kV doc pm:Value) (an:Option Addr) (cdv ct:Value) (us:List Value),us.length=ps.length->bindArgs (fnOf x x (CV st) (Bh st) (AM st) .none kV doc pm an cdv ct) ⟨us,[]⟩=pure (ps.zip us))
 (len:∀vs H Q E,sp vs H Q E->vs.length=ps.length)
 (hbody:∀(f:Addr) (cdv:Value) (A:Around) (outer:List Env) (s:Shared) (H:Hp) (vs:List V) (Q:VK) (E:XK),Bj k (A.deeper (envOfC x (AM st) s.heap.objs.size f cdv))->sp vs H Q E->
  ∃t,Fb (Dw (Jz P w) P w K mg base N x (AM st) f cdv A outer s H E) (Bh st) t/\t { nx:=λ_ H'=>Q .non H',rt:=Q } (start N vs) H):Bk P w K mg base x (k+1) ps sp:=by
 obtain⟨f,fd,F,m⟩:=D
 refine⟨f,fd,?_,F.binds hb,F.kp,m⟩
 obtain⟨oc,od,kV,doc,pm,an,cdv,ct,osl,rfl,lk,hcd⟩:=F.ex
 exact Pg lk hcd S len λA outer s H vs Q E hr hsp=>hbody f cdv A outer s H vs Q E hr hsp
end
section
variable {X:Cx}{x:Str}{k:Nat}{ps:List Str}{sp:Sp}{p pos:Pos}{e:Expr}{es:List Expr}{t:TA}{E:XK}{σ0:St}
theorem B1 (G:Bk X.prog X.w X.K X.mg X.base x k ps sp)(hx:Passes (Jz X.prog X.w) X E)(hr:Bj k X.A)(hg:Gl X x)(ha:PA X (e::es) t)
 (hdb:(x==("__debug__":Str))=false:=by decide)(he:starEach (e::es) X.env=(false,eval e X.env)::starEach es X.env:=by rfl)(hpl:(backTo pos (starEach es X.env)).any (·.1)=false:=by rfl):
 PE X (.Call (.Name x p) (e::es) [] pos) (Gr sp [] E t):=by
 obtain⟨f,fd,F,b,kp,m⟩:=G
 exact Ky F hr hg m kp b .nil hx ha hdb he hpl
theorem Oj {f:Addr}{fd:FuncData}{pins:List (Addr×Obj)}{H:Hp}{s:Shared}{Q:VK}{us:List Value}{vs:List V}(F:D9 X.prog X.w X.K X.mg X.base (Jz X.prog X.w) k f fd ps sp)(hr:Bj k X.A)(hb:Binds X.K fd ps [])(hx:F0 (Jz X.prog X.w) X E σ0)
 (I:Inv X pins σ0 H s)(r:Vals vs us)(h:sp (vs++[]) H Q E):wpAny (model X.prog X.w) X.A (call (.ref f) us) (EP X pins σ0 Q) X.xe s:=by
 have r2:Vals (vs++[]) (us++[]):=r.append .nil
 have hl:(us++[]).length=ps.length:=by rw[<-r2.length];exact F.len _ _ _ _ h
 refine wpAny_call (codeAny_mono (F.run X.A X.stack s H ⟨us,[]⟩ (us++[]) (vs++[]) Q E hr I.OR (hb s us I.FA hl) r2 h) λr s' hq=>?_)
 cases r with
 |error e=>exact hx pins H s e s' I hq
 |ok fl=>
  cases fl with
  |ret u=>exact I.after hq
  |next=>exact False.elim hq
  |brk=>exact False.elim hq
  |cont=>exact False.elim hq
theorem AO (G:Bk X.prog X.w X.K X.mg X.base x k ps sp)(hx:F0 (Jz X.prog X.w) X E σ0)(hr:Bj k X.A)(hg:Gl X x)(ha:PA X (e::es) t)
 (hdb:(x==("__debug__":Str))=false:=by decide)(he:starEach (e::es) X.env=(false,eval e X.env)::starEach es X.env:=by rfl)(hpl:(backTo pos (starEach es X.env)).any (·.1)=false:=by rfl):
 PE X (.Call (.Name x p) (e::es) [] pos) (λσ H Q=>σ=σ0/\Gr sp [] E t σ H Q):=by
 obtain⟨f,fd,F,b,kp,hm⟩:=G
 rintro pins s σ H Q I ⟨rfl,h⟩
 refine wpAny_Call_Name_kw (C3 I hg hm ?_ hdb)
 refine callWith_K (h₀:=X.base) I.ok.mod.kin kp (BH (ha pos pins s σ H _ I h) λus s1 ⟨vs,H1,I1,r,q⟩=>⟨I1.FA,?_⟩) he hpl
 exact Oj F hr b hx I1 r q
end
end L2
namespace L2
open PySem PySem.Spec PyProof.Rows PySem.W
@[irreducible] def Te:Int:=2 ^ 1000
section
variable {X:Cx}
theorem F3 (ns:List Bool):(ns.map V.bl).all DR=true:=by
 rw[List.all_map];exact List.all_eq_true.mpr λ_ _=>rfl
def LC:V->List V->Hp->VK->Prop:=λx vs H Q=>∃(l:Addr) (ns:List Bool) (y:Bool),x=.ref l/\vs=[.bl y]/\H l=some (.lst (ns.map V.bl))/\Q (.int ((ns.count y:Nat):Int)) H
theorem MK:Q1 X "list.count" LC:=by
 intro pins s σ H x vs v us Q I rx rv h
 obtain⟨l,ns,y,rfl,rfl,hH,q⟩:=h
 cases rx
 obtain⟨u,rfl,ru⟩:=rv.one
 have ru0:=ru
 cases(show u=Value.bool y from ru)
 obtain⟨z,its,n,r,hz,e⟩:=I.Fj hH
 refine call_meets F.slot_list_count ⟨_,e,rfl⟩ F.entry_list_count (F.args_list_count_2 _ _) (SeqAt.list_countAt l its.toArray n none #[] (.bool y) (FR (V.bl y))) ⟨e,λu hu=>B8 (x:=V.bl y) ru0 rfl r (F3 ns) u (by simpa using hu),?_⟩
 have key:∀(ms:List Bool) (us:List Value),Vals (ms.map V.bl) us->us.countP (FR (V.bl y))=ms.count y:=by
  intro ms
  induction ms with
  |nil=>intro us hv;cases hv;rfl
  |cons m ms ih=>
   intro us hv
   cases hv with
   |cons h t=>
    cases(show _=Value.bool m from h)
    rw[List.countP_cons,List.count_cons,ih _ t]
    cases m<;>cases y<;>rfl
 have ek:its.toArray.toList.countP (FR (V.bl y))=ns.count y:=by rw[List.toList_toArray];exact key ns its r
 exact⟨.int _,H,I.tok _,⟨_,by rw[ek]⟩,q⟩
theorem E3 (K:PySem.W.Frag){o e:Expr}{to te:TE}{apos cpos:Pos}(ho:PE X o to)(he:PE X e te)(hK:X.K=K:=by rfl)(hbase:attributeBase o "count" X.env (eval o X.env)=eval o X.env:=by rfl)
 (h1:starEach [e] X.env=[(false,eval e X.env)]:=by rfl)(hl:(apos.endLine==cpos.line)=true:=by rfl):
 PE X (.Call (.Attribute o "count" apos) [e] [] cpos) (Q0 K "list" LC to (Fh te KA)):=by
 subst hK
 exact BR PySem.F.plainAttrs_list PySem.F.slot_list_count PySem.F.type_list_count MK ho (AA he AB h1) hbase (by rw[h1];rfl) hl h1 (by rfl)
def LD:V->List V->Hp->VK->Prop:=λx vs H Q=>∃(l:Addr) (ss:List Bool) (y:Bool),x=.ref l/\vs=[.bl y]/\H l=some (.lst (ss.map V.bl))/\y∈ss/\ss.length<=10000/\Q (.int ((ss.idxOf y:Nat):Int)) H
theorem ML:Q1 X "list.index" LD:=by
 intro pins s σ H x vs v us Q I rx rv h
 obtain⟨l,ss,y,rfl,rfl,hH,hm,hl,q⟩:=h
 cases rx
 obtain⟨u,rfl,ru⟩:=rv.one
 have ru0:=ru
 cases(show u=Value.bool y from ru)
 obtain⟨z,its,n,r,hz,e⟩:=I.Fj hH
 have rl:=r.length
 rw[List.length_map]at rl
 have jl:ss.idxOf y < ss.length:=List.idxOf_lt_length_of_mem hm
 have key:∀(j:Nat) (hj:j < its.toArray.size),FR (V.bl y) its.toArray[j]=(ss[j]'(by rw[rl];simpa using hj)==y):=λj hj=>by
  have hj':j < ss.length:=by rw[rl];simpa using hj
  obtain⟨w',e1,e2⟩:=r.get (i:=j) (x:=V.bl (ss[j])) (by rw[List.getElem?_map,List.getElem?_eq_getElem hj'];rfl)
  cases(show w'=Value.bool ss[j]from e2)
  have:its.toArray[j]=Value.bool ss[j]:=by
   rw[List.getElem?_eq_getElem (by omega)]at e1
   simpa using Option.some.inj e1
  rw[this]
  generalize ss[j]=b
  cases b<;>cases y<;>rfl
 refine call_meets F.slot_list_index ⟨_,e,rfl⟩ F.entry_list_index (F.args_list_index_2 _ _) (SeqAt.list_indexAt l its.toArray n none #[] (.bool y) (FR (V.bl y)) (ss.idxOf y) (by rw[List.size_toArray];omega) (by omega) ?_ ?_) ⟨e,λu hu=>B8 (x:=V.bl y) ru0 rfl r (F3 ss) u (by simpa using hu),?_⟩
 ·rw[key _ (by rw[List.size_toArray];omega),List.getElem_idxOf jl];exact beq_self_eq_true y
 ·intro m hm' hlt
  rw[key m hm']
  have:=List.not_of_lt_findIdx (p:=(·==y)) (xs:=ss) (i:=m) hlt
  simpa using this
 ·exact⟨.int _,H,I.tok _,⟨_,rfl⟩,q⟩
theorem E4 (K:PySem.W.Frag){o e:Expr}{to te:TE}{apos cpos:Pos}(ho:PE X o to)(he:PE X e te)(hK:X.K=K:=by rfl)(hbase:attributeBase o "index" X.env (eval o X.env)=eval o X.env:=by rfl)
 (h1:starEach [e] X.env=[(false,eval e X.env)]:=by rfl)(hl:(apos.endLine==cpos.line)=true:=by rfl):
 PE X (.Call (.Attribute o "index" apos) [e] [] cpos) (Q0 K "list" LD to (Fh te KA)):=by
 subst hK
 exact BR PySem.F.plainAttrs_list PySem.F.slot_list_index PySem.F.type_list_index ML ho (AA he AB h1) hbase (by rw[h1];rfl) hl h1 (by rfl)
end
end L2
namespace L2
open PySem PySem.Spec PyProof.Rows PySem.W
theorem NR (items:Array Value):(List.filterMap (λk:Nat=>items[((items.size:Int) - 1+(k:Int)*-1).toNat]?) (List.range items.size))=items.toList.reverse:=by
 apply List.ext_getElem?
 intro i
 have e:(List.range items.size).filterMap (λk:Nat=>items[((items.size:Int) - 1+(k:Int)*-1).toNat]?)=(List.range items.size).map λk=>items.getD (items.size - 1 - k) .none:=by
  have go:∀l:List Nat,(∀k∈l,k < items.size)->l.filterMap (λk:Nat=>items[((items.size:Int) - 1+(k:Int)*-1).toNat]?)=l.map λk=>items.getD (items.size - 1 - k) .none:=λl=>by
   induction l with
   |nil=>intro _;rfl
   |cons k l ih=>
    intro hl
    have hk:=hl k List.mem_cons_self
    rw[List.filterMap_cons,List.map_cons,ih λx hx=>hl x (List.mem_cons_of_mem _ hx),show((items.size:Int) - 1+(k:Int)*-1).toNat=items.size - 1 - k by omega,Array.getElem?_eq_getElem (by omega),Array.getD_eq_getD_getElem?,Array.getElem?_eq_getElem (by omega)]
    rfl
  exact go _ λk hk=>List.mem_range.mp hk
 rw[e,List.getElem?_map]
 rcases Nat.lt_or_ge i items.size with c|c
 ·rw[List.getElem?_range c,List.getElem?_reverse (by simpa using c),Array.length_toList,Array.getElem?_toList,Array.getElem?_eq_getElem (by omega)]
  show some (items.getD (items.size - 1 - i) .none)=some _
  rw[Array.getD_eq_getD_getElem?,Array.getElem?_eq_getElem (by omega)];rfl
 ·rw[List.getElem?_eq_none (by simpa using c),List.getElem?_eq_none (by simpa using c)];rfl
section
variable {prog:Program}{w:World}{A:Around}{E:Value->Shared->Prop}{s:Shared}
end
section
variable {X:Cx}{e st:Expr}{te:TE}{ts:TO}{pos p2:Pos}
theorem JT:∀{xs:List V} {us:List Value},Vals xs us->Vals xs.reverse us.reverse
 |[],_,.nil=>.nil
 |x::xs,_,.cons r t=>by
  rw[List.reverse_cons,List.reverse_cons]
  exact(JT t).append (.cons r .nil)
end
end L2
namespace L2
open PySem PySem.Spec PyProof.Rows PySem.W
section
variable {prog:Program}{w:World}{A:Around}{E:Value->Shared->Prop}{s:Shared}
end
def Cy (w:World)(a:Addr)(S:List Str)(n:Nat):HO:=.ext λh=>CP w (BV w) h a S n
theorem LF {P:Program}{w:World}{H:Hp}{h:Heap}{a:Addr}{S:List Str}{n:Nat}(x:CP w (BV w) h a S n):A0 P w H h a (Cy w a S n):=by
 refine⟨x,?_,λh1 h2 p k=>CP.keeps p k⟩
 obtain⟨es,ep,t,e,_⟩:=x
 exact⟨_,e⟩
section
variable {X:Cx}
theorem Ol {pins:List (Addr×Obj)}{σ:St}{H:Hp}{s:Shared}(I:Inv X pins σ H s){a:Addr}{S:List Str}{n:Nat}(h:H a=some (Cy X.w a S n)):CP X.w (BV X.w) s.heap a S n:=(I.hok a _ h).1
theorem F4 (hc:X.calm=true):B0 X (.type "set") (λxs H Q=>∃(l:Addr) (ss:List Str),xs=[.ref l]/\An X.K H l (ss.map V.str)/\ss.length < 4000/\∀r,H r=none->Q (.ref r) (upd H r (Cy X.w r ss ss.length))):=by
 intro pins s σ H xs us Q I r h
 obtain⟨l,ss,rfl,hq,h4,q⟩:=h
 obtain⟨u,rfl,ru⟩:=vals1 r
 cases(show u=Value.ref l from ru)
 obtain⟨its,rv,ht,hz⟩:=I.list hq
 have hlen:=rv.length
 rw[List.length_map]at hlen
 have hh:X.A.handled=none:=I.ok.hd hc
 have hsz:its.toArray.size=its.length:=List.size_toArray ..
 refine M7 ht.isList (EB rv) hh (by show its.toArray.size+1 < 4096;omega) λh2 tk2 old2 hA=>?_
 rw[hsz,<-hlen]at hA
 exact⟨.ref s.heap.objs.size,_,I.laid (t':=tk2) (h':=h2) (a:=s.heap.objs.size) (o:=Cy X.w s.heap.objs.size ss ss.length) old2 (Nat.le_refl _) (LF hA),rfl,q _ (I.hok.fresh (Nat.le_refl _))⟩
theorem DF (w:World)(hc:X.calm=true)(hw:X.w=w:=by rfl):B0 X (.type "set") (λxs H Q=>∃(l:Addr) (ss:List Str),xs=[.ref l]/\An X.K H l (ss.map V.str)/\ss.length < 4000/\∀r,H r=none->Q (.ref r) (upd H r (Cy w r ss ss.length))):=by
 subst hw;exact F4 hc
end
end L2
namespace L2
open PySem
theorem mid {t u:TS}{D:Ends}{σ:St}{H:Hp}(P:St->Hp->Prop)(h2:∀σ' H',P σ' H'->u D σ' H')(h1:∀E:Ends,(∀σ' H',P σ' H'->E.nx σ' H')->t E σ H):P5 t u D σ H:=h1 { D with nx:=u D } h2
end L2
namespace L2
open PySem PySem.Spec PyProof.Rows PySem.W
section
variable {X:Cx}
theorem NS (its:List Value):(slicePick its.toArray none none (some (-1))).toList=its.reverse:=by
 have e:(slicePick its.toArray none none (some (-1))).toList=(sliceRange ((its.length:Int) - 1) (-1) (-1)).filterMap (its.toArray[·]?):=by
  have b:sliceBounds none none (some (-1)) its.toArray.size=((its.length:Int) - 1,-1,-1):=by
   rw[List.size_toArray];rfl
  unfold slicePick
  rw[b,List.toList_toArray]
 rw[e]
 unfold sliceRange
 dsimp only
 rw[if_neg (by decide)]
 have c:(if(its.length:Int) - 1 > -1 then((its.length:Int) - 1 - -1 - -1 - 1) / (- -1)else 0).toNat=its.length:=by
  split
  ·rw[show(- -1:Int)=1 by decide,Int.ediv_one];omega
  ·omega
 rw[c,List.filterMap_map]
 have:=NR its.toArray
 rw[List.size_toArray]at this
 rw[show its.toArray.toList=its by simp]at this
 rw[<-this]
 congr 1
 funext k
 show its.toArray[((its.length:Int) - 1+-1*(k:Int)).toNat]?=its.toArray[((its.length:Int) - 1+(k:Int)*-1).toNat]?
 rw[Int.mul_comm]
variable {e st:Expr}{te:TE}{ts:TO}{pos p2:Pos}
def Rl (K:PySem.W.Frag)(te:TE)(ts:TO):TE:=λσ H Q=>te σ H λx H1=>ts σ H1 λo H2=>∃(a:Addr) (xs:List V),o=some (-1)/\x=.ref a/\An K H2 a xs/\∀r:Addr,H2 r=none->Q (.ref r) (upd H2 r (.lst xs.reverse))
theorem Om (K:PySem.W.Frag)(he:PE X e te)(hs:PO X (some st) ts)(hK:X.K=K:=by rfl):PE X (.Subscript e (.Slice none none (some st) p2) pos) (Rl K te ts):=by
 subst hK
 intro pins s σ H Q I h
 refine Subscript_ (BH (he pins s σ H _ I h) λv s1 ⟨x,H1,I1,r1,q1⟩=>?_)
 refine wpAny_Slice ?_
 rw[evalPart_none]
 refine wpAny_pure (wpAny_pure ?_)
 refine BH (hs pins s1 σ H1 _ I1 q1) λvs s3 ⟨o,H3,I3,po,q3⟩=>?_
 obtain⟨a,xs,rfl,rfl,hq,q⟩:=q3
 cases r1
 cases po with
 |int i tk=>
 have I4:Inv X pins σ H3 { s3 with heap:=s3.heap.push { cls:=.type "slice",data:=.fields #[.none,.none,.int (-1) tk] } }:=I3.kept (t':=s3.toks) λb ob q=>Heap.get?_push_of_some _ q
 show wpAny (model X.prog X.w) X.A (subscriptTail e (.Slice none none (some st) p2) (.ref a) (.ref s3.heap.objs.size)) (EP X pins σ Q) X.xe { s3 with heap:=s3.heap.push { cls:=.type "slice",data:=.fields #[.none,.none,.int (-1) tk] } }
 obtain⟨its,r,ht,hz⟩:=I4.list hq
 have hlen:=r.length
 refine tail_any (ops:=[.ref a,.ref s3.heap.objs.size]) (T:="list") ht.isList.typeIs F.slot_list_getitem.lookup ?_ (by with_unfolding_all rfl)
 refine wpAny_getItem_list_slice ht.isList (Heap.IsSliceOf.new ..) .none .none (.int (-1) tk) (λe=>by cases e) ?_ (by rw[List.size_toArray];omega)
 have pr:slicePick its.toArray none none (some (-1))=its.reverse.toArray:=by
  apply Array.toList_inj.mp
  rw[NS,List.toList_toArray]
 rw[pr]
 refine⟨.ref _,_,I4.laid (t':=s3.toks) (o:=.lst xs.reverse) (λb ob q=>Heap.get?_push_of_some _ q) (Nat.le_refl _) ?_,rfl,q _ (I4.hok.fresh (Nat.le_refl _))⟩
 exact⟨by rw[List.length_reverse];omega,_,0,JT r,Heap.get?_push_size _ rfl⟩
end
end L2
namespace L2
open PySem PySem.Spec PyProof.Rows PySem.W
theorem A2 {c:Bool}{A B:Prop}(h:c=false)(q:B):if c=true then A else B:=by rw[h];exact Ay q
theorem Bl {c:Bool}{A B:Prop}(h:c=true)(q:A):if c=true then A else B:=by rw[h];exact A1 q
end L2
namespace W56
open PySem
end W56
namespace W56
open PySem
end W56
namespace L2
open PySem PySem.Spec PyProof.Rows PySem.W
theorem CP.Rm {w:World}{led:Bool}{h:Heap}{a:Addr}{S:List Str}{n:Nat}(x:CP w led h a S n){us:List Str}(sub:∀z∈S,z∈us):CP w led h a S us.length:=by
 obtain⟨es,ep,t,e,hS,_⟩:=x
 refine⟨es,ep,t,e,hS,?_⟩
 have:=hS.nd.length_le_of_subset (l₂:=us) λz hz=>sub z ((hS.mem z).mp hz)
 rw[List.length_map,Array.length_toList]at this
 exact this
section
variable {X:Cx}
theorem CG (w:World)(hc:X.calm=true)(hw:X.w=w:=by rfl):B0 X (.builtin "sorted") (λxs H Q=>∃(a:Addr) (S:List Str) (n:Nat) (us:List Str),xs=[.ref a]/\H a=some (Cy w a S n)/\(∀z∈S,z∈us)/\us.length < 64/\
 ∀(ss:List Str) (r:Addr),ss.Nodup->(∀x,x∈ss↔x∈S)->sortedS ss=true->H r=none->Q (.ref r) (upd H r (.lst (ss.map V.str)))):=by
 subst hw
 intro pins s σ H xs us' Q I r h
 obtain⟨a,S,n,us,rfl,ha,sub,n64,q⟩:=h
 obtain⟨u,rfl,ru⟩:=vals1 r
 cases(show u=Value.ref a from ru)
 have hh:X.A.handled=none:=I.ok.hd hc
 refine KL ((Ol I ha).Rm sub) hh n64 λh3 tk3 d l3 out ss' e old3 lge hg3 hv3 nd3 mem3 srt3 len3=>?_
 have I3:=I.laid (t':=tk3) (h':=h3) (a:=l3) (o:=.lst (ss'.map V.str)) old3 lge (show A0 X.prog X.w _ _ _ (.lst (ss'.map V.str))from⟨by rw[List.length_map];exact Nat.le_of_lt (Av (by omega)),out.toList,e,FE hv3,hg3⟩)
 exact⟨.ref l3,_,I3.drawn d,rfl,q ss' l3 nd3 mem3 srt3 (I.hok.fresh lge)⟩
end
end L2
namespace L2
open PySem PySem.Spec PyProof.Rows PySem.W
structure Q3 (X:Cx)(sts:List Stmt)(t:TS):Prop where
 h:Fb X sts t
structure Pw (X:Cx)(st:Stmt)(t:TS):Prop where
 h:PS X st t
structure DZ (X:Cx)(e:Expr)(t:TE):Prop where
 h:PE X e t
structure Q4 (X:Cx)(es:List Expr)(t:TA):Prop where
 h:PA X es t
section
variable {X:Cx}
theorem TM {sts:List Stmt}{R:TS->Prop}(h:∃t,Q3 X sts t/\R t):∃t,Fb X sts t/\R t:=let⟨t,a,b⟩:=h;⟨t,a.h,b⟩
theorem Be {st:Stmt}{rest:List Stmt}{t u:TS}(h1:Pw X st t)(h2:Q3 X rest u):Q3 X (st::rest) (P5 t u):=⟨AG h1.h h2.h⟩
theorem LG {st:Stmt}{t:TS}(h:Pw X st t):Q3 X [st] t:=⟨AE h.h⟩
theorem LH {i:Nat}{x:Str}{e:Expr}{te:TE}{pos' pos:Pos}(hN:X.N.Nodup)(hi:X.N[i]?=some x)(hx:Loc X.env.scope x)(he:DZ X e te)(hs:swapsWith e (some (.Name x pos')) pos.line X.env=pure false:=by rfl)(hf:X.fn x=true\/X.env.scope.names.lookup x=some .local:=by first|exact .inl rfl|exact .inr rfl|assumption):
 Pw X (.Assign [.Name x pos'] e pos) (OO te (FC i)):=⟨AI hN hi hx he.h hs hf⟩
theorem Rn {e:Expr}{te:TE}{pos:Pos}(he:DZ X e te):Pw X (.Return (some e) pos) (RE te):=⟨AY he.h⟩
theorem S5 {a b:Expr}{ta tb:TE}{pos:Pos}{r:R2}(hr:Mi X r)(ha:DZ X a ta)(hb:DZ X b tb)(hs:K0 b):DZ X (.Subscript a b pos) (Qz r ta tb):=⟨Ad hr ha.h hb.h hs⟩
theorem NT {a b:Expr}{ta tb:TE}{pos:Pos}{op:Operator}{r:R2}(ho:D8 X (binaryOp op) r)(ha:DZ X a ta)(hb:DZ X b tb):DZ X (.BinOp a op b pos) (Qz r ta tb):=⟨AZ ho ha.h hb.h⟩
theorem HP {es:List Expr}{t:TA}{pos:Pos}(h:Q4 X es t):DZ X (.List es pos) (RQ t):=⟨AU h.h⟩
theorem Au {e:Expr}{es:List Expr}{te:TE}{t:TA}(ha:DZ X e te)(hr:Q4 X es t)(hs:starEach (e::es) X.env=(false,eval e X.env)::starEach es X.env:=by rfl):Q4 X (e::es) (Fh te t):=⟨AA ha.h hr.h hs⟩
theorem Dc:Q4 X [] KA:=⟨AB⟩
theorem Cz {x:Str}{j}{pos:Pos}:DZ X (.Constant (.str x) j pos) (tC (.str x)):=⟨AS⟩
end
end L2
namespace L2
open PySem PySem.Spec PyProof.Rows PySem.W
section
variable {prog:Program}{w:World}{A:Around}{E:Value->Shared->Prop}{s:Shared}
theorem HQ {led:Bool}{I S:Addr}{fp:List Addr}{n:Nat}{Pv:Nat->Value->Prop}{St:Nat->Heap->Prop}{ss:List Str}{R:Result->Shared->Prop}(Wk:Walks prog w A.in1 I fp [I] n Pv St)(hP:∀i v,Pv i v->∃x tk,v=.str x tk/\ss[i]?=some x)(sl:ss.length=n)(SI:S≠I)(Sf:S∉fp)(hn:n+1 < scanBound):
 ∀(k i:Nat) (s:Shared),n - i=k->i<=n->St i s.heap->CP w led s.heap S (ss.take i) i->
  (∀h' tk,(∀b o,b≠I->b≠S->s.heap.get? b=some o->h'.get? b=some o)->CP w led h' S ss n->R (.ok (.ret .none)) { s with heap:=h',toks:=tk })->
  codeAny (model prog w) A (.builtin "set.update.loop" ⟨[.ref S,.ref I],[]⟩) R s
 |0,i,s,hk,hi,h1,h3,h=>by
  have ei:i=n:=by omega
  subst ei
  refine codeAny_builtin F.entry_set_update_loop ?_
  rw[Around.under_plainId F.plain_set_update_loop _]
  show wpAny _ A.in1 (pyNext (.ref I) >>= _) _ _ s
  refine wpAny_bind (Wk.done s _ _ h1 λh' tk kp=>wpAny_pure ?_)
  refine h h' tk (λb o n1 _ e=>kp b o (by simpa using n1) e) ?_
  have:=h3.keeps (h':=h') λo e=>kp S o (by simpa using SI) e
  rw[List.take_of_length_le (by omega)]at this
  exact this
 |k+1,i,s,hk,hi,h1,h3,h=>by
  have il:i < n:=by omega
  refine codeAny_builtin F.entry_set_update_loop ?_
  rw[Around.under_plainId F.plain_set_update_loop _]
  show wpAny _ A.in1 (pyNext (.ref I) >>= _) _ _ s
  refine wpAny_bind (Wk.item i s _ _ il h1 λv h' tk hv hSt kp=>?_)
  obtain⟨x,tkx,rfl,hx⟩:=hP i v hv
  have h3':=h3.keeps (h':=h') λo e=>kp S o (by simpa using SI) e
  dsimp only
  refine wpAny_bind (wpAny_holding (JD (s:={ s with heap:=h',toks:=tk }) h3' (by omega) λb h2' sb hA=>?_))
  refine wpAny_pure ⟨plainId_quiet F.plain_set_update_loop _,?_⟩
  have et:ss.take i++[x]=ss.take (i+1):=by rw[List.take_succ,hx];rfl
  rw[et]at hA
  refine HQ Wk hP sl SI Sf hn k (i+1) { s with heap:=h2',toks:=tk+1 } (by omega) (by omega) ?_ hA λh4 tk4 k4 hA4=>?_
  ·exact Wk.frame _ _ _ hSt λb hb o e=>sb.extBut _ _ (λz=>Sf (by rw[<-z];exact hb)) e
  ·exact h h4 tk4 (λb o n1 n2 e=>k4 b o n1 n2 (sb.extBut _ _ n2 (kp b o (by simpa using n1) e))) hA4
theorem MM {D:Addr}{z:Str}{t:Tok}{Pf:PySem.Fin->Shared->Prop}(hget:s.heap.get? D=some { cls:=.type "set",data:=.set #[] 0 (SetTable.fresh 0 0 (BV w)) })(hh:A.handled=none)(hn:z.cps.size+1 < scanBound)
 (h:∀h' tk,(∀b o,b≠D->s.heap.get? b=some o->h'.get? b=some o)->CP w (BV w) h' D (z.cps.toList.map λc=>(⟨#[c]⟩:Str)) z.cps.size->Pf (.done (.ret .none)) { s with heap:=h',toks:=tk }):
 wpAny (model prog w) A (Builtin.«set.__init__» ⟨[.ref D,.str z t],[]⟩) Pf E s:=by
 have hT:s.TypeIs (.ref D) "set":=⟨_,hget,rfl⟩
 have hTl:s.TypeIs (.str z t) "str":=typeIs_str _ _ _
 unfold Builtin.«set.__init__»
 refine wpAny_bind ?_
 unfold noKeywords
 show wpAny _ _ (pure ()) _ _ _
 refine wpAny_pure ?_
 dsimp only
 unfold typeNameOfCut shownTypeOf
 refine wpAny_bind (wpAny_bind (wpAny_bind (wpAny_typeOf hT ?_)))
 rw[if_neg (by decide)]
 refine wpAny_pure ?_
 rw[JF]
 refine wpAny_pure ?_
 refine wpAny_bind ?_
 unfold checkCount
 show wpAny _ _ (pure ()) _ _ _
 refine wpAny_pure ?_
 refine wpAny_bind ?_
 show wpAny _ _ (pure D) _ _ _
 refine wpAny_pure ?_
 refine wpAny_bind ?_
 unfold setUsed
 refine wpAny_bind (wpAny_setState_of hget rfl rfl (wpAny_pure ?_))
 have hfill:(((#[],0,SetTable.fresh 0 0 (BV w)):Array (Int×Value)×Nat×SetTable).2.2.fill !=0)=false:=rfl
 rw[hfill,if_neg (by decide)]
 refine wpAny_bind ?_
 unfold Builtin.Frozenset.updateFrom
 refine wpAny_bind ?_
 unfold Builtin.Frozenset.isAnySet
 refine wpAny_bind (wpAny_isInstance hTl F.sub_str_set ?_)
 refine wpAny_isInstance hTl F.sub_str_frozenset ?_
 rw[if_neg (by decide)]
 refine wpAny_bind (wpAny_typeOf hTl ?_)
 rw[if_neg (by decide)]
 have DD:D < s.heap.objs.size:=Heap.lt_size hget
 refine wpAny_bind (wpAny_pyIter_str λo St Wk st0=>?_)
 refine wpAny_bind (wpAny_runValue ?_)
 refine HQ (led:=BV w) (ss:=z.cps.toList.map λc=>(⟨#[c]⟩:Str)) (Wk A.in1 hh) (λi v hv=>?_) (by rw[List.length_map,Array.length_toList]) (Nat.ne_of_lt DD) (λm=>Nat.ne_of_lt DD (List.mem_singleton.mp m)) hn z.cps.size 0 { s with heap:=s.heap.push o } (Nat.sub_zero _) (Nat.zero_le _) st0 (CP.start (Heap.get?_push_of_some _ hget)) λh' tk kp hA=>?_
 ·obtain⟨c,u,hc,rfl⟩:=hv
  exact⟨_,_,rfl,by rw[List.getElem?_map,Array.getElem?_toList,hc];rfl⟩
 refine wpAny_pure (wpAny_pure ?_)
 exact h h' tk (λb o n e=>kp b o (Nat.ne_of_lt (Heap.lt_size e)) n (Heap.get?_push_of_some _ e)) hA
theorem MN {z:Str}{t:Tok}{Q:Value->Shared->Prop}(hh:A.handled=none)(hn:z.cps.size+1 < scanBound)
 (h:∀h' tk,(∀b o,s.heap.get? b=some o->h'.get? b=some o)->CP w (BV w) h' s.heap.objs.size (z.cps.toList.map λc=>(⟨#[c]⟩:Str)) z.cps.size->Q (.ref s.heap.objs.size) { s with heap:=h',toks:=tk }):
 wpAny (model prog w) A (call (.type "set") [.str z t]) Q E s:=by
 obtain⟨c,tl,hmro⟩:=F.called_set.mro
 refine wpAny_call (codeAny_of_tree ?_)
 show wpAny _ _ (pure (Fin.again (.builtin "type.__call__" ⟨[.type "set",.str z t],[]⟩))) _ _ _
 refine wpAny_pure ⟨Code.quiet_builtin _ (by decide+kernel),codeAny_builtin F.entry_type_call ?_⟩
 rw[Around.under_plain (weight_type_call_type "set" [.str z t] []) rfl]
 unfold Builtin.«type.__call__»
 dsimp only
 rw[if_neg (by decide),if_neg (by rw[F.called_set.canCreate];decide)]
 refine wpAny_bind ?_
 rw[F.typeCall_set_1]
 refine wpAny_pure ?_
 refine wpAny_bind ?_
 rw[hmro]
 refine wpAny_pure ?_
 rw[if_neg (by simp)]
 refine wpAny_bind ?_
 rw[F.called_set.made]
 refine wpAny_pure ?_
 dsimp only
 refine wpAny_bind (wpAny_pure ?_)
 refine wpAny_bind (wpAny_holding (wpAny_call ?_))
 refine Cv _ ?_
 have hget:(s.heap.push { cls:=.type "set",data:=.set #[] 0 (SetTable.fresh 0 0 (BV w)) }).get? s.heap.objs.size=some { cls:=.type "set",data:=.set #[] 0 (SetTable.fresh 0 0 (BV w)) }:=Heap.get?_push_size _ rfl
 have hT:({ s with heap:=s.heap.push { cls:=.type "set",data:=.set #[] 0 (SetTable.fresh 0 0 (BV w)) } }:Shared).TypeIs (.ref s.heap.objs.size) "set":=⟨_,hget,rfl⟩
 refine wpAny_bind (wpAny_isInstance hT F.called_set.sub ?_)
 rw[if_neg (by decide)]
 refine wpAny_bind (wpAny_holding ?_)
 refine wpAny_callSpecial?_slot hT F.called_set.init (wpAny_call (codeAny_call_builtin F.called_set.init.plain F.entry_set_init (check_set_init_1 hT ?_)))
 refine MM (s:={ s with heap:=s.heap.push { cls:=.type "set",data:=.set #[] 0 (SetTable.fresh 0 0 (BV w)) } }) hget hh hn λh' tk kp hA=>?_
 dsimp only
 rw[if_neg (by decide)]
 refine wpAny_pure ?_
 exact h h' tk (λb o e=>kp b o (Nat.ne_of_lt (Heap.lt_size e)) (Heap.get?_push_of_some _ e)) hA
end
section
variable {X:Cx}
theorem IF (hc:X.calm=true):B0 X (.type "set") (λxs H Q=>∃(z:Str),xs=[.str z]/\z.length < 4000/\∀r,H r=none->Q (.ref r) (upd H r (Cy X.w r (z.cps.toList.map λc=>(⟨#[c]⟩:Str)) z.length))):=by
 intro pins s σ H xs us Q I r h
 obtain⟨z,rfl,h4,q⟩:=h
 obtain⟨u,rfl,t,rfl⟩:=vals1 r
 have hh:X.A.handled=none:=I.ok.hd hc
 have hz:z.cps.size < 4000:=h4
 refine MN hh (by show z.cps.size+1 < 4096;omega) λh2 tk2 old2 hA=>?_
 exact⟨.ref s.heap.objs.size,_,I.laid (t':=tk2) (h':=h2) (a:=s.heap.objs.size) (o:=Cy X.w s.heap.objs.size _ _) old2 (Nat.le_refl _) (LF hA),rfl,q _ (I.hok.fresh (Nat.le_refl _))⟩
theorem Gd (w:World)(hc:X.calm=true)(hw:X.w=w:=by rfl):B0 X (.type "set") (λxs H Q=>∃(z:Str),xs=[.str z]/\z.length < 4000/\∀r,H r=none->Q (.ref r) (upd H r (Cy w r (z.cps.toList.map λc=>(⟨#[c]⟩:Str)) z.length))):=by
 subst hw;exact IF hc
theorem JU:RU X "str.endswith" (λx vs H Q=>∃z p,x=.str z/\vs=[.str p]/\Q (.bl (Txt.endswith z p)) H):=by
 intro pins s σ H x xs v us Q I rx rv h
 obtain⟨z,p,rfl,rfl,q⟩:=h
 obtain⟨t,rfl⟩:=rx
 obtain⟨u,rfl,t',rfl⟩:=rv.one
 exact SC.endswith ⟨.bl _,H,I,rfl,q⟩
theorem IG:RU X "str.partition" (λx vs H Q=>∃z p,x=.str z/\vs=[.str p]/\(p.length==0)=false/\z.length<=sizeLine/\∀r,H r=none->Q (.ref r) (upd H r (.tup [.str (Txt.partition z p).1,.str (Txt.partition z p).2.1,.str (Txt.partition z p).2.2]))):=by
 intro pins s σ H x xs v us Q I rx rv h
 obtain⟨z,p,rfl,rfl,hp,hz,q⟩:=h
 obtain⟨t,rfl⟩:=rx
 obtain⟨u,rfl,t',rfl⟩:=rv.one
 refine call_meets F.slot_str_partition (typeIs_str _ _ _) F.entry_str_partition (F.args_str_partition_2 _ _) (meets_str_partition z p t t' hp hz) ?_
 have q':=q
 unfold Txt.partition at q'
 have z3:∀a b c:V,[a,b,c].length<=sizeLine:=λa b c=>by show 3<=sizeLine;rw[sizeLine_eq];decide
 revert q'
 cases Builtin.Str.occurrences z p 0 z.length 1 with
 |nil=>
  intro q'
  exact⟨.ref s.heap.objs.size,_,I.laid (t':=s.toks+1) (λb u e=>Heap.get?_push_of_some _ e) (Nat.le_refl _) (show A0 X.prog X.w _ _ _ (.tup [.str _,.str _,.str _])from⟨⟨z3 _ _ _,_,Heap.get?_push_size _ rfl,rfl⟩,_,.cons ⟨_,rfl⟩ (.cons ⟨_,rfl⟩ (.cons ⟨_,rfl⟩ .nil)),⟨_,Heap.get?_push_size _ rfl,rfl,_,rfl⟩⟩),rfl,q' _ (I.hok.fresh (Nat.le_refl _))⟩
 |cons i r=>
  intro q'
  exact⟨.ref s.heap.objs.size,_,I.laid (t':=s.toks+1+1) (λb u e=>Heap.get?_push_of_some _ e) (Nat.le_refl _) (show A0 X.prog X.w _ _ _ (.tup [.str _,.str _,.str _])from⟨⟨z3 _ _ _,_,Heap.get?_push_size _ rfl,rfl⟩,_,.cons ⟨_,rfl⟩ (.cons ⟨_,rfl⟩ (.cons ⟨_,rfl⟩ .nil)),⟨_,Heap.get?_push_size _ rfl,rfl,_,rfl⟩⟩),rfl,q' _ (I.hok.fresh (Nat.le_refl _))⟩
def S6 (ta tb:TE):TE:=λσ H Q=>ta σ H λx H1=>∃z,x=.str z/\z.length<=1000/\if z.length=0 then tb σ H1 Q else Q x H1
theorem QW {a b:Expr}{rest:List Expr}{ta tb:TE}{pos:Pos}(ha:PE X a ta)(hb:PE X (.BoolOp .Or (b::rest) pos) tb):PE X (.BoolOp .Or (a::b::rest) pos) (S6 ta tb):=by
 intro pins s σ H Q I h
 refine BoolOp_or (BH (ha pins s σ H _ I h) λv s1 ⟨x,H1,I1,r1,q1⟩=>?_)
 obtain⟨z,rfl,zl,q1⟩:=q1
 obtain⟨t,rfl⟩:=r1
 refine P.truthy_str (by omega) ?_
 by_cases e:z.length=0
 ·rw[if_pos e]at q1
  have eb:(((z.length:Nat):Int) !=0)=false:=by rw[e];rfl
  rw[eb]
  exact hb pins _ σ H1 Q (I1.tok _) q1
 ·rw[if_neg e]at q1
  have eb:(((z.length:Nat):Int) !=0)=true:=by simp;omega
  rw[eb]
  exact⟨.str z,H1,I1.tok _,⟨t,rfl⟩,q1⟩
end
end L2
namespace W7
def wd (ups:List Int)(lab:List Nat):Nat->Nat->List Nat
 |0,_=>[]
 |f+1,k=>lab.getD k 0::(if ups.getD k 0 < 0 then[]else wd ups lab f (ups.getD k 0).toNat)
structure Br (ups:List Int)(lab:List Nat):Prop where
 len:ups.length=lab.length
 pos:0 < ups.length
 most:ups.length<=60
 root:ups.getD 0 0=-1
 up:∀k,0 < k->k < ups.length->0<=ups.getD k 0/\ups.getD k 0 < (k:Int)
theorem Br.lt {ups:List Int}{lab:List Nat}(t:Br ups lab){k:Nat}(h:k < ups.length)(h0:¬ups.getD k 0 < 0):(ups.getD k 0).toNat < k:=by
 rcases Nat.eq_zero_or_pos k with e|e
 ·subst e;have:=t.root;omega
 ·have:=t.up k e h;omega
theorem Br.neg {ups:List Int}{lab:List Nat}(t:Br ups lab){k:Nat}(h:k < ups.length):ups.getD k 0 < 0↔ups.getD k 0=-1:=by
 rcases Nat.eq_zero_or_pos k with e|e
 ·subst e;have:=t.root;omega
 ·have:=t.up k e h;omega
theorem LJ {ups:List Int}{lab:List Nat}(t:Br ups lab):∀(f g k:Nat),k < ups.length->k < f->k < g->wd ups lab f k=wd ups lab g k
 |0,_,_,_,h,_=>absurd h (Nat.not_lt_zero _)
 |_+1,0,_,_,_,h=>absurd h (Nat.not_lt_zero _)
 |f+1,g+1,k,hk,hf,hg=>by
  simp only[wd]
  congr 1
  split
  ·rfl
  ·rename_i h0
   have:=t.lt hk h0
   exact LJ t f g _ (by omega) (by omega) (by omega)
def W (ups:List Int)(lab:List Nat)(k:Nat):List Nat:=wd ups lab (k+1) k
theorem JV {ups:List Int}{lab:List Nat}(t:Br ups lab){k:Nat}(hk:k < ups.length):W ups lab k=lab.getD k 0::(if ups.getD k 0 < 0 then[]else W ups lab (ups.getD k 0).toNat):=by
 unfold W
 rw[wd]
 congr 1
 split
 ·rfl
 ·rename_i h0
  have:=t.lt hk h0
  exact LJ t _ _ _ (by omega) (by omega) (by omega)
theorem F5 {ups:List Int}{lab:List Nat}(t:Br ups lab):∀(n k:Nat),k < n->k < ups.length->(W ups lab k).length<=k+1
 |0,_,h,_=>absurd h (Nat.not_lt_zero _)
 |n+1,k,hn,hk=>by
  rw[JV t hk]
  split
  ·simp
  ·rename_i h0
   have:=t.lt hk h0
   have ih:=F5 t n (ups.getD k 0).toNat (by omega) (by omega)
   simp only[List.length_cons]
   omega
end W7
namespace S61
open PySem L2 W7
def top (i:Nat):Stmt:=PySem.Challenge.pw_upwords_k61_patterns_known.main.body.getD i (.Pass ⟨0,0,0,0⟩)
abbrev s_is_whole:Stmt:=top 19
abbrev KU:List Str:=["thing"]
theorem JW:Ab KU ["thing"] (AM s_is_whole):=⟨rfl,rfl,rfl,by decide+kernel,rfl,by decide+kernel,by decide+kernel⟩
abbrev s_is_number_below:Stmt:=top 20
abbrev EV:List Str:=["thing","behind"]
theorem ED:Ab EV ["thing","behind"] (AM s_is_number_below):=⟨rfl,rfl,rfl,by decide+kernel,rfl,by decide+kernel,by decide+kernel⟩
abbrev s_is_letters:Stmt:=top 21
abbrev EW:List Str:=["thing"]
theorem Ge:Ab EW ["thing"] (AM s_is_letters):=⟨rfl,rfl,rfl,by decide+kernel,rfl,by decide+kernel,by decide+kernel⟩
abbrev s_is_rising:Stmt:=top 22
abbrev FF:List Str:=["things"]
theorem IH:Ab FF ["things"] (AM s_is_rising):=⟨rfl,rfl,rfl,by decide+kernel,rfl,by decide+kernel,by decide+kernel⟩
abbrev s_is_pattern:Stmt:=top 25
abbrev II:List Str:=["thing"]
theorem Gf:Ab II ["thing"] (AM s_is_pattern):=⟨rfl,rfl,rfl,by decide+kernel,rfl,by decide+kernel,by decide+kernel⟩
abbrev s_items_of:Stmt:=top 26
abbrev KW:List Str:=["pattern","items","left","part","starred"]
theorem Bs:Ab KW ["pattern"] (AM s_items_of):=⟨rfl,rfl,rfl,by decide+kernel,rfl,by decide+kernel,by decide+kernel⟩
abbrev s_part_ahead:Stmt:=top 27
abbrev IJ:List Str:=["text","halves"]
theorem Dz:Ab IJ ["text"] (AM s_part_ahead):=⟨rfl,rfl,rfl,by decide+kernel,rfl,by decide+kernel,by decide+kernel⟩
abbrev s_letters_by:Stmt:=top 28
abbrev IK:List Str:=["part","letters"]
theorem D0:Ab IK ["part"] (AM s_letters_by):=⟨rfl,rfl,rfl,by decide+kernel,rfl,by decide+kernel,by decide+kernel⟩
abbrev s_shares_of:Stmt:=top 29
abbrev JX:List Str:=["pattern","word","items","fits","shares","at","done","item","behind"]
theorem BB:Ab JX ["pattern","word"] (AM s_shares_of):=⟨rfl,rfl,rfl,by decide+kernel,rfl,by decide+kernel,by decide+kernel⟩
abbrev s_fits_behind:Stmt:=top 30
abbrev Gg:List Str:=["items","word","fits","item"]
theorem Cg:Ab Gg ["items","word"] (AM s_fits_behind):=⟨rfl,rfl,rfl,by decide+kernel,rfl,by decide+kernel,by decide+kernel⟩
abbrev s_fits_ahead:Stmt:=top 31
abbrev IL:List Str:=["item","word","behind","fits","at","is_taken"]
theorem CK:Ab IL ["item","word","behind"] (AM s_fits_ahead):=⟨rfl,rfl,rfl,by decide+kernel,rfl,by decide+kernel,by decide+kernel⟩
abbrev s_words_of:Stmt:=top 33
abbrev KY:List Str:=["tree","words","letter","up"]
theorem Ci:Ab KY ["tree"] (AM s_words_of):=⟨rfl,rfl,rfl,by decide+kernel,rfl,by decide+kernel,by decide+kernel⟩
abbrev s_states_with:Stmt:=top 35
abbrev D3:List Str:=["items","states","given","found","state"]
theorem CB:Ab D3 ["items","states"] (AM s_states_with):=⟨rfl,rfl,rfl,by decide+kernel,rfl,by decide+kernel,by decide+kernel⟩
abbrev s_states_by:Stmt:=top 36
abbrev Dd:List Str:=["items","states","letter","going"]
theorem EY:Ab Dd ["items","states","letter"] (AM s_states_by):=⟨rfl,rfl,rfl,by decide+kernel,rfl,by decide+kernel,by decide+kernel⟩
abbrev s_lengths_fitting:Stmt:=top 37
abbrev EZ:List Str:=["items","word","states","lengths","ahead","letter"]
theorem A3:Ab EZ ["items","word"] (AM s_lengths_fitting):=⟨rfl,rfl,rfl,by decide+kernel,rfl,by decide+kernel,by decide+kernel⟩
abbrev s_whole_at:Stmt:=top 38
abbrev F6:List Str:=["tree","pattern","items"]
theorem FG:Ab F6 ["tree","pattern"] (AM s_whole_at):=⟨rfl,rfl,rfl,by decide+kernel,rfl,by decide+kernel,by decide+kernel⟩
abbrev s_found_at:Stmt:=top 39
abbrev KZ:List Str:=["tree","pattern","items","found","place","word","lengths"]
theorem B5:Ab KZ ["tree","pattern"] (AM s_found_at):=⟨rfl,rfl,rfl,by decide+kernel,rfl,by decide+kernel,by decide+kernel⟩
abbrev s_words_fitting:Stmt:=top 40
abbrev DG:List Str:=["tree","pattern","items","found","word"]
theorem Bv:Ab DG ["tree","pattern"] (AM s_words_fitting):=⟨rfl,rfl,rfl,by decide+kernel,rfl,by decide+kernel,by decide+kernel⟩
abbrev s_many_by:Stmt:=top 41
abbrev MO:List Str:=["tree","pattern"]
theorem Ka:Ab MO ["tree","pattern"] (AM s_many_by):=⟨rfl,rfl,rfl,by decide+kernel,rfl,by decide+kernel,by decide+kernel⟩
abbrev s_word_by:Stmt:=top 42
abbrev MP:List Str:=["tree","pattern","number","words"]
theorem F7:Ab MP ["tree","pattern","number"] (AM s_word_by):=⟨rfl,rfl,rfl,by decide+kernel,rfl,by decide+kernel,by decide+kernel⟩
abbrev s_number_by:Stmt:=top 43
abbrev JY:List Str:=["tree","pattern","word","words"]
theorem Ea:Ab JY ["tree","pattern","word"] (AM s_number_by):=⟨rfl,rfl,rfl,by decide+kernel,rfl,by decide+kernel,by decide+kernel⟩
abbrev s_marks_of:Stmt:=top 44
abbrev F8:List Str:=["tree","pattern","items","coming","marks","place","states"]
theorem B6:Ab F8 ["tree","pattern"] (AM s_marks_of):=⟨rfl,rfl,rfl,by decide+kernel,rfl,by decide+kernel,by decide+kernel⟩
abbrev s_marks_show:Stmt:=top 45
abbrev IM:List Str:=["tree","pattern","thing","items"]
theorem D4:Ab IM ["tree","pattern","thing"] (AM s_marks_show):=⟨rfl,rfl,rfl,by decide+kernel,rfl,by decide+kernel,by decide+kernel⟩
abbrev s_is_marks:Stmt:=top 46
abbrev EE:List Str:=["tree","items","thing","place","above"]
theorem De:Ab EE ["tree","items","thing"] (AM s_is_marks):=⟨rfl,rfl,rfl,by decide+kernel,rfl,by decide+kernel,by decide+kernel⟩
abbrev s_is_states:Stmt:=top 47
abbrev JZ:List Str:=["items","thing"]
theorem IP:Ab JZ ["items","thing"] (AM s_is_states):=⟨rfl,rfl,rfl,by decide+kernel,rfl,by decide+kernel,by decide+kernel⟩
abbrev s_is_never_done:Stmt:=top 48
abbrev FQ:List Str:=["tree","items","marks","behind_root"]
theorem E5:Ab FQ ["tree","items","marks"] (AM s_is_never_done):=⟨rfl,rfl,rfl,by decide+kernel,rfl,by decide+kernel,by decide+kernel⟩
abbrev s_law_mixed:Stmt:=top 50
abbrev Ja:List Str:=["cell","k","primes","one"]
theorem CC:Ab Ja ["cell","k"] (AM s_law_mixed):=⟨rfl,rfl,rfl,by decide+kernel,rfl,by decide+kernel,by decide+kernel⟩
abbrev s_law_deck:Stmt:=top 51
abbrev Kb:List Str:=["cell","at"]
theorem Jb:Ab Kb ["cell","at"] (AM s_law_deck):=⟨rfl,rfl,rfl,by decide+kernel,rfl,by decide+kernel,by decide+kernel⟩
abbrev s_law_draw:Stmt:=top 52
abbrev Kc:List Str:=["deck_here","many","drawn"]
theorem FH:Ab Kc ["deck_here","many"] (AM s_law_draw):=⟨rfl,rfl,rfl,by decide+kernel,rfl,by decide+kernel,by decide+kernel⟩
abbrev s_law_some:Stmt:=top 53
abbrev Ke:List Str:=["deck_here","things"]
theorem Jc:Ab Ke ["deck_here","things"] (AM s_law_some):=⟨rfl,rfl,rfl,by decide+kernel,rfl,by decide+kernel,by decide+kernel⟩
abbrev s_law_letter:Stmt:=top 54
abbrev IQ:List Str:=["deck_here"]
theorem Gh:Ab IQ ["deck_here"] (AM s_law_letter):=⟨rfl,rfl,rfl,by decide+kernel,rfl,by decide+kernel,by decide+kernel⟩
abbrev s_law_tree:Stmt:=top 55
abbrev Kf:List Str:=["deck_here","most","many","way","own","signs","ups","labels","k","road","up","at"]
theorem Aw:Ab Kf ["deck_here","most"] (AM s_law_tree):=⟨rfl,rfl,rfl,by decide+kernel,rfl,by decide+kernel,by decide+kernel⟩
abbrev s_law_words:Stmt:=top 56
abbrev Jd:List Str:=["tree_here","found","place","above"]
theorem CY:Ab Jd ["tree_here"] (AM s_law_words):=⟨rfl,rfl,rfl,by decide+kernel,rfl,by decide+kernel,by decide+kernel⟩
abbrev s_law_items:Stmt:=top 57
abbrev FI:List Str:=["deck_here","word","most","every","found","k","more","here","own","inner","wide","ways","letters","text","starred"]
theorem Ao:Ab FI ["deck_here","word","most"] (AM s_law_items):=⟨rfl,rfl,rfl,by decide+kernel,rfl,by decide+kernel,by decide+kernel⟩
abbrev s_law_written:Stmt:=top 58
abbrev D5:List Str:=["items_here"]
theorem F9:Ab D5 ["items_here"] (AM s_law_written):=⟨rfl,rfl,rfl,by decide+kernel,rfl,by decide+kernel,by decide+kernel⟩
abbrev s_law_kind:Stmt:=top 59
abbrev Kg:List Str:=["caught","kinds","others"]
theorem BL:Ab Kg ["caught"] (AM s_law_kind):=⟨rfl,rfl,rfl,by decide+kernel,rfl,by decide+kernel,by decide+kernel⟩
abbrev s_law_spoilt:Stmt:=top 60
abbrev IS:List Str:=["deck_here","text","way","at","sign","ahead","behind","found"]
theorem A5:Ab IS ["deck_here","text"] (AM s_law_spoilt):=⟨rfl,rfl,rfl,by decide+kernel,rfl,by decide+kernel,by decide+kernel⟩
abbrev s_law_due:Stmt:=top 61
abbrev MQ:List Str:=["thing","way","last","sign","small"]
theorem A8:Ab MQ ["thing"] (AM s_law_due):=⟨rfl,rfl,rfl,by decide+kernel,rfl,by decide+kernel,by decide+kernel⟩
abbrev s_law_asked:Stmt:=top 62
abbrev Je:List Str:=["way","tree_here","thing","word_here","found","e"]
theorem AH:Ab Je ["way","tree_here","thing"] (AM s_law_asked):=⟨rfl,rfl,rfl,by decide+kernel,rfl,by decide+kernel,by decide+kernel⟩
abbrev s_law:Stmt:=top 63
abbrev Ro:List Str:=["script","at","cell","deck_here","tree_here","text","far","thing","good","found","way","told"]
theorem CQ:Ab Ro ["script"] (AM s_law):=⟨rfl,rfl,rfl,by decide+kernel,rfl,by decide+kernel,by decide+kernel⟩
section
variable {P:Program}{w:World}{K:PySem.W.Frag}{mg:Str->Option Value}{base:Heap}{k:Nat}
def mk (l:List Nat):Str:=⟨l.toArray⟩
theorem Bt (l:List Nat):(mk l).cps.toList=l:=rfl
theorem Ai (l:List Nat):(mk l).length=l.length:=by simp[mk,Str.length]
theorem BX {a b:Str}(h:a.cps.toList=b.cps.toList):a=b:=by
 obtain⟨x⟩:=a;obtain⟨y⟩:=b
 have:x=y:=Array.toList_inj.mp h
 rw[this]
theorem NU (c:Nat)(l:List Nat):(⟨#[c]⟩:Str)++mk l=mk (c::l):=by
 apply BX
 rw[app_list]
 rfl
def Bf (H:Hp)(t:Addr)(ups:List Int)(lab:Str):Prop:=∃u,H t=some (.tup [.ref u,.str lab])/\H u=some (.tup (ups.map V.int))/\Br ups lab.cps.toList
theorem Bf.same {H H':Hp}{t:Addr}{ups:List Int}{lab:Str}(h:Bf H t ups lab)(s:AJ H H'):Bf H' t ups lab:=by
 obtain⟨u,a,b,c⟩:=h
 exact⟨u,s _ _ a,s _ _ b,c⟩
def Al (ups:List Int)(lab:Str)(n:Nat):List V:=(List.range n).map λj=>.str (mk (W ups lab.cps.toList j))
def C0:Sp:=λvs H Q _=>∃(t:Addr) (ups:List Int) (lab:Str),vs=[.ref t]/\Bf H t ups lab/\∀(q:Addr) (H':Hp),AJ H H'->H' q=some (.lst (Al ups lab ups.length))->Q (.ref q) H'
theorem MR (D:Df K mg "words_of" s_words_of)(B:Blt mg):Bi P w K mg base "words_of" (k+1) ["tree"] C0:=by
 refine D.has Ci (λ_ _ _ _ _ _ us hl=>match us,hl with|[_],_=>rfl) (λvs H Q E h=>by obtain⟨t,ups,lab,rfl,_⟩:=h;rfl) (λf cdv A outer s H vs Q E hr h=>?_)
 obtain⟨t,ups,lab,rfl,⟨u,ht,hu,ok⟩,q⟩:=h
 refine⟨_,(AG (AI (i:=1) Ci.nd rfl (by first|exact Or.inl rfl|exact Or.inr rfl) (AU AB))
 (AG (Bm PassesOwn.never rfl (QN rfl B.zip (AA (Ad A9 (pv 0) AF (λ_ _=>rfl)) (AA (Ad A9 (pv 0) AF (λ_ _=>rfl)) AB))) (DM rfl (Ax (Ae (i:=2) Ci.nd rfl (by first|exact Or.inl rfl|exact Or.inr rfl)) (Ax (Ae (i:=3) Ci.nd rfl (by first|exact Or.inl rfl|exact Or.inr rfl)) CU)))
 (AE (BW (BR PySem.F.plainAttrs_list PySem.F.slot_list_append PySem.F.type_list_append BC (pv 1) (AA (Aa (AL Am (pv 3) (Bn BD AF) (AQ _)) (pv 2) (AZ Ah (pv 2) (Ad Af (pv 1) (pv 3) (λ_ _=>rfl)))) AB)))))
 (AE (AY (pv 1))))),?_⟩
 have hlen:(signs lab).length=(ups.map V.int).length:=by rw[List.length_map,ok.len];simp[signs]
 refine⟨(by show 0<=sizeLine;decide),λr hr0=>?_⟩
 have s0:AJ H (upd H r (.lst [])):=(AJ.refl H).new hr0
 refine⟨_,rfl,t,_,_,_,rfl,rfl,Ca.of (s0 _ _ ht),rfl,_,rfl,t,_,_,_,rfl,rfl,Ca.of (s0 _ _ ht),rfl,.str lab,.tup u,rfl,⟨_,rfl⟩,⟨_,.inl (s0 _ _ hu)⟩,?_⟩
 refine OZ (xs:=signs lab) (ys:=ups.map V.int) (λi σ H'=>∃o1 o2:Option V,σ=[some (.ref t),some (.ref r),o1,o2]/\AJ H H'/\H' r=some (.lst (Al ups lab i))) ⟨none,none,rfl,s0,AD⟩ hlen
  (λi σ H' hi h=>by obtain⟨o1,o2,_,s1,_⟩:=h;exact⟨rfl,.inl (s1 _ _ hu)⟩) ?_ ?_
 ·rintro i x y σ H' p hx hy ⟨o1,o2,rfl,s1,hr1⟩ hp
  obtain⟨c,hc,rfl⟩:∃c,lab.cps.toList[i]?=some c/\x=.str ⟨#[c]⟩:=by
   simp only[signs,List.getElem?_map]at hx
   cases e:lab.cps.toList[i]? with
   |none=>rw[e]at hx;cases hx
   |some c=>rw[e]at hx;exact⟨c,rfl,(Option.some.inj hx).symm⟩
  obtain⟨v,hv,rfl⟩:∃v,ups[i]?=some v/\y=.int v:=by
   simp only[List.getElem?_map]at hy
   cases e:ups[i]? with
   |none=>rw[e]at hy;cases hy
   |some v=>rw[e]at hy;exact⟨v,rfl,(Option.some.inj hy).symm⟩
  have hi:i < ups.length:=(List.getElem?_eq_some_iff.mp hv).1
  have ev:ups.getD i 0=v:=by rw[List.getD_eq_getElem?_getD,hv];rfl
  have ec:lab.cps.toList.getD i 0=c:=by rw[List.getD_eq_getElem?_getD,hc];rfl
  have hm:=ok.most
  have s2:AJ H (upd H' p (.tup [.str ⟨#[c]⟩,.int v])):=s1.new hp
  have hr2:upd H' p (.tup [.str ⟨#[c]⟩,.int v]) r=some (.lst (Al ups lab i)):=by rw[AX (AV hr1 hp)];exact hr1
  have wl:(Al ups lab i).length=i:=by simp[Al]
  have step:Al ups lab (i+1)=Al ups lab i++[.str (mk (W ups lab.cps.toList i))]:=by
   unfold Al
   rw[List.range_succ,List.map_append];rfl
  refine⟨p,_,rfl,Ca.of AD,rfl,_,_,rfl,_,_,rfl,rfl,?_⟩
  refine⟨_,rfl,.inl ⟨rfl,_,An.of hr2⟩,_,rfl,_,rfl,rfl,_,rfl,Ht (λcnd=>?_) (λcnd=>?_)⟩
  ·have e1:V.int v=V.int (-1):=of_decide_eq_true cnd
   have e2:v=-1:=by injection e1
   have ew:W ups lab.cps.toList i=[c]:=by rw[JV ok hi,ev,ec,if_pos (by omega)]
   refine⟨_,rfl,r,_,_,rfl,rfl,hr2,by rw[wl];exact Av (by omega),⟨_,_,rfl,s2.write hr0,?_⟩⟩
   rw[AD,step,ew]
   rfl
  ·have e1:¬V.int v=V.int (-1):=of_decide_eq_false (Bool.eq_false_iff.mpr cnd)
   have e2:v≠-1:=λz=>e1 (by rw[z])
   have e3:¬v < 0:=by
    have:=ok.neg hi
    rw[ev]at this
    omega
   have lt:=ok.lt hi (by rw[ev];exact e3)
   rw[ev]at lt
   have hat:DP (Al ups lab i) v=some (.str (mk (W ups lab.cps.toList v.toNat))):=by
    have e:DP (Al ups lab i) ((v.toNat:Nat):Int)=some (.str (mk (W ups lab.cps.toList v.toNat))):=A4 (by
     unfold Al
     rw[List.getElem?_map,List.getElem?_range lt];rfl)
    rw[show((v.toNat:Nat):Int)=v by omega]at e
    exact e
   have wle:=F5 ok (v.toNat+1) v.toNat (by omega) (by omega)
   have ew:W ups lab.cps.toList i=c::W ups lab.cps.toList v.toNat:=by rw[JV ok hi,ev,ec,if_neg e3]
   refine⟨_,rfl,_,rfl,_,rfl,r,_,_,_,rfl,rfl,An.of hr2,hat,_,_,rfl,rfl,?_,r,_,_,rfl,rfl,hr2,by rw[wl];exact Av (by omega),⟨_,_,rfl,s2.write hr0,?_⟩⟩
   ·rw[Ai]
    have:(⟨#[c]⟩:Str).length=1:=rfl
    rw[this]
    exact Nat.le_of_lt (Av (by omega))
   ·rw[AD,step,ew,NU]
 ·rintro σ H' ⟨o1,o2,rfl,s1,hr1⟩
  refine⟨_,rfl,q r H' s1 ?_⟩
  rw[hr1]
  congr 2
  simp[signs,ok.len]
theorem LK {us:List Int}{i:Int}(h0:0<=i)(h1:i < (us.length:Int)):DP (us.map V.int) i=some (.int (us.getD i.toNat 0)):=by
 have hk:i.toNat < us.length:=by omega
 have e:=A4 (xs:=us.map V.int) (j:=i.toNat) (v:=.int (us.getD i.toNat 0)) (by rw[List.getElem?_map,List.getElem?_eq_getElem hk,List.getD_eq_getElem?_getD,List.getElem?_eq_getElem hk];rfl)
 rw[show((i.toNat:Nat):Int)=i by omega]at e
 exact e
abbrev Lw (c:Nat):Prop:=97<=c/\c < 123
theorem IT:∀c∈(Str.ofString "abcdefghijklmnopqrstuvwxyz").cps.toList,Lw c:=by decide+kernel
theorem Oo {i:Int}(h0:0<=i)(h1:i < 26):∃c,DP (Str.ofString "abcdefghijklmnopqrstuvwxyz").cps.toList i=some c/\Lw c:=by
 have hl:(Str.ofString "abcdefghijklmnopqrstuvwxyz").cps.toList.length=26:=by decide+kernel
 have hk:i.toNat < (Str.ofString "abcdefghijklmnopqrstuvwxyz").cps.toList.length:=by omega
 have e:=A4 (xs:=(Str.ofString "abcdefghijklmnopqrstuvwxyz").cps.toList) (j:=i.toNat) (List.getElem?_eq_getElem hk)
 rw[show((i.toNat:Nat):Int)=i by omega]at e
 exact⟨_,e,IT _ (List.getElem_mem hk)⟩
structure Kh (us:List Int):Prop where
 pos:0 < us.length
 root:us.getD 0 0=-1
 up:∀k,0 < k->k < us.length->0<=us.getD k 0/\us.getD k 0 < (k:Int)
theorem Jf {us vs:List Int}{j:Nat}:(us++vs).getD j 0=if j < us.length then us.getD j 0 else vs.getD (j - us.length) 0:=by
 simp only[List.getD_eq_getElem?_getD]
 split
 ·rename_i h;rw[List.getElem?_append_left h]
 ·rename_i h;rw[List.getElem?_append_right (by omega)]
theorem Kh.snoc {us:List Int}(g:Kh us){v:Int}(h0:0<=v)(h1:v < (us.length:Int)):Kh (us++[v]) where
 pos:=by rw[List.length_append];have:=g.pos;omega
 root:=by rw[Jf,if_pos g.pos];exact g.root
 up:=λj hj hl=>by
  rw[List.length_append,List.length_singleton]at hl
  rw[Jf]
  split
  ·rename_i h;exact g.up j hj h
  ·rename_i h
   have e:j=us.length:=by omega
   subst e
   rw[Nat.sub_self]
   exact⟨h0,h1⟩
theorem Kh.one:Kh [-1]:=⟨by decide,rfl,λj h0 h1=>by
 have:j < 1:=h1
 omega⟩
theorem mem_getD {us:List Int}{j:Nat}(h:j < us.length):us.getD j 0∈us:=by
 rw[List.getD_eq_getElem?_getD,List.getElem?_eq_getElem h]
 exact List.getElem_mem h
theorem Bf.kd {H H':Hp}{p t:Addr}{c d:Int}{ups:List Int}{lab:Str}(h:Bf H t ups lab)(hp:Co H p c)(s:Kd p d H H'):Bf H' t ups lab:=by
 obtain⟨u,a,b,e⟩:=h
 exact⟨u,s.keep _ _ (K5 hp a (λ_ _ _ z=>nomatch z)) a,s.keep _ _ (K5 hp b (λ_ _ _ z=>nomatch z)) b,e⟩
theorem NV {n:Int}(h0:0<=n)(h1:n < 7):∃v:Int,DP [V.int 2147483629,.int 2147483587,.int 2147483579,.int 2147483563,.int 2147483549,.int 2147483543,.int 2147483497] n=some (.int v)/\0 < v/\v<=2147483629:=by
 have:n=0\/n=1\/n=2\/n=3\/n=4\/n=5\/n=6:=by omega
 rcases this with rfl|rfl|rfl|rfl|rfl|rfl|rfl<;>exact⟨_,rfl,by decide,by decide⟩
def Jg:Sp:=λvs H Q _=>∃cell j:Int,vs=[.int cell,.int j]/\0<=j/\j<=10000000/\∀(n:Int) (H':Hp),AJ H H'->Q (.int n) H'
theorem MS (D:Df K mg "_law_mixed" s_law_mixed)(B:Blt mg):Bi P w K mg base "_law_mixed" (k+1) ["cell","k"] Jg:=by
 refine D.has CC (λ_ _ _ _ _ _ us hl=>match us,hl with|[_,_],_=>rfl) (λvs H Q E h=>by obtain⟨a,i,rfl,_⟩:=h;rfl) (λf cdv A outer s H vs Q E hr h=>?_)
 obtain⟨cell,j,rfl,j0,j1,q⟩:=h
 refine⟨_,(AG (AI (i:=2) CC.nd rfl (by first|exact Or.inl rfl|exact Or.inr rfl) (AU (AA AF (AA AF (AA AF (AA AF (AA AF (AA AF (AA AF AB)))))))))
 (AG (AI (i:=3) CC.nd rfl (by first|exact Or.inl rfl|exact Or.inr rfl) (AZ Cn (AZ BM (AZ BM (AZ DN (AZ Cn (pv 0) AF) (AZ BM (AZ DN AF (pv 1)) AF)) (AZ DN AF (pv 1))) AF) (Ad Af (pv 2) (AZ Cn (pv 1) AF) (λ_ _=>rfl))))
 (AG (AI (i:=3) CC.nd rfl (by first|exact Or.inl rfl|exact Or.inr rfl) (AZ Cn (AZ DN (pv 3) (pv 3)) (Ad Af (pv 2) (AZ Cn (AZ BM (pv 1) AF) AF) (λ_ _=>rfl))))
 (AG (AI (i:=3) CC.nd rfl (by first|exact Or.inl rfl|exact Or.inr rfl) (AZ Cn (AZ Mp (AZ BM (AZ BM (AZ DN (pv 3) AF) (AZ DN AF (pv 1))) AF) AF) (Ad Af (pv 2) (AZ Cn (AZ BM (pv 1) AF) AF) (λ_ _=>rfl))))
 (AE (AY (AZ Ku (pv 3) AF))))))),?_⟩
 refine⟨(by show 7<=sizeLine;decide),λr hr0=>?_⟩
 have hp:upd H r (.lst [V.int 2147483629,.int 2147483587,.int 2147483579,.int 2147483563,.int 2147483549,.int 2147483543,.int 2147483497]) r=_:=AD
 have s0:AJ H (upd H r (.lst [V.int 2147483629,.int 2147483587,.int 2147483579,.int 2147483563,.int 2147483549,.int 2147483543,.int 2147483497])):=(AJ.refl H).new hr0
 generalize upd H r (.lst [V.int 2147483629,.int 2147483587,.int 2147483579,.int 2147483563,.int 2147483549,.int 2147483543,.int 2147483497])=H1 at hp s0
 have m0:0<=cell % 2147483647:=Int.emod_nonneg _ (by decide)
 have m1:cell % 2147483647 < 2147483647:=Int.emod_lt_of_pos _ (by decide)
 obtain⟨v1,hv1,a0,a1⟩:=NV (n:=j % 7) (Int.emod_nonneg _ (by decide)) (Int.emod_lt_of_pos _ (by decide))
 refine⟨_,rfl,_,_,rfl,rfl,(by decide:(0:Int) < 2147483647),_,rfl,_,_,rfl,rfl,.inl ⟨by decide,by decide⟩,_,_,rfl,rfl,_,_,rfl,rfl,.inl ⟨by omega,by omega⟩,_,rfl,_,_,rfl,rfl,.inl ⟨by decide,by decide⟩,_,_,rfl,rfl,_,_,rfl,rfl,
  _,rfl,_,rfl,_,_,rfl,rfl,(by decide:(0:Int) < 7),r,_,_,_,rfl,rfl,An.of hp,hv1,_,_,rfl,rfl,a0,?_⟩
 have b0:=Int.emod_nonneg (cell % 2147483647*(2*j+3)+104729*j+977) (show v1≠0 by omega)
 have b1:=Int.emod_lt_of_pos (cell % 2147483647*(2*j+3)+104729*j+977) a0
 obtain⟨v2,hv2,c0,c1⟩:=NV (n:=(j+3) % 7) (Int.emod_nonneg _ (by decide)) (Int.emod_lt_of_pos _ (by decide))
 refine⟨_,rfl,_,rfl,_,_,rfl,rfl,.inl ⟨by omega,by omega⟩,_,rfl,_,rfl,_,_,rfl,rfl,_,_,rfl,rfl,(by decide:(0:Int) < 7),r,_,_,_,rfl,rfl,An.of hp,hv2,_,_,rfl,rfl,c0,?_⟩
 have d0:=Int.emod_nonneg ((cell % 2147483647*(2*j+3)+104729*j+977) % v1*((cell % 2147483647*(2*j+3)+104729*j+977) % v1)) (show v2≠0 by omega)
 have d1:=Int.emod_lt_of_pos ((cell % 2147483647*(2*j+3)+104729*j+977) % v1*((cell % 2147483647*(2*j+3)+104729*j+977) % v1)) c0
 obtain⟨v3,hv3,e0,e1⟩:=NV (n:=(j+5) % 7) (Int.emod_nonneg _ (by decide)) (Int.emod_lt_of_pos _ (by decide))
 refine⟨_,rfl,_,_,rfl,rfl,.inr ⟨by decide,by decide⟩,_,rfl,_,_,rfl,rfl,.inl ⟨by decide,by decide⟩,_,_,rfl,rfl,_,_,rfl,rfl,_,_,rfl,rfl,⟨by decide,by decide,by omega⟩,_,rfl,_,rfl,_,_,rfl,rfl,_,_,rfl,rfl,(by decide:(0:Int) < 7),r,_,_,_,rfl,rfl,An.of hp,hv3,_,_,rfl,rfl,e0,?_⟩
 exact⟨_,rfl,_,_,rfl,rfl,⟨by decide,by decide⟩,q _ _ s0⟩
def LL:Sp:=λvs H Q _=>∃cell i:Int,vs=[.int cell,.int i]/\∀(p:Addr) (x y:Int),H p=none->Q (.ref p) (upd H p (.lst [.int x,.int y,.int (40*i)]))
theorem NW (D:Df K mg "_law_deck" s_law_deck)(B:Blt mg):Bi P w K mg base "_law_deck" (k+1) ["cell","at"] LL:=by
 refine D.has Jb (λ_ _ _ _ _ _ us hl=>match us,hl with|[_,_],_=>rfl) (λvs H Q E h=>by obtain⟨a,i,rfl,_⟩:=h;rfl) (λf cdv A outer s H vs Q E hr h=>?_)
 obtain⟨cell,i,rfl,q⟩:=h
 refine⟨_,(AE (AY (AU (AA (AZ DN (pv 0) (BI Dk rfl B.int_ Fp (AA (Bg Mr (pv 0) (AZ Mp AF AF) (AQ _)) AB))) (AA (pv 0) (AA (AZ DN AF (pv 1)) AB)))))),?_⟩
 refine⟨_,rfl,_,rfl,_,_,rfl,rfl,⟨by decide,by decide,by decide⟩,_,_,rfl,rfl,.inr ⟨_,rfl,?_⟩⟩
 refine⟨_,_,rfl,rfl,.inr ⟨?_,?_⟩,_,rfl,_,rfl,_,_,rfl,rfl,.inl ⟨by decide,by decide⟩,(by show 3<=sizeLine;decide),λp hp=>q p _ _ hp⟩
 ·split<;>decide
 ·split<;>decide
def DA:Sp:=λvs H Q _=>∃(p:Addr) (m c:Int),vs=[.ref p,.int m]/\Co H p c/\c < 1000000/\0 < m/\m < 1073741824/\∀(n:Int) (H':Hp),0<=n->n < m->Kd p (c+1) H H'->Q (.int n) H'
theorem NX (D:Df K mg "_law_draw" s_law_draw)(B:Blt mg)(G_law_mixed:Bi P w K mg base "_law_mixed" k ["cell","k"] Jg):Bi P w K mg base "_law_draw" (k+1) ["deck_here","many"] DA:=by
 refine D.has FH (λ_ _ _ _ _ _ us hl=>match us,hl with|[_,_],_=>rfl) (λvs H Q E h=>by obtain⟨a,i,c,rfl,_⟩:=h;rfl) (λf cdv A outer s H vs Q E hr h=>?_)
 obtain⟨p,m,c,rfl,⟨x,y,z,hp,z0,z1⟩,c6,m0,m1,q⟩:=h
 refine⟨_,(AG (Ag (AL Ip (Ad Af (pv 0) AF (λ_ _=>rfl)) AF (AQ _))
 (AG (AI (i:=2) FH.nd rfl (by first|exact Or.inl rfl|exact Or.inr rfl) (AZ Cn (Ad Af (pv 0) AF (λ_ _=>rfl)) (pv 1)))
 (AG (Ek (AZ Ku (Ad Af (pv 0) AF (λ_ _=>rfl)) (pv 1)) (Fc (pv 0) AF set_list))
 (AE (AY (pv 2)))))
 Aq)
 (AG (Ek (AZ BM (Ad Af (pv 0) AF (λ_ _=>rfl)) AF) (Fc (pv 0) AF set_list))
 (AE (AY (AZ Cn (AR G_law_mixed hr rfl (AA (Ad Af (pv 0) AF (λ_ _=>rfl)) (AA (Ad Af (pv 0) AF (λ_ _=>rfl)) AB))) (pv 1)))))),?_⟩
 refine⟨_,rfl,p,_,_,_,rfl,rfl,An.of hp,rfl,_,_,rfl,rfl,_,rfl,Ht (λcnd=>?_) (λcnd=>?_)⟩
 ·refine⟨_,rfl,p,_,_,_,rfl,rfl,An.of hp,rfl,_,rfl,_,_,rfl,rfl,m0,?_⟩
  refine⟨_,rfl,p,_,_,_,rfl,rfl,An.of hp,rfl,_,rfl,_,_,rfl,rfl,⟨m0,m1⟩,?_⟩
  refine⟨_,rfl,p,_,_,0,rfl,rfl,hp,rfl,_,rfl,?_⟩
  exact q _ _ (Int.emod_nonneg _ (by omega)) (Int.emod_lt_of_pos _ m0) ⟨⟨_,y,z,AD,z0,by omega⟩,λb o hb e=>by rw[AX hb];exact e⟩
 ·refine⟨_,rfl,p,_,_,_,rfl,rfl,An.of hp,rfl,_,_,rfl,rfl,?_⟩
  refine⟨_,rfl,p,_,_,2,rfl,rfl,hp,rfl,?_⟩
  have hp':upd H p (.lst [.int x,.int y,.int (z+1)]) p=some (.lst [.int x,.int y,.int (z+1)]):=AD
  have kd:Kd p (c+1) H (upd H p (.lst [.int x,.int y,.int (z+1)])):=⟨⟨x,y,z+1,AD,by omega,by omega⟩,λb o hb e=>by rw[AX hb];exact e⟩
  refine⟨_,rfl,p,_,_,_,rfl,rfl,An.of hp',rfl,_,rfl,p,_,_,_,rfl,rfl,An.of hp',rfl,_,_,rfl,by omega,by omega,λn H' s1=>?_⟩
  refine⟨_,rfl,_,_,rfl,rfl,m0,?_⟩
  exact q _ _ (Int.emod_nonneg _ (by omega)) (Int.emod_lt_of_pos _ m0) (kd.same s1)
def Eb:Sp:=λvs H Q _=>∃(p:Addr) (c:Int),Co H p c/\c < 1000000/\
 ((∃(q:Addr) (xs:List V),vs=[.ref p,.ref q]/\H q=some (.lst xs)/\q≠p/\0 < xs.length/\xs.length<=1000/\∀(v:V) (H':Hp),v∈xs->Kd p (c+1) H H'->Q v H')\/
  (∃z:Str,vs=[.ref p,.str z]/\0 < z.length/\z.length<=1000/\∀(ch:Nat) (H':Hp),ch∈z.cps.toList->Kd p (c+1) H H'->Q (.str ⟨#[ch]⟩) H'))
theorem NY (D:Df K mg "_law_some" s_law_some)(B:Blt mg)(G_law_draw:Bi P w K mg base "_law_draw" k ["deck_here","many"] DA):Bi P w K mg base "_law_some" (k+1) ["deck_here","things"] Eb:=by
 refine D.has Jc (λ_ _ _ _ _ _ us hl=>match us,hl with|[_,_],_=>rfl) (λvs H Q E h=>by obtain⟨p,c,_,_,⟨q,xs,rfl,_⟩|⟨z,rfl,_⟩⟩:=h<;>rfl) (λf cdv A outer s H vs Q E hr h=>?_)
 obtain⟨p,c,hd,c6,⟨r,xs,rfl,hr0,hne,x0,x1,q⟩|⟨z,rfl,z0,z1,q⟩⟩:=h
 ·refine⟨_,(AE (AY (Ad Mu (pv 1) (AR G_law_draw hr rfl (AA (pv 0) (AA (AN Iq rfl B.len Ar (AA (pv 1) AB)) AB))) (λ_ _=>rfl)))),?_⟩
  refine⟨_,rfl,_,rfl,_,rfl,_,_,rfl,.inl ⟨_,An.of hr0,rfl⟩,p,_,c,rfl,hd,c6,by omega,by omega,λn H' n0 n1 kd=>?_⟩
  have hk:n.toNat < xs.length:=by omega
  have e:=A4 (xs:=xs) (j:=n.toNat) (List.getElem?_eq_getElem hk)
  rw[show((n.toNat:Nat):Int)=n by omega]at e
  exact .inl ⟨r,_,_,_,rfl,rfl,An.of (kd.keep _ _ hne hr0),e,q _ _ (List.getElem_mem hk) kd⟩
 ·refine⟨_,(AE (AY (Ad Mu (pv 1) (AR G_law_draw hr rfl (AA (pv 0) (AA (AN Iq rfl B.len Ar (AA (pv 1) AB)) AB))) (λ_ _=>rfl)))),?_⟩
  refine⟨_,rfl,_,rfl,_,rfl,_,_,rfl,⟨Nat.le_of_lt (Av z1),rfl⟩,p,_,c,rfl,hd,c6,by omega,by omega,λn H' n0 n1 kd=>?_⟩
  have hzl:z.length=z.cps.toList.length:=by simp[Str.length]
  have hk:n.toNat < z.cps.toList.length:=by omega
  have e:=A4 (xs:=z.cps.toList) (j:=n.toNat) (List.getElem?_eq_getElem hk)
  rw[show((n.toNat:Nat):Int)=n by omega]at e
  exact .inr (.inr ⟨_,_,_,rfl,rfl,Nat.le_of_lt (Av z1),e,q _ _ (List.getElem_mem hk) kd⟩)
def E6:Sp:=λvs H Q _=>∃(p:Addr) (c:Int),vs=[.ref p]/\Co H p c/\c < 1000000/\∀(ch:Nat) (H':Hp),Lw ch->Kd p (c+1) H H'->Q (.str ⟨#[ch]⟩) H'
theorem Ki (D:Df K mg "_law_letter" s_law_letter)(B:Blt mg)(G_law_draw:Bi P w K mg base "_law_draw" k ["deck_here","many"] DA):Bi P w K mg base "_law_letter" (k+1) ["deck_here"] E6:=by
 refine D.has Gh (λ_ _ _ _ _ _ us hl=>match us,hl with|[_],_=>rfl) (λvs H Q E h=>by obtain⟨p,c,rfl,_⟩:=h;rfl) (λf cdv A outer s H vs Q E hr h=>?_)
 obtain⟨p,c,rfl,hd,c6,q⟩:=h
 refine⟨_,(AE (AY (Ad C7 AS (AR G_law_draw hr rfl (AA (pv 0) (AA AF AB))) (λ_ _=>rfl)))),?_⟩
 refine⟨_,rfl,p,26,c,rfl,hd,c6,by decide,by decide,λn H' n0 n1 kd=>?_⟩
 obtain⟨ch,hc,lw⟩:=Oo n0 n1
 refine⟨_,_,_,rfl,rfl,?_,hc,q _ _ lw kd⟩
 show(Str.ofString "abcdefghijklmnopqrstuvwxyz").length<=sizeLine
 have:(Str.ofString "abcdefghijklmnopqrstuvwxyz").length=26:=by decide+kernel
 rw[this];decide
end
end S61
namespace S61
open PySem L2 W7
section
variable {P:Program}{w:World}{K:PySem.W.Frag}{mg:Str->Option Value}{base:Heap}{k:Nat}
theorem GA (xs:Array Nat)(P:Nat->Prop)(h:∀a∈xs.toList,P a):∀(n:Nat) (acc:Array Nat),(∀a∈acc.toList,P a)->∀a∈((List.replicate n xs).foldl (·++·) acc).toList,P a
 |0,acc,g=>g
 |n+1,acc,g=>by
  rw[List.replicate_succ,List.foldl_cons]
  refine GA xs P h n _ λa ha=>?_
  rw[Array.toList_append]at ha
  exact(List.mem_append.mp ha).elim (g a) (h a)
theorem Oq {ch:Nat}(h:Lw ch)(n:Int):∀a∈(Txt.mul ⟨#[ch]⟩ n).cps.toList,Lw a:=by
 have one:∀a∈(#[ch]:Array Nat).toList,Lw a:=λa ha=>by rw[show a=ch by simpa using ha];exact h
 unfold Txt.mul
 split
 ·exact λa ha=>by cases ha
 ·split
  ·exact one
  ·exact GA _ _ one _ _ λa ha=>by cases ha
def LM:Sp:=λvs H Q _=>∃(p:Addr) (most c:Int),vs=[.ref p,.int most]/\Co H p c/\0<=c/\c < 900000/\1<=most/\most<=60/\∀(t:Addr) (ups:List Int) (lab:Str) (H':Hp),Kd p (c+250) H H'->Bf H' t ups lab->(∀x∈lab.cps.toList,Lw x)->(ups.length:Int)<=most->Q (.ref t) H'
theorem NZ (D:Df K mg "_law_tree" s_law_tree)(B:Blt mg)(G_law_draw:Bi P w K mg base "_law_draw" k ["deck_here","many"] DA)(G_law_some:Bi P w K mg base "_law_some" k ["deck_here","things"] Eb)
 (G_law_letter:Bi P w K mg base "_law_letter" k ["deck_here"] E6):Bi P w K mg base "_law_tree" (k+1) ["deck_here","most"] LM:=by
 refine D.has Aw (λ_ _ _ _ _ _ us hl=>match us,hl with|[_,_],_=>rfl) (λvs H Q E h=>by obtain⟨p,m,c,rfl,_⟩:=h;rfl) (λf cdv A outer s H vs Q E hr h=>?_)
 obtain⟨p,most,c,rfl,hd,cc0,cc1,ms1,ms60,q⟩:=h
 refine⟨_,(AG (AI (i:=2) Aw.nd rfl (by first|exact Or.inl rfl|exact Or.inr rfl) (AR G_law_some hr rfl (AA (pv 0) (AA (AU (AA (AZ BM AF (AR G_law_draw hr rfl (AA (pv 0) (AA (pv 1) AB)))) (AA (AZ BM AF (AR G_law_draw hr rfl (AA (pv 0) (AA (AN (Dj rfl) rfl B.min Hy (AA (pv 1) (AA AF AB))) AB)))) (AA (pv 1) AB)))) AB))))
 (AG (AI (i:=3) Aw.nd rfl (by first|exact Or.inl rfl|exact Or.inr rfl) (AR G_law_draw hr rfl (AA (pv 0) (AA AF AB))))
 (AG (AI (i:=4) Aw.nd rfl (by first|exact Or.inl rfl|exact Or.inr rfl) (AR G_law_letter hr rfl (AA (pv 0) AB)))
 (AG (AI (i:=5) Aw.nd rfl (by first|exact Or.inl rfl|exact Or.inr rfl) (AR G_law_some hr rfl (AA (pv 0) (AA (AU (AA (pv 4) (AA (AZ Ah AS (pv 4)) (AA AS (AA (AZ Ah AS (pv 4)) (AA AS AB)))))) AB))))
 (AG (AI (i:=6) Aw.nd rfl (by first|exact Or.inl rfl|exact Or.inr rfl) (AU (AA (Bn BD AF) AB)))
 (AG (AI (i:=7) Aw.nd rfl (by first|exact Or.inl rfl|exact Or.inr rfl) (AR G_law_some hr rfl (AA (pv 0) (AA (pv 5) AB))))
 (AG (Bm PassesOwn.never rfl (Em rfl B.range (AA AF (AA (pv 2) AB))) (Ae (i:=8) Aw.nd rfl (by first|exact Or.inl rfl|exact Or.inr rfl))
 (AG (AI (i:=9) Aw.nd rfl (by first|exact Or.inl rfl|exact Or.inr rfl) (AU (AA (AZ Bx (pv 8) AF) AB)))
 (AG (Im PassesOwn.never (AL Mr (Ad Af (pv 6) (Ad Af (pv 9) (Bn BD AF) (λ_ _=>rfl)) (λ_ _=>rfl)) AF (AQ _))
 (AE (BW (BR PySem.F.plainAttrs_list PySem.F.slot_list_append PySem.F.type_list_append BC (pv 9) (AA (Ad Af (pv 6) (Ad Af (pv 9) (Bn BD AF) (λ_ _=>rfl)) (λ_ _=>rfl)) AB)))))
 (AG (AI (i:=10) Aw.nd rfl (by first|exact Or.inl rfl|exact Or.inr rfl) (Ad Af (AU (AA AF (AA (AZ Bx (AN Aj rfl B.len Ar (AA (pv 9) AB)) AF) (AA (AZ Cn (pv 8) AF) (AA (AR G_law_draw hr rfl (AA (pv 0) (AA (AN Aj rfl B.len Ar (AA (pv 9) AB)) AB))) (AA (AN (Dj rfl) rfl B.min Hy (AA (AZ Bx (AN Aj rfl B.len Ar (AA (pv 9) AB)) AF) (AA (AR G_law_draw hr rfl (AA (pv 0) (AA AF AB))) AB))) (AA (AZ Bx (AZ Bx (AN Aj rfl B.len Ar (AA (pv 9) AB)) AF) (AN (Dj rfl) rfl B.min Hy (AA (AZ Bx (AN Aj rfl B.len Ar (AA (pv 9) AB)) AF) (AA (AR G_law_draw hr rfl (AA (pv 0) (AA AF AB))) AB)))) AB))))))) (pv 3) (λ_ _=>rfl)))
 (AG (BW (BR PySem.F.plainAttrs_list PySem.F.slot_list_append PySem.F.type_list_append BC (pv 6) (AA (Ad Af (pv 9) (AN (Dj rfl) rfl B.min Hy (AA (pv 10) (AA (AZ Bx (AN Aj rfl B.len Ar (AA (pv 9) AB)) AF) AB))) (λ_ _=>rfl)) AB)))
 (AE (AI (i:=7) Aw.nd rfl (by first|exact Or.inl rfl|exact Or.inr rfl) (AZ Ah (pv 7) (AR G_law_some hr rfl (AA (pv 0) (AA (pv 5) AB)))))))))))
 (AG (Ag (AL Am (AR G_law_draw hr rfl (AA (pv 0) (AA AF AB))) AF (AQ _))
 (AG (AI (i:=11) Aw.nd rfl (by first|exact Or.inl rfl|exact Or.inr rfl) (AR G_law_draw hr rfl (AA (pv 0) (AA (pv 2) AB))))
 (AE (AI (i:=7) Aw.nd rfl (by first|exact Or.inl rfl|exact Or.inr rfl) (AZ Ah (AZ Ah (AZ Ce (pv 4) (pv 11)) (AR G_law_letter hr rfl (AA (pv 0) AB))) (AZ Ce (pv 4) (AZ Bx (AZ Bx (pv 2) (pv 11)) AF))))))
 Aq)
 (AE (AY (Bc (AA (BI CI rfl B.tuple_ DV (AA (pv 6) AB)) (AA (pv 7) AB))))))))))))),?_⟩
 refine⟨_,rfl,_,rfl,_,rfl,p,most,c,rfl,hd,by omega,by omega,by omega,λn1 H1 a0 a1 kd1=>?_⟩
 refine⟨_,_,rfl,rfl,_,rfl,_,rfl,_,_,rfl,p,_,c+1,rfl,kd1.deck,by omega,?_,?_,λn2 H2 b0 b1 kd2=>?_⟩
 ·split<;>omega
 ·split<;>omega
 have b2:n2 < 8/\n2 < most:=by
  revert b1;split<;>omega
 refine⟨_,_,rfl,rfl,_,rfl,(by show 3<=sizeLine;decide),λr hr0=>?_⟩
 have kq2:=((kd1.trans kd2).new (o:=.lst [.int (1+n1),.int (1+n2),.int most]) hr0)
 refine⟨p,_,kq2.deck,by omega,.inl ⟨r,_,rfl,AD,kd2.deck.ne hr0,(by show 0 < 3;decide),(by show 3<=1000;decide),λv H3 hv kd3=>?_⟩⟩
 obtain⟨many,rfl,mn1,mn60,mnm⟩:∃m:Int,v=.int m/\1<=m/\m<=60/\m<=most:=by
  simp only[List.mem_cons,List.not_mem_nil,or_false]at hv
  rcases hv with rfl|rfl|rfl
  ·exact⟨_,rfl,by omega,by omega,by omega⟩
  ·exact⟨_,rfl,by omega,by omega,by omega⟩
  ·exact⟨_,rfl,by omega,by omega,by omega⟩
 have ku3:=kq2.trans kd3
 refine⟨_,rfl,p,6,_,rfl,ku3.deck,by omega,by decide,by decide,λway H4 c0 c1 kd4=>?_⟩
 have ku4:=ku3.trans kd4
 refine⟨_,rfl,p,_,rfl,ku4.deck,by omega,λch H5 lch kd5=>?_⟩
 have ku5:=ku4.trans kd5
 have own1:(⟨#[ch]⟩:Str).length=1:=rfl
 have l1:(Str.ofString "a").length=1:=by decide+kernel
 have l2:(Str.ofString "ab").length=2:=by decide+kernel
 have l3:(Str.ofString "aab").length=3:=by decide+kernel
 have l4:(Str.ofString "abcdefghijklmnopqrstuvwxyz").length=26:=by decide+kernel
 have la:∀x y:Str,(x++y).length=x.length+y.length:=λx y=>by
  have:=congrArg List.length (app_list x y)
  rw[List.length_append]at this
  simpa[Str.length]using this
 refine⟨_,rfl,_,rfl,_,rfl,_,_,rfl,rfl,by rw[l1,own1];decide,_,rfl,_,_,rfl,rfl,by rw[l3,own1];decide,(by show 5<=sizeLine;decide),λr5 hr5=>?_⟩
 have kq5:=ku5.new (o:=.lst [.str ⟨#[ch]⟩,.str (Str.ofString "a"++⟨#[ch]⟩),.str (Str.ofString "ab"),.str (Str.ofString "aab"++⟨#[ch]⟩),.str (Str.ofString "abcdefghijklmnopqrstuvwxyz")]) hr5
 refine⟨p,_,kq5.deck,by omega,.inl ⟨r5,_,rfl,AD,ku5.deck.ne hr5,(by show 0 < 5;decide),(by show 5<=1000;decide),λv H6 hv kd6=>?_⟩⟩
 have lap:∀x y:Str,(∀a∈x.cps.toList,Lw a)->(∀a∈y.cps.toList,Lw a)->∀a∈(x++y).cps.toList,Lw a:=λx y h1 h2 a ha=>by
  rw[app_list]at ha
  rcases List.mem_append.mp ha with ha|ha
  ·exact h1 a ha
  ·exact h2 a ha
 have lo1:∀a∈(⟨#[ch]⟩:Str).cps.toList,Lw a:=λa ha=>by rw[show a=ch by simpa using ha];exact lch
 have lo2:∀a∈(Str.ofString "a").cps.toList,Lw a:=by decide+kernel
 have lo3:∀a∈(Str.ofString "ab").cps.toList,Lw a:=by decide+kernel
 have lo4:∀a∈(Str.ofString "aab").cps.toList,Lw a:=by decide+kernel
 obtain⟨z,rfl,z0,z1,zlo⟩:∃z:Str,v=.str z/\0 < z.length/\z.length<=1000/\∀a∈z.cps.toList,Lw a:=by
  simp only[List.mem_cons,List.not_mem_nil,or_false]at hv
  rcases hv with rfl|rfl|rfl|rfl|rfl
  ·exact⟨_,rfl,by omega,by omega,lo1⟩
  ·exact⟨_,rfl,by rw[la];omega,by rw[la];omega,lap _ _ lo2 lo1⟩
  ·exact⟨_,rfl,by omega,by omega,lo3⟩
  ·exact⟨_,rfl,by rw[la];omega,by rw[la];omega,lap _ _ lo4 lo1⟩
  ·exact⟨_,rfl,by omega,by omega,IT⟩
 have ku6:=kq5.trans kd6
 refine⟨_,rfl,(by show 1<=sizeLine;decide),λu hu0=>?_⟩
 have kq6:=ku6.new (o:=.lst [.int (-1)]) hu0
 have hup:u≠p:=ku6.deck.ne hu0
 have hHu:H u=none:=ku6.fresh hu0
 refine⟨_,rfl,_,rfl,p,_,kq6.deck,by omega,.inr ⟨z,rfl,z0,z1,λch7 H7 lm7 kd7=>?_⟩⟩
 have ku7:=(kq6.trans kd7).mono (show c+1+1+1+1+1+1+1<=c+7 by omega)
 have hu7:H7 u=some (.lst [.int (-1)]):=kd7.keep _ _ hup AD
 refine⟨_,rfl,1,many,rfl,⟨by decide,by decide,by omega,by omega⟩,?_⟩
 refine Eo (lo:=1) (n:=(many - 1).toNat) (λi σ H'=>∃(us:List Int) (ls:List Nat) (tx:Str) (o8 o9 o10:Option V),
  σ=[some (.ref p),some (.int most),some (.int many),some (.int way),some (.str ⟨#[ch]⟩),some (.str z),some (.ref u),some (.str tx),o8,o9,o10,none]/\tx=mk ls/\Kd p (c+7+4*i) H H'/\H' u=some (.lst (us.map V.int))/\
  us.length=i+1/\ls.length=i+1/\Kh us/\∀a∈ls,Lw a)
  ⟨[-1],[ch7],_,none,none,none,rfl,rfl,ku7.mono (by omega),hu7,rfl,rfl,Kh.one,λa ha=>by rw[List.mem_singleton.mp ha];exact zlo _ lm7⟩ ?_ ?_
 ·rintro i σ H' hi ⟨us,ls,tx,o8,o9,o10,rfl,rfl,kd,hu,hlen,hls,gr,lls⟩
  have hul:(us.map V.int).length=us.length:=List.length_map _
  refine⟨_,rfl,_,_,rfl,rfl,(by show 1<=sizeLine;decide),λr1 hr1=>?_⟩
  have ur1:u≠r1:=AV hu hr1
  have rp1:r1≠p:=kd.deck.ne hr1
  refine⟨λm σ H''=>∃(rs:List Int) (last:Int),σ=[some (.ref p),some (.int most),some (.int many),some (.int way),some (.str ⟨#[ch]⟩),some (.str z),some (.ref u),some (.str (mk ls)),some (.int (1+(i:Int))),some (.ref r1),o10,none]/\
   H''=upd H' r1 (.lst ((rs++[last]).map V.int))/\0<=last/\last < 1+(i:Int)/\(∀v∈rs,0<=v/\v < 1+(i:Int))/\m=last.toNat/\rs.length+last.toNat<=60,⟨_,[],1+(i:Int) - 1,rfl,rfl,by omega,by omega,by simp,rfl,by simp;omega⟩,?_⟩
  rintro m σ H'' ⟨rs,last,rfl,rfl,la0,la1,hrs,rfl,hrl⟩
  have hu'':upd H' r1 (.lst ((rs++[last]).map V.int)) u=some (.lst (us.map V.int)):=by rw[AX ur1];exact hu
  have hlast:DP ((rs++[last]).map V.int) (-1)=some (.int last):=by rw[List.map_append];exact DQ _ _
  have hat:=LK (us:=us) (i:=last) la0 (by omega)
  have hrd:((rs++[last]).map V.int).length=rs.length+1:=by simp
  refine⟨_,rfl,_,rfl,_,rfl,r1,_,_,_,rfl,rfl,An.of AD,hlast,u,_,_,_,rfl,rfl,An.of hu'',hat,_,_,rfl,rfl,_,rfl,Ht (λcnd=>?_) (λcnd=>?_)⟩
  ·have cnd':0<=us.getD last.toNat 0:=of_decide_eq_true cnd
   have hlt:us.getD last.toNat 0 < last:=by
    rcases Nat.eq_zero_or_pos last.toNat with e|e
    ·have:=gr.root;rw[e]at cnd';omega
    ·have:=gr.up last.toNat e (by omega);omega
   refine⟨_,λσ' H3 h=>h,?_⟩
   refine⟨_,rfl,.inl ⟨rfl,_,An.of AD⟩,_,rfl,_,rfl,_,rfl,r1,_,_,_,rfl,rfl,An.of AD,hlast,u,_,_,_,rfl,rfl,An.of hu'',hat,r1,_,_,rfl,rfl,AD,by rw[hrd];exact Av (by omega),?_⟩
   refine⟨(us.getD last.toNat 0).toNat,by omega,rs++[last],us.getD last.toNat 0,rfl,?_,cnd',by omega,?_,rfl,?_⟩
   ·rw[Ks,List.map_append (l₁:=rs++[last])];rfl
   ·intro v hv
    rcases List.mem_append.mp hv with hv|hv
    ·exact hrs v hv
    ·have:v=last:=by simpa using hv
     omega
   ·rw[List.length_append,List.length_singleton];omega
  ·
   have kr:Kd p (c+7+4*i) H (upd H' r1 (.lst ((rs++[last]).map V.int))):=kd.new hr1
   generalize hHr:upd H' r1 (.lst ((rs++[last]).map V.int))=Hr at kr hu''
   have hrr:Hr r1=some (.lst ((rs++[last]).map V.int)):=by rw[<-hHr];exact AD
   have mem:∀v∈rs++[last],0<=v/\v < 1+(i:Int):=λv hv=>by
    rcases List.mem_append.mp hv with hv|hv
    ·exact hrs v hv
    ·have:v=last:=by simpa using hv
     omega
   generalize hRS:rs++[last]=RS at hrd hrr mem
   have hRl:RS.length=rs.length+1:=by rw[<-hRS];simp
   generalize hL:((RS.map V.int).length:Int)=L
   have L1:1<=L:=by omega
   have L61:L<=61:=by omega
   refine⟨_,rfl,r1,_,rfl,.inl (An.of hrr),_,_,rfl,rfl,_,rfl,_,_,rfl,rfl,(by decide:(0:Int) < 2),_,rfl,_,rfl,r1,_,rfl,.inl (An.of hrr),p,_,_,rfl,kr.deck,by omega,?_,?_,λn3 H3 d0 d1 kd3=>?_⟩
   ·rw[hL];omega
   ·rw[hL];omega
   rw[hL]at d1
   have ku3:=kr.trans kd3
   have hrr3:=kd3.keep _ _ rp1 hrr
   refine⟨_,rfl,r1,_,rfl,.inl (An.of hrr3),_,_,rfl,rfl,_,rfl,p,3,_,rfl,ku3.deck,by omega,by decide,by decide,λn4 H4 e0 e1 kd4=>?_⟩
   have ku4':=ku3.trans kd4
   have hrr4:=kd4.keep _ _ rp1 hrr3
   refine⟨_,_,rfl,_,rfl,r1,_,rfl,.inl (An.of hrr4),_,_,rfl,rfl,_,rfl,r1,_,rfl,.inl (An.of hrr4),_,_,rfl,rfl,_,rfl,p,3,_,rfl,ku4'.deck,by omega,by decide,by decide,λn5 H5' f0 f1 kd5=>?_⟩
   have ku5':=ku4'.trans kd5
   have hrr5:=kd5.keep _ _ rp1 hrr4
   refine⟨_,_,rfl,_,_,rfl,rfl,(by show 6<=sizeLine;decide),λr2 hr2=>?_⟩
   rw[hL]
   have hupv:∃v:Int,DP [V.int 0,.int (L - 1),.int ((1+(i:Int)) % 2),.int n3,.int (if n4 < L - 1 then n4 else L - 1),.int (L - 1 - (if n5 < L - 1 then n5 else L - 1))] way=some (.int v)/\0<=v:=by
    have:way=0\/way=1\/way=2\/way=3\/way=4\/way=5:=by omega
    rcases this with rfl|rfl|rfl|rfl|rfl|rfl
    ·exact⟨_,rfl,by omega⟩
    ·exact⟨_,rfl,by omega⟩
    ·exact⟨_,rfl,by omega⟩
    ·exact⟨_,rfl,by omega⟩
    ·exact⟨_,rfl,by split<;>omega⟩
    ·exact⟨_,rfl,by split<;>omega⟩
   obtain⟨up,hupv,up0⟩:=hupv
   refine⟨_,rfl,r2,_,_,_,rfl,rfl,An.of AD,hupv,?_⟩
   have ku6':=ku5'.new (o:=.lst [V.int 0,.int (L - 1),.int ((1+(i:Int)) % 2),.int n3,.int (if n4 < L - 1 then n4 else L - 1),.int (L - 1 - (if n5 < L - 1 then n5 else L - 1))]) hr2
   have hrr6:upd H5' r2 (.lst [V.int 0,.int (L - 1),.int ((1+(i:Int)) % 2),.int n3,.int (if n4 < L - 1 then n4 else L - 1),.int (L - 1 - (if n5 < L - 1 then n5 else L - 1))]) r1=some (.lst (RS.map V.int)):=by rw[AX (AV hrr5 hr2)];exact hrr5
   have hu5':H5' u=some (.lst (us.map V.int)):=kd5.keep _ _ hup (kd4.keep _ _ hup (kd3.keep _ _ hup hu''))
   have hu6':upd H5' r2 (.lst [V.int 0,.int (L - 1),.int ((1+(i:Int)) % 2),.int n3,.int (if n4 < L - 1 then n4 else L - 1),.int (L - 1 - (if n5 < L - 1 then n5 else L - 1))]) u=some (.lst (us.map V.int)):=by rw[AX (AV hu5' hr2)];exact hu5'
   generalize upd H5' r2 (.lst [V.int 0,.int (L - 1),.int ((1+(i:Int)) % 2),.int n3,.int (if n4 < L - 1 then n4 else L - 1),.int (L - 1 - (if n5 < L - 1 then n5 else L - 1))])=H6' at ku6' hrr6 hu6'
   have hmn:0<=(if L - 1 < up then L - 1 else up)/\(if L - 1 < up then L - 1 else up) < (RS.length:Int):=by split<;>omega
   have hat6:=LK (us:=RS) hmn.1 hmn.2
   have hv6:=mem _ (mem_getD (us:=RS) (j:=(if L - 1 < up then L - 1 else up).toNat) (by omega))
   have hrl6:(RS.map V.int).length=RS.length:=List.length_map _
   refine⟨_,rfl,.inl ⟨rfl,_,An.of hu6'⟩,_,rfl,_,rfl,_,rfl,r1,_,rfl,.inl (An.of hrr6),_,_,rfl,rfl,_,_,rfl,r1,_,_,_,rfl,rfl,An.of hrr6,(by rw[hL];exact hat6),u,_,_,rfl,rfl,hu6',by rw[hul];exact Av (by omega),?_⟩
   generalize RS.getD (if L - 1 < up then L - 1 else up).toNat 0=v6 at hv6
   have ku7':Kd p (c+7+4*i+1+1+1) H (upd H6' u (.lst (us.map V.int++[.int v6]))):=ku6'.write hHu hup
   have hu7':upd H6' u (.lst (us.map V.int++[.int v6])) u=some (.lst (us.map V.int++[.int v6])):=AD
   generalize upd H6' u (.lst (us.map V.int++[.int v6]))=H7' at ku7' hu7'
   refine⟨_,rfl,_,rfl,_,rfl,p,_,ku7'.deck,by omega,.inr ⟨z,rfl,z0,z1,λc8 H8 lm8 kd8=>?_⟩⟩
   refine⟨_,_,rfl,rfl,?_,?_⟩
   ·rw[Ai]
    have:(⟨#[c8]⟩:Str).length=1:=rfl
    rw[this];exact Nat.le_of_lt (Av (by omega))
   ·refine⟨us++[v6],ls++[c8],_,_,_,_,rfl,?_,(ku7'.trans kd8).mono (by omega),?_,?_,?_,gr.snoc hv6.1 (by omega),λa ha=>(List.mem_append.mp ha).elim (lls a) λha=>by rw[List.mem_singleton.mp ha];exact zlo _ lm8⟩
    ·apply BX;rw[app_list];rfl
    ·rw[kd8.keep _ _ hup hu7',List.map_append];rfl
    ·rw[List.length_append,hlen];rfl
    ·rw[List.length_append,hls];rfl
 ·rintro σ H' ⟨us,ls,tx,o8,o9,o10,rfl,rfl,kd,hu,hlen,hls,gr,lls⟩
  have fin:∀(ls':List Nat) (d:Int) (H4:Hp),ls'.length=us.length->(∀a∈ls',Lw a)->d<=c+250->Kd p d H H4->H4 u=some (.lst (us.map V.int))->∀r7 t7,H4 r7=none->(upd H4 r7 (.tup (us.map V.int))) t7=none->Q (.ref t7) (upd (upd H4 r7 (.tup (us.map V.int))) t7 (.tup [.ref r7,.str (mk ls')])):=λls' d H4 e1 lo' e2 e3 e4 r7 t7 hr7 ht=>by
   refine q t7 us (mk ls') _ (((e3.mono e2).new hr7).new ht) ⟨r7,AD,?_,?_⟩ ?_ (by omega)
   ·rw[AX (AV AD ht)];exact AD
   ·exact⟨by rw[Bt];omega,gr.pos,by omega,gr.root,gr.up⟩
   ·rw[Bt];exact lo'
  refine⟨_,rfl,p,5,_,rfl,kd.deck,by omega,by decide,by decide,λn1 H1 d0 d1 kd1=>?_⟩
  have ku1:=kd.trans kd1
  have hu1:=kd1.keep _ _ hup hu
  refine⟨rfl,_,rfl,Ht (λcnd=>?_) (λcnd=>?_)⟩
  ·refine⟨_,rfl,_,rfl,p,many,_,rfl,ku1.deck,by omega,by omega,by omega,λat0 H2 e0 e1 kd2=>?_⟩
   have ku2:=ku1.trans kd2
   have hu2:=kd2.keep _ _ hup hu1
   have mo:∀n:Int,0<=n->n<=60->MulOk (⟨#[ch]⟩:Str) n:=λn h0 h1=>PyProof.Rows.mulOk_of 1 60 (by rw[own1];decide) (by omega) (by omega) (by decide) (by decide)
   have ml:∀n:Int,0<=n->(Txt.mul ⟨#[ch]⟩ n).length=n.toNat:=λn h0=>by
    have:=FU (c:=ch) h0
    simpa[Str.length]using this
   refine⟨_,rfl,_,rfl,_,_,rfl,rfl,mo _ e0 (by omega),_,rfl,p,_,rfl,ku2.deck,by omega,λc9 H3 lc9 kd3=>?_⟩
   have hc9:(⟨#[c9]⟩:Str).length=1:=rfl
   have ku3:=ku2.trans kd3
   have hu3:=kd3.keep _ _ hup hu2
   refine⟨_,_,rfl,rfl,by rw[ml _ e0,hc9];exact Nat.le_of_lt (Av (by omega)),_,rfl,_,rfl,_,rfl,_,_,rfl,rfl,_,_,rfl,rfl,_,_,rfl,rfl,mo _ (by omega) (by omega),_,_,rfl,rfl,?_,?_⟩
   ·rw[la,ml _ e0,hc9,ml _ (by omega)];exact Nat.le_of_lt (Av (by omega))
   refine⟨_,rfl,u,_,rfl,.inl ⟨An.of hu3,λr7 hr7=>?_⟩⟩
   refine⟨_,rfl,(by show 2<=sizeLine;decide),λt ht=>?_⟩
   have hs:Txt.mul ⟨#[ch]⟩ at0++⟨#[c9]⟩++Txt.mul ⟨#[ch]⟩ (many - at0 - 1)=mk (Txt.mul ⟨#[ch]⟩ at0++⟨#[c9]⟩++Txt.mul ⟨#[ch]⟩ (many - at0 - 1)).cps.toList:=BX rfl
   rw[hs]
   have lom:∀n:Int,∀a∈(Txt.mul ⟨#[ch]⟩ n).cps.toList,Lw a:=λn a ha=>Oq lch n a ha
   refine fin _ _ H3 ?_ (lap _ _ (lap _ _ (lom _) λa ha=>by rw[show a=c9 by simpa using ha];exact lc9) (lom _)) (by omega) ku3 hu3 r7 t hr7 ht
   have t1:=la (Txt.mul ⟨#[ch]⟩ at0++⟨#[c9]⟩) (Txt.mul ⟨#[ch]⟩ (many - at0 - 1))
   have t2:=la (Txt.mul ⟨#[ch]⟩ at0) ⟨#[c9]⟩
   have t3:=ml at0 e0
   have t4:=ml (many - at0 - 1) (by omega)
   have e:(Txt.mul ⟨#[ch]⟩ at0++⟨#[c9]⟩++Txt.mul ⟨#[ch]⟩ (many - at0 - 1)).cps.toList.length=(Txt.mul ⟨#[ch]⟩ at0++⟨#[c9]⟩++Txt.mul ⟨#[ch]⟩ (many - at0 - 1)).length:=by simp[Str.length]
   omega
  ·refine⟨_,rfl,u,_,rfl,.inl ⟨An.of hu1,λr7 hr7=>?_⟩⟩
   refine⟨_,rfl,(by show 2<=sizeLine;decide),λt ht=>?_⟩
   exact fin ls _ H1 (by omega) lls (by omega) ku1 hu1 r7 t hr7 ht
end
end S61
namespace S61
open PySem L2 W7
section
variable {P:Program}{w:World}{K:PySem.W.Frag}{mg:Str->Option Value}{base:Heap}{k:Nat}
theorem Kj (D:Df K mg "_law_words" s_law_words)(B:Blt mg):Bi P w K mg base "_law_words" (k+1) ["tree_here"] C0:=by
 refine D.has CY (λ_ _ _ _ _ _ us hl=>match us,hl with|[_],_=>rfl) (λvs H Q E h=>by obtain⟨t,ups,lab,rfl,_⟩:=h;rfl) (λf cdv A outer s H vs Q E hr h=>?_)
 obtain⟨t,ups,lab,rfl,⟨u,ht,hu,ok⟩,q⟩:=h
 refine⟨_,(AG (AI (i:=1) CY.nd rfl (by first|exact Or.inl rfl|exact Or.inr rfl) (AU AB))
 (AG (Bm PassesOwn.never rfl (Dp rfl B.enumerate (AA (Ad A9 (pv 0) AF (λ_ _=>rfl)) AB)) (DM rfl (Ax (Ae (i:=2) CY.nd rfl (by first|exact Or.inl rfl|exact Or.inr rfl)) (Ax (Ae (i:=3) CY.nd rfl (by first|exact Or.inl rfl|exact Or.inr rfl)) CU)))
 (AE (BW (BR PySem.F.plainAttrs_list PySem.F.slot_list_append PySem.F.type_list_append BC (pv 1) (AA (AZ Ah (Ad C7 (Ad A9 (pv 0) AF (λ_ _=>rfl)) (pv 2) (λ_ _=>rfl)) (Aa (AL Mr (pv 3) AF (AQ _)) (Ad Af (pv 1) (pv 3) (λ_ _=>rfl)) AS)) AB)))))
 (AE (AY (pv 1))))),?_⟩
 refine⟨(by show 0<=sizeLine;decide),λr hr0=>?_⟩
 have s0:AJ H (upd H r (.lst [])):=(AJ.refl H).new hr0
 refine⟨_,rfl,t,_,_,_,rfl,rfl,Ca.of (s0 _ _ ht),rfl,.tup u,rfl,⟨_,.inl (s0 _ _ hu)⟩,?_⟩
 refine DU (xs:=ups.map V.int) (λi σ H'=>∃o1 o2:Option V,σ=[some (.ref t),some (.ref r),o1,o2]/\AJ H H'/\H' r=some (.lst (Al ups lab i))) ⟨none,none,rfl,s0,AD⟩
  (λi σ H' hi h=>by obtain⟨o1,o2,_,s1,_⟩:=h;exact .inl (s1 _ _ hu)) ?_ ?_
 ·rintro i y σ H' p hy ⟨o1,o2,rfl,s1,hr1⟩ hp
  obtain⟨v,hv,rfl⟩:∃v,ups[i]?=some v/\y=.int v:=by
   simp only[List.getElem?_map]at hy
   cases e:ups[i]? with
   |none=>rw[e]at hy;cases hy
   |some v=>rw[e]at hy;exact⟨v,rfl,(Option.some.inj hy).symm⟩
  have hi:i < ups.length:=(List.getElem?_eq_some_iff.mp hv).1
  have hi2:i < lab.cps.toList.length:=by rw[<-ok.len];exact hi
  have ev:ups.getD i 0=v:=by rw[List.getD_eq_getElem?_getD,hv];rfl
  have ec:lab.cps.toList.getD i 0=lab.cps.toList[i]:=by rw[List.getD_eq_getElem?_getD,List.getElem?_eq_getElem hi2];rfl
  have hm:=ok.most
  have s2:AJ H (upd H' p (.tup [.int i,.int v])):=s1.new hp
  have hr2:upd H' p (.tup [.int i,.int v]) r=some (.lst (Al ups lab i)):=by rw[AX (AV hr1 hp)];exact hr1
  have wl:(Al ups lab i).length=i:=by simp[Al]
  have step:Al ups lab (i+1)=Al ups lab i++[.str (mk (W ups lab.cps.toList i))]:=by
   unfold Al
   rw[List.range_succ,List.map_append];rfl
  have hlab:lab.length=ups.length:=by rw[ok.len];simp[Str.length]
  have e1:=A4 (xs:=lab.cps.toList) (j:=i) (List.getElem?_eq_getElem hi2)
  have one1:(⟨#[lab.cps.toList[i]]⟩:Str).length=1:=rfl
  refine⟨p,_,rfl,Ca.of AD,rfl,_,_,rfl,_,_,rfl,rfl,?_⟩
  refine⟨_,rfl,.inl ⟨rfl,_,An.of hr2⟩,_,rfl,t,_,_,_,rfl,rfl,Ca.of (s2 _ _ ht),rfl,_,rfl,_,_,_,rfl,rfl,by rw[hlab];exact Nat.le_of_lt (Av (by omega)),e1,_,rfl,_,_,rfl,rfl,_,rfl,Ht (λcnd=>?_) (λcnd=>?_)⟩
  ·have e3:0<=v:=of_decide_eq_true cnd
   have lt:=ok.lt hi (by rw[ev];omega)
   rw[ev]at lt
   have hat:DP (Al ups lab i) v=some (.str (mk (W ups lab.cps.toList v.toNat))):=by
    have e:DP (Al ups lab i) ((v.toNat:Nat):Int)=some (.str (mk (W ups lab.cps.toList v.toNat))):=A4 (by
     unfold Al
     rw[List.getElem?_map,List.getElem?_range lt];rfl)
    rw[show((v.toNat:Nat):Int)=v by omega]at e
    exact e
   have wle:=F5 ok (v.toNat+1) v.toNat (by omega) (by omega)
   have ew:W ups lab.cps.toList i=lab.cps.toList[i]::W ups lab.cps.toList v.toNat:=by rw[JV ok hi,ev,ec,if_neg (by omega)]
   refine⟨_,rfl,_,rfl,r,_,_,_,rfl,rfl,An.of hr2,hat,_,_,rfl,rfl,?_,r,_,_,rfl,rfl,hr2,by rw[wl];exact Av (by omega),⟨_,_,rfl,s2.write hr0,?_⟩⟩
   ·rw[Ai,one1];exact Nat.le_of_lt (Av (by omega))
   ·rw[AD,step,ew,NU]
  ·have e3:¬0<=v:=of_decide_eq_false (Bool.eq_false_iff.mpr cnd)
   have ew:W ups lab.cps.toList i=[lab.cps.toList[i]]:=by rw[JV ok hi,ev,ec,if_pos (by omega)]
   refine⟨_,_,rfl,rfl,by rw[one1];decide,r,_,_,rfl,rfl,hr2,by rw[wl];exact Av (by omega),⟨_,_,rfl,s2.write hr0,?_⟩⟩
   rw[AD,step,ew]
   have:(⟨#[lab.cps.toList[i]]⟩:Str)++Str.ofString ""=mk [lab.cps.toList[i]]:=by apply BX;rw[app_list];rfl
   rw[this]
 ·rintro σ H' ⟨o1,o2,rfl,s1,hr1⟩
  refine⟨_,rfl,q r H' s1 ?_⟩
  rw[hr1,List.length_map]
end
end S61
namespace L2
open PySem PySem.Spec PyProof.Rows PySem.W PySem.StrLaws PySem.Builtin PySem.Builtin.Str
theorem Jh (s sub:Str)(hi:Nat):∀(l:List Nat) (st:Array Nat×Nat),st.fst.size=1->(forIn l st (occBody s sub hi 1)).run.fst=st.fst
 |[],st,h=>rfl
 |a::l,st,h=>by
  rw[List.forIn_cons]
  unfold occBody
  rw[if_neg (by omega)]
  exact Jh s sub hi l (st.fst,st.snd) h
theorem occ_first (s:Str)(c:Nat):∀(l:List Nat) (pre:List Nat) (i:Nat) (post:List Nat),l=pre++i::post->(∀j∈pre,s.cps.toList[j]?≠some c)->s.cps.toList[i]?=some c->(forIn l ((#[]:Array Nat),0) (occBody s ⟨#[c]⟩ s.length 1)).run.fst=#[i]
 |l,[],i,post,e,_,h=>by
  subst e
  show(forIn (i::post) ((#[]:Array Nat),0) (occBody s ⟨#[c]⟩ s.length 1)).run.fst=_
  rw[List.forIn_cons]
  have:=(subAt_one s c i).mpr h
  unfold occBody
  rw[if_pos ⟨⟨⟨by decide,Nat.zero_le _⟩,this.1⟩,this.2⟩]
  exact Jh s _ _ post (#[i],i+(⟨#[c]⟩:Str).length) rfl
 |l,a::pre,i,post,e,hn,h=>by
  subst e
  show(forIn (a::(pre++i::post)) ((#[]:Array Nat),0) (occBody s ⟨#[c]⟩ s.length 1)).run.fst=_
  rw[List.forIn_cons]
  have na:=hn a List.mem_cons_self
  unfold occBody
  rw[if_neg (λz=>na ((subAt_one s c a).mp ⟨z.1.2,z.2⟩))]
  exact occ_first s c _ pre i post rfl (λj hj=>hn j (List.mem_cons_of_mem _ hj)) h
theorem QX {s:Str}{a b:List Nat}{c:Nat}(e:s.cps.toList=a++c::b)(h:c∉a):occurrences s ⟨#[c]⟩ 0 s.length 1=[a.length]:=by
 have sl:s.length=a.length+b.length+1:=by
  have:=congrArg List.length e
  rw[List.length_append,List.length_cons]at this
  have e2:s.cps.toList.length=s.length:=Array.length_toList
  omega
 rw[occ_eq]
 rw[occ_first s c _ (List.range' 0 a.length) a.length (List.range' (a.length+1) (b.length+1)) ?_ ?_ ?_]
 ·have e1:(b.length+1+1)=b.length+2:=rfl
  have e2:a.length::List.range' (a.length+1) (b.length+1)=List.range' (0+1*a.length) (b.length+2):=by
   rw[show(0+1*a.length)=a.length by omega];rfl
  rw[e2,List.range'_append]
  congr 1
  omega
 ·intro j hj z
  have hj':j < a.length:=by
   obtain⟨i,hi,rfl⟩:=List.mem_range'.mp hj
   omega
  rw[e,List.getElem?_append_left hj']at z
  exact h (List.mem_of_getElem? z)
 ·rw[e,List.getElem?_append_right (Nat.le_refl _),Nat.sub_self];rfl
theorem Ot {s:Str}{a b:List Nat}{c:Nat}(e:s.cps.toList=a++c::b)(h:c∉a):(Txt.partition s ⟨#[c]⟩).1=⟨a.toArray⟩/\(Txt.partition s ⟨#[c]⟩).2.1=⟨#[c]⟩:=by
 unfold Txt.partition
 rw[QX e h]
 refine⟨?_,rfl⟩
 show strSub s 0 a.length=_
 unfold strSub
 have:s.cps=(a++c::b).toArray:=by rw[<-e]
 rw[this]
 congr 1
 apply Array.toList_inj.mp
 simp
theorem GB {a:Nat}{l:List Nat}{b:Nat}:Txt.startswith (⟨(a::l).toArray⟩:Str) ⟨#[b]⟩=decide (a=b):=by
 have h:=subAt_one (⟨(a::l).toArray⟩:Str) b 0
 rw[Bool.eq_iff_iff,decide_eq_true_eq]
 unfold Txt.startswith
 rw[Bool.and_eq_true,decide_eq_true_eq,h]
 show some a=some b↔_
 simp
theorem Kk {b:Nat}:Txt.startswith (⟨#[]⟩:Str) ⟨#[b]⟩=false:=by
 unfold Txt.startswith
 rw[show decide (0+(⟨#[b]⟩:Str).length<=(⟨#[]⟩:Str).length)=false from rfl];rfl
theorem Ec {l:List Nat}{a b:Nat}:Txt.endswith (⟨(l++[a]).toArray⟩:Str) ⟨#[b]⟩=decide (a=b):=by
 have e:(⟨(l++[a]).toArray⟩:Str).length=l.length+1:=by show(l++[a]).toArray.size=_;simp
 have h:=subAt_one (⟨(l++[a]).toArray⟩:Str) b l.length
 rw[Bool.eq_iff_iff,decide_eq_true_eq]
 unfold Txt.endswith
 have e1:(⟨(l++[a]).toArray⟩:Str).length - (⟨#[b]⟩:Str).length=l.length:=by rw[e];rfl
 have e2:decide (0+(⟨#[b]⟩:Str).length<=(⟨(l++[a]).toArray⟩:Str).length)=true:=decide_eq_true (by rw[e];show 0+1<=_;omega)
 rw[e1,e2,Bool.true_and]
 have h2:subAt (⟨(l++[a]).toArray⟩:Str) ⟨#[b]⟩ l.length=true↔(⟨(l++[a]).toArray⟩:Str).cps.toList[l.length]?=some b:=by
  constructor
  ·exact λz=>h.mp ⟨by rw[e];exact Nat.le_refl _,z⟩
  ·exact λz=>(h.mpr z).2
 rw[h2]
 show(l++[a])[l.length]?=some b↔_
 rw[List.getElem?_append_right (Nat.le_refl _),Nat.sub_self];simp
end L2
namespace L2
open PySem PySem.Spec PyProof.Rows PySem.StrLaws PySem.Builtin PySem.Builtin.Str
section
variable {X:Cx}
end
theorem Na (z:Str)(c limit:Nat)(h:c∉z.cps.toList):∀(m lo free:Nat) (arr:Array Nat),(forIn (List.range' lo m) (arr,free) (occBody z ⟨#[c]⟩ z.length limit)).run.fst=arr
 |0,lo,free,arr=>rfl
 |m+1,lo,free,arr=>by
  rw[List.range'_succ,List.forIn_cons]
  have one:=subAt_one z c lo
  have hc:z.cps.toList[lo]?≠some c:=λe=>h (List.mem_of_getElem? e)
  have b:occBody z ⟨#[c]⟩ z.length limit lo (arr,free)=pure (ForInStep.yield (arr,free)):=by
   unfold occBody
   rw[if_neg λh=>hc (one.mp ⟨h.1.2,h.2⟩)]
  rw[b]
  exact Na z c limit h m (lo+1) free arr
theorem occ_none {z:Str}{c:Nat}(h:c∉z.cps.toList):occurrences z ⟨#[c]⟩ 0 z.length 1=[]:=by
 rw[occ_eq]
 have:=Na z c 1 h (z.length+1) 0 0 #[]
 show((forIn (List.range' 0 (z.length+1 - 0)) (#[],0) (occBody z ⟨#[c]⟩ z.length 1)).run.fst).toList=_
 rw[Nat.sub_zero,this]
end L2
namespace W61
def lw (c:Nat):Bool:=decide (97<=c)&&decide (c < 123)
def OK:List Nat:=(List.range 26).map (·+97)
def rising:List Nat->Bool
 |a::b::r=>decide (a < b)&&rising (b::r)
 |_=>true
def cut:List Nat->Option (List Nat×List Nat)
 |[]=>none
 |c::r=>if c=93 then some ([],r)else(cut r).map λp=>(c::p.1,p.2)
theorem CL:∀{xs a b:List Nat},cut xs=some (a,b)->xs=a++93::b/\93∉a
 |[],_,_,h=>by cases h
 |c::r,a,b,h=>by
  unfold cut at h
  by_cases hc:c=93
  ·rw[if_pos hc]at h;cases h;exact⟨by rw[hc];rfl,by simp⟩
  ·rw[if_neg hc]at h
   cases e:cut r with
   |none=>rw[e]at h;cases h
   |some p=>
    rw[e]at h;cases h
    obtain⟨h1,h2⟩:=CL (a:=p.1) (b:=p.2) (show cut r=some (p.1,p.2)from e)
    refine⟨by rw[List.cons_append,<-h1],?_⟩
    intro m
    rcases List.mem_cons.mp m with m|m
    ·exact hc m.symm
    ·exact h2 m
theorem GC:∀{xs:List Nat},cut xs=none->93∉xs
 |[],_=>by simp
 |c::r,h=>by
  unfold cut at h
  by_cases hc:c=93
  ·rw[if_pos hc]at h;cases h
  ·rw[if_neg hc]at h
   cases e:cut r with
   |none=>
    intro m
    rcases List.mem_cons.mp m with m|m
    ·exact hc m.symm
    ·exact GC e m
   |some p=>rw[e]at h;cases h
def FV (a:List Nat):Bool:=!a.isEmpty&&(a.all lw&&rising a)
def one:List Nat->Option (List Nat×List Nat)
 |[]=>none
 |c::r=>if c=91 then(match cut r with
   |none=>none
   |some (a,b)=>if FV a=true then some (a,b)else none)
  else if c=46 then some (OK,r)else if lw c=true then some ([c],r)else none
def Ap:List Nat->Bool×List Nat
 |42::r=>(true,r)
 |r=>(false,r)
theorem EF (xs:List Nat):(Ap xs).2.length<=xs.length:=by
 unfold Ap
 split
 ·show List.length _<=_;rw[List.length_cons];exact Nat.le_succ _
 ·exact Nat.le_refl _
theorem LN {xs a b:List Nat}(h:one xs=some (a,b)):b.length < xs.length:=by
 cases xs with
 |nil=>cases h
 |cons c r=>
  simp only[one]at h
  by_cases h1:c=91
  ·rw[if_pos h1]at h
   cases e:cut r with
   |none=>rw[e]at h;cases h
   |some p=>
    obtain⟨p1,p2⟩:=p
    rw[e]at h
    dsimp only at h
    by_cases h2:FV p1=true
    ·rw[if_pos h2]at h;cases h
     have:=congrArg List.length (CL e).1
     rw[List.length_append,List.length_cons]at this
     rw[List.length_cons];omega
    ·rw[if_neg h2]at h;cases h
  ·rw[if_neg h1]at h
   by_cases h2:c=46
   ·rw[if_pos h2]at h;cases h;rw[List.length_cons];omega
   ·rw[if_neg h2]at h
    by_cases h3:lw c=true
    ·rw[if_pos h3]at h;cases h;rw[List.length_cons];omega
    ·rw[if_neg h3]at h;cases h
def parse:Nat->List Nat->Option (List (List Nat×Bool))
 |_,[]=>some []
 |0,_=>none
 |n+1,xs=>match one xs with
  |none=>none
  |some (a,b)=>(parse n (Ap b).2).map λits=>(a,(Ap b).1)::its
inductive Way
 |begin|item|opn|set (last:Nat)
def run:Way->List Nat->Bool
 |.begin,[]=>true
 |.item,[]=>true
 |.opn,[]=>false
 |.set _,[]=>false
 |.opn,c::r=>lw c&&run (.set c) r
 |.set l,c::r=>if(lw c&&decide (l < c))=true then run (.set c) r else if c=93 then run .item r else false
 |.begin,c::r=>if c=91 then run .opn r else if(lw c||decide (c=46))=true then run .item r else false
 |.item,c::r=>if c=91 then run .opn r else if(lw c||decide (c=46))=true then run .item r else if c=42 then run .begin r else false
theorem TN (c:Nat)(r:List Nat):run .opn (c::r)=(lw c&&run (.set c) r):=by simp only[run]
theorem TQ (l c:Nat)(r:List Nat):run (.set l) (c::r)=if(lw c&&decide (l < c))=true then run (.set c) r else if c=93 then run .item r else false:=by simp only[run]
theorem TR (c:Nat)(r:List Nat):run .begin (c::r)=if c=91 then run .opn r else if(lw c||decide (c=46))=true then run .item r else false:=by simp only[run]
theorem Tf (c:Nat)(r:List Nat):run .item (c::r)=if c=91 then run .opn r else if(lw c||decide (c=46))=true then run .item r else if c=42 then run .begin r else false:=by simp only[run]
theorem ct (c:Nat)(r:List Nat):cut (c::r)=if c=93 then some ([],r)else(cut r).map λp=>(c::p.1,p.2):=by simp only[cut]
theorem on (c:Nat)(r:List Nat):one (c::r)=if c=91 then(match cut r with
 |none=>none
 |some (a,b)=>if FV a=true then some (a,b)else none)
 else if c=46 then some (OK,r)else if lw c=true then some ([c],r)else none:=by simp only[one]
theorem pr (n c:Nat)(r:List Nat):parse (n+1) (c::r)=(match one (c::r)with
 |none=>none
 |some (a,b)=>(parse n (Ap b).2).map λits=>(a,(Ap b).1)::its):=by simp only[parse]
theorem run_set:∀(r:List Nat) (l:Nat),run (.set l) r=(match cut r with
 |none=>false
 |some (a,b)=>a.all lw&&(rising (l::a)&&run .item b))
 |[],l=>by simp only[run,cut]
 |c::r,l=>by
  rw[TQ,ct]
  by_cases h:c=93
  ·subst h
   rw[if_pos (show(93:Nat)=93 from rfl),if_neg (by unfold lw;simp),if_pos rfl]
   show _=([].all lw&&(rising [l]&&run .item r))
   unfold rising;simp
  ·rw[if_neg h]
   have ih:=run_set r c
   cases e:cut r with
   |none=>
    rw[e]at ih
    rw[if_neg h]
    show _=false
    split
    ·exact ih
    ·rfl
   |some p=>
    obtain⟨a,b⟩:=p
    rw[e]at ih
    dsimp only at ih
    rw[if_neg h]
    show _=((c::a).all lw&&(rising (l::c::a)&&run .item b))
    rw[List.all_cons]
    have er:rising (l::c::a)=(decide (l < c)&&rising (c::a)):=rfl
    rw[er]
    by_cases h1:lw c=true
    ·by_cases h2:l < c
     ·rw[if_pos (by rw[h1,decide_eq_true h2];rfl),ih,h1,decide_eq_true h2];simp
     ·rw[if_neg (by rw[decide_eq_false h2];simp),decide_eq_false h2];simp
    ·rw[if_neg (by simp[h1]),Bool.eq_false_iff.mpr h1];simp
theorem Ou (r:List Nat):run .opn r=(match cut r with
 |none=>false
 |some (a,b)=>FV a&&run .item b):=by
 cases r with
 |nil=>simp only[run,cut]
 |cons c r=>
  rw[TN,ct,run_set]
  by_cases h:c=93
  ·subst h
   rw[if_pos rfl]
   have:lw 93=false:=by decide
   rw[this]
   show _=(FV []&&_)
   unfold FV;simp
  ·rw[if_neg h]
   cases e:cut r with
   |none=>simp
   |some p=>
    obtain⟨a,b⟩:=p
    show(lw c&&(a.all lw&&(rising (c::a)&&run .item b)))=(FV (c::a)&&run .item b)
    unfold FV
    rw[List.all_cons]
    simp[Bool.and_assoc]
theorem Nb (xs:List Nat):run .item xs=run .begin (Ap xs).2:=by
 cases xs with
 |nil=>simp only[Ap,run]
 |cons c r=>
  by_cases h:c=42
  ·subst h
   have e:(Ap (42::r)).2=r:=rfl
   rw[e]
   conv=>lhs;unfold run
   rw[if_neg (by decide),if_neg (by decide),if_pos rfl]
  ·have e:(Ap (c::r)).2=c::r:=by
    unfold Ap
    split
    ·rename_i q;injection q with q1 q2;exact absurd q1 h
    ·rfl
   rw[e]
   conv=>lhs;unfold run
   conv=>rhs;unfold run
   rw[if_neg h]
theorem E7:∀(n:Nat) (xs:List Nat),xs.length<=n->run .begin xs=(parse n xs).isSome
 |n,[],_=>by cases n<;>simp only[run,parse,Option.isSome]
 |0,_::_,h=>by simp at h
 |n+1,c::r,h=>by
  have rl:r.length<=n:=by simpa using h
  have step:∀b:List Nat,b.length<=n->run .item b=(parse n (Ap b).2).isSome:=λb hb=>by
   rw[Nb]
   exact E7 n _ (Nat.le_trans (EF b) hb)
  rw[TR,pr,on]
  by_cases h1:c=91
  ·rw[if_pos h1,if_pos h1,Ou]
   cases e:cut r with
   |none=>rfl
   |some p=>
    obtain⟨a,b⟩:=p
    have bl:=congrArg List.length (CL e).1
    rw[List.length_append,List.length_cons]at bl
    dsimp only
    by_cases h2:FV a=true
    ·rw[if_pos h2,h2,Bool.true_and,step b (by omega)];simp
    ·rw[if_neg h2,Bool.eq_false_iff.mpr h2,Bool.false_and];rfl
  ·rw[if_neg h1,if_neg h1]
   by_cases h2:c=46
   ·rw[if_pos (by rw[decide_eq_true h2];simp),if_pos h2,step r rl];simp
   ·rw[if_neg h2]
    by_cases h3:lw c=true
    ·rw[if_pos (by rw[h3];rfl),if_pos h3,step r rl];simp
    ·rw[if_neg (by rw[Bool.eq_false_iff.mpr h3,decide_eq_false h2];decide),if_neg h3];rfl
end W61
namespace W63
abbrev It:=List Nat×Bool
def good (it:It)(w:List Nat)(n:Nat):Bool:=decide (w.getD n 0∈it.1)
def HR (it:It)(w:List Nat)(f:Nat->Bool):Nat->Bool
 |0=>it.2&&f 0
 |n+1=>if it.2 then f (n+1)||(good it w n&&HR it w f n)else good it w n&&f n
def D (its:List It)(w:List Nat):Nat->Nat->Bool
 |0=>λn=>n==0
 |i+1=>HR (its.getD i ([],false)) w (D its w i)
def st (its:List It)(i:Nat):Bool:=(its.getD i ([],false)).2
def gd (its:List It)(w:List Nat)(i n:Nat):Bool:=good (its.getD i ([],false)) w n
theorem QY (its:List It)(w:List Nat)(n:Nat):D its w 0 n=(n==0):=rfl
theorem Ov (its:List It)(w:List Nat)(i:Nat):D its w (i+1) 0=(st its i&&D its w i 0):=rfl
theorem QZ {its:List It}{w:List Nat}{i n:Nat}(h:st its i=true):D its w (i+1) (n+1)=(D its w i (n+1)||(gd its w i n&&D its w (i+1) n)):=by
 show HR _ _ _ _=_
 rw[HR,if_pos (show(its.getD i ([],false)).2=true from h)];rfl
theorem Ow {its:List It}{w:List Nat}{i n:Nat}(h:st its i=false):D its w (i+1) (n+1)=(gd its w i n&&D its w i n):=by
 show HR _ _ _ _=_
 rw[HR,if_neg (show¬(its.getD i ([],false)).2=true by rw[show(its.getD i ([],false)).2=false from h];decide)];rfl
def N (its:List It)(w:List Nat)(s n:Nat):Bool:=if st its s then D its w (s+1) n else D its w s n
theorem Qa {its:List It}:st its its.length=false:=by
 unfold st;rw[List.getD_eq_getElem?_getD,List.getElem?_eq_none (Nat.le_refl _)];rfl
theorem Rp (its:List It)(w:List Nat)(n:Nat):N its w its.length n=D its w its.length n:=by
 unfold N;rw[Qa];rfl
def cl (its:List It)(T:Nat->Bool):Nat->Bool
 |0=>T 0
 |s+1=>T (s+1)||(cl its T s&&st its s)
theorem Ed (its:List It)(w:List Nat):∀s,N its w s 0=cl its (λs=>s==0) s
 |0=>by
  unfold N
  rw[Ov,QY]
  cases h:st its 0<;>rfl
 |s+1=>by
  have ih:=Ed its w s
  have e:N its w (s+1) 0=D its w (s+1) 0:=by
   unfold N
   cases h:st its (s+1)
   ·rfl
   ·rw[if_pos rfl,Ov,h];rfl
  rw[e,Ov,cl,<-ih]
  unfold N
  cases h:st its s
  ·simp
  ·rw[if_pos rfl,Ov,h];simp
def Qb (its:List It)(w:List Nat)(n:Nat)(s:Nat):Bool:=(st its s&&gd its w s n&&N its w s n)||(match s with|0=>false|j+1=>!st its j&&gd its w j n&&N its w j n)
theorem IU (its:List It)(w:List Nat)(n:Nat):∀s,N its w s (n+1)=cl its (Qb its w n) s:=by
 have two:∀s,D its w s (n+1)=(match s with|0=>false|j+1=>(!st its j&&gd its w j n&&N its w j n)||(N its w j (n+1)&&st its j)):=λs=>by
  cases s with
  |zero=>rfl
  |succ j=>
   dsimp only
   cases h:st its j
   ·rw[Ow h];unfold N;rw[h];simp
   ·unfold N;rw[h];simp
 have one:∀s,N its w s (n+1)=((st its s&&gd its w s n&&N its w s n)||D its w s (n+1)):=λs=>by
  unfold N
  cases h:st its s
  ·simp
  ·rw[if_pos rfl,if_pos rfl,QZ h,Bool.or_comm];simp
 intro s
 induction s with
 |zero=>rw[one,two,cl,Qb]
 |succ j ih=>
  rw[one,two,cl,Qb,<-ih]
  dsimp only
  rw[Bool.or_assoc]
end W63
namespace W63
abbrev Lw (c:Nat):Prop:=97<=c/\c < 123
def OK:List Nat:=[97,98,99,100,101,102,103,104,105,106,107,108,109,110,111,112,113,114,115,116,117,118,119,120,121,122]
inductive Wr where
 |one (c:Nat)
 |dot
 |br (L:List Nat)
def Wr.txt:Wr->List Nat
 |.one c=>[c]
 |.dot=>[46]
 |.br L=>91::(L++[93])
def Wr.lets:Wr->List Nat
 |.one c=>[c]
 |.dot=>OK
 |.br L=>L
def Wr.Ok:Wr->Prop
 |.one c=>Lw c
 |.dot=>True
 |.br L=>L≠[]/\(∀c∈L,Lw c)/\L.Pairwise (·<·)
abbrev Wi:=Wr×Bool
def star (b:Bool):List Nat:=if b then[42]else[]
def wt (x:Wi):List Nat:=x.1.txt++star x.2
def enc (xs:List Wi):List Nat:=(xs.map wt).flatten
def dec (xs:List Wi):List It:=xs.map λx=>(x.1.lets,x.2)
theorem Dg (x:Wi)(xs:List Wi):enc (x::xs)=x.1.txt++(star x.2++enc xs):=by
 show wt x++enc xs=_
 unfold wt;rw[List.append_assoc]
theorem LO (xs ys:List Wi):enc (xs++ys)=enc xs++enc ys:=by unfold enc;rw[List.map_append,List.flatten_append]
theorem Nc (x:Wr)(h:x.Ok):∃c r,x.txt=c::r/\c≠42:=by
 cases x with
 |one c=>exact⟨c,[],rfl,by have:Lw c:=h;unfold Lw at this;omega⟩
 |dot=>exact⟨46,[],rfl,by decide⟩
 |br L=>exact⟨91,L++[93],rfl,by decide⟩
theorem Nd (xs:List Wi)(h:∀x∈xs,x.1.Ok):enc xs=[]\/∃c r,enc xs=c::r/\c≠42:=by
 cases xs with
 |nil=>exact .inl rfl
 |cons x xs=>
  obtain⟨c,r,e,n⟩:=Nc x.1 (h x List.mem_cons_self)
  exact .inr ⟨c,r++(star x.2++enc xs),by rw[Dg,e];rfl,n⟩
theorem LP (x:Wr):0 < x.txt.length:=by cases x<;>simp[Wr.txt]
theorem Cj (xs:List Wi):(dec xs).length=xs.length:=List.length_map _
theorem Dh:∀(L:List Nat) (lo:Nat),(∀c∈L,lo<=c/\c < 123)->L.Pairwise (·<·)->lo<=123->L.length<=123 - lo
 |[],_,_,_,_=>Nat.zero_le _
 |c::L,lo,h,p,hl=>by
  have hc:=h c List.mem_cons_self
  have:=Dh L (c+1) (λd hd=>⟨List.rel_of_pairwise_cons p hd,(h d (List.mem_cons_of_mem _ hd)).2⟩) (List.Pairwise.of_cons p) (by omega)
  rw[List.length_cons];omega
end W63
namespace W61
open W63 (Wr Wi enc star)
theorem IV {c:Nat}:lw c=true↔W63.Lw c:=by
 unfold lw W63.Lw
 rw[Bool.and_eq_true,decide_eq_true_eq,decide_eq_true_eq]
theorem Nf:OK=W63.OK:=by decide
theorem HS:∀{L:List Nat},rising L=true->L.Pairwise (·<·)
 |[],_=>.nil
 |[a],_=>List.pairwise_singleton _ _
 |a::b::r,h=>by
  unfold rising at h
  rw[Bool.and_eq_true,decide_eq_true_eq]at h
  have ih:=HS (L:=b::r) h.2
  refine .cons (λc hc=>?_) ih
  rcases List.mem_cons.mp hc with rfl|hc
  ·exact h.1
  ·exact Nat.lt_trans h.1 (List.rel_of_pairwise_cons ih hc)
theorem Qc {L:List Nat}(h:FV L=true):(Wr.br L).Ok:=by
 unfold FV at h
 simp only[Bool.and_eq_true,Bool.not_eq_true']at h
 refine⟨λe=>?_,λc hc=>IV.mp (List.all_eq_true.mp h.2.1 c hc),HS h.2.2⟩
 rw[e]at h;exact absurd h.1 (by decide)
theorem Ng {xs a b:List Nat}(h:one xs=some (a,b)):∃x:Wr,x.Ok/\x.lets=a/\xs=x.txt++b:=by
 cases xs with
 |nil=>cases h
 |cons c r=>
  rw[on]at h
  by_cases h1:c=91
  ·rw[if_pos h1]at h
   cases e:cut r with
   |none=>rw[e]at h;cases h
   |some p=>
    obtain⟨p1,p2⟩:=p
    rw[e]at h
    dsimp only at h
    by_cases h2:FV p1=true
    ·rw[if_pos h2]at h;cases h
     refine⟨.br a,Qc h2,rfl,?_⟩
     rw[(CL e).1,h1]
     show _=91::(a++[93])++b
     simp
    ·rw[if_neg h2]at h;cases h
  ·rw[if_neg h1]at h
   by_cases h2:c=46
   ·rw[if_pos h2]at h;cases h
    exact⟨.dot,trivial,Nf.symm,by rw[h2];rfl⟩
   ·rw[if_neg h2]at h
    by_cases h3:lw c=true
    ·rw[if_pos h3]at h;cases h
     exact⟨.one c,IV.mp h3,rfl,rfl⟩
    ·rw[if_neg h3]at h;cases h
theorem HU (b:List Nat):b=star (Ap b).1++(Ap b).2:=by
 unfold Ap
 split<;>rfl
theorem GD {xs:List Nat}(h:xs≠[]):run .begin xs=(match one xs with
 |none=>false
 |some (_,b)=>run .begin (Ap b).2):=by
 have e1:=E7 xs.length xs (Nat.le_refl _)
 cases xs with
 |nil=>exact absurd rfl h
 |cons c r=>
  rw[e1,List.length_cons,pr]
  cases e:one (c::r)with
  |none=>rfl
  |some p=>
   obtain⟨a,b⟩:=p
   have hl:=LN e
   rw[List.length_cons]at hl
   have:=EF b
   dsimp only
   rw[E7 r.length (Ap b).2 (by omega)]
   simp
end W61
namespace S61
open PySem L2 W7
open W63 (Wr Wi enc dec star)
structure Bz (mg:Str->Option Value):Prop extends Blt mg where
 ValueError_:mg "ValueError"=none
 reversed:mg "reversed"=none
 all:mg "all"=none
 dict_:mg "dict"=none
 sorted:mg "sorted"=none
 set_:mg "set"=none
 letters:∃u,mg "LETTERS"=some u/\RelV (.str "abcdefghijklmnopqrstuvwxyz") u
 most:∃u,mg "MOST_SIGNS"=some u/\RelV (.int 40) u
theorem Tg {z:Str}:z=mk z.cps.toList:=BX rfl
theorem Nh:Str.ofString "abcdefghijklmnopqrstuvwxyz"=mk W63.OK:=by decide+kernel
theorem AK {n:Nat}(h:n<=1000):n<=sizeLine:=Nat.le_of_lt (Av h)
structure Ck (H:Hp)(l:Addr)(its:List W63.It):Prop where
 ex:∃vs:List V,H l=some (.lst vs)/\vs.length=its.length/\∀(i:Nat) (x:W63.It),its[i]?=some x->∃a,vs[i]?=some (V.ref a)/\H a=some (.tup [.str (mk x.1),.bl x.2])
theorem Ck.same {H H':Hp}{l:Addr}{its:List W63.It}(h:Ck H l its)(s:AJ H H'):Ck H' l its:=by
 obtain⟨vs,a,b,c⟩:=h
 exact⟨vs,s _ _ a,b,λi x e=>let⟨q,e1,e2⟩:=c i x e;⟨q,e1,s _ _ e2⟩⟩
theorem Ni (c:Nat):(!(Builtin.Str.occurrences (Str.ofString "abcdefghijklmnopqrstuvwxyz") ⟨#[c]⟩ 0 (Str.ofString "abcdefghijklmnopqrstuvwxyz").length 1).isEmpty)=W61.lw c:=by
 by_cases h:c < 123
 ·have all:∀c:Nat,c < 123->(!(Builtin.Str.occurrences (Str.ofString "abcdefghijklmnopqrstuvwxyz") ⟨#[c]⟩ 0 (Str.ofString "abcdefghijklmnopqrstuvwxyz").length 1).isEmpty)=W61.lw c:=by decide+kernel
  exact all c h
 ·have lt:∀d∈(Str.ofString "abcdefghijklmnopqrstuvwxyz").cps.toList,d < 123:=by decide+kernel
  rw[occ_none (λm=>h (lt c m))]
  unfold W61.lw
  rw[decide_eq_false h];simp
structure Ex1 (K:PySem.W.Frag)(mg:Str->Option Value) where
 c_NoPattern:Addr
 m_NoPattern:mg "NoPattern"=some (.ref c_NoPattern)
 q_NoPattern:PySem.W.excIn K c_NoPattern QU "ValueError.__new__"=true
theorem Nj {α β:Type}{f:α->β}{xs:List α}{i:Nat}{x:α}(h:xs[i]?=some x):(xs.take (i+1)).map f=(xs.take i).map f++[f x]:=by
 rw[List.take_succ,h,List.map_append];rfl
theorem all_map (z:List Nat)(f:Nat->Bool):(z.map f).all id=z.all f:=by rw[List.all_map];rfl
theorem mk_one (c:Nat):(⟨#[c]⟩:Str)=mk [c]:=rfl
theorem mk_inj {a b:List Nat}(h:mk a=mk b):a=b:=by have:=congrArg (λz:Str=>z.cps.toList) h;exact this
theorem Ox (a b:List Nat):decide (V.str (mk a)=V.str (mk b))=decide (a=b):=by
 by_cases h:a=b
 ·rw[h,decide_eq_true rfl,decide_eq_true rfl]
 ·rw[decide_eq_false h];exact decide_eq_false λe=>h (mk_inj (by injection e))
def ups (L:List Nat):List Bool:=(List.range (L.length - 1)).map λi=>decide (L.getD i 0 < L.getD (i+1) 0)
theorem GF:∀L:List Nat,(ups L).all id=W61.rising L
 |[]=>rfl
 |[a]=>rfl
 |a::b::r=>by
  have ih:=GF (b::r)
  unfold W61.rising
  rw[<-ih]
  unfold ups
  show((List.range (r.length+1)).map λi=>decide ((a::b::r).getD i 0 < (a::b::r).getD (i+1) 0)).all id=_
  rw[List.range_succ_eq_map,List.map_cons,List.map_map,List.all_cons]
  rfl
def BN (xs:List Nat):List Nat:=match xs with
 |[]=>[]
 |c::r=>if c=91 then(match W61.cut r with
  |none=>c::r
  |some p=>91::(p.1++[93]))else[c]
theorem Nk (a b:List Nat):BY (mk (a++b)) (some ((a.length:Nat):Int)) none=mk b:=by
 apply BX
 show((mk (a++b)).cps.toList.drop (HT.CD (mk (a++b)).length 0 (some ((a.length:Nat):Int)))).take (HT.CD (mk (a++b)).length (mk (a++b)).length none - HT.CD (mk (a++b)).length 0 (some ((a.length:Nat):Int)))=b
 rw[Bt,Ai,HT.Dm,HT.Ir,List.length_append,Nat.min_eq_left (by omega),List.drop_left]
 exact List.take_of_length_le (by omega)
theorem Qd (L:List Nat):BY (mk (91::(L++[93]))) (some 1) (some (-1))=mk L:=by
 apply BX
 have l:(mk (91::(L++[93]))).length=L.length+2:=by rw[Ai];simp
 show((mk (91::(L++[93]))).cps.toList.drop (HT.CD (mk (91::(L++[93]))).length 0 (some 1))).take (HT.CD (mk (91::(L++[93]))).length (mk (91::(L++[93]))).length (some (-1)) - HT.CD (mk (91::(L++[93]))).length 0 (some 1))=L
 have e1:HT.CD (L.length+2) 0 (some 1)=1:=by simp only[HT.CD];split<;>omega
 have e2:HT.CD (L.length+2) (L.length+2) (some (-1))=L.length+1:=by simp only[HT.CD];split<;>omega
 rw[Bt,l,e1,e2]
 show(L++[93]).take (L.length+1 - 1)=L
 rw[Nat.add_sub_cancel,List.take_left]
section
variable {P:Program}{w:World}{K:PySem.W.Frag}{mg:Str->Option Value}{base:Heap}{k:Nat}
inductive BZ (H:Hp):V->Prop
 |non:BZ H .non
 |bl (b:Bool):BZ H (.bl b)
 |int (i:Int):BZ H (.int i)
 |lst {a:Addr} {xs:List V} (e:H a=some (.lst xs)):BZ H (.ref a)
 |tup {a:Addr} {xs:List V} (e:H a=some (.tup xs)):BZ H (.ref a)
 |dct {a:Addr} {kvs:List (Key×V)} (e:H a=some (.dK kvs)):BZ H (.ref a)
theorem BZ.same {H H':Hp}{x:V}(h:BZ H x)(s:AJ H H'):BZ H' x:=by
 cases h with
 |non=>exact .non
 |bl b=>exact .bl b
 |int i=>exact .int i
 |lst e=>exact .lst (s _ _ e)
 |tup e=>exact .tup (s _ _ e)
 |dct e=>exact .dct (s _ _ e)
theorem BZ.ne {H:Hp}{x:V}(h:BZ H x)(z:Str):x≠.str z:=by cases h<;>(intro e;cases e)
theorem Ee (K:PySem.W.Frag):PySem.W.kitOne K (.type "NoneType") (.type "str")=some false:=by rfl
theorem Ef (K:PySem.W.Frag):PySem.W.kitOne K (.type "bool") (.type "str")=some false:=by rfl
theorem FJ (K:PySem.W.Frag):PySem.W.kitOne K (.type "int") (.type "str")=some false:=by rfl
theorem Eg (K:PySem.W.Frag):PySem.W.kitOne K (.type "list") (.type "str")=some false:=by rfl
theorem D6 (K:PySem.W.Frag):PySem.W.kitOne K (.type "tuple") (.type "str")=some false:=by rfl
theorem Eh (K:PySem.W.Frag):PySem.W.kitOne K (.type "dict") (.type "str")=some false:=by rfl
def GG:Sp:=λvs H Q _=>∃z:Str,vs=[.str z]/\z.length<=9000/\∀H',AJ H H'->Q (.bl (z.cps.toList.all W61.lw)) H'
theorem Ji (D:Df K mg "is_letters" s_is_letters)(B:Bz mg):Bi P w K mg base "is_letters" (k+1) ["thing"] GG:=by
 refine D.has Ge (λ_ _ _ _ _ _ us hl=>match us,hl with|[_],_=>rfl) (λvs H Q E h=>by obtain⟨x,rfl,_⟩:=h;rfl) (λf cdv A outer s H vs Q E hr h=>?_)
 obtain⟨z,rfl,zl,q⟩:=h
 obtain⟨u2,h_LETTERS,r_LETTERS⟩:=B.letters
 refine⟨_,(AE (AY (C5 (AN BU rfl B.isinstance AW (AA (pv 0) (AA (B7 (v:=.ty "str") rfl B.str_ IA rfl) AB))) (Cd (AN (EO rfl) rfl B.all Hz (AA (CJ rfl (KP (pv 0)) (NL:=["sign"]) (ix:=[]) (Mj (AM s_is_letters) EW) (λcl C s₃ H₃ fp pins=>⟨(Ae (i:=0) (show List.Nodup (["sign"]:List Str)from by decide+kernel) rfl (by first|exact Or.inl rfl|exact Or.inr rfl)),CA,(Bg Di (pv 0) (Ac (v:=.str "abcdefghijklmnopqrstuvwxyz") rfl h_LETTERS r_LETTERS) (by with_unfolding_all rfl))⟩)) AB)))))),?_⟩
 refine⟨_,rfl,_,_,_,true,rfl,.str _,Cf _ _,_,rfl,A1 ?_⟩
 have zs:z.cps.size<=9000:=zl
 refine⟨_,rfl,_,rfl,λa1 ha1=>?_⟩
 refine JP (by omega) (λi ys HX=>HX a1=some (.lst ys)/\AJ H HX/\ys=((z.cps.toList.take i).map W61.lw).map V.bl)
  (λi ys HX h=>⟨h.1,by rw[h.2.2,List.length_map,List.length_map,List.length_take];omega⟩) ⟨AD,(AJ.refl H).new ha1,rfl⟩ ?_ ?_
 rotate_left
 ·rintro i c ys HX hc ⟨g1,g2,rfl⟩
  rw[<-Array.getElem?_toList]at hc
  refine⟨rfl,_,rfl,_,_,rfl,rfl,?_⟩
  rw[Ni c]
  exact⟨g1,AD,g2.write ha1,by rw[Nj hc,List.map_append];rfl⟩
 rintro ys H1 ⟨g1,s1,rfl⟩
 refine⟨a1,_,rfl,An.of g1,?_⟩
 rw[show z.cps.toList.take z.cps.size=z.cps.toList from List.take_of_length_le (by simp),all_map]
 exact q _ s1
def Ha:Sp:=λvs H Q _=>∃L:List Nat,vs=[.str (mk L)]/\1<=L.length/\L.length<=60/\∀H',AJ H H'->Q (.bl (W61.rising L)) H'
theorem Kl (D:Df K mg "is_rising" s_is_rising)(B:Bz mg):Bi P w K mg base "is_rising" (k+1) ["things"] Ha:=by
 refine D.has IH (λ_ _ _ _ _ _ us hl=>match us,hl with|[_],_=>rfl) (λvs H Q E h=>by obtain⟨l,rfl,_⟩:=h;rfl) (λf cdv A outer s H vs Q E hr h=>?_)
 obtain⟨L,rfl,l1,l60,q⟩:=h
 refine⟨_,(AE (AY (AN (EO rfl) rfl B.all Hz (AA (CJ rfl (Em rfl B.range (AA AF (AA (AN Ak rfl B.len Ar (AA (pv 0) AB)) AB))) (NL:=["k"]) (ix:=[0]) (Mj (AM s_is_rising) FF) (λcl C s₃ H₃ fp pins=>⟨(Ae (i:=0) (show List.Nodup (["k","things"]:List Str)from by decide+kernel) rfl (by first|exact Or.inl rfl|exact Or.inr rfl)),CA,(Bg Gp (Ad C7 (pv 1) (AZ Bx (pv 0) AF) (λ_ _=>rfl)) (Ad C7 (pv 1) (pv 0) (λ_ _=>rfl)) (AQ _))⟩)) AB)))),?_⟩
 have zb:(mk L).length<=sizeLine:=by rw[Ai];exact AK (by omega)
 refine⟨_,rfl,_,rfl,zb,_,_,rfl,⟨by decide,by decide,by rw[Ai];omega,by rw[Ai];omega⟩,λacc hacc=>?_⟩
 have eN:((((mk L).length:Nat):Int) - 1).toNat=L.length - 1:=by rw[Ai];omega
 refine Hu ((((mk L).length:Nat):Int) - 1).toNat (by omega) (λi ys HX=>HX acc=some (.lst ys)/\AJ H HX/\ys=((ups L).take i).map V.bl)
  (λi ys HX h=>⟨h.1,by rw[h.2.2,List.length_map,List.length_take];omega⟩) ⟨AD,(AJ.refl H).new hacc,rfl⟩ ?_ ?_
 rotate_left
 ·rintro i ys HX hi ⟨g1,g2,rfl⟩
  refine⟨hi,?_⟩
  rw[eN]at hi
  rintro x HX' ⟨rfl,rfl⟩
  have a1:DP (mk L).cps.toList (1+(i:Int) - 1)=some (L[i]'(by omega)):=by rw[show(1+(i:Int) - 1)=(i:Int) by omega];exact A4 (List.getElem?_eq_getElem _)
  have a2:DP (mk L).cps.toList (1+(i:Int))=some (L[i+1]'(by omega)):=by rw[show(1+(i:Int))=((i+1:Nat):Int) by omega];exact A4 (List.getElem?_eq_getElem _)
  have eu:(ups L)[i]?=some (decide (L[i]'(by omega) < L[i+1]'(by omega))):=by
   unfold ups
   rw[List.getElem?_map,List.getElem?_range hi]
   show some (decide (L.getD i 0 < L.getD (i+1) 0))=_
   rw[List.getD_eq_getElem?_getD,List.getD_eq_getElem?_getD,List.getElem?_eq_getElem (by omega),List.getElem?_eq_getElem (by omega)];rfl
  refine⟨rfl,_,rfl,_,rfl,_,_,rfl,rfl,_,_,_,rfl,rfl,zb,a1,_,rfl,_,rfl,_,_,_,rfl,rfl,zb,a2,_,_,rfl,rfl,g1,AD,g2.write hacc,?_⟩
  have e:decide ((⟨#[L[i]'(by omega)]⟩:Str).cps.toList < (⟨#[L[i+1]'(by omega)]⟩:Str).cps.toList)=decide (L[i]'(by omega) < L[i+1]'(by omega)):=by
   show decide ([L[i]'(by omega)] < [L[i+1]'(by omega)])=_
   congr 1
   rw[List.cons_lt_cons_iff]
   simp
  rw[e,List.take_succ,eu,List.map_append];rfl
 rintro ys H1 ⟨g1,s1,rfl⟩
 refine⟨Nat.le_refl _,acc,_,rfl,An.of g1,?_⟩
 have ul:(ups L).length=L.length - 1:=by unfold ups;rw[List.length_map,List.length_range]
 rw[eN,List.take_of_length_le (by omega),GF]
 exact q _ s1
end
end S61
namespace S61
open PySem L2 W7
open W63 (Wr Wi enc dec star)
theorem DH:1<=sizeLine:=by decide
theorem S7:Str.ofString "["=mk [91]:=by decide+kernel
theorem Q5:Str.ofString "]"=mk [93]:=by decide+kernel
theorem S8:Str.ofString "."=mk [46]:=by decide+kernel
theorem S9:Str.ofString "*"=mk [42]:=by decide+kernel
theorem s0:Str.ofString ""=mk []:=by decide+kernel
theorem MT {xs:List Nat}(h:93∉xs):(Txt.partition (mk xs) (mk [93])).1=mk xs/\(Txt.partition (mk xs) (mk [93])).2.1=mk []:=by
 unfold Txt.partition
 rw[show mk [93]=⟨#[93]⟩from rfl,occ_none (z:=mk xs) h]
 exact⟨rfl,rfl⟩
theorem Cm (c:Nat)(r:List Nat):BN (c::r)=if c=91 then(match W61.cut r with
 |none=>c::r
 |some p=>91::(p.1++[93]))else[c]:=rfl
section
variable {P:Program}{w:World}{K:PySem.W.Frag}{mg:Str->Option Value}{base:Heap}{k:Nat}
def LQ:Sp:=λvs H Q _=>∃xs:List Nat,vs=[.str (mk xs)]/\xs≠[]/\xs.length<=100/\∀H',AJ H H'->Q (.str (mk (BN xs))) H'
theorem Nl (D:Df K mg "part_ahead" s_part_ahead)(B:Bz mg):Bi P w K mg base "part_ahead" (k+1) ["text"] LQ:=by
 refine D.has Dz (λ_ _ _ _ _ _ us hl=>match us,hl with|[_],_=>rfl) (λvs H Q E h=>by obtain⟨x,rfl,_⟩:=h;rfl) (λf cdv A outer s H vs Q E hr h=>?_)
 obtain⟨xs,rfl,ne,l100,q⟩:=h
 refine⟨_,(AG (Ag (B4 (Az (KQ K (pv 0) AS)))
 (AE (AY (Ad C7 (pv 0) AF (λ_ _=>rfl))))
 Aq)
 (AG (AI (i:=1) Dz.nd rfl (by first|exact Or.inl rfl|exact Or.inr rfl) (BR PySem.F.plainAttrs_str PySem.F.slot_str_partition PySem.F.type_str_partition IG (pv 0) (AA AS AB)))
 (AE (AY (AZ Ah (Ad A9 (pv 1) AF (λ_ _=>rfl)) (Ad A9 (pv 1) AF (λ_ _=>rfl))))))),?_⟩
 have zb:(mk xs).length<=sizeLine:=by rw[Ai];exact AK (by omega)
 refine⟨_,rfl,rfl,_,_,rfl,rfl,_,rfl,?_⟩
 rw[S7]
 cases xs with
 |nil=>exact absurd rfl ne
 |cons c r=>
 rw[show Txt.startswith (mk (c::r)) (mk [91])=decide (c=91)from GB (a:=c) (l:=r) (b:=91)]
 by_cases h1:c=91
 rotate_left
 ·rw[decide_eq_false h1]
  refine A1 ?_
  refine⟨_,rfl,_,_,_,rfl,rfl,zb,A4 (j:=0) (v:=c) rfl,?_⟩
  have:=q _ (AJ.refl H)
  rw[Cm,if_neg h1]at this
  exact this
 rw[decide_eq_true h1]
 subst h1
 refine Ay ?_
 refine⟨_,rfl,rfl,_,_,rfl,rfl,by rw[Q5];rfl,zb,λt ht=>?_⟩
 rw[Q5]
 have s1:AJ H (upd H t (.tup [.str (Txt.partition (mk (91::r)) (mk [93])).1,.str (Txt.partition (mk (91::r)) (mk [93])).2.1,.str (Txt.partition (mk (91::r)) (mk [93])).2.2])):=(AJ.refl H).new ht
 refine⟨_,rfl,t,_,_,_,rfl,rfl,Ca.of AD,rfl,_,rfl,t,_,_,_,rfl,rfl,Ca.of AD,rfl,_,_,rfl,rfl,?_,?_⟩
 all_goals
  cases e:W61.cut r with
  |none=>
   have n93:93∉91::r:=λm=>by
    rcases List.mem_cons.mp m with m|m
    ·cases m
    ·exact W61.GC e m
   obtain⟨g1,g2⟩:=MT n93
   rw[g1,g2]
   first
    |(rw[Ai,Ai];exact AK (by simp at l100 ⊢;omega))
    |(rw[show mk (91::r)++mk []=mk (BN (91::r))from BX (by
       rw[app_list]
       have e2:BN (91::r)=91::r:=by rw[Cm,if_pos rfl,e]
       rw[e2];show 91::r++[]=91::r;simp)]
      rw[g1,g2]at s1
      exact q _ s1)
  |some p=>
   obtain⟨a,b⟩:=p
   obtain⟨e1,n1⟩:=W61.CL e
   have n93:93∉91::a:=λm=>by
    rcases List.mem_cons.mp m with m|m
    ·cases m
    ·exact n1 m
   have el:(mk (91::r)).cps.toList=(91::a)++93::b:=by rw[Bt,e1];rfl
   obtain⟨g1,g2⟩:=Ot el n93
   have g1:(Txt.partition (mk (91::r)) (mk [93])).1=mk (91::a):=g1
   have g2:(Txt.partition (mk (91::r)) (mk [93])).2.1=mk [93]:=g2
   have ll:=congrArg List.length e1
   rw[List.length_append,List.length_cons]at ll
   rw[g1,g2]
   first
    |(rw[Ai,Ai];exact AK (by simp at l100 ⊢;omega))
    |(rw[show mk (91::a)++mk [93]=mk (BN (91::r))from BX (by
       rw[app_list]
       have e2:BN (91::r)=91::(a++[93]):=by rw[Cm,if_pos rfl,e]
       rw[e2];rfl)]
      rw[g1,g2]at s1
      exact q _ s1)
def Nm (cP:Addr):Sp:=λvs H Q E=>∃xs:List Nat,vs=[.str (mk (BN xs))]/\xs≠[]/\xs.length<=40/\(∀a b,W61.one xs=some (a,b)->∀H',AJ H H'->Q (.str (mk a)) H')/\(W61.one xs=none->∀(a:Addr) (H':Hp),AJ H H'->H' a=none->E (.ref a) (some cP) H')
theorem Oy (EX:Ex1 K mg)(D:Df K mg "letters_by" s_letters_by)(B:Bz mg)(G_is_letters:Bi P w K mg base "is_letters" k ["thing"] GG)(G_is_rising:Bi P w K mg base "is_rising" k ["things"] Ha):Bk P w K mg base "letters_by" (k+1) ["part"] (Nm EX.c_NoPattern):=by
 refine D.F2 D0 (λ_ _ _ _ _ _ us hl=>match us,hl with|[_],_=>rfl) (λvs H Q E h=>by obtain⟨x,rfl,_⟩:=h;rfl) (λf cdv A outer s H vs Q E hr h=>?_)
 obtain⟨xs,rfl,ne,l40,q1,q2⟩:=h
 obtain⟨u2,h_LETTERS,r_LETTERS⟩:=B.letters
 refine⟨_,(AG (Ag (AL Am (pv 0) AS (AQ _))
 (AE (AY (Ac (v:=.str "abcdefghijklmnopqrstuvwxyz") rfl h_LETTERS r_LETTERS)))
 Aq)
 (AG (AI (i:=1) D0.nd rfl (by first|exact Or.inl rfl|exact Or.inr rfl) (Aa (Fg (BR PySem.F.plainAttrs_str PySem.F.slot_str_endswith PySem.F.type_str_endswith JU (pv 0) (AA AS AB)) (λ_=>rfl)) (BK CF (pv 0) (BE AF) (BE (Bn BD AF))) (pv 0)))
 (AG (Ag (PW.pt (CS (AL Am (pv 1) AS (AQ _)) (CS (B4 (Az (AR G_is_letters hr rfl (AA (pv 1) AB)))) (CN (B4 (Az (AR G_is_rising hr rfl (AA (pv 1) AB))))))))
 (AE (EU Dr EX.m_NoPattern EX.q_NoPattern rfl (AA AS AB)))
 Aq)
 (AE (AY (pv 1)))))),?_⟩
 cases xs with
 |nil=>exact absurd rfl ne
 |cons c r=>
 have pl:(BN (c::r)).length<=41:=by
  rw[Cm]
  by_cases h1:c=91
  ·rw[if_pos h1]
   cases e:W61.cut r with
   |none=>dsimp only;omega
   |some p=>
    have ll:=congrArg List.length (W61.CL (a:=p.1) (b:=p.2) e).1
    rw[List.length_append,List.length_cons]at ll
    simp at l40 ⊢;omega
  ·rw[if_neg h1];simp
 have zb:(mk (BN (c::r))).length<=sizeLine:=by rw[Ai];exact AK (by omega)
 refine⟨_,rfl,rfl,_,rfl,?_⟩
 rw[S8,Ox]
 by_cases d46:BN (c::r)=[46]
 ·rw[decide_eq_true d46]
  refine A1 ?_
  have c46:c=46:=by
   rw[Cm]at d46
   by_cases h1:c=91
   ·rw[if_pos h1]at d46
    cases e:W61.cut r with
    |none=>rw[e]at d46;dsimp only at d46;rw[h1]at d46;cases d46
    |some p=>rw[e]at d46;dsimp only at d46;injection d46 with x _;cases x
   ·rw[if_neg h1]at d46;injection d46
  have:=q1 W61.OK r (by rw[W61.on,if_neg (by rw[c46];decide),if_pos c46]) H (AJ.refl H)
  rw[show Str.ofString "abcdefghijklmnopqrstuvwxyz"=mk W61.OK by decide+kernel]
  exact this
 rw[decide_eq_false d46]
 refine Ay ?_
 obtain⟨L,l60,hexp,hone,hnone⟩:∃L:List Nat,L.length<=60/\((Txt.endswith (mk (BN (c::r))) (mk [93])=true/\BY (mk (BN (c::r))) (some 1) (some (-1))=mk L)\/(Txt.endswith (mk (BN (c::r))) (mk [93])=false/\BN (c::r)=L))/\(W61.FV L=true->∃b,W61.one (c::r)=some (L,b))/\(W61.FV L=false->W61.one (c::r)=none):=by
  rw[Cm,W61.on]
  by_cases h1:c=91
  ·rw[if_pos h1,if_pos h1]
   cases e:W61.cut r with
   |none=>
    have n93:=W61.GC e
    dsimp only
    refine⟨c::r,by simp at l40 ⊢;omega,.inr ⟨?_,rfl⟩,λh=>?_,λ_=>rfl⟩
    ·obtain⟨l,x,ex⟩:∃l x,c::r=l++[x]:=⟨(c::r).dropLast,(c::r).getLast (by simp),(List.dropLast_concat_getLast (by simp)).symm⟩
     have xm:x∈c::r:=by rw[ex];simp
     rw[ex]
     refine(Ec (l:=l) (a:=x) (b:=93)).trans (decide_eq_false λe=>?_)
     rw[e]at xm
     rcases List.mem_cons.mp xm with m|m
     ·rw[h1]at m;cases m
     ·exact n93 m
    ·unfold W61.FV at h
     rw[h1]at h
     rw[List.all_cons,show W61.lw 91=false by decide]at h
     simp at h
   |some p=>
    obtain⟨a,b⟩:=p
    have ll:=congrArg List.length (W61.CL e).1
    rw[List.length_append,List.length_cons]at ll
    dsimp only
    refine⟨a,by simp at l40 ⊢;omega,.inl ⟨(Ec (l:=91::a) (a:=93) (b:=93)).trans (by decide),Qd a⟩,λh=>⟨b,by rw[if_pos h]⟩,λh=>by rw[if_neg (by rw[h];decide)]⟩
  ·rw[if_neg h1,if_neg h1]
   have c46:c≠46:=λe=>d46 (by rw[Cm,if_neg h1,e])
   rw[if_neg c46]
   by_cases h2:c=93
   ·subst h2
    refine⟨[],by simp,.inl ⟨(Ec (l:=[]) (a:=93) (b:=93)).trans (by decide),by decide+kernel⟩,λh=>absurd h (by decide),λ_=>by rw[if_neg (by decide)]⟩
   ·refine⟨[c],by simp,.inr ⟨(Ec (l:=[]) (a:=c) (b:=93)).trans (decide_eq_false h2),rfl⟩,λh=>⟨r,?_⟩,λh=>?_⟩
    ·unfold W61.FV W61.rising at h
     simp at h
     rw[if_pos h]
    ·unfold W61.FV W61.rising at h
     simp at h
     rw[if_neg (by rw[h];decide)]
 dsimp only[Pb]
 refine mid (λσ' H'=>σ'=[some (.str (mk (BN (c::r)))),some (.str (mk L))]/\H'=H) ?_ λE2 nx=>?_
 rotate_left
 ·refine⟨_,rfl,rfl,_,_,rfl,rfl,_,rfl,?_⟩
  rw[Q5]
  rcases hexp with⟨h1,h2⟩|⟨h1,h2⟩
  ·refine Bl h1 ⟨_,rfl,_,rfl,_,rfl,_,rfl,_,rfl,zb,nx _ _ ⟨?_,rfl⟩⟩
   show[some (V.str (mk (BN (c::r)))),some (V.str (BY (mk (BN (c::r))) (some 1) (some (-1))))]=_
   rw[h2]
  ·refine L2.A2 h1 ⟨_,rfl,nx _ _ ⟨by rw[<-h2];rfl,rfl⟩⟩
 rintro σ' HH ⟨rfl,eH⟩
 replace eH:=eH.symm
 subst eH
 have zl:(mk L).length<=9000:=by rw[Ai];omega
 have bad:W61.FV L=false->∀H2,AJ H H2->∀a,H2 a=none->E (.ref a) (some EX.c_NoPattern) H2:=λh H2 s a ha=>q2 (hnone h) a H2 s ha
 refine⟨_,rfl,rfl,_,rfl,?_⟩
 rw[s0,Ox]
 by_cases L0:L=[]
 ·rw[decide_eq_true L0]
  exact A1 ⟨DH,λa ha=>bad (by rw[L0];decide) H (AJ.refl H) a ha⟩
 rw[decide_eq_false L0]
 refine Ay ?_
 refine⟨_,rfl,_,rfl,zl,λH1 s1=>⟨_,rfl,?_⟩⟩
 rw[Bt]
 have L1:L.isEmpty=false:=by cases L with|nil=>exact absurd rfl L0|cons _ _=>rfl
 cases al:L.all W61.lw with
 |false=>exact A1 ⟨DH,λa ha=>bad (by unfold W61.FV;rw[al];simp) H1 s1 a ha⟩
 |true=>
 refine Ay ?_
 refine⟨_,rfl,_,rfl,List.length_pos_iff.mpr L0,l60,λH2 s2=>⟨_,rfl,?_⟩⟩
 cases ri:W61.rising L with
 |false=>exact A1 ⟨DH,λa ha=>bad (by unfold W61.FV;rw[ri];simp) H2 (s1.trans s2) a ha⟩
 |true=>
 refine Ay ?_
 obtain⟨b,hb⟩:=hone (by unfold W61.FV;rw[al,ri,L1];rfl)
 exact⟨_,rfl,q1 L b hb _ (s1.trans s2)⟩
end
end S61
namespace W61
open W63 (Wr Wi enc star)
theorem LR:∀{L b:List Nat},93∉L->cut (L++93::b)=some (L,b)
 |[],b,_=>by rw[List.nil_append,ct,if_pos rfl]
 |c::L,b,h=>by
  rw[List.cons_append,ct,if_neg (λe=>h (by rw[e];simp)),LR (λm=>h (List.mem_cons_of_mem _ m))]
  rfl
theorem Hb:∀{L:List Nat},L.Pairwise (·<·)->rising L=true
 |[],_=>rfl
 |[a],_=>rfl
 |a::b::r,h=>by
  unfold rising
  rw[Bool.and_eq_true,decide_eq_true_eq]
  exact⟨List.rel_of_pairwise_cons h List.mem_cons_self,Hb (List.Pairwise.of_cons h)⟩
theorem Qe {x:Wr}(ok:x.Ok)(b:List Nat):one (x.txt++b)=some (x.lets,b):=by
 cases x with
 |one c=>
  have lc:W63.Lw c:=ok
  show one (c::b)=_
  rw[on,if_neg (by unfold W63.Lw at lc;omega),if_neg (by unfold W63.Lw at lc;omega),if_pos (IV.mpr lc)]
  rfl
 |dot=>
  show one (46::b)=_
  rw[on,if_neg (by decide),if_pos rfl,Nf]
  rfl
 |br L=>
  obtain⟨h1,h2,h3⟩:=ok
  show one (91::((L++[93])++b))=_
  have n93:93∉L:=λm=>by have:=h2 _ m;unfold W63.Lw at this;omega
  have okL':FV L=true:=by
   unfold FV
   rw[show L.all lw=true from List.all_eq_true.mpr λc hc=>IV.mpr (h2 c hc),Hb h3]
   cases L with
   |nil=>exact absurd rfl h1
   |cons _ _=>rfl
  rw[on,if_pos rfl,show(L++[93])++b=L++93::b by simp,LR n93]
  dsimp only
  rw[if_pos okL']
  rfl
theorem MU {s:Bool}{b:List Nat}(h:b=[]\/∃c r,b=c::r/\c≠42):(Ap (star s++b)).2=b:=by
 cases s with
 |true=>rfl
 |false=>
  show(Ap b).2=b
  rcases h with rfl|⟨c,r,rfl,n⟩
  ·rfl
  ·unfold Ap
   split
   ·rename_i q;injection q with q1 _;exact absurd q1 n
   ·rfl
theorem Jj:∀{ws:List Wi},(∀w∈ws,w.1.Ok)->run .begin (enc ws)=true
 |[],_=>by show run .begin []=true;simp only[run]
 |x::ws,h=>by
  have hx:=h x List.mem_cons_self
  have hr:∀w∈ws,w.1.Ok:=λw hw=>h w (List.mem_cons_of_mem _ hw)
  have ne:enc (x::ws)≠[]:=λe=>by
   have:=congrArg List.length e
   rw[W63.Dg,List.length_append,List.length_nil]at this
   have:=W63.LP x.1
   omega
  rw[GD ne,W63.Dg,Qe hx]
  dsimp only
  rw[MU (W63.Nd ws hr)]
  exact Jj hr
end W61
namespace S61
open PySem L2 W7
open W63 (Wr Wi enc dec star)
def BG (x:V):Prop:=∃z:Str,x=.str z/\z.length<=40/\W61.run .begin z.cps.toList=true
theorem MV {xs:List Nat}(h:xs≠[]):∃rest,xs=BN xs++rest/\∀a b,W61.one xs=some (a,b)->rest=b:=by
 cases xs with
 |nil=>exact absurd rfl h
 |cons c r=>
  rw[Cm,W61.on]
  by_cases h1:c=91
  ·rw[if_pos h1,if_pos h1]
   cases e:W61.cut r with
   |none=>exact⟨[],by simp,λa b h=>by cases h⟩
   |some p=>
    obtain⟨a,b⟩:=p
    refine⟨b,?_,λa' b' h=>?_⟩
    ·show c::r=(91::(a++[93]))++b
     rw[h1,(W61.CL e).1];simp
    ·dsimp only at h
     by_cases ok:W61.FV a=true
     ·rw[if_pos ok]at h;cases h;rfl
     ·rw[if_neg ok]at h;cases h
  ·rw[if_neg h1,if_neg h1]
   refine⟨r,rfl,λa b h=>?_⟩
   by_cases h2:c=46
   ·rw[if_pos h2]at h;cases h;rfl
   ·rw[if_neg h2]at h
    by_cases h3:W61.lw c=true
    ·rw[if_pos h3]at h;cases h;rfl
    ·rw[if_neg h3]at h;cases h
theorem Oz (r:List Nat):Txt.startswith (mk r) (mk [42])=(W61.Ap r).1:=by
 cases r with
 |nil=>exact Kk
 |cons c r=>
  refine(GB (a:=c) (l:=r) (b:=42)).trans ?_
  by_cases h:c=42
  ·subst h;rfl
  ·rw[decide_eq_false h]
   unfold W61.Ap
   split
   ·rename_i q;injection q with q1 _;exact absurd q1 h
   ·rfl
theorem Dt (ws:List Wi):ws.length<=(enc ws).length:=by
 induction ws with
 |nil=>exact Nat.zero_le _
 |cons y ys ih=>rw[W63.Dg,List.length_append,List.length_append,List.length_cons];have:=W63.LP y.1;omega
section
variable {P:Program}{w:World}{K:PySem.W.Frag}{mg:Str->Option Value}{base:Heap}{k:Nat}
def CM (cP:Addr):Sp:=λvs H Q E=>∃x:V,vs=[x]/\((∃z,x=.str z/\z.length<=100)\/BZ H x)/\
 (∀ws:List Wi,x=.str (mk (enc ws))->(enc ws).length<=40->(∀y∈ws,y.1.Ok)->∀(l:Addr) (H':Hp),AJ H H'->H l=none->Ck H' l (dec ws)->Q (.ref l) H')/\(¬BG x->∀(a:Addr) (H':Hp),AJ H H'->H' a=none->E (.ref a) (some cP) H')
theorem MW (EX:Ex1 K mg)(D:Df K mg "items_of" s_items_of)(B:Bz mg)(G_part_ahead:Bi P w K mg base "part_ahead" k ["text"] LQ)(G_letters_by:Bk P w K mg base "letters_by" k ["part"] (Nm EX.c_NoPattern)):Bk P w K mg base "items_of" (k+1) ["pattern"] (CM EX.c_NoPattern):=by
 refine D.F2 Bs (λ_ _ _ _ _ _ us hl=>match us,hl with|[_],_=>rfl) (λvs H Q E h=>by obtain⟨x,rfl,_⟩:=h;rfl) (λf cdv A outer s H vs Q E hr h=>?_)
 obtain⟨x,rfl,xx,q1,q2⟩:=h
 obtain⟨u2,h_MOST_SIGNS,r_MOST_SIGNS⟩:=B.most
 refine⟨_,(AG (Ag (PW.pt (CS (B4 (Az (AN BU rfl B.isinstance AW (AA (pv 0) (AA (B7 (v:=.ty "str") rfl B.str_ IA rfl) AB))))) (CN (AL Ip (AN Ak rfl B.len Ar (AA (pv 0) AB)) (Ac (v:=.int 40) rfl h_MOST_SIGNS r_MOST_SIGNS) (AQ _)))))
 (AE (EU Dr EX.m_NoPattern EX.q_NoPattern rfl (AA AS AB)))
 Aq)
 (AG (AI (i:=1) Bs.nd rfl (by first|exact Or.inl rfl|exact Or.inr rfl) (AU AB))
 (AG (AI (i:=2) Bs.nd rfl (by first|exact Or.inl rfl|exact Or.inr rfl) (pv 0))
 (AG (Im PassesOwn.leaving (AL Fe (pv 2) AS (AQ _))
 (AG (AI (i:=3) Bs.nd rfl (by first|exact Or.inl rfl|exact Or.inr rfl) (AR G_part_ahead hr rfl (AA (pv 2) AB)))
 (AG (AI (i:=2) Bs.nd rfl (by first|exact Or.inl rfl|exact Or.inr rfl) (BK CF (pv 2) (BE (AN Ak rfl B.len Ar (AA (pv 3) AB))) B2))
 (AG (AI (i:=4) Bs.nd rfl (by first|exact Or.inl rfl|exact Or.inr rfl) (BR PySem.F.plainAttrs_str PySem.F.slot_str_startswith PySem.F.type_str_startswith Dy (pv 2) (AA AS AB)))
 (AG (Ag (Az (pv 4))
 (AE (AI (i:=2) Bs.nd rfl (by first|exact Or.inl rfl|exact Or.inr rfl) (BK CF (pv 2) (BE AF) B2)))
 Aq)
 (AE (BW (BR PySem.F.plainAttrs_list PySem.F.slot_list_append PySem.F.type_list_append BC (pv 1) (AA (Bc (AA (B1 G_letters_by Ba hr rfl (AA (pv 3) AB)) (AA (pv 4) AB))) AB)))))))))
 (AE (AY (pv 1))))))),?_⟩
 rcases xx with⟨z,rfl,zl⟩|ns
 rotate_left
 ·have out:=q2 (λ⟨z,e,_⟩=>ns.ne z e)
  cases ns with
  |non=>exact⟨_,rfl,_,_,"str",false,rfl,.non,Ee _,_,rfl,A1 ⟨DH,λa ha=>out a H (AJ.refl H) ha⟩⟩
  |bl b=>exact⟨_,rfl,_,_,"str",false,rfl,.bl _,Ef _,_,rfl,A1 ⟨DH,λa ha=>out a H (AJ.refl H) ha⟩⟩
  |int i=>exact⟨_,rfl,_,_,"str",false,rfl,.int _,FJ _,_,rfl,A1 ⟨DH,λa ha=>out a H (AJ.refl H) ha⟩⟩
  |lst e=>exact⟨_,rfl,_,_,"str",false,rfl,.lst e,Eg _,_,rfl,A1 ⟨DH,λa ha=>out a H (AJ.refl H) ha⟩⟩
  |tup e=>exact⟨_,rfl,_,_,"str",false,rfl,.tup e,D6 _,_,rfl,A1 ⟨DH,λa ha=>out a H (AJ.refl H) ha⟩⟩
  |dct e=>exact⟨_,rfl,_,_,"str",false,rfl,.dK e,Eh _,_,rfl,A1 ⟨DH,λa ha=>out a H (AJ.refl H) ha⟩⟩
 have zb:z.length<=sizeLine:=AK (by omega)
 refine⟨_,rfl,_,_,_,true,rfl,.str _,Cf _ _,_,rfl,Ay ?_⟩
 refine⟨_,rfl,_,rfl,zb,_,_,rfl,rfl,_,rfl,?_⟩
 by_cases l40:z.length<=40
 rotate_left
 ·refine L2.Bl (decide_eq_true (by omega)) ⟨DH,λa ha=>q2 (λ⟨z',e,l,_⟩=>?_) a H (AJ.refl H) ha⟩
  injection e with e
  rw[<-e]at l;exact l40 l
 refine L2.A2 (decide_eq_false (by omega)) ?_
 refine⟨AK (show 0<=1000 by omega),λl hl=>?_⟩
 refine⟨_,rfl,?_⟩
 refine⟨λm σ H''=>∃(done:List Wi) (left:List Nat) (o3 o4:Option V),(∀y∈done,y.1.Ok)/\z=mk (enc done++left)/\W61.run .begin left=W61.run .begin z.cps.toList/\σ=[some (.str z),some (.ref l),some (.str (mk left)),o3,o4]/\AJ H H''/\Ck H'' l (dec done)/\m=left.length,
  ⟨_,[],z.cps.toList,none,none,by simp,Tg,rfl,rfl,(AJ.refl H).new hl,⟨[],AD,rfl,λi x e=>by cases e⟩,rfl⟩,?_⟩
 rintro m σ H2 ⟨done,left,o3,o4,okd,ez,er,rfl,s2,it,rfl⟩
 have ll:(enc done).length+left.length<=40:=by
  have:=congrArg Str.length ez
  rw[Ai,List.length_append]at this
  omega
 refine⟨_,rfl,rfl,_,rfl,?_⟩
 rw[s0,Ox]
 by_cases l0:left=[]
 ·subst l0
  refine L2.A2 (by rw[decide_eq_true rfl];rfl) ?_
  rw[List.append_nil]at ez
  subst ez
  refine⟨_,rfl,q1 done rfl (by simp at ll;omega) okd _ _ s2 hl it⟩
 refine L2.Bl (by rw[decide_eq_false l0];rfl) ?_
 obtain⟨rest,er2,ers⟩:=MV l0
 have lr:=congrArg List.length er2
 rw[List.length_append]at lr
 refine⟨_,λσ' H3 h=>h,?_⟩
 refine⟨_,rfl,left,rfl,l0,by omega,λH3 s3=>?_⟩
 refine⟨_,rfl,_,rfl,_,rfl,by rw[Ai];exact AK (by omega),_,rfl,_,rfl,by rw[Ai];exact AK (by omega),?_⟩
 have ec:BY (mk left) (some (((mk (BN left)).length:Nat):Int)) none=mk rest:=by
  rw[Ai]
  have:=Nk (BN left) rest
  rwa[<-er2]at this
 rw[ec]
 refine⟨_,rfl,rfl,_,_,rfl,rfl,?_⟩
 rw[S9,Oz]
 dsimp only[FC]
 refine mid (λσ' H'=>σ'=[some (.str z),some (.ref l),some (.str (mk (W61.Ap rest).2)),some (.str (mk (BN left))),some (.bl (W61.Ap rest).1)]/\H'=H3) ?_ λE2 nx=>?_
 rotate_left
 ·refine⟨_,rfl,_,rfl,?_⟩
  have hu:=W61.HU rest
  cases hx:(W61.Ap rest).1 with
  |true=>
   refine A1 ?_
   rw[hx]at hu
   refine⟨_,rfl,_,rfl,_,rfl,by rw[Ai];exact AK (by omega),nx _ _ ⟨?_,rfl⟩⟩
   have:=Nk [42] (W61.Ap rest).2
   have e9:([42]:List Nat)++(W61.Ap rest).2=rest:=hu.symm
   rw[e9]at this
   rw[hx]
   show[_,_,some (V.str (BY (mk rest) (some 1) none)),_,_]=_
   rw[show(some (1:Int))=some (([42]:List Nat).length:Int)from rfl,this]
  |false=>
   refine Ay ?_
   rw[hx]at hu
   have e9:(W61.Ap rest).2=rest:=hu.symm
   exact nx _ _ ⟨by rw[hx,e9];rfl,rfl⟩
 rintro σ' HH ⟨rfl,eH⟩
 replace eH:=eH.symm
 subst eH
 obtain⟨vs,hv,lv,at_⟩:=it.same s3
 refine⟨_,rfl,.inl ⟨rfl,_,An.of hv⟩,_,rfl,left,rfl,l0,by omega,λa b eo H4 s4=>?_,λeo a H4 s4 ha=>?_⟩
 rotate_left
 ·refine q2 (λ⟨z',e,_,g⟩=>?_) a H4 ((s2.trans s3).trans s4) ha
  injection e with e
  rw[<-e,<-er,W61.GD l0,eo]at g
  cases g
 obtain rfl:rest=b:=ers a b eo
 obtain⟨x,okx,rfl,ex⟩:=W61.Ng eo
 have h1:=W61.LN eo
 have h2:=W61.EF rest
 refine⟨_,rfl,AK (show 2<=1000 by omega),λt ht=>?_⟩
 have hv4:=s4 _ _ hv
 have lt:l≠t:=AV hv4 ht
 have s5:AJ H4 (upd H4 t (.tup [.str (mk x.lets),.bl (W61.Ap rest).1])):=(AJ.refl H4).new ht
 have dl:done.length<=40:=by have:=Dt done;omega
 have dl2:=W63.Cj done
 refine⟨l,vs,_,rfl,rfl,s5 _ _ hv4,Nat.lt_of_lt_of_le (show vs.length < 1000 by omega) (AK (Nat.le_refl _)),?_⟩
 refine⟨(W61.Ap rest).2.length,by omega,done++[(x,(W61.Ap rest).1)],(W61.Ap rest).2,_,_,λy hy=>?_,?_,?_,rfl,((s2.trans s3).trans (s4.trans s5)).write hl,⟨vs++[.ref t],AD,by rw[List.length_append,lv,W63.Cj,W63.Cj,List.length_append];rfl,λi y e=>?_⟩,rfl⟩
 ·rcases List.mem_append.mp hy with hy|hy
  ·exact okd y hy
  ·rw[List.mem_singleton.mp hy];exact okx
 ·rw[ez]
  congr 1
  rw[W63.LO,ex]
  have hu:=W61.HU rest
  have e8:enc [(x,(W61.Ap rest).1)]=x.txt++star (W61.Ap rest).1:=by rw[W63.Dg];simp[enc]
  rw[e8]
  conv=>lhs;rw[hu]
  simp
 ·rw[<-er,W61.GD l0,eo]
 have ed:dec (done++[(x,(W61.Ap rest).1)])=dec done++[(x.lets,(W61.Ap rest).1)]:=by unfold dec;rw[List.map_append];rfl
 rw[ed]at e
 rcases Nat.lt_or_ge i (dec done).length with h|h
 ·rw[List.getElem?_append_left h]at e
  obtain⟨a,e1,e2⟩:=at_ i y e
  refine⟨a,by rw[List.getElem?_append_left (by omega)];exact e1,?_⟩
  have:=s5 _ _ (s4 _ _ e2)
  have na:a≠l:=λz=>by rw[z,s5 _ _ hv4]at this;cases this
  rw[AX na];exact this
 ·rw[List.getElem?_append_right h]at e
  have hi:i=(dec done).length:=by
   have:=(List.getElem?_eq_some_iff.mp e).1
   simp at this
   omega
  rw[hi,Nat.sub_self]at e
  injection e with e
  subst e
  refine⟨t,by rw[hi,List.getElem?_append_right (by omega),lv,Nat.sub_self];rfl,?_⟩
  rw[AX (Ne.symm lt)];exact AD
def Jk:Sp:=λvs H Q _=>∃x:V,vs=[x]/\((∃z,x=.str z/\z.length<=100)\/BZ H x)/\(BG x->∀H',AJ H H'->Q (.bl true) H')/\(¬BG x->∀H',AJ H H'->Q (.bl false) H')
theorem DB {ws:List Wi}(l:(enc ws).length<=40)(ok:∀y∈ws,y.1.Ok):BG (.str (mk (enc ws))):=⟨_,rfl,by rw[Ai];exact l,by rw[Bt];exact W61.Jj ok⟩
structure Ex2 (K:PySem.W.Frag)(mg:Str->Option Value) extends Ex1 K mg where
 p_NoPattern:PySem.W.exmOne K (.ref c_NoPattern) (.ref c_NoPattern)=some true
theorem MX (EX:Ex2 K mg)(D:Df K mg "is_pattern" s_is_pattern)(B:Bz mg)(G_items_of:Bk P w K mg base "items_of" k ["pattern"] (CM EX.c_NoPattern)):Bi P w K mg base "is_pattern" (k+1) ["thing"] Jk:=by
 refine D.has Gf (λ_ _ _ _ _ _ us hl=>match us,hl with|[_],_=>rfl) (λvs H Q E h=>by obtain⟨x,rfl,_⟩:=h;rfl) (λf cdv A outer s H vs Q E hr h=>?_)
 obtain⟨x,rfl,xx,q1,q2⟩:=h
 refine⟨_,(AG (Cq (λpn xe E σ0 hx=>(AE (BW (AO G_items_of hx hr rfl (AA (pv 0) AB)))))
 (Rj rfl EX.m_NoPattern (λa=>(AE (AY BQ)))))
 (AE (AY BQ))),?_⟩
 refine⟨rfl,_,rfl,x,rfl,xx,λws e l40 ok l H1 s1 hl it=>?_,λnb a H1 s1 ha=>?_⟩
 ·subst e
  exact q1 (DB l40 ok) H1 s1
 ·refine⟨a,EX.c_NoPattern,rfl,rfl,EX.p_NoPattern,?_⟩
  exact q2 nb _ (s1.new ha)
def Nn:Sp:=λvs H Q _=>∃x:V,vs=[x]/\((∃z,x=.str z/\z.length<=100)\/BZ H x)/\∀b:Bool,(b=true↔BG x)->Q (.bl b) H
def Np:W61.Way->Str
 |.begin=>Str.ofString "begin"
 |.item=>Str.ofString "item"
 |.opn=>Str.ofString "open"
 |.set _=>Str.ofString "set"
end
end S61
namespace L2
open PySem PySem.Spec PyProof.Rows PySem.W
theorem MY (kvs:List (Key×Value))(k:Key)(v:Value):(stored kvs k v).length<=kvs.length+1:=by
 unfold stored
 split
 ·rw[List.length_map];omega
 ·rw[List.length_append];exact Nat.le_refl _
theorem Hc:∀(kvs more:List (Key×Value)),(merged kvs more).length<=kvs.length+more.length
 |kvs,[]=>Nat.le_refl _
 |kvs,m::more=>by
  have:=Hc (stored kvs m.1 m.2) more
  have:=MY kvs m.1 m.2
  show(merged (stored kvs m.1 m.2) more).length<=_
  rw[List.length_cons];omega
section
variable {prog:Program}{w:World}{A:Around}{E:Value->Shared->Prop}
theorem GH {l I D:Addr}{items:Array Value}{ps:List (Key×Value)}{R:Result->Shared->Prop}(hh:A.handled=none)(lI:l≠I)(DI:D≠I)(Dl:D≠l)(nI:∀a:Addr,Value.ref a∈items->a≠I)(hn:items.size < 10000):
 ∀(n i:Nat) (s:Shared),items.size - i=n->i<=items.size->s.heap.IsListIter I l i->s.heap.IsList l items->NI s.heap D items ps->s.heap.DictOf (A6 prog w) D (merged [] (ps.take i))->
  (∀h' tk,(∀b o,b≠I->b≠D->s.heap.get? b=some o->h'.get? b=some o)->h'.DictOf (A6 prog w) D (merged [] ps)->R (.ok (.ret .none)) { s with heap:=h',toks:=tk })->
  codeAny (model prog w) A (.builtin "dict.update.loop" ⟨[.ref D,.ref I,rawInt i,.none],[]⟩) R s
 |0,i,s,hk,hi,h1,h2,h3,h4,h=>by
  have ei:i=items.size:=by omega
  subst ei
  refine codeAny_builtin DE ?_
  rw[Around.under_plainId B3 _]
  show wpAny _ A.in1 (pyNext (.ref I) >>= _) _ _ s
  have Wk:=Walks.list (prog:=prog) (w:=w) (A:=A.in1) hh I l lI items
  refine wpAny_bind (Wk.done s _ _ ⟨h1,h2⟩ λh' tk kp=>?_)
  refine wpAny_bind (m:=Builtin.Dict.addKeywords D []) (wpAny_pure (wpAny_pure ?_))
  refine h h' tk (λb o n1 _ e=>kp b o (by simpa using n1) e) ?_
  rw[List.take_of_length_le (by rw[h3.1];exact Nat.le_refl _)]at h4
  obtain⟨o,es,ep,e,r⟩:=h4
  exact⟨o,es,ep,kp D o (by simpa using DI) e,r⟩
 |n+1,i,s,hk,hi,h1,h2,h3,h4,h=>by
  have il:i < items.size:=by omega
  refine codeAny_builtin DE ?_
  rw[Around.under_plainId B3 _]
  show wpAny _ A.in1 (pyNext (.ref I) >>= _) _ _ s
  have Wk:=Walks.list (prog:=prog) (w:=w) (A:=A.in1) hh I l lI items
  refine wpAny_bind (Wk.item i s _ _ il ⟨h1,h2⟩ λv h' tk hP hSt kp=>?_)
  obtain⟨pk,pv,hps⟩:∃pk pv,ps[i]?=some (pk,pv):=⟨_,_,List.getElem?_eq_getElem (by rw[h3.1];exact il)⟩
  obtain⟨a,ku,ha,hD,hk',tup⟩:=h3.2 i pk pv hps
  have ev:v=.ref a:=Option.some.inj (hP.symm.trans ha)
  subst ev
  have aI:a≠I:=nI a (Array.mem_of_getElem? ha)
  obtain⟨o,e1,e2,n2,e3⟩:=tup
  have e1':=kp a o (by simpa using aI) e1
  have hTt:(Shared.mk h' s.gens s.drawn tk s.os).TypeIs (.ref a) "tuple":=⟨o,e1',e2⟩
  have h4':h'.DictOf (A6 prog w) D (merged [] (ps.take i)):=by
   obtain⟨o,es,ep,e,r⟩:=h4
   exact⟨o,es,ep,kp D o (by simpa using DI) e,r⟩
  dsimp only
  refine wpAny_bind (wpAny_holding ?_)
  refine wpAny_bind (wpAny_tryCatch ?_)
  unfold Builtin.Dict.pairItems
  refine wpAny_bind (wpAny_typeOf hTt ?_)
  rw[if_pos (by decide)]
  refine wpAny_bind ?_
  unfold seqItems?
  refine wpAny_bind (wpAny_load e1' ?_)
  rw[e3]
  refine wpAny_pure (wpAny_pure ?_)
  refine wpAny_holding (wpAny_dictSet_pairs (K9 hk') h4' (λh2' dd sb=>?_) (Nat.le_of_lt (C9 (by have:=Hc [] (ps.take i);rw[List.length_take]at this;have:=Nat.min_le_left i ps.length;simp at*;omega))))
  refine wpAny_pure ⟨plainId_quiet B3 _,?_⟩
  rw[<-merged_take_succ [] ps i _ hps]at dd
  have kk:∀b o,b≠I->b≠D->s.heap.get? b=some o->h2'.get? b=some o:=λb o n1 n2 e=>(sb.2 b n2).trans (kp b o (by simpa using n1) e)
  refine GH hh lI DI Dl nI hn n (i+1) { s with heap:=h2',toks:=tk+1 } (by omega) (by omega) ?_ ?_ (h3.keeps nI kk) dd λh5 tk5 k5 d5=>?_
  ·exact hSt.1.at λo e=>(sb.2 I (Ne.symm DI)).trans e
  ·obtain⟨o,e,r⟩:=hSt.2
   exact⟨o,(sb.2 l (Ne.symm Dl)).trans e,r⟩
  ·exact h h5 tk5 (λb o n1 n2 e=>k5 b o n1 n2 (kk b o n1 n2 e)) d5
end
section
variable {prog:Program}{w:World}{A:Around}{E:Value->Shared->Prop}{s:Shared}
theorem MZ {l:Addr}{items:List Value}{n:Nat}{ps:List (Key×Value)}{Q:Value->Shared->Prop}(hh:A.handled=none)(hl:s.heap.get? l=some { cls:=.type "list",data:=.seq items.toArray n })(hps:NI s.heap s.heap.objs.size items.toArray ps)(hn:items.length < 10000)
 (h:∀h' tk,(∀b o,s.heap.get? b=some o->h'.get? b=some o)->h'.DictOf (A6 prog w) s.heap.objs.size (merged [] ps)->Q (.ref s.heap.objs.size) { s with heap:=h',toks:=tk }):
 wpAny (model prog w) A (call (.type "dict") [.ref l]) Q E s:=by
 have hlt:l < s.heap.objs.size:=Heap.lt_size hl
 refine callType_codes (Q₁:=λobj s₁=>obj=.ref s.heap.objs.size/\s₁={ s with heap:=s.heap.push { cls:=.type "dict",data:=.dict #[] } }) F.kt_called_dict (F.kt_typeCall_dict_1 _) F.entry_dict_init (kt_code_dict_new _ ⟨rfl,rfl⟩) ?_
 rintro obj s₁ ⟨rfl,rfl⟩
 have hnew:(s.heap.push { cls:=.type "dict",data:=.dict #[] }).DictOf (A6 prog w) s.heap.objs.size []:=Heap.DictOf.new s.heap
 refine⟨hnew.typeIs,F.args_dict_init_2 _ _,?_⟩
 unfold Builtin.«dict.__init__»
 refine wpAny_bind ?_
 unfold Builtin.Dict.selfAndRest
 refine wpAny_bind (wpAny_notOrdered_dict hnew.typeIs ?_)
 show wpAny _ _ (pure (s.heap.objs.size,[Value.ref l])) _ _ _
 refine wpAny_pure ?_
 show wpAny _ _ (Builtin.Dict.updateFrom "dict.__init__" s.heap.objs.size (.ref l) [] .none) _ _ _
 unfold Builtin.Dict.updateFrom
 have hl1:(s.heap.push { cls:=.type "dict",data:=.dict #[] }).get? l=some { cls:=.type "list",data:=.seq items.toArray n }:=Heap.get?_push_of_some _ hl
 have hT:(Shared.mk (s.heap.push { cls:=.type "dict",data:=.dict #[] }) s.gens s.drawn s.toks s.os).TypeIs (.ref l) "list":=⟨_,hl1,rfl⟩
 refine wpAny_bind (wpAny_typeOf hT ?_)
 rw[if_pos (by decide)]
 refine wpAny_bind (ME hl1 hh λh2 tk2 k2=>?_)
 rw[if_pos (by rfl)]
 refine wpAny_bind (wpAny_rule ?_)
 have hl2:=k2 _ _ hl1
 refine wpAny_bind (wpAny_pyIter_list (s:={ s with heap:=h2,toks:=tk2 }) (items:=items.toArray) ⟨_,hl2,rfl,n,rfl⟩ ?_)
 refine wpAny_pure ⟨plainId_quiet B3 _,?_⟩
 have D2:s.heap.objs.size < h2.objs.size:=by
  obtain⟨o,es,ep,e,_⟩:=hnew
  exact Heap.lt_size (k2 _ _ e)
 have l2:l < h2.objs.size:=Heap.lt_size hl2
 have k02:∀b o,s.heap.get? b=some o->h2.get? b=some o:=λb o e=>k2 _ _ (Heap.get?_push_of_some _ e)
 have tlt:∀a:Addr,Value.ref a∈items.toArray->a < s.heap.objs.size:=λa ha=>by
  obtain⟨j,hj,e⟩:=Array.getElem_of_mem ha
  have hj':j < ps.length:=by rw[hps.1];exact hj
  obtain⟨a',ku,ha',_,_,o,e1,_⟩:=hps.2 j ps[j].1 ps[j].2 (List.getElem?_eq_getElem hj')
  have:a'=a:=by
   have e2:items.toArray[j]?=some (Value.ref a):=by rw[Array.getElem?_eq_getElem hj,e]
   rw[ha']at e2
   cases e2;rfl
  subst this
  exact Heap.lt_size e1
 refine GH (l:=l) (D:=s.heap.objs.size) (ps:=ps) (show A.in1.handled=none from hh) (Nat.ne_of_lt l2) (Nat.ne_of_lt D2) (Nat.ne_of_gt hlt) (λa ha=>Nat.ne_of_lt (Nat.lt_trans (tlt a ha) D2)) (by rw[List.size_toArray];exact hn) items.toArray.size 0 { s with heap:=h2.push { cls:=.type "list_iterator",data:=.fields #[.ref l,.int 0 0] },toks:=tk2 } (Nat.sub_zero _) (Nat.zero_le _) ⟨_,Heap.get?_push_size _ rfl,rfl,rfl⟩ ⟨_,Heap.get?_push_of_some _ hl2,rfl,n,rfl⟩ ?_ ?_ λh' tk kp hd=>?_
 ·refine⟨hps.1,λj k v e=>?_⟩
  obtain⟨a,ku,ha,hD,hk,o,e1,e2⟩:=hps.2 j k v e
  exact⟨a,ku,ha,hD,hk,o,Heap.get?_push_of_some _ (k02 _ _ e1),e2⟩
 ·obtain⟨o,es,ep,e,r⟩:=hnew
  exact⟨o,es,ep,Heap.get?_push_of_some _ (k2 _ _ e),r⟩
 ·exact⟨rfl,h h' tk (λb o e=>kp b o (Nat.ne_of_lt (Nat.lt_trans (Heap.lt_size e) D2)) (Nat.ne_of_lt (Heap.lt_size e)) (Heap.get?_push_of_some _ (k02 _ _ e))) hd⟩
end
section
variable {X:Cx}
theorem GI (hc:X.calm=true):B0 X (.type "dict") (λvs H Q=>∃(l:Addr) (as:List Addr) (kvs:List (Key×V)),vs=[.ref l]/\H l=some (.lst (as.map V.ref))/\as.length=kvs.length/\
 (∀(j:Nat) a k v,as[j]?=some a->kvs[j]?=some (k,v)->H a=some (.tup [kV k,v]))/\as.length < 10000/\∀d,H d=none->Q (.ref d) (upd H d (.dK (Bd [] kvs)))):=by
 intro pins s σ H xs us Q I r h
 obtain⟨l,as,kvs,rfl,hH,hlen,hT,h1000,q⟩:=h
 obtain⟨u,rfl,ru⟩:=vals1 r
 cases(show u=Value.ref l from ru)
 obtain⟨z,its,n,rv,hz,e⟩:=I.Fj hH
 rw[List.length_map]at hz
 have hit:∀(j:Nat) a,as[j]?=some a->its[j]?=some (Value.ref a):=λj a ha=>by
  obtain⟨w',e1,e2⟩:=rv.get (i:=j) (x:=V.ref a) (by rw[List.getElem?_map,ha];rfl)
  cases(show w'=Value.ref a from e2)
  exact e1
 obtain⟨ps,pr,pq⟩:=JO (h:=s.heap) as kvs hlen λj a k v h1 h2=>by
  obtain⟨_,its',r',t'⟩:=(show A0 X.prog X.w H s.heap a (.tup [kV k,v])from I.hok a _ (hT j a k v h1 h2))
  cases r' with
  |cons ra rb=>
   cases rb with
   |cons rb rc=>
    cases rc
    exact⟨_,_,ra,rb,t'⟩
 have hb:sysModules < s.heap.objs.size:=I.big
 have pl:=pr.length
 refine MZ (ps:=ps) (I.ok.hd hc) e ⟨?_,λj k v e1=>?_⟩ (by omega) λh' tk kp dd=>?_
 ·rw[List.size_toArray];omega
 ·obtain⟨a,ku,ha,hk,t⟩:=pq j k v e1
  refine⟨a,ku,by rw[List.getElem?_toArray];exact hit j a ha,?_,hk,t⟩
  obtain⟨o,e2,_⟩:=t
  exact Nat.ne_of_lt (Heap.lt_size e2)
 ·refine⟨.ref s.heap.objs.size,_,I.laid (a:=s.heap.objs.size) (o:=.dK (Bd [] kvs)) (t':=tk) (λb o e=>kp b o e) (Nat.le_refl _) (NF (Nat.le_of_lt (C9 (by have:=Cp kvs [];simp at this;omega))) (beq_eq_false_iff_ne.mpr (Ne.symm (Nat.ne_of_lt hb))) (KV.merge pr .nil) dd),rfl,q _ (I.hok.fresh (Nat.le_refl _))⟩
end
theorem Hd (k:Key)(y:V):∀(ks:List Key) (kvs:List (Key×V)),(CW (Bd kvs (ks.map λj=>(j,y))) k).isSome=true↔((CW kvs k).isSome=true\/k∈ks)
 |[],kvs=>by simp[Bd]
 |j::ks,kvs=>by
  show(CW (Bd (putK kvs j y) (ks.map λj=>(j,y))) k).isSome=true↔_
  rw[Hd k y ks,NB]
  by_cases e:k=j
  ·rw[if_pos e,e];simp
  ·rw[if_neg e];simp[e]
end L2
namespace L2
open PySem PySem.Spec PyProof.Rows PySem.W
def Rq (K:PySem.W.Frag)(a:Addr)(n:Nat):It:=
 ⟨λi H=>i < n/\∃xs x,An K H a xs/\xs[n - 1 - i]?=some x,λi H x H'=>H'=H/\∀xs,An K H a xs->xs[n - 1 - i]?=some x,λi H=>i=n⟩
theorem Nq {P:Program}{w:World}{K:PySem.W.Frag}{tg:Expr}(a it:Addr)(n:Nat):Turn P w K tg (Rq K a n) [it] it (λi h=>h.IsRevIter it a ((n:Int) - 1 - (i:Int))) where
 mem:=by simp
 obj:=λi h st b hb=>by
  have e:b=it:=by simpa using hb
  subst e
  obtain⟨o,e,c,d⟩:=st
  exact⟨o,e,λv z=>by rw[d]at z;cases z⟩
 keep:=λi h h' st k=>st.at λo e=>k it (by simp) o e
 item:=by
  intro X hP hw hK hc i pins s σ H E I hf st hg
  subst hP hw hK
  obtain⟨hi,xs,x,hq,hx⟩:=hg
  obtain⟨its,rv,p,hz⟩:=I.list hq
  obtain⟨u,hu,ru⟩:=rv.get hx
  obtain⟨f0,f1,f2,f3,f4,f5⟩:=hf it (by simp)
  have e:(n:Int) - 1 - (i:Int)=((n - 1 - i:Nat):Int):=by omega
  rw[e]at st
  refine wpAny_pyNext_rev_item st p.isList (x:=u) (by simpa using hu) λh' st' sb=>?_
  have e2:((n - 1 - i:Nat):Int) - 1=(n:Int) - 1 - ((i+1:Nat):Int):=by omega
  rw[e2]at st'
  have I1:Inv X pins σ H { s with heap:=h' }:=I.turned (t':=s.toks) (λb o hb e=>(sb.2 b hb).trans e) f0 f1 f3 f4 f5
  obtain⟨o,eo,c,d⟩:=id st'
  exact⟨u,rfl,Gm (s:={ s with heap:=h' }) eo c d (by decide) ⟨x,H,I1,ru,⟨rfl,λys hy=>by rw[I.list_inj hy hq];exact hx⟩,st',λb hb=>(hf b hb).1⟩⟩
 done:=by
  intro X hP hw hK hc i pins s σ H E I hf st hg
  subst hP hw hK
  have hg:i=n:=hg
  subst hg
  obtain⟨f0,f1,f2,f3,f4,f5⟩:=hf it (by simp)
  rw[show(i:Int) - 1 - (i:Int)=-1 by omega]at st
  exact wpAny_pyNext_rev_end (I.ok.hd hc) st λh' eb=>⟨rfl,I.turned (t':=s.toks) (λb o hb e=>eb b o hb e) f0 f1 f3 f4 f5⟩
 self:=λ_ _ _ _ _ st h=>wpAny_pyIter_revIter st h
theorem Jl:bootBuiltins "reversed"=some (.type "reversed"):=by kernel_rfl
section
variable {X:Cx}{tg:Expr}
def Rt (K:PySem.W.Frag)(ta:TA):TI:=λσ H R=>ta σ H λvs H1=>∃(a:Addr) (xs:List V),vs=[.ref a]/\An K H1 a xs/\R (Rq K a xs.length) H1
theorem Qf {a:Expr}{ta:TA}{p pos:Pos}(hg:Gl X "reversed")(hm:X.mg "reversed"=none)(ha:PA X [a] ta)(he2:starEach [a] X.env=[(false,eval a X.env)]:=by rfl):
 PI X tg (.Call (.Name "reversed" p) [a] [] pos) (Rt X.K ta):=by
 intro pins s σ H R I h
 refine wpAny_Call_Name_kw (C4 I hg hm Jl ?_ (by decide) (by decide))
 refine PyProof.Rows.callWith_type1 (BH (ha pos pins _ σ H _ (I.tok _) h) λus s1 ⟨vs,H1,I1,r1,q1⟩=>?_) he2 rfl
 obtain⟨l,xs,rfl,hq,q⟩:=q1
 obtain⟨u,rfl,ru⟩:=vals1 r1
 cases(show u=Value.ref l from ru)
 obtain⟨its,rv,pp,hz⟩:=I1.list hq
 have hlen:=rv.length
 refine call_reversed_list pp.isList ?_
 have st:(s1.heap.push (revObj l ((its.toArray.size:Int) - 1))).IsRevIter s1.heap.objs.size l ((xs.length:Int) - 1 - ((0:Nat):Int)):=⟨_,Heap.get?_push_size _ rfl,rfl,by
  show Data.fields #[Value.ref l,rawInt ((its.toArray.size:Int) - 1)]=_
  rw[List.size_toArray,<-hlen];simp⟩
 refine wpAny_pyIter_revIter (s:={ s1 with heap:=s1.heap.push (revObj l ((its.toArray.size:Int) - 1)) }) st ?_
 refine⟨s1.heap.objs.size,[s1.heap.objs.size],_,_,H1,rfl,I1.kept (t':=s1.toks) λb o e=>Heap.get?_push_of_some _ e,Nq l _ xs.length,st,λb hb=>?_,q⟩
 have e:b=s1.heap.objs.size:=by simpa using hb
 subst e
 exact I1.Hm (Nat.le_refl _) (I1.hok.fresh (Nat.le_refl _))
theorem O0 (K:PySem.W.Frag){a:Expr}{ta:TA}{p pos:Pos}(hg:Gl X "reversed")(hm:X.mg "reversed"=none)(ha:PA X [a] ta)(hK:X.K=K:=by rfl)(he2:starEach [a] X.env=[(false,eval a X.env)]:=by rfl):
 PI X tg (.Call (.Name "reversed" p) [a] [] pos) (Rt K ta):=by
 subst hK
 exact Qf hg hm ha he2
end
theorem O1 {K:PySem.W.Frag}{a:Addr}{xs:List V}{g:TG}{tb:TS}{D:Ends}{σ:St}{H:Hp}(Pv:Nat->St->Hp->Prop)(h0:Pv 0 σ H)(hl:∀i σ H,i<=xs.length->Pv i σ H->An K H a xs)
 (hs:∀(i:Nat) x σ H,i < xs.length->xs[xs.length - 1 - i]?=some x->Pv i σ H->g x σ H λσ2 H2=>tb { D with nx:=Pv (i+1),ct:=Pv (i+1),bk:=D.nx } σ2 H2)(hd:∀σ H,Pv xs.length σ H->D.nx σ H):
 ∃W:Nat->Nat->St->Hp->Prop,(∃m,W 0 m σ H)/\∀i m σ H,W i m σ H->
  ((Rq K a xs.length).stop i H/\D.nx σ H)\/((Rq K a xs.length).go i H/\∃N:St->Hp->Prop,(∀σ' H',N σ' H'->∃m',m' < m/\W (i+1) m' σ' H')/\∀x H',(Rq K a xs.length).yld i H x H'->g x σ H' λσ2 H2=>tb { D with nx:=N,ct:=N,bk:=D.nx } σ2 H2):=by
 refine⟨λi m σ H=>i<=xs.length/\m=xs.length - i/\Pv i σ H,⟨xs.length,Nat.zero_le _,rfl,h0⟩,λi m σ H ⟨hi,hm,hp⟩=>?_⟩
 have a1:=hl i σ H hi hp
 rcases Nat.lt_or_ge i xs.length with lt|ge
 ·have hx:xs[xs.length - 1 - i]?=some (xs[xs.length - 1 - i]'(by omega)):=List.getElem?_eq_getElem (by omega)
  refine .inr ⟨⟨lt,xs,_,a1,hx⟩,Pv (i+1),λσ' H' hn=>⟨xs.length - (i+1),by omega,by omega,rfl,hn⟩,λx H' hy=>?_⟩
  obtain⟨rfl,e1⟩:=hy
  exact hs i x σ _ lt (e1 xs a1) hp
 ·have:i=xs.length:=by omega
  subst this
  exact .inl ⟨rfl,hd _ _ hp⟩
theorem He:plainId "list.index.loop"=true:=by decide+kernel
theorem Ma:entryFor table "list.index.loop"=some Builtin.«list.index.loop»:=entryFor_of_tree (by kernel_rfl)
theorem Gi (l:Addr)(items:Array Value)(n:Nat)(dd:Option Addr)(sl:Array (Option Value))(x:Value)(e:Value->Bool)(st j:Nat)(t:Tok)(sj:st<=j)(hj:j < items.size)(hsmall:(j:Int) < 2 ^ 63 - 1)
 (hit:e items[j]=true)(hno:∀m (hm:m < items.size),st<=m->m < j->e items[m]=false):
 Meets (Builtin.«list.index» ⟨[.ref l,x,.int (st:Int) t],[]⟩)
  (λA R s=>s.heap.get? l=some { cls:=.type "list",dict:=dd,data:=.seq items n,slots:=sl }/\(∀y,y∈items->SeqAt.EqAt A.in1 s y x (e y))/\R (.ok (.ret (.int j s.toks))) { s with toks:=s.toks+1 }):=by
 intro prog w A R s h
 obtain⟨hp,g,d,tk,os⟩:=s;obtain⟨hl,he,h⟩:=h
 wp_walk using SeqAt.wpAny_loadPart' hl
 have a1:((λi:Int=>if i < 0 then max 0 (i+(items.size:Int))else i) ((some (st:Int)).getD 0))=((st:Nat):Int):=by
  show(if(st:Int) < 0 then _ else(st:Int))=_
  rw[if_neg (by omega)]
 have a2:((λi:Int=>if i < 0 then max 0 (i+(items.size:Int))else i) ((none:Option Int).getD (2 ^ 63 - 1)))=2 ^ 63 - 1:=by simp
 rw[a1,a2]
 exact⟨plainId_quiet He _,codeAny_builtin Ma (by
  rw[Around.under_plainId He _]
  exact SeqAt.index_loopAt l items n dd sl x e (2 ^ 63 - 1) j hj hsmall hit _ st rfl sj (λm hm h1 h2=>hno m hm h1 h2) prog w A R _ ⟨hl,he,h⟩)⟩
section
variable {X:Cx}
def Nr:V->List V->Hp->VK->Prop:=λx vs H Q=>∃(l:Addr) (ss:List Bool) (y:Bool) (st j:Nat),x=.ref l/\vs=[.bl y,.int (st:Int)]/\H l=some (.lst (ss.map V.bl))/\st<=j/\ss[j]?=some y/\(∀m,st<=m->m < j->ss[m]?≠some y)/\ss.length<=10000/\Q (.int (j:Int)) H
theorem Km:Q1 X "list.index" Nr:=by
 intro pins s σ H x vs v us Q I rx rv h
 obtain⟨l,ss,y,st,j,rfl,rfl,hH,sj,hj,hno,hl,q⟩:=h
 cases rx
 cases rv with
 |cons ru rv=>
  cases rv with
  |cons rs rv=>
   cases rv
   rename_i u1 u2
   have ru0:=ru
   cases(show u1=Value.bool y from ru)
   obtain⟨t,rfl⟩:=rs
   obtain⟨z,its,n,r,hz,e⟩:=I.Fj hH
   have rl:=r.length
   rw[List.length_map]at rl
   obtain⟨jl,ej⟩:=List.getElem?_eq_some_iff.mp hj
   have key:∀(j:Nat) (hj:j < its.toArray.size),FR (V.bl y) its.toArray[j]=(ss[j]'(by rw[rl];simpa using hj)==y):=λj hj=>by
    have hj':j < ss.length:=by rw[rl];simpa using hj
    obtain⟨w',e1,e2⟩:=r.get (i:=j) (x:=V.bl (ss[j])) (by rw[List.getElem?_map,List.getElem?_eq_getElem hj'];rfl)
    cases(show w'=Value.bool ss[j]from e2)
    have:its.toArray[j]=Value.bool ss[j]:=by
     rw[List.getElem?_eq_getElem (by omega)]at e1
     simpa using Option.some.inj e1
    rw[this]
    generalize ss[j]=b
    cases b<;>cases y<;>rfl
   refine call_meets F.slot_list_index ⟨_,e,rfl⟩ F.entry_list_index (F.args_list_index_3 _ _ _) (Gi l its.toArray n none #[] (.bool y) (FR (V.bl y)) st j t sj (by rw[List.size_toArray];omega) (by omega) ?_ ?_) ⟨e,λu hu=>B8 (x:=V.bl y) ru0 rfl r (F3 ss) u (by simpa using hu),?_⟩
   ·rw[key _ (by rw[List.size_toArray];omega),ej];exact beq_self_eq_true y
   ·intro m hm' h1 h2
    rw[key m hm']
    have hm2:m < ss.length:=by rw[rl];simpa using hm'
    have:=hno m h1 h2
    rw[List.getElem?_eq_getElem hm2]at this
    exact beq_false_of_ne λz=>this (by rw[z])
   ·exact⟨.int _,H,I.tok _,⟨_,rfl⟩,q⟩
end
end L2
namespace L2
open PySem PySem.Spec PyProof.Rows
structure CT (k:Nat)(A:Around):Prop where
 dp:A.depth+3*k+5 < recursionLimit
 un:A.units+16*k+200 < cLine
 gd:A.guards=some []
theorem CT.mono {j k:Nat}{A:Around}(r:CT k A)(h:j<=k):CT j A:=⟨by have:=r.dp;omega,by have:=r.un;omega,r.gd⟩
theorem CT.deeper {k:Nat}{A:Around}(r:CT (k+1) A)(env:Env):CT k (A.deeper env):=
 ⟨by have:=r.dp;show A.depth+1+3*k+5 < _;omega,by have:=r.un;show A.units+3+16*k+200 < _;omega,by first|exact r.gd|(simpa[Around.under,Code.isGuard,guardIds]using r.gd)⟩
theorem CT.depth {k:Nat}{A:Around}(r:CT k A):A.depth < recursionLimit:=by have:=r.dp;omega
theorem Bj.BP {k:Nat}{X:Cx}(r:Bj k X.A)(a:Addr):CT k (X.BP a).A:=⟨r.dp,r.un,r.gd⟩
def GJ (CX:GX)(P:Program)(w:World)(K:PySem.W.Frag)(mg:Str->Option Value)(base:Heap)(N:List Str)(qual:Str)(scope:Scope)(f:Addr)(cd:Value)(A:Around)(outer:List Env)(s:Shared)(H:Hp)(E:XK):Cx where
 prog:=P
 w:=w
 K:=K
 mg:=mg
 base:=base
 A:=A.deeper (envOfC qual scope s.heap.objs.size f cd)
 N:=N
 s₀:=s
 H₀:=H
 env:=envOfC qual scope s.heap.objs.size f cd
 outer:=outer
 stack:=envOfC qual scope s.heap.objs.size f cd::outer
 ex:=[]
 calm:=false
 fn:=λ_=>true
 pn:=[]
 xe:=λe s'=>wpAny (model P w) (A.deeper (envOfC qual scope s.heap.objs.size f cd)) (leaving (envOfC qual scope s.heap.objs.size f cd) e) (λ_ s''=>CX outer H s E e s'') (λe' s''=>CX outer H s E e' s'') s'
theorem Kn {CX:GX}{P:Program}{w:World}{K:PySem.W.Frag}{mg:Str->Option Value}{base:Heap}{N ps:List Str}{qual:Str}{scope:Scope}{f:Addr}{cd:Value}{A:Around}{outer:List Env}{s s1:Shared}{H:Hp}{E:XK}{us:List Value}{vs:List V}
 (S:Ab N ps scope)(e0:Lp P w K mg base A outer s H)(hl:vs.length=ps.length)(r:Vals vs us)
 (x:InCallC s s.heap.objs.size (bindL (envOfC qual scope s.heap.objs.size f cd).kindOf (ps.zip us) λ_=>none) (cellsFrom (s.heap.objs.size+1) scope.names []) (bindC (envOfC qual scope s.heap.objs.size f cd).kindOf (ps.zip us) λ_=>none) s1):
 Inv (GJ CX P w K mg base N qual scope f cd A outer s H E) [] (start N vs) H s1:=by
 have hpl:ps.length<=N.length:=by have:=congrArg List.length S.pre;rw[List.length_take]at this;omega
 obtain⟨h1,tk,rfl,hk⟩:=x.done
 have noA:∀b:Addr,b∉(GJ CX P w K mg base N qual scope f cd A outer s H E).ex:=λb z=>absurd (show b∈([]:List Addr)from z) (by simp)
 refine⟨⟨e0.mod,S.kind,rfl,rfl,Nat.le_refl _,λy z c h1 h2=>?_,λy hy=>?_,λy c _ h=>?_,λz=>(nomatch z),Around.frames_deeper e0.frames,.inr ⟨rfl,rfl⟩,λb z=>absurd z (noA b),e0.bs,e0.bsz,λb _ _=>noA b,λb z=>absurd z (noA b),e0.DK,e0.frf⟩,
  rfl,e0.bare,Un.kept hk,⟨_,x.toInCall.ns,λi y v h1 h2 h3=>?_⟩,λy c h=>⟨_,x.cell y c h⟩,e0.hok.fresh (Nat.le_refl _),λy c h=>?_,λp hp=>absurd (show p∈([]:List (Addr×Obj))from hp) (by simp),e0.hok.kept hk,?_⟩
 ·exact name_of_addr x.apart (PySem.mem_of_lookup h1) (PySem.mem_of_lookup h2)
 ·have hy:scope.names.lookup y=some .cell\/scope.names.lookup y=some .free:=hy
  rcases hy with hy|hy
  ·exact EK hy
  ·exact absurd rfl (S.nofree _ (PySem.mem_of_lookup hy))
 ·exact Nat.le_of_lt (x.above y c (PySem.mem_of_lookup h))
 ·have hi:i < vs.length:=by
   unfold start at h2
   by_cases hi:i < vs.length
   ·exact hi
   ·rw[List.getElem?_append_right (by simpa using hi)]at h2
    rw[List.getElem?_replicate]at h2
    split at h2<;>cases h2
  have ha:vs[i]?=some v:=by
   unfold start at h2
   rw[List.getElem?_append_left (by simpa using hi),List.getElem?_map]at h2
   cases e:vs[i]? with
   |none=>rw[e]at h2;cases h2
   |some a=>rw[e]at h2;cases h2;rfl
  obtain⟨u,hu,rv⟩:=r.get ha
  have hp:ps[i]?=some y:=by
   rw[<-S.pre,List.getElem?_take_of_lt (by omega)];exact h1
  have ndP:ps.Nodup:=by rw[<-S.pre];exact S.nd.sublist (List.take_sublist _ _)
  refine⟨u,rv,?_⟩
  rcases S.par y (List.mem_of_getElem? hp)with k|k
  ·exact .inl ⟨k,Er ndP hp hu k⟩
  ·obtain⟨c,e⟩:=EK (n:=s.heap.objs.size+1) k
   refine .inr ⟨.inl k,c,e,?_⟩
   have q:=x.cell y c e
   rw[Es ndP hp hu (by show scope.names.lookup y≠_;rw[k];decide)]at q
   exact q
 ·exact e0.hok.fresh (Nat.le_of_lt (x.above y c (PySem.mem_of_lookup h)))
 ·unfold start
  show _=N.length
  rw[List.length_append,List.length_map,List.length_replicate]
  omega
structure FK (P:Program)(w:World)(K:PySem.W.Frag)(mg:Str->Option Value)(base:Heap)(CX:GX)(k:Nat)(f:Addr)(fd:FuncData)(ps:List Str)(sp:Sp):Prop where
 len:∀vs H Q E,sp vs H Q E->vs.length=ps.length
 run:∀(A:Around) (outer:List Env) (s:Shared) (H:Hp) (args:Args) (us:List Value) (vs:List V) (Q:VK) (E:XK),CT k A->Lp P w K mg base A outer s H->BindsTo s fd args (ps.zip us)->Vals vs us->sp vs H Q E->
  codeAny (model P w) A (.call (.ref f) args) (CR CX outer P w H s Q E) s
theorem FK.mono {P:Program}{w:World}{K:PySem.W.Frag}{mg:Str->Option Value}{base:Heap}{CX:GX}{j k:Nat}{f:Addr}{fd:FuncData}{ps:List Str}{sp:Sp}(F:FK P w K mg base CX j f fd ps sp)(h:j<=k):
 FK P w K mg base CX k f fd ps sp:=⟨F.len,λA outer s H args us vs Q E hr=>F.run A outer s H args us vs Q E (hr.mono h)⟩
theorem Qg {CX:GX}{P:Program}{w:World}{K:PySem.W.Frag}{mg:Str->Option Value}{base:Heap}{k:Nat}{f:Addr}{name qual:Str}{params:Arguments}{body:List Stmt}{scope:Scope}{dV kV doc pm cdv ct oc:Value}{an od:Option Addr}
 {osl:Array (Option Value)}{N ps:List Str}{sp:Sp}(lk:K.lookup f=some ⟨oc,od,.func (PySem.W.fnOf name qual params body scope dV kV doc pm an cdv ct),osl⟩)(hcd:PySem.W.codeIn K cdv qual=true)(S:Ab N ps scope)
 (len:∀vs H Q E,sp vs H Q E->vs.length=ps.length)
 (hbody:∀(A:Around) (outer:List Env) (s:Shared) (H:Hp) (vs:List V) (Q:VK) (E:XK),CT k (A.deeper (envOfC qual scope s.heap.objs.size f cdv))->sp vs H Q E->
  ∃t,Fb (GJ CX P w K mg base N qual scope f cdv A outer s H E) body t/\t { nx:=λ_ H'=>Q .non H',rt:=Q } (start N vs) H):
 FK P w K mg base CX (k+1) f (PySem.W.fnOf name qual params body scope dV kV doc pm an cdv ct) ps sp:=by
 refine⟨len,λA outer s H args us vs Q E hr e0 hb r hsp=>?_⟩
 have hl:=len _ _ _ _ hsp
 have KX:K.In s.heap:=e0.mod.kin.keeps λb o e=>(e0.bs b o e).1
 have lim:s.heap.NoLimit:=e0.mod.nolimit.keeps λb o e=>(e0.bs b o e).1
 have hkind:∀y∈ps.zip us,scope.names.lookup y.1=some .local\/(scope.names.lookup y.1=some .cell/\((cellsFrom (s.heap.objs.size+1) scope.names []).lookup y.1).isSome=true):=λ⟨n,v⟩ hy=>by
  rcases S.par n (List.of_mem_zip hy).1 with q|q
  ·exact .inl q
  ·exact .inr ⟨q,PySem.W.cellsFrom_some _ _ _ (.inl q)⟩
 refine codeAny_call_function hr.depth (KX _ _ lk) rfl S.co S.gen rfl (PySem.W.codeRec_of KX hcd) (hb _ _ _ _ ?_)
 refine wpAny_newFunctionEnv_cells S.kind hkind λenv he s1 x=>?_
 subst he
 refine⟨lim.keeps x.toInCall.keep,codeAny_func ?_⟩
 obtain⟨t,ht,hq⟩:=hbody A outer s H vs Q E (hr.deeper _) hsp
 have I:Inv (GJ CX P w K mg base N qual scope f cdv A outer s H E) [] (start N vs) H s1:=Kn S e0 hl r x
 refine wpAny_mono (ht [] s1 (start N vs) H _ I hq) (λfl s' hs=>?_) λe s' hs=>hs
 have fin:∀{σ':St} {H':Hp} {v:V} {u:Value},Inv (GJ CX P w K mg base N qual scope f cdv A outer s H E) [] σ' H' s'->RelV v u->Q v H'->CE outer P w H s Q u s':=
  λ{σ' H' v u} J rv q=>⟨v,H',J.os,J.bare,J.base,J.hok,rv,q⟩
 cases fl with
 |ret u=>
  obtain⟨v,σ',H',J,rv,q⟩:=hs
  exact fin J rv q
 |next=>
  obtain⟨σ',H',J,q⟩:=hs
  exact fin (v:=V.non) (u:=Value.none) J rfl q
 |brk=>
  obtain⟨_,_,_,q⟩:=hs
  exact False.elim q
 |cont=>
  obtain⟨_,_,_,q⟩:=hs
  exact False.elim q
section
variable {X:Cx}{CX:GX}{k:Nat}{f C:Addr}{fd:FuncData}{ps:List Str}{sp:Sp}{dvs:List V}{ds:List Value}{E:XK}{x m:Str}{p pos apos:Pos}{e o:Expr}{es:List Expr}{ta:TE}{t:TA}
theorem O2 {pins:List (Addr×Obj)}{σ:St}{H:Hp}{s:Shared}{Q:VK}{us:List Value}{vs:List V}(F:FK X.prog X.w X.K X.mg X.base CX k f fd ps sp)(hr:CT k X.A)(hb:Binds X.K fd ps ds)(hd:Vals dvs ds)(hx:Passes CX X E)
 (I:Inv X pins σ H s)(r:Vals vs us)(h:sp (vs++dvs) H Q E):wpAny (model X.prog X.w) X.A (call (.ref f) us) (EP X pins σ Q) X.xe s:=by
 have r2:Vals (vs++dvs) (us++ds):=r.append hd
 have hl:(us++ds).length=ps.length:=by rw[<-r2.length];exact F.len _ _ _ _ h
 refine wpAny_call (codeAny_mono (F.run X.A X.stack s H ⟨us,[]⟩ (us++ds) (vs++dvs) Q E hr I.OR (hb s us I.FA hl) r2 h) λr s' hq=>?_)
 cases r with
 |error e=>exact hx pins σ H s e s' I hq
 |ok fl=>
  cases fl with
  |ret u=>exact I.after hq
  |next=>exact False.elim hq
  |brk=>exact False.elim hq
  |cont=>exact False.elim hq
theorem Nt (F:FK X.prog X.w X.K X.mg X.base CX k f fd ps sp)(hr:CT k X.A)(hg:Gl X x)(hm:X.mg x=some (.ref f))(hk:PySem.W.keepIn X.K (.ref f)=true)(hb:Binds X.K fd ps ds)(hd:Vals dvs ds)(hx:Passes CX X E)
 (ha:PA X (e::es) t)(hdb:(x==("__debug__":Str))=false:=by decide)(he:starEach (e::es) X.env=(false,eval e X.env)::starEach es X.env:=by rfl)(hpl:(backTo pos (starEach es X.env)).any (·.1)=false:=by rfl):
 PE X (.Call (.Name x p) (e::es) [] pos) (Gr sp dvs E t):=by
 intro pins s σ H Q I h
 refine wpAny_Call_Name_kw (C3 I hg hm ?_ hdb)
 refine PySem.W.callWith_K (h₀:=X.base) I.ok.mod.kin hk (BH (ha pos pins s σ H _ I h) λus s1 ⟨vs,H1,I1,r,q⟩=>⟨I1.FA,?_⟩) he hpl
 exact O2 F hr hb hd hx I1 r q
end
section
variable {P:Program}{w:World}{K:PySem.W.Frag}{mg:Str->Option Value}{base:Heap}
theorem OY.Th {x qual:Str}{st:Stmt}{f:Addr}{fd:FuncData}{N ps:List Str}{k:Nat}{sp:Sp}(F:OY K x qual st f fd)(S:Ab N ps (AM st))(len:∀vs H Q E,sp vs H Q E->vs.length=ps.length)
 (hbody:∀(cdv:Value) (A:Around) (outer:List Env) (s:Shared) (H:Hp) (vs:List V) (Q:VK) (E:XK),CT k (A.deeper (envOfC qual (AM st) s.heap.objs.size f cdv))->sp vs H Q E->
  ∃t,Fb (GJ CX0 P w K mg base N qual (AM st) f cdv A outer s H E).Pa (Bh st) t/\t { nx:=λ_ H'=>Q .non H',rt:=Q } (start N vs) H):FK P w K mg base CX0 (k+1) f fd ps sp:=by
 obtain⟨oc,od,kV,doc,pm,an,cdv,ct,osl,rfl,lk,hcd⟩:=F.ex
 refine Qg lk hcd S len λA outer s H vs Q E hr hsp=>?_
 obtain⟨t,h,q⟩:=hbody cdv A outer s H vs Q E hr hsp
 exact⟨t,h.Pa,q⟩
end
def GK (P:Program)(w:World)(K:PySem.W.Frag)(mg:Str->Option Value)(base:Heap)(x:Str)(k:Nat)(ps:List Str)(sp:Sp):Prop:=
 ∃f fd,FK P w K mg base CX0 k f fd ps sp/\Binds K fd ps []/\PySem.W.keepIn K (.ref f)=true/\mg x=some (.ref f)
section
variable {P:Program}{w:World}{K:PySem.W.Frag}{mg:Str->Option Value}{base:Heap}
theorem GK.mono {x:Str}{j k:Nat}{ps:List Str}{sp:Sp}(G:GK P w K mg base x j ps sp)(h:j<=k):GK P w K mg base x k ps sp:=
 let⟨f,fd,F,r⟩:=G;⟨f,fd,F.mono h,r⟩
theorem Df.Qh {x:Str}{st:Stmt}{N ps:List Str}{k:Nat}{sp:Sp}(D:Df K mg x st)(S:Ab N ps (AM st))
 (hb:∀(kV doc pm:Value) (an:Option Addr) (cdv ct:Value) (us:List Value),us.length=ps.length->bindArgs (PySem.W.fnOf x x (CV st) (Bh st) (AM st) .none kV doc pm an cdv ct) ⟨us,[]⟩=pure (ps.zip us))
 (len:∀vs H Q E,sp vs H Q E->vs.length=ps.length)
 (hbody:∀(f:Addr) (cdv:Value) (A:Around) (outer:List Env) (s:Shared) (H:Hp) (vs:List V) (Q:VK) (E:XK),CT k (A.deeper (envOfC x (AM st) s.heap.objs.size f cdv))->sp vs H Q E->
  ∃t,Fb (GJ CX0 P w K mg base N x (AM st) f cdv A outer s H E).Pa (Bh st) t/\t { nx:=λ_ H'=>Q .non H',rt:=Q } (start N vs) H):GK P w K mg base x (k+1) ps sp:=by
 obtain⟨f,fd,F,m⟩:=D
 exact⟨f,fd,F.Th S len λcdv A outer s H vs Q E hr h=>hbody f cdv A outer s H vs Q E hr h,F.binds hb,F.kp,m⟩
end
theorem Bw {X:Cx}{x:Str}{k:Nat}{ps:List Str}{sp:Sp}{p pos:Pos}{e:Expr}{es:List Expr}{t:TA}(G:GK X.prog X.w X.K X.mg X.base x k ps sp)(hr:CT k X.A)(hg:Gl X x)(ha:PA X (e::es) t)
 (hdb:(x==("__debug__":Str))=false:=by decide)(he:starEach (e::es) X.env=(false,eval e X.env)::starEach es X.env:=by rfl)(hpl:(backTo pos (starEach es X.env)).any (·.1)=false:=by rfl):
 PE X (.Call (.Name x p) (e::es) [] pos) (Gr sp [] E0 t):=by
 obtain⟨f,fd,F,b,kp,m⟩:=G
 exact Nt F hr hg m kp b .nil Ph ha hdb he hpl
end L2
namespace W100
open PySem PySem.SetTable
end W100
namespace L2
open PySem PySem.Spec PyProof.Rows PySem.W
theorem O3 {z:Str}{g:TG}{tb:TS}{D:Ends}{σ:St}{H:Hp}(Pv:Nat->St->Hp->Prop)(h0:Pv 0 σ H)
 (hs:∀i c σ H,z.cps.toList[i]?=some c->Pv i σ H->g (.str ⟨#[c]⟩) σ H λσ2 H2=>tb { D with nx:=Pv (i+1),ct:=Pv (i+1),bk:=D.nx } σ2 H2)(hd:∀σ H,Pv z.cps.toList.length σ H->D.nx σ H):
 ∃W:Nat->Nat->St->Hp->Prop,(∃m,W 0 m σ H)/\∀i m σ H,W i m σ H->
  ((Og z).stop i H/\D.nx σ H)\/((Og z).go i H/\∃N:St->Hp->Prop,(∀σ' H',N σ' H'->∃m',m' < m/\W (i+1) m' σ' H')/\∀x H',(Og z).yld i H x H'->g x σ H' λσ2 H2=>tb { D with nx:=N,ct:=N,bk:=D.nx } σ2 H2):=by
 refine⟨λi m σ H=>m=z.cps.size - i/\i<=z.cps.size/\Pv i σ H,⟨z.cps.size,by simp,Nat.zero_le _,h0⟩,?_⟩
 rintro i m σ H ⟨rfl,hi,p⟩
 by_cases hlt:i < z.cps.size
 ·refine .inr ⟨hlt,Pv (i+1),λσ' H' p'=>⟨z.cps.size - (i+1),by omega,rfl,hlt,p'⟩,λx H' y=>?_⟩
  obtain⟨e,c,hc,rfl⟩:=y
  subst e
  exact hs i c σ _ (by rw[Array.getElem?_toList];exact hc) p
 ·have e:i=z.cps.size:=by omega
  subst e
  exact .inl ⟨Nat.le_refl _,hd σ H (by rw[Array.length_toList];exact p)⟩
section
variable {X:Cx}
end
end L2
namespace S61
open PySem L2 W7
open W63 (Wr Wi enc dec star)
def Ti:W61.Way->Bool|.begin=>true|_=>false
def Tj:W61.Way->Bool|.item=>true|_=>false
def TU:W61.Way->Bool|.opn=>true|_=>false
def Tn:W61.Way->Bool|.set _=>true|_=>false
theorem Ru:¬V.str (Str.ofString "open")=V.str (Str.ofString "begin"):=by intro e;injection e with e;revert e;decide+kernel
theorem Rv:¬V.str (Str.ofString "open")=V.str (Str.ofString "item"):=by intro e;injection e with e;revert e;decide+kernel
theorem Rw:¬V.str (Str.ofString "open")=V.str (Str.ofString "set"):=by intro e;injection e with e;revert e;decide+kernel
theorem Rx:¬V.str (Str.ofString "set")=V.str (Str.ofString "begin"):=by intro e;injection e with e;revert e;decide+kernel
theorem Ry:¬V.str (Str.ofString "set")=V.str (Str.ofString "item"):=by intro e;injection e with e;revert e;decide+kernel
theorem Rz:¬V.str (Str.ofString "begin")=V.str (Str.ofString "item"):=by intro e;injection e with e;revert e;decide+kernel
theorem wO (W:W61.Way):decide (V.str (Np W)=V.str (Str.ofString "open"))=TU W:=by
 cases W
 ·exact decide_eq_false λe=>Ru e.symm
 ·exact decide_eq_false λe=>Rv e.symm
 ·exact decide_eq_true rfl
 ·exact decide_eq_false λe=>Rw e.symm
theorem wS (W:W61.Way):decide (V.str (Np W)=V.str (Str.ofString "set"))=Tn W:=by
 cases W
 ·exact decide_eq_false λe=>Rx e.symm
 ·exact decide_eq_false λe=>Ry e.symm
 ·exact decide_eq_false Rw
 ·exact decide_eq_true rfl
theorem wB (W:W61.Way):decide (V.str (Np W)=V.str (Str.ofString "begin"))=Ti W:=by
 cases W
 ·exact decide_eq_true rfl
 ·exact decide_eq_false λe=>Rz e.symm
 ·exact decide_eq_false Ru
 ·exact decide_eq_false Rx
theorem wI (W:W61.Way):decide (V.str (Np W)=V.str (Str.ofString "item"))=Tj W:=by
 cases W
 ·exact decide_eq_false Rz
 ·exact decide_eq_true rfl
 ·exact decide_eq_false Rv
 ·exact decide_eq_false Ry
theorem O4 (c d:Nat):decide (V.str ⟨#[c]⟩=V.str (mk [d]))=decide (c=d):=by
 rw[mk_one,Ox]
 by_cases h:c=d
 ·rw[h];simp
 ·rw[decide_eq_false h];exact decide_eq_false λe=>h (by injection e)
section
variable {P:Program}{w:World}{K:PySem.W.Frag}{mg:Str->Option Value}{base:Heap}{k:Nat}
theorem O5 (D:Df K mg "_law_due" s_law_due)(B:Bz mg):Bi P w K mg base "_law_due" (k+1) ["thing"] Nn:=by
 refine D.has A8 (λ_ _ _ _ _ _ us hl=>match us,hl with|[_],_=>rfl) (λvs H Q E h=>by obtain⟨x,rfl,_⟩:=h;rfl) (λf cdv A outer s H vs Q E hr h=>?_)
 obtain⟨x,rfl,xx,q⟩:=h
 refine⟨_,(AG (Ag (PW.pt (CS (B4 (Az (AN BU rfl B.isinstance AW (AA (pv 0) (AA (B7 (v:=.ty "str") rfl B.str_ IA rfl) AB))))) (CN (AL Ip (AN Ak rfl B.len Ar (AA (pv 0) AB)) AF (AQ _)))))
 (AE (AY BQ))
 Aq)
 (AG (AI (i:=1) A8.nd rfl (by first|exact Or.inl rfl|exact Or.inr rfl) AS)
 (AG (AI (i:=2) A8.nd rfl (by first|exact Or.inl rfl|exact Or.inr rfl) AS)
 (AG (Bm PassesOwn.never rfl (KP (pv 0)) (Ae (i:=3) A8.nd rfl (by first|exact Or.inl rfl|exact Or.inr rfl))
 (AG (AI (i:=4) A8.nd rfl (by first|exact Or.inl rfl|exact Or.inr rfl) (Bg Di (pv 3) AS (by with_unfolding_all rfl)))
 (AE (Ag (PW.pt (CS (AL Am (pv 1) AS (AQ _)) (CN (AL Am (pv 1) AS (AQ _)))))
 (AE (Ag (PW.pt (Ej (Az (pv 4)) (EI (AL Gp (pv 2) (pv 3) (AQ _)))))
 (AG (AI (i:=1) A8.nd rfl (by first|exact Or.inl rfl|exact Or.inr rfl) AS)
 (AE (AI (i:=2) A8.nd rfl (by first|exact Or.inl rfl|exact Or.inr rfl) (pv 3))))
 (AE (Ag (PW.pt (Ej (AL Am (pv 3) AS (AQ _)) (EI (AL Am (pv 1) AS (AQ _)))))
 (AE (AI (i:=1) A8.nd rfl (by first|exact Or.inl rfl|exact Or.inr rfl) AS))
 (AE (AY BQ))))))
 (AE (Ag (AL Am (pv 3) AS (AQ _))
 (AG (AI (i:=1) A8.nd rfl (by first|exact Or.inl rfl|exact Or.inr rfl) AS)
 (AE (AI (i:=2) A8.nd rfl (by first|exact Or.inl rfl|exact Or.inr rfl) AS)))
 (AE (Ag (PW.pt (CS (Az (pv 4)) (CN (AL Am (pv 3) AS (AQ _)))))
 (AE (AI (i:=1) A8.nd rfl (by first|exact Or.inl rfl|exact Or.inr rfl) AS))
 (AE (Ag (PW.pt (Ej (AL Am (pv 3) AS (AQ _)) (EI (AL Am (pv 1) AS (AQ _)))))
 (AE (AI (i:=1) A8.nd rfl (by first|exact Or.inl rfl|exact Or.inr rfl) AS))
 (AE (AY BQ))))))))))))
 (AE (AY (PZ (Bg Am (pv 1) AS (AQ _)) (Cd (Bg Am (pv 1) AS (AQ _)))))))))),?_⟩
 rcases xx with⟨z,rfl,zl⟩|ns
 rotate_left
 ·have out:=q false ⟨λh=>(Bool.false_ne_true h).elim,λ⟨z,e,_⟩=>absurd e (ns.ne z)⟩
  cases ns with
  |non=>exact⟨_,rfl,_,_,"str",false,rfl,.non,Ee _,_,rfl,A1 out⟩
  |bl b=>exact⟨_,rfl,_,_,"str",false,rfl,.bl _,Ef _,_,rfl,A1 out⟩
  |int i=>exact⟨_,rfl,_,_,"str",false,rfl,.int _,FJ _,_,rfl,A1 out⟩
  |lst e=>exact⟨_,rfl,_,_,"str",false,rfl,.lst e,Eg _,_,rfl,A1 out⟩
  |tup e=>exact⟨_,rfl,_,_,"str",false,rfl,.tup e,D6 _,_,rfl,A1 out⟩
  |dct e=>exact⟨_,rfl,_,_,"str",false,rfl,.dK e,Eh _,_,rfl,A1 out⟩
 refine⟨_,rfl,_,_,_,true,rfl,.str _,Cf _ _,_,rfl,Ay ?_⟩
 refine⟨_,rfl,_,rfl,AK (by omega),_,_,rfl,rfl,_,rfl,?_⟩
 by_cases l40:z.length<=40
 rotate_left
 ·refine L2.Bl (decide_eq_true (by omega)) (q false ⟨λh=>(Bool.false_ne_true h).elim,λ⟨z',e,l,_⟩=>?_⟩)
  injection e with e
  rw[<-e]at l;exact absurd l l40
 refine L2.A2 (decide_eq_false (by omega)) ?_
 have fin:∀b:Bool,b=W61.run .begin z.cps.toList->Q (.bl b) H:=λb hb=>q b ⟨λh=>⟨z,rfl,l40,by rw[<-hb];exact h⟩,λ⟨z',e,_,g⟩=>by injection e with e;rw[<-e,<-hb]at g;exact g⟩
 refine⟨_,rfl,_,rfl,?_⟩
 refine O3 (z:=z) (λi σ HX=>∃(W:W61.Way) (la:List Nat) (o3 o4:Option V),σ=[some (.str z),some (.str (Np W)),some (.str (mk la)),o3,o4]/\(TU W=true->la=[])/\(∀l,W=.set l->la=[l])/\W61.run W (z.cps.toList.drop i)=W61.run .begin z.cps.toList/\HX=H)
  ⟨.begin,[],none,none,rfl,λ_=>rfl,(λl h=>by cases h),rfl,rfl⟩ ?_ ?_
 ·rintro i c σ HX hc ⟨W,la,o3,o4,rfl,hO,hSt,hrun,eH⟩
  subst eH
  have hd:z.cps.toList.drop i=c::z.cps.toList.drop (i+1):=by
   obtain⟨hlt,e⟩:=List.getElem?_eq_some_iff.mp hc
   rw[List.drop_eq_getElem_cons hlt,e]
  rw[hd]at hrun
  generalize z.cps.toList.drop (i+1)=rs at hrun
  refine⟨_,rfl,_,_,rfl,rfl,?_⟩
  rw[Ni c]
  refine⟨_,rfl,rfl,_,rfl,?_⟩
  rw[wO]
  have no:W61.run W (c::rs)=false->Q (.bl false) HX:=λh=>fin false (by rw[<-hrun,h])
  cases W with
  |opn=>
   have la0:=hO rfl
   subst la0
   rw[W61.TN]at hrun no
   refine A1 ?_
   refine⟨_,rfl,_,rfl,?_⟩
   cases hl:W61.lw c with
   |false=>
    rw[hl]at no
    refine Ay ?_
    refine⟨_,rfl,rfl,_,rfl,?_⟩
    rw[Q5,O4]
    by_cases h93:c=93
    ·rw[decide_eq_true h93]
     refine A1 ⟨_,rfl,rfl,_,rfl,?_⟩
     rw[wS]
     exact Ay (no rfl)
    ·rw[decide_eq_false h93]
     exact Ay (no rfl)
   |true=>
    refine A1 ⟨_,rfl,_,rfl,_,_,rfl,rfl,_,rfl,?_⟩
    rw[show decide ((mk []).cps.toList < (⟨#[c]⟩:Str).cps.toList)=true from by show decide (([]:List Nat) < [c])=true;simp]
    refine A1 ⟨_,rfl,?_⟩
    exact⟨.set c,[c],_,_,rfl,(λh=>by cases h),(λl h=>by cases h;rfl),by rw[<-hrun,hl,Bool.true_and],rfl⟩
  |set l=>
   have la0:=hSt l rfl
   subst la0
   rw[W61.TQ]at hrun no
   refine Ay ⟨_,rfl,rfl,_,rfl,?_⟩
   rw[wS]
   refine A1 ?_
   refine⟨_,rfl,_,rfl,?_⟩
   have close:(W61.lw c&&decide (l < c))=false->∀(b:Bool) (A B:Prop),b=decide (c=93)->(c=93->A)->(c≠93->B)->if b=true then A else B:=λ_ b A B e a b2=>by
    rw[e]
    by_cases h:c=93
    ·rw[decide_eq_true h];exact A1 (a h)
    ·rw[decide_eq_false h];exact Ay (b2 h)
   have nx93:(W61.lw c&&decide (l < c))=false->c=93->W61.run .item rs=W61.run .begin z.cps.toList:=λh e=>by
    rw[<-hrun,if_neg (by rw[h];decide),if_pos e]
   have no93:(W61.lw c&&decide (l < c))=false->c≠93->Q (.bl false) HX:=λh e=>no (by rw[if_neg (by rw[h];decide),if_neg e])
   cases hl:W61.lw c with
   |false=>
    have hb:(W61.lw c&&decide (l < c))=false:=by rw[hl];rfl
    refine Ay ?_
    refine⟨_,rfl,rfl,_,rfl,?_⟩
    rw[Q5]
    refine close hb _ _ _ (O4 c 93) (λh=>?_) (λh=>no93 hb h)
    refine⟨_,rfl,rfl,_,rfl,?_⟩
    rw[wS]
    refine A1 ?_
    exact⟨.item,[l],_,_,rfl,(λh=>by cases h),(λl h=>by cases h),nx93 hb h,rfl⟩
   |true=>
    refine A1 ⟨_,rfl,_,rfl,_,_,rfl,rfl,_,rfl,?_⟩
    rw[show decide ((mk [l]).cps.toList < (⟨#[c]⟩:Str).cps.toList)=decide (l < c)from by show decide ([l] < [c])=_;congr 1;rw[List.cons_lt_cons_iff];simp]
    by_cases lt:l < c
    ·rw[decide_eq_true lt]
     refine A1 ⟨_,rfl,?_⟩
     exact⟨.set c,[c],_,_,rfl,(λh=>by cases h),(λl h=>by cases h;rfl),by rw[<-hrun,if_pos (by rw[hl,decide_eq_true lt];rfl)],rfl⟩
    ·have hb:(W61.lw c&&decide (l < c))=false:=by rw[decide_eq_false lt,Bool.and_false]
     rw[decide_eq_false lt]
     refine Ay ?_
     refine⟨_,rfl,rfl,_,rfl,?_⟩
     rw[Q5]
     refine close hb _ _ _ (O4 c 93) (λh=>?_) (λh=>no93 hb h)
     refine⟨_,rfl,rfl,_,rfl,?_⟩
     rw[wS]
     refine A1 ?_
     exact⟨.item,[l],_,_,rfl,(λh=>by cases h),(λl h=>by cases h),nx93 hb h,rfl⟩
  |begin=>
   rw[W61.TR]at hrun no
   refine Ay ⟨_,rfl,rfl,_,rfl,?_⟩
   rw[wS]
   refine Ay ⟨_,rfl,rfl,_,rfl,?_⟩
   rw[S7,O4]
   by_cases h91:c=91
   ·rw[decide_eq_true h91]
    refine A1 ?_
    exact⟨.opn,[],_,_,by rw[s0];rfl,(λ_=>rfl),(λl h=>by cases h),by rw[<-hrun,if_pos h91],rfl⟩
   rw[decide_eq_false h91]
   rw[if_neg h91]at hrun no
   refine Ay ⟨_,rfl,_,rfl,?_⟩
   cases hl:W61.lw c with
   |true=>
    rw[hl]at hrun
    refine A1 ?_
    exact⟨.item,la,_,_,rfl,(λh=>by cases h),(λl h=>by cases h),by rw[<-hrun];rfl,rfl⟩
   |false=>
    rw[hl]at hrun no
    refine Ay ⟨_,rfl,rfl,_,rfl,?_⟩
    rw[S8,O4]
    by_cases h46:c=46
    ·rw[decide_eq_true h46]at hrun ⊢
     refine A1 ?_
     exact⟨.item,la,_,_,rfl,(λh=>by cases h),(λl h=>by cases h),by rw[<-hrun];rfl,rfl⟩
    rw[decide_eq_false h46]at no ⊢
    refine Ay ⟨_,rfl,rfl,_,rfl,?_⟩
    rw[S9,O4]
    by_cases h42:c=42
    ·rw[decide_eq_true h42]
     refine A1 ⟨_,rfl,rfl,_,rfl,?_⟩
     rw[wI]
     exact Ay (no rfl)
    ·rw[decide_eq_false h42]
     exact Ay (no rfl)
  |item=>
   rw[W61.Tf]at hrun no
   refine Ay ⟨_,rfl,rfl,_,rfl,?_⟩
   rw[wS]
   refine Ay ⟨_,rfl,rfl,_,rfl,?_⟩
   rw[S7,O4]
   by_cases h91:c=91
   ·rw[decide_eq_true h91]
    refine A1 ?_
    exact⟨.opn,[],_,_,by rw[s0];rfl,(λ_=>rfl),(λl h=>by cases h),by rw[<-hrun,if_pos h91],rfl⟩
   rw[decide_eq_false h91]
   rw[if_neg h91]at hrun no
   refine Ay ⟨_,rfl,_,rfl,?_⟩
   cases hl:W61.lw c with
   |true=>
    rw[hl]at hrun
    refine A1 ?_
    exact⟨.item,la,_,_,rfl,(λh=>by cases h),(λl h=>by cases h),by rw[<-hrun];rfl,rfl⟩
   |false=>
    rw[hl]at hrun no
    refine Ay ⟨_,rfl,rfl,_,rfl,?_⟩
    rw[S8,O4]
    by_cases h46:c=46
    ·rw[decide_eq_true h46]at hrun ⊢
     refine A1 ?_
     exact⟨.item,la,_,_,rfl,(λh=>by cases h),(λl h=>by cases h),by rw[<-hrun];rfl,rfl⟩
    rw[decide_eq_false h46]at hrun no ⊢
    refine Ay ⟨_,rfl,rfl,_,rfl,?_⟩
    rw[S9,O4]
    by_cases h42:c=42
    ·rw[decide_eq_true h42]
     refine A1 ⟨_,rfl,rfl,_,rfl,?_⟩
     rw[wI]
     refine A1 ?_
     exact⟨.begin,la,_,_,rfl,(λh=>by cases h),(λl h=>by cases h),by rw[<-hrun,if_pos h42];rfl,rfl⟩
    ·rw[decide_eq_false h42]
     exact Ay (no (by rw[if_neg h42];rfl))
 ·rintro σ HX ⟨W,la,o3,o4,rfl,hO,hSt,hrun,eH⟩
  subst eH
  rw[List.drop_length]at hrun
  refine⟨_,rfl,rfl,_,rfl,?_⟩
  rw[wB]
  cases W with
  |begin=>exact A1 (fin true (by rw[<-hrun];simp only[W61.run]))
  |item=>
   refine Ay ⟨_,rfl,rfl,?_⟩
   rw[wI]
   exact fin true (by rw[<-hrun];simp only[W61.run])
  |opn=>
   refine Ay ⟨_,rfl,rfl,?_⟩
   rw[wI]
   exact fin false (by rw[<-hrun];simp only[W61.run])
  |set l=>
   refine Ay ⟨_,rfl,rfl,?_⟩
   rw[wI]
   exact fin false (by rw[<-hrun];simp only[W61.run])
end
end S61
namespace W66
open W63 W7
inductive At (ups:List Int)(d:Nat):Nat->Nat->Prop
 |here:At ups d 0 d
 |up {j c:Nat}:At ups d j c->0 < c->At ups d (j+1) (ups.getD c 0).toNat
theorem At.lt {ups:List Int}{lab:List Nat}(t:Br ups lab){d j c:Nat}(h:At ups d j c)(hd:d < ups.length):c < ups.length:=by
 induction h with
 |here=>exact hd
 |up h h0 ih=>have:=t.up _ h0 ih;omega
theorem At.word {ups:List Int}{lab:List Nat}(t:Br ups lab){d j c:Nat}(h:At ups d j c)(hd:d < ups.length):(W ups lab d).drop j=W ups lab c:=by
 induction h with
 |here=>rfl
 |@up j c h h0 ih=>
  have hc:=h.lt t hd
  have:=t.up _ h0 hc
  rw[<-List.drop_drop,ih,JV t hc,if_neg (by omega)];rfl
theorem At.Nu {ups:List Int}{lab:List Nat}(t:Br ups lab){d j c:Nat}(h:At ups d j c)(hd:d < ups.length):(W ups lab d).getD j 0=lab.getD c 0:=by
 have e:=h.word t hd
 rw[JV t (h.lt t hd)]at e
 have e2:((W ups lab d).drop j)[0]?=some (lab.getD c 0):=by rw[e];rfl
 rw[List.getElem?_drop,Nat.add_zero]at e2
 rw[List.getD_eq_getElem?_getD,e2];rfl
def Mk (its:List It)(ups:List Int)(lab:List Nat)(p s:Nat):Prop:=∃d j,d < ups.length/\At ups d j p/\N its (W ups lab d) s j=true
def By (its:List It)(c t s:Nat):Prop:=t < its.length/\c∈(its.getD t ([],false)).1/\(if st its t=true then t else t+1)=s
theorem IW {its:List It}{T U:Nat->Bool}:∀s,(∀r,r<=s->T r=true->U r=true)->cl its T s=true->cl its U s=true
 |0,h,c=>h 0 (Nat.le_refl _) c
 |s+1,h,c=>by
  rw[cl,Bool.or_eq_true,Bool.and_eq_true]at c ⊢
  rcases c with c|c
  ·exact .inl (h _ (Nat.le_refl _) c)
  ·exact .inr ⟨IW s (λr hr=>h r (by omega)) c.1,c.2⟩
theorem R0 {its:List It}{T:Nat->Bool}{s:Nat}(h:T s=true):cl its T s=true:=by
 cases s with
 |zero=>exact h
 |succ s=>rw[cl,h];rfl
theorem Qi {its:List It}{w:List Nat}{s n:Nat}(h:N its w s n=true)(hs:st its s=true):N its w (s+1) n=true:=by
 cases n with
 |zero=>rw[Ed]at h ⊢;rw[cl,h,hs];simp
 |succ n=>rw[IU]at h ⊢;rw[cl,h,hs];simp
theorem Nv {its:List It}{w:List Nat}{n c:Nat}(hc:w.getD n 0=c)(s:Nat):Qb its w n s=true↔∃t,N its w t n=true/\By its c t s:=by
 have lg:∀t,c∈(its.getD t ([],false)).1↔gd its w t n=true:=λt=>by unfold gd good;rw[hc,decide_eq_true_eq]
 have lt:∀t,c∈(its.getD t ([],false)).1->t < its.length:=λt m=>by
  rcases Nat.lt_or_ge t its.length with l|l
  ·exact l
  ·rw[List.getD_eq_getElem?_getD,List.getElem?_eq_none l]at m;cases m
 unfold Qb By
 constructor
 ·intro h
  rw[Bool.or_eq_true]at h
  rcases h with h|h
  ·rw[Bool.and_eq_true,Bool.and_eq_true]at h
   have m:=(lg s).mpr h.1.2
   exact⟨s,h.2,lt s m,m,by rw[if_pos h.1.1]⟩
  ·cases s with
   |zero=>cases h
   |succ j=>
    dsimp only at h
    rw[Bool.and_eq_true,Bool.and_eq_true]at h
    have m:=(lg j).mpr h.1.2
    exact⟨j,h.2,lt j m,m,by rw[if_neg];intro z;rw[z]at h;simp at h⟩
 ·rintro⟨t,h3,_,h2,e⟩
  have h2':=(lg t).mp h2
  by_cases s1:st its t=true
  ·rw[if_pos s1]at e
   subst e
   rw[s1,h2',h3];rfl
  ·rw[if_neg s1]at e
   subst e
   dsimp only
   rw[Bool.eq_false_iff.mpr s1,h2',h3];simp
theorem R1 {its:List It}{ups:List Int}{lab:List Nat}(t:Br ups lab){p:Nat}(hp:p < ups.length){T:Nat->Bool}
 (hT:∀s,T s=true↔s=0\/∃c r,0 < c/\c < ups.length/\(ups.getD c 0).toNat=p/\Mk its ups lab c r/\By its (lab.getD c 0) r s)(s:Nat):cl its T s=true↔Mk its ups lab p s:=by
 constructor
 ·have one:∀s,T s=true->Mk its ups lab p s:=λs h=>by
   rcases(hT s).mp h with rfl|⟨c,r,c0,cl',e,⟨d,j,hd,ha,hN⟩,hb⟩
   ·exact⟨p,0,hp,.here,by rw[Ed];rfl⟩
   ·refine⟨d,j+1,hd,e▸ha.up c0,?_⟩
    rw[IU]
    exact R0 ((Nv (ha.Nu t hd) s).mpr ⟨r,hN,hb⟩)
  induction s with
  |zero=>exact one 0
  |succ s ih=>
   intro h
   rw[cl,Bool.or_eq_true,Bool.and_eq_true]at h
   rcases h with h|h
   ·exact one _ h
   ·obtain⟨d,j,hd,ha,hN⟩:=ih h.1
    exact⟨d,j,hd,ha,Qi hN h.2⟩
 ·rintro⟨d,j,hd,ha,hN⟩
  cases ha with
  |here=>
   rw[Ed]at hN
   exact IW s (λr _ hr=>(hT r).mpr (.inl (by simpa using hr))) hN
  |@up j c ha c0=>
   rw[IU]at hN
   refine IW s (λr _ hr=>(hT r).mpr (.inr ?_)) hN
   obtain⟨q,hq,hb⟩:=(Nv (ha.Nu t hd) r).mp hr
   exact⟨c,q,c0,ha.lt t hd,rfl,⟨d,j,hd,ha,hq⟩,hb⟩
def Q6 (ups:List Int)(d:Nat):Nat->Option Nat
 |0=>some d
 |j+1=>match Q6 ups d j with
  |none=>none
  |some c=>if c=0 then none else some (ups.getD c 0).toNat
theorem IX {ups:List Int}{d:Nat}:∀{j c:Nat},At ups d j c↔Q6 ups d j=some c
 |0,c=>⟨λh=>by cases h;rfl,λh=>by cases h;exact .here⟩
 |j+1,c=>by
  constructor
  ·intro h
   cases h with
   |@up j c' h h0=>rw[Q6,IX.mp h];show(if c'=0 then none else _)=_;rw[if_neg (by omega)]
  ·intro h
   rw[Q6]at h
   cases e:Q6 ups d j with
   |none=>rw[e]at h;cases h
   |some c'=>
    rw[e]at h
    dsimp only at h
    by_cases h0:c'=0
    ·rw[if_pos h0]at h;cases h
    ·rw[if_neg h0]at h;cases h
     exact(IX.mpr e).up (by omega)
theorem At.TB {ups:List Int}{lab:List Nat}(t:Br ups lab){d j c:Nat}(h:At ups d j c)(hd:d < ups.length):c+j<=d:=by
 induction h with
 |here=>omega
 |up h h0 ih=>have:=t.up _ h0 (h.lt t hd);omega
def SJ (its:List It)(ups:List Int)(lab:List Nat)(p s:Nat):Bool:=(List.range ups.length).any λd=>(List.range ups.length).any λj=>(Q6 ups d j==some p)&&N its (W ups lab d) s j
theorem LS {its:List It}{ups:List Int}{lab:List Nat}(t:Br ups lab)(p s:Nat):SJ its ups lab p s=true↔Mk its ups lab p s:=by
 unfold SJ Mk
 rw[List.any_eq_true]
 constructor
 ·rintro⟨d,hd,h⟩
  obtain⟨j,_,h⟩:=List.any_eq_true.mp h
  rw[Bool.and_eq_true]at h
  exact⟨d,j,List.mem_range.mp hd,IX.mpr (eq_of_beq h.1),h.2⟩
 ·rintro⟨d,j,hd,ha,hN⟩
  have:=ha.TB t hd
  exact⟨d,List.mem_range.mpr hd,List.any_eq_true.mpr ⟨j,List.mem_range.mpr (by omega),by rw[Bool.and_eq_true,hN];exact⟨beq_iff_eq.mpr (IX.mp ha),rfl⟩⟩⟩
def J0 (its:List It)(ups:List Int)(lab:List Nat)(p:Nat):List Nat:=(List.range (its.length+1)).filter (SJ its ups lab p)
theorem IY {its:List It}{ups:List Int}{lab:List Nat}(t:Br ups lab){p s:Nat}:s∈J0 its ups lab p↔s<=its.length/\Mk its ups lab p s:=by
 unfold J0
 rw[List.mem_filter,List.mem_range,LS t]
 exact⟨λh=>⟨by omega,h.2⟩,λh=>⟨by omega,h.2⟩⟩
theorem LU (its:List It)(ups:List Int)(lab:List Nat)(p:Nat):(J0 its ups lab p).length<=its.length+1:=by
 have:=List.length_filter_le (SJ its ups lab p) (List.range (its.length+1))
 rw[List.length_range]at this;exact this
end W66
namespace S61
open PySem L2 W7
open W63 (Wr Wi enc dec star)
abbrev nV (S:List Nat):List V:=S.map λs:Nat=>V.int (s:Int)
theorem Bu (S:List Nat):(nV S).length=S.length:=List.length_map _
theorem CZ (S:List Nat)(s:Nat):nV S++[.int (s:Int)]=nV (S++[s]):=by unfold nV;rw[List.map_append];rfl
def Ei (its:List W63.It)(T:Nat->Bool)(n:Nat):List Nat:=(List.range n).filter (W63.cl its T)
theorem GL (its:List W63.It)(T:Nat->Bool)(n:Nat):Ei its T (n+1)=Ei its T n++(if W63.cl its T n=true then[n]else[]):=by
 unfold Ei
 rw[List.range_succ,List.filter_append]
 congr 1
 by_cases h:W63.cl its T n=true
 ·rw[if_pos h,List.filter_cons_of_pos h];rfl
 ·rw[if_neg h,List.filter_cons_of_neg h];rfl
theorem Qj (its:List W63.It)(T:Nat->Bool)(n:Nat):(Ei its T n).length<=n:=by
 have:=List.length_filter_le (W63.cl its T) (List.range n)
 rw[List.length_range]at this;exact this
theorem O6 {its:List W63.It}{T:Nat->Bool}{n s:Nat}:s∈Ei its T n↔s < n/\W63.cl its T s=true:=by
 unfold Ei;rw[List.mem_filter,List.mem_range]
theorem IZ {H:Hp}{its:List W63.It}{vs:List V}(h:vs.length=its.length/\∀(i:Nat) (x:W63.It),its[i]?=some x->∃a,vs[i]?=some (V.ref a)/\H a=some (.tup [.str (mk x.1),.bl x.2])){i:Nat}(hi:i < its.length):∃a,DP vs (i:Int)=some (V.ref a)/\H a=some (.tup [.str (mk (its.getD i ([],false)).1),.bl (its.getD i ([],false)).2]):=by
 obtain⟨a,e1,e2⟩:=h.2 i _ (List.getElem?_eq_getElem hi)
 refine⟨a,A4 e1,?_⟩
 rw[List.getD_eq_getElem?_getD,List.getElem?_eq_getElem hi];exact e2
section
variable {P:Program}{w:World}{K:PySem.W.Frag}{mg:Str->Option Value}{base:Heap}{k:Nat}
def GO:Sp:=λvs H Q _=>∃(l r:Addr) (its:List W63.It) (T:List Nat),vs=[.ref l,.ref r]/\Ck H l its/\its.length<=40/\H r=some (.lst (nV T))/\T.length<=2500/\
 ∀(q:Addr) (H':Hp),AJ H H'->H q=none->H' q=some (.lst (nV (Ei its (λs=>decide (s∈T)) (its.length+1))))->Q (.ref q) H'
theorem Mb (D:Df K mg "states_with" s_states_with)(B:Bz mg):Bi P w K mg base "states_with" (k+1) ["items","states"] GO:=by
 refine D.has CB (λ_ _ _ _ _ _ us hl=>match us,hl with|[_,_],_=>rfl) (λvs H Q E h=>by obtain⟨l,r,its,T,rfl,_⟩:=h;rfl) (λf cdv A outer s H vs Q E hr h=>?_)
 obtain⟨l,r,its,T,rfl,it,l40,hT,T100,q⟩:=h
 refine⟨_,(AG (AI (i:=2) CB.nd rfl (by first|exact Or.inl rfl|exact Or.inr rfl) (BI (GI rfl) rfl B.dict_ Of (AA (CJ rfl (CH (pv 1)) (NL:=["state"]) (ix:=[]) (Mj (AM s_states_with) D3) (λcl C s₃ H₃ fp pins=>⟨(Ae (i:=0) (show List.Nodup (["state"]:List Str)from by decide+kernel) rfl (by first|exact Or.inl rfl|exact Or.inr rfl)),CA,(Bc (AA (pv 0) (AA BQ AB)))⟩)) AB)))
 (AG (AI (i:=3) CB.nd rfl (by first|exact Or.inl rfl|exact Or.inr rfl) (AU AB))
 (AG (Bm PassesOwn.never rfl (Gn rfl B.range (AA (AZ BM (AN Aj rfl B.len Ar (AA (pv 0) AB)) AF) AB)) (Ae (i:=4) CB.nd rfl (by first|exact Or.inl rfl|exact Or.inr rfl))
 (AE (Ag (PW.pt (CS (P0 (QR (RX hr) (pv 4) (pv 2)) (by with_unfolding_all rfl)) (CN (PW.pt (Ej (Fg (pv 3) (λ_=>rfl)) (Ej (AL Am (Ad Af (pv 3) (Bn BD AF) (λ_ _=>rfl)) (AZ Bx (pv 4) AF) (AQ _)) (EI (Az (Ad A9 (Ad Af (pv 0) (AZ Bx (pv 4) AF) (λ_ _=>rfl)) AF (λ_ _=>rfl))))))))))
 (AE (BW (BR PySem.F.plainAttrs_list PySem.F.slot_list_append PySem.F.type_list_append BC (pv 3) (AA (pv 4) AB))))
 Aq)))
 (AE (AY (pv 3)))))),?_⟩
 refine⟨_,rfl,r,rfl,⟨_,An.of hT⟩,λacc hacc=>?_⟩
 refine MD (K:=K) (a:=r) (xs:=nV T) (by rw[Bu];omega) (λi ys HX=>HX acc=some (.lst ys)/\AJ H HX/\∃as:List Addr,ys=as.map V.ref/\as.length=i/\∀(j:Nat) (a:Addr) (t:Nat),as[j]?=some a->T[j]?=some t->HX a=some (.tup [.int (t:Int),.bl true]))
  (λi ys HX h=>An.of (h.2.1 _ _ hT)) (λi ys HX h=>⟨h.1,by obtain⟨as,e,e2,_⟩:=h.2.2;rw[e,List.length_map];omega⟩) ⟨AD,(AJ.refl H).new hacc,[],rfl,rfl,λj a t e=>by cases e⟩ ?_ ?_
 rotate_left
 ·rintro i x ys HX hx ⟨g1,g2,as,rfl,la,ha⟩
  rw[List.getElem?_map]at hx
  cases e1:T[i]? with
  |none=>rw[e1]at hx;cases hx
  |some t=>
   rw[e1]at hx
   cases hx
   refine⟨rfl,_,rfl,AK (show 2<=1000 by omega),λtt htt=>?_⟩
   have ne:acc≠tt:=AV g1 htt
   have s1:AJ HX (upd HX tt (.tup [.int (t:Int),.bl true])):=(AJ.refl HX).new htt
   refine⟨s1 _ _ g1,AD,(g2.trans s1).write hacc,as++[tt],by rw[List.map_append];rfl,by rw[List.length_append,la];rfl,λj a t' e2 e3=>?_⟩
   rcases Nat.lt_or_ge j as.length with h|h
   ·rw[List.getElem?_append_left h]at e2
    have:=s1 _ _ (ha j a t' e2 e3)
    have na:a≠acc:=λz=>by rw[z,s1 _ _ g1]at this;cases this
    rw[AX na];exact this
   ·rw[List.getElem?_append_right h]at e2
    have hj:j=as.length:=by
     have:=(List.getElem?_eq_some_iff.mp e2).1
     simp at this
     omega
    rw[hj,Nat.sub_self]at e2
    cases e2
    rw[hj,la,e1]at e3
    cases e3
    rw[AX (Ne.symm ne)];exact AD
 rintro ys H1 ⟨g1,s1,as,rfl,la,ha⟩
 rw[Bu]at la
 refine⟨acc,as,(T.map λt:Nat=>(Sum.inl (t:Int):Key)).map λj=>(j,V.bl true),rfl,g1,by rw[List.length_map,List.length_map];exact la,λj a kk v e1 e2=>?_,by omega,λd hd=>?_⟩
 ·rw[List.getElem?_map,List.getElem?_map]at e2
  cases e3:T[j]? with
  |none=>rw[e3]at e2;cases e2
  |some t=>
   rw[e3]at e2
   cases e2
   exact ha j a t e1 e3
 have hd1:upd H1 d (.dK (Bd [] ((T.map λt:Nat=>(Sum.inl (t:Int):Key)).map λj=>(j,V.bl true)))) d=some (.dK (Bd [] ((T.map λt:Nat=>(Sum.inl (t:Int):Key)).map λj=>(j,V.bl true)))):=AD
 have s2:AJ H (upd H1 d (.dK (Bd [] ((T.map λt:Nat=>(Sum.inl (t:Int):Key)).map λj=>(j,V.bl true))))):=s1.new hd
 show(λHH=>_) (upd H1 d (.dK (Bd [] ((T.map λt:Nat=>(Sum.inl (t:Int):Key)).map λj=>(j,V.bl true)))))
 generalize upd H1 d (.dK (Bd [] ((T.map λt:Nat=>(Sum.inl (t:Int):Key)).map λj=>(j,V.bl true))))=H2 at hd1 s2
 have inT:∀s:Nat,(CW (Bd [] ((T.map λt:Nat=>(Sum.inl (t:Int):Key)).map λj=>(j,V.bl true))) (Sum.inl (s:Int))).isSome=decide (s∈T):=λs=>by
  rw[Bool.eq_iff_iff,Hd,decide_eq_true_eq]
  constructor
  ·rintro(z|z)
   ·cases z
   ·obtain⟨t,ht,e⟩:=List.mem_map.mp z
    injection e with e
    have:t=s:=by omega
    rw[<-this];exact ht
  ·exact λh=>.inr (List.mem_map.mpr ⟨s,h,rfl⟩)
 generalize Bd [] ((T.map λt:Nat=>(Sum.inl (t:Int):Key)).map λj=>(j,V.bl true))=kvs at hd1 inT
 refine⟨AK (show 0<=1000 by omega),λfo hfo=>?_⟩
 obtain⟨vs,hl,lv,at_⟩:=it
 have hl2:=s2 _ _ hl
 have fd:d≠fo:=AV hd1 hfo
 have Hfo:H fo=none:=s2.free hfo
 have s3:AJ H (upd H2 fo (.lst [])):=s2.new hfo
 refine⟨_,rfl,l,_,rfl,.inl (An.of (s3 _ _ hl)),_,_,rfl,rfl,_,rfl,by omega,by omega,?_⟩
 rw[lv]
 have en:(((its.length:Nat):Int)+1).toNat=its.length+1:=by omega
 rw[en]
 refine Eo (lo:=0) (n:=its.length+1) (λi σ HX=>∃o4:Option V,σ=[some (.ref l),some (.ref r),some (.ref d),some (.ref fo),o4]/\AJ H HX/\HX d=some (.dK kvs)/\HX fo=some (.lst (nV (Ei its (λs=>decide (s∈T)) i)))) ⟨none,rfl,s3,by rw[AX fd];exact hd1,AD⟩ ?_ ?_
 ·rintro i σ HX hi ⟨o4,rfl,sX,hdX,hfX⟩
  have hlX:=sX _ _ hl
  have e0:(0:Int)+(i:Int)=(i:Int):=Int.zero_add _
  have hls:=Qj its (λs=>decide (s∈T)) i
  rw[e0]
  have app:W63.cl its (λs=>decide (s∈T)) i=true->HX fo=some (.lst (nV (Ei its (λs=>decide (s∈T)) i)))/\(nV (Ei its (λs=>decide (s∈T)) i)).length < sizeLine/\AJ H (upd HX fo (.lst (nV (Ei its (λs=>decide (s∈T)) i)++[.int (i:Int)])))/\upd HX fo (.lst (nV (Ei its (λs=>decide (s∈T)) i)++[.int (i:Int)])) d=some (.dK kvs)/\upd HX fo (.lst (nV (Ei its (λs=>decide (s∈T)) i)++[.int (i:Int)])) fo=some (.lst (nV (Ei its (λs=>decide (s∈T)) (i+1)))):=λc=>by
   refine⟨hfX,Nat.lt_of_lt_of_le (show _ < 1000 by rw[Bu];omega) (AK (Nat.le_refl _)),sX.write Hfo,by rw[AX fd];exact hdX,?_⟩
   rw[AD,GL,if_pos c,CZ]
  refine⟨_,rfl,_,rfl,d,_,rfl,ND.k (k:=Sum.inl (i:Int)) hdX,_,rfl,?_⟩
  have D7:W63.cl its (λs=>decide (s∈T)) i=false->HX fo=some (.lst (nV (Ei its (λs=>decide (s∈T)) (i+1)))):=λc=>by
   rw[hfX,GL,c,if_neg (by decide),List.append_nil]
  by_cases hin:i∈T
  ·refine Bl ((inT i).trans (decide_eq_true hin)) ?_
   refine A1 ?_
   obtain⟨a1,a2,a3,a4,a5⟩:=app (by cases i with|zero=>exact decide_eq_true hin|succ j=>rw[W63.cl,decide_eq_true hin];rfl)
   exact⟨_,rfl,.inl ⟨rfl,_,An.of hfX⟩,_,rfl,fo,_,_,rfl,rfl,a1,a2,_,rfl,a3,a4,a5⟩
  refine L2.A2 ((inT i).trans (decide_eq_false hin)) ?_
  refine⟨_,rfl,_,.inl ⟨_,An.of hfX,rfl⟩,?_⟩
  cases i with
  |zero=>
   refine L2.A2 rfl ?_
   refine Ay ?_
   exact⟨_,rfl,sX,hdX,D7 (decide_eq_false hin)⟩
  |succ j=>
   have ec:W63.cl its (λs=>decide (s∈T)) (j+1)=(W63.cl its (λs=>decide (s∈T)) j&&W63.st its j):=by rw[W63.cl,decide_eq_false hin,Bool.false_or]
   have ej:((j+1:Nat):Int) - 1=(j:Int):=by omega
   by_cases cj:W63.cl its (λs=>decide (s∈T)) j=true
   ·have es:nV (Ei its (λs=>decide (s∈T)) (j+1))=nV (Ei its (λs=>decide (s∈T)) j)++[.int (j:Int)]:=by rw[GL,if_pos cj,<-CZ]
    have al:DP (nV (Ei its (λs=>decide (s∈T)) (j+1))) (-1)=some (.int (j:Int)):=by rw[es];exact DQ _ _
    refine Bl (by rw[es];simp) ?_
    refine⟨_,rfl,_,rfl,fo,_,_,_,rfl,rfl,An.of hfX,al,_,rfl,_,_,rfl,rfl,rfl,_,rfl,?_⟩
    refine Bl (decide_eq_true (by show V.int (j:Int)=V.int (((j+1:Nat):Int) - 1);rw[ej])) ?_
    obtain⟨ia,ie1,ie2⟩:=IZ (H:=H) ⟨lv,at_⟩ (i:=j) (by omega)
    refine⟨_,rfl,_,rfl,_,_,rfl,rfl,l,_,_,_,rfl,rfl,An.of hlX,by rw[ej];exact ie1,ia,_,_,_,rfl,rfl,Ca.of (sX _ _ ie2),rfl,_,rfl,?_⟩
    cases sj:W63.st its j with
    |true=>
     refine Bl sj ?_
     obtain⟨a1,a2,a3,a4,a5⟩:=app (by rw[ec,cj,sj];rfl)
     exact⟨_,rfl,.inl ⟨rfl,_,An.of hfX⟩,_,rfl,fo,_,_,rfl,rfl,a1,a2,_,rfl,a3,a4,a5⟩
    |false=>
     refine L2.A2 sj ?_
     exact⟨_,rfl,sX,hdX,D7 (by rw[ec,sj];simp)⟩
   ·have st':=D7 (by rw[ec,Bool.eq_false_iff.mpr cj];rfl)
    rcases List.eq_nil_or_concat (Ei its (λs=>decide (s∈T)) (j+1))with e|⟨ys,t,e⟩
    ·refine L2.A2 (by rw[e];rfl) ?_
     refine Ay ?_
     exact⟨_,rfl,sX,hdX,st'⟩
    ·have es:nV (Ei its (λs=>decide (s∈T)) (j+1))=nV ys++[.int (t:Int)]:=by rw[e,List.concat_eq_append,<-CZ]
     have al:DP (nV (Ei its (λs=>decide (s∈T)) (j+1))) (-1)=some (.int (t:Int)):=by rw[es];exact DQ _ _
     have tm:t∈Ei its (λs=>decide (s∈T)) (j+1):=by rw[e];simp
     have tj:t≠j:=λz=>cj (by rw[<-z];exact(O6.mp tm).2)
     refine Bl (by rw[es];simp) ?_
     refine⟨_,rfl,_,rfl,fo,_,_,_,rfl,rfl,An.of hfX,al,_,rfl,_,_,rfl,rfl,rfl,_,rfl,?_⟩
     refine L2.A2 (decide_eq_false λz=>tj ?_) ?_
     ·have z':V.int (t:Int)=V.int (((j+1:Nat):Int) - 1):=z
      injection z' with z'
      omega
     ·refine Ay ?_
      exact⟨_,rfl,sX,hdX,st'⟩
 ·rintro σ HX ⟨o4,rfl,sX,hdX,hfX⟩
  exact⟨_,rfl,q fo HX sX Hfo hfX⟩
def Mm (its:List W63.It)(S:List Nat)(c:Nat):List Nat:=(S.filter λs=>decide (s < its.length)&&decide (c∈(its.getD s ([],false)).1)).map λs=>if W63.st its s=true then s else s+1
def Ia:Sp:=λvs H Q _=>∃(l r:Addr) (its:List W63.It) (S:List Nat) (c:Nat),vs=[.ref l,.ref r,.str ⟨#[c]⟩]/\Ck H l its/\its.length<=40/\H r=some (.lst (nV S))/\S.length<=41/\
 ∀(q:Addr) (H':Hp),AJ H H'->H q=none->H' q=some (.lst (nV (Mm its S c)))->Q (.ref q) H'
theorem O7 (D:Df K mg "states_by" s_states_by)(B:Bz mg):Bi P w K mg base "states_by" (k+1) ["items","states","letter"] Ia:=by
 refine D.has EY (λ_ _ _ _ _ _ us hl=>match us,hl with|[_,_,_],_=>rfl) (λvs H Q E h=>by obtain⟨l,r,its,S,c,rfl,_⟩:=h;rfl) (λf cdv A outer s H vs Q E hr h=>?_)
 obtain⟨l,r,its,S,c,rfl,it,l40,hS,S41,q⟩:=h
 refine⟨_,(AG (K1 (i:=3) EY.nd rfl (by first|exact Or.inl rfl|exact Or.inr rfl) rfl (CH (pv 1)) (NL:=["state"]) (ix:=[0,2]) (Mj (AM s_states_by) Dd) (λcl C s₃ H₃ fp pins=>⟨(Ae (i:=0) (show List.Nodup (["state","items","letter"]:List Str)from by decide+kernel) rfl (by first|exact Or.inl rfl|exact Or.inr rfl)),(Fm (PW.pt (Ej (AL BF (pv 0) (AN (Ga K) rfl B.len Ar (AA (pv 1) AB)) (AQ _)) (EI (AL Di (pv 2) (Ad (IC K) (Ad (JB K) (pv 1) (pv 0) (λ_ _=>rfl)) AF (λ_ _=>rfl)) (by with_unfolding_all rfl)))))),(pv 0)⟩))
 (AE (AY (CJ rfl (CH (pv 3)) (NL:=["state"]) (ix:=[0]) (Mj (AM s_states_by) Dd) (λcl C s₃ H₃ fp pins=>⟨(Ae (i:=0) (show List.Nodup (["state","items"]:List Str)from by decide+kernel) rfl (by first|exact Or.inl rfl|exact Or.inr rfl)),CA,(Aa (Az (Ad (IC K) (Ad (JB K) (pv 1) (pv 0) (λ_ _=>rfl)) AF (λ_ _=>rfl))) (pv 0) (AZ BM (pv 0) AF))⟩))))),?_⟩
 obtain⟨vs,hl,lv,at_⟩:=it
 refine⟨_,rfl,r,rfl,⟨_,An.of hS⟩,λacc hacc=>?_⟩
 refine DW (K:=K) (a:=r) (xs:=nV S) (by rw[Bu];omega) (λi ys HX=>HX acc=some (.lst ys)/\AJ H HX/\ys=nV ((S.take i).filter λs=>decide (s < its.length)&&decide (c∈(its.getD s ([],false)).1)))
  (λi ys HX h=>An.of (h.2.1 _ _ hS)) (λi ys HX h=>⟨h.1,by
   rw[h.2.2,Bu]
   have:=List.length_filter_le (λs=>decide (s < its.length)&&decide (c∈(its.getD s ([],false)).1)) (S.take i)
   rw[List.length_take]at this;omega⟩) ⟨AD,(AJ.refl H).new hacc,rfl⟩ ?_ ?_
 rotate_left
 ·rintro i x ys HX hx ⟨g1,g2,rfl⟩
  rw[List.getElem?_map]at hx
  cases e1:S[i]? with
  |none=>rw[e1]at hx;cases hx
  |some t=>
   rw[e1]at hx
   cases hx
   have tk:S.take (i+1)=S.take i++[t]:=by rw[List.take_succ,e1];rfl
   refine⟨rfl,_,rfl,_,rfl,l,_,rfl,.inl (An.of (g2 _ _ hl)),_,_,rfl,rfl,_,rfl,?_⟩
   by_cases lt:t < its.length
   ·refine Bl (decide_eq_true (by rw[lv];omega)) ?_
    obtain⟨ia,ie1,ie2⟩:=IZ (H:=H) ⟨lv,at_⟩ (i:=t) lt
    refine⟨_,rfl,_,rfl,_,rfl,l,_,_,_,rfl,rfl,An.of (g2 _ _ hl),ie1,ia,_,_,_,rfl,rfl,Ca.of (g2 _ _ ie2),rfl,_,_,rfl,rfl,_,rfl,?_⟩
    rw[PySem.StrLaws.found_one,Bt]
    refine Ht (λcc=>?_) (λcc=>?_)
    ·refine⟨_,rfl,g1,AD,g2.write hacc,?_⟩
     rw[tk,List.filter_append,List.filter_cons_of_pos (by rw[decide_eq_true lt,cc];rfl),CZ];rfl
    ·refine⟨g1,g2,?_⟩
     rw[tk,List.filter_append,List.filter_cons_of_neg (by rw[Bool.eq_false_iff.mpr cc];simp)];simp
   ·refine L2.A2 (decide_eq_false (by rw[lv];omega)) ?_
    refine Ay ?_
    refine⟨g1,g2,?_⟩
    rw[tk,List.filter_append,List.filter_cons_of_neg (by rw[decide_eq_false lt];simp)];simp
 rintro ys H1 ⟨g1,s1,rfl⟩
 rw[Bu,List.take_length]at g1
 have hf:=List.length_filter_le (λs=>decide (s < its.length)&&decide (c∈(its.getD s ([],false)).1)) S
 have ok:∀t∈S.filter (λs=>decide (s < its.length)&&decide (c∈(its.getD s ([],false)).1)),t < its.length:=λt ht=>by
  have:=(List.mem_filter.mp ht).2
  rw[Bool.and_eq_true]at this
  exact of_decide_eq_true this.1
 have eb:Mm its S c=(S.filter (λs=>decide (s < its.length)&&decide (c∈(its.getD s ([],false)).1))).map λs=>if W63.st its s=true then s else s+1:=rfl
 generalize S.filter (λs=>decide (s < its.length)&&decide (c∈(its.getD s ([],false)).1))=G at g1 hf ok eb
 refine⟨_,rfl,acc,rfl,⟨_,An.of g1⟩,λa2 ha2=>?_⟩
 refine DW (K:=K) (a:=acc) (xs:=nV G) (by rw[Bu];omega) (λi ys HX=>HX a2=some (.lst ys)/\AJ H1 HX/\ys=nV ((G.take i).map λs=>if W63.st its s=true then s else s+1))
  (λi ys HX h=>An.of (h.2.1 _ _ g1)) (λi ys HX h=>⟨h.1,by rw[h.2.2,Bu,List.length_map,List.length_take];omega⟩) ⟨AD,(AJ.refl H1).new ha2,rfl⟩ ?_ ?_
 rotate_left
 ·rintro i x ys HX hx ⟨g2,g3,rfl⟩
  rw[List.getElem?_map]at hx
  cases e1:G[i]? with
  |none=>rw[e1]at hx;cases hx
  |some t=>
   rw[e1]at hx
   cases hx
   have tk:G.take (i+1)=G.take i++[t]:=by rw[List.take_succ,e1];rfl
   have lt:=ok t (List.mem_of_getElem? e1)
   obtain⟨ia,ie1,ie2⟩:=IZ (H:=H) ⟨lv,at_⟩ (i:=t) lt
   have sH:=s1.trans g3
   refine⟨rfl,_,rfl,_,rfl,l,_,_,_,rfl,rfl,An.of (sH _ _ hl),ie1,ia,_,_,_,rfl,rfl,Ca.of (sH _ _ ie2),rfl,_,rfl,?_⟩
   refine Ht (λcc=>?_) (λcc=>?_)
   ·refine⟨_,rfl,g2,AD,g3.write ha2,?_⟩
    rw[tk,List.map_append,CZ]
    congr 2
    show[t]=[if W63.st its t=true then t else t+1]
    rw[if_pos (show W63.st its t=true from cc)]
   ·refine⟨_,rfl,_,_,rfl,rfl,g2,AD,g3.write ha2,?_⟩
    rw[tk,List.map_append,show(λi j:Int=>V.int (i+j)) (t:Int) 1=V.int ((t+1:Nat):Int)from rfl,CZ]
    congr 2
    show[t+1]=[if W63.st its t=true then t else t+1]
    rw[if_neg (show¬W63.st its t=true from cc)]
 rintro ys H2 ⟨g2,s2,rfl⟩
 rw[Bu,List.take_length,<-eb]at g2
 exact q a2 H2 (s1.trans s2) (s1.free ha2) g2
def SN (its:List W63.It)(ws:List Nat)(n:Nat):List Nat:=(List.range (its.length+1)).filter λs=>W63.N its ws s n
theorem Nw (its:List W63.It)(ws:List Nat):Ei its (λs=>decide (s∈[0])) (its.length+1)=SN its ws 0:=by
 have e:(λs:Nat=>decide (s∈[0]))=λs=>s==0:=by funext s;rw[Bool.eq_iff_iff];simp
 unfold Ei SN
 rw[e]
 exact List.filter_congr λs _=>(W63.Ed its ws s).symm
theorem O8 (its:List W63.It)(ws:List Nat)(n c:Nat)(hc:ws.getD n 0=c):Ei its (λs=>decide (s∈Mm its (SN its ws n) c)) (its.length+1)=SN its ws (n+1):=by
 have gl:∀s,W63.gd its ws s n=true->s < its.length/\c∈(its.getD s ([],false)).1:=λs h=>by
  have m:c∈(its.getD s ([],false)).1:=by rw[<-hc];exact of_decide_eq_true h
  refine⟨?_,m⟩
  rcases Nat.lt_or_ge s its.length with l|l
  ·exact l
  ·rw[List.getD_eq_getElem?_getD,List.getElem?_eq_none l]at m;cases m
 have lg:∀s,s < its.length->c∈(its.getD s ([],false)).1->W63.gd its ws s n=true:=λs _ m=>by
  unfold W63.gd W63.good;rw[hc];exact decide_eq_true m
 have mem:∀s,s∈Mm its (SN its ws n) c↔∃t,t < its.length/\c∈(its.getD t ([],false)).1/\W63.N its ws t n=true/\(if W63.st its t=true then t else t+1)=s:=λs=>by
  unfold Mm SN
  rw[List.mem_map]
  constructor
  ·rintro⟨t,ht,e⟩
   obtain⟨h1,h2⟩:=List.mem_filter.mp ht
   obtain⟨h3,h4⟩:=List.mem_filter.mp h1
   rw[Bool.and_eq_true]at h2
   exact⟨t,of_decide_eq_true h2.1,of_decide_eq_true h2.2,h4,e⟩
  ·rintro⟨t,h1,h2,h3,e⟩
   refine⟨t,List.mem_filter.mpr ⟨List.mem_filter.mpr ⟨List.mem_range.mpr (by omega),h3⟩,by rw[decide_eq_true h1,decide_eq_true h2];rfl⟩,e⟩
 have e:(λs:Nat=>decide (s∈Mm its (SN its ws n) c))=W63.Qb its ws n:=by
  funext s
  rw[Bool.eq_iff_iff,decide_eq_true_eq,mem]
  unfold W63.Qb
  constructor
  ·rintro⟨t,h1,h2,h3,e⟩
   by_cases st:W63.st its t=true
   ·rw[if_pos st]at e
    subst e
    rw[st,lg t h1 h2,h3];rfl
   ·rw[if_neg st]at e
    subst e
    dsimp only
    rw[Bool.eq_false_iff.mpr st,lg t h1 h2,h3];simp
  ·intro h
   rw[Bool.or_eq_true]at h
   rcases h with h|h
   ·rw[Bool.and_eq_true,Bool.and_eq_true]at h
    obtain⟨a,b⟩:=gl s h.1.2
    exact⟨s,a,b,h.2,by rw[if_pos h.1.1]⟩
   ·cases s with
    |zero=>cases h
    |succ j=>
     dsimp only at h
     rw[Bool.and_eq_true,Bool.and_eq_true]at h
     obtain⟨a,b⟩:=gl j h.1.2
     exact⟨j,a,b,h.2,by rw[if_neg];intro z;rw[z]at h;simp at h⟩
 unfold Ei
 rw[e]
 unfold SN
 exact List.filter_congr λs _=>(W63.IU its ws n s).symm
theorem Qk (its:List W63.It)(ws:List Nat)(n:Nat):(SN its ws n).length<=its.length+1:=by
 have:=List.length_filter_le (λs=>W63.N its ws s n) (List.range (its.length+1))
 rw[List.length_range]at this;exact this
theorem LV (its:List W63.It)(ws:List Nat)(n:Nat):its.length∈SN its ws n↔W63.D its ws its.length n=true:=by
 unfold SN
 rw[List.mem_filter,List.mem_range,W63.Rp]
 exact⟨λh=>h.2,λh=>⟨Nat.lt_succ_self _,h⟩⟩
theorem LW (its:List W63.It)(S:List Nat)(c:Nat):(Mm its S c).length<=S.length:=by
 unfold Mm;rw[List.length_map];exact List.length_filter_le _ _
theorem Nx (n:Nat)(S:List Nat):Mx (V.int (n:Int)) (nV S)=decide (n∈S):=by
 unfold Mx
 rw[Bool.eq_iff_iff,List.any_eq_true,decide_eq_true_eq]
 constructor
 ·rintro⟨v,hv,e⟩
  obtain⟨t,ht,rfl⟩:=List.mem_map.mp hv
  have e':(t:Int)=(n:Int):=eq_of_beq e
  have:t=n:=by omega
  rw[<-this];exact ht
 ·exact λh=>⟨_,List.mem_map.mpr ⟨n,h,rfl⟩,beq_self_eq_true (n:Int)⟩
theorem Ib (S:List Nat):(nV S).all DR=true:=by
 rw[List.all_eq_true]
 intro v hv
 obtain⟨t,_,rfl⟩:=List.mem_map.mp hv
 rfl
end
def C1 (its:List W63.It)(ws:List Nat)(n:Nat):List Nat:=(List.range n).filter λj=>W63.D its ws its.length j
theorem Du (its:List W63.It)(ws:List Nat)(n:Nat):C1 its ws (n+1)=C1 its ws n++(if W63.D its ws its.length n=true then[n]else[]):=by
 unfold C1
 rw[List.range_succ,List.filter_append]
 congr 1
 by_cases h:W63.D its ws its.length n=true
 ·rw[if_pos h,List.filter_cons_of_pos h];rfl
 ·rw[if_neg h,List.filter_cons_of_neg h];rfl
theorem Ic (its:List W63.It)(ws:List Nat)(n:Nat):(C1 its ws n).length<=n:=by
 have:=List.length_filter_le (λj=>W63.D its ws its.length j) (List.range n)
 rw[List.length_range]at this;exact this
section
variable {P:Program}{w:World}{K:PySem.W.Frag}{mg:Str->Option Value}{base:Heap}{k:Nat}
def FW:Sp:=λvs H Q _=>∃(l:Addr) (its:List W63.It) (z:Str),vs=[.ref l,.str z]/\Ck H l its/\its.length<=40/\z.length<=60/\
 ∀(q:Addr) (H':Hp),AJ H H'->H q=none->H' q=some (.lst (nV (C1 its z.cps.toList (z.length+1))))->Q (.ref q) H'
theorem Ny (D:Df K mg "lengths_fitting" s_lengths_fitting)(B:Bz mg)(G_states_with:Bi P w K mg base "states_with" k ["items","states"] GO)(G_states_by:Bi P w K mg base "states_by" k ["items","states","letter"] Ia):Bi P w K mg base "lengths_fitting" (k+1) ["items","word"] FW:=by
 refine D.has A3 (λ_ _ _ _ _ _ us hl=>match us,hl with|[_,_],_=>rfl) (λvs H Q E h=>by obtain⟨l,its,z,rfl,_⟩:=h;rfl) (λf cdv A outer s H vs Q E hr h=>?_)
 obtain⟨l,its,z,rfl,it,l40,z60,q⟩:=h
 refine⟨_,(AG (AI (i:=2) A3.nd rfl (by first|exact Or.inl rfl|exact Or.inr rfl) (AR G_states_with hr rfl (AA (pv 0) (AA (AU (AA AF AB)) AB))))
 (AG (AI (i:=3) A3.nd rfl (by first|exact Or.inl rfl|exact Or.inr rfl) (Aa (AL Et (AN Aj rfl B.len Ar (AA (pv 0) AB)) (pv 2) (by with_unfolding_all rfl)) (AU (AA AF AB)) (AU AB)))
 (AG (Bm PassesOwn.never rfl (Dp rfl B.enumerate (AA (pv 1) AB)) (DM rfl (Ax (Ae (i:=4) A3.nd rfl (by first|exact Or.inl rfl|exact Or.inr rfl)) (Ax (Ae (i:=5) A3.nd rfl (by first|exact Or.inl rfl|exact Or.inr rfl)) CU)))
 (AG (AI (i:=2) A3.nd rfl (by first|exact Or.inl rfl|exact Or.inr rfl) (AR G_states_with hr rfl (AA (pv 0) (AA (AR G_states_by hr rfl (AA (pv 0) (AA (pv 2) (AA (pv 5) AB)))) AB))))
 (AE (Ag (AL Et (AN Aj rfl B.len Ar (AA (pv 0) AB)) (pv 2) (by with_unfolding_all rfl))
 (AE (BW (BR PySem.F.plainAttrs_list PySem.F.slot_list_append PySem.F.type_list_append BC (pv 3) (AA (AZ BM (pv 4) AF) AB))))
 Aq))))
 (AE (AY (pv 3)))))),?_⟩
 refine⟨_,rfl,AK (show 1<=1000 by omega),λr1 hr1=>?_⟩
 have s1:AJ H (upd H r1 (.lst [.int 0])):=(AJ.refl H).new hr1
 refine⟨l,r1,its,[0],rfl,it.same s1,l40,AD,by decide,λst H2 s2 hst hst2=>?_⟩
 rw[Nw its z.cps.toList]at hst2
 have s12:=s1.trans s2
 obtain⟨vs,hl,lv,at_⟩:=id it
 have hl2:=s12 _ _ hl
 dsimp only[FC]
 refine mid (λσ' H'=>∃ln,σ'=[some (.ref l),some (.str z),some (.ref st),some (.ref ln),none,none]/\AJ H H'/\H' st=some (.lst (nV (SN its z.cps.toList 0)))/\H ln=none/\ln≠st/\H' ln=some (.lst (nV (C1 its z.cps.toList 1)))) ?_ λE2 nx=>?_
 rotate_left
 ·refine⟨_,rfl,l,_,rfl,.inl (An.of hl2),_,rfl,st,_,rfl,.inl (An.of hst2),rfl,Ib _,_,rfl,?_⟩
  show if(Mx (V.int ((vs.length:Nat):Int)) _)=true then _ else _
  rw[lv,Nx]
  by_cases h0:W63.D its z.cps.toList its.length 0=true
  ·refine Bl (decide_eq_true ((LV _ _ _).mpr h0)) ?_
   refine⟨AK (show 1<=1000 by omega),λln hln=>nx _ _ ⟨ln,rfl,s12.new hln,?_,s12.free hln,?_,?_⟩⟩
   ·rw[AX (AV hst2 hln)];exact hst2
   ·exact(AV hst2 hln).symm
   ·rw[AD,Du,if_pos h0];rfl
  ·refine L2.A2 (decide_eq_false λz=>h0 ((LV _ _ _).mp z)) ?_
   refine⟨AK (show 0<=1000 by omega),λln hln=>nx _ _ ⟨ln,rfl,s12.new hln,?_,s12.free hln,?_,?_⟩⟩
   ·rw[AX (AV hst2 hln)];exact hst2
   ·exact(AV hst2 hln).symm
   ·rw[AD,Du,if_neg h0];rfl
 rintro σ' H' ⟨ln,rfl,s3,hs3,Hln,nls,hln3⟩
 clear hst2 hl2 s2 s12
 refine⟨_,rfl,.str z,rfl,⟨_,rfl⟩,?_⟩
 have sl:(signs z).length=z.length:=by unfold signs;rw[List.length_map];exact Array.length_toList
 refine DU (xs:=signs z) (λi σ HX=>∃(st:Addr) (o4 o5:Option V),σ=[some (.ref l),some (.str z),some (.ref st),some (.ref ln),o4,o5]/\AJ H HX/\HX st=some (.lst (nV (SN its z.cps.toList i)))/\ln≠st/\HX ln=some (.lst (nV (C1 its z.cps.toList (i+1))))) ⟨st,none,none,rfl,s3,hs3,nls,hln3⟩ (λi σ HX _ _=>rfl) ?_ ?_
 ·rintro i x σ HX p hx ⟨st',o4,o5,rfl,sX,hsX,nls',hlX⟩ hp
  obtain⟨c,hc,rfl⟩:∃c,z.cps.toList[i]?=some c/\x=.str ⟨#[c]⟩:=by
   simp only[signs,List.getElem?_map]at hx
   cases e:z.cps.toList[i]? with
   |none=>rw[e]at hx;cases hx
   |some c=>rw[e]at hx;exact⟨c,rfl,(Option.some.inj hx).symm⟩
  have ec:z.cps.toList.getD i 0=c:=by rw[List.getD_eq_getElem?_getD,hc];rfl
  have hi:i < z.length:=by
   have:=(List.getElem?_eq_some_iff.mp hc).1
   have e2:z.cps.toList.length=z.length:=Array.length_toList
   omega
  have s4:AJ HX (upd HX p (.tup [.int (i:Int),.str ⟨#[c]⟩])):=(AJ.refl HX).new hp
  refine⟨p,_,rfl,Ca.of AD,rfl,_,_,rfl,_,_,rfl,rfl,?_⟩
  have hs4:=s4 _ _ hsX
  have hl4:=s4 _ _ hlX
  have s04:=sX.trans s4
  show(λHH=>_) (upd HX p (.tup [.int (i:Int),.str ⟨#[c]⟩]))
  generalize upd HX p (.tup [.int (i:Int),.str ⟨#[c]⟩])=H4 at s4 hs4 hl4 s04
  have hSl:=Qk its z.cps.toList i
  refine⟨_,rfl,_,rfl,_,rfl,_,rfl,l,st',its,_,c,rfl,it.same s04,l40,hs4,by omega,λr5 H5 s5 f5 h5=>?_⟩
  have bl:=LW its (SN its z.cps.toList i) c
  refine⟨l,r5,its,_,rfl,(it.same s04).same s5,l40,h5,by omega,λst6 H6 s6 f6 h6=>?_⟩
  rw[O8 its z.cps.toList i c ec]at h6
  have s06:=s04.trans (s5.trans s6)
  have hl6:=s6 _ _ (s5 _ _ hl4)
  have n6:ln≠st6:=λe=>by
   have:=s5 _ _ hl4
   rw[e,f6]at this;cases this
  refine⟨_,rfl,l,_,rfl,.inl (An.of (s06 _ _ hl)),_,rfl,st6,_,rfl,.inl (An.of h6),rfl,Ib _,_,rfl,?_⟩
  show if(Mx (V.int ((vs.length:Nat):Int)) _)=true then _ else _
  rw[lv,Nx]
  by_cases h0:W63.D its z.cps.toList its.length (i+1)=true
  ·refine Bl (decide_eq_true ((LV _ _ _).mpr h0)) ?_
   refine⟨_,rfl,.inl ⟨rfl,_,An.of hl6⟩,_,rfl,_,_,rfl,rfl,ln,_,_,rfl,rfl,hl6,?_,st6,_,_,rfl,s06.write Hln,?_,n6,?_⟩
   ·rw[Bu];have:=Ic its z.cps.toList (i+1);exact Nat.lt_of_lt_of_le (show _ < 1000 by omega) (AK (Nat.le_refl _))
   ·rw[AX (Ne.symm n6)];exact h6
   ·rw[AD,Du its z.cps.toList (i+1),if_pos h0,<-CZ];rfl
  ·refine L2.A2 (decide_eq_false λz=>h0 ((LV _ _ _).mp z)) ?_
   exact⟨st6,_,_,rfl,s06,h6,n6,by rw[hl6,Du its z.cps.toList (i+1),if_neg h0,List.append_nil]⟩
 ·rintro σ HX ⟨st',o4,o5,rfl,sX,hsX,nls',hlX⟩
  rw[sl]at hlX
  exact⟨_,rfl,q ln HX sX Hln hlX⟩
end
end S61
namespace S61
open PySem L2 W7
open W63 (Wr Wi enc dec star)
def Ql (its:List W63.It)(ws:List Nat):List Str:=((C1 its ws (ws.length+1)).filter λL=>decide (0 < L)).map λL=>mk (ws.take L)
def fwd (its:List W63.It)(ups:List Int)(lab:Str)(n:Nat):List Str:=((List.range n).map λp=>Ql its (W ups lab.cps.toList p)).flatten
theorem Jm (its:List W63.It)(ups:List Int)(lab:Str)(n:Nat):fwd its ups lab (n+1)=fwd its ups lab n++Ql its (W ups lab.cps.toList n):=by
 unfold fwd
 rw[List.range_succ,List.map_append,List.flatten_append]
 simp
theorem LX (its:List W63.It)(ws:List Nat):(Ql its ws).length<=ws.length+1:=by
 unfold Ql
 rw[List.length_map]
 exact Nat.le_trans (List.length_filter_le _ _) (Ic _ _ _)
theorem Ie {its:List W63.It}{ups:List Int}{lab:Str}:∀n,(∀p,p < n->(W ups lab.cps.toList p).length<=6)->(fwd its ups lab n).length<=7*n
 |0,_=>Nat.le_refl _
 |n+1,h=>by
  rw[Jm,List.length_append]
  have h1:=Ie (its:=its) n λp hp=>h p (by omega)
  have h2:=LX its (W ups lab.cps.toList n)
  have h3:=h n (by omega)
  omega
theorem Nz (ws:List Nat)(L:Nat):BY (mk ws) none (some (L:Int))=mk (ws.take L):=by
 apply BX
 have e:(BY (mk ws) none (some (L:Int))).cps.toList=((mk ws).cps.toList.drop 0).take (HT.CD (mk ws).length (mk ws).length (some (L:Int)) - 0):=rfl
 rw[e,HT.Dm,Bt,Ai,Bt,List.drop_zero,Nat.sub_zero]
 rcases Nat.le_total L ws.length with h|h
 ·rw[Nat.min_eq_left h]
 ·rw[Nat.min_eq_right h,List.take_length,List.take_of_length_le h]
theorem Ck.write {H:Hp}{l q:Addr}{its:List W63.It}{xs:List V}{o:HO}(h:Ck H l its)(n:l≠q)(e:H q=some (.lst xs)):Ck (upd H q o) l its:=by
 obtain⟨vs,a,b,c⟩:=h
 refine⟨vs,by rw[AX n];exact a,b,λi x e0=>?_⟩
 obtain⟨p,e1,e2⟩:=c i x e0
 exact⟨p,e1,by rw[AX (Q7 e2 e (by intro z;cases z))];exact e2⟩
section
variable {P:Program}{w:World}{K:PySem.W.Frag}{mg:Str->Option Value}{base:Heap}{k:Nat}
def LY (cP:Addr):Sp:=λvs H Q E=>∃(t:Addr) (ups:List Int) (lab:Str) (x:V),vs=[.ref t,x]/\Bf H t ups lab/\ups.length<=6/\((∃z,x=.str z/\z.length<=100)\/BZ H x)/\(BG x->∀(q:Addr) (us:List Str) (H':Hp),AJ H H'->H q=none->(∀z∈us,z≠mk [])->us.length<=420->H' q=some (.lst (us.map V.str))->Q (.ref q) H')/\(¬BG x->∀(a:Addr) (H':Hp),AJ H H'->H' a=none->E (.ref a) (some cP) H')
theorem Qm {its:List W63.It}{ups:List Int}{lab:Str}{n:Nat}{z:Str}(h:z∈fwd its ups lab n):z≠mk []:=by
 unfold fwd at h
 obtain⟨l,hl,hz⟩:=List.mem_flatten.mp h
 obtain⟨p,_,rfl⟩:=List.mem_map.mp hl
 unfold Ql at hz
 obtain⟨L,hL,rfl⟩:=List.mem_map.mp hz
 obtain⟨hL,c⟩:=List.mem_filter.mp hL
 have c:=of_decide_eq_true c
 unfold C1 at hL
 have l2:=List.mem_range.mp (List.mem_filter.mp hL).1
 intro e
 have:=congrArg List.length (mk_inj e)
 rw[List.length_take,List.length_nil]at this
 omega
theorem Qn (EX:Ex1 K mg)(D:Df K mg "words_fitting" s_words_fitting)(B:Bz mg)(G_items_of:Bk P w K mg base "items_of" k ["pattern"] (CM EX.c_NoPattern))(G_words_of:Bi P w K mg base "words_of" k ["tree"] C0)(G_lengths_fitting:Bi P w K mg base "lengths_fitting" k ["items","word"] FW):Bk P w K mg base "words_fitting" (k+1) ["tree","pattern"] (LY EX.c_NoPattern):=by
 refine D.F2 Bv (λ_ _ _ _ _ _ us hl=>match us,hl with|[_,_],_=>rfl) (λvs H Q E h=>by obtain⟨t,ups,lab,xs,rfl,_⟩:=h;rfl) (λf cdv A outer s H vs Q E hr h=>?_)
 obtain⟨t,ups,lab,x,rfl,tr,u20,xx,q,q2⟩:=h
 refine⟨_,(AG (AI (i:=2) Bv.nd rfl (by first|exact Or.inl rfl|exact Or.inr rfl) (B1 G_items_of Ba hr rfl (AA (pv 1) AB)))
 (AG (AI (i:=3) Bv.nd rfl (by first|exact Or.inl rfl|exact Or.inr rfl) (AU AB))
 (AG (Bm PassesOwn.leaving rfl (CH (AR G_words_of hr rfl (AA (pv 0) AB))) (Ae (i:=4) Bv.nd rfl (by first|exact Or.inl rfl|exact Or.inr rfl))
 (AE (BW (BR PySem.F.plainAttrs_list PySem.F.slot_list_extend PySem.F.type_list_extend Gv (pv 3) (AA (CJ rfl (CH (AR G_lengths_fitting hr rfl (AA (pv 2) (AA (pv 4) AB)))) (NL:=["length"]) (ix:=[4]) (Mj (AM s_words_fitting) DG) (λcl C s₃ H₃ fp pins=>⟨(Ae (i:=0) (show List.Nodup (["length","word"]:List Str)from by decide+kernel) rfl (by first|exact Or.inl rfl|exact Or.inr rfl)),(Fm (AL Ip (pv 0) AF (AQ _))),(BK CF (pv 1) B2 (BE (pv 0)))⟩)) AB)))))
 (AE (AY (AN (CG w rfl) rfl B.sorted EC (AA (BI (DF w rfl) rfl B.set_ KN (AA (pv 3) AB)) AB))))))),?_⟩
 refine⟨_,rfl,x,rfl,xx,λxs ex0 l40 ok li H1 s1 f1 it=>?_,λnb a H1 s1 ha=>q2 nb a H1 s1 ha⟩
 subst ex0
 have gp:=DB l40 ok
 have x40:xs.length<=40:=Nat.le_trans (Dt xs) l40
 refine⟨AK (show 0<=1000 by omega),λfo hfo=>?_⟩
 have s2:AJ H1 (upd H1 fo (.lst [])):=(AJ.refl H1).new hfo
 have v2:upd H1 fo (.lst []) fo=some (.lst []):=AD
 show(λHH=>_) (upd H1 fo (.lst []))
 generalize upd H1 fo (.lst [])=H2 at s2 v2
 refine⟨_,rfl,t,ups,lab,rfl,(tr.same s1).same s2,λwl H3 s3 hw=>?_⟩
 have Hfo:H fo=none:=s1.free hfo
 have s13:=s1.trans (s2.trans s3)
 obtain⟨_,_,_,tok⟩:=id tr
 have lpos:=tok.pos
 have dl:=W63.Cj xs
 have wll:(Al ups lab ups.length).length=ups.length:=by simp[Al]
 have wle:∀p,p < ups.length->(W ups lab.cps.toList p).length<=6:=λp hp=>by
  have:=F5 tok (p+1) p (Nat.lt_succ_self _) hp
  omega
 have it1:∃ivs:List V,H1 li=some (.lst ivs):=let⟨vs,e,_⟩:=it;⟨vs,e⟩
 have wfo:wl≠fo:=λz=>by
  have:=s3 _ _ v2
  rw[<-z,hw]at this
  have e2:Al ups lab ups.length=[]:=by injection (Option.some.inj this)
  rw[e2]at wll
  simp at wll
  omega
 refine⟨wl,rfl,⟨_,An.of hw⟩,?_⟩
 have it3:=(it.same s2).same s3
 have nlf:li≠fo:=by obtain⟨vs,e⟩:=it1;exact AV e hfo
 refine Fd (K:=K) (xs:=Al ups lab ups.length) (λj σ HX=>∃o4:Option V,σ=[some (.ref t),some (.str (mk (enc xs))),some (.ref li),some (.ref fo),o4]/\AJ H HX/\HX wl=some (.lst (Al ups lab ups.length))/\Ck HX li (dec xs)/\HX fo=some (.lst ((fwd (dec xs) ups lab j).map V.str)))
  ⟨none,rfl,s13,hw,it3,s3 _ _ v2⟩ (λj σ HX _ h=>by obtain⟨_,_,_,h,_⟩:=h;exact An.of h) ?_ ?_
 rotate_left
 ·rintro σ HX ⟨o4,rfl,sX,_,_,fX⟩
  rw[wll]at fX
  have fl:=Ie (its:=dec xs) (ups:=ups) (lab:=lab) ups.length wle
  refine⟨_,rfl,fo,_,rfl,An.of fX,by omega,λr1 hr1=>?_⟩
  have s4:AJ HX (upd HX r1 (Cy w r1 (fwd (dec xs) ups lab ups.length) (fwd (dec xs) ups lab ups.length).length)):=(AJ.refl HX).new hr1
  have v4:upd HX r1 (Cy w r1 (fwd (dec xs) ups lab ups.length) (fwd (dec xs) ups lab ups.length).length) r1=some (Cy w r1 (fwd (dec xs) ups lab ups.length) (fwd (dec xs) ups lab ups.length).length):=AD
  show(λHH=>_) (upd HX r1 (Cy w r1 (fwd (dec xs) ups lab ups.length) (fwd (dec xs) ups lab ups.length).length))
  generalize upd HX r1 (Cy w r1 (fwd (dec xs) ups lab ups.length) (fwd (dec xs) ups lab ups.length).length)=H4 at s4 v4
  refine⟨r1,_,_,fwd (dec xs) ups lab ups.length,rfl,v4,λz hz=>hz,by omega,λus r2 nd mem srt hr2=>?_⟩
  have ul:us.length<=(fwd (dec xs) ups lab ups.length).length:=nd.length_le_of_subset λz hz=>(mem z).mp hz
  exact q gp r2 us _ ((sX.trans s4).new hr2) (sX.free (s4.free hr2)) (λz hz=>Qm ((mem z).mp hz)) (by omega) AD
 rintro j x σ HX hx ⟨o4,rfl,sX,hwX,itX,fX⟩
 have jl:j < ups.length:=by
  have:=(List.getElem?_eq_some_iff.mp hx).1
  omega
 have ex:x=.str (mk (W ups lab.cps.toList j)):=by
  unfold Al at hx
  rw[List.getElem?_map,List.getElem?_range jl]at hx
  exact(Option.some.inj hx).symm
 subst ex
 have wj:=wle j jl
 generalize hws:W ups lab.cps.toList j=ws at wj
 have zl:(mk ws).length<=60:=by rw[Ai];omega
 refine⟨_,rfl,.inl ⟨rfl,_,An.of fX⟩,_,rfl,_,rfl,li,dec xs,_,rfl,itX,by omega,zl,λln H5 s5 f5 h5=>?_⟩
 rw[Bt,Ai]at h5
 have ll:=Ic (dec xs) ws (ws.length+1)
 refine⟨ln,rfl,⟨_,An.of h5⟩,λacc hacc=>?_⟩
 refine DW (xs:=nV (C1 (dec xs) ws (ws.length+1))) (by rw[Bu];omega) (λi ys HY=>HY acc=some (.lst ys)/\ys=((((C1 (dec xs) ws (ws.length+1)).take i).filter λL=>decide (0 < L)).map λL=>V.str (mk (ws.take L)))/\AJ H5 HY)
  (λi ys HY h=>An.of (h.2.2 _ _ h5)) (λi ys HY h=>⟨h.1,by rw[h.2.1,List.length_map];exact Nat.le_trans (List.length_filter_le _ _) (by rw[List.length_take];omega)⟩) ⟨AD,by simp,(AJ.refl H5).new hacc⟩ ?_ ?_
 ·rintro ys H6 ⟨g1,rfl,g3⟩
  rw[Bu,List.take_length]at g1
  have fX6:=g3 _ _ (s5 _ _ fX)
  have al:acc≠fo:=λz=>by
   have:=s5 _ _ fX
   rw[<-z,hacc]at this;cases this
  have fl:=Ie (its:=dec xs) (ups:=ups) (lab:=lab) j λp hp=>wle p (by omega)
  have ll2:=LX (dec xs) ws
  have eq1:(((C1 (dec xs) ws (ws.length+1)).filter λL=>decide (0 < L)).map λL=>V.str (mk (ws.take L)))=(Ql (dec xs) ws).map V.str:=by unfold Ql;rw[List.map_map];rfl
  rw[eq1]at g1
  refine⟨fo,acc,_,_,rfl,rfl,fX6,g1,?_,?_⟩
  ·rw[List.length_map,List.length_map]
   exact AK (by omega)
  have sXF:=sX.trans (s5.trans g3)
  refine⟨_,rfl,sXF.write Hfo,?_,?_,?_⟩
  ·rw[AX wfo];exact g3 _ _ (s5 _ _ hwX)
  ·have i6:=(itX.same s5).same g3
   exact i6.write nlf fX6
  ·rw[AD,Jm,List.map_append,hws]
 ·rintro i x ys H6 hx6 ⟨g1,rfl,g3⟩
  have il:i < (C1 (dec xs) ws (ws.length+1)).length:=by have:=(List.getElem?_eq_some_iff.mp hx6).1;rwa[Bu]at this
  have hL:(C1 (dec xs) ws (ws.length+1))[i]?=some ((C1 (dec xs) ws (ws.length+1))[i]):=List.getElem?_eq_getElem il
  generalize(C1 (dec xs) ws (ws.length+1))[i]=L at hL
  have ex:x=.int (L:Int):=by
   unfold nV at hx6
   rw[List.getElem?_map,hL]at hx6
   exact(Option.some.inj hx6).symm
  subst ex
  have tk:=PySem.take_succ_filter (λL=>decide (0 < L)) (C1 (dec xs) ws (ws.length+1)) i L hL
  refine⟨rfl,_,rfl,_,_,rfl,rfl,_,rfl,Ht (λcnd=>?_) (λcnd=>?_)⟩
  ·refine⟨_,rfl,_,rfl,_,rfl,mk ws,rfl,AK (by rw[Ai];omega),g1,AD,?_,g3.write hacc⟩
   have c2:decide (0 < L)=true:=by
    have:(0:Int) < (L:Int):=by simpa using cnd
    exact decide_eq_true (by omega)
   rw[tk,c2,List.map_append,Nz];rfl
  ·refine⟨g1,?_,g3⟩
   have c2:decide (0 < L)=false:=by
    have:¬(0:Int) < (L:Int):=by simpa using cnd
    exact decide_eq_false (by omega)
   rw[tk,c2];simp
def LZ (cP:Addr):Sp:=λvs H Q E=>∃(t:Addr) (ups:List Int) (lab:Str) (x:V),vs=[.ref t,x]/\Bf H t ups lab/\ups.length<=6/\((∃z,x=.str z/\z.length<=100)\/BZ H x)/\(BG x->∀(v:V) (H':Hp),AJ H H'->Q v H')/\(¬BG x->∀(a:Addr) (H':Hp),AJ H H'->H' a=none->E (.ref a) (some cP) H')
theorem N0 (EX:Ex1 K mg)(D:Df K mg "many_by" s_many_by)(B:Bz mg)(G_words_fitting:Bk P w K mg base "words_fitting" k ["tree","pattern"] (LY EX.c_NoPattern)):Bk P w K mg base "many_by" (k+1) ["tree","pattern"] (LZ EX.c_NoPattern):=by
 refine D.F2 Ka (λ_ _ _ _ _ _ us hl=>match us,hl with|[_,_],_=>rfl) (λvs H Q E h=>by obtain⟨t,ups,lab,xs,rfl,_⟩:=h;rfl) (λf cdv A outer s H vs Q E hr h=>?_)
 obtain⟨t,ups,lab,x,rfl,tr,u20,xx,q,q2⟩:=h
 refine⟨_,(AE (AY (AN Aj rfl B.len Ar (AA (B1 G_words_fitting Ba hr rfl (AA (pv 0) (AA (pv 1) AB))) AB)))),?_⟩
 refine⟨_,rfl,_,rfl,t,ups,lab,x,rfl,tr,u20,xx,λg r us H1 s1 f1 uq ul h1=>?_,q2⟩
 refine⟨r,_,rfl,.inl (An.of h1),?_⟩
 rw[List.length_map]
 exact q g _ H1 s1
end
end S61
namespace S61
open PySem L2 W7
open W63 (Wr Wi enc dec star)
structure Ex3 (K:PySem.W.Frag)(mg:Str->Option Value) extends Ex2 K mg where
 c_NoNumber:Addr
 m_NoNumber:mg "NoNumber"=some (.ref c_NoNumber)
 q_NoNumber:PySem.W.excIn K c_NoNumber QU "ValueError.__new__"=true
 c_NoWord:Addr
 m_NoWord:mg "NoWord"=some (.ref c_NoWord)
 q_NoWord:PySem.W.excIn K c_NoWord QU "ValueError.__new__"=true
theorem Jn {z:Str}:∀zs:List Str,Mx (.str z) (zs.map V.str)=decide (z∈zs)
 |[]=>rfl
 |y::zs=>by
  have ih:=Jn (z:=z) zs
  unfold Mx at ih ⊢
  rw[List.map_cons,List.any_cons,ih]
  by_cases e:y=z
  ·subst e;simp[Mv]
  ·have:Mv (.str y) (.str z)=false:=by simp[Mv,e]
   rw[this,Bool.false_or]
   simp[Ne.symm e]
section
variable {P:Program}{w:World}{K:PySem.W.Frag}{mg:Str->Option Value}{base:Heap}{k:Nat}
def Po:Sp:=λvs H Q _=>∃i:Int,vs=[.int i]/\Q (.bl true) H
theorem Qo (D:Df K mg "is_whole" s_is_whole)(B:Bz mg):Bi P w K mg base "is_whole" (k+1) ["thing"] Po:=by
 refine D.has JW (λ_ _ _ _ _ _ us hl=>match us,hl with|[_],_=>rfl) (λvs H Q E h=>by obtain⟨x,rfl,_⟩:=h;rfl) (λf cdv A outer s H vs Q E hr h=>?_)
 obtain⟨i,rfl,q⟩:=h
 refine⟨_,(AE (AY (C5 (AN BU rfl B.isinstance AW (AA (pv 0) (AA (B7 (v:=.ty "int") rfl B.int_ Fp rfl) AB))) (Cd (P4 (AN BU rfl B.isinstance AW (AA (pv 0) (AA (B7 (v:=.ty "bool") rfl B.bool_ K3 rfl) AB)))))))),?_⟩
 refine⟨_,rfl,_,.type "int","int",true,rfl,.int _,Cf _ _,_,rfl,A1 ?_⟩
 exact⟨_,rfl,_,.type "int","bool",false,rfl,.int _,IB _,_,rfl,q⟩
def Pq:Sp:=λvs H Q _=>∃n:Int,vs=[.int (-1),.int n]/\Q (.bl false) H
theorem Qp (D:Df K mg "is_number_below" s_is_number_below)(B:Bz mg)(G_is_whole:Bi P w K mg base "is_whole" k ["thing"] Po):Bi P w K mg base "is_number_below" (k+1) ["thing","behind"] Pq:=by
 refine D.has ED (λ_ _ _ _ _ _ us hl=>match us,hl with|[_,_],_=>rfl) (λvs H Q E h=>by obtain⟨x,rfl,_⟩:=h;rfl) (λf cdv A outer s H vs Q E hr h=>?_)
 obtain⟨n,rfl,q⟩:=h
 refine⟨_,(AE (AY (C5 (AR G_is_whole hr rfl (AA (pv 0) AB)) (Cd (Ms Pe BF AF (pv 0) (pv 1)))))),?_⟩
 refine⟨_,rfl,-1,rfl,_,rfl,A1 ?_⟩
 refine⟨_,rfl,_,_,rfl,rfl,_,rfl,?_⟩
 exact L2.A2 (decide_eq_false (by decide)) q
def N1 (cP cN:Addr):Sp:=λvs H Q E=>∃(t:Addr) (ups:List Int) (lab:Str) (x:V),vs=[.ref t,x,.int (-1)]/\Bf H t ups lab/\ups.length<=6/\((∃z,x=.str z/\z.length<=100)\/BZ H x)/\(BG x->∀(a:Addr) (H':Hp),AJ H H'->H' a=none->E (.ref a) (some cN) H')/\(¬BG x->∀(a:Addr) (H':Hp),AJ H H'->H' a=none->E (.ref a) (some cP) H')
theorem O9 (EX:Ex3 K mg)(D:Df K mg "word_by" s_word_by)(B:Bz mg)(G_words_fitting:Bk P w K mg base "words_fitting" k ["tree","pattern"] (LY EX.c_NoPattern))(G_is_number_below:Bi P w K mg base "is_number_below" k ["thing","behind"] Pq):Bk P w K mg base "word_by" (k+1) ["tree","pattern","number"] (N1 EX.c_NoPattern EX.c_NoNumber):=by
 refine D.F2 F7 (λ_ _ _ _ _ _ us hl=>match us,hl with|[_,_,_],_=>rfl) (λvs H Q E h=>by obtain⟨t,ups,lab,x,rfl,_⟩:=h;rfl) (λf cdv A outer s H vs Q E hr h=>?_)
 obtain⟨t,ups,lab,x,rfl,tr,u20,xx,q1,q2⟩:=h
 refine⟨_,(AG (AI (i:=3) F7.nd rfl (by first|exact Or.inl rfl|exact Or.inr rfl) (B1 G_words_fitting Ba hr rfl (AA (pv 0) (AA (pv 1) AB))))
 (AG (Ag (B4 (Az (AR G_is_number_below hr rfl (AA (pv 2) (AA (AN Aj rfl B.len Ar (AA (pv 3) AB)) AB)))))
 (AE (EU Dr EX.m_NoNumber EX.q_NoNumber rfl (AA AS AB)))
 Aq)
 (AE (AY (Ad Af (pv 3) (pv 2) (λ_ _=>rfl)))))),?_⟩
 refine⟨_,rfl,_,rfl,t,ups,lab,x,rfl,tr,u20,xx,λg r us H1 s1 f1 nz ul h1=>?_,q2⟩
 refine⟨_,rfl,_,rfl,r,_,rfl,.inl (An.of h1),_,rfl,_,rfl,?_⟩
 exact A1 ⟨DH,λa ha=>q1 g a H1 s1 ha⟩
def N2 (cP cW:Addr):Sp:=λvs H Q E=>∃(t:Addr) (ups:List Int) (lab:Str) (x:V),vs=[.ref t,x,.str (Str.ofString "")]/\Bf H t ups lab/\ups.length<=6/\((∃z,x=.str z/\z.length<=100)\/BZ H x)/\(BG x->∀(a:Addr) (H':Hp),AJ H H'->H' a=none->E (.ref a) (some cW) H')/\(¬BG x->∀(a:Addr) (H':Hp),AJ H H'->H' a=none->E (.ref a) (some cP) H')
theorem PB (EX:Ex3 K mg)(D:Df K mg "number_by" s_number_by)(B:Bz mg)(G_words_fitting:Bk P w K mg base "words_fitting" k ["tree","pattern"] (LY EX.c_NoPattern)):Bk P w K mg base "number_by" (k+1) ["tree","pattern","word"] (N2 EX.c_NoPattern EX.c_NoWord):=by
 refine D.F2 Ea (λ_ _ _ _ _ _ us hl=>match us,hl with|[_,_,_],_=>rfl) (λvs H Q E h=>by obtain⟨t,ups,lab,x,rfl,_⟩:=h;rfl) (λf cdv A outer s H vs Q E hr h=>?_)
 obtain⟨t,ups,lab,x,rfl,tr,u20,xx,q1,q2⟩:=h
 refine⟨_,(AG (AI (i:=3) Ea.nd rfl (by first|exact Or.inl rfl|exact Or.inr rfl) (B1 G_words_fitting Ba hr rfl (AA (pv 0) (AA (pv 1) AB))))
 (AG (Ag (PW.pt (CS (B4 (Az (AN BU rfl B.isinstance AW (AA (pv 2) (AA (B7 (v:=.ty "str") rfl B.str_ IA rfl) AB))))) (CN (AL Hq (pv 2) (pv 3) (by with_unfolding_all rfl)))))
 (AE (EU Dr EX.m_NoWord EX.q_NoWord rfl (AA AS AB)))
 Aq)
 (AE (AY (MC K (pv 3) (pv 2)))))),?_⟩
 refine⟨_,rfl,_,rfl,t,ups,lab,x,rfl,tr,u20,xx,λg r us H1 s1 f1 nz ul h1=>?_,q2⟩
 refine⟨_,rfl,_,_,"str",true,rfl,.str _,Cf _ _,_,rfl,Ay ?_⟩
 refine⟨_,rfl,_,rfl,r,_,rfl,.inl (An.of h1),rfl,?_,?_⟩
 ·rw[List.all_eq_true];intro v hv
  obtain⟨z,_,rfl⟩:=List.mem_map.mp hv;rfl
 have ei:(if true=true then !Mx (V.str (Str.ofString "")) (us.map V.str)else Mx (V.str (Str.ofString "")) (us.map V.str))=true:=by
  rw[if_pos rfl,Jn,s0,decide_eq_false (λh=>nz _ h rfl)];rfl
 rw[ei]
 exact⟨_,rfl,A1 ⟨DH,λa ha=>q1 g a H1 s1 ha⟩⟩
end
end S61
namespace S61
open PySem L2 W7
open W63 (Wr Wi enc dec star)
open W66 (Mk By J0 IY LU)
theorem PD {its:List W63.It}{S:List Nat}{c s:Nat}:s∈Mm its S c↔∃r,r∈S/\By its c r s:=by
 unfold Mm By
 rw[List.mem_map]
 constructor
 ·rintro⟨t,ht,e⟩
  obtain⟨h1,h2⟩:=List.mem_filter.mp ht
  rw[Bool.and_eq_true]at h2
  exact⟨t,h1,of_decide_eq_true h2.1,of_decide_eq_true h2.2,e⟩
 ·rintro⟨t,h1,h2,h3,e⟩
  exact⟨t,List.mem_filter.mpr ⟨h1,by rw[decide_eq_true h2,decide_eq_true h3];rfl⟩,e⟩
def N3 (its:List W63.It)(ups:List Int)(lab:List Nat)(m p:Nat)(C:List Nat):Prop:=∀s,s∈C↔s=0\/∃c r,0 < c/\m<=c/\c < ups.length/\(ups.getD c 0).toNat=p/\Mk its ups lab c r/\By its (lab.getD c 0) r s
theorem N4 {its:List W63.It}{ups:List Int}{lab:List Nat}(tok:Br ups lab){p:Nat}(hp:p < ups.length){C:List Nat}(h:N3 its ups lab (p+1) p C):Ei its (λs=>decide (s∈C)) (its.length+1)=J0 its ups lab p:=by
 unfold Ei J0
 refine List.filter_congr λs _=>?_
 rw[Bool.eq_iff_iff,W66.LS tok]
 refine W66.R1 tok hp (λs=>?_) s
 rw[decide_eq_true_eq,h s]
 constructor
 ·rintro(e|⟨c,r,a1,a2,a3,a4,a5,a6⟩)
  ·exact .inl e
  ·exact .inr ⟨c,r,a1,a3,a4,a5,a6⟩
 ·rintro(e|⟨c,r,a1,a3,a4,a5,a6⟩)
  ·exact .inl e
  ·have:=tok.up c a1 a3
   exact .inr ⟨c,r,a1,by omega,a3,a4,a5,a6⟩
section
variable {P:Program}{w:World}{K:PySem.W.Frag}{mg:Str->Option Value}{base:Heap}{k:Nat}
def Jo (cP:Addr):Sp:=λvs H Q E=>∃(t:Addr) (ups:List Int) (lab:Str) (x:V),vs=[.ref t,x]/\Bf H t ups lab/\((∃z,x=.str z/\z.length<=100)\/BZ H x)/\(BG x->∀(v:V) (H':Hp),AJ H H'->Q v H')/\(¬BG x->∀(a:Addr) (H':Hp),AJ H H'->H' a=none->E (.ref a) (some cP) H')
theorem Mc (EX:Ex1 K mg)(D:Df K mg "marks_of" s_marks_of)(B:Bz mg)(G_items_of:Bk P w K mg base "items_of" k ["pattern"] (CM EX.c_NoPattern))(G_states_with:Bi P w K mg base "states_with" k ["items","states"] GO)(G_states_by:Bi P w K mg base "states_by" k ["items","states","letter"] Ia):Bk P w K mg base "marks_of" (k+1) ["tree","pattern"] (Jo EX.c_NoPattern):=by
 refine D.F2 B6 (λ_ _ _ _ _ _ us hl=>match us,hl with|[_,_],_=>rfl) (λvs H Q E h=>by obtain⟨t,ups,lab,xs,rfl,_⟩:=h;rfl) (λf cdv A outer s H vs Q E hr h=>?_)
 obtain⟨t,ups,lab,x,rfl,tr,xx,q,q2⟩:=h
 refine⟨_,(AG (AI (i:=2) B6.nd rfl (by first|exact Or.inl rfl|exact Or.inr rfl) (B1 G_items_of Ba hr rfl (AA (pv 1) AB)))
 (AG (K1 (i:=3) B6.nd rfl (by first|exact Or.inl rfl|exact Or.inr rfl) rfl (KP (Ad A9 (pv 0) AF (λ_ _=>rfl))) (NL:=["label"]) (ix:=[]) (Mj (AM s_marks_of) F8) (λcl C s₃ H₃ fp pins=>⟨(Ae (i:=0) (show List.Nodup (["label"]:List Str)from by decide+kernel) rfl (by first|exact Or.inl rfl|exact Or.inr rfl)),CA,(AU (AA AF AB))⟩))
 (AG (AI (i:=4) B6.nd rfl (by first|exact Or.inl rfl|exact Or.inr rfl) (AZ KD (AU (AA (Bc AB) AB)) (AN Ak rfl B.len Ar (AA (Ad A9 (pv 0) AF (λ_ _=>rfl)) AB))))
 (AG (Bm PassesOwn.leaving rfl (LA rfl B.range (AA (AZ Bx (AN Ak rfl B.len Ar (AA (Ad A9 (pv 0) AF (λ_ _=>rfl)) AB)) AF) (AA (Bn BD AF) (AA (Bn BD AF) AB)))) (Ae (i:=5) B6.nd rfl (by first|exact Or.inl rfl|exact Or.inr rfl))
 (AG (AI (i:=6) B6.nd rfl (by first|exact Or.inl rfl|exact Or.inr rfl) (AR G_states_with hr rfl (AA (pv 2) (AA (Ad Af (pv 3) (pv 5) (λ_ _=>rfl)) AB))))
 (AG (Ek (BI CI rfl B.tuple_ DV (AA (pv 6) AB)) (Fc (pv 4) (pv 5) set_list))
 (AE (Ag (AL Ip (pv 5) AF (AQ _))
 (AE (BW (BR PySem.F.plainAttrs_list PySem.F.slot_list_extend PySem.F.type_list_extend Gv (Ad Af (pv 3) (Ad A9 (Ad A9 (pv 0) AF (λ_ _=>rfl)) (pv 5) (λ_ _=>rfl)) (λ_ _=>rfl)) (AA (AR G_states_by hr rfl (AA (pv 2) (AA (pv 6) (AA (Ad C7 (Ad A9 (pv 0) AF (λ_ _=>rfl)) (pv 5) (λ_ _=>rfl)) AB)))) AB))))
 Aq)))))
 (AE (AY (BI CI rfl B.tuple_ DV (AA (pv 4) AB)))))))),?_⟩
 refine⟨_,rfl,x,rfl,xx,λxs ex0 l40 ok li H1 s1 f1 it=>?_,λnb a H1 s1 ha=>q2 nb a H1 s1 ha⟩
 subst ex0
 have gp:=DB l40 ok
 have x40:xs.length<=40:=Nat.le_trans (Dt xs) l40
 have dl:=W63.Cj xs
 obtain⟨u,ht,hu,tok⟩:=tr.same s1
 have m60:=tok.most
 have ll:=tok.len
 have lz:lab.cps.toList.length=lab.length:=Array.length_toList
 have lz2:lab.cps.size=lab.length:=rfl
 have npos:=tok.pos
 generalize hits:dec xs=its at it dl q
 refine⟨_,rfl,t,_,_,_,rfl,rfl,Ca.of ht,rfl,lab,rfl,λcm hcm=>?_⟩
 refine JP (by omega) (λi ys HX=>HX cm=some (.lst ys)/\AJ H1 HX/\∃cs:List Addr,ys=cs.map V.ref/\cs.length=i/\cs.Nodup/\∀a∈cs,HX a=some (.lst (nV [0]))/\H1 a=none/\a≠cm)
  (λi ys HX h=>⟨h.1,by obtain⟨cs,e,e2,_⟩:=h.2.2;rw[e,List.length_map];omega⟩) ⟨AD,(AJ.refl H1).new hcm,[],rfl,rfl,List.nodup_nil,λa h=>nomatch h⟩ ?_ ?_
 rotate_left
 ·rintro i c ys HX hc ⟨g1,g2,cs,rfl,lc,nd,hcs⟩
  refine⟨rfl,AK (show 1<=1000 by omega),λr hr0=>?_⟩
  have ne:cm≠r:=AV g1 hr0
  have sr:AJ HX (upd HX r (.lst [.int 0])):=(AJ.refl HX).new hr0
  have nin:r∉cs:=λh=>by have:=(hcs r h).1;rw[hr0]at this;cases this
  refine⟨sr _ _ g1,AD,(g2.trans sr).write hcm,cs++[r],by rw[List.map_append];rfl,by rw[List.length_append,lc];rfl,?_,λa ha=>?_⟩
  ·rw[List.nodup_append]
   exact⟨nd,by simp,λa ha b hb e=>nin (by rw[<-List.mem_singleton.mp hb,<-e];exact ha)⟩
  ·rcases List.mem_append.mp ha with h|h
   ·obtain⟨a1,a2,a3⟩:=hcs a h
    exact⟨by rw[AX a3];exact sr _ _ a1,a2,a3⟩
   ·rw[List.mem_singleton.mp h]
    exact⟨by rw[AX (Ne.symm ne)];exact AD,g2.free hr0,Ne.symm ne⟩
 rintro ys H2 ⟨g1,s2,cs,rfl,lc,nd,hcs⟩
 refine⟨AK (show 0<=1000 by omega),λe0 he0=>⟨AK (show 1<=1000 by omega),λr2 hr2=>?_⟩⟩
 have s3:AJ H2 (upd (upd H2 e0 (.tup [])) r2 (.lst [.ref e0])):=((AJ.refl H2).new he0).new hr2
 have hr3:upd (upd H2 e0 (.tup [])) r2 (.lst [.ref e0]) r2=some (.lst [.ref e0]):=AD
 show(λHH=>_) (upd (upd H2 e0 (.tup [])) r2 (.lst [.ref e0]))
 generalize upd (upd H2 e0 (.tup [])) r2 (.lst [.ref e0])=H3 at s3 hr3
 have s13:=s2.trans s3
 refine⟨_,rfl,t,_,_,_,rfl,rfl,Ca.of (s13 _ _ ht),rfl,lab,rfl,AK (by omega),r2,_,_,rfl,rfl,hr3,by omega,by omega,AK (by show 1*_<=1000;omega),λms hms=>?_⟩
 have er:∀n:Nat,(List.replicate n [V.ref e0]).flatten=List.replicate n (V.ref e0):=λn=>by
  induction n with
  |zero=>rfl
  |succ n ih=>rw[List.replicate_succ,List.flatten_cons,ih];rfl
 rw[Int.toNat_natCast,er]
 have s4:AJ H3 (upd H3 ms (.lst (List.replicate lab.length (.ref e0)))):=(AJ.refl H3).new hms
 have hm4:upd H3 ms (.lst (List.replicate lab.length (.ref e0))) ms=some (.lst (List.replicate lab.length (.ref e0))):=AD
 have Hms:H1 ms=none:=s13.free hms
 have msn:∀a∈cs,a≠ms:=λa ha e=>by have:=s3 _ _ (hcs a ha).1;rw[e,hms]at this;cases this
 have cmn:cm≠ms:=λe=>by have:=s3 _ _ g1;rw[e,hms]at this;cases this
 show(λHH=>_) (upd H3 ms (.lst (List.replicate lab.length (.ref e0))))
 generalize upd H3 ms (.lst (List.replicate lab.length (.ref e0)))=H4 at s4 hm4
 have s14:=s13.trans s4
 refine⟨_,rfl,t,_,_,_,rfl,rfl,Ca.of (s14 _ _ ht),rfl,lab,rfl,AK (by omega),_,_,rfl,rfl,_,rfl,_,rfl,ups.length,?_,by omega,?_⟩
 ·show[V.int (((lab.length:Nat):Int) - 1),V.int (-1),V.int (-1)]=_
  rw[show((lab.length:Nat):Int)=((ups.length:Nat):Int) by omega]
 refine JQ (lo:=(ups.length:Int) - 1) (n:=ups.length) (λi σ HX=>∃(o5 o6:Option V) (vs:List V),σ=[some (.ref t),some (.str (mk (enc xs))),some (.ref li),some (.ref cm),some (.ref ms),o5,o6]/\AJ H1 HX/\HX cm=some (.lst (cs.map V.ref))/\
  HX ms=some (.lst vs)/\vs.length=ups.length/\(∀p,ups.length - i<=p->p < ups.length->∃a,vs[p]?=some (V.ref a)/\HX a=some (.tup (nV (J0 its ups lab.cps.toList p))))/\
  ∀(p:Nat) (a:Addr),cs[p]?=some a->∃C:List Nat,HX a=some (.lst (nV C))/\N3 its ups lab.cps.toList (ups.length - i) p C/\C.length<=1+41*i)
  ⟨none,none,_,rfl,s14,s4 _ _ (s3 _ _ g1),hm4,by rw[List.length_replicate];omega,λp h1 h2=>absurd h2 (by omega),λp a e=>⟨[0],s4 _ _ (s3 _ _ (hcs a (List.mem_of_getElem? e)).1),λs=>?_,by simp⟩⟩ ?_ ?_
 ·constructor
  ·exact λh=>.inl (by simpa using h)
  ·rintro(h|⟨c,r,_,h1,h2,_⟩)
   ·rw[h];simp
   ·omega
 ·rintro i σ HX hi ⟨o5,o6,vs,rfl,sX,hcX,hmX,lv,done,com⟩
  obtain⟨p,ep⟩:∃p:Nat,p=ups.length - 1 - i:=⟨_,rfl⟩
  have epi:(ups.length:Int) - 1 - (i:Int)=(p:Int):=by omega
  have epm:ups.length - i=p+1:=by omega
  have pl:p < ups.length:=by omega
  rw[epi]
  obtain⟨cp,ecp⟩:∃a,cs[p]?=some a:=⟨_,List.getElem?_eq_getElem (by omega)⟩
  obtain⟨C,hC,cC,lC⟩:=com p cp ecp
  rw[epm]at cC
  refine⟨_,rfl,_,rfl,_,rfl,cm,_,_,_,rfl,rfl,An.of hcX,A4 (by rw[List.getElem?_map,ecp];rfl),li,cp,its,C,rfl,it.same sX,by omega,hC,by omega,λst H5 s5 f5 h5=>?_⟩
  rw[N4 tok pl cC]at h5
  have s15:=sX.trans s5
  refine⟨_,rfl,st,_,rfl,.inl ⟨An.of h5,λtp htp=>?_⟩⟩
  have s6:AJ H5 (upd H5 tp (.tup (nV (J0 its ups lab.cps.toList p)))):=(AJ.refl H5).new htp
  have h6:upd H5 tp (.tup (nV (J0 its ups lab.cps.toList p))) tp=some (.tup (nV (J0 its ups lab.cps.toList p))):=AD
  show(λHH=>_) (upd H5 tp (.tup (nV (J0 its ups lab.cps.toList p))))
  generalize upd H5 tp (.tup (nV (J0 its ups lab.cps.toList p)))=H6 at s6 h6
  have s16:=s15.trans s6
  have s56:=s5.trans s6
  have h6ms:=s56 _ _ hmX
  have ixp:Lr vs.length (p:Int)=some p:=by unfold Lr;rw[if_pos (by omega),lv,if_pos (by omega),Int.toNat_natCast]
  refine⟨_,rfl,_,rfl,ms,vs,_,p,rfl,rfl,h6ms,ixp,?_⟩
  have s17:AJ H1 (upd H6 ms (.lst (vs.set p (.ref tp)))):=s16.write Hms
  have h7ms:upd H6 ms (.lst (vs.set p (.ref tp))) ms=some (.lst (vs.set p (.ref tp))):=AD
  have k7:∀b o,b≠ms->H6 b=some o->upd H6 ms (.lst (vs.set p (.ref tp))) b=some o:=λb o ne e=>by rw[AX ne];exact e
  show(λHH=>_) (upd H6 ms (.lst (vs.set p (.ref tp))))
  generalize upd H6 ms (.lst (vs.set p (.ref tp)))=H7 at s17 h7ms k7
  have tpm:tp≠ms:=λe=>by rw[e,h6ms]at h6;cases h6
  have stm:st≠ms:=λe=>by have:=s5 _ _ hmX;rw[<-e]at this;have f:=sX;rw[e]at f5;rw[hmX]at f5;cases f5
  have h7tp:=k7 _ _ tpm h6
  have h7st:=k7 _ _ stm (s6 _ _ h5)
  have h7cm:=k7 _ _ cmn (s56 _ _ hcX)
  have done7:∀p',ups.length - (i+1)<=p'->p' < ups.length->∃a,(vs.set p (.ref tp))[p']?=some (V.ref a)/\H7 a=some (.tup (nV (J0 its ups lab.cps.toList p'))):=λp' h1 h2=>by
   by_cases e:p'=p
   ·subst e
    exact⟨tp,by rw[List.getElem?_set_self (by omega)],h7tp⟩
   ·obtain⟨a,e1,e2⟩:=done p' (by omega) h2
    have am:a≠ms:=λe=>by rw[e,hmX]at e2;cases e2
    exact⟨a,by rw[List.getElem?_set_ne (by omega)];exact e1,k7 _ _ am (s56 _ _ e2)⟩
  have com7:∀(p':Nat) (a:Addr),cs[p']?=some a->∃C:List Nat,H7 a=some (.lst (nV C))/\N3 its ups lab.cps.toList (p+1) p' C/\C.length<=1+41*i:=λp' a e=>by
   obtain⟨C,a1,a2,a3⟩:=com p' a e
   rw[epm]at a2
   exact⟨C,k7 _ _ (msn a (List.mem_of_getElem? e)) (s56 _ _ a1),a2,a3⟩
  have My:(vs.set p (V.ref tp)).length=ups.length:=by rw[List.length_set];exact lv
  have epm':ups.length - (i+1)=p:=by omega
  have same_of:∀{p':Nat} {C:List Nat},¬(0 < p/\(ups.getD p 0).toNat=p')->N3 its ups lab.cps.toList (p+1) p' C->N3 its ups lab.cps.toList p p' C:=λ{p' C} ne h s=>by
   rw[h s]
   constructor
   ·rintro(e|⟨c,r,a1,a2,a3⟩)
    ·exact .inl e
    ·exact .inr ⟨c,r,a1,by omega,a3⟩
   ·rintro(e|⟨c,r,a1,a2,a3⟩)
    ·exact .inl e
    ·refine .inr ⟨c,r,a1,?_,a3⟩
     rcases Nat.lt_or_ge p c with z|z
     ·exact z
     ·have:c=p:=by omega
      subst this
      exact absurd ⟨a1,a3.2.1⟩ ne
  rw[epm']at done7 ⊢
  refine⟨_,rfl,_,_,rfl,rfl,_,rfl,?_⟩
  by_cases p0:0 < p
  ·refine Bl (decide_eq_true (by omega)) ?_
   have upp:=tok.up p p0 pl
   obtain⟨v,hv⟩:∃v,ups[p]?=some v:=⟨_,List.getElem?_eq_getElem pl⟩
   have ev:ups.getD p 0=v:=by rw[List.getD_eq_getElem?_getD,hv];rfl
   rw[ev]at upp
   obtain⟨ca,eca⟩:∃a,cs[v.toNat]?=some a:=⟨_,List.getElem?_eq_getElem (by omega)⟩
   obtain⟨C',hC',cC',lC'⟩:=com7 _ _ eca
   have hp2:p < lab.cps.toList.length:=by omega
   have ec:lab.cps.toList.getD p 0=lab.cps.toList[p]:=by rw[List.getD_eq_getElem?_getD,List.getElem?_eq_getElem hp2];rfl
   have ml:=LU its ups lab.cps.toList p
   have av:DP (cs.map V.ref) v=some (V.ref ca):=by
    have e:DP (cs.map V.ref) ((v.toNat:Nat):Int)=some (V.ref ca):=A4 (by rw[List.getElem?_map,eca];rfl)
    rw[show((v.toNat:Nat):Int)=v by omega]at e
    exact e
   refine⟨_,rfl,_,rfl,t,_,_,_,rfl,rfl,Ca.of (s17 _ _ ht),rfl,_,rfl,u,_,_,_,rfl,rfl,Ca.of (s17 _ _ hu),A4 (by rw[List.getElem?_map,hv];rfl),cm,_,_,_,rfl,rfl,An.of h7cm,av,.inl ⟨rfl,_,An.of hC'⟩,
    _,rfl,_,rfl,_,rfl,t,_,_,_,rfl,rfl,Ca.of (s17 _ _ ht),rfl,_,rfl,_,_,_,rfl,rfl,AK (by omega),A4 (List.getElem?_eq_getElem hp2),li,st,its,_,_,rfl,it.same s17,by omega,h7st,by omega,λrb H8 s8 f8 h8=>?_⟩
   have bl:=LW its (J0 its ups lab.cps.toList p) lab.cps.toList[p]
   have H1ca:H1 ca=none:=(hcs ca (List.mem_of_getElem? eca)).2.1
   have can:∀b o,H7 b=some o->b≠ca->upd H8 ca (.lst (nV C'++nV (Mm its (J0 its ups lab.cps.toList p) lab.cps.toList[p]))) b=some o:=λb o e ne=>by rw[AX ne];exact s8 _ _ e
   refine⟨ca,rb,_,_,rfl,rfl,s8 _ _ hC',h8,Nat.le_of_lt (C9 (by rw[Bu,Bu];omega)),_,_,_,rfl,(s17.trans s8).write H1ca,can _ _ h7cm ((hcs ca (List.mem_of_getElem? eca)).2.2).symm,can _ _ h7ms (msn ca (List.mem_of_getElem? eca)).symm,My,λp' h1 h2=>?_,λp' a e=>?_⟩
   ·obtain⟨a,e1,e2⟩:=done7 p' h1 h2
    exact⟨a,e1,can _ _ e2 λe=>by rw[e,hC']at e2;cases e2⟩
   ·by_cases eq:a=ca
    ·subst eq
     have ei:p'=v.toNat:=by
      have i1:=(List.getElem?_eq_some_iff.mp e).1
      exact(List.getElem?_inj i1 nd).mp (e.trans eca.symm)
     subst ei
     refine⟨C'++Mm its (J0 its ups lab.cps.toList p) lab.cps.toList[p],by rw[AD];unfold nV;rw[List.map_append],λs=>?_,by rw[List.length_append];omega⟩
     rw[List.mem_append,PD,cC' s]
     constructor
     ·rintro((z|⟨c,r,a1,a2,a3⟩)|⟨r,z,b⟩)
      ·exact .inl z
      ·exact .inr ⟨c,r,a1,by omega,a3⟩
      ·exact .inr ⟨p,r,p0,Nat.le_refl _,pl,by rw[ev],((IY tok).mp z).2,by rw[ec];exact b⟩
     ·rintro(z|⟨c,r,a1,a2,a3,a4,a5,a6⟩)
      ·exact .inl (.inl z)
      ·rcases Nat.lt_or_ge p c with z|z
       ·exact .inl (.inr ⟨c,r,a1,z,a3,a4,a5,a6⟩)
       ·have:c=p:=by omega
        subst this
        rw[ec]at a6
        exact .inr ⟨r,(IY tok).mpr ⟨by have:=a6.1;omega,a5⟩,a6⟩
    ·obtain⟨C2,a1,a2,a3⟩:=com7 p' a e
     refine⟨C2,can _ _ a1 eq,same_of (λz=>?_) a2,by omega⟩
     have:=z.2
     rw[ev]at this
     rw[<-this,eca]at e
     cases e
     exact eq rfl
  ·refine L2.A2 (decide_eq_false (by omega)) ?_
   refine⟨_,_,_,rfl,s17,h7cm,h7ms,My,done7,λp' a e=>?_⟩
   obtain⟨C2,a1,a2,a3⟩:=com7 p' a e
   exact⟨C2,a1,same_of (λz=>p0 z.1) a2,by omega⟩
 ·rintro σ HX ⟨o5,o6,vs,rfl,sX,hcX,hmX,lv,done,com⟩
  refine⟨_,rfl,ms,_,rfl,.inl ⟨An.of hmX,λqa hqa=>?_⟩⟩
  have sq:AJ HX (upd HX qa (.tup vs)):=(AJ.refl HX).new hqa
  exact q gp _ _ ((s1.trans sX).trans sq)
end
end S61
namespace S61
open PySem L2 W7
open W63 (Wr Wi enc dec star)
theorem GQ (K:PySem.W.Frag):PySem.W.kitOne K (.type "NoneType") (.type "tuple")=some false:=by rfl
section
variable {P:Program}{w:World}{K:PySem.W.Frag}{mg:Str->Option Value}{base:Heap}{k:Nat}
def N5:Sp:=λvs H Q _=>∃x y:V,vs=[x,y,.non]/\Q (.bl false) H
theorem PF (D:Df K mg "is_marks" s_is_marks)(B:Bz mg)(G_is_states:Bi P w K mg base "is_states" k ["items","thing"] (λ_ _ _ _=>False))(G_states_by:Bi P w K mg base "states_by" k ["items","states","letter"] Ia):Bi P w K mg base "is_marks" (k+1) ["tree","items","thing"] N5:=by
 refine D.has De (λ_ _ _ _ _ _ us hl=>match us,hl with|[_,_,_],_=>rfl) (λvs H Q E h=>by obtain⟨x,y,rfl,_⟩:=h;rfl) (λf cdv A outer s H vs Q E hr h=>?_)
 obtain⟨x,y,rfl,q⟩:=h
 refine⟨_,(AG (Ag (PW.pt (CS (B4 (Az (AN BU rfl B.isinstance AW (AA (pv 2) (AA (B7 (v:=.ty "tuple") rfl B.tuple_ DV rfl) AB))))) (CN (AL Fe (AN Aj rfl B.len Ar (AA (pv 2) AB)) (AN Ak rfl B.len Ar (AA (Ad A9 (pv 0) AF (λ_ _=>rfl)) AB)) (AQ _)))))
 (AE (AY BQ))
 Aq)
 (AG (Ag (B4 (Az (AN (EO rfl) rfl B.all Hz (AA (CJ rfl (P9 (pv 2)) (NL:=["part"]) (ix:=[1]) (Mj (AM s_is_marks) EE) (λcl C s₃ H₃ fp pins=>⟨(Ae (i:=0) (show List.Nodup (["part","items"]:List Str)from by decide+kernel) rfl (by first|exact Or.inl rfl|exact Or.inr rfl)),CA,(AR G_is_states hr rfl (AA (pv 1) (AA (pv 0) AB)))⟩)) AB))))
 (AE (AY BQ))
 Aq)
 (AG (Bm PassesOwn.never rfl (Em rfl B.range (AA AF (AA (AN Aj rfl B.len Ar (AA (pv 2) AB)) AB))) (Ae (i:=3) De.nd rfl (by first|exact Or.inl rfl|exact Or.inr rfl))
 (AG (AI (i:=4) De.nd rfl (by first|exact Or.inl rfl|exact Or.inr rfl) (Ad A9 (pv 2) (Ad A9 (Ad A9 (pv 0) AF (λ_ _=>rfl)) (pv 3) (λ_ _=>rfl)) (λ_ _=>rfl)))
 (AE (Ag (B4 (Az (AN (EO rfl) rfl B.all Hz (AA (CJ rfl (CH (AR G_states_by hr rfl (AA (pv 1) (AA (Ad A9 (pv 2) (pv 3) (λ_ _=>rfl)) (AA (Ad C7 (Ad A9 (pv 0) AF (λ_ _=>rfl)) (pv 3) (λ_ _=>rfl)) AB))))) (NL:=["state"]) (ix:=[4]) (Mj (AM s_is_marks) EE) (λcl C s₃ H₃ fp pins=>⟨(Ae (i:=0) (show List.Nodup (["state","above"]:List Str)from by decide+kernel) rfl (by first|exact Or.inl rfl|exact Or.inr rfl)),CA,(Bg (Fs K) (pv 0) (pv 1) (by with_unfolding_all rfl))⟩)) AB))))
 (AE (AY BQ))
 Aq))))
 (AE (AY BQ))))),?_⟩
 exact⟨_,rfl,_,_,"tuple",false,rfl,.non,GQ _,_,rfl,A1 q⟩
def La (cP:Addr):Sp:=λvs H Q E=>∃(t:Addr) (ups:List Int) (lab:Str) (x:V),vs=[.ref t,x,.non]/\Bf H t ups lab/\((∃z,x=.str z/\z.length<=100)\/BZ H x)/\(BG x->∀(v:V) (H':Hp),AJ H H'->Q v H')/\(¬BG x->∀(a:Addr) (H':Hp),AJ H H'->H' a=none->E (.ref a) (some cP) H')
theorem N6 (EX:Ex1 K mg)(D:Df K mg "marks_show" s_marks_show)(B:Bz mg)(G_items_of:Bk P w K mg base "items_of" k ["pattern"] (CM EX.c_NoPattern))(G_is_marks:Bi P w K mg base "is_marks" k ["tree","items","thing"] N5)(G_is_never_done:Bi P w K mg base "is_never_done" k ["tree","items","marks"] (λ_ _ _ _=>False)):Bk P w K mg base "marks_show" (k+1) ["tree","pattern","thing"] (La EX.c_NoPattern):=by
 refine D.F2 D4 (λ_ _ _ _ _ _ us hl=>match us,hl with|[_,_,_],_=>rfl) (λvs H Q E h=>by obtain⟨t,ups,lab,x,rfl,_⟩:=h;rfl) (λf cdv A outer s H vs Q E hr h=>?_)
 obtain⟨t,ups,lab,x,rfl,tr,xx,q,q2⟩:=h
 refine⟨_,(AG (AI (i:=3) D4.nd rfl (by first|exact Or.inl rfl|exact Or.inr rfl) (B1 G_items_of Ba hr rfl (AA (pv 1) AB)))
 (AE (AY (C5 (AR G_is_marks hr rfl (AA (pv 0) (AA (pv 3) (AA (pv 2) AB)))) (Cd (AR G_is_never_done hr rfl (AA (pv 0) (AA (pv 3) (AA (pv 2) AB))))))))),?_⟩
 refine⟨_,rfl,x,rfl,xx,λxs ex0 l40 ok li H1 s1 f1 it=>?_,λnb a H1 s1 ha=>q2 nb a H1 s1 ha⟩
 subst ex0
 have gp:=DB l40 ok
 refine⟨_,rfl,_,rfl,_,rfl,_,_,rfl,⟨_,rfl,?_⟩⟩
 exact Ay (q gp _ H1 s1)
theorem N7 {P:Program}{w:World}{base:Heap}{k:Nat}{x:Str}{st:Stmt}{N ps:List Str}(D:Df K mg x st)(S:Ab N ps (AM st))
 (hb:∀(kV doc pm:Value) (an:Option Addr) (cdv ct:Value) (us:List Value),us.length=ps.length->bindArgs (PySem.W.fnOf x x (CV st) (Bh st) (AM st) .none kV doc pm an cdv ct) ⟨us,[]⟩=pure (ps.zip us)):Bi P w K mg base x (k+1) ps (λ_ _ _ _=>False):=
 D.has S hb (λ_ _ _ _ h=>h.elim) λ_ _ _ _ _ _ _ _ _ _ h=>h.elim
end
end S61
namespace W63
def M:List It->List Nat->Bool
 |[],ws=>ws.isEmpty
 |it::r,[]=>it.2&&M r []
 |it::r,c::ws=>if it.2 then M r (c::ws)||(decide (c∈it.1)&&M (it::r) ws)else decide (c∈it.1)&&M r ws
termination_by its ws=>(its.length,ws.length)
theorem Lb (ws:List Nat):M [] ws=ws.isEmpty:=by rw[M]
theorem Qq (it:It)(r:List It):M (it::r) []=(it.2&&M r []):=by rw[M]
theorem Ig {it:It}(r:List It)(c:Nat)(ws:List Nat)(h:it.2=true):M (it::r) (c::ws)=(M r (c::ws)||(decide (c∈it.1)&&M (it::r) ws)):=by rw[M,if_pos h]
theorem Ih {it:It}(r:List It)(c:Nat)(ws:List Nat)(h:it.2=false):M (it::r) (c::ws)=(decide (c∈it.1)&&M r ws):=by rw[M,if_neg (by rw[h];decide)]
def Tk (it:It)(p:List Nat):Prop:=(∀c∈p,c∈it.1)/\(it.2=true\/p.length=1)
inductive Sh:List It->List Nat->Prop
 |nil:Sh [] []
 |cons {it:It} {r:List It} {p ws:List Nat}:Tk it p->Sh r ws->Sh (it::r) (p++ws)
theorem R3:∀{its:List It} {ws:List Nat},Sh its ws->M its ws=true
 |_,_,.nil=>by rw[Lb];rfl
 |_,_,.cons (it:=it) (r:=r) (p:=p) (ws:=ws) t s=>by
  have ih:=R3 s
  cases h:it.2 with
  |false=>
   obtain⟨tp,tl⟩:=t
   rw[h]at tl
   have l1:p.length=1:=tl.resolve_left (by decide)
   obtain⟨c,rfl⟩:=List.length_eq_one_iff.mp l1
   show M (it::r) (c::ws)=true
   rw[Ih r c ws h,ih,decide_eq_true (tp c (by simp))];rfl
  |true=>
   have go:∀q:List Nat,(∀c∈q,c∈it.1)->M (it::r) (q++ws)=true:=λq=>by
    induction q with
    |nil=>
     intro _
     show M (it::r) ws=true
     cases ws with
     |nil=>rw[Qq,h,ih];rfl
     |cons c ws=>rw[Ig r c ws h,ih];rfl
    |cons c q ihq=>
     intro hq
     show M (it::r) (c::(q++ws))=true
     rw[Ig r c _ h,ihq λd hd=>hq d (List.mem_cons_of_mem _ hd),decide_eq_true (hq c List.mem_cons_self)]
     simp
   exact go p t.1
theorem Jp:∀(its:List It) (ws:List Nat),M its ws=true->Sh its ws
 |[],ws,h=>by
  rw[Lb]at h
  cases ws with
  |nil=>exact .nil
  |cons _ _=>cases h
 |it::r,[],h=>by
  rw[Qq,Bool.and_eq_true]at h
  exact .cons (p:=[]) ⟨λc hc=>(nomatch hc),.inl h.1⟩ (Jp r [] h.2)
 |it::r,c::ws,h=>by
  cases hs:it.2 with
  |false=>
   rw[Ih r c ws hs,Bool.and_eq_true]at h
   exact .cons (p:=[c]) ⟨λd hd=>by rw[List.mem_singleton.mp hd];exact of_decide_eq_true h.1,.inr rfl⟩ (Jp r ws h.2)
  |true=>
   rw[Ig r c ws hs,Bool.or_eq_true]at h
   rcases h with h|h
   ·exact .cons (p:=[]) ⟨λd hd=>(nomatch hd),.inl hs⟩ (Jp r (c::ws) h)
   ·rw[Bool.and_eq_true]at h
    have ih:=Jp (it::r) ws h.2
    cases ih with
    |cons t s=>
     rename_i p ws'
     exact .cons (p:=c::p) ⟨λd hd=>(List.mem_cons.mp hd).elim (λe=>by rw[e];exact of_decide_eq_true h.1) (t.1 d),.inl hs⟩ s
termination_by its ws=>(its.length,ws.length)
end W63
namespace S61
open PySem L2 W7
open W63 (Wr Wi enc dec star)
def bV (f:Nat->Bool)(n:Nat):List V:=(List.range n).map λj=>V.bl (f j)
theorem E8 (f:Nat->Bool)(n:Nat):(bV f n).length=n:=by simp[bV]
theorem PJ (f:Nat->Bool)(n:Nat):bV f (n+1)=bV f n++[.bl (f n)]:=by unfold bV;rw[List.range_succ,List.map_append];rfl
theorem Lc {f:Nat->Bool}{n j:Nat}(h:j < n):DP (bV f n) (j:Int)=some (.bl (f j)):=A4 (by unfold bV;rw[List.getElem?_map,List.getElem?_range h];rfl)
def Mf (its:List W63.It)(ws:List Nat)(n:Nat):Bool:=W63.M its (ws.drop n)
theorem Qr (it:W63.It)(r:List W63.It)(ws:List Nat):Mf (it::r) ws ws.length=(it.2&&Mf r ws ws.length):=by
 unfold Mf;rw[List.drop_length,W63.Qq]
theorem PK {it:W63.It}(r:List W63.It){ws:List Nat}{n:Nat}(h:it.2=true)(hn:n < ws.length):Mf (it::r) ws n=(Mf r ws n||(decide (ws[n]∈it.1)&&Mf (it::r) ws (n+1))):=by
 unfold Mf;rw[List.drop_eq_getElem_cons hn,W63.Ig r _ _ h]
theorem N8 {it:W63.It}(r:List W63.It){ws:List Nat}{n:Nat}(h:it.2=false)(hn:n < ws.length):Mf (it::r) ws n=(decide (ws[n]∈it.1)&&Mf r ws (n+1)):=by
 unfold Mf;rw[List.drop_eq_getElem_cons hn,W63.Ih r _ _ h]
theorem Qt {f g:Nat->Bool}{n j:Nat}(h:∀m,m≠j->f m=g m):(bV f n).set j (.bl (g j))=bV g n:=by
 apply List.ext_getElem?
 intro m
 rw[List.getElem?_set,E8]
 unfold bV
 by_cases e:j=m
 ·subst e
  rw[if_pos rfl,List.getElem?_map]
  by_cases l:j < n
  ·rw[if_pos l,List.getElem?_range l];rfl
  ·rw[if_neg l,List.getElem?_eq_none (by rw[List.length_range];omega)];rfl
 ·rw[if_neg e,List.getElem?_map,List.getElem?_map]
  by_cases l:m < n
  ·rw[List.getElem?_range l]
   show some (V.bl (f m))=some (V.bl (g m))
   rw[h m (Ne.symm e)]
  ·rw[List.getElem?_eq_none (by rw[List.length_range];omega)];rfl
theorem GR {f g:Nat->Bool}{n:Nat}(h:∀m,m < n->f m=g m):bV f n=bV g n:=by
 unfold bV
 exact List.map_congr_left λm hm=>by rw[h m (List.mem_range.mp hm)]
theorem Hf (n:Nat):(List.replicate (((n:Nat):Int)).toNat [V.bl false]).flatten=List.replicate n (V.bl false):=by
 rw[Int.toNat_natCast]
 induction n with
 |zero=>rfl
 |succ n ih=>rw[List.replicate_succ,List.flatten_cons,ih];rfl
theorem N9 (n:Nat):List.replicate n (V.bl false)=bV (λ_=>false) n:=by
 unfold bV
 induction n with
 |zero=>rfl
 |succ n ih=>rw[List.range_succ,List.map_append,<-ih,List.replicate_succ'];rfl
section
variable {P:Program}{w:World}{K:PySem.W.Frag}{mg:Str->Option Value}{base:Heap}{k:Nat}
def OA:Sp:=λvs H Q _=>∃(ia b:Addr) (it:W63.It) (r:List W63.It) (z:Str),vs=[.ref ia,.str z,.ref b]/\H ia=some (.tup [.str (mk it.1),.bl it.2])/\z.length<=60/\H b=some (.lst (bV (Mf r z.cps.toList) (z.length+1)))/\
 ∀(q:Addr) (H':Hp),AJ H H'->H q=none->H' q=some (.lst (bV (Mf (it::r) z.cps.toList) (z.length+1)))->Q (.ref q) H'
theorem PL (D:Df K mg "fits_ahead" s_fits_ahead)(B:Bz mg):Bi P w K mg base "fits_ahead" (k+1) ["item","word","behind"] OA:=by
 refine D.has CK (λ_ _ _ _ _ _ us hl=>match us,hl with|[_,_,_],_=>rfl) (λvs H Q E h=>by obtain⟨ia,b,it,r,z,rfl,_⟩:=h;rfl) (λf cdv A outer s H vs Q E hr h=>?_)
 obtain⟨ia,b,it,r,z,rfl,hi,z60,hb,q⟩:=h
 refine⟨_,(AG (AI (i:=3) CK.nd rfl (by first|exact Or.inl rfl|exact Or.inr rfl) (AZ KD (AU (AA BQ AB)) (AN Aj rfl B.len Ar (AA (pv 2) AB))))
 (AG (Bm PassesOwn.never rfl (LA rfl B.range (AA (AN Ak rfl B.len Ar (AA (pv 1) AB)) (AA (Bn BD AF) (AA (Bn BD AF) AB)))) (Ae (i:=4) CK.nd rfl (by first|exact Or.inl rfl|exact Or.inr rfl))
 (AG (AI (i:=5) CK.nd rfl (by first|exact Or.inl rfl|exact Or.inr rfl) (C5 (Bg BF (pv 4) (AN Ak rfl B.len Ar (AA (pv 1) AB)) (AQ _)) (Cd (Bg Di (Ad C7 (pv 1) (pv 4) (λ_ _=>rfl)) (Ad A9 (pv 0) AF (λ_ _=>rfl)) (by with_unfolding_all rfl)))))
 (AE (Ag (Az (Ad A9 (pv 0) AF (λ_ _=>rfl)))
 (AE (Ek (PZ (Ad Af (pv 2) (pv 4) (λ_ _=>rfl)) (Cd (C5 (pv 5) (Cd (Ad Af (pv 3) (AZ BM (pv 4) AF) (λ_ _=>rfl)))))) (Fc (pv 3) (pv 4) set_list)))
 (AE (Ek (C5 (pv 5) (Cd (Ad Af (pv 2) (AZ BM (pv 4) AF) (λ_ _=>rfl)))) (Fc (pv 3) (pv 4) set_list)))))))
 (AE (AY (pv 3))))),?_⟩
 have zb:z.length<=sizeLine:=AK (by omega)
 have zl:z.cps.toList.length=z.length:=Array.length_toList
 refine⟨AK (show 1<=1000 by omega),λr1 hr1=>?_⟩
 have s1:AJ H (upd H r1 (.lst [.bl false])):=(AJ.refl H).new hr1
 have v1:upd H r1 (.lst [.bl false]) r1=some (.lst [.bl false]):=AD
 show(λHH=>_) (upd H r1 (.lst [.bl false]))
 generalize upd H r1 (.lst [.bl false])=G1 at s1 v1
 have e1:[V.bl false].length*((((bV (Mf r z.cps.toList) (z.length+1)).length:Nat):Int)).toNat<=sizeLine:=AK (by rw[E8];show 1*_<=1000;omega)
 refine⟨_,rfl,b,_,rfl,.inl (An.of (s1 _ _ hb)),r1,_,_,rfl,rfl,v1,by rw[E8];omega,by rw[E8];omega,e1,λfi hfi=>?_⟩
 rw[E8,Hf,N9]
 have Hfi:H fi=none:=s1.free hfi
 have s2:AJ H (upd G1 fi (.lst (bV (λ_=>false) (z.length+1)))):=s1.new hfi
 have nbf:b≠fi:=AV (s1 _ _ hb) hfi
 refine⟨_,rfl,z,rfl,zb,_,rfl,_,rfl,z.length+1,by simp,by omega,?_⟩
 refine JQ (lo:=((z.length+1:Nat):Int) - 1) (n:=z.length+1) (λi σ HX=>∃(o4 o5:Option V),σ=[some (.ref ia),some (.str z),some (.ref b),some (.ref fi),o4,o5]/\AJ H HX/\HX fi=some (.lst (bV (λm=>if z.length+1 - i<=m then Mf (it::r) z.cps.toList m else false) (z.length+1)))) ⟨none,none,rfl,s2,?_⟩ ?_ ?_
 ·rw[AD]
  congr 2
  exact GR λm hm=>by rw[if_neg (by omega)]
 ·rintro i σ HX hi' ⟨o4,o5,rfl,sX,hX⟩
  obtain⟨m,em⟩:∃m:Nat,m=z.length - i:=⟨_,rfl⟩
  have eI:((z.length+1:Nat):Int) - 1 - (i:Int)=(m:Int):=by omega
  rw[eI]
  have hbX:=sX _ _ hb
  have hiX:=sX _ _ hi
  have mz:m < z.length+1:=by omega
  have ba:=Lc (f:=Mf r z.cps.toList) (n:=z.length+1) (j:=m) mz
  have ends:∀bb:Bool,bb=Mf (it::r) z.cps.toList m->upd HX fi (.lst ((bV (λm=>if z.length+1 - i<=m then Mf (it::r) z.cps.toList m else false) (z.length+1)).set m (.bl bb))) fi=some (.lst (bV (λm=>if z.length+1 - (i+1)<=m then Mf (it::r) z.cps.toList m else false) (z.length+1))):=λbb e=>by
   rw[AD]
   congr 2
   have e2:bb=(λm=>if z.length+1 - (i+1)<=m then Mf (it::r) z.cps.toList m else false) m:=by
    show bb=if z.length+1 - (i+1)<=m then _ else _
    rw[if_pos (by omega)];exact e
   rw[e2]
   refine Qt (f:=λm=>if z.length+1 - i<=m then Mf (it::r) z.cps.toList m else false) (g:=λm=>if z.length+1 - (i+1)<=m then Mf (it::r) z.cps.toList m else false) λk hk=>?_
   by_cases c:z.length+1 - i<=k
   ·rw[if_pos c,if_pos (by omega)]
   ·rw[if_neg c,if_neg (by omega)]
  have ix:Lr (bV (λm=>if z.length+1 - i<=m then Mf (it::r) z.cps.toList m else false) (z.length+1)).length (m:Int)=some m:=by
   rw[E8]
   unfold Lr
   rw[if_pos (by omega),if_pos (by omega)];rfl
  rcases Nat.lt_or_ge m z.length with lt|ge
  ·have za:DP z.cps.toList (m:Int)=some (z.cps.toList[m]'(by omega)):=A4 (List.getElem?_eq_getElem _)
   have ba1:=Lc (f:=Mf r z.cps.toList) (n:=z.length+1) (j:=m+1) (by omega)
   have fa1:=Lc (f:=λm=>if z.length+1 - i<=m then Mf (it::r) z.cps.toList m else false) (n:=z.length+1) (j:=m+1) (by omega)
   rw[if_pos (by omega)]at fa1
   refine⟨_,rfl,_,rfl,z,rfl,zb,_,_,rfl,rfl,_,rfl,Bl (decide_eq_true (by omega)) ?_⟩
   refine⟨_,rfl,_,rfl,_,_,_,rfl,rfl,zb,za,_,rfl,ia,_,_,_,rfl,rfl,Ca.of hiX,rfl,_,_,rfl,rfl,?_⟩
   rw[PySem.StrLaws.found_one,Bt]
   refine⟨_,rfl,ia,_,_,_,rfl,rfl,Ca.of hiX,rfl,_,rfl,?_⟩
   cases hs:it.2 with
   |true=>
    have e:=PK r (ws:=z.cps.toList) (n:=m) hs (by omega)
    refine A1 ?_
    refine⟨_,rfl,_,rfl,b,_,_,_,rfl,rfl,An.of hbX,ba,_,rfl,?_⟩
    cases hm:Mf r z.cps.toList m with
    |true=>
     refine A1 ?_
     exact⟨_,rfl,_,rfl,fi,_,_,_,rfl,rfl,hX,ix,_,_,rfl,sX.write Hfi,ends true (by rw[e,hm];rfl)⟩
    |false=>
     refine Ay ?_
     refine⟨_,rfl,_,rfl,?_⟩
     cases hd:decide (z.cps.toList[m]'(by omega)∈it.1)with
     |true=>
      refine A1 ?_
      refine⟨_,rfl,_,rfl,_,_,rfl,rfl,fi,_,_,_,rfl,rfl,An.of hX,fa1,?_⟩
      exact⟨_,rfl,_,rfl,fi,_,_,_,rfl,rfl,hX,ix,_,_,rfl,sX.write Hfi,ends _ (by rw[e,hm,hd];rfl)⟩
     |false=>
      refine Ay ?_
      exact⟨_,rfl,_,rfl,fi,_,_,_,rfl,rfl,hX,ix,_,_,rfl,sX.write Hfi,ends false (by rw[e,hm,hd];rfl)⟩
   |false=>
    have e:=N8 r (ws:=z.cps.toList) (n:=m) hs (by omega)
    refine Ay ?_
    refine⟨_,rfl,_,rfl,?_⟩
    cases hd:decide (z.cps.toList[m]'(by omega)∈it.1)with
    |true=>
     refine A1 ?_
     refine⟨_,rfl,_,rfl,_,_,rfl,rfl,b,_,_,_,rfl,rfl,An.of hbX,ba1,?_⟩
     exact⟨_,rfl,_,rfl,fi,_,_,_,rfl,rfl,hX,ix,_,_,rfl,sX.write Hfi,ends _ (by rw[e,hd];rfl)⟩
    |false=>
     refine Ay ?_
     exact⟨_,rfl,_,rfl,fi,_,_,_,rfl,rfl,hX,ix,_,_,rfl,sX.write Hfi,ends false (by rw[e,hd];rfl)⟩
  ·have mz':m=z.cps.toList.length:=by omega
   have e:=Qr it r z.cps.toList
   rw[<-mz']at e
   refine⟨_,rfl,_,rfl,z,rfl,zb,_,_,rfl,rfl,_,rfl,L2.A2 (decide_eq_false (by omega)) ?_⟩
   refine⟨_,rfl,ia,_,_,_,rfl,rfl,Ca.of hiX,rfl,_,rfl,?_⟩
   cases hs:it.2 with
   |true=>
    refine A1 ?_
    refine⟨_,rfl,_,rfl,b,_,_,_,rfl,rfl,An.of hbX,ba,_,rfl,?_⟩
    cases hm:Mf r z.cps.toList m with
    |true=>
     refine A1 ?_
     exact⟨_,rfl,_,rfl,fi,_,_,_,rfl,rfl,hX,ix,_,_,rfl,sX.write Hfi,ends true (by rw[e,hm,hs];rfl)⟩
    |false=>
     refine Ay ?_
     refine⟨_,rfl,_,rfl,Ay ?_⟩
     exact⟨_,rfl,_,rfl,fi,_,_,_,rfl,rfl,hX,ix,_,_,rfl,sX.write Hfi,ends false (by rw[e,hm];simp)⟩
   |false=>
    refine Ay ?_
    refine⟨_,rfl,_,rfl,Ay ?_⟩
    exact⟨_,rfl,_,rfl,fi,_,_,_,rfl,rfl,hX,ix,_,_,rfl,sX.write Hfi,ends false (by rw[e,hs];rfl)⟩
 ·rintro σ HX ⟨o4,o5,rfl,sX,hX⟩
  refine⟨_,rfl,q fi HX sX Hfi ?_⟩
  rw[hX]
  congr 2
  exact GR λm hm=>by rw[if_pos (by omega)]
end
end S61
namespace S61
open PySem L2 W7
open W63 (Wr Wi enc dec star)
theorem least (f:Nat->Bool):∀N,f N=true->∃n,n<=N/\f n=true/\∀m,m < n->f m=false
 |0,h=>⟨0,Nat.le_refl _,h,λm hm=>absurd hm (Nat.not_lt_zero _)⟩
 |N+1,h=>by
  by_cases c:∃m,m<=N/\f m=true
  ·obtain⟨m,hm,e⟩:=c
   obtain⟨n,h1,h2,h3⟩:=least (λk=>f k) m e
   exact⟨n,by omega,h2,h3⟩
  ·refine⟨N+1,Nat.le_refl _,h,λm hm=>Bool.eq_false_iff.mpr λe=>c ⟨m,by omega,e⟩⟩
termination_by N=>N
decreasing_by omega
structure R4 (its:List W63.It)(ws:List Nat)(ns:List Nat)(i:Nat):Prop where
 le:(ns.take i).sum+ns.getD i 0<=ws.length
 tk:W63.Tk (its.getD i ([],false)) ((ws.drop (ns.take i).sum).take (ns.getD i 0))
 TB:W63.st its i=true->∀m,m < ns.getD i 0->Mf (its.drop (i+1)) ws ((ns.take i).sum+m)=false
theorem R4.snoc {its:List W63.It}{ws ns:List Nat}{i n:Nat}(h:R4 its ws ns i)(hi:i < ns.length):R4 its ws (ns++[n]) i:=by
 have e1:(ns++[n]).take i=ns.take i:=List.take_append_of_le_length (by omega)
 have e2:(ns++[n]).getD i 0=ns.getD i 0:=by rw[List.getD_eq_getElem?_getD,List.getD_eq_getElem?_getD,List.getElem?_append_left hi]
 exact⟨by rw[e1,e2];exact h.le,by rw[e1,e2];exact h.tk,by rw[e1,e2];exact h.TB⟩
theorem OB {its:List W63.It}{ws:List Nat}{d a:Nat}(hd:d < its.length)(ha:a<=ws.length)(h:Mf (its.drop d) ws a=true):∃n,a+n<=ws.length/\W63.Tk (its.getD d ([],false)) ((ws.drop a).take n)/\Mf (its.drop (d+1)) ws (a+n)=true/\(W63.st its d=true->∀m,m < n->Mf (its.drop (d+1)) ws (a+m)=false)/\(W63.st its d=false->n=1):=by
 have gi:its.getD d ([],false)=its[d]:=by rw[List.getD_eq_getElem?_getD,List.getElem?_eq_getElem hd];rfl
 have est:W63.st its d=its[d].2:=by unfold W63.st;rw[gi]
 unfold Mf at h
 rw[List.drop_eq_getElem_cons hd]at h
 have sh:=W63.Jp _ _ h
 generalize e:ws.drop a=us at sh
 cases sh with
 |cons t s=>
  rename_i p us'
  have lu:=congrArg List.length e
  rw[List.length_drop,List.length_append]at lu
  have dp:∀m,ws.drop (a+m)=(p++us').drop m:=λm=>by rw[<-e,List.drop_drop]
  have tk1:∀m,m<=p.length->(p++us').take m=p.take m:=λm hm=>List.take_append_of_le_length hm
  have mp:Mf (its.drop (d+1)) ws (a+p.length)=true:=by
   unfold Mf;rw[dp,List.drop_left];exact W63.R3 s
  rw[gi,est]
  cases hs:its[d].2 with
  |true=>
   obtain⟨n,n1,n2,n3⟩:=least (λm=>Mf (its.drop (d+1)) ws (a+m)) p.length mp
   refine⟨n,by omega,⟨λc hc=>?_,.inl hs⟩,n2,λ_=>n3,λz=>by cases z⟩
   rw[tk1 n n1]at hc
   exact t.1 c (List.mem_of_mem_take hc)
  |false=>
   have l1:p.length=1:=t.2.resolve_left (by rw[hs];decide)
   rw[l1]at mp
   refine⟨1,by omega,⟨λc hc=>?_,.inr ?_⟩,mp,(λz=>by cases z),λ_=>rfl⟩
   ·rw[tk1 1 (by omega)]at hc
    exact t.1 c (List.mem_of_mem_take hc)
   ·rw[tk1 1 (by omega),List.length_take];omega
theorem Qu (f:Nat->Bool)(n:Nat):bV f n=((List.range n).map f).map V.bl:=by unfold bV;rw[List.map_map];rfl
theorem OC {f:Nat->Bool}{n j:Nat}(h:j < n):((List.range n).map f)[j]?=some (f j):=by rw[List.getElem?_map,List.getElem?_range h];rfl
section
variable {P:Program}{w:World}{K:PySem.W.Frag}{mg:Str->Option Value}{base:Heap}{k:Nat}
structure TC (H:Hp)(r:Addr)(its:List W63.It)(z:Str):Prop where
 ex:∃as:List Addr,H r=some (.lst (as.map V.ref))/\as.length=its.length+1/\∀(i:Nat) (a:Addr),as[i]?=some a->H a=some (.lst (bV (Mf (its.drop i) z.cps.toList) (z.length+1)))
def OD:Sp:=λvs H Q _=>∃(l:Addr) (its:List W63.It) (z:Str),vs=[.ref l,.str z]/\Ck H l its/\its.length<=40/\z.length<=60/\
 ∀(q:Addr) (H':Hp),AJ H H'->TC H' q its z->Q (.ref q) H'
theorem PM (D:Df K mg "fits_behind" s_fits_behind)(B:Bz mg)(G_fits_ahead:Bi P w K mg base "fits_ahead" k ["item","word","behind"] OA):Bi P w K mg base "fits_behind" (k+1) ["items","word"] OD:=by
 refine D.has Cg (λ_ _ _ _ _ _ us hl=>match us,hl with|[_,_],_=>rfl) (λvs H Q E h=>by obtain⟨l,its,z,rfl,_⟩:=h;rfl) (λf cdv A outer s H vs Q E hr h=>?_)
 obtain⟨l,its,z,rfl,it,l40,z60,q⟩:=h
 refine⟨_,(AG (AI (i:=2) Cg.nd rfl (by first|exact Or.inl rfl|exact Or.inr rfl) (AU (AA (AZ Hs (AZ KD (AU (AA BQ AB)) (AN Ak rfl B.len Ar (AA (pv 1) AB))) (AU (AA BQ AB))) AB)))
 (AG (Bm PassesOwn.never rfl (O0 K rfl B.reversed (AA (pv 0) AB)) (Ae (i:=3) Cg.nd rfl (by first|exact Or.inl rfl|exact Or.inr rfl))
 (AE (BW (BR PySem.F.plainAttrs_list PySem.F.slot_list_append PySem.F.type_list_append BC (pv 2) (AA (AR G_fits_ahead hr rfl (AA (pv 3) (AA (pv 1) (AA (Ad Af (pv 2) (Bn BD AF) (λ_ _=>rfl)) AB)))) AB)))))
 (AE (AY (Om K (pv 2) (BE (Bn BD AF))))))),?_⟩
 have zb:z.length<=sizeLine:=AK (by omega)
 have zl:z.cps.toList.length=z.length:=Array.length_toList
 obtain⟨vs,hv,lv,at_⟩:=it
 refine⟨AK (show 1<=1000 by omega),λr1 hr1=>?_⟩
 have s1:AJ H (upd H r1 (.lst [.bl false])):=(AJ.refl H).new hr1
 have v1:upd H r1 (.lst [.bl false]) r1=some (.lst [.bl false]):=AD
 show(λHH=>_) (upd H r1 (.lst [.bl false]))
 generalize upd H r1 (.lst [.bl false])=G1 at s1 v1
 have e1:[V.bl false].length*(((z.length:Nat):Int)).toNat<=sizeLine:=AK (by show 1*_<=1000;omega)
 refine⟨_,rfl,z,rfl,zb,r1,_,_,rfl,rfl,v1,by omega,by omega,e1,λr2 hr2=>?_⟩
 rw[Hf]
 have s2:AJ G1 (upd G1 r2 (.lst (List.replicate z.length (V.bl false)))):=(AJ.refl G1).new hr2
 have v2:upd G1 r2 (.lst (List.replicate z.length (V.bl false))) r2=some (.lst (List.replicate z.length (V.bl false))):=AD
 show(λHH=>_) (upd G1 r2 (.lst (List.replicate z.length (V.bl false))))
 generalize upd G1 r2 (.lst (List.replicate z.length (V.bl false)))=G2 at s2 v2
 refine⟨AK (show 1<=1000 by omega),λr3 hr3=>?_⟩
 have s3:AJ G2 (upd G2 r3 (.lst [.bl true])):=(AJ.refl G2).new hr3
 have v3:upd G2 r3 (.lst [.bl true]) r3=some (.lst [.bl true]):=AD
 show(λHH=>_) (upd G2 r3 (.lst [.bl true]))
 generalize upd G2 r3 (.lst [.bl true])=G3 at s3 v3
 refine⟨r2,r3,_,_,rfl,rfl,s3 _ _ v2,v3,AK (by rw[List.length_replicate];show z.length+1<=1000;omega),λr4 hr4=>?_⟩
 have e0:List.replicate z.length (V.bl false)++[V.bl true]=bV (Mf (its.drop (its.length - 0)) z.cps.toList) (z.length+1):=by
  rw[N9,PJ,Nat.sub_zero,List.drop_length]
  congr 1
  ·refine GR λm hm=>?_
   unfold Mf
   rw[W63.Lb,List.drop_eq_getElem_cons (by omega)];rfl
  ·show[V.bl true]=[V.bl (W63.M [] (z.cps.toList.drop z.length))]
   rw[W63.Lb,<-zl,List.drop_length];rfl
 rw[e0]
 have s4:AJ G3 (upd G3 r4 (.lst (bV (Mf (its.drop (its.length - 0)) z.cps.toList) (z.length+1)))):=(AJ.refl G3).new hr4
 have v4:upd G3 r4 (.lst (bV (Mf (its.drop (its.length - 0)) z.cps.toList) (z.length+1))) r4=some (.lst (bV (Mf (its.drop (its.length - 0)) z.cps.toList) (z.length+1))):=AD
 show(λHH=>_) (upd G3 r4 (.lst (bV (Mf (its.drop (its.length - 0)) z.cps.toList) (z.length+1))))
 generalize upd G3 r4 (.lst (bV (Mf (its.drop (its.length - 0)) z.cps.toList) (z.length+1)))=G4 at s4 v4
 refine⟨AK (show 1<=1000 by omega),λfo hfo=>?_⟩
 have s04:AJ H G4:=s1.trans (s2.trans (s3.trans s4))
 have s5:AJ G4 (upd G4 fo (.lst [.ref r4])):=(AJ.refl G4).new hfo
 have v5:upd G4 fo (.lst [.ref r4]) fo=some (.lst [.ref r4]):=AD
 have Hfo:H fo=none:=s04.free hfo
 replace v4:=s5 _ _ v4
 have s05:=s04.trans s5
 show(λHH=>_) (upd G4 fo (.lst [.ref r4]))
 generalize upd G4 fo (.lst [.ref r4])=G5 at s5 v5 v4 s05
 refine⟨_,rfl,l,vs,rfl,An.of (s05 _ _ hv),?_⟩
 refine O1 (K:=K) (xs:=vs) (λi σ HX=>∃(o3:Option V) (as:List Addr),σ=[some (.ref l),some (.str z),some (.ref fo),o3]/\AJ H HX/\HX fo=some (.lst (as.map V.ref))/\as.length=i+1/\∀(j:Nat) (a:Addr),as[j]?=some a->HX a=some (.lst (bV (Mf (its.drop (its.length - j)) z.cps.toList) (z.length+1)))) ⟨none,[r4],rfl,s05,v5,rfl,λj a e=>?_⟩ (λi σ HX _ h=>by obtain⟨_,_,_,sX,_⟩:=h;exact An.of (sX _ _ hv)) ?_ ?_
 ·cases j with
  |zero=>cases e;exact v4
  |succ j=>simp at e
 ·rintro i x σ HX hi hx ⟨o3,as,rfl,sX,hX,la,aX⟩
  have il:its.length - 1 - i < its.length:=by omega
  rw[lv]at hx
  obtain⟨ia,e1,e2⟩:=at_ _ _ (List.getElem?_eq_getElem il)
  rw[hx]at e1
  cases e1
  obtain⟨lastA,hla⟩:∃b,as[i]?=some b:=⟨_,List.getElem?_eq_getElem (by omega)⟩
  have e3:=aX i lastA hla
  have al:DP (as.map V.ref) (-1)=some (.ref lastA):=by
   rcases List.eq_nil_or_concat as with e|⟨bs,b,e⟩
   ·rw[e]at la;simp at la
   ·rw[List.concat_eq_append]at e
    have bl:bs.length=i:=by rw[e]at la;simp at la;exact la
    rw[e,List.getElem?_append_right (by omega),bl,Nat.sub_self]at hla
    cases hla
    rw[e,List.map_append]
    exact DQ _ _
  have ed:its.drop (its.length - (i+1))=its[its.length - 1 - i]::its.drop (its.length - i):=by
   have:its.length - (i+1)=its.length - 1 - i:=by omega
   rw[this,List.drop_eq_getElem_cons il]
   congr 2
   omega
  refine⟨_,rfl,.inl ⟨rfl,_,An.of hX⟩,_,rfl,_,rfl,_,rfl,_,rfl,fo,_,_,_,rfl,rfl,An.of hX,al,?_⟩
  refine⟨ia,lastA,its[its.length - 1 - i],its.drop (its.length - i),z,rfl,sX _ _ e2,z60,e3,λnq HY sY fY hY=>?_⟩
  rw[<-ed]at hY
  have hfY:=sY _ _ hX
  refine⟨fo,_,_,rfl,rfl,hfY,by rw[List.length_map];exact Nat.lt_of_lt_of_le (show as.length < 1000 by omega) (AK (Nat.le_refl _)),?_⟩
  have nqf:nq≠fo:=λe=>by rw[e,hX]at fY;cases fY
  refine⟨_,as++[nq],rfl,(sX.trans sY).write Hfo,by rw[AD,List.map_append];rfl,by rw[List.length_append,la];rfl,λj a e=>?_⟩
  rcases Nat.lt_or_ge j as.length with h|h
  ·rw[List.getElem?_append_left h]at e
   have:=sY _ _ (aX j a e)
   rw[AX (λzz=>by
    rw[zz,hfY]at this
    have t2:as.map V.ref=bV (Mf (its.drop (its.length - j)) z.cps.toList) (z.length+1):=by injection (Option.some.inj this)
    have t3:=congrArg (λl=>l[0]?) t2
    simp only[bV,List.getElem?_map,List.getElem?_range (Nat.zero_lt_succ _)]at t3
    cases as with
    |nil=>simp at t3
    |cons b bs=>simp at t3)]
   exact this
  ·rw[List.getElem?_append_right h]at e
   have hj:j=as.length:=by
    have:=(List.getElem?_eq_some_iff.mp e).1
    simp at this
    omega
   rw[hj,Nat.sub_self]at e
   cases e
   rw[AX nqf,hj,la];exact hY
 ·rintro σ HX ⟨o3,as,rfl,sX,hX,la,aX⟩
  rw[lv]at la
  refine⟨_,rfl,_,rfl,_,rfl,fo,_,rfl,rfl,An.of hX,λrr hrr=>?_⟩
  have s6:AJ HX (upd HX rr (.lst (as.map V.ref).reverse)):=(AJ.refl HX).new hrr
  refine q rr _ (sX.trans s6) ⟨as.reverse,by rw[AD,List.map_reverse],by rw[List.length_reverse,la],λi a e=>s6 _ _ ?_⟩
  have il:i < as.length:=by
   have:=(List.getElem?_eq_some_iff.mp e).1
   rw[List.length_reverse]at this;exact this
  rw[List.getElem?_reverse il]at e
  have:=aX _ a e
  rw[show its.length - (as.length - 1 - i)=i by omega]at this
  exact this
def Hg (cP:Addr):Sp:=λvs H Q E=>∃(x:V) (z:Str),vs=[x,.str z]/\z.length<=60/\((∃z,x=.str z/\z.length<=100)\/BZ H x)/\(BG x->∀(v:V) (H':Hp),AJ H H'->Q v H')/\(¬BG x->∀(a:Addr) (H':Hp),AJ H H'->H' a=none->E (.ref a) (some cP) H')
theorem Ko (EX:Ex1 K mg)(D:Df K mg "shares_of" s_shares_of)(B:Bz mg)(G_items_of:Bk P w K mg base "items_of" k ["pattern"] (CM EX.c_NoPattern))(G_fits_behind:Bi P w K mg base "fits_behind" k ["items","word"] OD):Bk P w K mg base "shares_of" (k+1) ["pattern","word"] (Hg EX.c_NoPattern):=by
 refine D.F2 BB (λ_ _ _ _ _ _ us hl=>match us,hl with|[_,_],_=>rfl) (λvs H Q E h=>by obtain⟨xs,z,rfl,_⟩:=h;rfl) (λf cdv A outer s H vs Q E hr h=>?_)
 obtain⟨x,z,rfl,z60,xx,q,q2⟩:=h
 refine⟨_,(AG (AI (i:=2) BB.nd rfl (by first|exact Or.inl rfl|exact Or.inr rfl) (B1 G_items_of Ba hr rfl (AA (pv 0) AB)))
 (AG (AI (i:=3) BB.nd rfl (by first|exact Or.inl rfl|exact Or.inr rfl) (AR G_fits_behind hr rfl (AA (pv 2) (AA (pv 1) AB))))
 (AG (Ag (B4 (Az (Ad Af (Ad Af (pv 3) AF (λ_ _=>rfl)) AF (λ_ _=>rfl))))
 (AE (AY Cc))
 Aq)
 (AG (AI (i:=4) BB.nd rfl (by first|exact Or.inl rfl|exact Or.inr rfl) (AU AB))
 (AG (AI (i:=5) BB.nd rfl (by first|exact Or.inl rfl|exact Or.inr rfl) AF)
 (AG (Bm PassesOwn.leaving rfl (Dp rfl B.enumerate (AA (pv 2) AB)) (DM rfl (Ax (Ae (i:=6) BB.nd rfl (by first|exact Or.inl rfl|exact Or.inr rfl)) (Ax (Ae (i:=7) BB.nd rfl (by first|exact Or.inl rfl|exact Or.inr rfl)) CU)))
 (AG (AI (i:=8) BB.nd rfl (by first|exact Or.inl rfl|exact Or.inr rfl) (BR PySem.F.plainAttrs_list PySem.F.slot_list_index PySem.F.type_list_index Km (Ad Af (pv 3) (AZ BM (pv 6) AF) (λ_ _=>rfl)) (AA BQ (AA (Aa (Az (Ad A9 (pv 7) AF (λ_ _=>rfl))) (pv 5) (AZ BM (pv 5) AF)) AB))))
 (AG (BW (BR PySem.F.plainAttrs_list PySem.F.slot_list_append PySem.F.type_list_append BC (pv 4) (AA (AZ Bx (pv 8) (pv 5)) AB)))
 (AE (AI (i:=5) BB.nd rfl (by first|exact Or.inl rfl|exact Or.inr rfl) (pv 8))))))
 (AE (AY (BI CI rfl B.tuple_ DV (AA (pv 4) AB)))))))))),?_⟩
 have zl:z.cps.toList.length=z.length:=Array.length_toList
 refine⟨_,rfl,x,rfl,xx,λxs ex0 l40 ok li H1 s1 f1 it=>?_,λnb a H1 s1 ha=>q2 nb a H1 s1 ha⟩
 subst ex0
 have gp:=DB l40 ok
 have x40:xs.length<=40:=Nat.le_trans (Dt xs) l40
 have dl:=W63.Cj xs
 refine⟨_,rfl,_,rfl,li,dec xs,z,rfl,it,by omega,z60,λfb H2 s2 fbt=>?_⟩
 obtain⟨as,hfb,las,fat⟩:=fbt
 have s12:=s1.trans s2
 obtain⟨a0,ha0⟩:∃b,as[0]?=some b:=⟨_,List.getElem?_eq_getElem (by omega)⟩
 have h0:=fat 0 a0 ha0
 rw[List.drop_zero]at h0
 have i0:DP (as.map V.ref) 0=some (.ref a0):=A4 (j:=0) (by rw[List.getElem?_map,ha0];rfl)
 have b0:DP (bV (Mf (dec xs) z.cps.toList) (z.length+1)) 0=some (.bl (Mf (dec xs) z.cps.toList 0)):=Lc (j:=0) (by omega)
 refine⟨_,rfl,fb,_,_,_,rfl,rfl,An.of hfb,i0,a0,_,_,_,rfl,rfl,An.of h0,b0,_,rfl,?_⟩
 have em:Mf (dec xs) z.cps.toList 0=W63.M (dec xs) z.cps.toList:=by unfold Mf;rw[List.drop_zero]
 rw[em]
 cases hm:W63.M (dec xs) z.cps.toList with
 |false=>
  refine A1 ?_
  exact q gp _ _ s12
 |true=>
  refine Ay ?_
  refine⟨AK (show 0<=1000 by omega),λsh hsh=>?_⟩
  have Hsh:H sh=none:=s12.free hsh
  obtain⟨vs,hv,lv,at_⟩:=it.same s2
  have s3:AJ H2 (upd H2 sh (.lst [])):=(AJ.refl H2).new hsh
  have v3:upd H2 sh (.lst []) sh=some (.lst []):=AD
  show(λHH=>_) (upd H2 sh (.lst []))
  generalize upd H2 sh (.lst [])=H3 at s3 v3
  refine⟨_,rfl,.lst li,rfl,⟨_,.inl (s3 _ _ hv)⟩,?_⟩
  refine DU (xs:=vs) (λd σ HX=>∃(o6 o7 o8:Option V) (ns:List Nat),σ=[some (.str (mk (enc xs))),some (.str z),some (.ref li),some (.ref fb),some (.ref sh),some (.int ((ns.sum:Nat):Int)),o6,o7,o8]/\AJ H2 HX/\HX sh=some (.lst (nV ns))/\ns.length=d/\ns.sum<=z.length/\Mf ((dec xs).drop d) z.cps.toList ns.sum=true/\∀i,i < ns.length->R4 (dec xs) z.cps.toList ns i) ⟨none,none,none,[],rfl,s3,v3,rfl,Nat.zero_le _,by rw[List.drop_zero];show Mf _ _ 0=true;rw[em];exact hm,λi hi=>absurd hi (Nat.not_lt_zero _)⟩
   (λd σ HX _ h=>by obtain⟨_,_,_,_,_,sX,_⟩:=h;exact .inl (sX _ _ hv)) ?_ ?_
  rotate_left
  ·rintro σ HX ⟨o6,o7,o8,ns,rfl,sX,hX,nl,nsum,mX,gX⟩
   rw[lv]at nl mX
   rw[List.drop_length]at mX
   refine⟨_,rfl,sh,_,rfl,.inl ⟨An.of hX,λt ht=>?_⟩⟩
   exact q gp _ _ ((s12.trans sX).new ht)
  rintro d x σ HX pp hx ⟨o6,o7,o8,ns,rfl,sX,hX,nl,nsum,mX,gX⟩ hpp
  have dlt:d < (dec xs).length:=by
   have:=(List.getElem?_eq_some_iff.mp hx).1
   omega
  obtain⟨ia,e1,e2⟩:=at_ d _ (List.getElem?_eq_getElem dlt)
  rw[hx]at e1
  cases e1
  have gi:(dec xs).getD d ([],false)=(dec xs)[d]:=by rw[List.getD_eq_getElem?_getD,List.getElem?_eq_getElem dlt];rfl
  have est:W63.st (dec xs) d=(dec xs)[d].2:=by unfold W63.st;rw[gi]
  obtain⟨n,n1,n2,n3,n4,n5⟩:=OB dlt (by omega) mX
  have sP:AJ HX (upd HX pp (.tup [.int (d:Int),.ref ia])):=(AJ.refl HX).new hpp
  refine⟨pp,_,rfl,Ca.of AD,rfl,_,_,rfl,_,_,rfl,rfl,?_⟩
  show(λHH=>_) (upd HX pp (.tup [.int (d:Int),.ref ia]))
  generalize upd HX pp (.tup [.int (d:Int),.ref ia])=HY at sP
  have sY:=sX.trans sP
  have hfbY:=sY _ _ hfb
  obtain⟨ad,had⟩:∃b,as[d+1]?=some b:=⟨_,List.getElem?_eq_getElem (by omega)⟩
  have hd1:=sY _ _ (fat (d+1) ad had)
  have id1:DP (as.map V.ref) ((d:Int)+1)=some (.ref ad):=by rw[show(d:Int)+1=((d+1:Nat):Int) by omega];exact A4 (by rw[List.getElem?_map,had];rfl)
  have hiY:=sY _ _ e2
  rw[Qu]at hd1
  have bl:((List.range (z.length+1)).map (Mf ((dec xs).drop (d+1)) z.cps.toList)).length<=10000:=by rw[List.length_map,List.length_range];omega
  have jt:((List.range (z.length+1)).map (Mf ((dec xs).drop (d+1)) z.cps.toList))[ns.sum+n]?=some true:=by rw[OC (by omega),n3]
  have ends:∀(HZ:Hp),AJ HY HZ->HZ sh=some (.lst (nV ns))->(nV ns).length < sizeLine/\∃(o6 o7 o8:Option V) (ms:List Nat),[some (V.str (mk (enc xs))),some (.str z),some (.ref li),some (.ref fb),some (.ref sh),some (.int (((ns.sum+n:Nat)):Int)),some (.int (d:Int)),some (.ref ia),some (.int ((ns.sum+n:Nat):Int))]=[some (V.str (mk (enc xs))),some (.str z),some (.ref li),some (.ref fb),some (.ref sh),some (.int ((ms.sum:Nat):Int)),o6,o7,o8]/\AJ H2 (upd HZ sh (.lst (nV ns++[.int ((n:Nat):Int)])))/\upd HZ sh (.lst (nV ns++[.int ((n:Nat):Int)])) sh=some (.lst (nV ms))/\ms.length=d+1/\ms.sum<=z.length/\Mf ((dec xs).drop (d+1)) z.cps.toList ms.sum=true/\∀i,i < ms.length->R4 (dec xs) z.cps.toList ms i:=λHZ sZ hZ=>by
   have es:(ns++[n]).sum=ns.sum+n:=by rw[List.sum_append];simp
   refine⟨by rw[Bu];exact Nat.lt_of_lt_of_le (show ns.length < 1000 by omega) (AK (Nat.le_refl _)),_,_,_,ns++[n],by rw[es],?_,by rw[AD,CZ],by rw[List.length_append,nl];rfl,by rw[es];omega,by rw[es];exact n3,λi hi=>?_⟩
   ·exact(sY.trans sZ).write hsh
   ·rw[List.length_append,List.length_singleton]at hi
    rcases Nat.lt_or_ge i ns.length with h|h
    ·exact(gX i h).snoc h
    ·have ei:i=ns.length:=by omega
     subst ei
     have t1:(ns++[n]).take ns.length=ns:=List.take_left' rfl
     have t2:(ns++[n]).getD ns.length 0=n:=by rw[List.getD_eq_getElem?_getD,List.getElem?_append_right (Nat.le_refl _),Nat.sub_self];rfl
     refine⟨by rw[t1,t2];omega,by rw[t1,t2,nl];exact n2,?_⟩
     rw[t1,t2,nl];exact n4
  refine⟨_,rfl,_,rfl,_,_,rfl,rfl,fb,_,_,_,rfl,rfl,An.of hfbY,id1,.inl ⟨rfl,_,An.of hd1⟩,_,rfl,ia,_,_,_,rfl,rfl,Ca.of hiY,rfl,_,rfl,?_⟩
  have hX':=sP _ _ hX
  obtain⟨c1,c2⟩:=ends HY (AJ.refl HY) hX'
  have esub:((ns.sum+n:Nat):Int) - ((ns.sum:Nat):Int)=((n:Nat):Int):=by omega
  have ev:(λi j:Int=>V.int (i - j)) ((ns.sum+n:Nat):Int) ((ns.sum:Nat):Int)=V.int ((n:Nat):Int):=by show V.int _=V.int _;rw[esub]
  cases hs:(dec xs)[d].2 with
  |true=>
   refine A1 ?_
   refine⟨_,rfl,ad,_,true,ns.sum,ns.sum+n,rfl,rfl,hd1,by omega,jt,λm h1 h2=>?_,bl,?_⟩
   ·rw[OC (by omega)]
    have:=n4 (est.trans hs) (m - ns.sum) (by omega)
    rw[show ns.sum+(m - ns.sum)=m by omega]at this
    rw[this];simp
   refine⟨_,rfl,.inl ⟨rfl,_,An.of hX'⟩,_,rfl,_,rfl,_,_,rfl,rfl,sh,_,_,rfl,rfl,hX',c1,?_⟩
   rw[ev]
   exact⟨_,rfl,c2⟩
  |false=>
   refine Ay ?_
   have en:=n5 (est.trans hs)
   refine⟨_,rfl,_,_,rfl,rfl,ad,_,true,ns.sum+1,ns.sum+n,rfl,rfl,hd1,by omega,jt,λm h1 h2=>by omega,bl,?_⟩
   refine⟨_,rfl,.inl ⟨rfl,_,An.of hX'⟩,_,rfl,_,rfl,_,_,rfl,rfl,sh,_,_,rfl,rfl,hX',c1,?_⟩
   rw[ev]
   exact⟨_,rfl,c2⟩
end
end S61
namespace S61
open PySem L2 W7
theorem Cs:bootBuiltins "ValueError"=some (.type "ValueError"):=by decide+kernel
structure Exs (K:PySem.W.Frag)(mg:Str->Option Value) extends Ex3 K mg where
 c_UpError:Addr
 m_UpError:mg "UpError"=some (.ref c_UpError)
 c_NoPlace:Addr
 m_NoPlace:mg "NoPlace"=some (.ref c_NoPlace)
 c_NoRows:Addr
 m_NoRows:mg "NoRows"=some (.ref c_NoRows)
 c_NoRuns:Addr
 m_NoRuns:mg "NoRuns"=some (.ref c_NoRuns)
 c_NoCover:Addr
 m_NoCover:mg "NoCover"=some (.ref c_NoCover)
 c_NoText:Addr
 m_NoText:mg "NoText"=some (.ref c_NoText)
 c_TooMany:Addr
 m_TooMany:mg "TooMany"=some (.ref c_TooMany)
 c_NoTries:Addr
 m_NoTries:mg "NoTries"=some (.ref c_NoTries)
 c_NoLetter:Addr
 m_NoLetter:mg "NoLetter"=some (.ref c_NoLetter)
 c_NoLeaf:Addr
 m_NoLeaf:mg "NoLeaf"=some (.ref c_NoLeaf)
 c_NoChange:Addr
 m_NoChange:mg "NoChange"=some (.ref c_NoChange)
 c_NoLine:Addr
 m_NoLine:mg "NoLine"=some (.ref c_NoLine)
 c_NoTree:Addr
 m_NoTree:mg "NoTree"=some (.ref c_NoTree)
 z_NoNumber:Ml K c_NoNumber
 u_NoNumber:PySem.W.exmOne K (.ref c_NoNumber) (.ref c_UpError)=some true
 n0:PySem.W.kitOne K (.ref c_NoNumber) (.ref c_NoNumber)=some true
 n1:PySem.W.kitOne K (.ref c_NoNumber) (.ref c_NoWord)=some false
 n2:PySem.W.kitOne K (.ref c_NoNumber) (.ref c_NoPattern)=some false
 nv:PySem.W.kitOne K (.ref c_NoNumber) (.type "ValueError")=some true
 n3:PySem.W.kitAny K (.ref c_NoNumber) ([c_NoPlace,c_NoRows,c_NoRuns,c_NoCover,c_NoText,c_TooMany,c_NoTries,c_NoLetter].map Value.ref)=some false
 n4:PySem.W.kitAny K (.ref c_NoNumber) ([c_NoLeaf,c_NoChange,c_NoLine,c_NoTree].map Value.ref)=some false
 z_NoWord:Ml K c_NoWord
 u_NoWord:PySem.W.exmOne K (.ref c_NoWord) (.ref c_UpError)=some true
 w0:PySem.W.kitOne K (.ref c_NoWord) (.ref c_NoNumber)=some false
 w1:PySem.W.kitOne K (.ref c_NoWord) (.ref c_NoWord)=some true
 w2:PySem.W.kitOne K (.ref c_NoWord) (.ref c_NoPattern)=some false
 wv:PySem.W.kitOne K (.ref c_NoWord) (.type "ValueError")=some true
 w3:PySem.W.kitAny K (.ref c_NoWord) ([c_NoPlace,c_NoRows,c_NoRuns,c_NoCover,c_NoText,c_TooMany,c_NoTries,c_NoLetter].map Value.ref)=some false
 w4:PySem.W.kitAny K (.ref c_NoWord) ([c_NoLeaf,c_NoChange,c_NoLine,c_NoTree].map Value.ref)=some false
 z_NoPattern:Ml K c_NoPattern
 u_NoPattern:PySem.W.exmOne K (.ref c_NoPattern) (.ref c_UpError)=some true
 p0:PySem.W.kitOne K (.ref c_NoPattern) (.ref c_NoNumber)=some false
 p1:PySem.W.kitOne K (.ref c_NoPattern) (.ref c_NoWord)=some false
 p2:PySem.W.kitOne K (.ref c_NoPattern) (.ref c_NoPattern)=some true
 pv:PySem.W.kitOne K (.ref c_NoPattern) (.type "ValueError")=some true
 p3:PySem.W.kitAny K (.ref c_NoPattern) ([c_NoPlace,c_NoRows,c_NoRuns,c_NoCover,c_NoText,c_TooMany,c_NoTries,c_NoLetter].map Value.ref)=some false
 p4:PySem.W.kitAny K (.ref c_NoPattern) ([c_NoLeaf,c_NoChange,c_NoLine,c_NoTree].map Value.ref)=some false
section
variable {P:Program}{w:World}{K:PySem.W.Frag}{mg:Str->Option Value}{base:Heap}{k:Nat}
def Dv (cN:Addr)(z:Str):Sp:=λvs H Q _=>∃a:Addr,vs=[.ref a]/\H a=some (A7 a cN)/\∀H',AJ H H'->Q (.str z) H'
theorem OE (EX:Exs K mg)(D:Df K mg "_law_kind" s_law_kind)(B:Bz mg):GK P w K mg base "_law_kind" (k+1) ["caught"] (Dv EX.c_NoNumber "number"):=by
 refine D.Qh BL (λ_ _ _ _ _ _ us hl=>match us,hl with|[_],_=>rfl) (λvs H Q E h=>by obtain⟨a,rfl,_⟩:=h;rfl) (λf cdv A outer s H vs Q E hr h=>?_)
 obtain⟨a,rfl,ha,q⟩:=h
 refine⟨_,(AG (AI (i:=1) BL.nd rfl (by first|exact Or.inl rfl|exact Or.inr rfl) (AU (AA (AN (BA K) rfl B.isinstance AW (AA (pv 0) (AA (Ac (x:="NoNumber") (v:=.ref EX.c_NoNumber) rfl EX.m_NoNumber rfl) AB))) (AA (AN (BA K) rfl B.isinstance AW (AA (pv 0) (AA (Ac (x:="NoWord") (v:=.ref EX.c_NoWord) rfl EX.m_NoWord rfl) AB))) (AA (AN (BA K) rfl B.isinstance AW (AA (pv 0) (AA (Ac (x:="NoPattern") (v:=.ref EX.c_NoPattern) rfl EX.m_NoPattern rfl) AB))) AB)))))
 (AG (AI (i:=2) BL.nd rfl (by first|exact Or.inl rfl|exact Or.inr rfl) (AN (Bb K) rfl B.isinstance AW (AA (pv 0) (AA (Bc (AA (Ac (x:="NoPlace") (v:=.ref EX.c_NoPlace) rfl EX.m_NoPlace rfl) (AA (Ac (x:="NoRows") (v:=.ref EX.c_NoRows) rfl EX.m_NoRows rfl) (AA (Ac (x:="NoRuns") (v:=.ref EX.c_NoRuns) rfl EX.m_NoRuns rfl) (AA (Ac (x:="NoCover") (v:=.ref EX.c_NoCover) rfl EX.m_NoCover rfl) (AA (Ac (x:="NoText") (v:=.ref EX.c_NoText) rfl EX.m_NoText rfl) (AA (Ac (x:="TooMany") (v:=.ref EX.c_TooMany) rfl EX.m_TooMany rfl) (AA (Ac (x:="NoTries") (v:=.ref EX.c_NoTries) rfl EX.m_NoTries rfl) (AA (Ac (x:="NoLetter") (v:=.ref EX.c_NoLetter) rfl EX.m_NoLetter rfl) AB))))))))) AB))))
 (AG (Ag (PW.pt (CS (Az (pv 2)) (CS (Az (AN (Bb K) rfl B.isinstance AW (AA (pv 0) (AA (Bc (AA (Ac (x:="NoLeaf") (v:=.ref EX.c_NoLeaf) rfl EX.m_NoLeaf rfl) (AA (Ac (x:="NoChange") (v:=.ref EX.c_NoChange) rfl EX.m_NoChange rfl) (AA (Ac (x:="NoLine") (v:=.ref EX.c_NoLine) rfl EX.m_NoLine rfl) (AA (Ac (x:="NoTree") (v:=.ref EX.c_NoTree) rfl EX.m_NoTree rfl) AB))))) AB)))) (CN (AL Fe (E3 K (pv 1) BQ) AF (AQ _))))))
 (AE (AY AS))
 Aq)
 (AG (Ag (B4 (Az (AN (Cr K) rfl B.isinstance AW (AA (pv 0) (AA (B7 (v:=.ty "ValueError") rfl B.ValueError_ Cs rfl) AB)))))
 (AE (AY AS))
 Aq)
 (AE (AY (Ad Af (AU (AA AS (AA AS (AA AS AB)))) (E4 K (pv 1) BQ) (λ_ _=>rfl)))))))),?_⟩
 refine⟨_,rfl,a,EX.c_NoNumber,_,true,rfl,ha,EX.z_NoNumber,EX.n0,_,rfl,a,EX.c_NoNumber,_,false,rfl,ha,EX.z_NoNumber,EX.n1,_,rfl,a,EX.c_NoNumber,_,false,rfl,ha,EX.z_NoNumber,EX.n2,(by show 3<=sizeLine;decide),λl1 hl1=>?_⟩
 have s1:AJ H (upd H l1 (.lst [.bl true,.bl false,.bl false])):=(AJ.refl H).new hl1
 have h1:upd H l1 (.lst [.bl true,.bl false,.bl false]) l1=some (.lst ([true,false,false].map V.bl)):=AD
 show(λHH=>_) (upd H l1 (.lst [.bl true,.bl false,.bl false]))
 generalize upd H l1 (.lst [.bl true,.bl false,.bl false])=H1 at s1 h1
 have ha1:=s1 _ _ ha
 refine⟨_,rfl,(by show 8<=sizeLine;decide),λt2 ht2=>?_⟩
 have s2:AJ H1 (upd H1 t2 (.tup [V.ref EX.c_NoPlace,V.ref EX.c_NoRows,V.ref EX.c_NoRuns,V.ref EX.c_NoCover,V.ref EX.c_NoText,V.ref EX.c_TooMany,V.ref EX.c_NoTries,V.ref EX.c_NoLetter])):=(AJ.refl H1).new ht2
 have ha2:=s2 _ _ ha1
 have h2:=s2 _ _ h1
 refine⟨a,EX.c_NoNumber,t2,_,false,rfl,ha2,AD,EX.z_NoNumber,EX.n3,?_⟩
 show(λHH=>_) (upd H1 t2 (.tup [V.ref EX.c_NoPlace,V.ref EX.c_NoRows,V.ref EX.c_NoRuns,V.ref EX.c_NoCover,V.ref EX.c_NoText,V.ref EX.c_TooMany,V.ref EX.c_NoTries,V.ref EX.c_NoLetter]))
 generalize upd H1 t2 (.tup [V.ref EX.c_NoPlace,V.ref EX.c_NoRows,V.ref EX.c_NoRuns,V.ref EX.c_NoCover,V.ref EX.c_NoText,V.ref EX.c_TooMany,V.ref EX.c_NoTries,V.ref EX.c_NoLetter])=H2 at s2 ha2 h2
 refine⟨_,rfl,_,rfl,Ay ?_⟩
 refine⟨_,rfl,(by show 4<=sizeLine;decide),λt3 ht3=>?_⟩
 have s3:AJ H2 (upd H2 t3 (.tup [V.ref EX.c_NoLeaf,V.ref EX.c_NoChange,V.ref EX.c_NoLine,V.ref EX.c_NoTree])):=(AJ.refl H2).new ht3
 have ha3:=s3 _ _ ha2
 have h3:=s3 _ _ h2
 refine⟨a,EX.c_NoNumber,t3,_,false,rfl,ha3,AD,EX.z_NoNumber,EX.n4,?_⟩
 show(λHH=>_) (upd H2 t3 (.tup [V.ref EX.c_NoLeaf,V.ref EX.c_NoChange,V.ref EX.c_NoLine,V.ref EX.c_NoTree]))
 generalize upd H2 t3 (.tup [V.ref EX.c_NoLeaf,V.ref EX.c_NoChange,V.ref EX.c_NoLine,V.ref EX.c_NoTree])=H3 at s3 ha3 h3
 refine⟨_,rfl,Ay ?_⟩
 refine⟨_,rfl,.inl ⟨rfl,_,An.of h3⟩,l1,[true,false,false],true,rfl,rfl,h3,rfl,_,rfl,L2.A2 (by rfl) ?_⟩
 refine⟨_,rfl,a,EX.c_NoNumber,"ValueError",true,rfl,ha3,EX.z_NoNumber,EX.nv,_,rfl,Ay ?_⟩
 refine⟨(by show 3<=sizeLine;decide),λlr hlr=>?_⟩
 have s4:AJ H3 (upd H3 lr (.lst [.str "number",.str "word",.str "pattern"])):=(AJ.refl H3).new hlr
 refine⟨_,rfl,.inl ⟨rfl,_,An.of (s4 _ _ h3)⟩,l1,[true,false,false],true,rfl,rfl,s4 _ _ h3,by simp,(by show 3<=10000;decide),?_⟩
 refine⟨lr,_,_,.str "number",rfl,rfl,An.of AD,rfl,?_⟩
 exact q _ (((s1.trans s2).trans s3).trans s4)
theorem Md (EX:Exs K mg)(D:Df K mg "_law_kind" s_law_kind)(B:Bz mg):GK P w K mg base "_law_kind" (k+1) ["caught"] (Dv EX.c_NoWord "word"):=by
 refine D.Qh BL (λ_ _ _ _ _ _ us hl=>match us,hl with|[_],_=>rfl) (λvs H Q E h=>by obtain⟨a,rfl,_⟩:=h;rfl) (λf cdv A outer s H vs Q E hr h=>?_)
 obtain⟨a,rfl,ha,q⟩:=h
 refine⟨_,(AG (AI (i:=1) BL.nd rfl (by first|exact Or.inl rfl|exact Or.inr rfl) (AU (AA (AN (BA K) rfl B.isinstance AW (AA (pv 0) (AA (Ac (x:="NoNumber") (v:=.ref EX.c_NoNumber) rfl EX.m_NoNumber rfl) AB))) (AA (AN (BA K) rfl B.isinstance AW (AA (pv 0) (AA (Ac (x:="NoWord") (v:=.ref EX.c_NoWord) rfl EX.m_NoWord rfl) AB))) (AA (AN (BA K) rfl B.isinstance AW (AA (pv 0) (AA (Ac (x:="NoPattern") (v:=.ref EX.c_NoPattern) rfl EX.m_NoPattern rfl) AB))) AB)))))
 (AG (AI (i:=2) BL.nd rfl (by first|exact Or.inl rfl|exact Or.inr rfl) (AN (Bb K) rfl B.isinstance AW (AA (pv 0) (AA (Bc (AA (Ac (x:="NoPlace") (v:=.ref EX.c_NoPlace) rfl EX.m_NoPlace rfl) (AA (Ac (x:="NoRows") (v:=.ref EX.c_NoRows) rfl EX.m_NoRows rfl) (AA (Ac (x:="NoRuns") (v:=.ref EX.c_NoRuns) rfl EX.m_NoRuns rfl) (AA (Ac (x:="NoCover") (v:=.ref EX.c_NoCover) rfl EX.m_NoCover rfl) (AA (Ac (x:="NoText") (v:=.ref EX.c_NoText) rfl EX.m_NoText rfl) (AA (Ac (x:="TooMany") (v:=.ref EX.c_TooMany) rfl EX.m_TooMany rfl) (AA (Ac (x:="NoTries") (v:=.ref EX.c_NoTries) rfl EX.m_NoTries rfl) (AA (Ac (x:="NoLetter") (v:=.ref EX.c_NoLetter) rfl EX.m_NoLetter rfl) AB))))))))) AB))))
 (AG (Ag (PW.pt (CS (Az (pv 2)) (CS (Az (AN (Bb K) rfl B.isinstance AW (AA (pv 0) (AA (Bc (AA (Ac (x:="NoLeaf") (v:=.ref EX.c_NoLeaf) rfl EX.m_NoLeaf rfl) (AA (Ac (x:="NoChange") (v:=.ref EX.c_NoChange) rfl EX.m_NoChange rfl) (AA (Ac (x:="NoLine") (v:=.ref EX.c_NoLine) rfl EX.m_NoLine rfl) (AA (Ac (x:="NoTree") (v:=.ref EX.c_NoTree) rfl EX.m_NoTree rfl) AB))))) AB)))) (CN (AL Fe (E3 K (pv 1) BQ) AF (AQ _))))))
 (AE (AY AS))
 Aq)
 (AG (Ag (B4 (Az (AN (Cr K) rfl B.isinstance AW (AA (pv 0) (AA (B7 (v:=.ty "ValueError") rfl B.ValueError_ Cs rfl) AB)))))
 (AE (AY AS))
 Aq)
 (AE (AY (Ad Af (AU (AA AS (AA AS (AA AS AB)))) (E4 K (pv 1) BQ) (λ_ _=>rfl)))))))),?_⟩
 refine⟨_,rfl,a,EX.c_NoWord,_,false,rfl,ha,EX.z_NoWord,EX.w0,_,rfl,a,EX.c_NoWord,_,true,rfl,ha,EX.z_NoWord,EX.w1,_,rfl,a,EX.c_NoWord,_,false,rfl,ha,EX.z_NoWord,EX.w2,(by show 3<=sizeLine;decide),λl1 hl1=>?_⟩
 have s1:AJ H (upd H l1 (.lst [.bl false,.bl true,.bl false])):=(AJ.refl H).new hl1
 have h1:upd H l1 (.lst [.bl false,.bl true,.bl false]) l1=some (.lst ([false,true,false].map V.bl)):=AD
 show(λHH=>_) (upd H l1 (.lst [.bl false,.bl true,.bl false]))
 generalize upd H l1 (.lst [.bl false,.bl true,.bl false])=H1 at s1 h1
 have ha1:=s1 _ _ ha
 refine⟨_,rfl,(by show 8<=sizeLine;decide),λt2 ht2=>?_⟩
 have s2:AJ H1 (upd H1 t2 (.tup [V.ref EX.c_NoPlace,V.ref EX.c_NoRows,V.ref EX.c_NoRuns,V.ref EX.c_NoCover,V.ref EX.c_NoText,V.ref EX.c_TooMany,V.ref EX.c_NoTries,V.ref EX.c_NoLetter])):=(AJ.refl H1).new ht2
 have ha2:=s2 _ _ ha1
 have h2:=s2 _ _ h1
 refine⟨a,EX.c_NoWord,t2,_,false,rfl,ha2,AD,EX.z_NoWord,EX.w3,?_⟩
 show(λHH=>_) (upd H1 t2 (.tup [V.ref EX.c_NoPlace,V.ref EX.c_NoRows,V.ref EX.c_NoRuns,V.ref EX.c_NoCover,V.ref EX.c_NoText,V.ref EX.c_TooMany,V.ref EX.c_NoTries,V.ref EX.c_NoLetter]))
 generalize upd H1 t2 (.tup [V.ref EX.c_NoPlace,V.ref EX.c_NoRows,V.ref EX.c_NoRuns,V.ref EX.c_NoCover,V.ref EX.c_NoText,V.ref EX.c_TooMany,V.ref EX.c_NoTries,V.ref EX.c_NoLetter])=H2 at s2 ha2 h2
 refine⟨_,rfl,_,rfl,Ay ?_⟩
 refine⟨_,rfl,(by show 4<=sizeLine;decide),λt3 ht3=>?_⟩
 have s3:AJ H2 (upd H2 t3 (.tup [V.ref EX.c_NoLeaf,V.ref EX.c_NoChange,V.ref EX.c_NoLine,V.ref EX.c_NoTree])):=(AJ.refl H2).new ht3
 have ha3:=s3 _ _ ha2
 have h3:=s3 _ _ h2
 refine⟨a,EX.c_NoWord,t3,_,false,rfl,ha3,AD,EX.z_NoWord,EX.w4,?_⟩
 show(λHH=>_) (upd H2 t3 (.tup [V.ref EX.c_NoLeaf,V.ref EX.c_NoChange,V.ref EX.c_NoLine,V.ref EX.c_NoTree]))
 generalize upd H2 t3 (.tup [V.ref EX.c_NoLeaf,V.ref EX.c_NoChange,V.ref EX.c_NoLine,V.ref EX.c_NoTree])=H3 at s3 ha3 h3
 refine⟨_,rfl,Ay ?_⟩
 refine⟨_,rfl,.inl ⟨rfl,_,An.of h3⟩,l1,[false,true,false],true,rfl,rfl,h3,rfl,_,rfl,L2.A2 (by rfl) ?_⟩
 refine⟨_,rfl,a,EX.c_NoWord,"ValueError",true,rfl,ha3,EX.z_NoWord,EX.wv,_,rfl,Ay ?_⟩
 refine⟨(by show 3<=sizeLine;decide),λlr hlr=>?_⟩
 have s4:AJ H3 (upd H3 lr (.lst [.str "number",.str "word",.str "pattern"])):=(AJ.refl H3).new hlr
 refine⟨_,rfl,.inl ⟨rfl,_,An.of (s4 _ _ h3)⟩,l1,[false,true,false],true,rfl,rfl,s4 _ _ h3,by simp,(by show 3<=10000;decide),?_⟩
 refine⟨lr,_,_,.str "word",rfl,rfl,An.of AD,rfl,?_⟩
 exact q _ (((s1.trans s2).trans s3).trans s4)
theorem Me (EX:Exs K mg)(D:Df K mg "_law_kind" s_law_kind)(B:Bz mg):GK P w K mg base "_law_kind" (k+1) ["caught"] (Dv EX.c_NoPattern "pattern"):=by
 refine D.Qh BL (λ_ _ _ _ _ _ us hl=>match us,hl with|[_],_=>rfl) (λvs H Q E h=>by obtain⟨a,rfl,_⟩:=h;rfl) (λf cdv A outer s H vs Q E hr h=>?_)
 obtain⟨a,rfl,ha,q⟩:=h
 refine⟨_,(AG (AI (i:=1) BL.nd rfl (by first|exact Or.inl rfl|exact Or.inr rfl) (AU (AA (AN (BA K) rfl B.isinstance AW (AA (pv 0) (AA (Ac (x:="NoNumber") (v:=.ref EX.c_NoNumber) rfl EX.m_NoNumber rfl) AB))) (AA (AN (BA K) rfl B.isinstance AW (AA (pv 0) (AA (Ac (x:="NoWord") (v:=.ref EX.c_NoWord) rfl EX.m_NoWord rfl) AB))) (AA (AN (BA K) rfl B.isinstance AW (AA (pv 0) (AA (Ac (x:="NoPattern") (v:=.ref EX.c_NoPattern) rfl EX.m_NoPattern rfl) AB))) AB)))))
 (AG (AI (i:=2) BL.nd rfl (by first|exact Or.inl rfl|exact Or.inr rfl) (AN (Bb K) rfl B.isinstance AW (AA (pv 0) (AA (Bc (AA (Ac (x:="NoPlace") (v:=.ref EX.c_NoPlace) rfl EX.m_NoPlace rfl) (AA (Ac (x:="NoRows") (v:=.ref EX.c_NoRows) rfl EX.m_NoRows rfl) (AA (Ac (x:="NoRuns") (v:=.ref EX.c_NoRuns) rfl EX.m_NoRuns rfl) (AA (Ac (x:="NoCover") (v:=.ref EX.c_NoCover) rfl EX.m_NoCover rfl) (AA (Ac (x:="NoText") (v:=.ref EX.c_NoText) rfl EX.m_NoText rfl) (AA (Ac (x:="TooMany") (v:=.ref EX.c_TooMany) rfl EX.m_TooMany rfl) (AA (Ac (x:="NoTries") (v:=.ref EX.c_NoTries) rfl EX.m_NoTries rfl) (AA (Ac (x:="NoLetter") (v:=.ref EX.c_NoLetter) rfl EX.m_NoLetter rfl) AB))))))))) AB))))
 (AG (Ag (PW.pt (CS (Az (pv 2)) (CS (Az (AN (Bb K) rfl B.isinstance AW (AA (pv 0) (AA (Bc (AA (Ac (x:="NoLeaf") (v:=.ref EX.c_NoLeaf) rfl EX.m_NoLeaf rfl) (AA (Ac (x:="NoChange") (v:=.ref EX.c_NoChange) rfl EX.m_NoChange rfl) (AA (Ac (x:="NoLine") (v:=.ref EX.c_NoLine) rfl EX.m_NoLine rfl) (AA (Ac (x:="NoTree") (v:=.ref EX.c_NoTree) rfl EX.m_NoTree rfl) AB))))) AB)))) (CN (AL Fe (E3 K (pv 1) BQ) AF (AQ _))))))
 (AE (AY AS))
 Aq)
 (AG (Ag (B4 (Az (AN (Cr K) rfl B.isinstance AW (AA (pv 0) (AA (B7 (v:=.ty "ValueError") rfl B.ValueError_ Cs rfl) AB)))))
 (AE (AY AS))
 Aq)
 (AE (AY (Ad Af (AU (AA AS (AA AS (AA AS AB)))) (E4 K (pv 1) BQ) (λ_ _=>rfl)))))))),?_⟩
 refine⟨_,rfl,a,EX.c_NoPattern,_,false,rfl,ha,EX.z_NoPattern,EX.p0,_,rfl,a,EX.c_NoPattern,_,false,rfl,ha,EX.z_NoPattern,EX.p1,_,rfl,a,EX.c_NoPattern,_,true,rfl,ha,EX.z_NoPattern,EX.p2,(by show 3<=sizeLine;decide),λl1 hl1=>?_⟩
 have s1:AJ H (upd H l1 (.lst [.bl false,.bl false,.bl true])):=(AJ.refl H).new hl1
 have h1:upd H l1 (.lst [.bl false,.bl false,.bl true]) l1=some (.lst ([false,false,true].map V.bl)):=AD
 show(λHH=>_) (upd H l1 (.lst [.bl false,.bl false,.bl true]))
 generalize upd H l1 (.lst [.bl false,.bl false,.bl true])=H1 at s1 h1
 have ha1:=s1 _ _ ha
 refine⟨_,rfl,(by show 8<=sizeLine;decide),λt2 ht2=>?_⟩
 have s2:AJ H1 (upd H1 t2 (.tup [V.ref EX.c_NoPlace,V.ref EX.c_NoRows,V.ref EX.c_NoRuns,V.ref EX.c_NoCover,V.ref EX.c_NoText,V.ref EX.c_TooMany,V.ref EX.c_NoTries,V.ref EX.c_NoLetter])):=(AJ.refl H1).new ht2
 have ha2:=s2 _ _ ha1
 have h2:=s2 _ _ h1
 refine⟨a,EX.c_NoPattern,t2,_,false,rfl,ha2,AD,EX.z_NoPattern,EX.p3,?_⟩
 show(λHH=>_) (upd H1 t2 (.tup [V.ref EX.c_NoPlace,V.ref EX.c_NoRows,V.ref EX.c_NoRuns,V.ref EX.c_NoCover,V.ref EX.c_NoText,V.ref EX.c_TooMany,V.ref EX.c_NoTries,V.ref EX.c_NoLetter]))
 generalize upd H1 t2 (.tup [V.ref EX.c_NoPlace,V.ref EX.c_NoRows,V.ref EX.c_NoRuns,V.ref EX.c_NoCover,V.ref EX.c_NoText,V.ref EX.c_TooMany,V.ref EX.c_NoTries,V.ref EX.c_NoLetter])=H2 at s2 ha2 h2
 refine⟨_,rfl,_,rfl,Ay ?_⟩
 refine⟨_,rfl,(by show 4<=sizeLine;decide),λt3 ht3=>?_⟩
 have s3:AJ H2 (upd H2 t3 (.tup [V.ref EX.c_NoLeaf,V.ref EX.c_NoChange,V.ref EX.c_NoLine,V.ref EX.c_NoTree])):=(AJ.refl H2).new ht3
 have ha3:=s3 _ _ ha2
 have h3:=s3 _ _ h2
 refine⟨a,EX.c_NoPattern,t3,_,false,rfl,ha3,AD,EX.z_NoPattern,EX.p4,?_⟩
 show(λHH=>_) (upd H2 t3 (.tup [V.ref EX.c_NoLeaf,V.ref EX.c_NoChange,V.ref EX.c_NoLine,V.ref EX.c_NoTree]))
 generalize upd H2 t3 (.tup [V.ref EX.c_NoLeaf,V.ref EX.c_NoChange,V.ref EX.c_NoLine,V.ref EX.c_NoTree])=H3 at s3 ha3 h3
 refine⟨_,rfl,Ay ?_⟩
 refine⟨_,rfl,.inl ⟨rfl,_,An.of h3⟩,l1,[false,false,true],true,rfl,rfl,h3,rfl,_,rfl,L2.A2 (by rfl) ?_⟩
 refine⟨_,rfl,a,EX.c_NoPattern,"ValueError",true,rfl,ha3,EX.z_NoPattern,EX.pv,_,rfl,Ay ?_⟩
 refine⟨(by show 3<=sizeLine;decide),λlr hlr=>?_⟩
 have s4:AJ H3 (upd H3 lr (.lst [.str "number",.str "word",.str "pattern"])):=(AJ.refl H3).new hlr
 refine⟨_,rfl,.inl ⟨rfl,_,An.of (s4 _ _ h3)⟩,l1,[false,false,true],true,rfl,rfl,s4 _ _ h3,by simp,(by show 3<=10000;decide),?_⟩
 refine⟨lr,_,_,.str "pattern",rfl,rfl,An.of AD,rfl,?_⟩
 exact q _ (((s1.trans s2).trans s3).trans s4)
end
end S61
namespace S61
open PySem L2 W7
open W63 (Wr Wi enc dec star)
section
variable {P:Program}{w:World}{K:PySem.W.Frag}{mg:Str->Option Value}{base:Heap}{k:Nat}
def Kp (its:List W63.It)(ups:List Int)(lab:Str)(p:Nat):Bool:=W63.D its (W ups lab.cps.toList p) its.length (W ups lab.cps.toList p).length
def fits (its:List W63.It)(ups:List Int)(lab:Str)(n:Nat):List Nat:=(List.range n).filter (Kp its ups lab)
theorem Hh (its:List W63.It)(ups:List Int)(lab:Str)(n:Nat):fits its ups lab (n+1)=fits its ups lab n++(if Kp its ups lab n=true then[n]else[]):=by
 unfold fits
 rw[List.range_succ,List.filter_append]
 congr 1
 by_cases h:Kp its ups lab n=true
 ·rw[if_pos h,List.filter_cons_of_pos h];rfl
 ·rw[if_neg h,List.filter_cons_of_neg h];rfl
theorem PN (its:List W63.It)(ups:List Int)(lab:Str)(n:Nat):(fits its ups lab n).length<=n:=by
 have:=List.length_filter_le (Kp its ups lab) (List.range n)
 rw[List.length_range]at this;exact this
def OF (cP:Addr):Sp:=λvs H Q E=>∃(t:Addr) (ups:List Int) (lab:Str) (x:V),vs=[.ref t,x]/\Bf H t ups lab/\((∃z,x=.str z/\z.length<=100)\/BZ H x)/\(BG x->∀(v:V) (H':Hp),AJ H H'->Q v H')/\(¬BG x->∀(a:Addr) (H':Hp),AJ H H'->H' a=none->E (.ref a) (some cP) H')
theorem PQ (EX:Ex1 K mg)(D:Df K mg "whole_at" s_whole_at)(B:Bz mg)(G_items_of:Bk P w K mg base "items_of" k ["pattern"] (CM EX.c_NoPattern))(G_words_of:Bi P w K mg base "words_of" k ["tree"] C0)(G_lengths_fitting:Bi P w K mg base "lengths_fitting" k ["items","word"] FW):Bk P w K mg base "whole_at" (k+1) ["tree","pattern"] (OF EX.c_NoPattern):=by
 refine D.F2 FG (λ_ _ _ _ _ _ us hl=>match us,hl with|[_,_],_=>rfl) (λvs H Q E h=>by obtain⟨t,ups,lab,xs,rfl,_⟩:=h;rfl) (λf cdv A outer s H vs Q E hr h=>?_)
 obtain⟨t,ups,lab,x,rfl,tr,xx,q,q2⟩:=h
 refine⟨_,(AG (AI (i:=2) FG.nd rfl (by first|exact Or.inl rfl|exact Or.inr rfl) (B1 G_items_of Ba hr rfl (AA (pv 1) AB)))
 (AE (AY (CJ rfl (Dp rfl B.enumerate (AA (AR G_words_of hr rfl (AA (pv 0) AB)) AB)) (NL:=["place","word"]) (ix:=[2]) (Mj (AM s_whole_at) F6) (λcl C s₃ H₃ fp pins=>⟨(K4 K (n:=2) rfl (Ax (Ae (i:=0) (show List.Nodup (["place","word","items"]:List Str)from by decide+kernel) rfl (by first|exact Or.inl rfl|exact Or.inr rfl)) (Ax (Ae (i:=1) (show List.Nodup (["place","word","items"]:List Str)from by decide+kernel) rfl (by first|exact Or.inl rfl|exact Or.inr rfl)) CU))),(Fm (AL (Fs K) (AN Ak rfl B.len Ar (AA (pv 1) AB)) (AR G_lengths_fitting hr rfl (AA (pv 2) (AA (pv 1) AB))) (by with_unfolding_all rfl))),(pv 0)⟩))))),?_⟩
 refine⟨_,rfl,x,rfl,xx,λxs ex0 l40 ok li H1 s1 f1 it=>?_,λnb a H1 s1 ha=>q2 nb a H1 s1 ha⟩
 have gp:BG x:=by rw[ex0];exact DB l40 ok
 have x40:xs.length<=40:=Nat.le_trans (Dt xs) l40
 refine⟨_,rfl,t,ups,lab,rfl,tr.same s1,λwl H2 s2 hw=>?_⟩
 obtain⟨_,_,_,tok⟩:=id tr
 have m60:=tok.most
 have wll:(Al ups lab ups.length).length=ups.length:=by simp[Al]
 refine⟨.lst wl,rfl,⟨_,.inl hw⟩,λacc hacc=>?_⟩
 have dl:=W63.Cj xs
 refine L6 (xs:=Al ups lab ups.length) (by omega) (λj ys HY=>HY acc=some (.lst ys)/\ys=nV (fits (dec xs) ups lab j)/\AJ H2 HY)
  (λj ys HY h=>.inl (h.2.2 _ _ hw)) (λj ys HY h=>⟨h.1,by rw[h.2.1,Bu];exact PN _ _ _ _⟩) ⟨AD,rfl,(AJ.refl H2).new hacc⟩ ?_ ?_
 rotate_left
 ·rintro j x ys HY pp hx ⟨g1,rfl,g3⟩ hpp
  have jl:j < ups.length:=by
   have:=(List.getElem?_eq_some_iff.mp hx).1
   omega
  have ex:x=.str (mk (W ups lab.cps.toList j)):=by
   unfold Al at hx
   rw[List.getElem?_map,List.getElem?_range jl]at hx
   exact(Option.some.inj hx).symm
  subst ex
  have wle:=F5 tok (j+1) j (Nat.lt_succ_self _) jl
  have sP:AJ HY (upd HY pp (.tup [.int (j:Int),.str (mk (W ups lab.cps.toList j))])):=(AJ.refl HY).new hpp
  refine⟨pp,_,rfl,Ca.of AD,rfl,_,_,rfl,_,_,rfl,rfl,?_⟩
  refine⟨rfl,?_⟩
  have g1':=sP _ _ g1
  have g3':=g3.trans sP
  show(λHH=>_) (upd HY pp (.tup [.int (j:Int),.str (mk (W ups lab.cps.toList j))]))
  generalize upd HY pp (.tup [.int (j:Int),.str (mk (W ups lab.cps.toList j))])=HZ at g1' g3'
  have zl:(mk (W ups lab.cps.toList j)).length<=60:=by rw[Ai];omega
  refine⟨_,rfl,_,rfl,AK (by omega),_,rfl,_,rfl,li,dec xs,_,rfl,(it.same s2).same g3',by omega,zl,λln H5 s5 f5 h5=>?_⟩
  refine⟨ln,_,rfl,.inl (An.of h5),rfl,Ib _,_,rfl,?_⟩
  show if(Mx (V.int (((mk (W ups lab.cps.toList j)).length:Nat):Int)) _)=true then _ else _
  rw[Nx]
  have em:(mk (W ups lab.cps.toList j)).length∈C1 (dec xs) (mk (W ups lab.cps.toList j)).cps.toList ((mk (W ups lab.cps.toList j)).length+1)↔Kp (dec xs) ups lab j=true:=by
   unfold C1 Kp
   rw[List.mem_filter,List.mem_range,Bt,Ai]
   exact⟨λh=>h.2,λh=>⟨Nat.lt_succ_self _,h⟩⟩
  by_cases c:Kp (dec xs) ups lab j=true
  ·refine Bl (decide_eq_true (em.mpr c)) ?_
   exact⟨_,rfl,s5 _ _ g1',AD,by rw[Hh,if_pos c,CZ],(g3'.trans s5).write hacc⟩
  ·refine L2.A2 (decide_eq_false λz=>c (em.mp z)) ?_
   exact⟨s5 _ _ g1',by rw[Hh,if_neg c,List.append_nil],g3'.trans s5⟩
 rintro ys H3 ⟨g1,rfl,g3⟩
 rw[wll]at g1
 exact q gp _ H3 (s1.trans (s2.trans g3))
end
end S61
namespace S61
open PySem L2 W7
open W63 (Wr Wi enc dec star)
section
variable {P:Program}{w:World}{K:PySem.W.Frag}{mg:Str->Option Value}{base:Heap}{k:Nat}
def Jq (its:List W63.It)(ups:List Int)(lab:Str)(p:Nat):List Nat:=C1 its (W ups lab.cps.toList p) ((W ups lab.cps.toList p).length+1)
def Qv (its:List W63.It)(ups:List Int)(lab:Str)(n:Nat):List (Nat×Nat):=(List.range n).filterMap λp=>(Jq its ups lab p).head?.map λl=>(p,l)
theorem Jr (its:List W63.It)(ups:List Int)(lab:Str)(n:Nat):Qv its ups lab (n+1)=Qv its ups lab n++((Jq its ups lab n).head?.map λl=>(n,l)).toList:=by
 unfold Qv
 rw[List.range_succ,List.filterMap_append]
 congr 1
theorem Qw (its:List W63.It)(ups:List Int)(lab:Str)(n:Nat):(Qv its ups lab n).length<=n:=by
 have:=List.length_filterMap_le (λp=>(Jq its ups lab p).head?.map λl=>(p,l)) (List.range n)
 rw[List.length_range]at this;exact this
structure Js (H:Hp)(l:Addr)(ps:List (Nat×Nat)):Prop where
 ex:∃as:List Addr,H l=some (.lst (as.map V.ref))/\as.length=ps.length/\∀(i:Nat) (x:Nat×Nat) (a:Addr),ps[i]?=some x->as[i]?=some a->H a=some (.tup [.int (x.1:Int),.int (x.2:Int)])
theorem Js.same {H H':Hp}{l:Addr}{ps:List (Nat×Nat)}(h:Js H l ps)(s:AJ H H'):Js H' l ps:=by
 obtain⟨as,a,b,c⟩:=h
 exact⟨as,s _ _ a,b,λi x q e1 e2=>s _ _ (c i x q e1 e2)⟩
theorem Js.snoc {H:Hp}{l t:Addr}{ps:List (Nat×Nat)}{as:List Addr}{x y:Nat}(h:H l=some (.lst (as.map V.ref)))(la:as.length=ps.length)(at_:∀(i:Nat) (x:Nat×Nat) (a:Addr),ps[i]?=some x->as[i]?=some a->H a=some (.tup [.int (x.1:Int),.int (x.2:Int)]))(ht:H t=some (.tup [.int (x:Int),.int (y:Int)])):Js (upd H l (.lst (as.map V.ref++[.ref t]))) l (ps++[(x,y)]):=by
 have tup:∀{a:Addr} {zs:List V},H a=some (.tup zs)->upd H l (.lst (as.map V.ref++[.ref t])) a=some (.tup zs):=λ{a zs} e=>by
  rw[AX (λz=>by rw[z,h]at e;cases e)];exact e
 refine⟨as++[t],by rw[AD,List.map_append];rfl,by rw[List.length_append,List.length_append,la];rfl,λi q a e1 e2=>?_⟩
 rcases Nat.lt_or_ge i as.length with lt|ge
 ·rw[List.getElem?_append_left lt]at e2
  rw[List.getElem?_append_left (by omega)]at e1
  exact tup (at_ i q a e1 e2)
 ·rw[List.getElem?_append_right ge]at e2
  have hi:i=as.length:=by
   have:=(List.getElem?_eq_some_iff.mp e2).1
   simp at this
   omega
  rw[hi,Nat.sub_self]at e2
  cases e2
  rw[hi,la,List.getElem?_append_right (Nat.le_refl _),Nat.sub_self]at e1
  cases e1
  exact tup ht
def OG (cP:Addr):Sp:=λvs H Q E=>∃(t:Addr) (ups:List Int) (lab:Str) (x:V),vs=[.ref t,x]/\Bf H t ups lab/\((∃z,x=.str z/\z.length<=100)\/BZ H x)/\(BG x->∀(v:V) (H':Hp),AJ H H'->Q v H')/\(¬BG x->∀(a:Addr) (H':Hp),AJ H H'->H' a=none->E (.ref a) (some cP) H')
theorem PR (EX:Ex1 K mg)(D:Df K mg "found_at" s_found_at)(B:Bz mg)(G_items_of:Bk P w K mg base "items_of" k ["pattern"] (CM EX.c_NoPattern))(G_words_of:Bi P w K mg base "words_of" k ["tree"] C0)(G_lengths_fitting:Bi P w K mg base "lengths_fitting" k ["items","word"] FW):Bk P w K mg base "found_at" (k+1) ["tree","pattern"] (OG EX.c_NoPattern):=by
 refine D.F2 B5 (λ_ _ _ _ _ _ us hl=>match us,hl with|[_,_],_=>rfl) (λvs H Q E h=>by obtain⟨t,ups,lab,xs,rfl,_⟩:=h;rfl) (λf cdv A outer s H vs Q E hr h=>?_)
 obtain⟨t,ups,lab,x,rfl,tr,xx,q,q2⟩:=h
 refine⟨_,(AG (AI (i:=2) B5.nd rfl (by first|exact Or.inl rfl|exact Or.inr rfl) (B1 G_items_of Ba hr rfl (AA (pv 1) AB)))
 (AG (AI (i:=3) B5.nd rfl (by first|exact Or.inl rfl|exact Or.inr rfl) (AU AB))
 (AG (Bm PassesOwn.leaving rfl (Dp rfl B.enumerate (AA (AR G_words_of hr rfl (AA (pv 0) AB)) AB)) (DM rfl (Ax (Ae (i:=4) B5.nd rfl (by first|exact Or.inl rfl|exact Or.inr rfl)) (Ax (Ae (i:=5) B5.nd rfl (by first|exact Or.inl rfl|exact Or.inr rfl)) CU)))
 (AG (AI (i:=6) B5.nd rfl (by first|exact Or.inl rfl|exact Or.inr rfl) (AR G_lengths_fitting hr rfl (AA (pv 2) (AA (pv 5) AB))))
 (AE (Ag (Fg (pv 6) (λ_=>rfl))
 (AE (BW (BR PySem.F.plainAttrs_list PySem.F.slot_list_append PySem.F.type_list_append BC (pv 3) (AA (Bc (AA (pv 4) (AA (Ad Af (pv 6) AF (λ_ _=>rfl)) AB))) AB))))
 Aq))))
 (AE (AY (pv 3)))))),?_⟩
 refine⟨_,rfl,x,rfl,xx,λxs ex0 l40 ok li H1 s1 f1 it=>?_,λnb a H1 s1 ha=>q2 nb a H1 s1 ha⟩
 subst ex0
 have gp:=DB l40 ok
 have x40:xs.length<=40:=Nat.le_trans (Dt xs) l40
 refine⟨AK (show 0<=1000 by omega),λfo hfo=>?_⟩
 have s2:AJ H1 (upd H1 fo (.lst [])):=(AJ.refl H1).new hfo
 have v2:upd H1 fo (.lst []) fo=some (.lst []):=AD
 show(λHH=>_) (upd H1 fo (.lst []))
 generalize upd H1 fo (.lst [])=H2 at s2 v2
 refine⟨_,rfl,t,ups,lab,rfl,(tr.same s1).same s2,λwl H3 s3 hw=>?_⟩
 have Hfo:H fo=none:=s1.free hfo
 have nlf:li≠fo:=by obtain⟨vs,e,_⟩:=it;exact AV e hfo
 have s13:=s1.trans (s2.trans s3)
 obtain⟨_,_,_,tok⟩:=id tr
 have m60:=tok.most
 have dl:=W63.Cj xs
 have wll:(Al ups lab ups.length).length=ups.length:=by simp[Al]
 refine⟨.lst wl,rfl,⟨_,.inl hw⟩,?_⟩
 refine DU (xs:=Al ups lab ups.length) (λj σ HX=>∃o4 o5 o6:Option V,σ=[some (.ref t),some (.str (mk (enc xs))),some (.ref li),some (.ref fo),o4,o5,o6]/\AJ H HX/\HX wl=some (.lst (Al ups lab ups.length))/\Ck HX li (dec xs)/\Js HX fo (Qv (dec xs) ups lab j)) ⟨none,none,none,rfl,s13,hw,(it.same s2).same s3,⟨[],s3 _ _ v2,rfl,λi x a e=>by cases e⟩⟩
  (λj σ HX hj h=>by obtain⟨_,_,_,_,_,h,_⟩:=h;exact .inl h) ?_ ?_
 rotate_left
 ·rintro σ HX ⟨o4,o5,o6,rfl,sX,_,_,pX⟩
  rw[wll]at pX
  exact⟨_,rfl,q gp _ HX sX⟩
 rintro j x σ HX pp hx ⟨o4,o5,o6,rfl,sX,hwX,itX,pX⟩ hpp
 have jl:j < ups.length:=by
  have:=(List.getElem?_eq_some_iff.mp hx).1
  omega
 have ex:x=.str (mk (W ups lab.cps.toList j)):=by
  unfold Al at hx
  rw[List.getElem?_map,List.getElem?_range jl]at hx
  exact(Option.some.inj hx).symm
 subst ex
 have wle:=F5 tok (j+1) j (Nat.lt_succ_self _) jl
 have sP:AJ HX (upd HX pp (.tup [.int (j:Int),.str (mk (W ups lab.cps.toList j))])):=(AJ.refl HX).new hpp
 refine⟨pp,_,rfl,Ca.of AD,rfl,_,_,rfl,_,_,rfl,rfl,?_⟩
 show(λHH=>_) (upd HX pp (.tup [.int (j:Int),.str (mk (W ups lab.cps.toList j))]))
 generalize upd HX pp (.tup [.int (j:Int),.str (mk (W ups lab.cps.toList j))])=HY at sP
 have zl:(mk (W ups lab.cps.toList j)).length<=60:=by rw[Ai];omega
 refine⟨_,rfl,_,rfl,li,dec xs,_,rfl,itX.same sP,by omega,zl,λln H5 s5 f5 h5=>?_⟩
 rw[Bt,Ai]at h5
 have h5':H5 ln=some (.lst (nV (Jq (dec xs) ups lab j))):=h5
 have sZ:=sP.trans s5
 refine⟨_,rfl,_,.inl ⟨_,An.of h5',rfl⟩,?_⟩
 obtain⟨as,ha,la,at_⟩:=pX.same sZ
 have fl:=Qw (dec xs) ups lab j
 cases e:Jq (dec xs) ups lab j with
 |nil=>
  refine L2.A2 rfl ?_
  refine⟨_,_,_,rfl,sX.trans sZ,sZ _ _ hwX,itX.same sZ,?_⟩
  rw[Jr,e]
  show Js H5 fo (Qv (dec xs) ups lab j++[])
  rw[List.append_nil]
  exact⟨as,ha,la,at_⟩
 |cons l0 lr=>
  refine Bl rfl ?_
  rw[e]at h5'
  refine⟨_,rfl,.inl ⟨rfl,_,An.of ha⟩,_,rfl,_,rfl,ln,_,_,_,rfl,rfl,An.of h5',A4 (j:=0) (v:=V.int (l0:Int)) rfl,AK (show 2<=1000 by omega),λtt htt=>?_⟩
  have s6:AJ H5 (upd H5 tt (.tup [.int (j:Int),.int (l0:Int)])):=(AJ.refl H5).new htt
  have v6:upd H5 tt (.tup [.int (j:Int),.int (l0:Int)]) tt=some (.tup [.int (j:Int),.int (l0:Int)]):=AD
  show(λHH=>_) (upd H5 tt (.tup [.int (j:Int),.int (l0:Int)]))
  generalize upd H5 tt (.tup [.int (j:Int),.int (l0:Int)])=H6 at s6 v6
  have ha6:=s6 _ _ ha
  have pn:=Js.snoc (ps:=Qv (dec xs) ups lab j) ha6 la (λi x a e1 e2=>s6 _ _ (at_ i x a e1 e2)) v6
  have sW:=sZ.trans s6
  have nw:wl≠fo:=λz=>by
   have:=sW _ _ hwX
   rw[z,ha6]at this
   have e2:as.map V.ref=Al ups lab ups.length:=by injection (Option.some.inj this)
   have h0:0 < ups.length:=by omega
   have e3:=congrArg (λl=>l[0]?) e2
   simp only[Al,List.getElem?_map,List.getElem?_range h0]at e3
   cases as<;>simp at e3
  refine⟨fo,_,_,rfl,rfl,ha6,by rw[List.length_map];exact Nat.lt_of_lt_of_le (show as.length < 1000 by omega) (AK (Nat.le_refl _)),?_⟩
  refine⟨_,_,_,rfl,(sX.trans sW).write Hfo,by rw[AX nw];exact sW _ _ hwX,?_,by rw[Jr,e];exact pn⟩
  obtain⟨vs,hv,lv,av⟩:=itX.same sW
  refine⟨vs,by rw[AX nlf];exact hv,lv,λi x e1=>?_⟩
  obtain⟨a,e2,e3⟩:=av i x e1
  exact⟨a,e2,by rw[AX (λz=>by rw[z,ha6]at e3;cases e3)];exact e3⟩
end
end S61
namespace S61
open PySem L2 W7
section
variable {P:Program}{w:World}{K:PySem.W.Frag}{mg:Str->Option Value}{base:Heap}{k:Nat}
def Jt:Sp:=λvs H Q _=>∃(way:Nat) (t:Addr) (ups:List Int) (lab:Str) (x:V),vs=[.int (way:Int),.ref t,x]/\way < 8/\Bf H t ups lab/\ups.length<=6/\((∃z,x=.str z/\z.length<=100)\/BZ H x)/\(BG x->∀H':Hp,AJ H H'->Q (.str (if way=4 then Str.ofString "number" else if way=5 then Str.ofString "word" else Str.ofString "")) H')/\(¬BG x->∀H':Hp,AJ H H'->Q (.str (Str.ofString "pattern")) H')
theorem Mg (EX:Exs K mg)(D:Df K mg "_law_asked" s_law_asked)(B:Bz mg)(G_shares_of:Bk P w K mg base "shares_of" k ["pattern","word"] (Hg EX.c_NoPattern))(G_whole_at:Bk P w K mg base "whole_at" k ["tree","pattern"] (OF EX.c_NoPattern))(G_found_at:Bk P w K mg base "found_at" k ["tree","pattern"] (OG EX.c_NoPattern))(G_many_by:Bk P w K mg base "many_by" k ["tree","pattern"] (LZ EX.c_NoPattern))
 (G_word_by:Bk P w K mg base "word_by" k ["tree","pattern","number"] (N1 EX.c_NoPattern EX.c_NoNumber))(G_number_by:Bk P w K mg base "number_by" k ["tree","pattern","word"] (N2 EX.c_NoPattern EX.c_NoWord))(G_marks_of:Bk P w K mg base "marks_of" k ["tree","pattern"] (Jo EX.c_NoPattern))(G_marks_show:Bk P w K mg base "marks_show" k ["tree","pattern","thing"] (La EX.c_NoPattern))
 (GN:GK P w K mg base "_law_kind" k ["caught"] (Dv EX.c_NoNumber "number"))(GW:GK P w K mg base "_law_kind" k ["caught"] (Dv EX.c_NoWord "word"))(GP:GK P w K mg base "_law_kind" k ["caught"] (Dv EX.c_NoPattern "pattern")):Bi P w K mg base "_law_asked" (k+1) ["way","tree_here","thing"] Jt:=by
 refine D.has AH (λ_ _ _ _ _ _ us hl=>match us,hl with|[_,_,_],_=>rfl) (λvs H Q E h=>by obtain⟨way,t,ups,lab,x,rfl,_⟩:=h;rfl) (λf cdv A outer s H vs Q E hr h=>?_)
 obtain⟨way,t,ups,lab,x,rfl,w8,tr,u20,xx,q1,q2⟩:=h
 have cs:way=0\/way=1\/way=2\/way=3\/way=4\/way=5\/way=6\/way=7:=by omega
 by_cases g:BG x
 rotate_left
 ·have G_law_kind:=GP
  replace q2:=q2 g
  refine⟨_,(AG (AI (i:=3) AH.nd rfl (by first|exact Or.inl rfl|exact Or.inr rfl) AS)
 (AG (Cq (λpn xe E σ0 hx=>(AE (Ag (AL BF (pv 0) AF (AQ _))
 (AE (AI (i:=4) AH.nd rfl (by first|exact Or.inl rfl|exact Or.inr rfl) (AU (AA (Aa (AL Am (pv 0) AF (AQ _)) (AO G_shares_of hx hr rfl (AA (pv 2) (AA AS AB))) (AO G_whole_at hx hr rfl (AA (pv 1) (AA (pv 2) AB)))) AB))))
 (AE (Ag (AL BF (pv 0) AF (AQ _))
 (AE (AI (i:=4) AH.nd rfl (by first|exact Or.inl rfl|exact Or.inr rfl) (AU (AA (Aa (AL Am (pv 0) AF (AQ _)) (AO G_found_at hx hr rfl (AA (pv 1) (AA (pv 2) AB))) (AO G_many_by hx hr rfl (AA (pv 1) (AA (pv 2) AB)))) AB))))
 (AE (Ag (AL BF (pv 0) AF (AQ _))
 (AE (AI (i:=4) AH.nd rfl (by first|exact Or.inl rfl|exact Or.inr rfl) (AU (AA (Aa (AL Am (pv 0) AF (AQ _)) (AO G_word_by hx hr rfl (AA (pv 1) (AA (pv 2) (AA (Bn BD AF) AB)))) (AO G_number_by hx hr rfl (AA (pv 1) (AA (pv 2) (AA AS AB))))) AB))))
 (AE (AI (i:=4) AH.nd rfl (by first|exact Or.inl rfl|exact Or.inr rfl) (AU (AA (Aa (AL Am (pv 0) AF (AQ _)) (AO G_marks_of hx hr rfl (AA (pv 1) (AA (pv 2) AB))) (AO G_marks_show hx hr rfl (AA (pv 1) (AA (pv 2) (AA Cc AB))))) AB)))))))))))
 (ET rfl EX.m_UpError AH.nd (i:=5) rfl rfl (λa=>(AE (AI (i:=3) AH.nd rfl (by first|exact Or.inl rfl|exact Or.inr rfl) (Bw G_law_kind (Bj.BP hr a) rfl (AA (pv 5) AB)))))))
 (AE (AY (pv 3))))),?_⟩
  rcases cs with rfl|rfl|rfl|rfl|rfl|rfl|rfl|rfl
  ·refine⟨_,rfl,_,_,rfl,rfl,_,rfl,L2.Bl (decide_eq_true (by decide)) ?_⟩
   refine⟨_,rfl,rfl,_,rfl,L2.Bl (decide_eq_true rfl) ?_⟩
   refine⟨rfl,_,rfl,x,_,rfl,by decide,xx,λg2=>absurd g2 g,λ_ a H1 s1 ha=>?_⟩
   refine⟨a,EX.c_NoPattern,rfl,rfl,EX.u_NoPattern,?_⟩
   have sA:AJ H (upd H1 a (A7 a EX.c_NoPattern)):=s1.new ha
   have hA:upd H1 a (A7 a EX.c_NoPattern) a=some (A7 a EX.c_NoPattern):=AD
   generalize upd H1 a (A7 a EX.c_NoPattern)=HA at sA hA
   refine⟨_,rfl,a,rfl,hA,λH2 s2=>?_⟩
   exact⟨_,rfl,q2 _ (sA.trans s2)⟩
  ·refine⟨_,rfl,_,_,rfl,rfl,_,rfl,L2.Bl (decide_eq_true (by decide)) ?_⟩
   refine⟨_,rfl,rfl,_,rfl,L2.A2 (decide_eq_false (by decide)) ?_⟩
   refine⟨rfl,_,rfl,_,rfl,t,ups,lab,x,rfl,tr,xx,λg2=>absurd g2 g,λ_ a H1 s1 ha=>?_⟩
   refine⟨a,EX.c_NoPattern,rfl,rfl,EX.u_NoPattern,?_⟩
   have sA:AJ H (upd H1 a (A7 a EX.c_NoPattern)):=s1.new ha
   have hA:upd H1 a (A7 a EX.c_NoPattern) a=some (A7 a EX.c_NoPattern):=AD
   generalize upd H1 a (A7 a EX.c_NoPattern)=HA at sA hA
   refine⟨_,rfl,a,rfl,hA,λH2 s2=>?_⟩
   exact⟨_,rfl,q2 _ (sA.trans s2)⟩
  ·refine⟨_,rfl,_,_,rfl,rfl,_,rfl,L2.A2 (decide_eq_false (by decide)) ?_⟩
   refine⟨_,rfl,_,_,rfl,rfl,_,rfl,L2.Bl (decide_eq_true (by decide)) ?_⟩
   refine⟨_,rfl,rfl,_,rfl,L2.Bl (decide_eq_true rfl) ?_⟩
   refine⟨rfl,_,rfl,_,rfl,t,ups,lab,x,rfl,tr,xx,λg2=>absurd g2 g,λ_ a H1 s1 ha=>?_⟩
   refine⟨a,EX.c_NoPattern,rfl,rfl,EX.u_NoPattern,?_⟩
   have sA:AJ H (upd H1 a (A7 a EX.c_NoPattern)):=s1.new ha
   have hA:upd H1 a (A7 a EX.c_NoPattern) a=some (A7 a EX.c_NoPattern):=AD
   generalize upd H1 a (A7 a EX.c_NoPattern)=HA at sA hA
   refine⟨_,rfl,a,rfl,hA,λH2 s2=>?_⟩
   exact⟨_,rfl,q2 _ (sA.trans s2)⟩
  ·refine⟨_,rfl,_,_,rfl,rfl,_,rfl,L2.A2 (decide_eq_false (by decide)) ?_⟩
   refine⟨_,rfl,_,_,rfl,rfl,_,rfl,L2.Bl (decide_eq_true (by decide)) ?_⟩
   refine⟨_,rfl,rfl,_,rfl,L2.A2 (decide_eq_false (by decide)) ?_⟩
   refine⟨rfl,_,rfl,_,rfl,t,ups,lab,x,rfl,tr,u20,xx,λg2=>absurd g2 g,λ_ a H1 s1 ha=>?_⟩
   refine⟨a,EX.c_NoPattern,rfl,rfl,EX.u_NoPattern,?_⟩
   have sA:AJ H (upd H1 a (A7 a EX.c_NoPattern)):=s1.new ha
   have hA:upd H1 a (A7 a EX.c_NoPattern) a=some (A7 a EX.c_NoPattern):=AD
   generalize upd H1 a (A7 a EX.c_NoPattern)=HA at sA hA
   refine⟨_,rfl,a,rfl,hA,λH2 s2=>?_⟩
   exact⟨_,rfl,q2 _ (sA.trans s2)⟩
  ·refine⟨_,rfl,_,_,rfl,rfl,_,rfl,L2.A2 (decide_eq_false (by decide)) ?_⟩
   refine⟨_,rfl,_,_,rfl,rfl,_,rfl,L2.A2 (decide_eq_false (by decide)) ?_⟩
   refine⟨_,rfl,_,_,rfl,rfl,_,rfl,L2.Bl (decide_eq_true (by decide)) ?_⟩
   refine⟨_,rfl,rfl,_,rfl,L2.Bl (decide_eq_true rfl) ?_⟩
   refine⟨rfl,_,rfl,_,rfl,_,rfl,t,ups,lab,x,rfl,tr,u20,xx,λg2=>absurd g2 g,λ_ a H1 s1 ha=>?_⟩
   refine⟨a,EX.c_NoPattern,rfl,rfl,EX.u_NoPattern,?_⟩
   have sA:AJ H (upd H1 a (A7 a EX.c_NoPattern)):=s1.new ha
   have hA:upd H1 a (A7 a EX.c_NoPattern) a=some (A7 a EX.c_NoPattern):=AD
   generalize upd H1 a (A7 a EX.c_NoPattern)=HA at sA hA
   refine⟨_,rfl,a,rfl,hA,λH2 s2=>?_⟩
   exact⟨_,rfl,q2 _ (sA.trans s2)⟩
  ·refine⟨_,rfl,_,_,rfl,rfl,_,rfl,L2.A2 (decide_eq_false (by decide)) ?_⟩
   refine⟨_,rfl,_,_,rfl,rfl,_,rfl,L2.A2 (decide_eq_false (by decide)) ?_⟩
   refine⟨_,rfl,_,_,rfl,rfl,_,rfl,L2.Bl (decide_eq_true (by decide)) ?_⟩
   refine⟨_,rfl,rfl,_,rfl,L2.A2 (decide_eq_false (by decide)) ?_⟩
   refine⟨rfl,_,rfl,_,rfl,t,ups,lab,x,rfl,tr,u20,xx,λg2=>absurd g2 g,λ_ a H1 s1 ha=>?_⟩
   refine⟨a,EX.c_NoPattern,rfl,rfl,EX.u_NoPattern,?_⟩
   have sA:AJ H (upd H1 a (A7 a EX.c_NoPattern)):=s1.new ha
   have hA:upd H1 a (A7 a EX.c_NoPattern) a=some (A7 a EX.c_NoPattern):=AD
   generalize upd H1 a (A7 a EX.c_NoPattern)=HA at sA hA
   refine⟨_,rfl,a,rfl,hA,λH2 s2=>?_⟩
   exact⟨_,rfl,q2 _ (sA.trans s2)⟩
  ·refine⟨_,rfl,_,_,rfl,rfl,_,rfl,L2.A2 (decide_eq_false (by decide)) ?_⟩
   refine⟨_,rfl,_,_,rfl,rfl,_,rfl,L2.A2 (decide_eq_false (by decide)) ?_⟩
   refine⟨_,rfl,_,_,rfl,rfl,_,rfl,L2.A2 (decide_eq_false (by decide)) ?_⟩
   refine⟨_,rfl,rfl,_,rfl,L2.Bl (decide_eq_true rfl) ?_⟩
   refine⟨rfl,_,rfl,_,rfl,t,ups,lab,x,rfl,tr,xx,λg2=>absurd g2 g,λ_ a H1 s1 ha=>?_⟩
   refine⟨a,EX.c_NoPattern,rfl,rfl,EX.u_NoPattern,?_⟩
   have sA:AJ H (upd H1 a (A7 a EX.c_NoPattern)):=s1.new ha
   have hA:upd H1 a (A7 a EX.c_NoPattern) a=some (A7 a EX.c_NoPattern):=AD
   generalize upd H1 a (A7 a EX.c_NoPattern)=HA at sA hA
   refine⟨_,rfl,a,rfl,hA,λH2 s2=>?_⟩
   exact⟨_,rfl,q2 _ (sA.trans s2)⟩
  ·refine⟨_,rfl,_,_,rfl,rfl,_,rfl,L2.A2 (decide_eq_false (by decide)) ?_⟩
   refine⟨_,rfl,_,_,rfl,rfl,_,rfl,L2.A2 (decide_eq_false (by decide)) ?_⟩
   refine⟨_,rfl,_,_,rfl,rfl,_,rfl,L2.A2 (decide_eq_false (by decide)) ?_⟩
   refine⟨_,rfl,rfl,_,rfl,L2.A2 (decide_eq_false (by decide)) ?_⟩
   refine⟨rfl,_,rfl,_,rfl,t,ups,lab,x,rfl,tr,xx,λg2=>absurd g2 g,λ_ a H1 s1 ha=>?_⟩
   refine⟨a,EX.c_NoPattern,rfl,rfl,EX.u_NoPattern,?_⟩
   have sA:AJ H (upd H1 a (A7 a EX.c_NoPattern)):=s1.new ha
   have hA:upd H1 a (A7 a EX.c_NoPattern) a=some (A7 a EX.c_NoPattern):=AD
   generalize upd H1 a (A7 a EX.c_NoPattern)=HA at sA hA
   refine⟨_,rfl,a,rfl,hA,λH2 s2=>?_⟩
   exact⟨_,rfl,q2 _ (sA.trans s2)⟩
 replace q1:=q1 g
 rcases cs with rfl|rfl|rfl|rfl|rfl|rfl|rfl|rfl
 ·have G_law_kind:=GP
  refine⟨_,(AG (AI (i:=3) AH.nd rfl (by first|exact Or.inl rfl|exact Or.inr rfl) AS)
 (AG (Cq (λpn xe E σ0 hx=>(AE (Ag (AL BF (pv 0) AF (AQ _))
 (AE (AI (i:=4) AH.nd rfl (by first|exact Or.inl rfl|exact Or.inr rfl) (AU (AA (Aa (AL Am (pv 0) AF (AQ _)) (AO G_shares_of hx hr rfl (AA (pv 2) (AA AS AB))) (AO G_whole_at hx hr rfl (AA (pv 1) (AA (pv 2) AB)))) AB))))
 (AE (Ag (AL BF (pv 0) AF (AQ _))
 (AE (AI (i:=4) AH.nd rfl (by first|exact Or.inl rfl|exact Or.inr rfl) (AU (AA (Aa (AL Am (pv 0) AF (AQ _)) (AO G_found_at hx hr rfl (AA (pv 1) (AA (pv 2) AB))) (AO G_many_by hx hr rfl (AA (pv 1) (AA (pv 2) AB)))) AB))))
 (AE (Ag (AL BF (pv 0) AF (AQ _))
 (AE (AI (i:=4) AH.nd rfl (by first|exact Or.inl rfl|exact Or.inr rfl) (AU (AA (Aa (AL Am (pv 0) AF (AQ _)) (AO G_word_by hx hr rfl (AA (pv 1) (AA (pv 2) (AA (Bn BD AF) AB)))) (AO G_number_by hx hr rfl (AA (pv 1) (AA (pv 2) (AA AS AB))))) AB))))
 (AE (AI (i:=4) AH.nd rfl (by first|exact Or.inl rfl|exact Or.inr rfl) (AU (AA (Aa (AL Am (pv 0) AF (AQ _)) (AO G_marks_of hx hr rfl (AA (pv 1) (AA (pv 2) AB))) (AO G_marks_show hx hr rfl (AA (pv 1) (AA (pv 2) (AA Cc AB))))) AB)))))))))))
 (ET rfl EX.m_UpError AH.nd (i:=5) rfl rfl (λa=>(AE (AI (i:=3) AH.nd rfl (by first|exact Or.inl rfl|exact Or.inr rfl) (Bw G_law_kind (Bj.BP hr a) rfl (AA (pv 5) AB)))))))
 (AE (AY (pv 3))))),?_⟩
  refine⟨_,rfl,_,_,rfl,rfl,_,rfl,L2.Bl (decide_eq_true (by decide)) ?_⟩
  refine⟨_,rfl,rfl,_,rfl,L2.Bl (decide_eq_true rfl) ?_⟩
  refine⟨rfl,_,rfl,x,_,rfl,by decide,xx,λ_ v H1 s1=>?_,λng=>absurd g ng⟩
  refine⟨(by show 1<=sizeLine;decide),λl hl=>?_⟩
  exact⟨_,rfl,q1 _ (s1.new hl)⟩
 ·have G_law_kind:=GP
  refine⟨_,(AG (AI (i:=3) AH.nd rfl (by first|exact Or.inl rfl|exact Or.inr rfl) AS)
 (AG (Cq (λpn xe E σ0 hx=>(AE (Ag (AL BF (pv 0) AF (AQ _))
 (AE (AI (i:=4) AH.nd rfl (by first|exact Or.inl rfl|exact Or.inr rfl) (AU (AA (Aa (AL Am (pv 0) AF (AQ _)) (AO G_shares_of hx hr rfl (AA (pv 2) (AA AS AB))) (AO G_whole_at hx hr rfl (AA (pv 1) (AA (pv 2) AB)))) AB))))
 (AE (Ag (AL BF (pv 0) AF (AQ _))
 (AE (AI (i:=4) AH.nd rfl (by first|exact Or.inl rfl|exact Or.inr rfl) (AU (AA (Aa (AL Am (pv 0) AF (AQ _)) (AO G_found_at hx hr rfl (AA (pv 1) (AA (pv 2) AB))) (AO G_many_by hx hr rfl (AA (pv 1) (AA (pv 2) AB)))) AB))))
 (AE (Ag (AL BF (pv 0) AF (AQ _))
 (AE (AI (i:=4) AH.nd rfl (by first|exact Or.inl rfl|exact Or.inr rfl) (AU (AA (Aa (AL Am (pv 0) AF (AQ _)) (AO G_word_by hx hr rfl (AA (pv 1) (AA (pv 2) (AA (Bn BD AF) AB)))) (AO G_number_by hx hr rfl (AA (pv 1) (AA (pv 2) (AA AS AB))))) AB))))
 (AE (AI (i:=4) AH.nd rfl (by first|exact Or.inl rfl|exact Or.inr rfl) (AU (AA (Aa (AL Am (pv 0) AF (AQ _)) (AO G_marks_of hx hr rfl (AA (pv 1) (AA (pv 2) AB))) (AO G_marks_show hx hr rfl (AA (pv 1) (AA (pv 2) (AA Cc AB))))) AB)))))))))))
 (ET rfl EX.m_UpError AH.nd (i:=5) rfl rfl (λa=>(AE (AI (i:=3) AH.nd rfl (by first|exact Or.inl rfl|exact Or.inr rfl) (Bw G_law_kind (Bj.BP hr a) rfl (AA (pv 5) AB)))))))
 (AE (AY (pv 3))))),?_⟩
  refine⟨_,rfl,_,_,rfl,rfl,_,rfl,L2.Bl (decide_eq_true (by decide)) ?_⟩
  refine⟨_,rfl,rfl,_,rfl,L2.A2 (decide_eq_false (by decide)) ?_⟩
  refine⟨rfl,_,rfl,_,rfl,t,ups,lab,x,rfl,tr,xx,λ_ v H1 s1=>?_,λng=>absurd g ng⟩
  refine⟨(by show 1<=sizeLine;decide),λl hl=>?_⟩
  exact⟨_,rfl,q1 _ (s1.new hl)⟩
 ·have G_law_kind:=GP
  refine⟨_,(AG (AI (i:=3) AH.nd rfl (by first|exact Or.inl rfl|exact Or.inr rfl) AS)
 (AG (Cq (λpn xe E σ0 hx=>(AE (Ag (AL BF (pv 0) AF (AQ _))
 (AE (AI (i:=4) AH.nd rfl (by first|exact Or.inl rfl|exact Or.inr rfl) (AU (AA (Aa (AL Am (pv 0) AF (AQ _)) (AO G_shares_of hx hr rfl (AA (pv 2) (AA AS AB))) (AO G_whole_at hx hr rfl (AA (pv 1) (AA (pv 2) AB)))) AB))))
 (AE (Ag (AL BF (pv 0) AF (AQ _))
 (AE (AI (i:=4) AH.nd rfl (by first|exact Or.inl rfl|exact Or.inr rfl) (AU (AA (Aa (AL Am (pv 0) AF (AQ _)) (AO G_found_at hx hr rfl (AA (pv 1) (AA (pv 2) AB))) (AO G_many_by hx hr rfl (AA (pv 1) (AA (pv 2) AB)))) AB))))
 (AE (Ag (AL BF (pv 0) AF (AQ _))
 (AE (AI (i:=4) AH.nd rfl (by first|exact Or.inl rfl|exact Or.inr rfl) (AU (AA (Aa (AL Am (pv 0) AF (AQ _)) (AO G_word_by hx hr rfl (AA (pv 1) (AA (pv 2) (AA (Bn BD AF) AB)))) (AO G_number_by hx hr rfl (AA (pv 1) (AA (pv 2) (AA AS AB))))) AB))))
 (AE (AI (i:=4) AH.nd rfl (by first|exact Or.inl rfl|exact Or.inr rfl) (AU (AA (Aa (AL Am (pv 0) AF (AQ _)) (AO G_marks_of hx hr rfl (AA (pv 1) (AA (pv 2) AB))) (AO G_marks_show hx hr rfl (AA (pv 1) (AA (pv 2) (AA Cc AB))))) AB)))))))))))
 (ET rfl EX.m_UpError AH.nd (i:=5) rfl rfl (λa=>(AE (AI (i:=3) AH.nd rfl (by first|exact Or.inl rfl|exact Or.inr rfl) (Bw G_law_kind (Bj.BP hr a) rfl (AA (pv 5) AB)))))))
 (AE (AY (pv 3))))),?_⟩
  refine⟨_,rfl,_,_,rfl,rfl,_,rfl,L2.A2 (decide_eq_false (by decide)) ?_⟩
  refine⟨_,rfl,_,_,rfl,rfl,_,rfl,L2.Bl (decide_eq_true (by decide)) ?_⟩
  refine⟨_,rfl,rfl,_,rfl,L2.Bl (decide_eq_true rfl) ?_⟩
  refine⟨rfl,_,rfl,_,rfl,t,ups,lab,x,rfl,tr,xx,λ_ v H1 s1=>?_,λng=>absurd g ng⟩
  refine⟨(by show 1<=sizeLine;decide),λl hl=>?_⟩
  exact⟨_,rfl,q1 _ (s1.new hl)⟩
 ·have G_law_kind:=GP
  refine⟨_,(AG (AI (i:=3) AH.nd rfl (by first|exact Or.inl rfl|exact Or.inr rfl) AS)
 (AG (Cq (λpn xe E σ0 hx=>(AE (Ag (AL BF (pv 0) AF (AQ _))
 (AE (AI (i:=4) AH.nd rfl (by first|exact Or.inl rfl|exact Or.inr rfl) (AU (AA (Aa (AL Am (pv 0) AF (AQ _)) (AO G_shares_of hx hr rfl (AA (pv 2) (AA AS AB))) (AO G_whole_at hx hr rfl (AA (pv 1) (AA (pv 2) AB)))) AB))))
 (AE (Ag (AL BF (pv 0) AF (AQ _))
 (AE (AI (i:=4) AH.nd rfl (by first|exact Or.inl rfl|exact Or.inr rfl) (AU (AA (Aa (AL Am (pv 0) AF (AQ _)) (AO G_found_at hx hr rfl (AA (pv 1) (AA (pv 2) AB))) (AO G_many_by hx hr rfl (AA (pv 1) (AA (pv 2) AB)))) AB))))
 (AE (Ag (AL BF (pv 0) AF (AQ _))
 (AE (AI (i:=4) AH.nd rfl (by first|exact Or.inl rfl|exact Or.inr rfl) (AU (AA (Aa (AL Am (pv 0) AF (AQ _)) (AO G_word_by hx hr rfl (AA (pv 1) (AA (pv 2) (AA (Bn BD AF) AB)))) (AO G_number_by hx hr rfl (AA (pv 1) (AA (pv 2) (AA AS AB))))) AB))))
 (AE (AI (i:=4) AH.nd rfl (by first|exact Or.inl rfl|exact Or.inr rfl) (AU (AA (Aa (AL Am (pv 0) AF (AQ _)) (AO G_marks_of hx hr rfl (AA (pv 1) (AA (pv 2) AB))) (AO G_marks_show hx hr rfl (AA (pv 1) (AA (pv 2) (AA Cc AB))))) AB)))))))))))
 (ET rfl EX.m_UpError AH.nd (i:=5) rfl rfl (λa=>(AE (AI (i:=3) AH.nd rfl (by first|exact Or.inl rfl|exact Or.inr rfl) (Bw G_law_kind (Bj.BP hr a) rfl (AA (pv 5) AB)))))))
 (AE (AY (pv 3))))),?_⟩
  refine⟨_,rfl,_,_,rfl,rfl,_,rfl,L2.A2 (decide_eq_false (by decide)) ?_⟩
  refine⟨_,rfl,_,_,rfl,rfl,_,rfl,L2.Bl (decide_eq_true (by decide)) ?_⟩
  refine⟨_,rfl,rfl,_,rfl,L2.A2 (decide_eq_false (by decide)) ?_⟩
  refine⟨rfl,_,rfl,_,rfl,t,ups,lab,x,rfl,tr,u20,xx,λ_ v H1 s1=>?_,λng=>absurd g ng⟩
  refine⟨(by show 1<=sizeLine;decide),λl hl=>?_⟩
  exact⟨_,rfl,q1 _ (s1.new hl)⟩
 ·have G_law_kind:=GN
  refine⟨_,(AG (AI (i:=3) AH.nd rfl (by first|exact Or.inl rfl|exact Or.inr rfl) AS)
 (AG (Cq (λpn xe E σ0 hx=>(AE (Ag (AL BF (pv 0) AF (AQ _))
 (AE (AI (i:=4) AH.nd rfl (by first|exact Or.inl rfl|exact Or.inr rfl) (AU (AA (Aa (AL Am (pv 0) AF (AQ _)) (AO G_shares_of hx hr rfl (AA (pv 2) (AA AS AB))) (AO G_whole_at hx hr rfl (AA (pv 1) (AA (pv 2) AB)))) AB))))
 (AE (Ag (AL BF (pv 0) AF (AQ _))
 (AE (AI (i:=4) AH.nd rfl (by first|exact Or.inl rfl|exact Or.inr rfl) (AU (AA (Aa (AL Am (pv 0) AF (AQ _)) (AO G_found_at hx hr rfl (AA (pv 1) (AA (pv 2) AB))) (AO G_many_by hx hr rfl (AA (pv 1) (AA (pv 2) AB)))) AB))))
 (AE (Ag (AL BF (pv 0) AF (AQ _))
 (AE (AI (i:=4) AH.nd rfl (by first|exact Or.inl rfl|exact Or.inr rfl) (AU (AA (Aa (AL Am (pv 0) AF (AQ _)) (AO G_word_by hx hr rfl (AA (pv 1) (AA (pv 2) (AA (Bn BD AF) AB)))) (AO G_number_by hx hr rfl (AA (pv 1) (AA (pv 2) (AA AS AB))))) AB))))
 (AE (AI (i:=4) AH.nd rfl (by first|exact Or.inl rfl|exact Or.inr rfl) (AU (AA (Aa (AL Am (pv 0) AF (AQ _)) (AO G_marks_of hx hr rfl (AA (pv 1) (AA (pv 2) AB))) (AO G_marks_show hx hr rfl (AA (pv 1) (AA (pv 2) (AA Cc AB))))) AB)))))))))))
 (ET rfl EX.m_UpError AH.nd (i:=5) rfl rfl (λa=>(AE (AI (i:=3) AH.nd rfl (by first|exact Or.inl rfl|exact Or.inr rfl) (Bw G_law_kind (Bj.BP hr a) rfl (AA (pv 5) AB)))))))
 (AE (AY (pv 3))))),?_⟩
  refine⟨_,rfl,_,_,rfl,rfl,_,rfl,L2.A2 (decide_eq_false (by decide)) ?_⟩
  refine⟨_,rfl,_,_,rfl,rfl,_,rfl,L2.A2 (decide_eq_false (by decide)) ?_⟩
  refine⟨_,rfl,_,_,rfl,rfl,_,rfl,L2.Bl (decide_eq_true (by decide)) ?_⟩
  refine⟨_,rfl,rfl,_,rfl,L2.Bl (decide_eq_true rfl) ?_⟩
  refine⟨rfl,_,rfl,_,rfl,_,rfl,t,ups,lab,x,rfl,tr,u20,xx,λ_ a H1 s1 ha=>?_,λng=>absurd g ng⟩
  refine⟨a,EX.c_NoNumber,rfl,rfl,EX.u_NoNumber,?_⟩
  have sA:AJ H (upd H1 a (A7 a EX.c_NoNumber)):=s1.new ha
  have hA:upd H1 a (A7 a EX.c_NoNumber) a=some (A7 a EX.c_NoNumber):=AD
  generalize upd H1 a (A7 a EX.c_NoNumber)=HA at sA hA
  refine⟨_,rfl,a,rfl,hA,λH2 s2=>?_⟩
  exact⟨_,rfl,q1 _ (sA.trans s2)⟩
 ·have G_law_kind:=GW
  refine⟨_,(AG (AI (i:=3) AH.nd rfl (by first|exact Or.inl rfl|exact Or.inr rfl) AS)
 (AG (Cq (λpn xe E σ0 hx=>(AE (Ag (AL BF (pv 0) AF (AQ _))
 (AE (AI (i:=4) AH.nd rfl (by first|exact Or.inl rfl|exact Or.inr rfl) (AU (AA (Aa (AL Am (pv 0) AF (AQ _)) (AO G_shares_of hx hr rfl (AA (pv 2) (AA AS AB))) (AO G_whole_at hx hr rfl (AA (pv 1) (AA (pv 2) AB)))) AB))))
 (AE (Ag (AL BF (pv 0) AF (AQ _))
 (AE (AI (i:=4) AH.nd rfl (by first|exact Or.inl rfl|exact Or.inr rfl) (AU (AA (Aa (AL Am (pv 0) AF (AQ _)) (AO G_found_at hx hr rfl (AA (pv 1) (AA (pv 2) AB))) (AO G_many_by hx hr rfl (AA (pv 1) (AA (pv 2) AB)))) AB))))
 (AE (Ag (AL BF (pv 0) AF (AQ _))
 (AE (AI (i:=4) AH.nd rfl (by first|exact Or.inl rfl|exact Or.inr rfl) (AU (AA (Aa (AL Am (pv 0) AF (AQ _)) (AO G_word_by hx hr rfl (AA (pv 1) (AA (pv 2) (AA (Bn BD AF) AB)))) (AO G_number_by hx hr rfl (AA (pv 1) (AA (pv 2) (AA AS AB))))) AB))))
 (AE (AI (i:=4) AH.nd rfl (by first|exact Or.inl rfl|exact Or.inr rfl) (AU (AA (Aa (AL Am (pv 0) AF (AQ _)) (AO G_marks_of hx hr rfl (AA (pv 1) (AA (pv 2) AB))) (AO G_marks_show hx hr rfl (AA (pv 1) (AA (pv 2) (AA Cc AB))))) AB)))))))))))
 (ET rfl EX.m_UpError AH.nd (i:=5) rfl rfl (λa=>(AE (AI (i:=3) AH.nd rfl (by first|exact Or.inl rfl|exact Or.inr rfl) (Bw G_law_kind (Bj.BP hr a) rfl (AA (pv 5) AB)))))))
 (AE (AY (pv 3))))),?_⟩
  refine⟨_,rfl,_,_,rfl,rfl,_,rfl,L2.A2 (decide_eq_false (by decide)) ?_⟩
  refine⟨_,rfl,_,_,rfl,rfl,_,rfl,L2.A2 (decide_eq_false (by decide)) ?_⟩
  refine⟨_,rfl,_,_,rfl,rfl,_,rfl,L2.Bl (decide_eq_true (by decide)) ?_⟩
  refine⟨_,rfl,rfl,_,rfl,L2.A2 (decide_eq_false (by decide)) ?_⟩
  refine⟨rfl,_,rfl,_,rfl,t,ups,lab,x,rfl,tr,u20,xx,λ_ a H1 s1 ha=>?_,λng=>absurd g ng⟩
  refine⟨a,EX.c_NoWord,rfl,rfl,EX.u_NoWord,?_⟩
  have sA:AJ H (upd H1 a (A7 a EX.c_NoWord)):=s1.new ha
  have hA:upd H1 a (A7 a EX.c_NoWord) a=some (A7 a EX.c_NoWord):=AD
  generalize upd H1 a (A7 a EX.c_NoWord)=HA at sA hA
  refine⟨_,rfl,a,rfl,hA,λH2 s2=>?_⟩
  exact⟨_,rfl,q1 _ (sA.trans s2)⟩
 ·have G_law_kind:=GP
  refine⟨_,(AG (AI (i:=3) AH.nd rfl (by first|exact Or.inl rfl|exact Or.inr rfl) AS)
 (AG (Cq (λpn xe E σ0 hx=>(AE (Ag (AL BF (pv 0) AF (AQ _))
 (AE (AI (i:=4) AH.nd rfl (by first|exact Or.inl rfl|exact Or.inr rfl) (AU (AA (Aa (AL Am (pv 0) AF (AQ _)) (AO G_shares_of hx hr rfl (AA (pv 2) (AA AS AB))) (AO G_whole_at hx hr rfl (AA (pv 1) (AA (pv 2) AB)))) AB))))
 (AE (Ag (AL BF (pv 0) AF (AQ _))
 (AE (AI (i:=4) AH.nd rfl (by first|exact Or.inl rfl|exact Or.inr rfl) (AU (AA (Aa (AL Am (pv 0) AF (AQ _)) (AO G_found_at hx hr rfl (AA (pv 1) (AA (pv 2) AB))) (AO G_many_by hx hr rfl (AA (pv 1) (AA (pv 2) AB)))) AB))))
 (AE (Ag (AL BF (pv 0) AF (AQ _))
 (AE (AI (i:=4) AH.nd rfl (by first|exact Or.inl rfl|exact Or.inr rfl) (AU (AA (Aa (AL Am (pv 0) AF (AQ _)) (AO G_word_by hx hr rfl (AA (pv 1) (AA (pv 2) (AA (Bn BD AF) AB)))) (AO G_number_by hx hr rfl (AA (pv 1) (AA (pv 2) (AA AS AB))))) AB))))
 (AE (AI (i:=4) AH.nd rfl (by first|exact Or.inl rfl|exact Or.inr rfl) (AU (AA (Aa (AL Am (pv 0) AF (AQ _)) (AO G_marks_of hx hr rfl (AA (pv 1) (AA (pv 2) AB))) (AO G_marks_show hx hr rfl (AA (pv 1) (AA (pv 2) (AA Cc AB))))) AB)))))))))))
 (ET rfl EX.m_UpError AH.nd (i:=5) rfl rfl (λa=>(AE (AI (i:=3) AH.nd rfl (by first|exact Or.inl rfl|exact Or.inr rfl) (Bw G_law_kind (Bj.BP hr a) rfl (AA (pv 5) AB)))))))
 (AE (AY (pv 3))))),?_⟩
  refine⟨_,rfl,_,_,rfl,rfl,_,rfl,L2.A2 (decide_eq_false (by decide)) ?_⟩
  refine⟨_,rfl,_,_,rfl,rfl,_,rfl,L2.A2 (decide_eq_false (by decide)) ?_⟩
  refine⟨_,rfl,_,_,rfl,rfl,_,rfl,L2.A2 (decide_eq_false (by decide)) ?_⟩
  refine⟨_,rfl,rfl,_,rfl,L2.Bl (decide_eq_true rfl) ?_⟩
  refine⟨rfl,_,rfl,_,rfl,t,ups,lab,x,rfl,tr,xx,λ_ v H1 s1=>?_,λng=>absurd g ng⟩
  refine⟨(by show 1<=sizeLine;decide),λl hl=>?_⟩
  exact⟨_,rfl,q1 _ (s1.new hl)⟩
 ·have G_law_kind:=GP
  refine⟨_,(AG (AI (i:=3) AH.nd rfl (by first|exact Or.inl rfl|exact Or.inr rfl) AS)
 (AG (Cq (λpn xe E σ0 hx=>(AE (Ag (AL BF (pv 0) AF (AQ _))
 (AE (AI (i:=4) AH.nd rfl (by first|exact Or.inl rfl|exact Or.inr rfl) (AU (AA (Aa (AL Am (pv 0) AF (AQ _)) (AO G_shares_of hx hr rfl (AA (pv 2) (AA AS AB))) (AO G_whole_at hx hr rfl (AA (pv 1) (AA (pv 2) AB)))) AB))))
 (AE (Ag (AL BF (pv 0) AF (AQ _))
 (AE (AI (i:=4) AH.nd rfl (by first|exact Or.inl rfl|exact Or.inr rfl) (AU (AA (Aa (AL Am (pv 0) AF (AQ _)) (AO G_found_at hx hr rfl (AA (pv 1) (AA (pv 2) AB))) (AO G_many_by hx hr rfl (AA (pv 1) (AA (pv 2) AB)))) AB))))
 (AE (Ag (AL BF (pv 0) AF (AQ _))
 (AE (AI (i:=4) AH.nd rfl (by first|exact Or.inl rfl|exact Or.inr rfl) (AU (AA (Aa (AL Am (pv 0) AF (AQ _)) (AO G_word_by hx hr rfl (AA (pv 1) (AA (pv 2) (AA (Bn BD AF) AB)))) (AO G_number_by hx hr rfl (AA (pv 1) (AA (pv 2) (AA AS AB))))) AB))))
 (AE (AI (i:=4) AH.nd rfl (by first|exact Or.inl rfl|exact Or.inr rfl) (AU (AA (Aa (AL Am (pv 0) AF (AQ _)) (AO G_marks_of hx hr rfl (AA (pv 1) (AA (pv 2) AB))) (AO G_marks_show hx hr rfl (AA (pv 1) (AA (pv 2) (AA Cc AB))))) AB)))))))))))
 (ET rfl EX.m_UpError AH.nd (i:=5) rfl rfl (λa=>(AE (AI (i:=3) AH.nd rfl (by first|exact Or.inl rfl|exact Or.inr rfl) (Bw G_law_kind (Bj.BP hr a) rfl (AA (pv 5) AB)))))))
 (AE (AY (pv 3))))),?_⟩
  refine⟨_,rfl,_,_,rfl,rfl,_,rfl,L2.A2 (decide_eq_false (by decide)) ?_⟩
  refine⟨_,rfl,_,_,rfl,rfl,_,rfl,L2.A2 (decide_eq_false (by decide)) ?_⟩
  refine⟨_,rfl,_,_,rfl,rfl,_,rfl,L2.A2 (decide_eq_false (by decide)) ?_⟩
  refine⟨_,rfl,rfl,_,rfl,L2.A2 (decide_eq_false (by decide)) ?_⟩
  refine⟨rfl,_,rfl,_,rfl,t,ups,lab,x,rfl,tr,xx,λ_ v H1 s1=>?_,λng=>absurd g ng⟩
  refine⟨(by show 1<=sizeLine;decide),λl hl=>?_⟩
  exact⟨_,rfl,q1 _ (s1.new hl)⟩
end
end S61
namespace S61
open PySem L2 W7
theorem E9 (a b:Str):(a++b).length=a.length+b.length:=Array.size_append
theorem TF (z:Str):z.cps.toList.length=z.length:=Array.length_toList
theorem Ld {z:Str}{a:Int}(h:0<=a):(BY z none (some a)).length<=a.toNat/\(BY z none (some a)).length<=z.length:=by
 rw[<-TF]
 unfold BY
 rw[show(some a)=some ((a.toNat:Nat):Int)from congrArg some (by omega),HT.Dm]
 show(List.take _ _).length<=_/\(List.take _ _).length<=_
 rw[List.length_take]
 omega
theorem Ii {z:Str}{a:Int}(h:0<=a):(BY z (some a) none).length<=z.length - a.toNat:=by
 rw[<-TF]
 unfold BY
 rw[show(some a)=some ((a.toNat:Nat):Int)from congrArg some (by omega),HT.Dm,HT.Ir]
 show(List.take _ _).length<=_
 rw[List.length_take,List.length_drop,TF]
 omega
theorem foldl_size (x:Array Nat):∀(n:Nat) (a:Array Nat),(List.foldl (λx1 x2=>x1++x2) a (List.replicate n x)).size=a.size+n*x.size
 |0,a=>by simp
 |n+1,a=>by
  rw[List.replicate_succ,List.foldl_cons,foldl_size x n,Array.size_append,Nat.succ_mul];omega
theorem FU (z:Str)(n:Int):(Txt.mul z n).length<=z.length*n.toNat:=by
 unfold Txt.mul
 by_cases h:n < 1
 ·rw[if_pos h];exact Nat.zero_le _
 ·rw[if_neg h]
  by_cases h2:(n==1||z.length==0)=true
  ·rw[if_pos h2]
   rw[Bool.or_eq_true]at h2
   rcases h2 with h2|h2
   ·rw[show n=1 from eq_of_beq h2];simp
   ·rw[show z.length=0 from eq_of_beq h2];exact Nat.zero_le _
  ·rw[if_neg h2]
   show(List.foldl (λx1 x2=>x1++x2) #[] (List.replicate n.toNat z.cps)).size<=_
   rw[foldl_size,Nat.mul_comm]
   exact Nat.le_of_eq (by show 0+_=_;rw[Nat.zero_add];rfl)
theorem OH {z:Str}{n:Int}(hz:z.length<=2)(h0:-100000<=n)(h1:n<=61):MulOk z n:=by
 by_cases h:n < 1
 ·exact⟨by rw[decide_eq_false (by omega),decide_eq_false (by omega)];rfl,λk=>absurd h k,λk=>absurd h k⟩
 ·exact PyProof.Rows.mulOk_of 2 61 hz (by omega) (by omega) (by decide) (by decide)
theorem R5 {ss:List Str}{n:Int}{b:Nat}(h0:0<=n)(h1:n < (ss.length:Int))(hb:∀z∈ss,z.length<=b):∃z:Str,DP (ss.map V.str) n=some (.str z)/\z.length<=b:=by
 have hk:n.toNat < ss.length:=by omega
 have e:=A4 (xs:=ss.map V.str) (j:=n.toNat) (v:=.str ss[n.toNat]) (by rw[List.getElem?_map,List.getElem?_eq_getElem hk];rfl)
 rw[show((n.toNat:Nat):Int)=n by omega]at e
 exact⟨_,e,hb _ (List.getElem_mem hk)⟩
section
variable {P:Program}{w:World}{K:PySem.W.Frag}{mg:Str->Option Value}{base:Heap}{k:Nat}
def Hi:Sp:=λvs H Q _=>∃(p:Addr) (c:Int) (x:Str),vs=[.ref p,.str x]/\Co H p c/\0<=c/\c < 900000/\x.length<=40/\∀(z:Str) (H':Hp),Kd p (c+3) H H'->z.length<=100->Q (.str z) H'
theorem Kq (D:Df K mg "_law_spoilt" s_law_spoilt)(B:Bz mg)(G_law_draw:Bi P w K mg base "_law_draw" k ["deck_here","many"] DA)(G_law_some:Bi P w K mg base "_law_some" k ["deck_here","things"] Eb):Bi P w K mg base "_law_spoilt" (k+1) ["deck_here","text"] Hi:=by
 refine D.has A5 (λ_ _ _ _ _ _ us hl=>match us,hl with|[_,_],_=>rfl) (λvs H Q E h=>by obtain⟨p,c,x,rfl,_⟩:=h;rfl) (λf cdv A outer s H vs Q E hr h=>?_)
 obtain⟨p,c,x,rfl,hd,cc0,cc1,x40,q⟩:=h
 refine TM ?_
 refine⟨_,(Be (Pw.mk (AI (i:=2) A5.nd rfl (by first|exact Or.inl rfl|exact Or.inr rfl) (AR G_law_draw hr rfl (AA (pv 0) (AA AF AB)))))
 (Be (Pw.mk (AI (i:=3) A5.nd rfl (by first|exact Or.inl rfl|exact Or.inr rfl) (AR G_law_draw hr rfl (AA (pv 0) (AA (AZ BM (AN Ak rfl B.len Ar (AA (pv 1) AB)) AF) AB)))))
 (Be (LH (i:=4) A5.nd rfl (by first|exact Or.inl rfl|exact Or.inr rfl) (DZ.mk (AR G_law_some hr rfl (Q4.h (Au (DZ.mk (pv 0)) (Au Cz Dc))))))
 (Be (Pw.mk (AI (i:=5) A5.nd rfl (by first|exact Or.inl rfl|exact Or.inr rfl) (BK CF (pv 1) B2 (BE (pv 3)))))
 (Be (Pw.mk (AI (i:=6) A5.nd rfl (by first|exact Or.inl rfl|exact Or.inr rfl) (BK CF (pv 1) (BE (pv 3)) B2)))
 (Be (Pw.mk (AI (i:=7) A5.nd rfl (by first|exact Or.inl rfl|exact Or.inr rfl) (AU (AA (pv 1) (AA (AZ Ah (pv 5) (BK CF (pv 6) (BE AF) B2)) (AA (AZ Ah (AZ Ah (pv 5) (pv 4)) (pv 6)) (AA (AZ Ah (AZ Ah (pv 5) (pv 4)) (BK CF (pv 6) (BE AF) B2)) AB)))))))
 (Be (Pw.mk (AI (i:=7) A5.nd rfl (by first|exact Or.inl rfl|exact Or.inr rfl) (AZ Hs (pv 7) (AU (AA (AZ Ah (AZ Ah (pv 5) (QO (BK CF (pv 6) B2 (BE AF)) (BE (Bn BD AF)))) (BK CF (pv 6) (BE AF) B2)) (AA (AZ Ah (pv 6) (pv 5)) AB))))))
 (Be (LH (i:=7) A5.nd rfl (by first|exact Or.inl rfl|exact Or.inr rfl) (NT Hs (DZ.mk (pv 7)) (HP (Au (NT Ah (DZ.mk (pv 1)) (NT Ce Cz (DZ.mk (AN (Gq rfl) rfl B.max M5 (AA AF (AA (AZ Bx AF (AN Ak rfl B.len Ar (AA (pv 1) AB))) AB)))))) (Au (NT Ah (DZ.mk (pv 1)) (NT Ce Cz (DZ.mk (AN (Gq rfl) rfl B.max M5 (AA AF (AA (AZ Bx AF (AN Ak rfl B.len Ar (AA (pv 1) AB))) AB)))))) Dc)))))
 (LG (Pw.mk (AY (Ad Af (pv 7) (pv 2) (λ_ _=>rfl))))))))))))),?_⟩
 refine⟨_,rfl,p,8,c,rfl,hd,by omega,by decide,by decide,λway H1 a0 a1 kd1=>?_⟩
 refine⟨_,rfl,_,rfl,x,rfl,AK (by omega),_,_,rfl,rfl,p,_,_,rfl,kd1.deck,by omega,by omega,by omega,λat0 H2 b0 b1 kd2=>?_⟩
 refine⟨_,rfl,p,_,kd2.deck,by omega,.inr ⟨_,rfl,by decide+kernel,by decide+kernel,λch H3 hch kd3=>?_⟩⟩
 have k3:Kd p (c+3) H H3:=((kd1.trans kd2).trans kd3).mono (by omega)
 clear hch
 refine⟨_,rfl,_,rfl,_,rfl,_,rfl,AK (by omega),?_⟩
 obtain⟨i1,i2⟩:=Ld (z:=x) (a:=at0) b0
 refine⟨_,rfl,_,rfl,_,rfl,_,rfl,AK (by omega),?_⟩
 have i3:=Ii (z:=x) (a:=at0) b0
 generalize BY x none (some at0)=ahead at i1 i2
 generalize BY x (some at0) none=behind at i3
 have j1:=Ii (z:=behind) (a:=1) (by decide)
 have j2:=Ld (z:=behind) (a:=2) (by decide)
 have j3:=Ii (z:=behind) (a:=2) (by decide)
 have sg:(⟨#[ch]⟩:Str).length=1:=rfl
 have b40:at0<=40:=by omega
 refine⟨_,rfl,_,rfl,_,rfl,_,rfl,_,rfl,AK (by omega),_,_,rfl,rfl,AK (by omega),?_⟩
 refine⟨_,rfl,_,rfl,_,_,rfl,rfl,AK (by omega),_,rfl,_,_,rfl,rfl,AK (by rw[E9];omega),?_⟩
 refine⟨_,rfl,_,rfl,_,_,rfl,rfl,AK (by omega),_,rfl,_,rfl,_,rfl,AK (by omega),_,_,rfl,rfl,AK (by rw[E9];omega),?_⟩
 refine⟨(by show 4<=sizeLine;decide),λl1 hl1=>?_⟩
 obtain⟨L1,eL1,n1,bd1⟩:∃L1:List Str,[V.str x,.str (ahead++BY behind (some 1) none),.str (ahead++⟨#[ch]⟩++behind),.str (ahead++⟨#[ch]⟩++BY behind (some 1) none)]=L1.map V.str/\L1.length=4/\∀z∈L1,z.length<=100:=by
  refine⟨[x,ahead++BY behind (some 1) none,ahead++⟨#[ch]⟩++behind,ahead++⟨#[ch]⟩++BY behind (some 1) none],rfl,rfl,λz hz=>?_⟩
  simp only[List.mem_cons,List.not_mem_nil,or_false]at hz
  rcases hz with rfl|rfl|rfl|rfl
  ·omega
  ·rw[E9];omega
  ·rw[E9,E9];omega
  ·rw[E9,E9];omega
 rw[eL1]
 have k4:=k3.new (o:=.lst (L1.map V.str)) hl1
 have s4:AJ H3 (upd H3 l1 (.lst (L1.map V.str))):=(AJ.refl H3).new hl1
 have h1:upd H3 l1 (.lst (L1.map V.str)) l1=some (.lst (L1.map V.str)):=AD
 generalize upd H3 l1 (.lst (L1.map V.str))=H4 at k4 h1 s4
 refine⟨_,rfl,?_⟩
 refine⟨_,rfl,_,rfl,_,rfl,_,rfl,AK (by omega),_,rfl,_,rfl,rfl,_,rfl,AK (by omega),?_⟩
 have rl:=JC (BY behind none (some 2))
 generalize L7 (BY behind none (some 2))=rv at rl
 refine⟨_,_,rfl,rfl,AK (by omega),_,rfl,_,rfl,_,rfl,AK (by omega),_,_,rfl,rfl,AK (by rw[E9];omega),?_⟩
 refine⟨_,rfl,_,rfl,_,_,rfl,rfl,AK (by omega),(by show 2<=sizeLine;decide),λl2 hl2=>?_⟩
 obtain⟨L2,eL2,n2,bd2⟩:∃L2:List Str,[V.str (ahead++rv++BY behind (some 2) none),.str (behind++ahead)]=L2.map V.str/\L2.length=2/\∀z∈L2,z.length<=100:=by
  refine⟨[ahead++rv++BY behind (some 2) none,behind++ahead],rfl,rfl,λz hz=>?_⟩
  simp only[List.mem_cons,List.not_mem_nil,or_false]at hz
  rcases hz with rfl|rfl
  ·rw[E9,E9];omega
  ·rw[E9];omega
 rw[eL2]
 have k5:=k4.new (o:=.lst (L2.map V.str)) hl2
 have s5:AJ H4 (upd H4 l2 (.lst (L2.map V.str))):=(AJ.refl H4).new hl2
 have h2:upd H4 l2 (.lst (L2.map V.str)) l2=some (.lst (L2.map V.str)):=AD
 generalize upd H4 l2 (.lst (L2.map V.str))=H5 at k5 h2 s5
 refine⟨l1,l2,_,_,rfl,rfl,s5 _ _ h1,h2,AK (by rw[List.length_map,List.length_map];omega),λl3 hl3=>?_⟩
 rw[<-List.map_append]
 have k6:=k5.new (o:=.lst ((L1++L2).map V.str)) hl3
 have h3:upd H5 l3 (.lst ((L1++L2).map V.str)) l3=some (.lst ((L1++L2).map V.str)):=AD
 generalize upd H5 l3 (.lst ((L1++L2).map V.str))=H6 at k6 h3
 refine⟨_,rfl,?_⟩
 refine⟨_,rfl,_,rfl,x,rfl,AK (by omega),_,_,rfl,rfl,_,_,rfl,_,_,rfl,rfl,OH (by decide) (by split<;>omega) (by split<;>omega),?_⟩
 have m1:=FU (Str.ofString "a") (if 40 - ((x.length:Nat):Int) > 0 then 40 - ((x.length:Nat):Int)else 0)
 have m1':(Txt.mul (Str.ofString "a") (if 40 - ((x.length:Nat):Int) > 0 then 40 - ((x.length:Nat):Int)else 0)).length<=40:=Nat.le_trans m1 (by show 1*_<=_;split<;>omega)
 generalize Txt.mul (Str.ofString "a") (if 40 - ((x.length:Nat):Int) > 0 then 40 - ((x.length:Nat):Int)else 0)=mu1 at m1'
 refine⟨_,_,rfl,rfl,AK (by omega),?_⟩
 refine⟨_,rfl,_,rfl,x,rfl,AK (by omega),_,_,rfl,rfl,_,_,rfl,_,_,rfl,rfl,OH (by decide) (by split<;>omega) (by split<;>omega),?_⟩
 have m2:=FU (Str.ofString "z") (if 41 - ((x.length:Nat):Int) > 0 then 41 - ((x.length:Nat):Int)else 0)
 have m2':(Txt.mul (Str.ofString "z") (if 41 - ((x.length:Nat):Int) > 0 then 41 - ((x.length:Nat):Int)else 0)).length<=41:=Nat.le_trans m2 (by show 1*_<=_;split<;>omega)
 generalize Txt.mul (Str.ofString "z") (if 41 - ((x.length:Nat):Int) > 0 then 41 - ((x.length:Nat):Int)else 0)=mu2 at m2'
 refine⟨_,_,rfl,rfl,AK (by omega),(by show 2<=sizeLine;decide),λl4 hl4=>?_⟩
 obtain⟨L3,eL3,n3,bd3⟩:∃L3:List Str,[V.str (x++mu1),.str (x++mu2)]=L3.map V.str/\L3.length=2/\∀z∈L3,z.length<=100:=by
  refine⟨[x++mu1,x++mu2],rfl,rfl,λz hz=>?_⟩
  simp only[List.mem_cons,List.not_mem_nil,or_false]at hz
  rcases hz with rfl|rfl
  ·rw[E9];omega
  ·rw[E9];omega
 rw[eL3]
 have k7:=k6.new (o:=.lst (L3.map V.str)) hl4
 have s7:AJ H6 (upd H6 l4 (.lst (L3.map V.str))):=(AJ.refl H6).new hl4
 have h4:upd H6 l4 (.lst (L3.map V.str)) l4=some (.lst (L3.map V.str)):=AD
 generalize upd H6 l4 (.lst (L3.map V.str))=H7 at k7 h4 s7
 refine⟨l3,l4,_,_,rfl,rfl,s7 _ _ h3,h4,AK (by rw[List.length_map,List.length_map,List.length_append];omega),λl5 hl5=>?_⟩
 rw[<-List.map_append]
 have k8:=k7.new (o:=.lst ((L1++L2++L3).map V.str)) hl5
 obtain⟨z,hz,zl⟩:=R5 (ss:=L1++L2++L3) (n:=way) (b:=100) a0 (by rw[List.length_append,List.length_append];omega) (λz hz=>by
  rcases List.mem_append.mp hz with hz|hz
  ·rcases List.mem_append.mp hz with hz|hz
   ·exact bd1 z hz
   ·exact bd2 z hz
  ·exact bd3 z hz)
 refine⟨_,rfl,_,rfl,l5,_,_,_,rfl,rfl,An.of AD,hz,q z _ k8 zl⟩
end
end S61
namespace S61
open PySem L2 W7
open W63 (Wr Wi enc dec star)
theorem FL:∀(l:List Str) (p:Str),PyProof.Rows.risingS p l=true->(p::l).Pairwise (λa b=>¬b.cps.toList < a.cps.toList)
 |[],p,_=>List.pairwise_singleton _ _
 |x::r,p,h=>by
  have h':(!PySem.Spec.ltCps x.cps.toList p.cps.toList&&PyProof.Rows.risingS x r)=true:=h
  obtain⟨h1,h2⟩:=(Bool.and_eq_true _ _).mp h'
  have ih:=FL r x h2
  have px:¬x.cps.toList < p.cps.toList:=by
   rw[PyProof.Rows.ltCps_eq]at h1
   simpa using h1
  refine List.pairwise_cons.mpr ⟨λy hy=>?_,ih⟩
  rcases List.mem_cons.mp hy with rfl|hy
  ·exact px
  ·have xy:=List.rel_of_pairwise_cons ih hy
   exact List.not_lt.mpr (List.le_trans (List.not_lt.mp px) (List.not_lt.mp xy))
theorem Ju:∀ss:List Str,PyProof.Rows.sortedS ss=true->ss.Pairwise (λa b=>¬b.cps.toList < a.cps.toList)
 |[],_=>List.Pairwise.nil
 |x::r,h=>FL r x h
theorem Jv:∀(ss:List Str) (acc:Array Nat),(List.foldl (λacc (p:Str)=>acc++(Str.ofString "").cps++p.cps) acc ss).toList=acc.toList++(ss.map λz:Str=>z.cps.toList).flatten
 |[],acc=>by simp
 |x::r,acc=>by
  rw[List.foldl_cons,Jv r,Array.toList_append,Array.toList_append]
  have e:(Str.ofString "").cps.toList=[]:=rfl
  rw[e,List.append_nil,List.map_cons,List.flatten_cons,List.append_assoc]
theorem GS (ss:List Str):(Txt.join (Str.ofString "") ss).cps.toList=(ss.map λz:Str=>z.cps.toList).flatten:=by
 cases ss with
 |nil=>rfl
 |cons x r=>
  have:=Jv r x.cps
  rw[List.map_cons,List.flatten_cons]
  exact this
theorem Jw {ss:List Str}(nd:ss.Nodup)(srt:PyProof.Rows.sortedS ss=true)(one:∀z∈ss,∃c,z=mk [c]/\Lw c)(ne:ss≠[]):
 ∃L:List Nat,Txt.join (Str.ofString "") ss=mk L/\L≠[]/\(∀c∈L,Lw c)/\L.Pairwise (·<·)/\(ss.map (·.length)).sum+ss.length*(Str.ofString "").length<=16777216:=by
 have ex:∀(l:List Str),(∀z∈l,∃c,z=mk [c]/\Lw c)->∃L:List Nat,l=L.map (λc=>mk [c])/\∀c∈L,Lw c:=λl=>by
  induction l with
  |nil=>exact λ_=>⟨[],rfl,λc h=>nomatch h⟩
  |cons z r ih=>
   intro h
   obtain⟨L,e,lo⟩:=ih λy hy=>h y (List.mem_cons_of_mem _ hy)
   obtain⟨c,rfl,lc⟩:=h z List.mem_cons_self
   refine⟨c::L,by rw[e];rfl,λd hd=>?_⟩
   rcases List.mem_cons.mp hd with rfl|hd
   ·exact lc
   ·exact lo d hd
 obtain⟨L,rfl,lo⟩:=ex ss one
 have pw:L.Pairwise (·<·):=by
  have p1:=Ju _ srt
  rw[List.pairwise_map]at p1
  have p2:L.Pairwise (·≠·):=by
   have:((L.map λc=>mk [c])).Pairwise (·≠·):=nd
   rw[List.pairwise_map]at this
   exact this.imp λ{a b} h e=>h (by rw[e])
  refine(p1.and p2).imp λ{a b} h=>?_
  have h1:¬[b] < [a]:=h.1
  rw[List.cons_lt_cons_iff]at h1
  have:¬b < a:=λz=>h1 (.inl z)
  have:=h.2
  omega
 have l26:=W63.Dh L 97 (λc hc=>lo c hc) pw (by omega)
 refine⟨L,?_,λe=>ne (by rw[e];rfl),lo,pw,?_⟩
 ·apply BX
  rw[GS,Bt,List.map_map]
  have:∀l:List Nat,(l.map ((λz:Str=>z.cps.toList)∘λc=>mk [c])).flatten=l:=λl=>by
   induction l with
   |nil=>rfl
   |cons a l ih=>rw[List.map_cons,List.flatten_cons,ih];rfl
  exact this L
 ·have e0:(Str.ofString "").length=0:=rfl
  rw[e0,Nat.mul_zero,Nat.add_zero,List.map_map]
  have:∀l:List Nat,(l.map ((λz:Str=>z.length)∘λc=>mk [c])).sum=l.length:=λl=>by
   induction l with
   |nil=>rfl
   |cons a l ih=>rw[List.map_cons,List.sum_cons,ih,List.length_cons];show 1+_=_;omega
  rw[this];omega
structure EG (H:Hp)(l:Addr)(xs:List Wi):Prop where
 ex:∃vs:List V,H l=some (.lst vs)/\vs.length=xs.length/\∀(i:Nat) (x:Wi),xs[i]?=some x->∃a,vs[i]?=some (V.ref a)/\H a=some (.tup [.str (mk (W63.wt x)),.str (mk x.1.lets),.bl x.2])
theorem EG.same {H H':Hp}{l:Addr}{xs:List Wi}(h:EG H l xs)(s:AJ H H'):EG H' l xs:=by
 obtain⟨vs,a,b,c⟩:=h
 exact⟨vs,s _ _ a,b,λi x e=>let⟨q,e1,e2⟩:=c i x e;⟨q,e1,s _ _ e2⟩⟩
theorem EG.kd {H H':Hp}{p l:Addr}{c d:Int}{xs:List Wi}(h:EG H l xs)(k:Kd p c H H')(np:l≠p)(dk:Co H p d):EG H' l xs:=by
 obtain⟨vs,a,b,e⟩:=h
 refine⟨vs,k.keep _ _ np a,b,λi x e1=>?_⟩
 obtain⟨q,e2,e3⟩:=e i x e1
 refine⟨q,e2,k.keep _ _ (λz=>?_) e3⟩
 obtain⟨_,_,_,e4,_⟩:=dk
 rw[z]at e3;rw[e3]at e4;cases e4
section
variable {P:Program}{w:World}{K:PySem.W.Frag}{mg:Str->Option Value}{base:Heap}{k:Nat}
def Jx:Sp:=λvs H Q _=>∃(l:Addr) (xs:List Wi),vs=[.ref l]/\EG H l xs/\xs.length<=40/\(enc xs).length<=40/\∀H',AJ H H'->Q (.str (mk (enc xs))) H'
theorem Mh (D:Df K mg "_law_written" s_law_written)(B:Bz mg):Bi P w K mg base "_law_written" (k+1) ["items_here"] Jx:=by
 refine D.has F9 (λ_ _ _ _ _ _ us hl=>match us,hl with|[_],_=>rfl) (λvs H Q E h=>by obtain⟨l,xs,rfl,_⟩:=h;rfl) (λf cdv A outer s H vs Q E hr h=>?_)
 obtain⟨l,xs,rfl,it,x40,e40,q⟩:=h
 refine⟨_,(AE (AY (BR PySem.F.plainAttrs_str PySem.F.slot_str_join PySem.F.type_str_join FT AS (AA (CJ rfl (CH (pv 0)) (NL:=["text","letters","starred"]) (ix:=[]) (Mj (AM s_law_written) D5) (λcl C s₃ H₃ fp pins=>⟨(K4 K (n:=3) rfl (Ax (Ae (i:=0) (show List.Nodup (["text","letters","starred"]:List Str)from by decide+kernel) rfl (by first|exact Or.inl rfl|exact Or.inr rfl)) (Ax (Ae (i:=1) (show List.Nodup (["text","letters","starred"]:List Str)from by decide+kernel) rfl (by first|exact Or.inl rfl|exact Or.inr rfl)) (Ax (Ae (i:=2) (show List.Nodup (["text","letters","starred"]:List Str)from by decide+kernel) rfl (by first|exact Or.inl rfl|exact Or.inr rfl)) CU)))),CA,(pv 0)⟩)) AB)))),?_⟩
 obtain⟨vs,hv,lv,at_⟩:=it
 refine⟨rfl,_,rfl,l,rfl,⟨_,An.of hv⟩,λacc hacc=>?_⟩
 refine DW (K:=K) (a:=l) (xs:=vs) (by omega) (λi ys HX=>HX acc=some (.lst ys)/\AJ H HX/\ys=((xs.take i).map λx=>mk (W63.wt x)).map V.str)
  (λi ys HX h=>An.of (h.2.1 _ _ hv)) (λi ys HX h=>⟨h.1,by rw[h.2.2,List.length_map,List.length_map,List.length_take];omega⟩) ⟨AD,(AJ.refl H).new hacc,rfl⟩ ?_ ?_
 rotate_left
 ·rintro i v ys HX hx ⟨g1,g2,rfl⟩
  have il:i < xs.length:=by
   have:=(List.getElem?_eq_some_iff.mp hx).1
   omega
  obtain⟨a,e1,e2⟩:=at_ i _ (List.getElem?_eq_getElem il)
  rw[hx]at e1
  cases e1
  have tk:xs.take (i+1)=xs.take i++[xs[i]]:=by rw[List.take_succ,List.getElem?_eq_getElem il];rfl
  refine⟨a,_,rfl,Ca.of (g2 _ _ e2),rfl,_,_,rfl,_,_,rfl,_,_,rfl,rfl,?_⟩
  refine⟨rfl,_,rfl,g1,AD,g2.write hacc,?_⟩
  rw[tk,List.map_append,List.map_append];rfl
 rintro ys H1 ⟨g1,s1,rfl⟩
 rw[lv,List.take_length]at g1
 refine⟨_,acc,xs.map (λx=>mk (W63.wt x)),rfl,rfl,An.of g1,?_,?_⟩
 ·have e0:(Str.ofString "").length=0:=rfl
  have sm:∀ys:List Wi,((ys.map λx=>mk (W63.wt x)).map (·.length)).sum=(enc ys).length:=λys=>by
   induction ys with
   |nil=>rfl
   |cons y ys ih=>
    rw[List.map_cons,List.map_cons,List.sum_cons,ih,Ai]
    show _=(W63.wt y++enc ys).length
    rw[List.length_append]
  rw[e0,Nat.mul_zero,sm];omega
 ·have ej:Txt.join (Str.ofString "") (xs.map λx=>mk (W63.wt x))=mk (enc xs):=by
   apply BX
   rw[GS,Bt,List.map_map];rfl
  rw[ej]
  exact q _ s1
end
end S61
namespace S61
open PySem L2 W7
open W63 (Wr Wi enc dec star)
def Le (H:Hp)(v:V):Prop:=∃(a:Addr) (x:Wr),v=.ref a/\x.Ok/\H a=some (.tup [.str (mk x.txt),.str (mk x.lets)])/\x.txt.length<=28
theorem Le.same {H H':Hp}{v:V}(h:Le H v)(s:AJ H H'):Le H' v:=let⟨a,x,e,o,g,l⟩:=h;⟨a,x,e,o,s _ _ g,l⟩
theorem Le.kd {H H':Hp}{p:Addr}{c d:Int}{v:V}(h:Le H v)(k:Kd p c H H')(dk:Co H p d):Le H' v:=by
 obtain⟨a,x,e,o,g,l⟩:=h
 refine⟨a,x,e,o,k.keep _ _ (λz=>?_) g,l⟩
 obtain⟨_,_,_,e4,_⟩:=dk
 rw[z,e4]at g;cases g
theorem Le.write {H:Hp}{v:V}{q:Addr}{ys zs:List V}(h:Le H v)(hq:H q=some (.lst ys)):Le (upd H q (.lst zs)) v:=by
 obtain⟨a,x,e,o,g,l⟩:=h
 refine⟨a,x,e,o,?_,l⟩
 rw[AX (λz=>by rw[z,hq]at g;cases g)];exact g
theorem GU (z:Str)(lo hi:Option Int):(BY z lo hi).cps.toList=(z.cps.toList.drop (HT.CD z.length 0 lo)).take (HT.CD z.length z.length hi - HT.CD z.length 0 lo):=rfl
theorem Ij {z:Str}(h:∀x∈z.cps.toList,Lw x)(lo hi:Option Int):∀x∈(BY z lo hi).cps.toList,Lw x:=λx hx=>h x (by rw[GU]at hx;exact List.mem_of_mem_drop (List.mem_of_mem_take hx))
theorem Lf (z:Str)(lo hi:Option Int):(BY z lo hi).length<=z.length:=by
 have e:(BY z lo hi).cps.toList.length=(BY z lo hi).length:=Array.length_toList
 rw[<-e,GU,List.length_take,List.length_drop]
 have:z.cps.toList.length=z.length:=Array.length_toList
 omega
theorem PU (z:Str)(i:Nat):(BY z (some ((0:Int)+(i:Int))) (some ((0:Int)+(i:Int)+1))).length<=1:=by
 have e:(BY z (some ((0:Int)+(i:Int))) (some ((0:Int)+(i:Int)+1))).cps.toList.length=(BY z (some ((0:Int)+(i:Int))) (some ((0:Int)+(i:Int)+1))).length:=Array.length_toList
 rw[<-e,GU,List.length_take,show((0:Int)+(i:Int))=((i:Nat):Int) by omega,show((i:Nat):Int)+1=((i+1:Nat):Int) by omega,HT.Dm,HT.Dm]
 omega
theorem PV {z:Str}(l:z.length=1):∃c,z=(⟨#[c]⟩:Str):=by
 obtain⟨a⟩:=z
 obtain⟨c,e⟩:=Array.size_eq_one_iff.mp (show a.size=1 from l)
 exact⟨c,by rw[e]⟩
theorem Jy (a b:Str):(a++b).length=a.length+b.length:=by
 have e:(a++b).cps.toList.length=(a++b).length:=Array.length_toList
 rw[<-e,app_list,List.length_append]
 have e1:a.cps.toList.length=a.length:=Array.length_toList
 have e2:b.cps.toList.length=b.length:=Array.length_toList
 omega
theorem OI (b:Bool):Txt.mul (Str.ofString "*") (if b then 1 else 0)=mk (star b):=by cases b<;>decide+kernel
theorem PX (ys:List Wi):((ys.map λx=>mk (W63.wt x)).map (·.length)).sum=(enc ys).length:=by
 induction ys with
 |nil=>rfl
 |cons y ys ih=>
  rw[List.map_cons,List.map_cons,List.sum_cons,ih,Ai]
  show _=(W63.wt y++enc ys).length
  rw[List.length_append]
theorem OJ (xs:List Wi):Txt.join (Str.ofString "") (xs.map λx=>mk (W63.wt x))=mk (enc xs):=by
 apply BX
 rw[GS,Bt,List.map_map];rfl
section
variable {P:Program}{w:World}{K:PySem.W.Frag}{mg:Str->Option Value}{base:Heap}{k:Nat}
def Hj:Sp:=λvs H Q _=>∃(p:Addr) (word:Str) (most:Nat) (c:Int),vs=[.ref p,.str word,.int (most:Int)]/\Co H p c/\0<=c/\c < 900000/\word.length<=60/\(∀x∈word.cps.toList,Lw x)/\most<=40/\
 ∀(l:Addr) (xs:List Wi) (H':Hp),Kd p (c+400) H H'->H l=none->l≠p->EG H' l xs->(∀x∈xs,x.1.Ok)->(enc xs).length<=40->xs.length<=40->Q (.ref l) H'
theorem Kr (D:Df K mg "_law_items" s_law_items)(B:Bz mg)(G_law_draw:Bi P w K mg base "_law_draw" k ["deck_here","many"] DA)(G_law_some:Bi P w K mg base "_law_some" k ["deck_here","things"] Eb)(G_law_letter:Bi P w K mg base "_law_letter" k ["deck_here"] E6):Bi P w K mg base "_law_items" (k+1) ["deck_here","word","most"] Hj:=by
 refine D.has Ao (λ_ _ _ _ _ _ us hl=>match us,hl with|[_,_,_],_=>rfl) (λvs H Q E h=>by obtain⟨p,wo,m,c,rfl,_⟩:=h;rfl) (λf cdv A outer s H vs Q E hr h=>?_)
 obtain⟨p,word,most,c,rfl,dk,c0,c9,wl,wlo,m40,q⟩:=h
 refine⟨_,(AG (AI (i:=3) Ao.nd rfl (by first|exact Or.inl rfl|exact Or.inr rfl) AS)
 (AG (AI (i:=4) Ao.nd rfl (by first|exact Or.inl rfl|exact Or.inr rfl) (AU AB))
 (AG (Bm PassesOwn.never rfl (Gn rfl B.range (AA (AR G_law_draw hr rfl (AA (pv 0) (AA (AZ BM (pv 2) AF) AB))) AB)) (Ae (i:=5) Ao.nd rfl (by first|exact Or.inl rfl|exact Or.inr rfl))
 (AG (AI (i:=6) Ao.nd rfl (by first|exact Or.inl rfl|exact Or.inr rfl) (AR G_law_letter hr rfl (AA (pv 0) AB)))
 (AG (AI (i:=7) Ao.nd rfl (by first|exact Or.inl rfl|exact Or.inr rfl) (BK CF (pv 1) (BE (pv 5)) (BE (AZ BM (pv 5) AF))))
 (AG (AI (i:=8) Ao.nd rfl (by first|exact Or.inl rfl|exact Or.inr rfl) (QW (AR G_law_some hr rfl (AA (pv 0) (AA (AU (AA (pv 7) (AA (pv 7) (AA (pv 7) (AA (pv 6) AB))))) AB))) (Cd (pv 6))))
 (AG (AI (i:=9) Ao.nd rfl (by first|exact Or.inl rfl|exact Or.inr rfl) (BR PySem.F.plainAttrs_str PySem.F.slot_str_join PySem.F.type_str_join FT AS (AA (AN (CG w rfl) rfl B.sorted EC (AA (BI (DF w rfl) rfl B.set_ KN (AA (AU (AA (pv 8) (AA (pv 6) (AA (AR G_law_letter hr rfl (AA (pv 0) AB)) AB)))) AB)) AB)) AB)))
 (AG (AI (i:=10) Ao.nd rfl (by first|exact Or.inl rfl|exact Or.inr rfl) (BR PySem.F.plainAttrs_str PySem.F.slot_str_join PySem.F.type_str_join FT AS (AA (AN (CG w rfl) rfl B.sorted EC (AA (BI (Gd w rfl) rfl B.set_ KN (AA (AZ Ah (pv 8) (BK CF (BK CF (pv 3) (BE (AR G_law_draw hr rfl (AA (pv 0) (AA AF AB)))) B2) B2 (BE (AR G_law_draw hr rfl (AA (pv 0) (AA AF AB)))))) AB)) AB)) AB)))
 (AG (AI (i:=11) Ao.nd rfl (by first|exact Or.inl rfl|exact Or.inr rfl) (AU (AA (Bc (AA (pv 8) (AA (pv 8) AB))) (AA (Bc (AA (pv 8) (AA (pv 8) AB))) (AA (Bc (AA AS (AA (pv 3) AB))) AB)))))
 (AG (Bm PassesOwn.never rfl (CH (AU (AA (pv 9) (AA (pv 8) (AA (pv 3) (AA (pv 10) AB)))))) (Ae (i:=12) Ao.nd rfl (by first|exact Or.inl rfl|exact Or.inr rfl))
 (AE (BW (BR PySem.F.plainAttrs_list PySem.F.slot_list_append PySem.F.type_list_append BC (pv 11) (AA (Bc (AA (AZ Ah (AZ Ah AS (pv 12)) AS) (AA (pv 12) AB))) AB)))))
 (AG (Ek (AR G_law_some hr rfl (AA (pv 0) (AA (pv 11) AB))) (DM rfl (Ax (Ae (i:=13) Ao.nd rfl (by first|exact Or.inl rfl|exact Or.inr rfl)) (Ax (Ae (i:=12) Ao.nd rfl (by first|exact Or.inl rfl|exact Or.inr rfl)) CU))))
 (AG (AI (i:=14) Ao.nd rfl (by first|exact Or.inl rfl|exact Or.inr rfl) (Bg Am (AR G_law_draw hr rfl (AA (pv 0) (AA AF AB))) AF (AQ _)))
 (AG (AI (i:=13) Ao.nd rfl (by first|exact Or.inl rfl|exact Or.inr rfl) (AZ Ah (pv 13) (AZ Ce AS (BI Dk rfl B.int_ Fp (AA (pv 14) AB)))))
 (AE (Ag (AL Pe (AZ BM (AN Ak rfl B.len Ar (AA (BR PySem.F.plainAttrs_str PySem.F.slot_str_join PySem.F.type_str_join FT AS (AA (CJ rfl (CH (pv 4)) (NL:=["one"]) (ix:=[]) (Mj (AM s_law_items) FI) (λcl C s₃ H₃ fp pins=>⟨(Ae (i:=0) (show List.Nodup (["one"]:List Str)from by decide+kernel) rfl (by first|exact Or.inl rfl|exact Or.inr rfl)),CA,(Ad (IC K) (pv 0) AF (λ_ _=>rfl))⟩)) AB)) AB)) (AN Ak rfl B.len Ar (AA (pv 13) AB))) AF (AQ _))
 (AE (BW (BR PySem.F.plainAttrs_list PySem.F.slot_list_append PySem.F.type_list_append BC (pv 4) (AA (Bc (AA (pv 13) (AA (pv 12) (AA (pv 14) AB)))) AB))))
 Aq)))))))))))))
 (AE (AY (pv 4)))))),?_⟩
 refine⟨AK (show 0<=1000 by omega),λfo hfo=>?_⟩
 have fp:fo≠p:=dk.ne hfo
 have kd0:Kd p c H (upd H fo (.lst [])):=(Kd.refl dk).new hfo
 refine⟨_,rfl,_,rfl,_,_,rfl,rfl,p,_,_,rfl,kd0.deck,by omega,by omega,by omega,λn H1 n0 n1 kd1=>?_⟩
 have h1:H1 fo=some (.lst []):=kd1.keep _ _ fp AD
 refine⟨_,rfl,by omega,by omega,?_⟩
 refine Eo (lo:=0) (n:=n.toNat) (λi σ HX=>∃(xs:List Wi) (o5 o6 o7 o8 o9 o10 o11 o12 o13 o14:Option V),σ=[some (.ref p),some (.str word),some (.int (most:Int)),some (.str (Str.ofString "abcdefghijklmnopqrstuvwxyz")),some (.ref fo),o5,o6,o7,o8,o9,o10,o11,o12,o13,o14]/\Kd p (c+1+9*i) H HX/\EG HX fo xs/\(∀x∈xs,x.1.Ok)/\(enc xs).length<=40/\xs.length<=i)
  ⟨[],none,none,none,none,none,none,none,none,none,none,rfl,(kd0.trans kd1).mono (by omega),⟨[],h1,rfl,λi x e=>by cases e⟩,(λx h=>nomatch h),by decide,Nat.zero_le _⟩ ?_ ?_
 ·rintro i σ HX hi ⟨xs,o5,o6,o7,o8,o9,o10,o11,o12,o13,o14,rfl,kX,lX,ok,e40,xl⟩
  have i40:i < 41:=by omega
  refine⟨_,rfl,p,_,rfl,kX.deck,by omega,λch H2 lch kd2=>?_⟩
  have wb:word.length<=sizeLine:=AK (by omega)
  have kA:=(kX.trans kd2).mono (show c+1+9*i+1<=c+2+9*i by omega)
  have lA:=lX.kd kd2 fp kX.deck
  refine⟨_,rfl,_,rfl,_,rfl,_,rfl,_,_,rfl,rfl,_,rfl,word,rfl,wb,?_⟩
  have hel:=PU word i
  have heo:=Ij wlo (some ((0:Int)+(i:Int))) (some ((0:Int)+(i:Int)+1))
  generalize BY word (some ((0:Int)+(i:Int))) (some ((0:Int)+(i:Int)+1))=he at hel heo
  clear lX kX kd2
  dsimp only[FC]
  refine mid (λσ' H'=>∃o:Nat,Lw o/\σ'=[some (.ref p),some (.str word),some (.int (most:Int)),some (.str (Str.ofString "abcdefghijklmnopqrstuvwxyz")),some (.ref fo),some (.int ((0:Int)+(i:Int))),some (.str ⟨#[ch]⟩),some (.str he),some (.str ⟨#[o]⟩),o9,o10,o11,o12,o13,o14]/\Kd p (c+3+9*i) H H'/\EG H' fo xs) ?_ λE2 nx=>?_
  rotate_left
  ·refine⟨_,rfl,_,rfl,_,rfl,_,rfl,_,rfl,AK (show 4<=1000 by omega),λr hr=>?_⟩
   have s1:AJ H2 (upd H2 r (.lst [.str he,.str he,.str he,.str ⟨#[ch]⟩])):=(AJ.refl H2).new hr
   refine⟨p,_,(kA.same s1).deck,by omega,.inl ⟨r,_,rfl,AD,kA.deck.ne hr,(by show 0 < 4;decide),(by show 4<=1000;decide),λv H3 hv kd3=>?_⟩⟩
   have kB:=((kA.same s1).trans kd3).mono (show c+2+9*i+1<=c+3+9*i by omega)
   have lB:=(lA.same s1).kd kd3 fp (kA.same s1).deck
   have hv':v=.str he\/v=.str ⟨#[ch]⟩:=by
    simp only[List.mem_cons,List.not_mem_nil,or_false]at hv
    rcases hv with h|h|h|h
    ·exact .inl h
    ·exact .inl h
    ·exact .inl h
    ·exact .inr h
   rcases hv' with rfl|rfl
   ·refine⟨he,rfl,by omega,?_⟩
    by_cases h0:he.length=0
    ·rw[if_pos h0]
     exact⟨_,rfl,nx _ _ ⟨ch,lch,rfl,kB,lB⟩⟩
    ·rw[if_neg h0]
     obtain⟨o,rfl⟩:=PV (show he.length=1 by omega)
     exact nx _ _ ⟨o,heo o (by simp),rfl,kB,lB⟩
   ·refine⟨_,rfl,by show 1<=1000;omega,?_⟩
    rw[if_neg (by show¬(1=0);omega)]
    exact nx _ _ ⟨ch,lch,rfl,kB,lB⟩
  clear kA lA
  rintro σ' HA ⟨o,lo,rfl,kA,lA⟩
  have lone:∀{x:Nat},Lw x->∀y∈(⟨#[x]⟩:Str).cps.toList,Lw y:=λ{x} h y hy=>by rw[show y=x by simpa using hy];exact h
  refine mid (λσ' H'=>∃M:List Nat,M≠[]/\(∀c∈M,Lw c)/\M.Pairwise (·<·)/\σ'=[some (.ref p),some (.str word),some (.int (most:Int)),some (.str (Str.ofString "abcdefghijklmnopqrstuvwxyz")),some (.ref fo),some (.int ((0:Int)+(i:Int))),some (.str ⟨#[ch]⟩),some (.str he),some (.str ⟨#[o]⟩),some (.str (mk M)),o10,o11,o12,o13,o14]/\Kd p (c+4+9*i) H H'/\EG H' fo xs) ?_ λE2 nx=>?_
  rotate_left
  ·refine⟨rfl,_,rfl,_,rfl,_,rfl,p,_,rfl,kA.deck,by omega,λc3 H4 lc3 kd4=>?_⟩
   have kB:=(kA.trans kd4).mono (show c+3+9*i+1<=c+4+9*i by omega)
   have lB:=lA.kd kd4 fp kA.deck
   refine⟨AK (show 3<=1000 by omega),λr hr=>?_⟩
   have s1:AJ H4 (upd H4 r (.lst [.str ⟨#[o]⟩,.str ⟨#[ch]⟩,.str ⟨#[c3]⟩])):=(AJ.refl H4).new hr
   have h1:upd H4 r (.lst [.str ⟨#[o]⟩,.str ⟨#[ch]⟩,.str ⟨#[c3]⟩]) r=some (.lst [.str ⟨#[o]⟩,.str ⟨#[ch]⟩,.str ⟨#[c3]⟩]):=AD
   show(λHH=>_) (upd H4 r (.lst [.str ⟨#[o]⟩,.str ⟨#[ch]⟩,.str ⟨#[c3]⟩]))
   generalize upd H4 r (.lst [.str ⟨#[o]⟩,.str ⟨#[ch]⟩,.str ⟨#[c3]⟩])=G1 at s1 h1
   refine⟨r,[⟨#[o]⟩,⟨#[ch]⟩,⟨#[c3]⟩],rfl,An.of h1,(by show 3 < 4000;decide),λst hst=>?_⟩
   have s2:AJ G1 (upd G1 st (Cy w st [⟨#[o]⟩,⟨#[ch]⟩,⟨#[c3]⟩] 3)):=(AJ.refl G1).new hst
   refine⟨st,_,_,[⟨#[o]⟩,⟨#[ch]⟩,⟨#[c3]⟩],rfl,AD,λz hz=>hz,(by show 3 < 64;decide),λss r5 nd mem srt hr5=>?_⟩
   have hone:∀z∈ss,∃c,z=mk [c]/\Lw c:=λz hz=>by
    have:=(mem z).mp hz
    simp only[List.mem_cons,List.not_mem_nil,or_false]at this
    rcases this with rfl|rfl|rfl
    ·exact⟨o,rfl,lo⟩
    ·exact⟨ch,rfl,lch⟩
    ·exact⟨c3,rfl,lc3⟩
   obtain⟨M,ej,m0,mlo,mpw,bd⟩:=Jw nd srt hone (λe=>by have:=(mem ⟨#[o]⟩).mpr (by simp);rw[e]at this;cases this)
   have s3:AJ (upd G1 st (Cy w st [⟨#[o]⟩,⟨#[ch]⟩,⟨#[c3]⟩] 3)) (upd (upd G1 st (Cy w st [⟨#[o]⟩,⟨#[ch]⟩,⟨#[c3]⟩] 3)) r5 (.lst (ss.map V.str))):=(AJ.refl _).new hr5
   refine⟨_,r5,ss,rfl,rfl,An.of AD,bd,?_⟩
   rw[ej]
   exact nx _ _ ⟨M,m0,mlo,mpw,rfl,((kB.same s1).same s2).same s3,((lB.same s1).same s2).same s3⟩
  clear kA lA
  rintro σ' HB ⟨M,m0,mlo,mpw,rfl,kA,lA⟩
  have l26:(Str.ofString "abcdefghijklmnopqrstuvwxyz").length=26:=by decide+kernel
  refine mid (λσ' H'=>∃M2:List Nat,M2≠[]/\(∀c∈M2,Lw c)/\M2.Pairwise (·<·)/\σ'=[some (.ref p),some (.str word),some (.int (most:Int)),some (.str (Str.ofString "abcdefghijklmnopqrstuvwxyz")),some (.ref fo),some (.int ((0:Int)+(i:Int))),some (.str ⟨#[ch]⟩),some (.str he),some (.str ⟨#[o]⟩),some (.str (mk M)),some (.str (mk M2)),o11,o12,o13,o14]/\Kd p (c+6+9*i) H H'/\EG H' fo xs) ?_ λE2 nx=>?_
  rotate_left
  ·refine⟨rfl,_,rfl,_,rfl,_,rfl,p,26,_,rfl,kA.deck,by omega,by decide,by decide,λa H4 a0 a1 kd4=>?_⟩
   have kB:=kA.trans kd4
   have lB:=lA.kd kd4 fp kA.deck
   have c1:=Lf (Str.ofString "abcdefghijklmnopqrstuvwxyz") (some a) none
   have c1o:=Ij IT (some a) none
   refine⟨_,rfl,_,rfl,AK (by omega),_,rfl,p,25,_,rfl,kB.deck,by omega,by decide,by decide,λb H5 b0 b1 kd5=>?_⟩
   have kC:=(kB.trans kd5).mono (show c+4+9*i+1+1<=c+6+9*i by omega)
   have lC:=lB.kd kd5 fp kB.deck
   generalize BY (Str.ofString "abcdefghijklmnopqrstuvwxyz") (some a) none=y1 at c1 c1o
   have c2:=Lf y1 none (some b)
   have c2o:=Ij c1o none (some b)
   refine⟨_,rfl,_,rfl,AK (by omega),?_⟩
   generalize BY y1 none (some b)=y2 at c2 c2o
   have ol:(⟨#[o]⟩:Str).length=1:=rfl
   have lt:=Jy (⟨#[o]⟩:Str) y2
   have to:∀x∈((⟨#[o]⟩:Str)++y2).cps.toList,Lw x:=λx hx=>by
    rw[app_list]at hx
    rcases List.mem_append.mp hx with hx|hx
    ·exact lone lo x hx
    ·exact c2o x hx
   have tm:o∈((⟨#[o]⟩:Str)++y2).cps.toList:=by rw[app_list];simp
   refine⟨_,_,rfl,rfl,AK (by omega),?_⟩
   generalize(⟨#[o]⟩:Str)++y2=tx at lt to tm
   refine⟨tx,rfl,by omega,λst hst=>?_⟩
   have s2:AJ H5 (upd H5 st (Cy w st (tx.cps.toList.map λc=>(⟨#[c]⟩:Str)) tx.length)):=(AJ.refl H5).new hst
   have tl:tx.cps.toList.length=tx.length:=Array.length_toList
   refine⟨st,_,_,tx.cps.toList.map λc=>(⟨#[c]⟩:Str),rfl,AD,λz hz=>hz,by rw[List.length_map];omega,λss r5 nd mem srt hr5=>?_⟩
   have hone:∀z∈ss,∃c,z=mk [c]/\Lw c:=λz hz=>by
    obtain⟨x,hx,rfl⟩:=List.mem_map.mp ((mem z).mp hz)
    exact⟨x,rfl,to x hx⟩
   obtain⟨M2,ej,m0',mlo',mpw',bd⟩:=Jw nd srt hone (λe=>by have:=(mem ⟨#[o]⟩).mpr (List.mem_map.mpr ⟨o,tm,rfl⟩);rw[e]at this;cases this)
   have s3:AJ (upd H5 st (Cy w st (tx.cps.toList.map λc=>(⟨#[c]⟩:Str)) tx.length)) (upd (upd H5 st (Cy w st (tx.cps.toList.map λc=>(⟨#[c]⟩:Str)) tx.length)) r5 (.lst (ss.map V.str))):=(AJ.refl _).new hr5
   refine⟨_,r5,ss,rfl,rfl,An.of AD,bd,?_⟩
   rw[ej]
   exact nx _ _ ⟨M2,m0',mlo',mpw',rfl,(kC.same s2).same s3,(lC.same s2).same s3⟩
  clear kA lA
  rintro σ' HC ⟨M2,m0',mlo',mpw',rfl,kA,lA⟩
  have Mok:Wr.Ok (.br M):=⟨m0,mlo,mpw⟩
  have M2ok:Wr.Ok (.br M2):=⟨m0',mlo',mpw'⟩
  have ml:=W63.Dh M 97 (λc hc=>mlo c hc) mpw (by omega)
  have ml2:=W63.Dh M2 97 (λc hc=>mlo' c hc) mpw' (by omega)
  have oneok:Wr.Ok (.one o):=lo
  have fresh:∀{q:Addr} {G:Hp},Kd p (c+6+9*i) H G->G q=none->q≠p/\H q=none:=λ{q G} k h=>⟨k.deck.ne h,k.fresh h⟩
  refine mid (λσ' H'=>∃(wy:Addr) (vs:List V),σ'=[some (.ref p),some (.str word),some (.int (most:Int)),some (.str (Str.ofString "abcdefghijklmnopqrstuvwxyz")),some (.ref fo),some (.int ((0:Int)+(i:Int))),some (.str ⟨#[ch]⟩),some (.str he),some (.str ⟨#[o]⟩),some (.str (mk M)),some (.str (mk M2)),some (.ref wy),o12,o13,o14]/\Kd p (c+6+9*i) H H'/\EG H' fo xs/\H wy=none/\wy≠p/\wy≠fo/\H' wy=some (.lst vs)/\vs.length=3/\∀v∈vs,Le H' v) ?_ λE2 nx=>?_
  rotate_left
  ·refine⟨_,rfl,_,rfl,AK (show 2<=1000 by omega),λb1 hb1=>?_⟩
   have sb1:AJ HC (upd HC b1 (.tup [.str ⟨#[o]⟩,.str ⟨#[o]⟩])):=(AJ.refl HC).new hb1
   have vb1:upd HC b1 (.tup [.str ⟨#[o]⟩,.str ⟨#[o]⟩]) b1=some (.tup [.str ⟨#[o]⟩,.str ⟨#[o]⟩]):=AD
   show(λHH=>_) (upd HC b1 (.tup [.str ⟨#[o]⟩,.str ⟨#[o]⟩]))
   generalize upd HC b1 (.tup [.str ⟨#[o]⟩,.str ⟨#[o]⟩])=J1 at sb1 vb1
   refine⟨_,rfl,_,rfl,AK (show 2<=1000 by omega),λb2 hb2=>?_⟩
   have sb2:AJ J1 (upd J1 b2 (.tup [.str ⟨#[o]⟩,.str ⟨#[o]⟩])):=(AJ.refl J1).new hb2
   have vb2:upd J1 b2 (.tup [.str ⟨#[o]⟩,.str ⟨#[o]⟩]) b2=some (.tup [.str ⟨#[o]⟩,.str ⟨#[o]⟩]):=AD
   show(λHH=>_) (upd J1 b2 (.tup [.str ⟨#[o]⟩,.str ⟨#[o]⟩]))
   generalize upd J1 b2 (.tup [.str ⟨#[o]⟩,.str ⟨#[o]⟩])=J2 at sb2 vb2
   replace vb1:=sb2 _ _ vb1
   refine⟨_,rfl,AK (show 2<=1000 by omega),λb3 hb3=>?_⟩
   have sb3:AJ J2 (upd J2 b3 (.tup [.str (Str.ofString "."),.str (Str.ofString "abcdefghijklmnopqrstuvwxyz")])):=(AJ.refl J2).new hb3
   have vb3:upd J2 b3 (.tup [.str (Str.ofString "."),.str (Str.ofString "abcdefghijklmnopqrstuvwxyz")]) b3=some (.tup [.str (Str.ofString "."),.str (Str.ofString "abcdefghijklmnopqrstuvwxyz")]):=AD
   show(λHH=>_) (upd J2 b3 (.tup [.str (Str.ofString "."),.str (Str.ofString "abcdefghijklmnopqrstuvwxyz")]))
   generalize upd J2 b3 (.tup [.str (Str.ofString "."),.str (Str.ofString "abcdefghijklmnopqrstuvwxyz")])=J3 at sb3 vb3
   replace vb1:=sb3 _ _ vb1
   replace vb2:=sb3 _ _ vb2
   refine⟨AK (show 3<=1000 by omega),λwy hwy=>?_⟩
   have s13:=(sb1.trans sb2).trans sb3
   have kB:=kA.same s13
   have lB:=lA.same s13
   obtain⟨wp,wH⟩:=fresh kB hwy
   have wf:wy≠fo:=λz=>by obtain⟨vs,e,_⟩:=lB;rw[<-z,hwy]at e;cases e
   have s4:AJ J3 (upd J3 wy (.lst [.ref b1,.ref b2,.ref b3])):=(AJ.refl J3).new hwy
   refine nx _ _ ⟨wy,_,rfl,kB.same s4,lB.same s4,wH,wp,wf,AD,rfl,λv hv=>Le.same ?_ s4⟩
   simp only[List.mem_cons,List.not_mem_nil,or_false]at hv
   rcases hv with rfl|rfl|rfl
   ·exact⟨b1,.one o,rfl,oneok,vb1,(by show 1<=28;omega)⟩
   ·exact⟨b2,.one o,rfl,oneok,vb2,(by show 1<=28;omega)⟩
   ·refine⟨b3,.dot,rfl,trivial,?_,by decide⟩
    rw[vb3,Nh,show Str.ofString "."=mk [46] by decide+kernel];rfl
  clear kA lA
  rintro σ' HD ⟨wy,vs,rfl,kA,lA,wH,wp,wf,hw,wl3,wat⟩
  have e1:Str.ofString "["=mk [91]:=by decide+kernel
  have e2:Str.ofString "]"=mk [93]:=by decide+kernel
  refine mid (λσ' H'=>∃(o12:Option V) (vs:List V),σ'=[some (.ref p),some (.str word),some (.int (most:Int)),some (.str (Str.ofString "abcdefghijklmnopqrstuvwxyz")),some (.ref fo),some (.int ((0:Int)+(i:Int))),some (.str ⟨#[ch]⟩),some (.str he),some (.str ⟨#[o]⟩),some (.str (mk M)),some (.str (mk M2)),some (.ref wy),o12,o13,o14]/\Kd p (c+6+9*i) H H'/\EG H' fo xs/\H' wy=some (.lst vs)/\vs.length=7/\∀v∈vs,Le H' v) ?_ λE2 nx=>?_
  rotate_left
  ·refine⟨_,rfl,_,rfl,_,rfl,_,rfl,AK (show 4<=1000 by omega),λlr hlr=>?_⟩
   have lrw:wy≠lr:=AV hw hlr
   have slr:AJ HD (upd HD lr (.lst [.str (mk M),.str ⟨#[o]⟩,.str (Str.ofString "abcdefghijklmnopqrstuvwxyz"),.str (mk M2)])):=(AJ.refl HD).new hlr
   have vlr:upd HD lr (.lst [.str (mk M),.str ⟨#[o]⟩,.str (Str.ofString "abcdefghijklmnopqrstuvwxyz"),.str (mk M2)]) lr=some (.lst [.str (mk M),.str ⟨#[o]⟩,.str (Str.ofString "abcdefghijklmnopqrstuvwxyz"),.str (mk M2)]):=AD
   show(λHH=>_) (upd HD lr (.lst [.str (mk M),.str ⟨#[o]⟩,.str (Str.ofString "abcdefghijklmnopqrstuvwxyz"),.str (mk M2)]))
   generalize upd HD lr (.lst [.str (mk M),.str ⟨#[o]⟩,.str (Str.ofString "abcdefghijklmnopqrstuvwxyz"),.str (mk M2)])=JL at slr vlr
   replace hw:=slr _ _ hw
   refine⟨lr,rfl,⟨_,An.of vlr⟩,?_⟩
   refine Fd (K:=K) (xs:=[.str (mk M),.str ⟨#[o]⟩,.str (Str.ofString "abcdefghijklmnopqrstuvwxyz"),.str (mk M2)]) (λj σ HX=>∃(o12:Option V) (vs:List V),σ=[some (.ref p),some (.str word),some (.int (most:Int)),some (.str (Str.ofString "abcdefghijklmnopqrstuvwxyz")),some (.ref fo),some (.int ((0:Int)+(i:Int))),some (.str ⟨#[ch]⟩),some (.str he),some (.str ⟨#[o]⟩),some (.str (mk M)),some (.str (mk M2)),some (.ref wy),o12,o13,o14]/\Kd p (c+6+9*i) H HX/\EG HX fo xs/\HX lr=some (.lst [.str (mk M),.str ⟨#[o]⟩,.str (Str.ofString "abcdefghijklmnopqrstuvwxyz"),.str (mk M2)])/\HX wy=some (.lst vs)/\vs.length=3+j/\∀v∈vs,Le HX v) ⟨o12,vs,rfl,kA.same slr,lA.same slr,vlr,hw,wl3,λv hv=>(wat v hv).same slr⟩ (λj σ HX _ h=>by obtain⟨_,_,_,_,_,h,_⟩:=h;exact An.of h) ?_ ?_
   rotate_left
   ·rintro σ HX ⟨o12,vs,rfl,kX,lX,_,hwX,wl,wX⟩
    exact nx _ _ ⟨o12,vs,rfl,kX,lX,hwX,wl,wX⟩
   rintro j v σ HX hx ⟨o12,vs,rfl,kX,lX,hlX,hwX,wl,wX⟩
   have j4:j < 4:=(List.getElem?_eq_some_iff.mp hx).1
   obtain⟨N,rfl,nok⟩:∃N:List Nat,v=.str (mk N)/\Wr.Ok (.br N):=by
    have:=List.mem_of_getElem? hx
    simp only[List.mem_cons,List.not_mem_nil,or_false]at this
    rcases this with rfl|rfl|rfl|rfl
    ·exact⟨M,rfl,Mok⟩
    ·exact⟨[o],rfl,List.cons_ne_nil _ _,λc hc=>by rw[List.mem_singleton.mp hc];exact lo,List.pairwise_singleton _ _⟩
    ·exact⟨W63.OK,by rw[Nh],by decide,by decide,by decide⟩
    ·exact⟨M2,rfl,M2ok⟩
   have nl:=W63.Dh N 97 (λc hc=>nok.2.1 c hc) nok.2.2 (by omega)
   have t1:Str.ofString "["++mk N++Str.ofString "]"=mk (Wr.txt (.br N)):=by
    rw[e1,e2]
    apply BX
    rw[app_list,app_list];rfl
   refine⟨_,rfl,.inl ⟨rfl,_,An.of hwX⟩,_,rfl,_,_,rfl,rfl,by rw[e1,Ai,Ai];exact AK (by simp;omega),_,_,rfl,rfl,by rw[Jy,e1,e2,Ai,Ai,Ai];exact AK (by simp;omega),_,rfl,AK (show 2<=1000 by omega),λt ht=>?_⟩
   rw[t1]
   have s1:AJ HX (upd HX t (.tup [.str (mk (Wr.txt (.br N))),.str (mk N)])):=(AJ.refl HX).new ht
   have v1:upd HX t (.tup [.str (mk (Wr.txt (.br N))),.str (mk N)]) t=some (.tup [.str (mk (Wr.txt (.br N))),.str (mk N)]):=AD
   show(λHH=>_) (upd HX t (.tup [.str (mk (Wr.txt (.br N))),.str (mk N)]))
   generalize upd HX t (.tup [.str (mk (Wr.txt (.br N))),.str (mk N)])=HY at s1 v1
   have hwY:=s1 _ _ hwX
   have lY:=lX.same s1
   refine⟨wy,vs,_,rfl,rfl,hwY,Nat.lt_of_lt_of_le (show vs.length < 1000 by omega) (AK (Nat.le_refl _)),?_⟩
   refine⟨_,vs++[.ref t],rfl,(kX.same s1).write wH wp,?_,by rw[AX (Ne.symm lrw)];exact s1 _ _ hlX,AD,by rw[List.length_append,wl];rfl,λv hv=>Le.write ?_ hwY⟩
   ·obtain⟨us,hu,lu,au⟩:=lY
    refine⟨us,by rw[AX (Ne.symm wf)];exact hu,lu,λk x e=>?_⟩
    obtain⟨a,ea,eb⟩:=au k x e
    exact⟨a,ea,by rw[AX (λz=>by rw[z,hwY]at eb;cases eb)];exact eb⟩
   ·rcases List.mem_append.mp hv with hv|hv
    ·exact(wX v hv).same s1
    ·rw[List.mem_singleton.mp hv]
     exact⟨t,.br N,rfl,nok,v1,by show(91::(N++[93])).length<=28;simp;omega⟩
  clear kA lA hw wat
  rintro σ' HE ⟨o12,vs7,rfl,kA,lA,hw,wl7,wat⟩
  refine⟨_,rfl,_,rfl,p,_,kA.deck,by omega,.inl ⟨wy,vs7,rfl,hw,wp,by omega,by omega,λv HF hv kdF=>?_⟩⟩
  obtain⟨a,x,rfl,xok,ha,xl⟩:=(wat v hv).kd kdF kA.deck
  have kB:=kA.trans kdF
  have lB:=lA.kd kdF fp kA.deck
  refine⟨a,_,rfl,Ca.of ha,rfl,_,_,rfl,_,_,rfl,rfl,?_⟩
  refine⟨_,rfl,p,3,_,rfl,kB.deck,by omega,by decide,by decide,λn3 HG n30 n31 kdG=>⟨rfl,?_⟩⟩
  have kC:=(kB.trans kdG).mono (show c+6+9*i+1+1<=c+1+9*((i+1:Nat):Int) by omega)
  have lC:=lB.kd kdG fp kB.deck
  generalize decide (V.int n3=V.int 0)=b
  refine⟨_,rfl,_,rfl,.inr ⟨_,rfl,?_⟩⟩
  refine⟨_,_,rfl,rfl,?_,?_⟩
  ·have:(Str.ofString "*").length=1:=by decide+kernel
   exact PyProof.Rows.mulOk_of 1 60 (by omega) (by split<;>omega) (by split<;>omega) (by decide) (by decide)
  rw[OI]
  refine⟨_,_,rfl,rfl,?_,?_⟩
  ·rw[Ai,Ai]
   exact AK (by cases b<;>simp[star]<;>omega)
  have et:mk x.txt++mk (star b)=mk (W63.wt (x,b)):=BX (by rw[app_list];rfl)
  rw[et]
  have wtl:(W63.wt (x,b)).length<=29:=by unfold W63.wt;rw[List.length_append];cases b<;>simp[star]<;>omega
  clear kA lA kB lB ha wat hw
  obtain⟨us,hu,lu,au⟩:=id lC
  refine⟨rfl,_,rfl,fo,rfl,⟨_,An.of hu⟩,λacc hacc=>?_⟩
  refine DW (K:=K) (a:=fo) (xs:=us) (by omega) (λj ys HX=>HX acc=some (.lst ys)/\AJ HG HX/\ys=((xs.take j).map λx=>mk (W63.wt x)).map V.str)
   (λj ys HX h=>An.of (h.2.1 _ _ hu)) (λj ys HX h=>⟨h.1,by rw[h.2.2,List.length_map,List.length_map,List.length_take];omega⟩) ⟨AD,(AJ.refl HG).new hacc,rfl⟩ ?_ ?_
  rotate_left
  ·rintro j v ys HX hx ⟨g1,g2,rfl⟩
   have il:j < xs.length:=by
    have:=(List.getElem?_eq_some_iff.mp hx).1
    omega
   obtain⟨a,e1,e2⟩:=au j _ (List.getElem?_eq_getElem il)
   rw[hx]at e1
   cases e1
   have tk:xs.take (j+1)=xs.take j++[xs[j]]:=by rw[List.take_succ,List.getElem?_eq_getElem il];rfl
   refine⟨rfl,_,rfl,a,_,_,_,rfl,rfl,Ca.of (g2 _ _ e2),rfl,g1,AD,g2.write hacc,?_⟩
   rw[tk,List.map_append,List.map_append];rfl
  rintro ys HI ⟨g1,sI,rfl⟩
  rw[lu,List.take_length]at g1
  refine⟨_,acc,xs.map (λx=>mk (W63.wt x)),rfl,rfl,An.of g1,by rw[PX,show(Str.ofString "").length=0 from rfl];omega,?_⟩
  rw[OJ]
  refine⟨_,rfl,by rw[Ai];exact AK (by omega),_,rfl,_,rfl,by rw[Ai];exact AK (by omega),_,_,rfl,rfl,_,_,rfl,rfl,_,rfl,?_⟩
  rw[Ai,Ai]
  have kI:=kC.same sI
  have lI:=lC.same sI
  refine Ht (λcc=>?_) (λcc=>?_)
  ·have cc':((enc xs).length:Int)+((W63.wt (x,b)).length:Int)<=40:=of_decide_eq_true cc
   obtain⟨us,hu,lu,au⟩:=lI
   refine⟨_,rfl,.inl ⟨rfl,_,An.of hu⟩,_,rfl,_,rfl,_,rfl,AK (show 3<=1000 by omega),λt ht=>?_⟩
   have s1:AJ HI (upd HI t (.tup [.str (mk (W63.wt (x,b))),.str (mk x.lets),.bl b])):=(AJ.refl HI).new ht
   have v1:upd HI t (.tup [.str (mk (W63.wt (x,b))),.str (mk x.lets),.bl b]) t=some (.tup [.str (mk (W63.wt (x,b))),.str (mk x.lets),.bl b]):=AD
   show(λHH=>_) (upd HI t (.tup [.str (mk (W63.wt (x,b))),.str (mk x.lets),.bl b]))
   generalize upd HI t (.tup [.str (mk (W63.wt (x,b))),.str (mk x.lets),.bl b])=HJ at s1 v1
   have huJ:=s1 _ _ hu
   refine⟨fo,us,_,rfl,rfl,huJ,Nat.lt_of_lt_of_le (show us.length < 1000 by omega) (AK (Nat.le_refl _)),?_⟩
   refine⟨xs++[(x,b)],_,_,_,_,_,_,_,_,_,_,rfl,(kI.same s1).write hfo fp,⟨us++[.ref t],AD,by rw[List.length_append,List.length_append,lu];rfl,λk y e=>?_⟩,λy hy=>?_,?_,by rw[List.length_append];show xs.length+1<=_;omega⟩
   ·have tup:∀{a:Addr} {zs:List V},HJ a=some (.tup zs)->upd HJ fo (.lst (us++[.ref t])) a=some (.tup zs):=λ{a zs} h=>by
     rw[AX (λz=>by rw[z,huJ]at h;cases h)];exact h
    rcases Nat.lt_or_ge k xs.length with h|h
    ·rw[List.getElem?_append_left h]at e
     obtain⟨a,e1,e2⟩:=au k y e
     exact⟨a,by rw[List.getElem?_append_left (by omega)];exact e1,tup (s1 _ _ e2)⟩
    ·rw[List.getElem?_append_right h]at e
     have hk:k=xs.length:=by
      have:=(List.getElem?_eq_some_iff.mp e).1
      simp at this
      omega
     rw[hk,Nat.sub_self]at e
     cases e
     exact⟨t,by rw[hk,List.getElem?_append_right (by omega),lu,Nat.sub_self];rfl,tup v1⟩
   ·rcases List.mem_append.mp hy with hy|hy
    ·exact ok y hy
    ·rw[List.mem_singleton.mp hy];exact xok
   ·rw[W63.LO,List.length_append]
    have:enc [(x,b)]=W63.wt (x,b):=by show W63.wt (x,b)++[]=_;rw[List.append_nil]
    rw[this];omega
  ·exact⟨xs,_,_,_,_,_,_,_,_,_,_,rfl,kI,lI,ok,e40,by omega⟩
 ·rintro σ HX ⟨xs,o5,o6,o7,o8,o9,o10,o11,o12,o13,o14,rfl,kX,lX,ok,e40,xl⟩
  exact⟨_,rfl,q fo xs HX (kX.mono (by omega)) hfo fp lX ok e40 (by omega)⟩
end
end S61
namespace S61
open PySem L2 W7
open W63 (Wr Wi enc dec star)
theorem Pr {ups:List Int}{lab:List Nat}(ok:Br ups lab)(lw:∀c∈lab,Lw c):∀(n i:Nat),i < n->i < ups.length->∀c∈W ups lab i,Lw c
 |0,i,h,_=>absurd h (Nat.not_lt_zero _)
 |n+1,i,h,hi=>by
  rw[JV ok hi]
  have hc:Lw (lab.getD i 0):=by
   rw[List.getD_eq_getElem?_getD,List.getElem?_eq_getElem (by have:=ok.len;omega)]
   exact lw _ (List.getElem_mem _)
  split
  ·exact λc hc'=>by rw[List.mem_singleton.mp hc'];exact hc
  ·rename_i hn
   have lt:=ok.lt hi hn
   intro c hc'
   rcases List.mem_cons.mp hc' with rfl|hc'
   ·exact hc
   ·exact Pr ok lw n _ (by omega) (by omega) c hc'
def OL (H:Hp)(p:Addr)(x:V):Prop:=((∃z,x=.str z/\z.length<=100)\/BZ H x)/\x≠.ref p
theorem OL.same {H H':Hp}{p:Addr}{x:V}(h:OL H p x)(s:AJ H H'):OL H' p x:=⟨h.1.imp id λn=>n.same s,h.2⟩
theorem OL.kd {H H':Hp}{p:Addr}{c:Int}{x:V}(h:OL H p x)(k:Kd p c H H'):OL H' p x:=by
 refine⟨?_,h.2⟩
 have n:=h.2
 rcases h.1 with e|e
 ·exact .inl e
 ·refine .inr ?_
  cases e with
  |non=>exact .non
  |bl b=>exact .bl b
  |int i=>exact .int i
  |lst e=>exact .lst (k.keep _ _ (λz=>n (by rw[z])) e)
  |tup e=>exact .tup (k.keep _ _ (λz=>n (by rw[z])) e)
  |dct e=>exact .dct (k.keep _ _ (λz=>n (by rw[z])) e)
theorem R6:¬BG (.str (Str.ofString "[]")):=λ⟨z,e,_,r⟩=>by
 injection e with e
 rw[<-e]at r
 revert r;decide+kernel
theorem R7:¬BG (.str (Str.ofString "a**")):=λ⟨z,e,_,r⟩=>by
 injection e with e
 rw[<-e]at r
 revert r;decide+kernel
theorem Qx:BG (.str (Str.ofString "")):=⟨_,rfl,by decide,by decide+kernel⟩
theorem Lg {n:Nat}(h:n < 8):∃z:Str,DP [V.str (Str.ofString ""),V.str (Str.ofString ""),V.str (Str.ofString ""),V.str (Str.ofString ""),V.str (Str.ofString "number"),V.str (Str.ofString "word"),V.str (Str.ofString ""),V.str (Str.ofString "")] (n:Int)=some (.str z)/\z=(if n=4 then Str.ofString "number" else if n=5 then Str.ofString "word" else Str.ofString ""):=by
 have cs:n=0\/n=1\/n=2\/n=3\/n=4\/n=5\/n=6\/n=7:=by omega
 rcases cs with rfl|rfl|rfl|rfl|rfl|rfl|rfl|rfl<;>exact⟨_,rfl,rfl⟩
section
variable {P:Program}{w:World}{K:PySem.W.Frag}{mg:Str->Option Value}{base:Heap}{k:Nat}
def sp_law:PySem.W.Frag->Sp:=λK vs H Q _=>∃(a:Addr) (ns:List Int),vs=[.ref a]/\An K H a (ns.map V.int)/\ns.length<=63/\∀H',Q (.bl true) H'
theorem Qy {f:Addr}{fd:FuncData}(F:OY K "law" "law" s_law f fd)(B:Bz mg)(G_law_deck:Bi P w K mg base "_law_deck" k ["cell","at"] LL)(G_law_draw:Bi P w K mg base "_law_draw" k ["deck_here","many"] DA)(G_law_some:Bi P w K mg base "_law_some" k ["deck_here","things"] Eb)(G_law_tree:Bi P w K mg base "_law_tree" k ["deck_here","most"] LM)
 (G_law_words:Bi P w K mg base "_law_words" k ["tree_here"] C0)(G_law_items:Bi P w K mg base "_law_items" k ["deck_here","word","most"] Hj)(G_law_written:Bi P w K mg base "_law_written" k ["items_here"] Jx)(G_law_spoilt:Bi P w K mg base "_law_spoilt" k ["deck_here","text"] Hi)
 (G_law_due:Bi P w K mg base "_law_due" k ["thing"] Nn)(G_is_pattern:Bi P w K mg base "is_pattern" k ["thing"] Jk)(G_law_asked:Bi P w K mg base "_law_asked" k ["way","tree_here","thing"] Jt):
 D9 P w K mg base CX0 (k+1) f fd ["script"] (sp_law K):=by
 refine F.ok CQ (λvs H Q E h=>by obtain⟨a,ns,rfl,_⟩:=h;rfl) (λcdv A outer s H vs Q E hr h=>?_)
 obtain⟨a,ns,rfl,hS,h63,q⟩:=h
 refine TM ?_
 refine⟨_,(Be (Pw.mk (Bm PassesOwn.never rfl (Dp rfl B.enumerate (AA (AZ Hs (BK OT (pv 0) B2 (BE AF)) (AU (AA (AN Aj rfl B.len Ar (AA (pv 0) AB)) AB))) AB)) (DM rfl (Ax (Ae (i:=1) CQ.nd rfl (by first|exact Or.inl rfl|exact Or.inr rfl)) (Ax (Ae (i:=2) CQ.nd rfl (by first|exact Or.inl rfl|exact Or.inr rfl)) CU))) (Q3.h (Be (Pw.mk (AI (i:=3) CQ.nd rfl (by first|exact Or.inl rfl|exact Or.inr rfl) (AR G_law_deck hr rfl (AA (pv 2) (AA (pv 1) AB)))))
 (Be (Pw.mk (AI (i:=4) CQ.nd rfl (by first|exact Or.inl rfl|exact Or.inr rfl) (AR G_law_tree hr rfl (AA (pv 3) (AA AF AB)))))
 (Be (Pw.mk (AI (i:=5) CQ.nd rfl (by first|exact Or.inl rfl|exact Or.inr rfl) (AR G_law_written hr rfl (AA (AR G_law_items hr rfl (AA (pv 3) (AA (Ad Af (AR G_law_words hr rfl (AA (pv 4) AB)) (Bn BD AF) (λ_ _=>rfl)) (AA (Ad Af (AU (AA AF (AA AF AB))) (BI Dk rfl B.int_ Fp (AA (Bg Am (pv 1) AF (AQ _)) AB)) (λ_ _=>rfl)) AB)))) AB))))
 (Be (LH (i:=6) CQ.nd rfl (by first|exact Or.inl rfl|exact Or.inr rfl) (HP (Au (DZ.mk Cc) (Au (DZ.mk BQ) (Au (DZ.mk AF) (Au (DZ.mk (AU AB)) (Au (DZ.mk (Bc AB)) (Au (DZ.mk NG) (Au (DZ.mk (AU (AA (pv 5) AB))) (Au (DZ.mk (Bc (AA (pv 5) AB))) (Au (DZ.mk (Oe (NH (pv 5) AF Od) rfl rfl (by simp) (by decide))) (Au (HP (Au (HP (Au (HP (Au Cz Dc)) Dc)) Dc)) Dc))))))))))))
 (LG (Pw.mk (Bm PassesOwn.never rfl (CH (AU (AA (pv 5) (AA (AR G_law_spoilt hr rfl (AA (pv 3) (AA (pv 5) AB))) (AA (AR G_law_spoilt hr rfl (AA (pv 3) (AA (pv 5) AB))) (AA (AR G_law_some hr rfl (AA (pv 3) (AA (pv 6) AB))) AB)))))) (Ae (i:=7) CQ.nd rfl (by first|exact Or.inl rfl|exact Or.inr rfl)) (Q3.h (Be (Pw.mk (AI (i:=8) CQ.nd rfl (by first|exact Or.inl rfl|exact Or.inr rfl) (AR G_law_due hr rfl (AA (pv 7) AB))))
 (Be (Pw.mk (AI (i:=9) CQ.nd rfl (by first|exact Or.inl rfl|exact Or.inr rfl) (AR G_is_pattern hr rfl (AA (pv 7) AB))))
 (Be (Pw.mk (Ag (PW.pt (CS (B4 (Az (AN BU rfl B.isinstance AW (AA (pv 9) (AA (B7 (v:=.ty "bool") rfl B.bool_ K3 rfl) AB))))) (CN (AL Fe (pv 9) (pv 8) (AQ _)))))
 (AE (AY BQ))
 Aq))
 (Be (Pw.mk (AI (i:=10) CQ.nd rfl (by first|exact Or.inl rfl|exact Or.inr rfl) (AR G_law_draw hr rfl (AA (pv 3) (AA AF AB)))))
 (Be (LH (i:=11) CQ.nd rfl (by first|exact Or.inl rfl|exact Or.inr rfl) (S5 Af (HP (Au Cz (Au Cz (Au Cz (Au Cz (Au Cz (Au Cz (Au Cz (Au Cz Dc))))))))) (DZ.mk (pv 10)) (λ_ _=>rfl)))
 (LG (Pw.mk (Ag (AL Fe (AR G_law_asked hr rfl (AA (pv 10) (AA (pv 4) (AA (pv 7) AB)))) (Ad Af (AU (AA AS (AA (pv 11) AB))) (BI Dk rfl B.int_ Fp (AA (pv 8) AB)) (λ_ _=>rfl)) (AQ _)) (AE (AY BQ)) Aq)))))))))))))))))))
 (LG (Rn (DZ.mk (C5 (DZ.h (DZ.mk (Bg KR (DZ.h (DZ.mk (AR G_is_pattern hr rfl (Q4.h (Au Cz Dc))))) (DZ.h (DZ.mk BQ)) (AQ _)))) (C5 (Bg KR (AR G_is_pattern hr rfl (AA AS AB)) BQ (AQ _)) (Cd (Bg KR (AR G_is_pattern hr rfl (AA AS AB)) BQ (AQ _))))))))),?_⟩
 refine mid (λσ H'=>True) ?_ λE2 nx=>?_
 rotate_left
 ·refine⟨_,rfl,_,rfl,a,_,rfl,hS,λr1 hr1=>?_⟩
  have sx1:AJ H (upd H r1 (.lst (Fi (ns.map V.int) none (some 63)))):=(AJ.refl H).new hr1
  refine⟨_,rfl,a,_,rfl,.inl (sx1.seq hS),(by show 1<=sizeLine;decide),λr2 hr2=>?_⟩
  have cl:(Fi (ns.map V.int) none (some 63)).length<=63:=Nat.le_trans (FD _ _ _) (by rw[List.length_map];exact h63)
  refine⟨r1,r2,_,_,rfl,rfl,by rw[AX (AV AD hr2)];exact AD,AD,?_,λr3 hr3=>?_⟩
  ·show(Fi (ns.map V.int) none (some 63)).length+1<=sizeLine
   exact Nat.le_of_lt (Av (by omega))
  have hxi:∀x∈Fi (ns.map V.int) none (some 63)++[V.int (((ns.map V.int).length:Nat):Int)],∃n:Int,x=.int n:=λx hx=>by
   rcases List.mem_append.mp hx with hx|hx
   ·obtain⟨n,_,rfl⟩:=List.mem_map.mp (List.mem_of_mem_drop (List.mem_of_mem_take hx));exact⟨n,rfl⟩
   ·exact⟨_,by simpa using hx⟩
  have hxl:(Fi (ns.map V.int) none (some 63)++[V.int (((ns.map V.int).length:Nat):Int)]).length<=64:=by rw[List.length_append,List.length_singleton];omega
  generalize Fi (ns.map V.int) none (some 63)++[V.int (((ns.map V.int).length:Nat):Int)]=xs at hxi hxl
  generalize hHx:upd (upd (upd H r1 (.lst (Fi (ns.map V.int) none (some 63)))) r2 (.lst [V.int (((ns.map V.int).length:Nat):Int)])) r3 (.lst xs)=Hx
  have hx3:Hx r3=some (.lst xs):=by rw[<-hHx];exact AD
  refine⟨.lst r3,rfl,⟨_,.inl hx3⟩,?_⟩
  refine DU (xs:=xs) (λi σ H'=>∃o1 o2 o3 o4 o5 o6 o7 o8 o9 o10 o11:Option V,σ=[some (.ref a),o1,o2,o3,o4,o5,o6,o7,o8,o9,o10,o11]/\AJ Hx H') ⟨none,none,none,none,none,none,none,none,none,none,none,rfl,AJ.refl _⟩
   (λi σ H' hi h=>by obtain⟨_,_,_,_,_,_,_,_,_,_,_,_,s1⟩:=h;exact .inl (s1 _ _ hx3)) ?_ (λσ H' _=>nx _ _ trivial)
  rintro i x σ H' p hx ⟨o1,o2,o3,o4,o5,o6,o7,o8,o9,o10,o11,rfl,s1⟩ hp
  have hi:i < xs.length:=(List.getElem?_eq_some_iff.mp hx).1
  obtain⟨cell,rfl⟩:=hxi x (List.mem_of_getElem? hx)
  refine⟨p,_,rfl,Ca.of AD,rfl,_,_,rfl,_,_,rfl,rfl,?_⟩
  have s2:AJ Hx (upd H' p (.tup [.int i,.int cell])):=s1.new hp
  generalize upd H' p (.tup [.int i,.int cell])=H2 at s2
  refine⟨_,rfl,_,rfl,cell,(i:Int),rfl,λp1 x1 y1 hp1=>?_⟩
  have dk:Co (upd H2 p1 (.lst [.int x1,.int y1,.int (40*(i:Int))])) p1 2520:=⟨_,_,_,AD,by omega,by omega⟩
  have s3:AJ Hx (upd H2 p1 (.lst [.int x1,.int y1,.int (40*(i:Int))])):=s2.new hp1
  have hxp:∀b o,Hx b=some o->b≠p1:=λb o e=>AV (s2 b o e) hp1
  generalize upd H2 p1 (.lst [.int x1,.int y1,.int (40*(i:Int))])=H3 at dk s3
  have two:∀(m1 m2:Int) (b:Bool),∃v:Int,DP [V.int m1,.int m2] (if b=true then 1 else 0)=some (.int v)/\(v=m1\/v=m2):=λm1 m2 b=>by
   cases b
   ·exact⟨m1,rfl,.inl rfl⟩
   ·exact⟨m2,rfl,.inr rfl⟩
  refine⟨_,rfl,p1,4,2520,rfl,dk,by decide,by decide,by decide,by decide,λt ups lab H5 kd5 tr5 low5 u4=>?_⟩
  obtain⟨_,_,_,ok⟩:=id tr5
  have lpos:=ok.pos
  have u20:ups.length<=6:=by omega
  refine⟨_,rfl,_,rfl,t,ups,lab,rfl,tr5,λr7 H6 s6 hr7=>?_⟩
  have k6:=kd5.same s6
  obtain⟨wd,hwd,wdl,wdo⟩:∃wd:Str,DP (Al ups lab ups.length) (-1)=some (.str wd)/\wd.length<=60/\∀c∈wd.cps.toList,Lw c:=by
   obtain⟨n,en⟩:∃n,ups.length=n+1:=⟨ups.length - 1,by omega⟩
   refine⟨mk (W ups lab.cps.toList n),?_,?_,?_⟩
   ·rw[en]
    unfold Al
    rw[List.range_succ,List.map_append]
    exact DQ _ _
   ·rw[Ai]
    have:=F5 ok (n+1) n (Nat.lt_succ_self _) (by omega)
    omega
   ·exact Pr ok low5 (n+1) n (Nat.lt_succ_self _) (by omega)
  refine⟨_,rfl,r7,_,_,_,rfl,rfl,An.of hr7,hwd,?_⟩
  refine⟨AK (show 2<=1000 by omega),λr4 hr4=>?_⟩
  have k7:=k6.new (o:=.lst [.int 6,.int 40]) hr4
  refine⟨_,rfl,rfl,.inr ⟨_,rfl,?_⟩⟩
  obtain⟨most,hmost,mo⟩:=two 6 40 (decide (V.int (i:Int)=V.int 0))
  obtain⟨mN,rfl⟩:∃m:Nat,most=(m:Int):=⟨most.toNat,by omega⟩
  refine⟨r4,_,_,_,rfl,rfl,An.of AD,hmost,?_⟩
  refine⟨p1,wd,mN,_,rfl,k7.deck,by decide,by decide,wdl,wdo,by omega,λli xw H8 kd8 hli lip lit iok e40 x40=>?_⟩
  have k8:=k7.trans kd8
  refine⟨li,xw,rfl,lit,x40,e40,λH9 s9=>?_⟩
  have k9:=k8.same s9
  have tx40:(mk (enc xw)).length<=40:=by rw[Ai];exact e40
  generalize mk (enc xw)=tx at tx40
  have tr9:=((tr5.same s6).kd k6.deck (((Kd.refl k6.deck).new hr4).trans kd8)).same s9
  clear k6 k7 k8 lit kd8 hmost hwd
  refine⟨AK (show 0<=1000 by omega),λt1 ht1=>?_⟩
  have n1:=k9.deck.ne ht1
  have kA:=k9.new (o:=.lst []) ht1
  have xA:AJ H9 (upd H9 t1 (.lst [])):=(AJ.refl H9).new ht1
  have e1:upd H9 t1 (.lst []) t1=some (.lst []):=AD
  generalize upd H9 t1 (.lst [])=G1 at kA xA e1
  refine⟨AK (show 0<=1000 by omega),λt2 ht2=>?_⟩
  have n2:=kA.deck.ne ht2
  have kB:=kA.new (o:=.tup []) ht2
  have xB:AJ G1 (upd G1 t2 (.tup [])):=(AJ.refl G1).new ht2
  have e2:upd G1 t2 (.tup []) t2=some (.tup []):=AD
  generalize upd G1 t2 (.tup [])=G2 at kB xB e2
  refine λt3 ht3=>?_
  have n3:=kB.deck.ne ht3
  have kC:=kB.new (o:=.dK []) ht3
  have xC:AJ G2 (upd G2 t3 (.dK [])):=(AJ.refl G2).new ht3
  have e3:upd G2 t3 (.dK []) t3=some (.dK []):=AD
  show(λHH=>_) (upd G2 t3 (.dK []))
  generalize upd G2 t3 (.dK [])=G3 at kC xC e3
  refine⟨_,rfl,AK (show 1<=1000 by omega),λt4 ht4=>?_⟩
  have n4:=kC.deck.ne ht4
  have kD:=kC.new (o:=.lst [.str tx]) ht4
  have xD:AJ G3 (upd G3 t4 (.lst [.str tx])):=(AJ.refl G3).new ht4
  have e4:upd G3 t4 (.lst [.str tx]) t4=some (.lst [.str tx]):=AD
  generalize upd G3 t4 (.lst [.str tx])=G4 at kD xD e4
  refine⟨_,rfl,AK (show 1<=1000 by omega),λt5 ht5=>?_⟩
  have n5:=kD.deck.ne ht5
  have kE:=kD.new (o:=.tup [.str tx]) ht5
  have xE:AJ G4 (upd G4 t5 (.tup [.str tx])):=(AJ.refl G4).new ht5
  have e5:upd G4 t5 (.tup [.str tx]) t5=some (.tup [.str tx]):=AD
  generalize upd G4 t5 (.tup [.str tx])=G5 at kE xE e5
  refine λt6 ht6=>?_
  have n6:=kE.deck.ne ht6
  refine⟨_,rfl,AD,[(.inr tx,.int 1)],rfl,by simp,?_⟩
  rw[show Bd [] [((Sum.inr tx:Key),V.int 1)]=[(Sum.inr tx,.int 1)]from rfl,Ks]
  have kF:=kE.new (o:=.dK [(Sum.inr tx,.int 1)]) ht6
  have xF:AJ G5 (upd G5 t6 (.dK [(Sum.inr tx,.int 1)])):=(AJ.refl G5).new ht6
  have e6:upd G5 t6 (.dK [(Sum.inr tx,.int 1)]) t6=some (.dK [(Sum.inr tx,.int 1)]):=AD
  generalize upd G5 t6 (.dK [(Sum.inr tx,.int 1)])=G6 at kF xF e6
  refine⟨AK (show 1<=1000 by omega),λu1 hu1=>?_⟩
  have kG:=kF.new (o:=.lst [.str (Str.ofString "a")]) hu1
  have xG:AJ G6 (upd G6 u1 (.lst [.str (Str.ofString "a")])):=(AJ.refl G6).new hu1
  generalize upd G6 u1 (.lst [.str (Str.ofString "a")])=G7 at kG xG
  refine⟨AK (show 1<=1000 by omega),λu2 hu2=>?_⟩
  have kH:=kG.new (o:=.lst [.ref u1]) hu2
  have xH:AJ G7 (upd G7 u2 (.lst [.ref u1])):=(AJ.refl G7).new hu2
  generalize upd G7 u2 (.lst [.ref u1])=G8 at kH xH
  refine⟨AK (show 1<=1000 by omega),λt7 ht7=>?_⟩
  have n7:=kH.deck.ne ht7
  have kI:=kH.new (o:=.lst [.ref u2]) ht7
  have xI:AJ G8 (upd G8 t7 (.lst [.ref u2])):=(AJ.refl G8).new ht7
  have e7:upd G8 t7 (.lst [.ref u2]) t7=some (.lst [.ref u2]):=AD
  generalize upd G8 t7 (.lst [.ref u2])=G9 at kI xI e7
  have y6:=(xG.trans xH).trans xI
  have y5:=xF.trans y6
  have y4:=xE.trans y5
  have y3:=xD.trans y4
  have y2:=xC.trans y3
  have y1:=xB.trans y2
  have far:∀v∈[V.non,V.bl true,V.int 7,V.ref t1,V.ref t2,V.ref t3,V.ref t4,V.ref t5,V.ref t6,V.ref t7],OL G9 p1 v:=by
   intro v hv
   simp only[List.mem_cons,List.not_mem_nil,or_false]at hv
   rcases hv with rfl|rfl|rfl|rfl|rfl|rfl|rfl|rfl|rfl|rfl
   ·exact⟨.inr .non,λe=>by cases e⟩
   ·exact⟨.inr (.bl _),λe=>by cases e⟩
   ·exact⟨.inr (.int _),λe=>by cases e⟩
   ·exact⟨.inr (.lst (y1 _ _ e1)),λe=>n1 (by injection e)⟩
   ·exact⟨.inr (.tup (y2 _ _ e2)),λe=>n2 (by injection e)⟩
   ·exact⟨.inr (.dct (y3 _ _ e3)),λe=>n3 (by injection e)⟩
   ·exact⟨.inr (.lst (y4 _ _ e4)),λe=>n4 (by injection e)⟩
   ·exact⟨.inr (.tup (y5 _ _ e5)),λe=>n5 (by injection e)⟩
   ·exact⟨.inr (.dct (y6 _ _ e6)),λe=>n6 (by injection e)⟩
   ·exact⟨.inr (.lst e7),λe=>n7 (by injection e)⟩
  have tr10:=tr9.same (xA.trans y1)
  clear kA kB kC kD kE kF kG kH tr9 xA xB xC xD xE xF xG xH xI y1 y2 y3 y4 y5 y6 n1 n2 n3 n4 n5 n6 n7 e1 e2 e3 e4 e5 e6 e7
  have fl:[V.non,V.bl true,V.int 7,V.ref t1,V.ref t2,V.ref t3,V.ref t4,V.ref t5,V.ref t6,V.ref t7].length=10:=rfl
  refine⟨AK (show 10<=1000 by omega),λfr hfr=>?_⟩
  show(λHH=>_) (upd G9 fr (.lst [V.non,V.bl true,V.int 7,V.ref t1,V.ref t2,V.ref t3,V.ref t4,V.ref t5,V.ref t6,V.ref t7]))
  generalize[V.non,V.bl true,V.int 7,V.ref t1,V.ref t2,V.ref t3,V.ref t4,V.ref t5,V.ref t6,V.ref t7]=fs at far fl
  have frp:=kI.deck.ne hfr
  have kJ:=kI.new (o:=.lst fs) hfr
  have xJ:AJ G9 (upd G9 fr (.lst fs)):=(AJ.refl G9).new hfr
  have eJ:upd G9 fr (.lst fs) fr=some (.lst fs):=AD
  have far':∀v∈fs,OL (upd G9 fr (.lst fs)) p1 v:=λv hv=>(far v hv).same xJ
  have tr11:=tr10.same xJ
  show(λHH=>_) (upd G9 fr (.lst fs))
  generalize upd G9 fr (.lst fs)=J1 at kJ eJ far' tr11
  clear kI far tr10 xJ
  refine⟨_,rfl,_,rfl,_,rfl,p1,_,tx,rfl,kJ.deck,by omega,by omega,tx40,λz1 J2 kd1 z1l=>?_⟩
  refine⟨_,rfl,_,rfl,p1,_,tx,rfl,kd1.deck,by omega,by omega,tx40,λz2 J3 kd2 z2l=>?_⟩
  have eJ3:=kd2.keep _ _ frp (kd1.keep _ _ frp eJ)
  refine⟨_,rfl,_,rfl,p1,_,kd2.deck,by omega,.inl ⟨fr,_,rfl,eJ3,frp,by omega,by omega,λv J4 hv kd4=>?_⟩⟩
  have kk:=(kd1.trans kd2).trans kd4
  have tv:=(far' v hv).kd kk
  have tr12:=tr11.kd kJ.deck kk
  have kL:=kJ.trans kk
  refine⟨AK (show 4<=1000 by omega),λlt hlt=>?_⟩
  have ltp:=kL.deck.ne hlt
  have kM:=kL.new (o:=.lst [.str tx,.str z1,.str z2,v]) hlt
  have xM:AJ J4 (upd J4 lt (.lst [.str tx,.str z1,.str z2,v])):=(AJ.refl J4).new hlt
  have eM:upd J4 lt (.lst [.str tx,.str z1,.str z2,v]) lt=some (.lst [.str tx,.str z1,.str z2,v]):=AD
  have tv2:=tv.same xM
  have tr13:=tr12.same xM
  generalize upd J4 lt (.lst [.str tx,.str z1,.str z2,v])=J5 at kM eM tv2 tr13
  clear kJ kL kk kd1 kd2 kd4 far' eJ3 eJ tr11 tr12 xM tv
  have all:∀x∈[.str tx,.str z1,.str z2,v],OL J5 p1 x:=by
   intro x hx
   simp only[List.mem_cons,List.not_mem_nil,or_false]at hx
   rcases hx with rfl|rfl|rfl|rfl
   ·exact⟨.inl ⟨_,rfl,by omega⟩,λe=>by cases e⟩
   ·exact⟨.inl ⟨_,rfl,z1l⟩,λe=>by cases e⟩
   ·exact⟨.inl ⟨_,rfl,z2l⟩,λe=>by cases e⟩
   ·exact tv2
  have sx5:AJ Hx J5:=λb o e=>kM.keep b o (hxp b o e) (s3 b o e)
  have ll:[.str tx,.str z1,.str z2,v].length=4:=rfl
  generalize[.str tx,.str z1,.str z2,v]=ths at eM all ll
  refine⟨lt,rfl,⟨_,An.of eM⟩,?_⟩
  refine Fd (K:=K) (xs:=ths) (λj σ HX=>∃o7 o8 o9 o10 o11:Option V,σ=[some (.ref a),some (.int i),some (.int cell),some (.ref p1),some (.ref t),some (.str tx),some (.ref fr),o7,o8,o9,o10,o11]/\AJ Hx HX/\Co HX p1 (5000+j)/\Bf HX t ups lab/\HX lt=some (.lst ths)/\∀x∈ths,OL HX p1 x)
   ⟨_,_,_,_,_,rfl,sx5,kM.deck.mono (by omega),tr13,eM,all⟩ (λj σ HX _ h=>by obtain⟨_,_,_,_,_,_,_,_,_,e,_⟩:=h;exact An.of e) ?_ ?_
  rotate_left
  ·rintro σ HX ⟨o7,o8,o9,o10,o11,rfl,sX,_⟩
   exact⟨_,_,_,_,_,_,_,_,_,_,_,rfl,sX⟩
  rintro j x σ HX hx ⟨o7,o8,o9,o10,o11,rfl,sX,dX,trX,eX,aX⟩
  have jl:j < 4:=by have:=(List.getElem?_eq_some_iff.mp hx).1;omega
  have hx':=aX x (List.mem_of_getElem? hx)
  refine⟨_,rfl,x,rfl,hx'.1,λb hb=>?_⟩
  have rest:∀HY:Hp,AJ HX HY->True:=λ_ _=>trivial
  refine⟨_,rfl,x,rfl,hx'.1,λg HY sY=>?_,λg HY sY=>?_⟩
  ·obtain rfl:b=true:=hb.mpr g
   refine⟨_,rfl,_,_,_,true,rfl,.bl _,Cf _ _,_,rfl,Ay ?_⟩
   refine⟨_,rfl,_,rfl,rfl,_,rfl,L2.A2 (by rfl) ?_⟩
   have dY:Co HY p1 (5000+j):=by
    obtain⟨x2,y2,z2',e3,z0,z1'⟩:=dX
    exact⟨x2,y2,z2',sY _ _ e3,z0,z1'⟩
   refine⟨_,rfl,p1,8,_,rfl,dY,by omega,by decide,by decide,λway HZ w0 w1 kdZ=>?_⟩
   obtain⟨n,rfl⟩:∃n:Nat,way=(n:Int):=⟨way.toNat,by omega⟩
   have n8:n < 8:=by omega
   obtain⟨td,htd,etd⟩:=Lg n8
   have k1:Kd p1 (5000+((j+1:Nat):Int)) HX HZ:=((Kd.refl dX).same sY).trans (kdZ.mono (by omega))
   refine⟨AK (show 8<=1000 by omega),λq1 hq1=>?_⟩
   have k2:=k1.new (o:=.lst [V.str (Str.ofString ""),V.str (Str.ofString ""),V.str (Str.ofString ""),V.str (Str.ofString ""),V.str (Str.ofString "number"),V.str (Str.ofString "word"),V.str (Str.ofString ""),V.str (Str.ofString "")]) hq1
   refine⟨_,rfl,q1,_,_,_,rfl,rfl,An.of AD,htd,?_⟩
   show(λHH=>_) (upd HZ q1 (.lst [V.str (Str.ofString ""),V.str (Str.ofString ""),V.str (Str.ofString ""),V.str (Str.ofString ""),V.str (Str.ofString "number"),V.str (Str.ofString "word"),V.str (Str.ofString ""),V.str (Str.ofString "")]))
   generalize upd HZ q1 _=HW at k2
   refine⟨_,rfl,_,rfl,_,rfl,n,t,ups,lab,x,rfl,n8,trX.kd dX k2,u20,(hx'.kd k2).1,λ_ HV sV=>?_,λng=>absurd g ng⟩
   refine⟨_,rfl,AK (show 2<=1000 by omega),λq2 hq2=>?_⟩
   have k3:=(k2.same sV).new (o:=.lst [.str (Str.ofString "pattern"),.str td]) hq2
   refine⟨_,rfl,.inr ⟨_,rfl,?_⟩⟩
   refine⟨q2,_,_,_,rfl,rfl,An.of AD,rfl,?_⟩
   rw[<-etd]
   refine⟨rfl,_,rfl,L2.A2 (by rw[decide_eq_true rfl];rfl) ?_⟩
   exact⟨_,_,_,_,_,rfl,λb o e=>k3.keep b o (hxp b o e) (sX b o e),k3.deck,trX.kd dX k3,k3.keep _ _ ltp eX,λx hx=>(aX x hx).kd k3⟩
  ·obtain rfl:b=false:=by
    cases b
    ·rfl
    ·exact absurd (hb.mp rfl) g
   refine⟨_,rfl,_,_,_,true,rfl,.bl _,Cf _ _,_,rfl,Ay ?_⟩
   refine⟨_,rfl,_,rfl,rfl,_,rfl,L2.A2 (by rfl) ?_⟩
   have dY:Co HY p1 (5000+j):=by
    obtain⟨x2,y2,z2',e3,z0,z1'⟩:=dX
    exact⟨x2,y2,z2',sY _ _ e3,z0,z1'⟩
   refine⟨_,rfl,p1,8,_,rfl,dY,by omega,by decide,by decide,λway HZ w0 w1 kdZ=>?_⟩
   obtain⟨n,rfl⟩:∃n:Nat,way=(n:Int):=⟨way.toNat,by omega⟩
   have n8:n < 8:=by omega
   obtain⟨td,htd,etd⟩:=Lg n8
   have k1:Kd p1 (5000+((j+1:Nat):Int)) HX HZ:=((Kd.refl dX).same sY).trans (kdZ.mono (by omega))
   refine⟨AK (show 8<=1000 by omega),λq1 hq1=>?_⟩
   have k2:=k1.new (o:=.lst [V.str (Str.ofString ""),V.str (Str.ofString ""),V.str (Str.ofString ""),V.str (Str.ofString ""),V.str (Str.ofString "number"),V.str (Str.ofString "word"),V.str (Str.ofString ""),V.str (Str.ofString "")]) hq1
   refine⟨_,rfl,q1,_,_,_,rfl,rfl,An.of AD,htd,?_⟩
   show(λHH=>_) (upd HZ q1 (.lst [V.str (Str.ofString ""),V.str (Str.ofString ""),V.str (Str.ofString ""),V.str (Str.ofString ""),V.str (Str.ofString "number"),V.str (Str.ofString "word"),V.str (Str.ofString ""),V.str (Str.ofString "")]))
   generalize upd HZ q1 _=HW at k2
   refine⟨_,rfl,_,rfl,_,rfl,n,t,ups,lab,x,rfl,n8,trX.kd dX k2,u20,(hx'.kd k2).1,λgg=>absurd gg g,λ_ HV sV=>?_⟩
   refine⟨_,rfl,AK (show 2<=1000 by omega),λq2 hq2=>?_⟩
   have k3:=(k2.same sV).new (o:=.lst [.str (Str.ofString "pattern"),.str td]) hq2
   refine⟨_,rfl,.inr ⟨_,rfl,?_⟩⟩
   refine⟨q2,_,_,_,rfl,rfl,An.of AD,rfl,?_⟩
   refine⟨rfl,_,rfl,L2.A2 (by rw[decide_eq_true rfl];rfl) ?_⟩
   exact⟨_,_,_,_,_,rfl,λb o e=>k3.keep b o (hxp b o e) (sX b o e),k3.deck,trX.kd dX k3,k3.keep _ _ ltp eX,λx hx=>(aX x hx).kd k3⟩
 rintro σ H' -
 refine⟨.str (Str.ofString ""),rfl,.inl ⟨_,rfl,by decide⟩,λ_ H1 s1=>?_,λng=>absurd Qx ng⟩
 refine⟨_,_,rfl,rfl,?_⟩
 refine⟨_,rfl,A1 ?_⟩
 refine⟨.str (Str.ofString "[]"),rfl,.inl ⟨_,rfl,by decide⟩,λy=>absurd y R6,λ_ H2 s2=>?_⟩
 refine⟨_,_,rfl,rfl,?_⟩
 refine⟨_,rfl,A1 ?_⟩
 refine⟨.str (Str.ofString "a**"),rfl,.inl ⟨_,rfl,by decide⟩,λy=>absurd y R7,λ_ H3 s3=>?_⟩
 refine⟨_,_,rfl,rfl,?_⟩
 exact q _
end
end S61
namespace S61
open PySem L2 W7
theorem df_mk {K:PySem.W.Frag}{h:Heap}{mg:Str->Option Value}{x:Str}{st:Stmt}{f:Addr}{oc:Value}{od an:Option Addr}{osl:Array (Option Value)}{kV doc pm cdv ct:Value}(X:K.In h)(G:h.Ns mainGlobals mg)
 (a:PySem.W.nsIn K mainGlobals x=some (some (.ref f)))(l:K.lookup f=some ⟨oc,od,.func (PySem.W.fnOf x x (CV st) (Bh st) (AM st) .none kV doc pm an cdv ct),osl⟩)(c:PySem.W.codeIn K cdv x=true)(kk:PySem.W.keepIn K (.ref f)=true):Df K mg x st:=
 ⟨f,_,QM l c kk,PySem.W.mg_of X G a⟩
def exs_mk {K:PySem.W.Frag}{h:Heap}{mg:Str->Option Value}(X:K.In h)(G:h.Ns mainGlobals mg){UpError NoPlace NoNumber NoWord NoRows NoRuns NoCover NoText TooMany NoTries NoPattern NoLetter NoLeaf NoChange NoLine NoTree:Addr}
 (a_UpError:PySem.W.nsIn K mainGlobals "UpError"=some (some (.ref UpError)))
 (a_NoPlace:PySem.W.nsIn K mainGlobals "NoPlace"=some (some (.ref NoPlace)))
 (a_NoNumber:PySem.W.nsIn K mainGlobals "NoNumber"=some (some (.ref NoNumber)))
 (a_NoWord:PySem.W.nsIn K mainGlobals "NoWord"=some (some (.ref NoWord)))
 (a_NoRows:PySem.W.nsIn K mainGlobals "NoRows"=some (some (.ref NoRows)))
 (a_NoRuns:PySem.W.nsIn K mainGlobals "NoRuns"=some (some (.ref NoRuns)))
 (a_NoCover:PySem.W.nsIn K mainGlobals "NoCover"=some (some (.ref NoCover)))
 (a_NoText:PySem.W.nsIn K mainGlobals "NoText"=some (some (.ref NoText)))
 (a_TooMany:PySem.W.nsIn K mainGlobals "TooMany"=some (some (.ref TooMany)))
 (a_NoTries:PySem.W.nsIn K mainGlobals "NoTries"=some (some (.ref NoTries)))
 (a_NoPattern:PySem.W.nsIn K mainGlobals "NoPattern"=some (some (.ref NoPattern)))
 (a_NoLetter:PySem.W.nsIn K mainGlobals "NoLetter"=some (some (.ref NoLetter)))
 (a_NoLeaf:PySem.W.nsIn K mainGlobals "NoLeaf"=some (some (.ref NoLeaf)))
 (a_NoChange:PySem.W.nsIn K mainGlobals "NoChange"=some (some (.ref NoChange)))
 (a_NoLine:PySem.W.nsIn K mainGlobals "NoLine"=some (some (.ref NoLine)))
 (a_NoTree:PySem.W.nsIn K mainGlobals "NoTree"=some (some (.ref NoTree)))
 (q_NoNumber:PySem.W.excIn K NoNumber QU "ValueError.__new__"=true)
 (ga_NoNumber:PySem.W.findIn K (.ref NoNumber) "__getattribute__"=some (some (.builtin "BaseException.__getattribute__")))
 (gn_NoNumber:PySem.W.findIn K (.ref NoNumber) "__getattr__"=some none)
 (cl_NoNumber:PySem.W.findIn K (.ref NoNumber) "__class__"=some (some (.builtin "object.__class__")))
 (ob_NoNumber:PySem.W.mroIn K NoNumber (.type "object")=some true)
 (be_NoNumber:PySem.W.mroIn K NoNumber (.type "BaseException")=some true)
 (cd_NoNumber:(PySem.W.clsIn K NoNumber).isSome=true)
 (u_NoNumber:PySem.W.exmOne K (.ref NoNumber) (.ref UpError)=some true)
 (q_NoWord:PySem.W.excIn K NoWord QU "ValueError.__new__"=true)
 (ga_NoWord:PySem.W.findIn K (.ref NoWord) "__getattribute__"=some (some (.builtin "BaseException.__getattribute__")))
 (gn_NoWord:PySem.W.findIn K (.ref NoWord) "__getattr__"=some none)
 (cl_NoWord:PySem.W.findIn K (.ref NoWord) "__class__"=some (some (.builtin "object.__class__")))
 (ob_NoWord:PySem.W.mroIn K NoWord (.type "object")=some true)
 (be_NoWord:PySem.W.mroIn K NoWord (.type "BaseException")=some true)
 (cd_NoWord:(PySem.W.clsIn K NoWord).isSome=true)
 (u_NoWord:PySem.W.exmOne K (.ref NoWord) (.ref UpError)=some true)
 (q_NoPattern:PySem.W.excIn K NoPattern QU "ValueError.__new__"=true)
 (ga_NoPattern:PySem.W.findIn K (.ref NoPattern) "__getattribute__"=some (some (.builtin "BaseException.__getattribute__")))
 (gn_NoPattern:PySem.W.findIn K (.ref NoPattern) "__getattr__"=some none)
 (cl_NoPattern:PySem.W.findIn K (.ref NoPattern) "__class__"=some (some (.builtin "object.__class__")))
 (ob_NoPattern:PySem.W.mroIn K NoPattern (.type "object")=some true)
 (be_NoPattern:PySem.W.mroIn K NoPattern (.type "BaseException")=some true)
 (cd_NoPattern:(PySem.W.clsIn K NoPattern).isSome=true)
 (u_NoPattern:PySem.W.exmOne K (.ref NoPattern) (.ref UpError)=some true)
 (gt:PySem.W.specialIn K (.builtin "object.__class__") "__get__"=some (some (.builtin "getset_descriptor.__get__")))
 (tk:PySem.W.takesIn K (.builtin "object.__class__")=some true)
 (p_NoPattern:PySem.W.exmOne K (.ref NoPattern) (.ref NoPattern)=some true)
 (n0:PySem.W.kitOne K (.ref NoNumber) (.ref NoNumber)=some true)
 (n1:PySem.W.kitOne K (.ref NoNumber) (.ref NoWord)=some false)
 (n2:PySem.W.kitOne K (.ref NoNumber) (.ref NoPattern)=some false)
 (nv:PySem.W.kitOne K (.ref NoNumber) (.type "ValueError")=some true)
 (n3:PySem.W.kitAny K (.ref NoNumber) ([NoPlace,NoRows,NoRuns,NoCover,NoText,TooMany,NoTries,NoLetter].map Value.ref)=some false)
 (n4:PySem.W.kitAny K (.ref NoNumber) ([NoLeaf,NoChange,NoLine,NoTree].map Value.ref)=some false)
 (w0:PySem.W.kitOne K (.ref NoWord) (.ref NoNumber)=some false)
 (w1:PySem.W.kitOne K (.ref NoWord) (.ref NoWord)=some true)
 (w2:PySem.W.kitOne K (.ref NoWord) (.ref NoPattern)=some false)
 (wv:PySem.W.kitOne K (.ref NoWord) (.type "ValueError")=some true)
 (w3:PySem.W.kitAny K (.ref NoWord) ([NoPlace,NoRows,NoRuns,NoCover,NoText,TooMany,NoTries,NoLetter].map Value.ref)=some false)
 (w4:PySem.W.kitAny K (.ref NoWord) ([NoLeaf,NoChange,NoLine,NoTree].map Value.ref)=some false)
 (p0:PySem.W.kitOne K (.ref NoPattern) (.ref NoNumber)=some false)
 (p1:PySem.W.kitOne K (.ref NoPattern) (.ref NoWord)=some false)
 (p2:PySem.W.kitOne K (.ref NoPattern) (.ref NoPattern)=some true)
 (pv:PySem.W.kitOne K (.ref NoPattern) (.type "ValueError")=some true)
 (p3:PySem.W.kitAny K (.ref NoPattern) ([NoPlace,NoRows,NoRuns,NoCover,NoText,TooMany,NoTries,NoLetter].map Value.ref)=some false)
 (p4:PySem.W.kitAny K (.ref NoPattern) ([NoLeaf,NoChange,NoLine,NoTree].map Value.ref)=some false):Exs K mg where
 c_UpError:=UpError
 m_UpError:=PySem.W.mg_of X G a_UpError
 c_NoPlace:=NoPlace
 m_NoPlace:=PySem.W.mg_of X G a_NoPlace
 c_NoNumber:=NoNumber
 m_NoNumber:=PySem.W.mg_of X G a_NoNumber
 c_NoWord:=NoWord
 m_NoWord:=PySem.W.mg_of X G a_NoWord
 c_NoRows:=NoRows
 m_NoRows:=PySem.W.mg_of X G a_NoRows
 c_NoRuns:=NoRuns
 m_NoRuns:=PySem.W.mg_of X G a_NoRuns
 c_NoCover:=NoCover
 m_NoCover:=PySem.W.mg_of X G a_NoCover
 c_NoText:=NoText
 m_NoText:=PySem.W.mg_of X G a_NoText
 c_TooMany:=TooMany
 m_TooMany:=PySem.W.mg_of X G a_TooMany
 c_NoTries:=NoTries
 m_NoTries:=PySem.W.mg_of X G a_NoTries
 c_NoPattern:=NoPattern
 m_NoPattern:=PySem.W.mg_of X G a_NoPattern
 c_NoLetter:=NoLetter
 m_NoLetter:=PySem.W.mg_of X G a_NoLetter
 c_NoLeaf:=NoLeaf
 m_NoLeaf:=PySem.W.mg_of X G a_NoLeaf
 c_NoChange:=NoChange
 m_NoChange:=PySem.W.mg_of X G a_NoChange
 c_NoLine:=NoLine
 m_NoLine:=PySem.W.mg_of X G a_NoLine
 c_NoTree:=NoTree
 m_NoTree:=PySem.W.mg_of X G a_NoTree
 q_NoNumber:=q_NoNumber
 z_NoNumber:=⟨ga_NoNumber,gn_NoNumber,cl_NoNumber,gt,tk,ob_NoNumber,be_NoNumber,cd_NoNumber⟩
 u_NoNumber:=u_NoNumber
 q_NoWord:=q_NoWord
 z_NoWord:=⟨ga_NoWord,gn_NoWord,cl_NoWord,gt,tk,ob_NoWord,be_NoWord,cd_NoWord⟩
 u_NoWord:=u_NoWord
 q_NoPattern:=q_NoPattern
 z_NoPattern:=⟨ga_NoPattern,gn_NoPattern,cl_NoPattern,gt,tk,ob_NoPattern,be_NoPattern,cd_NoPattern⟩
 u_NoPattern:=u_NoPattern
 p_NoPattern:=p_NoPattern
 n0:=n0
 n1:=n1
 n2:=n2
 nv:=nv
 n3:=n3
 n4:=n4
 w0:=w0
 w1:=w1
 w2:=w2
 wv:=wv
 w3:=w3
 w4:=w4
 p0:=p0
 p1:=p1
 p2:=p2
 pv:=pv
 p3:=p3
 p4:=p4
theorem blt_mk {K:PySem.W.Frag}{h:Heap}{mg:Str->Option Value}(X:K.In h)(G:h.Ns mainGlobals mg)
 (z1:PySem.W.nsIn K mainGlobals "len"=some none)(z2:PySem.W.nsIn K mainGlobals "range"=some none)(z3:PySem.W.nsIn K mainGlobals "zip"=some none)(z4:PySem.W.nsIn K mainGlobals "enumerate"=some none)
 (z5:PySem.W.nsIn K mainGlobals "max"=some none)(z6:PySem.W.nsIn K mainGlobals "min"=some none)(z7:PySem.W.nsIn K mainGlobals "int"=some none)(z8:PySem.W.nsIn K mainGlobals "str"=some none)
 (z9:PySem.W.nsIn K mainGlobals "bool"=some none)(z10:PySem.W.nsIn K mainGlobals "list"=some none)(z11:PySem.W.nsIn K mainGlobals "tuple"=some none)(z12:PySem.W.nsIn K mainGlobals "isinstance"=some none):Blt mg:=
 ⟨PySem.W.mg_none_of X G z1,PySem.W.mg_none_of X G z2,PySem.W.mg_none_of X G z3,PySem.W.mg_none_of X G z4,PySem.W.mg_none_of X G z5,PySem.W.mg_none_of X G z6,PySem.W.mg_none_of X G z7,PySem.W.mg_none_of X G z8,
  PySem.W.mg_none_of X G z9,PySem.W.mg_none_of X G z10,PySem.W.mg_none_of X G z11,PySem.W.mg_none_of X G z12⟩
theorem all_ok {P:Program}{w:World}{K:PySem.W.Frag}{mg:Str->Option Value}{fa:Addr}(hfa:mg "law"=some (.ref fa))(B:Bz mg)
 (d1:Df K mg "is_whole" s_is_whole)(d2:Df K mg "is_number_below" s_is_number_below)(d3:Df K mg "is_letters" s_is_letters)(d4:Df K mg "is_rising" s_is_rising)(d5:Df K mg "is_pattern" s_is_pattern)(d6:Df K mg "items_of" s_items_of)(d7:Df K mg "part_ahead" s_part_ahead)(d8:Df K mg "letters_by" s_letters_by)(d9:Df K mg "shares_of" s_shares_of)(d10:Df K mg "fits_behind" s_fits_behind)(d11:Df K mg "fits_ahead" s_fits_ahead)(d12:Df K mg "words_of" s_words_of)(d13:Df K mg "states_with" s_states_with)(d14:Df K mg "states_by" s_states_by)(d15:Df K mg "lengths_fitting" s_lengths_fitting)(d16:Df K mg "whole_at" s_whole_at)(d17:Df K mg "found_at" s_found_at)(d18:Df K mg "words_fitting" s_words_fitting)(d19:Df K mg "many_by" s_many_by)(d20:Df K mg "word_by" s_word_by)(d21:Df K mg "number_by" s_number_by)(d22:Df K mg "marks_of" s_marks_of)(d23:Df K mg "marks_show" s_marks_show)(d24:Df K mg "is_marks" s_is_marks)(d25:Df K mg "is_states" s_is_states)(d26:Df K mg "is_never_done" s_is_never_done)(d27:Df K mg "_law_mixed" s_law_mixed)(d28:Df K mg "_law_deck" s_law_deck)(d29:Df K mg "_law_draw" s_law_draw)(d30:Df K mg "_law_some" s_law_some)(d31:Df K mg "_law_letter" s_law_letter)(d32:Df K mg "_law_tree" s_law_tree)(d33:Df K mg "_law_words" s_law_words)(d34:Df K mg "_law_items" s_law_items)(d35:Df K mg "_law_written" s_law_written)(d36:Df K mg "_law_kind" s_law_kind)(d37:Df K mg "_law_spoilt" s_law_spoilt)(d38:Df K mg "_law_due" s_law_due)(d39:Df K mg "_law_asked" s_law_asked)(d40:Df K mg "law" s_law)(EX:Exs K mg):
 ∃fd:FuncData,(∀(s:Shared) (v:Value),BindsTo s fd ⟨[v],[]⟩ [("script",v)])/\∀base:Heap,D9 P w K mg base CX0 12 fa fd ["script"] (sp_law K):=by
 obtain⟨f,fd,F,m⟩:=d40
 have e:=hfa.symm.trans m
 cases e
 refine⟨fd,?_,λbase=>?_⟩
 ·obtain⟨oc,od,kV,doc,pm,an,cdv,ct,osl,rfl,_,_⟩:=F.ex
  exact λs v=>.of_eq rfl
 have g_mixed:=MS (P:=P) (w:=w) (base:=base) (k:=0) d27 B.toBlt
 have g_draw:=NX (k:=1) d29 B.toBlt g_mixed
 have g_some:=NY (k:=2) d30 B.toBlt g_draw
 have g_letter:=Ki (k:=2) d31 B.toBlt g_draw
 have g_tree:=NZ (k:=3) d32 B.toBlt (g_draw.mono (by decide)) g_some g_letter
 have g_deck:=NW (P:=P) (w:=w) (base:=base) (k:=0) d28 B.toBlt
 have g_lwords:=Kj (P:=P) (w:=w) (base:=base) (k:=0) d33 B.toBlt
 have g_words:=MR (P:=P) (w:=w) (base:=base) (k:=0) d12 B.toBlt
 have g_isl:=Ji (P:=P) (w:=w) (base:=base) (k:=0) d3 B
 have g_rising:=Kl (P:=P) (w:=w) (base:=base) (k:=0) d4 B
 have g_part:=Nl (P:=P) (w:=w) (base:=base) (k:=1) d7 B
 have g_lby:=Oy (k:=1) EX.toEx1 d8 B g_isl g_rising
 have g_items:=MW (k:=2) EX.toEx1 d6 B g_part g_lby
 have g_ispat:=MX (k:=3) EX.toEx2 d5 B g_items
 have g_due:=O5 (P:=P) (w:=w) (base:=base) (k:=0) d38 B
 have g_swith:=Mb (P:=P) (w:=w) (base:=base) (k:=0) d13 B
 have g_sby:=O7 (P:=P) (w:=w) (base:=base) (k:=0) d14 B
 have g_lens:=Ny (k:=1) d15 B g_swith g_sby
 have g_wat:=PQ (k:=3) EX.toEx1 d16 B g_items (g_words.mono (by decide)) (g_lens.mono (by decide))
 have g_fat:=PR (k:=3) EX.toEx1 d17 B g_items (g_words.mono (by decide)) (g_lens.mono (by decide))
 have g_wf:=Qn (k:=3) EX.toEx1 d18 B g_items (g_words.mono (by decide)) (g_lens.mono (by decide))
 have g_many:=N0 (k:=4) EX.toEx1 d19 B g_wf
 have g_wh:=Qo (P:=P) (w:=w) (base:=base) (k:=0) d1 B
 have g_m1:=Qp (k:=1) d2 B g_wh
 have g_wby:=O9 (k:=4) EX.toEx3 d20 B g_wf (g_m1.mono (by decide))
 have g_nby:=PB (k:=4) EX.toEx3 d21 B g_wf
 have g_marks:=Mc (k:=3) EX.toEx1 d22 B g_items (g_swith.mono (by decide)) (g_sby.mono (by decide))
 have g_iss:=N7 (P:=P) (w:=w) (base:=base) (k:=0) d25 IP (λ_ _ _ _ _ _ us hl=>match us,hl with|[_,_],_=>rfl)
 have g_ind:=N7 (P:=P) (w:=w) (base:=base) (k:=2) d26 E5 (λ_ _ _ _ _ _ us hl=>match us,hl with|[_,_,_],_=>rfl)
 have g_ism:=PF (k:=1) d24 B g_iss g_sby
 have g_show:=N6 (k:=3) EX.toEx1 d23 B g_items (g_ism.mono (by decide)) g_ind
 have g_fah:=PL (P:=P) (w:=w) (base:=base) (k:=0) d11 B
 have g_fbe:=PM (k:=1) d10 B g_fah
 have g_shares:=Ko (k:=3) EX.toEx1 d9 B g_items (g_fbe.mono (by decide))
 have g_kindN:=OE (P:=P) (w:=w) (base:=base) (k:=0) EX d36 B
 have g_kindW:=Md (P:=P) (w:=w) (base:=base) (k:=0) EX d36 B
 have g_kindP:=Me (P:=P) (w:=w) (base:=base) (k:=0) EX d36 B
 have g_asked:=Mg (k:=5) EX d39 B (g_shares.mono (by decide)) (g_wat.mono (by decide)) (g_fat.mono (by decide)) g_many g_wby g_nby (g_marks.mono (by decide)) (g_show.mono (by decide)) (g_kindN.mono (by decide)) (g_kindW.mono (by decide)) (g_kindP.mono (by decide))
 have g_litems:=Kr (k:=3) d34 B (g_draw.mono (by decide)) g_some g_letter
 have g_lwrit:=Mh (P:=P) (w:=w) (base:=base) (k:=0) d35 B
 have g_spoilt:=Kq (k:=3) d37 B (g_draw.mono (by decide)) g_some
 exact(Qy (k:=6) F B (g_deck.mono (by decide)) (g_draw.mono (by decide)) (g_some.mono (by decide)) (g_tree.mono (by decide)) (g_lwords.mono (by decide)) (g_litems.mono (by decide)) (g_lwrit.mono (by decide)) (g_spoilt.mono (by decide)) (g_due.mono (by decide)) (g_ispat.mono (by decide)) g_asked).mono (by decide)
end S61
def PySem.W.Fast.tw1580921845817866376:Nat:=0
def PySem.W.Fast.tw3426945460004325669:Nat:=0
def PySem.W.Fast.tw16366273364988462658:Nat:=0
def PySem.W.Fast.tw5666447067641620246:Nat:=0
def PySem.W.Fast.tw8597294370684245318:Nat:=0
def PySem.W.Fast.tw7184715612859619047:Nat:=0
def PySem.W.Fast.tw1532097991904636971:Nat:=0
def PySem.W.Fast.tw16668248611226945363:Nat:=0
def PySem.W.Fast.tw11122322555575310042:Nat:=0
def PySem.W.Fast.tw11106702636526738034:Nat:=0
def PySem.W.Fast.tw2114448284231301839:Nat:=0
def PySem.W.Fast.tw4534551984120270029:Nat:=0
def PySem.W.Fast.tw16450847691724841520:Nat:=0
def PySem.W.Fast.tw14604185625068025522:Nat:=0
def PySem.W.Fast.tw5706257187921620168:Nat:=0
def PySem.W.Fast.tw7612839629712818893:Nat:=0
def PySem.W.Fast.tw299940542446460473:Nat:=0
def PySem.W.Fast.tw5357316949593377835:Nat:=0
def PySem.W.Fast.tw2923392542195531672:Nat:=0
def PySem.W.Fast.tw16337552448994720850:Nat:=0
def PySem.W.Fast.tw2919610145279496716:Nat:=0
def PySem.W.Fast.tw12613038735202108802:Nat:=0
def PySem.W.Fast.tw1427028635360232892:Nat:=0
def PySem.W.Fast.tw11840488008717756107:Nat:=0
def PySem.W.Fast.tw5592521976302626201:Nat:=0
def PySem.W.Fast.tw4709962079679201406:Nat:=0
def PySem.W.Fast.tw16116554745696025471:Nat:=0
def PySem.W.Fast.tw4756692495922510836:Nat:=0
def PySem.W.Fast.tw10911984210514076278:Nat:=0
def PySem.W.Fast.tw12001271320679494375:Nat:=0
def PySem.W.Fast.tw1339854176034516938:Nat:=0
def PySem.W.Fast.tw12495985178524180301:Nat:=0
def PySem.W.Fast.tw16464008700216449920:Nat:=0
def PySem.W.Fast.tw7435857592679899243:Nat:=0
def PySem.W.Fast.tw15347617151277224659:Nat:=0
def PySem.W.Fast.tw445420422342909045:Nat:=0
def PySem.W.Fast.tw14535205847728318903:Nat:=0
open PySem PySem.W PyProof.Rows
set_option maxRecDepth 100000 in
set_option maxHeartbeats 0 in
theorem PySem.Challenge.cw_upwords_k61_patterns_known_holds : PySem.Challenge.rw_upwords_k61_patterns_known.Holds := by
  w_on; o_law; k_head; (case hw => w_witness2)
  k_fill
  refine L2.walk_ofK (l := PySem.Challenge.rw_upwords_k61_patterns_known) (n := 63) (k := 12) (x := "script") (CX := L2.CX0) (sp := S61.sp_law) rfl (by decide) rfl ⟨rfl, by decide, by decide, rfl⟩ (fun w h Y => PySem.W.kIn_of Y) ?F
    (fun K H a ns hl _ hS => ⟨a, ns, rfl, hS, hl, fun _ => rfl⟩) (fun _ _ _ _ z => z)
  case F =>
    intro w mg fa h KX G hmg
    have B : L2.Blt mg := by
      refine' S61.blt_mk KX G ?z1 ?z2 ?z3 ?z4 ?z5 ?z6 ?z7 ?z8 ?z9 ?z10 ?z11 ?z12
      (case z1 => k_is); (case z2 => k_is); (case z3 => k_is); (case z4 => k_is); (case z5 => k_is); (case z6 => k_is); (case z7 => k_is); (case z8 => k_is); (case z9 => k_is); (case z10 => k_is); (case z11 => k_is); (case z12 => k_is)
    have Bx0 : mg "ValueError" = none := by
      refine' PySem.W.mg_none_of KX G ?z
      (case z => k_is)
    have Bx1 : mg "reversed" = none := by
      refine' PySem.W.mg_none_of KX G ?z
      (case z => k_is)
    have Bx2 : mg "all" = none := by
      refine' PySem.W.mg_none_of KX G ?z
      (case z => k_is)
    have Bx3 : mg "dict" = none := by
      refine' PySem.W.mg_none_of KX G ?z
      (case z => k_is)
    have Bx4 : mg "sorted" = none := by
      refine' PySem.W.mg_none_of KX G ?z
      (case z => k_is)
    have Bx5 : mg "set" = none := by
      refine' PySem.W.mg_none_of KX G ?z
      (case z => k_is)
    have Bx6 : ∃ u, mg "LETTERS" = some u ∧ L2.RelV (.str "abcdefghijklmnopqrstuvwxyz") u := by
      refine' ⟨_, PySem.W.mg_of KX G ?z, ?r⟩
      (case z => k_is)
      (case r => exact ⟨_, rfl⟩)
    have Bx7 : ∃ u, mg "MOST_SIGNS" = some u ∧ L2.RelV (.int 40) u := by
      refine' ⟨_, PySem.W.mg_of KX G ?z, ?r⟩
      (case z => k_is)
      (case r => exact ⟨_, rfl⟩)
    have d1 : L2.Df (L2.KOf KX) mg "is_whole" S61.s_is_whole := by
      dsimp only [L2.KOf]; refine' S61.df_mk KX G ?a ?l ?c ?k
      (case a => k_is); (case l => k_is); (case c => k_is); (case k => k_is)
    have d2 : L2.Df (L2.KOf KX) mg "is_number_below" S61.s_is_number_below := by
      dsimp only [L2.KOf]; refine' S61.df_mk KX G ?a ?l ?c ?k
      (case a => k_is); (case l => k_is); (case c => k_is); (case k => k_is)
    have d3 : L2.Df (L2.KOf KX) mg "is_letters" S61.s_is_letters := by
      dsimp only [L2.KOf]; refine' S61.df_mk KX G ?a ?l ?c ?k
      (case a => k_is); (case l => k_is); (case c => k_is); (case k => k_is)
    have d4 : L2.Df (L2.KOf KX) mg "is_rising" S61.s_is_rising := by
      dsimp only [L2.KOf]; refine' S61.df_mk KX G ?a ?l ?c ?k
      (case a => k_is); (case l => k_is); (case c => k_is); (case k => k_is)
    have d5 : L2.Df (L2.KOf KX) mg "is_pattern" S61.s_is_pattern := by
      dsimp only [L2.KOf]; refine' S61.df_mk KX G ?a ?l ?c ?k
      (case a => k_is); (case l => k_is); (case c => k_is); (case k => k_is)
    have d6 : L2.Df (L2.KOf KX) mg "items_of" S61.s_items_of := by
      dsimp only [L2.KOf]; refine' S61.df_mk KX G ?a ?l ?c ?k
      (case a => k_is); (case l => k_is); (case c => k_is); (case k => k_is)
    have d7 : L2.Df (L2.KOf KX) mg "part_ahead" S61.s_part_ahead := by
      dsimp only [L2.KOf]; refine' S61.df_mk KX G ?a ?l ?c ?k
      (case a => k_is); (case l => k_is); (case c => k_is); (case k => k_is)
    have d8 : L2.Df (L2.KOf KX) mg "letters_by" S61.s_letters_by := by
      dsimp only [L2.KOf]; refine' S61.df_mk KX G ?a ?l ?c ?k
      (case a => k_is); (case l => k_is); (case c => k_is); (case k => k_is)
    have d9 : L2.Df (L2.KOf KX) mg "shares_of" S61.s_shares_of := by
      dsimp only [L2.KOf]; refine' S61.df_mk KX G ?a ?l ?c ?k
      (case a => k_is); (case l => k_is); (case c => k_is); (case k => k_is)
    have d10 : L2.Df (L2.KOf KX) mg "fits_behind" S61.s_fits_behind := by
      dsimp only [L2.KOf]; refine' S61.df_mk KX G ?a ?l ?c ?k
      (case a => k_is); (case l => k_is); (case c => k_is); (case k => k_is)
    have d11 : L2.Df (L2.KOf KX) mg "fits_ahead" S61.s_fits_ahead := by
      dsimp only [L2.KOf]; refine' S61.df_mk KX G ?a ?l ?c ?k
      (case a => k_is); (case l => k_is); (case c => k_is); (case k => k_is)
    have d12 : L2.Df (L2.KOf KX) mg "words_of" S61.s_words_of := by
      dsimp only [L2.KOf]; refine' S61.df_mk KX G ?a ?l ?c ?k
      (case a => k_is); (case l => k_is); (case c => k_is); (case k => k_is)
    have d13 : L2.Df (L2.KOf KX) mg "states_with" S61.s_states_with := by
      dsimp only [L2.KOf]; refine' S61.df_mk KX G ?a ?l ?c ?k
      (case a => k_is); (case l => k_is); (case c => k_is); (case k => k_is)
    have d14 : L2.Df (L2.KOf KX) mg "states_by" S61.s_states_by := by
      dsimp only [L2.KOf]; refine' S61.df_mk KX G ?a ?l ?c ?k
      (case a => k_is); (case l => k_is); (case c => k_is); (case k => k_is)
    have d15 : L2.Df (L2.KOf KX) mg "lengths_fitting" S61.s_lengths_fitting := by
      dsimp only [L2.KOf]; refine' S61.df_mk KX G ?a ?l ?c ?k
      (case a => k_is); (case l => k_is); (case c => k_is); (case k => k_is)
    have d16 : L2.Df (L2.KOf KX) mg "whole_at" S61.s_whole_at := by
      dsimp only [L2.KOf]; refine' S61.df_mk KX G ?a ?l ?c ?k
      (case a => k_is); (case l => k_is); (case c => k_is); (case k => k_is)
    have d17 : L2.Df (L2.KOf KX) mg "found_at" S61.s_found_at := by
      dsimp only [L2.KOf]; refine' S61.df_mk KX G ?a ?l ?c ?k
      (case a => k_is); (case l => k_is); (case c => k_is); (case k => k_is)
    have d18 : L2.Df (L2.KOf KX) mg "words_fitting" S61.s_words_fitting := by
      dsimp only [L2.KOf]; refine' S61.df_mk KX G ?a ?l ?c ?k
      (case a => k_is); (case l => k_is); (case c => k_is); (case k => k_is)
    have d19 : L2.Df (L2.KOf KX) mg "many_by" S61.s_many_by := by
      dsimp only [L2.KOf]; refine' S61.df_mk KX G ?a ?l ?c ?k
      (case a => k_is); (case l => k_is); (case c => k_is); (case k => k_is)
    have d20 : L2.Df (L2.KOf KX) mg "word_by" S61.s_word_by := by
      dsimp only [L2.KOf]; refine' S61.df_mk KX G ?a ?l ?c ?k
      (case a => k_is); (case l => k_is); (case c => k_is); (case k => k_is)
    have d21 : L2.Df (L2.KOf KX) mg "number_by" S61.s_number_by := by
      dsimp only [L2.KOf]; refine' S61.df_mk KX G ?a ?l ?c ?k
      (case a => k_is); (case l => k_is); (case c => k_is); (case k => k_is)
    have d22 : L2.Df (L2.KOf KX) mg "marks_of" S61.s_marks_of := by
      dsimp only [L2.KOf]; refine' S61.df_mk KX G ?a ?l ?c ?k
      (case a => k_is); (case l => k_is); (case c => k_is); (case k => k_is)
    have d23 : L2.Df (L2.KOf KX) mg "marks_show" S61.s_marks_show := by
      dsimp only [L2.KOf]; refine' S61.df_mk KX G ?a ?l ?c ?k
      (case a => k_is); (case l => k_is); (case c => k_is); (case k => k_is)
    have d24 : L2.Df (L2.KOf KX) mg "is_marks" S61.s_is_marks := by
      dsimp only [L2.KOf]; refine' S61.df_mk KX G ?a ?l ?c ?k
      (case a => k_is); (case l => k_is); (case c => k_is); (case k => k_is)
    have d25 : L2.Df (L2.KOf KX) mg "is_states" S61.s_is_states := by
      dsimp only [L2.KOf]; refine' S61.df_mk KX G ?a ?l ?c ?k
      (case a => k_is); (case l => k_is); (case c => k_is); (case k => k_is)
    have d26 : L2.Df (L2.KOf KX) mg "is_never_done" S61.s_is_never_done := by
      dsimp only [L2.KOf]; refine' S61.df_mk KX G ?a ?l ?c ?k
      (case a => k_is); (case l => k_is); (case c => k_is); (case k => k_is)
    have d27 : L2.Df (L2.KOf KX) mg "_law_mixed" S61.s_law_mixed := by
      dsimp only [L2.KOf]; refine' S61.df_mk KX G ?a ?l ?c ?k
      (case a => k_is); (case l => k_is); (case c => k_is); (case k => k_is)
    have d28 : L2.Df (L2.KOf KX) mg "_law_deck" S61.s_law_deck := by
      dsimp only [L2.KOf]; refine' S61.df_mk KX G ?a ?l ?c ?k
      (case a => k_is); (case l => k_is); (case c => k_is); (case k => k_is)
    have d29 : L2.Df (L2.KOf KX) mg "_law_draw" S61.s_law_draw := by
      dsimp only [L2.KOf]; refine' S61.df_mk KX G ?a ?l ?c ?k
      (case a => k_is); (case l => k_is); (case c => k_is); (case k => k_is)
    have d30 : L2.Df (L2.KOf KX) mg "_law_some" S61.s_law_some := by
      dsimp only [L2.KOf]; refine' S61.df_mk KX G ?a ?l ?c ?k
      (case a => k_is); (case l => k_is); (case c => k_is); (case k => k_is)
    have d31 : L2.Df (L2.KOf KX) mg "_law_letter" S61.s_law_letter := by
      dsimp only [L2.KOf]; refine' S61.df_mk KX G ?a ?l ?c ?k
      (case a => k_is); (case l => k_is); (case c => k_is); (case k => k_is)
    have d32 : L2.Df (L2.KOf KX) mg "_law_tree" S61.s_law_tree := by
      dsimp only [L2.KOf]; refine' S61.df_mk KX G ?a ?l ?c ?k
      (case a => k_is); (case l => k_is); (case c => k_is); (case k => k_is)
    have d33 : L2.Df (L2.KOf KX) mg "_law_words" S61.s_law_words := by
      dsimp only [L2.KOf]; refine' S61.df_mk KX G ?a ?l ?c ?k
      (case a => k_is); (case l => k_is); (case c => k_is); (case k => k_is)
    have d34 : L2.Df (L2.KOf KX) mg "_law_items" S61.s_law_items := by
      dsimp only [L2.KOf]; refine' S61.df_mk KX G ?a ?l ?c ?k
      (case a => k_is); (case l => k_is); (case c => k_is); (case k => k_is)
    have d35 : L2.Df (L2.KOf KX) mg "_law_written" S61.s_law_written := by
      dsimp only [L2.KOf]; refine' S61.df_mk KX G ?a ?l ?c ?k
      (case a => k_is); (case l => k_is); (case c => k_is); (case k => k_is)
    have d36 : L2.Df (L2.KOf KX) mg "_law_kind" S61.s_law_kind := by
      dsimp only [L2.KOf]; refine' S61.df_mk KX G ?a ?l ?c ?k
      (case a => k_is); (case l => k_is); (case c => k_is); (case k => k_is)
    have d37 : L2.Df (L2.KOf KX) mg "_law_spoilt" S61.s_law_spoilt := by
      dsimp only [L2.KOf]; refine' S61.df_mk KX G ?a ?l ?c ?k
      (case a => k_is); (case l => k_is); (case c => k_is); (case k => k_is)
    have d38 : L2.Df (L2.KOf KX) mg "_law_due" S61.s_law_due := by
      dsimp only [L2.KOf]; refine' S61.df_mk KX G ?a ?l ?c ?k
      (case a => k_is); (case l => k_is); (case c => k_is); (case k => k_is)
    have d39 : L2.Df (L2.KOf KX) mg "_law_asked" S61.s_law_asked := by
      dsimp only [L2.KOf]; refine' S61.df_mk KX G ?a ?l ?c ?k
      (case a => k_is); (case l => k_is); (case c => k_is); (case k => k_is)
    have d40 : L2.Df (L2.KOf KX) mg "law" S61.s_law := by
      dsimp only [L2.KOf]; refine' S61.df_mk KX G ?a ?l ?c ?k
      (case a => k_is); (case l => k_is); (case c => k_is); (case k => k_is)
    have EX : S61.Exs (L2.KOf KX) mg := by
      dsimp only [L2.KOf]; refine' S61.exs_mk KX G ?a_UpError ?a_NoPlace ?a_NoNumber ?a_NoWord ?a_NoRows ?a_NoRuns ?a_NoCover ?a_NoText ?a_TooMany ?a_NoTries ?a_NoPattern ?a_NoLetter ?a_NoLeaf ?a_NoChange ?a_NoLine ?a_NoTree ?q_NoNumber ?ga_NoNumber ?gn_NoNumber ?cl_NoNumber ?ob_NoNumber ?be_NoNumber ?cd_NoNumber ?u_NoNumber ?q_NoWord ?ga_NoWord ?gn_NoWord ?cl_NoWord ?ob_NoWord ?be_NoWord ?cd_NoWord ?u_NoWord ?q_NoPattern ?ga_NoPattern ?gn_NoPattern ?cl_NoPattern ?ob_NoPattern ?be_NoPattern ?cd_NoPattern ?u_NoPattern ?gt ?tk ?p_NoPattern ?n0 ?n1 ?n2 ?nv ?n3 ?n4 ?w0 ?w1 ?w2 ?wv ?w3 ?w4 ?p0 ?p1 ?p2 ?pv ?p3 ?p4
      (case a_UpError => k_is); (case a_NoPlace => k_is); (case a_NoNumber => k_is); (case a_NoWord => k_is); (case a_NoRows => k_is); (case a_NoRuns => k_is); (case a_NoCover => k_is); (case a_NoText => k_is); (case a_TooMany => k_is); (case a_NoTries => k_is); (case a_NoPattern => k_is); (case a_NoLetter => k_is); (case a_NoLeaf => k_is); (case a_NoChange => k_is); (case a_NoLine => k_is); (case a_NoTree => k_is); (case q_NoNumber => first | k_exc | k_is); (case ga_NoNumber => k_is); (case gn_NoNumber => k_is); (case cl_NoNumber => k_is); (case ob_NoNumber => k_is); (case be_NoNumber => k_is); (case cd_NoNumber => first | k_is | kernel_rfl); (case u_NoNumber => first | k_is | kernel_rfl); (case q_NoWord => first | k_exc | k_is); (case ga_NoWord => k_is); (case gn_NoWord => k_is); (case cl_NoWord => k_is); (case ob_NoWord => k_is); (case be_NoWord => k_is); (case cd_NoWord => first | k_is | kernel_rfl); (case u_NoWord => first | k_is | kernel_rfl); (case q_NoPattern => first | k_exc | k_is); (case ga_NoPattern => k_is); (case gn_NoPattern => k_is); (case cl_NoPattern => k_is); (case ob_NoPattern => k_is); (case be_NoPattern => k_is); (case cd_NoPattern => first | k_is | kernel_rfl); (case u_NoPattern => first | k_is | kernel_rfl); (case gt => k_is); (case tk => k_is); (case p_NoPattern => first | k_is | kernel_rfl); (case n0 => first | k_is | kernel_rfl); (case n1 => first | k_is | kernel_rfl); (case n2 => first | k_is | kernel_rfl); (case nv => first | k_is | kernel_rfl); (case n3 => first | k_is | kernel_rfl); (case n4 => first | k_is | kernel_rfl); (case w0 => first | k_is | kernel_rfl); (case w1 => first | k_is | kernel_rfl); (case w2 => first | k_is | kernel_rfl); (case wv => first | k_is | kernel_rfl); (case w3 => first | k_is | kernel_rfl); (case w4 => first | k_is | kernel_rfl); (case p0 => first | k_is | kernel_rfl); (case p1 => first | k_is | kernel_rfl); (case p2 => first | k_is | kernel_rfl); (case pv => first | k_is | kernel_rfl); (case p3 => first | k_is | kernel_rfl); (case p4 => first | k_is | kernel_rfl)
    obtain ⟨fd, h1, h2⟩ := S61.all_ok (P := PySem.Challenge.rw_upwords_k61_patterns_known.prog) (w := w) hmg ⟨B, Bx0, Bx1, Bx2, Bx3, Bx4, Bx5, Bx6, Bx7⟩ d1 d2 d3 d4 d5 d6 d7 d8 d9 d10 d11 d12 d13 d14 d15 d16 d17 d18 d19 d20 d21 d22 d23 d24 d25 d26 d27 d28 d29 d30 d31 d32 d33 d34 d35 d36 d37 d38 d39 d40 EX
    exact ⟨fd, h1, fun base _ _ => h2 base⟩
