import PyProof.Rows.All
import Wide.All
import OpenK.AllK
import Wide.FinOn
import Lean
import PyProof.EqAt
import PyProof.EqKinds
import PyProof.TupleCall
import PyProof.WalkInts
import PyProof.NeKinds
import KE.KSortTup
import KE.KDictOf
import PyProof.DictWalks
import PyProof.AttrMissSeq
import KE.KDictSum
import KE.KMinKey
import PyProof.StrBlock
import PyProof.StrLaws
import PySem.Challenge.RW_upwords_k24_whole_unlike_words_hang_toge
set_option Elab.async false
set_option linter.all false
set_option maxRecDepth 100000
namespace L2
open PySem PySem.Spec PyProof.Rows
abbrev Key:=Sum Int Str
def Hr:Key->Value->Bool
 |.inl k,v=>Value.isInt k v
 |.inr x,v=>Value.isStrOf x v
def TV (w:World):Key->Int
 |.inl k=>hashInt k
 |.inr x=>hashStr w x
theorem A8:∀{k:Key} {v:Value},Hr k v=true->(∃i t,k=Sum.inl i/\v=Value.int i t)\/(∃x t,k=Sum.inr x/\v=Value.str x t)
 |.inl i,v,h=>by
  obtain⟨t,e⟩:=Value.isInt_shape (k:=i) (v:=v) h
  exact .inl ⟨i,t,rfl,e⟩
 |.inr x,v,h=>by
  obtain⟨t,e⟩:=Value.isStrOf_shape (x:=x) (v:=v) h
  exact .inr ⟨x,t,rfl,e⟩
theorem Mb (i:Int)(t:Tok):Hr (.inl i) (.int i t)=true:=by simp[Hr,Value.isInt]
theorem Mc (x:Str)(t:Tok):Hr (.inr x) (.str x t)=true:=by simp[Hr,Value.isStrOf]
theorem Qi (a b:Int):decide ((Sum.inl a:Key)=Sum.inl b)=(a==b):=by
 by_cases e:a=b
 ·subst e;simp
 ·have h:¬(Sum.inl a:Key)=Sum.inl b:=λq=>e (Sum.inl.inj q)
  rw[decide_eq_false h]
  exact(beq_eq_false_iff_ne.mpr e).symm
theorem Qj (a b:Str):decide ((Sum.inr a:Key)=Sum.inr b)=decide (a=b):=by
 by_cases e:a=b
 ·subst e;simp
 ·have h:¬(Sum.inr a:Key)=Sum.inr b:=λq=>e (Sum.inr.inj q)
  rw[decide_eq_false h,decide_eq_false e]
theorem Qk (a:Int)(b:Str):decide ((Sum.inl a:Key)=Sum.inr b)=false:=decide_eq_false (λq=>nomatch q)
theorem Ql (a:Str)(b:Int):decide ((Sum.inr a:Key)=Sum.inl b)=false:=decide_eq_false (λq=>nomatch q)
def As (prog:Program)(w:World):PySem.KeyKind prog w Key where
 is:=Hr
 hash:=TV w
 inj:=λv a b ha hb=>by
  rcases A8 ha with⟨i,t,rfl,rfl⟩|⟨x,t,rfl,rfl⟩
  ·rcases A8 hb with⟨j,u,rfl,e⟩|⟨y,u,rfl,e⟩
   ·injection e with e1 _;rw[e1]
   ·exact nomatch e
  ·rcases A8 hb with⟨j,u,rfl,e⟩|⟨y,u,rfl,e⟩
   ·exact nomatch e
   ·injection e with e1 _;rw[e1]
 byValue:=λk v h=>by
  rcases A8 h with⟨i,t,rfl,rfl⟩|⟨x,t,rfl,rfl⟩<;>rfl
 pyHash:=λhv h=>by
  rcases A8 hv with⟨i,t,rfl,rfl⟩|⟨x,t,rfl,rfl⟩
  ·exact wpAny_pyHash_int h
  ·exact wpAny_pyHash_str h
 eqBool:=λhu hv h=>by
  rcases A8 hu with⟨i,t,rfl,rfl⟩|⟨x,t,rfl,rfl⟩
  ·rcases A8 hv with⟨j,u,rfl,rfl⟩|⟨y,u,rfl,rfl⟩
   ·rw[Qi]at h;exact wpAny_eqBool_int h
   ·rw[Qk]at h;exact SeqAt.EqAt.int_str i t y u _ _ _ _ h
  ·rcases A8 hv with⟨j,u,rfl,rfl⟩|⟨y,u,rfl,rfl⟩
   ·rw[Ql]at h;exact SeqAt.EqAt.str_int x t j u _ _ _ _ h
   ·rw[Qj]at h;exact wpAny_eqBool_str h
 «strs»:=λk x t v h=>by
  rcases A8 h with⟨i,u,rfl,e⟩|⟨y,u,rfl,e⟩
  ·exact nomatch e
  ·injection e with e1 _
   subst e1
   cases v<;>rfl
theorem JS (prog:Program)(w:World)(i:Int)(t:Tok):(As prog w).is (.inl i) (.int i t)=true:=Mb i t
theorem JT (prog:Program)(w:World)(x:Str)(t:Tok):(As prog w).is (.inr x) (.str x t)=true:=Mc x t
end L2
namespace L2
open PySem PySem.Spec PyProof.Rows
inductive V where
 |non|bl (b:Bool)|int (i:Int)|str (x:Str)|byt (b:Array UInt8)|flt (b:UInt64)|ref (a:Addr)|ty (n:String)
 deriving DecidableEq
def RelV:V->Value->Prop
 |.non,u=>u=Value.none
 |.bl b,u=>u=Value.bool b
 |.int i,u=>∃t,u=Value.int i t
 |.str x,u=>∃t,u=Value.str x t
 |.byt b,u=>∃t,u=Value.bytes b t
 |.flt b,u=>∃t,u=Value.float b t
 |.ref a,u=>u=Value.ref a
 |.ty n,u=>u=Value.type n
abbrev Vals:List V->List Value->Prop:=Paired RelV
theorem Vals.length {xs:List V}{us:List Value}(r:Vals xs us):xs.length=us.length:=Paired.length r
theorem Vals.get:∀{xs:List V} {us:List Value} {i:Nat} {x:V},Vals xs us->xs[i]?=some x->∃u,us[i]?=some u/\RelV x u
 |_,_,_,_,.nil,e=>by simp at e
 |_,_,0,_,.cons r _,e=>by simp at e;subst e;exact⟨_,rfl,r⟩
 |_,_,i+1,x,.cons _ t,e=>by
  obtain⟨u,h1,h2⟩:=Vals.get (i:=i) (x:=x) t (by simpa using e)
  exact⟨u,by simpa using h1,h2⟩
theorem Vals.set {x:V}{u:Value}(r:RelV x u):∀{xs:List V} {us:List Value} (i:Nat),Vals xs us->Vals (xs.set i x) (us.set i u)
 |_,_,_,.nil=>.nil
 |_,_,0,.cons _ t=>.cons r t
 |_,_,i+1,.cons q t=>.cons q (Vals.set r i t)
theorem Vals.append:∀{xs ys:List V} {us ws:List Value},Vals xs us->Vals ys ws->Vals (xs++ys) (us++ws)
 |_,_,_,_,.nil,s=>s
 |_,_,_,_,.cons r t,s=>.cons r (Vals.append t s)
theorem Vals.take:∀{xs:List V} {us:List Value} (n:Nat),Vals xs us->Vals (xs.take n) (us.take n)
 |_,_,0,_=>.nil
 |_,_,_+1,.nil=>.nil
 |_,_,n+1,.cons r t=>.cons r (Vals.take n t)
theorem Vals.drop:∀{xs:List V} {us:List Value} (n:Nat),Vals xs us->Vals (xs.drop n) (us.drop n)
 |_,_,0,r=>r
 |_,_,_+1,.nil=>.nil
 |_,_,n+1,.cons _ t=>Vals.drop n t
def Ki:Option V->Option Value->Prop
 |some v,some u=>RelV v u
 |none,none=>True
 |_,_=>False
def KV {κ:Type}:List (κ×V)->List (κ×Value)->Prop:=Paired λ(p:κ×V) (q:κ×Value)=>p.1=q.1/\RelV p.2 q.2
def kV:Key->V
 |.inl i=>.int i
 |.inr x=>.str x
inductive HO where
 |lst (xs:List V)
 |tup (xs:List V)
 |dK (kvs:List (Key×V))|dT (kvs:List (List Key×V))
 |set (S:Int->Bool) (n:Nat)
 |ins (C dx:Addr) (fs:List (Str×V))
 |own (x:Addr)
 |xd (fs:List (Str×V))
 |met (f x:Addr)
 |rng (lo hi:Int)
 |frz (o:Obj) (u:HO)
 |tbl (ps:Array Value)
 |ext (φ:Heap->Prop)
abbrev Hp:=Addr->Option HO
def upd (H:Hp)(a:Addr)(o:HO):Hp:=λb=>if b=a then some o else H b
theorem AD {H:Hp}{a:Addr}{o:HO}:upd H a o a=some o:=by unfold upd;rw[if_pos rfl]
theorem AL {H:Hp}{a b:Addr}{o:HO}(h:b≠a):upd H a o b=H b:=by unfold upd;rw[if_neg h]
theorem GO {H:Hp}{a b:Addr}{o u:HO}(h:H a=some o)(h':H b=some u)(d:o≠u):a≠b:=by
 intro e;subst e;rw[h]at h';exact d (Option.some.inj h')
theorem AK {H:Hp}{a b:Addr}{o:HO}(h:H a=some o)(h':H b=none):a≠b:=by
 intro e;subst e;rw[h]at h';cases h'
section
variable (P:Program)(w:World)
def Ax (H:Hp)(h:Heap)(a:Addr):HO->Prop
 |.lst xs=>xs.length<=sizeLine/\∃(its:List Value) (n:Nat),Vals xs its/\h.get? a=some { cls:=.type "list",data:=.seq its.toArray n }
 |.tup xs=>(xs.length<=sizeLine/\∃o,h.get? a=some o/\o.dict=none)/\∃its:List Value,Vals xs its/\IsTup h a its.toArray
 |.dK kvs=>kvs.length<=sizeLine/\(a==sysModules)=false/\∃vs,KV kvs vs/\h.DictOf (As P w) a vs
 |.dT kvs=>kvs.length<=sizeLine/\(a==sysModules)=false/\∃xs:List (List Key×Addr×Value),
  Paired (λ(p:List Key×V) (q:List Key×Addr×Value)=>p.1=q.1/\H q.2.1=some (.tup (p.1.map kV))/\RelV p.2 q.2.2) kvs xs/\
  ∃o es ep,h.get? a=some o/\o.ExactDict/\o.data=.dict es ep/\es.toList=xs.map (entryOfKey (tupleKind (As P w)))/\(xs.map (·.1)).Nodup
 |.set S n=>h.SetOf (intKind P w) a S n
 |.ins C dx fs=>H dx=some (.own a)/\fs.length<=1000/\dx≠a/\h.get? a=some (PySem.W.instObj C dx)/\
  ∃mA,h.Ns1 dx mA/\(∀f,Ki (fs.lookup f) (mA f))/\PySem.Within mA (fs.map (·.1))
 |.own _=>∃o,h.get? a=some o
 |.xd fs=>∃mA,h.Ns1 a mA/\∀f,Ki (fs.lookup f) (mA f)
 |.rng lo hi=>∃t u v,h.get? a=some { cls:=.type "range",data:=.fields #[.int lo t,.int hi u,.int 1 v] }
 |.frz o u=>h.get? a=some o/\Ax H h a u
 |.tbl ps=>h.get? a=some { cls:=.none,data:=.fields ps }
 |.met f x=>h.get? a=some (PySem.W.methodObj (.ref f) (.ref x))
 |.ext φ=>φ h/\(∃o,h.get? a=some o)/\∀h1 h2:Heap,φ h1->(∀o,h1.get? a=some o->h2.get? a=some o)->φ h2
def Ed (H:Hp)(h:Heap):Prop:=∀a o,H a=some o->Ax P w H h a o
end
section
variable {P:Program}{w:World}{H H':Hp}{h h':Heap}{a:Addr}{o:HO}
theorem Ax.lt (x:Ax P w H h a o):a < h.objs.size:=by
 cases o with
 |lst xs=>obtain⟨_,_,_,_,e⟩:=x;exact Heap.lt_size e
 |tup xs=>obtain⟨_,_,_,p⟩:=x;exact p.lt
 |dK kvs=>obtain⟨_,_,_,_,o,_,_,e,_⟩:=x;exact Heap.lt_size e
 |dT kvs=>obtain⟨_,_,_,_,o,_,_,e,_⟩:=x;exact Heap.lt_size e
 |set S n=>obtain⟨o,_,_,_,e,_⟩:=x;exact Heap.lt_size e
 |ins C dx fs=>obtain⟨_,_,_,e,_⟩:=x;exact Heap.lt_size e
 |own y=>obtain⟨_,e⟩:=x;exact Heap.lt_size e
 |xd fs=>obtain⟨_,⟨_,_,_,e,_⟩,_⟩:=x;exact Heap.lt_size e
 |rng lo hi=>obtain⟨_,_,_,e⟩:=x;exact Heap.lt_size e
 |frz ob u=>obtain⟨e,_⟩:=x;exact Heap.lt_size e
 |tbl ps=>exact Heap.lt_size (show h.get? a=some _ from x)
 |met f y=>exact Heap.lt_size (show h.get? a=some _ from x)
 |ext φ=>obtain⟨_,⟨_,e⟩,_⟩:=x;exact Heap.lt_size e
theorem Paired.SA {α β:Type}{F G:α->β->Prop}:∀{l₁:List α} {l₂:List β},Paired F l₁ l₂->(∀a b,F a b->G a b)->Paired G l₁ l₂
 |_,_,.nil,_=>.nil
 |_,_,.cons r t,f=>.cons (f _ _ r) (Paired.SA t f)
theorem Ax.F2 (x:Ax P w H h a o)(k:∀b u,(b=a\/H b=some (.own a))->h.get? b=some u->h'.get? b=some u)
 (ho:∀b,H b=some (.own a)->H' b=some (.own a))(ht:∀b xs,H b=some (.tup xs)->H' b=some (.tup xs)):Ax P w H' h' a o:=by
 induction o with
 |lst xs=>obtain⟨z,its,n,r,e⟩:=x;exact⟨z,its,n,r,k _ _ (.inl rfl) e⟩
 |tup xs=>obtain⟨⟨z,o1,e1,c1⟩,its,r,ob,e,c⟩:=x;exact⟨⟨z,o1,k _ _ (.inl rfl) e1,c1⟩,its,r,ob,k _ _ (.inl rfl) e,c⟩
 |dK kvs=>obtain⟨z,y,vs,r,ob,es,ep,e,c⟩:=x;exact⟨z,y,vs,r,ob,es,ep,k _ _ (.inl rfl) e,c⟩
 |dT kvs=>
  obtain⟨z,y,xs,r,ob,es,ep,e,c⟩:=x
  exact⟨z,y,xs,Paired.SA r λp q z=>⟨z.1,ht _ _ z.2.1,z.2.2⟩,ob,es,ep,k _ _ (.inl rfl) e,c⟩
 |set S n=>obtain⟨ob,es,ep,t,e,c⟩:=x;exact⟨ob,es,ep,t,k _ _ (.inl rfl) e,c⟩
 |ins C dx fs=>
  obtain⟨d,z,ne,e,mA,⟨od,es,ep,e2,c⟩,r⟩:=x
  exact⟨ho _ d,z,ne,k _ _ (.inl rfl) e,mA,⟨od,es,ep,k _ _ (.inr d) e2,c⟩,r⟩
 |own y=>obtain⟨ob,e⟩:=x;exact⟨ob,k _ _ (.inl rfl) e⟩
 |xd fs=>obtain⟨mA,⟨od,es,ep,e,c⟩,r⟩:=x;exact⟨mA,⟨od,es,ep,k _ _ (.inl rfl) e,c⟩,r⟩
 |rng lo hi=>obtain⟨t,u,v,e⟩:=x;exact⟨t,u,v,k _ _ (.inl rfl) e⟩
 |frz ob u ih=>obtain⟨e,q⟩:=x;exact⟨k _ _ (.inl rfl) e,ih q⟩
 |tbl ps=>
  have e:h.get? a=some { cls:=.none,data:=.fields ps }:=x
  show h'.get? a=some { cls:=.none,data:=.fields ps }
  exact k a _ (.inl rfl) e
 |met f y=>
  have e:h.get? a=some (PySem.W.methodObj (.ref f) (.ref y)):=x
  show h'.get? a=some (PySem.W.methodObj (.ref f) (.ref y))
  exact k a _ (.inl rfl) e
 |ext φ=>obtain⟨p,⟨o,e⟩,st⟩:=x;exact⟨st _ _ p λo q=>k _ _ (.inl rfl) q,⟨o,k _ _ (.inl rfl) e⟩,st⟩
theorem Ed.lt (x:Ed P w H h)(e:H a=some o):a < h.objs.size:=(x a o e).lt
theorem Ed.fresh (x:Ed P w H h)(e:h.objs.size<=a):H a=none:=by
 cases q:H a with
 |none=>rfl
 |some u=>exact absurd (Nat.lt_of_lt_of_le (x.lt q) e) (Nat.lt_irrefl _)
theorem Ed.kept (x:Ed P w H h)(k:∀b u,h.get? b=some u->h'.get? b=some u):Ed P w H h':=λa o e=>
 (x a o e).F2 (λb u _ q=>k b u q) (λ_ q=>q) λ_ _ q=>q
theorem Ed.laid (x:Ed P w H h)(k:∀b u,h.get? b=some u->h'.get? b=some u)(hp:h.objs.size<=a)(new:Ax P w (upd H a o) h' a o):Ed P w (upd H a o) h':=λb u e=>by
 have hn:=x.fresh hp
 by_cases hb:b=a
 ·subst hb;rw[AD]at e;cases e;exact new
 ·rw[AL hb]at e
  exact(x b u e).F2 (λc v _ q=>k c v q) (λc q=>by rw[AL (AK q hn)];exact q) λc xs q=>by rw[AL (AK q hn)];exact q
end
def Rd (H:Hp)(a:Addr)(u:HO):Prop:=H a=some u\/∃o,H a=some (.frz o u)
theorem Rd.ok {P:Program}{w:World}{H:Hp}{h:Heap}{a:Addr}{u:HO}(r:Rd H a u)(x:Ed P w H h):Ax P w H h a u:=by
 rcases r with r|⟨o,r⟩
 ·exact x a u r
 ·obtain⟨_,q⟩:=x a _ r
  exact q
def S8:Option HO->Prop
 |some (.lst _)=>True
 |some (.dK _)=>True
 |some (.dT _)=>True
 |some (.set _ _)=>True
 |some (.ins _ _ _)=>True
 |some (.ext _)=>True
 |_=>False
section
variable {P:Program}{w:World}{H:Hp}{h h':Heap}{x e:Addr}{o':HO}
theorem Ed.write (ok:Ed P w H h)(mu:S8 (H x))(he:e=x\/H e=some (.own x))(k:∀b u,b≠e->h.get? b=some u->h'.get? b=some u)(heo:∃u,h'.get? e=some u)
 (new:Ax P w (upd H x o') h' x o'):Ed P w (upd H x o') h':=λb u q=>by
 have nown:∀c y,H c=some (.own y)->c≠x:=λc y r z=>by subst z;rw[r]at mu;exact mu
 have ntup:∀c xs,H c=some (.tup xs)->c≠x:=λc xs r z=>by subst z;rw[r]at mu;exact mu
 by_cases hb:b=x
 ·subst hb;rw[AD]at q;cases q;exact new
 ·rw[AL hb]at q
  by_cases hbe:b=e
  ·have q':H b=some (.own x):=by
    rcases he with z|z
    ·exact absurd (hbe.trans z) hb
    ·rw[hbe];exact z
   rw[q]at q';cases q'
   obtain⟨v,hv⟩:=heo
   exact⟨v,by rw[hbe];exact hv⟩
  ·refine(ok b u q).F2 (λc v hc r=>k c v ?_ r) (λc r=>by rw[AL (nown c b r)];exact r) λc xs r=>by rw[AL (ntup c xs r)];exact r
   rcases hc with rfl|hc
   ·exact hbe
   ·rintro rfl
    rcases he with z|z
    ·exact nown c b hc z
    ·rw[hc]at z;cases z;exact hb rfl
end
structure Un (fs ex:List Addr)(H H':Hp)(h h':Heap):Prop where
 keep:∀b o,h.get? b=some o->H b=none->b∉fs->b∉ex->h'.get? b=some o
 slot:∀b o,h.get? b=some o->H b=none->b∈fs->b∉ex->∃sl,h'.get? b=some { o with slots:=sl }
 free:∀b o,h.get? b=some o->H b=none->b∉ex->H' b=none
 there:∀b o,h.get? b=some o->b∉ex->∃o',h'.get? b=some o'
 tups:∀b xs,H b=some (.tup xs)->H' b=some (.tup xs)
 frzs:∀b o u,H b=some (.frz o u)->H' b=some (.frz o u)
 tbls:∀b ps,H b=some (.tbl ps)->∃more,H' b=some (.tbl (ps++more))
section
variable {fs fs' ex ex':List Addr}{H H1 H2:Hp}{h h1 h2 h':Heap}{a x e:Addr}{o:HO}
theorem Un.any (u:Un fs ex H H1 h h1){b:Addr}{ob:Obj}(q:h.get? b=some ob)(n:H b=none)(hx:b∉ex):∃sl,h1.get? b=some { ob with slots:=sl }:=by
 by_cases hb:b∈fs
 ·exact u.slot b ob q n hb hx
 ·exact⟨ob.slots,u.keep b ob q n hb hx⟩
theorem Un.kept (k:∀b u,h.get? b=some u->h'.get? b=some u):Un fs ex H H h h':=
 ⟨λb ob q _ _ _=>k b ob q,λb ob q _ _ _=>⟨ob.slots,k b ob q⟩,λ_ _ _ n _=>n,λb ob q _=>⟨ob,k b ob q⟩,λ_ _ q=>q,λ_ _ _ q=>q,λ_ ps q=>⟨#[],by rw[q];simp⟩⟩
theorem Un.refl:Un fs ex H H h h:=Un.kept λ_ _ q=>q
theorem Un.laid (k:∀b u,h.get? b=some u->h'.get? b=some u)(hp:h.objs.size<=a)(hn:H a=none):Un fs ex H (upd H a o) h h' where
 keep:=λb u q _ _ _=>k b u q
 slot:=λb u q _ _ _=>⟨u.slots,k b u q⟩
 free:=λb u q n _=>by rw[AL (Nat.ne_of_lt (Nat.lt_of_lt_of_le (Heap.lt_size q) hp))];exact n
 there:=λb u q _=>⟨u,k b u q⟩
 tups:=λb xs q=>by rw[AL (AK q hn)];exact q
 frzs:=λb u xs q=>by rw[AL (AK q hn)];exact q
 tbls:=λb ps q=>⟨#[],by rw[AL (AK q hn),q];simp⟩
theorem Un.write (mu:S8 (H x))(he:e=x\/H e=some (.own x))(k:∀b u,b≠e->h.get? b=some u->h'.get? b=some u)(heo:∃u,h'.get? e=some u):Un fs ex H (upd H x o) h h':=by
 have hx:∀b,H b=none->b≠x:=λb n z=>by subst z;rw[n]at mu;exact mu
 have hb:∀b,H b=none->b≠e:=λb n z=>by
  subst z
  rcases he with r|r
  ·exact hx b n r
  ·rw[n]at r;cases r
 have hm:∀b u,H b=some u->¬S8 (some u)->b≠x:=λb u q nm z=>by subst z;rw[q]at mu;exact nm mu
 refine⟨λb u q n _ _=>k b u (hb b n) q,λb u q n _ _=>⟨u.slots,k b u (hb b n) q⟩,λb u q n _=>by rw[AL (hx b n)];exact n,λb u q _=>?_,
  λb xs q=>by rw[AL (hm b _ q λz=>z)];exact q,λb u xs q=>by rw[AL (hm b _ q λz=>z)];exact q,λb ps q=>⟨#[],by rw[AL (hm b _ q λz=>z),q];simp⟩⟩
 by_cases hbe:b=e
 ·subst hbe;exact heo
 ·exact⟨u,k b u hbe q⟩
end
def PR (h:Heap)(H:Hp):List Addr:=(List.range h.objs.size).filter λa=>(H a).isSome
def Hd (h:Heap)(H:Hp):Heap:=PySem.W.hideAll h (PR h H)
theorem Md (h:Heap)(H:Hp):(Hd h H).objs.size=h.objs.size:=PySem.W.hideAll_size _ _
theorem Nl {h:Heap}{H:Hp}{b:Addr}{o:Obj}(e:h.get? b=some o)(n:H b=none):(Hd h H).get? b=some o:=
 PySem.W.hideAll_get _ e λhm=>by
  have q:(H b).isSome=true:=(List.mem_filter.mp hm).2
  rw[n]at q;simp at q
theorem PU {h:Heap}{H:Hp}{b:Addr}{o:Obj}(e:(Hd h H).get? b=some o):h.get? b=some o/\H b=none:=by
 have e':h.get? b=some o:=PySem.W.of_hideAll (PR h H) e
 refine⟨e',?_⟩
 cases q:H b with
 |none=>rfl
 |some x=>
  have hm:b∈PR h H:=List.mem_filter.mpr ⟨List.mem_range.mpr (Heap.lt_size e'),by simp[q]⟩
  have z:(Hd h H).get? b=none:=PySem.W.hideAll_none (PR h H) hm
  rw[z]at e;cases e
end L2
namespace L2
open PySem PySem.Spec PyProof.Rows
structure Mod (K:PySem.W.Frag)(mg:Str->Option Value)(base:Heap):Prop where
 kin:K.In base
 glob:base.Ns mainGlobals mg
 blt:∃mb,base.Ns builtinsNs mb/\∀x:Str,x≠"__name__"->mb x=bootBuiltins x
 nolimit:base.NoLimit
structure Cx where
 prog:Program
 w:World
 K:PySem.W.Frag
 mg:Str->Option Value
 base:Heap
 A:Around
 N:List Str
 s₀:Shared
 H₀:Hp
 env:Env
 outer:List Env
 stack:List Env
 ex:List Addr
 fn:Str->Bool
 calm:Bool
 pn:List (Addr×Obj)
 xe:Value->Shared->Prop
def Lb (l:List Env):List Addr:=l.filterMap (·.frame)
abbrev Cx.fs (X:Cx):List Addr:=Lb X.outer
def R3 (sc:Scope)(x:Str):Prop:=sc.names.lookup x=some .local\/sc.names.lookup x=some .cell\/sc.names.lookup x=some .free
def Loc (sc:Scope)(x:Str):Prop:=sc.names.lookup x=some .local\/sc.names.lookup x=some .cell
def Look (env:Env)(h:Heap)(m:Str->Option Value)(x:Str)(u:Value):Prop:=
 (env.kindOf x=some .local/\m x=some u)\/((env.kindOf x=some .cell\/env.kindOf x=some .free)/\∃c,env.cells.lookup x=some c/\h.IsCell c (some u))
structure Cx.Ok (X:Cx):Prop where
 mod:Mod X.K X.mg X.base
 kind:X.env.scope.kind=.function
 glob:X.env.globals=mainGlobals
 blt:X.env.builtins=builtinsNs
 above:X.s₀.heap.objs.size<=X.env.locals
 inj:∀x y c,X.env.cells.lookup x=some c->X.env.cells.lookup y=some c->x=y
 has:∀x,(X.env.kindOf x=some .cell\/X.env.kindOf x=some .free)->∃c,X.env.cells.lookup x=some c
 cab:∀x c,X.fn x=true->X.env.cells.lookup x=some c->X.s₀.heap.objs.size<=c
 hd:X.calm=true->X.A.handled=none
 frames:X.A.frames=some X.stack
 stk:X.stack=X.outer\/(X.stack=X.env::X.outer/\X.env.frame=some X.env.locals)
 exf:∀b∈X.ex,b≠X.env.locals/\∀x c,X.env.cells.lookup x=some c->c≠b
 bs:∀b o,X.base.get? b=some o->X.s₀.heap.get? b=some o/\X.H₀ b=none
 bsz:X.base.objs.size<=X.s₀.heap.objs.size
 noex:∀b o,X.base.get? b=some o->b∉X.ex
 exfs:∀b∈X.ex,b∉X.fs
 EJ:X.s₀.heap.FunFrames X.base X.outer
 frf:∀b∈X.fs,X.H₀ b=none
structure Inv (X:Cx)(pins:List (Addr×Obj))(σ:List (Option V))(H:Hp)(s:Shared):Prop where
 ok:X.Ok
 os:s.os=X.s₀.os
 bare:AllBare s.gens
 base:Un X.fs X.ex X.H₀ H X.s₀.heap s.heap
 loc:∃m,s.heap.Ns X.env.locals m/\∀(i:Nat) (x:Str) (v:V),X.N[i]?=some x->σ[i]?=some (some v)->R3 X.env.scope x->∃u,RelV v u/\Look X.env s.heap m x u
 cell:∀x c,X.env.cells.lookup x=some c->∃v,s.heap.IsCell c v
 free:H X.env.locals=none
 freeC:∀x c,X.env.cells.lookup x=some c->H c=none
 pin:∀p∈X.pn++pins,s.heap.get? p.1=some p.2/\H p.1=none/\p.1≠X.env.locals/\p.1∉X.fs/\∀v,p.2.data≠.cell v
 hok:Ed X.prog X.w H s.heap
 len:σ.length=X.N.length
section
variable {X:Cx}{pins:List (Addr×Obj)}{σ:List (Option V)}{H H':Hp}{s:Shared}{h':Heap}
theorem Cx.Ok.TX (ok:X.Ok){b:Addr}{o:Obj}(e:X.base.get? b=some o):b∉X.fs:=λhb=>by
 have:=(ok.EJ.mem hb).1
 rw[e]at this;cases this
theorem Inv.bs (I:Inv X pins σ H s):∀b o,X.base.get? b=some o->s.heap.get? b=some o/\H b=none:=λb o e=>
 ⟨I.base.keep b o (I.ok.bs b o e).1 (I.ok.bs b o e).2 (I.ok.TX e) (I.ok.noex b o e),I.base.free b o (I.ok.bs b o e).1 (I.ok.bs b o e).2 (I.ok.noex b o e)⟩
theorem Inv.bk (I:Inv X pins σ H s):∀b o,X.base.get? b=some o->s.heap.get? b=some o:=λb o e=>(I.bs b o e).1
theorem Inv.mod (I:Inv X pins σ H s):Mod X.K X.mg X.base:=I.ok.mod
theorem Inv.JP (I:Inv X pins σ H s):X.K.In s.heap:=I.ok.mod.kin.keeps I.bk
theorem Inv.nolimit (I:Inv X pins σ H s):s.heap.NoLimit:=I.ok.mod.nolimit.keeps I.bk
theorem Inv.lt (I:Inv X pins σ H s):X.env.locals < s.heap.objs.size:=let⟨_,hn,_⟩:=I.loc;hn.lt
theorem Inv.sz (I:Inv X pins σ H s):X.s₀.heap.objs.size<=s.heap.objs.size:=Nat.le_trans I.ok.above (Nat.le_of_lt I.lt)
theorem Inv.TY (I:Inv X pins σ H s){a:Addr}(h:s.heap.objs.size<=a):a∉X.fs:=λhb=>by
 obtain⟨_,o,ho,_⟩:=I.ok.EJ.mem hb
 exact absurd (Nat.lt_of_lt_of_le (Heap.lt_size ho) (Nat.le_trans I.sz h)) (Nat.lt_irrefl _)
theorem Inv.Qm (I:Inv X pins σ H s):∀x c,X.env.cells.lookup x=some c->c≠X.env.locals:=λx c e z=>by
 obtain⟨v,o,ho,hd⟩:=I.cell x c e
 obtain⟨m,⟨o',es,ep,ho',hd',_⟩,_⟩:=I.loc
 rw[z,ho']at ho;cases ho;rw[hd']at hd;cases hd
theorem Inv.EJ (I:Inv X pins σ H s):s.heap.FunFrames X.base X.outer:=by
 have all:∀(l:List Env),(∀b∈Lb l,b∈X.fs)->X.s₀.heap.FunFrames X.base l->s.heap.FunFrames X.base l:=by
  intro l
  induction l with
  |nil=>intro _ _;trivial
  |cons env r ih=>
   intro hs hl
   obtain⟨hk,⟨L,o,hf,hn,ho,hd⟩,hr⟩:=hl
   have hL:L∈X.fs:=hs L (by unfold Lb;rw[List.filterMap_cons,hf];exact List.mem_cons_self)
   obtain⟨sl,e⟩:=I.base.slot L o ho (I.ok.frf L hL) hL λz=>I.ok.exfs L z hL
   exact⟨hk,⟨L,_,hf,hn,e,hd⟩,ih (λb hb=>hs b (by unfold Lb;rw[List.filterMap_cons,hf];exact List.mem_cons_of_mem _ hb)) hr⟩
 exact all X.outer (λ_ hb=>hb) I.ok.EJ
theorem Inv.stack (I:Inv X pins σ H s):s.heap.FunFrames X.base X.stack:=by
 rcases I.ok.stk with e|⟨e,hf⟩
 ·rw[e];exact I.EJ
 ·rw[e]
  obtain⟨m,hn,_⟩:=I.loc
  refine .cons (by rw[I.ok.kind];decide) hf hn ?_ I.EJ
  exact Heap.get?_none_of_le (Nat.le_trans I.ok.bsz I.ok.above)
theorem Inv.GP (I:Inv X pins σ H s):∀b∈Lb X.stack,b∈X.env.locals::X.fs:=λb hb=>by
 rcases I.ok.stk with e|⟨e,hf⟩
 ·rw[e]at hb;exact List.mem_cons_of_mem _ hb
 ·rw[e]at hb
  unfold Lb at hb
  rw[List.filterMap_cons,hf]at hb
  exact hb
theorem Inv.PV (I:Inv X pins σ H s):∀b∈Lb X.stack,H b=none:=λb hb=>by
 rcases List.mem_cons.mp (I.GP b hb)with e|hb
 ·rw[e];exact I.free
 ·obtain⟨_,o,ho,_⟩:=I.ok.EJ.mem hb
  exact I.base.free b o ho (I.ok.frf b hb) λz=>I.ok.exfs b z hb
theorem Inv.step {g':Array GenState}{t':Nat}{d':Drawn}{ch:List Addr}(I:Inv X pins σ H s)
 (hch:∀b∈ch,(b∈X.ex\/X.s₀.heap.objs.size<=b)/\b≠X.env.locals/\(∀x c,X.env.cells.lookup x=some c->c≠b)/\∀p∈X.pn++pins,p.1≠b)
 (keep:∀b o,b≠X.env.locals->b∉X.fs->b∉ch->s.heap.get? b=some o->H b=none->h'.get? b=some o)
 (slot:∀b o,b≠X.env.locals->b∈X.fs->b∉ch->s.heap.get? b=some o->H b=none->∃sl,h'.get? b=some { o with slots:=sl })(free:∀b o,b∉ch->s.heap.get? b=some o->H b=none->H' b=none)
 (there:∀b o,b∉ch->s.heap.get? b=some o->∃o',h'.get? b=some o')
 (tups:∀b xs,H b=some (.tup xs)->H' b=some (.tup xs))(frzs:∀b o u,H b=some (.frz o u)->H' b=some (.frz o u))(tbls:∀b ps,H b=some (.tbl ps)->∃more,H' b=some (.tbl (ps++more)))
 (ns:∀m,s.heap.Ns X.env.locals m->h'.Ns X.env.locals m)(hok:Ed X.prog X.w H' h')(hg:AllBare g'):
 Inv X pins σ H' { s with heap:=h',gens:=g',drawn:=d',toks:=t' }:=by
 have neL:∀b o,X.s₀.heap.get? b=some o->b≠X.env.locals:=λb o e=>Nat.ne_of_lt (Nat.lt_of_lt_of_le (Heap.lt_size e) I.ok.above)
 have neC:∀b o,X.s₀.heap.get? b=some o->b∉X.ex->b∉ch:=λb o e hx hb=>by
  rcases(hch b hb).1 with z|z
  ·exact hx z
  ·exact absurd (Nat.lt_of_lt_of_le (Heap.lt_size e) z) (Nat.lt_irrefl _)
 have cellK:∀x c,X.env.cells.lookup x=some c->∀v,s.heap.IsCell c v->h'.IsCell c v:=λx c e v ⟨o,ho,hd⟩=>by
  have nch:c∉ch:=λz=>(hch c z).2.2.1 x c e rfl
  by_cases hc:c∈X.fs
  ·obtain⟨sl,q⟩:=slot c o (I.Qm x c e) hc nch ho (I.freeC x c e)
   exact⟨_,q,hd⟩
  ·exact⟨o,keep c o (I.Qm x c e) hc nch ho (I.freeC x c e),hd⟩
 refine⟨I.ok,I.os,hg,⟨λb o e n hb hx=>?_,λb o e n hb hx=>?_,λb o e n hx=>?_,λb o e hx=>?_,λb xs e=>tups b xs (I.base.tups b xs e),λb o xs e=>frzs b o xs (I.base.frzs b o xs e),λb ps e=>?_⟩,?_,λx c e=>?_,?_,λx c e=>?_,λp hp=>?_,hok,I.len⟩
 ·exact keep b o (neL b o e) hb (neC b o e hx) (I.base.keep b o e n hb hx) (I.base.free b o e n hx)
 ·obtain⟨sl,e1⟩:=I.base.slot b o e n hb hx
  obtain⟨sl',e2⟩:=slot b _ (neL b o e) hb (neC b o e hx) e1 (I.base.free b o e n hx)
  exact⟨sl',e2⟩
 ·obtain⟨o',e1⟩:=I.base.there b o e hx
  exact free b o' (neC b o e hx) e1 (I.base.free b o e n hx)
 ·obtain⟨o',e1⟩:=I.base.there b o e hx
  exact there b o' (neC b o e hx) e1
 ·obtain⟨m1,e1⟩:=I.base.tbls b ps e
  obtain⟨m2,e2⟩:=tbls b _ e1
  exact⟨m1++m2,by rw[e2,Array.append_assoc]⟩
 ·obtain⟨m,hn,hl⟩:=I.loc
  refine⟨m,ns m hn,λi x v e1 e2 e3=>?_⟩
  obtain⟨u,r,l⟩:=hl i x v e1 e2 e3
  refine⟨u,r,?_⟩
  rcases l with l|⟨k,c,e,z⟩
  ·exact .inl l
  ·exact .inr ⟨k,c,e,cellK x c e _ z⟩
 ·obtain⟨v,z⟩:=I.cell x c e
  exact⟨v,cellK x c e v z⟩
 ·obtain⟨m,⟨o,_,_,ho,_⟩,_⟩:=I.loc
  exact free _ o (λz=>(hch _ z).2.1 rfl) ho I.free
 ·obtain⟨v,o,ho,hd⟩:=I.cell x c e
  exact free c o (λz=>(hch c z).2.2.1 x c e rfl) ho (I.freeC x c e)
 ·obtain⟨e,n,ne,nf,d⟩:=I.pin p hp
  have nch:p.1∉ch:=λz=>(hch p.1 z).2.2.2 p hp rfl
  exact⟨keep p.1 p.2 ne nf nch e n,free p.1 p.2 nch e n,ne,nf,d⟩
theorem Inv.un {t':Nat}(I:Inv X pins σ H s)(u:Un X.fs [] H H' s.heap h')(hok:Ed X.prog X.w H' h'):Inv X pins σ H' { s with heap:=h',toks:=t' }:=by
 obtain⟨m,⟨o,es,ep,ho,r⟩,_⟩:=id I.loc
 obtain⟨sl,hL⟩:=u.any ho I.free (by simp)
 exact I.step (g':=s.gens) (d':=s.drawn) (ch:=[]) (λ_ z=>nomatch z) (λb o _ hb _ e n=>u.keep b o e n hb (by simp)) (λb o _ hb _ e n=>u.slot b o e n hb (by simp)) (λb o _ e n=>u.free b o e n (by simp)) (λb o _ e=>u.there b o e (by simp)) u.tups u.frzs u.tbls (λm' hm=>by
  obtain⟨o',es',ep',ho',r'⟩:=hm
  rw[ho]at ho';cases ho'
  exact⟨_,es',ep',hL,r'⟩) hok I.bare
theorem Inv.call {g':Array GenState}{t':Nat}{d':Drawn}{ch:List Addr}(I:Inv X pins σ H s)(u:Un (Lb X.stack) ch H H' s.heap h')(hok:Ed X.prog X.w H' h')(hg:AllBare g')
 (hch:∀b∈ch,(b∈X.ex\/X.s₀.heap.objs.size<=b)/\b≠X.env.locals/\(∀x c,X.env.cells.lookup x=some c->c≠b)/\∀p∈X.pn++pins,p.1≠b):
 Inv X pins σ H' { s with heap:=h',gens:=g',drawn:=d',toks:=t' }:=by
 obtain⟨m,⟨o,es,ep,ho,r⟩,_⟩:=id I.loc
 obtain⟨sl,hL⟩:=u.any ho I.free λz=>(hch _ z).2.1 rfl
 exact I.step (ch:=ch) hch (λb o hL hb hc e n=>u.keep b o e n (λz=>(List.mem_cons.mp (I.GP b z)).elim hL hb) hc) (λb o _ _ hc e n=>u.any e n hc) (λb o hc e n=>u.free b o e n hc) (λb o hc e=>u.there b o e hc) u.tups u.frzs u.tbls (λm' hm=>by
  obtain⟨o',es',ep',ho',r'⟩:=hm
  rw[ho]at ho';cases ho'
  exact⟨_,es',ep',hL,r'⟩) hok hg
theorem Inv.turned {t':Nat}{it:Addr}(I:Inv X pins σ H s)(k:∀b o,b≠it->s.heap.get? b=some o->h'.get? b=some o)(hn:H it=none)(hL:it≠X.env.locals)
 (h1:it∈X.ex\/X.s₀.heap.objs.size<=it)(h2:∀x c,X.env.cells.lookup x=some c->c≠it)(h3:∀p∈X.pn++pins,p.1≠it):Inv X pins σ H { s with heap:=h',toks:=t' }:=by
 have nit:∀b u,H b=some u->b≠it:=λb u e z=>by rw[z,hn]at e;cases e
 refine I.step (g':=s.gens) (d':=s.drawn) (ch:=[it]) (λb hb=>?_) (λb o _ _ hc e _=>k b o (λz=>hc (by simp[z])) e) (λb o _ _ hc e _=>⟨o.slots,k b o (λz=>hc (by simp[z])) e⟩) (λ_ _ _ _ n=>n)
  (λb o hc e=>⟨o,k b o (λz=>hc (by simp[z])) e⟩) (λ_ _ e=>e) (λ_ _ _ e=>e) (λb ps e=>⟨#[],by rw[e];simp⟩) (λm hm=>?_) (λb u e=>?_) I.bare
 ·have e:b=it:=by simpa using hb
  subst e
  exact⟨h1,hL,h2,h3⟩
 ·obtain⟨o,es,ep,ho,r⟩:=hm
  exact⟨o,es,ep,k _ o (Ne.symm hL) ho,r⟩
 ·refine(I.hok b u e).F2 (λc v hc q=>k c v ?_ q) (λ_ q=>q) λ_ _ q=>q
  rcases hc with z|z
  ·rw[z];exact nit b u e
  ·exact nit c _ z
theorem Inv.tok (I:Inv X pins σ H s)(t:Nat):Inv X pins σ H { s with toks:=t }:=I.un (h':=s.heap) (t':=t) Un.refl I.hok
theorem Inv.kept {t':Nat}(I:Inv X pins σ H s)(k:∀b u,s.heap.get? b=some u->h'.get? b=some u):Inv X pins σ H { s with heap:=h',toks:=t' }:=I.un (Un.kept k) (I.hok.kept k)
theorem Inv.laid {a:Addr}{o:HO}{t':Nat}(I:Inv X pins σ H s)(k:∀b u,s.heap.get? b=some u->h'.get? b=some u)(hp:s.heap.objs.size<=a)(new:Ax X.prog X.w (upd H a o) h' a o):
 Inv X pins σ (upd H a o) { s with heap:=h',toks:=t' }:=I.un (Un.laid k hp (I.hok.fresh hp)) (I.hok.laid k hp new)
theorem Inv.write {x e:Addr}{o:HO}{t':Nat}(I:Inv X pins σ H s)(mu:S8 (H x))(he:e=x\/H e=some (.own x))(k:∀b u,b≠e->s.heap.get? b=some u->h'.get? b=some u)(heo:∃u,h'.get? e=some u)
 (new:Ax X.prog X.w (upd H x o) h' x o):Inv X pins σ (upd H x o) { s with heap:=h',toks:=t' }:=I.un (Un.write mu he k heo) (I.hok.write mu he k heo new)
theorem Inv.weak {σ':List (Option V)}(I:Inv X pins σ H s)(hl:σ'.length=σ.length)(w:∀(i:Nat) v,σ'[i]?=some (some v)->σ[i]?=some (some v)):Inv X pins σ' H s:=
 ⟨I.ok,I.os,I.bare,I.base,let⟨m,hn,hl'⟩:=I.loc;⟨m,hn,λi x v e1 e2 e3=>hl' i x v e1 (w i v e2) e3⟩,I.cell,I.free,I.freeC,I.pin,I.hok,hl.trans I.len⟩
theorem Inv.GD {pins':List (Addr×Obj)}(I:Inv X pins σ H s)(h:∀p∈pins',s.heap.get? p.1=some p.2/\H p.1=none/\p.1≠X.env.locals/\p.1∉X.fs/\∀v,p.2.data≠.cell v):Inv X pins' σ H s:=
 ⟨I.ok,I.os,I.bare,I.base,I.loc,I.cell,I.free,I.freeC,λp hp=>(List.mem_append.mp hp).elim (λz=>I.pin p (List.mem_append_left _ z)) (h p),I.hok,I.len⟩
theorem JU {N:List Str}(hN:N.Nodup){i j:Nat}{x:Str}(a:N[i]?=some x)(b:N[j]?=some x):i=j:=by
 obtain⟨h1,e1⟩:=List.getElem?_eq_some_iff.mp a
 obtain⟨h2,e2⟩:=List.getElem?_eq_some_iff.mp b
 exact(List.getElem_inj hN).mp (e1.trans e2.symm)
theorem Hs {M:Model}{A:Around}{E:Value->Shared->Prop}{i:Nat}{x:Str}{v:V}{u:Value}{Q:Unit->Shared->Prop}(I:Inv X pins σ H s)(hN:X.N.Nodup)(hi:X.N[i]?=some x)(hx:Loc X.env.scope x)(r:RelV v u)
 (h:∀s',Inv X pins (σ.set i (some v)) H s'->(∃a,Heap.SameBut a s.heap s'.heap/\(a=X.env.locals\/X.env.cells.lookup x=some a))->Q () s')(hf:X.fn x=true\/X.env.scope.names.lookup x=some .local:=by first|exact .inl rfl|exact .inr rfl|assumption):wpAny M A (storeName X.env x u) Q E s:=by
 obtain⟨m,hn,hl⟩:=id I.loc
 have hcls:(X.env.scope.kind==.class||(X.env.scope.kind==.module&&X.env.locals !=X.env.globals))=false:=by rw[I.ok.kind];rfl
 have hiσ:i < σ.length:=by rw[I.len];exact(List.getElem?_eq_some_iff.mp hi).1
 have Qm:=I.Qm
 have tracked:∀{a:Addr} {h':Heap},(∃o,s.heap.get? a=some o/\H a=none)->Heap.SameBut a s.heap h'->Ed X.prog X.w H h':=λ{a h'} ha hs b ob e=>by
  obtain⟨_,_,hfree⟩:=ha
  refine(I.hok b ob e).F2 (λc w' hc q=>(hs.2 c ?_).trans q) (λ_ q=>q) λ_ _ q=>q
  rintro rfl
  rcases hc with rfl|hc
  ·rw[hfree]at e;cases e
  ·rw[hfree]at hc;cases hc
 rcases hx with hk|hk
 ·refine wpAny_storeName_local hk hn (λh' hn' hs=>?_) hcls
  obtain⟨oL,_,_,hoL,_⟩:=id hn
  refine h _ ⟨I.ok,I.os,I.bare,⟨λb o e n hb hx=>?_,λb o e n hb hx=>?_,I.base.free,λb o e hx=>?_,I.base.tups,I.base.frzs,I.base.tbls⟩,⟨_,hn',λj y v' e1 e2 e3=>?_⟩,λy c e=>?_,I.free,I.freeC,λp hp=>?_,tracked ⟨oL,hoL,I.free⟩ hs,by simpa using I.len⟩ ⟨_,hs,.inl rfl⟩
  ·exact(hs.2 b (Nat.ne_of_lt (Nat.lt_of_lt_of_le (Heap.lt_size e) I.ok.above))).trans (I.base.keep b o e n hb hx)
  ·obtain⟨sl,e1⟩:=I.base.slot b o e n hb hx
   exact⟨sl,(hs.2 b (Nat.ne_of_lt (Nat.lt_of_lt_of_le (Heap.lt_size e) I.ok.above))).trans e1⟩
  ·obtain⟨o',e1⟩:=I.base.there b o e hx
   exact⟨o',(hs.2 b (Nat.ne_of_lt (Nat.lt_of_lt_of_le (Heap.lt_size e) I.ok.above))).trans e1⟩
  ·by_cases hj:j=i
   ·subst hj
    rw[hi]at e1;cases e1
    rw[List.getElem?_set_self hiσ]at e2
    cases e2
    exact⟨u,r,.inl ⟨hk,by simp⟩⟩
   ·rw[List.getElem?_set_ne (Ne.symm hj)]at e2
    obtain⟨u',r',q⟩:=hl j y v' e1 e2 e3
    refine⟨u',r',?_⟩
    rcases q with⟨k,e⟩|⟨k,c,e,z⟩
    ·refine .inl ⟨k,?_⟩
     have:y≠x:=λe=>hj (JU hN e1 (e▸hi))
     simp[this,e]
    ·exact .inr ⟨k,c,e,z.sameBut hs (Qm y c e)⟩
  ·obtain⟨w',z⟩:=I.cell y c e
   exact⟨w',z.sameBut hs (Qm y c e)⟩
  ·obtain⟨e,n,ne,nf,d⟩:=I.pin p hp
   exact⟨(hs.2 p.1 ne).trans e,n,ne,nf,d⟩
 ·have hfn:X.fn x=true:=by
   rcases hf with z|z
   ·exact z
   ·rw[z]at hk;cases hk
  obtain⟨c,hc⟩:=I.ok.has x (.inl hk)
  obtain⟨w',z⟩:=I.cell x c hc
  refine wpAny_storeName_cell I.ok.kind hk hc z (λh' hc' hs=>?_)
  obtain⟨oc,hoc,hocd⟩:=id z
  refine h { s with heap:=h' } ⟨I.ok,I.os,I.bare,⟨λb o e n hb hx=>?_,λb o e n hb hx=>?_,I.base.free,λb o e hx=>?_,I.base.tups,I.base.frzs,I.base.tbls⟩,⟨m,hn.sameBut hs (Ne.symm (Qm x c hc)),λj y v' e1 e2 e3=>?_⟩,λy c' e=>?_,I.free,I.freeC,λp hp=>?_,tracked ⟨oc,hoc,I.freeC x c hc⟩ hs,by simpa using I.len⟩ ⟨c,hs,.inr hc⟩
  ·exact(hs.2 b (Nat.ne_of_lt (Nat.lt_of_lt_of_le (Heap.lt_size e) (I.ok.cab x c hfn hc)))).trans (I.base.keep b o e n hb hx)
  ·obtain⟨sl,e1⟩:=I.base.slot b o e n hb hx
   exact⟨sl,(hs.2 b (Nat.ne_of_lt (Nat.lt_of_lt_of_le (Heap.lt_size e) (I.ok.cab x c hfn hc)))).trans e1⟩
  ·obtain⟨o',e1⟩:=I.base.there b o e hx
   exact⟨o',(hs.2 b (Nat.ne_of_lt (Nat.lt_of_lt_of_le (Heap.lt_size e) (I.ok.cab x c hfn hc)))).trans e1⟩
  ·by_cases hj:j=i
   ·subst hj
    rw[hi]at e1;cases e1
    rw[List.getElem?_set_self hiσ]at e2
    cases e2
    exact⟨u,r,.inr ⟨.inl hk,c,hc,hc'⟩⟩
   ·rw[List.getElem?_set_ne (Ne.symm hj)]at e2
    obtain⟨u',r',q⟩:=hl j y v' e1 e2 e3
    refine⟨u',r',?_⟩
    rcases q with q|⟨k,c',e,z'⟩
    ·exact .inl q
    ·refine .inr ⟨k,c',e,z'.sameBut hs ?_⟩
     rintro rfl
     exact hj (JU hN e1 (I.ok.inj _ _ _ e hc▸hi))
  ·by_cases hcc:c'=c
   ·subst hcc;exact⟨_,hc'⟩
   ·obtain⟨w2,z2⟩:=I.cell y c' e
    exact⟨w2,z2.sameBut hs hcc⟩
  ·obtain⟨e,n,ne,nf,d⟩:=I.pin p hp
   refine⟨(hs.2 p.1 ?_).trans e,n,ne,nf,d⟩
   intro q
   rw[q,hoc]at e
   have q':oc=p.2:=Option.some.inj e
   exact d w' (by rw[<-q'];exact hocd)
theorem GQ {M:Model}{A:Around}{E:Value->Shared->Prop}{i:Nat}{x:Str}{v:V}{u:Value}{Q:Unit->Shared->Prop}(I:Inv X pins σ H s)(hN:X.N.Nodup)(hi:X.N[i]?=some x)(hx:Loc X.env.scope x)(r:RelV v u)
 (h:∀s',Inv X pins (σ.set i (some v)) H s'->Q () s')(hf:X.fn x=true\/X.env.scope.names.lookup x=some .local:=by first|exact .inl rfl|exact .inr rfl|assumption):wpAny M A (storeName X.env x u) Q E s:=
 Hs I hN hi hx r (λs' I' _=>h s' I') hf
theorem Inv.SD {s':Shared}{ch:List Addr}(I:Inv X pins σ H s)(ho:s'.os=s.os)(u:Un (Lb X.stack) ch H H' s.heap s'.heap)(hok:Ed X.prog X.w H' s'.heap)(hg:AllBare s'.gens)
 (hch:∀b∈ch,(b∈X.ex\/X.s₀.heap.objs.size<=b)/\b≠X.env.locals/\(∀x c,X.env.cells.lookup x=some c->c≠b)/\∀p∈X.pn++pins,p.1≠b):Inv X pins σ H' s':=by
 obtain⟨h',g',d',t',o'⟩:=s'
 have e:o'=s.os:=ho
 subst e
 exact I.call (g':=g') (t':=t') (d':=d') u hok hg hch
end
abbrev XK:=Value->Option Addr->Hp->Prop
abbrev St:=List (Option V)
abbrev VK:=V->Hp->Prop
abbrev TE:=St->Hp->VK->Prop
abbrev TT:=St->Hp->(Bool->Hp->Prop)->Prop
abbrev TA:=St->Hp->(List V->Hp->Prop)->Prop
structure Ends where
 nx:St->Hp->Prop
 rt:VK
 bk:St->Hp->Prop:=λ_ _=>False
 ct:St->Hp->Prop:=λ_ _=>False
abbrev TS:=Ends->St->Hp->Prop
def EP (X:Cx)(pins:List (Addr×Obj))(σ:St)(Q:VK)(u:Value)(s':Shared):Prop:=∃v H',Inv X pins σ H' s'/\RelV v u/\Q v H'
def TP (X:Cx)(pins:List (Addr×Obj))(σ:St)(Q:Bool->Hp->Prop)(b:Bool)(s':Shared):Prop:=∃H',Inv X pins σ H' s'/\Q b H'
def AP (X:Cx)(pins:List (Addr×Obj))(σ:St)(Q:List V->Hp->Prop)(us:List Value)(s':Shared):Prop:=∃vs H',Inv X pins σ H' s'/\Vals vs us/\Q vs H'
def SP (X:Cx)(pins:List (Addr×Obj))(D:Ends)(f:Flow)(s':Shared):Prop:=
 match f with
 |.next=>∃σ' H',Inv X pins σ' H' s'/\D.nx σ' H'
 |.brk=>∃σ' H',Inv X pins σ' H' s'/\D.bk σ' H'
 |.cont=>∃σ' H',Inv X pins σ' H' s'/\D.ct σ' H'
 |.ret u=>∃v σ' H',Inv X pins σ' H' s'/\RelV v u/\D.rt v H'
def PE (X:Cx)(e:Expr)(t:TE):Prop:=
 ∀(pins:List (Addr×Obj)) (s:Shared) (σ:St) (H:Hp) (Q:VK),Inv X pins σ H s->t σ H Q->wpAny (model X.prog X.w) X.A (eval e X.env) (EP X pins σ Q) X.xe s
def PT (X:Cx)(e:Expr)(t:TT):Prop:=
 ∀(pins:List (Addr×Obj)) (s:Shared) (σ:St) (H:Hp) (Q:Bool->Hp->Prop),Inv X pins σ H s->t σ H Q->wpAny (model X.prog X.w) X.A (isTrue e X.env (eval e X.env)) (TP X pins σ Q) X.xe s
def PW (X:Cx)(e:Expr)(t:TT):Prop:=
 ∀(whole:Sem Value) (pins:List (Addr×Obj)) (s:Shared) (σ:St) (H:Hp) (Q:Bool->Hp->Prop),Inv X pins σ H s->t σ H Q->wpAny (model X.prog X.w) X.A (isTrue e X.env whole) (TP X pins σ Q) X.xe s
theorem PW.pt {X:Cx}{e:Expr}{t:TT}(h:PW X e t):PT X e t:=h _
def PA (X:Cx)(es:List Expr)(t:TA):Prop:=
 ∀(pos:Pos) (pins:List (Addr×Obj)) (s:Shared) (σ:St) (H:Hp) (Q:List V->Hp->Prop),Inv X pins σ H s->t σ H Q->wpAny (model X.prog X.w) X.A (spliced (backTo pos (starEach es X.env))) (AP X pins σ Q) X.xe s
def PS (X:Cx)(st:Stmt)(t:TS):Prop:=
 ∀(pins:List (Addr×Obj)) (s:Shared) (σ:St) (H:Hp) (D:Ends),Inv X pins σ H s->t D σ H->wpAny (model X.prog X.w) X.A (exec st X.env) (SP X pins D) X.xe s
def Kj (X:Cx)(st:List Stmt)(t:TS):Prop:=
 ∀(pins:List (Addr×Obj)) (s:Shared) (σ:St) (H:Hp) (D:Ends),Inv X pins σ H s->t D σ H->wpAny (model X.prog X.w) X.A (execs st X.env) (SP X pins D) X.xe s
theorem BO {α:Type}{t:Sem α}{Q Q':α->Shared->Prop}{M:Model}{A:Around}{E:Value->Shared->Prop}{s:Shared}(h:wpAny M A t Q E s)(hQ:∀a s,Q a s->Q' a s):wpAny M A t Q' E s:=wpAny_mono h hQ λ_ _ x=>x
end L2
namespace L2
open PySem PySem.Spec PyProof.Rows
section
variable {X:Cx}
def SE (i:Nat):TE:=λσ H Q=>∃v,σ[i]?=some (some v)/\Q v H
def tC (v:V):TE:=λ_ H Q=>Q v H
theorem Qn {i:Nat}{x:Str}{pos:Pos}(hN:X.N[i]?=some x)(hv:R3 X.env.scope x)(hd:(x==("__debug__":Str))=false:=by decide)(hcd:(x==("__classdict__":Str))=false:=by decide):PE X (.Name x pos) (SE i):=by
 intro pins s σ H Q I h
 obtain⟨v,e,h⟩:=h
 obtain⟨m,hn,hl⟩:=I.loc
 obtain⟨u,r,l⟩:=hl i x v hN e hv
 have fin:EP X pins σ Q u s:=⟨v,H,I,r,h⟩
 rcases l with⟨hk,hm⟩|⟨hk,c,hc,hcell⟩
 ·exact wpAny_Name (wpAny_loadName_local I.ok.kind hk hn hm fin) hd
 ·rcases hk with hk|hk
  ·exact wpAny_Name (wpAny_loadName_cell I.ok.kind hk hc hcell fin) hd
  ·exact wpAny_Name (wpAny_loadName_free I.ok.kind hk hc hcell fin hcd) hd
theorem AF {i j pos}:PE X (.Constant (.int i) j pos) (tC (.int i)):=λ_ _ _ H _ I h=>wpAny_Constant_int ⟨.int i,H,I.tok _,⟨_,rfl⟩,h⟩
theorem Cg {b j pos}:PE X (.Constant (.bool b) j pos) (tC (.bl b)):=λ_ _ _ H _ I h=>Constant_bool ⟨.bl b,H,I,rfl,h⟩
theorem Qo {j pos}:PE X (.Constant .none j pos) (tC .non):=λ_ _ _ H _ I h=>Constant_none ⟨.non,H,I,rfl,h⟩
theorem FE {x j pos}:PE X (.Constant (.str x) j pos) (tC (.str x)):=λ_ _ _ H _ I h=>Calls.Constant_str ⟨.str x,H,I.tok _,⟨_,rfl⟩,h⟩
def Gl (X:Cx)(x:Str):Prop:=X.env.kindOf x=some .globalImplicit
theorem PX {E:Value->Shared->Prop}{pins:List (Addr×Obj)}{s:Shared}{σ:St}{H:Hp}{x:Str}{u:Value}{pos:Pos}{Q:Value->Shared->Prop}(I:Inv X pins σ H s)(hg:Gl X x)(hm:X.mg x=some u)(h:Q u s)
 (hd:(x==("__debug__":Str))=false:=by decide):wpAny (model X.prog X.w) X.A (eval (.Name x pos) X.env) Q E s:=
 Calls.Name_function_global I.ok.kind hg (Calls.loadGlobal_global (by rw[I.ok.glob];exact I.mod.glob.keeps I.bk) hm h) hd
theorem CJ {E:Value->Shared->Prop}{pins:List (Addr×Obj)}{s:Shared}{σ:St}{H:Hp}{x:Str}{u:Value}{pos:Pos}{Q:Value->Shared->Prop}(I:Inv X pins σ H s)(hg:Gl X x)(hm:X.mg x=none)(hv:bootBuiltins x=some u)(h:Q u s)
 (hn:x≠"__name__":=by decide)(hd:(x==("__debug__":Str))=false:=by decide):wpAny (model X.prog X.w) X.A (eval (.Name x pos) X.env) Q E s:=by
 obtain⟨mb,h1,h2⟩:=I.mod.blt
 exact Calls.Name_function_global I.ok.kind hg (Calls.loadGlobal_builtin (by rw[I.ok.glob];exact I.mod.glob.keeps I.bk) hm (by rw[I.ok.blt];exact h1.keeps I.bk) ((h2 x hn).trans hv) h) hd
theorem IZ {x:Str}{v:V}{u:Value}{pos:Pos}(hg:Gl X x)(hm:X.mg x=none)(hv:bootBuiltins x=some u)(r:RelV v u)(hn:x≠"__name__":=by decide)(hd:(x==("__debug__":Str))=false:=by decide):PE X (.Name x pos) (tC v):=
 λ_ _ _ H _ I h=>CJ I hg hm hv ⟨v,H,I,r,h⟩ hn hd
variable {a b:Expr}{ta tb:TE}{pos:Pos}
def PC (X:Cx)(op:CmpOp)(a b:Expr)(t:TE):Prop:=
 ∀(pins:List (Addr×Obj)) (s:Shared) (σ:St) (H:Hp) (Q:VK),Inv X pins σ H s->t σ H Q->
  wpAny (model X.prog X.w) X.A (eval a X.env) (λv s₁=>wpAny (model X.prog X.w) X.A (eval b X.env) (λu s₂=>wpAny (model X.prog X.w) X.A (compareOp op v u) (EP X pins σ Q) X.xe s₂) X.xe s₁) X.xe s
def tB (t:TE):TT:=λσ H Q=>t σ H λx H1=>∃c,x=.bl c/\Q c H1
theorem Qp {op:CmpOp}{t:TE}(h:PC X op a b t)(h1:behindInMarks op b=false:=by first|exact nobehind _ (by decide) (by decide)|rfl):PE X (.Compare a [op] [b] pos) t:=λpins s σ H Q I hw=>wpAny_Compare1 (h pins s σ H Q I hw) h1
theorem Qq {op:CmpOp}{t:TE}(h:PC X op a b t)(h1:behindInMarks op b=false:=by first|exact nobehind _ (by decide) (by decide)|rfl):PT X (.Compare a [op] [b] pos) (tB t):=by
 intro pins s σ H Q I hw
 refine wpAny_isTrue_Compare1 (BO (h pins s σ H _ I hw) λv s1 h1=>BO h1 λu s2 h2=>BO h2 λc s3 ⟨x,H1,I1,r1,q1⟩=>?_) h1
 obtain⟨d,rfl,q⟩:=q1
 cases r1
 exact wpAny_truthy_bool ⟨H1,I1,q⟩
theorem C7 {e:Expr}{t:TE}(h:PE X e t)(he:∀whole,isTrue e X.env whole=(do let v<-whole;standAt e.pos;holding [v] (truthy v)):=by intro _;rfl):PT X e (tB t):=by
 intro pins s σ H Q I hw
 refine isTrue_plain (BO (h pins s σ H _ I hw) λv s1 ⟨x,H1,I1,r1,q1⟩=>?_) (he _)
 obtain⟨d,rfl,q⟩:=q1
 cases r1
 exact wpAny_truthy_bool ⟨H1,I1,q⟩
variable {tA tB':TT}{rest:List Expr}
def TZ (t u:TT):TT:=λσ H Q=>t σ H λc H1=>if c=true then u σ H1 Q else Q false H1
def US (t u:TT):TT:=λσ H Q=>t σ H λc H1=>if c=true then Q true H1 else u σ H1 Q
def Ta (t:TT):TT:=λσ H Q=>t σ H λc H1=>Q (!c) H1
theorem Ld (ha:PT X a tA):PW X (.BoolOp .And [a] pos) tA:=by
 intro wh pins s σ H Q I h
 refine isTrue_and (BO (ha pins s σ H Q I h) λc s1 e=>?_)
 cases c with
 |true=>exact isTrue_and_nil e
 |false=>exact e
theorem EK (ha:PT X a tA):PW X (.BoolOp .Or [a] pos) tA:=by
 intro wh pins s σ H Q I h
 refine isTrue_or (BO (ha pins s σ H Q I h) λc s1 e=>?_)
 cases c with
 |false=>exact isTrue_or_nil e
 |true=>exact e
theorem Nm (ha:PT X a tA)(hb:PW X (.BoolOp .And (b::rest) pos) tB'):PW X (.BoolOp .And (a::b::rest) pos) (TZ tA tB'):=by
 intro wh pins s σ H Q I h
 refine isTrue_and (BO (ha pins s σ H _ I h) λc s1 ⟨H1,I1,q1⟩=>?_)
 cases c with
 |true=>exact hb wh pins s1 σ H1 Q I1 q1
 |false=>exact⟨H1,I1,q1⟩
theorem Ee (ha:PT X a tA)(hb:PW X (.BoolOp .Or (b::rest) pos) tB'):PW X (.BoolOp .Or (a::b::rest) pos) (US tA tB'):=by
 intro wh pins s σ H Q I h
 refine isTrue_or (BO (ha pins s σ H _ I h) λc s1 ⟨H1,I1,q1⟩=>?_)
 cases c with
 |true=>exact⟨H1,I1,q1⟩
 |false=>exact hb wh pins s1 σ H1 Q I1 q1
theorem EL (ha:PT X a tA):PT X (.UnaryOp .Not a pos) (Ta tA):=by
 intro pins s σ H Q I h
 exact isTrue_not (ha pins s σ H (λc H1=>Q (!c) H1) I h)
def SF (ta tb:TE):TE:=λσ H Q=>ta σ H λx H1=>∃c,x=.bl c/\if c=true then tb σ H1 Q else Q (.bl false) H1
def SG (ta:TE):TE:=λσ H Q=>ta σ H λx H1=>∃c,x=.bl c/\Q (.bl (!c)) H1
theorem Kk {op}{t:TE}(h:PE X a t):PE X (.BoolOp op [a] pos) t:=λpins s σ H Q I hw=>BoolOp_one (h pins s σ H Q I hw)
theorem Kl (ha:PE X a ta)(hb:PE X (.BoolOp .And (b::rest) pos) tb):PE X (.BoolOp .And (a::b::rest) pos) (SF ta tb):=by
 intro pins s σ H Q I h
 refine BoolOp_and (BO (ha pins s σ H _ I h) λv s1 ⟨x,H1,I1,r1,q1⟩=>?_)
 obtain⟨c,rfl,q1⟩:=q1
 cases r1
 refine wpAny_truthy_bool ?_
 cases c with
 |true=>exact hb pins s1 σ H1 Q I1 q1
 |false=>exact⟨.bl false,H1,I1,rfl,q1⟩
theorem Qr (ha:PE X a ta):PE X (.UnaryOp .Not a pos) (SG ta):=by
 intro pins s σ H Q I h
 refine UnaryOp_ (BO (ha pins s σ H _ I h) λv s1 ⟨x,H1,I1,r1,q1⟩=>?_)
 obtain⟨c,rfl,q1⟩:=q1
 cases r1
 exact not_of (wpAny_truthy_bool ⟨.bl (!c),H1,I1,rfl,q1⟩)
def UT (t:TT)(ta tb:TE):TE:=λσ H Q=>t σ H λc H1=>if c=true then ta σ H1 Q else tb σ H1 Q
theorem Nn {c:Expr}(hc:PT X c tA)(ha:PE X a ta)(hb:PE X b tb):PE X (.IfExp c a b pos) (UT tA ta tb):=by
 intro pins s σ H Q I h
 refine wpAny_IfExp (BO (hc pins s σ H _ I h) λd s1 ⟨H1,I1,q1⟩=>?_)
 cases d with
 |true=>exact ha pins s1 σ H1 Q I1 q1
 |false=>exact hb pins s1 σ H1 Q I1 q1
end
end L2
namespace L2
open PySem PySem.Spec PyProof.Rows
def AZ (K:PySem.W.Frag)(H:Hp)(a:Addr)(xs:List V):Prop:=
 Rd H a (.lst xs)\/
  ∃(o:Obj) (its:Array Value) (n:Nat),K.lookup a=some o/\o.cls=.type "list"/\o.dict=none/\o.data=.seq its n/\its.size<=sizeLine/\Vals xs its.toList
def Ce (K:PySem.W.Frag)(H:Hp)(a:Addr)(xs:List V):Prop:=
 Rd H a (.tup xs)\/
  ∃(o:Obj) (its:Array Value) (n:Nat),K.lookup a=some o/\o.cls=.type "tuple"/\o.data=.seq its n/\its.size<=sizeLine/\Vals xs its.toList
def Tb:Value->Option V
 |.none=>some .non
 |.bool b=>some (.bl b)
 |.int i _=>some (.int i)
 |.str x _=>some (.str x)
 |.bytes b _=>some (.byt b)
 |.float b _=>some (.flt b)
 |.ref a=>some (.ref a)
 |.type n=>some (.ty n)
 |_=>none
theorem RelV.abs {x:V}{u:Value}(r:RelV x u):Tb u=some x:=by
 cases x with
 |non=>cases r;rfl
 |bl _=>cases r;rfl
 |int _=>obtain⟨t,rfl⟩:=r;rfl
 |str _=>obtain⟨t,rfl⟩:=r;rfl
 |byt _=>obtain⟨t,rfl⟩:=r;rfl
 |flt _=>obtain⟨t,rfl⟩:=r;rfl
 |ref _=>cases r;rfl
 |ty _=>cases r;rfl
theorem RelV.inj {x y:V}{u:Value}(r:RelV x u)(q:RelV y u):x=y:=Option.some.inj (r.abs.symm.trans q.abs)
theorem Vals.inj:∀{xs ys:List V} {us:List Value},Vals xs us->Vals ys us->xs=ys
 |_,_,_,.nil,.nil=>rfl
 |_,_,_,.cons r t,.cons r' t'=>by rw[r.inj r',Vals.inj t t']
section
variable {X:Cx}{pins:List (Addr×Obj)}{σ:St}{H:Hp}{s:Shared}{a:Addr}{xs ys:List V}
theorem AZ.of {K:PySem.W.Frag}(h:H a=some (.lst xs)):AZ K H a xs:=.inl (.inl h)
theorem Ce.of {K:PySem.W.Frag}(h:H a=some (.tup xs)):Ce K H a xs:=.inl (.inl h)
theorem Inv.list (I:Inv X pins σ H s)(h:AZ X.K H a xs):∃its:List Value,Vals xs its/\PlainL s.heap a its.toArray/\xs.length<=sizeLine:=by
 rcases h with h|⟨o,its,n,hk,hc,hd,hs,hz,r⟩
 ·obtain⟨z,its,n,r,e⟩:=h.ok I.hok
  exact⟨its,r,⟨_,n,e,rfl,rfl,rfl⟩,z⟩
 ·refine⟨its.toList,r,⟨o,n,I.JP a o hk,hc,hd,by simpa using hs⟩,?_⟩
  have e:=r.length
  simp only[Array.length_toList]at e
  omega
theorem Inv.tuple (I:Inv X pins σ H s)(h:Ce X.K H a xs):∃its:List Value,Vals xs its/\IsTup s.heap a its.toArray/\xs.length<=sizeLine:=by
 rcases h with h|⟨o,its,n,hk,hc,hs,hz,r⟩
 ·obtain⟨z,its,r,p⟩:=h.ok I.hok
  exact⟨its,r,p,z.1⟩
 ·refine⟨its.toList,r,⟨o,I.JP a o hk,hc,n,by simpa using hs⟩,?_⟩
  have e:=r.length
  simp only[Array.length_toList]at e
  omega
theorem Inv.list_inj (I:Inv X pins σ H s)(h:AZ X.K H a xs)(h':AZ X.K H a ys):xs=ys:=by
 obtain⟨its,r,⟨o,n,e,_,_,d⟩,_⟩:=I.list h
 obtain⟨its',r',⟨o',n',e',_,_,d'⟩,_⟩:=I.list h'
 rw[e]at e';cases e'
 rw[d]at d'
 injection d' with d1 _
 have:its=its':=by simpa using congrArg Array.toList d1
 subst this
 exact r.inj r'
theorem Inv.Mf (I:Inv X pins σ H s)(h:Ce X.K H a xs)(h':Ce X.K H a ys):xs=ys:=by
 obtain⟨its,r,⟨o,e,_,n,d⟩,_⟩:=I.tuple h
 obtain⟨its',r',⟨o',e',_,n',d'⟩,_⟩:=I.tuple h'
 rw[e]at e';cases e'
 rw[d]at d'
 injection d' with d1 _
 have:its=its':=by simpa using congrArg Array.toList d1
 subst this
 exact r.inj r'
end
abbrev Cx.He (X:Cx)(E:Value->Shared->Prop):Cx:={ X with xe:=E }
abbrev Cx.Qt (X:Cx):Cx:=X.He λ_ _=>False
theorem Cx.Ok.He {X:Cx}(ok:X.Ok)(E:Value->Shared->Prop):(X.He E).Ok:=
 ⟨ok.mod,ok.kind,ok.glob,ok.blt,ok.above,ok.inj,ok.has,ok.cab,ok.hd,ok.frames,ok.stk,ok.exf,ok.bs,ok.bsz,ok.noex,ok.exfs,ok.EJ,ok.frf⟩
theorem Cx.Ok.DQ {X:Cx}{E:Value->Shared->Prop}(ok:(X.He E).Ok):X.Ok:=
 ⟨ok.mod,ok.kind,ok.glob,ok.blt,ok.above,ok.inj,ok.has,ok.cab,ok.hd,ok.frames,ok.stk,ok.exf,ok.bs,ok.bsz,ok.noex,ok.exfs,ok.EJ,ok.frf⟩
section
variable {X:Cx}{pins:List (Addr×Obj)}{σ:St}{H:Hp}{s:Shared}{E:Value->Shared->Prop}
theorem Inv.He (I:Inv X pins σ H s)(E:Value->Shared->Prop):Inv (X.He E) pins σ H s:=⟨I.ok.He E,I.os,I.bare,I.base,I.loc,I.cell,I.free,I.freeC,I.pin,I.hok,I.len⟩
theorem Inv.DQ (I:Inv (X.He E) pins σ H s):Inv X pins σ H s:=⟨I.ok.DQ,I.os,I.bare,I.base,I.loc,I.cell,I.free,I.freeC,I.pin,I.hok,I.len⟩
theorem SP.DQ {D:Ends}{f:Flow}{s':Shared}(h:SP (X.He E) pins D f s'):SP X pins D f s':=by
 cases f with
 |next=>obtain⟨σ',H',I,q⟩:=h;exact⟨σ',H',I.DQ,q⟩
 |brk=>obtain⟨σ',H',I,q⟩:=h;exact⟨σ',H',I.DQ,q⟩
 |cont=>obtain⟨σ',H',I,q⟩:=h;exact⟨σ',H',I.DQ,q⟩
 |ret u=>obtain⟨v,σ',H',I,r,q⟩:=h;exact⟨v,σ',H',I.DQ,r,q⟩
theorem Kj.Qt {st:List Stmt}{t:TS}(h:Kj X.Qt st t):Kj X st t:=λpins s σ H D I hw=>
 wpAny_mono (h pins s σ H D (I.He _) hw) (λ_ _ q=>q.DQ) λ_ _ z=>False.elim z
end
section
variable {X:Cx}{st:Stmt}{rest:List Stmt}{t u:TS}{e:Expr}{te:TE}{pos:Pos}
def SH:TS:=λD σ H=>D.nx σ H
def Tc (t u:TS):TS:=λD σ H=>t { D with nx:=u D } σ H
theorem Au:Kj X [] SH:=λ_ _ σ H _ I h=>wpAny_execs_nil ⟨σ,H,I,h⟩
theorem AE (h1:PS X st t)(h2:Kj X rest u):Kj X (st::rest) (Tc t u):=by
 intro pins s σ H D I h
 refine wpAny_execs_cons (BO (h1 pins s σ H { D with nx:=u D } I h) λf s1 q=>?_)
 cases f with
 |next=>
  obtain⟨σ',H',I',q⟩:=q
  exact h2 pins s1 σ' H' D I' q
 |ret v=>exact q
 |brk=>exact q
 |cont=>exact q
theorem AN (h1:PS X st t):Kj X [st] t:=by
 intro pins s σ H D I h
 refine wpAny_execs_cons (BO (h1 pins s σ H D I h) λf s1 q=>?_)
 cases f with
 |next=>exact wpAny_execs_nil q
 |ret v=>exact q
 |brk=>exact q
 |cont=>exact q
theorem Inv.quiet {pins:List (Addr×Obj)}{σ:St}{H:Hp}{s:Shared}(I:Inv X pins σ H s):interactive X.env=false:=by simp[interactive,I.ok.kind]
def SJ (te:TE):TS:=λD σ H=>te σ H λ_ H1=>D.nx σ H1
theorem GF (he:PE X e te)(hs:swapsWith e none pos.line X.env=pure false:=by rfl):PS X (.Expr e pos) (SJ te):=by
 intro pins s σ H D I h
 exact wpAny_Expr_any (BO (he pins s σ H _ I h) λv s1 ⟨x,H1,I1,r1,q1⟩=>⟨σ,H1,I1,q1⟩) I.quiet hs
def Td (te:TE):TS:=λD σ H=>te σ H D.rt
theorem AW (he:PE X e te):PS X (.Return (some e) pos) (Td te):=by
 intro pins s σ H D I h
 exact wpAny_Return_some (BO (he pins s σ H _ I h) λv s1 ⟨x,H1,I1,r1,q1⟩=>⟨x,σ,H1,I1,r1,q1⟩)
def Te (c:TT)(t u:TS):TS:=λD σ H=>c σ H λb H1=>if b=true then t D σ H1 else u D σ H1
theorem Bs {c:Expr}{a b:List Stmt}{tc:TT}(hc:PT X c tc)(ha:Kj X a t)(hb:Kj X b u):PS X (.If c a b pos) (Te tc t u):=by
 intro pins s σ H D I h
 refine wpAny_If (BO (hc pins s σ H _ I h) λd s1 ⟨H1,I1,q1⟩=>?_)
 cases d with
 |true=>exact ha pins s1 σ H1 D I1 q1
 |false=>exact hb pins s1 σ H1 D I1 q1
end
abbrev TG:=V->St->Hp->(St->Hp->Prop)->Prop
abbrev QT:=List V->St->Hp->(St->Hp->Prop)->Prop
def PG (X:Cx)(target:Expr)(t:TG):Prop:=
 ∀(pins:List (Addr×Obj)) (s:Shared) (σ:St) (H:Hp) (v:V) (u:Value) (Q:St->Hp->Prop),Inv X pins σ H s->RelV v u->t v σ H Q->
  wpAny (model X.prog X.w) X.A (assign target X.env u) (λ_ s'=>∃σ' H',Inv X pins σ' H' s'/\Q σ' H') X.xe s
def SN (X:Cx)(ts:List Expr)(t:QT):Prop:=
 ∀(pins:List (Addr×Obj)) (s:Shared) (σ:St) (H:Hp) (vs:List V) (us:List Value) (Q:St->Hp->Prop),Inv X pins σ H s->Vals vs us->t vs σ H Q->
  wpAny (model X.prog X.w) X.A (assignInOrder ((assignEach ts X.env).map (·.2)) us) (λ_ s'=>∃σ' H',Inv X pins σ' H' s'/\Q σ' H') X.xe s
abbrev Qu:=V->V->V->Hp->(Hp->Prop)->Prop
def SO (X:Cx)(t:Qu):Prop:=
 ∀(pins:List (Addr×Obj)) (s:Shared) (σ:St) (H:Hp) (o i v:V) (ov iv u:Value) (Q:Hp->Prop),Inv X pins σ H s->RelV o ov->RelV i iv->RelV v u->t o i v H Q->
  wpAny (model X.prog X.w) X.A (setItem ov iv u) (λ_ s'=>∃H',Inv X pins σ H' s'/\Q H') X.xe s
abbrev S9:=V->V->Hp->VK->Prop
def UJ (X:Cx)(op:Operator)(t:S9):Prop:=
 ∀(pins:List (Addr×Obj)) (s:Shared) (σ:St) (H:Hp) (x y:V) (v u:Value) (Q:VK),Inv X pins σ H s->RelV x v->RelV y u->t x y H Q->
  wpAny (model X.prog X.w) X.A (inplaceOp op v u) (EP X pins σ Q) X.xe s
section
variable {X:Cx}{pos:Pos}
def Le (i:Nat):TG:=λv σ H Q=>Q (σ.set i (some v)) H
theorem AQ {i:Nat}{x:Str}(hN:X.N.Nodup)(hi:X.N[i]?=some x)(hx:Loc X.env.scope x)(hf:X.fn x=true\/X.env.scope.names.lookup x=some .local:=by first|exact .inl rfl|exact .inr rfl|assumption):PG X (.Name x pos) (Le i):=by
 intro pins s σ H v u Q I r h
 exact wpAny_assign_Name (GQ I hN hi hx r (λs' I'=>⟨_,H,I',h⟩) hf)
def Tf:QT:=λvs σ H Q=>vs=[]/\Q σ H
def SQ (t:TG)(u:QT):QT:=λvs σ H Q=>∃v r,vs=v::r/\t v σ H λσ' H'=>u r σ' H' Q
theorem Bt:SN X [] Tf:=by
 intro pins s σ H vs us Q I r h
 obtain⟨e,h⟩:=h
 subst e
 cases r
 exact assignInOrder_nil ⟨σ,H,I,h⟩
theorem Ah {e:Expr}{es:List Expr}{t:TG}{u:QT}(h1:PG X e t)(h2:SN X es u)
 (hs:(assignEach (e::es) X.env).map (·.2)=assign e X.env::(assignEach es X.env).map (·.2):=by rfl):SN X (e::es) (SQ t u):=by
 intro pins s σ H vs us Q I r h
 obtain⟨v,vr,e1,h⟩:=h
 subst e1
 cases r with
 |cons r rr=>
  rw[hs]
  refine assignInOrder_cons (BO (h1 pins s σ H _ _ _ I r h) λ_ s1 ⟨σ1,H1,I1,q1⟩=>?_)
  exact h2 pins s1 σ1 H1 _ _ Q I1 rr q1
def SR (K:PySem.W.Frag)(n:Nat)(t:QT):TG:=λv σ H Q=>∃a xs,v=.ref a/\Ce K H a xs/\xs.length=n/\t xs σ H Q
theorem EM {es:List Expr}{k:Nat}{t:QT}{n:Nat}(hc:X.calm=true)(h:SN X es t)
 (hn:(assignEach es X.env).length=n:=by rfl)(hst:(assignEach es X.env).findIdx? (·.1)=none:=by rfl):PG X (.Tuple es k pos) (SR X.K n t):=by
 intro pins s σ H v u Q I r hw
 obtain⟨a,xs,e1,hq,hl,hw⟩:=hw
 subst e1
 cases r
 obtain⟨its,rv,ht,hz⟩:=I.tuple hq
 refine assign_Tuple_tuple (I.ok.hd hc) ht (by simp[hn,<-hl,rv.length]) hst λh' hx=>?_
 have I1:Inv X pins σ H { s with heap:=h' }:=I.kept (t':=s.toks) λb o e=>hx b o (Nat.ne_of_lt (Heap.lt_size e)) e
 exact h pins _ σ H xs _ Q I1 (by simpa using rv) hw
def Tg (to ti:TE)(t:Qu):TG:=λv σ H Q=>to σ H λo H1=>ti σ H1 λi H2=>t o i v H2 λH3=>Q σ H3
theorem Km {o i:Expr}{to ti:TE}{t:Qu}(ho:PE X o to)(hi:PE X i ti)(hs:SO X t)
 (ha:∀v,assign (.Subscript o i pos) X.env v=(do
  let ov<-holding [v] (eval o X.env)
  let iv<-holding [v,ov] (eval i X.env)
  standAt pos
  holding [v,ov,iv] (setItem ov iv v)
  release [v,ov,iv] []):=by intro _;rfl):PG X (.Subscript o i pos) (Tg to ti t):=by
 intro pins s σ H v u Q I r h
 rw[ha]
 refine wpAny_bind (wpAny_holding (BO (ho pins s σ H _ I h) λov s1 ⟨x,H1,I1,r1,q1⟩=>?_))
 refine wpAny_bind (wpAny_holding (BO (hi pins s1 σ H1 _ I1 q1) λiv s2 ⟨y,H2,I2,r2,q2⟩=>?_))
 refine wpAny_bind (wpAny_standAt (wpAny_bind (wpAny_holding (BO (hs pins s2 σ H2 x y v ov iv u _ I2 r1 r2 r q2) λ_ s3 ⟨H3,I3,q3⟩=>?_))))
 exact wpAny_release ⟨σ,H3,I3,q3⟩
def Qv (te:TE)(g:TG):TS:=λD σ H=>te σ H λx H1=>g x σ H1 D.nx
theorem GR {tg e:Expr}{te:TE}{g:TG}(he:PE X e te)(hg:PG X tg g)(hs:swapsWithSole [tg] e pos.line X.env=pure false:=by rfl)(hw:swappedStores [tg] e X.env=pure none:=by rfl)
 (h1:(assignEach [tg] X.env).map (·.2)=[assign tg X.env]:=by rfl):PS X (.Assign [tg] e pos) (Qv te g):=by
 intro pins s σ H D I h
 refine wpAny_Assign_stores (BO (he pins s σ H _ I h) λv s1 ⟨x,H1,I1,r1,q1⟩=>?_) hs hw
 rw[h1]
 exact BO (hg pins s1 σ H1 x v _ I1 r1 q1) λ_ s2 q=>q
theorem AS {i:Nat}{x:Str}{e:Expr}{te:TE}{pos':Pos}(hN:X.N.Nodup)(hi:X.N[i]?=some x)(hx:Loc X.env.scope x)(he:PE X e te)(hs:swapsWith e (some (.Name x pos')) pos.line X.env=pure false:=by rfl)(hf:X.fn x=true\/X.env.scope.names.lookup x=some .local:=by first|exact .inl rfl|exact .inr rfl|assumption):
 PS X (.Assign [.Name x pos'] e pos) (Qv te (Le i)):=by
 intro pins s σ H D I h
 refine wpAny_Assign_Name (BO (he pins s σ H _ I h) λv s1 ⟨y,H1,I1,r1,q1⟩=>?_) hs
 exact GQ I1 hN hi hx r1 (λs2 I2=>⟨_,H1,I2,q1⟩) hf
def Th (i:Nat)(te:TE)(ti:S9):TS:=λD σ H=>∃x,σ[i]?=some (some x)/\te σ H λy H1=>ti x y H1 λz H2=>D.nx (σ.set i (some z)) H2
theorem Np {i:Nat}{x:Str}{e:Expr}{te:TE}{op:Operator}{ti:S9}{pos':Pos}(hN:X.N.Nodup)(hi:X.N[i]?=some x)(hx:Loc X.env.scope x)(he:PE X e te)(ho:UJ X op ti)(hf:X.fn x=true\/X.env.scope.names.lookup x=some .local:=by first|exact .inl rfl|exact .inr rfl|assumption):
 PS X (.AugAssign (.Name x pos') op e pos) (Th i te ti):=by
 intro pins s σ H D I h
 obtain⟨v,e1,h⟩:=h
 obtain⟨m,hn,hl⟩:=I.loc
 have vis:R3 X.env.scope x:=by rcases hx with k|k;exact .inl k;exact .inr (.inl k)
 obtain⟨u,r,l⟩:=hl i x v hi e1 vis
 refine wpAny_AugAssign_Name ?_
 have go:wpAny (model X.prog X.w) X.A (eval e X.env) (λw s₂=>wpAny (model X.prog X.w) X.A (inplaceOp op u w) (λr s₃=>wpAny (model X.prog X.w) X.A (storeName X.env x r) (λ_=>SP X pins D .next) X.xe s₃) X.xe s₂) X.xe s:=by
  refine BO (he pins s σ H _ I h) λw s1 ⟨y,H1,I1,r1,q1⟩=>?_
  refine BO (ho pins s1 σ H1 v y u w _ I1 r r1 q1) λz s2 ⟨zv,H2,I2,r2,q2⟩=>?_
  exact GQ I2 hN hi hx r2 (λs3 I3=>⟨_,H2,I3,q2⟩) hf
 rcases l with⟨hk,hm⟩|⟨hk,c,hc,hcell⟩
 ·exact wpAny_loadName_local I.ok.kind hk hn hm go
 ·rcases hk with hk|hk
  ·exact wpAny_loadName_cell I.ok.kind hk hc hcell go
  ·rcases hx with k|k
   ·have:X.env.scope.names.lookup x=some .free:=hk
    rw[k]at this;cases this
   ·have:X.env.scope.names.lookup x=some .free:=hk
    rw[k]at this;cases this
def UU (f:Int->Int->Int):S9:=λx y H Q=>∃i j,x=.int i/\y=.int j/\Q (.int (f i j)) H
theorem Nq:UJ X .Add (UU λi j=>i+j):=by
 intro pins s σ H x y v u Q I r1 r2 h
 obtain⟨i,j,e1,e2,q⟩:=h
 subst e1;subst e2
 obtain⟨t,rfl⟩:=r1
 obtain⟨t',rfl⟩:=r2
 exact iadd_int ⟨.int _,H,I.tok _,⟨_,rfl⟩,q⟩
end
section
variable {X:Cx}{pos:Pos}
def Nr (c:TT)(tb:TS):TS:=λD σ H=>∃W:Nat->St->Hp->Prop,(∃m,W m σ H)/\∀m σ H,W m σ H->
 c σ H λb H1=>if b=true then∃N:St->Hp->Prop,(∀σ' H',N σ' H'->∃m',m' < m/\W m' σ' H')/\tb { D with nx:=N,ct:=N,bk:=D.nx } σ H1 else D.nx σ H1
theorem JV {c:Expr}{body:List Stmt}{tc:TT}{tb:TS}(hp:PassesOwn (model X.prog X.w) X.A X.env X.xe)(hc:PT X c tc)(hb:Kj X body tb):PS X (.While c body [] pos) (Nr tc tb):=by
 intro pins s σ H D I h
 obtain⟨W,⟨m0,w0⟩,turn⟩:=h
 refine wpAny_While (codeAny_whileLoop (λn s'=>∃σ' H',Inv X pins σ' H' s'/\W n σ' H') ?_ m0 ⟨σ,H,I,w0⟩)
 rintro n s1 ⟨σ1,H1,I1,w1⟩
 refine wpAny_passesOwn hp (BO (hc pins s1 σ1 H1 _ I1 (turn n σ1 H1 w1)) λb s2 ⟨H2,I2,q2⟩=>?_)
 cases b with
 |true=>
  obtain⟨N,hN,q2⟩:=q2
  rw[if_pos rfl]
  refine wpAny_passesOwn hp (BO (hb pins s2 σ1 H2 _ I2 q2) λf s3 q3=>?_)
  cases f with
  |next=>
   obtain⟨σ3,H3,I3,n3⟩:=q3
   obtain⟨m',hm,w3⟩:=hN σ3 H3 n3
   exact⟨m',hm,σ3,H3,I3,w3⟩
  |cont=>
   obtain⟨σ3,H3,I3,n3⟩:=q3
   obtain⟨m',hm,w3⟩:=hN σ3 H3 n3
   exact⟨m',hm,σ3,H3,I3,w3⟩
  |brk=>exact q3
  |ret v=>exact q3
 |false=>
  rw[if_neg Bool.false_ne_true]
  exact wpAny_execs_nil ⟨σ1,H2,I2,q2⟩
end
structure It where
 go:Nat->Hp->Prop
 yld:Nat->Hp->V->Hp->Prop
 stop:Nat->Hp->Prop
def B2 (X:Cx)(pins:List (Addr×Obj))(H:Hp)(b:Addr):Prop:=
 H b=none/\b≠X.env.locals/\b∉X.fs/\(b∈X.ex\/X.s₀.heap.objs.size<=b)/\(∀x c,X.env.cells.lookup x=some c->c≠b)/\∀p∈X.pn++pins,p.1≠b
theorem Inv.GS {X:Cx}{pins:List (Addr×Obj)}{σ:St}{H H':Hp}{s:Shared}{b:Addr}(I:Inv X pins σ H s)(hb:s.heap.objs.size<=b)(hn:H' b=none):B2 X pins H' b:=by
 refine⟨hn,Nat.ne_of_gt (Nat.lt_of_lt_of_le I.lt hb),I.TY hb,.inr (Nat.le_trans I.sz hb),λx c e z=>?_,λp hp z=>?_⟩
 ·obtain⟨v,q⟩:=I.cell x c e
  exact absurd (Nat.lt_of_lt_of_le q.lt (by rw[z];exact hb)) (Nat.lt_irrefl _)
 ·exact absurd (Nat.lt_of_lt_of_le (Heap.lt_size (I.pin p hp).1) (by rw[z];exact hb)) (Nat.lt_irrefl _)
structure Turn (P:Program)(w:World)(K:PySem.W.Frag)(tg:Expr)(J:It)(fp:List Addr)(it:Addr)(tn:Nat->Heap->Prop):Prop where
 mem:it∈fp
 obj:∀i h,tn i h->∀b∈fp,∃o,h.get? b=some o/\∀v,o.data≠.cell v
 keep:∀i h h',tn i h->(∀b∈fp,∀o,h.get? b=some o->h'.get? b=some o)->tn i h'
 item:∀(X:Cx),X.prog=P->X.w=w->X.K=K->X.calm=true->∀(i:Nat) (pins:List (Addr×Obj)) (s:Shared) (σ:St) (H:Hp) (E:Value->Shared->Prop),Inv X pins σ H s->(∀b∈fp,B2 X pins H b)->tn i s.heap->J.go i H->
  wpAny (model P w) X.A (pyNext (.ref it)) (λr s1=>∃u,r=some u/\
   wpAny (model P w) X.A (letOwnedTupleGo tg (.ref it) u) (λ_ s2=>∃x H',Inv X pins σ H' s2/\RelV x u/\J.yld i H x H'/\tn (i+1) s2.heap/\∀b∈fp,H' b=none) E s1) E s
 done:∀(X:Cx),X.prog=P->X.w=w->X.K=K->X.calm=true->∀(i:Nat) (pins:List (Addr×Obj)) (s:Shared) (σ:St) (H:Hp) (E:Value->Shared->Prop),Inv X pins σ H s->(∀b∈fp,B2 X pins H b)->tn i s.heap->J.stop i H->
  wpAny (model P w) X.A (pyNext (.ref it)) (λr s1=>r=none/\Inv X pins σ H s1) E s
 self:∀(A:Around) (i:Nat) (s:Shared) (Q:Value->Shared->Prop) (E:Value->Shared->Prop),tn i s.heap->Q (.ref it) s->wpAny (model P w) A (pyIter (.ref it)) Q E s
abbrev TI:=St->Hp->(It->Hp->Prop)->Prop
def UK (X:Cx)(pins:List (Addr×Obj))(σ:St)(tg:Expr)(R:It->Hp->Prop)(itv:Value)(s2:Shared):Prop:=
 ∃(it:Addr) (fp:List Addr) (tn:Nat->Heap->Prop) (J:It) (H':Hp),itv=.ref it/\Inv X pins σ H' s2/\Turn X.prog X.w X.K tg J fp it tn/\tn 0 s2.heap/\(∀b∈fp,B2 X pins H' b)/\R J H'
def PI (X:Cx)(tg iter:Expr)(wi:TI):Prop:=
 ∀(pins:List (Addr×Obj)) (s:Shared) (σ:St) (H:Hp) (R:It->Hp->Prop),Inv X pins σ H s->wi σ H R->
  wpAny (model X.prog X.w) X.A (eval iter X.env) (λv s1=>wpAny (model X.prog X.w) X.A (pyIter v) (UK X pins σ tg R) X.xe s1) X.xe s
theorem Nt {M:Model}{A:Around}{E:Value->Shared->Prop}{s:Shared}{tg:Expr}{it:Addr}{u:Value}{o:Obj}{n:String}{vs:Array Value}{Q:Unit->Shared->Prop}(ho:s.heap.get? it=some o)(hc:o.cls=.type n)(hd:o.data=.fields vs)
 (hn:["enumerate","zip","dict_itemiterator","dict_reverseitemiterator","odict_iterator","itertools.zip_longest","itertools.pairwise"].contains n=false)(hQ:Q () s):wpAny M A (letOwnedTupleGo tg (.ref it) u) Q E s:=by
 unfold letOwnedTupleGo
 cases tg<;>first
  |exact wpAny_pure hQ
  |(cases u<;>first
   |exact wpAny_pure hQ
   |(refine wpAny_bind (wpAny_load ho ?_)
     rw[hc,hd]
     show wpAny M A (if(["enumerate","zip","dict_itemiterator","dict_reverseitemiterator","odict_iterator","itertools.zip_longest","itertools.pairwise"].contains n&&vs[0]?==some (rawInt _))=true then _ else _) Q E s
     rw[if_neg (by intro h;rw[hn,Bool.false_and]at h;cases h)]
     exact wpAny_pure hQ))
def Nu (K:PySem.W.Frag)(a:Addr):It:=
 ⟨λi H=>∃xs x,AZ K H a xs/\xs[i]?=some x,λi H x H'=>H'=H/\∀xs,AZ K H a xs->xs[i]?=some x,λi H=>∃xs,AZ K H a xs/\xs.length<=i⟩
def SS (K:PySem.W.Frag)(a:Addr):It:=
 ⟨λi H=>∃xs x,Ce K H a xs/\xs[i]?=some x,λi H x H'=>H'=H/\∀xs,Ce K H a xs->xs[i]?=some x,λi H=>∃xs,Ce K H a xs/\xs.length<=i⟩
def Qw (lo:Int)(n:Nat):It:=⟨λi _=>i < n,λi H x H'=>H'=H/\x=.int (lo+i),λi _=>n<=i⟩
theorem Mg {P:Program}{w:World}{K:PySem.W.Frag}{tg:Expr}(a it:Addr):Turn P w K tg (Nu K a) [it] it (λi h=>h.IsListIter it a i) where
 mem:=by simp
 obj:=λi h st b hb=>by
  have e:b=it:=by simpa using hb
  subst e
  obtain⟨o,e,c,d⟩:=st
  exact⟨o,e,λv z=>by rw[d]at z;cases z⟩
 keep:=λi h h' st k=>st.at λo e=>k it (by simp) o e
 item:=by
  intro X hP hw hK hc i pins s σ H E I hf st hg
  subst hP hw hK
  obtain⟨xs,x,hq,hx⟩:=hg
  obtain⟨its,rv,p,hz⟩:=I.list hq
  obtain⟨u,hu,ru⟩:=rv.get hx
  obtain⟨f0,f1,f2,f3,f4,f5⟩:=hf it (by simp)
  refine wpAny_pyNext_list_item st p.isList (x:=u) (by simpa using hu) λh' st' sb=>?_
  have I1:Inv X pins σ H { s with heap:=h' }:=I.turned (t':=s.toks) (λb o hb e=>(sb.2 b hb).trans e) f0 f1 f3 f4 f5
  obtain⟨o,e,c,d⟩:=id st'
  exact⟨u,rfl,Nt (s:={ s with heap:=h' }) e c d (by decide) ⟨x,H,I1,ru,⟨rfl,λys hy=>by rw[I.list_inj hy hq];exact hx⟩,st',λb hb=>(hf b hb).1⟩⟩
 done:=by
  intro X hP hw hK hc i pins s σ H E I hf st hg
  subst hP hw hK
  obtain⟨xs,hq,hx⟩:=hg
  obtain⟨its,rv,p,hz⟩:=I.list hq
  obtain⟨f0,f1,f2,f3,f4,f5⟩:=hf it (by simp)
  have hl:=rv.length
  exact wpAny_pyNext_list_end (I.ok.hd hc) st p.isList (by simp;omega) λh' eb=>⟨rfl,I.turned (t':=s.toks) (λb o hb e=>eb b o hb e) f0 f1 f3 f4 f5⟩
 self:=λ_ _ _ _ _ st h=>wpAny_pyIter_listiter st h
theorem Kn {P:Program}{w:World}{K:PySem.W.Frag}{tg:Expr}(a it:Addr):Turn P w K tg (SS K a) [it] it (λi h=>h.IsTupleIter it a i) where
 mem:=by simp
 obj:=λi h st b hb=>by
  have e:b=it:=by simpa using hb
  subst e
  obtain⟨o,e,c,d⟩:=st
  exact⟨o,e,λv z=>by rw[d]at z;cases z⟩
 keep:=λi h h' st k=>st.at λo e=>k it (by simp) o e
 item:=by
  intro X hP hw hK hc i pins s σ H E I hf st hg
  subst hP hw hK
  obtain⟨xs,x,hq,hx⟩:=hg
  obtain⟨its,rv,p,hz⟩:=I.tuple hq
  obtain⟨u,hu,ru⟩:=rv.get hx
  obtain⟨f0,f1,f2,f3,f4,f5⟩:=hf it (by simp)
  refine wpAny_pyNext_tuple_item st (show s.heap.IsTuple a its.toArray from p) (x:=u) (by simpa using hu) λh' st' sb=>?_
  have I1:Inv X pins σ H { s with heap:=h' }:=I.turned (t':=s.toks) (λb o hb e=>(sb.2 b hb).trans e) f0 f1 f3 f4 f5
  obtain⟨o,e,c,d⟩:=id st'
  exact⟨u,rfl,Nt (s:={ s with heap:=h' }) e c d (by decide) ⟨x,H,I1,ru,⟨rfl,λys hy=>by rw[I.Mf hy hq];exact hx⟩,st',λb hb=>(hf b hb).1⟩⟩
 done:=by
  intro X hP hw hK hc i pins s σ H E I hf st hg
  subst hP hw hK
  obtain⟨xs,hq,hx⟩:=hg
  obtain⟨its,rv,p,hz⟩:=I.tuple hq
  obtain⟨f0,f1,f2,f3,f4,f5⟩:=hf it (by simp)
  have hl:=rv.length
  exact wpAny_pyNext_tuple_end (I.ok.hd hc) st (show s.heap.IsTuple a its.toArray from p) (by simp;omega) λh' eb=>⟨rfl,I.turned (t':=s.toks) (λb o hb e=>eb b o hb e) f0 f1 f3 f4 f5⟩
 self:=λ_ _ _ _ _ st h=>wpAny_pyIter_tupleiter st h
theorem Ko {P:Program}{w:World}{K:PySem.W.Frag}{tg:Expr}(it:Addr)(lo:Int)(n:Nat):Turn P w K tg (Qw lo n) [it] it (λi h=>IsRangeIter h it (lo+(i:Nat)*1) ((n:Int) - (i:Nat)) 1) where
 mem:=by simp
 obj:=λi h st b hb=>by
  have e:b=it:=by simpa using hb
  subst e
  exact⟨_,st,λv z=>by
   have z':Data.fields _=Data.cell v:=z
   cases z'⟩
 keep:=λi h h' st k=>k it (by simp) _ st
 item:=by
  intro X hP hw hK hc i pins s σ H E I hf st hg
  subst hP hw hK
  obtain⟨f0,f1,f2,f3,f4,f5⟩:=hf it (by simp)
  have W:=Walks.range (prog:=X.prog) (w:=X.w) (I.ok.hd hc) it lo 1 n
  refine W.item i s _ _ hg st λv h' tk hv st' kk=>?_
  obtain⟨t,rfl⟩:=hv
  have I1:Inv X pins σ H { s with heap:=h',toks:=tk }:=I.turned (λb o hb e=>kk b o (by simpa using hb) e) f0 f1 f3 f4 f5
  refine⟨_,rfl,Nt (s:={ s with heap:=h',toks:=tk }) (n:="range_iterator") st' rfl rfl (by decide) ⟨.int (lo+i),H,I1,⟨t,?_⟩,⟨rfl,rfl⟩,st',λb hb=>(hf b hb).1⟩⟩
  rw[Int.mul_one]
 done:=by
  intro X hP hw hK hc i pins s σ H E I hf st hg
  subst hP hw hK
  obtain⟨f0,f1,f2,f3,f4,f5⟩:=hf it (by simp)
  exact wpAny_pyNext_range_end (I.ok.hd hc) st (by have:n<=i:=hg;omega) λh' eb=>⟨rfl,I.turned (t':=s.toks) (λb o hb e=>eb b o hb e) f0 f1 f3 f4 f5⟩
 self:=λ_ _ _ _ _ st h=>wpAny_pyIter_rangeiter st h
end L2
namespace L2
open PySem PySem.Spec PyProof.Rows
section
variable {X:Cx}{tg:Expr}
def SU (K:PySem.W.Frag)(tl:TE):TI:=λσ H R=>tl σ H λx H1=>∃a,x=.ref a/\(∃xs,AZ K H1 a xs)/\R (Nu K a) H1
def Ti (K:PySem.W.Frag)(tl:TE):TI:=λσ H R=>tl σ H λx H1=>∃a,x=.ref a/\(∃xs,Ce K H1 a xs)/\R (SS K a) H1
theorem Ao {l:Expr}{tl:TE}(hl:PE X l tl):PI X tg l (SU X.K tl):=by
 intro pins s σ H R I h
 refine BO (hl pins s σ H _ I h) λv s1 ⟨x,H1,I1,r1,q1⟩=>?_
 obtain⟨a,e,⟨xs,hq⟩,q⟩:=q1
 subst e
 cases r1
 obtain⟨its,rv,p,hz⟩:=I1.list hq
 refine wpAny_pyIter_list p.isList ?_
 refine⟨s1.heap.objs.size,[s1.heap.objs.size],_,_,H1,rfl,I1.kept (t':=s1.toks) λb o e=>Heap.get?_push_of_some _ e,Mg a _,⟨_,Heap.get?_push_size _ rfl,rfl,rfl⟩,λb hb=>?_,q⟩
 have e:b=s1.heap.objs.size:=by simpa using hb
 subst e
 exact I1.GS (Nat.le_refl _) (I1.hok.fresh (Nat.le_refl _))
theorem Qx {l:Expr}{tl:TE}(hl:PE X l tl):PI X tg l (Ti X.K tl):=by
 intro pins s σ H R I h
 refine BO (hl pins s σ H _ I h) λv s1 ⟨x,H1,I1,r1,q1⟩=>?_
 obtain⟨a,e,⟨xs,hq⟩,q⟩:=q1
 subst e
 cases r1
 obtain⟨its,rv,p,hz⟩:=I1.tuple hq
 refine wpAny_pyIter_tuple (show s1.heap.IsTuple a its.toArray from p) ?_
 refine⟨s1.heap.objs.size,[s1.heap.objs.size],_,_,H1,rfl,I1.kept (t':=s1.toks) λb o e=>Heap.get?_push_of_some _ e,Kn a _,⟨_,Heap.get?_push_size _ rfl,rfl,rfl⟩,λb hb=>?_,q⟩
 have e:b=s1.heap.objs.size:=by simpa using hb
 subst e
 exact I1.GS (Nat.le_refl _) (I1.hok.fresh (Nat.le_refl _))
theorem JW {pins:List (Addr×Obj)}{σ:St}{H:Hp}{s:Shared}{R:It->Hp->Prop}{E:Value->Shared->Prop}{lo hi:Int}{t u v:Tok}{tk:Nat}(I:Inv X pins σ H s)(h1:-(2 ^ 62)<=lo)(h2:lo < 2 ^ 62)(h3:-(2 ^ 62)<=hi)(h4:hi < 2 ^ 62)
 (q:R (Qw lo (hi - lo).toNat) H):wpAny (model X.prog X.w) X.A (pyIter (.ref s.heap.objs.size)) (UK X pins σ tg R) E { s with heap:=s.heap.push { cls:=.type "range",data:=.fields #[.int lo t,.int hi u,.int 1 v] },toks:=tk }:=by
 refine wpAny_pyIter_range (IsRange.new ..) (small_one h1 h2 h3 h4) ?_
 have I1:Inv X pins σ H { s with heap:=s.heap.push { cls:=.type "range",data:=.fields #[.int lo t,.int hi u,.int 1 v] },toks:=tk }:=I.kept λb o e=>Heap.get?_push_of_some _ e
 refine⟨(s.heap.push { cls:=.type "range",data:=.fields #[.int lo t,.int hi u,.int 1 v] }).objs.size,[(s.heap.push { cls:=.type "range",data:=.fields #[.int lo t,.int hi u,.int 1 v] }).objs.size],_,_,H,rfl,
  I1.kept (t':=tk) λb o e=>Heap.get?_push_of_some _ e,Ko _ lo (hi - lo).toNat,?_,λb hb=>?_,q⟩
 ·have e1:lo+((0:Nat):Int)*1=lo:=by simp
  have e2:(((hi - lo).toNat:Nat):Int) - ((0:Nat):Int)=Builtin.Range.rangeSize lo hi 1:=by rw[rangeSize_one];split<;>omega
  show IsRangeIter _ _ (lo+((0:Nat):Int)*1) ((((hi - lo).toNat:Nat):Int) - ((0:Nat):Int)) 1
  rw[e1,e2]
  exact Heap.get?_push_size _ rfl
 ·have e:b=(s.heap.push { cls:=.type "range",data:=.fields #[.int lo t,.int hi u,.int 1 v] }).objs.size:=by simpa using hb
  subst e
  exact I1.GS (Nat.le_refl _) (I1.hok.fresh (Nat.le_refl _))
def SV (ta:TA):TI:=λσ H R=>ta σ H λvs H1=>∃j:Int,vs=[.int j]/\-(2 ^ 62)<=j/\j < 2 ^ 62/\R (Qw 0 j.toNat) H1
def SW (ta:TA):TI:=λσ H R=>ta σ H λvs H1=>∃i j:Int,vs=[.int i,.int j]/\(-(2 ^ 62)<=i/\i < 2 ^ 62/\-(2 ^ 62)<=j/\j < 2 ^ 62)/\R (Qw i (j - i).toNat) H1
theorem C0 {a:Expr}{ta:TA}{p pos:Pos}(hg:Gl X "range")(hm:X.mg "range"=none)(ha:PA X [a] ta)(hs:starEach [a] X.env=[(false,eval a X.env)]:=by rfl):PI X tg (.Call (.Name "range" p) [a] [] pos) (SV ta):=by
 intro pins s σ H R I h
 refine Call_ (CJ I hg hm boot_range (PyProof.Rows.callWith_type1 (BO (ha pos pins s σ H _ I h) λus s1 ⟨vs,H1,I1,r1,q1⟩=>?_) hs rfl))
 obtain⟨j,e,q1,q2,q⟩:=q1
 subst e
 cases r1 with
 |cons r rr=>
  cases rr
  obtain⟨t,rfl⟩:=r
  exact call_range_1 (JW I1 (by omega) (by omega) q1 q2 (by simpa using q))
theorem CW {a b:Expr}{ta:TA}{p pos:Pos}(hg:Gl X "range")(hm:X.mg "range"=none)(ha:PA X [a,b] ta)(hs:starEach [a,b] X.env=[(false,eval a X.env),(false,eval b X.env)]:=by rfl)(hs2:starEach [b] X.env=[(false,eval b X.env)]:=by rfl):
 PI X tg (.Call (.Name "range" p) [a,b] [] pos) (SW ta):=by
 intro pins s σ H R I h
 refine Call_ (CJ I hg hm boot_range (PyProof.Rows.callWith_type1 (BO (ha pos pins s σ H _ I h) λus s1 ⟨vs,H1,I1,r1,q1⟩=>?_) (by rw[hs,hs2]) (by rw[hs2];rfl)))
 obtain⟨i,j,e,⟨q1,q2,q3,q4⟩,q⟩:=q1
 subst e
 cases r1 with
 |cons r rr=>
  cases rr with
  |cons r' rr=>
   cases rr
   obtain⟨t,rfl⟩:=r
   obtain⟨t',rfl⟩:=r'
   exact call_range_2 (JW I1 q1 q2 q3 q4 q)
def Tj (wi:TI)(g:TG)(tb:TS):TS:=λD σ H=>wi σ H λJ H1=>∃W:Nat->Nat->St->Hp->Prop,(∃m,W 0 m σ H1)/\∀i m σ H,W i m σ H->
 (J.stop i H/\D.nx σ H)\/(J.go i H/\∃N:St->Hp->Prop,(∀σ' H',N σ' H'->∃m',m' < m/\W (i+1) m' σ' H')/\∀x H',J.yld i H x H'->g x σ H' λσ2 H2=>tb { D with nx:=N,ct:=N,bk:=D.nx } σ2 H2)
def FF (fp:List Addr)(h:Heap):List (Addr×Obj):=fp.filterMap λb=>(h.get? b).map λo=>(b,o)
theorem C8 {fp:List Addr}{h:Heap}{b:Addr}{o:Obj}(hb:b∈fp)(e:h.get? b=some o):(b,o)∈FF fp h:=List.mem_filterMap.mpr ⟨b,hb,by rw[e];rfl⟩
theorem Mh {fp:List Addr}{h:Heap}{p:Addr×Obj}(hp:p∈FF fp h):p.1∈fp/\h.get? p.1=some p.2:=by
 obtain⟨b,hb,e⟩:=List.mem_filterMap.mp hp
 cases q:h.get? b with
 |none=>rw[q]at e;cases e
 |some o=>
  rw[q]at e
  have e':(b,o)=p:=Option.some.inj e
  subst e'
  exact⟨hb,q⟩
theorem Inv.pinned {pins:List (Addr×Obj)}{σ:St}{H:Hp}{s:Shared}{fp:List Addr}(I:Inv X pins σ H s)(hf:∀b∈fp,B2 X pins H b)(ho:∀b∈fp,∃o,s.heap.get? b=some o/\∀v,o.data≠.cell v):Inv X (pins++FF fp s.heap) σ H s:=
 I.GD λp hp=>(List.mem_append.mp hp).elim (λz=>I.pin p (List.mem_append_right _ z)) λz=>by
  obtain⟨hb,e⟩:=Mh z
  obtain⟨f0,f1,f2,_⟩:=hf p.1 hb
  obtain⟨o,e',d⟩:=ho p.1 hb
  rw[e]at e';cases e'
  exact⟨e,f0,f1,f2,d⟩
theorem Inv.C1 {pins pl:List (Addr×Obj)}{σ:St}{H:Hp}{s:Shared}(I:Inv X (pins++pl) σ H s):Inv X pins σ H s:=I.GD λp hp=>I.pin p (List.mem_append_right _ (List.mem_append_left _ hp))
theorem Cp {iter:Expr}{body:List Stmt}{wi:TI}{g:TG}{tb:TS}{pos:Pos}(hp:PassesOwn (model X.prog X.w) X.A X.env X.xe)(hc:X.calm=true)(hi:PI X tg iter wi)(hg:PG X tg g)(hb:Kj X body tb)
 (hs:∀x,foldedSetIterable iter X.env x=pure x:=by intro _;rfl):PS X (.For tg iter body [] pos) (Tj wi g tb):=by
 intro pins s σ H D I h
 refine wpAny_For (BO (hi pins s σ H _ I h) λv s1 h1=>BO h1 λitv s2 h2=>?_) hs
 obtain⟨it,fp,tn,J,H2,e,I2,T,st2,f2,W,⟨m0,w0⟩,turn⟩:=h2
 subst e
 have stat:∀{H':Hp},(∀b∈fp,H' b=none)->∀b∈fp,B2 X pins H' b:=λhn b hb=>⟨hn b hb,(f2 b hb).2⟩
 refine codeAny_forLoop_any (λn s'=>∃i σ' H',Inv X pins σ' H' s'/\tn i s'.heap/\(∀b∈fp,H' b=none)/\W i n σ' H') ?_ m0 ⟨0,σ,H2,I2,st2,λb hb=>(f2 b hb).1,w0⟩
 rintro n s3 ⟨i,σ3,H3,I3,st3,fr3,w3⟩
 rcases turn i n σ3 H3 w3 with⟨stop,qn⟩|⟨go,N,hN,step⟩
 ·refine wpAny_passesOwn hp (BO (T.done X rfl rfl rfl hc i pins s3 σ3 H3 X.xe I3 (stat fr3) st3 stop) λr s4 ⟨hr,I4⟩=>?_)
  subst hr
  exact wpAny_execs_nil ⟨σ3,H3,I4,qn⟩
 ·refine wpAny_passesOwn hp (BO (T.item X rfl rfl rfl hc i pins s3 σ3 H3 X.xe I3 (stat fr3) st3 go) λr s4 ⟨u,hr,h4⟩=>?_)
  subst hr
  refine wpAny_passesOwn hp (BO h4 λ_ s5 ⟨x,H5,I5,r5,y5,st5,fr5⟩=>?_)
  have I5':=I5.pinned (stat fr5) (T.obj _ _ st5)
  refine wpAny_passesOwn hp (BO (hg _ s5 σ3 H5 x u _ I5' r5 (step x H5 y5)) λ_ s6 ⟨σ6,H6,I6,q6⟩=>?_)
  refine wpAny_passesOwn hp (BO (hb _ s6 σ6 H6 _ I6 q6) λf s7 q7=>?_)
  have again:∀{σ7:St} {H7:Hp},Inv X (pins++FF fp s5.heap) σ7 H7 s7->N σ7 H7->∃m,m < n/\∃i σ' H',Inv X pins σ' H' s7/\tn i s7.heap/\(∀b∈fp,H' b=none)/\W i m σ' H':=λ{σ7 H7} I7 n7=>by
   obtain⟨m',hm,w7⟩:=hN σ7 H7 n7
   refine⟨m',hm,i+1,σ7,H7,I7.C1,T.keep _ _ _ st5 λb hb o e=>(I7.pin (b,o) (List.mem_append_right _ (List.mem_append_right _ (C8 hb e)))).1,λb hb=>?_,w7⟩
   obtain⟨o,e,d⟩:=T.obj _ _ st5 b hb
   exact(I7.pin (b,o) (List.mem_append_right _ (List.mem_append_right _ (C8 hb e)))).2.1
  cases f with
  |next=>obtain⟨σ7,H7,I7,n7⟩:=q7;exact again I7 n7
  |cont=>obtain⟨σ7,H7,I7,n7⟩:=q7;exact again I7 n7
  |brk=>obtain⟨σ7,H7,I7,q7⟩:=q7;exact⟨σ7,H7,I7.C1,q7⟩
  |ret v=>obtain⟨x7,σ7,H7,I7,r7,q7⟩:=q7;exact⟨x7,σ7,H7,I7.C1,r7,q7⟩
end
theorem Ef {K:PySem.W.Frag}{a:Addr}{xs:List V}{g:TG}{tb:TS}{D:Ends}{σ:St}{H:Hp}(Pv:Nat->St->Hp->Prop)(h0:Pv 0 σ H)(hl:∀i σ H,i<=xs.length->Pv i σ H->AZ K H a xs)
 (hs:∀i x σ H,xs[i]?=some x->Pv i σ H->g x σ H λσ2 H2=>tb { D with nx:=Pv (i+1),ct:=Pv (i+1),bk:=D.nx } σ2 H2)(hd:∀σ H,Pv xs.length σ H->D.nx σ H):
 ∃W:Nat->Nat->St->Hp->Prop,(∃m,W 0 m σ H)/\∀i m σ H,W i m σ H->
  ((Nu K a).stop i H/\D.nx σ H)\/((Nu K a).go i H/\∃N:St->Hp->Prop,(∀σ' H',N σ' H'->∃m',m' < m/\W (i+1) m' σ' H')/\∀x H',(Nu K a).yld i H x H'->g x σ H' λσ2 H2=>tb { D with nx:=N,ct:=N,bk:=D.nx } σ2 H2):=by
 refine⟨λi m σ H=>m=xs.length - i/\i<=xs.length/\Pv i σ H,⟨xs.length,by simp,Nat.zero_le _,h0⟩,?_⟩
 rintro i m σ H ⟨rfl,hi,p⟩
 have q:=hl i σ H hi p
 by_cases hlt:i < xs.length
 ·refine .inr ⟨⟨xs,xs[i],q,by simp[hlt]⟩,Pv (i+1),λσ' H' p'=>⟨xs.length - (i+1),by omega,rfl,hlt,p'⟩,λx H' y=>?_⟩
  obtain⟨e,y⟩:=y
  subst e
  exact hs i x σ _ (y xs q) p
 ·have e:i=xs.length:=by omega
  subst e
  exact .inl ⟨⟨xs,q,Nat.le_refl _⟩,hd σ H p⟩
theorem FG {lo:Int}{n:Nat}{g:TG}{tb:TS}{D:Ends}{σ:St}{H:Hp}(Pv:Nat->St->Hp->Prop)(h0:Pv 0 σ H)
 (hs:∀i σ H,i < n->Pv i σ H->g (.int (lo+i)) σ H λσ2 H2=>tb { D with nx:=Pv (i+1),ct:=Pv (i+1),bk:=D.nx } σ2 H2)(hd:∀σ H,Pv n σ H->D.nx σ H):
 ∃W:Nat->Nat->St->Hp->Prop,(∃m,W 0 m σ H)/\∀i m σ H,W i m σ H->
  ((Qw lo n).stop i H/\D.nx σ H)\/((Qw lo n).go i H/\∃N:St->Hp->Prop,(∀σ' H',N σ' H'->∃m',m' < m/\W (i+1) m' σ' H')/\∀x H',(Qw lo n).yld i H x H'->g x σ H' λσ2 H2=>tb { D with nx:=N,ct:=N,bk:=D.nx } σ2 H2):=by
 refine⟨λi m σ H=>m=n - i/\i<=n/\Pv i σ H,⟨n,by simp,Nat.zero_le _,h0⟩,?_⟩
 rintro i m σ H ⟨rfl,hi,p⟩
 by_cases hlt:i < n
 ·refine .inr ⟨hlt,Pv (i+1),λσ' H' p'=>⟨n - (i+1),by omega,rfl,hlt,p'⟩,λx H' y=>?_⟩
  obtain⟨e,y⟩:=y
  subst e y
  exact hs i σ _ hlt p
 ·have e:i=n:=by omega
  subst e
  exact .inl ⟨Nat.le_refl _,hd σ H p⟩
theorem Nv {c:TT}{tb:TS}{D:Ends}{σ:St}{H:Hp}(Pv:St->Hp->Prop)(μ:St->Hp->Nat)(h0:Pv σ H)
 (hs:∀σ H,Pv σ H->c σ H λb H1=>if b=true then tb { D with nx:=λσ' H'=>Pv σ' H'/\μ σ' H' < μ σ H,ct:=λσ' H'=>Pv σ' H'/\μ σ' H' < μ σ H,bk:=D.nx } σ H1 else D.nx σ H1)
 (mono:∀σ H Q Q',(∀b H1,Q b H1->Q' b H1)->c σ H Q->c σ H Q'):Nr c tb D σ H:=by
 refine⟨λm σ H=>m=μ σ H/\Pv σ H,⟨_,rfl,h0⟩,?_⟩
 rintro m σ H ⟨rfl,p⟩
 refine mono σ H _ _ (λb H1 q=>?_) (hs σ H p)
 cases b with
 |true=>exact⟨_,λσ' H' ⟨p',l⟩=>⟨_,l,rfl,p'⟩,q⟩
 |false=>exact q
end L2
namespace L2
open PySem PySem.Spec PyProof.Rows
abbrev R2:=V->V->Hp->VK->Prop
def Eg (X:Cx)(f:Value->Value->Sem Value)(r:R2):Prop:=
 ∀(pins:List (Addr×Obj)) (s:Shared) (σ:St) (H:Hp) (x y:V) (v u:Value) (Q:VK),Inv X pins σ H s->RelV x v->RelV y u->r x y H Q->
  wpAny (model X.prog X.w) X.A (f v u) (EP X pins σ Q) X.xe s
def Tn (X:Cx)(f:Value->Sem Value)(r:V->Hp->VK->Prop):Prop:=
 ∀(pins:List (Addr×Obj)) (s:Shared) (σ:St) (H:Hp) (x:V) (v:Value) (Q:VK),Inv X pins σ H s->RelV x v->r x H Q->
  wpAny (model X.prog X.w) X.A (f v) (EP X pins σ Q) X.xe s
def Bg (X:Cx)(f:Value)(r:List V->Hp->VK->Prop):Prop:=
 ∀(pins:List (Addr×Obj)) (s:Shared) (σ:St) (H:Hp) (xs:List V) (us:List Value) (Q:VK),Inv X pins σ H s->Vals xs us->r xs H Q->
  wpAny (model X.prog X.w) X.A (call f us) (EP X pins σ Q) X.xe s
def TB (r:R2)(ta tb:TE):TE:=λσ H Q=>ta σ H λx H1=>tb σ H1 λy H2=>r x y H2 Q
def UW (r:V->Hp->VK->Prop)(ta:TE):TE:=λσ H Q=>ta σ H λx H1=>r x H1 Q
def rI (C:Int->Int->Prop)(g:Int->Int->V):R2:=λx y H Q=>∃i j,x=.int i/\y=.int j/\C i j/\Q (g i j) H
def QU (g:Int->Int->V):R2:=λx y H Q=>∃i j,x=.int i/\y=.int j/\Q (g i j) H
def rU (g:Int->V):V->Hp->VK->Prop:=λx H Q=>∃i,x=.int i/\Q (g i) H
section
variable {X:Cx}{a b c:Expr}{ta tb tc:TE}{pos:Pos}
theorem Qy (ha:PE X a ta)(hb:PE X b tb){pins:List (Addr×Obj)}{s:Shared}{σ:St}{H:Hp}{R:V->V->Hp->Prop}(I:Inv X pins σ H s)
 (h:ta σ H λx H1=>tb σ H1 λy H2=>R x y H2){Q:Value->Shared->Prop}{f:Value->Value->Sem Value}
 (hf:∀v u s2 x y H2,Inv X pins σ H2 s2->RelV x v->RelV y u->R x y H2->wpAny (model X.prog X.w) X.A (f v u) Q X.xe s2):
 wpAny (model X.prog X.w) X.A (eval a X.env) (λv s₁=>wpAny (model X.prog X.w) X.A (eval b X.env) (λu s₂=>wpAny (model X.prog X.w) X.A (f v u) Q X.xe s₂) X.xe s₁) X.xe s:=by
 refine BO (ha pins s σ H _ I h) λv s1 ⟨x,H1,I1,r1,q1⟩=>?_
 refine BO (hb pins s1 σ H1 _ I1 q1) λu s2 ⟨y,H2,I2,r2,q2⟩=>?_
 exact hf v u s2 x y H2 I2 r1 r2 q2
theorem AU {op:Operator}{r:R2}(ho:Eg X (binaryOp op) r)(ha:PE X a ta)(hb:PE X b tb):PE X (.BinOp a op b pos) (TB r ta tb):=by
 intro pins s σ H Q I h
 exact wpAny_BinOp (Qy ha hb I h λv u s2 x y H2 I2 rx ry q=>ho pins s2 σ H2 x y v u Q I2 rx ry q)
theorem QV {op:UnaryOp}{r:V->Hp->VK->Prop}(ho:Tn X (unaryOp op) r)(ha:PE X a ta):PE X (.UnaryOp op a pos) (UW r ta):=by
 intro pins s σ H Q I h
 exact UnaryOp_ (BO (ha pins s σ H _ I h) λv s1 ⟨x,H1,I1,r1,q1⟩=>ho pins s1 σ H1 x v Q I1 r1 q1)
theorem TC {f:Value->Value->Sem Value}{C:Int->Int->Prop}{g:Int->Int->Int}
 (rule:∀(i j:Int) (t u:Tok) (s:Shared) (Q:Value->Shared->Prop) (E:Value->Shared->Prop),C i j->Q (.int (g i j) s.toks) { s with toks:=s.toks+1 }->wpAny (model X.prog X.w) X.A (f (.int i t) (.int j u)) Q E s):
 Eg X f (rI C λi j=>.int (g i j)):=by
 intro pins s σ H x y v u Q I rx ry h
 obtain⟨i,j,rfl,rfl,hc,q⟩:=h
 obtain⟨t,rfl⟩:=rx
 obtain⟨t',rfl⟩:=ry
 exact rule i j t t' s _ _ hc ⟨.int (g i j),H,I.tok _,⟨_,rfl⟩,q⟩
theorem SX {f:Value->Value->Sem Value}{g:Int->Int->Int}
 (rule:∀(i j:Int) (t u:Tok) (s:Shared) (Q:Value->Shared->Prop) (E:Value->Shared->Prop),Q (.int (g i j) s.toks) { s with toks:=s.toks+1 }->wpAny (model X.prog X.w) X.A (f (.int i t) (.int j u)) Q E s):
 Eg X f (QU λi j=>.int (g i j)):=by
 intro pins s σ H x y v u Q I rx ry h
 obtain⟨i,j,rfl,rfl,q⟩:=h
 obtain⟨t,rfl⟩:=rx
 obtain⟨t',rfl⟩:=ry
 exact rule i j t t' s _ _ ⟨.int (g i j),H,I.tok _,⟨_,rfl⟩,q⟩
theorem PY {f:Value->Value->Sem Value}{g:Int->Int->Bool}
 (rule:∀(i j:Int) (t u:Tok) (s:Shared) (Q:Value->Shared->Prop) (E:Value->Shared->Prop),Q (.bool (g i j)) s->wpAny (model X.prog X.w) X.A (f (.int i t) (.int j u)) Q E s):
 Eg X f (QU λi j=>.bl (g i j)):=by
 intro pins s σ H x y v u Q I rx ry h
 obtain⟨i,j,rfl,rfl,q⟩:=h
 obtain⟨t,rfl⟩:=rx
 obtain⟨t',rfl⟩:=ry
 exact rule i j t t' s _ _ ⟨.bl (g i j),H,I,rfl,q⟩
def To (i j:Int):Prop:=0 < j/\j < 1073741824
def Tp (i j:Int):Prop:=0<=j/\j<=1000000/\i.natAbs < 2 ^ 64
def Qz (i j:Int):Prop:=(-(2 ^ 64) < i/\i < 2 ^ 64)\/(-(2 ^ 64) < j/\j < 2 ^ 64)
theorem Qz.ok {i j:Int}(h:Qz i j):IntMulOk i j:=by
 rcases h with⟨h1,h2⟩|⟨h1,h2⟩
 ·exact .of_left (intBits_le_64 h1 h2)
 ·exact .of_right (intBits_le_64 h1 h2)
theorem BE:Eg X (binaryOp .Add) (QU λi j=>.int (i+j)):=SX λ_ _ _ _ _ _ _ q=>add_int q
theorem Cq:Eg X (binaryOp .Sub) (QU λi j=>.int (i - j)):=SX λ_ _ _ _ _ _ _ q=>sub_int q
theorem C9:Eg X (binaryOp .Mult) (rI Qz λi j=>.int (i*j)):=TC λ_ _ _ _ _ _ _ hc q=>mul_int q hc.ok
theorem Ia:Eg X (binaryOp .FloorDiv) (rI To λi j=>.int (i / j)):=TC λi j _ _ _ _ _ hc q=>by
 have h1:(0:Int) < j:=hc.1
 have h2:j < 1073741824:=hc.2
 exact floordiv_int (by omega) (by rw[Int.fdiv_eq_ediv_of_nonneg i (by omega)];exact q) (.inl (PyProof.noPylong_small (by omega)))
theorem Bu:Eg X (binaryOp .Mod) (rI (λ_ j=>0 < j) λi j=>.int (i % j)):=TC λi j _ _ _ _ _ hc q=>by
 have h1:(0:Int) < j:=hc
 exact mod_int' (by omega) (by rw[Int.fmod_eq_emod_of_nonneg i (by omega)];exact q)
theorem Kp:Eg X (binaryOp .Pow) (rI Tp λi j=>.int (i ^ j.toNat)):=TC λ_ _ _ _ _ _ _ hc q=>pow_int_small hc.1 hc.2.1 hc.2.2 q
theorem UX {f:Value->Sem Value}{g:Int->Int}
 (rule:∀(i:Int) (t:Tok) (s:Shared) (Q:Value->Shared->Prop) (E:Value->Shared->Prop),Q (.int (g i) s.toks) { s with toks:=s.toks+1 }->wpAny (model X.prog X.w) X.A (f (.int i t)) Q E s):
 Tn X f (rU λi=>.int (g i)):=by
 intro pins s σ H x v Q I rx h
 obtain⟨i,rfl,q⟩:=h
 obtain⟨t,rfl⟩:=rx
 exact rule i t s _ _ ⟨.int (g i),H,I.tok _,⟨_,rfl⟩,q⟩
theorem Nw:Tn X (unaryOp .USub) (rU λi=>.int (-i)):=UX λ_ _ _ _ _ q=>neg_int q
end
def SY:V->V->Bool
 |.non,.non=>true|.non,.int _=>true|.int _,.non=>true|.non,.bl _=>true|.bl _,.non=>true|.non,.str _=>true|.str _,.non=>true
 |.int _,.int _=>true|.bl _,.bl _=>true|.str _,.str _=>true|.byt _,.byt _=>true
 |.int _,.str _=>true|.str _,.int _=>true|.bl _,.str _=>true|.str _,.bl _=>true
 |_,_=>false
def UY:R2:=λx y H Q=>SY x y=true/\Q (.bl (decide (x=y))) H
def UZ:R2:=λx y H Q=>SY x y=true/\Q (.bl (!decide (x=y))) H
theorem Lf {i j:Int}:decide (V.int i=V.int j)=(i==j):=by
 rw[Bool.eq_iff_iff]
 simp
theorem Nx {i j:Bool}:decide (V.bl i=V.bl j)=(i==j):=by
 rw[Bool.eq_iff_iff]
 simp
theorem Lg {i j:Str}:decide (V.str i=V.str j)=(i==j):=by
 rw[Bool.eq_iff_iff]
 simp
theorem Lh {i j:Array UInt8}:decide (V.byt i=V.byt j)=(i.toList==j.toList):=by
 rw[Bool.eq_iff_iff]
 cases i
 cases j
 simp
section
variable {X:Cx}{a b c:Expr}{ta tb tc:TE}{pos:Pos}
theorem Ak {pins:List (Addr×Obj)}{σ:St}{H:Hp}{s:Shared}{Q:VK}{k k':Bool}(I:Inv X pins σ H s)(q:Q (.bl k) H)(e:k=k'):EP X pins σ Q (.bool k') s:=by
 subst e
 exact⟨.bl k,H,I,rfl,q⟩
theorem DN:Eg X (compareOp .Eq) UY:=by
 intro pins s σ H x y v u Q I rx ry h
 obtain⟨hs,q⟩:=h
 cases x with
 |non=>
  cases rx
  cases y with
  |non=>cases ry;exact PySem.EqNone.eq_none_none (Ak I q (by simp))
  |bl j=>cases ry;exact PySem.EqNone.eq_none_bool (Ak I q (by simp))
  |int j=>obtain⟨t',rfl⟩:=ry;exact PySem.EqNone.eq_none_int (Ak I q (by simp))
  |str j=>obtain⟨t',rfl⟩:=ry;exact PySem.EqNone.eq_none_str (Ak I q (by simp))
  |_=>exact absurd (show false=true from hs) Bool.false_ne_true
 |bl i=>
  cases rx
  cases y with
  |non=>cases ry;exact PySem.EqNone.eq_bool_none (Ak I q (by simp))
  |bl j=>cases ry;exact eq_bool (Ak I q Nx)
  |str j=>obtain⟨t',rfl⟩:=ry;exact PySem.EqMixed.eq_bool_str (Ak I q (by simp))
  |_=>exact absurd (show false=true from hs) Bool.false_ne_true
 |int i=>
  obtain⟨t,rfl⟩:=rx
  cases y with
  |non=>cases ry;exact PySem.EqNone.eq_int_none (Ak I q (by simp))
  |int j=>obtain⟨t',rfl⟩:=ry;exact eq_int (Ak I q Lf)
  |str j=>obtain⟨t',rfl⟩:=ry;exact PySem.EqMixed.eq_int_str (Ak I q (by simp))
  |_=>exact absurd (show false=true from hs) Bool.false_ne_true
 |str i=>
  obtain⟨t,rfl⟩:=rx
  cases y with
  |non=>cases ry;exact PySem.EqNone.eq_str_none (Ak I q (by simp))
  |bl j=>cases ry;exact PySem.EqMixed.eq_str_bool (Ak I q (by simp))
  |int j=>obtain⟨t',rfl⟩:=ry;exact PySem.EqMixed.eq_str_int (Ak I q (by simp))
  |str j=>obtain⟨t',rfl⟩:=ry;exact eq_str (Ak I q Lg)
  |_=>exact absurd (show false=true from hs) Bool.false_ne_true
 |byt i=>
  obtain⟨t,rfl⟩:=rx
  cases y with
  |byt j=>obtain⟨t',rfl⟩:=ry;exact PySem.W.eq_bytes (Ak I q Lh)
  |_=>exact absurd (show false=true from hs) Bool.false_ne_true
 |_=>cases y<;>exact absurd (show false=true from hs) Bool.false_ne_true
theorem Eh:Eg X (compareOp .NotEq) UZ:=by
 intro pins s σ H x y v u Q I rx ry h
 obtain⟨hs,q⟩:=h
 cases x with
 |non=>
  cases rx
  cases y with
  |non=>cases ry;exact PySem.EqNone.ne_none_none (Ak I q (by simp))
  |bl j=>cases ry;exact PySem.EqNone.ne_none_bool (Ak I q (by simp))
  |int j=>obtain⟨t',rfl⟩:=ry;exact PySem.EqNone.ne_none_int (Ak I q (by simp))
  |str j=>obtain⟨t',rfl⟩:=ry;exact PySem.EqNone.ne_none_str (Ak I q (by simp))
  |_=>exact absurd (show false=true from hs) Bool.false_ne_true
 |bl i=>
  cases rx
  cases y with
  |non=>cases ry;exact PySem.EqNone.ne_bool_none (Ak I q (by simp))
  |bl j=>cases ry;exact ne_bool (Ak I q (congrArg not Nx))
  |str j=>obtain⟨t',rfl⟩:=ry;exact PySem.EqMixed.ne_bool_str (Ak I q (by simp))
  |_=>exact absurd (show false=true from hs) Bool.false_ne_true
 |int i=>
  obtain⟨t,rfl⟩:=rx
  cases y with
  |non=>cases ry;exact PySem.EqNone.ne_int_none (Ak I q (by simp))
  |int j=>obtain⟨t',rfl⟩:=ry;exact ne_int (Ak I q (congrArg not Lf))
  |str j=>obtain⟨t',rfl⟩:=ry;exact PySem.EqMixed.ne_int_str (Ak I q (by simp))
  |_=>exact absurd (show false=true from hs) Bool.false_ne_true
 |str i=>
  obtain⟨t,rfl⟩:=rx
  cases y with
  |non=>cases ry;exact PySem.EqNone.ne_str_none (Ak I q (by simp))
  |bl j=>cases ry;exact PySem.EqMixed.ne_str_bool (Ak I q (by simp))
  |int j=>obtain⟨t',rfl⟩:=ry;exact PySem.EqMixed.ne_str_int (Ak I q (by simp))
  |str j=>obtain⟨t',rfl⟩:=ry;exact ne_str (Ak I q (congrArg not Lg))
  |_=>exact absurd (show false=true from hs) Bool.false_ne_true
 |byt i=>
  obtain⟨t,rfl⟩:=rx
  cases y with
  |byt j=>obtain⟨t',rfl⟩:=ry;exact PySem.W.ne_bytes (Ak I q (congrArg not Lh))
  |_=>exact absurd (show false=true from hs) Bool.false_ne_true
 |_=>cases y<;>exact absurd (show false=true from hs) Bool.false_ne_true
theorem JX:Eg X (compareOp .Lt) (QU λi j=>.bl (decide (i < j))):=PY λ_ _ _ _ _ _ _ q=>lt_int q
theorem Ny:Eg X (compareOp .LtE) (QU λi j=>.bl (decide (i<=j))):=PY λ_ _ _ _ _ _ _ q=>le_int q
theorem Li:Eg X (compareOp .Gt) (QU λi j=>.bl (decide (j < i))):=PY λ_ _ _ _ _ _ _ q=>gt_int q
theorem Nz:Eg X (compareOp .GtE) (QU λi j=>.bl (decide (j<=i))):=PY λ_ _ _ _ _ _ _ q=>ge_int q
theorem Ad (b:Expr){op:CmpOp}(h:op≠.In:=by decide)(h2:op≠.NotIn:=by decide):behindInMarks op b=false:=by
 have e1:(op==CmpOp.In)=false:=by cases op<;>first|rfl|exact absurd rfl h
 have e2:(op==CmpOp.NotIn)=false:=by cases op<;>first|rfl|exact absurd rfl h2
 cases b<;>simp[behindInMarks,e1,e2]
theorem B9 {op:CmpOp}{r:R2}(ho:Eg X (compareOp op) r)(ha:PE X a ta)(hb:PE X b tb)(hm:behindInMarks op b=false):PE X (.Compare a [op] [b] pos) (TB r ta tb):=by
 intro pins s σ H Q I h
 exact wpAny_Compare1 (Qy ha hb I h λv u s2 x y H2 I2 rx ry q=>ho pins s2 σ H2 x y v u Q I2 rx ry q) hm
def Sa (t:TE):TT:=λσ H Q=>t σ H λx H'=>∃k,x=.bl k/\Q k H'
theorem Ac {op:CmpOp}{r:R2}(ho:Eg X (compareOp op) r)(ha:PE X a ta)(hb:PE X b tb)(hm:behindInMarks op b=false):PT X (.Compare a [op] [b] pos) (Sa (TB r ta tb)):=by
 intro pins s σ H Q I h
 refine wpAny_isTrue_Compare1 (BO (ha pins s σ H _ I h) λv s1 ⟨x,H1,I1,r1,q1⟩=>BO (hb pins s1 σ H1 _ I1 q1) λu s2 ⟨y,H2,I2,r2,q2⟩=>
  BO (ho pins s2 σ H2 x y v u _ I2 r1 r2 q2) λc s3 ⟨z,H3,I3,r3,k,e,q3⟩=>?_) hm
 subst e
 cases r3
 exact wpAny_truthy_bool ⟨H3,I3,q3⟩
def Q0 (r r':R2)(ta tb tc:TE):TE:=λσ H Q=>ta σ H λx H1=>tb σ H1 λy H2=>r x y H2 λz H3=>∃k,z=.bl k/\
 (if k=true then tc σ H3 λw' H4=>r' y w' H4 Q else Q (.bl false) H3)
theorem N0 {op op':CmpOp}{r r':R2}(ho:Eg X (compareOp op) r)(ho':Eg X (compareOp op') r')(ha:PE X a ta)(hb:PE X b tb)(hc:PE X c tc)
 (hm:lastMarks [op,op'] [b,c]=false:=by with_unfolding_all rfl):PE X (.Compare a [op,op'] [b,c] pos) (Q0 r r' ta tb tc):=by
 intro pins s σ H Q I h
 refine Compare_chain (BO (ha pins s σ H _ I h) λv s1 ⟨x,H1,I1,r1,q1⟩=>chain_link (BO (hb pins s1 σ H1 _ I1 q1) λu s2 ⟨y,H2,I2,r2,q2⟩=>
  BO (ho pins s2 σ H2 x y v u _ I2 r1 r2 q2) λd s3 ⟨z,H3,I3,r3,k,e,q3⟩=>?_)) hm
 subst e
 cases r3
 refine wpAny_truthy_bool ?_
 cases k with
 |false=>exact ite_ff ⟨.bl false,H3,I3,rfl,q3⟩
 |true=>exact ite_tt (chain_last (BO (hc pins s3 σ H3 _ I3 q3) λw' s4 ⟨z',H4,I4,r4,q4⟩=>ho' pins s4 σ H4 y z' u w' Q I4 r2 r4 q4))
theorem FH:(sizeLine:Nat) < 2 ^ 63:=by rw[sizeLine_eq];decide
theorem Bj:Eg X (binaryOp .Add) (λx y H Q=>∃i j,x=.str i/\y=.str j/\i.length+j.length<=sizeLine/\Q (.str (i++j)) H):=by
 intro pins s σ H x y v u Q I rx ry h
 obtain⟨i,j,rfl,rfl,hz,q⟩:=h
 obtain⟨t,rfl⟩:=rx
 obtain⟨t',rfl⟩:=ry
 exact add_str (λt' tk=>⟨.str (i++j),H,I.tok _,⟨_,rfl⟩,q⟩) hz
theorem vals1 {x:V}{us:List Value}(r:Vals [x] us):∃u,us=[u]/\RelV x u:=by
 cases r with
 |cons r1 r2=>cases r2;exact⟨_,rfl,r1⟩
theorem vals2 {x y:V}{us:List Value}(r:Vals [x,y] us):∃u w',us=[u,w']/\RelV x u/\RelV y w':=by
 cases r with
 |cons r1 r2=>
  cases r2 with
  |cons r3 r4=>cases r4;exact⟨_,_,rfl,r1,r3⟩
theorem Ds (hc:X.calm=true):Bg X (.builtin "max") (λxs H Q=>∃i j,xs=[.int i,.int j]/\Q (.int (if j > i then j else i)) H):=by
 intro pins s σ H xs us Q I r h
 obtain⟨i,j,rfl,q⟩:=h
 obtain⟨u,w',rfl,⟨t,rfl⟩,⟨t',rfl⟩⟩:=vals2 r
 refine max_two_ints (I.ok.hd hc) λh' tk k=>⟨_,H,I.kept k,?_,q⟩
 by_cases hj:j > i
 ·rw[if_pos hj,if_pos hj];exact⟨_,rfl⟩
 ·rw[if_neg hj,if_neg hj];exact⟨_,rfl⟩
theorem Dt (hc:X.calm=true):Bg X (.builtin "min") (λxs H Q=>∃i j,xs=[.int i,.int j]/\Q (.int (if j < i then j else i)) H):=by
 intro pins s σ H xs us Q I r h
 obtain⟨i,j,rfl,q⟩:=h
 obtain⟨u,w',rfl,⟨t,rfl⟩,⟨t',rfl⟩⟩:=vals2 r
 refine min_two_ints (I.ok.hd hc) λh' tk k=>⟨_,H,I.kept k,?_,q⟩
 by_cases hj:j < i
 ·rw[if_pos hj,if_pos hj];exact⟨_,rfl⟩
 ·rw[if_neg hj,if_neg hj];exact⟨_,rfl⟩
theorem Ht:Bg X (.type "int") (λxs H Q=>(∃i,xs=[.int i]/\Q (.int i) H)\/∃k,xs=[.bl k]/\Q (.int (if k then 1 else 0)) H):=by
 intro pins s σ H xs us Q I r h
 rcases h with⟨i,rfl,q⟩|⟨k,rfl,q⟩
 ·obtain⟨u,rfl,t,rfl⟩:=vals1 r
  exact call_int_int ⟨.int i,H,I,⟨_,rfl⟩,q⟩
 ·obtain⟨u,rfl,r1⟩:=vals1 r
  cases r1
  exact call_int_bool ⟨.int (if k then 1 else 0),H,I.tok _,⟨_,rfl⟩,q⟩
end
end L2
namespace L2
open PySem PySem.Spec PyProof.Rows
structure Q1 (h:Heap)(x dx C:Addr)(mA:Str->Option Value):Prop where
 obj:h.get? x=some (PySem.W.instObj C dx)
 ns:h.Ns1 dx mA
 ne:dx≠x
theorem Mi {h:Heap}{dx:Addr}{mA:Str->Option Value}(n:h.Ns1 dx mA):∃od,h.get? dx=some od/\∀name,PySem.W.lookIn name od=some (mA name):=by
 obtain⟨o,es,ep,ho,hd,hk,_,hm⟩:=n
 refine⟨o,ho,λname=>?_⟩
 have e:=hm name
 unfold nsFind findBy at e
 rw[<-Array.find?_toList]at e
 unfold PySem.W.lookIn
 rw[hd]
 dsimp only
 split
 ·rename_i y q
  rw[q]at e
  exact congrArg some e
 ·rename_i q
  rw[q]at e
  have a:es.toList.any (·.refKey)=false:=by
   rw[List.any_eq_false]
   intro y hy
   obtain⟨z,t,hkey⟩:=hk y (Array.mem_toList_iff.mp hy)
   simp[DictEntry.refKey,hkey]
  have a':¬es.toList.any (·.refKey)=true:=by rw[a];exact Bool.false_ne_true
  rw[if_neg a']
  exact congrArg some e
theorem Q1.look {h:Heap}{x dx C:Addr}{mA:Str->Option Value}(I:Q1 h x dx C mA):∃od,PySem.W.InstAt h x (PySem.W.instObj C dx) C (some od)/\∀name,PySem.W.lookIn name od=some (mA name):=
 let⟨od,ho,hl⟩:=Mi I.ns
 ⟨od,⟨I.obj,rfl,rfl,ho⟩,hl⟩
section
variable {prog:Program}{w:World}{A:Around}{E:Value->Shared->Prop}{s:Shared}{K:PySem.W.Frag}{x dx C f:Addr}{mA:Str->Option Value}{name:Str}{v:Value}
end
section
variable {P:Program}{w:World}{H H':Hp}{h h':Heap}{a C dx:Addr}{fs fs':List (Str×V)}
theorem PZ (hok:Ed P w H h)(e:H a=some (.ins C dx fs)):∃mA,Q1 h a dx C mA/\(∀f,Ki (fs.lookup f) (mA f))/\PySem.Within mA (fs.map (·.1))/\fs.length<=1000/\H dx=some (.own a):=by
 obtain⟨d,z,ne,ob,mA,n,r,q⟩:=(show Ax P w H h a (.ins C dx fs)from hok a _ e)
 exact⟨mA,⟨ob,n,ne⟩,r,q,z,d⟩
end
structure Tq (K:PySem.W.Frag)(C:Addr):Prop where
 pg:PySem.W.plainGet K C Str.empty=true
 hd:PySem.W.hasDictIn K C=true
 po:PySem.W.plainOver K C=true
 sa:PySem.W.findIn K (.ref C) "__setattr__"=some (some (.builtin "object.__setattr__"))
theorem Tq.get {K:PySem.W.Frag}{C:Addr}(c:Tq K C)(f:Str):PySem.W.plainGet K C f=true:=c.pg
section
variable {X:Cx}{pins:List (Addr×Obj)}{σ:St}{H:Hp}{s:Shared}{a C dx:Addr}{fs:List (Str×V)}{f:Str}{v:V}{A:Around}{E:Value->Shared->Prop}
end
section
variable {X:Cx}{o e value:Expr}{f:Str}{pos pos' tpos:Pos}{ta tv:TE}
end
section
variable {X:Cx}{pins:List (Addr×Obj)}{σ:St}{H:Hp}{s:Shared}{A:Around}{E:Value->Shared->Prop}{Q:Value->Shared->Prop}{c:Value}{b:Bool}
inductive FI (K:PySem.W.Frag)(H:Hp):V->Value->Prop where
 |non:FI K H .non (.type "NoneType")
 |bl (x:Bool):FI K H (.bl x) (.type "bool")
 |int (i:Int):FI K H (.int i) (.type "int")
 |str (x:Str):FI K H (.str x) (.type "str")
 |flt (x:UInt64):FI K H (.flt x) (.type "float")
 |lst {a:Addr} {xs:List V} (e:H a=some (.lst xs)):FI K H (.ref a) (.type "list")
 |frz {a:Addr} {o:Obj} {xs:List V} (e:H a=some (.frz o (.lst xs))):FI K H (.ref a) (.type "list")
 |tup {a:Addr} {xs:List V} (e:H a=some (.tup xs)):FI K H (.ref a) (.type "tuple")
 |dK {a:Addr} {kvs:List (Key×V)} (e:H a=some (.dK kvs)):FI K H (.ref a) (.type "dict")
 |dT {a:Addr} {kvs:List (List Key×V)} (e:H a=some (.dT kvs)):FI K H (.ref a) (.type "dict")
 |ins {a C dx:Addr} {fs:List (Str×V)} (e:H a=some (.ins C dx fs)) (cl:Tq K C) (ha:PySem.W.findIn K (.ref C) "__class__"=some (some (.builtin "object.__class__")))
  (hn:PySem.W.specialIn K (.builtin "object.__class__") "__get__"=some (some (.builtin "getset_descriptor.__get__"))) (htk:PySem.W.takesIn K (.builtin "object.__class__")=some true)
  (hm:PySem.W.mroIn K C (.type "object")=some true):FI K H (.ref a) (.ref C)
theorem Mj {x:V}{u t:Value}(I:Inv X pins σ H s)(rx:RelV x u)(ty:FI X.K H x t)(e:PySem.W.kitOne X.K t c=some b)(h:∀tk,Q (.bool b) { s with toks:=tk }):
 wpAny (model X.prog X.w) A (call (.builtin "isinstance") [u,c]) Q E s:=by
 cases ty with
 |non=>cases(show u=Value.none from rx);exact PySem.W.kia_one PySem.W.kitx_none I.JP True.intro e (λz=>nomatch z) h
 |bl y=>cases(show u=Value.bool y from rx);exact PySem.W.kia_one PySem.W.kitx_bool I.JP True.intro e (λz=>nomatch z) h
 |int i=>obtain⟨t,q⟩:=(show∃t,u=Value.int i t from rx);cases q;exact PySem.W.kia_one PySem.W.kitx_int I.JP True.intro e (λz=>nomatch z) h
 |str y=>obtain⟨t,q⟩:=(show∃t,u=Value.str y t from rx);cases q;exact PySem.W.kia_one PySem.W.kitx_str I.JP True.intro e (λz=>nomatch z) h
 |flt y=>obtain⟨t,q⟩:=(show∃t,u=Value.float y t from rx);cases q;exact PySem.W.kia_one PySem.W.kitx_float I.JP True.intro e (λz=>nomatch z) h
 |@lst a xs ea=>
  cases(show u=Value.ref a from rx)
  obtain⟨_,_,n,_,h1⟩:=(show Ax X.prog X.w H s.heap a (.lst xs)from I.hok a _ ea)
  exact PySem.W.kia_one PySem.W.kitx_list I.JP ⟨_,h1,rfl⟩ e (λz=>nomatch z) h
 |@frz a ob xs ea=>
  cases(show u=Value.ref a from rx)
  obtain⟨_,_,_,n,_,h1⟩:=(show Ax X.prog X.w H s.heap a (.frz ob (.lst xs))from I.hok a _ ea)
  exact PySem.W.kia_one PySem.W.kitx_list I.JP ⟨_,h1,rfl⟩ e (λz=>nomatch z) h
 |@tup a xs ea=>
  cases(show u=Value.ref a from rx)
  obtain⟨_,_,_,p⟩:=(show Ax X.prog X.w H s.heap a (.tup xs)from I.hok a _ ea)
  obtain⟨o,h1,h2,_⟩:=p
  exact PySem.W.kia_one PySem.W.kitx_tuple I.JP ⟨o,h1,h2⟩ e (λz=>nomatch z) h
 |@dK a kvs ea=>
  cases(show u=Value.ref a from rx)
  obtain⟨_,_,vs,_,p⟩:=(show Ax X.prog X.w H s.heap a (.dK kvs)from I.hok a _ ea)
  obtain⟨o,es,ep,h1,h2,_⟩:=p
  exact PySem.W.kia_one PySem.W.kitx_dict I.JP ⟨o,h1,h2.1⟩ e (λz=>nomatch z) h
 |@dT a kvs ea=>
  cases(show u=Value.ref a from rx)
  obtain⟨_,_,xs,_,o,es,ep,h1,h2,_⟩:=(show Ax X.prog X.w H s.heap a (.dT kvs)from I.hok a _ ea)
  exact PySem.W.kia_one PySem.W.kitx_dict I.JP ⟨o,h1,h2.1⟩ e (λz=>nomatch z) h
 |@ins a C dx fs ea cl ha hn htk hm=>
  cases(show u=Value.ref a from rx)
  obtain⟨mA,O,_⟩:=PZ I.hok ea
  obtain⟨od,J,_⟩:=O.look
  exact PySem.W.kia_one (PySem.W.kitx_own (cl.get _) cl.hd ha hn htk hm) I.JP J e (λz=>nomatch z) h
end
end L2
namespace L2
open PySem PySem.Spec PyProof.Rows
structure CK (k:Nat)(A:Around):Prop where
 hd:A.handled=none
 dp:A.depth+3*k+5 < recursionLimit
 un:A.units+16*k+200 < cLine
 gd:A.guards=some []
theorem CK.mono {j k:Nat}{A:Around}(r:CK k A)(h:j<=k):CK j A:=⟨r.hd,by have:=r.dp;omega,by have:=r.un;omega,by first|exact r.gd|(simpa[Around.under,Code.isGuard,guardIds]using r.gd)⟩
theorem CK.deeper {k:Nat}{A:Around}(r:CK (k+1) A)(env:Env):CK k (A.deeper env):=
 ⟨r.hd,by have:=r.dp;show A.depth+1+3*k+5 < _;omega,by have:=r.un;show A.units+3+16*k+200 < _;omega,by first|exact r.gd|(simpa[Around.under,Code.isGuard,guardIds]using r.gd)⟩
theorem CK.depth {k:Nat}{A:Around}(r:CK k A):A.depth < recursionLimit:=by have:=r.dp;omega
theorem CK.units {k:Nat}{A:Around}(r:CK k A):A.units+64 < cLine:=by have:=r.un;omega
theorem CK.FJ {k:Nat}{A:Around}(r:CK k A):A.units < cLine:=by have:=r.un;omega
def JY:TA:=λ_ H Q=>Q [] H
def Fo (ta:TE)(tr:TA):TA:=λσ H Q=>ta σ H λx H1=>tr σ H1 λxs H2=>Q (x::xs) H2
section
variable {X:Cx}{e:Expr}{es:List Expr}{te:TE}{t:TA}{pos:Pos}
theorem AB:PA X [] JY:=λ_ _ _ _ H Q I h=>Calls.spliced_nil ⟨[],H,I,.nil,h⟩
theorem AA (ha:PE X e te)(hr:PA X es t)(hs:starEach (e::es) X.env=(false,eval e X.env)::starEach es X.env:=by rfl):PA X (e::es) (Fo te t):=by
 intro pos pins s σ H Q I h
 rw[hs]
 show wpAny _ _ (spliced ((false,eval e X.env)::backTo pos (starEach es X.env))) _ _ s
 refine Calls.spliced_cons (BO (ha pins s σ H _ I h) λu s1 ⟨x,H1,I1,r1,q1⟩=>?_)
 exact BO (hr pos pins s1 σ H1 _ I1 q1) λus s2 ⟨xs,H2,I2,r2,q2⟩=>⟨x::xs,H2,I2,.cons r1 r2,q2⟩
def Tr (t:TA):TE:=λσ H Q=>t σ H λxs H1=>xs.length<=sizeLine/\∀p,H1 p=none->Q (.ref p) (upd H1 p (.tup xs))
def Tt (t:TA):TE:=λσ H Q=>t σ H λxs H1=>xs.length<=sizeLine/\∀p,H1 p=none->Q (.ref p) (upd H1 p (.lst xs))
theorem DR {x1}(h:PA X es t):PE X (.Tuple es x1 pos) (Tr t):=by
 intro pins s σ H Q I hq
 refine wpAny_Tuple_spliced (BO (h pos pins s σ H _ I hq) λus s1 ⟨xs,H1,I1,r,z,q⟩=>⟨by rw[<-r.length];exact z,?_⟩)
 have hf:H1 s1.heap.objs.size=none:=I1.hok.fresh (Nat.le_refl _)
 refine⟨.ref s1.heap.objs.size,upd H1 s1.heap.objs.size (.tup xs),I1.laid (t':=s1.toks) (λb u e=>Heap.get?_push_of_some _ e) (Nat.le_refl _) ?_,rfl,q _ hf⟩
 exact⟨⟨z,_,Heap.get?_push_size _ rfl,rfl⟩,us,r,⟨_,Heap.get?_push_size _ rfl,rfl,_,rfl⟩⟩
theorem Av (h:PA X es t):PE X (.List es pos) (Tt t):=by
 intro pins s σ H Q I hq
 refine wpAny_List_spliced (BO (h pos pins s σ H _ I hq) λus s1 ⟨xs,H1,I1,r,z,q⟩=>⟨by rw[<-r.length];exact z,?_⟩)
 have hf:H1 s1.heap.objs.size=none:=I1.hok.fresh (Nat.le_refl _)
 refine⟨.ref s1.heap.objs.size,upd H1 s1.heap.objs.size (.lst xs),I1.laid (t':=s1.toks) (λb u e=>Heap.get?_push_of_some _ e) (Nat.le_refl _) ?_,rfl,q _ hf⟩
 exact⟨z,us,0,r,Heap.get?_push_size _ rfl⟩
end
abbrev Sp:=List V->Hp->VK->XK->Prop
abbrev Nj:=List Env->Hp->Shared->XK->Value->Shared->Prop
structure Pa (P:Program)(w:World)(K:PySem.W.Frag)(mg:Str->Option Value)(base:Heap)(A:Around)(outer:List Env)(s:Shared)(H:Hp):Prop where
 frames:A.frames=some outer
 mod:Mod K mg base
 bs:∀b o,base.get? b=some o->s.heap.get? b=some o/\H b=none
 bsz:base.objs.size<=s.heap.objs.size
 EJ:s.heap.FunFrames base outer
 frf:∀b∈Lb outer,H b=none
 hok:Ed P w H s.heap
 bare:AllBare s.gens
def CE (outer:List Env)(P:Program)(w:World)(H:Hp)(s:Shared)(Q:VK)(u:Value)(s':Shared):Prop:=
 ∃v H',s'.os=s.os/\AllBare s'.gens/\Un (Lb outer) [] H H' s.heap s'.heap/\Ed P w H' s'.heap/\RelV v u/\Q v H'
def CR (CX:Nj)(outer:List Env)(P:Program)(w:World)(H:Hp)(s:Shared)(Q:VK)(E:XK)(r:Result)(s':Shared):Prop:=
 match r with
 |.ok (.ret u)=>CE outer P w H s Q u s'
 |.ok _=>False
 |.error e=>CX outer H s E e s'
structure F3 (P:Program)(w:World)(K:PySem.W.Frag)(mg:Str->Option Value)(base:Heap)(CX:Nj)(k:Nat)(f:Addr)(fd:FuncData)(ps:List Str)(sp:Sp):Prop where
 len:∀vs H Q E,sp vs H Q E->vs.length=ps.length
 run:∀(A:Around) (outer:List Env) (s:Shared) (H:Hp) (args:Args) (us:List Value) (vs:List V) (Q:VK) (E:XK),CK k A->Pa P w K mg base A outer s H->BindsTo s fd args (ps.zip us)->Vals vs us->sp vs H Q E->
  codeAny (model P w) A (.call (.ref f) args) (CR CX outer P w H s Q E) s
theorem F3.mono {P:Program}{w:World}{K:PySem.W.Frag}{mg:Str->Option Value}{base:Heap}{CX:Nj}{j k:Nat}{f:Addr}{fd:FuncData}{ps:List Str}{sp:Sp}(F:F3 P w K mg base CX j f fd ps sp)(h:j<=k):
 F3 P w K mg base CX k f fd ps sp:=⟨F.len,λA outer s H args us vs Q E hr=>F.run A outer s H args us vs Q E (hr.mono h)⟩
section
variable {X:Cx}{pins:List (Addr×Obj)}{σ:St}{H:Hp}{s s':Shared}
theorem Inv.Q2 (I:Inv X pins σ H s):Pa X.prog X.w X.K X.mg X.base X.A X.stack s H:=
 ⟨I.ok.frames,I.ok.mod,I.bs,Nat.le_trans I.ok.bsz I.sz,I.stack,I.PV,I.hok,I.bare⟩
theorem Inv.after {Q:VK}{u:Value}(I:Inv X pins σ H s)(h:CE X.stack X.prog X.w H s Q u s'):EP X pins σ Q u s':=by
 obtain⟨v,H',os,bare,un,hok,r,q⟩:=h
 obtain⟨hh,g,d,t,os'⟩:=s'
 obtain rfl:os'=s.os:=os
 exact⟨v,H',I.call (h':=hh) (g':=g) (d':=d) (t':=t) (ch:=[]) un hok bare (λb z=>absurd z (by simp)),r,q⟩
end
def QW (sp:Sp)(dvs:List V)(E:XK)(t:TA):TE:=λσ H Q=>t σ H λvs H1=>sp (vs++dvs) H1 Q E
def Binds (K:PySem.W.Frag)(fd:FuncData)(ps:List Str)(ds:List Value):Prop:=
 ∀(s:Shared) (us:List Value),K.In s.heap->(us++ds).length=ps.length->BindsTo s fd ⟨us,[]⟩ (ps.zip (us++ds))
theorem Binds.all {K:PySem.W.Frag}{fd:FuncData}{ps:List Str}(h:∀us:List Value,us.length=ps.length->bindArgs fd ⟨us,[]⟩=pure (ps.zip us)):Binds K fd ps []:=λs us _ hl=>by
 rw[List.append_nil]at hl ⊢
 exact .of_eq (h us hl)
def Passes (CX:Nj)(X:Cx)(E:XK):Prop:=∀(pins:List (Addr×Obj)) (σ:St) (H:Hp) (s:Shared) (e:Value) (s':Shared),Inv X pins σ H s->CX X.stack H s E e s'->X.xe e s'
section
variable {X:Cx}{CX:Nj}{k:Nat}{f C:Addr}{fd:FuncData}{ps:List Str}{sp:Sp}{dvs:List V}{ds:List Value}{E:XK}{x m:Str}{p pos apos:Pos}{e o:Expr}{es:List Expr}{ta:TE}{t:TA}
theorem Q3 {pins:List (Addr×Obj)}{σ:St}{H:Hp}{s:Shared}{Q:VK}{us:List Value}{vs:List V}(F:F3 X.prog X.w X.K X.mg X.base CX k f fd ps sp)(hr:CK k X.A)(hb:Binds X.K fd ps ds)(hd:Vals dvs ds)(hx:Passes CX X E)
 (I:Inv X pins σ H s)(r:Vals vs us)(h:sp (vs++dvs) H Q E):wpAny (model X.prog X.w) X.A (call (.ref f) us) (EP X pins σ Q) X.xe s:=by
 have r2:Vals (vs++dvs) (us++ds):=r.append hd
 have hl:(us++ds).length=ps.length:=by rw[<-r2.length];exact F.len _ _ _ _ h
 refine wpAny_call (codeAny_mono (F.run X.A X.stack s H ⟨us,[]⟩ (us++ds) (vs++dvs) Q E hr I.Q2 (hb s us I.JP hl) r2 h) λr s' hq=>?_)
 cases r with
 |error e=>exact hx pins σ H s e s' I hq
 |ok fl=>
  cases fl with
  |ret u=>exact I.after hq
  |next=>exact False.elim hq
  |brk=>exact False.elim hq
  |cont=>exact False.elim hq
theorem Pb (F:F3 X.prog X.w X.K X.mg X.base CX k f fd ps sp)(hr:CK k X.A)(hg:Gl X x)(hm:X.mg x=some (.ref f))(hk:PySem.W.keepIn X.K (.ref f)=true)(hb:Binds X.K fd ps ds)(hd:Vals dvs ds)(hx:Passes CX X E)
 (ha:PA X (e::es) t)(hdb:(x==("__debug__":Str))=false:=by decide)(he:starEach (e::es) X.env=(false,eval e X.env)::starEach es X.env:=by rfl)(hpl:(backTo pos (starEach es X.env)).any (·.1)=false:=by rfl):
 PE X (.Call (.Name x p) (e::es) [] pos) (QW sp dvs E t):=by
 intro pins s σ H Q I h
 refine wpAny_Call_Name_kw (PX I hg hm ?_ hdb)
 refine PySem.W.callWith_K (h₀:=X.base) I.ok.mod.kin hk (BO (ha pos pins s σ H _ I h) λus s1 ⟨vs,H1,I1,r,q⟩=>⟨I1.JP,?_⟩) he hpl
 exact Q3 F hr hb hd hx I1 r q
end
section
variable {X:Cx}{CX:Nj}{k:Nat}{f C:Addr}{fd:FuncData}{ps ks:List Str}{sp:Sp}{E:XK}{x m:Str}{p pos apos kpos:Pos}{e o:Expr}{es:List Expr}{kws:List Keyword}{te ta:TE}{t tk:TA}{nm:Option Str}
variable {g:List Value->List Value->List Value}{gV:List V->List V->List V}
end
structure AX (N P:List Str)(sc:Scope):Prop where
 kind:sc.kind=.function
 co:sc.isCoroutine=false
 gen:sc.isGenerator=false
 nd:N.Nodup
 pre:N.take P.length=P
 par:∀x∈P,sc.names.lookup x=some .local\/sc.names.lookup x=some .cell
 nofree:∀y∈sc.names,y.2≠.free
theorem Hu {kindOf:Str->Option NameKind}{x:Str}:∀{binds:List (Str×Value)} {m:Str->Option Value},(∀v,(x,v)∉binds)->bindL kindOf binds m x=m x
 |[],_,_=>rfl
 |(n,v)::r,m,h=>by
  unfold bindL
  rw[Hu λw hw=>h w (List.mem_cons_of_mem _ hw)]
  split
  ·have:x≠n:=by rintro rfl;exact h v List.mem_cons_self
   simp[this]
  ·rfl
theorem Hv {kindOf:Str->Option NameKind}{x:Str}:∀{binds:List (Str×Value)} {m:Str->Option Value},(∀v,(x,v)∉binds)->bindC kindOf binds m x=m x
 |[],_,_=>rfl
 |(n,v)::r,m,h=>by
  unfold bindC
  rw[Hv λw hw=>h w (List.mem_cons_of_mem _ hw)]
  split
  ·rfl
  ·have:x≠n:=by rintro rfl;exact h v List.mem_cons_self
   simp[this]
theorem Hw {kindOf:Str->Option NameKind}{x:Str}{v:Value}:∀{P:List Str} {vs:List Value} {i:Nat} {m:Str->Option Value},P.Nodup->P[i]?=some x->vs[i]?=some v->kindOf x=some .local->
 bindL kindOf (P.zip vs) m x=some v
 |[],_,_,_,_,h,_,_=>by simp at h
 |_::_,[],_,_,_,_,h,_=>by simp at h
 |p::P,w::vs,0,m,nd,h1,h2,hk=>by
  simp at h1 h2;subst h1;subst h2
  show bindL kindOf ((p,w)::P.zip vs) m p=_
  unfold bindL
  rw[Hu λv hv=>(List.nodup_cons.mp nd).1 (List.of_mem_zip hv).1,if_pos hk]
  simp
 |p::P,w::vs,i+1,m,nd,h1,h2,hk=>by
  show bindL kindOf ((p,w)::P.zip vs) m x=_
  unfold bindL
  exact Hw (i:=i) (List.nodup_cons.mp nd).2 (by simpa using h1) (by simpa using h2) hk
theorem Hx {kindOf:Str->Option NameKind}{x:Str}{v:Value}:∀{P:List Str} {vs:List Value} {i:Nat} {m:Str->Option Value},P.Nodup->P[i]?=some x->vs[i]?=some v->kindOf x≠some .local->
 bindC kindOf (P.zip vs) m x=some v
 |[],_,_,_,_,h,_,_=>by simp at h
 |_::_,[],_,_,_,_,h,_=>by simp at h
 |p::P,w::vs,0,m,nd,h1,h2,hk=>by
  simp at h1 h2;subst h1;subst h2
  show bindC kindOf ((p,w)::P.zip vs) m p=_
  unfold bindC
  rw[Hv λv hv=>(List.nodup_cons.mp nd).1 (List.of_mem_zip hv).1,if_neg hk]
  simp
 |p::P,w::vs,i+1,m,nd,h1,h2,hk=>by
  show bindC kindOf ((p,w)::P.zip vs) m x=_
  unfold bindC
  exact Hx (i:=i) (List.nodup_cons.mp nd).2 (by simpa using h1) (by simpa using h2) hk
def start (N:List Str)(vs:List V):St:=vs.map some++List.replicate (N.length - vs.length) none
def JZ (CX:Nj)(P:Program)(w:World)(K:PySem.W.Frag)(mg:Str->Option Value)(base:Heap)(N:List Str)(qual:Str)(scope:Scope)(f:Addr)(cd:Value)(A:Around)(outer:List Env)(s:Shared)(H:Hp)(E:XK):Cx where
 prog:=P
 w:=w
 K:=K
 mg:=mg
 base:=base
 A:=A.deeper (envOfC qual scope s.heap.objs.size f cd)
 N:=N
 s₀:=s
 H₀:=H
 env:=envOfC qual scope s.heap.objs.size f cd
 outer:=outer
 stack:=envOfC qual scope s.heap.objs.size f cd::outer
 ex:=[]
 calm:=true
 fn:=λ_=>true
 pn:=[]
 xe:=λe s'=>wpAny (model P w) (A.deeper (envOfC qual scope s.heap.objs.size f cd)) (leaving (envOfC qual scope s.heap.objs.size f cd) e) (λ_ s''=>CX outer H s E e s'') (λe' s''=>CX outer H s E e' s'') s'
theorem Ja {sc:Scope}{n:Nat}{x:Str}(h:sc.names.lookup x=some .cell):∃c,(cellsFrom n sc.names []).lookup x=some c:=by
 have q:=PySem.W.cellsFrom_some sc.names n [] (.inl h)
 exact Option.isSome_iff_exists.mp q
theorem Mk {CX:Nj}{P:Program}{w:World}{K:PySem.W.Frag}{mg:Str->Option Value}{base:Heap}{N ps:List Str}{qual:Str}{scope:Scope}{f:Addr}{cd:Value}{A:Around}{outer:List Env}{s s1:Shared}{H:Hp}{E:XK}{us:List Value}{vs:List V}
 (S:AX N ps scope)(hd:A.handled=none)(e0:Pa P w K mg base A outer s H)(hl:vs.length=ps.length)(r:Vals vs us)
 (x:InCallC s s.heap.objs.size (bindL (envOfC qual scope s.heap.objs.size f cd).kindOf (ps.zip us) λ_=>none) (cellsFrom (s.heap.objs.size+1) scope.names []) (bindC (envOfC qual scope s.heap.objs.size f cd).kindOf (ps.zip us) λ_=>none) s1):
 Inv (JZ CX P w K mg base N qual scope f cd A outer s H E) [] (start N vs) H s1:=by
 have hpl:ps.length<=N.length:=by have:=congrArg List.length S.pre;rw[List.length_take]at this;omega
 obtain⟨h1,tk,rfl,hk⟩:=x.done
 have noA:∀b:Addr,b∉(JZ CX P w K mg base N qual scope f cd A outer s H E).ex:=λb z=>absurd (show b∈([]:List Addr)from z) (by simp)
 refine⟨⟨e0.mod,S.kind,rfl,rfl,Nat.le_refl _,λy z c h1 h2=>?_,λy hy=>?_,λy c _ h=>?_,λ_=>hd,Around.frames_deeper e0.frames,.inr ⟨rfl,rfl⟩,λb z=>absurd z (noA b),e0.bs,e0.bsz,λb _ _=>noA b,λb z=>absurd z (noA b),e0.EJ,e0.frf⟩,
  rfl,e0.bare,Un.kept hk,⟨_,x.toInCall.ns,λi y v h1 h2 h3=>?_⟩,λy c h=>⟨_,x.cell y c h⟩,e0.hok.fresh (Nat.le_refl _),λy c h=>?_,λp hp=>absurd (show p∈([]:List (Addr×Obj))from hp) (by simp),e0.hok.kept hk,?_⟩
 ·exact name_of_addr x.apart (PySem.mem_of_lookup h1) (PySem.mem_of_lookup h2)
 ·have hy:scope.names.lookup y=some .cell\/scope.names.lookup y=some .free:=hy
  rcases hy with hy|hy
  ·exact Ja hy
  ·exact absurd rfl (S.nofree _ (PySem.mem_of_lookup hy))
 ·exact Nat.le_of_lt (x.above y c (PySem.mem_of_lookup h))
 ·have hi:i < vs.length:=by
   unfold start at h2
   by_cases hi:i < vs.length
   ·exact hi
   ·rw[List.getElem?_append_right (by simpa using hi)]at h2
    rw[List.getElem?_replicate]at h2
    split at h2<;>cases h2
  have ha:vs[i]?=some v:=by
   unfold start at h2
   rw[List.getElem?_append_left (by simpa using hi),List.getElem?_map]at h2
   cases e:vs[i]? with
   |none=>rw[e]at h2;cases h2
   |some a=>rw[e]at h2;cases h2;rfl
  obtain⟨u,hu,rv⟩:=r.get ha
  have hp:ps[i]?=some y:=by
   rw[<-S.pre,List.getElem?_take_of_lt (by omega)];exact h1
  have ndP:ps.Nodup:=by rw[<-S.pre];exact S.nd.sublist (List.take_sublist _ _)
  refine⟨u,rv,?_⟩
  rcases S.par y (List.mem_of_getElem? hp)with k|k
  ·exact .inl ⟨k,Hw ndP hp hu k⟩
  ·obtain⟨c,e⟩:=Ja (n:=s.heap.objs.size+1) k
   refine .inr ⟨.inl k,c,e,?_⟩
   have q:=x.cell y c e
   rw[Hx ndP hp hu (by show scope.names.lookup y≠_;rw[k];decide)]at q
   exact q
 ·exact e0.hok.fresh (Nat.le_of_lt (x.above y c (PySem.mem_of_lookup h)))
 ·unfold start
  show _=N.length
  rw[List.length_append,List.length_map,List.length_replicate]
  omega
theorem QX {CX:Nj}{P:Program}{w:World}{K:PySem.W.Frag}{mg:Str->Option Value}{base:Heap}{k:Nat}{f:Addr}{name qual:Str}{params:Arguments}{body:List Stmt}{scope:Scope}{dV kV doc pm cdv ct oc:Value}{an od:Option Addr}
 {osl:Array (Option Value)}{N ps:List Str}{sp:Sp}(lk:K.lookup f=some ⟨oc,od,.func (PySem.W.fnOf name qual params body scope dV kV doc pm an cdv ct),osl⟩)(hcd:PySem.W.codeIn K cdv qual=true)(S:AX N ps scope)
 (len:∀vs H Q E,sp vs H Q E->vs.length=ps.length)
 (hbody:∀(A:Around) (outer:List Env) (s:Shared) (H:Hp) (vs:List V) (Q:VK) (E:XK),CK k (A.deeper (envOfC qual scope s.heap.objs.size f cdv))->sp vs H Q E->
  ∃t,Kj (JZ CX P w K mg base N qual scope f cdv A outer s H E) body t/\t { nx:=λ_ H'=>Q .non H',rt:=Q } (start N vs) H):
 F3 P w K mg base CX (k+1) f (PySem.W.fnOf name qual params body scope dV kV doc pm an cdv ct) ps sp:=by
 refine⟨len,λA outer s H args us vs Q E hr e0 hb r hsp=>?_⟩
 have hl:=len _ _ _ _ hsp
 have KX:K.In s.heap:=e0.mod.kin.keeps λb o e=>(e0.bs b o e).1
 have lim:s.heap.NoLimit:=e0.mod.nolimit.keeps λb o e=>(e0.bs b o e).1
 have hkind:∀y∈ps.zip us,scope.names.lookup y.1=some .local\/(scope.names.lookup y.1=some .cell/\((cellsFrom (s.heap.objs.size+1) scope.names []).lookup y.1).isSome=true):=λ⟨n,v⟩ hy=>by
  rcases S.par n (List.of_mem_zip hy).1 with q|q
  ·exact .inl q
  ·exact .inr ⟨q,PySem.W.cellsFrom_some _ _ _ (.inl q)⟩
 refine codeAny_call_function hr.depth (KX _ _ lk) rfl S.co S.gen rfl (PySem.W.codeRec_of KX hcd) (hb _ _ _ _ ?_)
 refine wpAny_newFunctionEnv_cells S.kind hkind λenv he s1 x=>?_
 subst he
 refine⟨lim.keeps x.toInCall.keep,codeAny_func ?_⟩
 obtain⟨t,ht,hq⟩:=hbody A outer s H vs Q E (hr.deeper _) hsp
 have I:Inv (JZ CX P w K mg base N qual scope f cdv A outer s H E) [] (start N vs) H s1:=Mk S hr.hd e0 hl r x
 refine wpAny_mono (ht [] s1 (start N vs) H _ I hq) (λfl s' hs=>?_) λe s' hs=>hs
 have fin:∀{σ':St} {H':Hp} {v:V} {u:Value},Inv (JZ CX P w K mg base N qual scope f cdv A outer s H E) [] σ' H' s'->RelV v u->Q v H'->CE outer P w H s Q u s':=
  λ{σ' H' v u} J rv q=>⟨v,H',J.os,J.bare,J.base,J.hok,rv,q⟩
 cases fl with
 |ret u=>
  obtain⟨v,σ',H',J,rv,q⟩:=hs
  exact fin J rv q
 |next=>
  obtain⟨σ',H',J,q⟩:=hs
  exact fin (v:=V.non) (u:=Value.none) J rfl q
 |brk=>
  obtain⟨_,_,_,q⟩:=hs
  exact False.elim q
 |cont=>
  obtain⟨_,_,_,q⟩:=hs
  exact False.elim q
end L2
namespace L2
open PySem PySem.Spec PyProof.Rows
section
variable {X:Cx}{x:Str}{p pos:Pos}{e:Expr}{es:List Expr}{t:TA}{id T:String}{r:List V->Hp->VK->Prop}
def UM (r:List V->Hp->VK->Prop)(t:TA):TE:=λσ H Q=>t σ H λvs H1=>r vs H1 Q
theorem AI (hc:Bg X (.builtin id) r)(hg:Gl X x)(hm:X.mg x=none)(hv:bootBuiltins x=some (.builtin id))(ha:PA X (e::es) t)(hn:x≠"__name__":=by decide)(hdb:(x==("__debug__":Str))=false:=by decide)
 (he:starEach (e::es) X.env=(false,eval e X.env)::starEach es X.env:=by rfl)(hpl:(backTo pos (starEach es X.env)).any (·.1)=false:=by rfl):PE X (.Call (.Name x p) (e::es) [] pos) (UM r t):=by
 intro pins s σ H Q I h
 refine wpAny_Call_Name_kw (CJ I hg hm hv ?_ hn hdb)
 exact PyProof.Rows.callWith_builtin1 (BO (ha pos pins s σ H _ I h) λus s1 ⟨vs,H1,I1,r1,q1⟩=>hc pins s1 σ H1 vs us Q I1 r1 q1) he hpl
theorem B3 (hc:Bg X (.type T) r)(hg:Gl X x)(hm:X.mg x=none)(hv:bootBuiltins x=some (.type T))(ha:PA X (e::es) t)(hn:x≠"__name__":=by decide)(hdb:(x==("__debug__":Str))=false:=by decide)
 (he:starEach (e::es) X.env=(false,eval e X.env)::starEach es X.env:=by rfl)(hpl:(backTo pos (starEach es X.env)).any (·.1)=false:=by rfl):PE X (.Call (.Name x p) (e::es) [] pos) (UM r t):=by
 intro pins s σ H Q I h
 refine wpAny_Call_Name_kw (CJ I hg hm hv ?_ hn hdb)
 exact PyProof.Rows.callWith_type1 (BO (ha pos pins s σ H _ I h) λus s1 ⟨vs,H1,I1,r1,q1⟩=>hc pins s1 σ H1 vs us Q I1 r1 q1) he hpl
end
end L2
namespace HT
open PySem PyProof.Rows
section
open PySem.SeqAt
open PySem.AutoSeq1 (wpAny_loadPart')
open PySem.MeetsSeq PySem.MeetsSeq2 PySem.MeetsSeq3
end
section
variable {prog:Program}{w:World}{A:Around}{E:Value->Shared->Prop}{s:Shared}
def Cr (n d:Nat):Option Int->Nat
 |none=>d
 |some v=>if v < 0 then(v+(n:Int)).toNat else min v.toNat n
theorem GU (n d:Nat):Cr n d none=d:=rfl
theorem Ib (n d k:Nat):Cr n d (some (k:Int))=min k n:=by
 show(if(k:Int) < 0 then((k:Int)+(n:Int)).toNat else min (k:Int).toNat n)=min k n
 rw[if_neg (by omega),Int.toNat_natCast]
theorem N1 (n d:Nat)(hd:d<=n)(o:Option Int):Cr n d o<=n:=by
 cases o with
 |none=>exact hd
 |some v=>
  show(if v < 0 then(v+(n:Int)).toNat else min v.toNat n)<=n
  by_cases hv:v < 0
  ·rw[if_pos hv];omega
  ·rw[if_neg hv];exact Nat.min_le_right _ _
end
end HT
namespace L2
open PySem PySem.Spec PyProof.Rows
abbrev TO:=St->Hp->(Option Int->Hp->Prop)->Prop
def PO (X:Cx)(e:Option Expr)(t:TO):Prop:=
 ∀(pins:List (Addr×Obj)) (s:Shared) (σ:St) (H:Hp) (Q:Option Int->Hp->Prop),Inv X pins σ H s->t σ H Q->
  wpAny (model X.prog X.w) X.A (evalPart e X.env) (λu s'=>∃o H',Inv X pins σ H' s'/\IsPart u o/\Q o H') X.xe s
def Pc:TO:=λ_ H Q=>Q none H
def Sb (t:TE):TO:=λσ H Q=>t σ H λx H1=>∃i,x=.int i/\Q (some i) H1
section
variable {X:Cx}{e:Expr}{te:TE}{lo hi:Option Expr}{tl th:TO}{pos p2:Pos}
theorem BI:PO X none Pc:=by
 intro pins s σ H Q I h
 rw[evalPart_none]
 exact wpAny_pure ⟨none,H,I,.none,h⟩
theorem A4 (h:PE X e te):PO X (some e) (Sb te):=by
 intro pins s σ H Q I hw
 rw[evalPart_some]
 refine BO (h pins s σ H _ I hw) λu s1 ⟨x,H1,I1,r1,q1⟩=>?_
 obtain⟨i,rfl,q⟩:=q1
 obtain⟨t,rfl⟩:=r1
 exact⟨some i,H1,I1,.int i t,q⟩
def Tu (X:Cx)(r:V->Option Int->Option Int->Hp->VK->Prop):Prop:=
 ∀(pins:List (Addr×Obj)) (s:Shared) (σ:St) (H:Hp) (x:V) (v vl vu:Value) (lo hi:Option Int) (sl:Addr) (Q:VK),Inv X pins σ H s->RelV x v->s.heap.IsSliceOf sl vl vu .none->IsPart vl lo->IsPart vu hi->r x lo hi H Q->
  ∃T id,typeLookup (.type T) "__getitem__"=pure (some (.builtin id))/\s.TypeIs v T/\wpAny (model X.prog X.w) X.A (getItem v (.ref sl)) (EP X pins σ Q) X.xe s
def Ua (r:V->Option Int->Option Int->Hp->VK->Prop)(te:TE)(tl th:TO):TE:=λσ H Q=>te σ H λx H1=>tl σ H1 λl H2=>th σ H2 λu H3=>r x l u H3 Q
theorem Ap {r:V->Option Int->Option Int->Hp->VK->Prop}(hr:Tu X r)(he:PE X e te)(hl:PO X lo tl)(hu:PO X hi th):PE X (.Subscript e (.Slice lo hi none p2) pos) (Ua r te tl th):=by
 intro pins s σ H Q I h
 refine Subscript_ (BO (he pins s σ H _ I h) λv s1 ⟨x,H1,I1,r1,q1⟩=>?_)
 refine wpAny_Slice (BO (hl pins s1 σ H1 _ I1 q1) λvl s2 ⟨l,H2,I2,pl,q2⟩=>BO (hu pins s2 σ H2 _ I2 q2) λvu s3 ⟨u,H3,I3,pu,q3⟩=>?_)
 rw[evalPart_none]
 refine wpAny_pure ?_
 have I4:Inv X pins σ H3 { s3 with heap:=s3.heap.push { cls:=.type "slice",data:=.fields #[vl,vu,.none] } }:=I3.kept (t':=s3.toks) λb ob q=>Heap.get?_push_of_some _ q
 obtain⟨T,id,hT,ht,hg⟩:=hr pins { s3 with heap:=s3.heap.push { cls:=.type "slice",data:=.fields #[vl,vu,.none] } } σ H3 x v vl vu l u s3.heap.objs.size Q I4 r1 (Heap.IsSliceOf.new ..) pl pu q3
 show wpAny (model X.prog X.w) X.A (subscriptTail e (.Slice lo hi none p2) v (.ref s3.heap.objs.size)) (EP X pins σ Q) X.xe { s3 with heap:=s3.heap.push { cls:=.type "slice",data:=.fields #[vl,vu,.none] } }
 exact tail_any (ops:=[.ref s3.heap.objs.size,v]) ht hT hg (by with_unfolding_all rfl)
def Mm (xs:List V)(lo hi:Option Int):List V:=(xs.drop (HT.Cr xs.length 0 lo)).take (HT.Cr xs.length xs.length hi - HT.Cr xs.length 0 lo)
theorem Jb (xs:List V)(lo hi:Option Int):(Mm xs lo hi).length<=xs.length:=by
 unfold Mm
 rw[List.length_take,List.length_drop]
 omega
end
end L2
namespace L2
open PySem PySem.Spec PyProof.Rows
def N2 (n:Nat)(i:Int):Option Nat:=if 0<=i then(if i < n then some i.toNat else none)else if -(n:Int)<=i then some (i+n).toNat else none
def Ec {α:Type}(xs:List α)(i:Int):Option α:=(N2 xs.length i).bind λj=>xs[j]?
theorem Lj {n:Nat}{i:Int}{j:Nat}(h:N2 n i=some j):seqIndex? i n=some j/\j < n/\-(n:Int)<=i/\i < n:=by
 unfold N2 at h
 by_cases h0:0<=i
 ·rw[if_pos h0]at h
  by_cases h1:i < n
  ·rw[if_pos h1]at h
   have e:i.toNat=j:=Option.some.inj h
   exact⟨by rw[seqIndex_of h0 h1,e],by omega,by omega,h1⟩
  ·rw[if_neg h1]at h;cases h
 ·rw[if_neg h0]at h
  by_cases h1:-(n:Int)<=i
  ·rw[if_pos h1]at h
   have e:(i+n).toNat=j:=Option.some.inj h
   exact⟨by rw[seqIndex_neg (by omega) h1,e],by omega,h1,by omega⟩
  ·rw[if_neg h1]at h;cases h
theorem Ic {α:Type}{xs:List α}{i:Int}{v:α}(h:Ec xs i=some v):∃j,seqIndex? i xs.length=some j/\xs[j]?=some v/\j < xs.length/\-(xs.length:Int)<=i/\i < xs.length:=by
 unfold Ec at h
 cases e:N2 xs.length i with
 |none=>rw[e]at h;cases h
 |some j=>
  rw[e]at h
  obtain⟨h1,h2,h3,h4⟩:=Lj e
  exact⟨j,h1,h,h2,h3,h4⟩
theorem Bb {α:Type}{xs:List α}{j:Nat}{v:α}(h:xs[j]?=some v):Ec xs (j:Int)=some v:=by
 have hj:j < xs.length:=(List.getElem?_eq_some_iff.mp h).1
 have e:N2 xs.length (j:Int)=some j:=by
  unfold N2
  rw[if_pos (by omega),if_pos (by omega)];simp
 unfold Ec;rw[e];exact h
theorem N3 {α:Type}(xs:List α)(v:α):Ec (xs++[v]) (-1)=some v:=by
 have hl:(xs++[v]).length=xs.length+1:=by simp
 have e:N2 (xs++[v]).length (-1)=some xs.length:=by
  unfold N2
  rw[hl,if_neg (by decide),if_pos (by omega)]
  congr 1
  omega
 unfold Ec
 rw[e]
 show(xs++[v])[xs.length]?=some v
 simp
def Pd (b:Expr):Prop:=∀o i,subscripted b false o i=operate [o,i] (getItem o i)
def Sd (X:Cx)(r:R2):Prop:=
 ∀(value slice:Expr) (pins:List (Addr×Obj)) (s:Shared) (σ:St) (H:Hp) (x y:V) (v u:Value) (Q:VK),Inv X pins σ H s->RelV x v->RelV y u->r x y H Q->
  subscripted slice false v u=operate [v,u] (getItem v u)->wpAny (model X.prog X.w) X.A (subscriptTail value slice v u) (EP X pins σ Q) X.xe s
def UN (X:Cx)(id:String)(r:V->List V->Hp->VK->Prop):Prop:=
 ∀(pins:List (Addr×Obj)) (s:Shared) (σ:St) (H:Hp) (x:V) (xs:List V) (v:Value) (us:List Value) (Q:VK),Inv X pins σ H s->RelV x v->Vals xs us->r x xs H Q->
  wpAny (model X.prog X.w) X.A (call (.builtin id) (v::us)) (EP X pins σ Q) X.xe s
section
variable {X:Cx}{a b:Expr}{ta tb:TE}{pos:Pos}
theorem Ai {r:R2}(hr:Sd X r)(ha:PE X a ta)(hb:PE X b tb)(hs:Pd b):PE X (.Subscript a b pos) (TB r ta tb):=by
 intro pins s σ H Q I h
 exact Subscript_ (Qy ha hb I h λv u s2 x y H2 I2 rx ry q=>hr a b pins s2 σ H2 x y v u Q I2 rx ry q (hs _ _))
def Se (K:PySem.W.Frag):R2:=λx y H Q=>∃p xs i v,x=.ref p/\y=.int i/\AZ K H p xs/\Ec xs i=some v/\Q v H
def Tv (K:PySem.W.Frag):R2:=λx y H Q=>∃p xs i v,x=.ref p/\y=.int i/\Ce K H p xs/\Ec xs i=some v/\Q v H
def Tw:R2:=λx y H Q=>∃z i c,x=.str z/\y=.int i/\z.length<=sizeLine/\Ec z.cps.toList i=some c/\Q (.str ⟨#[c]⟩) H
theorem Aj:Sd X (Se X.K):=by
 intro value slice pins s σ H x y v u Q I rx ry h hs
 obtain⟨p,xs,i,z,rfl,rfl,hq,he,q⟩:=h
 cases rx
 obtain⟨t,rfl⟩:=ry
 obtain⟨its,r,pl,hz⟩:=I.list hq
 obtain⟨j,h1,h2,h3,h4,h5⟩:=Ic he
 obtain⟨w,ew,rw'⟩:=r.get h2
 have hl:=r.length
 have hn:=FH
 have fin:EP X pins σ Q w s:=⟨z,H,I,rw',q⟩
 by_cases h0:0<=i
 ·have hj:i.toNat=j:=by
   rw[seqIndex_of h0 h5]at h1
   exact Option.some.inj h1
  exact item_listR pl.isList h0 (by omega) (by rw[hj];simpa using ew) fin hs
 ·have hj:(i+(its.toArray.size:Int)).toNat=j:=by
   rw[seqIndex_neg (by omega) h4]at h1
   rw[List.size_toArray,<-hl]
   exact Option.some.inj h1
  exact subscriptTail_builtinR (x:=w) pl.isList.typeIs slot_list_getitem.lookup
   (wpAny_getItem_list_neg (Q:=λr s'=>r=w/\EP X pins σ Q r s') pl.isList (by omega) (by rw[List.size_toArray]<;>omega) (by omega) (by rw[hj];simpa using ew) ⟨rfl,fin⟩) hs
theorem CL:Sd X (Tv X.K):=by
 intro value slice pins s σ H x y v u Q I rx ry h hs
 obtain⟨p,xs,i,z,rfl,rfl,hq,he,q⟩:=h
 cases rx
 obtain⟨t,rfl⟩:=ry
 obtain⟨its,r,pl,hz⟩:=I.tuple hq
 obtain⟨j,h1,h2,h3,h4,h5⟩:=Ic he
 obtain⟨w,ew,rw'⟩:=r.get h2
 have hl:=r.length
 have hn:=FH
 have fin:EP X pins σ Q w s:=⟨z,H,I,rw',q⟩
 exact subscriptTail_builtinR (x:=w) pl.typeIs slot_tuple_getitem.lookup
  (getItem_tuple (j:=j) (Q:=λr s'=>r=w/\EP X pins σ Q r s') pl (by omega) (by omega) (by rw[List.size_toArray,<-hl];exact h1) (by simpa using ew) ⟨rfl,fin⟩) hs
theorem EN:Sd X Tw:=by
 intro value slice pins s σ H x y v u Q I rx ry h hs
 obtain⟨z,i,c,rfl,rfl,hz,he,q⟩:=h
 obtain⟨t,rfl⟩:=rx
 obtain⟨t',rfl⟩:=ry
 obtain⟨j,h1,h2,h3,h4,h5⟩:=Ic he
 have hl:z.cps.toList.length=z.length:=by simp[Str.length]
 rw[hl]at h1 h4 h5
 have hn:=FH
 exact tail_any (typeIs_str s z t) slot_str_getitem.lookup (getItem_str (c:=c) (by
  have e1:decide (i < -(2 ^ 63:Int))=false:=decide_eq_false (by omega)
  have e2:decide (i≥2 ^ 63)=false:=decide_eq_false (by omega)
  rw[e1,e2,Bool.or_false]) (by rw[h1];simpa using h2) ⟨.str ⟨#[c]⟩,H,I.tok _,⟨_,rfl⟩,q⟩) hs
theorem Kq (its:List Value)(n j:Nat)(u:Value):Obj.mapSeq (·.setIfInBounds j u) { cls:=.type "list",data:=.seq its.toArray n }={ cls:=.type "list",data:=.seq (its.set j u).toArray n }:=by
 simp[Obj.mapSeq]
theorem Inv.lst {pins:List (Addr×Obj)}{σ:St}{H:Hp}{s:Shared}{p:Addr}{xs:List V}(I:Inv X pins σ H s)(h:H p=some (.lst xs)):
 ∃(its:List Value) (n:Nat),Vals xs its/\s.heap.get? p=some { cls:=.type "list",data:=.seq its.toArray n }/\xs.length<=sizeLine:=by
 obtain⟨z,its,n,r,e⟩:=I.hok p _ h
 exact⟨its,n,r,e,z⟩
theorem Inv.Q4 {pins:List (Addr×Obj)}{σ:St}{H:Hp}{s:Shared}{p:Addr}{xs ys:List V}{its its':List Value}{n n':Nat}{f:Obj->Obj}(I:Inv X pins σ H s)(h:H p=some (.lst xs))
 (ho:s.heap.get? p=some { cls:=.type "list",data:=.seq its.toArray n })(hf:f { cls:=.type "list",data:=.seq its.toArray n }={ cls:=.type "list",data:=.seq its'.toArray n' })(r:Vals ys its')(hz:ys.length<=sizeLine)(t:Nat):
 Inv X pins σ (upd H p (.lst ys)) { s with heap:=s.heap.update p f,toks:=t }:=by
 have e:(s.heap.update p f).get? p=some { cls:=.type "list",data:=.seq its'.toArray n' }:=by
  rw[Heap.get?_update_self f ho (by rw[hf]<;>rfl),hf]
 refine I.write (x:=p) (e:=p) (by rw[h];trivial) (.inl rfl) (λb u hb q=>(Heap.get?_update_other _ _ (Ne.symm hb)).trans q) ⟨_,e⟩ ?_
 exact⟨hz,its',n',r,e⟩
def Sf:V->V->V->Hp->(Hp->Prop)->Prop:=λo i v H Q=>∃p xs k j,o=.ref p/\i=.int k/\H p=some (.lst xs)/\N2 xs.length k=some j/\Q (upd H p (.lst (xs.set j v)))
theorem set_list:SO X Sf:=by
 intro pins s σ H o i v ov iv u Q I ro ri rv h
 obtain⟨p,xs,k,j,rfl,rfl,hp,hj,q⟩:=h
 cases ro
 obtain⟨t,rfl⟩:=ri
 obtain⟨its,n,r,ho,hz⟩:=I.lst hp
 obtain⟨h1,h2,h3,h4⟩:=Lj hj
 have hl:=r.length
 have hn:=FH
 have I':Inv X pins σ (upd H p (.lst (xs.set j v))) { s with heap:=s.heap.update p (Obj.mapSeq (·.setIfInBounds j u)) }:=
  I.Q4 hp ho (Kq its n j u) (r.set rv j) (by rw[List.length_set];exact hz) s.toks
 by_cases h0:0<=k
 ·have hk:k.toNat=j:=by
   rw[seqIndex_of h0 h4]at h1
   exact Option.some.inj h1
  exact PySem.W.ki_setAt ho h0 (by omega) (by rw[List.size_toArray,<-hl];exact h4) (by rw[hk];exact⟨_,I',q⟩)
 ·have hk:(k+(its.toArray.size:Int)).toNat=j:=by
   rw[seqIndex_neg (by omega) h3]at h1
   rw[List.size_toArray,<-hl]
   exact Option.some.inj h1
  exact PySem.W.ki_setBack ho (by omega) (by rw[List.size_toArray,<-hl];exact h3) (by omega) (by rw[hk];exact⟨_,I',q⟩)
theorem Ie (lo hi:Option Int)(n:Nat):(sliceBounds lo hi none n).1=((HT.Cr n 0 lo:Nat):Int)/\(sliceBounds lo hi none n).2.1=((HT.Cr n n hi:Nat):Int)/\(sliceBounds lo hi none n).2.2=1:=by
 refine⟨?_,?_,rfl⟩
 ·cases lo with
  |none=>simp[sliceBounds,HT.Cr]
  |some i=>
   simp only[sliceBounds,HT.Cr,Option.getD_none,show(1:Int) > 0 by decide,if_true]
   by_cases h:i < 0
   ·simp only[h,if_true]<;>omega
   ·simp only[h,if_false]<;>omega
 ·cases hi with
  |none=>simp[sliceBounds,HT.Cr]
  |some i=>
   simp only[sliceBounds,HT.Cr,Option.getD_none,show(1:Int) > 0 by decide,if_true]
   by_cases h:i < 0
   ·simp only[h,if_true]<;>omega
   ·simp only[h,if_false]<;>omega
theorem Hf (its:List Value)(lo hi:Option Int):slicePick its.toArray lo hi none=((its.drop (HT.Cr its.length 0 lo)).take (HT.Cr its.length its.length hi - HT.Cr its.length 0 lo)).toArray:=by
 obtain⟨h1,h2,h3⟩:=Ie lo hi its.toArray.size
 unfold slicePick
 rw[h1,h2,h3]
 simp only[sliceRange_one,pick_run,List.size_toArray]<;>rfl
def Tx (K:PySem.W.Frag):V->Option Int->Option Int->Hp->VK->Prop:=λx lo hi H Q=>∃a xs,x=.ref a/\AZ K H a xs/\∀p,H p=none->Q (.ref p) (upd H p (.lst (Mm xs lo hi)))
theorem Lk:Tu X (Tx X.K):=by
 intro pins s σ H x v vl vu lo hi sl Q I rx hs pl pu h
 obtain⟨a,xs,rfl,hx,q⟩:=h
 cases rx
 obtain⟨its,r,ht,hz⟩:=I.list hx
 have hlen:=r.length
 refine⟨"list",_,slot_list_getitem.lookup,ht.isList.typeIs,?_⟩
 refine wpAny_getItem_list_slice ht.isList hs pl pu .none (by simp) ?_ (by rw[List.size_toArray]<;>omega)
 rw[Hf,<-hlen]
 refine⟨.ref s.heap.objs.size,_,I.laid (t':=s.toks) (o:=.lst (Mm xs lo hi)) (λb ob q=>Heap.get?_push_of_some _ q) (Nat.le_refl _) ?_,rfl,q _ (I.hok.fresh (Nat.le_refl _))⟩
 exact⟨Nat.le_trans (Jb xs lo hi) hz,_,0,(r.drop (HT.Cr xs.length 0 lo)).take (HT.Cr xs.length xs.length hi - HT.Cr xs.length 0 lo),Heap.get?_push_size _ rfl⟩
def CO:V->Bool
 |.non=>true
 |.bl _=>true
 |.int _=>true
 |.str _=>true
 |_=>false
def JQ:V->V->Bool
 |.non,.non=>true
 |.bl a,.bl b=>a==b
 |.bl a,.int b=>(if a then 1 else 0)==b
 |.int a,.bl b=>a==(if b then 1 else 0)
 |.int a,.int b=>a==b
 |.str a,.str b=>a==b
 |_,_=>false
theorem N4 {A:Around}{s:Shared}{y x:V}{u v:Value}(ry:RelV y u)(rx:RelV x v)(fy:CO y=true)(fx:CO x=true):SeqAt.EqAt A s u v (JQ y x):=by
 cases y with
 |non=>
  cases ry
  cases x with
  |non=>cases rx;exact SeqAt.EqAt.same _
  |bl b=>cases rx;exact SeqAt.EqAt.none_bool b
  |int b=>obtain⟨t,rfl⟩:=rx;exact SeqAt.EqAt.none_int b t
  |str b=>obtain⟨t,rfl⟩:=rx;exact SeqAt.EqAt.none_str b t
  |_=>exact absurd (show false=true from fx) Bool.false_ne_true
 |bl a=>
  cases ry
  cases x with
  |non=>cases rx;exact SeqAt.EqAt.bool_none a
  |bl b=>cases rx;exact SeqAt.EqAt.bool_bool a b
  |int b=>obtain⟨t,rfl⟩:=rx;exact SeqAt.EqAt.bool_int a b t
  |str b=>obtain⟨t,rfl⟩:=rx;exact SeqAt.EqAt.bool_str a b t
  |_=>exact absurd (show false=true from fx) Bool.false_ne_true
 |int a=>
  obtain⟨t',rfl⟩:=ry
  cases x with
  |non=>cases rx;exact SeqAt.EqAt.int_none a t'
  |bl b=>cases rx;exact SeqAt.EqAt.int_bool a t' b
  |int b=>obtain⟨t,rfl⟩:=rx;exact SeqAt.EqAt.int_int a t' b t
  |str b=>obtain⟨t,rfl⟩:=rx;exact SeqAt.EqAt.int_str a t' b t
  |_=>exact absurd (show false=true from fx) Bool.false_ne_true
 |str a=>
  obtain⟨t',rfl⟩:=ry
  cases x with
  |non=>cases rx;exact SeqAt.EqAt.str_none a t'
  |bl b=>cases rx;exact SeqAt.EqAt.str_bool a t' b
  |int b=>obtain⟨t,rfl⟩:=rx;exact SeqAt.EqAt.str_int a t' b t
  |str b=>obtain⟨t,rfl⟩:=rx;exact SeqAt.EqAt.str_str a t' b t
  |_=>exact absurd (show false=true from fx) Bool.false_ne_true
 |_=>exact absurd (show false=true from fy) Bool.false_ne_true
def F4 (x:V)(u:Value):Bool:=match u with
 |.none=>JQ .non x
 |.bool b=>JQ (.bl b) x
 |.int i _=>JQ (.int i) x
 |.str z _=>JQ (.str z) x
 |_=>false
theorem N5 {x y:V}{u:Value}(r:RelV y u)(f:CO y=true):F4 x u=JQ y x:=by
 cases y with
 |non=>cases r;rfl
 |bl b=>cases r;rfl
 |int i=>obtain⟨t,rfl⟩:=r;rfl
 |str z=>obtain⟨t,rfl⟩:=r;rfl
 |_=>exact absurd (show false=true from f) Bool.false_ne_true
theorem Ei {x:V}:∀{xs:List V} {us:List Value},Vals xs us->xs.all CO=true->us.any (F4 x)=xs.any λy=>JQ y x
 |_,_,.nil,_=>rfl
 |y::xs,u::us,.cons r t,f=>by
  rw[List.all_cons,Bool.and_eq_true]at f
  rw[List.any_cons,List.any_cons,N5 r f.1,Ei t f.2]
theorem Bv {A:Around}{s:Shared}{x:V}{v:Value}(rx:RelV x v)(fx:CO x=true):∀{xs:List V} {us:List Value},Vals xs us->xs.all CO=true->∀u∈us,SeqAt.EqAt A s u v (F4 x u)
 |_,_,.nil,_=>λu hu=>by cases hu
 |y::xs,u::us,.cons r t,f=>λu' hu=>by
  rw[List.all_cons,Bool.and_eq_true]at f
  rcases List.mem_cons.mp hu with rfl|hu
  ·rw[N5 r f.1];exact N4 r rx f.1 fx
  ·exact Bv rx fx t f.2 u' hu
def R4 (x:V)(xs:List V):Bool:=xs.any λy=>JQ y x
def Tz (K:PySem.W.Frag)(neg:Bool):R2:=λx y H Q=>∃p xs,y=.ref p/\(AZ K H p xs\/Ce K H p xs)/\CO x=true/\xs.all CO=true/\Q (.bl (if neg then !R4 x xs else R4 x xs)) H
theorem Mn:Eg X (compareOp .In) (Tz X.K false):=by
 intro pins s σ H x y v u Q I rx ry h
 obtain⟨p,xs,rfl,hq,fx,fs,q⟩:=h
 cases ry
 rcases hq with hq|hq
 ·obtain⟨its,r,pl,hz⟩:=I.list hq
  refine SeqAt.in_listAt (F4 x) pl.isList (λw hw=>Bv rx fx r fs w (by simpa using hw)) ⟨.bl _,H,I,rfl,?_⟩
  rw[show its.toArray.any (F4 x)=its.any (F4 x) by simp,Ei r fs]
  exact q
 ·obtain⟨its,r,pl,hz⟩:=I.tuple hq
  refine SeqAt.in_tupleAt (F4 x) pl (λw hw=>Bv rx fx r fs w (by simpa using hw)) ⟨.bl _,H,I,rfl,?_⟩
  rw[show its.toArray.any (F4 x)=its.any (F4 x) by simp,Ei r fs]
  exact q
theorem Ig:Eg X (compareOp .NotIn) (Tz X.K true):=by
 intro pins s σ H x y v u Q I rx ry h
 obtain⟨p,xs,rfl,hq,fx,fs,q⟩:=h
 cases ry
 rcases hq with hq|hq
 ·obtain⟨its,r,pl,hz⟩:=I.list hq
  refine SeqAt.notIn_listAt (F4 x) pl.isList (λw hw=>Bv rx fx r fs w (by simpa using hw)) ⟨.bl _,H,I,rfl,?_⟩
  rw[show its.toArray.any (F4 x)=its.any (F4 x) by simp,Ei r fs]
  exact q
 ·obtain⟨its,r,pl,hz⟩:=I.tuple hq
  refine SeqAt.notIn_tupleAt (F4 x) pl (λw hw=>Bv rx fx r fs w (by simpa using hw)) ⟨.bl _,H,I,rfl,?_⟩
  rw[show its.toArray.any (F4 x)=its.any (F4 x) by simp,Ei r fs]
  exact q
theorem Ab:Bg X (.builtin "len") (λxs H Q=>∃p ys,xs=[.ref p]/\(AZ X.K H p ys\/Ce X.K H p ys)/\Q (.int ys.length) H):=by
 intro pins s σ H xs us Q I r h
 obtain⟨p,ys,rfl,hq,q⟩:=h
 obtain⟨u,rfl,rx⟩:=vals1 r
 cases rx
 have hn:=FH
 rcases hq with hq|hq
 ·obtain⟨its,r',pl,hz⟩:=I.list hq
  have hlen:=r'.length
  exact Calls.call_len_list pl.isList (by simp only[List.size_toArray]<;>omega) ⟨.int ys.length,H,I.tok _,⟨s.toks+1,by rw[List.size_toArray,hlen]⟩,q⟩
 ·obtain⟨its,r',pl,hz⟩:=I.tuple hq
  have hlen:=r'.length
  exact len_tuple pl (by simp only[List.size_toArray]<;>omega) ⟨.int ys.length,H,I.tok _,⟨s.toks+1,by rw[List.size_toArray,hlen]⟩,q⟩
theorem AR:Bg X (.builtin "len") (λxs H Q=>∃z,xs=[.str z]/\z.length<=sizeLine/\Q (.int z.length) H):=by
 intro pins s σ H xs us Q I r h
 obtain⟨z,rfl,hz,q⟩:=h
 obtain⟨u,rfl,t,rfl⟩:=vals1 r
 have hn:=FH
 exact len_str (by omega) ⟨.int z.length,H,I.tok _,⟨_,rfl⟩,q⟩
theorem Ih:Bg X (.type "list") (λxs H Q=>∃p ys,xs=[.ref p]/\(AZ X.K H p ys\/Ce X.K H p ys)/\∀l,H l=none->Q (.ref l) (upd H l (.lst ys))):=by
 intro pins s σ H xs us Q I r h
 obtain⟨p,ys,rfl,hq,q⟩:=h
 obtain⟨u,rfl,rx⟩:=vals1 r
 cases rx
 have fin:∀(its:List Value),Vals ys its->ys.length<=sizeLine->∀(h':Heap) (c':Nat),(∀b o',s.heap.get? b=some o'->h'.get? b=some o')->
  h'.get? s.heap.objs.size=some { cls:=.type "list",dict:=none,data:=.seq its.toArray c',slots:=#[] }->EP X pins σ Q (.ref s.heap.objs.size) { s with heap:=h' }:=λits r' hz h' c' kp e=>
  ⟨.ref s.heap.objs.size,_,I.laid (t':=s.toks) kp (Nat.le_refl _) (show Ax X.prog X.w _ h' _ (.lst ys)from⟨hz,its,c',r',e⟩),rfl,q _ (I.hok.fresh (Nat.le_refl _))⟩
 rcases hq with hq|hq
 ·obtain⟨its,r',pl,hz⟩:=I.list hq
  have hlen:=r'.length
  obtain⟨o,ho,hc,n,hd⟩:=pl.isList
  exact call_list_seq p (.inl rfl) ho hc hd (λh' c' kp e=>fin its r' hz h' c' kp e) (by simp only[List.size_toArray]<;>omega)
 ·obtain⟨its,r',pl,hz⟩:=I.tuple hq
  have hlen:=r'.length
  obtain⟨o,ho,hc,n,hd⟩:=pl
  exact call_list_seq p (.inr rfl) ho hc hd (λh' c' kp e=>fin its r' hz h' c' kp e) (by simp only[List.size_toArray]<;>omega)
theorem Hg:Bg X (.type "tuple") (λxs H Q=>∃p ys,xs=[.ref p]/\((AZ X.K H p ys/\∀l,H l=none->Q (.ref l) (upd H l (.tup ys)))\/(Ce X.K H p ys/\Q (.ref p) H))):=by
 intro pins s σ H xs us Q I r h
 obtain⟨p,ys,rfl,h⟩:=h
 obtain⟨u,rfl,rx⟩:=vals1 r
 cases rx
 rcases h with⟨hq,q⟩|⟨hq,q⟩
 ·obtain⟨its,r',pl,hz⟩:=I.list hq
  have hlen:=r'.length
  refine call_tuple_list pl.isList (λh' kp=>?_) (by simp only[List.size_toArray]<;>omega)
  have I1:Inv X pins σ H { s with heap:=h' }:=I.kept (t':=s.toks) kp
  have I2:Inv X pins σ (upd H h'.objs.size (.tup ys)) { s with heap:=h'.push { cls:=.type "tuple",data:=.seq its.toArray } }:=
   I1.laid (t':=s.toks) (λb o e=>Heap.get?_push_of_some _ e) (Nat.le_refl _) (show Ax X.prog X.w _ _ _ (.tup ys)from⟨⟨hz,_,Heap.get?_push_size _ rfl,rfl⟩,its,r',IsTup.new _ _⟩)
  exact⟨.ref h'.objs.size,_,I2,rfl,q _ (I1.hok.fresh (Nat.le_refl _))⟩
 ·obtain⟨its,r',pl,hz⟩:=I.tuple hq
  exact call_tuple_same pl ⟨.ref p,H,I,rfl,q⟩
def UO (K:PySem.W.Frag)(T:String)(x:V)(H:Hp):Prop:=match x with
 |.str _=>T="str"
 |.int _=>T="int"
 |.ref p=>(T="list"/\∃xs,AZ K H p xs)\/(T="tuple"/\∃o,K.lookup p=some o/\o.cls=.type "tuple"/\o.dict=none)\/
  (T="dict"/\((∃kvs,H p=some (.dK kvs))\/∃kvs,H p=some (.dT kvs)))\/(T="set"/\∃S n,H p=some (.set S n))
 |_=>False
theorem Q5 {pins:List (Addr×Obj)}{σ:St}{H:Hp}{s:Shared}{T:String}{x:V}{v:Value}(I:Inv X pins σ H s)(r:RelV x v)(ty:UO X.K T x H):
 s.TypeIs v T/\∀a,v=.ref a->∃ob,s.heap.get? a=some ob/\ob.dict=none:=by
 cases x with
 |str z=>
  obtain⟨t,rfl⟩:=r
  cases(show T="str" from ty)
  exact⟨typeIs_str s z t,λ_ e=>nomatch e⟩
 |int i=>
  obtain⟨t,rfl⟩:=r
  cases(show T="int" from ty)
  exact⟨typeIs_int s i t,λ_ e=>nomatch e⟩
 |ref p=>
  cases r
  rcases ty with⟨rfl,xs,hq⟩|⟨rfl,o,hk,hc,hd⟩|⟨rfl,hk⟩|⟨rfl,S,n,hk⟩
  ·obtain⟨its,_,pl,_⟩:=I.list hq
   refine⟨pl.isList.typeIs,λa e=>?_⟩
   cases e
   obtain⟨o,n,e,c,hd,_⟩:=pl
   exact⟨o,e,hd⟩
  ·refine⟨⟨o,I.JP p o hk,hc⟩,λa e=>?_⟩
   cases e
   exact⟨o,I.JP _ o hk,hd⟩
  ·have z:∃o,s.heap.get? p=some o/\o.ExactDict:=by
    rcases hk with⟨kvs,hk⟩|⟨kvs,hk⟩
    ·obtain⟨_,_,_,_,o,_,_,e,ex,_⟩:=I.hok p _ hk
     exact⟨o,e,ex⟩
    ·obtain⟨_,_,_,_,o,_,_,e,ex,_⟩:=I.hok p _ hk
     exact⟨o,e,ex⟩
   obtain⟨o,e,ex⟩:=z
   refine⟨⟨o,e,ex.1⟩,λa e2=>?_⟩
   cases e2
   exact⟨o,e,ex.2.1⟩
  ·obtain⟨o,_,_,_,e,ex,_⟩:=I.hok p _ hk
   refine⟨⟨o,e,ex.1⟩,λa e2=>?_⟩
   cases e2
   exact⟨o,e,ex.2.1⟩
 |_=>exact False.elim ty
def QY (K:PySem.W.Frag)(T:String)(r:V->List V->Hp->VK->Prop)(to:TE)(t:TA):TE:=λσ H Q=>to σ H λx H1=>UO K T x H1/\t σ H1 λxs H2=>r x xs H2 Q
variable {o e:Expr}{es:List Expr}{to:TE}{t:TA}{name:Str}{apos cpos:Pos}{T id:String}{r:V->List V->Hp->VK->Prop}
theorem Ej (pa:PlainAttrs T)(slot:Slot T name id)(hty:typeOf (.builtin id)=pure (.type "method_descriptor"))(hm:UN X id r)(ho:PE X o to)(ha:PA X (e::es) t)
 (hbase:attributeBase o name X.env (eval o X.env)=eval o X.env:=by rfl)
 (hfew:((backTo cpos (starEach (e::es) X.env)).all (λx=>!x.1)&&(backToKw cpos (keywordEach [] X.env)).all (λx=>x.1.isSome)
  &&decide ((e::es).length+([]:List Keyword).length+(if([]:List Keyword).isEmpty then 0 else 1) < 30))=true:=by rfl)
 (hline:(apos.endLine==cpos.line)=true:=by rfl)(hs:starEach (e::es) X.env=(false,eval e X.env)::starEach es X.env:=by rfl)(hplain:(backTo cpos (starEach es X.env)).any (·.1)=false:=by rfl):
 PE X (.Call (.Attribute o name apos) (e::es) [] cpos) (QY X.K T r to t):=by
 intro pins s σ H Q I h
 refine wpAny_Call_method_late hbase hfew hline rfl (BO (ho pins s σ H _ I h) λv s1 ⟨x,H1,I1,r1,ty,q1⟩=>?_)
 obtain⟨h1,h2⟩:=Q5 I1 r1 ty
 refine⟨T,id,pa,slot,hty,h1,h2,?_⟩
 have hA:=ha cpos pins s1 σ H1 _ I1 q1
 rw[hs]at hA ⊢
 refine Calls.callWith_builtin (by show(false||(backTo cpos (starEach es X.env)).any (·.1))=false;rw[hplain]<;>rfl) (Calls.evalArgs_plain ?_)
 exact BO hA λus s2 ⟨vs,H2,I2,r2,q2⟩=>hm pins s2 σ H2 x vs v us Q I2 r1 r2 q2
end
end L2
namespace L2
open PySem PySem.Spec PyProof.Rows
def R5 (X:Cx)(id:String)(r:V->List V->Hp->VK->Prop):Prop:=
 ∀(pins:List (Addr×Obj)) (s:Shared) (σ:St) (H:Hp) (x:V) (xs:List V) (v:Value) (us:List Value) (Q:VK),Inv X pins σ H s->RelV x v->Vals xs us->r x xs H Q->
  wpAny (model X.prog X.w) X.A (call (.builtin id) (v::us)) (EP X pins σ Q) X.xe s
theorem Vals.one:∀{x:V} {us:List Value},Vals [x] us->∃u,us=[u]/\RelV x u
 |_,_,.cons r .nil=>⟨_,rfl,r⟩
theorem Vals.rep {xs:List V}{us:List Value}(h:Vals xs us):∀k:Nat,Vals (List.replicate k xs).flatten (List.replicate k us).flatten
 |0=>.nil
 |k+1=>by
  rw[List.replicate_succ,List.replicate_succ,List.flatten_cons,List.flatten_cons]
  exact Vals.append h (Vals.rep h k)
theorem foldl_rep (its:List Value):∀(k:Nat) (acc:List Value),
 List.foldl (λx1 x2=>x1++x2) acc.toArray (List.replicate k its.toArray)=(acc++(List.replicate k its).flatten).toArray
 |0,acc=>by simp
 |k+1,acc=>by
  have e:acc.toArray++its.toArray=(acc++its).toArray:=by simp
  have e2:(acc++its)++(List.replicate k its).flatten=acc++(List.replicate (k+1) its).flatten:=by
   rw[List.replicate_succ,List.flatten_cons,List.append_assoc]
  rw[<-e2,<-foldl_rep its k (acc++its),<-e,List.replicate_succ,List.foldl_cons]
section
variable {X:Cx}{pins:List (Addr×Obj)}{σ:St}{H:Hp}{s:Shared}{l b:Addr}{xs ys zs:List V}
theorem Inv.Sg {its its':List Value}{n:Nat}{f:Array Value->Array Value}{t':Nat}(I:Inv X pins σ H s)(hH:H l=some (.lst xs))
 (e:s.heap.get? l=some { cls:=.type "list",data:=.seq its.toArray n })(hf:f its.toArray=its'.toArray)(hv:Vals ys its')(hz:ys.length<=sizeLine):
 Inv X pins σ (upd H l (.lst ys)) { s with heap:=s.heap.update l (Obj.mapSeq f),toks:=t' }:=by
 have q:=PySem.IsL.update e f
 rw[hf]at q
 refine I.write (x:=l) (e:=l) (by rw[hH];exact trivial) (.inl rfl) (λb' u hb hu=>(Heap.get?_update_other s.heap (Obj.mapSeq f) (Ne.symm hb)).trans hu) ⟨_,q⟩ ?_
 exact⟨hz,its',_,hv,q⟩
theorem Inv.Q6 {its:List Value}{t':Nat}(I:Inv X pins σ H s)(hv:Vals ys its)(hz:ys.length<=sizeLine):
 Inv X pins σ (upd H s.heap.objs.size (.lst ys)) { s with heap:=s.heap.push { cls:=.type "list",data:=.seq its.toArray },toks:=t' }:=
 I.laid (λ_ _ q=>Heap.get?_push_of_some _ q) (Nat.le_refl _) ⟨hz,its,0,hv,Heap.get?_push_size _ rfl⟩
theorem Inv.fresh (I:Inv X pins σ H s):H s.heap.objs.size=none:=I.hok.fresh (Nat.le_refl _)
theorem Inv.GV (I:Inv X pins σ H s)(hH:H l=some (.lst xs)):xs.length<=sizeLine/\∃(its:List Value) (n:Nat),Vals xs its/\xs.length=its.length/\s.heap.get? l=some { cls:=.type "list",data:=.seq its.toArray n }:=by
 obtain⟨z,its,n,r,e⟩:=I.hok l _ hH
 exact⟨z,its,n,r,r.length,e⟩
theorem Jc {n:Nat}(h:n<=sizeLine):Builtin.List.listTooLong n=false:=by
 unfold Builtin.List.listTooLong
 exact decide_eq_false (by omega)
end
section
variable {X:Cx}
def Pe:V->List V->Hp->VK->Prop:=λx vs H Q=>∃l xs y,x=.ref l/\vs=[y]/\H l=some (.lst xs)/\xs.length < sizeLine/\Q .non (upd H l (.lst (xs++[y])))
theorem Du:R5 X "list.append" Pe:=by
 intro pins s σ H x vs v us Q I rx rv h
 obtain⟨l,xs,y,rfl,rfl,hH,hz,q⟩:=h
 cases rx
 obtain⟨u,rfl,ru⟩:=rv.one
 obtain⟨z,its,n,r,hl,e⟩:=I.GV hH
 refine call_meets F.slot_list_append ⟨_,e,rfl⟩ F.entry_list_append (F.args_list_append_2 _ _) (PySem.list_append l its.toArray n u (by rw[List.size_toArray];omega)) ⟨e,?_⟩
 refine⟨.non,_,I.Sg (its':=its++[u]) hH e (by simp) (r.append (.cons ru .nil)) ?_,rfl,q⟩
 rw[List.length_append,List.length_singleton]
 omega
def Pg:V->List V->Hp->VK->Prop:=λx vs H Q=>∃l b xs zs,x=.ref l/\vs=[.ref b]/\H l=some (.lst xs)/\H b=some (.lst zs)/\xs.length+zs.length<=sizeLine/\Q .non (upd H l (.lst (xs++zs)))
theorem Mo:R5 X "list.extend" Pg:=by
 intro pins s σ H x vs v us Q I rx rv h
 obtain⟨l,b,xs,zs,rfl,rfl,hH,hB,hz,q⟩:=h
 cases rx
 obtain⟨u,rfl,ru⟩:=rv.one
 cases ru
 obtain⟨z,its,n,r,hl,e⟩:=I.GV hH
 obtain⟨z2,its2,n2,r2,hl2,e2⟩:=I.GV hB
 have hsz:its.toArray.size+its2.toArray.size<=sizeLine:=by rw[List.size_toArray,List.size_toArray];omega
 have hlong:¬(!its.toArray.isEmpty&&Builtin.List.listTooLong (its.toArray.size+its2.toArray.size))=true:=by
  rw[Jc hsz,Bool.and_false]
  exact Bool.false_ne_true
 refine call_meets F.slot_list_extend ⟨_,e,rfl⟩ F.entry_list_extend (F.args_list_extend_2 _ _)
  (AutoSeq1.list_extend_list_list_0 l its.toArray n b its2.toArray n2 hlong (by rw[List.size_toArray];omega) (by omega)) ⟨e,e2,?_⟩
 refine⟨.non,_,I.Sg (its':=its++its2) hH e (by simp) (r.append r2) ?_,rfl,q⟩
 rw[List.length_append]
 omega
def T2:R2:=λx y H Q=>∃l b xs zs,x=.ref l/\y=.ref b/\H l=some (.lst xs)/\H b=some (.lst zs)/\xs.length+zs.length<=sizeLine/\∀p,H p=none->Q (.ref p) (upd H p (.lst (xs++zs)))
theorem FK:Eg X (binaryOp .Add) T2:=by
 intro pins s σ H x y v u Q I rx ry h
 obtain⟨l,b,xs,zs,rfl,rfl,hH,hB,hz,q⟩:=h
 cases rx
 cases ry
 obtain⟨z,its,n,r,hl,e⟩:=I.GV hH
 obtain⟨z2,its2,n2,r2,hl2,e2⟩:=I.GV hB
 refine PySem.P.add_list e e2 ?_ (by rw[List.size_toArray,List.size_toArray];omega)
 have ea:its.toArray++its2.toArray=(its++its2).toArray:=by simp
 rw[ea]
 exact⟨.ref _,_,I.Q6 (t':=s.toks) (r.append r2) (by rw[List.length_append];omega),rfl,q _ I.fresh⟩
def T3:R2:=λx y H Q=>∃l k xs,x=.ref l/\y=.int k/\H l=some (.lst xs)/\-(2 ^ 63)<=k/\k < 2 ^ 63/\xs.length*k.toNat<=sizeLine/\
 ∀p,H p=none->Q (.ref p) (upd H p (.lst (List.replicate k.toNat xs).flatten))
theorem len_rep {α:Type}(xs:List α)(k:Nat):(List.replicate k xs).flatten.length=k*xs.length:=by
 induction k with
 |zero=>simp
 |succ k ih=>rw[List.replicate_succ,List.flatten_cons,List.length_append,ih,Nat.succ_mul,Nat.add_comm]
theorem Q7:Eg X (binaryOp .Mult) T3:=by
 intro pins s σ H x y v u Q I rx ry h
 obtain⟨l,k,xs,rfl,rfl,hH,h1,h2,hz,q⟩:=h
 cases rx
 obtain⟨t,rfl⟩:=ry
 obtain⟨z,its,n,r,hl,e⟩:=I.GV hH
 have hlen:its.toArray.size*k.toNat<=sizeLine:=by rw[List.size_toArray,<-hl];exact hz
 have hcap:¬its.toArray.size*k.toNat > (2 ^ 63 - 1) / 8:=by
  have:(sizeLine:Nat)<=(2 ^ 63 - 1) / 8:=by decide
  omega
 have hfit:¬(!Builtin.List.listFitsIndex k)=true:=by
  rw[fitsIndex_both h1 h2]
  exact Bool.false_ne_true
 have hlong:¬Builtin.List.listTooLong (its.toArray.size*k.toNat)=true:=by
  rw[Jc hlen]
  exact Bool.false_ne_true
 have hnew:List.foldl (λx1 x2=>x1++x2) #[] (List.replicate (if its.toArray.isEmpty=true then 0 else k.toNat) its.toArray)=(List.replicate k.toNat its).flatten.toArray:=by
  have f0:∀m:Nat,List.foldl (λx1 x2=>x1++x2) #[] (List.replicate m its.toArray)=(List.replicate m its).flatten.toArray:=λm=>by
   have:=foldl_rep its m []
   rw[List.nil_append]at this
   exact this
  rw[f0]
  cases its with
  |nil=>simp
  |cons a r'=>rw[if_neg (by simp)]
 refine wpAny_binaryOp_repeat_ref (T:="list") (U:="int") (by decide) ⟨_,e,rfl⟩ (λs'=>typeIs_int s' k t) noFill_list_mul F.fills_int_mul F.slot_int_rmul repeat_list F.slot_int_index.lookup
  (call_meets F.slot_int_rmul (typeIs_int s k t) F.entry_int_rmul (F.args_int_rmul_2 _ _) (int___rmul___int_list k t l its.toArray n)
   ⟨e,rfl,⟨_,e,rfl⟩,call_meets F.slot_list_mul ⟨_,e,rfl⟩ F.entry_list_mul (F.args_list_mul_2 _ _) (AutoListH.list___mul___list_int_3 l its.toArray n k t hfit hcap hlong) ⟨e,?_⟩⟩)
 rw[hnew]
 exact⟨.ref _,_,I.Q6 (t':=s.toks) (r.rep k.toNat) (by rw[len_rep,Nat.mul_comm];exact hz),rfl,q _ I.fresh⟩
end
section
variable {prog:Program}{w:World}{A:Around}{E:Value->Shared->Prop}{s:Shared}
end
section
variable {X:Cx}
end
end L2
namespace Att
open PySem PySem.W PySem.Calls PyProof.Rows
theorem F5 {P:Params}{h:Heap}:∀(ns:List Int) (vs:List Value),WellAll P h vs (ns.map WData.int)->IntsAre vs ns:=by
 intro ns
 induction ns with
 |nil=>
  intro vs w
  rw[List.map_nil]at w
  cases w
  exact .nil
 |cons n ns ih=>
  intro vs w
  rw[List.map_cons]at w
  cases w with
  |cons a b=>
   cases a
   exact .cons _ _ (ih _ b)
theorem Mp {l:OpenLaw}{n:Nat}(hn:l.most=some n){P:Params}{h:Heap}{args:List WData}{vals:List Value}
 (hpre:l.row.toRowW.claim.pre args=true)(hwl:WellAll P h vals args):
 ∃a vs ns,vals=[Value.ref a]/\args=[WData.list (ns.map WData.int)]/\h.get? a=some { cls:=.type "list",data:=.seq vs.toArray }/\IntsAre vs ns/\ns.length<=n:=by
 have hsh:WShape.hasAll [] args [.list .int]=true:=(pre_splitW hpre).1
 have hc:l.pre.holds [] { args:=args }=true:=(pre_splitW hpre).2
 obtain⟨d,r,rfl,h1,h2⟩:=hasAllW_cons hsh
 obtain rfl:=hasAllW_nil h2
 obtain⟨xs,rfl,h3⟩:=hasW_list h1
 obtain⟨ns,rfl⟩:=items_int h3
 have hlen:ns.length<=n:=by
  unfold OpenLaw.pre at hc
  have h4:(WTm.not (.lt (.lit (.int (n:Int))) (.len (.arg 0)))).holds [] { args:=[.list (ns.map .int)] }=true:=by
   have h4:=(holds_andW hc).1
   rw[hn]at h4
   exact h4
  have h5:=condW_of h4 (w_not (w_lt w_lit (w_len_list (w_arg rfl))))
  rw[List.length_map]at h5
  refine Nat.le_of_not_lt λq=>?_
  have q':(n:Int) < ((ns.length:Nat):Int):=by omega
  first
   |(rw[decide_eq_true q']at h5;exact absurd h5 (by decide))
   |(simp at h5;omega)
 cases hwl with
 |cons w1 w2=>
  cases w2
  cases w1 with
  |list ho hall=>exact⟨_,_,ns,rfl,rfl,ho,F5 ns _ hall,hlen⟩
theorem Mq (l:OpenLaw)(args:List WData):l.row.toRowW.claim.post args (.bool true) args=true:=
 postW_of (r:=l.row.toRowW) (X:=(true==true))
  (show WShape.has [] (.bool true) .bool=true by first|rfl|decide|simp[WShape.has,WShape.arms,WShape.armsAll])
  (show(WTm.eq .res (.lit (.bool true))).value [] { args:=args,res:=some (.bool true),after:=args }=some (.bool (true==true))from w_eq_bool (w_res rfl) w_lit) rfl
theorem Jd {l:OpenLaw}{n:Nat}{q:Program}{loose:List Str}{XP:(Str->Option Value)->Heap->Prop}{YP:World->Heap->Prop}{d:DefRec}
 (hn:l.most=some n)(hdf:d.params.defaults=[])
 (call:∀(w:World) (s₀ s₁:Shared) (mg mb:Str->Option Value) (fa:Addr) (o:Obj) (pm cd doc:Value) (a:Addr) (vs:List Value) (ns:List Int),
  Ground q loose [] XP w s₀ mg mb s₁.heap->YP w s₁.heap->
  s₁.heap.get? fa=some o->o.data=.func (docDef d.name d.params d.body d.scope pm cd doc)->s₁.heap.CodeRec cd d.name->mg d.name=some (.ref fa)->
  s₁.heap.get? a=some { cls:=.type "list",data:=.seq vs.toArray }->IntsAre vs ns->ns.length<=n->s₁.gens=#[]->
  codeAny (model l.prog w) callerA (.call (.ref fa) ⟨[.ref a],[]⟩) (λr s'=>r=.ok (.ret (.bool true))/\OldK s₁.heap s'.heap/\s'.os=s₁.os/\AllBare s'.gens) s₁):
 WalkO q loose XP YP l.row.toRowW d [] (λf vs=>PySem.call f vs):=by
 intro w s₀ s₁ mg mb G Y fa o pm cd doc dV kV ho hd hcd hD hmg hg args vals as hpre hlay hrd hwl hlo
 obtain rfl:dV=.none:=Dflts.none hD hdf
 obtain rfl:kV=.none:=Dflts.noKw hD
 obtain⟨a,vs,ns,rfl,rfl,hobj,hints,hlen⟩:=Mp hn hpre hwl
 refine enter_call (codeAny_mono (call w s₀ s₁ mg mb fa o pm cd doc a vs ns G Y ho (fd_plain hd) hcd hmg hobj hints hlen hg) λr s' hq=>?_)
 obtain⟨rfl,h2,h3,h4⟩:=hq
 exact⟨.inl ⟨.bool true,.bool true,[],rfl,λ_=>rfl,.bool true,Mq l _,λ_=>⟨List.Pairwise.nil,λ_ hm=>(nomatch hm)⟩⟩,h2,h3,h4⟩
section
variable {prog:Program}{w:World}{A:Around}{E:Value->Shared->Prop}{s:Shared}{K:Frag}
end
end Att
namespace L2
open PySem PySem.Spec PyProof.Rows
theorem Hy:∀{vs:List Value} {ns:List Int},IntsAre vs ns->Vals (ns.map V.int) vs
 |_,_,.nil=>.nil
 |_,_,.cons n t h=>.cons ⟨t,rfl⟩ (Hy h)
end L2
namespace L2
open PySem PySem.Spec PyProof.Rows
abbrev KOf {K:PySem.W.Frag}{h:Heap}(_:K.In h):PySem.W.Frag:=K
end L2
namespace L2
open PySem PySem.Spec PyProof.Rows
def DA (s:Stmt):Arguments:=match s with
 |.FunctionDef _ a _ _ _ _ _ _ _ _=>a
 |_=>{ posonlyargs:=[],args:=[],vararg:=none,kwonlyargs:=[],kw_defaults:=[],kwarg:=none,defaults:=[] }
def CA (s:Stmt):List Stmt:=match s with
 |.FunctionDef _ _ b _ _ _ _ _ _ _=>b
 |_=>[]
def AG (s:Stmt):Scope:=match s with
 |.FunctionDef _ _ _ _ _ _ sc _ _ _=>sc
 |_=>{ kind:=.function,names:=[],isGenerator:=false,isCoroutine:=false }
abbrev CX0:Nj:=λ_ _ _ _ _ _=>False
abbrev E0:XK:=λ_ _ _=>False
theorem Sh {X:Cx}:Passes CX0 X E0:=λ_ _ _ _ _ _ _ h=>h.elim
structure Q8 (K:PySem.W.Frag)(x qual:Str)(st:Stmt)(f:Addr)(fd:FuncData):Prop where
 ex:∃(oc:Value) (od:Option Addr) (kV doc pm:Value) (an:Option Addr) (cdv ct:Value) (osl:Array (Option Value)),
  fd=PySem.W.fnOf x qual (DA st) (CA st) (AG st) .none kV doc pm an cdv ct/\K.lookup f=some ⟨oc,od,.func fd,osl⟩/\PySem.W.codeIn K cdv qual=true
 kp:PySem.W.keepIn K (.ref f)=true
section
variable {P:Program}{w:World}{K:PySem.W.Frag}{mg:Str->Option Value}{base:Heap}
theorem Q8.ok {x qual:Str}{st:Stmt}{f:Addr}{fd:FuncData}{N ps:List Str}{k:Nat}{sp:Sp}(F:Q8 K x qual st f fd)(S:AX N ps (AG st))(len:∀vs H Q E,sp vs H Q E->vs.length=ps.length)
 (hbody:∀(cdv:Value) (A:Around) (outer:List Env) (s:Shared) (H:Hp) (vs:List V) (Q:VK) (E:XK),CK k (A.deeper (envOfC qual (AG st) s.heap.objs.size f cdv))->sp vs H Q E->
  ∃t,Kj (JZ CX0 P w K mg base N qual (AG st) f cdv A outer s H E).Qt (CA st) t/\t { nx:=λ_ H'=>Q .non H',rt:=Q } (start N vs) H):F3 P w K mg base CX0 (k+1) f fd ps sp:=by
 obtain⟨oc,od,kV,doc,pm,an,cdv,ct,osl,rfl,lk,hcd⟩:=F.ex
 refine QX lk hcd S len λA outer s H vs Q E hr hsp=>?_
 obtain⟨t,h,q⟩:=hbody cdv A outer s H vs Q E hr hsp
 exact⟨t,h.Qt,q⟩
theorem Q8.binds {x qual:Str}{st:Stmt}{f:Addr}{fd:FuncData}{ps:List Str}(F:Q8 K x qual st f fd)
 (h:∀(kV doc pm:Value) (an:Option Addr) (cdv ct:Value) (us:List Value),us.length=ps.length->bindArgs (PySem.W.fnOf x qual (DA st) (CA st) (AG st) .none kV doc pm an cdv ct) ⟨us,[]⟩=pure (ps.zip us)):Binds K fd ps []:=by
 obtain⟨oc,od,kV,doc,pm,an,cdv,ct,osl,rfl,lk,hcd⟩:=F.ex
 exact .all (h kV doc pm an cdv ct)
theorem Q9 {x qual:Str}{st:Stmt}{f:Addr}{oc:Value}{od an:Option Addr}{osl:Array (Option Value)}{kV doc pm cdv ct:Value}(l:K.lookup f=some ⟨oc,od,.func (PySem.W.fnOf x qual (DA st) (CA st) (AG st) .none kV doc pm an cdv ct),osl⟩)
 (c:PySem.W.codeIn K cdv qual=true)(k:PySem.W.keepIn K (.ref f)=true):Q8 K x qual st f (PySem.W.fnOf x qual (DA st) (CA st) (AG st) .none kV doc pm an cdv ct):=⟨⟨oc,od,kV,doc,pm,an,cdv,ct,osl,rfl,l,c⟩,k⟩
end
theorem QZ {A:Around}{k:Nat}(hr:CK k A):A.units+1 < cLine:=Nat.lt_of_le_of_lt (Nat.add_le_add_left (by decide:1<=64) _) hr.units
theorem AM {n:Nat}(h:n<=1000):n < sizeLine:=Nat.lt_of_le_of_lt h (by decide)
section
variable {X:Cx}
theorem pv (i:Nat){x:Str}{pos:Pos}(hN:X.N[i]?=some x:=by rfl)(hv:R3 X.env.scope x:=by first|exact Or.inl rfl|exact Or.inr (Or.inl rfl)|exact Or.inr (Or.inr rfl))(hd:(x==("__debug__":Str))=false:=by decide)
 (hcd:(x==("__classdict__":Str))=false:=by decide):PE X (.Name x pos) (SE i):=Qn hN hv hd hcd
end
theorem GW {A B:Prop}(h:B):if false=true then A else B:=by
 rw[if_neg Bool.false_ne_true]
 exact h
theorem Mr {A B:Prop}(h:A):if true=true then A else B:=by
 rw[if_pos rfl]
 exact h
theorem Cf {c A B:Prop}[Decidable c](h1:c->A)(h2:¬c->B):if c then A else B:=by
 by_cases h:c
 ·rw[if_pos h]
  exact h1 h
 ·rw[if_neg h]
  exact h2 h
def AJ (H H':Hp):Prop:=∀b o,H b=some o->H' b=some o
theorem AJ.refl (H:Hp):AJ H H:=λ_ _ h=>h
theorem AJ.trans {H H1 H2:Hp}(a:AJ H H1)(b:AJ H1 H2):AJ H H2:=λc o h=>b c o (a c o h)
theorem AJ.free {H H':Hp}(e:AJ H H'){l:Addr}(h:H' l=Option.none):H l=Option.none:=by
 cases q:H l with
 |none=>rfl
 |some o=>
  rw[e l o q]at h
  cases h
theorem AJ.seq {K:PySem.W.Frag}{H H':Hp}{a:Addr}{xs:List V}(e:AJ H H')(h:AZ K H a xs):AZ K H' a xs:=by
 rcases h with(h|⟨o,h⟩)|h
 ·exact .inl (.inl (e _ _ h))
 ·exact .inl (.inr ⟨o,e _ _ h⟩)
 ·exact .inr h
end L2
set_option maxHeartbeats 16000000
namespace L2
open PySem PySem.Spec PyProof.Rows
theorem lookup_mem {α:Type}:∀{cl:List (Str×α)} {x:Str} {c:α},cl.lookup x=some c->(x,c)∈cl
 |[],_,_,h=>by simp at h
 |(y,d)::r,x,c,h=>by
  rw[List.lookup_cons]at h
  cases e:x==y with
  |true=>
   rw[e]at h
   have e':x=y:=eq_of_beq e
   cases h
   rw[e'];exact List.mem_cons_self
  |false=>
   rw[e]at h
   exact List.mem_cons_of_mem _ (lookup_mem h)
theorem EE {α:Type}:∀{cl:List (Str×α)} {x:Str} {c:α},(x,c)∈cl->∃c',cl.lookup x=some c'
 |[],_,_,h=>nomatch h
 |(y,d)::r,x,c,h=>by
  rw[List.lookup_cons]
  cases e:x==y with
  |true=>exact⟨d,rfl⟩
  |false=>
   rcases List.mem_cons.mp h with h|h
   ·cases h
    simp at e
   ·exact EE h
theorem EO {env:Env}{f:(Str×NameKind)->List (Str×Addr)->Sem (ForInStep (List (Str×Addr)))}
 (h1:∀x k cs,k≠NameKind.free->f (x,k) cs=pure (.yield cs))(h2:∀x cs c,env.cells.lookup x=some c->f (x,NameKind.free) cs=pure (.yield ((x,c)::cs))):
 ∀(names:List (Str×NameKind)) (acc:List (Str×Addr)),(∀x,(x,NameKind.free)∈names->∃c,env.cells.lookup x=some c)->
  ∃cl,forIn names acc f=pure cl/\(∀p∈cl,p∈acc\/env.cells.lookup p.1=some p.2)/\(∀p∈acc,p∈cl)/\∀x,(x,NameKind.free)∈names->∃c,(x,c)∈cl
 |[],acc,_=>⟨acc,rfl,λ_ h=>.inl h,λ_ h=>h,λ_ h=>nomatch h⟩
 |(x,k)::r,acc,h=>by
  by_cases hk:k=NameKind.free
  ·subst hk
   obtain⟨c,hc⟩:=h x List.mem_cons_self
   obtain⟨cl,e,a,b,d⟩:=EO h1 h2 r ((x,c)::acc) λy hy=>h y (List.mem_cons_of_mem _ hy)
   refine⟨cl,?_,λp hp=>?_,λp hp=>b p (List.mem_cons_of_mem _ hp),λy hy=>?_⟩
   ·rw[List.forIn_cons,h2 x acc c hc,pure_bind];exact e
   ·rcases a p hp with q|q
    ·rcases List.mem_cons.mp q with q|q
     ·subst q;exact .inr hc
     ·exact .inl q
    ·exact .inr q
   ·rcases List.mem_cons.mp hy with q|q
    ·cases q;exact⟨c,b _ List.mem_cons_self⟩
    ·exact d y q
  ·obtain⟨cl,e,a,b,d⟩:=EO h1 h2 r acc λy hy=>h y (List.mem_cons_of_mem _ hy)
   refine⟨cl,?_,a,b,λy hy=>?_⟩
   ·rw[List.forIn_cons,h1 x k acc hk,pure_bind];exact e
   ·rcases List.mem_cons.mp hy with q|q
    ·cases q;exact absurd rfl hk
    ·exact d y q
theorem ER {scope:Scope}{env:Env}(h:∀x,(x,NameKind.free)∈scope.names->∃c,env.cells.lookup x=some c):
 ∃cl,closureFor scope env=pure cl/\(∀x c,cl.lookup x=some c->env.cells.lookup x=some c)/\∀x,(x,NameKind.free)∈scope.names->∃c,cl.lookup x=some c:=by
 have go:=EO (env:=env) (f:=λx cs=>match x with|(name,kind)=>if(kind==NameKind.free)=true then do let a<-cellOf env name;pure (.yield ((name,a)::cs))else pure (.yield cs))
  (λx k cs hk=>by
   have:(k==NameKind.free)=false:=by simpa using hk
   simp only[this,Bool.false_eq_true,if_false])
  (λx cs c hc=>by
   simp only[beq_self_eq_true,if_true]
   unfold cellOf
   rw[hc,pure_bind])
  scope.names [] h
 obtain⟨cl,e,a,_,d⟩:=go
 refine⟨cl,?_,λx c hx=>?_,λx hx=>?_⟩
 ·unfold closureFor
  simp only[bind_pure]
  exact e
 ·rcases a _ (lookup_mem hx)with q|q
  ·exact nomatch q
  ·exact q
 ·obtain⟨c,hc⟩:=d x hx
  exact EE hc
theorem Bw {env:Env}{x:Str}{k:NameKind}:∀{names:List (Str×NameKind)},
 (names.map λ(n,k)=>if(k==NameKind.free&&env.scope.kind==.function&&env.kindOf n==some .cell)then(n,NameKind.cell)else(n,k)).lookup x=some k->
  names.lookup x=some k\/(k=.cell/\names.lookup x=some .free)
 |[],h=>by simp at h
 |(n,j)::r,h=>by
  have ih:=@Bw env x k r
  rw[List.lookup_cons]
  change List.lookup x ((if(j==NameKind.free&&env.scope.kind==.function&&env.kindOf n==some .cell)=true then(n,NameKind.cell)else(n,j))::_)=_ at h
  by_cases hc:(j==NameKind.free&&env.scope.kind==.function&&env.kindOf n==some .cell)=true
  ·rw[if_pos hc,List.lookup_cons]at h
   have hj:j=NameKind.free:=by
    simp only[Bool.and_eq_true]at hc
    exact eq_of_beq hc.1.1
   cases hx:x==n with
   |true=>rw[hx]at h;cases h;exact .inr ⟨rfl,by rw[hj]⟩
   |false=>rw[hx]at h;exact ih h
  ·rw[if_neg hc,List.lookup_cons]at h
   cases hx:x==n with
   |true=>rw[hx]at h;exact .inl h
   |false=>rw[hx]at h;exact ih h
def CM (X:Cx)(scope:Scope)(NL:List Str)(ix:List Nat)(cl:List (Str×Addr))(C:Addr)(s₃:Shared)(H₃:Hp)(fp:List Addr)(pins:List (Addr×Obj)):Cx where
 prog:=X.prog
 w:=X.w
 K:=X.K
 mg:=X.mg
 base:=X.base
 A:=X.A
 N:=NL++ix.map λj=>X.N.getD j ""
 s₀:=s₃
 H₀:=H₃
 env:=compEnvC scope cl C X.env
 outer:=X.stack
 stack:=X.stack
 ex:=fp
 fn:=λ_=>false
 calm:=X.calm
 pn:=X.pn++pins
 xe:=λ_ _=>False
def BK (NL:List Str)(ix:List Nat)(σ:St):St:=NL.map (λ_=>none)++ix.map λj=>σ.getD j none
def Ms (X:Cx)(ifs:List Expr)(t:TT):Prop:=
 ∀(pins:List (Addr×Obj)) (s:Shared) (σ:St) (H:Hp) (Q:Bool->Hp->Prop),Inv X pins σ H s->t σ H Q->
  wpAny (model X.prog X.w) X.A (forIn ifs true λc r=>if r=true then do let ok<-isTrue c X.env (eval c X.env);pure (ForInStep.yield ok)else pure (ForInStep.yield r)) (TP X pins σ Q) X.xe s
def T4:TT:=λ_ H Q=>Q true H
theorem Ar {X:Cx}:Ms X [] T4:=λ_ _ _ H _ I h=>wpAny_tests_nil ⟨H,I,h⟩
theorem Bx {X:Cx}{c:Expr}{t:TT}(h:PT X c t):Ms X [c] t:=λpins s σ H Q I q=>wpAny_tests_one (h pins s σ H Q I q)
def Qa (NL:List Str)(ix:List Nat)(wi:TI)(g:TG)(tt:TT)(te:TE):TE:=λσ H Q=>
 wi σ H λJ H1=>∀acc,H1 acc=none->∃W:Nat->Nat->List V->Hp->Prop,(∃m,W 0 m [] (upd H1 acc (.lst [])))/\
  ∀i m ys H2,W i m ys H2->H2 acc=some (.lst ys)/\ys.length < sizeLine/\
   ((J.stop i H2/\Q (.ref acc) H2)\/(J.go i H2/\∃N:List V->Hp->Prop,(∀ys' H',N ys' H'->∃m',m' < m/\W (i+1) m' ys' H')/\
     ∀x H3,J.yld i H2 x H3->g x (BK NL ix σ) H3 λσ' H4=>σ'.drop NL.length=ix.map (λj=>σ.getD j none)/\tt σ' H4 λb H5=>
      if b=true then te σ' H5 λv H6=>H6 acc=some (.lst ys)/\N (ys++[v]) (upd H6 acc (.lst (ys++[v])))else N ys H5))
section
variable {X:Cx}{pins:List (Addr×Obj)}{σ:St}{H:Hp}{s:Shared}
structure Bn (X:Cx)(scope:Scope)(NL:List Str)(ix:List Nat):Prop where
 kind:scope.kind=.function
 cell:∀y∈scope.names,y.2≠.cell
 names:∀y∈scope.names,y.2=.local->scope.names.lookup y.1=some .local
 free:∀y∈scope.names,y.2=.free->X.env.kindOf y.1=some .cell\/X.env.kindOf y.1=some .free
 cap:∀j∈ix,∃x,X.N[j]?=some x/\scope.names.lookup x=some .free
theorem N6 {scope:Scope}{NL:List Str}{ix:List Nat}{cl:List (Str×Addr)}{fp:List Addr}{tn:Nat->Heap->Prop}{s₃:Shared}{h₁:Heap}{m:Str->Option Value}{tk:Nat}
 (S:Bn X scope NL ix)(I:Inv X pins σ H s₃)(c1:∀x c,cl.lookup x=some c->X.env.cells.lookup x=some c)(c2:∀x,(x,NameKind.free)∈scope.names->∃c,cl.lookup x=some c)
 (hf:∀b∈fp,B2 X pins H b)(ho:∀b∈fp,∃o,s₃.heap.get? b=some o)(hn:h₁.Ns s₃.heap.objs.size m)(old:∀b o,s₃.heap.get? b=some o->h₁.get? b=some o):
 Inv (CM X scope NL ix cl s₃.heap.objs.size s₃ H fp pins) [] (BK NL ix σ) H { s₃ with heap:=h₁,toks:=tk }:=by
 have e0:=I.Q2
 have lt:∀b o,s₃.heap.get? b=some o->b≠s₃.heap.objs.size:=λb o e=>Nat.ne_of_lt (Heap.lt_size e)
 have nst:∀b,b≠X.env.locals->b∉X.fs->b∉Lb X.stack:=λb h1 h2 h3=>(List.mem_cons.mp (I.GP b h3)).elim h1 h2
 have ok:(CM X scope NL ix cl s₃.heap.objs.size s₃ H fp pins).Ok:=
  { mod:=I.ok.mod
    kind:=S.kind
    glob:=I.ok.glob
    blt:=I.ok.blt
    above:=Nat.le_refl _
    inj:=λx y c h1 h2=>I.ok.inj x y c (c1 x c h1) (c1 y c h2)
    has:=λx hx=>by
     have hfree:scope.names.lookup x=some .free:=by
      rcases hx with hx|hx
      ·rcases Bw hx with q|⟨_,q⟩
       ·exact absurd rfl (S.cell _ (lookup_mem q))
       ·exact q
      ·rcases Bw hx with q|⟨z,_⟩
       ·exact q
       ·cases z
     exact c2 x (lookup_mem hfree)
    cab:=λ_ _ z=>nomatch z
    hd:=I.ok.hd
    frames:=I.ok.frames
    stk:=.inl rfl
    exf:=λb hb=>⟨let⟨o,e⟩:=ho b hb;lt b o e,λx c hx=>(hf b hb).2.2.2.2.1 x c (c1 x c hx)⟩
    bs:=I.bs
    bsz:=e0.bsz
    noex:=λb o e hb=>by
     rcases(hf b hb).2.2.2.1 with z|z
     ·exact I.ok.noex b o e z
     ·exact absurd (Nat.lt_of_lt_of_le (Heap.lt_size e) (Nat.le_trans I.ok.bsz z)) (Nat.lt_irrefl _)
    exfs:=λb hb=>nst b (hf b hb).2.1 (hf b hb).2.2.1
    EJ:=e0.EJ
    frf:=e0.frf }
 refine⟨ok,rfl,I.bare,Un.kept old,⟨m,hn,λi x v e1 e2 e3=>?_⟩,λx c e=>?_,I.hok.fresh (Nat.le_refl _),λx c e=>I.freeC x c (c1 x c e),λp hp=>?_,I.hok.kept old,?_⟩
 ·have hl:NL.length<=i:=by
   rcases Nat.lt_or_ge i NL.length with z|z
   ·exfalso
    unfold BK at e2
    rw[List.getElem?_append_left (by simpa using z),List.getElem?_map]at e2
    cases q:NL[i]? with
    |none=>rw[q]at e2;cases e2
    |some y=>rw[q]at e2;cases e2
   ·exact z
  unfold BK at e2
  rw[List.getElem?_append_right (by simpa using hl),List.length_map,List.getElem?_map]at e2
  change(NL++ix.map λj=>X.N.getD j "")[i]?=some x at e1
  rw[List.getElem?_append_right hl,List.getElem?_map]at e1
  cases q:ix[i - NL.length]? with
  |none=>rw[q]at e1;cases e1
  |some j=>
   rw[q]at e1 e2
   have e1':X.N.getD j ""=x:=Option.some.inj e1
   have e2':σ.getD j none=some v:=Option.some.inj e2
   obtain⟨x',hx',hfr⟩:=S.cap j (List.mem_of_getElem? q)
   have exx:x'=x:=by
    rw[<-e1',List.getD_eq_getElem?_getD,hx'];rfl
   subst exx
   have hσ:σ[j]?=some (some v):=by
    rw[List.getD_eq_getElem?_getD]at e2'
    cases z:σ[j]? with
    |none=>rw[z]at e2';cases e2'
    |some o=>rw[z]at e2';exact congrArg some e2'
   have kd:=S.free _ (lookup_mem hfr) rfl
   have vis:R3 X.env.scope x':=by
    rcases kd with z|z
    ·exact .inr (.inl z)
    ·exact .inr (.inr z)
   obtain⟨m',hn',hl'⟩:=I.loc
   obtain⟨u,r,l⟩:=hl' j x' v hx' hσ vis
   refine⟨u,r,.inr ?_⟩
   have hk':(compEnvC scope cl s₃.heap.objs.size X.env).kindOf x'=some .cell\/(compEnvC scope cl s₃.heap.objs.size X.env).kindOf x'=some .free:=by
    rcases e3 with z|z|z
    ·rcases Bw z with w|⟨w,_⟩
     ·rw[hfr]at w;cases w
     ·cases w
    ·exact .inl z
    ·exact .inr z
   refine⟨hk',?_⟩
   obtain⟨c,hc⟩:=c2 x' (lookup_mem hfr)
   rcases l with⟨k,_⟩|⟨k,c',ec,o,ho',hd⟩
   ·rcases kd with z|z
    ·rw[k]at z;cases z
    ·rw[k]at z;cases z
   ·have:c'=c:=by
     have:=c1 x' c hc
     rw[ec]at this
     exact Option.some.inj this
    subst this
    exact⟨c',hc,o,old _ _ ho',hd⟩
 ·obtain⟨v,o,ho',hd⟩:=I.cell x c (c1 x c e)
  exact⟨v,o,old _ _ ho',hd⟩
 ·have hp':p∈X.pn++pins:=by
   rcases List.mem_append.mp hp with z|z
   ·exact z
   ·exact nomatch z
  obtain⟨e,n,ne,nf,d⟩:=I.pin p hp'
  exact⟨old _ _ e,n,lt _ _ e,nst _ ne nf,d⟩
 ·show(NL.map (λ_=>(none:Option V))++ix.map λj=>σ.getD j none).length=(NL++ix.map λj=>X.N.getD j "").length
  simp
theorem Je {scope:Scope}{NL:List Str}{ix:List Nat}{elt tg iter:Expr}{ifs:List Expr}{pos:Pos}{g:TG}{tt:TT}{te:TE}{cl:List (Str×Addr)}{fp:List Addr}{it:Addr}{tn:Nat->Heap->Prop}{J:It}{Q:VK}
 {E:Value->Shared->Prop}{RR:Value->Addr->Result->Shared->Prop}
 (hc:X.calm=true)(S:Bn X scope NL ix)(c1:∀x c,cl.lookup x=some c->X.env.cells.lookup x=some c)(c2:∀x,(x,NameKind.free)∈scope.names->∃c,cl.lookup x=some c)
 (hb:∀(cl:List (Str×Addr)) (C:Addr) (s₃:Shared) (H₃:Hp) (fp:List Addr) (pins:List (Addr×Obj)),PG (CM X scope NL ix cl C s₃ H₃ fp pins) tg g/\Ms (CM X scope NL ix cl C s₃ H₃ fp pins) ifs tt/\PE (CM X scope NL ix cl C s₃ H₃ fp pins) elt te)
 (I:Inv X pins σ H s)(T:Turn X.prog X.w X.K tg J fp it tn)(st:tn 0 s.heap)(hf:∀b∈fp,B2 X pins H b)
 (q:∀acc,H acc=none->∃W:Nat->Nat->List V->Hp->Prop,(∃m,W 0 m [] (upd H acc (.lst [])))/\
  ∀i m ys H2,W i m ys H2->H2 acc=some (.lst ys)/\ys.length < sizeLine/\
  ((J.stop i H2/\Q (.ref acc) H2)\/(J.go i H2/\∃N:List V->Hp->Prop,(∀ys' H',N ys' H'->∃m',m' < m/\W (i+1) m' ys' H')/\
    ∀x H3,J.yld i H2 x H3->g x (BK NL ix σ) H3 λσ' H4=>σ'.drop NL.length=ix.map (λj=>σ.getD j none)/\tt σ' H4 λb H5=>
     if b=true then te σ' H5 λv H6=>H6 acc=some (.lst ys)/\N (ys++[v]) (upd H6 acc (.lst (ys++[v])))else N ys H5)))
 (hRR:∀(acc C:Addr) (H':Hp) (s':Shared) (m':Str->Option Value),Inv X pins σ H' s'->s'.heap.Ns C m'->B2 X pins H' C->Q (.ref acc) H'->RR (.ref acc) C (.ok .next) s'):
 wpAny (model X.prog X.w) X.A (newList []) (λacc s₃=>wpAny (model X.prog X.w) X.A (newFunctionEnv scope X.env.globals cl [] X.env.qual none .none (some X.env)) (λcenv s₄=>
  codeAny (model X.prog X.w) X.A (.compStart (.ListComp elt [⟨tg,iter,ifs,0⟩] scope pos) 0 (.ref it) acc { cenv with scope:=relabel scope X.env }) (RR acc cenv.locals) s₄) E s₃) E s:=by
 refine wpAny_newObj_type (wpAny_newFunctionEnv S.cell (by intro y hy;simp at hy) (λh₁ hns₁ hsb₁=>?_) S.kind)
 have I3:Inv X pins σ (upd H s.heap.objs.size (.lst [])) { s with heap:=s.heap.push { cls:=.type "list",data:=.seq ([]:List Value).toArray },toks:=s.toks }:=I.Q6 (its:=[]) .nil (Nat.zero_le _)
 have hfr:H s.heap.objs.size=none:=I.hok.fresh (Nat.le_refl _)
 generalize hs3:({ s with heap:=s.heap.push { cls:=.type "list",data:=.seq ([]:List Value).toArray },toks:=s.toks }:Shared)=s₃ at I3
 have hsz:s₃.heap.objs.size=s.heap.objs.size+1:=by rw[<-hs3];exact Heap.size_push ..
 have old1:∀b o,s.heap.get? b=some o->s₃.heap.get? b=some o:=λb o e=>by rw[<-hs3];exact Heap.get?_push_of_some _ e
 have key:codeAny (model X.prog X.w) X.A (.compStart (.ListComp elt [⟨tg,iter,ifs,0⟩] scope pos) 0 (.ref it) (.ref s.heap.objs.size) (compEnvC scope cl s₃.heap.objs.size X.env))
  (RR (.ref s.heap.objs.size) s₃.heap.objs.size) { s₃ with heap:=h₁,toks:=s₃.toks+0 }:=by
  have hns:h₁.Ns s₃.heap.objs.size (λ_=>none):=by
   have:=hns₁
   rw[<-hs3]
   exact this
  have hsb:Heap.SameBut s₃.heap.objs.size (s₃.heap.push { cls:=.type "dict",data:=.dict #[] }) h₁:=by
   have:=hsb₁
   rw[<-hs3]
   exact this
  have old:∀b o,s₃.heap.get? b=some o->h₁.get? b=some o:=λb o e=>hsb.extBut b o (Nat.ne_of_lt (Heap.lt_size e)) (Heap.get?_push_of_some _ e)
  have hf3:∀b∈fp,B2 X pins (upd H s.heap.objs.size (.lst [])) b:=λb hb'=>by
   obtain⟨o,e,_⟩:=T.obj 0 _ st b hb'
   have ne:b≠s.heap.objs.size:=Nat.ne_of_lt (Heap.lt_size e)
   exact⟨by rw[AL ne];exact(hf b hb').1,(hf b hb').2⟩
  have ho3:∀b∈fp,∃o,s₃.heap.get? b=some o:=λb hb'=>by
   obtain⟨o,e,_⟩:=T.obj 0 _ st b hb'
   exact⟨o,old1 b o e⟩
  have st1:tn 0 h₁:=T.keep 0 _ _ st λb hb' o e=>old b o (old1 b o e)
  have I4:=N6 (tn:=tn) (tk:=s₃.toks+0) S I3 c1 c2 hf3 ho3 hns old
  obtain⟨W,⟨m0,w0⟩,turn⟩:=q s.heap.objs.size hfr
  obtain⟨hg,ht,he⟩:=hb cl s₃.heap.objs.size s₃ (upd H s.heap.objs.size (.lst [])) fp pins
  generalize hX':CM X scope NL ix cl s₃.heap.objs.size s₃ (upd H s.heap.objs.size (.lst [])) fp pins=X' at I4 hg ht he
  have p1:X'.prog=X.prog:=by rw[<-hX'];rfl
  have p2:X'.w=X.w:=by rw[<-hX'];rfl
  have p3:X'.K=X.K:=by rw[<-hX'];rfl
  have p4:X'.A=X.A:=by rw[<-hX'];rfl
  have p5:X'.env=compEnvC scope cl s₃.heap.objs.size X.env:=by rw[<-hX'];rfl
  have p6:X'.calm=true:=by rw[<-hX'];exact hc
  have p7:X'.xe=λ_ _=>False:=by rw[<-hX'];rfl
  have stat:∀{H':Hp},(∀b∈fp,H' b=none)->∀b∈fp,B2 X' [] H' b:=λ{H'} hn b hb'=>by
   have z:=hf3 b hb'
   obtain⟨o,eo⟩:=ho3 b hb'
   rw[<-hX']
   refine⟨hn b hb',Nat.ne_of_lt (Heap.lt_size eo),λq=>(List.mem_cons.mp (I3.GP b q)).elim z.2.1 z.2.2.1,.inl hb',λx c hx=>z.2.2.2.2.1 x c (c1 x c hx),λp hp=>?_⟩
   rcases List.mem_append.mp hp with w|w
   ·exact z.2.2.2.2.2 p w
   ·exact nomatch w
  have fin:∀i n ys H' s',Inv X' [] (BK NL ix σ) H' s'->W i n ys H'->Q (.ref s.heap.objs.size) H'->RR (.ref s.heap.objs.size) s₃.heap.objs.size (.ok .next) s':=λi n ys H' s' I' w' q'=>by
   obtain⟨m',hn',_⟩:=I'.loc
   have hos:s'.os=s₃.os:=by have:=I'.os;rw[<-hX']at this;exact this
   have hu:Un (Lb X.stack) fp (upd H s.heap.objs.size (.lst [])) H' s₃.heap s'.heap:=by have:=I'.base;rw[<-hX']at this;exact this
   have hk:Ed X.prog X.w H' s'.heap:=by have:=I'.hok;rw[<-hX']at this;exact this
   have hfC:H' s₃.heap.objs.size=none:=by have:=I'.free;rw[<-hX']at this;exact this
   have hnC:s'.heap.Ns s₃.heap.objs.size m':=by rw[p5]at hn';exact hn'
   exact hRR _ _ H' s' m' (I3.SD hos hu hk I'.bare λb hb'=>⟨(hf3 b hb').2.2.2.1,(hf3 b hb').2.1,(hf3 b hb').2.2.2.2.1,(hf3 b hb').2.2.2.2.2⟩) hnC (I3.GS (Nat.le_refl _) hfC) q'
  have loop:∀s₄:Shared,Inv X' [] (BK NL ix σ) (upd H s.heap.objs.size (.lst [])) s₄->tn 0 s₄.heap->codeAny (model X.prog X.w) X.A (.compLoop (.ListComp elt [⟨tg,iter,ifs,0⟩] scope pos) 0 (.ref it) (.ref s.heap.objs.size) (compEnvC scope cl s₃.heap.objs.size X.env))
   (RR (.ref s.heap.objs.size) s₃.heap.objs.size) s₄:=λs₄ I4 st1=>by
   refine codeAny_loop rfl (λn s'=>∃i ys H',Inv X' [] (BK NL ix σ) H' s'/\tn i s'.heap/\(∀b∈fp,H' b=none)/\W i n ys H') (λn s' hI=>?_) m0 ⟨0,[],_,I4,st1,λb hb'=>(hf3 b hb').1,w0⟩
   obtain⟨i,ys,H',I',st',fr',w'⟩:=hI
   show wpAny _ X.A ((compTurn (.ListComp elt [⟨tg,iter,ifs,0⟩] scope pos) 0 (.ref it) (.ref s.heap.objs.size) (compEnvC scope cl s₃.heap.objs.size X.env)).onRaise (λx=>do noteFrame x (compEnvC scope cl s₃.heap.objs.size X.env);theTreesLotGoes x)) _ _ s'
   refine wpAny_noted ?_
   rw[compTurn_list]
   obtain⟨hacc,hz8,alt⟩:=turn i n ys H' w'
   rcases alt with⟨stop,qn⟩|⟨go,N,hN,step⟩
   ·have d:=T.done X' p1 p2 p3 p6 i [] s' (BK NL ix σ) H' (notedBy (model X.prog X.w) X.A (compEnvC scope cl s₃.heap.objs.size X.env) λe s'=>RR (.ref s.heap.objs.size) s₃.heap.objs.size (.error e) s') I' (stat fr') st' stop
    rw[p4]at d
    refine wpAny_bind (wpAny_standAt (wpAny_bind (BO d λr s1 ⟨hr,I1⟩=>?_)))
    subst hr
    exact wpAny_pure (fin i n ys H' s1 I1 w' qn)
   ·have d:=T.item X' p1 p2 p3 p6 i [] s' (BK NL ix σ) H' (notedBy (model X.prog X.w) X.A (compEnvC scope cl s₃.heap.objs.size X.env) λe s'=>RR (.ref s.heap.objs.size) s₃.heap.objs.size (.error e) s') I' (stat fr') st' go
    rw[p4]at d
    refine wpAny_bind (wpAny_standAt (wpAny_bind (BO d λr s1 ⟨u,hr,h4⟩=>?_)))
    subst hr
    refine wpAny_bind (BO h4 λ_ s5 ⟨x,H5,I5,r5,y5,st5,fr5⟩=>?_)
    have I5':=I5.pinned (stat fr5) (T.obj _ _ st5)
    have nofail:∀{α:Type} {t:Sem α} {R:α->Shared->Prop} {sx:Shared},wpAny (model X'.prog X'.w) X'.A t R X'.xe sx->wpAny (model X.prog X.w) X.A t R (notedBy (model X.prog X.w) X.A (compEnvC scope cl s₃.heap.objs.size X.env) λe s'=>RR (.ref s.heap.objs.size) s₃.heap.objs.size (.error e) s') sx:=λ{α t R sx} hh=>by
     rw[p1,p2,p4,p7]at hh
     exact wpAny_mono hh (λ_ _ z=>z) λ_ _ z=>z.elim
    have again:∀{σ7:St} {H7:Hp} {s7:Shared} {ys':List V},σ7.drop NL.length=ix.map (λj=>σ.getD j none)->Inv X' ([]++FF fp s5.heap) σ7 H7 s7->(∃m',m' < n/\W (i+1) m' ys' H7)->∃m,m < n/\∃i ys H',Inv X' [] (BK NL ix σ) H' s7/\tn i s7.heap/\(∀b∈fp,H' b=none)/\W i m ys H':=λ{σ7 H7 s7 ys'} hσ I7 n7=>by
     obtain⟨m',hm,w7⟩:=n7
     have Iw:Inv X' ([]++FF fp s5.heap) (BK NL ix σ) H7 s7:=I7.weak (by rw[I7.len,I'.len]) λj v hj=>by
      have hlj:NL.length<=j:=by
       rcases Nat.lt_or_ge j NL.length with z|z
       ·exfalso
        unfold BK at hj
        rw[List.getElem?_append_left (by simpa using z),List.getElem?_map]at hj
        cases q:NL[j]? with
        |none=>rw[q]at hj;cases hj
        |some y=>rw[q]at hj;cases hj
       ·exact z
      unfold BK at hj
      rw[List.getElem?_append_right (by simpa using hlj),List.length_map,<-hσ,List.getElem?_drop]at hj
      rw[<-hj]
      congr 1
      omega
     refine⟨m',hm,i+1,ys',H7,Iw.C1,T.keep _ _ _ st5 λb hb' o e=>(I7.pin (b,o) (List.mem_append_right _ (List.mem_append_right _ (C8 hb' e)))).1,λb hb'=>?_,w7⟩
     obtain⟨o,e,d⟩:=T.obj _ _ st5 b hb'
     exact(I7.pin (b,o) (List.mem_append_right _ (List.mem_append_right _ (C8 hb' e)))).2.1
    have hg':=nofail (hg _ s5 (BK NL ix σ) H5 x u _ I5' r5 (step x H5 y5))
    rw[p5]at hg'
    refine wpAny_bind (BO hg' λ_ s6 ⟨σ6,H6,I6,hσ6,q6⟩=>?_)
    have ht':=nofail (ht _ s6 σ6 H6 _ I6 q6)
    rw[p5]at ht'
    refine wpAny_bind (BO ht' λok s7 ⟨H7,I7,q7⟩=>?_)
    cases ok with
    |false=>
     have q7':N ys H7:=by simpa using q7
     exact wpAny_pure ⟨rfl,again hσ6 I7 (hN _ _ q7')⟩
    |true=>
     have q7':=(if_pos rfl).mp q7
     have he':=nofail (he _ s7 σ6 H7 _ I7 q7')
     rw[p5]at he'
     refine wpAny_bind (wpAny_bind (BO he' λv s8 ⟨y,H8,I8,r8,ha8,q8⟩=>?_))
     have ap:=nofail (Du _ s8 σ6 H8 (.ref s.heap.objs.size) [y] (.ref s.heap.objs.size) [v] (λ_ H9=>H9=upd H8 s.heap.objs.size (.lst (ys++[y]))) I8 rfl (.cons r8 .nil) ⟨_,ys,y,rfl,rfl,ha8,hz8,rfl⟩)
     refine wpAny_bind (BO ap λ_ s9 ⟨z,H9,I9,r9,e9⟩=>wpAny_pure (wpAny_pure ⟨rfl,?_⟩))
     subst e9
     exact again hσ6 I9 (hN _ _ q8)
  exact codeAny_compStart_list (loop _ I4 st1) (T.self X.A 0 _ _ _ st1 (loop _ I4 st1))
 exact key
theorem Aw {scope:Scope}{NL:List Str}{ix:List Nat}{elt tg iter:Expr}{ifs:List Expr}{pos:Pos}{wi:TI}{g:TG}{tt:TT}{te:TE}
 (hc:X.calm=true)(hi:PI X tg iter wi)(S:Bn X scope NL ix)
 (hb:∀(cl:List (Str×Addr)) (C:Addr) (s₃:Shared) (H₃:Hp) (fp:List Addr) (pins:List (Addr×Obj)),PG (CM X scope NL ix cl C s₃ H₃ fp pins) tg g/\Ms (CM X scope NL ix cl C s₃ H₃ fp pins) ifs tt/\PE (CM X scope NL ix cl C s₃ H₃ fp pins) elt te)
 (hs:∀x,foldedSetIterable iter X.env x=pure x:=by intro _;rfl):PE X (.ListComp elt [⟨tg,iter,ifs,0⟩] scope pos) (Qa NL ix wi g tt te):=by
 intro pins s σ H Q I h
 obtain⟨cl,hcl,c1,c2⟩:=ER (scope:=scope) (env:=X.env) λx hx=>by
  rcases S.free _ hx rfl with z|z
  ·exact I.ok.has x (.inl z)
  ·exact I.ok.has x (.inr z)
 rw[eval_ListComp]
 refine wpAny_comprehension_free (use:=none) rfl hs hcl S.kind S.names (BO (hi pins s σ H _ I h) λxv s1 h1=>BO h1 λitv s2 h2=>?_)
 obtain⟨it,fp,tn,J,H2,rfl,I2,T,st2,f2,q⟩:=h2
 refine Je (RR:=λacc C=>compPost (model X.prog X.w) X.A X.xe none (EP X pins σ Q) acc C) hc S c1 c2 hb I2 T st2 f2 q ?_
 intro acc C H' s' m' I' hn fC q'
 refine⟨m',hn,λh' sb=>⟨.ref acc,H',?_,rfl,q'⟩⟩
 exact I'.turned (t':=s'.toks) (λb o hb e=>sb.extBut b o hb e) fC.1 fC.2.1 fC.2.2.2.1 fC.2.2.2.2.1 fC.2.2.2.2.2
theorem CQ {i:Nat}{y:Str}{py spos:Pos}{scope:Scope}{NL:List Str}{ix:List Nat}{elt tg iter:Expr}{ifs:List Expr}{pos:Pos}{wi:TI}{g:TG}{tt:TT}{te:TE}
 (hN:X.N.Nodup)(hiy:X.N[i]?=some y)(hy:Loc X.env.scope y)
 (hc:X.calm=true)(hi:PI X tg iter wi)(S:Bn X scope NL ix)
 (hb:∀(cl:List (Str×Addr)) (C:Addr) (s₃:Shared) (H₃:Hp) (fp:List Addr) (pins:List (Addr×Obj)),PG (CM X scope NL ix cl C s₃ H₃ fp pins) tg g/\Ms (CM X scope NL ix cl C s₃ H₃ fp pins) ifs tt/\PE (CM X scope NL ix cl C s₃ H₃ fp pins) elt te)
 (hsw:swapsWith (.ListComp elt [⟨tg,iter,ifs,0⟩] scope pos) (some (.Name y py)) spos.line X.env=pure true:=by rfl)
 (hs:∀x,foldedSetIterable iter X.env x=pure x:=by intro _;rfl)
 (hf:X.fn y=true\/X.env.scope.names.lookup y=some .local:=by first|exact .inl rfl|exact .inr rfl|assumption):
 PS X (.Assign [.Name y py] (.ListComp elt [⟨tg,iter,ifs,0⟩] scope pos) spos) (Qv (Qa NL ix wi g tt te) (Le i)):=by
 intro pins s σ H D I h
 obtain⟨cl,hcl,c1,c2⟩:=ER (scope:=scope) (env:=X.env) λx hx=>by
  rcases S.free _ hx rfl with z|z
  ·exact I.ok.has x (.inl z)
  ·exact I.ok.has x (.inr z)
 rw[exec_Assign_Name_used _ _ _ _ hsw]
 refine wpAny_bind (wpAny_standAt (wpAny_bind ?_))
 show wpAny _ X.A (do let _<-comprehension (.ListComp elt [⟨tg,iter,ifs,0⟩] scope pos) scope X.env _ (newList []) false (eval iter X.env) (some (assign (.Name y py) X.env))) _ _ s
 refine wpAny_bind (BO (wpAny_comprehension_free (use:=some (assign (.Name y py) X.env)) (Q:=λ_ s'=>SP X pins D .next s') rfl hs hcl S.kind S.names
  (BO (hi pins s σ H _ I h) λxv s1 h1=>BO h1 λitv s2 h2=>?_)) λ_ s' hq=>wpAny_pure (wpAny_pure hq))
 obtain⟨it,fp,tn,J,H2,rfl,I2,T,st2,f2,q⟩:=h2
 refine Je (RR:=λacc C=>compPost (model X.prog X.w) X.A X.xe (some (assign (.Name y py) X.env)) (λ_ s'=>SP X pins D .next s') acc C) (Q:=λx H1=>Le i x σ H1 D.nx) hc S c1 c2 hb I2 T st2 f2 q ?_
 intro acc C H' s' m' I' hn fC q'
 show wpAny _ X.A (assign (.Name y py) X.env (.ref acc)) _ _ _
 refine wpAny_assign_Name (Hs I' hN hiy hy (v:=.ref acc) rfl (λs'' I'' hsb=>?_) hf)
 obtain⟨a,sb,ha⟩:=hsb
 have hne:C≠a:=by
  rcases ha with z|z
  ·rw[z];exact fC.2.1
  ·exact λw=>fC.2.2.2.2.1 y a z w.symm
 refine⟨m',hn.sameBut sb hne,λh' sb'=>⟨_,H',?_,q'⟩⟩
 exact I''.turned (t':=s''.toks) (λb o hb e=>sb'.extBut b o hb e) fC.1 fC.2.1 fC.2.2.2.1 fC.2.2.2.2.1 fC.2.2.2.2.2
theorem By {J:It}{NL:List Str}{ix:List Nat}{g:TG}{tt:TT}{te:TE}{σ:St}{H1:Hp}{Qs:Hp->Prop}{acc:Addr}(n:Nat)(hn:n < 1000)(Pv:Nat->List V->Hp->Prop)
 (hacc:∀i ys H2,Pv i ys H2->H2 acc=some (.lst ys)/\ys.length<=i)(h0:Pv 0 [] (upd H1 acc (.lst [])))(hstop:∀ys H2,Pv n ys H2->J.stop n H2/\Qs H2)
 (hturn:∀i ys H2,i < n->Pv i ys H2->J.go i H2/\∀x H3,J.yld i H2 x H3->g x (BK NL ix σ) H3 λσ' H4=>σ'.drop NL.length=ix.map (λj=>σ.getD j none)/\tt σ' H4 λb H5=>
  if b=true then te σ' H5 λv H6=>H6 acc=some (.lst ys)/\Pv (i+1) (ys++[v]) (upd H6 acc (.lst (ys++[v])))else Pv (i+1) ys H5):
 ∃W:Nat->Nat->List V->Hp->Prop,(∃m,W 0 m [] (upd H1 acc (.lst [])))/\
 ∀i m ys H2,W i m ys H2->H2 acc=some (.lst ys)/\ys.length < sizeLine/\
  ((J.stop i H2/\Qs H2)\/(J.go i H2/\∃N:List V->Hp->Prop,(∀ys' H',N ys' H'->∃m',m' < m/\W (i+1) m' ys' H')/\
    ∀x H3,J.yld i H2 x H3->g x (BK NL ix σ) H3 λσ' H4=>σ'.drop NL.length=ix.map (λj=>σ.getD j none)/\tt σ' H4 λb H5=>
     if b=true then te σ' H5 λv H6=>H6 acc=some (.lst ys)/\N (ys++[v]) (upd H6 acc (.lst (ys++[v])))else N ys H5)):=by
 refine⟨λi m ys H2=>i<=n/\m=n - i/\Pv i ys H2,⟨n,Nat.zero_le _,rfl,h0⟩,λi m ys H2 ⟨hi,hm,hp⟩=>?_⟩
 obtain⟨a1,a2⟩:=hacc i ys H2 hp
 refine⟨a1,AM (by omega),?_⟩
 rcases Nat.lt_or_ge i n with lt|ge
 ·obtain⟨go,tn⟩:=hturn i ys H2 lt hp
  exact .inr ⟨go,Pv (i+1),λys' H' hN=>⟨n - (i+1),by omega,by omega,rfl,hN⟩,tn⟩
 ·have e:i=n:=by omega
  subst e
  exact .inl (hstop ys H2 hp)
end
end L2
namespace L2
open PySem PySem.Spec PyProof.Rows
section
variable {prog:Program}{w:World}{A:Around}{E:Value->Shared->Prop}{s:Shared}
theorem Ek {it t:Addr}{i:Nat}{items:Array Value}{x:Value}{Q:Value->Shared->Prop}(hit:s.heap.IsTupleIter it t i)
 (ht:s.heap.IsTuple t items)(hx:items[i]?=some x)
 (hQ:∀h',h'.IsTupleIter it t (i+1)->Heap.SameBut it s.heap h'->Q x { s with heap:=h' }):
 wpAny (model prog w) A (Builtin.SmallTypes.nextOf (.ref it)) Q E s:=by
 obtain⟨o,ho,hc,hd⟩:=id hit
 obtain⟨ol,hol,_,nl,hdl⟩:=ht
 unfold Builtin.SmallTypes.nextOf
 refine wpAny_bind (wpAny_callSpecial?_slot (name:=Str.ofString "__next__") hit.typeIs F.slot_tuple_iterator_next
  (wpAny_call_entry F.slot_tuple_iterator_next hit.typeIs F.entry_tuple_iterator_next ?_ (F.args_tuple_iterator_next_1 _)))
 show wpAny _ _ (field (.ref it) 0 >>= _) _ _ s
 refine wpAny_bind (wpAny_field ho hd (x:=.ref t) rfl ?_)
 show wpAny _ _ (if(Value.ref t==Value.none)=true then _ else _) _ _ s
 rw[if_neg (show¬((Value.ref t==Value.none)=true)from Bool.false_ne_true)]
 show wpAny _ _ (field (.ref it) 1 >>= _) _ _ s
 refine wpAny_bind (wpAny_field ho hd (x:=.int i 0) rfl ?_)
 show wpAny _ _ (seqItems? (.ref t) >>= _) _ _ s
 refine wpAny_bind (wpAny_seqItems hol hdl ?_)
 simp only[Int.toNat_natCast,hx]
 refine wpAny_bind (wpAny_setField ho hd (by simp) (wpAny_pure ⟨x,rfl,wpAny_pure (hQ _ ?_ (Heap.SameBut.update ..))⟩))
 exact⟨_,Heap.get?_update_self _ ho (Obj.isFreed_of_fields (Obj.data_mapFields hd _)),(Obj.cls_mapFields ..).trans hc,by
  rw[Obj.data_mapFields hd];simp[rawInt]⟩
theorem FL {it t:Addr}{i:Nat}{items:Array Value}{Q:Value->Shared->Prop}(hh:A.handled=none)
 (hit:s.heap.IsTupleIter it t i)(ht:s.heap.IsTuple t items)(hx:items[i]?=none)
 (hE:∀h' e,Heap.ExtBut it s.heap h'->(∃o,h'.get? e=some o/\o.cls=.type "StopIteration")->E (.ref e) { s with heap:=h' }):
 wpAny (model prog w) A (Builtin.SmallTypes.nextOf (.ref it)) Q E s:=by
 obtain⟨o,ho,hc,hd⟩:=id hit
 obtain⟨ol,hol,_,nl,hdl⟩:=ht
 unfold Builtin.SmallTypes.nextOf
 refine wpAny_bind (wpAny_callSpecial?_slot (name:=Str.ofString "__next__") hit.typeIs F.slot_tuple_iterator_next
  (wpAny_call_entry F.slot_tuple_iterator_next hit.typeIs F.entry_tuple_iterator_next ?_ (F.args_tuple_iterator_next_1 _)))
 show wpAny _ _ (field (.ref it) 0 >>= _) _ _ s
 refine wpAny_bind (wpAny_field ho hd (x:=.ref t) rfl ?_)
 show wpAny _ _ (if(Value.ref t==Value.none)=true then _ else _) _ _ s
 rw[if_neg (show¬((Value.ref t==Value.none)=true)from Bool.false_ne_true)]
 show wpAny _ _ (field (.ref it) 1 >>= _) _ _ s
 refine wpAny_bind (wpAny_field ho hd (x:=.int i 0) rfl ?_)
 show wpAny _ _ (seqItems? (.ref t) >>= _) _ _ s
 refine wpAny_bind (wpAny_seqItems hol hdl ?_)
 simp only[Int.toNat_natCast,hx]
 refine wpAny_bind (wpAny_rule (wpAny_bind (wpAny_setField ho hd (by simp) ?_)))
 show wpAny _ _ (newExc (.type "StopIteration") [] >>= _) _ _ _
 refine wpAny_bind ?_
 simp only[newExc,newTuple]
 refine wpAny_bind (wpAny_newObj_type ?_ (by size_fits))
 refine wpAny_bind (m:=firstArgMember _ _) (wpAny_of_eq (a:=Value.none) (by first|rfl|(simp only[firstArgMember];rfl)) ?_)
 refine wpAny_newObj_type ?_ (by size_fits)
 simp only[raiseNew]
 refine wpAny_bind (wpAny_handled ?_)
 first|rw[show A.in1.handled=none from hh]|rw[hh]
 refine wpAny_bind (wpAny_pure (wpAny_throw ?_))
 exact hE _ _ (((Heap.SameBut.update ..).extBut.push _).push _) ⟨_,Heap.get?_push_size _ rfl,rfl⟩
end
theorem Jf {prog:Program}{w:World}{A:Around}(hh:A.handled=none)(it l:Addr)(hne:l≠it)(items:Array Value):
 Draws prog w A it [it,l] items.size (λi v=>items[i]?=some v) (λi h=>h.IsTupleIter it l i/\h.IsTuple l items) where
 live:=λ_ _ st=>let⟨o,ho,_⟩:=st.1;⟨o,ho⟩
 frame:=λ_ _ _ st hk=>⟨st.1.at λo e=>hk it (by simp) o e,let⟨o,ho,r⟩:=st.2;⟨o,hk l (by simp) o ho,r⟩⟩
 item:=λi s Q E hi st hQ=>by
  refine Ek st.1 st.2 (x:=items[i]) (by simp[hi]) λh' hit' hs'=>?_
  exact hQ _ h' s.toks (by simp[hi]) ⟨hit',st.2.extBut hs'.extBut hne⟩ hs'
 done:=λs Q E st hE=>FL hh st.1 st.2 (by simp) hE
theorem Mt {prog:Program}{w:World}{A:Around}(hh:A.handled=none)(it:Addr)(x:Str)(t:Tok):
 Draws prog w A it [it] x.cps.size (λi v=>∃c u,x.cps[i]?=some c/\v=.str ⟨#[c]⟩ u) (λi h=>h.IsStrIter it (strIterType x) x t i):=by
 unfold strIterType
 cases x.cps.all (·< 128)with
 |true=>exact Draws.strAscii hh it x t
 |false=>exact Draws.strWide hh it x t
inductive SK where
 |lst (a:Addr)|tup (a:Addr)|str (x:Str)
def SK.val:SK->V
 |.lst a=>.ref a
 |.tup a=>.ref a
 |.str x=>.str x
def signs (x:Str):List V:=x.cps.toList.map λc=>.str ⟨#[c]⟩
def SK.has (H:Hp):SK->List V->Prop
 |.lst a,xs=>Rd H a (.lst xs)
 |.tup a,xs=>Rd H a (.tup xs)
 |.str x,xs=>xs=signs x
def SK.own (it:Addr)(k:Nat)(h:Heap):SK->Prop
 |.lst a=>h.IsListIter it a k
 |.tup a=>h.IsTupleIter it a k
 |.str x=>∃t,h.IsStrIter it (strIterType x) x t k
theorem SK.FN {it:Addr}{k:Nat}{h h':Heap}{κ:SK}(x:κ.own it k h)(e:∀o,h.get? it=some o->h'.get? it=some o):κ.own it k h':=by
 cases κ with
 |lst a=>exact Heap.IsListIter.at x e
 |tup a=>exact Heap.IsTupleIter.at x e
 |str y=>obtain⟨t,o,ho,r⟩:=x;exact⟨t,o,e o ho,r⟩
theorem SK.Dv {it:Addr}{k:Nat}{h:Heap}{κ:SK}(x:κ.own it k h):∃o,h.get? it=some o/\(∀v,o.data≠.cell v)/\o.cls≠.type "tuple"/\o.cls≠.type "zip"/\o.cls≠.type "enumerate":=by
 cases κ with
 |lst a=>obtain⟨o,ho,c,d⟩:=x;exact⟨o,ho,(λv z=>by rw[d]at z;cases z),(λz=>by rw[c]at z;simp at z),(λz=>by rw[c]at z;simp at z),(λz=>by rw[c]at z;simp at z)⟩
 |tup a=>obtain⟨o,ho,c,d⟩:=x;exact⟨o,ho,(λv z=>by rw[d]at z;cases z),(λz=>by rw[c]at z;simp at z),(λz=>by rw[c]at z;simp at z),(λz=>by rw[c]at z;simp at z)⟩
 |str y=>
  obtain⟨t,o,ho,c,d⟩:=x
  refine⟨o,ho,(λv z=>by rw[d]at z;cases z),?_,?_,?_⟩<;>
  ·intro z
   rw[c]at z
   unfold strIterType at z
   split at z<;>simp at z
theorem Rd.inj {H:Hp}{a:Addr}{u v:HO}(hu:∀o w,u≠.frz o w)(hv:∀o w,v≠.frz o w)(x:Rd H a u)(y:Rd H a v):u=v:=by
 rcases x with x|⟨o,x⟩<;>rcases y with y|⟨p,y⟩<;>rw[x]at y
 ·exact Option.some.inj y
 ·exact absurd (Option.some.inj y) (hu p v)
 ·exact absurd (Option.some.inj y).symm (hv o u)
 ·have:=Option.some.inj y
  injection this
theorem SK.inj {H:Hp}{κ:SK}{xs ys:List V}(x:κ.has H xs)(y:κ.has H ys):xs=ys:=by
 cases κ with
 |lst a=>have:=Rd.inj (u:=.lst xs) (v:=.lst ys) (λ_ _ z=>nomatch z) (λ_ _ z=>nomatch z) x y;injection this
 |tup a=>have:=Rd.inj (u:=.tup xs) (v:=.tup ys) (λ_ _ z=>nomatch z) (λ_ _ z=>nomatch z) x y;injection this
 |str z=>exact Eq.trans x (Eq.symm y)
def SK.box:SK->List Addr
 |.lst a=>[a]
 |.tup a=>[a]
 |.str _=>[]
theorem SK.El {H:Hp}{κ:SK}{xs:List V}(x:κ.has H xs){b:Addr}(hb:b∈κ.box):H b≠none:=by
 cases κ with
 |lst a=>have e:b=a:=by simpa[SK.box]using hb
         subst e;intro z;rcases x with q|⟨o,q⟩<;>(rw[z]at q;cases q)
 |tup a=>have e:b=a:=by simpa[SK.box]using hb
         subst e;intro z;rcases x with q|⟨o,q⟩<;>(rw[z]at q;cases q)
 |str z=>simp[SK.box]at hb
section
variable {X:Cx}{pins:List (Addr×Obj)}{σ:St}{H:Hp}{s:Shared}
theorem C2 {κ:SK}{it:Addr}{k:Nat}{xs:List V}{A:Around}(I:Inv X pins σ H s)(hv:κ.has H xs)(hit:κ.own it k s.heap)(hn:H it=none)(hh:A.handled=none):
 ∃(P:Nat->Value->Prop) (St:Nat->Heap->Prop),Draws X.prog X.w A it (it::κ.box) xs.length P St/\St k s.heap/\(∀i u,P i u->∃x,xs[i]?=some x/\RelV x u)/\(∀i h,St i h->κ.own it i h):=by
 have ne:∀b∈κ.box,b≠it:=λb hb z=>SK.El hv hb (by rw[z];exact hn)
 cases κ with
 |lst a=>
  obtain⟨_,its,n,r,e⟩:=Rd.ok hv I.hok
  have hl:s.heap.IsList a its.toArray:=⟨_,e,rfl,n,rfl⟩
  have D:=Draws.list (prog:=X.prog) (w:=X.w) hh it a (ne a (by simp[SK.box])) its.toArray
  rw[List.size_toArray,<-r.length]at D
  refine⟨_,_,D,⟨hit,hl⟩,λi u hu=>?_,λi h st=>st.1⟩
  ·have hu':its[i]?=some u:=by simpa using hu
   have hlt:i < xs.length:=by rw[r.length];exact(List.getElem?_eq_some_iff.mp hu').1
   obtain⟨u',e1,e2⟩:=r.get (List.getElem?_eq_getElem hlt)
   rw[hu']at e1;cases e1
   exact⟨_,List.getElem?_eq_getElem hlt,e2⟩
 |tup a=>
  obtain⟨_,its,r,ht⟩:=Rd.ok hv I.hok
  have hl:s.heap.IsTuple a its.toArray:=ht
  have D:=Jf (prog:=X.prog) (w:=X.w) hh it a (ne a (by simp[SK.box])) its.toArray
  rw[List.size_toArray,<-r.length]at D
  refine⟨_,_,D,⟨hit,hl⟩,λi u hu=>?_,λi h st=>st.1⟩
  ·have hu':its[i]?=some u:=by simpa using hu
   have hlt:i < xs.length:=by rw[r.length];exact(List.getElem?_eq_some_iff.mp hu').1
   obtain⟨u',e1,e2⟩:=r.get (List.getElem?_eq_getElem hlt)
   rw[hu']at e1;cases e1
   exact⟨_,List.getElem?_eq_getElem hlt,e2⟩
 |str z=>
  obtain⟨t,hit⟩:=hit
  have hv':xs=signs z:=hv
  subst hv'
  have D:=Mt (prog:=X.prog) (w:=X.w) hh it z t
  have e:(signs z).length=z.cps.size:=by simp[signs]
  rw[<-e]at D
  refine⟨_,_,D,hit,λi u hu=>?_,λi h st=>⟨t,st⟩⟩
  ·obtain⟨c,u',hc,rfl⟩:=hu
   refine⟨.str ⟨#[c]⟩,?_,⟨u',rfl⟩⟩
   simp only[signs,List.getElem?_map,Array.getElem?_toList,hc,Option.map_some]
theorem Inv.Hz {ch:List Addr}{p:Addr}{o:HO}{h':Heap}{tk:Nat}(I:Inv X pins σ H s)
 (hch:∀b∈ch,B2 X pins H b)(k:∀b ob,b∉ch->s.heap.get? b=some ob->h'.get? b=some ob)(hp:s.heap.objs.size<=p)(new:Ax X.prog X.w (upd H p o) h' p o):
 Inv X pins σ (upd H p o) { s with heap:=h',toks:=tk }:=by
 have hn:H p=none:=I.hok.fresh hp
 refine I.call (g':=s.gens) (d':=s.drawn) (ch:=ch) ⟨λb u q _ _ hx=>k b u hx q,λb u q _ _ hx=>⟨u.slots,k b u hx q⟩,λb u q n _=>?_,λb u q hx=>⟨u,k b u hx q⟩,λb xs q=>?_,λb u xs q=>?_,λb ps q=>⟨#[],?_⟩⟩ (λb u e=>?_) I.bare
  λb hb=>⟨(hch b hb).2.2.2.1,(hch b hb).2.1,(hch b hb).2.2.2.2.1,(hch b hb).2.2.2.2.2⟩
 ·rw[AL (Nat.ne_of_lt (Nat.lt_of_lt_of_le (Heap.lt_size q) hp))];exact n
 ·rw[AL (AK q hn)];exact q
 ·rw[AL (AK q hn)];exact q
 ·rw[AL (AK q hn),q];simp
 ·by_cases hb:b=p
  ·subst hb;rw[AD]at e;cases e;exact new
  ·rw[AL hb]at e
   refine(I.hok b u e).F2 (λc v hc q=>k c v (λhm=>?_) q) (λc q=>by rw[AL (AK q hn)];exact q) λc xs q=>by rw[AL (AK q hn)];exact q
   have z:=(hch c hm).1
   rcases hc with hc|hc
   ·rw[hc,e]at z;cases z
   ·rw[hc]at z;cases z
theorem Inv.BF {ch:List Addr}{h':Heap}{tk:Nat}(I:Inv X pins σ H s)
 (hch:∀b∈ch,B2 X pins H b)(k:∀b ob,b∉ch->s.heap.get? b=some ob->h'.get? b=some ob):Inv X pins σ H { s with heap:=h',toks:=tk }:=by
 refine I.call (g':=s.gens) (d':=s.drawn) (ch:=ch) ⟨λb u q _ _ hx=>k b u hx q,λb u q _ _ hx=>⟨u.slots,k b u hx q⟩,λb u q n _=>n,λb u q hx=>⟨u,k b u hx q⟩,λb xs q=>q,λb u xs q=>q,λb ps q=>⟨#[],by rw[q];simp⟩⟩ (λb u e=>?_) I.bare
  λb hb=>⟨(hch b hb).2.2.2.1,(hch b hb).2.1,(hch b hb).2.2.2.2.1,(hch b hb).2.2.2.2.2⟩
 refine(I.hok b u e).F2 (λc v hc q=>k c v (λhm=>?_) q) (λ_ q=>q) λ_ _ q=>q
 have z:=(hch c hm).1
 rcases hc with hc|hc
 ·rw[hc,e]at z;cases z
 ·rw[hc]at z;cases z
end
def Qb (κ:SK):It:=
 ⟨λi H=>∃xs x,κ.has H xs/\xs[i]?=some x,λi H v H'=>∃p x,v=.ref p/\H p=none/\H'=upd H p (.tup [.int i,x])/\∀xs,κ.has H xs->xs[i]?=some x,λi H=>∃xs,κ.has H xs/\xs.length=i⟩
theorem Mu {P:Program}{w:World}{K:PySem.W.Frag}{elts:List Expr}{x1:Nat}{tpos:Pos}(κ:SK)(e it:Addr)(hei:e≠it):
 Turn P w K (.Tuple elts x1 tpos) (Qb κ) [e,it] e (λi h=>(∃old,IsEnum h e it i old)/\κ.own it i h) where
 mem:=by simp
 obj:=λi h st b hb=>by
  obtain⟨⟨old,he⟩,ho⟩:=st
  simp only[List.mem_cons,List.not_mem_nil,or_false]at hb
  rcases hb with rfl|rfl
  ·exact⟨_,he,λv z=>by
    have z':Data.fields _=Data.cell v:=z
    cases z'⟩
  ·obtain⟨o,h1,h2,_⟩:=SK.Dv ho
   exact⟨o,h1,h2⟩
 keep:=λi h h' st k=>by
  obtain⟨⟨old,he⟩,ho⟩:=st
  exact⟨⟨old,k e (by simp) _ he⟩,SK.FN ho λo q=>k it (by simp) o q⟩
 item:=by
  intro X hP hw hK hc i pins s σ H E I hf st hg
  subst hP hw hK
  obtain⟨⟨old,he⟩,ho⟩:=st
  obtain⟨xs,x,hx,hxi⟩:=hg
  have hlt:i < xs.length:=(List.getElem?_eq_some_iff.mp hxi).1
  have hh:X.A.in1.handled=none:=I.ok.hd hc
  obtain⟨Pp,St,D,hst,hrel,hown⟩:=C2 (A:=X.A.in1) I hx ho (hf it (by simp)).1 hh
  have hef:e∉it::κ.box:=λz=>by
   rcases List.mem_cons.mp z with z|z
   ·exact hei z
   ·exact SK.El hx z (hf e (by simp)).1
  refine wpAny_pyNext_enum_itemD D he hst hlt hei hef λy h' tk hy ho' hst' hT hsz hk=>⟨_,rfl,?_⟩
  refine wpAny_letOwnedTupleGo_enum ho' λh'' he'' hs''=>?_
  obtain⟨x',hx',rx⟩:=hrel i y hy
  have exx:x'=x:=Option.some.inj (hx'.symm.trans hxi)
  subst exx
  have kk:∀b ob,b∉[e,it]->s.heap.get? b=some ob->h''.get? b=some ob:=λb ob hb q=>
   (hs''.2 b (λz=>hb (by simp[z]))).trans (hk b ob (λz=>hb (by simp[z])) (λz=>hb (by simp[z])) q)
  have ne:s.heap.objs.size≠e:=Nat.ne_of_gt (Heap.lt_size he)
  have hT':h''.get? s.heap.objs.size=some { cls:=.type "tuple",data:=.seq #[.int i tk,y] }:=(hs''.2 _ ne).trans hT
  refine⟨.ref s.heap.objs.size,upd H s.heap.objs.size (.tup [.int i,x']),I.Hz (tk:=tk+1) hf kk (Nat.le_refl _) ⟨⟨(by show 2<=sizeLine;decide),_,hT',rfl⟩,[.int i tk,y],.cons ⟨tk,rfl⟩ (.cons rx .nil),_,hT',rfl,0,rfl⟩,rfl,
   ⟨_,x',rfl,I.hok.fresh (Nat.le_refl _),rfl,λys hy'=>by rw[SK.inj hy' hx];exact hxi⟩,⟨⟨y,by simpa using he''⟩,SK.FN (hown _ _ hst') λo q=>(hs''.2 it (Ne.symm hei)).trans q⟩,λb hb=>?_⟩
  obtain⟨o,hob,_⟩:∃o,s.heap.get? b=some o/\True:=by
   simp only[List.mem_cons,List.not_mem_nil,or_false]at hb
   rcases hb with rfl|rfl
   ·exact⟨_,he,trivial⟩
   ·obtain⟨o,h1,_⟩:=SK.Dv ho;exact⟨o,h1,trivial⟩
  rw[AL (Nat.ne_of_lt (Heap.lt_size hob))]
  exact(hf b hb).1
 done:=by
  intro X hP hw hK hc i pins s σ H E I hf st hg
  subst hP hw hK
  obtain⟨⟨old,he⟩,ho⟩:=st
  obtain⟨xs,hx,hlen⟩:=hg
  have hh:X.A.in1.handled=none:=I.ok.hd hc
  obtain⟨Pp,St,D,hst,hrel,hown⟩:=C2 (A:=X.A.in1) I hx ho (hf it (by simp)).1 hh
  have hst':St xs.length s.heap:=by rw[hlen];exact hst
  refine wpAny_pyNext_enum_endD D he hst' λh' hx'=>⟨rfl,?_⟩
  have f:=hf it (by simp)
  exact I.turned (t':=s.toks) (λb o hb q=>hx' b o hb q) f.1 f.2.1 f.2.2.2.1 f.2.2.2.2.1 f.2.2.2.2.2
 self:=λ_ _ _ _ _ st h=>let⟨⟨_,he⟩,_⟩:=st;wpAny_pyIter_enum he h
open AutoSeq1 (wpAny_loadPart') in
set_option maxHeartbeats 4000000 in
theorem DS (l:Addr)(items:Array Value)(n:Nat)(dct:Option Addr)(sl:Array (Option Value)):
 Meets (Builtin.«enumerate.__new__» ⟨[.type "enumerate",.ref l],[]⟩) (λ_ R s=>s.heap.get? l=some { cls:=.type "tuple",dict:=dct,data:=.seq items n,slots:=sl }/\
  R (.ok (.ret (.ref (s.heap.push { cls:=.type "tuple_iterator",data:=.fields #[.ref l,.int 0 0] }).objs.size)))
   { s with heap:=(s.heap.push { cls:=.type "tuple_iterator",data:=.fields #[.ref l,.int 0 0] }).push { cls:=.type "enumerate",data:=.fields #[.none,.bool false,.ref s.heap.objs.size,rawInt 0,.none,.none] } }):=
 .of_wp λprog w A R s h=>by
  obtain⟨hp,g,d,tk,os⟩:=s;obtain⟨hl,h⟩:=h
  have hsub:=sub_enumerate
  have hL:Heap.IsTuple (Shared.heap ⟨hp,g,d,tk,os⟩) l items:=⟨_,hl,rfl,n,rfl⟩
  wp_walk using wpAny_loadPart' hl
  refine wpAny_stack_any λst=>wpAny_pure ?_
  split
  ·rename_i c _ _ _ _ _
   cases(c==Value.type "enumerate")
   ·wp_walk using wpAny_loadPart' hl,wpAny_pyIter_tuple hL
    exact⟨_,rfl,h⟩
   ·wp_walk using wpAny_loadPart' hl,wpAny_pyIter_tuple hL
    exact⟨_,rfl,h⟩
  ·wp_walk using wpAny_loadPart' hl,wpAny_pyIter_tuple hL
   exact⟨_,rfl,h⟩
theorem DT {prog:Program}{w:World}{A:Around}{E:Value->Shared->Prop}{s:Shared}{l:Addr}{items:Array Value}{Q:Value->Shared->Prop}(hL:s.heap.IsTuple l items)
 (h:∀h',IsEnum h' (s.heap.objs.size+1) s.heap.objs.size 0 .none->h'.IsTupleIter s.heap.objs.size l 0->h'.objs.size=s.heap.objs.size+2->
  (∀b o,s.heap.get? b=some o->h'.get? b=some o)->Q (.ref (s.heap.objs.size+1)) { s with heap:=h' }):
 wpAny (model prog w) A (call (.type "enumerate") [.ref l]) Q E s:=by
 obtain⟨⟨c,dct,dt,sl⟩,hl,hc,n,hd⟩:=hL
 replace hc:c=.type "tuple":=hc
 replace hd:dt=.seq items n:=hd
 subst hc hd
 refine callType_new F.called_enumerate (by decide) (F.typeCall_enumerate_1 _) (F.newCall_enumerate_1 _) (λobj=>F.args_object_init_2 obj _) F.entry_enumerate_new
  (DS l items n dct sl) ⟨hl,?_⟩
 have hz:(s.heap.push { cls:=.type "tuple_iterator",data:=.fields #[.ref l,.int 0 0] }).objs.size=s.heap.objs.size+1:=Heap.size_push ..
 show _/\_
 rw[hz]
 have he:IsEnum ((s.heap.push { cls:=.type "tuple_iterator",data:=.fields #[.ref l,.int 0 0] }).push
  { cls:=.type "enumerate",data:=.fields #[.none,.bool false,.ref s.heap.objs.size,rawInt 0,.none,.none] }) (s.heap.objs.size+1) s.heap.objs.size 0 .none:=by
  have:=Heap.get?_push_size (s.heap.push { cls:=.type "tuple_iterator",data:=.fields #[.ref l,.int 0 0] })
   (o:={ cls:=.type "enumerate",data:=.fields #[.none,.bool false,.ref s.heap.objs.size,rawInt 0,.none,.none] }) rfl
  rw[hz]at this;exact this
 refine⟨⟨_,he,rfl⟩,h _ he ⟨_,Heap.get?_push_of_some _ (Heap.get?_push_size _ rfl),rfl,rfl⟩ (by rw[Heap.size_push,hz]) λb o x=>Heap.get?_push_of_some _ (Heap.get?_push_of_some _ x)⟩
section
variable {X:Cx}{pins:List (Addr×Obj)}{σ:St}{H:Hp}{s:Shared}
theorem Mv {κ:SK}{xs:List V}{u:Value}{E:Value->Shared->Prop}{Q:Value->Shared->Prop}(I:Inv X pins σ H s)(hv:κ.has H xs)(r:RelV κ.val u)
 (h:∀h',IsEnum h' (s.heap.objs.size+1) s.heap.objs.size 0 .none->κ.own s.heap.objs.size 0 h'->(∀b o,s.heap.get? b=some o->h'.get? b=some o)->Q (.ref (s.heap.objs.size+1)) { s with heap:=h' }):
 wpAny (model X.prog X.w) X.A (call (.type "enumerate") [u]) Q E s:=by
 cases κ with
 |lst a=>
  cases(show u=Value.ref a from r)
  obtain⟨_,its,n,rr,e⟩:=Rd.ok hv I.hok
  exact call_enumerate_list ⟨_,e,rfl,n,rfl⟩ λh' a1 a2 _ a4=>h h' a1 a2 a4
 |tup a=>
  cases(show u=Value.ref a from r)
  obtain⟨_,its,rr,e⟩:=Rd.ok hv I.hok
  exact DT e λh' a1 a2 _ a4=>h h' a1 a2 a4
 |str x=>
  obtain⟨t,q⟩:=(show∃t,u=Value.str x t from r)
  subst q
  exact call_enumerate_str λh' a1 a2 _ a4=>h h' a1 ⟨t,a2⟩ a4
def Si (ta:TA):TI:=λσ H R=>ta σ H λvs H1=>∃κ:SK,vs=[κ.val]/\(∃xs,κ.has H1 xs)/\R (Qb κ) H1
theorem Ll {a:Expr}{ta:TA}{p pos:Pos}{elts:List Expr}{x1:Nat}{tpos:Pos}(hg:Gl X "enumerate")(hm:X.mg "enumerate"=none)(ha:PA X [a] ta)
 (hs:starEach [a] X.env=[(false,eval a X.env)]:=by rfl):PI X (.Tuple elts x1 tpos) (.Call (.Name "enumerate" p) [a] [] pos) (Si ta):=by
 intro pins s σ H R I h
 refine Call_ (CJ I hg hm boot_enumerate (PyProof.Rows.callWith_type1 (BO (ha pos pins s σ H _ I h) λus s1 ⟨vs,H1,I1,r1,q1⟩=>?_) hs rfl))
 obtain⟨κ,e,⟨xs,hx⟩,q⟩:=q1
 subst e
 obtain⟨u,rfl,ru⟩:=vals1 r1
 refine Mv I1 hx ru λh' he hi hk=>?_
 refine wpAny_pyIter_enum he ⟨s1.heap.objs.size+1,[s1.heap.objs.size+1,s1.heap.objs.size],_,_,H1,rfl,I1.kept (t':=s1.toks) hk,Mu κ _ _ (Nat.ne_of_gt (Nat.lt_succ_self _)),⟨⟨_,he⟩,hi⟩,λb hb=>?_,q⟩
 have hge:s1.heap.objs.size<=b:=by
  simp only[List.mem_cons,List.not_mem_nil,or_false]at hb
  rcases hb with rfl|rfl
  ·exact Nat.le_succ _
  ·exact Nat.le_refl _
 exact I1.GS hge (I1.hok.fresh hge)
end
structure ZA (z TI TO i1 i2:Addr)(fp1 fp2:List Addr):Prop where
 TIz:TI≠z
 TOz:TO≠z
 i1z:i1≠z
 i2z:i2≠z
 TITO:TI≠TO
 TIi1:TI≠i1
 TIi2:TI≠i2
 TOi1:TO≠i1
 TOi2:TO≠i2
 i12:i1≠i2
 z1:z∉fp1
 z2:z∉fp2
 o1:TO∉fp1
 o2:TO∉fp2
 a1:i2∉fp1
 a2:i1∉fp2
section
variable {prog:Program}{w:World}{A:Around}{E:Value->Shared->Prop}{s:Shared}
theorem GX {z TI TO i1 i2:Addr}{fp1 fp2:List Addr}{n1 n2 k:Nat}{P1 P2:Nat->Value->Prop}{S1 S2:Nat->Heap->Prop}{a b:Value}{Q:Value->Shared->Prop}(Z:ZA z TI TO i1 i2 fp1 fp2)
 (D1:Draws prog w A i1 fp1 n1 P1 S1)(D2:Draws prog w A i2 fp2 n2 P2 S2)
 (hz:IsZip s.heap z TI TO .none)(hTI:IsPair s.heap TI (.ref i1) (.ref i2))(hTO:IsPair s.heap TO a b)(h1:S1 k s.heap)(h2:S2 k s.heap)(l1:k < n1)(l2:k < n2)
 (hQ:∀x y h' tk,P1 k x->P2 k y->IsZip h' z TI TO (rawInt s.heap.objs.size)->IsPair h' TO x y->S1 (k+1) h'->S2 (k+1) h'->IsPair h' s.heap.objs.size x y->h'.objs.size=s.heap.objs.size+1->
  (∀c o,c≠z->c≠TO->c≠i1->c≠i2->s.heap.get? c=some o->h'.get? c=some o)->Q (.ref s.heap.objs.size) { s with heap:=h',toks:=tk }):
 wpAny (model prog w) A (Builtin.«zip.__next__» ⟨[.ref z],[]⟩) (λfin s'=>∃v,fin=.done (.ret v)/\Q v s') E s:=by
 obtain⟨hp,g,d,tk₀,os⟩:=s
 show wpAny _ _ (field (.ref z) 2 >>= _) _ _ _
 refine wpAny_bind (wpAny_field hz rfl (x:=.bool false) rfl ?_)
 show wpAny _ _ (field (.ref z) 3 >>= _) _ _ _
 refine wpAny_bind (wpAny_field hz rfl (x:=.ref TI) rfl ?_)
 refine wpAny_bind (wpAny_seqItems hTI rfl ?_)
 show wpAny _ _ (Builtin.SmallTypes.ownedTupleIsFree (.ref z) >>= _) _ _ _
 refine wpAny_bind ?_
 unfold Builtin.SmallTypes.ownedTupleIsFree
 refine wpAny_bind (wpAny_field hz rfl (x:=.none) rfl (wpAny_pure ?_))
 simp only[if_true]
 refine wpAny_bind (wpAny_rule ?_)
 refine wpAny_bind (wpAny_field hz rfl (x:=.ref TO) rfl ?_)
 refine wpAny_bind (wpAny_setField_rec hz (by simp) λh₁ hz₁ hs₁=>?_)
 replace hz₁:IsZip h₁ z TI TO .ellipsis:=hz₁
 replace hs₁:Heap.SameBut z hp h₁:=hs₁
 refine wpAny_bind ?_
 simp only[List.zipIdx_cons,List.zipIdx_nil,List.forIn_cons,List.forIn_nil]
 refine wpAny_bind (wpAny_bind (wpAny_onRaise ?_))
 show wpAny _ _ (Builtin.SmallTypes.nextOf (.ref i1) >>= _) _ _ _
 have h1₁:S1 k h₁:=D1.frame _ _ _ h1 λc hc o e=>hs₁.extBut _ _ (λq=>Z.z1 (q▸hc)) e
 refine wpAny_bind (D1.item k _ _ _ l1 h1₁ λx h₂ tk₂ hx h1₂ hs₂=>wpAny_pure ?_)
 replace hs₂:Heap.SameBut i1 h₁ h₂:=hs₂
 have hTO₂:IsPair h₂ TO a b:=hs₂.extBut _ _ Z.TOi1 (hs₁.extBut _ _ Z.TOz hTO)
 refine wpAny_bind (wpAny_seqItems (s:=⟨h₂,g,d,tk₂,os⟩) hTO₂ rfl ?_)
 refine wpAny_bind (wpAny_updateSeq_pair (s:=⟨h₂,g,d,tk₂,os⟩) hTO₂ λh₃ hTO₃ hs₃=>?_)
 replace hTO₃:IsPair h₃ TO x b:=hTO₃
 replace hs₃:Heap.SameBut TO h₂ h₃:=hs₃
 refine wpAny_bind (wpAny_letGo (wpAny_pure ?_))
 refine wpAny_bind (wpAny_bind (wpAny_onRaise ?_))
 show wpAny _ _ (Builtin.SmallTypes.nextOf (.ref i2) >>= _) _ _ _
 have h2₃:S2 k h₃:=D2.frame _ _ _ h2 λc hc o e=>hs₃.extBut _ _ (λq=>Z.o2 (q▸hc)) (hs₂.extBut _ _ (λq=>Z.a2 (q▸hc)) (hs₁.extBut _ _ (λq=>Z.z2 (q▸hc)) e))
 refine wpAny_bind (D2.item k _ _ _ l2 h2₃ λy h₄ tk₄ hy h2₄ hs₄=>wpAny_pure ?_)
 replace hs₄:Heap.SameBut i2 h₃ h₄:=hs₄
 have hTO₄:IsPair h₄ TO x b:=hs₄.extBut _ _ Z.TOi2 hTO₃
 refine wpAny_bind (wpAny_seqItems (s:=⟨h₄,g,d,tk₄,os⟩) hTO₄ rfl ?_)
 refine wpAny_bind (wpAny_updateSeq_pair (s:=⟨h₄,g,d,tk₄,os⟩) hTO₄ λh₅ hTO₅ hs₅=>?_)
 replace hTO₅:IsPair h₅ TO x y:=hTO₅
 replace hs₅:Heap.SameBut TO h₄ h₅:=hs₅
 refine wpAny_bind (wpAny_letGo (wpAny_pure (wpAny_pure ?_)))
 refine wpAny_bind (wpAny_seqItems (s:=⟨h₅,g,d,tk₄,os⟩) hTO₅ rfl ?_)
 refine wpAny_bind (wpAny_newTuple ?_)
 have hsz:h₅.objs.size=hp.objs.size:=by rw[hs₅.1,hs₄.1,hs₃.1,hs₂.1,hs₁.1]
 have hz₅:IsZip h₅ z TI TO .ellipsis:=hs₅.extBut _ _ Z.TOz.symm (hs₄.extBut _ _ Z.i2z.symm (hs₃.extBut _ _ Z.TOz.symm (hs₂.extBut _ _ Z.i1z.symm hz₁)))
 have hk₅:∀c o,c≠z->c≠TO->c≠i1->c≠i2->hp.get? c=some o->h₅.get? c=some o:=λc o c1 c2 c3 c4 e=>
  hs₅.extBut _ _ c2 (hs₄.extBut _ _ c4 (hs₃.extBut _ _ c2 (hs₂.extBut _ _ c3 (hs₁.extBut _ _ c1 e))))
 have h1₅:S1 (k+1) h₅:=D1.frame _ _ _ h1₂ λc hc o e=>hs₅.extBut _ _ (λq=>Z.o1 (q▸hc)) (hs₄.extBut _ _ (λq=>Z.a1 (q▸hc)) (hs₃.extBut _ _ (λq=>Z.o1 (q▸hc)) e))
 have h2₅:S2 (k+1) h₅:=D2.frame _ _ _ h2₄ λc hc o e=>hs₅.extBut _ _ (λq=>Z.o2 (q▸hc)) e
 have hzlt:z < h₅.objs.size:=Heap.lt_size hz₅
 show wpAny _ _ (Builtin.SmallTypes.ownedTupleHandOut (.ref z) (.ref h₅.objs.size) >>= _) _ _ _
 refine wpAny_bind ?_
 unfold Builtin.SmallTypes.ownedTupleHandOut
 have hz₆:IsZip (h₅.push { cls:=.type "tuple",data:=.seq #[x,y] }) z TI TO .ellipsis:=Heap.get?_push_of_some _ hz₅
 refine wpAny_bind (wpAny_setField_rec hz₆ (by simp) λh₇ hz₇ hs₇=>?_)
 replace hz₇:IsZip h₇ z TI TO (rawInt h₅.objs.size):=hz₇
 replace hs₇:Heap.SameBut z (h₅.push { cls:=.type "tuple",data:=.seq #[x,y] }) h₇:=hs₇
 refine wpAny_setField_rec hz₇ (by simp) λh₈ hz₈ hs₈=>?_
 replace hz₈:IsZip h₈ z TI TO (rawInt h₅.objs.size):=hz₈
 replace hs₈:Heap.SameBut z h₇ h₈:=hs₈
 have up:∀c o,c≠z->h₅.get? c=some o->h₈.get? c=some o:=λc o c1 e=>hs₈.extBut _ _ c1 (hs₇.extBut _ _ c1 (Heap.get?_push_of_some _ e))
 have hT₈:IsPair h₈ h₅.objs.size x y:=hs₈.extBut _ _ (Nat.ne_of_gt hzlt) (hs₇.extBut _ _ (Nat.ne_of_gt hzlt) (Heap.get?_push_size _ rfl))
 have hz8:h₈.objs.size=h₅.objs.size+1:=by rw[hs₈.1,hs₇.1,Heap.size_push]
 rw[hsz]at hz₈ hT₈ hz8
 refine wpAny_pure ⟨_,rfl,?_⟩
 show Q (.ref h₅.objs.size) _
 rw[hsz]
 exact hQ x y h₈ tk₄ hx hy hz₈ (up _ _ Z.TOz hTO₅) (D1.frame _ _ _ h1₅ λc hc o e=>up c o (λq=>Z.z1 (q▸hc)) e) (D2.frame _ _ _ h2₅ λc hc o e=>up c o (λq=>Z.z2 (q▸hc)) e) hT₈ hz8 λc o c1 c2 c3 c4 e=>up c o c1 (hk₅ c o c1 c2 c3 c4 e)
theorem Hh {z TI TO i1 i2:Addr}{fp1 fp2:List Addr}{n1 n2 k:Nat}{P1 P2:Nat->Value->Prop}{S1 S2:Nat->Heap->Prop}{a b:Value}{Q:Fin->Shared->Prop}(Z:ZA z TI TO i1 i2 fp1 fp2)
 (D1:Draws prog w A i1 fp1 n1 P1 S1)(D2:Draws prog w A i2 fp2 n2 P2 S2)
 (hz:IsZip s.heap z TI TO .none)(hTI:IsPair s.heap TI (.ref i1) (.ref i2))(hTO:IsPair s.heap TO a b)(h1:S1 k s.heap)(h2:S2 k s.heap)(hend:n1=k\/(k < n1/\n2=k))
 (hE:∀h' e tk,(∀c o,c≠z->c≠TO->c≠i1->c≠i2->s.heap.get? c=some o->h'.get? c=some o)->(∃o,h'.get? e=some o/\o.cls=.type "StopIteration")->E (.ref e) { s with heap:=h',toks:=tk }):
 wpAny (model prog w) A (Builtin.«zip.__next__» ⟨[.ref z],[]⟩) Q E s:=by
 obtain⟨hp,g,d,tk₀,os⟩:=s
 show wpAny _ _ (field (.ref z) 2 >>= _) _ _ _
 refine wpAny_bind (wpAny_field hz rfl (x:=.bool false) rfl ?_)
 show wpAny _ _ (field (.ref z) 3 >>= _) _ _ _
 refine wpAny_bind (wpAny_field hz rfl (x:=.ref TI) rfl ?_)
 refine wpAny_bind (wpAny_seqItems hTI rfl ?_)
 show wpAny _ _ (Builtin.SmallTypes.ownedTupleIsFree (.ref z) >>= _) _ _ _
 refine wpAny_bind ?_
 unfold Builtin.SmallTypes.ownedTupleIsFree
 refine wpAny_bind (wpAny_field hz rfl (x:=.none) rfl (wpAny_pure ?_))
 simp only[if_true]
 refine wpAny_bind (wpAny_rule ?_)
 refine wpAny_bind (wpAny_field hz rfl (x:=.ref TO) rfl ?_)
 refine wpAny_bind (wpAny_setField_rec hz (by simp) λh₁ hz₁ hs₁=>?_)
 replace hz₁:IsZip h₁ z TI TO .ellipsis:=hz₁
 replace hs₁:Heap.SameBut z hp h₁:=hs₁
 refine wpAny_bind ?_
 simp only[List.zipIdx_cons,List.zipIdx_nil,List.forIn_cons,List.forIn_nil]
 refine wpAny_bind (wpAny_bind (wpAny_onRaise ?_))
 show wpAny _ _ (Builtin.SmallTypes.nextOf (.ref i1) >>= _) _ _ _
 have h1₁:S1 k h₁:=D1.frame _ _ _ h1 λc hc o e=>hs₁.extBut _ _ (λq=>Z.z1 (q▸hc)) e
 rcases hend with hn|⟨l1,hn⟩
 ·subst hn
  refine wpAny_bind (D1.done _ _ _ h1₁ λh₂ e hs₂ he=>?_)
  obtain⟨oe,hoe,hce⟩:=he
  replace hs₂:Heap.ExtBut i1 h₁ h₂:=hs₂
  have hz₂:IsZip h₂ z TI TO .ellipsis:=hs₂ _ _ Z.i1z.symm hz₁
  have hez:e≠z:=λx=>by subst x;rw[hz₂]at hoe;cases hoe;simp at hce
  exact wpAny_setField_rec hz₂ (by simp) λh₃ _ hs₃=>hE h₃ e _ (λc o c1 _ c3 _ x=>hs₃.extBut _ _ c1 (hs₂ _ _ c3 (hs₁.extBut _ _ c1 x))) ⟨oe,hs₃.extBut _ _ hez hoe,hce⟩
 ·subst hn
  refine wpAny_bind (D1.item _ _ _ _ l1 h1₁ λx h₂ tk₂ hx h1₂ hs₂=>wpAny_pure ?_)
  replace hs₂:Heap.SameBut i1 h₁ h₂:=hs₂
  have hTO₂:IsPair h₂ TO a b:=hs₂.extBut _ _ Z.TOi1 (hs₁.extBut _ _ Z.TOz hTO)
  refine wpAny_bind (wpAny_seqItems (s:=⟨h₂,g,d,tk₂,os⟩) hTO₂ rfl ?_)
  refine wpAny_bind (wpAny_updateSeq_pair (s:=⟨h₂,g,d,tk₂,os⟩) hTO₂ λh₃ hTO₃ hs₃=>?_)
  replace hs₃:Heap.SameBut TO h₂ h₃:=hs₃
  refine wpAny_bind (wpAny_letGo (wpAny_pure ?_))
  refine wpAny_bind (wpAny_bind (wpAny_onRaise ?_))
  show wpAny _ _ (Builtin.SmallTypes.nextOf (.ref i2) >>= _) _ _ _
  have h2₃:=D2.frame _ _ h₃ h2 λc hc o e=>hs₃.extBut _ _ (λq=>Z.o2 (q▸hc)) (hs₂.extBut _ _ (λq=>Z.a2 (q▸hc)) (hs₁.extBut _ _ (λq=>Z.z2 (q▸hc)) e))
  refine wpAny_bind (D2.done _ _ _ h2₃ λh₄ e hs₄ he=>?_)
  obtain⟨oe,hoe,hce⟩:=he
  replace hs₄:Heap.ExtBut i2 h₃ h₄:=hs₄
  have hz₄:IsZip h₄ z TI TO .ellipsis:=hs₄ _ _ Z.i2z.symm (hs₃.extBut _ _ Z.TOz.symm (hs₂.extBut _ _ Z.i1z.symm hz₁))
  have hez:e≠z:=λx=>by subst x;rw[hz₄]at hoe;cases hoe;simp at hce
  exact wpAny_setField_rec hz₄ (by simp) λh₅ _ hs₅=>hE h₅ e _ (λc o c1 c2 c3 c4 x=>hs₅.extBut _ _ c1 (hs₄ _ _ c4 (hs₃.extBut _ _ c2 (hs₂.extBut _ _ c3 (hs₁.extBut _ _ c1 x))))) ⟨oe,hs₅.extBut _ _ hez hoe,hce⟩
end
def Sj (κ1 κ2:SK):It:=
 ⟨λi H=>∃xs ys x y,κ1.has H xs/\κ2.has H ys/\xs[i]?=some x/\ys[i]?=some y,
  λi H v H'=>∃p x y,v=.ref p/\H p=none/\H'=upd H p (.tup [x,y])/\(∀xs,κ1.has H xs->xs[i]?=some x)/\∀ys,κ2.has H ys->ys[i]?=some y,
  λi H=>∃xs ys,κ1.has H xs/\κ2.has H ys/\(xs.length=i\/(i < xs.length/\ys.length=i))⟩
theorem N7 {P:Program}{w:World}{K:PySem.W.Frag}{elts:List Expr}{x1:Nat}{tpos:Pos}(κ1 κ2:SK)(z TI TO i1 i2:Addr)(hnd:[z,TI,TO,i1,i2].Nodup):
 Turn P w K (.Tuple elts x1 tpos) (Sj κ1 κ2) [z,TI,TO,i1,i2] z (λi h=>IsZip h z TI TO .none/\IsPair h TI (.ref i1) (.ref i2)/\(∃a b,IsPair h TO a b)/\κ1.own i1 i h/\κ2.own i2 i h) where
 mem:=by simp
 obj:=λi h st b hb=>by
  obtain⟨hz,hTI,⟨a,c,hTO⟩,h1,h2⟩:=st
  simp only[List.mem_cons,List.not_mem_nil,or_false]at hb
  rcases hb with rfl|rfl|rfl|rfl|rfl
  ·exact⟨_,hz,λv y=>by have y':Data.fields _=Data.cell v:=y;cases y'⟩
  ·exact⟨_,hTI,λv y=>by have y':Data.seq _ _=Data.cell v:=y;cases y'⟩
  ·exact⟨_,hTO,λv y=>by have y':Data.seq _ _=Data.cell v:=y;cases y'⟩
  ·obtain⟨o,e1,e2,_⟩:=SK.Dv h1;exact⟨o,e1,e2⟩
  ·obtain⟨o,e1,e2,_⟩:=SK.Dv h2;exact⟨o,e1,e2⟩
 keep:=λi h h' st k=>by
  obtain⟨hz,hTI,⟨a,c,hTO⟩,h1,h2⟩:=st
  exact⟨k z (by simp) _ hz,k TI (by simp) _ hTI,⟨a,c,k TO (by simp) _ hTO⟩,SK.FN h1 λo q=>k i1 (by simp) o q,SK.FN h2 λo q=>k i2 (by simp) o q⟩
 item:=by
  intro X hP hw hK hc i pins s σ H E I hf st hg
  subst hP hw hK
  obtain⟨hz,hTI,⟨a,c,hTO⟩,h1,h2⟩:=st
  obtain⟨xs,ys,x,y,hx,hy,hxi,hyi⟩:=hg
  have l1:i < xs.length:=(List.getElem?_eq_some_iff.mp hxi).1
  have l2:i < ys.length:=(List.getElem?_eq_some_iff.mp hyi).1
  have hh:X.A.in1.handled=none:=I.ok.hd hc
  obtain⟨P1,S1,D1,s1,r1,w1⟩:=C2 (A:=X.A.in1) I hx h1 (hf i1 (by simp)).1 hh
  obtain⟨P2,S2,D2,s2,r2,w2⟩:=C2 (A:=X.A.in1) I hy h2 (hf i2 (by simp)).1 hh
  simp only[List.nodup_cons,List.mem_cons,List.not_mem_nil,or_false,not_or]at hnd
  obtain⟨⟨n1,n2,n3,n4⟩,⟨n5,n6,n7⟩,⟨n8,n9⟩,n10,_⟩:=hnd
  have nb:∀{κ:SK} {zs:List V} {b it:Addr},κ.has H zs->H b=none->b≠it->b∉it::κ.box:=λ{κ zs b it} hκ hb hne q=>by
   rcases List.mem_cons.mp q with q|q
   ·exact hne q
   ·exact SK.El hκ q hb
  have Z:ZA z TI TO i1 i2 (i1::κ1.box) (i2::κ2.box):=
   { TIz:=Ne.symm n1,TOz:=Ne.symm n2,i1z:=Ne.symm n3,i2z:=Ne.symm n4,TITO:=n5,TIi1:=n6,TIi2:=n7,TOi1:=n8,TOi2:=n9,i12:=n10
     z1:=nb hx (hf z (by simp)).1 n3,z2:=nb hy (hf z (by simp)).1 n4,o1:=nb hx (hf TO (by simp)).1 n8,o2:=nb hy (hf TO (by simp)).1 n9,a1:=nb hx (hf i2 (by simp)).1 (Ne.symm n10),a2:=nb hy (hf i1 (by simp)).1 n10 }
  have hT:s.TypeIs (.ref z) "zip":=⟨_,hz,rfl⟩
  unfold pyNext
  refine wpAny_bind (wpAny_attempt (wpAny_callSpecial?_slot (name:=Str.ofString "__next__") hT F.slot_zip_next
   (wpAny_call_entry F.slot_zip_next hT F.entry_zip_next
    (GX Z D1 D2 hz hTI hTO s1 s2 l1 l2 λu v h' tk hu hv hz' hTO' s1' s2' hT' hsz hk=>wpAny_pure ⟨_,rfl,?_⟩) (F.args_zip_next_1 _))))
  refine wpAny_letOwnedTupleGo_zip hz' λh'' hz'' hs''=>?_
  obtain⟨x',hx',rx⟩:=r1 i u hu
  obtain⟨y',hy',ry⟩:=r2 i v hv
  have ex:x'=x:=Option.some.inj (hx'.symm.trans hxi)
  have ey:y'=y:=Option.some.inj (hy'.symm.trans hyi)
  subst ex ey
  have kk:∀b ob,b∉[z,TI,TO,i1,i2]->s.heap.get? b=some ob->h''.get? b=some ob:=λb ob hb q=>
   (hs''.2 b (λe=>hb (by simp[e]))).trans (hk b ob (λe=>hb (by simp[e])) (λe=>hb (by simp[e])) (λe=>hb (by simp[e])) (λe=>hb (by simp[e])) q)
  have ne:s.heap.objs.size≠z:=Nat.ne_of_gt (Heap.lt_size hz)
  have hT'':h''.get? s.heap.objs.size=some { cls:=.type "tuple",data:=.seq #[u,v] }:=(hs''.2 _ ne).trans hT'
  refine⟨.ref s.heap.objs.size,upd H s.heap.objs.size (.tup [x',y']),I.Hz (tk:=tk) hf kk (Nat.le_refl _) ⟨⟨(by show 2<=sizeLine;decide),_,hT'',rfl⟩,[u,v],.cons rx (.cons ry .nil),_,hT'',rfl,0,rfl⟩,rfl,
   ⟨_,x',y',rfl,I.hok.fresh (Nat.le_refl _),rfl,λzs hzs=>by rw[SK.inj hzs hx];exact hxi,λzs hzs=>by rw[SK.inj hzs hy];exact hyi⟩,
   ⟨hz'',hs''.extBut _ _ (Ne.symm n1) (hk _ _ (Ne.symm n1) n5 n6 n7 hTI),⟨_,_,hs''.extBut _ _ (Ne.symm n2) hTO'⟩,SK.FN (w1 _ _ s1') λo q=>(hs''.2 i1 (Ne.symm n3)).trans q,SK.FN (w2 _ _ s2') λo q=>(hs''.2 i2 (Ne.symm n4)).trans q⟩,λb hb=>?_⟩
  have hob:∃o,s.heap.get? b=some o:=by
   simp only[List.mem_cons,List.not_mem_nil,or_false]at hb
   rcases hb with rfl|rfl|rfl|rfl|rfl
   ·exact⟨_,hz⟩
   ·exact⟨_,hTI⟩
   ·exact⟨_,hTO⟩
   ·obtain⟨o,e1,_⟩:=SK.Dv h1;exact⟨o,e1⟩
   ·obtain⟨o,e1,_⟩:=SK.Dv h2;exact⟨o,e1⟩
  obtain⟨o,hob⟩:=hob
  rw[AL (Nat.ne_of_lt (Heap.lt_size hob))]
  exact(hf b hb).1
 done:=by
  intro X hP hw hK hc i pins s σ H E I hf st hg
  subst hP hw hK
  obtain⟨hz,hTI,⟨a,c,hTO⟩,h1,h2⟩:=st
  obtain⟨xs,ys,hx,hy,hend⟩:=hg
  have hh:X.A.in1.handled=none:=I.ok.hd hc
  obtain⟨P1,S1,D1,s1,r1,w1⟩:=C2 (A:=X.A.in1) I hx h1 (hf i1 (by simp)).1 hh
  obtain⟨P2,S2,D2,s2,r2,w2⟩:=C2 (A:=X.A.in1) I hy h2 (hf i2 (by simp)).1 hh
  simp only[List.nodup_cons,List.mem_cons,List.not_mem_nil,or_false,not_or]at hnd
  obtain⟨⟨n1,n2,n3,n4⟩,⟨n5,n6,n7⟩,⟨n8,n9⟩,n10,_⟩:=hnd
  have nb:∀{κ:SK} {zs:List V} {b it:Addr},κ.has H zs->H b=none->b≠it->b∉it::κ.box:=λ{κ zs b it} hκ hb hne q=>by
   rcases List.mem_cons.mp q with q|q
   ·exact hne q
   ·exact SK.El hκ q hb
  have Z:ZA z TI TO i1 i2 (i1::κ1.box) (i2::κ2.box):=
   { TIz:=Ne.symm n1,TOz:=Ne.symm n2,i1z:=Ne.symm n3,i2z:=Ne.symm n4,TITO:=n5,TIi1:=n6,TIi2:=n7,TOi1:=n8,TOi2:=n9,i12:=n10
     z1:=nb hx (hf z (by simp)).1 n3,z2:=nb hy (hf z (by simp)).1 n4,o1:=nb hx (hf TO (by simp)).1 n8,o2:=nb hy (hf TO (by simp)).1 n9,a1:=nb hx (hf i2 (by simp)).1 (Ne.symm n10),a2:=nb hy (hf i1 (by simp)).1 n10 }
  have hT:s.TypeIs (.ref z) "zip":=⟨_,hz,rfl⟩
  unfold pyNext
  refine wpAny_bind (wpAny_attempt (wpAny_callSpecial?_slot (name:=Str.ofString "__next__") hT F.slot_zip_next
   (wpAny_call_entry F.slot_zip_next hT F.entry_zip_next (Hh Z D1 D2 hz hTI hTO s1 s2 hend λh' e tk hk he=>?_) (F.args_zip_next_1 _))))
  obtain⟨o,ho,hcl⟩:=he
  refine wpAny_bind (wpAny_isInstance (T:="StopIteration") (b:=true) ⟨o,ho,hcl⟩ isSubtype_stop ?_)
  exact wpAny_pure ⟨rfl,I.BF hf λb ob hb q=>hk b ob (λe=>hb (by simp[e])) (λe=>hb (by simp[e])) (λe=>hb (by simp[e])) (λe=>hb (by simp[e])) q⟩
 self:=λ_ _ _ _ _ st h=>wpAny_pyIter_zip st.1 h
def N8 (v:Value):SK->Obj
 |.lst _=>{ cls:=.type "list_iterator",data:=.fields #[v,.int 0 0] }
 |.tup _=>{ cls:=.type "tuple_iterator",data:=.fields #[v,.int 0 0] }
 |.str x=>{ cls:=.type (strIterType x),data:=.fields #[v,.int 0 0] }
theorem GY (v:Value)(κ:SK):(N8 v κ).isFreed=false:=by cases κ<;>rfl
def Jg (h:Heap)(v:Value)(o:Obj):Prop:=∀(prog:Program) (w:World) (A:Around) (E:Value->Shared->Prop) (s:Shared) (Q:Value->Shared->Prop),(∀b ob,h.get? b=some ob->s.heap.get? b=some ob)->Q (.ref s.heap.objs.size) { s with heap:=s.heap.push o }->wpAny (model prog w) A (pyIter v) Q E s
theorem Jh {X:Cx}{pins:List (Addr×Obj)}{σ:St}{H:Hp}{s:Shared}{κ:SK}{xs:List V}{u:Value}(I:Inv X pins σ H s)(hv:κ.has H xs)(r:RelV κ.val u):Jg s.heap u (N8 u κ):=by
 intro prog w A E s' Q k h
 cases κ with
 |lst a=>
  cases(show u=Value.ref a from r)
  obtain⟨_,its,n,rr,e⟩:=Rd.ok hv I.hok
  exact wpAny_pyIter_list (items:=its.toArray) ⟨_,k _ _ e,rfl,n,rfl⟩ h
 |tup a=>
  cases(show u=Value.ref a from r)
  obtain⟨_,its,rr,o,e,c⟩:=Rd.ok hv I.hok
  exact wpAny_pyIter_tuple (items:=its.toArray) ⟨o,k _ _ e,c⟩ h
 |str x=>
  obtain⟨t,q⟩:=(show∃t,u=Value.str x t from r)
  subst q
  exact wpAny_pyIter_strU h
theorem Ln {κ:SK}{u:Value}{h h':Heap}{it:Addr}(r:RelV κ.val u)(e:h.get? it=some (N8 u κ)):κ.own it 0 h:=by
 cases κ with
 |lst a=>cases(show u=Value.ref a from r);exact⟨_,e,rfl,rfl⟩
 |tup a=>cases(show u=Value.ref a from r);exact⟨_,e,rfl,rfl⟩
 |str x=>obtain⟨t,q⟩:=(show∃t,u=Value.str x t from r);subst q;exact⟨t,_,e,rfl,rfl⟩
abbrev TF (h:Heap)(o1:Obj):Heap:=h.push o1
abbrev TH (h:Heap)(o1 o2:Obj):Heap:=(TF h o1).push o2
abbrev TJ (h:Heap)(o1 o2:Obj):Heap:=(TH h o1 o2).push { cls:=.type "tuple",data:=.seq #[.ref h.objs.size,.ref (TF h o1).objs.size] }
abbrev TK (h:Heap)(o1 o2:Obj):Heap:=(TJ h o1 o2).push { cls:=.type "tuple",data:=.seq #[.none,.none] }
abbrev R6 (h:Heap)(o1 o2:Obj):Heap:=(TK h o1 o2).push { cls:=.type "zip",data:=.fields #[.none,.bool false,.bool false,.ref (TH h o1 o2).objs.size,.ref (TJ h o1 o2).objs.size] }
set_option maxHeartbeats 4000000 in
theorem Kr (v1 v2:Value)(o1 o2:Obj):
 Meets (Builtin.«zip.__new__» ⟨[.type "zip",v1,v2],[]⟩) (λ_ R s=>Jg s.heap v1 o1/\Jg s.heap v2 o2/\
  R (.ok (.ret (.ref (TK s.heap o1 o2).objs.size))) { s with heap:=R6 s.heap o1 o2 }):=
 .of_wp λprog w A R s h=>by
  obtain⟨hp,g,d,tk,os⟩:=s;obtain⟨hl1,hl2,h⟩:=h
  have hsub:=sub_zip
  have g1:∀(A:Around) (E:Value->Shared->Prop) (Q:Value->Shared->Prop),Q (.ref hp.objs.size) ⟨hp.push o1,g,d,tk,os⟩->wpAny (model prog w) A (pyIter v1) Q E ⟨hp,g,d,tk,os⟩:=λA E Q q=>hl1 prog w A E ⟨hp,g,d,tk,os⟩ Q (λ_ _ e=>e) q
  have g2:∀(A:Around) (E:Value->Shared->Prop) (Q:Value->Shared->Prop),Q (.ref (hp.push o1).objs.size) ⟨(hp.push o1).push o2,g,d,tk,os⟩->wpAny (model prog w) A (pyIter v2) Q E ⟨hp.push o1,g,d,tk,os⟩:=λA E Q q=>hl2 prog w A E ⟨hp.push o1,g,d,tk,os⟩ Q (λ_ _ e=>Heap.get?_push_of_some _ e) q
  wp_walk using g1 _ _ _,g2 _ _ _
  exact⟨_,rfl,h⟩
theorem Mw {prog:Program}{w:World}{A:Around}{E:Value->Shared->Prop}{s:Shared}{v1 v2:Value}{o1 o2:Obj}{Q:Value->Shared->Prop}(f1:o1.isFreed=false)(f2:o2.isFreed=false)(hl1:Jg s.heap v1 o1)(hl2:Jg s.heap v2 o2)
 (h:∀h',IsZip h' (s.heap.objs.size+4) (s.heap.objs.size+2) (s.heap.objs.size+3) .none->IsPair h' (s.heap.objs.size+2) (.ref s.heap.objs.size) (.ref (s.heap.objs.size+1))->
  IsPair h' (s.heap.objs.size+3) .none .none->h'.get? s.heap.objs.size=some o1->h'.get? (s.heap.objs.size+1)=some o2->
  (∀c o,s.heap.get? c=some o->h'.get? c=some o)->Q (.ref (s.heap.objs.size+4)) { s with heap:=h' }):
 wpAny (model prog w) A (call (.type "zip") [v1,v2]) Q E s:=by
 refine callType_new F.called_zip (by decide) (F.typeCall_zip_2 _ _) (F.newCall_zip_2 _ _) (λobj=>F.args_object_init_3 obj _ _) F.entry_zip_new
  (Kr v1 v2 o1 o2) ⟨hl1,hl2,?_⟩
 have z1:(TF s.heap o1).objs.size=s.heap.objs.size+1:=Heap.size_push ..
 have z2:(TH s.heap o1 o2).objs.size=s.heap.objs.size+2:=by rw[Heap.size_push,z1]
 have z3:(TJ s.heap o1 o2).objs.size=s.heap.objs.size+3:=by rw[Heap.size_push,z2]
 have z4:(TK s.heap o1 o2).objs.size=s.heap.objs.size+4:=by rw[Heap.size_push,z3]
 have g5:(R6 s.heap o1 o2).get? (TK s.heap o1 o2).objs.size=some _:=Heap.get?_push_size _ rfl
 have g4:(R6 s.heap o1 o2).get? (TJ s.heap o1 o2).objs.size=some _:=Heap.get?_push_of_some _ (Heap.get?_push_size _ rfl)
 have g3:(R6 s.heap o1 o2).get? (TH s.heap o1 o2).objs.size=some _:=Heap.get?_push_of_some _ (Heap.get?_push_of_some _ (Heap.get?_push_size _ rfl))
 have g2:(R6 s.heap o1 o2).get? (TF s.heap o1).objs.size=some _:=Heap.get?_push_of_some _ (Heap.get?_push_of_some _ (Heap.get?_push_of_some _ (Heap.get?_push_size _ f2)))
 have g1:(R6 s.heap o1 o2).get? s.heap.objs.size=some _:=Heap.get?_push_of_some _ (Heap.get?_push_of_some _ (Heap.get?_push_of_some _ (Heap.get?_push_of_some _ (Heap.get?_push_size _ f1))))
 show _/\_
 rw[z2,z3,z4]at g5
 rw[z1,z2]at g3
 rw[z3]at g4
 rw[z1]at g2
 rw[z4]
 exact⟨⟨_,g5,rfl⟩,h _ g5 g3 g4 g1 g2 λc o x=>
  Heap.get?_push_of_some _ (Heap.get?_push_of_some _ (Heap.get?_push_of_some _ (Heap.get?_push_of_some _ (Heap.get?_push_of_some _ x))))⟩
section
variable {X:Cx}
def T5 (ta:TA):TI:=λσ H R=>ta σ H λvs H1=>∃κ1 κ2:SK,vs=[κ1.val,κ2.val]/\(∃xs,κ1.has H1 xs)/\(∃ys,κ2.has H1 ys)/\R (Sj κ1 κ2) H1
theorem N9 {a b:Expr}{ta:TA}{p pos:Pos}{elts:List Expr}{x1:Nat}{tpos:Pos}(hg:Gl X "zip")(hm:X.mg "zip"=none)(ha:PA X [a,b] ta)
 (hs:starEach [a,b] X.env=[(false,eval a X.env),(false,eval b X.env)]:=by rfl)(hs2:starEach [b] X.env=[(false,eval b X.env)]:=by rfl):PI X (.Tuple elts x1 tpos) (.Call (.Name "zip" p) [a,b] [] pos) (T5 ta):=by
 intro pins s σ H R I h
 refine Call_ (CJ I hg hm boot_zip (PyProof.Rows.callWith_type1 (BO (ha pos pins s σ H _ I h) λus s1 ⟨vs,H1,I1,r1,q1⟩=>?_) (by rw[hs,hs2]) (by rw[hs2];rfl)))
 obtain⟨κ1,κ2,e,⟨xs,hx⟩,⟨ys,hy⟩,q⟩:=q1
 subst e
 obtain⟨u,v,rfl,ru,rv⟩:=vals2 r1
 refine Mw (GY u κ1) (GY v κ2) (Jh I1 hx ru) (Jh I1 hy rv) λh' hz hTI hTO h1 h2 hk=>?_
 refine wpAny_pyIter_zip hz ⟨s1.heap.objs.size+4,[s1.heap.objs.size+4,s1.heap.objs.size+2,s1.heap.objs.size+3,s1.heap.objs.size,s1.heap.objs.size+1],_,_,H1,rfl,I1.kept (t':=s1.toks) hk,
  N7 κ1 κ2 _ _ _ _ _ (by simp),⟨hz,hTI,⟨_,_,hTO⟩,Ln (h':=h') ru h1,Ln (h':=h') rv h2⟩,λb hb=>?_,q⟩
 have hge:s1.heap.objs.size<=b:=by
  simp only[List.mem_cons,List.not_mem_nil,or_false]at hb
  rcases hb with rfl|rfl|rfl|rfl|rfl<;>first|exact Nat.le_add_right _ _|exact Nat.le_refl _
 exact I1.GS hge (I1.hok.fresh hge)
end
theorem Lo {κ1 κ2:SK}{xs ys:List V}{g:TG}{tb:TS}{D:Ends}{σ:St}{H:Hp}(Pv:Nat->St->Hp->Prop)(h0:Pv 0 σ H)(hlen:xs.length=ys.length)(hl:∀i σ H,i<=xs.length->Pv i σ H->κ1.has H xs/\κ2.has H ys)
 (hs:∀i x y σ H p,xs[i]?=some x->ys[i]?=some y->Pv i σ H->H p=none->g (.ref p) σ (upd H p (.tup [x,y])) λσ2 H2=>tb { D with nx:=Pv (i+1),ct:=Pv (i+1),bk:=D.nx } σ2 H2)(hd:∀σ H,Pv xs.length σ H->D.nx σ H):
 ∃W:Nat->Nat->St->Hp->Prop,(∃m,W 0 m σ H)/\∀i m σ H,W i m σ H->
  ((Sj κ1 κ2).stop i H/\D.nx σ H)\/((Sj κ1 κ2).go i H/\∃N:St->Hp->Prop,(∀σ' H',N σ' H'->∃m',m' < m/\W (i+1) m' σ' H')/\∀x H',(Sj κ1 κ2).yld i H x H'->g x σ H' λσ2 H2=>tb { D with nx:=N,ct:=N,bk:=D.nx } σ2 H2):=by
 refine⟨λi m σ H=>i<=xs.length/\m=xs.length - i/\Pv i σ H,⟨xs.length,Nat.zero_le _,rfl,h0⟩,λi m σ H ⟨hi,hm,hp⟩=>?_⟩
 obtain⟨a1,a2⟩:=hl i σ H hi hp
 rcases Nat.lt_or_ge i xs.length with lt|ge
 ·have lt2:i < ys.length:=by omega
  refine .inr ⟨⟨xs,ys,xs[i],ys[i],a1,a2,List.getElem?_eq_getElem lt,List.getElem?_eq_getElem lt2⟩,Pv (i+1),λσ' H' hn=>⟨xs.length - (i+1),by omega,by omega,rfl,hn⟩,λx H' hy=>?_⟩
  obtain⟨p,x',y',rfl,hpn,rfl,e1,e2⟩:=hy
  exact hs i x' y' σ H p (e1 xs a1) (e2 ys a2) hp hpn
 ·have e:i=xs.length:=by omega
  subst e
  exact .inl ⟨⟨xs,ys,a1,a2,.inl rfl⟩,hd σ H hp⟩
theorem OA {κ:SK}{xs:List V}{g:TG}{tb:TS}{D:Ends}{σ:St}{H:Hp}(Pv:Nat->St->Hp->Prop)(h0:Pv 0 σ H)(hl:∀i σ H,i<=xs.length->Pv i σ H->κ.has H xs)
 (hs:∀(i:Nat) x σ H p,xs[i]?=some x->Pv i σ H->H p=none->g (.ref p) σ (upd H p (.tup [.int i,x])) λσ2 H2=>tb { D with nx:=Pv (i+1),ct:=Pv (i+1),bk:=D.nx } σ2 H2)(hd:∀σ H,Pv xs.length σ H->D.nx σ H):
 ∃W:Nat->Nat->St->Hp->Prop,(∃m,W 0 m σ H)/\∀i m σ H,W i m σ H->
  ((Qb κ).stop i H/\D.nx σ H)\/((Qb κ).go i H/\∃N:St->Hp->Prop,(∀σ' H',N σ' H'->∃m',m' < m/\W (i+1) m' σ' H')/\∀x H',(Qb κ).yld i H x H'->g x σ H' λσ2 H2=>tb { D with nx:=N,ct:=N,bk:=D.nx } σ2 H2):=by
 refine⟨λi m σ H=>i<=xs.length/\m=xs.length - i/\Pv i σ H,⟨xs.length,Nat.zero_le _,rfl,h0⟩,λi m σ H ⟨hi,hm,hp⟩=>?_⟩
 have a1:=hl i σ H hi hp
 rcases Nat.lt_or_ge i xs.length with lt|ge
 ·refine .inr ⟨⟨xs,xs[i],a1,List.getElem?_eq_getElem lt⟩,Pv (i+1),λσ' H' hn=>⟨xs.length - (i+1),by omega,by omega,rfl,hn⟩,λx H' hy=>?_⟩
  obtain⟨p,x',rfl,hpn,rfl,e1⟩:=hy
  exact hs i x' σ H p (e1 xs a1) hp hpn
 ·have e:i=xs.length:=by omega
  subst e
  exact .inl ⟨⟨xs,a1,rfl⟩,hd σ H hp⟩
def BU (z:Str)(lo hi:Option Int):Str:=⟨((z.cps.toList.drop (HT.Cr z.length 0 lo)).take (HT.Cr z.length z.length hi - HT.Cr z.length 0 lo)).toArray⟩
theorem Ii (i:Int)(n d:Nat):max 0 (min (if i < 0 then i+(n:Int)else i) (n:Int))=((HT.Cr n d (some i):Nat):Int):=by
 simp only[HT.Cr]
 split
 ·omega
 ·omega
theorem Dw (a b:Nat):sliceRange (a:Int) (b:Int) 1=(List.range (b - a)).map λk=>a+k:=by
 unfold sliceRange
 simp only[show((1:Int) > 0)=True from by simp,if_true]
 by_cases hlt:(a:Int) < b
 ·have e3:(((b:Int) - a+1 - 1) / 1).toNat=b - a:=by
   rw[Int.ediv_one];omega
  simp only[hlt,if_true,e3]
  refine List.map_congr_left λk _=>?_
  omega
 ·have:b - a=0:=by omega
  simp[hlt,this]
theorem Ij (lo hi:Option Int)(n:Nat):Builtin.Str.strSliceIndices lo hi 1 n=(List.range (HT.Cr n n hi - HT.Cr n 0 lo)).map λk=>HT.Cr n 0 lo+k:=by
 unfold Builtin.Str.strSliceIndices
 simp only[show((1:Int) > 0)=True from by simp,if_true]
 cases lo with
 |none=>
  cases hi with
  |none=>exact Dw 0 n
  |some j=>dsimp only;rw[Ii j n n];exact Dw 0 _
 |some i=>
  cases hi with
  |none=>dsimp only;rw[Ii i n 0];exact Dw _ n
  |some j=>dsimp only;rw[Ii i n 0,Ii j n n];exact Dw _ _
theorem Ks (z:Str)(t:Tok)(l u:Option (Int×Tok)):∀(Q:Value->Shared->Prop) (s:Shared),z.length<=sizeLine->(∀t' s',s'.heap=s.heap->s'.gens=s.gens->s'.drawn=s.drawn->s'.os=s.os->Q (.str (BU z (l.map (·.1)) (u.map (·.1))) t') s')->(sliceMade z t l u none).post Q s:=by
 intro Q s hz h
 have hidx:=Ij (l.map (·.1)) (u.map (·.1)) z.length
 have hle:HT.Cr z.length z.length (u.map (·.1))<=z.length:=HT.N1 _ _ (Nat.le_refl _) _
 have hlo:HT.Cr z.length 0 (l.map (·.1))<=z.length:=HT.N1 _ _ (Nat.zero_le _) _
 have hzl:z.length=z.cps.toList.length:=by simp[Str.length]
 have cut:((slicePicked z l u none).filterMap (z.cps[·]?))=(z.cps.toList.drop (HT.Cr z.length 0 (l.map (·.1)))).take (HT.Cr z.length z.length (u.map (·.1)) - HT.Cr z.length 0 (l.map (·.1))):=by
  have p:=StrLaws.picks z.cps.toList (HT.Cr z.length z.length (u.map (·.1)) - HT.Cr z.length 0 (l.map (·.1))) (HT.Cr z.length 0 (l.map (·.1))) (by omega)
  rw[<-p]
  unfold slicePicked
  simp only[Option.map_none,Option.getD_none]
  rw[hidx]
  congr 1
  funext k
  simp
 unfold sliceMade
 split
 ·rename_i c
  have whole:BU z (l.map (·.1)) (u.map (·.1))=z:=by
   unfold BU
   have e:(slicePicked z l u none).length=z.length:=by
    simp only[Bool.and_eq_true,beq_iff_eq]at c
    exact c.2
   have e':HT.Cr z.length z.length (u.map (·.1)) - HT.Cr z.length 0 (l.map (·.1))=z.length:=by
    unfold slicePicked at e
    simp only[Option.map_none,Option.getD_none]at e
    rw[hidx]at e
    simpa using e
   have e0:HT.Cr z.length 0 (l.map (·.1))=0:=by omega
   rw[e',e0,List.drop_zero,hzl,List.take_length]
  have:=h t s rfl rfl rfl rfl
  rw[whole]at this
  exact this
 ·rw[cut]
  have hl':(⟨((z.cps.toList.drop (HT.Cr z.length 0 (l.map (·.1)))).take (HT.Cr z.length z.length (u.map (·.1)) - HT.Cr z.length 0 (l.map (·.1)))).toArray⟩:Str).length<=sizeLine:=by
   have:(⟨((z.cps.toList.drop (HT.Cr z.length 0 (l.map (·.1)))).take (HT.Cr z.length z.length (u.map (·.1)) - HT.Cr z.length 0 (l.map (·.1)))).toArray⟩:Str).length<=z.length:=by
    simp only[Str.length,List.size_toArray,List.length_take,List.length_drop]
    have:z.cps.size=z.length:=rfl
    omega
   omega
  first
   |exact⟨hl',h _ _ rfl rfl rfl rfl⟩
   |exact h _ _ rfl rfl rfl rfl
def T6:V->Option Int->Option Int->Hp->VK->Prop:=λx lo hi H Q=>∃z,x=.str z/\z.length<=sizeLine/\Q (.str (BU z lo hi)) H
theorem Bk {X:Cx}:Tu X T6:=by
 intro pins s σ H x v vl vu lo hi sl Q I rx hs pl pu h
 obtain⟨z,rfl,hz,q⟩:=h
 obtain⟨t,rfl⟩:=rx
 refine⟨"str",_,F.slot_str_getitem.lookup,typeIs_str s z t,?_⟩
 have part:∀{v:Value} {o:Option Int},IsPart v o->∃p:Option (Int×Tok),v=partValue p/\p.map (·.1)=o:=λ{v o} p=>by
  cases p with
  |none=>exact⟨none,rfl,rfl⟩
  |int i t=>exact⟨some (i,t),rfl,rfl⟩
 obtain⟨l,rfl,rfl⟩:=part pl
 obtain⟨u,rfl,rfl⟩:=part pu
 refine wpAny_getItem_str_slice (l:=l) (u:=u) (st:=none) hs rfl (Ks z t l u _ s hz λt' s' e1 e2 e3 e4=>⟨.str _,H,?_,⟨t',rfl⟩,q⟩)
 obtain⟨hp,g,d,tk,os⟩:=s'
 cases e1;cases e2;cases e3;cases e4
 exact I.tok tk
theorem Mx (z:Str)(k:Nat):(BU z (some (k:Int)) none).cps.toList=z.cps.toList.drop k:=by
 unfold BU
 have hzl:z.length=z.cps.toList.length:=by simp[Str.length]
 simp only[HT.Ib,HT.GU]
 rcases Nat.le_total k z.length with h|h
 ·rw[Nat.min_eq_left h]
  exact List.take_of_length_le (by rw[List.length_drop];omega)
 ·rw[Nat.min_eq_right h,Nat.sub_self,List.take_zero]
  exact(List.drop_eq_nil_of_le (by omega)).symm
theorem Em (z:Str)(k:Nat):(BU z none (some (k:Int))).cps.toList=z.cps.toList.take k:=by
 unfold BU
 have hzl:z.length=z.cps.toList.length:=by simp[Str.length]
 simp only[HT.Ib,HT.GU,List.drop_zero,Nat.sub_zero]
 rcases Nat.le_total k z.length with h|h
 ·rw[Nat.min_eq_left h]
 ·rw[Nat.min_eq_right h,hzl,List.take_length]
  exact(List.take_of_length_le (by omega)).symm
theorem DU {X:Cx}:Bg X (.builtin "isinstance") (λvs H Q=>∃x t T b,vs=[x,.ty T]/\FI X.K H x t/\PySem.W.kitOne X.K t (.type T)=some b/\Q (.bl b) H):=by
 intro pins s σ H xs us Q I r h
 obtain⟨x,t,T,b,rfl,ty,e,q⟩:=h
 obtain⟨u,v,rfl,ru,rv⟩:=vals2 r
 cases(show v=Value.type T from rv)
 exact Mj I ru ty e λtk=>⟨.bl b,H,I.tok tk,rfl,q⟩
end L2
namespace L2
open PySem PySem.Spec PyProof.Rows
theorem En {X:Cx}{scope:Scope}{NL:List Str}{ix:List Nat}(esc:Scope)(N:List Str)(h1:X.env.scope=esc:=by rfl)(h2:X.N=N:=by rfl)(c1:scope.kind=.function:=by rfl)
 (c2:∀y∈scope.names,y.2≠.cell:=by decide+kernel)(c3:∀y∈scope.names,y.2=.local->scope.names.lookup y.1=some .local:=by decide+kernel)
 (c4:∀y∈scope.names,y.2=.free->esc.names.lookup y.1=some .cell\/esc.names.lookup y.1=some .free:=by decide+kernel)
 (c5:∀j∈ix,(N[j]?).bind (λx=>scope.names.lookup x)=some .free:=by decide+kernel):Bn X scope NL ix where
 kind:=c1
 cell:=c2
 names:=c3
 free:=λy hy hf=>by
  have:=c4 y hy hf
  rw[<-h1]at this
  exact this
 cap:=λj hj=>by
  have:=c5 j hj
  rw[h2]
  cases e:N[j]? with
  |none=>rw[e]at this;cases this
  |some x=>rw[e]at this;exact⟨x,rfl,this⟩
def A9 (P:Program)(w:World)(K:PySem.W.Frag)(mg:Str->Option Value)(base:Heap)(x:Str)(k:Nat)(ps:List Str)(sp:Sp):Prop:=
 ∃f fd,F3 P w K mg base CX0 k f fd ps sp/\Binds K fd ps []/\PySem.W.keepIn K (.ref f)=true/\mg x=some (.ref f)
section
variable {P:Program}{w:World}{K:PySem.W.Frag}{mg:Str->Option Value}{base:Heap}
theorem A9.mono {x:Str}{j k:Nat}{ps:List Str}{sp:Sp}(G:A9 P w K mg base x j ps sp)(h:j<=k):A9 P w K mg base x k ps sp:=
 let⟨f,fd,F,r⟩:=G;⟨f,fd,F.mono h,r⟩
def Df (K:PySem.W.Frag)(mg:Str->Option Value)(x:Str)(st:Stmt):Prop:=∃f fd,Q8 K x x st f fd/\mg x=some (.ref f)
theorem Df.has {x:Str}{st:Stmt}{N ps:List Str}{k:Nat}{sp:Sp}(D:Df K mg x st)(S:AX N ps (AG st))
 (hb:∀(kV doc pm:Value) (an:Option Addr) (cdv ct:Value) (us:List Value),us.length=ps.length->bindArgs (PySem.W.fnOf x x (DA st) (CA st) (AG st) .none kV doc pm an cdv ct) ⟨us,[]⟩=pure (ps.zip us))
 (len:∀vs H Q E,sp vs H Q E->vs.length=ps.length)
 (hbody:∀(f:Addr) (cdv:Value) (A:Around) (outer:List Env) (s:Shared) (H:Hp) (vs:List V) (Q:VK) (E:XK),CK k (A.deeper (envOfC x (AG st) s.heap.objs.size f cdv))->sp vs H Q E->
  ∃t,Kj (JZ CX0 P w K mg base N x (AG st) f cdv A outer s H E).Qt (CA st) t/\t { nx:=λ_ H'=>Q .non H',rt:=Q } (start N vs) H):A9 P w K mg base x (k+1) ps sp:=by
 obtain⟨f,fd,F,m⟩:=D
 exact⟨f,fd,F.ok S len λcdv A outer s H vs Q E hr h=>hbody f cdv A outer s H vs Q E hr h,F.binds hb,F.kp,m⟩
end
theorem AH {X:Cx}{x:Str}{k:Nat}{ps:List Str}{sp:Sp}{p pos:Pos}{e:Expr}{es:List Expr}{t:TA}(G:A9 X.prog X.w X.K X.mg X.base x k ps sp)(hr:CK k X.A)(hg:Gl X x)(ha:PA X (e::es) t)
 (hdb:(x==("__debug__":Str))=false:=by decide)(he:starEach (e::es) X.env=(false,eval e X.env)::starEach es X.env:=by rfl)(hpl:(backTo pos (starEach es X.env)).any (·.1)=false:=by rfl):
 PE X (.Call (.Name x p) (e::es) [] pos) (QW sp [] E0 t):=by
 obtain⟨f,fd,F,b,kp,m⟩:=G
 exact Pb F hr hg m kp b .nil Sh ha hdb he hpl
structure Blt (mg:Str->Option Value):Prop where
 len:mg "len"=none
 range:mg "range"=none
 zip:mg "zip"=none
 enumerate:mg "enumerate"=none
 max:mg "max"=none
 min:mg "min"=none
 int_:mg "int"=none
 str_:mg "str"=none
 bool_:mg "bool"=none
 list_:mg "list"=none
 tuple_:mg "tuple"=none
 isinstance:mg "isinstance"=none
section
variable {p q:Addr}{H H1 H2:Hp}{o:HO}
end
theorem Aa:bootBuiltins "len"=some (.builtin "len"):=by decide+kernel
theorem ES:bootBuiltins "max"=some (.builtin "max"):=by decide+kernel
theorem FO:bootBuiltins "min"=some (.builtin "min"):=by decide+kernel
theorem B4:bootBuiltins "sorted"=some (.builtin "sorted"):=by decide+kernel
theorem Cs:bootBuiltins "isinstance"=some (.builtin "isinstance"):=by decide+kernel
theorem Ku:bootBuiltins "int"=some (.type "int"):=by decide+kernel
theorem RA:bootBuiltins "str"=some (.type "str"):=by decide+kernel
theorem Ph:bootBuiltins "bool"=some (.type "bool"):=by decide+kernel
theorem Pj:bootBuiltins "list"=some (.type "list"):=by decide+kernel
theorem OB:bootBuiltins "tuple"=some (.type "tuple"):=by decide+kernel
theorem AJ.new {H0 H:Hp}{q:Addr}{o:HO}(h:AJ H0 H)(hq:H q=none):AJ H0 (upd H q o):=λb u e=>by
 have:=h b u e
 rw[AL (AK this hq)];exact this
theorem AJ.write {H0 H:Hp}{q:Addr}{o:HO}(h:AJ H0 H)(hq:H0 q=none):AJ H0 (upd H q o):=λb u e=>by
 rw[AL (AK e hq)];exact h b u e
theorem app_list (a y:Str):(a++y).cps.toList=a.cps.toList++y.cps.toList:=by
 show(a.cps++y.cps).toList=_
 simp
end L2
namespace L2
open PySem PySem.Spec PyProof.Rows
section
variable {X:Cx}
theorem Hi:UN X "str.startswith" (λx vs H Q=>∃z p,x=.str z/\vs=[.str p]/\Q (.bl (Txt.startswith z p)) H):=by
 intro pins s σ H x xs v us Q I rx rv h
 obtain⟨z,p,rfl,rfl,q⟩:=h
 obtain⟨t,rfl⟩:=rx
 obtain⟨u,rfl,t',rfl⟩:=rv.one
 exact SC.startswith ⟨.bl _,H,I,rfl,q⟩
theorem IA {o e:Expr}{to te:TE}{apos cpos:Pos}(ho:PE X o to)(he:PE X e te)(hbase:attributeBase o "startswith" X.env (eval o X.env)=eval o X.env:=by rfl)
 (h1:starEach [e] X.env=[(false,eval e X.env)]:=by rfl)(hl:(apos.endLine==cpos.line)=true:=by rfl):
 PE X (.Call (.Attribute o "startswith" apos) [e] [] cpos) (QY X.K "str" (λx vs H Q=>∃z p,x=.str z/\vs=[.str p]/\Q (.bl (Txt.startswith z p)) H) to (Fo te JY)):=
 Ej PySem.F.plainAttrs_str PySem.F.slot_str_startswith PySem.F.type_str_startswith Hi ho (AA he AB h1) hbase (by rw[h1];rfl) hl h1 (by rfl)
theorem CS (K:PySem.W.Frag){o e:Expr}{to te:TE}{apos cpos:Pos}(ho:PE X o to)(he:PE X e te)(hK:X.K=K:=by rfl)(hbase:attributeBase o "startswith" X.env (eval o X.env)=eval o X.env:=by rfl)
 (h1:starEach [e] X.env=[(false,eval e X.env)]:=by rfl)(hl:(apos.endLine==cpos.line)=true:=by rfl):
 Ms X [.Call (.Attribute o "startswith" apos) [e] [] cpos] (tB (QY K "str" (λx vs H Q=>∃z p,x=.str z/\vs=[.str p]/\Q (.bl (Txt.startswith z p)) H) to (Fo te JY))):=by
 subst hK
 exact Bx (C7 (IA ho he hbase h1 hl))
theorem Eo (K:PySem.W.Frag){es:List Expr}{k:Nat}{t:QT}{n:Nat}{pos:Pos}(hc:X.calm=true)(h:SN X es t)(hK:X.K=K:=by rfl)(hn:(assignEach es X.env).length=n:=by rfl)
 (hst:(assignEach es X.env).findIdx? (·.1)=none:=by rfl):PG X (.Tuple es k pos) (SR K n t):=by
 subst hK
 exact EM hc h hn hst
theorem Cb:∀{ys:List Str} {us:List Value},Vals (ys.map V.str) us->StrsAre us ys
 |[],[],_=>.nil
 |[],_::_,h=>nomatch h
 |_::_,[],h=>nomatch h
 |y::r,u::us,h=>by
  cases h with
  |cons a b=>
   obtain⟨t,rfl⟩:=a
   exact .cons y t (Cb b)
theorem Kv:Eg X (binaryOp .Mult) (λx y H Q=>∃z n,x=.str z/\y=.int n/\MulOk z n/\Q (.str (Txt.mul z n)) H):=by
 intro pins s σ H x y v u Q I rx ry h
 obtain⟨z,n,rfl,rfl,hok,q⟩:=h
 obtain⟨t,rfl⟩:=rx
 obtain⟨t',rfl⟩:=ry
 exact SB.mul hok λt' k=>⟨.str _,H,I.tok k,⟨t',rfl⟩,q⟩
def DV (xs ys:List V)(j:Nat):Bool:=match xs[j]?,ys[j]? with
 |some x,some y=>JQ x y
 |_,_=>false
def EC (xs ys:List V):Bool:=xs.length==ys.length&&(List.range xs.length).all (DV xs ys)
theorem FP (ns ms:List Int):EC (ns.map V.int) (ms.map V.int)=decide (ns=ms):=by
 rw[Bool.eq_iff_iff]
 unfold EC
 simp only[Bool.and_eq_true,beq_iff_eq,List.length_map,List.all_eq_true,List.mem_range,decide_eq_true_eq]
 constructor
 ·rintro⟨h1,h2⟩
  apply List.ext_getElem h1
  intro j a b
  have:=h2 j a
  unfold DV at this
  rw[List.getElem?_map,List.getElem?_map,List.getElem?_eq_getElem a,List.getElem?_eq_getElem b]at this
  simpa[JQ]using this
 ·rintro rfl
  refine⟨rfl,λj hj=>?_⟩
  unfold DV
  rw[List.getElem?_map,List.getElem?_eq_getElem hj]
  simp[JQ]
theorem FQ (ns ms:List Str):EC (ns.map V.str) (ms.map V.str)=decide (ns=ms):=by
 rw[Bool.eq_iff_iff]
 unfold EC
 simp only[Bool.and_eq_true,beq_iff_eq,List.length_map,List.all_eq_true,List.mem_range,decide_eq_true_eq]
 constructor
 ·rintro⟨h1,h2⟩
  apply List.ext_getElem h1
  intro j a b
  have:=h2 j a
  unfold DV at this
  rw[List.getElem?_map,List.getElem?_map,List.getElem?_eq_getElem a,List.getElem?_eq_getElem b]at this
  simpa[JQ]using this
 ·rintro rfl
  refine⟨rfl,λj hj=>?_⟩
  unfold DV
  rw[List.getElem?_map,List.getElem?_eq_getElem hj]
  simp[JQ]
theorem Bo (ns:List Int):(ns.map V.int).all CO=true:=by
 rw[List.all_eq_true];intro x hx;obtain⟨n,_,rfl⟩:=List.mem_map.mp hx;rfl
theorem Bp (ns:List Str):(ns.map V.str).all CO=true:=by
 rw[List.all_eq_true];intro x hx;obtain⟨n,_,rfl⟩:=List.mem_map.mp hx;rfl
theorem GZ {A:Around}{s:Shared}{xs ys:List V}{us ws:List Value}(r1:Vals xs us)(r2:Vals ys ws)(f1:xs.all CO=true)(f2:ys.all CO=true)(j:Nat)(h1:j < us.toArray.size)(h2:j < ws.toArray.size):
 SeqAt.EqAt A s us.toArray[j] ws.toArray[j] (DV xs ys j):=by
 have g1:j < xs.length:=by rw[r1.length];simpa using h1
 have g2:j < ys.length:=by rw[r2.length];simpa using h2
 obtain⟨u,e1,q1⟩:=r1.get (List.getElem?_eq_getElem g1)
 obtain⟨v,e2,q2⟩:=r2.get (List.getElem?_eq_getElem g2)
 have d1:us.toArray[j]=u:=by
  rw[List.getElem?_eq_getElem (by simpa using h1)]at e1
  simpa using Option.some.inj e1
 have d2:ws.toArray[j]=v:=by
  rw[List.getElem?_eq_getElem (by simpa using h2)]at e2
  simpa using Option.some.inj e2
 rw[d1,d2]
 unfold DV
 rw[List.getElem?_eq_getElem g1,List.getElem?_eq_getElem g2]
 exact N4 q1 q2 (List.all_eq_true.mp f1 _ (List.getElem_mem g1)) (List.all_eq_true.mp f2 _ (List.getElem_mem g2))
theorem Dx (hu:X.A.units < cLine):Eg X (compareOp .Eq) (λx y H Q=>∃a b xs ys,x=.ref a/\y=.ref b/\AZ X.K H a xs/\AZ X.K H b ys/\xs.all CO=true/\ys.all CO=true/\Q (.bl (EC xs ys)) H):=by
 intro pins s σ H x y v u Q I rx ry h
 obtain⟨a,b,xs,ys,rfl,rfl,h1,h2,f1,f2,q⟩:=h
 cases(show v=Value.ref a from rx)
 cases(show u=Value.ref b from ry)
 obtain⟨us,r1,l1,_⟩:=I.list h1
 obtain⟨ws,r2,l2,_⟩:=I.list h2
 have e1:=r1.length
 have e2:=r2.length
 by_cases hl:xs.length=ys.length
 ·refine SeqAt.eq_listAt (e:=DV xs ys) l1.isList l2.isList (by simp;omega) hu (λj g1 g2=>GZ r1 r2 f1 f2 j g1 g2) ⟨.bl _,H,I,rfl,?_⟩
  have:EC xs ys=(List.range us.toArray.size).all (DV xs ys):=by
   unfold EC
   rw[List.size_toArray,<-e1,beq_iff_eq.mpr hl,Bool.true_and]
  rw[<-this];exact q
 ·refine SeqAt.eq_list_lengthsAt l1.isList l2.isList (by simp;omega) hu ⟨.bl _,H,I,rfl,?_⟩
  have:EC xs ys=false:=by
   unfold EC
   have:(xs.length==ys.length)=false:=by simpa using hl
   rw[this];rfl
  rw[this]at q;exact q
end
section
variable {NL:List Str}{ix:List Nat}{g:TG}{tt:TT}{te:TE}{σ:St}{H1:Hp}{Qs:Hp->Prop}{acc:Addr}
theorem Aq {K:PySem.W.Frag}{a:Addr}{xs:List V}(hn:xs.length < 1000)(Pv:Nat->List V->Hp->Prop)
 (hl:∀i ys H2,Pv i ys H2->AZ K H2 a xs)(hacc:∀i ys H2,Pv i ys H2->H2 acc=some (.lst ys)/\ys.length<=i)(h0:Pv 0 [] (upd H1 acc (.lst [])))(hstop:∀ys H2,Pv xs.length ys H2->Qs H2)
 (hturn:∀i x ys H2,xs[i]?=some x->Pv i ys H2->g x (BK NL ix σ) H2 λσ' H4=>σ'.drop NL.length=ix.map (λj=>σ.getD j none)/\tt σ' H4 λb H5=>
  if b=true then te σ' H5 λv H6=>H6 acc=some (.lst ys)/\Pv (i+1) (ys++[v]) (upd H6 acc (.lst (ys++[v])))else Pv (i+1) ys H5):
 ∃W:Nat->Nat->List V->Hp->Prop,(∃m,W 0 m [] (upd H1 acc (.lst [])))/\
 ∀i m ys H2,W i m ys H2->H2 acc=some (.lst ys)/\ys.length < sizeLine/\
  (((Nu K a).stop i H2/\Qs H2)\/((Nu K a).go i H2/\∃N:List V->Hp->Prop,(∀ys' H',N ys' H'->∃m',m' < m/\W (i+1) m' ys' H')/\
    ∀x H3,(Nu K a).yld i H2 x H3->g x (BK NL ix σ) H3 λσ' H4=>σ'.drop NL.length=ix.map (λj=>σ.getD j none)/\tt σ' H4 λb H5=>
     if b=true then te σ' H5 λv H6=>H6 acc=some (.lst ys)/\N (ys++[v]) (upd H6 acc (.lst (ys++[v])))else N ys H5)):=by
 refine By xs.length hn Pv hacc h0 (λys H2 hp=>⟨⟨xs,hl _ _ _ hp,Nat.le_refl _⟩,hstop ys H2 hp⟩) λi ys H2 hi hp=>?_
 have hs:=hl _ _ _ hp
 refine⟨⟨xs,xs[i],hs,List.getElem?_eq_getElem hi⟩,?_⟩
 rintro x H3 ⟨rfl,hx⟩
 exact hturn i x ys H3 (hx xs hs) hp
theorem My {κ:SK}{xs:List V}(hn:xs.length < 1000)(Pv:Nat->List V->Hp->Prop)
 (hl:∀i ys H2,Pv i ys H2->κ.has H2 xs)(hacc:∀i ys H2,Pv i ys H2->H2 acc=some (.lst ys)/\ys.length<=i)(h0:Pv 0 [] (upd H1 acc (.lst [])))(hstop:∀ys H2,Pv xs.length ys H2->Qs H2)
 (hturn:∀(i:Nat) x ys H2 p,xs[i]?=some x->Pv i ys H2->H2 p=none->g (.ref p) (BK NL ix σ) (upd H2 p (.tup [.int i,x])) λσ' H4=>σ'.drop NL.length=ix.map (λj=>σ.getD j none)/\tt σ' H4 λb H5=>
  if b=true then te σ' H5 λv H6=>H6 acc=some (.lst ys)/\Pv (i+1) (ys++[v]) (upd H6 acc (.lst (ys++[v])))else Pv (i+1) ys H5):
 ∃W:Nat->Nat->List V->Hp->Prop,(∃m,W 0 m [] (upd H1 acc (.lst [])))/\
 ∀i m ys H2,W i m ys H2->H2 acc=some (.lst ys)/\ys.length < sizeLine/\
  (((Qb κ).stop i H2/\Qs H2)\/((Qb κ).go i H2/\∃N:List V->Hp->Prop,(∀ys' H',N ys' H'->∃m',m' < m/\W (i+1) m' ys' H')/\
    ∀x H3,(Qb κ).yld i H2 x H3->g x (BK NL ix σ) H3 λσ' H4=>σ'.drop NL.length=ix.map (λj=>σ.getD j none)/\tt σ' H4 λb H5=>
     if b=true then te σ' H5 λv H6=>H6 acc=some (.lst ys)/\N (ys++[v]) (upd H6 acc (.lst (ys++[v])))else N ys H5)):=by
 refine By xs.length hn Pv hacc h0 (λys H2 hp=>⟨⟨xs,hl _ _ _ hp,rfl⟩,hstop ys H2 hp⟩) λi ys H2 hi hp=>?_
 have hs:=hl _ _ _ hp
 refine⟨⟨xs,xs[i],hs,List.getElem?_eq_getElem hi⟩,?_⟩
 rintro x H3 ⟨p,x',rfl,hpn,rfl,hx⟩
 exact hturn i x' ys H2 p (hx xs hs) hp hpn
end
theorem Ik (K:PySem.W.Frag):PySem.W.kitOne K (.type "int") (.type "bool")=some false:=by rfl
theorem Ji (K:PySem.W.Frag)(T:String):PySem.W.kitOne K (.type T) (.type T)=some true:=by
 unfold PySem.W.kitOne
 rw[if_pos (beq_self_eq_true _)]
theorem Ga (xs:Array Nat):∀(n:Nat) (acc:Array Nat),((List.replicate n xs).foldl (·++·) acc).size=acc.size+n*xs.size
 |0,acc=>by simp
 |n+1,acc=>by
  rw[List.replicate_succ,List.foldl_cons,Ga xs n,Array.size_append,Nat.succ_mul]
  omega
theorem Pk {c:Nat}{n:Int}(h:0<=n):(Txt.mul ⟨#[c]⟩ n).cps.toList.length=n.toNat:=by
 unfold Txt.mul
 split
 ·have:n.toNat=0:=by omega
  rw[this];rfl
 ·split
  ·rename_i h1 h2
   have h3:n=1:=by
    simp only[Bool.or_eq_true,beq_iff_eq]at h2
    rcases h2 with h2|h2
    ·exact h2
    ·have h4:(⟨#[c]⟩:Str).length=1:=rfl
     omega
   subst h3;rfl
  ·rw[Array.length_toList]
   show(List.foldl (·++·) #[] (List.replicate n.toNat #[c])).size=n.toNat
   rw[Ga]
   simp
abbrev CT (H:Hp)(p:Addr)(c:Int):Prop:=∃x y z:Int,H p=some (.lst [.int x,.int y,.int z])/\0<=z/\z<=c
structure Kd (p:Addr)(c:Int)(H H':Hp):Prop where
 deck:CT H' p c
 keep:∀b o,b≠p->H b=some o->H' b=some o
section
variable {p q:Addr}{H H1 H2:Hp}{o:HO}{c d:Int}
theorem CT.mono (h:CT H p c)(e:c<=d):CT H p d:=let⟨x,y,z,a,b,f⟩:=h;⟨x,y,z,a,b,Int.le_trans f e⟩
theorem Kd.mono (h:Kd p c H H1)(e:c<=d):Kd p d H H1:=⟨h.deck.mono e,h.keep⟩
theorem Kd.refl (h:CT H p c):Kd p c H H:=⟨h,λ_ _ _ e=>e⟩
theorem Kd.trans (a:Kd p c H H1)(b:Kd p d H1 H2):Kd p d H H2:=⟨b.deck,λk u hc e=>b.keep k u hc (a.keep k u hc e)⟩
theorem Kd.new (a:Kd p c H H1)(hq:H1 q=none):Kd p c H (upd H1 q o):=by
 obtain⟨⟨x,y,z,e,r⟩,k⟩:=a
 refine⟨⟨x,y,z,by rw[AL (AK e hq)];exact e,r⟩,λb u hc h=>?_⟩
 have:=k b u hc h
 rw[AL (AK this hq)];exact this
theorem Kd.write (a:Kd p c H H1)(hq:H q=none)(hp:q≠p):Kd p c H (upd H1 q o):=by
 obtain⟨⟨x,y,z,e,r⟩,k⟩:=a
 refine⟨⟨x,y,z,by rw[AL (Ne.symm hp)];exact e,r⟩,λb u hc h=>?_⟩
 rw[AL (AK h hq)];exact k b u hc h
theorem CT.ne (h:CT H p c)(hq:H q=none):q≠p:=by
 obtain⟨x,y,z,e,_⟩:=h
 exact Ne.symm (AK e hq)
theorem Kd.same (a:Kd p c H H1)(s:AJ H1 H2):Kd p c H H2:=by
 obtain⟨⟨x,y,z,e,r⟩,k⟩:=a
 exact⟨⟨x,y,z,s _ _ e,r⟩,λb u hc h=>s _ _ (k b u hc h)⟩
theorem Kd.fresh (a:Kd p c H H1)(hq:H1 q=none):H q=none:=by
 cases e:H q with
 |none=>rfl
 |some u=>
  have:=a.keep q u (a.deck.ne hq) e
  rw[hq]at this;cases this
theorem Lp {o:HO}(h:CT H p c)(e:H q=some o)(ho:∀x y z:Int,o≠.lst [.int x,.int y,.int z]):q≠p:=λk=>by
 obtain⟨x,y,z,hp,_⟩:=h
 subst k
 rw[hp]at e
 exact ho x y z (Option.some.inj e).symm
end
end L2
namespace L2
open PySem PySem.Spec PyProof.Rows
section
variable {X:Cx}
theorem Kw (K:PySem.W.Frag)(hK:X.K=K:=by rfl):Eg X (compareOp .In) (Tz K false):=by
 subst hK;exact Mn
end
end L2
namespace L2
open PySem PySem.Spec PyProof.Rows
section
variable {X:Cx}
theorem Lq (f:Nat->Int):∀n,argBest (λi j=>decide (f i > f j)) n<=n/\∀i,i<=n->f i<=f (argBest (λi j=>decide (f i > f j)) n)
 |0=>⟨Nat.le_refl _,λi h=>by have:i=0:=by omega
                             subst this;exact Int.le_refl _⟩
 |n+1=>by
  obtain⟨a,b⟩:=Lq f n
  unfold argBest
  by_cases h:f (n+1) > f (argBest (λi j=>decide (f i > f j)) n)
  ·rw[decide_eq_true h,if_pos rfl]
   refine⟨Nat.le_refl _,λi hi=>?_⟩
   rcases Nat.lt_or_ge i (n+1)with c|c
   ·have:=b i (by omega);omega
   ·have:i=n+1:=by omega
    rw[this];exact Int.le_refl _
  ·rw[decide_eq_false h,if_neg Bool.false_ne_true]
   refine⟨by omega,λi hi=>?_⟩
   rcases Nat.lt_or_ge i (n+1)with c|c
   ·exact b i (by omega)
   ·have:i=n+1:=by omega
    rw[this];omega
theorem FR (hc:X.calm=true):Bg X (.builtin "max") (λvs H Q=>∃(a:Addr) (ns:List Int),vs=[.ref a]/\AZ X.K H a (ns.map V.int)/\ns≠[]/\∀m:Int,m∈ns->(∀x∈ns,x<=m)->Q (.int m) H):=by
 intro pins s σ H xs us Q I r h
 obtain⟨a,ns,rfl,hl,hne,q⟩:=h
 obtain⟨u,rfl,ru⟩:=vals1 r
 cases(show u=Value.ref a from ru)
 obtain⟨its,rv,ht,hz⟩:=I.list hl
 have hlen:=rv.length
 rw[List.length_map]at hlen
 have hh:X.A.in1.handled=none:=I.ok.hd hc
 have hlt:a < s.heap.objs.size:=by obtain⟨o,e,_⟩:=ht.isList;exact Heap.lt_size e
 have hpos:0 < ns.length:=List.length_pos_iff.mpr hne
 refine call_max_walk (wpAny_pyIter_list ht.isList ⟨s.heap.objs.size,_,_,_,_,_,_,rfl,Walks.list hh s.heap.objs.size a (Nat.ne_of_lt hlt) its.toArray,?_,?_,?_,CmpOf.ints_gt (λi=>ns.getD i 0) ?_,?_⟩)
 ·exact⟨⟨_,Heap.get?_push_size _ rfl,rfl,rfl⟩,Heap.IsList.push ht.isList _⟩
 ·intro b hb
  have:b=s.heap.objs.size\/b=a:=by simpa using hb
  show b < (s.heap.objs.push _).size
  rw[Array.size_push]
  rcases this with rfl|rfl
  ·exact Nat.lt_succ_self _
  ·exact Nat.lt_succ_of_lt hlt
 ·rw[List.size_toArray,<-hlen];exact hpos
 ·intro i v hv
  have hv':its[i]?=some v:=by simpa using hv
  have hi:i < (ns.map V.int).length:=by rw[List.length_map,hlen];exact(List.getElem?_eq_some_iff.mp hv').1
  obtain⟨u',e1,e2⟩:=rv.get (List.getElem?_eq_getElem hi)
  rw[hv']at e1
  cases e1
  rw[List.getElem_map]at e2
  obtain⟨t,e2⟩:∃t,v=Value.int _ t:=e2
  have hb:ns.getD i 0=ns[i]'(by simpa using hi):=by rw[List.getD_eq_getElem?_getD,List.getElem?_eq_getElem (by simpa using hi)];rfl
  exact⟨t,by rw[hb];exact e2⟩
 ·intro v h' tk hv hk
  rw[List.size_toArray,<-hlen]at hv
  obtain⟨b1,b2⟩:=Lq (λi=>ns.getD i 0) (ns.length - 1)
  generalize argBest (λi j=>decide (ns.getD i 0 > ns.getD j 0)) (ns.length - 1)=m at hv b1 b2
  have hv':its[m]?=some v:=by simpa using hv
  have hi:m < (ns.map V.int).length:=by rw[List.length_map];omega
  obtain⟨u',e1,e2⟩:=rv.get (List.getElem?_eq_getElem hi)
  rw[hv']at e1
  cases e1
  rw[List.getElem_map]at e2
  have hb:ns.getD m 0=ns[m]'(by omega):=by rw[List.getD_eq_getElem?_getD,List.getElem?_eq_getElem (by omega)];rfl
  refine⟨.int (ns[m]'(by omega)),H,?_,e2,q _ (List.getElem_mem _) λx hx=>?_⟩
  ·exact I.kept (t':=tk) λb o e=>hk b o (by simp;exact Nat.ne_of_lt (Heap.lt_size e)) (Heap.get?_push_of_some _ e)
  ·obtain⟨j,hj,rfl⟩:=List.getElem_of_mem hx
   have g:=b2 j (by omega)
   have hb2:ns.getD j 0=ns[j]:=by rw[List.getD_eq_getElem?_getD,List.getElem?_eq_getElem hj];rfl
   show ns[j]<=_
   rw[<-hb,<-hb2];exact g
theorem IB (hu:X.A.units < cLine):Eg X (compareOp .NotEq) (λx y H Q=>∃a b xs ys,x=.ref a/\y=.ref b/\AZ X.K H a xs/\AZ X.K H b ys/\xs.all CO=true/\ys.all CO=true/\Q (.bl (!EC xs ys)) H):=by
 intro pins s σ H x y v u Q I rx ry h
 obtain⟨a,b,xs,ys,rfl,rfl,h1,h2,f1,f2,q⟩:=h
 cases(show v=Value.ref a from rx)
 cases(show u=Value.ref b from ry)
 obtain⟨us,r1,l1,_⟩:=I.list h1
 obtain⟨ws,r2,l2,_⟩:=I.list h2
 have e1:=r1.length
 have e2:=r2.length
 by_cases hl:xs.length=ys.length
 ·refine SeqAt.RcNeAt.lists (e:=DV xs ys) l1.isList l2.isList (by simp;omega) hu (λj g1 g2=>GZ r1 r2 f1 f2 j g1 g2) _ _ _ _ ⟨.bl _,H,I,rfl,?_⟩
  have:EC xs ys=(List.range us.toArray.size).all (DV xs ys):=by
   unfold EC
   rw[List.size_toArray,<-e1,beq_iff_eq.mpr hl,Bool.true_and]
  rw[<-this];exact q
 ·refine SeqAt.RcNeAt.lists_lengths l1.isList l2.isList (by simp;omega) hu _ _ _ _ ⟨.bl _,H,I,rfl,?_⟩
  have:EC xs ys=false:=by
   unfold EC
   have:(xs.length==ys.length)=false:=by simpa using hl
   rw[this];rfl
  rw[this]at q;exact q
end
end L2
namespace L2
open PySem PySem.Spec PyProof.Rows
section
variable {X:Cx}
theorem Ci {vs:List Value}{ss:List Str}(h:StrsAre vs ss):Vals (ss.map V.str) vs:=by
 induction h with
 |nil=>exact .nil
 |cons y t _ ih=>exact .cons ⟨t,rfl⟩ ih
theorem Ay:Bg X (.builtin "sorted") (λvs H Q=>∃(a:Addr) (ss:List Str),vs=[.ref a]/\AZ X.K H a (ss.map V.str)/\ss.length < 64/\
 ∀(ss':List Str) (l:Addr),ss'.Perm ss->sortedS ss'=true->H l=none->Q (.ref l) (upd H l (.lst (ss'.map V.str)))):=by
 intro pins s σ H xs us Q I r h
 obtain⟨a,ss,rfl,hl,h64,q⟩:=h
 obtain⟨u,rfl,ru⟩:=vals1 r
 cases(show u=Value.ref a from ru)
 obtain⟨its,rv,ht,hz⟩:=I.list hl
 have hlen:=rv.length
 rw[List.length_map]at hlen
 refine sorted_strs ht.isList (Cb rv) (by omega) λout ss' a1 a2 a3=>?_
 obtain⟨e,he⟩:=sortedAll_at s.heap its out
 have l2:=a2.length_eq
 refine⟨.ref (s.heap.objs.size+1),_,I.laid (t':=s.toks) (λ_ _=>sortedAll_old) (Nat.le_succ _) (show Ax X.prog X.w _ _ _ (.lst (ss'.map V.str))from⟨?_,out.toList,e,Ci a1,he⟩),rfl,q ss' _ a2 a3 (I.hok.fresh (Nat.le_succ _))⟩
 rw[List.length_map]
 exact Nat.le_of_lt (AM (by omega))
theorem range_all (bs:List Bool):(List.range bs.length).all (λi=>bs.getD i true)=bs.all id:=by
 rw[Bool.eq_iff_iff,List.all_eq_true,List.all_eq_true]
 constructor
 ·intro h b hb
  obtain⟨i,hi,rfl⟩:=List.getElem_of_mem hb
  have:=h i (List.mem_range.mpr hi)
  rw[List.getD_eq_getElem?_getD,List.getElem?_eq_getElem hi]at this
  exact this
 ·intro h i hi
  have hi':=List.mem_range.mp hi
  rw[List.getD_eq_getElem?_getD,List.getElem?_eq_getElem hi']
  exact h _ (List.getElem_mem hi')
theorem OC (hc:X.calm=true):Bg X (.builtin "all") (λvs H Q=>∃(a:Addr) (bs:List Bool),vs=[.ref a]/\AZ X.K H a (bs.map V.bl)/\Q (.bl (bs.all id)) H):=by
 intro pins s σ H xs us Q I r h
 obtain⟨a,bs,rfl,hl,q⟩:=h
 obtain⟨u,rfl,ru⟩:=vals1 r
 cases(show u=Value.ref a from ru)
 obtain⟨its,rv,ht,hz⟩:=I.list hl
 have hlen:=rv.length
 rw[List.length_map]at hlen
 have hh:X.A.in1.handled=none:=I.ok.hd hc
 have hlt:a < s.heap.objs.size:=by obtain⟨o,e,_⟩:=ht.isList;exact Heap.lt_size e
 refine call_all_walk (wpAny_pyIter_list ht.isList ⟨s.heap.objs.size,_,_,_,_,_,λi=>bs.getD i true,rfl,Walks.list hh s.heap.objs.size a (Nat.ne_of_lt hlt) its.toArray,?_,?_,?_⟩)
 ·exact⟨⟨_,Heap.get?_push_size _ rfl,rfl,rfl⟩,Heap.IsList.push ht.isList _⟩
 ·intro i v s' Q' E' hv hQ
  have hv':its[i]?=some v:=by simpa using hv
  have hi:i < (bs.map V.bl).length:=by rw[List.length_map,hlen];exact(List.getElem?_eq_some_iff.mp hv').1
  obtain⟨u',e1,e2⟩:=rv.get (List.getElem?_eq_getElem hi)
  rw[hv']at e1
  cases e1
  rw[List.getElem_map]at e2
  cases(show v=Value.bool _ from e2)
  refine wpAny_truthy_bool ?_
  have hb:bs.getD i true=bs[i]'(by simpa using hi):=by rw[List.getD_eq_getElem?_getD,List.getElem?_eq_getElem (by simpa using hi)];rfl
  rw[<-hb]
  exact hQ
 ·intro h' tk hk
  refine⟨.bl (bs.all id),H,?_,?_,q⟩
  ·exact I.kept (t':=tk) λb o e=>hk b o (by simp;exact Nat.ne_of_lt (Heap.lt_size e)) (Heap.get?_push_of_some _ e)
  ·show Value.bool _=Value.bool _
   rw[<-range_all,hlen,List.size_toArray]
end
end L2
namespace L2
open PySem.W PyProof.Rows
section
variable {α β:Type}{n:Nat}{lt:Nat->Nat->Bool}
structure T7 (n:Nat)(lt:Nat->Nat->Bool):Prop where
 asym:∀i j,lt i j=true->lt j i=false
 tr:∀i j k,lt j i=false->lt k j=false->lt k i=false
 tot:∀i j,i < n->j < n->lt i j=false->lt j i=false->i=j
variable (o:T7 n lt)
include o
end
open PySem PySem.Spec
def EF:V->Nat
 |.int _=>1
 |.str _=>2
 |_=>0
def ltV:V->V->Bool
 |.int i,.int j=>decide (i < j)
 |.str a,.str b=>decide (a.cps.toList < b.cps.toList)
 |_,_=>false
def CU:List V->List V->Bool
 |x::xs,y::ys=>if x=y then CU xs ys else ltV x y
 |[],_::_=>true
 |_,_=>false
theorem OD {a b:Str}(h:a.cps.toList=b.cps.toList):a=b:=by
 obtain⟨x⟩:=a;obtain⟨y⟩:=b
 have:x=y:=Array.toList_inj.mp h
 rw[this]
theorem CY {x y:V}(hs:EF x=EF y)(h0:EF x≠0):(∃i j,x=.int i/\y=.int j)\/∃a b,x=.str a/\y=.str b:=by
 cases x<;>cases y<;>simp[EF]at hs h0 ⊢
theorem OE {x y:V}(h:ltV x y=true):ltV y x=false:=by
 cases x<;>cases y<;>simp[ltV]at h ⊢
 ·omega
 ·exact List.not_lt.mp (List.lt_asymm h)
theorem Pl {x y:V}(hs:EF x=EF y)(h0:EF x≠0)(h1:ltV x y=false)(h2:ltV y x=false):x=y:=by
 rcases CY hs h0 with⟨i,j,rfl,rfl⟩|⟨a,b,rfl,rfl⟩
 ·have h1':¬i < j:=of_decide_eq_false h1
  have h2':¬j < i:=of_decide_eq_false h2
  rw[show i=j by omega]
 ·have h1':¬a.cps.toList < b.cps.toList:=of_decide_eq_false h1
  have h2':¬b.cps.toList < a.cps.toList:=of_decide_eq_false h2
  rw[OD (List.le_antisymm (List.not_lt.mp h2') (List.not_lt.mp h1'))]
theorem RB {x y z:V}(hs:EF x=EF y)(ht:EF y=EF z)(h0:EF x≠0)(h1:ltV y x=false)(h2:ltV z y=false):ltV z x=false:=by
 rcases CY hs h0 with⟨i,j,rfl,rfl⟩|⟨a,b,rfl,rfl⟩
 ·rcases CY ht (by simp[EF])with⟨_,k,e,rfl⟩|⟨_,_,e,_⟩
  ·have h1':¬j < i:=of_decide_eq_false h1
   cases e
   have h2':¬k < j:=of_decide_eq_false h2
   exact decide_eq_false (by omega)
  ·cases e
 ·rcases CY ht (by simp[EF])with⟨_,_,e,_⟩|⟨_,c,e,rfl⟩
  ·cases e
  ·cases e
   have h1':¬b.cps.toList < a.cps.toList:=of_decide_eq_false h1
   have h2':¬c.cps.toList < b.cps.toList:=of_decide_eq_false h2
   exact decide_eq_false (List.not_lt.mpr (List.le_trans (List.not_lt.mp h1') (List.not_lt.mp h2')))
theorem IC:∀(xs ys:List V),CU xs ys=true->CU ys xs=false
 |x::xs,y::ys,h=>by
  unfold CU at h ⊢
  by_cases e:x=y
  ·rw[if_pos e]at h;rw[if_pos e.symm];exact IC xs ys h
  ·rw[if_neg e]at h;rw[if_neg (Ne.symm e)];exact OE h
 |[],_::_,_=>rfl
 |[],[],h=>by cases h
 |_::_,[],h=>by cases h
theorem Lr:∀(xs ys zs:List V),xs.map EF=ys.map EF->ys.map EF=zs.map EF->0∉xs.map EF->CU ys xs=false->CU zs ys=false->CU zs xs=false
 |x::xs,y::ys,z::zs,hs,ht,h0,h1,h2=>by
  simp only[List.map_cons,List.cons.injEq]at hs ht
  simp only[List.map_cons,List.mem_cons,not_or]at h0
  unfold CU at h1 h2 ⊢
  by_cases e:y=x
  ·rw[if_pos e]at h1
   by_cases f:z=y
   ·rw[if_pos f]at h2;rw[if_pos (f.trans e)];exact Lr xs ys zs hs.2 ht.2 h0.2 h1 h2
   ·rw[if_neg f]at h2;rw[if_neg (λq=>f (q.trans e.symm)),<-e];exact h2
  ·rw[if_neg e]at h1
   by_cases f:z=y
   ·rw[if_pos f]at h2;rw[if_neg (λq=>e (f.symm.trans q)),f];exact h1
   ·rw[if_neg f]at h2
    by_cases g:z=x
    ·exact absurd (Pl hs.1.symm (by rw[<-hs.1];exact Ne.symm h0.1) h1 (by rw[<-g];exact h2)) e
    ·rw[if_neg g];exact RB hs.1 ht.1 (Ne.symm h0.1) h1 h2
 |[],[],[],_,_,_,_,_=>rfl
 |[],_::_,_,hs,_,_,_,_=>by cases hs
 |_::_,[],_,hs,_,_,_,_=>by cases hs
 |[],[],_::_,_,ht,_,_,_=>by cases ht
 |_::_,_::_,[],_,ht,_,_,_=>by cases ht
section
variable {prog:Program}{w:World}{A:Around}{E:Value->Shared->Prop}{s:Shared}{Q:Bool->Shared->Prop}
variable {n:Nat}{K:Nat->List V}{sh:List Nat}{ks:List Value}
end
end L2
namespace L2
open PySem PySem.Spec PyProof.Rows PySem.W
def ID (c:Addr)(qual:Str):HO:=.ext λh=>h.CodeRec (.ref c) qual
def Gb (P:Addr)(lp:Pos)(qual:Str)(H:Hp):Prop:=∃ps,H P=some (.tbl ps)/\TriplesOk ps.toList/\(codeAmong lp ps.toList=none\/∃c,codeAmong lp ps.toList=some (.ref c)/\H c=some (ID c qual))
abbrev Lm:=Addr×Pos×Str
def Ct (ls:List Lm)(H:Hp):Prop:=∀l∈ls,Gb l.1 l.2.1 l.2.2 H
def OF (ls:List Lm):Prop:=∀l∈ls,∀m∈ls,l=m\/¬(l.2.1.line=m.2.1.line/\l.2.1.col=m.2.1.col)
structure Kt (ls:List Lm)(H H':Hp):Prop where
 lam:Ct ls H'
 keep:∀b o,(∀ps,o≠.tbl ps)->H b=some o->H' b=some o
 here:∀b,H' b=none->H b=none
theorem F6 {pos p2:Pos}{c:Value}(hne:¬(p2.line=pos.line/\p2.col=pos.col))(l:List Value)(h:TriplesOk l):codeAmong pos (l++[rawInt p2.line,rawInt p2.col,c])=codeAmong pos l:=by
 fun_induction TriplesOk l with
 |case1=>
  have e:((p2.line:Int)==(pos.line:Int)&&(p2.col:Int)==(pos.col:Int))=false:=by
   rw[Bool.eq_false_iff]
   intro z
   rw[Bool.and_eq_true,beq_iff_eq,beq_iff_eq]at z
   exact hne ⟨by have:=z.1;omega,by have:=z.2;omega⟩
  show(if((p2.line:Int)==(pos.line:Int)&&(p2.col:Int)==(pos.col:Int))then some c else codeAmong pos [])=codeAmong pos []
  rw[e];rfl
 |case2 a t b u x rest ih=>
  simp only[List.cons_append,codeAmong]
  rw[ih h]
 |case3 l h1 h2=>exact h.elim
section
variable {P q:Addr}{lp:Pos}{qual:Str}{H H1 H2:Hp}{o:HO}{ls:List Lm}{xs:List V}
theorem Gb.same (a:Gb P lp qual H)(s:AJ H H1):Gb P lp qual H1:=by
 obtain⟨ps,a,b,c⟩:=a
 refine⟨ps,s _ _ a,b,?_⟩
 rcases c with c|⟨d,c,e⟩
 ·exact .inl c
 ·exact .inr ⟨d,c,s _ _ e⟩
theorem Gb.start (h:H P=some (.tbl #[])):Gb P lp qual H:=⟨#[],h,trivial,.inl rfl⟩
theorem Ct.same (a:Ct ls H)(s:AJ H H1):Ct ls H1:=λl hl=>(a l hl).same s
theorem Kt.refl (a:Ct ls H):Kt ls H H:=⟨a,λ_ _ _ e=>e,λ_ e=>e⟩
theorem Kt.trans (a:Kt ls H H1)(b:Kt ls H1 H2):Kt ls H H2:=⟨b.lam,λc u hc e=>b.keep c u hc (a.keep c u hc e),λc e=>a.here c (b.here c e)⟩
theorem Kt.same (a:Kt ls H H1)(s:AJ H1 H2):Kt ls H H2:=⟨a.lam.same s,λc u hc e=>s _ _ (a.keep c u hc e),λc e=>a.here c (s.free e)⟩
theorem AJ.kt (s:AJ H H1)(b:Kt ls H1 H2):Kt ls H H2:=⟨b.lam,λc u hc e=>b.keep c u hc (s _ _ e),λc e=>s.free (b.here c e)⟩
theorem Kt.of (s:AJ H H1)(a:Ct ls H):Kt ls H H1:=(Kt.refl a).same s
theorem Kt.lst (a:Kt ls H H1)(h:H q=some (.lst xs)):H1 q=some (.lst xs):=a.keep _ _ (λ_ z=>by cases z) h
theorem Kt.tup (a:Kt ls H H1)(h:H q=some (.tup xs)):H1 q=some (.tup xs):=a.keep _ _ (λ_ z=>by cases z) h
theorem Kt.seq {K:PySem.W.Frag}(a:Kt ls H H1)(h:AZ K H q xs):AZ K H1 q xs:=by
 rcases h with(h|⟨ob,h⟩)|h
 ·exact .inl (.inl (a.lst h))
 ·exact .inl (.inr ⟨ob,a.keep _ _ (λ_ z=>by cases z) h⟩)
 ·exact .inr h
end
def Gd (X:Cx)(scope:Scope)(NL:List Str)(ix:List Nat)(qual:Str)(cl:List (Str×Addr))(fa:Addr)(cd:Value)(A1:Around)(s₃:Shared)(H₃:Hp)(pins:List (Addr×Obj)):Cx where
 prog:=X.prog
 w:=X.w
 K:=X.K
 mg:=X.mg
 base:=X.base
 A:=A1.deeper (envX qual scope s₃.heap.objs.size fa cd cl)
 N:=NL++ix.map λj=>X.N.getD j ""
 s₀:=s₃
 H₀:=H₃
 env:=envX qual scope s₃.heap.objs.size fa cd cl
 outer:=X.stack
 stack:=envX qual scope s₃.heap.objs.size fa cd cl::X.stack
 ex:=[]
 fn:=λ_=>false
 calm:=X.calm
 pn:=X.pn++pins
 xe:=λ_ _=>False
def Mz (v:V)(ix:List Nat)(σ:St):St:=some v::ix.map λj=>σ.getD j none
section
variable {X:Cx}{pins:List (Addr×Obj)}{σ:St}{H:Hp}{s:Shared}
theorem Pm {scope:Scope}{x:Str}{ix:List Nat}{qual:Str}{cl:List (Str×Addr)}{fa:Addr}{cd:Value}{A1:Around}{s₃:Shared}{h₁:Heap}{m:Str->Option Value}{tk:Nat}{v:V}{u:Value}
 (S:Bn X scope [x] ix)(I:Inv X pins σ H s₃)(c1:∀x c,cl.lookup x=some c->X.env.cells.lookup x=some c)(c2:∀x,(x,NameKind.free)∈scope.names->∃c,cl.lookup x=some c)
 (hfr:A1.frames=some X.stack)(hh:A1.handled=none)(hx:scope.names.lookup x=some .local)(hmx:m x=some u)(ru:RelV v u)
 (hn:h₁.Ns s₃.heap.objs.size m)(old:∀b o,s₃.heap.get? b=some o->h₁.get? b=some o):
 Inv (Gd X scope [x] ix qual cl fa cd A1 s₃ H pins) [] (Mz v ix σ) H { s₃ with heap:=h₁,toks:=tk }:=by
 have e0:=I.Q2
 have lt:∀b o,s₃.heap.get? b=some o->b≠s₃.heap.objs.size:=λb o e=>Nat.ne_of_lt (Heap.lt_size e)
 have noA:∀b:Addr,b∉(Gd X scope [x] ix qual cl fa cd A1 s₃ H pins).ex:=λb z=>absurd (show b∈([]:List Addr)from z) (by simp)
 have nst:∀b,b≠X.env.locals->b∉X.fs->b∉Lb X.stack:=λb h1 h2 h3=>(List.mem_cons.mp (I.GP b h3)).elim h1 h2
 have ok:(Gd X scope [x] ix qual cl fa cd A1 s₃ H pins).Ok:=
  { mod:=I.ok.mod
    kind:=S.kind
    glob:=rfl
    blt:=rfl
    above:=Nat.le_refl _
    inj:=λx y c h1 h2=>I.ok.inj x y c (c1 x c h1) (c1 y c h2)
    has:=λy hy=>by
     have hy':scope.names.lookup y=some .cell\/scope.names.lookup y=some .free:=hy
     rcases hy' with q|q
     ·exact absurd rfl (S.cell _ (lookup_mem q))
     ·exact c2 y (lookup_mem q)
    cab:=λ_ _ z=>nomatch z
    hd:=λ_=>hh
    frames:=Around.frames_deeper hfr
    stk:=.inr ⟨rfl,rfl⟩
    exf:=λb hb=>absurd hb (noA b)
    bs:=I.bs
    bsz:=e0.bsz
    noex:=λb _ _=>noA b
    exfs:=λb hb=>absurd hb (noA b)
    EJ:=e0.EJ
    frf:=e0.frf }
 refine⟨ok,rfl,I.bare,Un.kept old,⟨m,hn,λi y w e1 e2 e3=>?_⟩,λy c e=>?_,I.hok.fresh (Nat.le_refl _),λy c e=>I.freeC y c (c1 y c e),λp hp=>?_,I.hok.kept old,?_⟩
 ·cases i with
  |zero=>
   have ey:x=y:=by simpa[Gd]using e1
   have ev:v=w:=by simpa[Mz]using e2
   subst ey;subst ev
   exact⟨u,ru,.inl ⟨hx,hmx⟩⟩
  |succ i=>
   have e1':(ix.map λj=>X.N.getD j "")[i]?=some y:=by simpa[Gd]using e1
   have e2':(ix.map λj=>σ.getD j none)[i]?=some (some w):=by simpa[Mz]using e2
   rw[List.getElem?_map]at e1' e2'
   cases q:ix[i]? with
   |none=>rw[q]at e1';cases e1'
   |some j=>
    rw[q]at e1' e2'
    have e1'':X.N.getD j ""=y:=Option.some.inj e1'
    have e2'':σ.getD j none=some w:=Option.some.inj e2'
    obtain⟨x',hx',hfr'⟩:=S.cap j (List.mem_of_getElem? q)
    have exx:x'=y:=by
     rw[<-e1'',List.getD_eq_getElem?_getD,hx'];rfl
    subst exx
    have hσ:σ[j]?=some (some w):=by
     rw[List.getD_eq_getElem?_getD]at e2''
     cases z:σ[j]? with
     |none=>rw[z]at e2'';cases e2''
     |some o=>rw[z]at e2'';exact congrArg some e2''
    have kd:=S.free _ (lookup_mem hfr') rfl
    have vis:R3 X.env.scope x':=by
     rcases kd with z|z
     ·exact .inr (.inl z)
     ·exact .inr (.inr z)
    obtain⟨m',hn',hl'⟩:=I.loc
    obtain⟨u',r,l⟩:=hl' j x' w hx' hσ vis
    refine⟨u',r,.inr ⟨.inr hfr',?_⟩⟩
    obtain⟨c,hc⟩:=c2 x' (lookup_mem hfr')
    rcases l with⟨k,_⟩|⟨k,c',ec,o,ho',hd⟩
    ·rcases kd with z|z
     ·rw[k]at z;cases z
     ·rw[k]at z;cases z
    ·have:c'=c:=by
      have:=c1 x' c hc
      rw[ec]at this
      exact Option.some.inj this
     subst this
     exact⟨c',hc,o,old _ _ ho',hd⟩
 ·obtain⟨v',o,ho',hd⟩:=I.cell y c (c1 y c e)
  exact⟨v',o,old _ _ ho',hd⟩
 ·have hp':p∈X.pn++pins:=by
   rcases List.mem_append.mp hp with z|z
   ·exact z
   ·exact nomatch z
  obtain⟨e,n,ne,nf,d⟩:=I.pin p hp'
  exact⟨old _ _ e,n,lt _ _ e,nst _ ne nf,d⟩
 ·show(some v::ix.map λj=>σ.getD j none).length=([x]++ix.map λj=>X.N.getD j "").length
  simp
theorem OG {scope:Scope}{x:Str}{ix:List Nat}{nm qual:Str}{params:Arguments}{body:Expr}{cl:List (Str×Addr)}{fa c:Addr}{pm ctv:Value}{A1:Around}{te:TE}{v:V}{u:Value}{Q:VK}
 (S:Bn X scope [x] ix)(I:Inv X pins σ H s)(c1:∀x c,cl.lookup x=some c->X.env.cells.lookup x=some c)(c2:∀x,(x,NameKind.free)∈scope.names->∃c,cl.lookup x=some c)
 (ho:s.heap.get? fa=some (kla_obj nm qual params body scope cl pm c ctv))(hcd:s.heap.CodeRec (.ref c) qual)(hfr:A1.frames=some X.stack)(hh:A1.handled=none)(hroom:A1.depth < recursionLimit)
 (hbind:∀u:Value,bindArgs (kla_fn nm qual params body scope cl pm (.ref c) ctv) ⟨[u],[]⟩=pure [(x,u)])(hx:scope.names.lookup x=some .local)(hco:scope.isCoroutine=false)(hgen:scope.isGenerator=false)
 (hb:∀(s₃:Shared) (H₃:Hp),PE (Gd X scope [x] ix qual cl fa (.ref c) A1 s₃ H₃ pins) body te)(ru:RelV v u)(q:te (Mz v ix σ) H Q):
 wpAny (model X.prog X.w) A1 (call (.ref fa) [u]) (EP X pins σ Q) (λ_ _=>False) s:=by
 refine wpAny_call (kla_callFunE hroom ho rfl hco hgen rfl hcd ?_)
 rw[hbind u]
 refine wpAny_pure (wpAny_newFunctionEnv S.cell (λy hy=>?_) (λh₁ hns hsb=>⟨(I.nolimit).fresh _ hsb,?_⟩) S.kind)
 ·obtain rfl:y=(x,u):=by simpa using hy
  exact hx
 show codeAny _ _ (.expr body (envX qual scope s.heap.objs.size fa (.ref c) cl)) _ _
 have hk₁:∀b o,s.heap.get? b=some o->h₁.get? b=some o:=λb o e=>hsb.extBut b o (Nat.ne_of_lt (Heap.lt_size e)) (Heap.get?_push_of_some _ e)
 have I1:=Pm (qual:=qual) (fa:=fa) (cd:=.ref c) (A1:=A1) (tk:=s.toks+[(x,u)].length) S I c1 c2 hfr hh hx (show(λy=>[(x,u)].reverse.lookup y) x=some u by simp) ru hns hk₁
 refine kla_codeExpr (wpAny_mono (hb s H [] _ (Mz v ix σ) H Q I1 q) (λv' s' hv=>?_) λ_ _ z=>z.elim)
 obtain⟨v2,H',J,rv,q'⟩:=hv
 exact I.after ⟨v2,H',J.os,J.bare,J.base,J.hok,rv,q'⟩
theorem OH {scope:Scope}{params:Arguments}{body:Expr}{lp:Pos}{cl:List (Str×Addr)}{c0 P:Addr}{ls:List Lm}{E:Value->Shared->Prop}{Q:Value->Shared->Prop}(I:Inv X pins σ H s)(hcl:closureFor scope X.env=pure cl)(hcode:X.env.code=.ref c0)(CH:CodeHd X.base c0 P)
 (hb:X.base.BuiltinsAt X.mg P)(lo:OF ls)(li:(P,lp,X.env.qual++"<lambda>")∈ls)(LL:Ct ls H)(hdef:defaultsOf params X.env=([],[]))
 (h:∀(fa c:Addr) (pm ctv:Value) (H':Hp) (s':Shared),Kt ls H H'->H' c=some (ID c (X.env.qual++"<lambda>"))->Inv X (pins++[(fa,kla_obj "<lambda>" (X.env.qual++"<lambda>") params body scope cl pm c ctv)]) σ H' s'->Q (.ref fa) s'):
 wpAny (model X.prog X.w) X.A (eval (.Lambda params body scope lp) X.env) Q E s:=by
 refine kla_eval hdef ?_
 have hgs:s.heap.Ns mainGlobals X.mg:=I.mod.glob.keeps I.bk
 have C:=CH.keeps I.bk
 have pinIt:∀{fa c:Addr} {pm ctv:Value} {H':Hp} {h':Heap} {tk:Nat},Inv X pins σ H' { s with heap:=h',toks:=tk }->fa=h'.objs.size->
  Inv X (pins++[(fa,kla_obj "<lambda>" (X.env.qual++"<lambda>") params body scope cl pm c ctv)]) σ H' { s with heap:=h'.push (kla_obj "<lambda>" (X.env.qual++"<lambda>") params body scope cl pm c ctv),toks:=tk }:=λ{fa c pm ctv H' h' tk} J e=>by
  subst e
  have J2:=J.kept (t':=tk) (h':=h'.push (kla_obj "<lambda>" (X.env.qual++"<lambda>") params body scope cl pm c ctv)) λb o e=>Heap.get?_push_of_some _ e
  have f:=J.GS (Nat.le_refl _) (J.hok.fresh (Nat.le_refl _))
  refine J2.GD λp hp=>?_
  rcases List.mem_append.mp hp with z|z
  ·exact J2.pin p (List.mem_append_right _ z)
  ·obtain rfl:=List.mem_singleton.mp z
   exact⟨Heap.get?_push_size _ rfl,f.1,f.2.1,f.2.2.1,λv z=>by cases z⟩
 obtain⟨bm,ob,b1,b2,b3,b4,b5,b6⟩:=hb
 have hbs:s.heap.BuiltinsAt X.mg P:=⟨bm,ob,b1,b2,b3,b4,I.bk _ _ b5,b6⟩
 obtain⟨ps,L,tok,Lc⟩:=LL _ li
 dsimp only at L Lc
 rcases Lc with Lno|⟨c,Lc,Hc⟩
 ·have hP:s.heap.get? P=some (tabObj ps):=I.hok P _ L
  have hgP:mainGlobals≠P:=λq=>by
   obtain⟨o,es,ep,e,hd,_⟩:=hgs
   rw[q,hP]at e;cases e;cases hd
  refine kla_makeFunction (mg:=X.mg) hcl I.ok.glob hgs hcode C hP tok Lno hgP hbs λc ctv h' tk hx hge hlt hrec htb=>?_
  have hc0:H c=none:=I.hok.fresh hge
  have ncP:c≠P:=λe=>by rw[e,L]at hc0;cases hc0
  have nP:∀b,H b=none->b≠P:=λb e z=>by rw[z,L]at e;cases e
  have htb':h'.get? P=some (tabObj (ps++#[rawInt lp.line,rawInt lp.col,.ref c])):=htb
  have hc1:∃oc,h'.get? c=some oc:=by
   obtain⟨_,oc,_,_,e,ho,_⟩:=id hrec
   cases e;exact⟨oc,ho⟩
  have J:Inv X pins σ (upd (upd H P (.tbl (ps++#[rawInt lp.line,rawInt lp.col,.ref c]))) c (ID c (X.env.qual++"<lambda>"))) { s with heap:=h',toks:=tk }:=by
   have at1:∀b,b≠P->b≠c->upd (upd H P (.tbl (ps++#[rawInt lp.line,rawInt lp.col,.ref c]))) c (ID c (X.env.qual++"<lambda>")) b=H b:=λb h1 h2=>by rw[AL h2,AL h1]
   have atP:upd (upd H P (.tbl (ps++#[rawInt lp.line,rawInt lp.col,.ref c]))) c (ID c (X.env.qual++"<lambda>")) P=some (.tbl (ps++#[rawInt lp.line,rawInt lp.col,.ref c])):=by rw[AL (Ne.symm ncP),AD]
   have old:∀b o,s.heap.get? b=some o->b≠c:=λb o e z=>absurd (Heap.lt_size e) (by rw[z];exact Nat.not_lt.mpr hge)
   have PR:∀b o,H b=some o->b≠c:=λb o e=>AK e hc0
   refine I.step (g':=s.gens) (d':=s.drawn) (ch:=[]) (λ_ z=>nomatch z) (λb o _ _ _ e n=>hx b o (nP b n) e) (λb o _ _ _ e n=>⟨o.slots,hx b o (nP b n) e⟩) (λb o _ e n=>by rw[at1 b (nP b n) (old b o e)];exact n) (λb o _ e=>?_)
    (λb xs e=>by rw[at1 b (λz=>by rw[z,L]at e;cases e) (PR b _ e)];exact e) (λb ob u e=>by rw[at1 b (λz=>by rw[z,L]at e;cases e) (PR b _ e)];exact e) (λb ps e=>?_) (λm hm=>?_) (λb u e=>?_) I.bare
   ·by_cases z:b=P
    ·exact⟨_,by rw[z];exact htb'⟩
    ·exact⟨o,hx b o z e⟩
   ·by_cases z:b=P
    ·subst z
     rw[L]at e;cases e
     exact⟨_,atP⟩
    ·exact⟨#[],by rw[at1 b z (PR b _ e),e];simp⟩
   ·obtain⟨o,es,ep,e,r⟩:=hm
    exact⟨o,es,ep,hx _ o (nP _ I.free) e,r⟩
   ·by_cases z1:b=c
    ·subst z1
     rw[AD]at e;cases e
     refine⟨hrec,hc1,λh1 h2 p k=>?_⟩
     obtain⟨c2,o2,vs2,t2,e2,g2,r2⟩:=p
     cases e2
     exact⟨b,o2,vs2,t2,rfl,k _ g2,r2⟩
    ·by_cases z2:b=P
     ·subst z2
      rw[atP]at e;cases e
      exact htb'
     ·rw[at1 b z2 z1]at e
      refine(I.hok b u e).F2 (λd v hd q=>hx d v ?_ q) (λd q=>by rw[at1 d (λz=>by rw[z,L]at q;cases q) (PR d _ q)];exact q) λd xs q=>by rw[at1 d (λz=>by rw[z,L]at q;cases q) (PR d _ q)];exact q
      rcases hd with z|z
      ·rw[z];exact z2
      ·exact λy=>by rw[y,L]at z;cases z
  refine h h'.objs.size c _ ctv _ _ ⟨λl hl=>?_,λb o hb e=>?_,λb e=>?_⟩ AD (pinIt J rfl)
  ·obtain⟨qs,q1,q2,q3⟩:=LL l hl
   by_cases z:l.1=P
   ·rw[z]at q1 ⊢
    rw[L]at q1
    cases q1
    refine⟨_,by rw[AL (Ne.symm ncP),AD],by rw[Array.toList_append];exact TriplesOk_snoc _ _ _ _ q2,?_⟩
    rw[Array.toList_append]
    rcases lo _ li l hl with y|y
    ·subst y
     exact .inr ⟨c,codeAmong_snoc _ tok Lno,AD⟩
    ·show codeAmong l.2.1 (ps.toList++[rawInt lp.line,rawInt lp.col,.ref c])=none\/_
     have eo:=F6 (c:=.ref c) y ps.toList tok
     dsimp only at eo
     rcases q3 with q3|⟨d,q3,q4⟩
     ·exact .inl (eo.trans q3)
     ·exact .inr ⟨d,eo.trans q3,by rw[AL (AK q4 hc0),AL (λy=>by rw[y,L]at q4;cases q4)];exact q4⟩
   ·refine⟨qs,by rw[AL (AK q1 hc0),AL z];exact q1,q2,?_⟩
    rcases q3 with q3|⟨d,q3,q4⟩
    ·exact .inl q3
    ·exact .inr ⟨d,q3,by rw[AL (AK q4 hc0),AL (λy=>by rw[y,L]at q4;cases q4)];exact q4⟩
  ·rw[AL (AK e hc0),AL (λz=>by rw[z,L]at e;cases e;exact hb _ rfl)];exact e
  ·by_cases z1:b=c
   ·rw[z1];exact hc0
   ·rw[AL z1]at e
    by_cases z2:b=P
    ·rw[z2,AD]at e;cases e
    ·rw[AL z2]at e;exact e
 ·have hP:s.heap.get? P=some (tabObj ps):=I.hok P _ L
  refine kla_makeFunctionHit (mg:=X.mg) (cv:=.ref c) hcl I.ok.glob hgs hcode C hP tok Lc hbs λctv h' tk hk hsz=>?_
  exact h h'.objs.size c _ ctv H _ (Kt.refl LL) Hc (pinIt (I.kept (t':=tk) hk) rfl)
end
end L2
namespace L2
open PySem PySem.Spec PyProof.Rows PySem.W
section
variable {prog:Program}{w:World}{A:Around}{E:Value->Shared->Prop}{s:Shared}
end
theorem Ls:∀{xs:List V} {us:List Value},xs.length=us.length->(∀(i:Nat) (x:V) (u:Value),xs[i]?=some x->us[i]?=some u->RelV x u)->Vals xs us
 |[],[],_,_=>.nil
 |[],_::_,h,_=>by cases h
 |_::_,[],h,_=>by cases h
 |x::xs,u::us,h,k=>.cons (k 0 x u rfl rfl) (Ls (by simpa using h) λi y v a b=>k (i+1) y v (by simpa using a) (by simpa using b))
section
variable {X:Cx}
end
end L2
namespace L2
open PySem PySem.Spec PyProof.Rows PySem.W
theorem Jj {K:Frag}{h:Heap}{P:Addr}{ps:Array Value}(X:K.In h)(hK:noTabs K=true)(hP:h.get? P=some (tabObj ps)):K.lookup P=none:=by
 cases e:K.lookup P with
 |none=>rfl
 |some o=>
  have e1:=X P o e
  rw[hP]at e1
  cases e1
  have h2:=List.all_eq_true.mp hK (P,tabObj ps) (mem_of_lookupK e)
  exact absurd (show false=true from h2) Bool.false_ne_true
structure TabAt (base:Heap)(mg:Str->Option Value)(nm:Str)(T:Addr):Prop where
 fn:∃a o fd c,mg nm=some (.ref a)/\base.get? a=some o/\o.data=.func fd/\fd.code=.ref c/\CodeHd base c T
 blt:base.BuiltinsAt mg T
inductive Fp {α β:Type}(R:α->β->Prop):List α->List β->Prop
 |nil:Fp R [] []
 |cons {a b xs ys}:R a b->Fp R xs ys->Fp R (a::xs) (b::ys)
theorem Fq {α β:Type}{R S:α->β->Prop}(h:∀a b,R a b->S a b):∀{xs:List α} {ys:List β},Fp R xs ys->Fp S xs ys
 |[],[],_=>.nil
 |_::_,_::_,.cons a b=>.cons (h _ _ a) (Fq h b)
theorem M1 {P:Program}{w:World}{K:Frag}{mg mb:Str->Option Value}{CX:Nj}{k:Nat}{fa a:Addr}{Ts:List Addr}{nms:List Str}{fd:FuncData}{x:Str}{sp:Sp}{s₁:Shared}{vs:List Value}{ns:List Int}
 (KX:K.In s₁.heap)(hns:s₁.heap.Ns mainGlobals mg)(hb:s₁.heap.Ns builtinsNs mb)(hbb:∀x:Str,x≠"__name__"->mb x=bootBuiltins x)(hlim:s₁.heap.NoLimit)(hg:s₁.gens=#[])
 (ha:s₁.heap.get? a=some { cls:=.type "list",data:=.seq vs.toArray })(hi:IntsAre vs ns)(hl:ns.length<=sizeLine)(hr:CK k callerA)
 (hT:∀T∈Ts,s₁.heap.get? T=some (tabObj #[]))(hTc:∀T∈Ts,isCodeTable s₁.heap T)(hTA:Fp (TabAt s₁.heap mg) nms Ts)(hnt:noTabs K=true)
 (F:∀base:Heap,K.In base->base.Ns mainGlobals mg->Fp (TabAt base mg) nms Ts->F3 P w K mg base CX k fa fd [x] sp)(hbind:∀(s:Shared) (u:Value),BindsTo s fd ⟨[u],[]⟩ [(x,u)])
 (hsp:∀H:Hp,(∀T∈Ts,H T=some (.tbl #[]))->AZ K H a (ns.map V.int)->sp [.ref a] H (λv _=>v=.bl true) λ_ _ _=>False)
 (hCX:∀H e s',CX [] H s₁ (λ_ _ _=>False) e s'->False):
 codeAny (model P w) callerA (.call (.ref fa) ⟨[.ref a],[]⟩) (λr s'=>r=.ok (.ret (.bool true))/\OldK s₁.heap s'.heap/\s'.os=s₁.os/\AllBare s'.gens) s₁:=by
 have rv:=Hy hi
 have lenV:=hi.length
 have aT:a∉Ts:=λe=>by rw[hT a e]at ha;cases ha
 have core:∀H:Hp,(∀T∈Ts,H T=some (.tbl #[]))->AZ K H a (ns.map V.int)->Ed P w H s₁.heap->(∀b,H b≠none->b=a\/b∈Ts)->(H a≠none->K.lookup a=none)->(∀u,H a=some u->∃xs,u=.frz { cls:=.type "list",data:=.seq vs.toArray } (.lst xs))->
  codeAny (model P w) callerA (.call (.ref fa) ⟨[.ref a],[]⟩) (λr s'=>r=.ok (.ret (.bool true))/\OldK s₁.heap s'.heap/\s'.os=s₁.os/\AllBare s'.gens) s₁:=by
  intro H hHT hS hok hA hK hF
  have base_of:∀{b:Addr} {o:Obj},s₁.heap.get? b=some o->H b=none->(Hd s₁.heap H).get? b=some o:=λe n=>Nl e n
  have free:∀{b:Addr} {o:Obj},s₁.heap.get? b=some o->o.cls≠.type "list"->o.cls≠.none->H b=none:=λ{b o} e c1 c2=>by
   cases q:H b with
   |none=>rfl
   |some u=>
    rcases hA b (by rw[q];simp)with z|z
    ·subst z;rw[ha]at e;cases e;exact absurd rfl c1
    ·rw[hT b z]at e;cases e;exact absurd rfl c2
  have noA:∀{b:Addr} {o:Obj} {es:Array DictEntry} {ep:Nat},s₁.heap.get? b=some o->o.data=.dict es ep->H b=none:=λ{b o es ep} e d=>by
   cases q:H b with
   |none=>rfl
   |some u=>
    rcases hA b (by rw[q];simp)with z|z
    ·subst z;rw[ha]at e;cases e;cases d
    ·rw[hT b z]at e;cases e;cases d
  have nsK:∀{b:Addr} {m:Str->Option Value},s₁.heap.Ns b m->(Hd s₁.heap H).Ns b m:=λ{b m} ⟨o,es,ep,e,d,r⟩=>⟨o,es,ep,base_of e (noA e d),d,r⟩
  have hKb:K.In (Hd s₁.heap H):=λb o e=>base_of (KX b o e) (by
   cases q:H b with
   |none=>rfl
   |some u=>
    rcases hA b (by rw[q];simp)with z|z
    ·subst z;rw[hK (by rw[q];simp)]at e;cases e
    ·rw[Jj KX hnt (hT b z)]at e;cases e)
  have hM:Mod K mg (Hd s₁.heap H):=⟨hKb,nsK hns,⟨mb,nsK hb,hbb⟩,let⟨mc,h1,h2⟩:=hlim;⟨mc,nsK h1,h2⟩⟩
  have hTb:Fp (TabAt (Hd s₁.heap H) mg) nms Ts:=Fq (λnm T hTA=>by
   obtain⟨⟨f,o,fd',c,e1,e2,e3,e4,o5,vs5,file,tf,flags,tg,inF,text,tt,f1,f2,r5⟩,bm,ob,b1,b2,b3,b4,b5,b6,b7⟩:=hTA
   refine⟨⟨f,o,fd',c,e1,base_of e2 ?_,e3,e4,o5,vs5,file,tf,flags,tg,inF,text,tt,base_of f1 (free f1 (by rw[f2];intro z;exact absurd (Value.type.inj z) (by decide)) (by rw[f2];intro z;cases z)),f2,r5⟩,bm,ob,b1,b2,b3,b4,base_of b5 (free b5 (by rw[b6];intro z;exact absurd (Value.type.inj z) (by decide)) (by rw[b6];intro z;cases z)),b6,b7⟩
   cases q:H f with
   |none=>rfl
   |some u=>
    rcases hA f (by rw[q];simp)with z|z
    ·subst z;rw[ha]at e2;cases e2;cases e3
    ·rw[hT f z]at e2;cases e2;cases e3) hTA
  have e0:Pa P w K mg (Hd s₁.heap H) callerA [] s₁ H:=⟨rfl,hM,λb o e=>PU e,Nat.le_of_eq (Md _ _),trivial,λb hb=>absurd (show b∈([]:List Addr)from hb) (by simp),hok,.of_eq hg⟩
  refine codeAny_mono ((F _ hKb (nsK hns) hTb).run callerA [] s₁ H ⟨[.ref a],[]⟩ [.ref a] [.ref a] _ _ hr e0 (hbind s₁ (.ref a)) (.cons rfl .nil) (hsp H hHT hS)) λr s' h=>?_
  cases r with
  |error e=>exact(hCX H e s' h).elim
  |ok fl=>
   cases fl with
   |next=>exact False.elim h
   |brk=>exact False.elim h
   |cont=>exact False.elim h
   |ret u=>
    obtain⟨v,H',os,bare,un,hok',r',q⟩:=h
    have q':v=.bl true:=q
    subst q'
    obtain rfl:u=Value.bool true:=r'
    have kept:∀b o,b∉Ts->s₁.heap.get? b=some o->s'.heap.get? b=some o:=λb o hbT e=>by
     cases q:H b with
     |none=>exact un.keep b o e q (by intro z;exact absurd (show b∈([]:List Addr)from z) (by simp)) (by simp)
     |some u=>
      rcases hA b (by rw[q];simp)with z|z
      ·subst z
       obtain⟨xs,z⟩:=hF u q
       subst z
       obtain⟨e2,_⟩:=hok' b _ (un.frzs b _ _ q)
       rw[ha]at e;cases e
       exact e2
      ·exact absurd z hbT
    have hT':∀T∈Ts,∃more,s'.heap.get? T=some (tabObj (#[]++more)):=λT hTm=>by
     obtain⟨more,eT⟩:=un.tbls T _ (hHT T hTm)
     exact⟨more,hok' T _ eT⟩
    refine⟨rfl,⟨λb o e=>?_,λb o e=>?_⟩,os,bare⟩
    ·by_cases z:b∈Ts
     ·rw[hT b z]at e;cases e
      obtain⟨more,hT''⟩:=hT' b z
      exact .inr (.inl ⟨hTc b z,rfl,#[],more,rfl,hT''⟩)
     ·exact .inl (kept b o z e)
    ·by_cases z:b∈Ts
     ·obtain⟨more,hT''⟩:=hT' b z
      exact⟨_,hT''⟩
     ·exact⟨o,kept b o z e⟩
 cases hk:K.lookup a with
 |some o=>
  have e:=KX a o hk
  rw[ha]at e
  cases e
  refine core (λb=>if b∈Ts then some (.tbl #[])else none) (λT hTm=>if_pos hTm) (.inr ⟨_,vs.toArray,_,hk,rfl,rfl,rfl,by rw[List.size_toArray,lenV];exact hl,by simpa using rv⟩) (λb u z=>?_) (λb z=>?_) (λz=>absurd (if_neg aT) z) (λu z=>by rw[if_neg aT]at z;cases z)
  ·dsimp only at z
   by_cases hb:b∈Ts
   ·rw[if_pos hb]at z;cases z;exact hT b hb
   ·rw[if_neg hb]at z;cases z
  ·by_cases hb:b∈Ts
   ·exact .inr hb
   ·exact absurd (if_neg hb) z
 |none=>
  refine core (λb=>if b∈Ts then some (.tbl #[])else if b=a then some (.frz { cls:=.type "list",data:=.seq vs.toArray } (.lst (ns.map V.int)))else none) (λT hTm=>if_pos hTm)
   (.inl (.inr ⟨{ cls:=.type "list",data:=.seq vs.toArray },by show(if a∈Ts then _ else _)=_;rw[if_neg aT,if_pos rfl]⟩)) (λb u z=>?_) (λb z=>?_) (λ_=>hk) (λu z=>?_)
  ·dsimp only at z
   by_cases hb:b∈Ts
   ·rw[if_pos hb]at z;cases z;exact hT b hb
   ·rw[if_neg hb]at z
    by_cases hb2:b=a
    ·rw[if_pos hb2]at z;cases z;subst hb2
     exact⟨ha,by rw[List.length_map];exact hl,vs,_,rv,ha⟩
    ·rw[if_neg hb2]at z;cases z
  ·by_cases hb:b∈Ts
   ·exact .inr hb
   ·by_cases hb2:b=a
    ·exact .inl hb2
    ·exact absurd (show(if b∈Ts then _ else if b=a then _ else none)=none by rw[if_neg hb,if_neg hb2]) z
  ·have z':(if a∈Ts then some (HO.tbl #[])else if a=a then some (.frz { cls:=.type "list",data:=.seq vs.toArray } (.lst (ns.map V.int)))else none)=some u:=z
   rw[if_neg aT,if_pos rfl]at z'
   cases z'
   exact⟨_,rfl⟩
theorem walk_ofT {l:PySem.W.OpenLaw}{n k:Nat}{q:Program}{loose:List Str}{XP:(Str->Option Value)->Heap->Prop}{YP:World->Heap->Prop}{d:DefRec}{dns:List DefRec}{K:Params->PySem.W.Frag}{CX:Nj}{sp:List Addr->PySem.W.Frag->Sp}{x:Str}{nms:List Str}
 (hn:l.most=some n)(hn2:n<=sizeLine)(hdf:d.params.defaults=[])(hr:CK k callerA)
 (hY:∀(w:World) (h:Heap),YP w h->(K w.params).In h)(hfind:Fp (λnm dn=>(recsOf q).find? (λe=>e.name==nm)=some dn) nms dns)(hnt:∀w:World,noTabs (K w.params)=true)
 (F:∀(w:World) (mg:Str->Option Value) (fa:Addr) (h:Heap),(K w.params).In h->h.Ns mainGlobals mg->mg d.name=some (.ref fa)->
  ∃fd:FuncData,(∀(s:Shared) (u:Value),BindsTo s fd ⟨[u],[]⟩ [(x,u)])/\
   ∀(Ts:List Addr) (base:Heap),(K w.params).In base->base.Ns mainGlobals mg->Fp (TabAt base mg) nms Ts->F3 l.prog w (K w.params) mg base CX k fa fd [x] (sp Ts (K w.params)))
 (hsp:∀(K:PySem.W.Frag) (Ts:List Addr) (H:Hp) (a:Addr) (ns:List Int),ns.length<=n->Ts.length=nms.length->(∀T∈Ts,H T=some (.tbl #[]))->AZ K H a (ns.map V.int)->sp Ts K [.ref a] H (λv _=>v=.bl true) λ_ _ _=>False)
 (hCX:∀(H:Hp) (s:Shared) (e:Value) (s':Shared),CX [] H s (λ_ _ _=>False) e s'->False):
 PySem.W.WalkO q loose XP YP l.row.toRowW d [] (λf vs=>PySem.call f vs):=by
 refine Att.Jd hn hdf λw s₀ s₁ mg mb fa o pm cd doc a vs ns G Y ho hd hcd hmg hobj hints hlen hg=>?_
 have KX:=hY w _ Y
 obtain⟨fd,hb,hF⟩:=F w mg fa _ KX G.T.g hmg
 have all:∀{nms:List Str} {dns:List DefRec},Fp (λnm dn=>(recsOf q).find? (λe=>e.name==nm)=some dn) nms dns->∃Ts:List Addr,Fp (TabAt s₁.heap mg) nms Ts/\Ts.length=nms.length/\(∀T∈Ts,s₁.heap.get? T=some (tabObj #[]))/\∀T∈Ts,isCodeTable s₁.heap T:=by
  intro nms dns hf
  induction hf with
  |nil=>exact⟨[],.nil,rfl,λT h=>(by simp at h),λT h=>(by simp at h)⟩
  |@cons nm dn _ _ hfind _ ih=>
   obtain⟨Ts,i1,i2,i3,i4⟩:=ih
   have en:dn.name=nm:=beq_iff_eq.mp (List.find?_some (p:=λe:DefRec=>e.name==nm) hfind)
   obtain⟨f,o',fd',c,T,t1,t2,t3,t4,t5,t6⟩:=G.T.tab dn (List.mem_of_find?_eq_some hfind)
   rw[en]at t1
   obtain⟨bm,ob,b1,b2,b3,b4,b5,b6⟩:=G.T.bmain
   have hbP:bm≠T:=λq=>by
    have e:=b3
    rw[q,t6.2]at e;cases e;cases b4
   have hbG:bm≠mainGlobals:=λq=>by
    obtain⟨o,es,ep,e,hd,_⟩:=G.T.g
    rw[q,e]at b3;cases b3;rw[hd]at b6;cases b6
   refine⟨T::Ts,.cons ⟨⟨f,o',fd',c,t1,t2,t3,t4,CodeHd.of t5 t6⟩,bm,ob,b1,b2,hbG,hbP,b3,b4,b5,b6⟩ i1,by simp[i2],λT' h=>?_,λT' h=>?_⟩
   ·rcases List.mem_cons.mp h with z|z
    ·rw[z];exact t6.2
    ·exact i3 T' z
   ·rcases List.mem_cons.mp h with z|z
    ·rw[z];exact t6.isCodeTable
    ·exact i4 T' z
 obtain⟨Ts,i1,i2,i3,i4⟩:=all hfind
 exact M1 (nms:=nms) (Ts:=Ts) KX G.T.g G.T.b G.T.builtins G.T.nolimit hg hobj hints (Nat.le_trans hlen hn2) hr i3 i4 i1 (hnt w)
  (λbase h1 h2 h3=>hF Ts base h1 h2 h3) hb (λH hH hS=>hsp (K w.params) Ts H a ns hlen i2 hH hS) λH e s'=>hCX H s₁ e s'
end L2
namespace L2
open PySem PySem.Spec PyProof.Rows PySem.W
theorem Df.T8 {P:Program}{w:World}{K:PySem.W.Frag}{mg:Str->Option Value}{base:Heap}{T:Addr}{x:Str}{st:Stmt}{N ps:List Str}{k:Nat}{sp:Sp}(D:Df K mg x st)(kb:K.In base)(TA:TabAt base mg x T)(S:AX N ps (AG st))
 (hb:∀(kV doc pm:Value) (an:Option Addr) (cdv ct:Value) (us:List Value),us.length=ps.length->bindArgs (PySem.W.fnOf x x (DA st) (CA st) (AG st) .none kV doc pm an cdv ct) ⟨us,[]⟩=pure (ps.zip us))
 (len:∀vs H Q E,sp vs H Q E->vs.length=ps.length)
 (hbody:∀(f c:Addr) (A:Around) (outer:List Env) (s:Shared) (H:Hp) (vs:List V) (Q:VK) (E:XK),CodeHd base c T->CK k (A.deeper (envOfC x (AG st) s.heap.objs.size f (.ref c)))->sp vs H Q E->
  ∃t,Kj (JZ CX0 P w K mg base N x (AG st) f (.ref c) A outer s H E).Qt (CA st) t/\t { nx:=λ_ H'=>Q .non H',rt:=Q } (start N vs) H):A9 P w K mg base x (k+1) ps sp:=by
 obtain⟨f,fd,F,m⟩:=D
 have bd:=F.binds hb
 have kp:=F.kp
 obtain⟨oc,od,kV,doc,pm,an,cdv,ct,osl,e,lk,hcd⟩:=F.ex
 obtain⟨a,o,fd',c,t1,t2,t3,t4,t5⟩:=TA.fn
 have ea:=m.symm.trans t1
 cases ea
 have eo:=kb f _ lk
 rw[t2]at eo
 cases eo
 cases t3
 subst e
 have ec:cdv=.ref c:=t4
 subst ec
 refine⟨f,_,QX lk hcd S len λA outer s H vs Q E hr hsp=>?_,bd,kp,m⟩
 obtain⟨t,h,q⟩:=hbody f c A outer s H vs Q E t5 hr hsp
 exact⟨t,h.Qt,q⟩
theorem Jk {X:Cx}(K:PySem.W.Frag)(hK:X.K=K:=by rfl):Sd X (Se K):=by
 subst hK;exact Aj
end L2
namespace L2
open PySem PySem.Spec PyProof.Rows
theorem Pn (A:Around)(s:Shared){x y:V}{u v:Value}(hx:RelV x u)(hy:RelV y v)(hs:EF x=EF y)(h0:EF x≠0):∃e,SeqAt.EqAt A s u v e/\(e=true↔x=y):=by
 rcases CY hs h0 with⟨i,j,rfl,rfl⟩|⟨a,b,rfl,rfl⟩
 ·obtain⟨t,rfl⟩:=hx
  obtain⟨t',rfl⟩:=hy
  exact⟨_,SeqAt.EqAt.int_int i t j t',by simp⟩
 ·obtain⟨t,rfl⟩:=hx
  obtain⟨t',rfl⟩:=hy
  exact⟨_,SeqAt.EqAt.str_str a t b t',by simp⟩
theorem Po (A:Around)(s:Shared){x y:V}{u v:Value}(hx:RelV x u)(hy:RelV y v)(hs:EF x=EF y)(h0:EF x≠0)(prog:Program)(w:World)(E:Value->Shared->Prop)(Q:Value->Shared->Prop)(h:Q (.bool (ltV x y)) s):
 wpAny (model prog w) A (richCompare .Lt u v) Q E s:=by
 rcases CY hs h0 with⟨i,j,rfl,rfl⟩|⟨a,b,rfl,rfl⟩
 ·obtain⟨t,rfl⟩:=hx
  obtain⟨t',rfl⟩:=hy
  exact(PyProof.Rows.lt_int h:wpAny (model prog w) A (compareOp .Lt _ _) Q E s)
 ·obtain⟨t,rfl⟩:=hx
  obtain⟨t',rfl⟩:=hy
  exact(PyProof.Rows.lt_str h:wpAny (model prog w) A (compareOp .Lt _ _) Q E s)
section
open PySem.SeqAt
open PySem.AutoSeq1 (wpAny_loadPart')
open PySem.MeetsSeq PySem.MeetsSeq2 PySem.MeetsSeq3
theorem Kx (l b:Addr)(items items2:Array Value)(n n2:Nat)(dd dd2:Option Addr)(sl sl2:Array (Option Value))(xs ys:List V)(hi:Vals xs items.toList)(hj:Vals ys items2.toList)(hs:xs.map EF=ys.map EF)(h0:0∉xs.map EF):
 Meets (Builtin.«tuple.__lt__» ⟨[.ref l,.ref b],[]⟩)
  (λ_ R s=>s.heap.get? l=some { cls:=.type "tuple",dict:=dd,data:=.seq items n,slots:=sl }/\s.heap.get? b=some { cls:=.type "tuple",dict:=dd2,data:=.seq items2 n2,slots:=sl2 }/\
   R (.ok (.ret (.bool (CU xs ys)))) s):=
 .of_wp λprog w A R s h=>by
  obtain⟨hp,g,d,tk,os⟩:=s;obtain⟨hl,hb,h⟩:=h
  have f2:=AutoSeq1.sub_tuple_tuple
  have z1:items.size=xs.length:=by rw[hi.length];simp
  have z2:items2.size=ys.length:=by rw[hj.length];simp
  have z3:xs.length=ys.length:=by have:=congrArg List.length hs;simpa using this
  wp_walk using wpAny_loadPart' hl,wpAny_loadPart' hb,wpAny_forIn_list _ (λrest b s'=>b.1=none/\s'=⟨hp,g,d,tk,os⟩/\∃(vs ws:List Value) (xs' ys':List V),rest=vs.zip ws/\
   Vals xs' vs/\Vals ys' ws/\xs'.map EF=ys'.map EF/\0∉xs'.map EF/\R (.ok (.ret (.bool (CU xs' ys')))) ⟨hp,g,d,tk,os⟩) _
  case turn=>
   rintro⟨y,x⟩ rest b s' ⟨hb',rfl,vs,ws,xs',ys',hz,hvi,hwi,hsh,hz0,hR⟩
   cases hvi with
   |nil=>rw[List.zip_nil_left]at hz;cases hz
   |cons ra hvi'=>
    cases hwi with
    |nil=>rw[List.zip_nil_right]at hz;cases hz
    |cons rc hwi'=>
     rw[List.zip_cons_cons]at hz
     injection hz with hyx hrest
     injection hyx with hy hx
     subst hy hx
     simp only[List.map_cons,List.cons.injEq]at hsh
     simp only[List.map_cons,List.mem_cons,not_or]at hz0
     unfold CU at hR
     obtain⟨e,he,hiff⟩:=Pn A.in1 ⟨hp,g,d,tk,os⟩ ra rc hsh.1 (Ne.symm hz0.1)
     refine wpAny_bind (he prog w _ _ ?_)
     cases e with
     |true=>
      rw[if_pos (hiff.mp rfl)]at hR
      wp_walk
      exact⟨rfl,rfl,_,_,_,_,hrest,hvi',hwi',hsh.2,hz0.2,hR⟩
     |false=>
      rw[if_neg (λq=>absurd (hiff.mpr q) Bool.false_ne_true)]at hR
      have hri:=Po A.in1 ⟨hp,g,d,tk,os⟩ ra rc hsh.1 (Ne.symm hz0.1) prog w
      wp_walk using hri
      exact⟨_,rfl,by simpa using hR⟩
  case fin=>
   rintro⟨b1,b2⟩ s' ⟨hb',rfl,vs,ws,xs',ys',hz,hvi,hwi,hsh,hz0,hR⟩
   simp only at hb'
   subst hb'
   have hv:CU xs' ys'=decide (items.size < items2.size):=by
    rw[decide_eq_false (by omega)]
    cases hvi with
    |nil=>
     cases hwi with
     |nil=>rfl
     |cons rc hw=>cases hsh
    |cons ra hv=>
     cases hwi with
     |nil=>cases hsh
     |cons rc hw=>
      rw[List.zip_cons_cons]at hz
      cases hz
   rw[hv]at hR
   wp_walk
   exact⟨_,rfl,by simpa[Builtin.Tuple.tupleCompareSizes]using hR⟩
  case h=>
   exact⟨rfl,rfl,items.toList,items2.toList,xs,ys,rfl,hi,hj,hs,h0,h⟩
end
section
variable {X:Cx}
end
end L2
namespace L2
open PySem PySem.Spec PyProof.Rows PySem.W
section
variable {X:Cx}{k:Nat}
theorem Il {vs:List Value}{ns:List Int}(h:IntsAre vs ns):Vals (ns.map V.int) vs:=by
 induction h with
 |nil=>exact .nil
 |cons y t _ ih=>exact .cons ⟨t,rfl⟩ ih
end
end L2
namespace L2
open PySem PySem.Spec PyProof.Rows PySem.W
def keyOf (e:Int×Value):Str:=match e.2 with|.str x _=>x|_=>Str.empty
structure DB (w:World)(led:Bool)(es:Array (Int×Value))(t:SetTable)(S:List Str):Prop where
 ent:∀e∈es.toList,∃x tk,e=(hashStr w x,Value.str x tk)
 nd:(es.toList.map keyOf).Nodup
 mem:∀x,x∈es.toList.map keyOf↔x∈S
 fit:t.fits es.size=true
 led:t.led=led
 pl:es.size=0\/t.plain=false
theorem FU (t:SetTable)(es:Array (Int×Value))(n:Nat):(relayAll t es n).2.1.led=t.led/\(t.plain=false->(relayAll t es n).2.1.plain=false):=by
 unfold relayAll
 cases e:t.relaid (es.map (·.1)) n with
 |none=>exact⟨rfl,λ_=>rfl⟩
 |some p=>
  obtain⟨t',order⟩:=p
  dsimp only
  have hl:t'.led=t.led/\t'.plain=t.plain:=by
   unfold SetTable.relaid SetTable.laid at e
   cases e2:SetTable.layClean (SetTable.sizeAbove n - 1) (es.map (·.1))with
   |none=>rw[e2]at e;cases e
   |some o=>
    rw[e2]at e
    injection e with e
    injection e with e1 e3
    rw[<-e1]
    exact⟨rfl,rfl⟩
  split
  ·exact⟨hl.1,λh=>by rw[hl.2];exact h⟩
  ·exact⟨rfl,λ_=>rfl⟩
theorem RC (t:SetTable)(n:Nat):(t.orStandIn n).led=t.led:=by
 unfold SetTable.orStandIn
 split<;>rfl
theorem Lu (t:SetTable)(es:Array (Int×Value))(h:Int)(x:Value):(layNew t es h x).2.1.led=t.led:=by
 unfold layNew
 cases e:t.freeSlot h with
 |none=>rfl
 |some p=>
  obtain⟨slot,wd⟩:=p
  exact RC _ _
theorem BP {a b:List (Int×Value)}(p:a.Perm b):(a.map keyOf).Perm (b.map keyOf):=p.map _
theorem DB.grow {w:World}{led:Bool}{es es':Array (Int×Value)}{t t':SetTable}{S:List Str}{x:Str}{tk:Tok}(h:DB w led es t S)(nx:x∉S)(p:es'.toList.Perm (es.push (hashStr w x,.str x tk)).toList)(f:t'.fits es'.size=true)(l:t'.led=led)(q:t'.plain=false):DB w led es' t' (S++[x]) where
 ent:=λe he=>by
  have:=p.mem_iff.mp he
  rw[Array.toList_push]at this
  rcases List.mem_append.mp this with z|z
  ·exact h.ent e z
  ·exact⟨x,tk,List.mem_singleton.mp z⟩
 nd:=by
  rw[(BP p).nodup_iff,Array.toList_push,List.map_append,List.nodup_append]
  refine⟨h.nd,by simp,λa ha b hb=>?_⟩
  have hb':b=x:=by simpa[keyOf]using hb
  subst hb'
  exact λe=>nx (by rw[<-e];exact(h.mem a).mp ha)
 mem:=λy=>by
  rw[(BP p).mem_iff,Array.toList_push,List.map_append,List.mem_append,List.mem_append,h.mem y]
  simp[keyOf]
 fit:=f
 led:=l
 pl:=.inr q
theorem DB.OI {w:World}{led:Bool}{es:Array (Int×Value)}{t:SetTable}{S:List Str}(h:DB w led es t S)(q:t.plain=false)(n:Nat):DB w led (relayAll t es n).1 (relayAll t es n).2.1 S where
 ent:=λe he=>h.ent e ((relayAll_perm t es n).mem_iff.mp he)
 nd:=by rw[(BP (relayAll_perm t es n)).nodup_iff];exact h.nd
 mem:=λy=>by rw[(BP (relayAll_perm t es n)).mem_iff];exact h.mem y
 fit:=relayAll_fits t es n
 led:=(FU t es n).1.trans h.led
 pl:=.inr ((FU t es n).2 q)
structure Bl (w:World)(led:Bool)(h:Heap)(a:Addr)(S:List Str)(n:Nat):Prop where
 ex:∃es ep t,h.get? a=some { cls:=.type "set",data:=.set es ep t }/\DB w led es t S/\es.size<=n
section
variable {prog:Program}{w:World}{A:Around}{E:Value->Shared->Prop}{s:Shared}
theorem Dy {a:Addr}{es es':Array (Int×Value)}{ep:Nat}{t t':SetTable}{Q:Unit->Shared->Prop}(ha:s.heap.get? a=some { cls:=.type "set",data:=.set es ep t })(hz:es'.size<=sizeLine)
 (h:∀h',Heap.SameBut a s.heap h'->h'.get? a=some { cls:=.type "set",data:=.set es' (ep+1) t' }->Q () { s with heap:=h' }):wpAny (model prog w) A (storeSet a es' t') Q E s:=by
 unfold storeSet
 refine wpAny_bind (wpAny_load ha ?_)
 dsimp only
 rw[if_neg (by omega)]
 refine wpAny_update ha (h _ (Heap.SameBut.update ..) ?_)
 rw[Heap.get?_update_self _ ha rfl]
 rfl
theorem GG {b:Bool}{Q:Unit->Shared->Prop}(h:Q () s):wpAny (model prog w) A (match b with|true=>rule "set.scan.the-table-gave-way"|false=>pure ()) Q E s:=by
 cases b with
 |true=>exact wpAny_rule h
 |false=>exact wpAny_pure h
theorem OJ {a:Addr}{S:List Str}{n:Nat}{led:Bool}{x:Str}{tk:Tok}{Q:Bool->Shared->Prop}(ha:Bl w led s.heap a S n)(hn:n+1 < scanBound)
 (h:∀b h',Heap.SameBut a s.heap h'->Bl w led h' a (S++[x]) (n+1)->Q b { s with heap:=h',toks:=s.toks+1 }):wpAny (model prog w) A (setAdd a (.str x tk)) Q E s:=by
 obtain⟨es,ep,t,hget,hS,hsz⟩:=ha
 have hsc:scanBound=4096:=rfl
 have is:(strKind prog w).is x (.str x tk)=true:=by show(x==x)=true;exact beq_self_eq_true x
 have elems:ElemsOf (strKind prog w) es.toList:=λe he=>by
  obtain⟨y,tk',rfl⟩:=hS.ent e he
  exact⟨⟨y,by show(y==y)=true;exact beq_self_eq_true y,rfl⟩,rfl⟩
 unfold setAdd
 refine wpAny_holding (wpAny_bind ((strKind prog w).pyHash is ?_))
 unfold setAddHashed
 refine wpAny_holding ?_
 rw[setAddHashedIn.eq_def]
 show wpAny _ _ (setState a >>= _) _ _ _
 refine wpAny_bind (wpAny_setState_of (s:={ s with toks:=s.toks+1 }) hget rfl hS.fit ?_)
 have bs:byScan (.str x tk) es=true:=by
  unfold byScan
  have h1:(Value.str x tk).scannable=true:=rfl
  have h2:(es.all λe=>e.2.scannable)=true:=by
   rw[Array.all_eq_true_iff_forall_mem]
   intro e he
   exact(elems e (Array.mem_toList_iff.mpr he)).2
  rw[h1,h2,decide_eq_true (by omega)];rfl
 dsimp only
 rw[if_pos bs]
 refine wpAny_bind ?_
 unfold setAddByScan
 refine wpAny_bind (wpAny_rule (wpAny_bind (wpAny_setScan_of (s:={ s with toks:=s.toks+1 }) is hget rfl hS.fit elems ?_)))
 cases ef:List.findIdx? (λe=>(strKind prog w).is x e.2) es.toList with
 |some j=>
  dsimp only
  refine wpAny_pure (wpAny_pure ?_)
  have xin:x∈S:=by
   rw[<-hS.mem x]
   obtain⟨hj,hp,_⟩:=List.findIdx?_eq_some_iff_getElem.mp ef
   have hm:=List.getElem_mem hj
   obtain⟨y,tk',e⟩:=hS.ent _ hm
   rw[e]at hp
   have:y=x:=eq_of_beq (show(y==x)=true from hp)
   subst this
   exact List.mem_map.mpr ⟨_,hm,by rw[e];rfl⟩
  refine h false s.heap (Heap.SameBut.refl ..) ⟨es,ep,t,hget,⟨hS.ent,hS.nd,λy=>?_,hS.fit,hS.led,hS.pl⟩,by omega⟩
  rw[hS.mem y,List.mem_append]
  constructor
  ·exact .inl
  ·rintro(z|z)
   ·exact z
   ·rw[List.mem_singleton.mp z];exact xin
 |none=>
  dsimp only
  have xout:x∉S:=λhin=>by
   rw[<-hS.mem x]at hin
   obtain⟨e,he,ek⟩:=List.mem_map.mp hin
   have:=List.findIdx?_eq_none_iff.mp ef e he
   obtain⟨y,tk',rfl⟩:=hS.ent e he
   have ey:y=x:=ek
   subst ey
   exact absurd (show(strKind prog w).is y (.str y tk')=true from(by show(y==y)=true;exact beq_self_eq_true y)) (by rw[this];simp)
  have lp:=layNew_perm t es ((strKind prog w).hash x) (.str x tk)
  have lf:=layNew_fits t es ((strKind prog w).hash x) (.str x tk)
  have ll:=Lu t es ((strKind prog w).hash x) (.str x tk)
  have lz:=lp.length_eq
  rw[Array.length_toList,Array.length_toList,Array.size_push]at lz
  generalize layNew t es ((strKind prog w).hash x) (.str x tk)=L at lp lf ll lz
  obtain⟨es1,t1,wd,gv⟩:=L
  dsimp only at lp lf ll lz ⊢
  have zl:sizeLine=268435455\/4096<=sizeLine:=.inr (by rw[sizeLine_eq];decide)
  have zz:es1.size<=sizeLine:=by rcases zl with z|z<;>omega
  refine wpAny_bind (GG ?_)
  have fin:∀t2:SetTable,t2.fits es1.size=true->t2.led=led->t2.plain=false->
   wpAny (model prog w) A (do
    storeSet a es1 t2
    have __do_jp:Unit->Sem (Option Bool):=λ__r=>pure (some true)
    if(!wd&&t2.tooFull)=true then
     match relayAll t2 es1 (SetTable.grown es1.size)with
     |(es,t,gave)=>do
      (match gave with|true=>rule "set.scan.the-table-gave-way"|false=>pure ())
      let __r<-storeSet a es t
      __do_jp __r
    else __do_jp ()) (λr s'=>wpAny (model prog w) A (match r with|some added=>pure added|none=>setAddHashedIn a (.str x tk) ((strKind prog w).hash x) 99999) Q E s') E { s with toks:=s.toks+1 }:=λt2 f2 l2 p2=>by
   have g:=hS.grow (es':=es1) (t':=t2) (tk:=tk) xout lp f2 l2 p2
   refine wpAny_bind (Dy (s:={ s with toks:=s.toks+1 }) hget zz λh1 sb1 hg1=>?_)
   dsimp only
   split
   ·have gr:=g.OI p2 (SetTable.grown es1.size)
    have rz:=(relayAll_perm t2 es1 (SetTable.grown es1.size)).length_eq
    rw[Array.length_toList,Array.length_toList]at rz
    generalize relayAll t2 es1 (SetTable.grown es1.size)=Rr at gr rz
    obtain⟨es3,t3,gv3⟩:=Rr
    dsimp only at gr rz ⊢
    refine wpAny_bind (GG ?_)
    refine wpAny_bind (Dy (s:={ s with heap:=h1,toks:=s.toks+1 }) hg1 (by omega) λh2 sb2 hg2=>?_)
    refine wpAny_pure (wpAny_pure ?_)
    exact h true h2 (sb1.trans sb2) ⟨es3,_,t3,hg2,gr,by omega⟩
   ·refine wpAny_pure (wpAny_pure ?_)
    exact h true h1 sb1 ⟨es1,_,t2,hg1,g,by omega⟩
  by_cases hp:t1.plain=true
  ·rw[if_pos hp,hashByValue.eq_5]
   refine wpAny_bind (wpAny_pure ?_)
   have ff:=fin { mask:=t1.mask,place:=t1.place,dummies:=t1.dummies,finger:=t1.finger,led:=t1.led,moves:=t1.moves,plain:=false } lf (ll.trans hS.led) rfl
   exact ff
  ·rw[if_neg hp]
   refine wpAny_bind (wpAny_pure ?_)
   have ff:=fin t1 lf (ll.trans hS.led) (by simpa using hp)
   exact ff
end
end L2
namespace L2
open PySem PySem.Spec PyProof.Rows PySem.W
def A5 (w:World):Bool:=!w.params.followText "set-order"
section
variable {prog:Program}{w:World}{A:Around}{E:Value->Shared->Prop}{s:Shared}
theorem DC {Q:Bool->Shared->Prop}(h:Q (w.params.followText "set-order") s):wpAny (model prog w) A setsByText Q E s:=by
 unfold setsByText
 exact wpAny_bind (wpAny_askSetting (wpAny_pure h))
theorem C3 (a:Value){Q₁:Value->Shared->Prop}(h:Q₁ (.ref s.heap.objs.size) { s with heap:=s.heap.push { cls:=.type "set",data:=.set #[] 0 (SetTable.fresh 0 0 (A5 w)) } }):
 codeAny (model prog w) A (.call (.builtin "set.__new__") ⟨[.type "set",a],[]⟩) (wants Q₁ E) s:=by
 refine codeAny_call_builtin F.plain_set_new F.entry_set_new ?_
 rw[F.newCall_set_1]
 refine wpAny_pure ?_
 unfold Builtin.«set.__new__» Builtin.Frozenset.newClass
 dsimp only
 refine wpAny_bind (wpAny_bind ?_)
 show wpAny _ _ (pure true) _ _ _
 refine wpAny_pure ?_
 rw[if_neg (by decide)]
 refine wpAny_bind ?_
 rw[F.sub_set_set]
 refine wpAny_pure ?_
 rw[if_neg (by decide)]
 refine wpAny_pure ?_
 unfold newSet
 refine wpAny_bind (wpAny_bind (DC ?_))
 dsimp only
 refine wpAny_newObj_type ?_
 exact wpAny_pure h
theorem Bl.keeps {led:Bool}{h h':Heap}{a:Addr}{S:List Str}{n:Nat}(x:Bl w led h a S n)(k:∀o,h.get? a=some o->h'.get? a=some o):Bl w led h' a S n:=by
 obtain⟨es,ep,t,e,r⟩:=x
 exact⟨es,ep,t,k _ e,r⟩
theorem Bl.start {h:Heap}{a:Addr}{led:Bool}(e:h.get? a=some { cls:=.type "set",data:=.set #[] 0 (SetTable.fresh 0 0 led) }):Bl w led h a [] 0:=
 ⟨#[],0,_,e,⟨λx hx=>by simp at hx,by simp,λx=>by simp,by rfl,rfl,.inl rfl⟩,Nat.le_refl _⟩
theorem DW {led:Bool}{l I S:Addr}{items:Array Value}{ss:List Str}{R:Result->Shared->Prop}(hv:StrsAre items.toList ss)(hh:A.handled=none)(lI:l≠I)(SI:S≠I)(Sl:S≠l)(hn:items.size+1 < scanBound):
 ∀(k i:Nat) (s:Shared),items.size - i=k->i<=items.size->s.heap.IsListIter I l i->s.heap.IsList l items->Bl w led s.heap S (ss.take i) i->
  (∀h' tk,(∀b o,b≠I->b≠S->s.heap.get? b=some o->h'.get? b=some o)->Bl w led h' S ss items.size->R (.ok (.ret .none)) { s with heap:=h',toks:=tk })->
  codeAny (model prog w) A (.builtin "set.update.loop" ⟨[.ref S,.ref I],[]⟩) R s
 |0,i,s,hk,hi,h1,h2,h3,h=>by
  have ei:i=items.size:=by omega
  subst ei
  refine codeAny_builtin F.entry_set_update_loop ?_
  rw[Around.under_plainId F.plain_set_update_loop _]
  show wpAny _ A.in1 (pyNext (.ref I) >>= _) _ _ s
  have Wk:=Walks.list (prog:=prog) (w:=w) (A:=A.in1) hh I l lI items
  have sl:ss.length=items.size:=by have:=hv.length;simpa using this.symm
  refine wpAny_bind (Wk.done s _ _ ⟨h1,h2⟩ λh' tk kp=>wpAny_pure ?_)
  refine h h' tk (λb o n1 _ e=>kp b o (by simpa using n1) e) ?_
  have:=h3.keeps (h':=h') λo e=>kp S o (by simpa using SI) e
  rw[List.take_of_length_le (by omega)]at this
  exact this
 |k+1,i,s,hk,hi,h1,h2,h3,h=>by
  have il:i < items.size:=by omega
  refine codeAny_builtin F.entry_set_update_loop ?_
  rw[Around.under_plainId F.plain_set_update_loop _]
  show wpAny _ A.in1 (pyNext (.ref I) >>= _) _ _ s
  have Wk:=Walks.list (prog:=prog) (w:=w) (A:=A.in1) hh I l lI items
  have sl:ss.length=items.size:=by have:=hv.length;simpa using this.symm
  refine wpAny_bind (Wk.item i s _ _ il ⟨h1,h2⟩ λv h' tk hP hSt kp=>?_)
  obtain⟨x,tkx,rfl,hx⟩:∃x tkx,v=.str x tkx/\ss[i]?=some x:=by
   have hx:ss[i]?=some (ss[i]'(by omega)):=List.getElem?_eq_getElem _
   obtain⟨u,e1,e2⟩:=(Ci hv).get (i:=i) (x:=V.str (ss[i]'(by omega))) (by rw[List.getElem?_map,hx];rfl)
   rw[Array.getElem?_toList,hP]at e1
   cases e1
   obtain⟨tkx,e3⟩:=e2
   exact⟨_,tkx,e3,hx⟩
  have h3':=h3.keeps (h':=h') λo e=>kp S o (by simpa using SI) e
  dsimp only
  refine wpAny_bind (wpAny_holding (OJ (s:={ s with heap:=h',toks:=tk }) h3' (by omega) λb h2' sb hA=>?_))
  refine wpAny_pure ⟨plainId_quiet F.plain_set_update_loop _,?_⟩
  have et:ss.take i++[x]=ss.take (i+1):=by rw[List.take_succ,hx];rfl
  rw[et]at hA
  refine DW hv hh lI SI Sl hn k (i+1) { s with heap:=h2',toks:=tk+1 } (by omega) (by omega) ?_ ?_ hA λh4 tk4 k4 hA4=>?_
  ·exact hSt.1.at λo e=>sb.extBut _ _ (Ne.symm SI) e
  ·obtain⟨o,e,r⟩:=hSt.2
   exact⟨o,sb.extBut _ _ (Ne.symm Sl) e,r⟩
  ·exact h h4 tk4 (λb o n1 n2 e=>k4 b o n1 n2 (sb.extBut _ _ n2 (kp b o (by simpa using n1) e))) hA4
end
end L2
namespace L2
open PySem PySem.Spec PyProof.Rows PySem.W
section
variable {prog:Program}{w:World}{A:Around}{E:Value->Shared->Prop}{s:Shared}
theorem Jl:typeNameCut 200 (Value.type "set")=pure "set":=by kernel_rfl
theorem Ge {D l:Addr}{items:Array Value}{ss:List Str}{Pf:PySem.Fin->Shared->Prop}(hget:s.heap.get? D=some { cls:=.type "set",data:=.set #[] 0 (SetTable.fresh 0 0 (A5 w)) })(hl:s.heap.IsList l items)(Dl:D≠l)(hv:StrsAre items.toList ss)(hh:A.handled=none)(hn:items.size+1 < scanBound)
 (h:∀h' tk,(∀b o,b≠D->s.heap.get? b=some o->h'.get? b=some o)->Bl w (A5 w) h' D ss items.size->Pf (.done (.ret .none)) { s with heap:=h',toks:=tk }):
 wpAny (model prog w) A (Builtin.«set.__init__» ⟨[.ref D,.ref l],[]⟩) Pf E s:=by
 have hT:s.TypeIs (.ref D) "set":=⟨_,hget,rfl⟩
 have hTl:s.TypeIs (.ref l) "list":=by obtain⟨o,e,r,_⟩:=hl;exact⟨o,e,r⟩
 unfold Builtin.«set.__init__»
 refine wpAny_bind ?_
 unfold noKeywords
 show wpAny _ _ (pure ()) _ _ _
 refine wpAny_pure ?_
 dsimp only
 unfold typeNameOfCut shownTypeOf
 refine wpAny_bind (wpAny_bind (wpAny_bind (wpAny_typeOf hT ?_)))
 rw[if_neg (by decide)]
 refine wpAny_pure ?_
 rw[Jl]
 refine wpAny_pure ?_
 refine wpAny_bind ?_
 unfold checkCount
 show wpAny _ _ (pure ()) _ _ _
 refine wpAny_pure ?_
 refine wpAny_bind ?_
 show wpAny _ _ (pure D) _ _ _
 refine wpAny_pure ?_
 refine wpAny_bind ?_
 unfold setUsed
 refine wpAny_bind (wpAny_setState_of hget rfl rfl (wpAny_pure ?_))
 have hfill:(((#[],0,SetTable.fresh 0 0 (A5 w)):Array (Int×Value)×Nat×SetTable).2.2.fill !=0)=false:=rfl
 rw[hfill,if_neg (by decide)]
 refine wpAny_bind ?_
 unfold Builtin.Frozenset.updateFrom
 refine wpAny_bind ?_
 unfold Builtin.Frozenset.isAnySet
 refine wpAny_bind (wpAny_isInstance hTl F.sub_list_set ?_)
 refine wpAny_isInstance hTl F.sub_list_frozenset ?_
 rw[if_neg (by decide)]
 refine wpAny_bind (wpAny_typeOf hTl ?_)
 rw[if_neg (by decide)]
 have lD:l < s.heap.objs.size:=by obtain⟨o,e,_⟩:=hl;exact Heap.lt_size e
 have DD:D < s.heap.objs.size:=Heap.lt_size hget
 refine wpAny_bind (wpAny_pyIter_list hl ?_)
 refine wpAny_bind (wpAny_runValue ?_)
 refine DW (led:=A5 w) (l:=l) hv (show A.handled=none from hh) (Nat.ne_of_lt lD) (Nat.ne_of_lt DD) Dl hn items.size 0 { s with heap:=s.heap.push { cls:=.type "list_iterator",data:=.fields #[.ref l,.int 0 0] } } (Nat.sub_zero _) (Nat.zero_le _) ⟨_,Heap.get?_push_size _ rfl,rfl,rfl⟩ (Heap.IsList.push hl _) (Bl.start (Heap.get?_push_of_some _ hget)) λh' tk kp hA=>?_
 refine wpAny_pure (wpAny_pure ?_)
 exact h h' tk (λb o n e=>kp b o (Nat.ne_of_lt (Heap.lt_size e)) n (Heap.get?_push_of_some _ e)) hA
theorem Ep {l:Addr}{items:Array Value}{ss:List Str}{Q:Value->Shared->Prop}(hl:s.heap.IsList l items)(hv:StrsAre items.toList ss)(hh:A.handled=none)(hn:items.size+1 < scanBound)
 (h:∀h' tk,(∀b o,s.heap.get? b=some o->h'.get? b=some o)->Bl w (A5 w) h' s.heap.objs.size ss items.size->Q (.ref s.heap.objs.size) { s with heap:=h',toks:=tk }):
 wpAny (model prog w) A (call (.type "set") [.ref l]) Q E s:=by
 have hlt:l < s.heap.objs.size:=by obtain⟨o,e,_⟩:=hl;exact Heap.lt_size e
 obtain⟨c,tl,hmro⟩:=F.called_set.mro
 refine wpAny_call (codeAny_of_tree ?_)
 show wpAny _ _ (pure (Fin.again (.builtin "type.__call__" ⟨[.type "set",.ref l],[]⟩))) _ _ _
 refine wpAny_pure ⟨Code.quiet_builtin _ (by decide+kernel),codeAny_builtin F.entry_type_call ?_⟩
 rw[Around.under_plain (weight_type_call_type "set" [.ref l] []) rfl]
 unfold Builtin.«type.__call__»
 dsimp only
 rw[if_neg (by decide),if_neg (by rw[F.called_set.canCreate];decide)]
 refine wpAny_bind ?_
 rw[F.typeCall_set_1]
 refine wpAny_pure ?_
 refine wpAny_bind ?_
 rw[hmro]
 refine wpAny_pure ?_
 rw[if_neg (by simp)]
 refine wpAny_bind ?_
 rw[F.called_set.made]
 refine wpAny_pure ?_
 dsimp only
 refine wpAny_bind (wpAny_pure ?_)
 refine wpAny_bind (wpAny_holding (wpAny_call ?_))
 refine C3 _ ?_
 have hget:(s.heap.push { cls:=.type "set",data:=.set #[] 0 (SetTable.fresh 0 0 (A5 w)) }).get? s.heap.objs.size=some { cls:=.type "set",data:=.set #[] 0 (SetTable.fresh 0 0 (A5 w)) }:=Heap.get?_push_size _ rfl
 have hT:({ s with heap:=s.heap.push { cls:=.type "set",data:=.set #[] 0 (SetTable.fresh 0 0 (A5 w)) } }:Shared).TypeIs (.ref s.heap.objs.size) "set":=⟨_,hget,rfl⟩
 refine wpAny_bind (wpAny_isInstance hT F.called_set.sub ?_)
 rw[if_neg (by decide)]
 refine wpAny_bind (wpAny_holding ?_)
 refine wpAny_callSpecial?_slot hT F.called_set.init (wpAny_call (codeAny_call_builtin F.called_set.init.plain F.entry_set_init (check_set_init_1 hT ?_)))
 refine Ge (s:={ s with heap:=s.heap.push { cls:=.type "set",data:=.set #[] 0 (SetTable.fresh 0 0 (A5 w)) } }) hget (Heap.IsList.push hl _) (Ne.symm (Nat.ne_of_lt hlt)) hv hh hn λh' tk kp hA=>?_
 dsimp only
 rw[if_neg (by decide)]
 refine wpAny_pure ?_
 exact h h' tk (λb o e=>kp b o (Nat.ne_of_lt (Heap.lt_size e)) (Heap.get?_push_of_some _ e)) hA
end
end L2
namespace L2
open PySem PySem.Spec PyProof.Rows PySem.W
theorem A0:Slot "set_iterator" (Str.ofString "__next__") "set_iterator.__next__":=Slot.of (owner:="set_iterator") (n:="__next__") (by kernel_rfl) (by kernel_rfl) (by kernel_rfl) (by kernel_rfl) (.inl (by kernel_rfl)) (by kernel_rfl)
theorem F7:entryFor table "set_iterator.__next__"=some Builtin.«set_iterator.__next__»:=by kernel_rfl
theorem DX:entryFor table "set.__iter__"=some Builtin.«frozenset.__iter__»:=by kernel_rfl
theorem Jm:List.lookup (String.ofList ['r','o','t','a','r','e','t','i','_','t','e','s'].reverse) Manifest.owners=some Manifest.sig_set_iterator:=by kernel_rfl
theorem Gf (a:Value):argsOk "set_iterator.__next__" { pos:=[a] }:=by
 show(match Manifest.signature? "set_iterator.__next__" with|some sig=>Bind.checkArgs "set_iterator.__next__" sig { pos:=[a] }|none=>pure ())=pure ()
 rw[signature?_of (id:="set_iterator.__next__") (n:=['_','_','t','x','e','n','_','_']) (o:=['r','o','t','a','r','e','t','i','_','t','e','s']) (by kernel_rfl) Jm]
 kernel_rfl
theorem FV {α:Type}:∀{xs:List α} {i:Nat} {x:α},xs[i]?=some x->(x::xs.eraseIdx i).Perm xs
 |[],i,x,h=>by simp at h
 |y::ys,0,x,h=>by
  have:y=x:=by simpa using h
  subst this
  exact List.Perm.refl _
 |y::ys,i+1,x,h=>by
  have ih:=FV (xs:=ys) (i:=i) (x:=x) (by simpa using h)
  rw[List.eraseIdx_cons_succ]
  exact(List.Perm.swap y x _).trans (ih.cons y)
theorem Lv {α:Type}(next:Nat->Nat):∀(fuel k:Nat) (left:List α) (out:Array α),left.length=fuel->(pickOrder.go next fuel k left out).toList.Perm (out.toList++left)
 |0,k,left,out,h=>by
  rw[pickOrder.go.eq_1]
  have:left=[]:=List.length_eq_zero_iff.mp h
  rw[this,List.append_nil]
 |fuel+1,k,left,out,h=>by
  have lt:next k % left.length < left.length:=Nat.mod_lt _ (by omega)
  have e:left[next k % left.length]?=some left[next k % left.length]:=List.getElem?_eq_getElem lt
  rw[pickOrder.go.eq_2,e]
  dsimp only
  refine(Lv next fuel (k+1) _ _ (by rw[List.length_eraseIdx_of_lt lt];omega)).trans ?_
  rw[Array.toList_push,List.append_assoc]
  exact List.Perm.append_left _ (FV e)
theorem Dz {α:Type}(next:Nat->Nat)(xs:Array α):(pickOrder next xs).toList.Perm xs.toList:=by
 unfold pickOrder
 have:=Lv next xs.size 0 xs.toList #[] (by simp)
 simpa using this
section
variable {prog:Program}{w:World}{A:Around}{E:Value->Shared->Prop}
theorem M3 {s:Shared}{src:Source}{n:Nat}{Q:Nat->Shared->Prop}(hn:n≠0)(h:∀i d,i < n->Q i { s with drawn:=d }):wpAny (model prog w) A (choose src n) Q E s:=by
 intro Γ p hΓ
 unfold choose
 rw[Sem.wp_choose]
 refine⟨hn,?_⟩
 rw[Sem.wp_pure]
 exact h _ _ (Nat.mod_lt _ (by omega))
theorem Im {α:Type}:∀(n:Nat) (xs:List α) (s:Shared) (Q:List α->Shared->Prop),xs.length=n->(∀ys d,ys.Perm xs->Q ys { s with drawn:=d })->wpAny (model prog w) A (drawOrder n xs) Q E s
 |0,xs,s,Q,h,q=>by
  rw[drawOrder.eq_1]
  have:xs=[]:=List.length_eq_zero_iff.mp h
  subst this
  exact wpAny_pure (q [] s.drawn (List.Perm.refl _))
 |n+1,xs,s,Q,h,q=>by
  rw[drawOrder.eq_3 _ _ (λe=>by rw[e]at h;cases h)]
  refine wpAny_bind (M3 (by omega) λi d hi=>?_)
  have e:xs[i]?=some xs[i]:=List.getElem?_eq_getElem hi
  rw[e]
  dsimp only
  refine wpAny_bind (Im n (xs.eraseIdx i) _ _ (by rw[List.length_eraseIdx_of_lt hi];omega) λys d' hp=>?_)
  exact wpAny_pure (q _ _ ((hp.cons _).trans (FV e)))
theorem IE (p:Nat):SetTable.below #[p] 0=0/\SetTable.below #[p] (p+1)=1:=by
 constructor
 ·simp[SetTable.below,SetTable.below.go]
 ·simp[SetTable.below,SetTable.below.go]
abbrev Cc (f:Value)(i:Nat)(D:Addr)(n ep:Nat):Obj:={ cls:=.type "set_iterator",data:=.fields #[f,rawInt (i:Int),.ref D,rawInt (n:Int),rawInt (ep:Int)] }
theorem Er {h:Heap}{I:Addr}{f g:Value}{i j:Nat}{D:Addr}{n ep:Nat}(e:h.get? I=some (Cc f i D n ep)):(h.update I (Obj.mapFields λvs=>vs.setIfInBounds 1 (rawInt ((i:Int)+1)))).get? I=some (Cc f (i+1) D n ep):=by
 rw[Heap.get?_update_self _ e rfl]
 rfl
variable {s:Shared}
theorem D0 {I:Addr}{o:Obj}{vs:Array Value}{Pf:PySem.Fin->Shared->Prop}(hh:A.handled=none)(ho:s.heap.get? I=some o)(hd:o.data=.fields vs)(h2:2 < vs.size)
 (hE:∀h' e,Heap.ExtBut I s.heap h'->(∃o,h'.get? e=some o/\o.cls=.type "StopIteration")->E (.ref e) { s with heap:=h' }):
 wpAny (model prog w) A (do setField (.ref I) 2 .none;let __do_lift<-newExc (.type "StopIteration") [];raiseNew __do_lift) Pf E s:=by
 refine wpAny_bind (wpAny_setField ho hd h2 ?_)
 refine wpAny_bind ?_
 simp only[newExc,newTuple]
 refine wpAny_bind (wpAny_newObj_type ?_ (by size_fits))
 refine wpAny_bind (m:=firstArgMember _ _) (wpAny_of_eq (a:=Value.none) (by first|rfl|(simp only[firstArgMember];rfl)) ?_)
 refine wpAny_newObj_type ?_ (by size_fits)
 simp only[raiseNew]
 refine wpAny_bind (wpAny_handled ?_)
 rw[hh]
 refine wpAny_bind (wpAny_pure (wpAny_throw ?_))
 exact hE _ _ (((Heap.SameBut.update ..).extBut.push _).push _) ⟨_,Heap.get?_push_size _ rfl,rfl⟩
theorem CD {I D:Addr}{f:Value}{i ep:Nat}{es:Array (Int×Value)}{t:SetTable}{Pf:PySem.Fin->Shared->Prop}(hI:s.heap.get? I=some (Cc f i D es.size ep))(hD:s.heap.get? D=some { cls:=.type "set",data:=.set es ep t })(hf:t.fits es.size=true)
 (h:wpAny (model prog w) A (match f with
  |.int slot tok=>do
   let __do_lift<-setNext D slot.toNat i ep
   match __do_lift with
    |some (x,next)=>do
     setField (.ref I) 0 (rawInt next)
     setField (.ref I) 1 (rawInt ((i:Int)+1))
     ret x
    |none=>do
     setField (.ref I) 2 .none
     let __do_lift<-newExc (.type "StopIteration") []
     raiseNew __do_lift
  |x=>do
   let __x<-seqItems? f
   match __x with
    |some places=>
     match places[i]? with
     |some (.int place tok)=>do
      let x<-setNextDrawn D place.toNat ep
      setField (.ref I) 1 (rawInt ((i:Int)+1))
      ret x
     |some val=>unsupported "internal:set_iterator"
     |none=>do
      setField (.ref I) 0 (rawInt 0)
      setField (.ref I) 2 .none
      let __do_lift<-newExc (.type "StopIteration") []
      raiseNew __do_lift
    |x=>unsupported "internal:set_iterator") Pf E s):
 wpAny (model prog w) A (Builtin.«set_iterator.__next__» ⟨[.ref I],[]⟩) Pf E s:=by
 unfold Builtin.«set_iterator.__next__»
 refine wpAny_bind ?_
 show wpAny _ _ (pure (Value.ref I,[])) _ _ _
 refine wpAny_pure ?_
 dsimp only
 refine wpAny_bind (wpAny_fieldsOf hI rfl ?_)
 show wpAny _ _ (setEntries D >>= _) _ _ s
 unfold setEntries
 refine wpAny_bind (wpAny_bind (wpAny_setState_of hD rfl hf (wpAny_pure ?_)))
 dsimp only
 rw[if_neg (by simp)]
 simp only[Int.toNat_natCast]
 exact h
theorem Es {D:Addr}{slot i ep:Nat}{es:Array (Int×Value)}{t:SetTable}{Q:Option (Value×Nat)->Shared->Prop}(bt:w.params.followText "set-order"=true)(hD:s.heap.get? D=some { cls:=.type "set",data:=.set es ep t })(hf:t.fits es.size=true)
 (h:Q (((pickOrder (w.params.setOrder D ep) es)[i]?).map λe=>(e.2,slot)) s):wpAny (model prog w) A (setNext D slot i ep) Q E s:=by
 unfold setNext
 refine wpAny_bind (wpAny_setState_of hD rfl hf ?_)
 dsimp only
 refine wpAny_bind (DC ?_)
 rw[bt,if_pos rfl,if_neg (by simp)]
 unfold setWalk
 refine wpAny_bind (wpAny_bind (wpAny_setState_of hD rfl hf ?_))
 dsimp only
 refine wpAny_bind (DC ?_)
 rw[bt,if_pos rfl]
 refine wpAny_bind (wpAny_askSetting (wpAny_pure (wpAny_pure h)))
theorem DY {D:Addr}{slot i ep:Nat}{es:Array (Int×Value)}{t:SetTable}{Q:Option (Value×Nat)->Shared->Prop}(bt:w.params.followText "set-order"=false)(hD:s.heap.get? D=some { cls:=.type "set",data:=.set es ep t })(hf:t.fits es.size=true)(hl:t.led=true)(hz:es.size<=1)
 (h:Q (match es[SetTable.below t.place slot]?,t.place[SetTable.below t.place slot]? with|some (_,x),some j=>some (x,j+1)|_,_=>none) s):wpAny (model prog w) A (setNext D slot i ep) Q E s:=by
 unfold setNext
 refine wpAny_bind (wpAny_setState_of hD rfl hf ?_)
 dsimp only
 refine wpAny_bind (DC ?_)
 rw[bt,if_neg (by decide)]
 rw[if_neg (by
  show¬((!t.plain&&decide (es.size > 1))=true)
  rw[decide_eq_false (by omega)]
  simp)]
 refine wpAny_bind ?_
 show wpAny _ _ (if(!t.led&&!es.isEmpty)=true then _ else pure ()) _ _ _
 rw[if_neg (by rw[hl];simp)]
 exact wpAny_pure (wpAny_pure h)
end
end L2
namespace L2
open PySem PySem.Spec PyProof.Rows PySem.W
theorem DZ:Slot "set_iterator" (Str.ofString "__iter__") "set_iterator.__iter__":=Slot.of (owner:="set_iterator") (n:="__iter__") (by kernel_rfl) (by kernel_rfl) (by kernel_rfl) (by kernel_rfl) (.inl (by kernel_rfl)) (by kernel_rfl)
theorem F8:entryFor table "set_iterator.__iter__"=some Builtin.«dict_keyiterator.__iter__»:=by kernel_rfl
theorem Gg (a:Value):argsOk "set_iterator.__iter__" { pos:=[a] }:=by
 show(match Manifest.signature? "set_iterator.__iter__" with|some sig=>Bind.checkArgs "set_iterator.__iter__" sig { pos:=[a] }|none=>pure ())=pure ()
 rw[signature?_of (id:="set_iterator.__iter__") (n:=['_','_','r','e','t','i','_','_']) (o:=['r','o','t','a','r','e','t','i','_','t','e','s']) (by kernel_rfl) Jm]
 kernel_rfl
section
variable {prog:Program}{w:World}{A:Around}
theorem D3 {E:Value->Shared->Prop}{s:Shared}{I D:Addr}{f:Value}{i n ep:Nat}{Q:Value->Shared->Prop}(hI:s.heap.get? I=some (Cc f i D n ep))(q:Q (.ref I) s):wpAny (model prog w) A (pyIter (.ref I)) Q E s:=by
 have hT:s.TypeIs (.ref I) "set_iterator":=⟨_,hI,rfl⟩
 refine wpAny_pyIter_slot hT DZ (wpAny_call_entry DZ hT F8 ?_ (Gg _))
 exact wpAny_pure ⟨.ref I,rfl,"set_iterator",_,hT,A0.lookup,q⟩
theorem Bq {E:Value->Shared->Prop}{s:Shared}{I D:Addr}{f:Value}{i n ep:Nat}{Q:Option Value->Shared->Prop}(hI:s.heap.get? I=some (Cc f i D n ep))
 (h:wpAny (model prog w) A.in1 (Builtin.«set_iterator.__next__» ⟨[.ref I],[]⟩) (λfin s'=>∃v,fin=Fin.done (Flow.ret v)/\Q (some v) s') (λe s'=>(∃o,s'.heap.get? (match e with|.ref a=>a|_=>0)=some o/\o.cls=.type "StopIteration")/\(∃a,e=.ref a)/\Q none s') s):
 wpAny (model prog w) A (pyNext (.ref I)) Q E s:=by
 have hT:s.TypeIs (.ref I) "set_iterator":=⟨_,hI,rfl⟩
 unfold pyNext
 refine wpAny_bind (wpAny_attempt (wpAny_callSpecial?_slot (name:=Str.ofString "__next__") hT A0 (wpAny_call_entry A0 hT F7 ?_ (Gf _))))
 refine wpAny_mono h (λfin s' hf=>?_) (λe s' he=>?_)
 ·obtain⟨v,e1,q⟩:=hf
  exact⟨v,e1,wpAny_pure q⟩
 ·obtain⟨⟨o,ho,hc⟩,⟨a,rfl⟩,q⟩:=he
  refine wpAny_bind (wpAny_isInstance (T:="StopIteration") (b:=true) ⟨o,ho,hc⟩ isSubtype_stop ?_)
  exact wpAny_pure q
abbrev setAt (D:Addr)(es:Array (Int×Value))(ep:Nat)(t:SetTable)(h:Heap):Prop:=h.get? D=some { cls:=.type "set",data:=.set es ep t }
theorem Gh (bt:w.params.followText "set-order"=true)(hh:A.handled=none){I D:Addr}(DI:D≠I){es:Array (Int×Value)}{ep:Nat}{t:SetTable}(hf:t.fits es.size=true):
 Walks prog w A I [I,D] [I] es.size (λi v=>((pickOrder (w.params.setOrder D ep) es).toList.map (·.2))[i]?=some v) (λi h=>h.get? I=some (Cc (rawInt 0) i D es.size ep)/\setAt D es ep t h) where
 sub:=λb hb=>by simp at hb;simp[hb]
 frame:=λi h h' st k=>⟨k I (by simp) _ st.1,k D (by simp) _ st.2⟩
 item:=λi s Q E hi st hQ=>by
  have pz:(pickOrder (w.params.setOrder D ep) es).size=es.size:=by
   have:=(Dz (w.params.setOrder D ep) es).length_eq
   simpa using this
  have e:(pickOrder (w.params.setOrder D ep) es)[i]?=some ((pickOrder (w.params.setOrder D ep) es)[i]'(by omega)):=Array.getElem?_eq_getElem _
  refine Bq st.1 (CD st.1 st.2 hf ?_)
  show wpAny _ _ (setNext D 0 i ep >>= _) _ _ s
  refine wpAny_bind (Es bt st.2 hf ?_)
  rw[e]
  dsimp only[Option.map_some]
  refine wpAny_bind (wpAny_setField st.1 rfl (by simp) ?_)
  have e1:(s.heap.update I (Obj.mapFields λvs=>vs.setIfInBounds 0 (rawInt ((0:Nat):Int)))).get? I=some (Cc (rawInt 0) i D es.size ep):=by
   rw[Heap.get?_update_self _ st.1 rfl];rfl
  refine wpAny_bind (wpAny_setField (s:={ s with heap:=s.heap.update I (Obj.mapFields λvs=>vs.setIfInBounds 0 (rawInt ((0:Nat):Int))) }) e1 rfl (by simp) (wpAny_pure ⟨_,rfl,?_⟩))
  refine hQ _ _ s.toks ?_ ⟨Er (g:=rawInt 0) (j:=0) e1,?_⟩ (λb o hb eb=>?_)
  ·rw[List.getElem?_map,Array.getElem?_toList,e];rfl
  ·exact(Heap.get?_update_ne _ _ _ _ DI).trans ((Heap.get?_update_ne _ _ _ _ DI).trans st.2)
  ·have nb:b≠I:=by simpa using hb
   rw[Heap.get?_update_ne _ _ _ _ nb,Heap.get?_update_ne _ _ _ _ nb];exact eb
 done:=λs Q E st hQ=>by
  have pz:(pickOrder (w.params.setOrder D ep) es).size=es.size:=by
   have:=(Dz (w.params.setOrder D ep) es).length_eq
   simpa using this
  refine Bq st.1 (CD st.1 st.2 hf ?_)
  show wpAny _ _ (setNext D 0 es.size ep >>= _) _ _ s
  refine wpAny_bind (Es bt st.2 hf ?_)
  rw[Array.getElem?_eq_none (by omega)]
  dsimp only[Option.map_none]
  refine D0 (show A.in1.handled=none from hh) st.1 rfl (by simp) λh' e x ho=>⟨ho,⟨e,rfl⟩,hQ h' s.toks λb o hb eb=>x b o (by simpa using hb) eb⟩
 self:=λi s Q E st q=>D3 st.1 q
theorem IF (bt:w.params.followText "set-order"=false)(hh:A.handled=none){I D:Addr}(DI:D≠I){es:Array (Int×Value)}{ep:Nat}{t:SetTable}(hf:t.fits es.size=true)(hl:t.led=true)(hz:es.size<=1):
 Walks prog w A I [I,D] [I] es.size (λi v=>(es.toList.map (·.2))[i]?=some v) (λi h=>h.get? I=some (Cc (rawInt (if i=0 then 0 else((t.place.getD 0 0:Nat):Int)+1)) i D es.size ep)/\setAt D es ep t h) where
 sub:=λb hb=>by simp at hb;simp[hb]
 frame:=λi h h' st k=>⟨k I (by simp) _ st.1,k D (by simp) _ st.2⟩
 item:=λi s Q E hi st hQ=>by
  have i0:i=0:=by omega
  subst i0
  have pz:t.place.size=es.size:=by
   unfold SetTable.fits at hf
   simp only[Bool.and_eq_true,beq_iff_eq]at hf
   exact hf.1
  obtain⟨p,hp⟩:∃p,t.place=#[p]:=Array.size_eq_one_iff.mp (by omega)
  obtain⟨en,hen⟩:∃en,es=#[en]:=Array.size_eq_one_iff.mp (by omega)
  refine Bq st.1 (CD st.1 st.2 hf ?_)
  show wpAny _ _ (setNext D 0 0 ep >>= _) _ _ s
  refine wpAny_bind (DY bt st.2 hf hl hz ?_)
  rw[hp,(IE p).1,hen]
  show wpAny _ _ (do setField (.ref I) 0 (rawInt ((p+1:Nat):Int));setField (.ref I) 1 (rawInt (((0:Nat):Int)+1));ret en.2) _ _ s
  refine wpAny_bind (wpAny_setField st.1 rfl (by simp) ?_)
  have e1:(s.heap.update I (Obj.mapFields λvs=>vs.setIfInBounds 0 (rawInt ((p+1:Nat):Int)))).get? I=some (Cc (rawInt ((p+1:Nat):Int)) 0 D es.size ep):=by
   rw[Heap.get?_update_self _ st.1 rfl];rfl
  refine wpAny_bind (wpAny_setField (s:={ s with heap:=s.heap.update I (Obj.mapFields λvs=>vs.setIfInBounds 0 (rawInt ((p+1:Nat):Int))) }) e1 rfl (by simp) (wpAny_pure ⟨_,rfl,?_⟩))
  refine hQ _ _ s.toks ?_ ⟨?_,?_⟩ (λb o hb eb=>?_)
  ·rw[hen];rfl
  ·have:=Er (g:=rawInt 0) (j:=0) e1
   rw[hp]
   exact this
  ·exact(Heap.get?_update_ne _ _ _ _ DI).trans ((Heap.get?_update_ne _ _ _ _ DI).trans st.2)
  ·have nb:b≠I:=by simpa using hb
   rw[Heap.get?_update_ne _ _ _ _ nb,Heap.get?_update_ne _ _ _ _ nb];exact eb
 done:=λs Q E st hQ=>by
  have pz:t.place.size=es.size:=by
   unfold SetTable.fits at hf
   simp only[Bool.and_eq_true,beq_iff_eq]at hf
   exact hf.1
  refine Bq st.1 (CD st.1 st.2 hf ?_)
  have fin:wpAny (model prog w) A.in1 (do setField (.ref I) 2 .none;let __do_lift<-newExc (.type "StopIteration") [];raiseNew __do_lift) (λfin s'=>∃v,fin=Fin.done (Flow.ret v)/\Q (some v) s') (λe s'=>(∃o,s'.heap.get? (match e with|.ref a=>a|_=>0)=some o/\o.cls=.type "StopIteration")/\(∃a,e=.ref a)/\Q none s') s:=
   D0 (show A.in1.handled=none from hh) st.1 rfl (by simp) λh' e x ho=>⟨ho,⟨e,rfl⟩,hQ h' s.toks λb o hb eb=>x b o (by simpa using hb) eb⟩
  rcases Nat.eq_zero_or_pos es.size with z|z
  ·rw[if_pos z]
   show wpAny _ _ (setNext D 0 es.size ep >>= _) _ _ s
   refine wpAny_bind (DY bt st.2 hf hl hz ?_)
   have:es=#[]:=Array.eq_empty_of_size_eq_zero z
   rw[this]
   exact fin
  ·rw[if_neg (by omega)]
   obtain⟨p,hp⟩:∃p,t.place=#[p]:=Array.size_eq_one_iff.mp (by omega)
   obtain⟨en,hen⟩:∃en,es=#[en]:=Array.size_eq_one_iff.mp (by omega)
   have e0:((t.place.getD 0 0:Nat):Int)+1=((p+1:Nat):Int):=by rw[hp];rfl
   rw[e0]
   show wpAny _ _ (setNext D (p+1) es.size ep >>= _) _ _ s
   refine wpAny_bind (DY bt st.2 hf hl hz ?_)
   rw[hp,(IE p).2,hen]
   exact fin
 self:=λi s Q E st q=>D3 st.1 q
theorem Fs (hh:A.handled=none){I D T:Addr}(DI:D≠I)(TI:T≠I){es:Array (Int×Value)}{ep:Nat}{t:SetTable}(hf:t.fits es.size=true){ps:List Nat}(hp:ps.Perm (List.range es.size)):
 Walks prog w A I [I,D,T] [I] es.size (λi v=>(ps.map λp=>(es.toList.getD p (0,.none)).2)[i]?=some v) (λi h=>h.get? I=some (Cc (.ref T) i D es.size ep)/\setAt D es ep t h/\h.get? T=some { cls:=.type "tuple",data:=.seq (ps.map λp:Nat=>rawInt (p:Int)).toArray }) where
 sub:=λb hb=>by simp at hb;simp[hb]
 frame:=λi h h' st k=>⟨k I (by simp) _ st.1,k D (by simp) _ st.2.1,k T (by simp) _ st.2.2⟩
 item:=λi s Q E hi st hQ=>by
  have pl:ps.length=es.size:=by have:=hp.length_eq;simpa using this
  have ei:ps[i]?=some (ps[i]'(by omega)):=List.getElem?_eq_getElem _
  have pil:ps[i]'(by omega) < es.size:=List.mem_range.mp (hp.mem_iff.mp (List.getElem_mem _))
  refine Bq st.1 (CD st.1 st.2.1 hf ?_)
  show wpAny _ _ (seqItems? (.ref T) >>= _) _ _ s
  refine wpAny_bind (wpAny_seqItems st.2.2 rfl ?_)
  dsimp only
  have eg:(ps.map λp:Nat=>rawInt (p:Int)).toArray[i]?=some (.int ((ps[i]'(by omega):Nat):Int) 0):=by
   rw[List.getElem?_toArray,List.getElem?_map,ei];rfl
  rw[eg]
  dsimp only
  unfold setNextDrawn
  refine wpAny_bind (wpAny_bind (wpAny_setState_of st.2.1 rfl hf ?_))
  dsimp only
  rw[if_neg (by simp),Int.toNat_natCast,Array.getElem?_eq_getElem pil]
  dsimp only
  refine wpAny_pure ?_
  refine wpAny_bind (wpAny_setField st.1 rfl (by simp) (wpAny_pure ⟨_,rfl,?_⟩))
  refine hQ _ _ s.toks ?_ ⟨Er (g:=rawInt 0) (j:=0) st.1,?_,?_⟩ (λb o hb eb=>?_)
  ·rw[List.getElem?_map,ei]
   show some ((es.toList.getD (ps[i]'(by omega)) (0,.none)).2)=_
   rw[List.getD_eq_getElem?_getD,Array.getElem?_toList,Array.getElem?_eq_getElem pil];rfl
  ·exact(Heap.get?_update_ne _ _ _ _ DI).trans st.2.1
  ·rw[Heap.get?_update_ne _ _ _ _ TI];exact st.2.2
  ·have nb:b≠I:=by simpa using hb
   rw[Heap.get?_update_ne _ _ _ _ nb];exact eb
 done:=λs Q E st hQ=>by
  have pl:ps.length=es.size:=by have:=hp.length_eq;simpa using this
  refine Bq st.1 (CD st.1 st.2.1 hf ?_)
  show wpAny _ _ (seqItems? (.ref T) >>= _) _ _ s
  refine wpAny_bind (wpAny_seqItems st.2.2 rfl ?_)
  dsimp only
  rw[show(ps.map λp:Nat=>rawInt (p:Int)).toArray[es.size]?=none by rw[List.getElem?_toArray,List.getElem?_map,List.getElem?_eq_none (by omega)];rfl]
  dsimp only
  refine wpAny_bind (wpAny_setField st.1 rfl (by simp) ?_)
  have e1:(s.heap.update I (Obj.mapFields λvs=>vs.setIfInBounds 0 (rawInt 0))).get? I=some (Cc (rawInt 0) es.size D es.size ep):=by
   rw[Heap.get?_update_self _ st.1 rfl];rfl
  refine D0 (s:={ s with heap:=s.heap.update I (Obj.mapFields λvs=>vs.setIfInBounds 0 (rawInt 0)) }) (show A.in1.handled=none from hh) e1 rfl (by simp) λh' e x ho=>⟨ho,⟨e,rfl⟩,hQ h' s.toks λb o hb eb=>x b o (by simpa using hb) (by
   have nb:b≠I:=by simpa using hb
   rw[Heap.get?_update_ne _ _ _ _ nb];exact eb)⟩
 self:=λi s Q E st q=>D3 st.1 q
end
end L2
namespace L2
open PySem PySem.Spec PyProof.Rows PySem.W
section
variable {prog:Program}{w:World}{A:Around}{E:Value->Shared->Prop}{s:Shared}
theorem Dc {α β:Type}(f:α->β)(l:List α)(d:α):((List.range l.length).map λp=>f (l.getD p d))=l.map f:=by
 apply List.ext_getElem
 ·simp
 ·intro i h1 h2
  simp only[List.length_map]at h2
  rw[List.getElem_map,List.getElem_range,List.getElem_map,List.getD_eq_getElem?_getD,List.getElem?_eq_getElem h2];rfl
theorem Gi {D:Addr}{es:Array (Int×Value)}{ep:Nat}{t:SetTable}{S:List Str}{Q:Value->Shared->Prop}(hD:setAt D es ep t s.heap)(hS:DB w (A5 w) es t S)(hz:es.size<=1000)
 (h:∀(I:Addr) (fp:List Addr) (St:Nat->Heap->Prop) (vs:List Value) (h1:Heap) (d:Drawn),(∀A':Around,A'.handled=none->Walks prog w A' I fp [I] es.size (λi v=>vs[i]?=some v) St)->St 0 h1->s.heap.objs.size<=I->(∀b∈fp,b < h1.objs.size)->(∀b o,s.heap.get? b=some o->h1.get? b=some o)->vs.Perm (es.toList.map (·.2))->h1.get? I≠none->(∀b∈fp,b=I\/b=D\/s.heap.objs.size<=b)->Q (.ref I) { s with heap:=h1,drawn:=d }):
 wpAny (model prog w) A (pyIter (.ref D)) Q E s:=by
 have hT:s.TypeIs (.ref D) "set":=⟨_,hD,rfl⟩
 have Dlt:D < s.heap.objs.size:=Heap.lt_size hD
 refine wpAny_pyIter_slot hT F.slot_set_iter (wpAny_call_entry F.slot_set_iter hT DX ?_ (F.args_set_iter_1 _))
 unfold Builtin.«frozenset.__iter__» Builtin.Frozenset.slot0
 refine wpAny_bind (wpAny_bind ?_)
 show wpAny _ _ (pure (Value.ref D,[])) _ _ _
 refine wpAny_pure ?_
 show wpAny _ _ (pure D) _ _ _
 refine wpAny_pure ?_
 unfold Builtin.Frozenset.sizeOf setEntries
 refine wpAny_bind (wpAny_bind (wpAny_bind (wpAny_setState_of hD rfl hS.fit (wpAny_pure (wpAny_pure ?_)))))
 unfold setDrawn
 refine wpAny_bind (wpAny_bind (wpAny_setState_of hD rfl hS.fit ?_))
 dsimp only
 refine wpAny_bind (DC (wpAny_pure ?_))
 have szp:∀(g:Heap) (o:Obj),(g.push o).objs.size=g.objs.size+1:=λg o=>Heap.size_push ..
 by_cases dr:(!w.params.followText "set-order"&&(!t.plain&&decide (es.size > 1)))=true
 ·refine wpAny_ite_true ?_ ?_
  ·exact decide_eq_true dr
  refine wpAny_bind (Im es.size (List.range es.size) _ _ (by simp) λps d hp=>?_)
  have pl:ps.length=es.size:=by have:=hp.length_eq;simpa using this
  unfold newTuple
  refine wpAny_bind (wpAny_newObj_type ?_ (by
   show(ps.map λi:Nat=>rawInt (i:Int)).toArray.size<=sizeLine
   rw[List.size_toArray,List.length_map,sizeLine_eq];omega))
  unfold setEpoch
  have hD1:setAt D es ep t (s.heap.push { cls:=.type "tuple",data:=.seq (ps.map λi:Nat=>rawInt (i:Int)).toArray }):=Heap.get?_push_of_some _ hD
  refine wpAny_bind (wpAny_bind (wpAny_setState_of (s:={ s with heap:=s.heap.push { cls:=.type "tuple",data:=.seq (ps.map λi:Nat=>rawInt (i:Int)).toArray },drawn:=d }) hD1 rfl hS.fit (wpAny_pure ?_)))
  dsimp only
  unfold newFields
  refine wpAny_bind (wpAny_newObj_type ?_)
  refine wpAny_pure ⟨_,rfl,"set_iterator",_,⟨_,Heap.get?_push_size _ rfl,rfl⟩,A0.lookup,?_⟩
  have TI:s.heap.objs.size≠(s.heap.push { cls:=.type "tuple",data:=.seq (ps.map λi:Nat=>rawInt (i:Int)).toArray }).objs.size:=by rw[szp];omega
  have DI:D≠(s.heap.push { cls:=.type "tuple",data:=.seq (ps.map λi:Nat=>rawInt (i:Int)).toArray }).objs.size:=by rw[szp];exact Nat.ne_of_lt (Nat.lt_succ_of_lt Dlt)
  refine h _ _ _ _ _ d (λA' hA'=>Fs (T:=s.heap.objs.size) hA' DI TI hS.fit hp) ⟨Heap.get?_push_size _ rfl,Heap.get?_push_of_some _ hD1,Heap.get?_push_of_some _ (Heap.get?_push_size _ rfl)⟩ ?_ ?_ (λb o e=>Heap.get?_push_of_some _ (Heap.get?_push_of_some _ e)) ?_ ?_ ?_
  ·rw[szp];omega
  ·intro b hb
   rw[szp,szp]
   simp only[List.mem_cons,List.not_mem_nil,or_false]at hb
   rcases hb with rfl|rfl|rfl
   ·rw[szp];exact Nat.lt_succ_self _
   ·exact Nat.lt_succ_of_lt (Nat.lt_succ_of_lt Dlt)
   ·exact Nat.lt_succ_of_lt (Nat.lt_succ_self _)
  ·have:=hp.map (λp=>(es.toList.getD p (0,.none)).2)
   have e2:=Dc (λe:Int×Value=>e.2) es.toList (0,.none)
   rw[Array.length_toList]at e2
   rw[e2]at this
   exact this
  ·rw[Heap.get?_push_size _ rfl];simp
  ·intro b hb
   simp only[List.mem_cons,List.not_mem_nil,or_false]at hb
   rcases hb with rfl|rfl|rfl
   ·exact .inl rfl
   ·exact .inr (.inl rfl)
   ·exact .inr (.inr (Nat.le_refl _))
 ·refine wpAny_ite_false ?_ ?_
  ·exact decide_eq_false dr
  refine wpAny_bind (wpAny_pure ?_)
  unfold setEpoch
  refine wpAny_bind (wpAny_bind (wpAny_setState_of hD rfl hS.fit (wpAny_pure ?_)))
  dsimp only
  unfold newFields
  refine wpAny_bind (wpAny_newObj_type ?_)
  refine wpAny_pure ⟨_,rfl,"set_iterator",_,⟨_,Heap.get?_push_size _ rfl,rfl⟩,A0.lookup,?_⟩
  have DI:D≠s.heap.objs.size:=Nat.ne_of_lt Dlt
  have fpl:∀b∈[s.heap.objs.size,D],b < (s.heap.push (Cc (rawInt 0) 0 D es.size ep)).objs.size:=λb hb=>by
   rw[szp]
   simp only[List.mem_cons,List.not_mem_nil,or_false]at hb
   rcases hb with rfl|rfl
   ·exact Nat.lt_succ_self _
   ·exact Nat.lt_succ_of_lt Dlt
  have fpw:∀b∈[s.heap.objs.size,D],b=s.heap.objs.size\/b=D\/s.heap.objs.size<=b:=λb hb=>by
   simp only[List.mem_cons,List.not_mem_nil,or_false]at hb
   rcases hb with rfl|rfl
   ·exact .inl rfl
   ·exact .inr (.inl rfl)
  cases bt:w.params.followText "set-order" with
  |true=>
   refine h _ _ _ _ _ s.drawn (λA' hA'=>Gh bt hA' DI hS.fit) ⟨Heap.get?_push_size _ rfl,Heap.get?_push_of_some _ hD⟩ (Nat.le_refl _) fpl (λb o e=>Heap.get?_push_of_some _ e) ((Dz _ es).map _) (by rw[Heap.get?_push_size _ rfl];simp) fpw
  |false=>
   have hl:t.led=true:=by rw[hS.led];unfold A5;rw[bt];rfl
   have z1:es.size<=1:=by
    rcases hS.pl with z|z
    ·omega
    ·rw[bt,z]at dr
     have:¬es.size > 1:=λc=>dr (by simp[c])
     omega
   refine h _ _ _ _ _ s.drawn (λA' hA'=>IF bt hA' DI hS.fit hl z1) ⟨Heap.get?_push_size _ rfl,Heap.get?_push_of_some _ hD⟩ (Nat.le_refl _) fpl (λb o e=>Heap.get?_push_of_some _ e) (List.Perm.refl _) (by rw[Heap.get?_push_size _ rfl];simp) fpw
theorem Jn {r:Addr}{Q:Bool->Shared->Prop}(hT:s.TypeIs (.ref r) "set")(h:Q false s):wpAny (model prog w) A (Builtin.List.listLengthHint (.ref r)) Q E s:=by
 unfold Builtin.List.listLengthHint
 refine wpAny_bind (wpAny_specialOf hT F.slot_set_len.lookup ?_)
 dsimp only
 rw[show splitId "set.__len__"=some ("set","__len__") by kernel_rfl]
 dsimp only
 refine wpAny_bind (wpAny_isInstance hT F.sub_set_set ?_)
 rw[if_neg (by decide)]
 refine wpAny_ite_true (by kernel_rfl) ?_
 refine wpAny_bind (wpAny_typeOf hT ?_)
 exact wpAny_pure h
end
end L2
namespace L2
open PySem PySem.Spec PyProof.Rows PySem.W
section
variable {prog:Program}{w:World}{A:Around}{E:Value->Shared->Prop}{s:Shared}
theorem Dd {D:Addr}{es:Array (Int×Value)}{ep:Nat}{t:SetTable}{S:List Str}{Q:List Value->Shared->Prop}(hD:setAt D es ep t s.heap)(hS:DB w (A5 w) es t S)(hh:A.handled=none)(hz:es.size<=1000)
 (h:∀h' tk d acc,(∀b o,s.heap.get? b=some o->h'.get? b=some o)->s.heap.objs.size<=h'.objs.size->acc.Perm (es.toList.map (·.2))->Q acc { s with heap:=h',toks:=tk,drawn:=d }):
 wpAny (model prog w) A (collect (.ref D)) Q E s:=by
 have Dlt:D < s.heap.objs.size:=Heap.lt_size hD
 unfold collect
 refine wpAny_bind (wpAny_runValue (codeAny_builtin F.entry_proto_collect ?_))
 rw[Around.under_plainId F.plain_proto_collect _]
 show wpAny _ A.in1 (newList [] >>= λl=>again (.builtin "list.__iadd__" ⟨[l,.ref D],[]⟩)) _ _ s
 refine wpAny_bind (wpAny_newObj_type ?_)
 refine wpAny_pure ⟨plainId_quiet F.plain_list_iadd _,codeAny_builtin F.entry_list_iadd ?_⟩
 rw[Around.under_plainId F.plain_list_iadd _]
 show wpAny _ A.in1 (Builtin.List.listExtendWith (.ref s.heap.objs.size) (.ref D) (.ref s.heap.objs.size)) _ _ _
 have hS₁:(s.heap.push { cls:=.type "list",data:=.seq ([]:List Value).toArray }).get? s.heap.objs.size=some { cls:=.type "list",data:=.seq #[] 0 }:=Heap.get?_push_size _ rfl
 have hD1:setAt D es ep t (s.heap.push { cls:=.type "list",data:=.seq ([]:List Value).toArray }):=Heap.get?_push_of_some _ hD
 have szp:(s.heap.push { cls:=.type "list",data:=.seq ([]:List Value).toArray }).objs.size=s.heap.objs.size+1:=Heap.size_push ..
 have old1:∀b o,s.heap.get? b=some o->(s.heap.push { cls:=.type "list",data:=.seq ([]:List Value).toArray }).get? b=some o:=λb o e=>Heap.get?_push_of_some _ e
 generalize s.heap.push { cls:=.type "list",data:=.seq ([]:List Value).toArray }=g at hS₁ hD1 szp old1
 have hT:({ s with heap:=g }:Shared).TypeIs (.ref D) "set":=⟨_,hD1,rfl⟩
 unfold Builtin.List.listExtendWith
 refine wpAny_bind (wpAny_typeOf hT ?_)
 rw[if_neg (by
  have:(s.heap.objs.size==D)=false:=by simpa using Nat.ne_of_gt Dlt
  show¬(((s.heap.objs.size==D)||_||_)=true)
  rw[this];decide)]
 refine wpAny_bind (Gi (s:={ s with heap:=g }) hD1 hS hz λI fp St vs h1 d Wk st0 Ige fpl old2 vp hI fpw=>?_)
 have hT2:({ s with heap:=h1,drawn:=d }:Shared).TypeIs (.ref D) "set":=⟨_,old2 _ _ hD1,rfl⟩
 refine wpAny_bind (wpAny_holding (Jn hT2 ?_))
 dsimp only
 have Ige':s.heap.objs.size+1<=I:=by rw[<-szp];exact Ige
 have vl:vs.length=es.size:=by have:=vp.length_eq;simpa using this
 have hS2:=old2 _ _ hS₁
 have nfp:s.heap.objs.size∉fp:=λhm=>by
  rcases fpw _ hm with z|z|z
  ·have z':s.heap.objs.size=I:=z
   rw[<-z']at Ige'
   exact Nat.not_succ_le_self _ Ige'
  ·have z':s.heap.objs.size=D:=z
   rw[z']at Dlt
   exact Nat.lt_irrefl _ Dlt
  ·rw[szp]at z
   have z':s.heap.objs.size+1<=s.heap.objs.size:=z
   omega
 have fin:∀(c0:Nat) (h2:Heap),h2.get? s.heap.objs.size=some { cls:=.type "list",data:=.seq #[] c0 }->(∀b o,b≠s.heap.objs.size->h1.get? b=some o->h2.get? b=some o)->
  codeAny (model prog w) A (.builtin "list.extend.loop" ⟨[.ref s.heap.objs.size,.ref I,.ref s.heap.objs.size],[]⟩) (λr s'=>match r with|.ok (.ret v)=>wpAny (model prog w) A (match v with|.ref a=>(do let __do_lift<-load a;match __do_lift.data with|.seq xs _=>pure xs.toList|_=>unsupported "internal:collect")|_=>unsupported "internal:collect") Q E s'|.ok _=>False|.error e=>E e s') { s with heap:=h2,drawn:=d }:=λc0 h2 hg2 k2=>by
  refine codeAny_extend_loopS (Wk A.in1 hh).toS (by rw[sizeLine_eq];omega) s.heap.objs.size nfp (.ref s.heap.objs.size) es.size 0 _ #[] c0 (Nat.sub_zero _) (Nat.zero_le _) ((Wk A.in1 hh).frame 0 _ _ st0 λb hb o e=>k2 b o (λz=>nfp (by rw[<-z];exact hb)) e) hg2 ⟨rfl,λj v hj=>by simp at hj⟩ λs' acc' c' mv hg3 it=>?_
  obtain⟨hp',gn',dr',tk',os'⟩:=s'
  have e1:gn'=s.gens:=mv.gens
  have e2:dr'=d:=mv.drawn
  have e3:os'=s.os:=mv.os
  subst e1;subst e2;subst e3
  refine wpAny_bind (wpAny_load hg3 (wpAny_pure ?_))
  have ea:acc'.toList=vs:=by
   apply List.ext_getElem?
   intro i
   rcases Nat.lt_or_ge i es.size with c|c
   ·have hi:i < acc'.size:=by rw[it.1];exact c
    have:=it.2 i acc'[i] (Array.getElem?_eq_getElem hi)
    rw[Array.getElem?_toList,Array.getElem?_eq_getElem hi,this]
   ·rw[Array.getElem?_toList,Array.getElem?_eq_none (by rw[it.1];exact c),List.getElem?_eq_none (by omega)]
  rw[ea]
  refine h hp' tk' _ vs (λb o e=>?_) ?_ vp
  ·have bl:b≠s.heap.objs.size:=Nat.ne_of_lt (Heap.lt_size e)
   have bI:b≠I:=λz=>by
    have h1:b < s.heap.objs.size:=Heap.lt_size e
    have h2:b=I:=z
    have h3:I < s.heap.objs.size:=by rw[<-h2];exact h1
    exact absurd (Nat.lt_of_lt_of_le h3 (Nat.le_of_succ_le Ige')) (Nat.lt_irrefl _)
   exact mv.heap b o (by simp[bl,bI]) (k2 b o bl (old2 _ _ (old1 _ _ e)))
  ·exact Nat.le_of_lt (Heap.lt_size hg3)
 rw[if_pos (by decide+kernel)]
 refine wpAny_bind (wpAny_rule (wpAny_bind ?_))
 unfold Builtin.List.listTouch
 refine wpAny_bind (listUpdate_at (a:=s.heap.objs.size) (s:={ s with heap:=h1,drawn:=d }) hS2 rfl ?_ (Nat.zero_le _) (by show 1<=sizeLine+1;omega))
 have g1:=get?_update_seq hS2 (λx=>x.push Value.none)
 refine listUpdate_at (a:=s.heap.objs.size) (s:={ s with heap:=h1.update s.heap.objs.size (Obj.mapSeq λx=>x.push Value.none),drawn:=d }) g1 rfl ?_ (by show 1<=sizeLine;rw[sizeLine_eq];decide) (Nat.zero_le _)
 have g2:=get?_update_seq g1 (λx=>x.pop)
 refine wpAny_pure ⟨plainId_quiet (by kernel_rfl) _,?_⟩
 exact fin _ _ g2 λb o n e=>(Heap.get?_update_ne _ _ _ _ n).trans ((Heap.get?_update_ne _ _ _ _ n).trans e)
theorem M4:∀{es:List (Int×Value)} {acc:List Value},(∀e∈es,∃x tk,e=(hashStr w x,Value.str x tk))->acc.Perm (es.map (·.2))->∃ss,StrsAre acc ss/\ss.Perm (es.map keyOf):=λ{es acc} he hp=>by
 let f:Value->Str:=λv=>match v with|.str x _=>x|_=>Str.empty
 have hall:∀v∈acc,∃x tk,v=Value.str x tk:=λv hv=>by
  obtain⟨e,hm,rfl⟩:=List.mem_map.mp (hp.mem_iff.mp hv)
  obtain⟨x,tk,rfl⟩:=he e hm
  exact⟨x,tk,rfl⟩
 have go:∀(l:List Value),(∀v∈l,∃x tk,v=Value.str x tk)->StrsAre l (l.map f):=λl=>by
  induction l with
  |nil=>intro _;exact .nil
  |cons v r ih=>
   intro hl
   obtain⟨x,tk,rfl⟩:=hl v List.mem_cons_self
   exact .cons x tk (ih λu hu=>hl u (List.mem_cons_of_mem _ hu))
 refine⟨acc.map f,go acc hall,?_⟩
 have:=hp.map f
 rw[List.map_map]at this
 have e2:es.map (f∘λe=>e.2)=es.map keyOf:=List.map_congr_left λe _=>rfl
 rw[e2]at this
 exact this
theorem ET {D:Addr}{S:List Str}{n:Nat}{Q:Value->Shared->Prop}(hA:Bl w (A5 w) s.heap D S n)(hh:A.handled=none)(hn:n < 64)
 (h:∀h' tk d l out ss' e,(∀b o,s.heap.get? b=some o->h'.get? b=some o)->s.heap.objs.size<=l->h'.get? l=some (seqObj "list" out e)->StrsAre out.toList ss'->ss'.Nodup->(∀x,x∈ss'↔x∈S)->sortedS ss'=true->ss'.length<=n->Q (.ref l) { s with heap:=h',toks:=tk,drawn:=d }):
 wpAny (model prog w) A (call (.builtin "sorted") [.ref D]) Q E s:=by
 obtain⟨es,ep,t,hD,hS,hsz⟩:=hA
 refine Calls.call_function_entry kind_sorted plain_sorted entry_sorted (args_sorted1 _) ?_
 unfold Builtin.«sorted»
 refine wpAny_bind (m:=checkCount "sorted" 1 1 _) (wpAny_pure ?_)
 refine wpAny_bind (Dd (A:=A.in1) hD hS hh (by omega) λh1 tk d acc old1 sz1 hp=>?_)
 obtain⟨ss,hv,hpk⟩:=M4 hS.ent hp
 have al:acc.length=es.size:=by have:=hp.length_eq;simpa using this
 have fz:acc.length<=sizeLine:=by rw[sizeLine_eq];omega
 refine wpAny_bind (wpAny_newList ?_ fz)
 have hDL:(h1.push (seqObj "list" acc.toArray 0)).get? h1.objs.size=some (seqObj "list" acc.toArray 0):=Heap.get?_push_size _ rfl
 refine wpAny_bind (wpAny_holding (wpAny_call_entry slot_list_sort ⟨_,hDL,rfl⟩ entry_list_sort (list_sort_treeK (s:={ s with heap:=h1.push (seqObj "list" acc.toArray 0),toks:=tk,drawn:=d }) strKind_oneLt hDL (StrsAre.keysOf hv) (λv₁ v₂ rest e=>keyKind_strs (by rw[<-e];exact hv)) (by omega) λst' a1 a2=>⟨_,rfl,?_⟩) (args_list_sort _)))
 obtain⟨ss',b1,b2,b3⟩:=sorted_out_str hv a1 a2
 obtain⟨e,he⟩:=sortedHeap_at hDL
 refine wpAny_pure ⟨_,rfl,h _ tk d h1.objs.size _ ss' e (λb o eb=>?_) sz1 he b1 ?_ (λx=>?_) b3 ?_⟩
 ·have lt:=Heap.lt_size (old1 _ _ eb)
  rw[sortedHeap_old (Nat.ne_of_lt lt) (by rw[show(h1.push (seqObj "list" acc.toArray 0)).objs.size=h1.objs.size+1 from Heap.size_push ..];exact Nat.lt_succ_of_lt lt)]
  exact Heap.get?_push_of_some _ (old1 _ _ eb)
 ·exact(b2.trans hpk).nodup_iff.mpr hS.nd
 ·rw[(b2.trans hpk).mem_iff];exact hS.mem x
 ·have t1:(es.toList.map keyOf).length=es.size:=by rw[List.length_map,Array.length_toList]
  have t2:=(b2.trans hpk).length_eq
  exact Nat.le_trans (Nat.le_of_eq (t2.trans t1)) hsz
end
end L2
namespace L2
open PySem PySem.Spec PyProof.Rows PySem.W
theorem Inv.drawn {X:Cx}{pins:List (Addr×Obj)}{σ:St}{H:Hp}{s:Shared}(I:Inv X pins σ H s)(d:Drawn):Inv X pins σ H { s with drawn:=d }:=
 ⟨I.ok,I.os,I.bare,I.base,I.loc,I.cell,I.free,I.freeC,I.pin,I.hok,I.len⟩
theorem Io:bootBuiltins "set"=some (.type "set"):=by kernel_rfl
theorem Gj:bootBuiltins "sorted"=some (.builtin "sorted"):=by kernel_rfl
section
variable {X:Cx}{a:Expr}{ta:TA}{p p2 pos pos2:Pos}
def OL (K:PySem.W.Frag)(ta:TA):TE:=λσ H Q=>ta σ H λvs H1=>∃(l:Addr) (ss:List Str),vs=[.ref l]/\AZ K H1 l (ss.map V.str)/\ss.length < 64/\
 ∀(ss':List Str) (r:Addr),ss'.Nodup->(∀x,x∈ss'↔x∈ss)->sortedS ss'=true->ss'.length<=ss.length->H1 r=none->Q (.ref r) (upd H1 r (.lst (ss'.map V.str)))
theorem Ky (K:PySem.W.Frag)(hc:X.calm=true)(hg1:Gl X "sorted")(hm1:X.mg "sorted"=none)(hg2:Gl X "set")(hm2:X.mg "set"=none)(ha:PA X [a] ta)(hK:X.K=K:=by rfl)
 (he:starEach [.Call (.Name "set" p2) [a] [] pos2] X.env=[(false,eval (.Call (.Name "set" p2) [a] [] pos2) X.env)]:=by rfl)(he2:starEach [a] X.env=[(false,eval a X.env)]:=by rfl):
 PE X (.Call (.Name "sorted" p) [.Call (.Name "set" p2) [a] [] pos2] [] pos) (OL K ta):=by
 subst hK
 intro pins s σ H Q I h
 refine wpAny_Call_Name_kw (CJ I hg1 hm1 Gj ?_ (by decide) (by decide))
 refine PyProof.Rows.callWith_builtin1 ?_ he rfl
 rw[he]
 show wpAny _ _ (spliced ((false,eval (.Call (.Name "set" p2) [a] [] pos2) X.env)::backTo pos (starEach [] X.env))) _ _ _
 refine Calls.spliced_cons ?_
 refine wpAny_Call_Name_kw (CJ (I.tok _) hg2 hm2 Io ?_ (by decide) (by decide))
 refine PyProof.Rows.callWith_type1 (BO (ha pos2 pins _ σ H _ (I.tok _) h) λus s1 ⟨vs,H1,I1,r1,q1⟩=>?_) he2 rfl
 obtain⟨l,ss,rfl,hq,h64,q⟩:=q1
 obtain⟨u,rfl,ru⟩:=vals1 r1
 cases(show u=Value.ref l from ru)
 obtain⟨its,rv,ht,hz⟩:=I1.list hq
 have hlen:=rv.length
 rw[List.length_map]at hlen
 have hh:X.A.handled=none:=I1.ok.hd hc
 have hsz:its.toArray.size=its.length:=List.size_toArray ..
 refine Ep ht.isList (Cb rv) hh (by show its.toArray.size+1 < 4096;omega) λh2 tk2 old2 hA=>?_
 refine Calls.spliced_nil ?_
 have lt2:s1.heap.objs.size < h2.objs.size:=by
  obtain⟨es,ep,t,e,_⟩:=id hA
  exact Heap.lt_size e
 refine ET (s:={ s1 with heap:=h2,toks:=tk2 }) hA hh (by omega) λh3 tk3 d l3 out ss' e old3 lge hg3 hv3 nd3 mem3 srt3 len3=>?_
 have lge':s1.heap.objs.size<=l3:=Nat.le_trans (Nat.le_of_lt lt2) lge
 have sl:ss'.length<=ss.length:=by omega
 have I3:=I1.laid (t':=tk3) (h':=h3) (a:=l3) (o:=.lst (ss'.map V.str)) (λb o eb=>old3 b o (old2 b o eb)) lge' (show Ax X.prog X.w _ _ _ (.lst (ss'.map V.str))from⟨by rw[List.length_map];exact Nat.le_of_lt (AM (by omega)),out.toList,e,Ci hv3,hg3⟩)
 exact⟨.ref l3,_,I3.drawn d,rfl,q ss' l3 nd3 mem3 srt3 sl (I1.hok.fresh lge')⟩
end
end L2
namespace L2
open PySem PySem.Spec PyProof.Rows PySem.W
open AutoSeq1 (wpAny_loadPart')
open MeetsSeq MeetsSeq2 MeetsSeq3 SeqRoads2 SeqAt
section
variable {X:Cx}{o e:Expr}{es:List Expr}{to:TE}{t:TA}{name:Str}{apos cpos:Pos}{id:String}{r:V->List V->Hp->VK->Prop}
end
section
variable {X:Cx}{a:Expr}{ta:TA}{p p2 pos pos2:Pos}
def Pq (K:PySem.W.Frag)(ta:TA):TE:=λσ H Q=>ta σ H λvs H1=>∃(l:Addr) (ss:List Str),vs=[.ref l]/\AZ K H1 l (ss.map V.str)/\ss.length < 64/\
 ∀ss':List Str,ss'.Nodup->(∀x,x∈ss'↔x∈ss)->Q (.int ((ss'.length:Nat):Int)) H1
theorem M5 (K:PySem.W.Frag)(hc:X.calm=true)(hg1:Gl X "len")(hm1:X.mg "len"=none)(hg2:Gl X "set")(hm2:X.mg "set"=none)(ha:PA X [a] ta)(hK:X.K=K:=by rfl)
 (he:starEach [.Call (.Name "set" p2) [a] [] pos2] X.env=[(false,eval (.Call (.Name "set" p2) [a] [] pos2) X.env)]:=by rfl)(he2:starEach [a] X.env=[(false,eval a X.env)]:=by rfl):
 PE X (.Call (.Name "len" p) [.Call (.Name "set" p2) [a] [] pos2] [] pos) (Pq K ta):=by
 subst hK
 intro pins s σ H Q I h
 refine wpAny_Call_Name_kw (CJ I hg1 hm1 Aa ?_ (by decide) (by decide))
 refine PyProof.Rows.callWith_builtin1 ?_ he rfl
 rw[he]
 show wpAny _ _ (spliced ((false,eval (.Call (.Name "set" p2) [a] [] pos2) X.env)::backTo pos (starEach [] X.env))) _ _ _
 refine Calls.spliced_cons ?_
 refine wpAny_Call_Name_kw (CJ (I.tok _) hg2 hm2 Io ?_ (by decide) (by decide))
 refine PyProof.Rows.callWith_type1 (BO (ha pos2 pins _ σ H _ (I.tok _) h) λus s1 ⟨vs,H1,I1,r1,q1⟩=>?_) he2 rfl
 obtain⟨l,ss,rfl,hq,h64,q⟩:=q1
 obtain⟨u,rfl,ru⟩:=vals1 r1
 cases(show u=Value.ref l from ru)
 obtain⟨its,rv,ht,hz⟩:=I1.list hq
 have hlen:=rv.length
 rw[List.length_map]at hlen
 have hh:X.A.handled=none:=I1.ok.hd hc
 have hsz:its.toArray.size=its.length:=List.size_toArray ..
 refine Ep ht.isList (Cb rv) hh (by show its.toArray.size+1 < 4096;omega) λh2 tk2 old2 hA=>?_
 refine Calls.spliced_nil ?_
 obtain⟨es,ep,t,e,hS,hn⟩:=hA
 have I2:Inv X pins σ H1 { s1 with heap:=h2,toks:=tk2 }:=I1.kept old2
 refine call_len_set (s:={ s1 with heap:=h2,toks:=tk2 }) e ⟨rfl,rfl,rfl⟩ rfl hS.fit (by omega) ⟨.int _,H1,I2.tok _,⟨_,rfl⟩,?_⟩
 have:=q (es.toList.map keyOf) hS.nd hS.mem
 simpa using this
end
end L2
namespace L2
open PySem PySem.Spec PyProof.Rows
section
variable {κ:Type}[DecidableEq κ]
def FW (kvs:List (κ×V))(k:κ):Option V:=(kvs.find? λkv=>decide (kv.1=k)).map (·.2)
theorem Gk {p:κ×V}{r:List (κ×V)}{k:κ}(e:p.1=k):FW (p::r) k=some p.2:=by simp[FW,List.find?_cons,e]
theorem Gm {p:κ×V}{r:List (κ×V)}{k:κ}(e:¬p.1=k):FW (p::r) k=FW r k:=by simp[FW,List.find?_cons,e]
theorem Jo (k:κ):∀kvs:List (κ×V),(kvs.any λkv=>decide (kv.1=k))=(FW kvs k).isSome
 |[]=>rfl
 |p::r=>by
  rw[List.any_cons]
  by_cases e:p.1=k
  ·simp only[Gk e,decide_eq_true e,Bool.true_or,Option.isSome_some]
  ·rw[Gm e,decide_eq_false e,Bool.false_or];exact Jo k r
theorem Ki.IG {o:Option V}{u:Option Value}(r:Ki o u):o.isSome=u.isSome:=by
 cases o with
 |none=>cases u with
  |none=>rfl
  |some _=>exact(show False from r).elim
 |some _=>cases u with
  |none=>exact(show False from r).elim
  |some _=>rfl
theorem KV.val {kvs:List (κ×V)}{vs:List (κ×Value)}(r:KV kvs vs)(k:κ):Ki (FW kvs k) (valueAt vs k):=by
 unfold KV at r
 induction r with
 |nil=>exact True.intro
 |@cons p q ps qs h t ih=>
  obtain⟨h1,h2⟩:=h
  by_cases e:p.1=k
  ·have e':q.1=k:=h1.symm.trans e
   have b:valueAt (q::qs) k=some q.2:=by simp[valueAt,List.find?_cons,e']
   rw[Gk e,b];exact h2
  ·have e':¬q.1=k:=λz=>e (h1.trans z)
   have b:valueAt (q::qs) k=valueAt qs k:=by simp[valueAt,List.find?_cons,e']
   rw[Gm e,b];exact ih
theorem KV.keys {kvs:List (κ×V)}{vs:List (κ×Value)}(r:KV kvs vs):kvs.map (·.1)=vs.map (·.1):=by
 unfold KV at r
 induction r with
 |nil=>rfl
 |cons h t ih=>rw[List.map_cons,List.map_cons,ih,h.1]
theorem KV.length {kvs:List (κ×V)}{vs:List (κ×Value)}(r:KV kvs vs):kvs.length=vs.length:=Paired.length r
end
theorem OM {P:Program}{w:World}{k:Key}{u:Value}(r:RelV (kV k) u):(As P w).is k u=true:=by
 cases k with
 |inl i=>obtain⟨t,e⟩:=(show∃t,u=Value.int i t from r);subst e;exact JS P w i t
 |inr x=>obtain⟨t,e⟩:=(show∃t,u=Value.str x t from r);subst e;exact JT P w x t
theorem IH {P:Program}{w:World}:∀{ks:List Key} {us:List Value},Vals (ks.map kV) us->ItemsAre (As P w) ks us
 |[],_,r=>by rw[List.map_nil]at r;cases r;exact .nil
 |k::ks,_,r=>by
  rw[List.map_cons]at r
  cases r with
  |cons h t=>exact .cons (OM h) (IH t)
abbrev KT (H:Hp):List (List Key×V)->List (List Key×Addr×Value)->Prop:=Paired λp q=>p.1=q.1/\H q.2.1=some (.tup (p.1.map kV))/\RelV p.2 q.2.2
theorem KT.val {H:Hp}{kvs:List (List Key×V)}{xs:List (List Key×Addr×Value)}(r:KT H kvs xs)(k:List Key):Ki (FW kvs k) ((atKey xs k).map (·.2)):=by
 induction r with
 |nil=>exact True.intro
 |@cons p q ps qs h t ih=>
  obtain⟨h1,_,h2⟩:=h
  by_cases e:p.1=k
  ·have e':q.1=k:=h1.symm.trans e
   have b:atKey (q::qs) k=some q.2:=by simp[atKey,List.find?_cons,e']
   rw[Gk e,b];exact h2
  ·have e':¬q.1=k:=λz=>e (h1.trans z)
   have b:atKey (q::qs) k=atKey qs k:=by simp[atKey,List.find?_cons,e']
   rw[Gm e,b];exact ih
section
variable {P:Program}{w:World}{H:Hp}{h:Heap}{a:Addr}
theorem Qc {u:HO}(ok:Ed P w H h)(e:Rd H a u):Ax P w H h a u:=e.ok ok
theorem Qd {kvs:List (Key×V)}(ok:Ed P w H h)(e:Rd H a (.dK kvs)):kvs.length<=sizeLine/\(a==sysModules)=false/\∃vs,KV kvs vs/\h.DictOf (As P w) a vs:=
 show Ax P w H h a (.dK kvs)from Qc ok e
theorem ON {ks:List Key}(ok:Ed P w H h)(e:H a=some (.tup (ks.map kV))):(tupleKind (As P w)).is h ks a:=by
 obtain⟨_,its,r,o,h1,h2,n,h3⟩:=(show Ax P w H h a (.tup (ks.map kV))from ok a _ e)
 exact⟨o,its.toArray,n,h1,h2,h3,by simpa using IH r⟩
theorem Sk {kvs:List (List Key×V)}(ok:Ed P w H h)(e:Rd H a (.dT kvs)):kvs.length<=sizeLine/\(a==sysModules)=false/\
 ∃xs,KT H kvs xs/\h.DictOfH (tupleKind (As P w)) a xs:=by
 obtain⟨z,y,xs,r,o,es,ep,h1,h2,h3,h4,h5⟩:=(show Ax P w H h a (.dT kvs)from Qc ok e)
 refine⟨z,y,xs,r,o,es,ep,h1,h2,h3,h4,λx hx=>?_,h5⟩
 have all:∀{l:List (List Key×V)} {m:List (List Key×Addr×Value)},KT H l m->∀x∈m,(tupleKind (As P w)).is h x.1 x.2.1:=by
  intro l m q
  induction q with
  |nil=>intro x hx;exact nomatch hx
  |@cons p q ps qs hq t ih=>
   intro x hx
   rcases List.mem_cons.mp hx with e|hx
   ·subst e
    exact ON ok (by rw[<-hq.1];exact hq.2.1)
   ·exact ih x hx
 exact all r x hx
end
def RD (H:Hp)(a:Addr)(y:V)(r:Option V):Prop:=
 (∃kvs k,Rd H a (.dK kvs)/\y=kV k/\r=FW kvs k)\/∃kvs k b,Rd H a (.dT kvs)/\y=.ref b/\H b=some (.tup (k.map kV))/\r=FW kvs k
section
variable {X:Cx}{pins:List (Addr×Obj)}{σ:St}{H:Hp}{s:Shared}{a:Addr}{y v:V}{u r:Value}{o:Option V}{A:Around}{E:Value->Shared->Prop}
theorem Inv.big (I:Inv X pins σ H s):sysModules < s.heap.objs.size:=by
 have h:mainGlobals < s.heap.objs.size:=(I.mod.glob.keeps I.bk).lt
 exact Nat.lt_trans (by decide) h
theorem T9 {Q:Value->Shared->Prop}(hu:A.units+1 < cLine)(I:Inv X pins σ H s)(g:RD H a y o)(ry:RelV y u)(h:∀s',Inv X pins σ H s'->Q (.bool o.isSome) s'):
 wpAny (model X.prog X.w) A (compareOp .In u (.ref a)) Q E s:=by
 rcases g with⟨kvs,k,e,ey,l⟩|⟨kvs,k,b,e,ey,eb,l⟩
 ·subst ey
  obtain⟨z,hd,vs,rel,dd⟩:=Qd I.hok e
  refine wpAny_in_of (OM ry) hd dd.mapOf ?_
  rw[<-(rel.val k).IG,<-l]
  exact h _ (I.tok _)
 ·subst ey
  cases(show u=Value.ref b from ry)
  obtain⟨z,hd,xs,rel,dd⟩:=Sk I.hok e
  refine wpAny_in_heap (tupleKind_room_in1 hu) (ON I.hok eb) hd dd ?_
  have q:=(rel.val k).IG
  rw[Option.isSome_map]at q
  rw[<-q,<-l]
  exact h _ (I.tok _)
theorem RE {P:Program}{w:World}{H':Hp}{h':Heap}{kvs:List (Key×V)}{vs:List (Key×Value)}(z:kvs.length<=sizeLine)(hd:(a==sysModules)=false)(rel:KV kvs vs)(dd:h'.DictOf (As P w) a vs):
 Ax P w H' h' a (.dK kvs):=⟨z,hd,vs,rel,dd⟩
end
section
variable {X:Cx}{pins:List (Addr×Obj)}{σ:St}{H:Hp}{s:Shared}{a:Addr}{kvs:List (Key×V)}{k:Key}{u:Value}{A:Around}{E:Value->Shared->Prop}
end
def UA (ty td:TE):TE:=λσ H Q=>ty σ H λy H1=>td σ H1 λx H2=>∃a o,x=.ref a/\RD H2 a y o/\Q (.bl o.isSome) H2
section
variable {X:Cx}{o i e value:Expr}{pos pos' tpos:Pos}{td ty tv:TE}
theorem OO (hu:X.A.units+1 < cLine)(hi:PE X i ty)(ho:PE X o td):PC X .In i o (UA ty td):=by
 intro pins s σ H Q I h
 refine BO (hi pins s σ H _ I h) λiv s1 ⟨y,H1,I1,ry,q1⟩=>BO (ho pins s1 σ H1 _ I1 q1) λu s2 ⟨x,H2,I2,rx,a,ov,ex,g,q2⟩=>?_
 subst ex
 obtain rfl:u=Value.ref a:=rx
 exact T9 hu I2 g ry λs3 I3=>⟨.bl ov.isSome,H2,I3,rfl,q2⟩
end
section
variable {X:Cx}{pos:Pos}
end
section
variable {X:Cx}{pins:List (Addr×Obj)}{σ:St}{H:Hp}{s:Shared}{a:Addr}{y d:V}{u r:Value}{o:Option V}{A:Around}{E:Value->Shared->Prop}
end
section
variable {X:Cx}{o e f:Expr}{apos cpos:Pos}{td ty tx:TE}
end
section
variable {X:Cx}{pins:List (Addr×Obj)}{σ:St}{H:Hp}{s:Shared}{a:Addr}{kvs:List (Key×V)}{A:Around}{E:Value->Shared->Prop}
end
section
variable {X:Cx}{pins:List (Addr×Obj)}{σ:St}{H:Hp}{s:Shared}{a:Addr}{y:V}{u:Value}{A:Around}{E:Value->Shared->Prop}
end
end L2
namespace L2
open PySem PySem.Spec PyProof.Rows PySem.W
open MeetsSeq MeetsSeq2 MeetsSeq3 SeqRoads2 SeqAt
theorem Sm {P:Program}{w:World}{k:Key}{u:Value}(h:(As P w).is k u=true):RelV (kV k) u:=by
 cases k with
 |inl i=>obtain⟨t,e⟩:=PySem.Value.isInt_shape (show Value.isInt i u=true from h);exact⟨t,e⟩
 |inr x=>obtain⟨t,e⟩:=PySem.Value.isStrOf_shape (show Value.isStrOf x u=true from h);exact⟨t,e⟩
theorem RF {kvs:List (Key×V)}{vs:List (Key×Value)}(r:KV kvs vs):∀{i:Nat} {k:Key} {v:V},kvs[i]?=some (k,v)->∃x,vs[i]?=some (k,x)/\RelV v x:=by
 unfold KV at r
 induction r with
 |nil=>intro i k v h;simp at h
 |@cons p q _ _ h t ih=>
  intro i k v e
  cases i with
  |zero=>
   have e':p=(k,v):=by simpa using e
   subst e'
   obtain⟨k',x⟩:=q
   obtain⟨rfl,h2⟩:=h
   exact⟨x,rfl,h2⟩
  |succ i=>exact ih (by simpa using e)
section
variable {X:Cx}{tg:Expr}
end
section
theorem EU {n:Nat}(h:n < 10000):n < sizeLine:=by
 rw[sizeLine_eq];omega
theorem OP {J:It}{NL:List Str}{ix:List Nat}{g:TG}{tt:TT}{te:TE}{σ:St}{H1:Hp}{Qs:Hp->Prop}{acc:Addr}(n:Nat)(hn:n < 10000)(Pv:Nat->List V->Hp->Prop)
 (hacc:∀i ys H2,Pv i ys H2->H2 acc=some (.lst ys)/\ys.length<=i)(h0:Pv 0 [] (upd H1 acc (.lst [])))(hstop:∀ys H2,Pv n ys H2->J.stop n H2/\Qs H2)
 (hturn:∀i ys H2,i < n->Pv i ys H2->J.go i H2/\∀x H3,J.yld i H2 x H3->g x (BK NL ix σ) H3 λσ' H4=>σ'.drop NL.length=ix.map (λj=>σ.getD j none)/\tt σ' H4 λb H5=>
  if b=true then te σ' H5 λv H6=>H6 acc=some (.lst ys)/\Pv (i+1) (ys++[v]) (upd H6 acc (.lst (ys++[v])))else Pv (i+1) ys H5):
 ∃W:Nat->Nat->List V->Hp->Prop,(∃m,W 0 m [] (upd H1 acc (.lst [])))/\
 ∀i m ys H2,W i m ys H2->H2 acc=some (.lst ys)/\ys.length < sizeLine/\
  ((J.stop i H2/\Qs H2)\/(J.go i H2/\∃N:List V->Hp->Prop,(∀ys' H',N ys' H'->∃m',m' < m/\W (i+1) m' ys' H')/\
    ∀x H3,J.yld i H2 x H3->g x (BK NL ix σ) H3 λσ' H4=>σ'.drop NL.length=ix.map (λj=>σ.getD j none)/\tt σ' H4 λb H5=>
     if b=true then te σ' H5 λv H6=>H6 acc=some (.lst ys)/\N (ys++[v]) (upd H6 acc (.lst (ys++[v])))else N ys H5)):=by
 refine⟨λi m ys H2=>i<=n/\m=n - i/\Pv i ys H2,⟨n,Nat.zero_le _,rfl,h0⟩,λi m ys H2 ⟨hi,hm,hp⟩=>?_⟩
 obtain⟨a1,a2⟩:=hacc i ys H2 hp
 refine⟨a1,EU (by omega),?_⟩
 rcases Nat.lt_or_ge i n with lt|ge
 ·obtain⟨go,tn⟩:=hturn i ys H2 lt hp
  exact .inr ⟨go,Pv (i+1),λys' H' hN=>⟨n - (i+1),by omega,by omega,rfl,hN⟩,tn⟩
 ·have e:i=n:=by omega
  subst e
  exact .inl (hstop ys H2 hp)
end
section
variable {NL:List Str}{ix:List Nat}{g:TG}{tt:TT}{te:TE}{σ:St}{H1:Hp}{Qs:Hp->Prop}{acc:Addr}
theorem M6 {K:PySem.W.Frag}{a:Addr}{xs:List V}(hn:xs.length < 10000)(Pv:Nat->List V->Hp->Prop)
 (hl:∀i ys H2,Pv i ys H2->AZ K H2 a xs)(hacc:∀i ys H2,Pv i ys H2->H2 acc=some (.lst ys)/\ys.length<=i)(h0:Pv 0 [] (upd H1 acc (.lst [])))(hstop:∀ys H2,Pv xs.length ys H2->Qs H2)
 (hturn:∀i x ys H2,xs[i]?=some x->Pv i ys H2->g x (BK NL ix σ) H2 λσ' H4=>σ'.drop NL.length=ix.map (λj=>σ.getD j none)/\tt σ' H4 λb H5=>
  if b=true then te σ' H5 λv H6=>H6 acc=some (.lst ys)/\Pv (i+1) (ys++[v]) (upd H6 acc (.lst (ys++[v])))else Pv (i+1) ys H5):
 ∃W:Nat->Nat->List V->Hp->Prop,(∃m,W 0 m [] (upd H1 acc (.lst [])))/\
 ∀i m ys H2,W i m ys H2->H2 acc=some (.lst ys)/\ys.length < sizeLine/\
  (((Nu K a).stop i H2/\Qs H2)\/((Nu K a).go i H2/\∃N:List V->Hp->Prop,(∀ys' H',N ys' H'->∃m',m' < m/\W (i+1) m' ys' H')/\
    ∀x H3,(Nu K a).yld i H2 x H3->g x (BK NL ix σ) H3 λσ' H4=>σ'.drop NL.length=ix.map (λj=>σ.getD j none)/\tt σ' H4 λb H5=>
     if b=true then te σ' H5 λv H6=>H6 acc=some (.lst ys)/\N (ys++[v]) (upd H6 acc (.lst (ys++[v])))else N ys H5)):=by
 refine OP xs.length hn Pv hacc h0 (λys H2 hp=>⟨⟨xs,hl _ _ _ hp,Nat.le_refl _⟩,hstop ys H2 hp⟩) λi ys H2 hi hp=>?_
 have hs:=hl _ _ _ hp
 refine⟨⟨xs,xs[i],hs,List.getElem?_eq_getElem hi⟩,?_⟩
 rintro x H3 ⟨rfl,hx⟩
 exact hturn i x ys H3 (hx xs hs) hp
end
section
variable {X:Cx}
def Lx:V->List V->Hp->VK->Prop:=λx vs H Q=>∃(l:Addr) (ns:List Int) (y:Int),x=.ref l/\vs=[.int y]/\H l=some (.lst (ns.map V.int))/\Q (.int ((ns.count y:Nat):Int)) H
theorem M7:R5 X "list.count" Lx:=by
 intro pins s σ H x vs v us Q I rx rv h
 obtain⟨l,ns,y,rfl,rfl,hH,q⟩:=h
 cases rx
 obtain⟨u,rfl,ru⟩:=rv.one
 have ru0:=ru
 obtain⟨ty,rfl⟩:=ru
 obtain⟨z,its,n,r,hz,e⟩:=I.GV hH
 refine call_meets F.slot_list_count ⟨_,e,rfl⟩ F.entry_list_count (F.args_list_count_2 _ _) (SeqAt.list_countAt l its.toArray n none #[] (.int y ty) (F4 (V.int y))) ⟨e,λu hu=>Bv (x:=V.int y) ru0 rfl r (Bo ns) u (by simpa using hu),?_⟩
 have key:∀(ms:List Int) (us:List Value),Vals (ms.map V.int) us->us.countP (F4 (V.int y))=ms.count y:=by
  intro ms
  induction ms with
  |nil=>intro us hv;cases hv;rfl
  |cons m ms ih=>
   intro us hv
   cases hv with
   |cons h t=>
    obtain⟨tk,rfl⟩:=h
    rw[List.countP_cons,List.count_cons,ih _ t]
    rfl
 have ek:its.toArray.toList.countP (F4 (V.int y))=ns.count y:=by rw[List.toList_toArray];exact key ns its r
 exact⟨.int _,H,I.tok _,⟨_,by rw[ek]⟩,q⟩
theorem M8 (K:PySem.W.Frag){o e:Expr}{to te:TE}{apos cpos:Pos}(ho:PE X o to)(he:PE X e te)(hK:X.K=K:=by rfl)(hbase:attributeBase o "count" X.env (eval o X.env)=eval o X.env:=by rfl)
 (h1:starEach [e] X.env=[(false,eval e X.env)]:=by rfl)(hl:(apos.endLine==cpos.line)=true:=by rfl):
 PE X (.Call (.Attribute o "count" apos) [e] [] cpos) (QY K "list" Lx to (Fo te JY)):=by
 subst hK
 exact Ej PySem.F.plainAttrs_list PySem.F.slot_list_count PySem.F.type_list_count M7 ho (AA he AB h1) hbase (by rw[h1];rfl) hl h1 (by rfl)
end
end L2
namespace L2
open PySem PySem.Spec PyProof.Rows PySem.W
end L2
namespace L2
open PySem PySem.Spec PyProof.Rows PySem.W
theorem Ip:typeLookup (.type "list") "keys"=pure none:=by rw[typeLookup_type,builtinLookup_eq_fast];kernel_rfl
theorem M9 {prog:Program}{w:World}{A:Around}{E:Value->Shared->Prop}{s:Shared}{a:Addr}{xs:Array Value}{k:Nat}{Q:Option Value->Shared->Prop}
 (hx:s.heap.get? a=some { cls:=.type "list",data:=.seq xs k })(hA:A.handled=none)
 (h:∀h' tk,(∀b o,s.heap.get? b=some o->h'.get? b=some o)->Q none { s with heap:=h',toks:=tk }):
 wpAny (model prog w) A (getAttr? (.ref a) "keys") Q E s:=by
 obtain⟨hp,g,d,tk,os⟩:=s
 have hT:∀tk',(⟨hp,g,d,tk',os⟩:Shared).TypeIs (.ref a) "list":=λ_=>⟨_,hx,rfl⟩
 have f1:=sub_AttributeError
 have f3:=F.slot_list_getattribute.lookup
 have f4:=F.slot_list_getattribute.bind (.ref a)
 have f5:=am_list_getattr_none
 unfold getAttr? getAttrBy? getAttrBy
 repeat(any_goals (first|assumption|exact hT _|((with_reducible show wpAny _ _ (call (Value.builtin "list.__getattribute__") _ _) _ _ _);refine call_meets F.slot_list_getattribute (hT _) am_entry_list_getattribute (F.args_list_getattribute_2 _ _) (meets_getattribute_miss_list a xs k #[] "keys" _ Ip (by decide) (by size_fits)) ⟨hx,hA,λh' tk' e hx'=>?_⟩)|wp_step))
 obtain⟨t',u',he⟩:=hx'.there
 show wpAny _ _ (getattributeRaised _ _ _ _ _ _ _) _ _ _
 unfold getattributeRaised
 repeat(any_goals (first|assumption|wp_step))
 exact h _ _ hx'.keeps
end L2
namespace L2
open PySem PySem.Spec PyProof.Rows PySem.W
theorem DO:entryFor table "dict.update.loop"=some Builtin.«dict.update.loop»:=entryFor_of_tree (by kernel_rfl)
theorem Bh:plainId "dict.update.loop"=true:=by decide+kernel
section
variable {prog:Program}{w:World}{A:Around}{E:Value->Shared->Prop}
def OQ (h:Heap)(D:Addr)(items:Array Value)(ps:List (Key×Value)):Prop:=
 ps.length=items.size/\∀(j:Nat) (k:Key) (v:Value),ps[j]?=some (k,v)->∃(a:Addr) (ku:Value),items[j]?=some (Value.ref a)/\a≠D/\RelV (kV k) ku/\IsTup h a #[ku,v]
theorem OQ.keeps {h h':Heap}{D I:Addr}{items:Array Value}{ps:List (Key×Value)}(p:OQ h D items ps)(nI:∀a:Addr,Value.ref a∈items->a≠I)(k:∀b o,b≠I->b≠D->h.get? b=some o->h'.get? b=some o):OQ h' D items ps:=by
 refine⟨p.1,λj kk v e=>?_⟩
 obtain⟨a,ku,ha,hD,hk,o,e1,e2⟩:=p.2 j kk v e
 exact⟨a,ku,ha,hD,hk,o,k a o (nI a (Array.mem_of_getElem? ha)) hD e1,e2⟩
theorem Jp {ps:List (Key×Value)}(nd:(ps.map (·.1)).Nodup){i:Nat}{k:Key}{v:Value}(e:ps[i]?=some (k,v)):stored (ps.take i) k v=ps.take (i+1):=by
 have h:¬(ps.take i).any (λkv=>decide (kv.1=k))=true:=λa=>by
  obtain⟨p,hp,e2⟩:=List.any_eq_true.mp a
  have e2:=of_decide_eq_true e2
  obtain⟨j,hj,rfl⟩:=List.getElem_of_mem hp
  rw[List.length_take]at hj
  obtain⟨hi,e3⟩:=List.getElem?_eq_some_iff.mp e
  have:=(List.pairwise_iff_getElem.mp nd) j i (by rw[List.length_map];omega) (by rw[List.length_map];omega) (by omega)
  apply this
  rw[List.getElem_map,List.getElem_map,e3]
  rw[List.getElem_take]at e2
  exact e2
 unfold stored
 rw[if_neg h,List.take_succ,e];rfl
theorem II {l I D:Addr}{items:Array Value}{ps:List (Key×Value)}{R:Result->Shared->Prop}(hh:A.handled=none)(lI:l≠I)(DI:D≠I)(Dl:D≠l)(nI:∀a:Addr,Value.ref a∈items->a≠I)(nd:(ps.map (·.1)).Nodup)(hn:items.size < 1000):
 ∀(n i:Nat) (s:Shared),items.size - i=n->i<=items.size->s.heap.IsListIter I l i->s.heap.IsList l items->OQ s.heap D items ps->s.heap.DictOf (As prog w) D (ps.take i)->
  (∀h' tk,(∀b o,b≠I->b≠D->s.heap.get? b=some o->h'.get? b=some o)->h'.DictOf (As prog w) D ps->R (.ok (.ret .none)) { s with heap:=h',toks:=tk })->
  codeAny (model prog w) A (.builtin "dict.update.loop" ⟨[.ref D,.ref I,rawInt i,.none],[]⟩) R s
 |0,i,s,hk,hi,h1,h2,h3,h4,h=>by
  have ei:i=items.size:=by omega
  subst ei
  refine codeAny_builtin DO ?_
  rw[Around.under_plainId Bh _]
  show wpAny _ A.in1 (pyNext (.ref I) >>= _) _ _ s
  have Wk:=Walks.list (prog:=prog) (w:=w) (A:=A.in1) hh I l lI items
  refine wpAny_bind (Wk.done s _ _ ⟨h1,h2⟩ λh' tk kp=>?_)
  refine wpAny_bind (m:=Builtin.Dict.addKeywords D []) (wpAny_pure (wpAny_pure ?_))
  refine h h' tk (λb o n1 _ e=>kp b o (by simpa using n1) e) ?_
  rw[List.take_of_length_le (by rw[h3.1];exact Nat.le_refl _)]at h4
  obtain⟨o,es,ep,e,r⟩:=h4
  exact⟨o,es,ep,kp D o (by simpa using DI) e,r⟩
 |n+1,i,s,hk,hi,h1,h2,h3,h4,h=>by
  have il:i < items.size:=by omega
  refine codeAny_builtin DO ?_
  rw[Around.under_plainId Bh _]
  show wpAny _ A.in1 (pyNext (.ref I) >>= _) _ _ s
  have Wk:=Walks.list (prog:=prog) (w:=w) (A:=A.in1) hh I l lI items
  refine wpAny_bind (Wk.item i s _ _ il ⟨h1,h2⟩ λv h' tk hP hSt kp=>?_)
  obtain⟨pk,pv,hps⟩:∃pk pv,ps[i]?=some (pk,pv):=⟨_,_,List.getElem?_eq_getElem (by rw[h3.1];exact il)⟩
  obtain⟨a,ku,ha,hD,hk',tup⟩:=h3.2 i pk pv hps
  have ev:v=.ref a:=Option.some.inj (hP.symm.trans ha)
  subst ev
  have aI:a≠I:=nI a (Array.mem_of_getElem? ha)
  obtain⟨o,e1,e2,n2,e3⟩:=tup
  have e1':=kp a o (by simpa using aI) e1
  have hTt:(Shared.mk h' s.gens s.drawn tk s.os).TypeIs (.ref a) "tuple":=⟨o,e1',e2⟩
  have h4':h'.DictOf (As prog w) D (ps.take i):=by
   obtain⟨o,es,ep,e,r⟩:=h4
   exact⟨o,es,ep,kp D o (by simpa using DI) e,r⟩
  dsimp only
  refine wpAny_bind (wpAny_holding ?_)
  refine wpAny_bind (wpAny_tryCatch ?_)
  unfold Builtin.Dict.pairItems
  refine wpAny_bind (wpAny_typeOf hTt ?_)
  rw[if_pos (by decide)]
  refine wpAny_bind ?_
  unfold seqItems?
  refine wpAny_bind (wpAny_load e1' ?_)
  rw[e3]
  refine wpAny_pure (wpAny_pure ?_)
  refine wpAny_holding (wpAny_dictSet_pairs (OM hk') h4' (λh2' dd sb=>?_) (by rw[List.length_take];exact Nat.le_of_lt (AM (by omega))))
  refine wpAny_pure ⟨plainId_quiet Bh _,?_⟩
  rw[Jp nd hps]at dd
  have kk:∀b o,b≠I->b≠D->s.heap.get? b=some o->h2'.get? b=some o:=λb o n1 n2 e=>(sb.2 b n2).trans (kp b o (by simpa using n1) e)
  refine II hh lI DI Dl nI nd hn n (i+1) { s with heap:=h2',toks:=tk+1 } (by omega) (by omega) ?_ ?_ (h3.keeps nI kk) dd λh5 tk5 k5 d5=>?_
  ·exact hSt.1.at λo e=>(sb.2 I (Ne.symm DI)).trans e
  ·obtain⟨o,e,r⟩:=hSt.2
   exact⟨o,(sb.2 l (Ne.symm Dl)).trans e,r⟩
  ·exact h h5 tk5 (λb o n1 n2 e=>k5 b o n1 n2 (kk b o n1 n2 e)) d5
end
end L2
namespace L2
open PySem PySem.Spec PyProof.Rows PySem.W
section
variable {prog:Program}{w:World}{A:Around}{E:Value->Shared->Prop}{s:Shared}
theorem OR {l:Addr}{items:List Value}{n:Nat}{ps:List (Key×Value)}{Q:Value->Shared->Prop}(hh:A.handled=none)(hl:s.heap.get? l=some { cls:=.type "list",data:=.seq items.toArray n })(hps:OQ s.heap s.heap.objs.size items.toArray ps)(nd:(ps.map (·.1)).Nodup)(hn:items.length < 1000)
 (h:∀h' tk,(∀b o,s.heap.get? b=some o->h'.get? b=some o)->h'.DictOf (As prog w) s.heap.objs.size ps->Q (.ref s.heap.objs.size) { s with heap:=h',toks:=tk }):
 wpAny (model prog w) A (call (.type "dict") [.ref l]) Q E s:=by
 have hlt:l < s.heap.objs.size:=Heap.lt_size hl
 refine callType_codes (Q₁:=λobj s₁=>obj=.ref s.heap.objs.size/\s₁={ s with heap:=s.heap.push { cls:=.type "dict",data:=.dict #[] } }) F.kt_called_dict (F.kt_typeCall_dict_1 _) F.entry_dict_init (kt_code_dict_new _ ⟨rfl,rfl⟩) ?_
 rintro obj s₁ ⟨rfl,rfl⟩
 have hnew:(s.heap.push { cls:=.type "dict",data:=.dict #[] }).DictOf (As prog w) s.heap.objs.size []:=Heap.DictOf.new s.heap
 refine⟨hnew.typeIs,F.args_dict_init_2 _ _,?_⟩
 unfold Builtin.«dict.__init__»
 refine wpAny_bind ?_
 unfold Builtin.Dict.selfAndRest
 refine wpAny_bind (wpAny_notOrdered_dict hnew.typeIs ?_)
 show wpAny _ _ (pure (s.heap.objs.size,[Value.ref l])) _ _ _
 refine wpAny_pure ?_
 show wpAny _ _ (Builtin.Dict.updateFrom "dict.__init__" s.heap.objs.size (.ref l) [] .none) _ _ _
 unfold Builtin.Dict.updateFrom
 have hl1:(s.heap.push { cls:=.type "dict",data:=.dict #[] }).get? l=some { cls:=.type "list",data:=.seq items.toArray n }:=Heap.get?_push_of_some _ hl
 have hT:(Shared.mk (s.heap.push { cls:=.type "dict",data:=.dict #[] }) s.gens s.drawn s.toks s.os).TypeIs (.ref l) "list":=⟨_,hl1,rfl⟩
 refine wpAny_bind (wpAny_typeOf hT ?_)
 rw[if_pos (by decide)]
 refine wpAny_bind (M9 hl1 hh λh2 tk2 k2=>?_)
 rw[if_pos (by rfl)]
 refine wpAny_bind (wpAny_rule ?_)
 have hl2:=k2 _ _ hl1
 refine wpAny_bind (wpAny_pyIter_list (s:={ s with heap:=h2,toks:=tk2 }) (items:=items.toArray) ⟨_,hl2,rfl,n,rfl⟩ ?_)
 refine wpAny_pure ⟨plainId_quiet Bh _,?_⟩
 have D2:s.heap.objs.size < h2.objs.size:=by
  obtain⟨o,es,ep,e,_⟩:=hnew
  exact Heap.lt_size (k2 _ _ e)
 have l2:l < h2.objs.size:=Heap.lt_size hl2
 have k02:∀b o,s.heap.get? b=some o->h2.get? b=some o:=λb o e=>k2 _ _ (Heap.get?_push_of_some _ e)
 have tlt:∀a:Addr,Value.ref a∈items.toArray->a < s.heap.objs.size:=λa ha=>by
  obtain⟨j,hj,e⟩:=Array.getElem_of_mem ha
  have hj':j < ps.length:=by rw[hps.1];exact hj
  obtain⟨a',ku,ha',_,_,o,e1,_⟩:=hps.2 j ps[j].1 ps[j].2 (List.getElem?_eq_getElem hj')
  have:a'=a:=by
   have e2:items.toArray[j]?=some (Value.ref a):=by rw[Array.getElem?_eq_getElem hj,e]
   rw[ha']at e2
   cases e2;rfl
  subst this
  exact Heap.lt_size e1
 refine II (l:=l) (D:=s.heap.objs.size) (ps:=ps) (show A.in1.handled=none from hh) (Nat.ne_of_lt l2) (Nat.ne_of_lt D2) (Nat.ne_of_gt hlt) (λa ha=>Nat.ne_of_lt (Nat.lt_trans (tlt a ha) D2)) nd (by rw[List.size_toArray];exact hn) items.toArray.size 0 { s with heap:=h2.push { cls:=.type "list_iterator",data:=.fields #[.ref l,.int 0 0] },toks:=tk2 } (Nat.sub_zero _) (Nat.zero_le _) ⟨_,Heap.get?_push_size _ rfl,rfl,rfl⟩ ⟨_,Heap.get?_push_of_some _ hl2,rfl,n,rfl⟩ ?_ ?_ λh' tk kp hd=>?_
 ·refine⟨hps.1,λj k v e=>?_⟩
  obtain⟨a,ku,ha,hD,hk,o,e1,e2⟩:=hps.2 j k v e
  exact⟨a,ku,ha,hD,hk,o,Heap.get?_push_of_some _ (k02 _ _ e1),e2⟩
 ·obtain⟨o,es,ep,e,r⟩:=hnew
  exact⟨o,es,ep,Heap.get?_push_of_some _ (k2 _ _ e),r⟩
 ·exact⟨rfl,h h' tk (λb o e=>kp b o (Nat.ne_of_lt (Nat.lt_trans (Heap.lt_size e) D2)) (Nat.ne_of_lt (Heap.lt_size e)) (Heap.get?_push_of_some _ (k02 _ _ e))) hd⟩
end
end L2
namespace L2
open PySem PySem.Spec PyProof.Rows PySem.W
theorem Jq {h:Heap}:∀(as:List Addr) (kvs:List (Key×V)),as.length=kvs.length->(∀(j:Nat) a k v,as[j]?=some a->kvs[j]?=some (k,v)->∃ku vu,RelV (kV k) ku/\RelV v vu/\IsTup h a #[ku,vu])->
 ∃ps:List (Key×Value),KV kvs ps/\∀(j:Nat) k vu,ps[j]?=some (k,vu)->∃a ku,as[j]?=some a/\RelV (kV k) ku/\IsTup h a #[ku,vu]
 |[],[],_,_=>⟨[],.nil,λj k vu e=>by simp at e⟩
 |a::as,(k,v)::kvs,hl,hp=>by
  obtain⟨ps,r,q⟩:=Jq as kvs (by simpa using hl) λj a k v h1 h2=>hp (j+1) a k v (by simpa using h1) (by simpa using h2)
  obtain⟨ku,vu,r1,r2,r3⟩:=hp 0 a k v rfl rfl
  refine⟨(k,vu)::ps,.cons ⟨rfl,r2⟩ r,λj k' vu' e=>?_⟩
  cases j with
  |zero=>cases e;exact⟨a,ku,rfl,r1,r3⟩
  |succ j=>exact q j k' vu' (by simpa using e)
section
variable {X:Cx}
theorem Hj (hc:X.calm=true):Bg X (.type "dict") (λvs H Q=>∃(l:Addr) (as:List Addr) (kvs:List (Key×V)),vs=[.ref l]/\H l=some (.lst (as.map V.ref))/\as.length=kvs.length/\
 (∀(j:Nat) a k v,as[j]?=some a->kvs[j]?=some (k,v)->H a=some (.tup [kV k,v]))/\(kvs.map (·.1)).Nodup/\as.length < 1000/\∀d,H d=none->Q (.ref d) (upd H d (.dK kvs))):=by
 intro pins s σ H xs us Q I r h
 obtain⟨l,as,kvs,rfl,hH,hlen,hT,nd,h1000,q⟩:=h
 obtain⟨u,rfl,ru⟩:=vals1 r
 cases(show u=Value.ref l from ru)
 obtain⟨z,its,n,rv,hz,e⟩:=I.GV hH
 rw[List.length_map]at hz
 have hit:∀(j:Nat) a,as[j]?=some a->its[j]?=some (Value.ref a):=λj a ha=>by
  obtain⟨w',e1,e2⟩:=rv.get (i:=j) (x:=V.ref a) (by rw[List.getElem?_map,ha];rfl)
  cases(show w'=Value.ref a from e2)
  exact e1
 obtain⟨ps,pr,pq⟩:=Jq (h:=s.heap) as kvs hlen λj a k v h1 h2=>by
  obtain⟨_,its',r',t'⟩:=(show Ax X.prog X.w H s.heap a (.tup [kV k,v])from I.hok a _ (hT j a k v h1 h2))
  cases r' with
  |cons ra rb=>
   cases rb with
   |cons rb rc=>
    cases rc
    exact⟨_,_,ra,rb,t'⟩
 have hb:sysModules < s.heap.objs.size:=I.big
 have pl:=pr.length
 refine OR (ps:=ps) (I.ok.hd hc) e ⟨?_,λj k v e1=>?_⟩ ?_ (by omega) λh' tk kp dd=>?_
 ·rw[List.size_toArray];omega
 ·obtain⟨a,ku,ha,hk,t⟩:=pq j k v e1
  refine⟨a,ku,by rw[List.getElem?_toArray];exact hit j a ha,?_,hk,t⟩
  obtain⟨o,e2,_⟩:=t
  exact Nat.ne_of_lt (Heap.lt_size e2)
 ·rw[<-pr.keys];exact nd
 ·refine⟨.ref s.heap.objs.size,_,I.laid (a:=s.heap.objs.size) (o:=.dK kvs) (t':=tk) (λb o e=>kp b o e) (Nat.le_refl _) (RE (Nat.le_of_lt (AM (by omega))) (beq_eq_false_iff_ne.mpr (Ne.symm (Nat.ne_of_lt hb))) pr dd),rfl,q _ (I.hok.fresh (Nat.le_refl _))⟩
end
theorem Pr:bootBuiltins "dict"=some (.type "dict"):=by decide+kernel
end L2
namespace Tim
open PySem PyProof.Rows
abbrev SM:=StateT SortSt Sem
def Nk:Bool->Keyed->Array Keyed->Nat->Nat->Nat->SM (Option Nat):=sortPriv% PySem.Builtin.gallop
def UB:Array Keyed->Array Keyed->SM (Array Keyed):=sortPriv% PySem.Builtin.mergeLo
def UC:Array Keyed->Array Keyed->SM (Array Keyed):=sortPriv% PySem.Builtin.mergeHi
abbrev setG (st:SortSt)(g:Nat):SortSt:=SortSt.mk' (kindOf st) (arrOf st) (pendingOf st) g (failedOf st)
def Pt (left:Bool)(x:Keyed)(xs:Array Keyed)(b:Nat)(i:Nat):SM (Option Bool):=do
 let p<-elem' xs (b+i)
 if left then lt' p x else return(<-lt' x p).map (!·)
theorem RG (left:Bool)(x:Keyed)(xs:Array Keyed)(b n h:Nat):Nk left x xs b n h=(do
 let mut la:=0
 let mut o:=1
 let mut l:=0
 let mut r:=0
 let some right<-Pt left x xs b h|return none
 if right then
  let mo:=n - h
  for _ in [0:n] do
   if o≥mo then break
   let some more<-Pt left x xs b (h+o)|return none
   if !more then break
   la:=o
   o:=2*o+1
  l:=h+la+1
  r:=h+min o mo
 else
  let mo:=h+1
  for _ in [0:n] do
   if o≥mo then break
   let some f<-Pt left x xs b (h - o)|return none
   if f then break
   la:=o
   o:=2*o+1
  l:=h+1 - min o mo
  r:=h - la
 for _ in [0:n] do
  if l≥r then break
  let m:=l+(r - l) / 2
  let some more<-Pt left x xs b m|return none
  if more then l:=m+1 else r:=m
 return some r):=rfl
def NA (g:Nat):SM Unit:=modify λs=>setG s g
theorem RH (a b:Array Keyed):UB a b=(do
 rule "list.sort.merge-lo"
 let tt:=a.size+b.size
 let dn (o:Array Keyed) (p q:Nat):=o++a.extract p a.size++b.extract q b.size
 let la (o:Array Keyed) (p q:Nat):=o++b.extract q b.size++a.extract p a.size
 let mut o:Array Keyed:=#[<-elem' b 0]
 let mut p:=0
 let mut q:=1
 if q==b.size then return dn o p q
 if p+1==a.size then return la o p q
 let mut g:=gallopOf (<-get)
 for _ in [0:tt] do
  let mut c:=0
  let mut d:=0
  for _ in [0:tt] do
   let some w<-lt' (<-elem' b q) (<-elem' a p)|return dn o p q
   if w then
    o:=o.push (<-elem' b q);q:=q+1;d:=d+1;c:=0
    if q==b.size then return dn o p q
    if d≥g then break
   else
    o:=o.push (<-elem' a p);p:=p+1;c:=c+1;d:=0
    if p+1==a.size then return la o p q
    if c≥g then break
  rule "list.sort.gallop"
  g:=g+1
  for _ in [0:tt] do
   if g > 1 then g:=g - 1
   NA g
   let some k<-Nk false (<-elem' b q) a p (a.size - p) 0|return dn o p q
   c:=k
   if k > 0 then
    o:=o++a.extract p (p+k);p:=p+k
    if p+1==a.size then return la o p q
    if p==a.size then return dn o p q
   o:=o.push (<-elem' b q);q:=q+1
   if q==b.size then return dn o p q
   let some k<-Nk true (<-elem' a p) b q (b.size - q) 0|return dn o p q
   d:=k
   if k > 0 then
    o:=o++b.extract q (q+k);q:=q+k
    if q==b.size then return dn o p q
   o:=o.push (<-elem' a p);p:=p+1
   if p+1==a.size then return la o p q
   if c < 7&&d < 7 then break
  g:=g+1
  NA g
 unsupported "internal:list.sort.merge-bound"):=rfl
theorem RJ (a b:Array Keyed):UC a b=(do
 rule "list.sort.merge-hi"
 let tt:=a.size+b.size
 let dn (o:Array Keyed) (p q:Nat):=a.extract 0 p++b.extract 0 q++o.reverse
 let fb (o:Array Keyed) (p q:Nat):=b.extract 0 q++a.extract 0 p++o.reverse
 let mut p:=a.size - 1
 let mut q:=b.size
 let mut o:Array Keyed:=#[<-elem' a p]
 if p==0 then return dn o p q
 if q==1 then return fb o p q
 let mut g:=gallopOf (<-get)
 for _ in [0:tt] do
  let mut c:=0
  let mut d:=0
  for _ in [0:tt] do
   let some w<-lt' (<-elem' b (q - 1)) (<-elem' a (p - 1))|return dn o p q
   if w then
    p:=p - 1;o:=o.push (<-elem' a p);c:=c+1;d:=0
    if p==0 then return dn o p q
    if c≥g then break
   else
    q:=q - 1;o:=o.push (<-elem' b q);d:=d+1;c:=0
    if q==1 then return fb o p q
    if d≥g then break
  rule "list.sort.gallop"
  g:=g+1
  for _ in [0:tt] do
   if g > 1 then g:=g - 1
   NA g
   let some f<-Nk false (<-elem' b (q - 1)) a 0 p (p - 1)|return dn o p q
   let k:=p - f
   c:=k
   if k > 0 then
    o:=o++(a.extract f p).reverse;p:=f
    if p==0 then return dn o p q
   q:=q - 1;o:=o.push (<-elem' b q)
   if q==1 then return fb o p q
   let some f<-Nk true (<-elem' a (p - 1)) b 0 q (q - 1)|return dn o p q
   let k:=q - f
   d:=k
   if k > 0 then
    o:=o++(b.extract f q).reverse;q:=f
    if q==1 then return fb o p q
    if q==0 then return dn o p q
   p:=p - 1;o:=o.push (<-elem' a p)
   if p==0 then return dn o p q
   if c < 7&&d < 7 then break
  g:=g+1
  NA g
 unsupported "internal:list.sort.merge-bound"):=rfl
theorem RK (i:Nat):mergeAt' i=(do
 let s<-get
 let(some (u,n,w),some (v,m,_)):=((pendingOf s)[i]?,(pendingOf s)[i+1]?)|unsupported "internal:list.sort.pending"
 set (setPending s (((pendingOf s).setIfInBounds i (u,n+m,w)).eraseIdxIfInBounds (i+1)))
 let some k<-Nk false (<-elem' (arrOf s) v) (arrOf s) u n 0|return false
 let(u,n):=(u+k,n - k)
 if n==0 then return true
 let some m<-Nk true (<-elem' (arrOf s) (u+n - 1)) (arrOf s) v m (m - 1)|return false
 if m==0 then return true
 let x:=(arrOf s).extract u v
 let y:=(arrOf s).extract v (v+m)
 let r<-if n<=m then UB x y else UC x y
 modify λs=>setArr s (r.toList.zipIdx.foldl (λa (p,j)=>a.setIfInBounds (u+j) p) (arrOf s))
 return(failedOf (<-get)).isNone):=rfl
end Tim
namespace Tim
open PySem PyProof.Rows
section
variable {prog:Program}{w:World}{A:Around}{E:Value->Shared->Prop}{s:Shared}{a₀:Array Keyed}{κ:SortKind}{O:KeyOrd}{key:Keyed->O.α}
def JR (prog:Program)(w:World)(A:Around)(E:Value->Shared->Prop)(s:Shared)(a₀:Array Keyed)(κ:SortKind)(O:KeyOrd)(key:Keyed->O.α):Prop:=
 ∀(x y:Keyed) (st:SortSt) (Q:Option Bool->SortSt->Prop),x∈a₀->y∈a₀->kindOf st=κ->Q (some (O.blt (key x) (key y))) st->wpS (model prog w) A E s (lt' x y) Q st
theorem Am {xs:Array Keyed}{i:Nat}{p:Keyed}{st:SortSt}{Q:Keyed->SortSt->Prop}(e:xs[i]?=some p)(h:Q p st):wpS (model prog w) A E s (elem' xs i) Q st:=by
 rw[elem'_eq,e]
 exact wpS_pure h
abbrev UP (key:Keyed->O.α)(left:Bool)(x p:Keyed):Bool:=if left then O.blt (key p) (key x)else !O.blt (key x) (key p)
theorem RL (C:JR prog w A E s a₀ κ O key){left:Bool}{x p:Keyed}{xs:Array Keyed}{b i:Nat}{st:SortSt}{Q:Option Bool->SortSt->Prop}(hx:x∈a₀)(hp:p∈a₀)(e:xs[b+i]?=some p)(hk:kindOf st=κ)
 (h:Q (some (UP key left x p)) st):wpS (model prog w) A E s (Pt left x xs b i) Q st:=by
 unfold Pt
 refine wpS_bind (Am e ?_)
 cases left with
 |true=>exact C p x st Q hp hx hk h
 |false=>exact wpS_bind (C x p st _ hx hp hk (wpS_pure h))
def Sn (left:Bool)(x:Keyed)(xs:Array Keyed)(b n l0 r0:Nat):SM (Option Nat):=do
 let mut l:=l0
 let mut r:=r0
 for _ in [0:n] do
  if l≥r then break
  let m:=l+(r - l) / 2
  let some more<-Pt left x xs b m|return none
  if more then l:=m+1 else r:=m
 return some r
theorem Ly {left:Bool}{x:Keyed}{xs:Array Keyed}{b n l0 r0:Nat}{st:SortSt}{Q:Option Nat->SortSt->Prop}(B:Nat->Bool)
 (ask:∀(i:Nat) (Q':Option Bool->SortSt->Prop),i < n->Q' (some (B i)) st->wpS (model prog w) A E s (Pt left x xs b i) Q' st)
 (mono:∀i j,i<=j->j < n->B j=true->B i=true)(h1:l0<=r0)(h2:r0<=n)(h3:∀i,i < l0->B i=true)(h4:∀i,r0<=i->i < n->B i=false)
 (h:∀k,k<=n->(∀i,i < k->B i=true)->(∀i,k<=i->i < n->B i=false)->Q (some k) st):wpS (model prog w) A E s (Sn left x xs b n l0 r0) Q st:=by
 unfold Sn
 refine wpS_bind (wpS_mono (wpS_forRange (I:=λt c st'=>st'=st/\∃l r,c=(none,l,r)/\l<=r/\r<=n/\r - l<=n - t/\(∀i,i < l->B i=true)/\(∀i,r<=i->i < n->B i=false))
  (Q:=λc st'=>st'=st/\∃l,c=(none,l,l)/\l<=n/\(∀i,i < l->B i=true)/\(∀i,l<=i->i < n->B i=false)) ?step ?fin ⟨rfl,l0,r0,rfl,h1,h2,by omega,h3,h4⟩) ?post)
 case post=>
  rintro c st' ⟨rfl,l,rfl,a,b,c⟩
  exact wpS_pure (h l a b c)
 case fin=>
  rintro c st' ⟨rfl,l,r,rfl,a1,a2,a3,a4,a5⟩
  have:r=l:=by omega
  subst this
  exact⟨rfl,r,rfl,a2,a4,a5⟩
 case step=>
  rintro t c st' _ ht ⟨rfl,l,r,rfl,a1,a2,a3,a4,a5⟩
  dsimp only
  by_cases g:l≥r
  ·rw[if_pos g]
   have:r=l:=by omega
   subst this
   exact wpS_pure ⟨rfl,r,rfl,a2,a4,a5⟩
  ·rw[if_neg g]
   refine wpS_bind (ask _ _ (by omega) ?_)
   dsimp only
   cases e:B (l+(r - l) / 2)with
   |true=>
    rw[if_pos rfl]
    exact wpS_pure ⟨rfl,_,r,rfl,by omega,a2,by omega,λi hi=>mono i _ (by omega) (by omega) e,a5⟩
   |false=>
    rw[if_neg (by simp)]
    refine wpS_pure ⟨rfl,l,_,rfl,by omega,by omega,by omega,a4,λi hi hn=>?_⟩
    cases e':B i with
    |false=>rfl
    |true=>rw[mono _ i hi hn e']at e;cases e
theorem FX (C:JR prog w A E s a₀ κ O key){left:Bool}{x:Keyed}{xs:Array Keyed}{b n hn:Nat}{st:SortSt}{Q:Option Nat->SortSt->Prop}(B:Nat->Bool)(hx:x∈a₀)(hk:kindOf st=κ)
 (hB:∀i,i < n->∃p,xs[b+i]?=some p/\p∈a₀/\B i=UP key left x p)(mono:∀i j,i<=j->j < n->B j=true->B i=true)(hh:hn < n)
 (h:∀k,k<=n->(∀i,i < k->B i=true)->(∀i,k<=i->i < n->B i=false)->Q (some k) st):wpS (model prog w) A E s (Nk left x xs b n hn) Q st:=by
 have ask:∀(i:Nat) (Q':Option Bool->SortSt->Prop),i < n->Q' (some (B i)) st->wpS (model prog w) A E s (Pt left x xs b i) Q' st:=λi Q' hi hq=>by
  obtain⟨p,e1,e2,e3⟩:=hB i hi
  rw[e3]at hq
  exact RL C hx e2 e1 hk hq
 have off:∀i j,i<=j->j < n->B i=false->B j=false:=λi j hij hj e=>by
  cases e':B j with
  |false=>rfl
  |true=>rw[mono i j hij hj e']at e;cases e
 rw[RG]
 refine wpS_bind (ask hn _ hh ?_)
 dsimp only
 cases e:B hn with
 |true=>
  rw[if_pos rfl]
  refine wpS_bind (wpS_mono (wpS_forRange (I:=λt c st'=>st'=st/\∃la o,c=(none,la,o)/\la < o/\t < o/\hn+la < n/\B (hn+la)=true)
   (Q:=λc st'=>st'=st/\∃la o,c=(none,la,o)/\la < o/\hn+la < n/\B (hn+la)=true/\(n - hn<=o\/(hn+o < n/\B (hn+o)=false))) ?step ?fin ⟨rfl,0,1,rfl,by omega,by omega,hh,e⟩) ?post)
  case post=>
   rintro c st' ⟨rfl,la,o,rfl,a1,a2,a3,a4⟩
   exact Ly (l0:=hn+la+1) (r0:=hn+min o (n - hn)) B ask mono (by omega) (by omega) (λi hi=>mono i _ (by omega) a2 a3) (λi hi hn'=>by
    rcases a4 with a4|a4
    ·omega
    ·exact off _ i (by omega) hn' a4.2) h
  case fin=>
   rintro c st' ⟨rfl,la,o,rfl,a1,a2,a3,a4⟩
   exact⟨rfl,la,o,rfl,a1,a3,a4,.inl (by omega)⟩
  case step=>
   rintro t c st' _ ht ⟨rfl,la,o,rfl,a1,a2,a3,a4⟩
   dsimp only
   by_cases g:o≥n - hn
   ·rw[if_pos g]
    exact wpS_pure ⟨rfl,la,o,rfl,a1,a3,a4,.inl g⟩
   ·rw[if_neg g]
    refine wpS_bind (ask _ _ (by omega) ?_)
    dsimp only
    cases e':B (hn+o)with
    |true=>
     rw[if_neg (by simp)]
     exact wpS_pure ⟨rfl,o,_,rfl,by omega,by omega,by omega,e'⟩
    |false=>
     rw[if_pos (by simp)]
     exact wpS_pure ⟨rfl,la,o,rfl,a1,a3,a4,.inr ⟨by omega,e'⟩⟩
 |false=>
  rw[if_neg (by simp)]
  refine wpS_bind (wpS_mono (wpS_forRange (I:=λt c st'=>st'=st/\∃la o,c=(none,la,o)/\la < o/\t < o/\la<=hn/\B (hn - la)=false)
   (Q:=λc st'=>st'=st/\∃la o,c=(none,la,o)/\la < o/\la<=hn/\B (hn - la)=false/\(hn+1<=o\/(o<=hn/\B (hn - o)=true))) ?step ?fin ⟨rfl,0,1,rfl,by omega,by omega,by omega,e⟩) ?post)
  case post=>
   rintro c st' ⟨rfl,la,o,rfl,a1,a2,a3,a4⟩
   exact Ly (l0:=hn+1 - min o (hn+1)) (r0:=hn - la) B ask mono (by omega) (by omega) (λi hi=>by
    rcases a4 with a4|a4
    ·omega
    ·exact mono i _ (by omega) (by omega) a4.2) (λi hi hn'=>off _ i (by omega) hn' a3) h
  case fin=>
   rintro c st' ⟨rfl,la,o,rfl,a1,a2,a3,a4⟩
   exact⟨rfl,la,o,rfl,a1,a3,a4,.inl (by omega)⟩
  case step=>
   rintro t c st' _ ht ⟨rfl,la,o,rfl,a1,a2,a3,a4⟩
   dsimp only
   by_cases g:o≥hn+1
   ·rw[if_pos g]
    exact wpS_pure ⟨rfl,la,o,rfl,a1,a3,a4,.inl g⟩
   ·rw[if_neg g]
    refine wpS_bind (ask _ _ (by omega) ?_)
    dsimp only
    cases e':B (hn - o)with
    |false=>
     rw[if_neg (by simp)]
     exact wpS_pure ⟨rfl,o,_,rfl,by omega,by omega,by omega,e'⟩
    |true=>
     rw[if_pos rfl]
     exact wpS_pure ⟨rfl,la,o,rfl,a1,a3,a4,.inr ⟨by omega,e'⟩⟩
def Cd (key:Keyed->O.α):List Keyed->List Keyed->List Keyed
 |[],ys=>ys
 |x::xs,[]=>x::xs
 |x::xs,y::ys=>if O.blt (key y) (key x)=true then y::Cd key (x::xs) ys else x::Cd key xs (y::ys)
termination_by xs ys=>xs.length+ys.length
abbrev OS (key:Keyed->O.α)(l:List Keyed):Prop:=l.Pairwise λx y=>O.blt (key y) (key x)=false
theorem CB (ys:List Keyed):Cd key [] ys=ys:=by unfold Cd;rfl
theorem Bz:∀(xs:List Keyed),Cd key xs []=xs
 |[]=>CB _
 |x::xs=>by unfold Cd;rfl
theorem BX (x y:Keyed)(xs ys:List Keyed):Cd key (x::xs) (y::ys)=if O.blt (key y) (key x)=true then y::Cd key (x::xs) ys else x::Cd key xs (y::ys):=by
 rw[Cd]
theorem FY (y:Keyed)(ys xs:List Keyed):∀us:List Keyed,(∀x∈us,O.blt (key y) (key x)=false)->Cd key (us++xs) (y::ys)=us++Cd key xs (y::ys)
 |[],_=>rfl
 |u::us,h=>by
  rw[List.cons_append,BX,if_neg (by rw[h u List.mem_cons_self];simp),FY y ys xs us λx hx=>h x (List.mem_cons_of_mem _ hx)]
  rfl
theorem EV (x:Keyed)(xs ys:List Keyed):∀us:List Keyed,(∀y∈us,O.blt (key y) (key x)=true)->Cd key (x::xs) (us++ys)=us++Cd key (x::xs) ys
 |[],_=>rfl
 |u::us,h=>by
  rw[List.cons_append,BX,if_pos (h u List.mem_cons_self),EV x xs ys us λx hx=>h x (List.mem_cons_of_mem _ hx)]
  rfl
theorem Lz (x:Keyed)(ys:List Keyed)(h:∀y∈ys,O.blt (key y) (key x)=true):Cd key [x] ys=ys++[x]:=by
 have:=EV (O:=O) x [] [] ys h
 rw[List.append_nil,Bz]at this
 exact this
theorem NB (y:Keyed)(xs:List Keyed)(h:∀x∈xs,O.blt (key y) (key x)=true):Cd key xs [y]=y::xs:=by
 cases xs with
 |nil=>exact CB _
 |cons x xs=>rw[BX,if_pos (h x List.mem_cons_self),Bz]
theorem D4 (x:Keyed):∀(xs zs:List Keyed),(∀z∈zs,O.blt (key z) (key x)=true)->Cd key (xs++[x]) zs=Cd key xs zs++[x]
 |[],zs,h=>by rw[List.nil_append,Lz x zs h,CB]
 |u::us,[],h=>by rw[Bz,Bz]
 |u::us,z::zs,h=>by
  rw[List.cons_append,BX,BX]
  split
  ·have:=D4 x (u::us) zs λz hz=>h z (List.mem_cons_of_mem _ hz)
   rw[<-List.cons_append,this];rfl
  ·rw[D4 x us (z::zs) h];rfl
termination_by xs zs=>xs.length+zs.length
theorem D5 (y:Keyed):∀(xs zs:List Keyed),(∀x∈xs,O.blt (key y) (key x)=false)->Cd key xs (zs++[y])=Cd key xs zs++[y]
 |[],zs,h=>by rw[CB,CB]
 |u::us,[],h=>by
  have:=FY (O:=O) y [] [] (u::us) h
  rw[List.append_nil,CB]at this
  rw[List.nil_append,Bz]
  exact this
 |u::us,z::zs,h=>by
  rw[List.cons_append,BX,BX]
  split
  ·rw[D5 y (u::us) zs h];rfl
  ·have:=D5 y us (z::zs) λx hx=>h x (List.mem_cons_of_mem _ hx)
   rw[<-List.cons_append,this];rfl
termination_by xs zs=>xs.length+zs.length
theorem Gn (zs:List Keyed):∀(us xs:List Keyed),(∀u∈us,∀z∈zs,O.blt (key z) (key u)=true)->Cd key (xs++us) zs=Cd key xs zs++us
 |[],xs,_=>by rw[List.append_nil,List.append_nil]
 |u::us,xs,h=>by
  have e:=Gn zs us (xs++[u]) λv hv=>h v (List.mem_cons_of_mem _ hv)
  rw[D4 u _ _ (h u List.mem_cons_self),List.append_assoc,List.append_assoc]at e
  exact e
theorem Gp (xs:List Keyed):∀(us zs:List Keyed),(∀u∈us,∀x∈xs,O.blt (key u) (key x)=false)->Cd key xs (zs++us)=Cd key xs zs++us
 |[],zs,_=>by rw[List.append_nil,List.append_nil]
 |u::us,zs,h=>by
  have e:=Gp xs us (zs++[u]) λv hv=>h v (List.mem_cons_of_mem _ hv)
  rw[D5 u _ _ (h u List.mem_cons_self),List.append_assoc,List.append_assoc]at e
  exact e
theorem De:∀(xs ys:List Keyed),(Cd key xs ys).Perm (xs++ys)
 |[],ys=>by rw[CB];exact .refl _
 |x::xs,[]=>by rw[Bz,List.append_nil]
 |x::xs,y::ys=>by
  rw[BX]
  split
  ·exact((De (x::xs) ys).cons y).trans List.perm_middle.symm
  ·exact(De xs (y::ys)).cons x
termination_by xs ys=>xs.length+ys.length
theorem B5 {x y z:Keyed}(h1:O.blt (key y) (key x)=false)(h2:O.blt (key z) (key y)=false):O.blt (key z) (key x)=false:=KeyOrd.kle_trans (O:=O) (a:=key x) (b:=key y) (c:=key z) h1 h2
theorem Gq {x y:Keyed}(h:O.blt (key x) (key y)=true):O.blt (key y) (key x)=false:=KeyOrd.klt_asymm (O:=O) (a:=key x) (b:=key y) h
theorem Iq:∀(xs ys:List Keyed),OS key xs->OS key ys->OS key (Cd key xs ys)
 |[],ys,_,h=>by rw[CB];exact h
 |x::xs,[],h,_=>by rw[Bz];exact h
 |x::xs,y::ys,h1,h2=>by
  have k1:=List.pairwise_cons.mp h1
  have k2:=List.pairwise_cons.mp h2
  rw[BX]
  split
  ·rename_i e
   refine List.pairwise_cons.mpr ⟨λz hz=>?_,Iq (x::xs) ys h1 k2.2⟩
   rcases List.mem_append.mp ((De _ _).mem_iff.mp hz)with hz|hz
   ·rcases List.mem_cons.mp hz with rfl|hz
    ·exact Gq e
    ·exact B5 (Gq e) (k1.1 z hz)
   ·exact k2.1 z hz
  ·rename_i e
   have e':O.blt (key y) (key x)=false:=by simpa using e
   refine List.pairwise_cons.mpr ⟨λz hz=>?_,Iq xs (y::ys) k1.2 h2⟩
   rcases List.mem_append.mp ((De _ _).mem_iff.mp hz)with hz|hz
   ·exact k1.1 z hz
   ·rcases List.mem_cons.mp hz with rfl|hz
    ·exact e'
    ·exact B5 e' (k2.1 z hz)
termination_by xs ys=>xs.length+ys.length
end
end Tim
namespace Tim
open PySem PyProof.Rows
section
variable {prog:Program}{w:World}{A:Around}{E:Value->Shared->Prop}{s:Shared}{a₀:Array Keyed}{κ:SortKind}{O:KeyOrd}{key:Keyed->O.α}
structure Fp (key:Keyed->O.α)(a₀ a b:Array Keyed):Prop where
 ma:∀x∈a,x∈a₀
 mb:∀x∈b,x∈a₀
 na:1<=a.size
 nb:1<=b.size
 sa:OS key a.toList
 sb:OS key b.toList
 fst:∀x∈a,∀y,b[0]?=some y->O.blt (key y) (key x)=true
 lst:∀y∈b,∀x,a[a.size - 1]?=some x->O.blt (key y) (key x)=true
theorem CC {a:Array Keyed}{p:Nat}{x:Keyed}(e:a[p]?=some x):a.toList.drop p=x::a.toList.drop (p+1):=by
 obtain⟨h,rfl⟩:=Array.getElem?_eq_some_iff.mp e
 rw[List.drop_eq_getElem_cons (by simpa using h)]
 simp
theorem D6 (a:Array Keyed)(p:Nat):(a.extract p a.size).toList=a.toList.drop p:=by
 rw[Array.toList_extract,List.extract_eq_drop_take]
 exact List.take_of_length_le (by simp)
theorem L3 (a:Array Keyed)(p k:Nat):(a.extract p (p+k)).toList=(a.toList.drop p).take k:=by
 rw[Array.toList_extract,List.extract_eq_drop_take,Nat.add_sub_cancel_left]
theorem mem_mid {a:Array Keyed}{p k:Nat}{z:Keyed}(hz:z∈(a.toList.drop p).take k):∃i,i < k/\a[p+i]?=some z:=by
 obtain⟨i,hi,rfl⟩:=List.getElem_of_mem hz
 have hi':i < min k (a.size - p):=by simpa using hi
 refine⟨i,by omega,?_⟩
 rw[List.getElem_take,List.getElem_drop,Array.getElem_toList,Array.getElem?_eq_getElem]
theorem BV {a:Array Keyed}{i:Nat}{x:Keyed}(e:a[i]?=some x):x∈a:=Array.mem_of_getElem? e
theorem Ae {a:Array Keyed}{i:Nat}(h:i < a.size):∃x,a[i]?=some x:=⟨_,Array.getElem?_eq_getElem h⟩
def EW (key:Keyed->O.α)(a b o:Array Keyed)(p q:Nat):Prop:=o.toList++Cd key (a.toList.drop p) (b.toList.drop q)=Cd key a.toList b.toList
section
variable {a b o:Array Keyed}{p q k:Nat}{x y:Keyed}
theorem RM (I:EW key a b o p q)(ex:a[p]?=some x)(ey:b[q]?=some y)(h:O.blt (key y) (key x)=true):EW key a b (o.push y) p (q+1):=by
 unfold EW at I ⊢
 rw[CC ex,CC ey,BX,if_pos h]at I
 rw[CC ex,Array.toList_push,List.append_assoc]
 exact I
theorem So (I:EW key a b o p q)(ex:a[p]?=some x)(ey:b[q]?=some y)(h:O.blt (key y) (key x)=false):EW key a b (o.push x) (p+1) q:=by
 unfold EW at I ⊢
 rw[CC ex,CC ey,BX,if_neg (by rw[h];simp)]at I
 rw[CC ey,Array.toList_push,List.append_assoc]
 exact I
theorem Sq (I:EW key a b o p q)(ey:b[q]?=some y)(h:∀i x,i < k->a[p+i]?=some x->O.blt (key y) (key x)=false):EW key a b (o++a.extract p (p+k)) (p+k) q:=by
 unfold EW at I ⊢
 rw[CC ey]at I ⊢
 rw[Array.toList_append,L3,List.append_assoc,<-I]
 conv=>rhs;rw[<-List.take_append_drop k (a.toList.drop p)]
 rw[FY y _ _ _ λz hz=>by obtain⟨i,hi,e⟩:=mem_mid hz;exact h i z hi e,List.drop_drop]
theorem Sr (I:EW key a b o p q)(ex:a[p]?=some x)(h:∀i y,i < k->b[q+i]?=some y->O.blt (key y) (key x)=true):EW key a b (o++b.extract q (q+k)) p (q+k):=by
 unfold EW at I ⊢
 rw[CC ex]at I ⊢
 rw[Array.toList_append,L3,List.append_assoc,<-I]
 conv=>rhs;rw[<-List.take_append_drop k (b.toList.drop q)]
 rw[EV x _ _ _ λz hz=>by obtain⟨i,hi,e⟩:=mem_mid hz;exact h i z hi e,List.drop_drop]
theorem Ir (I:EW key a b o p q)(h:q=b.size):(o++a.extract p a.size++b.extract q b.size).toList=Cd key a.toList b.toList:=by
 unfold EW at I
 rw[Array.toList_append,Array.toList_append,D6,D6,<-I,List.drop_of_length_le (l:=b.toList) (by simp[h]),Bz,List.append_nil]
theorem RN (I:EW key a b o p q)(h:p=a.size):(o++a.extract p a.size++b.extract q b.size).toList=Cd key a.toList b.toList:=by
 unfold EW at I
 rw[Array.toList_append,Array.toList_append,D6,D6,<-I,List.drop_of_length_le (l:=a.toList) (by simp[h]),CB,List.append_nil]
theorem L4 (T:Fp key a₀ a b)(I:EW key a b o p q)(h:p+1=a.size):(o++b.extract q b.size++a.extract p a.size).toList=Cd key a.toList b.toList:=by
 obtain⟨x,ex⟩:=Ae (a:=a) (i:=p) (by omega)
 unfold EW at I
 rw[CC ex,List.drop_of_length_le (l:=a.toList) (i:=p+1) (by simp[h]),Lz x _ λy hy=>T.lst y (Array.mem_toList_iff.mp (List.mem_of_mem_drop hy)) x (by rw[<-ex];congr 1;omega)]at I
 rw[Array.toList_append,Array.toList_append,D6,D6,<-I,CC ex,List.drop_of_length_le (l:=a.toList) (i:=p+1) (by simp[h]),List.append_assoc]
end
abbrev RO:=Option (Array Keyed)×Array Keyed×Nat×Nat×Nat×Nat×Nat
def TL (a b o:Array Keyed)(p q g c d:Nat):SM (ForInStep RO):=do
 let x<-elem' a p
 if p+1+1==a.size then return .done (some (o.push x++b.extract q b.size++a.extract (p+1) a.size),o.push x,p+1,q,g,c,d)
 else if c < 7&&d < 7 then return .done (none,o.push x,p+1,q,g,c,d)
 else return .yield (none,o.push x,p+1,q,g,c,d)
def TM (a b o:Array Keyed)(p q g c d:Nat):SM (ForInStep RO):=do
 let y<-elem' b q
 if q+1==b.size then return .done (some (o.push y++a.extract p a.size++b.extract (q+1) b.size),o.push y,p,q+1,g,c,d)
 else
  let x<-elem' a p
  let some k<-Nk true x b (q+1) (b.size - (q+1)) 0|return .done (some (o.push y++a.extract p a.size++b.extract (q+1) b.size),o.push y,p,q+1,g,c,d)
  if k > 0 then
   if q+1+k==b.size then return .done (some (o.push y++b.extract (q+1) (q+1+k)++a.extract p a.size++b.extract (q+1+k) b.size),o.push y++b.extract (q+1) (q+1+k),p,q+1+k,g,c,k)
   else TL a b (o.push y++b.extract (q+1) (q+1+k)) p (q+1+k) g c k
  else TL a b (o.push y) p (q+1) g c k
def TN (a b o:Array Keyed)(p q g c d:Nat):SM (ForInStep RO):=do
 NA g
 let y<-elem' b q
 let some k<-Nk false y a p (a.size - p) 0|return .done (some (o++a.extract p a.size++b.extract q b.size),o,p,q,g,c,d)
 if k > 0 then
  if p+k+1==a.size then return .done (some (o++a.extract p (p+k)++b.extract q b.size++a.extract (p+k) a.size),o++a.extract p (p+k),p+k,q,g,k,d)
  else if p+k==a.size then return .done (some (o++a.extract p (p+k)++a.extract (p+k) a.size++b.extract q b.size),o++a.extract p (p+k),p+k,q,g,k,d)
  else TM a b (o++a.extract p (p+k)) (p+k) q g k d
 else TM a b o p q g k d
def UQ (a b:Array Keyed)(c:RO):SM (ForInStep RO):=
 if c.2.2.2.2.1 > 1 then TN a b c.2.1 c.2.2.1 c.2.2.2.1 (c.2.2.2.2.1 - 1) c.2.2.2.2.2.1 c.2.2.2.2.2.2
 else TN a b c.2.1 c.2.2.1 c.2.2.2.1 c.2.2.2.2.1 c.2.2.2.2.2.1 c.2.2.2.2.2.2
structure Iu (key:Keyed->O.α)(a b:Array Keyed)(st:SortSt)(m:Nat)(R:ForInStep RO->SortSt->Prop):Prop where
 fin:∀(out:Array Keyed) c g,out.toList=Cd key a.toList b.toList->R (.done (some out,c)) (setG st g)
 brk:∀o p q g c d g',EW key a b o p q->p+1 < a.size->q < b.size->m<=p+q->R (.done (none,o,p,q,g,c,d)) (setG st g')
 yld:∀o p q g c d g',EW key a b o p q->p+1 < a.size->q < b.size->m<=p+q->R (.yield (none,o,p,q,g,c,d)) (setG st g')
section
variable {a b o:Array Keyed}{p q k g c d m g':Nat}{x y:Keyed}{st:SortSt}{R:ForInStep RO->SortSt->Prop}
theorem OT (T:Fp key a₀ a b)(G:Iu key a b st m R)(I:EW key a b o p q)(hp:p+1 < a.size)(hq:q < b.size)(hm:m<=p+1+q)(h:∀x y,a[p]?=some x->b[q]?=some y->O.blt (key y) (key x)=false):
 wpS (model prog w) A E s (TL a b o p q g c d) R (setG st g'):=by
 obtain⟨x,ex⟩:=Ae (a:=a) (i:=p) (by omega)
 obtain⟨y,ey⟩:=Ae hq
 unfold TL
 refine wpS_bind (Am ex ?_)
 have I':=So I ex ey (h x y ex ey)
 by_cases e:p+1+1=a.size
 ·rw[if_pos (by simpa using e)]
  exact wpS_pure (G.fin _ _ _ (L4 T I' e))
 ·rw[if_neg (by simpa using e)]
  split
  ·exact wpS_pure (G.brk _ _ _ _ _ _ _ I' (by omega) hq hm)
  ·exact wpS_pure (G.yld _ _ _ _ _ _ _ I' (by omega) hq hm)
theorem OU (C:JR prog w A E s a₀ κ O key)(T:Fp key a₀ a b)(hk:kindOf st=κ)(G:Iu key a b st m R)(I:EW key a b o p q)(hp:p+1 < a.size)(hq:q < b.size)(hm:m<=p+1+(q+1))(h:∀x y,a[p]?=some x->b[q]?=some y->O.blt (key y) (key x)=true):
 wpS (model prog w) A E s (TM a b o p q g c d) R (setG st g'):=by
 obtain⟨x,ex⟩:=Ae (a:=a) (i:=p) (by omega)
 obtain⟨y,ey⟩:=Ae hq
 unfold TM
 refine wpS_bind (Am ey ?_)
 have I':=RM I ex ey (h x y ex ey)
 by_cases e:q+1=b.size
 ·rw[if_pos (by simpa using e)]
  exact wpS_pure (G.fin _ _ _ (Ir I' e))
 ·rw[if_neg (by simpa using e)]
  refine wpS_bind (Am ex ?_)
  refine wpS_bind (FX C (λi=>match b[q+1+i]? with|some y=>O.blt (key y) (key x)|none=>false) (T.ma x (BV ex)) hk (λi hi=>?_) (λi j hij hj=>?_) (by omega) λk hk' ht hf=>?_)
  ·obtain⟨z,ez⟩:=Ae (a:=b) (i:=q+1+i) (by omega)
   refine⟨z,ez,T.mb z (BV ez),?_⟩
   rw[ez];rfl
  ·obtain⟨z,ez⟩:=Ae (a:=b) (i:=q+1+i) (by omega)
   obtain⟨v,ev⟩:=Ae (a:=b) (i:=q+1+j) (by omega)
   rw[ez,ev]
   dsimp only
   intro hv
   rcases Nat.lt_or_ge i j with l|l
   ·have:=List.pairwise_iff_getElem.mp T.sb (q+1+i) (q+1+j) (by simp;omega) (by simp;omega) (by omega)
    rw[Array.getElem_toList,Array.getElem_toList,(Array.getElem?_eq_some_iff.mp ez).2,(Array.getElem?_eq_some_iff.mp ev).2]at this
    exact KeyOrd.klt_of_kle_of_klt (O:=O) (a:=key z) (b:=key v) (c:=key x) this hv
   ·have:i=j:=by omega
    subst this
    rw[ez]at ev;cases ev;exact hv
  ·have fs:∀i y,i < k->b[q+1+i]?=some y->O.blt (key y) (key x)=true:=λi y hi e=>by
    have:=ht i hi
    rw[e]at this
    exact this
   have nx:q+1+k < b.size->∀x' y',a[p]?=some x'->b[q+1+k]?=some y'->O.blt (key y') (key x')=false:=λhlt x' y' e1 e2=>by
    have:=hf k (Nat.le_refl _) (by omega)
    rw[e2]at this
    rw[ex]at e1;cases e1
    exact this
   dsimp only
   by_cases k0:k > 0
   ·rw[if_pos k0]
    have I2:=Sr I' ex fs
    by_cases e2:q+1+k=b.size
    ·rw[if_pos (by simpa using e2)]
     exact wpS_pure (G.fin _ _ _ (Ir I2 e2))
    ·rw[if_neg (by simpa using e2)]
     exact OT T G I2 hp (by omega) (by omega) (nx (by omega))
   ·rw[if_neg k0]
    have:k=0:=by omega
    subst this
    exact OT T G I' hp (by omega) (by omega) (nx (by omega))
theorem OV (C:JR prog w A E s a₀ κ O key)(T:Fp key a₀ a b)(hk:kindOf st=κ)(G:Iu key a b st m R)(I:EW key a b o p q)(hp:p+1 < a.size)(hq:q < b.size)(hm:m<=p+1+(q+1)):
 wpS (model prog w) A E s (TN a b o p q g c d) R (setG st g'):=by
 obtain⟨y,ey⟩:=Ae hq
 unfold TN
 refine wpS_bind (wpS_modify ?_)
 refine wpS_bind (Am ey ?_)
 refine wpS_bind (FX C (λi=>match a[p+i]? with|some x=>!O.blt (key y) (key x)|none=>false) (T.mb y (BV ey)) hk (λi hi=>?_) (λi j hij hj=>?_) (by omega) λk hk' ht hf=>?_)
 ·obtain⟨z,ez⟩:=Ae (a:=a) (i:=p+i) (by omega)
  refine⟨z,ez,T.ma z (BV ez),?_⟩
  rw[ez];rfl
 ·obtain⟨z,ez⟩:=Ae (a:=a) (i:=p+i) (by omega)
  obtain⟨v,ev⟩:=Ae (a:=a) (i:=p+j) (by omega)
  rw[ez,ev]
  dsimp only
  intro hv
  have hv:O.blt (key y) (key v)=false:=by simpa using hv
  rcases Nat.lt_or_ge i j with l|l
  ·have:=List.pairwise_iff_getElem.mp T.sa (p+i) (p+j) (by simp;omega) (by simp;omega) (by omega)
   rw[Array.getElem_toList,Array.getElem_toList,(Array.getElem?_eq_some_iff.mp ez).2,(Array.getElem?_eq_some_iff.mp ev).2]at this
   rw[B5 this hv];rfl
  ·have:i=j:=by omega
   subst this
   rw[ez]at ev;cases ev;rw[hv];rfl
 ·have fs:∀i x,i < k->a[p+i]?=some x->O.blt (key y) (key x)=false:=λi x hi e=>by
   have:=ht i hi
   rw[e]at this
   simpa using this
  have nx:p+k < a.size->∀x' y',a[p+k]?=some x'->b[q]?=some y'->O.blt (key y') (key x')=true:=λhlt x' y' e1 e2=>by
   have:=hf k (Nat.le_refl _) (by omega)
   rw[e1]at this
   rw[ey]at e2;cases e2
   simpa using this
  dsimp only
  by_cases k0:k > 0
  ·rw[if_pos k0]
   have I2:=Sq I ey fs
   by_cases e1:p+k+1=a.size
   ·rw[if_pos (by simpa using e1)]
    exact wpS_pure (G.fin _ _ _ (L4 T I2 e1))
   ·rw[if_neg (by simpa using e1)]
    by_cases e2:p+k=a.size
    ·rw[if_pos (by simpa using e2)]
     exact wpS_pure (G.fin _ _ _ (RN I2 e2))
    ·rw[if_neg (by simpa using e2)]
     exact OU (st:=st) C T hk G I2 (by omega) hq (by omega) (nx (by omega))
  ·rw[if_neg k0]
   have:k=0:=by omega
   subst this
   exact OU (st:=st) C T hk G I hp hq hm (nx (by omega))
theorem RP (C:JR prog w A E s a₀ κ O key)(T:Fp key a₀ a b)(hk:kindOf st=κ)(G:Iu key a b st m R)(I:EW key a b o p q)(hp:p+1 < a.size)(hq:q < b.size)(hm:m<=p+1+(q+1)):
 wpS (model prog w) A E s (UQ a b (none,o,p,q,g,c,d)) R (setG st g'):=by
 unfold UQ
 split
 ·exact OV C T hk G I hp hq hm
 ·exact OV C T hk G I hp hq hm
end
theorem RQ (C:JR prog w A E s a₀ κ O key){a b:Array Keyed}(T:Fp key a₀ a b){st:SortSt}(hk:kindOf st=κ){Q:Array Keyed->SortSt->Prop}(h:∀(o:Array Keyed) (g:Nat),o.toList=Cd key a.toList b.toList->Q o (setG st g)):
 wpS (model prog w) A E s (UB a b) Q st:=by
 have na:=T.na
 have nb:=T.nb
 obtain⟨y0,ey⟩:=Ae (a:=b) (i:=0) (by omega)
 obtain⟨x0,ex⟩:=Ae (a:=a) (i:=0) (by omega)
 rw[RH]
 refine wpS_bind (wpS_lift (wpAny_rule ⟨rfl,?_⟩))
 dsimp only
 refine wpS_bind (Am ey ?_)
 have I0:EW key a b #[y0] 0 1:=RM (o:=#[]) (by unfold EW;rfl) ex ey (T.fst x0 (BV ex) y0 ey)
 have e0:st=setG st (gallopOf st):=rfl
 by_cases e1:1=b.size
 ·rw[if_pos (by simpa using e1)]
  exact wpS_pure (h _ (gallopOf st) (Ir I0 e1))
 rw[if_neg (by simpa using e1)]
 by_cases e2:0+1=a.size
 ·rw[if_pos (by simpa using e2)]
  exact wpS_pure (h _ (gallopOf st) (L4 T I0 e2))
 rw[if_neg (by simpa using e2)]
 refine wpS_bind (wpS_get ?_)
 refine wpS_bind (wpS_mono (wpS_forRange (I:=λt c st'=>∃o p q g g',c=(none,o,p,q,g)/\st'=setG st g'/\EW key a b o p q/\p+1 < a.size/\q < b.size/\t+1<=p+q)
  (Q:=λc st'=>∃out c' g',c=(some out,c')/\st'=setG st g'/\out.toList=Cd key a.toList b.toList) ?step ?fin ⟨_,_,_,_,_,rfl,e0,I0,by omega,by omega,by omega⟩) ?post)
 case post=>
  rintro c st' ⟨out,c',g',rfl,rfl,e⟩
  exact wpS_pure (h _ _ e)
 case fin=>
  rintro c st' ⟨o,p,q,g,g',rfl,rfl,I,a1,a2,a3⟩
  omega
 case step=>
  rintro t c st' _ ht ⟨o,p,q,g,g',rfl,rfl,I,a1,a2,a3⟩
  dsimp only
  refine wpS_bind (wpS_mono (wpS_forRange (I:=λt' c st'=>∃o' p' q' c' d',c=(none,o',p',q',c',d')/\st'=setG st g'/\EW key a b o' p' q'/\p'+1 < a.size/\q' < b.size/\p+q+t'<=p'+q')
   (Q:=λc st'=>st'=setG st g'/\((∃out c',c=(some out,c')/\out.toList=Cd key a.toList b.toList)\/∃o' p' q' c' d',c=(none,o',p',q',c',d')/\EW key a b o' p' q'/\p'+1 < a.size/\q' < b.size/\p+q+1<=p'+q')) ?s1 ?f1 ⟨_,_,_,_,_,rfl,rfl,I,a1,a2,by omega⟩) ?p1)
  case f1=>
   rintro c st' ⟨o',p',q',c',d',rfl,rfl,I',b1,b2,b3⟩
   omega
  case s1=>
   rintro t' c st' _ ht' ⟨o',p',q',c',d',rfl,rfl,I',b1,b2,b3⟩
   dsimp only
   obtain⟨x,ex'⟩:=Ae (a:=a) (i:=p') (by omega)
   obtain⟨y,ey'⟩:=Ae b2
   refine wpS_bind (Am ey' (wpS_bind (Am ex' (wpS_bind (C y x _ _ (T.mb y (BV ey')) (T.ma x (BV ex')) hk ?_)))))
   dsimp only
   cases e:O.blt (key y) (key x)with
   |true=>
    rw[if_pos rfl]
    refine wpS_bind (Am ey' ?_)
    have I2:=RM I' ex' ey' e
    by_cases f1:q'+1=b.size
    ·rw[if_pos (by simpa using f1)]
     exact wpS_pure ⟨rfl,.inl ⟨_,_,rfl,Ir I2 f1⟩⟩
    ·rw[if_neg (by simpa using f1)]
     split
     ·exact wpS_pure ⟨rfl,.inr ⟨_,_,_,_,_,rfl,I2,b1,by omega,by omega⟩⟩
     ·exact wpS_pure ⟨_,_,_,_,_,rfl,rfl,I2,b1,by omega,by omega⟩
   |false=>
    rw[if_neg (by simp)]
    refine wpS_bind (Am ex' ?_)
    have I2:=So I' ex' ey' e
    by_cases f1:p'+1+1=a.size
    ·rw[if_pos (by simpa using f1)]
     exact wpS_pure ⟨rfl,.inl ⟨_,_,rfl,L4 T I2 f1⟩⟩
    ·rw[if_neg (by simpa using f1)]
     split
     ·exact wpS_pure ⟨rfl,.inr ⟨_,_,_,_,_,rfl,I2,by omega,b2,by omega⟩⟩
     ·exact wpS_pure ⟨_,_,_,_,_,rfl,rfl,I2,by omega,b2,by omega⟩
  case p1=>
   rintro c st' ⟨rfl,⟨out,c',rfl,e⟩|⟨o',p',q',c',d',rfl,I',b1,b2,b3⟩⟩
   ·exact wpS_pure ⟨_,_,_,rfl,rfl,e⟩
   ·dsimp only
    refine wpS_bind (wpS_lift (wpAny_rule ⟨rfl,?_⟩))
    refine wpS_bind (wpS_mono (wpS_forRange (I:=λt' c st'=>∃o' p' q' g c' d' g',c=(none,o',p',q',g,c',d')/\st'=setG st g'/\EW key a b o' p' q'/\p'+1 < a.size/\q' < b.size/\p+q+1+t'<=p'+q')
     (Q:=λc st'=>(∃out c' g',c=(some out,c')/\st'=setG st g'/\out.toList=Cd key a.toList b.toList)\/∃o' p' q' g c' d' g',c=(none,o',p',q',g,c',d')/\st'=setG st g'/\EW key a b o' p' q'/\p'+1 < a.size/\q' < b.size/\p+q+1<=p'+q') ?s2 ?f2 ⟨_,_,_,_,_,_,_,rfl,rfl,I',b1,b2,by omega⟩) ?p2)
    case f2=>
     rintro c st' ⟨o',p',q',g,c',d',g',rfl,rfl,I',b1,b2,b3⟩
     omega
    case s2=>
     rintro t' c st' _ ht' ⟨o',p',q',g,c',d',g',rfl,rfl,I',b1,b2,b3⟩
     exact RP (m:=p'+q'+2) C T hk ⟨λout c g e=>.inl ⟨_,_,_,rfl,rfl,e⟩,λo p q g c d g' I h1 h2 h3=>.inr ⟨_,_,_,_,_,_,_,rfl,rfl,I,h1,h2,by omega⟩,λo p q g c d g' I h1 h2 h3=>⟨_,_,_,_,_,_,_,rfl,rfl,I,h1,h2,by omega⟩⟩ I' b1 b2 (by omega)
    case p2=>
     rintro c st' (⟨out,c',g',rfl,rfl,e⟩|⟨o',p',q',g,c',d',g',rfl,rfl,I',b1,b2,b3⟩)
     ·exact wpS_pure ⟨_,_,_,rfl,rfl,e⟩
     ·exact wpS_bind (wpS_modify (wpS_pure ⟨o',p',q',_,_,rfl,rfl,I',b1,b2,by omega⟩))
end
end Tim
namespace Tim
open PySem PyProof.Rows
section
variable {prog:Program}{w:World}{A:Around}{E:Value->Shared->Prop}{s:Shared}{a₀:Array Keyed}{κ:SortKind}{O:KeyOrd}{key:Keyed->O.α}
theorem EX (a:Array Keyed)(p:Nat):(a.extract 0 p).toList=a.toList.take p:=by
 rw[Array.toList_extract,List.extract_eq_drop_take,List.drop_zero,Nat.sub_zero]
theorem Iv {a:Array Keyed}{p:Nat}{x:Keyed}(e:a[p]?=some x):a.toList.take (p+1)=a.toList.take p++[x]:=by
 obtain⟨h,rfl⟩:=Array.getElem?_eq_some_iff.mp e
 rw[List.take_succ_eq_append_getElem (by simpa using h)]
 simp
theorem Dg (a:Array Keyed){f p:Nat}(h:f<=p):a.toList.take p=a.toList.take f++(a.extract f p).toList:=by
 rw[Array.toList_extract,List.extract_eq_drop_take]
 have e:p=f+(p - f):=by omega
 conv=>lhs;rw[e]
 rw[List.take_add]
theorem Gr {a:Array Keyed}{p:Nat}{z:Keyed}(hz:z∈a.toList.take p):∃i,i < p/\a[i]?=some z:=by
 obtain⟨i,hi,rfl⟩:=List.getElem_of_mem hz
 have hi':i < min p a.size:=by simpa using hi
 refine⟨i,by omega,?_⟩
 rw[List.getElem_take,Array.getElem_toList,Array.getElem?_eq_getElem]
theorem Cj {a:Array Keyed}{f p:Nat}{z:Keyed}(hz:z∈(a.extract f p).toList):∃i,f<=i/\i < p/\a[i]?=some z:=by
 rw[Array.toList_extract,List.extract_eq_drop_take]at hz
 obtain⟨i,hi,e⟩:=mem_mid hz
 exact⟨f+i,by omega,by omega,e⟩
theorem FZ {a:Array Keyed}(h:OS key a.toList){i j:Nat}{x y:Keyed}(ex:a[i]?=some x)(ey:a[j]?=some y)(hij:i<=j):O.blt (key y) (key x)=false:=by
 obtain⟨h1,rfl⟩:=Array.getElem?_eq_some_iff.mp ex
 obtain⟨h2,rfl⟩:=Array.getElem?_eq_some_iff.mp ey
 rcases Nat.lt_or_ge i j with l|l
 ·have:=List.pairwise_iff_getElem.mp h i j (by simpa using h1) (by simpa using h2) l
  simpa using this
 ·have:i=j:=by omega
  subst this
  exact O.irrefl _
def EY (key:Keyed->O.α)(a b o:Array Keyed)(p q:Nat):Prop:=Cd key (a.toList.take p) (b.toList.take q)++o.toList.reverse=Cd key a.toList b.toList
section
variable {a b o:Array Keyed}{p q f:Nat}{x y:Keyed}
theorem RS (I:EY key a b o (p+1) q)(ex:a[p]?=some x)(h:∀i z,i < q->b[i]?=some z->O.blt (key z) (key x)=true):EY key a b (o.push x) p q:=by
 unfold EY at I ⊢
 rw[Iv ex,D4 x _ _ λz hz=>by obtain⟨i,hi,e⟩:=Gr hz;exact h i z hi e,List.append_assoc]at I
 rw[Array.toList_push,List.reverse_append]
 exact I
theorem Ss (I:EY key a b o p (q+1))(ey:b[q]?=some y)(h:∀i z,i < p->a[i]?=some z->O.blt (key y) (key z)=false):EY key a b (o.push y) p q:=by
 unfold EY at I ⊢
 rw[Iv ey,D5 y _ _ λz hz=>by obtain⟨i,hi,e⟩:=Gr hz;exact h i z hi e,List.append_assoc]at I
 rw[Array.toList_push,List.reverse_append]
 exact I
theorem Su (I:EY key a b o p q)(hf:f<=p)(h:∀i u j z,f<=i->i < p->a[i]?=some u->j < q->b[j]?=some z->O.blt (key z) (key u)=true):EY key a b (o++(a.extract f p).reverse) f q:=by
 unfold EY at I ⊢
 rw[Dg a hf,Gn _ _ _ λu hu z hz=>by
  obtain⟨i,h1,h2,e⟩:=Cj hu
  obtain⟨j,hj,e'⟩:=Gr hz
  exact h i u j z h1 h2 e hj e',List.append_assoc]at I
 rw[Array.toList_append,List.reverse_append,Array.toList_reverse,List.reverse_reverse]
 exact I
theorem Sv (I:EY key a b o p q)(hf:f<=q)(h:∀i u j z,f<=i->i < q->b[i]?=some u->j < p->a[j]?=some z->O.blt (key u) (key z)=false):EY key a b (o++(b.extract f q).reverse) p f:=by
 unfold EY at I ⊢
 rw[Dg b hf,Gp _ _ _ λu hu z hz=>by
  obtain⟨i,h1,h2,e⟩:=Cj hu
  obtain⟨j,hj,e'⟩:=Gr hz
  exact h i u j z h1 h2 e hj e',List.append_assoc]at I
 rw[Array.toList_append,List.reverse_append,Array.toList_reverse,List.reverse_reverse]
 exact I
theorem Iy (I:EY key a b o p q)(h:p=0):(a.extract 0 p++b.extract 0 q++o.reverse).toList=Cd key a.toList b.toList:=by
 subst h
 unfold EY at I
 rw[Array.toList_append,Array.toList_append,EX,EX,<-I,List.take_zero,CB,Array.toList_reverse,List.nil_append]
theorem RT (I:EY key a b o p q)(h:q=0):(a.extract 0 p++b.extract 0 q++o.reverse).toList=Cd key a.toList b.toList:=by
 subst h
 unfold EY at I
 rw[Array.toList_append,Array.toList_append,EX,EX,<-I,List.take_zero,Bz,Array.toList_reverse,List.append_nil]
theorem L5 (T:Fp key a₀ a b)(I:EY key a b o p q)(h:q=1):(b.extract 0 q++a.extract 0 p++o.reverse).toList=Cd key a.toList b.toList:=by
 subst h
 obtain⟨y,ey⟩:=Ae (a:=b) (i:=0) T.nb
 have e:b.toList.take 1=[y]:=Iv ey
 unfold EY at I
 rw[e,NB y _ λz hz=>by obtain⟨i,hi,e'⟩:=Gr hz;exact T.fst z (BV e') y ey]at I
 rw[Array.toList_append,Array.toList_append,EX,EX,<-I,e,Array.toList_reverse]
 rfl
end
abbrev RU:=Option (Array Keyed)×Nat×Nat×Array Keyed×Nat×Nat×Nat
def TQ (a b o:Array Keyed)(p q g c d:Nat):SM (ForInStep RU):=do
 let x<-elem' a (p - 1)
 if p - 1==0 then return .done (some (a.extract 0 (p - 1)++b.extract 0 q++(o.push x).reverse),p - 1,q,o.push x,g,c,d)
 else if c < 7&&d < 7 then return .done (none,p - 1,q,o.push x,g,c,d)
 else return .yield (none,p - 1,q,o.push x,g,c,d)
def TR (a b o:Array Keyed)(p q g c d:Nat):SM (ForInStep RU):=do
 let y<-elem' b (q - 1)
 if q - 1==1 then return .done (some (b.extract 0 (q - 1)++a.extract 0 p++(o.push y).reverse),p,q - 1,o.push y,g,c,d)
 else
  let x<-elem' a (p - 1)
  let some f<-Nk true x b 0 (q - 1) (q - 1 - 1)|return .done (some (a.extract 0 p++b.extract 0 (q - 1)++(o.push y).reverse),p,q - 1,o.push y,g,c,d)
  if q - 1 - f > 0 then
   if f==1 then return .done (some (b.extract 0 f++a.extract 0 p++(o.push y++(b.extract f (q - 1)).reverse).reverse),p,f,o.push y++(b.extract f (q - 1)).reverse,g,c,q - 1 - f)
   else if f==0 then return .done (some (a.extract 0 p++b.extract 0 f++(o.push y++(b.extract f (q - 1)).reverse).reverse),p,f,o.push y++(b.extract f (q - 1)).reverse,g,c,q - 1 - f)
   else TQ a b (o.push y++(b.extract f (q - 1)).reverse) p f g c (q - 1 - f)
  else TQ a b (o.push y) p (q - 1) g c (q - 1 - f)
def TU (a b o:Array Keyed)(p q g c d:Nat):SM (ForInStep RU):=do
 NA g
 let y<-elem' b (q - 1)
 let some f<-Nk false y a 0 p (p - 1)|return .done (some (a.extract 0 p++b.extract 0 q++o.reverse),p,q,o,g,c,d)
 if p - f > 0 then
  if f==0 then return .done (some (a.extract 0 f++b.extract 0 q++(o++(a.extract f p).reverse).reverse),f,q,o++(a.extract f p).reverse,g,p - f,d)
  else TR a b (o++(a.extract f p).reverse) f q g (p - f) d
 else TR a b o p q g (p - f) d
def UR (a b:Array Keyed)(c:RU):SM (ForInStep RU):=
 if c.2.2.2.2.1 > 1 then TU a b c.2.2.2.1 c.2.1 c.2.2.1 (c.2.2.2.2.1 - 1) c.2.2.2.2.2.1 c.2.2.2.2.2.2
 else TU a b c.2.2.2.1 c.2.1 c.2.2.1 c.2.2.2.2.1 c.2.2.2.2.2.1 c.2.2.2.2.2.2
structure Iz (key:Keyed->O.α)(a b:Array Keyed)(st:SortSt)(m:Nat)(R:ForInStep RU->SortSt->Prop):Prop where
 fin:∀(out:Array Keyed) c g,out.toList=Cd key a.toList b.toList->R (.done (some out,c)) (setG st g)
 brk:∀o p q g c d g',EY key a b o p q->0 < p->p<=a.size->1 < q->q<=b.size->p+q<=m->R (.done (none,p,q,o,g,c,d)) (setG st g')
 yld:∀o p q g c d g',EY key a b o p q->0 < p->p<=a.size->1 < q->q<=b.size->p+q<=m->R (.yield (none,p,q,o,g,c,d)) (setG st g')
section
variable {a b o:Array Keyed}{p q k g c d m g':Nat}{x y:Keyed}{st:SortSt}{R:ForInStep RU->SortSt->Prop}
theorem OW (G:Iz key a b st m R)(I:EY key a b o (p+1) q)(hp:p+1<=a.size)(hq:1 < q)(hq':q<=b.size)(hm:p+q<=m)(h:∀x i z,a[p]?=some x->i < q->b[i]?=some z->O.blt (key z) (key x)=true):
 wpS (model prog w) A E s (TQ a b o (p+1) q g c d) R (setG st g'):=by
 obtain⟨x,ex⟩:=Ae (a:=a) (i:=p) (by omega)
 unfold TQ
 rw[Nat.add_sub_cancel]
 refine wpS_bind (Am ex ?_)
 have I':=RS I ex λi z=>h x i z ex
 by_cases e:p=0
 ·rw[if_pos (by simpa using e)]
  exact wpS_pure (G.fin _ _ _ (Iy I' e))
 ·rw[if_neg (by simpa using e)]
  split
  ·exact wpS_pure (G.brk _ _ _ _ _ _ _ I' (by omega) (by omega) hq hq' hm)
  ·exact wpS_pure (G.yld _ _ _ _ _ _ _ I' (by omega) (by omega) hq hq' hm)
theorem OX (C:JR prog w A E s a₀ κ O key)(T:Fp key a₀ a b)(hk:kindOf st=κ)(G:Iz key a b st m R)(I:EY key a b o (p+1) (q+1))(hp:p+1<=a.size)(hq:1 < q+1)(hq':q+1<=b.size)(hm:p+q<=m)
 (h:∀y i z,b[q]?=some y->i < p+1->a[i]?=some z->O.blt (key y) (key z)=false):
 wpS (model prog w) A E s (TR a b o (p+1) (q+1) g c d) R (setG st g'):=by
 obtain⟨x,ex⟩:=Ae (a:=a) (i:=p) (by omega)
 obtain⟨y,ey⟩:=Ae (a:=b) (i:=q) (by omega)
 unfold TR
 rw[Nat.add_sub_cancel,Nat.add_sub_cancel]
 refine wpS_bind (Am ey ?_)
 have I':=Ss I ey λi z=>h y i z ey
 by_cases e:q=1
 ·rw[if_pos (by simpa using e)]
  exact wpS_pure (G.fin _ _ _ (L5 T I' e))
 ·rw[if_neg (by simpa using e)]
  refine wpS_bind (Am ex ?_)
  refine wpS_bind (FX C (λi=>match b[0+i]? with|some y=>O.blt (key y) (key x)|none=>false) (T.ma x (BV ex)) hk (λi hi=>?_) (λi j hij hj=>?_) (by omega) λf hf' ht hf=>?_)
  ·obtain⟨z,ez⟩:=Ae (a:=b) (i:=0+i) (by omega)
   refine⟨z,ez,T.mb z (BV ez),?_⟩
   rw[ez];rfl
  ·obtain⟨z,ez⟩:=Ae (a:=b) (i:=0+i) (by omega)
   obtain⟨v,ev⟩:=Ae (a:=b) (i:=0+j) (by omega)
   rw[ez,ev]
   exact λhv=>KeyOrd.klt_of_kle_of_klt (O:=O) (a:=key z) (b:=key v) (c:=key x) (FZ T.sb ez ev (by omega)) hv
  ·have fs:∀i y,i < f->b[i]?=some y->O.blt (key y) (key x)=true:=λi y hi e=>by
    have:=ht i hi
    rw[Nat.zero_add,e]at this
    exact this
   have nx:∀i u,f<=i->i < q->b[i]?=some u->O.blt (key u) (key x)=false:=λi u h1 h2 e=>by
    have:=hf i h1 h2
    rw[Nat.zero_add,e]at this
    exact this
   have go:∀x' i z,a[p]?=some x'->i < f->b[i]?=some z->O.blt (key z) (key x')=true:=λx' i z e1 hi e=>by
    rw[ex]at e1;cases e1
    exact fs i z hi e
   dsimp only
   by_cases k0:q - f > 0
   ·rw[if_pos k0]
    have I2:=Sv I' hf' λi u j z h1 h2 e1 hj e2=>B5 (FZ T.sa e2 ex (by omega)) (nx i u h1 h2 e1)
    by_cases e1:f=1
    ·rw[if_pos (by simpa using e1)]
     exact wpS_pure (G.fin _ _ _ (L5 T I2 e1))
    ·rw[if_neg (by simpa using e1)]
     by_cases e2:f=0
     ·rw[if_pos (by simpa using e2)]
      exact wpS_pure (G.fin _ _ _ (RT I2 e2))
     ·rw[if_neg (by simpa using e2)]
      exact OW G I2 hp (by omega) (by omega) (by omega) go
   ·rw[if_neg k0]
    have:f=q:=by omega
    subst this
    exact OW G I' hp (by omega) (by omega) (by omega) go
theorem OY (C:JR prog w A E s a₀ κ O key)(T:Fp key a₀ a b)(hk:kindOf st=κ)(G:Iz key a b st m R)(I:EY key a b o p (q+1))(hp:0 < p)(hp':p<=a.size)(hq:1 < q+1)(hq':q+1<=b.size)(hm:p+q<=m+1):
 wpS (model prog w) A E s (TU a b o p (q+1) g c d) R (setG st g'):=by
 obtain⟨y,ey⟩:=Ae (a:=b) (i:=q) (by omega)
 unfold TU
 rw[Nat.add_sub_cancel]
 refine wpS_bind (wpS_modify ?_)
 refine wpS_bind (Am ey ?_)
 refine wpS_bind (FX C (λi=>match a[0+i]? with|some x=>!O.blt (key y) (key x)|none=>false) (T.mb y (BV ey)) hk (λi hi=>?_) (λi j hij hj=>?_) (by omega) λf hf' ht hf=>?_)
 ·obtain⟨z,ez⟩:=Ae (a:=a) (i:=0+i) (by omega)
  refine⟨z,ez,T.ma z (BV ez),?_⟩
  rw[ez];rfl
 ·obtain⟨z,ez⟩:=Ae (a:=a) (i:=0+i) (by omega)
  obtain⟨v,ev⟩:=Ae (a:=a) (i:=0+j) (by omega)
  rw[ez,ev]
  dsimp only
  intro hv
  have hv:O.blt (key y) (key v)=false:=by simpa using hv
  rw[B5 (FZ T.sa ez ev (by omega)) hv];rfl
 ·have fs:∀i x,i < f->a[i]?=some x->O.blt (key y) (key x)=false:=λi x hi e=>by
   have:=ht i hi
   rw[Nat.zero_add,e]at this
   simpa using this
  have nx:∀i u,f<=i->i < p->a[i]?=some u->O.blt (key y) (key u)=true:=λi u h1 h2 e=>by
   have:=hf i h1 h2
   rw[Nat.zero_add,e]at this
   simpa using this
  have go:∀y' i z,b[q]?=some y'->i < f->a[i]?=some z->O.blt (key y') (key z)=false:=λy' i z e1 hi e=>by
   rw[ey]at e1;cases e1
   exact fs i z hi e
  dsimp only
  by_cases k0:p - f > 0
  ·rw[if_pos k0]
   have I2:=Su I hf' λi u j z h1 h2 e1 hj e2=>KeyOrd.klt_of_kle_of_klt (O:=O) (a:=key z) (b:=key y) (c:=key u) (FZ T.sb e2 ey (by omega)) (nx i u h1 h2 e1)
   by_cases e2:f=0
   ·rw[if_pos (by simpa using e2)]
    exact wpS_pure (G.fin _ _ _ (Iy I2 e2))
   ·rw[if_neg (by simpa using e2)]
    obtain⟨f',rfl⟩:∃f',f=f'+1:=⟨f - 1,by omega⟩
    exact OX (st:=st) C T hk G I2 (by omega) hq hq' (by omega) go
  ·rw[if_neg k0]
   have:f=p:=by omega
   subst this
   obtain⟨f',rfl⟩:∃f',f=f'+1:=⟨f - 1,by omega⟩
   exact OX (st:=st) C T hk G I (by omega) hq hq' (by omega) go
theorem RV (C:JR prog w A E s a₀ κ O key)(T:Fp key a₀ a b)(hk:kindOf st=κ)(G:Iz key a b st m R)(I:EY key a b o p q)(hp:0 < p)(hp':p<=a.size)(hq:1 < q)(hq':q<=b.size)(hm:p+q<=m+2):
 wpS (model prog w) A E s (UR a b (none,p,q,o,g,c,d)) R (setG st g'):=by
 obtain⟨q,rfl⟩:∃q',q=q'+1:=⟨q - 1,by omega⟩
 unfold UR
 split
 ·exact OY (p:=p) (q:=q) C T hk G I hp hp' hq hq' (by omega)
 ·exact OY (p:=p) (q:=q) C T hk G I hp hp' hq hq' (by omega)
end
theorem RW (C:JR prog w A E s a₀ κ O key){a b:Array Keyed}(T:Fp key a₀ a b){st:SortSt}(hk:kindOf st=κ){Q:Array Keyed->SortSt->Prop}(h:∀(o:Array Keyed) (g:Nat),o.toList=Cd key a.toList b.toList->Q o (setG st g)):
 wpS (model prog w) A E s (UC a b) Q st:=by
 have na:=T.na
 have nb:=T.nb
 obtain⟨x0,ex⟩:=Ae (a:=a) (i:=a.size - 1) (by omega)
 rw[RJ]
 refine wpS_bind (wpS_lift (wpAny_rule ⟨rfl,?_⟩))
 dsimp only
 refine wpS_bind (Am ex ?_)
 have I0:EY key a b #[x0] (a.size - 1) b.size:=RS (o:=#[]) (by
  unfold EY
  rw[show a.size - 1+1=a.size by omega,List.take_of_length_le (l:=a.toList) (by simp),List.take_of_length_le (l:=b.toList) (by simp)]
  simp) ex λi z hi e=>T.lst z (BV e) x0 ex
 have e0:st=setG st (gallopOf st):=rfl
 by_cases e1:a.size - 1=0
 ·rw[if_pos (by simpa using e1)]
  exact wpS_pure (h _ (gallopOf st) (Iy I0 e1))
 rw[if_neg (by simpa using e1)]
 by_cases e2:b.size=1
 ·rw[if_pos (by simpa using e2)]
  exact wpS_pure (h _ (gallopOf st) (L5 T I0 e2))
 rw[if_neg (by simpa using e2)]
 refine wpS_bind (wpS_get ?_)
 refine wpS_bind (wpS_mono (wpS_forRange (I:=λt c st'=>∃o p q g g',c=(none,p,q,o,g)/\st'=setG st g'/\EY key a b o p q/\0 < p/\p<=a.size/\1 < q/\q<=b.size/\t+1+p+q<=a.size+b.size)
  (Q:=λc st'=>∃out c' g',c=(some out,c')/\st'=setG st g'/\out.toList=Cd key a.toList b.toList) ?step ?fin ⟨_,_,_,_,_,rfl,e0,I0,by omega,by omega,by omega,by omega,by omega⟩) ?post)
 case post=>
  rintro c st' ⟨out,c',g',rfl,rfl,e⟩
  exact wpS_pure (h _ _ e)
 case fin=>
  rintro c st' ⟨o,p,q,g,g',rfl,rfl,I,a1,a2,a3,a4,a5⟩
  omega
 case step=>
  rintro t c st' _ ht ⟨o,p,q,g,g',rfl,rfl,I,a1,a2,a3,a4,a5⟩
  dsimp only
  refine wpS_bind (wpS_mono (wpS_forRange (I:=λt' c st'=>∃o' p' q' c' d',c=(none,p',q',o',c',d')/\st'=setG st g'/\EY key a b o' p' q'/\0 < p'/\p'<=a.size/\1 < q'/\q'<=b.size/\p'+q'+t'<=p+q)
   (Q:=λc st'=>st'=setG st g'/\((∃out c',c=(some out,c')/\out.toList=Cd key a.toList b.toList)\/∃o' p' q' c' d',c=(none,p',q',o',c',d')/\EY key a b o' p' q'/\0 < p'/\p'<=a.size/\1 < q'/\q'<=b.size/\p'+q'+1<=p+q)) ?s1 ?f1 ⟨_,_,_,_,_,rfl,rfl,I,a1,a2,a3,a4,by omega⟩) ?p1)
  case f1=>
   rintro c st' ⟨o',p',q',c',d',rfl,rfl,I',b1,b2,b3,b4,b5⟩
   omega
  case s1=>
   rintro t' c st' _ ht' ⟨o',p',q',c',d',rfl,rfl,I',b1,b2,b3,b4,b5⟩
   obtain⟨p',rfl⟩:∃z,p'=z+1:=⟨p' - 1,by omega⟩
   obtain⟨q',rfl⟩:∃z,q'=z+1:=⟨q' - 1,by omega⟩
   simp only[Nat.add_sub_cancel]
   obtain⟨x,ex'⟩:=Ae (a:=a) (i:=p') (by omega)
   obtain⟨y,ey'⟩:=Ae (a:=b) (i:=q') (by omega)
   refine wpS_bind (Am ey' (wpS_bind (Am ex' (wpS_bind (C y x _ _ (T.mb y (BV ey')) (T.ma x (BV ex')) hk ?_)))))
   dsimp only
   cases e:O.blt (key y) (key x)with
   |true=>
    rw[if_pos rfl]
    refine wpS_bind (Am ex' ?_)
    have I2:=RS I' ex' λi z hi ez=>KeyOrd.klt_of_kle_of_klt (O:=O) (a:=key z) (b:=key y) (c:=key x) (FZ T.sb ez ey' (by omega)) e
    by_cases f1:p'=0
    ·rw[if_pos (by simpa using f1)]
     exact wpS_pure ⟨rfl,.inl ⟨_,_,rfl,Iy I2 f1⟩⟩
    ·rw[if_neg (by simpa using f1)]
     split
     ·exact wpS_pure ⟨rfl,.inr ⟨_,_,_,_,_,rfl,I2,by omega,by omega,by omega,by omega,by omega⟩⟩
     ·exact wpS_pure ⟨_,_,_,_,_,rfl,rfl,I2,by omega,by omega,by omega,by omega,by omega⟩
   |false=>
    rw[if_neg (by simp)]
    refine wpS_bind (Am ey' ?_)
    have I2:=Ss I' ey' λi z hi ez=>B5 (FZ T.sa ez ex' (by omega)) e
    by_cases f1:q'=1
    ·rw[if_pos (by simpa using f1)]
     exact wpS_pure ⟨rfl,.inl ⟨_,_,rfl,L5 T I2 f1⟩⟩
    ·rw[if_neg (by simpa using f1)]
     split
     ·exact wpS_pure ⟨rfl,.inr ⟨_,_,_,_,_,rfl,I2,by omega,by omega,by omega,by omega,by omega⟩⟩
     ·exact wpS_pure ⟨_,_,_,_,_,rfl,rfl,I2,by omega,by omega,by omega,by omega,by omega⟩
  case p1=>
   rintro c st' ⟨rfl,⟨out,c',rfl,e⟩|⟨o',p',q',c',d',rfl,I',b1,b2,b3,b4,b5⟩⟩
   ·exact wpS_pure ⟨_,_,_,rfl,rfl,e⟩
   ·dsimp only
    refine wpS_bind (wpS_lift (wpAny_rule ⟨rfl,?_⟩))
    refine wpS_bind (wpS_mono (wpS_forRange (I:=λt' c st'=>∃o' p' q' g c' d' g',c=(none,p',q',o',g,c',d')/\st'=setG st g'/\EY key a b o' p' q'/\0 < p'/\p'<=a.size/\1 < q'/\q'<=b.size/\p'+q'+1+t'<=p+q)
     (Q:=λc st'=>(∃out c' g',c=(some out,c')/\st'=setG st g'/\out.toList=Cd key a.toList b.toList)\/∃o' p' q' g c' d' g',c=(none,p',q',o',g,c',d')/\st'=setG st g'/\EY key a b o' p' q'/\0 < p'/\p'<=a.size/\1 < q'/\q'<=b.size/\p'+q'+1<=p+q) ?s2 ?f2 ⟨_,_,_,_,_,_,_,rfl,rfl,I',b1,b2,b3,b4,by omega⟩) ?p2)
    case f2=>
     rintro c st' ⟨o',p',q',g,c',d',g',rfl,rfl,I',b1,b2,b3,b4,b5⟩
     omega
    case s2=>
     rintro t' c st' _ ht' ⟨o',p',q',g,c',d',g',rfl,rfl,I',b1,b2,b3,b4,b5⟩
     exact RV (m:=p'+q' - 2) C T hk ⟨λout c g e=>.inl ⟨_,_,_,rfl,rfl,e⟩,λo p q g c d g' I h1 h2 h3 h4 h5=>.inr ⟨_,_,_,_,_,_,_,rfl,rfl,I,h1,h2,h3,h4,by omega⟩,λo p q g c d g' I h1 h2 h3 h4 h5=>⟨_,_,_,_,_,_,_,rfl,rfl,I,h1,h2,h3,h4,by omega⟩⟩ I' b1 b2 b3 b4 (by omega)
    case p2=>
     rintro c st' (⟨out,c',g',rfl,rfl,e⟩|⟨o',p',q',g,c',d',g',rfl,rfl,I',b1,b2,b3,b4,b5⟩)
     ·exact wpS_pure ⟨_,_,_,rfl,rfl,e⟩
     ·exact wpS_bind (wpS_modify (wpS_pure ⟨o',p',q',_,_,rfl,rfl,I',b1,b2,b3,b4,by omega⟩))
end
end Tim
namespace Tim
open PySem PyProof.Rows
section
variable {prog:Program}{w:World}{A:Around}{E:Value->Shared->Prop}{s:Shared}{a₀:Array Keyed}{κ:SortKind}{O:KeyOrd}{key:Keyed->O.α}
theorem L6:∀(l:List Keyed) (b m:Nat) (xs:Array Keyed),b+m+l.length<=xs.size->
 ((l.zipIdx m).foldl (λa (p,j)=>a.setIfInBounds (b+j) p) xs).toList=xs.toList.take (b+m)++l++xs.toList.drop (b+m+l.length)
 |[],b,m,xs,h=>by simp
 |x::l,b,m,xs,h=>by
  rw[List.length_cons]at h
  rw[List.zipIdx_cons,List.foldl_cons]
  have:=L6 l b (m+1) (xs.setIfInBounds (b+m) x) (by rw[Array.size_setIfInBounds];omega)
  rw[this,Array.toList_setIfInBounds,List.length_cons,<-Nat.add_assoc b m 1]
  have hl:b+m < xs.toList.length:=by simp;omega
  have e1:(xs.toList.set (b+m) x).take (b+m+1)=xs.toList.take (b+m)++[x]:=by
   rw[List.take_succ_eq_append_getElem (by simpa using hl),List.take_set_of_le (Nat.le_refl _),List.getElem_set_self]
  have e2:(xs.toList.set (b+m) x).drop (b+m+1+l.length)=xs.toList.drop (b+m+(l.length+1)):=by
   rw[List.drop_set_of_lt (by omega)]
   congr 1
   omega
  rw[e1,e2,List.append_assoc,List.append_assoc,List.append_assoc]
  rfl
abbrev Seg (key:Keyed->O.α)(xs:Array Keyed)(i j:Nat):Prop:=∀p q x y,i<=p->p<=q->q < j->xs[p]?=some x->xs[q]?=some y->O.blt (key y) (key x)=false
theorem JA {xs:Array Keyed}{i j:Nat}(h:Seg key xs i j):OS key (xs.extract i j).toList:=by
 refine List.pairwise_iff_getElem.mpr λp q hp hq hpq=>?_
 rw[Array.getElem_toList,Array.getElem_toList,Array.getElem_extract,Array.getElem_extract]
 have hq':q < min (j - i) (xs.size - i):=by simpa using hq
 exact h (i+p) (i+q) _ _ (by omega) (by omega) (by omega) (Array.getElem?_eq_getElem _) (Array.getElem?_eq_getElem _)
theorem L7 {xs:Array Keyed}{i j i' j':Nat}(h:Seg key xs i j)(h1:i<=i')(h2:j'<=j):Seg key xs i' j':=λp q x y a b c=>h p q x y (by omega) b (by omega)
theorem JB {xs ys:Array Keyed}{i j:Nat}(h:Seg key xs i j)(e:∀t,i<=t->t < j->ys[t]?=xs[t]?):Seg key ys i j:=λp q x y a b c ex ey=>h p q x y a b c (by rw[<-e p a (by omega)];exact ex) (by rw[<-e q (by omega) c];exact ey)
theorem Gs {xs ys:Array Keyed}(h:xs.Perm ys){x:Keyed}(hx:x∈xs):x∈ys:=(Array.perm_iff_toList_perm.mp h).mem_iff.mp (Array.mem_toList_iff.mpr hx)|> Array.mem_toList_iff.mp
theorem three (L:List Keyed){u v:Nat}(h:u<=v):L=L.take u++(L.drop u).take (v - u)++L.drop v:=by
 have e:L.drop v=(L.drop u).drop (v - u):=by rw[List.drop_drop];congr 1;omega
 rw[e,List.append_assoc,List.take_append_drop,List.take_append_drop]
abbrev EG (p:Array (Nat×Nat×Nat))(i sa n pw:Nat):Array (Nat×Nat×Nat):=(p.setIfInBounds i (sa,n,pw)).eraseIdxIfInBounds (i+1)
theorem RX (C:JR prog w A E s a₀ κ O key){st:SortSt}{i sa na pw sb nb pw':Nat}{Q:Bool->SortSt->Prop}(hk:kindOf st=κ)(hf:failedOf st=none)(hp:(arrOf st).Perm a₀)
 (e1:(pendingOf st)[i]?=some (sa,na,pw))(e2:(pendingOf st)[i+1]?=some (sb,nb,pw'))(hsb:sb=sa+na)(n1:1<=na)(n2:1<=nb)(hz:sb+nb<=(arrOf st).size)
 (s1:Seg key (arrOf st) sa sb)(s2:Seg key (arrOf st) sb (sb+nb))
 (h:∀(arr':Array Keyed) (g:Nat),arr'.Perm a₀->(∀t,t < sa\/sb+nb<=t->arr'[t]?=(arrOf st)[t]?)->Seg key arr' sa (sb+nb)->Q true (SortSt.mk' κ arr' (EG (pendingOf st) i sa (na+nb) pw) g none)):
 wpS (model prog w) A E s (mergeAt' i) Q st:=by
 subst hk
 rw[RK]
 refine wpS_bind (wpS_get ?_)
 rw[e1,e2]
 dsimp only
 generalize hL:arrOf st=xs at*
 refine wpS_bind (show wpS _ _ _ _ (modify λ_=>setPending st (EG (pendingOf st) i sa (na+nb) pw)) _ _ from wpS_modify ?_)
 have F2:Q true (setPending st (EG (pendingOf st) i sa (na+nb) pw))↔Q true (SortSt.mk' (kindOf st) xs (EG (pendingOf st) i sa (na+nb) pw) (gallopOf st) none):=by
  show Q true (SortSt.mk' (kindOf st) (arrOf st) _ (gallopOf st) (failedOf st))↔_
  rw[hL,hf]
 obtain⟨y0,ey⟩:=Ae (a:=xs) (i:=sb) (by omega)
 refine wpS_bind (Am ey ?_)
 have mem:∀{t z},xs[t]?=some z->z∈a₀:=λe=>Gs hp (BV e)
 refine wpS_bind (FX C (λt=>match xs[sa+t]? with|some x=>!O.blt (key y0) (key x)|none=>false) (mem ey) rfl (λt ht=>?_) (λt u htu hu=>?_) (by omega) λk hk' ht hf'=>?_)
 ·obtain⟨z,ez⟩:=Ae (a:=xs) (i:=sa+t) (by omega)
  refine⟨z,ez,mem ez,?_⟩
  rw[ez];rfl
 ·obtain⟨z,ez⟩:=Ae (a:=xs) (i:=sa+t) (by omega)
  obtain⟨v,ev⟩:=Ae (a:=xs) (i:=sa+u) (by omega)
  rw[ez,ev]
  dsimp only
  intro hv
  have hv:O.blt (key y0) (key v)=false:=by simpa using hv
  rw[B5 (s1 _ _ _ _ (by omega) (by omega) (by omega) ez ev) hv];rfl
 have lowA:∀t x,sa<=t->t < sa+k->xs[t]?=some x->O.blt (key y0) (key x)=false:=λt x h1 h2 e=>by
  have:=ht (t - sa) (by omega)
  rw[show sa+(t - sa)=t by omega,e]at this
  simpa using this
 have highA:∀t x,sa+k<=t->t < sb->xs[t]?=some x->O.blt (key y0) (key x)=true:=λt x h1 h2 e=>by
  have:=hf' (t - sa) (by omega) (by omega)
  rw[show sa+(t - sa)=t by omega,e]at this
  simpa using this
 dsimp only
 by_cases c1:na - k=0
 ·rw[if_pos (by simpa using c1)]
  refine wpS_pure (F2.mpr (h xs _ hp (λ_ _=>rfl) λp q x y a b c ex ey'=>?_))
  rcases Nat.lt_or_ge q sb with l|l
  ·exact s1 p q x y a b l ex ey'
  ·rcases Nat.lt_or_ge p sb with l'|l'
   ·exact B5 (lowA p x a (by omega) ex) (s2 sb q y0 y (Nat.le_refl _) l c ey ey')
   ·exact s2 p q x y l' b c ex ey'
 rw[if_neg (by simpa using c1)]
 obtain⟨x1,ex⟩:=Ae (a:=xs) (i:=sa+k+(na - k) - 1) (by omega)
 have ex1:xs[sb - 1]?=some x1:=by rw[<-ex];congr 1;omega
 refine wpS_bind (Am ex ?_)
 refine wpS_bind (FX C (λt=>match xs[sb+t]? with|some y=>O.blt (key y) (key x1)|none=>false) (mem ex) rfl (λt ht=>?_) (λt u htu hu=>?_) (by omega) λm hm' gt gf=>?_)
 ·obtain⟨z,ez⟩:=Ae (a:=xs) (i:=sb+t) (by omega)
  refine⟨z,ez,mem ez,?_⟩
  rw[ez];rfl
 ·obtain⟨z,ez⟩:=Ae (a:=xs) (i:=sb+t) (by omega)
  obtain⟨v,ev⟩:=Ae (a:=xs) (i:=sb+u) (by omega)
  rw[ez,ev]
  exact λhv=>KeyOrd.klt_of_kle_of_klt (O:=O) (a:=key z) (b:=key v) (c:=key x1) (s2 _ _ _ _ (by omega) (by omega) (by omega) ez ev) hv
 have lowB:∀t y,sb<=t->t < sb+m->xs[t]?=some y->O.blt (key y) (key x1)=true:=λt y h1 h2 e=>by
  have:=gt (t - sb) (by omega)
  rw[show sb+(t - sb)=t by omega,e]at this
  exact this
 have highB:∀t y,sb+m<=t->t < sb+nb->xs[t]?=some y->O.blt (key y) (key x1)=false:=λt y h1 h2 e=>by
  have:=gf (t - sb) (by omega) (by omega)
  rw[show sb+(t - sb)=t by omega,e]at this
  exact this
 dsimp only
 by_cases c2:m=0
 ·exfalso
  have a1:=highB sb y0 (by omega) (by omega) ey
  have a2:=highA (sb - 1) x1 (by omega) (by omega) ex1
  rw[a1]at a2;cases a2
 rw[if_neg (by simpa using c2)]
 have T:Fp key a₀ (xs.extract (sa+k) sb) (xs.extract sb (sb+m)):=by
  have za:(xs.extract (sa+k) sb).size=sb - (sa+k):=by simp;omega
  refine⟨λx hx=>?_,λx hx=>?_,by omega,by simp;omega,JA (L7 s1 (by omega) (Nat.le_refl _)),JA (L7 s2 (Nat.le_refl _) (by omega)),λx hx y e=>?_,λy hy x e=>?_⟩
  ·obtain⟨t,_,_,e⟩:=Cj (Array.mem_toList_iff.mpr hx);exact mem e
  ·obtain⟨t,_,_,e⟩:=Cj (Array.mem_toList_iff.mpr hx);exact mem e
  ·obtain⟨t,b1,b2,et⟩:=Cj (Array.mem_toList_iff.mpr hx)
   rw[Array.getElem?_extract,if_pos (by omega),Nat.add_zero,ey]at e
   cases e
   exact highA t x b1 b2 et
  ·obtain⟨t,b1,b2,et⟩:=Cj (Array.mem_toList_iff.mpr hy)
   rw[za,Array.getElem?_extract,if_pos (by omega),show sa+k+(sb - (sa+k) - 1)=sb - 1 by omega,ex1]at e
   cases e
   exact lowB t y b1 b2 et
 have fin:∀(o:Array Keyed) (g:Nat),o.toList=Cd key (xs.extract (sa+k) sb).toList (xs.extract sb (sb+m)).toList->
  wpS (model prog w) A E s (do
   modify λs=>setArr s (o.toList.zipIdx.foldl (λa (p,j)=>a.setIfInBounds (sa+k+j) p) (arrOf s))
   return(failedOf (<-get)).isNone) Q (setG (setPending st (EG (pendingOf st) i sa (na+nb) pw)) g):=λo g ho=>by
  refine wpS_bind (wpS_modify (wpS_bind (wpS_get (wpS_pure ?_))))
  show Q (failedOf st).isNone (SortSt.mk' (kindOf st) (o.toList.zipIdx.foldl (λa (p,j)=>a.setIfInBounds (sa+k+j) p) (arrOf st)) _ g (failedOf st))
  rw[hL,hf]
  have pm:o.toList.Perm ((xs.extract (sa+k) sb).toList++(xs.extract sb (sb+m)).toList):=by rw[ho];exact De _ _
  have ln:o.toList.length=sb+m - (sa+k):=by
   rw[pm.length_eq];simp;omega
  have wl:=L6 o.toList (sa+k) 0 xs (by rw[ln];omega)
  rw[Nat.add_zero,ln,show sa+k+(sb+m - (sa+k))=sb+m by omega]at wl
  generalize List.foldl (λa (x:Keyed×Nat)=>a.setIfInBounds (sa+k+x.snd) x.fst) xs o.toList.zipIdx=arr' at wl
  have z1:∀t,t < sa+k->arr'[t]?=xs[t]?:=λt h1=>by
   rw[<-Array.getElem?_toList,wl,List.append_assoc,List.getElem?_append_left (by simp;omega),List.getElem?_take_of_lt h1,Array.getElem?_toList]
  have tk:(xs.toList.take (sa+k)).length=sa+k:=by simp;omega
  have z2:∀t,sa+k<=t->t < sb+m->arr'[t]?=o.toList[t - (sa+k)]?:=λt h1 h2=>by
   rw[<-Array.getElem?_toList,wl,List.append_assoc,List.getElem?_append_right (by rw[tk];exact h1),tk,List.getElem?_append_left (by rw[ln];omega)]
  have z3:∀t,sb+m<=t->arr'[t]?=xs[t]?:=λt h1=>by
   rw[<-Array.getElem?_toList,wl,List.getElem?_append_right (by rw[List.length_append,tk,ln];omega),List.length_append,tk,ln,List.getElem?_drop,<-Array.getElem?_toList]
   congr 1
   omega
  have at2:∀t z,sa+k<=t->t < sb+m->arr'[t]?=some z->∃t',xs[t']?=some z/\sa+k<=t'/\t' < sb+m:=λt z h1 h2 e=>by
   rw[z2 t h1 h2]at e
   rcases List.mem_append.mp (pm.mem_iff.mp (List.mem_of_getElem? e))with hz'|hz'
   ·obtain⟨t',b1,b2,e'⟩:=Cj hz';exact⟨t',e',b1,by omega⟩
   ·obtain⟨t',b1,b2,e'⟩:=Cj hz';exact⟨t',e',by omega,b2⟩
  refine h arr' g ?_ (λt ht=>?_) λp q x y a b c ex' ey'=>?_
  ·refine Array.Perm.trans (Array.perm_iff_toList_perm.mpr ?_) hp
   rw[wl,three xs.toList (u:=sa+k) (v:=sb+m) (by omega)]
   have e3:(xs.toList.drop (sa+k)).take (sb+m - (sa+k))=(xs.extract (sa+k) sb).toList++(xs.extract sb (sb+m)).toList:=by
    have q1:=Dg xs (f:=sb) (p:=sb+m) (by omega)
    have q2:=Dg xs (f:=sa+k) (p:=sb) (by omega)
    have q3:=Dg xs (f:=sa+k) (p:=sb+m) (by omega)
    rw[q1,q2,List.append_assoc]at q3
    have:=List.append_cancel_left q3
    rw[this,Array.toList_extract,List.extract_eq_drop_take]
   have len:(List.take (sa+k) xs.toList++List.take (sb+m - (sa+k)) (List.drop (sa+k) xs.toList)++List.drop (sb+m) xs.toList)=xs.toList:=(three xs.toList (by omega)).symm
   rw[len]
   conv=>rhs;rw[three xs.toList (u:=sa+k) (v:=sb+m) (by omega),e3]
   exact((List.Perm.refl _).append pm).append (.refl _)
  ·rcases ht with ht|ht
   ·exact z1 t (by omega)
   ·exact z3 t (by omega)
  ·have y0le:∀t z,sb<=t->t < sb+nb->xs[t]?=some z->O.blt (key z) (key y0)=false:=λt z h1 h2 e=>s2 sb t y0 z (Nat.le_refl _) h1 h2 ey e
   have lex1:∀t z,sa<=t->t < sb->xs[t]?=some z->O.blt (key x1) (key z)=false:=λt z h1 h2 e=>s1 t (sb - 1) z x1 h1 (by omega) (by omega) e ex1
   rcases Nat.lt_or_ge p (sa+k)with p1|p1
   ·rw[z1 p p1]at ex'
    have lo1:=lowA p x a p1 ex'
    have low:∀t z,p<=t->t < sb+nb->xs[t]?=some z->O.blt (key z) (key x)=false:=λt z h1 h2 e=>by
     rcases Nat.lt_or_ge t sb with l|l
     ·exact s1 p t x z a h1 l ex' e
     ·exact B5 lo1 (y0le t z l h2 e)
    rcases Nat.lt_or_ge q (sa+k)with q1|q1
    ·rw[z1 q q1]at ey';exact low q y b c ey'
    ·rcases Nat.lt_or_ge q (sb+m)with q2|q2
     ·obtain⟨t,e,b1,b2⟩:=at2 q y q1 q2 ey'
      exact low t y (by omega) (by omega) e
     ·rw[z3 q q2]at ey';exact low q y b c ey'
   ·rcases Nat.lt_or_ge p (sb+m)with p2|p2
    ·rcases Nat.lt_or_ge q (sb+m)with q2|q2
     ·rw[z2 p p1 p2]at ex'
      rw[z2 q (by omega) q2]at ey'
      rcases Nat.lt_or_ge p q with l|l
      ·obtain⟨g1,rfl⟩:=List.getElem?_eq_some_iff.mp ex'
       obtain⟨g2,rfl⟩:=List.getElem?_eq_some_iff.mp ey'
       have so:OS key o.toList:=by rw[ho];exact Iq _ _ T.sa T.sb
       exact List.pairwise_iff_getElem.mp so _ _ g1 g2 (by omega)
      ·have:p=q:=by omega
       subst this
       rw[ex']at ey';cases ey'
       exact O.irrefl _
     ·obtain⟨t,e,b1,b2⟩:=at2 p x p1 p2 ex'
      rw[z3 q q2]at ey'
      rcases Nat.lt_or_ge t sb with l|l
      ·exact B5 (lex1 t x (by omega) l e) (highB q y q2 c ey')
      ·exact s2 t q x y l (by omega) c e ey'
    ·rw[z3 p p2]at ex'
     rw[z3 q (by omega)]at ey'
     exact s2 p q x y (by omega) b c ex' ey'
 split
 ·exact wpS_bind (RQ (st:=setPending st (EG (pendingOf st) i sa (na+nb) pw)) C T rfl λo g ho=>fin o g ho)
 ·exact wpS_bind (RW (st:=setPending st (EG (pendingOf st) i sa (na+nb) pw)) C T rfl λo g ho=>fin o g ho)
end
end Tim
namespace Tim
open PySem PyProof.Rows
section
variable {prog:Program}{w:World}{A:Around}{E:Value->Shared->Prop}{s:Shared}{a₀:Array Keyed}{κ:SortKind}{O:KeyOrd}{key:Keyed->O.α}
def Kz (key:Keyed->O.α)(a₀:Array Keyed):Prop:=(a₀.toList.map key).Nodup
theorem Kz.inj (D:Kz key a₀){xs:Array Keyed}(h:xs.Perm a₀){i j:Nat}{x y:Keyed}(ex:xs[i]?=some x)(ey:xs[j]?=some y)(h1:O.blt (key x) (key y)=false)(h2:O.blt (key y) (key x)=false):i=j:=by
 have nd:(xs.toList.map key).Nodup:=(List.Perm.nodup_iff ((Array.perm_iff_toList_perm.mp h).map key)).mpr D
 obtain⟨g1,rfl⟩:=Array.getElem?_eq_some_iff.mp ex
 obtain⟨g2,rfl⟩:=Array.getElem?_eq_some_iff.mp ey
 refine(List.getElem_inj (h₀:=by simpa using g1) (h₁:=by simpa using g2) nd).mp ?_
 rw[List.getElem_map,List.getElem_map,Array.getElem_toList,Array.getElem_toList]
 exact O.total _ _ h1 h2
theorem D7 (C:JR prog w A E s a₀ κ O key){st:SortSt}{i j:Nat}{x y:Keyed}{Q:Option Bool->SortSt->Prop}(hk:kindOf st=κ)(hp:(arrOf st).Perm a₀)(ex:(arrOf st)[i]?=some x)(ey:(arrOf st)[j]?=some y)
 (h:Q (some (O.blt (key x) (key y))) st):wpS (model prog w) A E s (ltAt' i j) Q st:=by
 rw[ltAt'_eq]
 exact wpS_bind (wpS_get (wpS_bind (Am ex (wpS_bind (Am ey (C x y st Q (Gs hp (BV ex)) (Gs hp (BV ey)) hk h))))))
abbrev Sw (key:Keyed->O.α)(xs:Array Keyed)(i j:Nat):Prop:=∀p q x y,i<=p->p<=q->q < j->xs[p]?=some x->xs[q]?=some y->O.blt (key x) (key y)=false
theorem OZ {xs:Array Keyed}{lo n:Nat}{x y:Keyed}(h:Seg key xs lo (lo+n))(h1:1<=n)(ex:xs[lo+n]?=some x)(ey:xs[lo+n - 1]?=some y)(hl:O.blt (key x) (key y)=false):Seg key xs lo (lo+(n+1)):=λp q u v a b c eu ev=>by
 rcases Nat.lt_or_ge q (lo+n)with l|l
 ·exact h p q u v a b l eu ev
 ·have:q=lo+n:=by omega
  subst this
  rw[ex]at ev;cases ev
  rcases Nat.lt_or_ge p (lo+n)with l'|l'
  ·exact B5 (h p (lo+n - 1) u y a (by omega) (by omega) eu ey) hl
  ·have:p=lo+n:=by omega
   subst this
   rw[ex]at eu;cases eu
   exact O.irrefl _
theorem Oa {xs:Array Keyed}{lo n:Nat}{x y:Keyed}(h:Sw key xs lo (lo+n))(h1:1<=n)(ex:xs[lo+n]?=some x)(ey:xs[lo+n - 1]?=some y)(hl:O.blt (key y) (key x)=false):Sw key xs lo (lo+(n+1)):=λp q u v a b c eu ev=>by
 rcases Nat.lt_or_ge q (lo+n)with l|l
 ·exact h p q u v a b l eu ev
 ·have:q=lo+n:=by omega
  subst this
  rw[ex]at ev;cases ev
  rcases Nat.lt_or_ge p (lo+n)with l'|l'
  ·exact B5 hl (h p (lo+n - 1) u y a (by omega) (by omega) eu ey)
  ·have:p=lo+n:=by omega
   subst this
   rw[ex]at eu;cases eu
   exact O.irrefl _
theorem Pu (xs:Array Keyed)(lo:Nat):Seg key xs lo (lo+1):=λp q x y a b c ex ey=>by
 have:p=q:=by omega
 subst this
 rw[ex]at ey;cases ey
 exact O.irrefl _
theorem RY (C:JR prog w A E s a₀ κ O key)(D:Kz key a₀){st:SortSt}{lo nrem:Nat}{Q:Option Nat->SortSt->Prop}(hk:kindOf st=κ)(hp:(arrOf st).Perm a₀)(hn:lo+nrem<=(arrOf st).size)(h1:1<=nrem)
 (h:∀(m:Nat) (arr':Array Keyed),arr'.Perm a₀->(∀t,t < lo->arr'[t]?=(arrOf st)[t]?)->1<=m->m<=nrem->Seg key arr' lo (lo+m)->Q (some m) (setArr st arr')):
 wpS (model prog w) A E s (countRun' lo nrem) Q st:=by
 have own:st=setArr st (arrOf st):=rfl
 rw[countRun'_eq]
 refine wpS_bind (wpS_mono (wpS_forRange (I:=λt c st'=>st'=st/\c=(none,t)/\Seg key (arrOf st) lo (lo+t))
  (Q:=λc st'=>st'=st/\∃n,c=(none,n)/\1<=n/\n<=nrem/\Seg key (arrOf st) lo (lo+n)/\(n=nrem\/∀x y,(arrOf st)[lo+n]?=some x->(arrOf st)[lo+n - 1]?=some y->O.blt (key x) (key y)=true)) ?step ?fin ⟨rfl,rfl,Pu _ _⟩) ?post)
 case fin=>
  rintro c st' ⟨rfl,rfl,g⟩
  rw[show max 1 nrem=nrem by omega]at g ⊢
  exact⟨rfl,nrem,rfl,h1,Nat.le_refl _,g,.inl rfl⟩
 case step=>
  rintro t c st' ht1 ht2 ⟨rfl,rfl,g⟩
  dsimp only
  obtain⟨x,ex⟩:=Ae (a:=arrOf st') (i:=lo+t) (by omega)
  obtain⟨y,ey⟩:=Ae (a:=arrOf st') (i:=lo+t - 1) (by omega)
  refine wpS_bind (D7 C hk hp ex ey ?_)
  dsimp only
  cases e:O.blt (key x) (key y)with
  |true=>
   rw[if_pos rfl]
   refine wpS_pure ⟨rfl,t,rfl,ht1,by omega,g,.inr λx' y' a b=>?_⟩
   rw[ex]at a;cases a
   rw[ey]at b;cases b
   exact e
  |false=>
   rw[if_neg (by simp)]
   exact wpS_pure ⟨rfl,rfl,OZ g ht1 ex ey e⟩
 case post=>
  rintro c st' ⟨rfl,n,rfl,n1,n2,g,g2⟩
  dsimp only
  by_cases e1:n=nrem
  ·rw[if_pos (by simpa using e1)]
   exact wpS_pure (h n (arrOf st') hp (λ_ _=>rfl) n1 n2 g)
  rw[if_neg (by simpa using e1)]
  have g2:=g2.resolve_left e1
  by_cases e2:n > 1
  ·rw[if_pos e2]
   obtain⟨x,ex⟩:=Ae (a:=arrOf st') (i:=lo) (by omega)
   obtain⟨y,ey⟩:=Ae (a:=arrOf st') (i:=lo+n - 1) (by omega)
   refine wpS_bind (D7 C hk hp ex ey ?_)
   dsimp only
   cases e:O.blt (key x) (key y)with
   |true=>
    rw[if_pos rfl]
    exact wpS_pure (h n (arrOf st') hp (λ_ _=>rfl) n1 n2 g)
   |false=>
    have:=D.inj hp ex ey e (g lo (lo+n - 1) x y (Nat.le_refl _) (by omega) (by omega) ex ey)
    omega
  ·rw[if_neg e2]
   have:n=1:=by omega
   subst this
   refine wpS_bind (wpS_lift (wpAny_rule ⟨rfl,?_⟩))
   have f2:Sw key (arrOf st') lo (lo+(1+1)):=by
    obtain⟨x,ex⟩:=Ae (a:=arrOf st') (i:=lo+1) (by omega)
    obtain⟨y,ey⟩:=Ae (a:=arrOf st') (i:=lo+1 - 1) (by omega)
    refine Oa (n:=1) (λp q u v a b c eu ev=>?_) (Nat.le_refl _) ex ey (Gq (g2 x y ex ey))
    have:p=q:=by omega
    subst this
    rw[eu]at ev;cases ev
    exact O.irrefl _
   refine wpS_bind (wpS_mono (wpS_forRange (I:=λt c st''=>st''=st'/\c=(none,t,0)/\Sw key (arrOf st') lo (lo+t))
    (Q:=λc st''=>st''=st'/\∃n,c=(none,n,0)/\2<=n/\n<=nrem/\Sw key (arrOf st') lo (lo+n)) ?s1 ?f1 ⟨rfl,rfl,f2⟩) ?p1)
   case f1=>
    rintro c st'' ⟨rfl,rfl,g⟩
    rw[show max (1+1) nrem=nrem by omega]at g ⊢
    exact⟨rfl,nrem,rfl,by omega,Nat.le_refl _,g⟩
   case s1=>
    rintro t c st'' ht1 ht2 ⟨rfl,rfl,g⟩
    dsimp only
    obtain⟨x,ex⟩:=Ae (a:=arrOf st'') (i:=lo+t) (by omega)
    obtain⟨y,ey⟩:=Ae (a:=arrOf st'') (i:=lo+t - 1) (by omega)
    refine wpS_bind (D7 C hk hp ex ey ?_)
    dsimp only
    cases e:O.blt (key x) (key y)with
    |true=>
     rw[if_pos rfl,if_neg (by omega)]
     exact wpS_pure ⟨rfl,rfl,Oa g (by omega) ex ey (Gq e)⟩
    |false=>
     rw[if_neg (by simp)]
     refine wpS_bind (D7 C hk hp ey ex ?_)
     dsimp only
     cases e':O.blt (key y) (key x)with
     |true=>
      rw[if_pos rfl]
      exact wpS_pure ⟨rfl,t,rfl,by omega,by omega,g⟩
     |false=>
      have:=D.inj hp ex ey e e'
      omega
   case p1=>
    rintro c st'' ⟨rfl,m,rfl,m1,m2,g⟩
    dsimp only
    rw[if_neg (by omega)]
    refine wpS_bind (wpS_reverse ?_)
    have mg:∀t,(mirror (arrOf st'') lo (lo+m) ((lo+m - lo) / 2))[t]?=if lo<=t/\t < lo+m then(arrOf st'')[lo+(lo+m) - 1 - t]? else(arrOf st'')[t]?:=λt=>getElem?_mirror_all (by omega) t
    have mp:=mirror_perm (arrOf st'') lo (lo+m) ((lo+m - lo) / 2)
    generalize mirror (arrOf st'') lo (lo+m) ((lo+m - lo) / 2)=xs at mg mp
    have hz:xs.size=(arrOf st'').size:=mp.size_eq
    have g3:Seg key xs lo (lo+m):=λp q u v a b c eu ev=>by
     rw[mg,if_pos (by omega)]at eu ev
     exact g _ _ v u (by omega) (by omega) (by omega) ev eu
    have hp':xs.Perm a₀:=mp.trans hp
    have out:∀t,t < lo->xs[t]?=(arrOf st'')[t]?:=λt ht=>by rw[mg,if_neg (by omega)]
    refine wpS_bind (wpS_mono (wpS_forRange (I:=λt c st3=>st3=setArr st'' xs/\c=(none,t)/\Seg key xs lo (lo+t))
     (Q:=λc st3=>st3=setArr st'' xs/\∃n,c=(none,n)/\1<=n/\n<=nrem/\Seg key xs lo (lo+n)) ?s2 ?f2 ⟨rfl,rfl,g3⟩) ?p2)
    case f2=>
     rintro c st3 ⟨rfl,rfl,g⟩
     rw[show max m nrem=nrem by omega]at g ⊢
     exact⟨rfl,nrem,rfl,h1,Nat.le_refl _,g⟩
    case s2=>
     rintro t c st3 ht1 ht2 ⟨rfl,rfl,g⟩
     dsimp only
     obtain⟨x,ex⟩:=Ae (a:=xs) (i:=lo+t) (by omega)
     obtain⟨y,ey⟩:=Ae (a:=xs) (i:=lo+t - 1) (by omega)
     refine wpS_bind (D7 (st:=setArr st'' xs) C hk hp' ex ey ?_)
     dsimp only
     cases e:O.blt (key x) (key y)with
     |true=>
      rw[if_pos rfl]
      exact wpS_pure ⟨rfl,t,rfl,by omega,by omega,g⟩
     |false=>
      rw[if_neg (by simp)]
      exact wpS_pure ⟨rfl,rfl,OZ g (by omega) ex ey e⟩
    case p2=>
     rintro c st3 ⟨rfl,n,rfl,n1,n2,g⟩
     exact wpS_pure (h n xs hp' out n1 n2 g)
theorem RZ (C:JR prog w A E s a₀ κ O key){st:SortSt}{lo n ok:Nat}{Q:Bool->SortSt->Prop}(hk:kindOf st=κ)(hp:(arrOf st).Perm a₀)(hn:lo+n<=(arrOf st).size)(h1:1<=ok)(h2:ok<=n)(hs:Seg key (arrOf st) lo (lo+ok))
 (h:∀(arr':Array Keyed),arr'.Perm a₀->(∀t,t < lo->arr'[t]?=(arrOf st)[t]?)->Seg key arr' lo (lo+n)->Q true (setArr st arr')):
 wpS (model prog w) A E s (binarySort' lo n ok) Q st:=by
 rw[binarySort'_eq]
 refine wpS_bind (wpS_mono (wpS_forRange (I:=λt c st'=>c=(none,())/\∃xs,st'=setArr st xs/\xs.Perm a₀/\(∀t,t < lo->xs[t]?=(arrOf st)[t]?)/\Seg key xs lo (lo+t))
  (Q:=λc st'=>c=(none,())/\∃xs,st'=setArr st xs/\xs.Perm a₀/\(∀t,t < lo->xs[t]?=(arrOf st)[t]?)/\Seg key xs lo (lo+n)) ?step ?fin ?init) ?post)
 case init=>
  rw[show max ok 1=ok by omega]
  exact⟨rfl,_,rfl,hp,λ_ _=>rfl,hs⟩
 case fin=>
  rintro c st' ⟨rfl,xs,rfl,a1,a2,a3⟩
  rw[show max (max ok 1) n=n by omega]at a3
  exact⟨rfl,xs,rfl,a1,a2,a3⟩
 case post=>
  rintro c st' ⟨rfl,xs,rfl,a1,a2,a3⟩
  exact wpS_pure (h xs a1 a2 a3)
 case step=>
  rintro k c st' hk1 hk2 ⟨rfl,xs,rfl,a1,a2,a3⟩
  have hz:xs.size=(arrOf st).size:=(a1.trans hp.symm).size_eq
  obtain⟨x,ex⟩:=Ae (a:=xs) (i:=lo+k) (by omega)
  refine wpS_bind (wpS_mono (wpS_forRange (I:=λt c st''=>st''=setArr st xs/\∃l r,c=(none,l,r)/\l<=r/\r<=k/\r - l<=k - t/\
   (∀i y,i < l->xs[lo+i]?=some y->O.blt (key x) (key y)=false)/\(∀i y,r<=i->i < k->xs[lo+i]?=some y->O.blt (key x) (key y)=true))
   (Q:=λc st''=>st''=setArr st xs/\∃l r,c=(none,l,r)/\l<=k/\
    (∀i y,i < l->xs[lo+i]?=some y->O.blt (key x) (key y)=false)/\(∀i y,l<=i->i < k->xs[lo+i]?=some y->O.blt (key x) (key y)=true)) ?s1 ?f1 ⟨rfl,0,k,rfl,by omega,by omega,by omega,λi y hi=>by omega,λi y b1 b2=>by omega⟩) ?p1)
  case f1=>
   rintro c st'' ⟨rfl,l,r,rfl,b1,b2,b3,b4,b5⟩
   have:l=r:=by omega
   subst this
   exact⟨rfl,l,l,rfl,b2,b4,b5⟩
  case s1=>
   rintro t c st'' _ ht ⟨rfl,l,r,rfl,b1,b2,b3,b4,b5⟩
   dsimp only
   by_cases g:l≥r
   ·rw[if_pos g]
    have:l=r:=by omega
    subst this
    exact wpS_pure ⟨rfl,l,l,rfl,b2,b4,b5⟩
   ·rw[if_neg g]
    obtain⟨y,ey⟩:=Ae (a:=xs) (i:=lo+(l+r) / 2) (by omega)
    refine wpS_bind (D7 (st:=setArr st xs) C hk a1 ex ey ?_)
    dsimp only
    cases e:O.blt (key x) (key y)with
    |true=>
     rw[if_pos rfl]
     exact wpS_pure ⟨rfl,l,(l+r) / 2,rfl,by omega,by omega,by omega,b4,λi z q1 q2 ez=>KeyOrd.klt_of_klt_of_kle (O:=O) (a:=key x) (b:=key y) (c:=key z) e (a3 _ _ y z (by omega) (by omega) (by omega) ey ez)⟩
    |false=>
     rw[if_neg (by simp)]
     exact wpS_pure ⟨rfl,(l+r) / 2+1,r,rfl,by omega,by omega,by omega,λi z q1 ez=>B5 (a3 _ _ z y (by omega) (by omega) (by omega) ez ey) e,b5⟩
  case p1=>
   rintro c st'' ⟨rfl,l,r,rfl,b1,b2,b3⟩
   dsimp only
   rw[moveDown'_eq]
   have bg:∀t,(bubble xs (lo+k) (lo+k - (lo+l)))[t]?=if t=lo+l then xs[lo+k]? else if lo+l < t/\t<=lo+k then xs[t - 1]? else xs[t]?:=λt=>by
    rw[getElem?_bubble (by omega) _ (by omega),show lo+k - (lo+k - (lo+l))=lo+l by omega]
   have bp:=bubble_perm xs (lo+k) (lo+k - (lo+l))
   refine wpS_bind (wpS_modify (wpS_pure ⟨rfl,bubble xs (lo+k) (lo+k - (lo+l)),rfl,bp.trans a1,λt ht=>?_,λp q u v a b c eu ev=>?_⟩))
   ·rw[bg,if_neg (by omega),if_neg (by omega)]
    exact a2 t ht
   ·rw[bg]at eu ev
    by_cases p1:p=lo+l
    ·rw[if_pos p1,ex]at eu
     cases eu
     by_cases q1:q=lo+l
     ·rw[if_pos q1,ex]at ev
      cases ev
      exact O.irrefl _
     ·rw[if_neg q1,if_pos (by omega)]at ev
      exact Gq (b3 (q - 1 - lo) v (by omega) (by omega) (by rw[<-ev];congr 1;omega))
    ·rw[if_neg p1]at eu
     by_cases q1:q=lo+l
     ·rw[if_pos q1,ex]at ev
      cases ev
      rw[if_neg (by omega)]at eu
      exact b2 (p - lo) u (by omega) (by rw[<-eu];congr 1;omega)
     ·rw[if_neg q1]at ev
      split at eu<;>split at ev
      ·exact a3 _ _ u v (by omega) (by omega) (by omega) eu ev
      ·omega
      ·exact a3 _ _ u v (by omega) (by omega) (by omega) eu ev
      ·exact a3 _ _ u v (by omega) (by omega) (by omega) eu ev
end
end Tim
namespace Tim
open PySem PyProof.Rows
section
variable {prog:Program}{w:World}{A:Around}{E:Value->Shared->Prop}{s:Shared}{a₀:Array Keyed}{κ:SortKind}{O:KeyOrd}{key:Keyed->O.α}
abbrev F9:=Nat×Nat×Nat
def Runs (key:Keyed->O.α)(xs:Array Keyed):List F9->Nat->Nat->Prop
 |[],i,j=>i=j
 |r::rs,i,j=>r.1=i/\1<=r.2.1/\Seg key xs i (i+r.2.1)/\Runs key xs rs (i+r.2.1) j
theorem Et {xs:Array Keyed}:∀(l:List F9) (i j:Nat),Runs key xs l i j->i+l.length<=j
 |[],i,j,h=>Nat.le_of_eq h
 |r::rs,i,j,h=>by
  have:=Et rs _ j h.2.2.2
  have:=h.2.1
  rw[List.length_cons]
  omega
theorem GH {xs ys:Array Keyed}:∀(l:List F9) (i j:Nat),Runs key xs l i j->(∀t,i<=t->t < j->ys[t]?=xs[t]?)->Runs key ys l i j
 |[],i,j,h,_=>h
 |r::rs,i,j,h,e=>by
  have:=Et rs _ j h.2.2.2
  exact⟨h.1,h.2.1,JB h.2.2.1 λt t1 t2=>e t t1 (by omega),GH rs _ j h.2.2.2 λt t1 t2=>e t (by omega) t2⟩
theorem Fb {xs:Array Keyed}{lo n:Nat}:∀{l:List F9} {i:Nat},Runs key xs l i lo->1<=n->Seg key xs lo (lo+n)->Runs key xs (l++[(lo,n,0)]) i (lo+n)
 |[],i,h,h1,h2=>by
  cases(show i=lo from h)
  exact⟨rfl,h1,h2,rfl⟩
 |r::rs,i,h,h1,h2=>⟨h.1,h.2.1,h.2.2.1,Fb h.2.2.2 h1 h2⟩
theorem Dh {xs:Array Keyed}(f:F9->F9)(f1:∀r,(f r).1=r.1)(f2:∀r,(f r).2.1=r.2.1):∀(l:List F9) (k i j:Nat),Runs key xs l i j->Runs key xs (l.modify k f) i j
 |[],k,i,j,h=>by cases k<;>exact h
 |r::rs,0,i,j,h=>by
  rw[List.modify_zero_cons]
  unfold Runs
  rw[f1,f2]
  exact h
 |r::rs,k+1,i,j,h=>by
  rw[List.modify_succ_cons]
  exact⟨h.1,h.2.1,h.2.2.1,Dh f f1 f2 rs k _ j h.2.2.2⟩
theorem Jr {xs:Array Keyed}:∀(k:Nat) (l:List F9) (i j:Nat),Runs key xs l i j->k+1 < l.length->∃sa na pw sb nb pw',l[k]?=some (sa,na,pw)/\l[k+1]?=some (sb,nb,pw')/\sb=sa+na/\1<=na/\1<=nb/\i<=sa/\sb+nb<=j/\
 Seg key xs sa sb/\Seg key xs sb (sb+nb)/\∀ys:Array Keyed,(∀t,t < sa\/sb+nb<=t->ys[t]?=xs[t]?)->Seg key ys sa (sb+nb)->Runs key ys ((l.set k (sa,na+nb,pw)).eraseIdx (k+1)) i j
 |0,(sa,na,pw)::(sb,nb,pw')::rs,i,j,h,_=>by
  obtain⟨h1,h2,h3,h4,h5,h6,h7⟩:=h
  cases(show sa=i from h1)
  cases(show sb=sa+na from h4)
  have l:sa+na+nb+rs.length<=j:=Et rs _ j h7
  refine⟨sa,na,pw,sa+na,nb,pw',rfl,rfl,rfl,h2,h5,Nat.le_refl _,by omega,h3,h6,λys e sg=>?_⟩
  show Runs key ys ((sa,na+nb,pw)::rs) sa j
  refine⟨rfl,by show 1<=na+nb;exact Nat.le_trans h2 (Nat.le_add_right _ _),?_,?_⟩
  ·show Seg key ys sa (sa+(na+nb))
   rw[<-Nat.add_assoc];exact sg
  ·show Runs key ys rs (sa+(na+nb)) j
   rw[<-Nat.add_assoc]
   exact GH rs _ j h7 λt t1 t2=>e t (.inr t1)
 |k+1,r::rs,i,j,h,hl=>by
  rw[List.length_cons]at hl
  obtain⟨sa,na,pw,sb,nb,pw',e1,e2,e3,e4,e5,e6,e7,e8,e9,e10⟩:=Jr k rs _ j h.2.2.2 (by omega)
  have hr:=h.2.1
  refine⟨sa,na,pw,sb,nb,pw',e1,e2,e3,e4,e5,by omega,e7,e8,e9,λys e sg=>?_⟩
  exact⟨h.1,h.2.1,JB h.2.2.1 λt t1 t2=>e t (.inl (by omega)),e10 ys e sg⟩
 |0,[_],_,_,_,hl=>by simp at hl
 |0,[],_,_,_,hl=>by simp at hl
 |_+1,[],_,_,_,hl=>by simp at hl
theorem Gu (p:Array F9)(i sa n pw:Nat):(EG p i sa n pw).toList=(p.toList.set i (sa,n,pw)).eraseIdx (i+1):=by
 unfold EG
 rw[Array.toList_eraseIdxIfInBounds,Array.toList_setIfInBounds]
theorem K0 (p:Array F9)(i sa n pw:Nat)(h:i+1 < p.size):(EG p i sa n pw).size=p.size - 1:=by
 rw[<-Array.length_toList,Gu,List.length_eraseIdx,if_pos (by simpa using h),List.length_set,Array.length_toList]
theorem JC (C:JR prog w A E s a₀ κ O key){st:SortSt}{i j:Nat}{Q:Bool->SortSt->Prop}(hk:kindOf st=κ)(hf:failedOf st=none)(hp:(arrOf st).Perm a₀)(hi:i+1 < (pendingOf st).size)(hr:Runs key (arrOf st) (pendingOf st).toList 0 j)(hj:j<=(arrOf st).size)
 (h:∀(arr':Array Keyed) (pd':Array F9) (g:Nat),arr'.Perm a₀->(∀t,j<=t->arr'[t]?=(arrOf st)[t]?)->Runs key arr' pd'.toList 0 j->pd'.size+1=(pendingOf st).size->Q true (SortSt.mk' κ arr' pd' g none)):
 wpS (model prog w) A E s (mergeAt' i) Q st:=by
 obtain⟨sa,na,pw,sb,nb,pw',e1,e2,e3,e4,e5,e6,e7,e8,e9,e10⟩:=Jr i _ 0 j hr (by simpa using hi)
 rw[Array.getElem?_toList]at e1 e2
 refine RX C hk hf hp e1 e2 e3 e4 e5 (by omega) e8 e9 λarr' g c1 c2 c3=>h arr' _ g c1 (λt ht=>c2 t (.inr (by omega))) ?_ ?_
 ·rw[Gu];exact e10 arr' c2 c3
 ·rw[K0 _ _ _ _ _ hi];omega
def RI (key:Keyed->O.α)(a₀:Array Keyed)(κ:SortKind)(lo:Nat)(st:SortSt):Prop:=∃ys pd g,st=SortSt.mk' κ ys pd g none/\ys.Perm a₀/\Runs key ys pd.toList 0 lo/\lo<=a₀.size
theorem Pw (C:JR prog w A E s a₀ κ O key)(D:Kz key a₀){g:Nat}{Q:Unit->SortSt->Prop}
 (h:∀(arr':Array Keyed) (pd:Array F9) (g:Nat),arr'.Perm a₀->OS key arr'.toList->Q () (SortSt.mk' κ arr' pd g none)):
 wpS (model prog w) A E s sortRuns' Q (SortSt.mk' κ a₀ #[] g none):=by
 rw[sortRuns'_eq]
 refine wpS_bind (wpS_get ?_)
 dsimp only
 show wpS _ _ _ _ (forIn [:a₀.size] _ _ >>= _) Q _
 refine wpS_bind (wpS_mono (wpS_forRange (I:=λt c st'=>∃lo,c=(none,lo)/\RI key a₀ κ lo st'/\t<=lo)
  (Q:=λc st'=>∃lo,c=(none,lo)/\RI key a₀ κ lo st'/\a₀.size<=lo) ?step ?fin ⟨0,rfl,⟨a₀,#[],g,rfl,.refl _,rfl,Nat.zero_le _⟩,Nat.le_refl _⟩) ?post)
 case fin=>
  rintro c st' ⟨lo,rfl,r,hl⟩
  exact⟨lo,rfl,r,by omega⟩
 case step=>
  rintro t c st' _ ht ⟨lo,rfl,⟨xs,pd,g,rfl,p1,p2,p3⟩,hl⟩
  dsimp only
  by_cases c1:lo≥a₀.size
  ·rw[if_pos c1]
   exact wpS_pure ⟨lo,rfl,⟨xs,pd,g,rfl,p1,p2,p3⟩,c1⟩
  rw[if_neg c1]
  have hz:xs.size=a₀.size:=p1.size_eq
  refine wpS_bind (RY (st:=SortSt.mk' κ xs pd g none) C D rfl p1 (by show lo+(a₀.size - lo)<=xs.size;omega) (by show 1<=a₀.size - lo;omega) λfound xs1 f1 f2 f3 f4 f5=>?_)
  have f4:found<=a₀.size - lo:=f4
  have r1:Runs key xs1 pd.toList 0 lo:=GH _ 0 lo p2 λt _ t2=>f2 t t2
  dsimp only
  generalize hmr:minRun' (arrOf (SortSt.mk' κ a₀ #[] _ none)).size (arrOf (SortSt.mk' κ a₀ #[] _ none)).size 0=mr
  by_cases c2:found < mr
  ·rw[if_pos c2]
   refine wpS_bind (wpS_lift (wpAny_rule ⟨rfl,?_⟩))
   have hn:min (a₀.size - lo) mr<=a₀.size - lo:=Nat.min_le_left _ _
   have hn2:found<=min (a₀.size - lo) mr:=by omega
   show wpS _ _ _ _ (binarySort' lo (min (a₀.size - lo) mr) found >>= _) _ _
   generalize hnn:min ((arrOf (SortSt.mk' κ a₀ #[] _ none)).size - lo) mr=n
   have hnn:min (a₀.size - lo) mr=n:=hnn
   rw[hnn]at hn hn2
   have zz:xs1.size=a₀.size:=f1.size_eq
   refine wpS_bind (RZ (st:=setArr (SortSt.mk' κ xs pd g none) xs1) C rfl f1 (by show lo+n<=xs1.size;omega) f3 hn2 f5 λxs2 q1 out q3=>?_)
   have q2:Runs key xs2 pd.toList 0 lo:=GH _ 0 lo r1 λt _ t2=>out t t2
   have n1:1<=n:=by omega
   rw[if_neg (by simp)]
   refine wpS_bind (wpS_get ?_)
   have push:∀(ys:Array Keyed) (pd:Array (Nat×Nat×Nat)) (g':Nat),ys.Perm a₀->Runs key ys pd.toList 0 lo->Seg key ys lo (lo+n)->RI key a₀ κ (lo+n) (SortSt.mk' κ ys (pd.push (lo,n,0)) g' none):=λys pd g' b1 b2 b3=>
    ⟨ys,_,g',rfl,b1,by rw[Array.toList_push];exact Fb b2 n1 b3,by omega⟩
   split
   ·rename_i s1 m1 pw1 eb
    refine wpS_bind (wpS_mono (wpS_forRange (I:=λt c st'=>c=(none,())/\∃ys pd g',st'=SortSt.mk' κ ys pd g' none/\ys.Perm a₀/\Runs key ys pd.toList 0 lo/\Seg key ys lo (lo+n))
     (Q:=λc st'=>c=(none,())/\∃ys pd g',st'=SortSt.mk' κ ys pd g' none/\ys.Perm a₀/\Runs key ys pd.toList 0 lo/\Seg key ys lo (lo+n)) ?sA ?fA ⟨rfl,_,_,_,rfl,q1,q2,q3⟩) ?pA)
    case fA=>
     rintro c st' hh
     exact hh
    case sA=>
     rintro t c st' _ _ ⟨rfl,ys,pd,g',rfl,b1,b2,b3⟩
     refine wpS_bind (wpS_get ?_)
     split
     ·rename_i x1 x2 older eo
      have big:pd.size > 1:=by
       rcases Nat.lt_or_ge 1 pd.size with l|l
       ·exact l
       ·have l':¬(pendingOf (SortSt.mk' κ ys pd g' none)).size > 1:=by show¬pd.size > 1;omega
        rw[if_neg l']at eo;cases eo
      split
      ·exact wpS_pure ⟨rfl,ys,pd,g',rfl,b1,b2,b3⟩
      ·have hz':ys.size=a₀.size:=b1.size_eq
       refine wpS_bind (JC C (st:=SortSt.mk' κ ys pd g' none) (i:=pd.size - 2) (j:=lo) rfl rfl b1 (by show pd.size - 2+1 < pd.size;omega) b2 (by show lo<=ys.size;omega) λys' pd' g2 c1 c2 c3 c4=>?_)
       rw[if_neg (by simp)]
       exact wpS_pure ⟨rfl,ys',pd',g2,rfl,c1,c3,JB b3 λt t1 t2=>c2 t t1⟩
     ·exact wpS_pure ⟨rfl,ys,pd,g',rfl,b1,b2,b3⟩
    case pA=>
     rintro c st' ⟨rfl,ys,pd,g',rfl,b1,b2,b3⟩
     refine wpS_bind (wpS_modify (wpS_bind (wpS_modify (wpS_pure ⟨lo+n,rfl,push ys _ g' b1 ?_ b3,by omega⟩))))
     rw[Array.toList_modify]
     apply Dh
     ·intro _;rfl
     ·intro _;rfl
     ·exact b2
   ·exact wpS_bind (wpS_modify (wpS_pure ⟨lo+n,rfl,push _ _ _ q1 q2 q3,by omega⟩))
  ·rw[if_neg c2]
   have q1:=f1
   have q2:=r1
   have q3:=f5
   have n1:=f3
   have hn:=f4
   generalize found=n at*
   refine wpS_bind (wpS_get ?_)
   have push:∀(ys:Array Keyed) (pd:Array (Nat×Nat×Nat)) (g':Nat),ys.Perm a₀->Runs key ys pd.toList 0 lo->Seg key ys lo (lo+n)->RI key a₀ κ (lo+n) (SortSt.mk' κ ys (pd.push (lo,n,0)) g' none):=λys pd g' b1 b2 b3=>
    ⟨ys,_,g',rfl,b1,by rw[Array.toList_push];exact Fb b2 n1 b3,by omega⟩
   split
   ·rename_i s1 m1 pw1 eb
    refine wpS_bind (wpS_mono (wpS_forRange (I:=λt c st'=>c=(none,())/\∃ys pd g',st'=SortSt.mk' κ ys pd g' none/\ys.Perm a₀/\Runs key ys pd.toList 0 lo/\Seg key ys lo (lo+n))
     (Q:=λc st'=>c=(none,())/\∃ys pd g',st'=SortSt.mk' κ ys pd g' none/\ys.Perm a₀/\Runs key ys pd.toList 0 lo/\Seg key ys lo (lo+n)) ?sB ?fB ⟨rfl,_,_,_,rfl,q1,q2,q3⟩) ?pB)
    case fB=>
     rintro c st' hh
     exact hh
    case sB=>
     rintro t c st' _ _ ⟨rfl,ys,pd,g',rfl,b1,b2,b3⟩
     refine wpS_bind (wpS_get ?_)
     split
     ·rename_i x1 x2 older eo
      have big:pd.size > 1:=by
       rcases Nat.lt_or_ge 1 pd.size with l|l
       ·exact l
       ·have l':¬(pendingOf (SortSt.mk' κ ys pd g' none)).size > 1:=by show¬pd.size > 1;omega
        rw[if_neg l']at eo;cases eo
      split
      ·exact wpS_pure ⟨rfl,ys,pd,g',rfl,b1,b2,b3⟩
      ·have hz':ys.size=a₀.size:=b1.size_eq
       refine wpS_bind (JC C (st:=SortSt.mk' κ ys pd g' none) (i:=pd.size - 2) (j:=lo) rfl rfl b1 (by show pd.size - 2+1 < pd.size;omega) b2 (by show lo<=ys.size;omega) λys' pd' g2 c1 c2 c3 c4=>?_)
       rw[if_neg (by simp)]
       exact wpS_pure ⟨rfl,ys',pd',g2,rfl,c1,c3,JB b3 λt t1 t2=>c2 t t1⟩
     ·exact wpS_pure ⟨rfl,ys,pd,g',rfl,b1,b2,b3⟩
    case pB=>
     rintro c st' ⟨rfl,ys,pd,g',rfl,b1,b2,b3⟩
     refine wpS_bind (wpS_modify (wpS_bind (wpS_modify (wpS_pure ⟨lo+n,rfl,push ys _ g' b1 ?_ b3,by omega⟩))))
     rw[Array.toList_modify]
     apply Dh
     ·intro _;rfl
     ·intro _;rfl
     ·exact b2
   ·exact wpS_bind (wpS_modify (wpS_pure ⟨lo+n,rfl,push _ _ _ q1 q2 q3,by omega⟩))
 case post=>
  rintro c st' ⟨lo,rfl,⟨xs,pd,g,rfl,p1,p2,p3⟩,hl⟩
  have:lo=a₀.size:=by omega
  subst this
  dsimp only
  have l0:=Et _ _ _ p2
  rw[Array.length_toList]at l0
  refine wpS_bind (wpS_mono (wpS_forRange (I:=λt c st'=>c=(none,())/\∃ys pd g',st'=SortSt.mk' κ ys pd g' none/\ys.Perm a₀/\Runs key ys pd.toList 0 a₀.size/\pd.size+t<=a₀.size)
   (Q:=λc st'=>c=(none,())/\∃ys pd g',st'=SortSt.mk' κ ys pd g' none/\ys.Perm a₀/\Runs key ys pd.toList 0 a₀.size/\pd.size<=1) ?s3 ?f3 ⟨rfl,xs,pd,g,rfl,p1,p2,by omega⟩) ?p3)
  case f3=>
   rintro c st' ⟨rfl,ys,pd,g',rfl,b1,b2,b3⟩
   refine⟨rfl,ys,pd,g',rfl,b1,b2,?_⟩
   have b3:pd.size+max 0 a₀.size<=a₀.size:=b3
   omega
  case s3=>
   rintro t c st' _ _ ⟨rfl,ys,pd,g',rfl,b1,b2,b3⟩
   refine wpS_bind (wpS_get ?_)
   by_cases c3:pd.size<=1
   ·rw[if_pos (show(pendingOf (SortSt.mk' κ ys pd g' none)).size<=1 from c3)]
    exact wpS_pure ⟨rfl,ys,pd,g',rfl,b1,b2,c3⟩
   ·rw[if_neg (show¬(pendingOf (SortSt.mk' κ ys pd g' none)).size<=1 from c3)]
    have hz':ys.size=a₀.size:=b1.size_eq
    refine wpS_bind (JC C (st:=SortSt.mk' κ ys pd g' none) (j:=a₀.size) rfl rfl b1 ?_ b2 (by show a₀.size<=ys.size;omega) λys' pd' g2 c1 c2 c3 c4=>?_)
    ·have ix:∀(P:Prop) [Decidable P],(if P then pd.size - 2 - 1 else pd.size - 2)+1 < pd.size:=λP _=>by split<;>omega
     exact ix _
    ·rw[if_neg (by simp)]
     have c4:pd'.size+1=pd.size:=c4
     exact wpS_pure ⟨rfl,ys',pd',g2,rfl,c1,c3,by omega⟩
  case p3=>
   rintro c st' ⟨rfl,ys,pd,g',rfl,b1,b2,b3⟩
   refine wpS_pure (h ys pd g' b1 ?_)
   have hz':ys.size=a₀.size:=b1.size_eq
   have sg:Seg key ys 0 a₀.size:=by
    rw[<-Array.length_toList]at b3
    match e:pd.toList,b2,b3 with
    |[],b2,_=>exact λp q x y a b c=>by have:0=a₀.size:=b2;omega
    |[r],b2,_=>
     have e2:0+r.2.1=a₀.size:=b2.2.2.2
     rw[<-e2]
     exact b2.2.2.1
    |_::_::_,_,b3=>simp at b3
   have:=JA sg
   rw[<-hz',EX,List.take_of_length_le (by simp)]at this
   exact this
end
end Tim
namespace L2
open PySem PySem.Spec PyProof.Rows PySem.W Tim
section
variable {prog:Program}{w:World}{A:Around}{E:Value->Shared->Prop}{s:Shared}
theorem Ob {a:Addr}{vs:List Value}{n:Nat}{P:PySem.Fin->Shared->Prop}(ho:s.heap.get? a=some (seqObj "list" vs.toArray n))(h2:2<=vs.length)(hz:vs.length<=sizeLine){κ:SortKind}{O:KeyOrd}{key:Keyed->O.α}(D:Kz key (pairsOf vs))
 (hk:∀g:Heap,(∀b o,b≠a->s.heap.get? b=some o->g.get? b=some o)->(∀R:SortKind->Shared->Prop,R κ { s with heap:=g }->wpAny (model prog w) A (keyKind' vs.toArray) R E { s with heap:=g })/\JR prog w A E { s with heap:=g } (pairsOf vs) κ O key)
 (h:∀xs:Array Keyed,xs.Perm (pairsOf vs)->OS key xs.toList->P (.done (.ret .none)) { s with heap:=sortedHeap s.heap a vs (xs.map (·.2)) }):
 wpAny (model prog w) A (Builtin.«list.sort» ⟨[.ref a],[]⟩) P E s:=by
 have al:a < s.heap.objs.size:=Heap.lt_size ho
 have nb:¬vs.toArray.size < 2:=by rw[List.size_toArray];omega
 rw[list_sort_plain]
 refine wpAny_bind (listItems_at ho rfl (wpAny_bind (listUpdate_at ho rfl ?_ (by rw[List.size_toArray];exact hz) (Nat.zero_le _))))
 obtain⟨e1,g1⟩:∃e1,(s.heap.update a (Obj.mapSeq λ_=>(#[]:Array Value))).get? a=some (seqObj "list" #[] e1):=⟨_,get?_update_seq ho λ_=>#[]⟩
 refine wpAny_bind (seqEpoch_at g1 rfl (wpAny_bind (wpAny_newTuple ?_ (by show vs.length<=_;exact hz))))
 refine wpAny_bind (wpAny_newList (wpAny_holding ?_))
 have sz1:(s.heap.update a (Obj.mapSeq λ_=>(#[]:Array Value))).objs.size=s.heap.objs.size:=Heap.size_update ..
 have g2:=Heap.get?_push_of_some (seqObj "list" #[] 0) (Heap.get?_push_of_some (seqObj "tuple" vs.toArray 0) g1)
 have old:∀b o,b≠a->s.heap.get? b=some o->(((s.heap.update a (Obj.mapSeq λ_=>(#[]:Array Value))).push (seqObj "tuple" vs.toArray 0)).push (seqObj "list" #[] 0)).get? b=some o:=λb o hb e=>
  Heap.get?_push_of_some _ (Heap.get?_push_of_some _ ((Heap.get?_update_ne _ _ _ _ hb).trans e))
 obtain⟨hkind,C⟩:=hk _ old
 show wpAny (model prog w) A _ P E { s with heap:=((s.heap.update a (Obj.mapSeq λ_=>(#[]:Array Value))).push (seqObj "tuple" vs.toArray 0)).push (seqObj "list" #[] 0) }
 have hfin:=h
 unfold sortedHeap at hfin
 generalize((s.heap.update a (Obj.mapSeq λ_=>(#[]:Array Value))).push (seqObj "tuple" vs.toArray 0)).push (seqObj "list" #[] 0)=g at g2 hkind C hfin
 rw[if_neg nb,if_neg nb]
 refine wpAny_bind (hkind _ ?_)
 refine wpAny_bind (wpAny_mono (Pw (s:={ s with heap:=g }) (E:=E) C D (g:=7) (Q:=λ_ st'=>∃xs pd g',st'=SortSt.mk' κ xs pd g' none/\xs.Perm (pairsOf vs)/\OS key xs.toList) λxs pd g' a1 a2=>⟨xs,pd,g',rfl,a1,a2⟩) ?_ λ_ _ e=>e)
 rintro⟨⟨⟩,st'⟩ s' ⟨rfl,xs,pd,g',rfl,a1,a2⟩
 refine wpAny_bind (seqEpoch_at g2 rfl (wpAny_bind (listUpdate_at g2 rfl ?_ (Nat.zero_le _) ?_)))
 ·show wpAny _ _ (if(e1 !=e1)=true then _ else _) _ _ _
  rw[if_neg (by simp)]
  exact wpAny_pure (hfin xs a1 a2)
 ·show(xs.map _).size<=_
  rw[Array.size_map,a1.size_eq,pairsOf_size]
  exact Nat.le_succ_of_le hz
abbrev Js (p:Keyed):strKind.α:=(strOf p.1).cps.toList
theorem Oc {vs:List Value}{ss:List Str}(hS:StrsAre vs ss):JR prog w A E s (pairsOf vs) oneType' strKind.toKeyOrd Js:=by
 have is:∀x:Keyed,x∈pairsOf vs->∃z t,x.1=.str z t:=λx hx=>by
  have:=Array.mem_toList_iff.mpr hx
  rw[pairsOf_toList]at this
  exact hS.all _ (mem_zip_self this).2
 intro x y st Q hx hy hk h
 obtain⟨x1,t1,e1⟩:=is x hx
 obtain⟨y1,u1,e2⟩:=is y hy
 rw[lt'_eq]
 refine wpS_bind (wpS_get ?_)
 rw[hk,keyLt'_oneType,e1,e2]
 refine wpS_bind (wpS_lift (wpAny_attempt (oneLt_str ⟨rfl,wpS_pure ?_⟩)))
 unfold Js at h
 rw[e1,e2]at h
 exact h
theorem NC {vs:List Value}{ss:List Str}(hS:StrsAre vs ss)(nd:ss.Nodup):Kz (O:=strKind.toKeyOrd) Js (pairsOf vs):=by
 unfold Kz
 rw[pairsOf_toList]
 have e:(vs.zip vs).map Js=ss.map λz=>z.cps.toList:=by
  rw[<-hS.strs,List.map_map]
  have:(vs.zip vs).map Js=((vs.zip vs).map Prod.fst).map λv=>(strOf v).cps.toList:=by rw[List.map_map];rfl
  rw[this,List.map_fst_zip (Nat.le_refl _)];rfl
 rw[e]
 unfold List.Nodup at nd ⊢
 rw[List.pairwise_map]
 exact nd.imp λh e=>h (OD e)
theorem ND {a:Addr}{vs:List Value}{ss:List Str}{n:Nat}{P:PySem.Fin->Shared->Prop}(ho:s.heap.get? a=some (seqObj "list" vs.toArray n))(hS:StrsAre vs ss)(nd:ss.Nodup)(hz:vs.length<=sizeLine)
 (h:∀(out:Array Value) (ss':List Str),StrsAre out.toList ss'->ss'.Perm ss->sortedS ss'=true->P (.done (.ret .none)) { s with heap:=sortedHeap s.heap a vs out }):
 wpAny (model prog w) A (Builtin.«list.sort» ⟨[.ref a],[]⟩) P E s:=by
 rcases Nat.lt_or_ge vs.length 64 with l|l
 ·refine list_sort_treeK strKind_oneLt ho hS.keysOf (λv₁ v₂ rest e=>keyKind_strs (by rw[<-e];exact hS)) l λst' a1 a2=>?_
  obtain⟨ss',b1,b2,b3⟩:=sorted_out_str hS a1 a2
  exact h _ ss' b1 b2 b3
 ·obtain⟨v₁,v₂,rest,rfl⟩:∃v₁ v₂ rest,vs=v₁::v₂::rest:=by
   match vs,l with
   |v₁::v₂::rest,_=>exact⟨v₁,v₂,rest,rfl⟩
  refine Ob ho (by simp) hz (κ:=oneType') (O:=strKind.toKeyOrd) (key:=Js) (NC hS nd) (λg _=>⟨λR hR=>?_,Oc hS⟩) λxs a1 a2=>?_
  ·rw[keyKind_strs hS];exact wpAny_pure hR
  ·have mem:∀i (hi:i < xs.size),∃z t,xs[i].1=.str z t:=λi hi=>by
    have m:xs[i]∈(pairsOf (v₁::v₂::rest)).toList:=(Array.perm_iff_toList_perm.mp a1).mem_iff.mp (by simp)
    rw[pairsOf_toList]at m
    exact hS.all _ (mem_zip_self m).2
   have kk:∀i (hi:i < xs.size),KK strKind xs i=Js xs[i]:=λi hi=>by
    obtain⟨z,t,e⟩:=mem i hi
    rw[KK_str hi (x:=z) (t:=t) (q:=xs[i].2) (Prod.ext e rfl)]
    unfold Js;rw[e];rfl
   obtain⟨ss',b1,b2,b3⟩:=sorted_out_str hS a1 (λi j hij hj=>by
    rw[<-a1.size_eq]at hj
    rw[kk i (by omega),kk j hj]
    rcases Nat.lt_or_ge i j with l|l
    ·have:=List.pairwise_iff_getElem.mp a2 i j (by simp;omega) (by simpa using hj) l
     rw[Array.getElem_toList,Array.getElem_toList]at this
     exact this
    ·have:i=j:=by omega
     subst this
     exact KeyOrd.kle_refl _)
   exact h _ ss' b1 b2 b3
end
section
variable {prog:Program}{w:World}{A:Around}{E:Value->Shared->Prop}{s:Shared}{T:String}{r d:Addr}{n:Nat}{P:Nat->Value->Prop}{OK:Heap->Prop}
theorem Jt {R:List Value->Shared->Prop}(K:KdlSrc prog w T r d n P OK)(hh:A.handled=none)(hok:OK s.heap)(hn:n<=sizeLine)
 (h:∀(g:Heap) (tk:Nat) (acc:Array Value),s.heap.objs.size<=g.objs.size->(∀b o,s.heap.get? b=some o->g.get? b=some o)->ItemsOf P acc n->R acc.toList { s with heap:=g,toks:=tk }):
 wpAny (model prog w) A (collect (.ref r)) R E s:=by
 obtain⟨l1,l2⟩:=K.there _ hok
 unfold collect
 refine wpAny_bind (wpAny_runValue (codeAny_builtin F.entry_proto_collect ?_))
 rw[Around.under_plainId F.plain_proto_collect _]
 refine wpAny_bind (wpAny_newObj_type (wpAny_pure ⟨plainId_quiet F.plain_list_iadd _,codeAny_builtin F.entry_list_iadd ?_⟩))
 rw[Around.under_plainId F.plain_list_iadd _]
 have g0:(s.heap.push { cls:=.type "list",data:=.seq ([]:List Value).toArray }).get? s.heap.objs.size=some { cls:=.type "list",data:=.seq #[] }:=Heap.get?_push_size _ rfl
 refine wpAny_mono (kdl_extend (A:=A) (s:={ s with heap:=s.heap.push { cls:=.type "list",data:=.seq ([]:List Value).toArray } })
  (R:=λ(q:Result) (s':Shared)=>∃(g:Heap) (tk:Nat) (xs:Array Value) (c':Nat),q=.ok (.ret (.ref s.heap.objs.size))/\s'={ s with heap:=g,toks:=tk }/\(∀b o,s.heap.get? b=some o->g.get? b=some o)/\
   g.get? s.heap.objs.size=some { cls:=.type "list",dict:=none,data:=.seq xs c',slots:=#[] }/\ItemsOf P xs n)
  K hh (K.keep _ _ hok λb _ o e=>Heap.get?_push_of_some _ e) s.heap.objs.size (Nat.ne_of_gt l1) (Nat.ne_of_gt l2) (.ref s.heap.objs.size) 0 g0
  (λg tk xs c' k1 k2 k3=>⟨g,tk,xs,c',rfl,rfl,λb o e=>k1 b o (Nat.ne_of_lt (Heap.lt_size e)) (Heap.get?_push_of_some _ e),k2,k3⟩) hn) (λf s' x=>?_) λe s' x=>?_
 ·cases f with
  |done f=>
   obtain⟨g,tk,xs,c',e,rfl,k1,k2,k3⟩:=x
   cases e
   exact wpAny_bind (wpAny_load k2 (wpAny_pure (h g tk xs (Nat.le_of_lt (Heap.lt_size k2)) k1 k3)))
  |again c₁=>
   refine⟨x.1,codeAny_mono x.2 λq s₂ y=>?_⟩
   obtain⟨g,tk,xs,c',rfl,rfl,k1,k2,k3⟩:=y
   exact wpAny_bind (wpAny_load k2 (wpAny_pure (h g tk xs (Nat.le_of_lt (Heap.lt_size k2)) k1 k3)))
 ·obtain⟨_,_,_,_,z,_⟩:=x
  cases z
end
section
variable {X:Cx}
theorem JD (hc:X.calm=true):Bg X (.builtin "sorted") (λvs H Q=>∃(a:Addr) (kvs:List (Key×V)) (zs:List Str),vs=[.ref a]/\Rd H a (.dK kvs)/\kvs.map (·.1)=zs.map Sum.inr/\zs.Nodup/\
 ∀(ss':List Str) (l:Addr),ss'.Perm zs->sortedS ss'=true->H l=none->Q (.ref l) (upd H l (.lst (ss'.map V.str)))):=by
 intro pins s σ H xs us Q I r h
 obtain⟨a,kvs,zs,rfl,hq,hk,nd,q⟩:=h
 obtain⟨u,rfl,ru⟩:=vals1 r
 cases(show u=Value.ref a from ru)
 have hh:X.A.in1.handled=none:=I.ok.hd hc
 obtain⟨z,hy,vs,rv,dd⟩:=Qd I.hok hq
 obtain⟨o,es,ep,ho,hrest⟩:=id dd
 have da:s.heap.DictAt (As X.prog X.w) a vs ep:=⟨o,es,ho,hrest⟩
 have vl:=rv.length
 refine Calls.call_function_entry kind_sorted plain_sorted entry_sorted (args_sorted1 _) ?_
 unfold Builtin.«sorted»
 refine wpAny_bind (m:=checkCount "sorted" 1 1 _) (wpAny_pure ?_)
 have K:=kdl_dict (prog:=X.prog) (w:=X.w) (knd:=As X.prog X.w) (kvs:=vs) (ep:=ep) hy
 refine wpAny_bind (Jt (A:=X.A.in1) K hh da (by rw[<-vl];exact z) λh1 tk acc sz old1 hacc=>?_)
 have zl:zs.length=vs.length:=by
  have:=congrArg List.length hk
  rw[List.length_map,List.length_map]at this
  omega
 have hS:StrsAre acc.toList zs:=by
  refine Cb (Ls ?_ λi x u hx hu=>?_)
  ·simp[hacc.1,zl]
  ·rw[List.getElem?_map]at hx
   rw[Array.getElem?_toList]at hu
   have il:i < zs.length:=by
    rw[zl,<-hacc.1];exact(Array.getElem?_eq_some_iff.mp hu).1
   obtain⟨kk,xx,e1,e2⟩:=hacc.2 i u hu
   have ki:(kvs.map (·.1))[i]?=some kk:=by
    have il':i < kvs.length:=by omega
    rw[List.getElem?_map,List.getElem?_eq_getElem il']
    obtain⟨y,ey,_⟩:=RF rv (k:=kvs[i].1) (v:=kvs[i].2) (List.getElem?_eq_getElem il')
    rw[ey]at e1
    cases e1;rfl
   rw[hk,List.getElem?_map,List.getElem?_eq_getElem il]at ki
   rw[List.getElem?_eq_getElem il]at hx
   cases hx
   cases ki
   exact Sm e2
 have al:acc.toList.length<=sizeLine:=by rw[Array.length_toList,hacc.1,<-vl];exact z
 refine wpAny_bind (wpAny_newList ?_ al)
 have hL:(h1.push (seqObj "list" acc.toList.toArray 0)).get? h1.objs.size=some (seqObj "list" acc.toList.toArray 0):=Heap.get?_push_size _ rfl
 refine wpAny_bind (wpAny_holding (wpAny_call_entry slot_list_sort ⟨_,hL,rfl⟩ entry_list_sort (ND (s:={ s with heap:=h1.push (seqObj "list" acc.toList.toArray 0),toks:=tk }) hL hS nd al λout ss' b1 b2 b3=>⟨_,rfl,?_⟩) (args_list_sort _)))
 obtain⟨e,he⟩:=sortedHeap_at (out:=out) hL
 have old:∀b o,s.heap.get? b=some o->(sortedHeap (h1.push (seqObj "list" acc.toList.toArray 0)) h1.objs.size acc.toList out).get? b=some o:=λb o eb=>by
  have lt:=Heap.lt_size (old1 _ _ eb)
  rw[sortedHeap_old (Nat.ne_of_lt lt) (by rw[show(h1.push (seqObj "list" acc.toList.toArray 0)).objs.size=h1.objs.size+1 from Heap.size_push ..];exact Nat.lt_succ_of_lt lt)]
  exact Heap.get?_push_of_some _ (old1 _ _ eb)
 have I2:=I.laid (t':=tk) old sz (show Ax X.prog X.w _ _ _ (.lst (ss'.map V.str))from⟨by rw[List.length_map,b2.length_eq,zl,<-vl];exact z,out.toList,e,Ci b1,he⟩)
 exact wpAny_pure ⟨_,rfl,.ref h1.objs.size,_,I2,rfl,q ss' _ b2 b3 (I.hok.fresh sz)⟩
def L8:V->List V->Hp->VK->Prop:=λx vs H Q=>∃(l:Addr) (ss:List Str) (y:Str),x=.ref l/\vs=[.str y]/\H l=some (.lst (ss.map V.str))/\y∈ss/\ss.length<=10000/\Q (.int ((ss.idxOf y:Nat):Int)) H
theorem NF:R5 X "list.index" L8:=by
 intro pins s σ H x vs v us Q I rx rv h
 obtain⟨l,ss,y,rfl,rfl,hH,hm,hl,q⟩:=h
 cases rx
 obtain⟨u,rfl,ru⟩:=rv.one
 have ru0:=ru
 obtain⟨ty,rfl⟩:=ru
 obtain⟨z,its,n,r,hz,e⟩:=I.GV hH
 have rl:=r.length
 rw[List.length_map]at rl
 have jl:ss.idxOf y < ss.length:=List.idxOf_lt_length_of_mem hm
 have key:∀(j:Nat) (hj:j < its.toArray.size),F4 (V.str y) its.toArray[j]=(ss[j]'(by rw[rl];simpa using hj)==y):=λj hj=>by
  have hj':j < ss.length:=by rw[rl];simpa using hj
  obtain⟨w',e1,e2⟩:=r.get (i:=j) (x:=V.str (ss[j])) (by rw[List.getElem?_map,List.getElem?_eq_getElem hj'];rfl)
  obtain⟨t',rfl⟩:=e2
  have:its.toArray[j]=Value.str ss[j] t':=by
   rw[List.getElem?_eq_getElem (by omega)]at e1
   simpa using Option.some.inj e1
  rw[this]
  rfl
 refine call_meets F.slot_list_index ⟨_,e,rfl⟩ F.entry_list_index (F.args_list_index_2 _ _) (SeqAt.list_indexAt l its.toArray n none #[] (.str y ty) (F4 (V.str y)) (ss.idxOf y) (by rw[List.size_toArray];omega) (by omega) ?_ ?_) ⟨e,λu hu=>Bv (x:=V.str y) ru0 rfl r (Bp ss) u (by simpa using hu),?_⟩
 ·rw[key _ (by rw[List.size_toArray];omega),List.getElem_idxOf jl];exact beq_self_eq_true y
 ·intro m hm' hlt
  rw[key m hm']
  have:=List.not_of_lt_findIdx (p:=(·==y)) (xs:=ss) (i:=m) hlt
  simpa using this
 ·exact⟨.int _,H,I.tok _,⟨_,rfl⟩,q⟩
theorem NG (K:PySem.W.Frag){o e:Expr}{to te:TE}{apos cpos:Pos}(ho:PE X o to)(he:PE X e te)(hK:X.K=K:=by rfl)(hbase:attributeBase o "index" X.env (eval o X.env)=eval o X.env:=by rfl)
 (h1:starEach [e] X.env=[(false,eval e X.env)]:=by rfl)(hl:(apos.endLine==cpos.line)=true:=by rfl):
 PE X (.Call (.Attribute o "index" apos) [e] [] cpos) (QY K "list" L8 to (Fo te JY)):=by
 subst hK
 exact Ej PySem.F.plainAttrs_list PySem.F.slot_list_index PySem.F.type_list_index NF ho (AA he AB h1) hbase (by rw[h1];rfl) hl h1 (by rfl)
theorem Fc {e:Option Expr}{c:Option Expr}{pos:Pos}:PS X (.Raise e c pos) (λ_ _ _=>False):=λ_ _ _ _ _ _ h=>h.elim
end
end L2
namespace L2
open PySem PySem.Spec PyProof.Rows PySem.W
section
variable {X:Cx}
def L9:V->List V->Hp->VK->Prop:=λx vs H Q=>∃(l:Addr) (ss:List Str) (y:Str),x=.ref l/\vs=[.str y]/\H l=some (.lst (ss.map V.str))/\Q (.int ((ss.count y:Nat):Int)) H
theorem NH:R5 X "list.count" L9:=by
 intro pins s σ H x vs v us Q I rx rv h
 obtain⟨l,ss,y,rfl,rfl,hH,q⟩:=h
 cases rx
 obtain⟨u,rfl,ru⟩:=rv.one
 have ru0:=ru
 obtain⟨ty,rfl⟩:=ru
 obtain⟨z,its,n,r,hz,e⟩:=I.GV hH
 refine call_meets F.slot_list_count ⟨_,e,rfl⟩ F.entry_list_count (F.args_list_count_2 _ _) (SeqAt.list_countAt l its.toArray n none #[] (.str y ty) (F4 (V.str y))) ⟨e,λu hu=>Bv (x:=V.str y) ru0 rfl r (Bp ss) u (by simpa using hu),?_⟩
 have key:∀(ms:List Str) (us:List Value),Vals (ms.map V.str) us->us.countP (F4 (V.str y))=ms.count y:=by
  intro ms
  induction ms with
  |nil=>intro us hv;cases hv;rfl
  |cons m ms ih=>
   intro us hv
   cases hv with
   |cons h t=>
    obtain⟨tk,rfl⟩:=h
    rw[List.countP_cons,List.count_cons,ih _ t]
    rfl
 have ek:its.toArray.toList.countP (F4 (V.str y))=ss.count y:=by rw[List.toList_toArray];exact key ss its r
 exact⟨.int _,H,I.tok _,⟨_,by rw[ek]⟩,q⟩
theorem Fd (K:PySem.W.Frag){o e:Expr}{to te:TE}{apos cpos:Pos}(ho:PE X o to)(he:PE X e te)(hK:X.K=K:=by rfl)(hbase:attributeBase o "count" X.env (eval o X.env)=eval o X.env:=by rfl)
 (h1:starEach [e] X.env=[(false,eval e X.env)]:=by rfl)(hl:(apos.endLine==cpos.line)=true:=by rfl):
 PE X (.Call (.Attribute o "count" apos) [e] [] cpos) (QY K "list" L9 to (Fo te JY)):=by
 subst hK
 exact Ej PySem.F.plainAttrs_list PySem.F.slot_list_count PySem.F.type_list_count NH ho (AA he AB h1) hbase (by rw[h1];rfl) hl h1 (by rfl)
variable {e st:Expr}{te:TE}{ts:TO}{pos p2:Pos}
end
section
variable {X:Cx}{tg:Expr}
end
section
variable {NL:List Str}{ix:List Nat}{g:TG}{tt:TT}{te:TE}{σ:St}{H1:Hp}{Qs:Hp->Prop}{acc:Addr}
end
section
variable {X:Cx}
theorem K1 (K:PySem.W.Frag){o e:Expr}{to te:TE}{apos cpos:Pos}(ho:PE X o to)(he:PE X e te)(hK:X.K=K:=by rfl)(hbase:attributeBase o "startswith" X.env (eval o X.env)=eval o X.env:=by rfl)
 (h1:starEach [e] X.env=[(false,eval e X.env)]:=by rfl)(hl:(apos.endLine==cpos.line)=true:=by rfl):
 PE X (.Call (.Attribute o "startswith" apos) [e] [] cpos) (QY K "str" (λx vs H Q=>∃z p,x=.str z/\vs=[.str p]/\Q (.bl (Txt.startswith z p)) H) to (Fo te JY)):=by
 subst hK
 exact IA ho he hbase h1 hl
end
end L2
namespace L2
open PySem PySem.Spec PyProof.Rows PySem.W
section
variable {X:Cx}
def MA:V->List V->Hp->VK->Prop:=λx vs H Q=>∃(l:Addr) (ss:List Int) (y:Int),x=.ref l/\vs=[.int y]/\H l=some (.lst (ss.map V.int))/\y∈ss/\ss.length<=10000/\Q (.int ((ss.idxOf y:Nat):Int)) H
theorem NI:R5 X "list.index" MA:=by
 intro pins s σ H x vs v us Q I rx rv h
 obtain⟨l,ss,y,rfl,rfl,hH,hm,hl,q⟩:=h
 cases rx
 obtain⟨u,rfl,ru⟩:=rv.one
 have ru0:=ru
 obtain⟨ty,rfl⟩:=ru
 obtain⟨z,its,n,r,hz,e⟩:=I.GV hH
 have rl:=r.length
 rw[List.length_map]at rl
 have jl:ss.idxOf y < ss.length:=List.idxOf_lt_length_of_mem hm
 have key:∀(j:Nat) (hj:j < its.toArray.size),F4 (V.int y) its.toArray[j]=(ss[j]'(by rw[rl];simpa using hj)==y):=λj hj=>by
  have hj':j < ss.length:=by rw[rl];simpa using hj
  obtain⟨w',e1,e2⟩:=r.get (i:=j) (x:=V.int (ss[j])) (by rw[List.getElem?_map,List.getElem?_eq_getElem hj'];rfl)
  obtain⟨t',rfl⟩:=e2
  have:its.toArray[j]=Value.int ss[j] t':=by
   rw[List.getElem?_eq_getElem (by omega)]at e1
   simpa using Option.some.inj e1
  rw[this]
  rfl
 refine call_meets F.slot_list_index ⟨_,e,rfl⟩ F.entry_list_index (F.args_list_index_2 _ _) (SeqAt.list_indexAt l its.toArray n none #[] (.int y ty) (F4 (V.int y)) (ss.idxOf y) (by rw[List.size_toArray];omega) (by omega) ?_ ?_) ⟨e,λu hu=>Bv (x:=V.int y) ru0 rfl r (Bo ss) u (by simpa using hu),?_⟩
 ·rw[key _ (by rw[List.size_toArray];omega),List.getElem_idxOf jl];exact beq_self_eq_true y
 ·intro m hm' hlt
  rw[key m hm']
  have:=List.not_of_lt_findIdx (p:=(·==y)) (xs:=ss) (i:=m) hlt
  simpa using this
 ·exact⟨.int _,H,I.tok _,⟨_,rfl⟩,q⟩
theorem NJ (K:PySem.W.Frag){o e:Expr}{to te:TE}{apos cpos:Pos}(ho:PE X o to)(he:PE X e te)(hK:X.K=K:=by rfl)(hbase:attributeBase o "index" X.env (eval o X.env)=eval o X.env:=by rfl)
 (h1:starEach [e] X.env=[(false,eval e X.env)]:=by rfl)(hl:(apos.endLine==cpos.line)=true:=by rfl):
 PE X (.Call (.Attribute o "index" apos) [e] [] cpos) (QY K "list" MA to (Fo te JY)):=by
 subst hK
 exact Ej PySem.F.plainAttrs_list PySem.F.slot_list_index PySem.F.type_list_index NI ho (AA he AB h1) hbase (by rw[h1];rfl) hl h1 (by rfl)
end
end L2
namespace L2
section
variable {NL:List PySem.Str}{ix:List Nat}{g:TG}{tt:TT}{te:TE}{σ:St}{H1:Hp}{Qs:Hp->Prop}{acc:PySem.Addr}
theorem NK {K:PySem.W.Frag}{a:PySem.Addr}{xs:List V}(hn:xs.length < 1000)(Pv:Nat->List V->Hp->Prop)
 (hl:∀i ys H2,Pv i ys H2->Ce K H2 a xs)(hacc:∀i ys H2,Pv i ys H2->H2 acc=some (.lst ys)/\ys.length<=i)(h0:Pv 0 [] (upd H1 acc (.lst [])))(hstop:∀ys H2,Pv xs.length ys H2->Qs H2)
 (hturn:∀i x ys H2,xs[i]?=some x->Pv i ys H2->g x (BK NL ix σ) H2 λσ' H4=>σ'.drop NL.length=ix.map (λj=>σ.getD j none)/\tt σ' H4 λb H5=>
  if b=true then te σ' H5 λv H6=>H6 acc=some (.lst ys)/\Pv (i+1) (ys++[v]) (upd H6 acc (.lst (ys++[v])))else Pv (i+1) ys H5):
 ∃W:Nat->Nat->List V->Hp->Prop,(∃m,W 0 m [] (upd H1 acc (.lst [])))/\
 ∀i m ys H2,W i m ys H2->H2 acc=some (.lst ys)/\ys.length < PySem.sizeLine/\
  (((SS K a).stop i H2/\Qs H2)\/((SS K a).go i H2/\∃N:List V->Hp->Prop,(∀ys' H',N ys' H'->∃m',m' < m/\W (i+1) m' ys' H')/\
    ∀x H3,(SS K a).yld i H2 x H3->g x (BK NL ix σ) H3 λσ' H4=>σ'.drop NL.length=ix.map (λj=>σ.getD j none)/\tt σ' H4 λb H5=>
     if b=true then te σ' H5 λv H6=>H6 acc=some (.lst ys)/\N (ys++[v]) (upd H6 acc (.lst (ys++[v])))else N ys H5)):=by
 refine By xs.length hn Pv hacc h0 (λys H2 hp=>⟨⟨xs,hl _ _ _ hp,Nat.le_refl _⟩,hstop ys H2 hp⟩) λi ys H2 hi hp=>?_
 have hs:=hl _ _ _ hp
 refine⟨⟨xs,xs[i],hs,List.getElem?_eq_getElem hi⟩,?_⟩
 rintro x H3 ⟨rfl,hx⟩
 exact hturn i x ys H3 (hx xs hs) hp
end
end L2
namespace L2
open PySem PySem.Spec PyProof.Rows PySem.W
section
variable {X:Cx}
theorem least_le (f:Nat->Int):∀n,argBest (λi j=>decide (f i < f j)) n<=n/\∀i,i<=n->f (argBest (λi j=>decide (f i < f j)) n)<=f i
 |0=>⟨Nat.le_refl _,λi h=>by have:i=0:=by omega
                             subst this;exact Int.le_refl _⟩
 |n+1=>by
  obtain⟨a,b⟩:=least_le f n
  unfold argBest
  by_cases h:f (n+1) < f (argBest (λi j=>decide (f i < f j)) n)
  ·rw[decide_eq_true h,if_pos rfl]
   refine⟨Nat.le_refl _,λi hi=>?_⟩
   rcases Nat.lt_or_ge i (n+1)with c|c
   ·have:=b i (by omega);omega
   ·have:i=n+1:=by omega
    rw[this];exact Int.le_refl _
  ·rw[decide_eq_false h,if_neg Bool.false_ne_true]
   refine⟨by omega,λi hi=>?_⟩
   rcases Nat.lt_or_ge i (n+1)with c|c
   ·exact b i (by omega)
   ·have:i=n+1:=by omega
    rw[this];omega
end
end L2
namespace L2
open PySem PySem.Spec PyProof.Rows PySem.W
section
variable {X:Cx}
theorem Ft (ns:List Int):∀j,j<=ns.length->preSum (λi=>ns.getD i 0) j=(ns.take j).sum
 |0,_=>rfl
 |j+1,h=>by
  show preSum _ j+ns.getD j 0=_
  rw[Ft ns j (by omega),List.take_succ,List.getElem?_eq_getElem (by omega),List.sum_append,List.getD_eq_getElem?_getD,List.getElem?_eq_getElem (by omega)]
  simp
theorem IJ (ns:List Int)(h:∀n∈ns,0<=n/\n<=1000000):∀j,j<=ns.length->0<=preSum (λi=>ns.getD i 0) j/\preSum (λi=>ns.getD i 0) j<=1000000*(j:Int)
 |0,_=>⟨Int.le_refl _,Int.le_refl _⟩
 |j+1,hj=>by
  obtain⟨a,b⟩:=IJ ns h j (by omega)
  have e:ns.getD j 0∈ns:=by rw[List.getD_eq_getElem?_getD,List.getElem?_eq_getElem (by omega)];exact List.getElem_mem _
  obtain⟨c,d⟩:=h _ e
  show 0<=preSum _ j+ns.getD j 0/\preSum _ j+ns.getD j 0<=_
  omega
theorem Eu {i:Int}(h0:0<=i)(h1:i<=10000000000):InLong i:=
 ⟨Int.le_trans (by decide) h0,Int.lt_of_le_of_lt h1 (by decide)⟩
theorem Fe (K:PySem.W.Frag)(hc:X.calm=true)(hK:X.K=K:=by rfl):Bg X (.builtin "sum") (λvs H Q=>∃(a:Addr) (ns:List Int),vs=[.ref a]/\AZ K H a (ns.map V.int)/\(∀n∈ns,0<=n/\n<=1000000)/\ns.length<=10000/\Q (.int ns.sum) H):=by
 subst hK
 intro pins s σ H xs us Q I r h
 obtain⟨a,ns,rfl,hl,hb,hlen0,q⟩:=h
 obtain⟨u,rfl,ru⟩:=vals1 r
 cases(show u=Value.ref a from ru)
 obtain⟨its,rv,ht,hz⟩:=I.list hl
 have hlen:=rv.length
 rw[List.length_map]at hlen
 have hh:X.A.in1.handled=none:=I.ok.hd hc
 have hlt:a < s.heap.objs.size:=by obtain⟨o,e,_⟩:=ht.isList;exact Heap.lt_size e
 refine call_sum_walk (wpAny_pyIter_list ht.isList ⟨s.heap.objs.size,_,_,_,_,_,(λi=>ns.getD i 0),rfl,Walks.list hh s.heap.objs.size a (Nat.ne_of_lt hlt) its.toArray,?_,?_,?_,?_,?_⟩)
 ·exact⟨⟨_,Heap.get?_push_size _ rfl,rfl,rfl⟩,Heap.IsList.push ht.isList _⟩
 ·intro b hb
  have:b=s.heap.objs.size\/b=a:=by simpa using hb
  show b < (s.heap.objs.push _).size
  rw[Array.size_push]
  rcases this with rfl|rfl
  ·exact Nat.lt_succ_self _
  ·exact Nat.lt_succ_of_lt hlt
 ·intro i v hv
  have hv':its[i]?=some v:=by simpa using hv
  have hi:i < (ns.map V.int).length:=by rw[List.length_map,hlen];exact(List.getElem?_eq_some_iff.mp hv').1
  obtain⟨u',e1,e2⟩:=rv.get (List.getElem?_eq_getElem hi)
  rw[hv']at e1
  cases e1
  rw[List.getElem_map]at e2
  obtain⟨t,e2⟩:∃t,v=Value.int _ t:=e2
  have hb:ns.getD i 0=ns[i]'(by simpa using hi):=by rw[List.getD_eq_getElem?_getD,List.getElem?_eq_getElem (by simpa using hi)];rfl
  exact⟨t,by show v=Value.int (ns.getD i 0) t;rw[hb];exact e2⟩
 ·intro j hj
  rw[List.size_toArray,<-hlen]at hj
  have e:ns.getD j 0∈ns:=by rw[List.getD_eq_getElem?_getD,List.getElem?_eq_getElem hj];exact List.getElem_mem _
  obtain⟨c,d⟩:=hb _ e
  obtain⟨p,p2⟩:=IJ ns hb (j+1) (by omega)
  exact⟨Eu (i:=ns.getD j 0) c (by omega),Eu p (by omega)⟩
 ·intro h' tk t' hk
  rw[List.size_toArray,<-hlen,Ft ns _ (Nat.le_refl _),List.take_length]
  exact⟨.int _,H,I.kept (t':=tk) λb o e=>hk b o (by simp;exact Nat.ne_of_lt (Heap.lt_size e)) (Heap.get?_push_of_some _ e),⟨_,rfl⟩,q⟩
end
end L2
namespace L2
open PySem PySem.Spec PyProof.Rows PySem.W Tim
section
variable {prog:Program}{w:World}{A:Around}{E:Value->Shared->Prop}{s:Shared}
theorem IK (xs:List V):CU xs xs=false:=by
 induction xs with
 |nil=>rfl
 |cons x xs ih=>unfold CU;rw[if_pos rfl];exact ih
end
section
variable {X:Cx}
end
end L2
namespace L2
open PySem PySem.Spec PyProof.Rows PySem.W
theorem Cu:entryFor table "max.loop"=some Builtin.«max.loop»:=by kernel_rfl
theorem BG:plainId "max.loop"=true:=by kernel_rfl
theorem kind_max:builtinKind "max"=none:=by kernel_rfl
theorem plain_max:plainId "max"=true:=by kernel_rfl
theorem entry_max:entryFor table "max"=some Builtin.«max»:=by kernel_rfl
def Ew (kf:Nat->Int)(b j:Nat):Prop:=b < j/\∀i,i < j->kf i<=kf b/\(i < b->kf i < kf b)
theorem Ew.one (kf:Nat->Int):Ew kf 0 1:=⟨by omega,λi hi=>⟨by rw[show i=0 by omega];exact Int.le_refl _,λh=>by omega⟩⟩
theorem Ew.F2 {kf:Nat->Int}{b j:Nat}(h:Ew kf b j)(hn:¬kf b < kf j):Ew kf b (j+1):=⟨by have:=h.1;omega,λi hi=>by
 rcases Nat.lt_or_ge i j with q|q
 ·exact h.2 i q
 ·have:i=j:=by omega
  subst this
  exact⟨by omega,λz=>by have:=h.1;omega⟩⟩
theorem Ew.new {kf:Nat->Int}{b j:Nat}(h:Ew kf b j)(hn:kf b < kf j):Ew kf j (j+1):=⟨by omega,λi hi=>by
 rcases Nat.lt_or_ge i j with q|q
 ·have:=(h.2 i q).1
  exact⟨by omega,λ_=>by omega⟩
 ·have:i=j:=by omega
  subst this
  exact⟨Int.le_refl _,λz=>by omega⟩⟩
section
variable {X:Cx}{pins:List (Addr×Obj)}{σ:St}
def Ra (X:Cx)(A1:Around)(pins0:List (Addr×Obj))(σ:St)(H0:Hp)(fv:Value)(xs:List V)(kf:Nat->Int):Prop:=
 ∀(i:Nat) (x:V) (v:Value) (pins:List (Addr×Obj)) (H:Hp) (s:Shared),xs[i]?=some x->RelV x v->(∀p∈pins0,p∈pins)->Inv X pins σ H s->AJ H0 H->
  wpAny (model X.prog X.w) A1 (call fv [v]) (EP X pins σ λk H'=>k=.int (kf i)/\AJ H H') (λ_ _=>False) s
variable {A:Around}{R:Result->Shared->Prop}{H0:Hp}{a fa S It:Addr}{xs:List V}{kf:Nat->Int}
theorem Inv.Sx {pl:List (Addr×Obj)}{H:Hp}{s:Shared}(I:Inv X pins σ H s)(h:∀p∈pl,s.heap.get? p.1=some p.2/\B2 X pins H p.1/\∀v,p.2.data≠Data.cell v):Inv X (pins++pl) σ H s:=I.GD λp hp=>by
 rcases List.mem_append.mp hp with q|q
 ·exact I.pin p (List.mem_append_right _ q)
 ·obtain⟨h1,h2,h3⟩:=h p q
  exact⟨h1,h2.1,h2.2.1,h2.2.2.1,h3⟩
theorem Od {H:Hp}{s:Shared}{j:Nat}(I:Inv X pins σ H s)(sl:AZ X.K H a xs)(fI:B2 X pins H It)(hit:s.heap.IsListIter It a j):a≠It:=λe=>by
 rcases sl with q|q
 ·rcases q with q|⟨o,q⟩<;>(rw[e,fI.1]at q;cases q)
 ·obtain⟨o,_,_,q,hc,_⟩:=q
  have e1:=I.JP a o q
  obtain⟨o2,e2,hc2,_⟩:=hit
  rw[e,e2]at e1
  cases e1
  rw[hc2]at hc
  exact absurd (Value.type.inj hc) (by decide)
theorem GI {H:Hp}{s:Shared}{j:Nat}{x:V}{sv:Array Value}{c:Nat}{Q:Option Value->Shared->Prop}{E:Value->Shared->Prop}{g0:Value->Sem (Option Value)}(I:Inv X pins σ H s)(fI:B2 X pins H It)(SI:S≠It)(sl:AZ X.K H a xs)(hh:A.handled=none)
 (hit:s.heap.IsListIter It a j)(hS:s.heap.get? S=some (seqObj "list" sv c))(hx:xs[j]?=some x)
 (h:∀(v:Value) (s':Shared),RelV x v->Inv X pins σ H s'->s'.heap.IsListIter It a (j+1)->s'.heap.get? S=some (seqObj "list" sv c)->Q (some v) s'):
 wpAny (model X.prog X.w) A ((pyNext (.ref It)).tryCatch g0) Q E s:=by
 obtain⟨its,rv,ht,hz⟩:=I.list sl
 have aI:=Od I sl fI hit
 have jl:j < xs.length:=(List.getElem?_eq_some_iff.mp hx).1
 have il:j < its.toArray.size:=by rw[List.size_toArray,<-rv.length];exact jl
 refine wpAny_tryCatch ((Walks.list (prog:=X.prog) (w:=X.w) hh It a aI its.toArray).item j s _ _ il ⟨hit,ht.isList⟩ λv h' tk hv st' kp=>?_)
 have I1:Inv X pins σ H { s with heap:=h',toks:=tk }:=I.BF (tk:=tk) (ch:=[It]) (λb hb=>by rw[List.mem_singleton.mp hb];exact fI) λb ob hb q=>kp b ob hb q
 refine h v _ ?_ I1 st'.1 (kp S _ (by simpa using SI) hS)
 obtain⟨u',e1,e2⟩:=rv.get hx
 have hv':its[j]?=some v:=by simpa using hv
 rw[hv']at e1
 cases e1
 exact e2
theorem Oe {H:Hp}{s:Shared}{j j':Nat}{x:V}{v:Value}{sv:Array Value}{c:Nat}{Q:Value->Shared->Prop}{E:Value->Shared->Prop}{g0:Value->Sem Value}(I:Inv X pins σ H s)(s0:AJ H0 H)(fS:B2 X pins H S)(fI:B2 X pins H It)
 (F:Ra X A pins σ H0 (.ref fa) xs kf)(hit:s.heap.IsListIter It a j')(hS:s.heap.get? S=some (seqObj "list" sv c))(hx:xs[j]?=some x)(rx:RelV x v)
 (h:∀(t:Tok) (H':Hp) (s':Shared),Inv X pins σ H' s'->AJ H0 H'->B2 X pins H' S->B2 X pins H' It->s'.heap.IsListIter It a j'->s'.heap.get? S=some (seqObj "list" sv c)->Q (.int (kf j) t) s'):
 wpAny (model X.prog X.w) A ((holding [v] (call (.ref fa) [v])).tryCatch g0) Q E s:=by
 obtain⟨oI,hoI,cI,dI⟩:=id hit
 have I2:Inv X (pins++[(S,seqObj "list" sv c),(It,oI)]) σ H s:=I.Sx λp hp=>by
  simp only[List.mem_cons,List.not_mem_nil,or_false]at hp
  rcases hp with rfl|rfl
  ·exact⟨hS,fS,λv z=>by cases z⟩
  ·exact⟨hoI,fI,λv z=>by rw[dI]at z;cases z⟩
 refine wpAny_tryCatch (wpAny_holding (wpAny_mono (F j x v _ H _ hx rx (λp hp=>List.mem_append_left _ hp) I2 s0) (λu s'' hu=>?_) λ_ _ z=>z.elim))
 obtain⟨kv,H',I',ru,rfl,S'⟩:=hu
 obtain⟨t,rfl⟩:=ru
 have p1:=I'.pin (S,seqObj "list" sv c) (List.mem_append_right _ (List.mem_append_right _ (by simp)))
 have p2:=I'.pin (It,oI) (List.mem_append_right _ (List.mem_append_right _ (by simp)))
 exact h t H' s'' I'.C1 (s0.trans S') ⟨p1.2.1,fS.2⟩ ⟨p2.2.1,fI.2⟩ ⟨oI,p2.1,cI,dI⟩ p1.1
theorem Ff (SI:S≠It)(hl:AZ X.K H0 a xs)(hh:A.in1.handled=none)(F:Ra X A.in1 pins σ H0 (.ref fa) xs kf)
 (fin:∀(H':Hp) (s':Shared) (b:Nat) (x:V) (v:Value),Inv X pins σ H' s'->AJ H0 H'->xs[b]?=some x->RelV x v->Ew kf b xs.length->R (.ok (.ret v)) s'):
 ∀(m j b:Nat) (H:Hp) (s:Shared) (x:V) (vb:Value) (tb:Tok) (c:Nat),xs.length - j=m->1<=j->j<=xs.length->Inv X pins σ H s->AJ H0 H->B2 X pins H S->B2 X pins H It->s.heap.IsListIter It a j->s.heap.get? S=some (seqObj "list" #[vb,.int (kf b) tb] c)->
  xs[b]?=some x->RelV x vb->Ew kf b j->codeAny (model X.prog X.w) A (.builtin "max.loop" ⟨[.ref It,.ref fa,.ref S],[]⟩) R s
 |0,j,b,H,s,x,vb,tb,c,hm,h1,hj,I,s0,fS,fI,hit,hS,hb,rb,best=>by
  have ej:j=xs.length:=by omega
  subst ej
  refine codeAny_builtin Cu ?_
  rw[Around.under_plainId BG _]
  show wpAny _ _ (seqItems? (.ref S) >>= _) _ _ _
  refine wpAny_bind (wpAny_seqItems hS rfl ?_)
  have sl:=s0.seq hl
  obtain⟨its,rv,ht,hz⟩:=I.list sl
  have aI:=Od I sl fI hit
  have il:xs.length=its.toArray.size:=by rw[List.size_toArray,<-rv.length]
  refine wpAny_bind (wpAny_tryCatch ((Walks.list (prog:=X.prog) (w:=X.w) hh It a aI its.toArray).done s _ _ ⟨by rw[<-il];exact hit,ht.isList⟩ λh' tk kp=>?_))
  have I1:Inv X pins σ H { s with heap:=h',toks:=tk }:=I.BF (tk:=tk) (ch:=[It]) (λb hb=>by rw[List.mem_singleton.mp hb];exact fI) λb ob hb q=>kp b ob hb q
  have hS1:h'.get? S=some (seqObj "list" #[vb,.int (kf b) tb] c):=kp S _ (by simpa using SI) hS
  show wpAny _ _ (updateSeq S (λ_=>#[]) >>= _) _ _ _
  refine wpAny_bind (wpAny_updateSeq (s:={ s with heap:=h',toks:=tk }) hS1 rfl ?_ (by show 2<=_;decide) (Nat.zero_le _))
  refine wpAny_bind (wpAny_letGo (wpAny_pure ?_))
  exact fin H _ b x vb (I1.BF (tk:=tk) (ch:=[S]) (λb hb=>by rw[List.mem_singleton.mp hb];exact fS) λb ob hb q=>(Heap.get?_update_ne _ _ _ _ (by simpa using hb)).trans q) s0 hb rb best
 |m+1,j,b,H,s,x,vb,tb,c,hm,h1,hj,I,s0,fS,fI,hit,hS,hb,rb,best=>by
  have lj:j < xs.length:=by omega
  refine codeAny_builtin Cu ?_
  rw[Around.under_plainId BG _]
  show wpAny _ _ (seqItems? (.ref S) >>= _) _ _ _
  refine wpAny_bind (wpAny_seqItems hS rfl ?_)
  refine wpAny_bind (GI (A:=A.in1) I fI SI (s0.seq hl) hh hit hS (List.getElem?_eq_getElem lj) λv s1 rv I1 hit1 hS1=>?_)
  show wpAny _ _ (Sem.tryCatch (holding [v] (call (.ref fa) [v])) _ >>= _) _ _ _
  refine wpAny_bind (Oe I1 s0 fS fI F hit1 hS1 (List.getElem?_eq_getElem lj) rv λt H' s' I' s0' fS' fI' hit' hS'=>?_)
  refine wpAny_bind (wpAny_tryCatch (wpAny_holding ?_))
  refine wpAny_bind ((CmpOf.ints_gt (prog:=X.prog) (w:=X.w) (A:=A.in1) (P:=λi v=>∃t,v=Value.int (kf i) t) kf λi v h=>h) j b _ _ s' _ _ ⟨t,rfl⟩ ⟨tb,rfl⟩ ?_)
  refine wpAny_bind (wpAny_holding (wpAny_truthy_bool ?_))
  refine wpAny_bind (wpAny_letGo (wpAny_pure ?_))
  by_cases cnd:kf j > kf b
  ·simp only[decide_eq_true cnd,if_true]
   refine wpAny_bind (wpAny_updateSeq hS' rfl ?_ (by show 2<=_;decide) (by show 2<=_;decide))
   refine wpAny_bind (wpAny_letGo (wpAny_pure ⟨plainId_quiet BG _,?_⟩))
   obtain⟨c',hS2⟩:∃c',(s'.heap.update S (Obj.mapSeq λ_=>#[v,.int (kf j) t])).get? S=some (seqObj "list" #[v,.int (kf j) t] c'):=⟨_,get?_update_seq hS' λ_=>#[v,.int (kf j) t]⟩
   have ku:∀b o,b≠S->s'.heap.get? b=some o->(s'.heap.update S (Obj.mapSeq λ_=>#[v,.int (kf j) t])).get? b=some o:=λb o hb e=>(Heap.get?_update_ne _ _ _ _ hb).trans e
   exact Ff SI hl hh F fin m (j+1) j H' { s' with heap:=s'.heap.update S (Obj.mapSeq λ_=>#[v,.int (kf j) t]),toks:=s'.toks } _ v t c' (by omega) (by omega) lj (I'.BF (tk:=s'.toks) (ch:=[S]) (λb hb=>by rw[List.mem_singleton.mp hb];exact fS') λb ob hb q=>ku b ob (by simpa using hb) q) s0' fS' fI'
    (Heap.IsListIter.at hit' λo e=>ku _ o (Ne.symm SI) e) hS2 (List.getElem?_eq_getElem lj) rv (best.new cnd)
  ·simp only[decide_eq_false cnd,Bool.false_eq_true,if_false]
   refine wpAny_bind (wpAny_letGo (wpAny_pure ⟨plainId_quiet BG _,?_⟩))
   exact Ff SI hl hh F fin m (j+1) b H' s' x vb tb c (by omega) (by omega) lj I' s0' fS' fI' hit' hS' hb rb (best.F2 cnd)
theorem NM {E:Value->Shared->Prop}{H:Hp}{s:Shared}{Q:Value->Shared->Prop}(I:Inv X pins σ H s)(hl:AZ X.K H a xs)(ne:xs≠[])(hh:A.in1.handled=none)(F:Ra X A.in1 pins σ H (.ref fa) xs kf)
 (fin:∀(H':Hp) (s':Shared) (b:Nat) (x:V) (v:Value),Inv X pins σ H' s'->AJ H H'->xs[b]?=some x->RelV x v->Ew kf b xs.length->Q v s'):
 wpAny (model X.prog X.w) A (call (.builtin "max") [.ref a] [(Str.ofString "key",.ref fa)]) Q E s:=by
 have l0:0 < xs.length:=List.length_pos_iff.mpr ne
 obtain⟨its,rv,ht,hz⟩:=I.list hl
 refine kmk_tree kind_max plain_max entry_max (kmk_max_key _ _) ?_
 show wpAny _ _ (pyIter (.ref a) >>= _) _ _ _
 refine wpAny_bind (wpAny_pyIter_list ht.isList ?_)
 refine wpAny_bind (wpAny_newList ?_ (Nat.zero_le _))
 refine wpAny_pure ⟨plainId_quiet BG _,?_⟩
 generalize hg:(s.heap.push { cls:=.type "list_iterator",data:=.fields #[.ref a,.int 0 0] })=g
 have zg:g.objs.size=s.heap.objs.size+1:=by rw[<-hg];exact Heap.size_push ..
 have kg:∀b o,s.heap.get? b=some o->g.get? b=some o:=λb o e=>by rw[<-hg];exact Heap.get?_push_of_some _ e
 have hi:g.IsListIter s.heap.objs.size a 0:=⟨_,by rw[<-hg];exact Heap.get?_push_size _ rfl,rfl,rfl⟩
 have hS:(g.push (seqObj "list" #[] 0)).get? g.objs.size=some (seqObj "list" #[] 0):=Heap.get?_push_size _ rfl
 have k1:∀b o,g.get? b=some o->(g.push (seqObj "list" #[] 0)).get? b=some o:=λb o e=>Heap.get?_push_of_some _ e
 have I1:Inv X pins σ H { s with heap:=g.push (seqObj "list" #[] 0),toks:=s.toks }:=I.kept (t':=s.toks) λb o e=>k1 b o (kg b o e)
 have fI:B2 X pins H s.heap.objs.size:=I.GS (Nat.le_refl _) (I.hok.fresh (Nat.le_refl _))
 have fS:B2 X pins H g.objs.size:=I.GS (by omega) (I.hok.fresh (by omega))
 have SI:g.objs.size≠s.heap.objs.size:=by omega
 show codeAny _ A (.builtin "max.loop" ⟨[.ref s.heap.objs.size,.ref fa,.ref g.objs.size],[]⟩) _ { s with heap:=g.push (seqObj "list" #[] 0),toks:=s.toks }
 refine codeAny_builtin Cu ?_
 rw[Around.under_plainId BG _]
 show wpAny _ _ (seqItems? (.ref g.objs.size) >>= _) _ _ { s with heap:=g.push (seqObj "list" #[] 0),toks:=s.toks }
 refine wpAny_bind (wpAny_seqItems hS rfl ?_)
 refine wpAny_bind (GI (A:=A.in1) I1 fI SI hl hh (Heap.IsListIter.at hi λo e=>k1 _ o e) hS (List.getElem?_eq_getElem l0) λv s1 rv I1 hit1 hS1=>?_)
 show wpAny _ _ (Sem.tryCatch (holding [v] (call (.ref fa) [v])) _ >>= _) _ _ _
 refine wpAny_bind (Oe I1 (AJ.refl H) fS fI F hit1 hS1 (List.getElem?_eq_getElem l0) rv λt H' s' I' s0' fS' fI' hit' hS'=>?_)
 show wpAny _ _ (updateSeq g.objs.size _ >>= _) _ _ _
 refine wpAny_bind (wpAny_updateSeq hS' rfl ?_ (Nat.zero_le _) (by show 2<=_;decide))
 refine wpAny_pure ⟨plainId_quiet BG _,?_⟩
 obtain⟨c',hS2⟩:∃c',(s'.heap.update g.objs.size (Obj.mapSeq λ_=>#[v,.int (kf 0) t])).get? g.objs.size=some (seqObj "list" #[v,.int (kf 0) t] c'):=⟨_,get?_update_seq hS' λ_=>#[v,.int (kf 0) t]⟩
 have ku:∀b o,b≠g.objs.size->s'.heap.get? b=some o->(s'.heap.update g.objs.size (Obj.mapSeq λ_=>#[v,.int (kf 0) t])).get? b=some o:=λb o hb e=>(Heap.get?_update_ne _ _ _ _ hb).trans e
 exact Ff SI hl hh F (λH' s' b x v a1 a2 a3 a4 a5=>fin H' s' b x v a1 a2 a3 a4 a5) (xs.length - 1) 1 0 H' { s' with heap:=s'.heap.update g.objs.size (Obj.mapSeq λ_=>#[v,.int (kf 0) t]),toks:=s'.toks } _ v t c' rfl (Nat.le_refl _) l0
  (I'.BF (tk:=s'.toks) (ch:=[g.objs.size]) (λb hb=>by rw[List.mem_singleton.mp hb];exact fS') λb ob hb q=>ku b ob (by simpa using hb) q) s0' fS' fI' (Heap.IsListIter.at hit' λo e=>ku _ o (Ne.symm SI) e) hS2 (List.getElem?_eq_getElem l0) rv (Ew.one kf)
end
section
variable {X:Cx}
def JE (K:PySem.W.Frag)(ls:List Lm)(ix:List Nat)(tb:TE)(σ:St)(Q:VK)(x:V)(H1:Hp):Prop:=∃(a:Addr) (xs:List V) (kf:Nat->Int),x=.ref a/\AZ K H1 a xs/\xs≠[]/\Ct ls H1/\
 (∀(i:Nat) (x:V) (H2:Hp),xs[i]?=some x->Kt ls H1 H2->tb (Mz x ix σ) H2 λk H3=>k=.int (kf i)/\AJ H2 H3)/\∀(b:Nat) (x:V) (H2:Hp),xs[b]?=some x->Ew kf b xs.length->Kt ls H1 H2->Q x H2
def Px (K:PySem.W.Frag)(ls:List Lm)(ix:List Nat)(te tb:TE):TE:=λσ H Q=>te σ H (JE K ls ix tb σ Q)
theorem Py:bootBuiltins "max"=some (.builtin "max"):=by kernel_rfl
theorem NN (K:PySem.W.Frag){k:Nat}{P c0:Addr}{ls:List Lm}{x:Str}{ix:List Nat}{e:Expr}{params:Arguments}{body:Expr}{scope:Scope}{lp kpos p pos:Pos}{te tb:TE}
 (hr:CK k X.A)(hcalm:X.calm=true)(hg:Gl X "max")(hm:X.mg "max"=none)(he:PE X e te)(hcode:X.env.code=.ref c0)(CH:CodeHd X.base c0 P)(hb:X.base.BuiltinsAt X.mg P)(lk:OF ls)(li:(P,lp,X.env.qual++"<lambda>")∈ls)(S:Bn X scope [x] ix)
 (ht:∀(qual:Str) (cl:List (Str×Addr)) (fa:Addr) (cd:Value) (A1:Around) (s₃:Shared) (H₃:Hp) (pins:List (Addr×Obj)),PE (Gd X scope [x] ix qual cl fa cd A1 s₃ H₃ pins) body tb)
 (hx:scope.names.lookup x=some .local:=by rfl)(hco:scope.isCoroutine=false:=by rfl)(hgen:scope.isGenerator=false:=by rfl)(hdef:defaultsOf params X.env=([],[]):=by rfl)
 (hbind:∀(qual:Str) (cl:List (Str×Addr)) (pm:Value) (c:Addr) (ctv u:Value),bindArgs (kla_fn "<lambda>" qual params body scope cl pm (.ref c) ctv) ⟨[u],[]⟩=pure [(x,u)]:=by intros;rfl)
 (hs:starEach [e] X.env=[(false,eval e X.env)]:=by rfl)(hK:X.K=K:=by rfl):
 PE X (.Call (.Name "max" p) [e] [⟨some "key",.Lambda params body scope lp,kpos⟩] pos) (Px K ls ix te tb):=by
 subst hK
 intro pins s σ H Q I h
 obtain⟨cl,hcl,c1,c2⟩:=ER (scope:=scope) (env:=X.env) λy hy=>by
  rcases S.free _ hy rfl with z|z
  ·exact I.ok.has y (.inl z)
  ·exact I.ok.has y (.inr z)
 refine wpAny_Call_Name_kw (CJ I hg hm Py ?_)
 refine callWith_kw (BO ((AA he AB hs) pos pins s σ H (λxs H1=>match xs with|[x]=>JE X.K ls ix tb σ Q x H1|_=>False) I h) λus s1 ⟨xs,H1,I1,r1,q1⟩=>?_) (by rw[hs];rfl) (by rw[hs];rfl)
 obtain⟨x0,ex0,q1⟩:∃x0,xs=[x0]/\JE X.K ls ix tb σ Q x0 H1:=by
  cases xs with
  |nil=>exact False.elim q1
  |cons x0 rest=>
   cases rest with
   |nil=>exact⟨x0,rfl,q1⟩
   |cons _ _=>exact False.elim q1
 subst ex0
 obtain⟨a,xs,kf,rfl,hl,ne,L,hbody,hend⟩:=q1
 obtain⟨u,rfl,ru⟩:=vals1 r1
 cases(show u=Value.ref a from ru)
 show wpAny _ _ (evalAll [do let v<-eval (.Lambda params body scope lp) X.env;standAt pos;pure v]) _ _ s1
 refine wpAny_evalAll_cons (wpAny_bind (OH (P:=P) (c0:=c0) I1 hcl hcode CH hb lk li L hdef λfa c pm ctv H2 s2 kt hc I2=>wpAny_bind (wpAny_standAt (wpAny_pure (wpAny_evalAll_nil ?_)))))
 show wpAny _ _ (call (.builtin "max") [.ref a] [(Str.ofString "key",.ref fa)]) _ _ s2
 have hA:X.A.handled=none:=I.ok.hd hcalm
 refine NM (kf:=kf) I2 (kt.seq hl) ne hA (λi x v pins' H' s' hxi rv hsub I' S'=>?_) λH' s' b x v I' S' hb rx best=>?_
 ·have pf:=(I'.pin (fa,kla_obj "<lambda>" (X.env.qual++"<lambda>") params body scope cl pm c ctv) (List.mem_append_right _ (hsub _ (List.mem_append_right _ List.mem_cons_self)))).1
  have hcd:=(I'.hok c _ (S' _ _ hc)).1
  exact OG (te:=tb) S I' c1 c2 pf hcd I.ok.frames hA hr.depth (hbind _ _ _ _ _) hx hco hgen (λs₃ H₃=>ht _ _ _ _ _ s₃ H₃ pins') rv (hbody i x H' hxi (kt.same S'))
 ·exact⟨x,H',I'.C1,rx,hend b x H' hb best (kt.same S')⟩
end
end L2
namespace L2
open PySem PySem.Spec PyProof.Rows PySem.W
theorem Cv:entryFor table "min.loop"=some Builtin.«min.loop»:=by kernel_rfl
theorem BH:plainId "min.loop"=true:=by kernel_rfl
theorem kind_min:builtinKind "min"=none:=by kernel_rfl
theorem plain_min:plainId "min"=true:=by kernel_rfl
theorem entry_min:entryFor table "min"=some Builtin.«min»:=by kernel_rfl
def MB (lt:Nat->Nat->Bool)(b j:Nat):Prop:=b < j/\∀i,i < j->lt i b=false
section
variable {X:Cx}{pins:List (Addr×Obj)}{σ:St}{A:Around}{R:Result->Shared->Prop}{H:Hp}{a S It:Addr}{as:List Addr}{K:Nat->List V}{sh:List Nat}
end
section
variable {X:Cx}
end
end L2
namespace W56
open PySem
end W56
namespace W56
open PySem
end W56
namespace L2
open PySem PySem.Spec PyProof.Rows PySem.W
theorem Di {xs:Array Nat}{j k:Nat}(hk:∀a,a < xs.size->(xs.getD a j < j↔a < k)):∀fuel lo hi,lo<=k->k<=hi->hi<=xs.size->hi - lo<=fuel->SetTable.below.go xs j fuel lo hi=k
 |0,lo,hi,h1,h2,h3,h4=>by
  unfold SetTable.below.go
  omega
 |fuel+1,lo,hi,h1,h2,h3,h4=>by
  unfold SetTable.below.go
  by_cases c:lo < hi
  ·rw[if_pos c]
   dsimp only
   have hm:=hk ((lo+hi) / 2) (by omega)
   by_cases d:xs.getD ((lo+hi) / 2) j < j
   ·rw[if_pos d]
    have:=hm.mp d
    exact Di hk fuel _ _ (by omega) h2 h3 (by omega)
   ·rw[if_neg d]
    have:¬(lo+hi) / 2 < k:=λz=>d (hm.mpr z)
    exact Di hk fuel _ _ h1 (by omega) (by omega) (by omega)
  ·rw[if_neg c];omega
theorem CZ {xs:Array Nat}(h:SetTable.rising xs=true):∀b a,a < b->b < xs.size->xs.getD a 0 < xs.getD b 0
 |0,a,h1,_=>absurd h1 (Nat.not_lt_zero _)
 |b+1,a,h1,h2=>by
  unfold SetTable.rising at h
  rw[List.all_eq_true]at h
  have hb:=of_decide_eq_true (h b (List.mem_range.mpr (by omega)))
  rcases Nat.lt_or_ge a b with l|l
  ·exact Nat.lt_trans (CZ (by unfold SetTable.rising;rw[List.all_eq_true];exact h) b a l (by omega)) hb
  ·have:a=b:=by omega
   rw[this];exact hb
theorem Gv {xs:Array Nat}{a:Nat}(h:a < xs.size)(c d:Nat):xs.getD a c=xs.getD a d:=by
 rw[Array.getD_eq_getD_getElem?,Array.getD_eq_getD_getElem?,Array.getElem?_eq_getElem h];rfl
theorem K2 (xs:Array Nat):SetTable.below xs 0=0:=by
 unfold SetTable.below
 exact Di (λa _=>⟨λh=>absurd h (Nat.not_lt_zero _),λh=>absurd h (Nat.not_lt_zero _)⟩) _ _ _ (Nat.le_refl _) (Nat.zero_le _) (Nat.le_refl _) (by omega)
theorem K3 {xs:Array Nat}(h:SetTable.rising xs=true){i:Nat}(hi:i < xs.size):SetTable.below xs (xs.getD i 0+1)=i+1:=by
 unfold SetTable.below
 refine Di (λa ha=>?_) _ _ _ (Nat.zero_le _) (by omega) (Nat.le_refl _) (by omega)
 rw[Gv ha _ 0]
 constructor
 ·intro l
  rcases Nat.lt_or_ge a (i+1)with q|q
  ·exact q
  ·have:=CZ h a i (by omega) ha
   omega
 ·intro l
  rcases Nat.lt_or_ge a i with q|q
  ·have:=CZ h i a q hi
   omega
  ·have:a=i:=by omega
   rw[this];omega
theorem NO {xs:Array Nat}(h:SetTable.rising xs=true):xs.toList.Pairwise (·<·):=by
 rw[List.pairwise_iff_getElem]
 intro i j hi hj hij
 have hj':j < xs.size:=by simpa using hj
 have:=CZ h j i hij hj'
 rw[Array.getD_eq_getD_getElem?,Array.getD_eq_getD_getElem?,Array.getElem?_eq_getElem (by omega),Array.getElem?_eq_getElem hj']at this
 simpa using this
theorem Fg {xs:Array Nat}(h:xs.toList.Pairwise (·<·)):SetTable.rising xs=true:=by
 unfold SetTable.rising
 rw[List.all_eq_true]
 intro i hi
 have hi':=List.mem_range.mp hi
 rw[decide_eq_true_eq,Array.getD_eq_getD_getElem?,Array.getD_eq_getD_getElem?,Array.getElem?_eq_getElem (by omega),Array.getElem?_eq_getElem (by omega)]
 have:=List.pairwise_iff_getElem.mp h i (i+1) (by simp;omega) (by simp;omega) (by omega)
 simpa using this
theorem Ju {xs:Array Nat}(h:SetTable.rising xs=true)(j:Nat):∀n,n<=xs.size->∃k,k<=n/\∀a,a < n->(xs.getD a j < j↔a < k)
 |0,_=>⟨0,Nat.le_refl _,λa ha=>absurd ha (Nat.not_lt_zero _)⟩
 |n+1,hn=>by
  obtain⟨k,hk,hs⟩:=Ju h j n (by omega)
  rcases Nat.lt_or_ge k n with l|l
  ·refine⟨k,by omega,λa ha=>?_⟩
   rcases Nat.lt_or_ge a n with q|q
   ·exact hs a q
   ·have:a=n:=by omega
    subst this
    have h1:=CZ h a k l (by omega)
    have h2:¬xs.getD k j < j:=λz=>absurd ((hs k l).mp z) (Nat.lt_irrefl _)
    rw[Gv (by omega) j 0]at h2 ⊢
    constructor
    ·intro z;omega
    ·intro z;omega
  ·have kn:k=n:=by omega
   by_cases c:xs.getD n j < j
   ·refine⟨n+1,Nat.le_refl _,λa ha=>⟨λ_=>ha,λ_=>?_⟩⟩
    rcases Nat.lt_or_ge a n with q|q
    ·exact(hs a q).mpr (by omega)
    ·have:a=n:=by omega
     rw[this];exact c
   ·refine⟨n,by omega,λa ha=>?_⟩
    rcases Nat.lt_or_ge a n with q|q
    ·rw[<-kn];exact hs a q
    ·have:a=n:=by omega
     rw[this]
     exact⟨λz=>absurd z c,λz=>absurd z (Nat.lt_irrefl _)⟩
theorem Of {xs:Array Nat}(h:SetTable.rising xs=true)(j:Nat):SetTable.below xs j<=xs.size/\∀a,a < xs.size->(xs.getD a 0 < j↔a < SetTable.below xs j):=by
 obtain⟨k,hk,hs⟩:=Ju h j xs.size (Nat.le_refl _)
 have e:SetTable.below xs j=k:=by
  unfold SetTable.below
  exact Di hs _ _ _ (Nat.zero_le _) hk (Nat.le_refl _) (by omega)
 rw[e]
 exact⟨hk,λa ha=>by rw[<-Gv ha j 0];exact hs a ha⟩
theorem K4 {xs:Array Nat}(h:SetTable.rising xs=true){j:Nat}(hn:xs[SetTable.below xs j]?≠some j):SetTable.rising (SetTable.insertAt xs (SetTable.below xs j) j)=true:=by
 obtain⟨b1,b2⟩:=Of h j
 generalize SetTable.below xs j=k at b1 b2 hn
 apply Fg
 have pw:=NO h
 have e:(SetTable.insertAt xs k j).toList=xs.toList.take k++[j]++xs.toList.drop k:=by
  unfold SetTable.insertAt
  simp[List.extract_eq_drop_take]
  exact List.take_of_length_le (by simp)
 rw[e,List.append_assoc,List.pairwise_append]
 refine⟨pw.sublist (List.take_sublist _ _),?_,λa ha b hb=>?_⟩
 ·rw[List.singleton_append,List.pairwise_cons]
  refine⟨λb hb=>?_,pw.sublist (List.drop_sublist _ _)⟩
  obtain⟨i,hi,ei⟩:=List.getElem_of_mem hb
  rw[List.length_drop,Array.length_toList]at hi
  rw[List.getElem_drop]at ei
  have q:=b2 (k+i) (by omega)
  rw[Array.getD_eq_getD_getElem?,Array.getElem?_eq_getElem (by omega)]at q
  have ei':xs[k+i]'(by omega)=b:=by simpa using ei
  have nb:¬b < j:=λz=>by
   have:=q.mp (by show xs[k+i] < j;rw[ei'];exact z)
   omega
  rcases Nat.eq_or_lt_of_le (Nat.le_of_not_lt nb)with z|z
  ·exfalso
   rcases Nat.eq_zero_or_pos i with i0|i0
   ·subst i0
    apply hn
    rw[Array.getElem?_eq_getElem (by omega)]
    exact congrArg some (ei'.trans z.symm)
   ·have lt:=CZ h (k+i) k (by omega) (by omega)
    have q0:=b2 k (by omega)
    rw[Array.getD_eq_getD_getElem?,Array.getD_eq_getD_getElem?,Array.getElem?_eq_getElem (by omega),Array.getElem?_eq_getElem (by omega)]at lt
    rw[Array.getD_eq_getD_getElem?,Array.getElem?_eq_getElem (by omega)]at q0
    have lt':xs[k]'(by omega) < xs[k+i]'(by omega):=lt
    have:xs[k]'(by omega) < j:=by
     have l2:xs[k]'(by omega) < b:=ei'▸lt'
     omega
    have:=q0.mp this
    omega
  ·exact z
 ·obtain⟨i,hi,ei⟩:=List.getElem_of_mem ha
  rw[List.length_take,Array.length_toList]at hi
  rw[List.getElem_take]at ei
  have q:=b2 i (by omega)
  rw[Array.getD_eq_getD_getElem?,Array.getElem?_eq_getElem (by omega)]at q
  have ei':xs[i]'(by omega)=a:=by simpa using ei
  have aj:a < j:=by rw[<-ei'];exact q.mpr (by omega)
  rcases List.mem_append.mp hb with hb|hb
  ·rw[List.mem_singleton.mp hb];exact aj
  ·obtain⟨m,hm,em⟩:=List.getElem_of_mem hb
   rw[List.length_drop,Array.length_toList]at hm
   rw[List.getElem_drop]at em
   have:=List.pairwise_iff_getElem.mp pw i (k+m) (by simp;omega) (by simp;omega) (by omega)
   rw[em]at this
   rw[<-ei']
   simpa using this
theorem MC (f:Nat->Option Nat):∀l:List Nat,l.Pairwise (·<·)->((l.filterMap λj=>(f j).map ((j,·))).map (·.1)).Pairwise (·<·)
 |[],_=>List.Pairwise.nil
 |x::l,h=>by
  obtain⟨h1,h2⟩:=List.pairwise_cons.mp h
  have ih:=MC f l h2
  cases e:f x with
  |none=>
   rw[List.filterMap_cons_none (by rw[e];rfl)]
   exact ih
  |some y=>
   rw[List.filterMap_cons_some (b:=(x,y)) (by rw[e];rfl),List.map_cons,List.pairwise_cons]
   refine⟨λz hz=>?_,ih⟩
   obtain⟨p,hp,rfl⟩:=List.mem_map.mp hz
   obtain⟨a,ha,ea⟩:=List.mem_filterMap.mp hp
   cases ef:f a with
   |none=>rw[ef]at ea;cases ea
   |some b=>
    rw[ef]at ea
    cases ea
    exact h1 _ ha
theorem Fu {mask fg mv:Nat}{led pl:Bool}{hs:Array Int}{t:SetTable}{order:Array Nat}(h:SetTable.laid mask fg mv led pl hs=some (t,order)):SetTable.rising t.place=true/\t.dummies=#[]/\t.plain=pl/\t.led=led:=by
 unfold SetTable.laid at h
 cases e:SetTable.layClean mask hs with
 |none=>rw[e]at h;cases h
 |some owner=>
  rw[e]at h
  have h':(({ mask,place:=(((List.range (mask+1)).filterMap λj=>(owner.getD j none).map ((j,·))).map (·.1)).toArray,dummies:=#[],finger:=fg,led,moves:=mv,plain:=pl }:SetTable),(((List.range (mask+1)).filterMap λj=>(owner.getD j none).map ((j,·))).map (·.2)).toArray)=(t,order):=Option.some.inj h
  injection h' with h1 _
  subst h1
  exact⟨Fg (by simpa using MC (λj=>owner.getD j none) _ List.pairwise_lt_range),rfl,rfl,rfl⟩
def Og (t:SetTable):Prop:=SetTable.rising t.place=true/\t.dummies=#[]
theorem Jv {t:SetTable}(hd:t.dummies=#[])(j:Nat):SetTable.has t.dummies j=false:=by
 rw[hd];unfold SetTable.has;simp
theorem K5 {t:SetTable}{j:Nat}(h:t.slot j=.empty):t.place[SetTable.below t.place j]?≠some j:=λe=>by
 unfold SetTable.slot at h
 dsimp only at h
 rw[if_pos (by rw[e];simp)]at h
 cases h
theorem Jw {t:SetTable}{hashAt:Nat->Int}{h:Int}(hd:t.dummies=#[]){j:Nat}{dm:Option Nat}:∀fuel p,p.dummy=none->SetTable.probe.go t hashAt h fuel p=some (.empty j dm)->t.slot j=.empty/\dm=none
 |0,p,_,e=>by unfold SetTable.probe.go at e;cases e
 |fuel+1,p,hp,e=>by
  unfold SetTable.probe.go at e
  have adv:(t.advance p).dummy=none:=by unfold SetTable.advance;split<;>exact hp
  cases es:t.slot p.j with
  |empty=>
   rw[es]at e
   dsimp only at e
   injection e with e
   injection e with e1 e2
   subst e1
   exact⟨es,by rw[<-e2];exact hp⟩
  |dummy=>
   exfalso
   unfold SetTable.slot at es
   dsimp only at es
   split at es
   ·cases es
   ·rw[Jv hd]at es
    simp at es
  |live i=>
   rw[es]at e
   dsimp only at e
   split at e
   ·injection e with e
    cases e
   ·exact Jw hd fuel _ adv e
theorem Ck (t:SetTable)(n:Nat):Og (t.standIn n):=⟨Fg (by simp[SetTable.standIn];exact List.pairwise_lt_range),rfl⟩
theorem Rb {t:SetTable}(h:Og t)(n:Nat):Og (t.orStandIn n):=by
 unfold SetTable.orStandIn
 split
 ·exact h
 ·exact Ck t n
theorem Pz {t:SetTable}(h:Og t)(es:Array (Int×Value))(hs:Int)(x:Value):Og (layNew t es hs x).2.1:=by
 unfold layNew
 cases e:t.freeSlot hs with
 |none=>exact Ck t _
 |some p=>
  obtain⟨slot,wd⟩:=p
  dsimp only
  refine Rb ?_ _
  unfold SetTable.freeSlot at e
  cases e2:t.probe (λ_=>hs+1) hs (t.probeStart hs)with
  |none=>rw[e2]at e;cases e
  |some m=>
   rw[e2]at e
   cases m with
   |candidate j i nx=>cases e
   |empty j dm=>
    dsimp only at e
    obtain⟨h1,h2⟩:=Jw h.2 _ _ rfl e2
    subst h2
    injection e with e
    injection e with e3 _
    have ej:slot=j:=e3.symm
    subst ej
    unfold SetTable.put
    dsimp only
    refine⟨K4 h.1 (K5 h1),?_⟩
    show(if SetTable.has t.dummies slot=true then _ else t.dummies)=#[]
    rw[Jv h.2,if_neg (by decide)]
    exact h.2
theorem NP {t:SetTable}(es:Array (Int×Value))(n:Nat):Og (relayAll t es n).2.1:=by
 unfold relayAll
 cases e:t.relaid (es.map (·.1)) n with
 |none=>exact Ck t _
 |some p=>
  obtain⟨t',order⟩:=p
  dsimp only
  split
  ·unfold SetTable.relaid at e
   exact⟨(Fu e).1,(Fu e).2.1⟩
  ·exact Ck t _
section
variable {prog:Program}{w:World}{A:Around}{E:Value->Shared->Prop}{s:Shared}
theorem EH {D:Addr}{slot i ep:Nat}{es:Array (Int×Value)}{t:SetTable}{Q:Option (Value×Nat)->Shared->Prop}(bt:w.params.followText "set-order"=false)(hD:s.heap.get? D=some { cls:=.type "set",data:=.set es ep t })(hf:t.fits es.size=true)(hl:t.led=true)(hp:t.plain=true)
 (h:Q (match es[SetTable.below t.place slot]?,t.place[SetTable.below t.place slot]? with|some (_,x),some j=>some (x,j+1)|_,_=>none) s):wpAny (model prog w) A (setNext D slot i ep) Q E s:=by
 unfold setNext
 refine wpAny_bind (wpAny_setState_of hD rfl hf ?_)
 dsimp only
 refine wpAny_bind (DC ?_)
 rw[bt,if_neg (by decide)]
 rw[if_neg (by
  show¬((!t.plain&&decide (es.size > 1))=true)
  rw[hp]
  simp)]
 refine wpAny_bind ?_
 show wpAny _ _ (if(!t.led&&!es.isEmpty)=true then _ else pure ()) _ _ _
 rw[if_neg (by rw[hl];simp)]
 exact wpAny_pure (wpAny_pure h)
def slotAt (t:SetTable):Nat->Nat
 |0=>0
 |i+1=>t.place.getD i 0+1
theorem Gw {t:SetTable}(h:Og t):∀{i:Nat},i<=t.place.size->SetTable.below t.place (slotAt t i)=i
 |0,_=>K2 _
 |i+1,hi=>K3 h.1 (by omega)
theorem Jx (bt:w.params.followText "set-order"=false)(hh:A.handled=none){I D:Addr}(DI:D≠I){es:Array (Int×Value)}{ep:Nat}{t:SetTable}(hf:t.fits es.size=true)(hl:t.led=true)(hp:t.plain=true)(hr:Og t):
 Walks prog w A I [I,D] [I] es.size (λi v=>(es.toList.map (·.2))[i]?=some v) (λi h=>h.get? I=some (Cc (rawInt ((slotAt t i:Nat):Int)) i D es.size ep)/\setAt D es ep t h) where
 sub:=λb hb=>by simp at hb;simp[hb]
 frame:=λi h h' st k=>⟨k I (by simp) _ st.1,k D (by simp) _ st.2⟩
 item:=λi s Q E hi st hQ=>by
  have pz:t.place.size=es.size:=by
   unfold SetTable.fits at hf
   simp only[Bool.and_eq_true,beq_iff_eq]at hf
   exact hf.1
  refine Bq st.1 (CD st.1 st.2 hf ?_)
  show wpAny _ _ (setNext D (slotAt t i) i ep >>= _) _ _ s
  refine wpAny_bind (EH bt st.2 hf hl hp ?_)
  rw[Gw hr (by omega),Array.getElem?_eq_getElem hi,Array.getElem?_eq_getElem (show i < t.place.size by omega)]
  dsimp only
  refine wpAny_bind (wpAny_setField st.1 rfl (by simp) ?_)
  have e1:(s.heap.update I (Obj.mapFields λvs=>vs.setIfInBounds 0 (rawInt ((t.place[i]+1:Nat):Int)))).get? I=some (Cc (rawInt ((t.place[i]+1:Nat):Int)) i D es.size ep):=by
   rw[Heap.get?_update_self _ st.1 rfl];rfl
  refine wpAny_bind (wpAny_setField (s:={ s with heap:=s.heap.update I (Obj.mapFields λvs=>vs.setIfInBounds 0 (rawInt ((t.place[i]+1:Nat):Int))) }) e1 rfl (by simp) (wpAny_pure ⟨_,rfl,?_⟩))
  refine hQ _ _ s.toks ?_ ⟨?_,?_⟩ (λb o hb eb=>?_)
  ·rw[List.getElem?_map,Array.getElem?_toList,Array.getElem?_eq_getElem hi];rfl
  ·have:=Er (g:=rawInt 0) (j:=0) e1
   have es1:slotAt t (i+1)=t.place[i]+1:=by
    show t.place.getD i 0+1=_
    rw[Array.getD_eq_getD_getElem?,Array.getElem?_eq_getElem (show i < t.place.size by omega)];rfl
   rw[es1]
   exact this
  ·exact(Heap.get?_update_ne _ _ _ _ DI).trans ((Heap.get?_update_ne _ _ _ _ DI).trans st.2)
  ·have nb:b≠I:=by simpa using hb
   rw[Heap.get?_update_ne _ _ _ _ nb,Heap.get?_update_ne _ _ _ _ nb];exact eb
 done:=λs Q E st hQ=>by
  have pz:t.place.size=es.size:=by
   unfold SetTable.fits at hf
   simp only[Bool.and_eq_true,beq_iff_eq]at hf
   exact hf.1
  refine Bq st.1 (CD st.1 st.2 hf ?_)
  show wpAny _ _ (setNext D (slotAt t es.size) es.size ep >>= _) _ _ s
  refine wpAny_bind (EH bt st.2 hf hl hp ?_)
  rw[Gw hr (by omega),Array.getElem?_eq_none (Nat.le_refl _)]
  dsimp only
  exact D0 (show A.in1.handled=none from hh) st.1 rfl (by simp) λh' e x ho=>⟨ho,⟨e,rfl⟩,hQ h' s.toks λb o hb eb=>x b o (by simpa using hb) eb⟩
 self:=λi s Q E st q=>D3 st.1 q
end
end L2
namespace L2I
open PySem PySem.Spec PyProof.Rows PySem.W L2
def keyOf (e:Int×Value):Int:=match e.2 with|.int x _=>x|_=>0
structure DB (w:World)(led:Bool)(es:Array (Int×Value))(t:SetTable)(S:List Int):Prop where
 ent:∀e∈es.toList,∃x tk,e=(hashInt x,Value.int x tk)
 nd:(es.toList.map keyOf).Nodup
 mem:∀x,x∈es.toList.map keyOf↔x∈S
 fit:t.fits es.size=true
 led:t.led=led
 ris:Og t
theorem BP {a b:List (Int×Value)}(p:a.Perm b):(a.map keyOf).Perm (b.map keyOf):=p.map _
theorem DB.grow {w:World}{led:Bool}{es es':Array (Int×Value)}{t t':SetTable}{S:List Int}{x:Int}{tk:Tok}(h:DB w led es t S)(nx:x∉S)(p:es'.toList.Perm (es.push (hashInt x,.int x tk)).toList)(f:t'.fits es'.size=true)(l:t'.led=led)(q:Og t'):DB w led es' t' (S++[x]) where
 ent:=λe he=>by
  have:=p.mem_iff.mp he
  rw[Array.toList_push]at this
  rcases List.mem_append.mp this with z|z
  ·exact h.ent e z
  ·exact⟨x,tk,List.mem_singleton.mp z⟩
 nd:=by
  rw[(BP p).nodup_iff,Array.toList_push,List.map_append,List.nodup_append]
  refine⟨h.nd,by simp,λa ha b hb=>?_⟩
  have hb':b=x:=by simpa[keyOf]using hb
  subst hb'
  exact λe=>nx (by rw[<-e];exact(h.mem a).mp ha)
 mem:=λy=>by
  rw[(BP p).mem_iff,Array.toList_push,List.map_append,List.mem_append,List.mem_append,h.mem y]
  simp[keyOf]
 fit:=f
 led:=l
 ris:=q
theorem DB.OI {w:World}{led:Bool}{es:Array (Int×Value)}{t:SetTable}{S:List Int}(h:DB w led es t S)(n:Nat):DB w led (relayAll t es n).1 (relayAll t es n).2.1 S where
 ent:=λe he=>h.ent e ((relayAll_perm t es n).mem_iff.mp he)
 nd:=by rw[(BP (relayAll_perm t es n)).nodup_iff];exact h.nd
 mem:=λy=>by rw[(BP (relayAll_perm t es n)).mem_iff];exact h.mem y
 fit:=relayAll_fits t es n
 led:=(FU t es n).1.trans h.led
 ris:=NP es n
structure Bl (w:World)(led:Bool)(h:Heap)(a:Addr)(S:List Int)(n:Nat):Prop where
 ex:∃es ep t,h.get? a=some { cls:=.type "set",data:=.set es ep t }/\DB w led es t S/\es.size<=n
section
variable {prog:Program}{w:World}{A:Around}{E:Value->Shared->Prop}{s:Shared}
theorem add_int {a:Addr}{S:List Int}{n:Nat}{led:Bool}{x:Int}{tk:Tok}{Q:Bool->Shared->Prop}(ha:Bl w led s.heap a S n)(hn:n+1 < scanBound)
 (h:∀b h',Heap.SameBut a s.heap h'->Bl w led h' a (S++[x]) (n+1)->Q b { s with heap:=h',toks:=s.toks+1 }):wpAny (model prog w) A (setAdd a (.int x tk)) Q E s:=by
 obtain⟨es,ep,t,hget,hS,hsz⟩:=ha
 have hsc:scanBound=4096:=rfl
 have is:(intKind prog w).is x (.int x tk)=true:=by show(x==x)=true;exact beq_self_eq_true x
 have elems:ElemsOf (intKind prog w) es.toList:=λe he=>by
  obtain⟨y,tk',rfl⟩:=hS.ent e he
  exact⟨⟨y,by show(y==y)=true;exact beq_self_eq_true y,rfl⟩,rfl⟩
 unfold setAdd
 refine wpAny_holding (wpAny_bind ((intKind prog w).pyHash is ?_))
 unfold setAddHashed
 refine wpAny_holding ?_
 rw[setAddHashedIn.eq_def]
 show wpAny _ _ (setState a >>= _) _ _ _
 refine wpAny_bind (wpAny_setState_of (s:={ s with toks:=s.toks+1 }) hget rfl hS.fit ?_)
 have bs:byScan (.int x tk) es=true:=by
  unfold byScan
  have h1:(Value.int x tk).scannable=true:=rfl
  have h2:(es.all λe=>e.2.scannable)=true:=by
   rw[Array.all_eq_true_iff_forall_mem]
   intro e he
   exact(elems e (Array.mem_toList_iff.mpr he)).2
  rw[h1,h2,decide_eq_true (by omega)];rfl
 dsimp only
 rw[if_pos bs]
 refine wpAny_bind ?_
 unfold setAddByScan
 refine wpAny_bind (wpAny_rule (wpAny_bind (wpAny_setScan_of (s:={ s with toks:=s.toks+1 }) is hget rfl hS.fit elems ?_)))
 cases ef:List.findIdx? (λe=>(intKind prog w).is x e.2) es.toList with
 |some j=>
  dsimp only
  refine wpAny_pure (wpAny_pure ?_)
  have xin:x∈S:=by
   rw[<-hS.mem x]
   obtain⟨hj,hp,_⟩:=List.findIdx?_eq_some_iff_getElem.mp ef
   have hm:=List.getElem_mem hj
   obtain⟨y,tk',e⟩:=hS.ent _ hm
   rw[e]at hp
   have:y=x:=eq_of_beq (show(y==x)=true from hp)
   subst this
   exact List.mem_map.mpr ⟨_,hm,by rw[e];rfl⟩
  refine h false s.heap (Heap.SameBut.refl ..) ⟨es,ep,t,hget,⟨hS.ent,hS.nd,λy=>?_,hS.fit,hS.led,hS.ris⟩,by omega⟩
  rw[hS.mem y,List.mem_append]
  constructor
  ·exact .inl
  ·rintro(z|z)
   ·exact z
   ·rw[List.mem_singleton.mp z];exact xin
 |none=>
  dsimp only
  have xout:x∉S:=λhin=>by
   rw[<-hS.mem x]at hin
   obtain⟨e,he,ek⟩:=List.mem_map.mp hin
   have:=List.findIdx?_eq_none_iff.mp ef e he
   obtain⟨y,tk',rfl⟩:=hS.ent e he
   have ey:y=x:=ek
   subst ey
   exact absurd (show(intKind prog w).is y (.int y tk')=true from(by show(y==y)=true;exact beq_self_eq_true y)) (by rw[this];simp)
  have lp:=layNew_perm t es ((intKind prog w).hash x) (.int x tk)
  have lf:=layNew_fits t es ((intKind prog w).hash x) (.int x tk)
  have lr:=Pz hS.ris es ((intKind prog w).hash x) (.int x tk)
  have ll:=Lu t es ((intKind prog w).hash x) (.int x tk)
  have lz:=lp.length_eq
  rw[Array.length_toList,Array.length_toList,Array.size_push]at lz
  generalize layNew t es ((intKind prog w).hash x) (.int x tk)=L at lp lf ll lz lr
  obtain⟨es1,t1,wd,gv⟩:=L
  dsimp only at lp lf ll lz lr ⊢
  have zl:sizeLine=268435455\/4096<=sizeLine:=.inr (by rw[sizeLine_eq];decide)
  have zz:es1.size<=sizeLine:=by rcases zl with z|z<;>omega
  refine wpAny_bind (GG ?_)
  have fin:∀t2:SetTable,t2.fits es1.size=true->t2.led=led->Og t2->
   wpAny (model prog w) A (do
    storeSet a es1 t2
    have __do_jp:Unit->Sem (Option Bool):=λ__r=>pure (some true)
    if(!wd&&t2.tooFull)=true then
     match relayAll t2 es1 (SetTable.grown es1.size)with
     |(es,t,gave)=>do
      (match gave with|true=>rule "set.scan.the-table-gave-way"|false=>pure ())
      let __r<-storeSet a es t
      __do_jp __r
    else __do_jp ()) (λr s'=>wpAny (model prog w) A (match r with|some added=>pure added|none=>setAddHashedIn a (.int x tk) ((intKind prog w).hash x) 99999) Q E s') E { s with toks:=s.toks+1 }:=λt2 f2 l2 p2=>by
   have g:=hS.grow (es':=es1) (t':=t2) (tk:=tk) xout lp f2 l2 p2
   refine wpAny_bind (Dy (s:={ s with toks:=s.toks+1 }) hget zz λh1 sb1 hg1=>?_)
   dsimp only
   split
   ·have gr:=g.OI (SetTable.grown es1.size)
    have rz:=(relayAll_perm t2 es1 (SetTable.grown es1.size)).length_eq
    rw[Array.length_toList,Array.length_toList]at rz
    generalize relayAll t2 es1 (SetTable.grown es1.size)=Rr at gr rz
    obtain⟨es3,t3,gv3⟩:=Rr
    dsimp only at gr rz ⊢
    refine wpAny_bind (GG ?_)
    refine wpAny_bind (Dy (s:={ s with heap:=h1,toks:=s.toks+1 }) hg1 (by omega) λh2 sb2 hg2=>?_)
    refine wpAny_pure (wpAny_pure ?_)
    exact h true h2 (sb1.trans sb2) ⟨es3,_,t3,hg2,gr,by omega⟩
   ·refine wpAny_pure (wpAny_pure ?_)
    exact h true h1 sb1 ⟨es1,_,t2,hg1,g,by omega⟩
  by_cases hp:t1.plain=true
  ·rw[if_pos hp,hashByValue.eq_3]
   refine wpAny_bind (wpAny_pure ?_)
   exact fin t1 lf (ll.trans hS.led) lr
  ·rw[if_neg hp]
   refine wpAny_bind (wpAny_pure ?_)
   exact fin t1 lf (ll.trans hS.led) lr
end
end L2I
namespace L2I
open PySem PySem.Spec PyProof.Rows PySem.W L2
section
variable {prog:Program}{w:World}{A:Around}{E:Value->Shared->Prop}{s:Shared}
theorem Gi {D:Addr}{es:Array (Int×Value)}{ep:Nat}{t:SetTable}{S:List Int}{Q:Value->Shared->Prop}(hD:setAt D es ep t s.heap)(hS:DB w (A5 w) es t S)(hz:es.size<=1000)
 (h:∀(I:Addr) (fp:List Addr) (St:Nat->Heap->Prop) (vs:List Value) (h1:Heap) (d:Drawn),(∀A':Around,A'.handled=none->Walks prog w A' I fp [I] es.size (λi v=>vs[i]?=some v) St)->St 0 h1->s.heap.objs.size<=I->(∀b∈fp,b < h1.objs.size)->(∀b o,s.heap.get? b=some o->h1.get? b=some o)->vs.Perm (es.toList.map (·.2))->h1.get? I≠none->(∀b∈fp,b=I\/b=D\/s.heap.objs.size<=b)->Q (.ref I) { s with heap:=h1,drawn:=d }):
 wpAny (model prog w) A (pyIter (.ref D)) Q E s:=by
 have hT:s.TypeIs (.ref D) "set":=⟨_,hD,rfl⟩
 have Dlt:D < s.heap.objs.size:=Heap.lt_size hD
 refine wpAny_pyIter_slot hT F.slot_set_iter (wpAny_call_entry F.slot_set_iter hT DX ?_ (F.args_set_iter_1 _))
 unfold Builtin.«frozenset.__iter__» Builtin.Frozenset.slot0
 refine wpAny_bind (wpAny_bind ?_)
 show wpAny _ _ (pure (Value.ref D,[])) _ _ _
 refine wpAny_pure ?_
 show wpAny _ _ (pure D) _ _ _
 refine wpAny_pure ?_
 unfold Builtin.Frozenset.sizeOf setEntries
 refine wpAny_bind (wpAny_bind (wpAny_bind (wpAny_setState_of hD rfl hS.fit (wpAny_pure (wpAny_pure ?_)))))
 unfold setDrawn
 refine wpAny_bind (wpAny_bind (wpAny_setState_of hD rfl hS.fit ?_))
 dsimp only
 refine wpAny_bind (DC (wpAny_pure ?_))
 have szp:∀(g:Heap) (o:Obj),(g.push o).objs.size=g.objs.size+1:=λg o=>Heap.size_push ..
 by_cases dr:(!w.params.followText "set-order"&&(!t.plain&&decide (es.size > 1)))=true
 ·refine wpAny_ite_true ?_ ?_
  ·exact decide_eq_true dr
  refine wpAny_bind (Im es.size (List.range es.size) _ _ (by simp) λps d hp=>?_)
  have pl:ps.length=es.size:=by have:=hp.length_eq;simpa using this
  unfold newTuple
  refine wpAny_bind (wpAny_newObj_type ?_ (by
   show(ps.map λi:Nat=>rawInt (i:Int)).toArray.size<=sizeLine
   rw[List.size_toArray,List.length_map,sizeLine_eq];omega))
  unfold setEpoch
  have hD1:setAt D es ep t (s.heap.push { cls:=.type "tuple",data:=.seq (ps.map λi:Nat=>rawInt (i:Int)).toArray }):=Heap.get?_push_of_some _ hD
  refine wpAny_bind (wpAny_bind (wpAny_setState_of (s:={ s with heap:=s.heap.push { cls:=.type "tuple",data:=.seq (ps.map λi:Nat=>rawInt (i:Int)).toArray },drawn:=d }) hD1 rfl hS.fit (wpAny_pure ?_)))
  dsimp only
  unfold newFields
  refine wpAny_bind (wpAny_newObj_type ?_)
  refine wpAny_pure ⟨_,rfl,"set_iterator",_,⟨_,Heap.get?_push_size _ rfl,rfl⟩,A0.lookup,?_⟩
  have TI:s.heap.objs.size≠(s.heap.push { cls:=.type "tuple",data:=.seq (ps.map λi:Nat=>rawInt (i:Int)).toArray }).objs.size:=by rw[szp];omega
  have DI:D≠(s.heap.push { cls:=.type "tuple",data:=.seq (ps.map λi:Nat=>rawInt (i:Int)).toArray }).objs.size:=by rw[szp];exact Nat.ne_of_lt (Nat.lt_succ_of_lt Dlt)
  refine h _ _ _ _ _ d (λA' hA'=>Fs (T:=s.heap.objs.size) hA' DI TI hS.fit hp) ⟨Heap.get?_push_size _ rfl,Heap.get?_push_of_some _ hD1,Heap.get?_push_of_some _ (Heap.get?_push_size _ rfl)⟩ ?_ ?_ (λb o e=>Heap.get?_push_of_some _ (Heap.get?_push_of_some _ e)) ?_ ?_ ?_
  ·rw[szp];omega
  ·intro b hb
   rw[szp,szp]
   simp only[List.mem_cons,List.not_mem_nil,or_false]at hb
   rcases hb with rfl|rfl|rfl
   ·rw[szp];exact Nat.lt_succ_self _
   ·exact Nat.lt_succ_of_lt (Nat.lt_succ_of_lt Dlt)
   ·exact Nat.lt_succ_of_lt (Nat.lt_succ_self _)
  ·have:=hp.map (λp=>(es.toList.getD p (0,.none)).2)
   have e2:=Dc (λe:Int×Value=>e.2) es.toList (0,.none)
   rw[Array.length_toList]at e2
   rw[e2]at this
   exact this
  ·rw[Heap.get?_push_size _ rfl];simp
  ·intro b hb
   simp only[List.mem_cons,List.not_mem_nil,or_false]at hb
   rcases hb with rfl|rfl|rfl
   ·exact .inl rfl
   ·exact .inr (.inl rfl)
   ·exact .inr (.inr (Nat.le_refl _))
 ·refine wpAny_ite_false ?_ ?_
  ·exact decide_eq_false dr
  refine wpAny_bind (wpAny_pure ?_)
  unfold setEpoch
  refine wpAny_bind (wpAny_bind (wpAny_setState_of hD rfl hS.fit (wpAny_pure ?_)))
  dsimp only
  unfold newFields
  refine wpAny_bind (wpAny_newObj_type ?_)
  refine wpAny_pure ⟨_,rfl,"set_iterator",_,⟨_,Heap.get?_push_size _ rfl,rfl⟩,A0.lookup,?_⟩
  have DI:D≠s.heap.objs.size:=Nat.ne_of_lt Dlt
  have fpl:∀b∈[s.heap.objs.size,D],b < (s.heap.push (Cc (rawInt 0) 0 D es.size ep)).objs.size:=λb hb=>by
   rw[szp]
   simp only[List.mem_cons,List.not_mem_nil,or_false]at hb
   rcases hb with rfl|rfl
   ·exact Nat.lt_succ_self _
   ·exact Nat.lt_succ_of_lt Dlt
  have fpw:∀b∈[s.heap.objs.size,D],b=s.heap.objs.size\/b=D\/s.heap.objs.size<=b:=λb hb=>by
   simp only[List.mem_cons,List.not_mem_nil,or_false]at hb
   rcases hb with rfl|rfl
   ·exact .inl rfl
   ·exact .inr (.inl rfl)
  cases bt:w.params.followText "set-order" with
  |true=>
   refine h _ _ _ _ _ s.drawn (λA' hA'=>Gh bt hA' DI hS.fit) ⟨Heap.get?_push_size _ rfl,Heap.get?_push_of_some _ hD⟩ (Nat.le_refl _) fpl (λb o e=>Heap.get?_push_of_some _ e) ((Dz _ es).map _) (by rw[Heap.get?_push_size _ rfl];simp) fpw
  |false=>
   have hl:t.led=true:=by rw[hS.led];unfold A5;rw[bt];rfl
   cases pl:t.plain with
   |true=>
    refine h _ _ _ _ _ s.drawn (λA' hA'=>Jx bt hA' DI hS.fit hl pl hS.ris) ⟨Heap.get?_push_size _ rfl,Heap.get?_push_of_some _ hD⟩ (Nat.le_refl _) fpl (λb o e=>Heap.get?_push_of_some _ e) (List.Perm.refl _) (by rw[Heap.get?_push_size _ rfl];simp) fpw
   |false=>
    have z1:es.size<=1:=by
     rw[bt,pl]at dr
     have:¬es.size > 1:=λc=>dr (by simp[c])
     omega
    refine h _ _ _ _ _ s.drawn (λA' hA'=>IF bt hA' DI hS.fit hl z1) ⟨Heap.get?_push_size _ rfl,Heap.get?_push_of_some _ hD⟩ (Nat.le_refl _) fpl (λb o e=>Heap.get?_push_of_some _ e) (List.Perm.refl _) (by rw[Heap.get?_push_size _ rfl];simp) fpw
theorem Dd {D:Addr}{es:Array (Int×Value)}{ep:Nat}{t:SetTable}{S:List Int}{Q:List Value->Shared->Prop}(hD:setAt D es ep t s.heap)(hS:DB w (A5 w) es t S)(hh:A.handled=none)(hz:es.size<=1000)
 (h:∀h' tk d acc,(∀b o,s.heap.get? b=some o->h'.get? b=some o)->s.heap.objs.size<=h'.objs.size->acc.Perm (es.toList.map (·.2))->Q acc { s with heap:=h',toks:=tk,drawn:=d }):
 wpAny (model prog w) A (collect (.ref D)) Q E s:=by
 have Dlt:D < s.heap.objs.size:=Heap.lt_size hD
 unfold collect
 refine wpAny_bind (wpAny_runValue (codeAny_builtin F.entry_proto_collect ?_))
 rw[Around.under_plainId F.plain_proto_collect _]
 show wpAny _ A.in1 (newList [] >>= λl=>again (.builtin "list.__iadd__" ⟨[l,.ref D],[]⟩)) _ _ s
 refine wpAny_bind (wpAny_newObj_type ?_)
 refine wpAny_pure ⟨plainId_quiet F.plain_list_iadd _,codeAny_builtin F.entry_list_iadd ?_⟩
 rw[Around.under_plainId F.plain_list_iadd _]
 show wpAny _ A.in1 (Builtin.List.listExtendWith (.ref s.heap.objs.size) (.ref D) (.ref s.heap.objs.size)) _ _ _
 have hS₁:(s.heap.push { cls:=.type "list",data:=.seq ([]:List Value).toArray }).get? s.heap.objs.size=some { cls:=.type "list",data:=.seq #[] 0 }:=Heap.get?_push_size _ rfl
 have hD1:setAt D es ep t (s.heap.push { cls:=.type "list",data:=.seq ([]:List Value).toArray }):=Heap.get?_push_of_some _ hD
 have szp:(s.heap.push { cls:=.type "list",data:=.seq ([]:List Value).toArray }).objs.size=s.heap.objs.size+1:=Heap.size_push ..
 have old1:∀b o,s.heap.get? b=some o->(s.heap.push { cls:=.type "list",data:=.seq ([]:List Value).toArray }).get? b=some o:=λb o e=>Heap.get?_push_of_some _ e
 generalize s.heap.push { cls:=.type "list",data:=.seq ([]:List Value).toArray }=g at hS₁ hD1 szp old1
 have hT:({ s with heap:=g }:Shared).TypeIs (.ref D) "set":=⟨_,hD1,rfl⟩
 unfold Builtin.List.listExtendWith
 refine wpAny_bind (wpAny_typeOf hT ?_)
 rw[if_neg (by
  have:(s.heap.objs.size==D)=false:=by simpa using Nat.ne_of_gt Dlt
  show¬(((s.heap.objs.size==D)||_||_)=true)
  rw[this];decide)]
 refine wpAny_bind (Gi (s:={ s with heap:=g }) hD1 hS hz λI fp St vs h1 d Wk st0 Ige fpl old2 vp hI fpw=>?_)
 have hT2:({ s with heap:=h1,drawn:=d }:Shared).TypeIs (.ref D) "set":=⟨_,old2 _ _ hD1,rfl⟩
 refine wpAny_bind (wpAny_holding (Jn hT2 ?_))
 dsimp only
 have Ige':s.heap.objs.size+1<=I:=by rw[<-szp];exact Ige
 have vl:vs.length=es.size:=by have:=vp.length_eq;simpa using this
 have hS2:=old2 _ _ hS₁
 have nfp:s.heap.objs.size∉fp:=λhm=>by
  rcases fpw _ hm with z|z|z
  ·have z':s.heap.objs.size=I:=z
   rw[<-z']at Ige'
   exact Nat.not_succ_le_self _ Ige'
  ·have z':s.heap.objs.size=D:=z
   rw[z']at Dlt
   exact Nat.lt_irrefl _ Dlt
  ·rw[szp]at z
   have z':s.heap.objs.size+1<=s.heap.objs.size:=z
   omega
 have fin:∀(c0:Nat) (h2:Heap),h2.get? s.heap.objs.size=some { cls:=.type "list",data:=.seq #[] c0 }->(∀b o,b≠s.heap.objs.size->h1.get? b=some o->h2.get? b=some o)->
  codeAny (model prog w) A (.builtin "list.extend.loop" ⟨[.ref s.heap.objs.size,.ref I,.ref s.heap.objs.size],[]⟩) (λr s'=>match r with|.ok (.ret v)=>wpAny (model prog w) A (match v with|.ref a=>(do let __do_lift<-load a;match __do_lift.data with|.seq xs _=>pure xs.toList|_=>unsupported "internal:collect")|_=>unsupported "internal:collect") Q E s'|.ok _=>False|.error e=>E e s') { s with heap:=h2,drawn:=d }:=λc0 h2 hg2 k2=>by
  refine codeAny_extend_loopS (Wk A.in1 hh).toS (by rw[sizeLine_eq];omega) s.heap.objs.size nfp (.ref s.heap.objs.size) es.size 0 _ #[] c0 (Nat.sub_zero _) (Nat.zero_le _) ((Wk A.in1 hh).frame 0 _ _ st0 λb hb o e=>k2 b o (λz=>nfp (by rw[<-z];exact hb)) e) hg2 ⟨rfl,λj v hj=>by simp at hj⟩ λs' acc' c' mv hg3 it=>?_
  obtain⟨hp',gn',dr',tk',os'⟩:=s'
  have e1:gn'=s.gens:=mv.gens
  have e2:dr'=d:=mv.drawn
  have e3:os'=s.os:=mv.os
  subst e1;subst e2;subst e3
  refine wpAny_bind (wpAny_load hg3 (wpAny_pure ?_))
  have ea:acc'.toList=vs:=by
   apply List.ext_getElem?
   intro i
   rcases Nat.lt_or_ge i es.size with c|c
   ·have hi:i < acc'.size:=by rw[it.1];exact c
    have:=it.2 i acc'[i] (Array.getElem?_eq_getElem hi)
    rw[Array.getElem?_toList,Array.getElem?_eq_getElem hi,this]
   ·rw[Array.getElem?_toList,Array.getElem?_eq_none (by rw[it.1];exact c),List.getElem?_eq_none (by omega)]
  rw[ea]
  refine h hp' tk' _ vs (λb o e=>?_) ?_ vp
  ·have bl:b≠s.heap.objs.size:=Nat.ne_of_lt (Heap.lt_size e)
   have bI:b≠I:=λz=>by
    have h1:b < s.heap.objs.size:=Heap.lt_size e
    have h2:b=I:=z
    have h3:I < s.heap.objs.size:=by rw[<-h2];exact h1
    exact absurd (Nat.lt_of_lt_of_le h3 (Nat.le_of_succ_le Ige')) (Nat.lt_irrefl _)
   exact mv.heap b o (by simp[bl,bI]) (k2 b o bl (old2 _ _ (old1 _ _ e)))
  ·exact Nat.le_of_lt (Heap.lt_size hg3)
 rw[if_pos (by decide+kernel)]
 refine wpAny_bind (wpAny_rule (wpAny_bind ?_))
 unfold Builtin.List.listTouch
 refine wpAny_bind (listUpdate_at (a:=s.heap.objs.size) (s:={ s with heap:=h1,drawn:=d }) hS2 rfl ?_ (Nat.zero_le _) (by show 1<=sizeLine+1;omega))
 have g1:=get?_update_seq hS2 (λx=>x.push Value.none)
 refine listUpdate_at (a:=s.heap.objs.size) (s:={ s with heap:=h1.update s.heap.objs.size (Obj.mapSeq λx=>x.push Value.none),drawn:=d }) g1 rfl ?_ (by show 1<=sizeLine;rw[sizeLine_eq];decide) (Nat.zero_le _)
 have g2:=get?_update_seq g1 (λx=>x.pop)
 refine wpAny_pure ⟨plainId_quiet (by kernel_rfl) _,?_⟩
 exact fin _ _ g2 λb o n e=>(Heap.get?_update_ne _ _ _ _ n).trans ((Heap.get?_update_ne _ _ _ _ n).trans e)
end
end L2I
namespace L2I
open PySem PySem.Spec PyProof.Rows PySem.W L2
section
variable {prog:Program}{w:World}{A:Around}{E:Value->Shared->Prop}{s:Shared}
theorem Bl.keeps {led:Bool}{h h':Heap}{a:Addr}{S:List Int}{n:Nat}(x:Bl w led h a S n)(k:∀o,h.get? a=some o->h'.get? a=some o):Bl w led h' a S n:=by
 obtain⟨es,ep,t,e,r⟩:=x
 exact⟨es,ep,t,k _ e,r⟩
theorem Bl.start {h:Heap}{a:Addr}{led:Bool}(e:h.get? a=some { cls:=.type "set",data:=.set #[] 0 (SetTable.fresh 0 0 led) }):Bl w led h a [] 0:=
 ⟨#[],0,_,e,⟨λx hx=>by simp at hx,by simp,λx=>by simp,by rfl,rfl,⟨rfl,rfl⟩⟩,Nat.le_refl _⟩
end
end L2I
namespace L2I
open PySem PySem.Spec PyProof.Rows PySem.W L2
section
variable {prog:Program}{w:World}{A:Around}{E:Value->Shared->Prop}{s:Shared}
theorem NQ:∀{es:List (Int×Value)} {acc:List Value},(∀e∈es,∃x tk,e=(hashInt x,Value.int x tk))->acc.Perm (es.map (·.2))->∃ss,IntsAre acc ss/\ss.Perm (es.map keyOf):=λ{es acc} he hp=>by
 let f:Value->Int:=λv=>match v with|.int x _=>x|_=>0
 have hall:∀v∈acc,∃x tk,v=Value.int x tk:=λv hv=>by
  obtain⟨e,hm,rfl⟩:=List.mem_map.mp (hp.mem_iff.mp hv)
  obtain⟨x,tk,rfl⟩:=he e hm
  exact⟨x,tk,rfl⟩
 have go:∀(l:List Value),(∀v∈l,∃x tk,v=Value.int x tk)->IntsAre l (l.map f):=λl=>by
  induction l with
  |nil=>intro _;exact .nil
  |cons v r ih=>
   intro hl
   obtain⟨x,tk,rfl⟩:=hl v List.mem_cons_self
   exact .cons x tk (ih λu hu=>hl u (List.mem_cons_of_mem _ hu))
 refine⟨acc.map f,go acc hall,?_⟩
 have:=hp.map f
 rw[List.map_map]at this
 have e2:es.map (f∘λe=>e.2)=es.map keyOf:=List.map_congr_left λe _=>rfl
 rw[e2]at this
 exact this
theorem ET {D:Addr}{S:List Int}{n:Nat}{Q:Value->Shared->Prop}(hA:Bl w (A5 w) s.heap D S n)(hh:A.handled=none)(hn:n < 64)
 (h:∀h' tk d l out ss' e,(∀b o,s.heap.get? b=some o->h'.get? b=some o)->s.heap.objs.size<=l->h'.get? l=some (seqObj "list" out e)->IntsAre out.toList ss'->ss'.Nodup->(∀x,x∈ss'↔x∈S)->ss'.Pairwise (·<=·)->ss'.length<=n->Q (.ref l) { s with heap:=h',toks:=tk,drawn:=d }):
 wpAny (model prog w) A (call (.builtin "sorted") [.ref D]) Q E s:=by
 obtain⟨es,ep,t,hD,hS,hsz⟩:=hA
 refine Calls.call_function_entry kind_sorted plain_sorted entry_sorted (args_sorted1 _) ?_
 unfold Builtin.«sorted»
 refine wpAny_bind (m:=checkCount "sorted" 1 1 _) (wpAny_pure ?_)
 refine wpAny_bind (Dd (A:=A.in1) hD hS hh (by omega) λh1 tk d acc old1 sz1 hp=>?_)
 obtain⟨ss,hv,hpk⟩:=NQ hS.ent hp
 have al:acc.length=es.size:=by have:=hp.length_eq;simpa using this
 have fz:acc.length<=sizeLine:=by rw[sizeLine_eq];omega
 refine wpAny_bind (wpAny_newList ?_ fz)
 have hDL:(h1.push (seqObj "list" acc.toArray 0)).get? h1.objs.size=some (seqObj "list" acc.toArray 0):=Heap.get?_push_size _ rfl
 refine wpAny_bind (wpAny_holding (wpAny_call_entry slot_list_sort ⟨_,hDL,rfl⟩ entry_list_sort (list_sort_tree (s:={ s with heap:=h1.push (seqObj "list" acc.toArray 0),toks:=tk,drawn:=d }) hDL hv (by omega) λout ss' b1 b2 b3=>⟨_,rfl,?_⟩) (args_list_sort _)))
 obtain⟨e,he⟩:=sortedHeap_at (out:=out) hDL
 refine wpAny_pure ⟨_,rfl,h _ tk d h1.objs.size _ ss' e (λb o eb=>?_) sz1 he b1 ?_ (λx=>?_) b3 ?_⟩
 ·have lt:=Heap.lt_size (old1 _ _ eb)
  rw[sortedHeap_old (Nat.ne_of_lt lt) (by rw[show(h1.push (seqObj "list" acc.toArray 0)).objs.size=h1.objs.size+1 from Heap.size_push ..];exact Nat.lt_succ_of_lt lt)]
  exact Heap.get?_push_of_some _ (old1 _ _ eb)
 ·exact(b2.trans hpk).nodup_iff.mpr hS.nd
 ·rw[(b2.trans hpk).mem_iff];exact hS.mem x
 ·have t1:(es.toList.map keyOf).length=es.size:=by rw[List.length_map,Array.length_toList]
  have t2:=(b2.trans hpk).length_eq
  exact Nat.le_trans (Nat.le_of_eq (t2.trans t1)) hsz
end
def Hk (w:World)(a:Addr)(S:List Int)(n:Nat):HO:=.ext λh=>Bl w (A5 w) h a S n
theorem P0 {P:Program}{w:World}{H:Hp}{h:Heap}{a:Addr}{S:List Int}{n:Nat}(x:Bl w (A5 w) h a S n):Ax P w H h a (Hk w a S n):=by
 refine⟨x,?_,λh1 h2 p k=>Bl.keeps p k⟩
 obtain⟨es,ep,t,e,_⟩:=x
 exact⟨_,e⟩
section
variable {X:Cx}
theorem MD {pins:List (Addr×Obj)}{σ:L2.St}{H:Hp}{s:Shared}(I:Inv X pins σ H s){a:Addr}{S:List Int}{n:Nat}(h:H a=some (Hk X.w a S n)):Bl X.w (A5 X.w) s.heap a S n:=(I.hok a _ h).1
theorem Fh (w:World)(hc:X.calm=true)(hw:X.w=w:=by rfl):Bg X (.builtin "sorted") (λxs H Q=>∃(a:Addr) (S:List Int) (n:Nat),xs=[.ref a]/\H a=some (Hk w a S n)/\n < 64/\
 ∀(ss:List Int) (r:Addr),ss.Nodup->(∀x,x∈ss↔x∈S)->ss.Pairwise (·<=·)->ss.length<=n->H r=none->Q (.ref r) (upd H r (.lst (ss.map V.int)))):=by
 subst hw
 intro pins s σ H xs us Q I r h
 obtain⟨a,S,n,rfl,ha,n64,q⟩:=h
 obtain⟨u,rfl,ru⟩:=vals1 r
 cases(show u=Value.ref a from ru)
 have hh:X.A.handled=none:=I.ok.hd hc
 refine ET (MD I ha) hh n64 λh3 tk3 d l3 out ss' e old3 lge hg3 hv3 nd3 mem3 srt3 len3=>?_
 have I3:=I.laid (t':=tk3) (h':=h3) (a:=l3) (o:=.lst (ss'.map V.int)) old3 lge (show Ax X.prog X.w _ _ _ (.lst (ss'.map V.int))from⟨by rw[List.length_map];exact Nat.le_of_lt (AM (by omega)),out.toList,e,Il hv3,hg3⟩)
 exact⟨.ref l3,_,I3.drawn d,rfl,q ss' l3 nd3 mem3 srt3 len3 (I.hok.fresh lge)⟩
end
end L2I
namespace L2J
open PySem PySem.Spec PyProof.Rows PySem.W L2 L2I
theorem Jy:isSubtype (.type "list") (.type "set")=pure false:=by rw[isSubtype_type];kernel_rfl
theorem Jz:isSubtype (.type "list") (.type "frozenset")=pure false:=by rw[isSubtype_type];kernel_rfl
section
variable {prog:Program}{w:World}{A:Around}{E:Value->Shared->Prop}{s:Shared}
theorem DW {led:Bool}{l I S:Addr}{items:Array Value}{ss:List Int}{R:Result->Shared->Prop}(hv:Vals (ss.map V.int) items.toList)(hh:A.handled=none)(lI:l≠I)(SI:S≠I)(Sl:S≠l)(hn:items.size+1 < scanBound):
 ∀(k i:Nat) (s:Shared),items.size - i=k->i<=items.size->s.heap.IsListIter I l i->s.heap.IsList l items->Bl w led s.heap S (ss.take i) i->
  (∀h' tk,(∀b o,b≠I->b≠S->s.heap.get? b=some o->h'.get? b=some o)->Bl w led h' S ss items.size->R (.ok (.ret .none)) { s with heap:=h',toks:=tk })->
  codeAny (model prog w) A (.builtin "set.update.loop" ⟨[.ref S,.ref I],[]⟩) R s
 |0,i,s,hk,hi,h1,h2,h3,h=>by
  have ei:i=items.size:=by omega
  subst ei
  refine codeAny_builtin F.entry_set_update_loop ?_
  rw[Around.under_plainId F.plain_set_update_loop _]
  show wpAny _ A.in1 (pyNext (.ref I) >>= _) _ _ s
  have Wk:=Walks.list (prog:=prog) (w:=w) (A:=A.in1) hh I l lI items
  have sl:ss.length=items.size:=by have:=hv.length;simpa using this
  refine wpAny_bind (Wk.done s _ _ ⟨h1,h2⟩ λh' tk kp=>wpAny_pure ?_)
  refine h h' tk (λb o n1 _ e=>kp b o (by simpa using n1) e) ?_
  have:=h3.keeps (h':=h') λo e=>kp S o (by simpa using SI) e
  rw[List.take_of_length_le (by omega)]at this
  exact this
 |k+1,i,s,hk,hi,h1,h2,h3,h=>by
  have il:i < items.size:=by omega
  refine codeAny_builtin F.entry_set_update_loop ?_
  rw[Around.under_plainId F.plain_set_update_loop _]
  show wpAny _ A.in1 (pyNext (.ref I) >>= _) _ _ s
  have Wk:=Walks.list (prog:=prog) (w:=w) (A:=A.in1) hh I l lI items
  have sl:ss.length=items.size:=by have:=hv.length;simpa using this
  refine wpAny_bind (Wk.item i s _ _ il ⟨h1,h2⟩ λv h' tk hP hSt kp=>?_)
  obtain⟨x,tkx,rfl,hx⟩:∃x tkx,v=.int x tkx/\ss[i]?=some x:=by
   have hx:ss[i]?=some (ss[i]'(by omega)):=List.getElem?_eq_getElem _
   obtain⟨u,e1,e2⟩:=hv.get (i:=i) (x:=V.int (ss[i]'(by omega))) (by rw[List.getElem?_map,hx];rfl)
   rw[Array.getElem?_toList,hP]at e1
   cases e1
   obtain⟨tkx,e3⟩:=e2
   exact⟨_,tkx,e3,hx⟩
  have h3':=h3.keeps (h':=h') λo e=>kp S o (by simpa using SI) e
  dsimp only
  refine wpAny_bind (wpAny_holding (add_int (s:={ s with heap:=h',toks:=tk }) h3' (by omega) λb h2' sb hA=>?_))
  refine wpAny_pure ⟨plainId_quiet F.plain_set_update_loop _,?_⟩
  have et:ss.take i++[x]=ss.take (i+1):=by rw[List.take_succ,hx];rfl
  rw[et]at hA
  refine DW hv hh lI SI Sl hn k (i+1) { s with heap:=h2',toks:=tk+1 } (by omega) (by omega) ?_ ?_ hA λh4 tk4 k4 hA4=>?_
  ·exact hSt.1.at λo e=>sb.extBut _ _ (Ne.symm SI) e
  ·obtain⟨o,e,r⟩:=hSt.2
   exact⟨o,sb.extBut _ _ (Ne.symm Sl) e,r⟩
  ·exact h h4 tk4 (λb o n1 n2 e=>k4 b o n1 n2 (sb.extBut _ _ n2 (kp b o (by simpa using n1) e))) hA4
theorem Ge {D l:Addr}{items:Array Value}{ss:List Int}{Pf:PySem.Fin->Shared->Prop}(hget:s.heap.get? D=some { cls:=.type "set",data:=.set #[] 0 (SetTable.fresh 0 0 (A5 w)) })(hl:s.heap.IsList l items)(Dl:D≠l)(hv:Vals (ss.map V.int) items.toList)(hh:A.handled=none)(hn:items.size+1 < scanBound)
 (h:∀h' tk,(∀b o,b≠D->s.heap.get? b=some o->h'.get? b=some o)->Bl w (A5 w) h' D ss items.size->Pf (.done (.ret .none)) { s with heap:=h',toks:=tk }):
 wpAny (model prog w) A (Builtin.«set.__init__» ⟨[.ref D,.ref l],[]⟩) Pf E s:=by
 have hT:s.TypeIs (.ref D) "set":=⟨_,hget,rfl⟩
 have hTl:s.TypeIs (.ref l) "list":=by obtain⟨o,e,r,_⟩:=hl;exact⟨o,e,r⟩
 unfold Builtin.«set.__init__»
 refine wpAny_bind ?_
 unfold noKeywords
 show wpAny _ _ (pure ()) _ _ _
 refine wpAny_pure ?_
 dsimp only
 unfold typeNameOfCut shownTypeOf
 refine wpAny_bind (wpAny_bind (wpAny_bind (wpAny_typeOf hT ?_)))
 rw[if_neg (by decide)]
 refine wpAny_pure ?_
 rw[Jl]
 refine wpAny_pure ?_
 refine wpAny_bind ?_
 unfold checkCount
 show wpAny _ _ (pure ()) _ _ _
 refine wpAny_pure ?_
 refine wpAny_bind ?_
 show wpAny _ _ (pure D) _ _ _
 refine wpAny_pure ?_
 refine wpAny_bind ?_
 unfold setUsed
 refine wpAny_bind (wpAny_setState_of hget rfl rfl (wpAny_pure ?_))
 have hfill:(((#[],0,SetTable.fresh 0 0 (A5 w)):Array (Int×Value)×Nat×SetTable).2.2.fill !=0)=false:=rfl
 rw[hfill,if_neg (by decide)]
 refine wpAny_bind ?_
 unfold Builtin.Frozenset.updateFrom
 refine wpAny_bind ?_
 unfold Builtin.Frozenset.isAnySet
 refine wpAny_bind (wpAny_isInstance hTl Jy ?_)
 refine wpAny_isInstance hTl Jz ?_
 rw[if_neg (by decide)]
 refine wpAny_bind (wpAny_typeOf hTl ?_)
 rw[if_neg (by decide)]
 have lD:l < s.heap.objs.size:=by obtain⟨o,e,_⟩:=hl;exact Heap.lt_size e
 have DD:D < s.heap.objs.size:=Heap.lt_size hget
 refine wpAny_bind (wpAny_pyIter_list hl ?_)
 refine wpAny_bind (wpAny_runValue ?_)
 refine DW (led:=A5 w) (l:=l) hv (show A.handled=none from hh) (Nat.ne_of_lt lD) (Nat.ne_of_lt DD) Dl hn items.size 0 { s with heap:=s.heap.push { cls:=.type "list_iterator",data:=.fields #[.ref l,.int 0 0] } } (Nat.sub_zero _) (Nat.zero_le _) ⟨_,Heap.get?_push_size _ rfl,rfl,rfl⟩ (Heap.IsList.push hl _) (Bl.start (Heap.get?_push_of_some _ hget)) λh' tk kp hA=>?_
 refine wpAny_pure (wpAny_pure ?_)
 exact h h' tk (λb o n e=>kp b o (Nat.ne_of_lt (Heap.lt_size e)) n (Heap.get?_push_of_some _ e)) hA
theorem Ep {l:Addr}{items:Array Value}{ss:List Int}{Q:Value->Shared->Prop}(hl:s.heap.IsList l items)(hv:Vals (ss.map V.int) items.toList)(hh:A.handled=none)(hn:items.size+1 < scanBound)
 (h:∀h' tk,(∀b o,s.heap.get? b=some o->h'.get? b=some o)->Bl w (A5 w) h' s.heap.objs.size ss items.size->Q (.ref s.heap.objs.size) { s with heap:=h',toks:=tk }):
 wpAny (model prog w) A (call (.type "set") [.ref l]) Q E s:=by
 have hlt:l < s.heap.objs.size:=by obtain⟨o,e,_⟩:=hl;exact Heap.lt_size e
 obtain⟨c,tl,hmro⟩:=F.called_set.mro
 refine wpAny_call (codeAny_of_tree ?_)
 show wpAny _ _ (pure (Fin.again (.builtin "type.__call__" ⟨[.type "set",.ref l],[]⟩))) _ _ _
 refine wpAny_pure ⟨Code.quiet_builtin _ (by decide+kernel),codeAny_builtin F.entry_type_call ?_⟩
 rw[Around.under_plain (weight_type_call_type "set" [.ref l] []) rfl]
 unfold Builtin.«type.__call__»
 dsimp only
 rw[if_neg (by decide),if_neg (by rw[F.called_set.canCreate];decide)]
 refine wpAny_bind ?_
 rw[F.typeCall_set_1]
 refine wpAny_pure ?_
 refine wpAny_bind ?_
 rw[hmro]
 refine wpAny_pure ?_
 rw[if_neg (by simp)]
 refine wpAny_bind ?_
 rw[F.called_set.made]
 refine wpAny_pure ?_
 dsimp only
 refine wpAny_bind (wpAny_pure ?_)
 refine wpAny_bind (wpAny_holding (wpAny_call ?_))
 refine C3 _ ?_
 have hget:(s.heap.push { cls:=.type "set",data:=.set #[] 0 (SetTable.fresh 0 0 (A5 w)) }).get? s.heap.objs.size=some { cls:=.type "set",data:=.set #[] 0 (SetTable.fresh 0 0 (A5 w)) }:=Heap.get?_push_size _ rfl
 have hT:({ s with heap:=s.heap.push { cls:=.type "set",data:=.set #[] 0 (SetTable.fresh 0 0 (A5 w)) } }:Shared).TypeIs (.ref s.heap.objs.size) "set":=⟨_,hget,rfl⟩
 refine wpAny_bind (wpAny_isInstance hT F.called_set.sub ?_)
 rw[if_neg (by decide)]
 refine wpAny_bind (wpAny_holding ?_)
 refine wpAny_callSpecial?_slot hT F.called_set.init (wpAny_call (codeAny_call_builtin F.called_set.init.plain F.entry_set_init (check_set_init_1 hT ?_)))
 refine Ge (s:={ s with heap:=s.heap.push { cls:=.type "set",data:=.set #[] 0 (SetTable.fresh 0 0 (A5 w)) } }) hget (Heap.IsList.push hl _) (Ne.symm (Nat.ne_of_lt hlt)) hv hh hn λh' tk kp hA=>?_
 dsimp only
 rw[if_neg (by decide)]
 refine wpAny_pure ?_
 exact h h' tk (λb o e=>kp b o (Nat.ne_of_lt (Heap.lt_size e)) (Heap.get?_push_of_some _ e)) hA
end
section
variable {X:Cx}
theorem Ex (w:World)(hc:X.calm=true)(hw:X.w=w:=by rfl):Bg X (.type "set") (λxs H Q=>∃(l:Addr) (ss:List Int),xs=[.ref l]/\AZ X.K H l (ss.map V.int)/\ss.length < 4000/\∀r,H r=none->Q (.ref r) (upd H r (L2I.Hk w r ss ss.length))):=by
 subst hw
 intro pins s σ H xs us Q I r h
 obtain⟨l,ss,rfl,hq,h4,q⟩:=h
 obtain⟨u,rfl,ru⟩:=vals1 r
 cases(show u=Value.ref l from ru)
 obtain⟨its,rv,ht,hz⟩:=I.list hq
 have hlen:=rv.length
 rw[List.length_map]at hlen
 have hh:X.A.handled=none:=I.ok.hd hc
 have hsz:its.toArray.size=its.length:=List.size_toArray ..
 refine L2J.Ep (items:=its.toArray) ht.isList (by simpa using rv) hh (by show its.toArray.size+1 < 4096;omega) λh2 tk2 old2 hA=>?_
 rw[hsz,<-hlen]at hA
 exact⟨.ref s.heap.objs.size,_,I.laid (t':=tk2) (h':=h2) (a:=s.heap.objs.size) (o:=L2I.Hk X.w s.heap.objs.size ss ss.length) old2 (Nat.le_refl _) (L2I.P0 hA),rfl,q _ (I.hok.fresh (Nat.le_refl _))⟩
theorem Hl (w:World)(hw:X.w=w:=by rfl):Bg X (.builtin "len") (λxs H Q=>∃(a:Addr) (S:List Int) (n:Nat),xs=[.ref a]/\H a=some (L2I.Hk w a S n)/\n < 4000/\
 ∀ss:List Int,ss.Nodup->(∀x,x∈ss↔x∈S)->Q (.int ((ss.length:Nat):Int)) H):=by
 subst hw
 intro pins s σ H xs us' Q I r h
 obtain⟨a,S,n,rfl,ha,n4,q⟩:=h
 obtain⟨u,rfl,ru⟩:=vals1 r
 cases(show u=Value.ref a from ru)
 obtain⟨es,ep,t,e,hS,hn⟩:=L2I.MD I ha
 refine call_len_set (s:=s) e ⟨rfl,rfl,rfl⟩ rfl hS.fit (by omega) ⟨.int _,H,I.tok _,⟨_,rfl⟩,?_⟩
 have:=q (es.toList.map keyOf) hS.nd hS.mem
 simpa using this
end
end L2J
namespace W16
open PySem
def Gy:List Nat->List Nat->Nat
 |a::x,b::y=>if a=b then Gy x y+1 else 0
 |_,_=>0
theorem Oh (a b:Nat)(x y:List Nat):Gy (a::x) (b::y)=if a=b then Gy x y+1 else 0:=rfl
theorem P4 (x:List Nat):Gy x []=0:=by cases x<;>rfl
theorem Gz:∀x y:List Nat,Gy x y<=x.length/\Gy x y<=y.length
 |[],y=>⟨Nat.zero_le _,Nat.zero_le _⟩
 |a::x,[]=>⟨Nat.zero_le _,Nat.zero_le _⟩
 |a::x,b::y=>by
  have h:=Gz x y
  unfold Gy
  by_cases e:a=b
  ·rw[if_pos e,List.length_cons,List.length_cons];omega
  ·rw[if_neg e];exact⟨Nat.zero_le _,Nat.zero_le _⟩
theorem B1:∀(x y:List Nat) (n:Nat),n<=x.length->(x.take n<+:y↔n<=Gy x y)
 |x,y,0,_=>⟨λ_=>Nat.zero_le _,λ_=>by rw[List.take_zero];exact List.nil_prefix⟩
 |[],y,n+1,h=>by cases h
 |a::x,[],n+1,h=>by
  rw[P4,List.take_succ_cons]
  exact⟨λp=>absurd (List.prefix_nil.mp p) (List.cons_ne_nil _ _),λp=>by omega⟩
 |a::x,b::y,n+1,h=>by
  have ih:=B1 x y n (by rw[List.length_cons]at h;omega)
  rw[List.take_succ_cons,List.cons_prefix_cons,ih,Oh]
  by_cases e:a=b
  ·rw[if_pos e];exact⟨λp=>by omega,λp=>⟨e,by omega⟩⟩
  ·rw[if_neg e];exact⟨λp=>absurd p.1 e,λp=>by omega⟩
theorem G0:∀(x y:List Nat) (n:Nat),n<=x.length->n<=y.length->(∀j,j < n->x[j]?=y[j]?)->(n < x.length->n < y.length->x[n]?≠y[n]?)->Gy x y=n
 |[],y,n,h,_,_,_=>by have:n=0:=by simpa using h
                     subst this;rfl
 |a::x,[],n,_,h,_,_=>by have:n=0:=by simpa using h
                        subst this;rfl
 |a::x,b::y,0,_,_,_,s=>by
  have:=s (by rw[List.length_cons];omega) (by rw[List.length_cons];omega)
  unfold Gy
  rw[if_neg (λe=>this (by rw[e];rfl))]
 |a::x,b::y,n+1,h1,h2,h,s=>by
  have e:a=b:=by simpa using h 0 (by omega)
  unfold Gy
  rw[if_pos e,G0 x y n (by rw[List.length_cons]at h1;omega) (by rw[List.length_cons]at h2;omega) (λj hj=>by simpa using h (j+1) (by omega))
   (λk1 k2=>by simpa using s (by rw[List.length_cons];omega) (by rw[List.length_cons];omega))]
theorem Bm (z p:Str):Txt.startswith z p=true↔p.cps.toList<+:z.cps.toList:=by
 unfold Txt.startswith
 rw[StrLaws.subAt_eq,List.drop_zero]
 have lp:p.length=p.cps.toList.length:=by first|rfl|simp[Str.length]
 have lz:z.length=z.cps.toList.length:=by first|rfl|simp[Str.length]
 rw[lp,lz,Bool.and_eq_true,decide_eq_true_iff,beq_iff_eq,List.prefix_iff_eq_take]
 constructor
 ·rintro⟨_,h⟩;exact h.symm
 ·intro h
  refine⟨?_,h.symm⟩
  have:=congrArg List.length h
  rw[List.length_take]at this
  omega
end W16
namespace W18
open W16
theorem R7:∀p a b c:List Nat,p<+:a->p<+:c->¬b < a->¬c < b->p<+:b
 |[],_,b,_,_,_,_,_=>List.nil_prefix
 |x::p,a,b,c,ha,hc,h1,h2=>by
  obtain⟨a',rfl⟩:=ha
  obtain⟨c',rfl⟩:=hc
  cases b with
  |nil=>exact absurd (List.nil_lt_cons _ _) h1
  |cons y b=>
   rw[List.cons_append,List.cons_lt_cons_iff]at h1 h2
   have e:y=x:=by
    have n1:¬y < x:=λh=>h1 (.inl h)
    have n2:¬x < y:=λh=>h2 (.inl h)
    omega
   subst e
   obtain⟨r,hr⟩:=R7 p (p++a') b (p++c') (List.prefix_append _ _) (List.prefix_append _ _) (λh=>h1 (.inr ⟨rfl,h⟩)) (λh=>h2 (.inr ⟨rfl,h⟩))
   exact⟨r,by rw[List.cons_append,hr]⟩
def lc (ss:List (List Nat))(i:Nat):Nat:=if i=0 then 0 else Gy (ss.getD (i - 1) []) (ss.getD i [])
def IL (z:List Nat)(a:Nat):List (List Nat):=(List.range (z.length - a)).map λj=>z.take (a+1+j)
def Oi (ss:List (List Nat))(n:Nat):List (List Nat):=(List.range n).flatMap λi=>IL (ss.getD i []) (lc ss i)
theorem Ey (ss:List (List Nat))(n:Nat):Oi ss (n+1)=Oi ss n++IL (ss.getD n []) (lc ss n):=by
 unfold Oi;rw[List.range_succ,List.flatMap_append];simp
theorem DE {p z:List Nat}{a:Nat}:p∈IL z a↔p<+:z/\a < p.length:=by
 unfold IL
 rw[List.mem_map]
 constructor
 ·rintro⟨j,hj,rfl⟩
  have hj:=List.mem_range.mp hj
  refine⟨List.take_prefix _ _,?_⟩
  rw[List.length_take];omega
 ·rintro⟨hp,hl⟩
  have e:=List.prefix_iff_eq_take.mp hp
  have le:=hp.length_le
  refine⟨p.length - a - 1,List.mem_range.mpr (by omega),?_⟩
  rw[show a+1+(p.length - a - 1)=p.length by omega,<-e]
theorem IM (z:List Nat)(a:Nat):(IL z a).Nodup:=by
 unfold List.Nodup
 rw[List.pairwise_iff_getElem]
 intro i j hi hj hij e
 unfold IL at hi hj e
 rw[List.length_map,List.length_range]at hi hj
 simp only[List.getElem_map,List.getElem_range]at e
 have:=congrArg List.length e
 rw[List.length_take,List.length_take]at this
 omega
theorem Ez {ss:List (List Nat)}{p:List Nat}{n:Nat}:p∈Oi ss n↔∃i,i < n/\p<+:ss.getD i []/\lc ss i < p.length:=by
 unfold Oi
 rw[List.mem_flatMap]
 constructor
 ·rintro⟨i,hi,hp⟩
  obtain⟨a,b⟩:=DE.mp hp
  exact⟨i,List.mem_range.mp hi,a,b⟩
 ·rintro⟨i,hi,a,b⟩
  exact⟨i,List.mem_range.mpr hi,DE.mpr ⟨a,b⟩⟩
theorem Oj {ss:List (List Nat)}{n:Nat}{p:List Nat}(hp:p≠[]):∀i,i < n->p<+:ss.getD i []->p∈Oi ss n
 |0,hi,h=>Ez.mpr ⟨0,hi,h,by unfold lc;rw[if_pos rfl];exact List.length_pos_iff.mpr hp⟩
 |i+1,hi,h=>by
  by_cases c:lc ss (i+1) < p.length
  ·exact Ez.mpr ⟨i+1,hi,h,c⟩
  ·unfold lc at c
   rw[if_neg (by omega),Nat.add_sub_cancel]at c
   have le:=Gz (ss.getD i []) (ss.getD (i+1) [])
   have t:=(B1 (ss.getD i []) (ss.getD (i+1) []) p.length (by omega)).mpr (by omega)
   have e:p=(ss.getD i []).take p.length:=by
    have l1:((ss.getD i []).take p.length).length=p.length:=by rw[List.length_take];omega
    exact(List.prefix_of_prefix_length_le h t (by omega)).eq_of_length l1.symm
   exact Oj hp i (by omega) (by rw[e];exact List.take_prefix _ _)
theorem IP {ss:List (List Nat)}(hs:∀i j,i<=j->j < ss.length->¬ss.getD j [] < ss.getD i []):∀n,n<=ss.length->(Oi ss n).Nodup
 |0,_=>by unfold Oi;simp
 |n+1,h=>by
  rw[Ey,List.nodup_append]
  refine⟨IP hs n (by omega),IM _ _,λp hp q hq e=>?_⟩
  subst e
  obtain⟨i,hi,a,_⟩:=Ez.mp hp
  obtain⟨b,c⟩:=DE.mp hq
  have m:=R7 p _ (ss.getD (n - 1) []) _ a b (hs i (n - 1) (by omega) (by omega)) (hs (n - 1) n (by omega) (by omega))
  unfold lc at c
  rw[if_neg (by omega)]at c
  have e:=List.prefix_iff_eq_take.mp m
  have:=(B1 (ss.getD (n - 1) []) (ss.getD n []) p.length m.length_le).mp (by rw[<-e];exact b)
  omega
end W18
namespace W18
open W16
theorem K6:∀p z:List Nat,p<+:z->¬z < p
 |[],z,_=>List.not_lt_nil z
 |x::p,z,h=>by
  obtain⟨r,rfl⟩:=h
  rw[List.cons_append,List.cons_lt_cons_iff]
  rintro(h|⟨_,h⟩)
  ·omega
  ·exact K6 p (p++r) (List.prefix_append _ _) h
theorem Ol (z:List Nat)(a:Nat):(IL z a).Pairwise λp q=>¬q < p:=by
 rw[List.pairwise_iff_getElem]
 intro i j hi hj hij
 unfold IL at hi hj ⊢
 rw[List.length_map,List.length_range]at hi hj
 simp only[List.getElem_map,List.getElem_range]
 exact K6 _ _ (List.take_prefix_take_left (by omega))
theorem J0 {ss:List (List Nat)}(hs:∀i j,i<=j->j < ss.length->¬ss.getD j [] < ss.getD i []):∀n,n<=ss.length->(Oi ss n).Pairwise λp q=>¬q < p
 |0,_=>by unfold Oi;simp
 |n+1,h=>by
  rw[Ey,List.pairwise_append]
  refine⟨J0 hs n (by omega),Ol _ _,λp hp q hq lt=>?_⟩
  obtain⟨i,hi,a,_⟩:=Ez.mp hp
  obtain⟨b,c⟩:=DE.mp hq
  unfold lc at c
  rw[if_neg (by omega)]at c
  have l1:=hs (n - 1) n (by omega) (by omega)
  have np:¬q<+:ss.getD (n - 1) []:=λm=>by
   have e:=List.prefix_iff_eq_take.mp m
   have:=(B1 (ss.getD (n - 1) []) (ss.getD n []) q.length m.length_le).mp (by rw[<-e];exact b)
   omega
  have l2:ss.getD (n - 1) [] < q:=by
   rcases Classical.em (ss.getD (n - 1) [] < q)with g|g
   ·exact g
   ·exact absurd (R7 q q _ _ (List.prefix_refl _) b g l1) np
  have l3:=List.lt_of_le_of_lt (List.not_lt.mp (hs i (n - 1) (by omega) (by omega))) l2
  have l4:=List.lt_of_le_of_lt (List.not_lt.mp (K6 _ _ a)) l3
  exact List.lt_asymm l4 lt
end W18
namespace W18
open W16
abbrev pre (z x:List Nat):Bool:=z.isPrefixOf x
def BL (ss:List (List Nat))(z:List Nat):Nat:=(ss.filter (pre z)).length
theorem BB {z x:List Nat}:pre z x=true↔z<+:x:=List.isPrefixOf_iff_prefix
theorem G3 {ss:List (List Nat)}{z w:List Nat}(h:z<+:w):BL ss w<=BL ss z:=by
 unfold BL
 induction ss with
 |nil=>simp
 |cons x ss ih=>
  rw[List.filter_cons,List.filter_cons]
  by_cases a:pre w x=true
  ·rw[if_pos a,if_pos (BB.mpr (h.trans (BB.mp a)))]
   simp only[List.length_cons];omega
  ·rw[if_neg a]
   split
   ·simp only[List.length_cons];omega
   ·exact ih
theorem B6 {ss:List (List Nat)}{z w:List Nat}(h:z<+:w)(e:BL ss z<=BL ss w):∀x∈ss,z<+:x->w<+:x:=by
 unfold BL at e
 induction ss with
 |nil=>simp
 |cons x ss ih=>
  have le:=G3 (ss:=ss) h
  unfold BL at le
  rw[List.filter_cons,List.filter_cons]at e
  intro y hy zy
  by_cases a:pre w x=true
  ·rw[if_pos a,if_pos (BB.mpr (h.trans (BB.mp a)))]at e
   simp only[List.length_cons]at e
   rcases List.mem_cons.mp hy with rfl|hy
   ·exact BB.mp a
   ·exact ih (by omega) y hy zy
  ·rw[if_neg a]at e
   by_cases b:pre z x=true
   ·rw[if_pos b]at e
    simp only[List.length_cons]at e
    omega
   ·rw[if_neg b]at e
    rcases List.mem_cons.mp hy with rfl|hy
    ·exact absurd (BB.mpr zy) b
    ·exact ih e y hy zy
theorem JF {w x y:List Nat}(h1:w<+:x)(h2:w<+:y):w.length<=Gy x y:=by
 have e:=List.prefix_iff_eq_take.mp h1
 exact(B1 x y w.length h1.length_le).mp (by rw[<-e];exact h2)
theorem K7 {ss:List (List Nat)}(hs:ss.Pairwise λa b=>¬b < a){z f l:List Nat}(hf:(ss.filter (pre z)).head?=some f)(hl:(ss.filter (pre z)).getLast?=some l):
 Gy f l=z.length↔∀w,(∃x∈ss,w<+:x)->w≠[]->w.dropLast=z->BL ss w < BL ss z:=by
 have mf:f∈ss.filter (pre z):=List.mem_of_head? hf
 have ml:l∈ss.filter (pre z):=List.mem_of_getLast? hl
 obtain⟨fs,fz⟩:=List.mem_filter.mp mf
 obtain⟨ls,lz⟩:=List.mem_filter.mp ml
 have fz:=BB.mp fz
 have lz:=BB.mp lz
 constructor
 ·intro e w ⟨x,hx,wx⟩ ne hd
  have zw:z<+:w:=by rw[<-hd];exact List.dropLast_prefix w
  have wl:w.length=z.length+1:=by
   rw[<-hd,List.length_dropLast]
   have:=List.length_pos_iff.mpr ne
   omega
  rcases Nat.lt_or_ge (BL ss w) (BL ss z)with g|g
  ·exact g
  ·have a:=B6 zw g f fs fz
   have b:=B6 zw g l ls lz
   have:=JF a b
   omega
 ·intro h
  have ge:=JF fz lz
  rcases Nat.lt_or_ge z.length (Gy f l)with g|g
  ·exfalso
   have le:=Gz f l
   have pw:f.take (z.length+1)<+:l:=(B1 f l (z.length+1) (by omega)).mpr (by omega)
   have pf:f.take (z.length+1)<+:f:=List.take_prefix _ _
   have wl:(f.take (z.length+1)).length=z.length+1:=by rw[List.length_take];omega
   have zz:z<+:f.take (z.length+1):=List.prefix_of_prefix_length_le fz pf (by omega)
   have hd:(f.take (z.length+1)).dropLast=z:=by
    have:=List.prefix_iff_eq_take.mp zz
    rw[List.dropLast_eq_take,wl,Nat.add_sub_cancel]
    exact this.symm
   have c:=h (f.take (z.length+1)) ⟨f,fs,pf⟩ (λe=>by rw[e]at wl;simp at wl) hd
   have all:∀x∈ss,z<+:x->f.take (z.length+1)<+:x:=λx hx zx=>by
    have mx:x∈ss.filter (pre z):=List.mem_filter.mpr ⟨hx,BB.mpr zx⟩
    have so:(ss.filter (pre z)).Pairwise λa b=>¬b < a:=hs.filter _
    obtain⟨i,hi,rfl⟩:=List.getElem_of_mem mx
    have e1:(ss.filter (pre z))[0]'(by omega)=f:=by
     rw[List.head?_eq_getElem?,List.getElem?_eq_getElem (by omega)]at hf
     exact Option.some.inj hf
    have e2:(ss.filter (pre z))[(ss.filter (pre z)).length - 1]'(by omega)=l:=by
     rw[List.getLast?_eq_getElem?,List.getElem?_eq_getElem (by omega)]at hl
     exact Option.some.inj hl
    have n1:¬(ss.filter (pre z))[i] < f:=by
     rw[<-e1]
     rcases Nat.eq_zero_or_pos i with q|q
     ·subst q;exact List.lt_irrefl _
     ·exact List.pairwise_iff_getElem.mp so 0 i (by omega) hi q
    have n2:¬l < (ss.filter (pre z))[i]:=by
     rw[<-e2]
     rcases Nat.lt_or_ge i ((ss.filter (pre z)).length - 1)with q|q
     ·exact List.pairwise_iff_getElem.mp so i _ hi (by omega) q
     ·have:i=(ss.filter (pre z)).length - 1:=by omega
      simp only[this]
      exact List.lt_irrefl _
    exact R7 _ _ _ _ pf pw n1 n2
   have:BL ss z<=BL ss (f.take (z.length+1)):=by
    unfold BL
    have e:ss.filter (pre z)=ss.filter (pre (f.take (z.length+1))):=by
     refine List.filter_congr λx hx=>?_
     by_cases a:z<+:x
     ·rw[BB.mpr a,BB.mpr (all x hx a)]
     ·have b:¬f.take (z.length+1)<+:x:=λk=>a (zz.trans k)
      rw[Bool.eq_false_iff.mpr (λk=>a (BB.mp k)),Bool.eq_false_iff.mpr (λk=>b (BB.mp k))]
    rw[e];exact Nat.le_refl _
   omega
  ·omega
end W18
namespace W7
def wd (ups:List Int)(lab:List Nat):Nat->Nat->List Nat
 |0,_=>[]
 |f+1,k=>lab.getD k 0::(if ups.getD k 0 < 0 then[]else wd ups lab f (ups.getD k 0).toNat)
structure A6 (ups:List Int)(lab:List Nat):Prop where
 len:ups.length=lab.length
 pos:0 < ups.length
 most:ups.length<=60
 root:ups.getD 0 0=-1
 up:∀k,0 < k->k < ups.length->0<=ups.getD k 0/\ups.getD k 0 < (k:Int)
theorem A6.lt {ups:List Int}{lab:List Nat}(t:A6 ups lab){k:Nat}(h:k < ups.length)(h0:¬ups.getD k 0 < 0):(ups.getD k 0).toNat < k:=by
 rcases Nat.eq_zero_or_pos k with e|e
 ·subst e;have:=t.root;omega
 ·have:=t.up k e h;omega
theorem A6.neg {ups:List Int}{lab:List Nat}(t:A6 ups lab){k:Nat}(h:k < ups.length):ups.getD k 0 < 0↔ups.getD k 0=-1:=by
 rcases Nat.eq_zero_or_pos k with e|e
 ·subst e;have:=t.root;omega
 ·have:=t.up k e h;omega
theorem ME {ups:List Int}{lab:List Nat}(t:A6 ups lab):∀(f g k:Nat),k < ups.length->k < f->k < g->wd ups lab f k=wd ups lab g k
 |0,_,_,_,h,_=>absurd h (Nat.not_lt_zero _)
 |_+1,0,_,_,_,h=>absurd h (Nat.not_lt_zero _)
 |f+1,g+1,k,hk,hf,hg=>by
  simp only[wd]
  congr 1
  split
  ·rfl
  ·rename_i h0
   have:=t.lt hk h0
   exact ME t f g _ (by omega) (by omega) (by omega)
def W (ups:List Int)(lab:List Nat)(k:Nat):List Nat:=wd ups lab (k+1) k
theorem JG {ups:List Int}{lab:List Nat}(t:A6 ups lab){k:Nat}(hk:k < ups.length):W ups lab k=lab.getD k 0::(if ups.getD k 0 < 0 then[]else W ups lab (ups.getD k 0).toNat):=by
 unfold W
 rw[wd]
 congr 1
 split
 ·rfl
 ·rename_i h0
  have:=t.lt hk h0
  exact ME t _ _ _ (by omega) (by omega) (by omega)
theorem IQ {ups:List Int}{lab:List Nat}(t:A6 ups lab):∀(n k:Nat),k < n->k < ups.length->(W ups lab k).length<=k+1
 |0,_,h,_=>absurd h (Nat.not_lt_zero _)
 |n+1,k,hn,hk=>by
  rw[JG t hk]
  split
  ·simp
  ·rename_i h0
   have:=t.lt hk h0
   have ih:=IQ t n (ups.getD k 0).toNat (by omega) (by omega)
   simp only[List.length_cons]
   omega
def R (ups:List Int)(lab:List Nat)(k:Int):List Nat:=if k < 0 then[]else W ups lab k.toNat
theorem Rc {ups:List Int}{lab:List Nat}(t:A6 ups lab){k:Int}(h0:0<=k)(hk:k < (ups.length:Int)):R ups lab k=lab.getD k.toNat 0::R ups lab (ups.getD k.toNat 0):=by
 unfold R
 rw[if_neg (by omega),JG t (by omega)]
end W7
namespace S24
open PySem L2 W7
def top (i:Nat):Stmt:=PySem.Challenge.pw_upwords_k24_whole_unlike_words_hang_toge.main.body.getD i (.Pass ⟨0,0,0,0⟩)
abbrev s_is_whole:Stmt:=top 5
abbrev K8:List Str:=["thing"]
theorem J1:AX K8 ["thing"] (AG s_is_whole):=⟨rfl,rfl,rfl,by decide+kernel,rfl,by decide+kernel,by decide+kernel⟩
abbrev s_is_number_below:Stmt:=top 6
abbrev E1:List Str:=["thing","behind"]
theorem EZ:AX E1 ["thing","behind"] (AG s_is_number_below):=⟨rfl,rfl,rfl,by decide+kernel,rfl,by decide+kernel,by decide+kernel⟩
abbrev s_words_of:Stmt:=top 8
abbrev K9:List Str:=["tree","words","letter","up"]
theorem Cm:AX K9 ["tree"] (AG s_words_of):=⟨rfl,rfl,rfl,by decide+kernel,rfl,by decide+kernel,by decide+kernel⟩
abbrev s_alike_of:Stmt:=top 10
abbrev HD:List Str:=["tree","words"]
theorem Fv:AX HD ["tree"] (AG s_alike_of):=⟨rfl,rfl,rfl,by decide+kernel,rfl,by decide+kernel,by decide+kernel⟩
abbrev s_many_alike:Stmt:=top 11
abbrev JH:List Str:=["one","other","many"]
theorem Cw:AX JH ["one","other"] (AG s_many_alike):=⟨rfl,rfl,rfl,by decide+kernel,rfl,by decide+kernel,by decide+kernel⟩
abbrev s_count_read:Stmt:=top 13
abbrev E2:List Str:=["words","word"]
theorem Hm:AX E2 ["words","word"] (AG s_count_read):=⟨rfl,rfl,rfl,by decide+kernel,rfl,by decide+kernel,by decide+kernel⟩
abbrev s_places_of:Stmt:=top 14
abbrev Fw:List Str:=["tree","word"]
theorem JI:AX Fw ["tree","word"] (AG s_places_of):=⟨rfl,rfl,rfl,by decide+kernel,rfl,by decide+kernel,by decide+kernel⟩
abbrev s_unlike_words:Stmt:=top 16
abbrev Dj:List Str:=["tree","found","word","alike"]
theorem Bi:AX Dj ["tree"] (AG s_unlike_words):=⟨rfl,rfl,rfl,by decide+kernel,rfl,by decide+kernel,by decide+kernel⟩
abbrev s_count_words:Stmt:=top 17
abbrev Hn:List Str:=["tree"]
theorem HE:AX Hn ["tree"] (AG s_count_words):=⟨rfl,rfl,rfl,by decide+kernel,rfl,by decide+kernel,by decide+kernel⟩
abbrev s_nth_word:Stmt:=top 18
abbrev LA:List Str:=["tree","k","unlike"]
theorem Fx:AX LA ["tree","k"] (AG s_nth_word):=⟨rfl,rfl,rfl,by decide+kernel,rfl,by decide+kernel,by decide+kernel⟩
abbrev s_number_of:Stmt:=top 19
abbrev J3:List Str:=["tree","word","unlike"]
theorem E3:AX J3 ["tree","word"] (AG s_number_of):=⟨rfl,rfl,rfl,by decide+kernel,rfl,by decide+kernel,by decide+kernel⟩
abbrev s_by_lengths:Stmt:=top 20
abbrev DF:List Str:=["tree","lengths"]
theorem EI:AX DF ["tree"] (AG s_by_lengths):=⟨rfl,rfl,rfl,by decide+kernel,rfl,by decide+kernel,by decide+kernel⟩
abbrev s_most_read:Stmt:=top 21
abbrev Dk:List Str:=["tree","length","beginnings","word"]
theorem DG:AX Dk ["tree","length"] (AG s_most_read):=⟨rfl,rfl,rfl,by decide+kernel,rfl,by decide+kernel,by decide+kernel⟩
abbrev s_longest_again:Stmt:=top 22
abbrev GA:List Str:=["tree","alike","longest","word"]
theorem Bc:AX GA ["tree"] (AG s_longest_again):=⟨rfl,rfl,rfl,by decide+kernel,rfl,by decide+kernel,by decide+kernel⟩
abbrev s_fronts_of:Stmt:=top 23
abbrev Fy:List Str:=["tree","word","words"]
theorem E4:AX Fy ["tree","word"] (AG s_fronts_of):=⟨rfl,rfl,rfl,by decide+kernel,rfl,by decide+kernel,by decide+kernel⟩
abbrev s_behinds_of:Stmt:=top 24
abbrev DH:List Str:=["tree","word","words","longer"]
theorem Cy:AX DH ["tree","word"] (AG s_behinds_of):=⟨rfl,rfl,rfl,by decide+kernel,rfl,by decide+kernel,by decide+kernel⟩
abbrev s_words_if_read:Stmt:=top 25
abbrev GB:List Str:=["tree","word","words"]
theorem C4:AX GB ["tree","word"] (AG s_words_if_read):=⟨rfl,rfl,rfl,by decide+kernel,rfl,by decide+kernel,by decide+kernel⟩
abbrev s_tallied:Stmt:=top 26
abbrev IS:List Str:=["letters"]
theorem LB:AX IS ["letters"] (AG s_tallied):=⟨rfl,rfl,rfl,by decide+kernel,rfl,by decide+kernel,by decide+kernel⟩
abbrev s_closed_words:Stmt:=top 27
abbrev Dm:List Str:=["tree","words","found","word","reading"]
theorem BS:AX Dm ["tree"] (AG s_closed_words):=⟨rfl,rfl,rfl,by decide+kernel,rfl,by decide+kernel,by decide+kernel⟩
abbrev s_law_prime:Stmt:=top 29
abbrev J4:List Str:=["at","some"]
theorem E5:AX J4 ["at"] (AG s_law_prime):=⟨rfl,rfl,rfl,by decide+kernel,rfl,by decide+kernel,by decide+kernel⟩
abbrev s_law_pool:Stmt:=top 30
abbrev LC:List Str:=["cell"]
theorem J5:AX LC ["cell"] (AG s_law_pool):=⟨rfl,rfl,rfl,by decide+kernel,rfl,by decide+kernel,by decide+kernel⟩
abbrev s_law_take:Stmt:=top 31
abbrev LD:List Str:=["pool","many","found","at","one","two"]
theorem CF:AX LD ["pool","many"] (AG s_law_take):=⟨rfl,rfl,rfl,by decide+kernel,rfl,by decide+kernel,by decide+kernel⟩
abbrev s_law_cells:Stmt:=top 32
abbrev J6:List Str:=["script","most","found","k"]
theorem DJ:AX J6 ["script","most"] (AG s_law_cells):=⟨rfl,rfl,rfl,by decide+kernel,rfl,by decide+kernel,by decide+kernel⟩
abbrev s_law_letter:Stmt:=top 33
abbrev JJ:List Str:=["pool","base"]
theorem Ho:AX JJ ["pool","base"] (AG s_law_letter):=⟨rfl,rfl,rfl,by decide+kernel,rfl,by decide+kernel,by decide+kernel⟩
abbrev s_law_tree:Stmt:=top 34
abbrev Ea:List Str:=["pool","most","many","base","way","turns","climbs","signs","ups","labels","k","some","place","step"]
theorem Af:AX Ea ["pool","most"] (AG s_law_tree):=⟨rfl,rfl,rfl,by decide+kernel,rfl,by decide+kernel,by decide+kernel⟩
abbrev s_law_word:Stmt:=top 35
abbrev LF:List Str:=["tree","place","found"]
theorem Cn:AX LF ["tree","place"] (AG s_law_word):=⟨rfl,rfl,rfl,by decide+kernel,rfl,by decide+kernel,by decide+kernel⟩
abbrev s_law_seek:Stmt:=top 36
abbrev LG:List Str:=["pool","tree","way","word","first","last","letter","some"]
theorem BY:AX LG ["pool","tree"] (AG s_law_seek):=⟨rfl,rfl,rfl,by decide+kernel,rfl,by decide+kernel,by decide+kernel⟩
abbrev s_law_numbers_right:Stmt:=top 37
abbrev Bf:List Str:=["tree","count","numbers","words"]
theorem BZ:AX Bf ["tree","count"] (AG s_law_numbers_right):=⟨rfl,rfl,rfl,by decide+kernel,rfl,by decide+kernel,by decide+kernel⟩
abbrev s_law_lengths_right:Stmt:=top 38
abbrev BJ:List Str:=["tree","count","found","again","places","words","length","many","there","word","most"]
theorem AV:AX BJ ["tree","count"] (AG s_law_lengths_right):=⟨rfl,rfl,rfl,by decide+kernel,rfl,by decide+kernel,by decide+kernel⟩
abbrev s_law_closed_right:Stmt:=top 39
abbrev A2:List Str:=["tree","closed","count","many","more","word","places","shorter","words"]
theorem Ag:AX A2 ["tree","closed","count"] (AG s_law_closed_right):=⟨rfl,rfl,rfl,by decide+kernel,rfl,by decide+kernel,by decide+kernel⟩
abbrev s_law_word_right:Stmt:=top 40
abbrev Az:List Str:=["tree","closed","word","places","beneath","whole","some"]
theorem BC:AX Az ["tree","closed","word"] (AG s_law_word_right):=⟨rfl,rfl,rfl,by decide+kernel,rfl,by decide+kernel,by decide+kernel⟩
abbrev s_law:Stmt:=top 41
abbrev Sy:List Str:=["script","k","cell","pool","tree","count","closed","word"]
theorem Dn:AX Sy ["script"] (AG s_law):=⟨rfl,rfl,rfl,by decide+kernel,rfl,by decide+kernel,by decide+kernel⟩
section
variable {P:Program}{w:World}{K:PySem.W.Frag}{mg:Str->Option Value}{base:Heap}{k:Nat}
def mk (l:List Nat):Str:=⟨l.toArray⟩
theorem BQ (l:List Nat):(mk l).cps.toList=l:=rfl
theorem DK (l:List Nat):(mk l).length=l.length:=by simp[mk,Str.length]
theorem BW {a b:Str}(h:a.cps.toList=b.cps.toList):a=b:=by
 obtain⟨x⟩:=a;obtain⟨y⟩:=b
 have:x=y:=Array.toList_inj.mp h
 rw[this]
theorem Rf (c:Nat)(l:List Nat):(⟨#[c]⟩:Str)++mk l=mk (c::l):=by
 apply BW
 rw[app_list]
 rfl
def Al (H:Hp)(t:Addr)(ups:List Int)(lab:Str):Prop:=∃u,H t=some (.tup [.ref u,.str lab])/\H u=some (.tup (ups.map V.int))/\A6 ups lab.cps.toList
theorem Al.same {H H':Hp}{t:Addr}{ups:List Int}{lab:Str}(h:Al H t ups lab)(s:AJ H H'):Al H' t ups lab:=by
 obtain⟨u,a,b,c⟩:=h
 exact⟨u,s _ _ a,s _ _ b,c⟩
def JK (cs:List Nat):List V:=cs.map λc=>.str ⟨#[c]⟩
theorem Om (cs:List Nat):(JK cs).length=cs.length:=List.length_map _
theorem P5 {cs:List Nat}{i:Int}(h0:0<=i)(h1:i < (cs.length:Int)):∃c,Ec (JK cs) i=some (.str ⟨#[c]⟩)/\c∈cs:=by
 have hk:i.toNat < cs.length:=by omega
 refine⟨cs[i.toNat],?_,List.getElem_mem hk⟩
 have e:=Bb (xs:=JK cs) (j:=i.toNat) (v:=.str ⟨#[cs[i.toNat]]⟩) (by unfold JK;rw[List.getElem?_map,List.getElem?_eq_getElem hk];rfl)
 rw[show((i.toNat:Nat):Int)=i by omega]at e
 exact e
theorem GJ {us:List Int}{i:Int}(h0:0<=i)(h1:i < (us.length:Int)):Ec (us.map V.int) i=some (.int (us.getD i.toNat 0)):=by
 have hk:i.toNat < us.length:=by omega
 have e:=Bb (xs:=us.map V.int) (j:=i.toNat) (v:=.int (us.getD i.toNat 0)) (by rw[List.getElem?_map,List.getElem?_eq_getElem hk,List.getD_eq_getElem?_getD,List.getElem?_eq_getElem hk];rfl)
 rw[show((i.toNat:Nat):Int)=i by omega]at e
 exact e
abbrev Lw (c:Nat):Prop:=97<=c/\c < 123
theorem MF {i:Int}(h0:0<=i)(h1:i < 26):∃c,Ec (Str.ofString "abcdefghijklmnopqrstuvwxyz").cps.toList i=some c/\Lw c:=by
 have hl:(Str.ofString "abcdefghijklmnopqrstuvwxyz").cps.toList.length=26:=by decide+kernel
 have hk:i.toNat < (Str.ofString "abcdefghijklmnopqrstuvwxyz").cps.toList.length:=by omega
 have e:=Bb (xs:=(Str.ofString "abcdefghijklmnopqrstuvwxyz").cps.toList) (j:=i.toNat) (List.getElem?_eq_getElem hk)
 rw[show((i.toNat:Nat):Int)=i by omega]at e
 have all:∀c∈(Str.ofString "abcdefghijklmnopqrstuvwxyz").cps.toList,Lw c:=by decide+kernel
 exact⟨_,e,all _ (List.getElem_mem hk)⟩
theorem menu {us:List Int}{n lo hi:Int}(h0:0<=n)(h1:n < (us.length:Int))(hb:∀v∈us,lo<=v/\v<=hi):∃v:Int,Ec (us.map V.int) n=some (.int v)/\lo<=v/\v<=hi:=by
 refine⟨_,GJ h0 h1,?_⟩
 have hk:n.toNat < us.length:=by omega
 rw[List.getD_eq_getElem?_getD,List.getElem?_eq_getElem hk]
 exact hb _ (List.getElem_mem hk)
def J7:Sp:=λvs H Q _=>∃z:Int,vs=[.int z]/\∀(n:Int) (H':Hp),0 < n->n < 2147483648->AJ H H'->Q (.int n) H'
theorem NR (D:Df K mg "_law_prime" s_law_prime)(B:Blt mg):A9 P w K mg base "_law_prime" (k+1) ["at"] J7:=by
 refine D.has E5 (λ_ _ _ _ _ _ us hl=>match us,hl with|[_],_=>rfl) (λvs H Q E h=>by obtain⟨z,rfl,_⟩:=h;rfl) (λf cdv A outer s H vs Q E hr h=>?_)
 obtain⟨z,rfl,q⟩:=h
 refine⟨_,(AE (AS (i:=1) E5.nd rfl (by first|exact Or.inl rfl|exact Or.inr rfl) (Av (AA AF (AA AF (AA AF (AA AF (AA AF (AA AF (AA AF AB)))))))))
 (AN (AW (Ai Aj (AU FK (pv 1) (Av (AA AF (AA AF (AA AF (AA AF AB)))))) (AU Bu (pv 0) AF) (λ_ _=>rfl))))),?_⟩
 refine⟨(by show 7<=sizeLine;decide),λr1 hr1=>?_⟩
 refine⟨_,rfl,(by show 4<=sizeLine;decide),λr2 hr2=>?_⟩
 have n12:r1≠r2:=AK AD hr2
 refine⟨r1,r2,_,_,rfl,rfl,by rw[AL n12];exact AD,AD,(by show 11<=sizeLine;decide),λr3 hr3=>?_⟩
 refine⟨_,rfl,_,_,rfl,rfl,(by decide:(0:Int) < 11),?_⟩
 obtain⟨v,hv,v0,v1⟩:=menu (us:=[2147483647,2147483629,2147483587,2147483579,2147483563,2147483549,2147483543,2147483497,2147483489,2147483477,2147483423]) (n:=z % 11) (lo:=1) (hi:=2147483647) (Int.emod_nonneg _ (by decide)) (Int.emod_lt_of_pos _ (by decide)) (by decide)
 refine⟨r3,_,_,_,rfl,rfl,AZ.of AD,hv,q v _ (by omega) (by omega) ?_⟩
 exact(((AJ.refl H).new hr1).new hr2).new hr3
def MG:Sp:=λvs H Q _=>∃cell:Int,vs=[.int cell]/\∀(p:Addr) (x y:Int),H p=none->Q (.ref p) (upd H p (.lst [.int x,.int y,.int 0]))
theorem Oo (D:Df K mg "_law_pool" s_law_pool)(B:Blt mg):A9 P w K mg base "_law_pool" (k+1) ["cell"] MG:=by
 refine D.has J5 (λ_ _ _ _ _ _ us hl=>match us,hl with|[_],_=>rfl) (λvs H Q E h=>by obtain⟨z,rfl,_⟩:=h;rfl) (λf cdv A outer s H vs Q E hr h=>?_)
 obtain⟨cell,rfl,q⟩:=h
 refine⟨_,(AN (AW (Av (AA (AI (Ds rfl) rfl B.max ES (AA AF (AA (AU Cq (pv 0) (AU Kp AF AF)) AB))) (AA (pv 0) (AA AF AB)))))),?_⟩
 refine⟨_,rfl,_,_,rfl,rfl,⟨by decide,by decide,by decide⟩,_,_,rfl,rfl,_,_,rfl,?_⟩
 exact⟨_,rfl,(by show 3<=sizeLine;decide),λp hp=>q p _ _ hp⟩
theorem Rg (u n z y:Int)(hn:0 < n)(hn2:n < 2147483648)(z0:0<=z)(z1:z < 1000000):(u % n*(u % n)+69621*z+y % 65537+1).natAbs < 2 ^ 64:=by
 have o1:=Int.emod_nonneg u (show n≠0 by omega)
 have o2:=Int.emod_lt_of_pos u hn
 generalize u % n=one at o1 o2
 have oo:one*one<=2147483648*2147483648:=Int.mul_le_mul (by omega) (by omega) o1 (by decide)
 have oo0:0<=one*one:=Int.mul_nonneg o1 o1
 have w1:=Int.emod_nonneg y (by decide:(65537:Int)≠0)
 have w2:=Int.emod_lt_of_pos y (by decide:(0:Int) < 65537)
 generalize one*one=q1 at oo oo0
 omega
theorem Rh (u n:Int)(hn:0 < n)(hn2:n < 2147483648):-(2 ^ 64) < u % n/\u % n < 2 ^ 64:=by
 have o1:=Int.emod_nonneg u (show n≠0 by omega)
 have o2:=Int.emod_lt_of_pos u hn
 omega
def GK:Sp:=λvs H Q _=>∃(p:Addr) (m c:Int),vs=[.ref p,.int m]/\CT H p c/\c < 1000000/\0 < m/\m < 1073741824/\∀(n:Int) (H':Hp),0<=n->n < m->Kd p (c+1) H H'->Q (.int n) H'
theorem Oq (D:Df K mg "_law_take" s_law_take)(B:Blt mg)(G_law_prime:A9 P w K mg base "_law_prime" k ["at"] J7):A9 P w K mg base "_law_take" (k+1) ["pool","many"] GK:=by
 refine D.has CF (λ_ _ _ _ _ _ us hl=>match us,hl with|[_,_],_=>rfl) (λvs H Q E h=>by obtain⟨p,m,c,rfl,_⟩:=h;rfl) (λf cdv A outer s H vs Q E hr h=>?_)
 obtain⟨p,m,c,rfl,⟨x,y,z,hp,z0,z1⟩,c6,m0,m1,q⟩:=h
 refine⟨_,(AE (Bs (Ac Li (Ai Aj (pv 0) AF (λ_ _=>rfl)) AF (Ad _))
 (AE (AS (i:=2) CF.nd rfl (by first|exact Or.inl rfl|exact Or.inr rfl) (AU Bu (Ai Aj (pv 0) AF (λ_ _=>rfl)) (pv 1)))
 (AE (GR (AU Ia (Ai Aj (pv 0) AF (λ_ _=>rfl)) (pv 1)) (Km (pv 0) AF set_list))
 (AN (AW (pv 2)))))
 Au)
 (AE (AS (i:=3) CF.nd rfl (by first|exact Or.inl rfl|exact Or.inr rfl) (Ai Aj (pv 0) AF (λ_ _=>rfl)))
 (AE (GR (AU BE (pv 3) AF) (Km (pv 0) AF set_list))
 (AE (AS (i:=4) CF.nd rfl (by first|exact Or.inl rfl|exact Or.inr rfl) (AU Bu (AU Kp (AU BE (AU BE (AU Bu (Ai Aj (pv 0) AF (λ_ _=>rfl)) AF) (AU C9 AF (pv 3))) AF) AF) (AH G_law_prime hr rfl (AA (pv 3) AB))))
 (AE (AS (i:=5) CF.nd rfl (by first|exact Or.inl rfl|exact Or.inr rfl) (AU Bu (AU Kp (AU BE (AU BE (AU BE (AU C9 (pv 4) (pv 4)) (AU C9 AF (pv 3))) (AU Bu (Ai Aj (pv 0) AF (λ_ _=>rfl)) AF)) AF) AF) (AH G_law_prime hr rfl (AA (AU BE (pv 3) AF) AB))))
 (AN (AW (AU Bu (AU Ia (AU Bu (AU BE (AU C9 (pv 5) AF) (pv 4)) (AH G_law_prime hr rfl (AA (AU BE (pv 3) AF) AB))) AF) (pv 1))))))))),?_⟩
 refine⟨_,rfl,p,_,_,_,rfl,rfl,AZ.of hp,rfl,_,_,rfl,rfl,_,rfl,Cf (λcnd=>?_) (λcnd=>?_)⟩
 ·refine⟨_,rfl,p,_,_,_,rfl,rfl,AZ.of hp,rfl,_,rfl,_,_,rfl,rfl,m0,?_⟩
  refine⟨_,rfl,p,_,_,_,rfl,rfl,AZ.of hp,rfl,_,rfl,_,_,rfl,rfl,⟨m0,m1⟩,?_⟩
  refine⟨_,rfl,p,_,_,0,rfl,rfl,hp,rfl,_,rfl,?_⟩
  exact q _ _ (Int.emod_nonneg _ (by omega)) (Int.emod_lt_of_pos _ m0) ⟨⟨_,y,z,AD,z0,by omega⟩,λb o hb e=>by rw[AL hb];exact e⟩
 ·refine⟨_,rfl,p,_,_,_,rfl,rfl,AZ.of hp,rfl,_,rfl,_,_,rfl,rfl,?_⟩
  refine⟨_,rfl,p,_,_,2,rfl,rfl,hp,rfl,?_⟩
  have hp':upd H p (.lst [.int x,.int y,.int (z+1)]) p=some (.lst [.int x,.int y,.int (z+1)]):=AD
  have kd:Kd p (c+1) H (upd H p (.lst [.int x,.int y,.int (z+1)])):=⟨⟨x,y,z+1,AD,by omega,by omega⟩,λb o hb e=>by rw[AL hb];exact e⟩
  have y1:=Int.emod_nonneg y (by decide:(2147483399:Int)≠0)
  have y2:=Int.emod_lt_of_pos y (by decide:(0:Int) < 2147483399)
  refine⟨_,rfl,p,_,_,_,rfl,rfl,AZ.of hp',rfl,_,_,rfl,rfl,(by decide:(0:Int) < 2147483399),_,rfl,_,_,rfl,rfl,.inl ⟨by decide,by decide⟩,_,_,rfl,rfl,_,_,rfl,rfl,_,_,rfl,rfl,⟨by decide,by decide,by omega⟩,?_⟩
  refine⟨_,rfl,z,rfl,λn1 H1 a0 a1 s1=>⟨_,_,rfl,rfl,a0,?_⟩⟩
  have hp1:=s1 _ _ hp'
  refine⟨_,rfl,_,rfl,_,_,rfl,rfl,.inl (Rh _ _ a0 a1),_,rfl,_,_,rfl,rfl,.inl ⟨by decide,by decide⟩,_,_,rfl,rfl,_,rfl,p,_,_,_,rfl,rfl,AZ.of hp1,rfl,_,_,rfl,rfl,(by decide:(0:Int) < 65537),_,_,rfl,rfl,_,_,rfl,rfl,_,_,rfl,rfl,⟨by decide,by decide,Rg _ _ _ _ a0 a1 z0 (by omega)⟩,?_⟩
  refine⟨_,rfl,_,_,rfl,rfl,z+4,rfl,λn2 H2 b0 b1 s2=>⟨_,_,rfl,rfl,b0,?_⟩⟩
  refine⟨_,rfl,_,_,rfl,rfl,.inr ⟨by decide,by decide⟩,_,rfl,_,_,rfl,rfl,_,rfl,_,_,rfl,rfl,z+7,rfl,λn3 H3 d0 d1 s3=>⟨_,_,rfl,rfl,d0,?_⟩⟩
  refine⟨_,_,rfl,rfl,⟨by decide,by decide⟩,_,rfl,_,_,rfl,rfl,m0,?_⟩
  exact q _ _ (Int.emod_nonneg _ (by omega)) (Int.emod_lt_of_pos _ m0) (((kd.same s1).same s2).same s3)
def IT:Sp:=λvs H Q _=>∃(p b:Addr) (c b0 b1:Int),vs=[.ref p,.ref b]/\CT H p c/\c < 1000000/\H b=some (.tup [.int b0,.int b1])/\0 < b1/\b1<=26/\∀(ch:Nat) (H':Hp),Lw ch->Kd p (c+1) H H'->Q (.str ⟨#[ch]⟩) H'
theorem LH (D:Df K mg "_law_letter" s_law_letter)(B:Blt mg)(G_law_take:A9 P w K mg base "_law_take" k ["pool","many"] GK):A9 P w K mg base "_law_letter" (k+1) ["pool","base"] IT:=by
 refine D.has Ho (λ_ _ _ _ _ _ us hl=>match us,hl with|[_,_],_=>rfl) (λvs H Q E h=>by obtain⟨p,b,c,b0,b1,rfl,_⟩:=h;rfl) (λf cdv A outer s H vs Q E hr h=>?_)
 obtain⟨p,b,c,b0,b1,rfl,hd,c6,hb,p0,p1,q⟩:=h
 refine⟨_,(AN (AW (Ai EN FE (AU Bu (AU BE (Ai CL (pv 1) AF (λ_ _=>rfl)) (AU C9 AF (AH G_law_take hr rfl (AA (pv 0) (AA (Ai CL (pv 1) AF (λ_ _=>rfl)) AB))))) AF) (λ_ _=>rfl)))),?_⟩
 have hl:(Str.ofString "abcdefghijklmnopqrstuvwxyz").length=26:=by decide+kernel
 refine⟨_,rfl,b,_,_,_,rfl,rfl,Ce.of hb,rfl,_,rfl,_,rfl,b,_,_,_,rfl,rfl,Ce.of hb,rfl,p,b1,c,rfl,hd,c6,p0,by omega,λn H1 n0 n1 kd=>?_⟩
 obtain⟨ch,hch,chl⟩:=MF (i:=(b0+5*n) % 26) (Int.emod_nonneg _ (by decide)) (Int.emod_lt_of_pos _ (by decide))
 refine⟨_,_,rfl,rfl,.inl ⟨by decide,by decide⟩,_,_,rfl,rfl,_,_,rfl,rfl,(by decide:(0:Int) < 26),_,_,_,rfl,rfl,by rw[hl];exact Nat.le_of_lt (AM (by decide)),hch,q ch H1 chl kd⟩
def BR (ups:List Int)(lab:Str)(n:Nat):List V:=(List.range n).map λj=>.str (mk (W ups lab.cps.toList j))
def CG:Sp:=λvs H Q _=>∃(t:Addr) (ups:List Int) (lab:Str),vs=[.ref t]/\Al H t ups lab/\∀(q:Addr) (H':Hp),AJ H H'->H' q=some (.lst (BR ups lab ups.length))->Q (.ref q) H'
theorem NS (D:Df K mg "words_of" s_words_of)(B:Blt mg):A9 P w K mg base "words_of" (k+1) ["tree"] CG:=by
 refine D.has Cm (λ_ _ _ _ _ _ us hl=>match us,hl with|[_],_=>rfl) (λvs H Q E h=>by obtain⟨t,ups,lab,rfl,_⟩:=h;rfl) (λf cdv A outer s H vs Q E hr h=>?_)
 obtain⟨t,ups,lab,rfl,⟨u,ht,hu,ok⟩,q⟩:=h
 refine⟨_,(AE (AS (i:=1) Cm.nd rfl (by first|exact Or.inl rfl|exact Or.inr rfl) (Av AB))
 (AE (Cp PassesOwn.never rfl (N9 rfl B.zip (AA (Ai CL (pv 0) AF (λ_ _=>rfl)) (AA (Ai CL (pv 0) AF (λ_ _=>rfl)) AB))) (EM rfl (Ah (AQ (i:=2) Cm.nd rfl (by first|exact Or.inl rfl|exact Or.inr rfl)) (Ah (AQ (i:=3) Cm.nd rfl (by first|exact Or.inl rfl|exact Or.inr rfl)) Bt)))
 (AN (GF (Ej PySem.F.plainAttrs_list PySem.F.slot_list_append PySem.F.type_list_append Du (pv 1) (AA (Nn (Ac DN (pv 3) (QV Nw AF) (Ad _)) (pv 2) (AU Bj (pv 2) (Ai Aj (pv 1) (pv 3) (λ_ _=>rfl)))) AB)))))
 (AN (AW (pv 1))))),?_⟩
 have hlen:(signs lab).length=(ups.map V.int).length:=by rw[List.length_map,ok.len];simp[signs]
 refine⟨(by show 0<=sizeLine;decide),λr hr0=>?_⟩
 have s0:AJ H (upd H r (.lst [])):=(AJ.refl H).new hr0
 refine⟨_,rfl,t,_,_,_,rfl,rfl,Ce.of (s0 _ _ ht),rfl,_,rfl,t,_,_,_,rfl,rfl,Ce.of (s0 _ _ ht),rfl,.str lab,.tup u,rfl,⟨_,rfl⟩,⟨_,.inl (s0 _ _ hu)⟩,?_⟩
 refine Lo (xs:=signs lab) (ys:=ups.map V.int) (λi σ H'=>∃o1 o2:Option V,σ=[some (.ref t),some (.ref r),o1,o2]/\AJ H H'/\H' r=some (.lst (BR ups lab i))) ⟨none,none,rfl,s0,AD⟩ hlen
  (λi σ H' hi h=>by obtain⟨o1,o2,_,s1,_⟩:=h;exact⟨rfl,.inl (s1 _ _ hu)⟩) ?_ ?_
 ·rintro i x y σ H' p hx hy ⟨o1,o2,rfl,s1,hr1⟩ hp
  obtain⟨c,hc,rfl⟩:∃c,lab.cps.toList[i]?=some c/\x=.str ⟨#[c]⟩:=by
   simp only[signs,List.getElem?_map]at hx
   cases e:lab.cps.toList[i]? with
   |none=>rw[e]at hx;cases hx
   |some c=>rw[e]at hx;exact⟨c,rfl,(Option.some.inj hx).symm⟩
  obtain⟨v,hv,rfl⟩:∃v,ups[i]?=some v/\y=.int v:=by
   simp only[List.getElem?_map]at hy
   cases e:ups[i]? with
   |none=>rw[e]at hy;cases hy
   |some v=>rw[e]at hy;exact⟨v,rfl,(Option.some.inj hy).symm⟩
  have hi:i < ups.length:=(List.getElem?_eq_some_iff.mp hv).1
  have ev:ups.getD i 0=v:=by rw[List.getD_eq_getElem?_getD,hv];rfl
  have ec:lab.cps.toList.getD i 0=c:=by rw[List.getD_eq_getElem?_getD,hc];rfl
  have hm:=ok.most
  have s2:AJ H (upd H' p (.tup [.str ⟨#[c]⟩,.int v])):=s1.new hp
  have hr2:upd H' p (.tup [.str ⟨#[c]⟩,.int v]) r=some (.lst (BR ups lab i)):=by rw[AL (AK hr1 hp)];exact hr1
  have wl:(BR ups lab i).length=i:=by simp[BR]
  have step:BR ups lab (i+1)=BR ups lab i++[.str (mk (W ups lab.cps.toList i))]:=by
   unfold BR
   rw[List.range_succ,List.map_append];rfl
  refine⟨p,_,rfl,Ce.of AD,rfl,_,_,rfl,_,_,rfl,rfl,?_⟩
  refine⟨_,rfl,.inl ⟨rfl,_,AZ.of hr2⟩,_,rfl,_,rfl,rfl,_,rfl,Cf (λcnd=>?_) (λcnd=>?_)⟩
  ·have e1:V.int v=V.int (-1):=of_decide_eq_true cnd
   have e2:v=-1:=by injection e1
   have ew:W ups lab.cps.toList i=[c]:=by rw[JG ok hi,ev,ec,if_pos (by omega)]
   refine⟨_,rfl,r,_,_,rfl,rfl,hr2,by rw[wl];exact AM (by omega),⟨_,_,rfl,s2.write hr0,?_⟩⟩
   rw[AD,step,ew]
   rfl
  ·have e1:¬V.int v=V.int (-1):=of_decide_eq_false (Bool.eq_false_iff.mpr cnd)
   have e2:v≠-1:=λz=>e1 (by rw[z])
   have e3:¬v < 0:=by
    have:=ok.neg hi
    rw[ev]at this
    omega
   have lt:=ok.lt hi (by rw[ev];exact e3)
   rw[ev]at lt
   have hat:Ec (BR ups lab i) v=some (.str (mk (W ups lab.cps.toList v.toNat))):=by
    have e:Ec (BR ups lab i) ((v.toNat:Nat):Int)=some (.str (mk (W ups lab.cps.toList v.toNat))):=Bb (by
     unfold BR
     rw[List.getElem?_map,List.getElem?_range lt];rfl)
    rw[show((v.toNat:Nat):Int)=v by omega]at e
    exact e
   have wle:=IQ ok (v.toNat+1) v.toNat (by omega) (by omega)
   have ew:W ups lab.cps.toList i=c::W ups lab.cps.toList v.toNat:=by rw[JG ok hi,ev,ec,if_neg e3]
   refine⟨_,rfl,_,rfl,_,rfl,r,_,_,_,rfl,rfl,AZ.of hr2,hat,_,_,rfl,rfl,?_,r,_,_,rfl,rfl,hr2,by rw[wl];exact AM (by omega),⟨_,_,rfl,s2.write hr0,?_⟩⟩
   ·rw[DK]
    have:(⟨#[c]⟩:Str).length=1:=rfl
    rw[this]
    exact Nat.le_of_lt (AM (by omega))
   ·rw[AD,step,ew,Rf]
 ·rintro σ H' ⟨o1,o2,rfl,s1,hr1⟩
  refine⟨_,rfl,q r H' s1 ?_⟩
  rw[hr1]
  congr 2
  simp[signs,ok.len]
def Dp:Sp:=λvs H Q _=>∃(t:Addr) (ups:List Int) (lab:Str) (i:Int),vs=[.ref t,.int i]/\Al H t ups lab/\i < (ups.length:Int)/\Q (.str (mk (R ups lab.cps.toList i))) H
theorem NT (D:Df K mg "_law_word" s_law_word)(B:Blt mg):A9 P w K mg base "_law_word" (k+1) ["tree","place"] Dp:=by
 refine D.has Cn (λ_ _ _ _ _ _ us hl=>match us,hl with|[_,_],_=>rfl) (λvs H Q E h=>by obtain⟨t,ups,lab,i,rfl,_⟩:=h;rfl) (λf cdv A outer s H vs Q E hr h=>?_)
 obtain⟨t,ups,lab,i,rfl,⟨u,ht,hu,ok⟩,hi,q⟩:=h
 refine⟨_,(AE (AS (i:=2) Cn.nd rfl (by first|exact Or.inl rfl|exact Or.inr rfl) FE)
 (AE (JV PassesOwn.never (Ac Nz (pv 1) AF (Ad _))
 (AE (AS (i:=2) Cn.nd rfl (by first|exact Or.inl rfl|exact Or.inr rfl) (AU Bj (pv 2) (Ai EN (Ai CL (pv 0) AF (λ_ _=>rfl)) (pv 1) (λ_ _=>rfl))))
 (AN (AS (i:=1) Cn.nd rfl (by first|exact Or.inl rfl|exact Or.inr rfl) (Ai CL (Ai CL (pv 0) AF (λ_ _=>rfl)) (pv 1) (λ_ _=>rfl))))))
 (AN (AW (pv 2))))),?_⟩
 have hm:=ok.most
 refine Nv (λσ H'=>H'=H/\∃(j:Int) (l:List Nat),σ=[some (.ref t),some (.int j),some (.str (mk l))]/\j < (ups.length:Int)/\l++R ups lab.cps.toList j=R ups lab.cps.toList i/\l.length+(j+1).toNat<=60)
  (λσ _=>match σ with|[_,some (.int j),_]=>(j+1).toNat|_=>0) ⟨rfl,i,[],rfl,hi,rfl,by simp;omega⟩ ?_ (λσ H Q Q' h ⟨v,e,i,j,e1,e2,k,e3,q⟩=>⟨v,e,i,j,e1,e2,k,e3,h _ _ q⟩)
 rintro σ H' ⟨rfl,j,l,rfl,hj,hl,hlen⟩
 refine⟨_,rfl,_,_,rfl,rfl,_,rfl,Cf (λc=>?_) (λc=>?_)⟩
 ·have c':0<=j:=of_decide_eq_true c
  have hk:j.toNat < ups.length:=by omega
  have hk2:j.toNat < lab.cps.toList.length:=by rw[<-ok.len];exact hk
  have e1:Ec lab.cps.toList j=some lab.cps.toList[j.toNat]:=by
   have e:=Bb (xs:=lab.cps.toList) (j:=j.toNat) (List.getElem?_eq_getElem hk2)
   rw[show((j.toNat:Nat):Int)=j by omega]at e
   exact e
  have e2:Ec (ups.map V.int) j=some (.int ups[j.toNat]):=by
   have e:=Bb (xs:=ups.map V.int) (j:=j.toNat) (v:=.int ups[j.toNat]) (by rw[List.getElem?_map,List.getElem?_eq_getElem hk];rfl)
   rw[show((j.toNat:Nat):Int)=j by omega]at e
   exact e
  have g1:lab.cps.toList.getD j.toNat 0=lab.cps.toList[j.toNat]:=by rw[List.getD_eq_getElem?_getD,List.getElem?_eq_getElem hk2];rfl
  have g2:ups.getD j.toNat 0=ups[j.toNat]:=by rw[List.getD_eq_getElem?_getD,List.getElem?_eq_getElem hk];rfl
  have st:=Rc ok c' hj
  rw[g1,g2]at st
  have lt:ups[j.toNat] < j:=by
   rcases Nat.eq_zero_or_pos j.toNat with z|z
   ·have:=ok.root
    rw[<-z,g2]at this
    omega
   ·have:=ok.up j.toNat z hk
    rw[g2]at this
    omega
  have hlab:lab.length=ups.length:=by rw[ok.len];simp[Str.length]
  refine⟨_,rfl,_,rfl,t,_,_,_,rfl,rfl,Ce.of ht,rfl,_,rfl,_,_,_,rfl,rfl,by rw[hlab];exact Nat.le_of_lt (AM (by omega)),e1,_,_,rfl,rfl,?_,?_⟩
  ·rw[DK]
   have:(⟨#[lab.cps.toList[j.toNat]]⟩:Str).length=1:=rfl
   rw[this]
   exact Nat.le_of_lt (AM (by omega))
  ·refine⟨_,rfl,t,_,_,_,rfl,rfl,Ce.of ht,rfl,_,rfl,u,_,_,_,rfl,rfl,Ce.of hu,e2,?_⟩
   refine⟨⟨rfl,ups[j.toNat],l++[lab.cps.toList[j.toNat]],?_,by omega,?_,?_⟩,?_⟩
   ·have:mk l++(⟨#[lab.cps.toList[j.toNat]]⟩:Str)=mk (l++[lab.cps.toList[j.toNat]]):=by
     apply BW;rw[app_list];rfl
    rw[this];rfl
   ·rw[List.append_assoc,<-hl,st];rfl
   ·simp only[List.length_append,List.length_singleton];omega
   ·show(ups[j.toNat]+1).toNat < (j+1).toNat
    omega
 ·have c':¬0<=j:=of_decide_eq_false (Bool.eq_false_iff.mpr c)
  have e:l=R ups lab.cps.toList i:=by
   rw[<-hl];unfold R;rw[if_pos (show j < 0 by omega),List.append_nil]
  refine⟨_,rfl,?_⟩
  rw[e]
  exact q
end
end S24
namespace S24
open PySem L2 W7
section
variable {P:Program}{w:World}{K:PySem.W.Frag}{mg:Str->Option Value}{base:Heap}{k:Nat}
def Dq (us:List Int)(p:Int):Int:=if us.getD p.toNat 0 > 0 then us.getD p.toNat 0 else 0
def Be (us:List Int):Nat->Int->Int
 |0,p=>p
 |n+1,p=>Dq us (Be us n p)
structure Hq (us:List Int):Prop where
 road:∀k,0 < k->k < us.length->∃n,Be us n ((k:Int) - 1)=us.getD k 0
 pos:0 < us.length
 root:us.getD 0 0=-1
 up:∀k,0 < k->k < us.length->0<=us.getD k 0/\us.getD k 0 < (k:Int)
theorem E6 {us vs:List Int}{j:Nat}:(us++vs).getD j 0=if j < us.length then us.getD j 0 else vs.getD (j - us.length) 0:=by
 simp only[List.getD_eq_getElem?_getD]
 split
 ·rename_i h;rw[List.getElem?_append_left h]
 ·rename_i h;rw[List.getElem?_append_right (by omega)]
theorem Hq.Be {us:List Int}(g:Hq us)(v:Int){p:Int}(h0:0<=p)(h1:p < (us.length:Int)):∀n,Be (us++[v]) n p=Be us n p/\0<=Be us n p/\Be us n p < (us.length:Int)
 |0=>⟨rfl,h0,h1⟩
 |n+1=>by
  obtain⟨a,b,c⟩:=g.Be v h0 h1 n
  have lt:(S24.Be us n p).toNat < us.length:=by omega
  have e:(us++[v]).getD (S24.Be us n p).toNat 0=us.getD (S24.Be us n p).toNat 0:=by rw[E6,if_pos lt]
  refine⟨?_,?_⟩
  ·show Dq (us++[v]) (S24.Be (us++[v]) n p)=Dq us (S24.Be us n p)
   rw[a];unfold Dq;rw[e]
  ·show 0<=Dq us (S24.Be us n p)/\Dq us (S24.Be us n p) < (us.length:Int)
   have pos:=g.pos
   unfold Dq
   rcases Nat.eq_zero_or_pos (S24.Be us n p).toNat with z|z
   ·rw[z,g.root];exact⟨by decide,by show(0:Int) < _;omega⟩
   ·have:=g.up _ z lt
    split<;>omega
theorem Hq.snoc {us:List Int}(g:Hq us){v:Int}(h0:0<=v)(h1:v < (us.length:Int))(hr:∃n,S24.Be us n ((us.length:Int) - 1)=v):Hq (us++[v]) where
 road:=λj hj hl=>by
  rw[List.length_append,List.length_singleton]at hl
  rw[E6]
  have pos:=g.pos
  split
  ·rename_i h
   obtain⟨n,e⟩:=g.road j hj h
   exact⟨n,((g.Be v (by omega) (by omega) n).1).trans e⟩
  ·rename_i h
   have e:j=us.length:=by omega
   subst e
   obtain⟨n,e⟩:=hr
   rw[Nat.sub_self]
   exact⟨n,((g.Be v (by omega) (by omega) n).1).trans e⟩
 pos:=by rw[List.length_append];have:=g.pos;omega
 root:=by rw[E6,if_pos g.pos];exact g.root
 up:=λj hj hl=>by
  rw[List.length_append,List.length_singleton]at hl
  rw[E6]
  split
  ·rename_i h;exact g.up j hj h
  ·rename_i h
   have e:j=us.length:=by omega
   subst e
   rw[Nat.sub_self]
   exact⟨h0,h1⟩
theorem Hq.one:Hq [-1]:=⟨λj h0 h1=>by
 have:j < 1:=h1
 omega,by decide,rfl,λj h0 h1=>by
 have:j < 1:=h1
 omega⟩
theorem P6 {us:List Int}{ls:List Nat}(g:Hq us)(hl:us.length=ls.length)(h60:us.length<=60):A6 us (mk ls).cps.toList:=⟨by rw[BQ];exact hl,g.pos,h60,g.root,g.up⟩
structure UD (ups:List Int)(lab:Str):Prop where
 low:∀c∈lab.cps.toList,Lw c
 road:∀k,0 < k->k < ups.length->∃n,Be ups n ((k:Int) - 1)=ups.getD k 0
theorem MH {cs:List Nat}{c:Nat}(h:∀x∈cs,Lw x)(hc:Lw c):∀x∈cs++[c],Lw x:=λx hx=>by
 rcases List.mem_append.mp hx with z|z
 ·exact h x z
 ·obtain rfl:=List.mem_singleton.mp z;exact hc
def MI:Sp:=λvs H Q _=>∃(p:Addr) (most c:Int),vs=[.ref p,.int most]/\CT H p c/\0<=c/\c < 900000/\1<=most/\most<=60/\∀(t:Addr) (ups:List Int) (lab:Str) (H':Hp),Kd p (c+400) H H'->Al H' t ups lab->UD ups lab->Q (.ref t) H'
theorem Ot (D:Df K mg "_law_tree" s_law_tree)(B:Blt mg)(G_law_take:A9 P w K mg base "_law_take" k ["pool","many"] GK)(G_law_letter:A9 P w K mg base "_law_letter" k ["pool","base"] IT):A9 P w K mg base "_law_tree" (k+1) ["pool","most"] MI:=by
 refine D.has Af (λ_ _ _ _ _ _ us hl=>match us,hl with|[_,_],_=>rfl) (λvs H Q E h=>by obtain⟨p,m,c,rfl,_⟩:=h;rfl) (λf cdv A outer s H vs Q E hr h=>?_)
 obtain⟨p,most,c,rfl,hd,cc0,cc1,ms1,ms60,q⟩:=h
 refine⟨_,(AE (AS (i:=2) Af.nd rfl (by first|exact Or.inl rfl|exact Or.inr rfl) (Ai Aj (Av (AA (AU BE AF (AH G_law_take hr rfl (AA (pv 0) (AA (pv 1) AB)))) (AA (pv 1) (AA (AU BE AF (AH G_law_take hr rfl (AA (pv 0) (AA (AI (Dt rfl) rfl B.min FO (AA (pv 1) (AA AF AB))) AB)))) AB)))) (AH G_law_take hr rfl (AA (pv 0) (AA AF AB))) (λ_ _=>rfl)))
 (AE (AS (i:=3) Af.nd rfl (by first|exact Or.inl rfl|exact Or.inr rfl) (DR (AA (AH G_law_take hr rfl (AA (pv 0) (AA AF AB))) (AA (Ai Aj (Av (AA AF (AA AF (AA AF (AA AF AB))))) (AH G_law_take hr rfl (AA (pv 0) (AA AF AB))) (λ_ _=>rfl)) AB))))
 (AE (AS (i:=4) Af.nd rfl (by first|exact Or.inl rfl|exact Or.inr rfl) (AH G_law_take hr rfl (AA (pv 0) (AA AF AB))))
 (AE (AS (i:=5) Af.nd rfl (by first|exact Or.inl rfl|exact Or.inr rfl) (AU BE AF (AH G_law_take hr rfl (AA (pv 0) (AA AF AB)))))
 (AE (CQ (i:=6) Af.nd rfl (by first|exact Or.inl rfl|exact Or.inr rfl) rfl (C0 rfl B.range (AA (pv 5) AB)) (NL:=["k"]) (ix:=[0]) (En (AG s_law_tree) Ea) (λcl C s₃ H₃ fp pins=>⟨(AQ (i:=0) (show List.Nodup (["k","pool"]:List Str)from by decide+kernel) rfl (by first|exact Or.inl rfl|exact Or.inr rfl)),Ar,(AH G_law_take hr rfl (AA (pv 1) (AA AF AB)))⟩))
 (AE (CQ (i:=7) Af.nd rfl (by first|exact Or.inl rfl|exact Or.inr rfl) rfl (C0 rfl B.range (AA (pv 5) AB)) (NL:=["k"]) (ix:=[0,3]) (En (AG s_law_tree) Ea) (λcl C s₃ H₃ fp pins=>⟨(AQ (i:=0) (show List.Nodup (["k","pool","base"]:List Str)from by decide+kernel) rfl (by first|exact Or.inl rfl|exact Or.inr rfl)),Ar,(AH G_law_letter hr rfl (AA (pv 1) (AA (pv 2) AB)))⟩))
 (AE (AS (i:=8) Af.nd rfl (by first|exact Or.inl rfl|exact Or.inr rfl) (Av (AA (AU Cq AF AF) AB)))
 (AE (AS (i:=9) Af.nd rfl (by first|exact Or.inl rfl|exact Or.inr rfl) (AH G_law_letter hr rfl (AA (pv 0) (AA (pv 3) AB))))
 (AE (Cp PassesOwn.never rfl (CW rfl B.range (AA AF (AA (pv 2) AB))) (AQ (i:=10) Af.nd rfl (by first|exact Or.inl rfl|exact Or.inr rfl))
 (AE (AS (i:=11) Af.nd rfl (by first|exact Or.inl rfl|exact Or.inr rfl) (Av (AA AF (AA AF (AA (AU Bu (pv 10) AF) (AA (AH G_law_take hr rfl (AA (pv 0) (AA AF AB))) (AA (AH G_law_take hr rfl (AA (pv 0) (AA AF AB))) AB)))))))
 (AE (AS (i:=11) Af.nd rfl (by first|exact Or.inl rfl|exact Or.inr rfl) (AU FK (pv 11) (Av (AA (Ai Aj (pv 6) (AU Bu (pv 10) (pv 5)) (λ_ _=>rfl)) (AA (AH G_law_take hr rfl (AA (pv 0) (AA AF AB))) (AA (AU C9 AF (AH G_law_take hr rfl (AA (pv 0) (AA AF AB)))) AB))))))
 (AE (AS (i:=12) Af.nd rfl (by first|exact Or.inl rfl|exact Or.inr rfl) (AU Cq (pv 10) AF))
 (AE (Cp PassesOwn.never rfl (C0 rfl B.range (AA (Ai Aj (pv 11) (pv 4) (λ_ _=>rfl)) AB)) (AQ (i:=13) Af.nd rfl (by first|exact Or.inl rfl|exact Or.inr rfl))
 (AN (AS (i:=12) Af.nd rfl (by first|exact Or.inl rfl|exact Or.inr rfl) (AI (Ds rfl) rfl B.max ES (AA AF (AA (Ai Aj (pv 8) (pv 12) (λ_ _=>rfl)) AB))))))
 (AE (GF (Ej PySem.F.plainAttrs_list PySem.F.slot_list_append PySem.F.type_list_append Du (pv 8) (AA (pv 12) AB)))
 (AN (AS (i:=9) Af.nd rfl (by first|exact Or.inl rfl|exact Or.inr rfl) (AU Bj (pv 9) (Ai Aj (Av (AA (AH G_law_letter hr rfl (AA (pv 0) (AA (pv 3) AB))) (AA (Ai Aj (pv 7) (AU Bu (pv 10) (pv 5)) (λ_ _=>rfl)) AB))) (B3 Ht rfl B.int_ Ku (AA (B9 DN (pv 4) AF (Ad _)) AB)) (λ_ _=>rfl)))))))))))
 (AN (AW (DR (AA (B3 Hg rfl B.tuple_ OB (AA (pv 8) AB)) (AA (pv 9) AB)))))))))))))),?_⟩
 refine⟨_,rfl,_,rfl,p,most,c,rfl,hd,by omega,by omega,by omega,λn1 H1 a0 a1 kd1=>?_⟩
 refine⟨_,_,rfl,rfl,_,rfl,_,rfl,_,rfl,_,_,rfl,p,_,c+1,rfl,kd1.deck,by omega,?_,?_,λn2 H2 b0 b1 kd2=>?_⟩
 ·split<;>omega
 ·split<;>omega
 have b2:n2 < 7/\n2 < most:=by
  revert b1;split<;>omega
 refine⟨_,_,rfl,rfl,(by show 3<=sizeLine;decide),λr1 hr1=>?_⟩
 have kq2:=((kd1.trans kd2).new (o:=.lst [.int (1+n1),.int most,.int (1+n2)]) hr1)
 refine⟨_,rfl,p,3,_,rfl,kq2.deck,by omega,by decide,by decide,λn3 H3 d0 d1 kd3=>?_⟩
 have ku3:=kq2.trans kd3
 obtain⟨many,hmany,mn1,mn60⟩:∃v:Int,Ec [V.int (1+n1),.int most,.int (1+n2)] n3=some (.int v)/\1<=v/\v<=60:=by
  have:n3=0\/n3=1\/n3=2:=by omega
  rcases this with rfl|rfl|rfl
  ·exact⟨_,rfl,by omega,by omega⟩
  ·exact⟨_,rfl,by omega,by omega⟩
  ·exact⟨_,rfl,by omega,by omega⟩
 refine⟨r1,_,_,_,rfl,rfl,AZ.of (kd3.keep _ _ (kd2.deck.ne hr1) AD),hmany,?_⟩
 refine⟨_,rfl,p,26,_,rfl,ku3.deck,by omega,by decide,by decide,λb0' H4 e0 e1 kd4=>?_⟩
 have ku4:=ku3.trans kd4
 refine⟨(by show 4<=sizeLine;decide),λr2 hr2=>?_⟩
 have kq4:=ku4.new (o:=.lst [.int 1,.int 2,.int 3,.int 26]) hr2
 refine⟨_,rfl,p,4,_,rfl,kq4.deck,by omega,by decide,by decide,λn5 H5 f0 f1 kd5=>?_⟩
 have ku5:=kq4.trans kd5
 obtain⟨bb,hbb,bb1,bb26⟩:=menu (us:=[1,2,3,26]) (n:=n5) (lo:=1) (hi:=26) f0 f1 (by decide)
 refine⟨r2,_,_,_,rfl,rfl,AZ.of (kd5.keep _ _ (ku4.deck.ne hr2) AD),hbb,(by show 2<=sizeLine;decide),λbs hbs=>?_⟩
 have hHbs:H bs=none:=ku5.fresh hbs
 have bsp:bs≠p:=ku5.deck.ne hbs
 have kq5:=(ku5.new (o:=.tup [.int b0',.int bb]) hbs).mono (show _<=c+5 by omega)
 have hb5:upd H5 bs (.tup [.int b0',.int bb]) bs=some (.tup [.int b0',.int bb]):=AD
 generalize upd H5 bs (.tup [.int b0',.int bb])=Hb at kq5 hb5
 refine⟨_,rfl,p,8,_,rfl,kq5.deck,by omega,by decide,by decide,λway H6 g0 g1 kd6=>?_⟩
 have ku6:=kq5.trans kd6
 have hb6:=kd6.keep _ _ bsp hb5
 refine⟨_,rfl,p,7,_,rfl,ku6.deck,by omega,by decide,by decide,λn9 H9 k0 k1 kd9=>?_⟩
 have ku9:=(ku6.trans kd9).mono (show _<=c+9 by omega)
 have hb9:=kd9.keep _ _ bsp hb6
 refine⟨_,_,rfl,rfl,?_⟩
 have per1:1<=(1+n9):=by omega
 have per7:(1+n9)<=7:=by omega
 refine⟨_,rfl,_,rfl,by omega,by omega,λcl0 hcl=>?_⟩
 have hHcl:H cl0=none:=ku9.fresh hcl
 have clp:cl0≠p:=ku9.deck.ne hcl
 have bcl:bs≠cl0:=AK hb9 hcl
 refine By (1+n9).toNat (by omega) (λj ys H'=>H' cl0=some (.lst ys)/\ys.length=j/\Kd p (c+9+j) H H'/\H' bs=some (.tup [.int b0',.int bb])/\∃us:List Int,ys=us.map V.int/\∀v∈us,0<=v/\v<=3)
  (λj ys H' h=>⟨h.1,by omega⟩) ⟨AD,rfl,(ku9.new hcl).mono (by omega),by rw[AL bcl];exact hb9,[],rfl,by simp⟩ ?_ ?_
 rotate_left
 ·rintro j ys Ha hj ⟨x1,x2,x3,x4,us,rfl,x5⟩
  refine⟨hj,?_⟩
  rintro x H4' ⟨rfl,rfl⟩
  refine⟨rfl,?_⟩
  refine⟨_,rfl,p,4,_,rfl,x3.deck,by omega,by decide,by decide,λn Hc y0 y1 kd=>?_⟩
  refine⟨kd.keep _ _ clp x1,AD,by rw[List.length_append,x2];rfl,((x3.trans kd).write hHcl clp).mono (by omega),by rw[AL bcl];exact kd.keep _ _ bsp x4,us++[n],by rw[List.map_append];rfl,λv hv=>?_⟩
  rcases List.mem_append.mp hv with hv|hv
  ·exact x5 v hv
  ·have:v=n:=by simpa using hv
   omega
 rintro ys Ha ⟨hc1,hc2,ku10,hb10,cls,rfl,hcls⟩
 refine⟨Nat.le_refl _,?_⟩
 rw[List.length_map]at hc2
 refine⟨_,rfl,_,rfl,by omega,by omega,λsg0 hsg=>?_⟩
 have hHsg:H sg0=none:=ku10.fresh hsg
 have sgp:sg0≠p:=ku10.deck.ne hsg
 have bsg:bs≠sg0:=AK hb10 hsg
 have csg:cl0≠sg0:=AK hc1 hsg
 refine By (1+n9).toNat (by omega) (λj ys H'=>H' sg0=some (.lst ys)/\ys.length=j/\Kd p (c+9+(1+n9).toNat+j) H H'/\H' bs=some (.tup [.int b0',.int bb])/\H' cl0=some (.lst (cls.map V.int))/\∃cs:List Nat,ys=JK cs/\∀c∈cs,Lw c)
  (λj ys H' h=>⟨h.1,by omega⟩) ⟨AD,rfl,(ku10.new hsg).mono (by omega),by rw[AL bsg];exact hb10,by rw[AL csg];exact hc1,[],rfl,by simp⟩ ?_ ?_
 rotate_left
 ·rintro j ys Hb' hj ⟨x1,x2,x3,x4,x5,cs,rfl,x6⟩
  refine⟨hj,?_⟩
  rintro x H4' ⟨rfl,rfl⟩
  refine⟨rfl,?_⟩
  refine⟨_,rfl,_,rfl,p,bs,_,b0',bb,rfl,x3.deck,by omega,x4,by omega,by omega,λch Hc chl kd=>?_⟩
  refine⟨kd.keep _ _ sgp x1,AD,by rw[List.length_append,x2];rfl,((x3.trans kd).write hHsg sgp).mono (by omega),by rw[AL bsg];exact kd.keep _ _ bsp x4,by rw[AL csg];exact kd.keep _ _ clp x5,cs++[ch],by unfold JK;rw[List.map_append];rfl,MH x6 chl⟩
 rintro ys Hb' ⟨hs1,hs2,ku11,hb11,hc11,cs,rfl,lowc⟩
 refine⟨Nat.le_refl _,?_⟩
 rw[Om]at hs2
 have ku11':=ku11.mono (show _<=c+23 by omega)
 refine⟨_,_,rfl,rfl,(by show 1<=sizeLine;decide),λu hu0=>?_⟩
 have hup:u≠p:=ku11'.deck.ne hu0
 have hHu:H u=none:=ku11'.fresh hu0
 have ubs:bs≠u:=AK hb11 hu0
 have ucl:cl0≠u:=AK hc11 hu0
 have usg:sg0≠u:=AK hs1 hu0
 have ku12:Kd p (c+23) H (upd Hb' u (.lst [.int (0 - 1)])):=ku11'.new hu0
 have hb12:upd Hb' u (.lst [.int (0 - 1)]) bs=some (.tup [.int b0',.int bb]):=by rw[AL ubs];exact hb11
 have hc12:upd Hb' u (.lst [.int (0 - 1)]) cl0=some (.lst (cls.map V.int)):=by rw[AL ucl];exact hc11
 have hs12:upd Hb' u (.lst [.int (0 - 1)]) sg0=some (.lst (JK cs)):=by rw[AL usg];exact hs1
 have hu12:upd Hb' u (.lst [.int (0 - 1)]) u=some (.lst (([-1]:List Int).map V.int)):=AD
 generalize upd Hb' u (.lst [.int (0 - 1)])=H12 at ku12 hb12 hc12 hs12 hu12
 refine⟨_,rfl,_,rfl,p,bs,_,b0',bb,rfl,ku12.deck,by omega,hb12,by omega,by omega,λlc0 H13 lcl0 kd13=>?_⟩
 have ku13:=(ku12.trans kd13).mono (show _<=c+24 by omega)
 have hb13:=kd13.keep _ _ bsp hb12
 have hc13:=kd13.keep _ _ clp hc12
 have hs13:=kd13.keep _ _ sgp hs12
 have hu13:=kd13.keep _ _ hup hu12
 refine⟨_,rfl,_,_,rfl,⟨by omega,by omega,by omega,by omega⟩,?_⟩
 refine FG (lo:=1) (n:=(many - 1).toNat) (λi σ H'=>∃(us:List Int) (ls:List Nat) (tx:Str) (o10 o11 o12 o13:Option V),
  σ=[some (.ref p),some (.int most),some (.int many),some (.ref bs),some (.int way),some (.int (1+n9)),some (.ref cl0),some (.ref sg0),some (.ref u),some (.str tx),o10,o11,o12,o13]/\tx=mk ls/\
  Kd p (c+24+6*i) H H'/\H' bs=some (.tup [.int b0',.int bb])/\H' cl0=some (.lst (cls.map V.int))/\H' sg0=some (.lst (JK cs))/\H' u=some (.lst (us.map V.int))/\us.length=i+1/\ls.length=i+1/\Hq us/\∀c∈ls,Lw c)
  ⟨[-1],[lc0],_,none,none,none,none,rfl,rfl,ku13.mono (by omega),hb13,hc13,hs13,hu13,rfl,rfl,Hq.one,λx hx=>by obtain rfl:=List.mem_singleton.mp hx;exact lcl0⟩ ?_ ?_
 ·rintro i σ H' hi ⟨us,ls,tx,o10,o11,o12,o13,rfl,rfl,kd,hb,hc,hs,hu,hlen,hls,gr,low⟩
  have hul:(us.map V.int).length=us.length:=List.length_map _
  have im:=Int.emod_nonneg (1+(i:Int)) (show(1+n9)≠0 by omega)
  have im2:=Int.emod_lt_of_pos (1+(i:Int)) (show 0 < (1+n9) by omega)
  have i2:=Int.emod_nonneg (1+(i:Int)) (by decide:(2:Int)≠0)
  have i22:=Int.emod_lt_of_pos (1+(i:Int)) (by decide:(0:Int) < 2)
  obtain⟨cv,hcv,cv0,cv3⟩:=menu (us:=cls) (n:=(1+(i:Int)) % (1+n9)) (lo:=0) (hi:=3) im (by omega) hcls
  refine⟨_,rfl,_,_,rfl,rfl,(by decide:(0:Int) < 2),_,rfl,p,2,_,rfl,kd.deck,by omega,by decide,by decide,λm1 G1 p0 p1 e1=>?_⟩
  refine⟨_,rfl,p,3,_,rfl,e1.deck,by omega,by decide,by decide,λm2 G2 p2 p3 e2=>?_⟩
  refine⟨(by show 5<=sizeLine;decide),λs1 hs1'=>?_⟩
  have kd3:=(((Kd.refl kd.deck).trans e1).trans e2).new (o:=.lst [.int 0,.int 60,.int ((1+(i:Int)) % 2),.int m1,.int m2]) hs1'
  have hsp1:s1≠p:=e2.deck.ne hs1'
  have hss1:upd G2 s1 (.lst [.int 0,.int 60,.int ((1+(i:Int)) % 2),.int m1,.int m2]) s1=some (.lst [.int 0,.int 60,.int ((1+(i:Int)) % 2),.int m1,.int m2]):=AD
  generalize upd G2 s1 (.lst [.int 0,.int 60,.int ((1+(i:Int)) % 2),.int m1,.int m2])=G3' at kd3 hss1
  have hc2:=kd3.keep _ _ clp hc
  refine⟨_,rfl,_,rfl,_,rfl,_,rfl,_,_,rfl,rfl,by omega,cl0,_,_,_,rfl,rfl,AZ.of hc2,hcv,?_⟩
  refine⟨_,rfl,p,5,_,rfl,kd3.deck,by omega,by decide,by decide,λm3 G4 p4 p5 e3=>?_⟩
  refine⟨_,rfl,p,2,_,rfl,e3.deck,by omega,by decide,by decide,λm4 G5 p6 p7 e4=>?_⟩
  refine⟨_,_,rfl,rfl,.inl ⟨by decide,by decide⟩,(by show 3<=sizeLine;decide),λs2 hs2'=>?_⟩
  have kd5:=((kd3.trans e3).trans e4).new (o:=.lst [.int cv,.int m3,.int (3*m4)]) hs2'
  have hss2:upd G5 s2 (.lst [.int cv,.int m3,.int (3*m4)]) s1=some (.lst [.int 0,.int 60,.int ((1+(i:Int)) % 2),.int m1,.int m2]):=by
   have z:=e4.keep _ _ hsp1 (e3.keep _ _ hsp1 hss1)
   rw[AL (AK z hs2')];exact z
  refine⟨s1,s2,_,_,rfl,rfl,hss2,AD,(by show 8<=sizeLine;decide),λs3 hs3'=>?_⟩
  have kd6:=kd5.new (o:=.lst ([.int 0,.int 60,.int ((1+(i:Int)) % 2),.int m1,.int m2]++[.int cv,.int m3,.int (3*m4)])) hs3'
  have hs3:upd (upd G5 s2 (.lst [.int cv,.int m3,.int (3*m4)])) s3 (.lst ([.int 0,.int 60,.int ((1+(i:Int)) % 2),.int m1,.int m2]++[.int cv,.int m3,.int (3*m4)])) s3=some (.lst (([0,60,(1+(i:Int)) % 2,m1,m2,cv,m3,3*m4]:List Int).map V.int)):=AD
  generalize upd (upd G5 s2 (.lst [.int cv,.int m3,.int (3*m4)])) s3 (.lst ([.int 0,.int 60,.int ((1+(i:Int)) % 2),.int m1,.int m2]++[.int cv,.int m3,.int (3*m4)]))=G6 at kd6 hs3
  have kk:Kd p (c+24+6*i+5) H G6:=(kd.trans kd6).mono (by omega)
  have keep:∀b o,b≠p->H' b=some o->G6 b=some o:=kd6.keep
  have hu6:=keep _ _ hup hu
  have hb6':=keep _ _ bsp hb
  have hs6:=keep _ _ sgp hs
  refine⟨_,rfl,_,_,rfl,rfl,?_⟩
  obtain⟨stp,hstp,st0,st60⟩:=menu (us:=[0,60,(1+(i:Int)) % 2,m1,m2,cv,m3,3*m4]) (n:=way) (lo:=0) (hi:=60) g0 (by show way < 8;exact g1) (by
   intro v hv
   simp only[List.mem_cons,List.not_mem_nil,or_false]at hv
   rcases hv with rfl|rfl|rfl|rfl|rfl|rfl|rfl|rfl<;>omega)
  refine⟨_,rfl,_,rfl,s3,_,_,_,rfl,rfl,AZ.of hs3,hstp,_,rfl,by omega,by omega,?_⟩
  have hn:stp.toNat<=60:=by omega
  generalize stp.toNat=nst at hn
  refine FG (lo:=0) (n:=nst) (λj σ H''=>∃(pl:Int) (o13':Option V),
   σ=[some (.ref p),some (.int most),some (.int many),some (.ref bs),some (.int way),some (.int (1+n9)),some (.ref cl0),some (.ref sg0),some (.ref u),some (.str (mk ls)),some (.int (1+(i:Int))),some (.ref s3),some (.int pl),o13']/\H''=G6/\0<=pl/\pl < (i:Int)+1/\∃n,Be us n (1+(i:Int) - 1)=pl)
   ⟨1+(i:Int) - 1,o13,rfl,rfl,by omega,by omega,0,rfl⟩ ?_ ?_
  ·rintro j σ H'' hj ⟨pl,o13',rfl,rfl,pl0,pl1,n0,hn0⟩
   have hat:=GJ (us:=us) (i:=pl) pl0 (by omega)
   have hv:us.getD pl.toNat 0 < pl\/(us.getD pl.toNat 0=-1/\pl=0):=by
    rcases Nat.eq_zero_or_pos pl.toNat with e|e
    ·right;rw[e];exact⟨gr.root,by omega⟩
    ·left;have:=gr.up pl.toNat e (by omega);omega
   refine⟨_,rfl,_,rfl,u,_,_,_,rfl,rfl,AZ.of hu6,hat,_,_,rfl,?_⟩
   refine⟨_,_,rfl,rfl,?_,?_,n0+1,?_⟩
   ·split<;>omega
   ·split<;>omega
   ·show Dq us (Be us n0 _)=_
    rw[hn0];rfl
  rintro σ Gx ⟨pl,o13',rfl,rfl,pl0,pl1,n0,hn0⟩
  refine⟨_,rfl,.inl ⟨rfl,_,AZ.of hu6⟩,_,rfl,u,_,_,rfl,rfl,hu6,by rw[hul];exact AM (by omega),?_⟩
  have kk7:Kd p (c+24+6*i+5) H (upd Gx u (.lst (us.map V.int++[.int pl]))):=kk.write hHu hup
  have hu7:upd Gx u (.lst (us.map V.int++[.int pl])) u=some (.lst ((us++[pl]).map V.int)):=by rw[AD,List.map_append];rfl
  have hb7':upd Gx u (.lst (us.map V.int++[.int pl])) bs=some (.tup [.int b0',.int bb]):=by rw[AL ubs];exact hb6'
  have hs7:upd Gx u (.lst (us.map V.int++[.int pl])) sg0=some (.lst (JK cs)):=by rw[AL usg];exact hs6
  have hc7:upd Gx u (.lst (us.map V.int++[.int pl])) cl0=some (.lst (cls.map V.int)):=by rw[AL ucl];exact keep _ _ clp hc
  generalize upd Gx u (.lst (us.map V.int++[.int pl]))=G7 at kk7 hu7 hb7' hs7 hc7
  refine⟨_,rfl,_,rfl,_,rfl,p,bs,_,b0',bb,rfl,kk7.deck,by omega,hb7',by omega,by omega,λch G8 chl e8=>?_⟩
  have hs8:=e8.keep _ _ sgp hs7
  have hb8':=e8.keep _ _ bsp hb7'
  have hc8:=e8.keep _ _ clp hc7
  have hu8:=e8.keep _ _ hup hu7
  have kk8:=(kk7.trans e8).mono (show _<=c+24+6*(i:Int)+6 by omega)
  obtain⟨sv,hsv,svm⟩:=P5 (cs:=cs) (i:=(1+(i:Int)) % (1+n9)) im (by omega)
  refine⟨_,rfl,_,rfl,_,rfl,_,_,rfl,rfl,by omega,sg0,_,_,_,rfl,rfl,AZ.of hs8,hsv,(by show 2<=sizeLine;decide),λl1' hl1'=>?_⟩
  have kk9:=kk8.new (o:=.lst [V.str ⟨#[ch]⟩,.str ⟨#[sv]⟩]) hl1'
  have kp:∀b o,G8 b=some o->upd G8 l1' (.lst [V.str ⟨#[ch]⟩,.str ⟨#[sv]⟩]) b=some o:=λb o e=>(AJ.refl G8).new hl1' b o e
  have hl9:upd G8 l1' (.lst [V.str ⟨#[ch]⟩,.str ⟨#[sv]⟩]) l1'=some (.lst [V.str ⟨#[ch]⟩,.str ⟨#[sv]⟩]):=AD
  generalize upd G8 l1' (.lst [V.str ⟨#[ch]⟩,.str ⟨#[sv]⟩])=G9 at kk9 kp hl9
  obtain⟨lc,hlc,lcl⟩:∃ov:Nat,Ec [V.str ⟨#[ch]⟩,.str ⟨#[sv]⟩] (if decide (V.int way=V.int 5)=true then 1 else 0)=some (.str ⟨#[ov]⟩)/\Lw ov:=by
   by_cases z:V.int way=V.int 5
   ·rw[decide_eq_true z];exact⟨sv,rfl,lowc _ svm⟩
   ·rw[decide_eq_false z];exact⟨ch,rfl,chl⟩
  have happ:mk ls++(⟨#[lc]⟩:Str)=mk (ls++[lc]):=by
   apply BW;rw[app_list];rfl
  refine⟨_,rfl,rfl,.inr ⟨_,rfl,l1',_,_,_,rfl,rfl,AZ.of hl9,hlc,_,_,rfl,rfl,?_,us++[pl],ls++[lc],_,_,_,_,_,rfl,happ,kk9.mono (by omega),kp _ _ hb8',kp _ _ hc8,kp _ _ hs8,kp _ _ hu8,by rw[List.length_append,hlen];rfl,by rw[List.length_append,hls];rfl,?_,MH low lcl⟩⟩
  ·rw[DK]
   have:(⟨#[lc]⟩:Str).length=1:=rfl
   rw[this]
   exact Nat.le_of_lt (AM (by omega))
  ·exact gr.snoc pl0 (by omega) ⟨n0,by rw[<-hn0];congr 1;omega⟩
 ·rintro σ H' ⟨us,ls,tx,o10,o11,o12,o13,rfl,rfl,kd,hb,hc,hs,hu,hlen,hls,gr,low⟩
  refine⟨_,rfl,u,_,rfl,.inl ⟨AZ.of hu,λr7 hr7=>?_⟩⟩
  refine⟨_,rfl,(by show 2<=sizeLine;decide),λt ht=>?_⟩
  refine q t us (mk ls) _ (((kd.new hr7).new ht).mono (by omega)) ⟨r7,AD,?_,P6 gr (by omega) (by omega)⟩ ⟨low,gr.road⟩
  rw[AL (AK AD ht)];exact AD
end
end S24
namespace S24
open PySem L2 W7
structure Blt7 (mg:Str->Option Value):Prop extends Blt mg where
 sorted:mg "sorted"=none
 all:mg "all"=none
 repr:mg "repr"=none
 set_:mg "set"=none
section
variable {P:Program}{w:World}{K:PySem.W.Frag}{mg:Str->Option Value}{base:Heap}{k:Nat}
theorem Ri:bootBuiltins "all"=some (.builtin "all"):=by decide+kernel
theorem Ou {xs:List V}{h:Int}(h0:0<=h):Mm xs none (some h)=xs.take h.toNat:=by
 unfold Mm
 have e1:=HT.Ib xs.length xs.length h.toNat
 rw[show((h.toNat:Nat):Int)=h by omega]at e1
 rw[e1,HT.GU,List.drop_zero,Nat.sub_zero]
 rcases Nat.le_total h.toNat xs.length with z|z
 ·rw[Nat.min_eq_left z]
 ·rw[Nat.min_eq_right z,List.take_of_length_le (Nat.le_refl _),List.take_of_length_le z]
def J8:PySem.W.Frag->Sp:=λK vs H Q _=>∃(a:Addr) (ns:List Int) (most:Int),vs=[.ref a,.int most]/\AZ K H a (ns.map V.int)/\ns.length<=63/\0 < most/\most<=63/\
 ∀(r:Addr) (ms:List Int) (H':Hp),AJ H H'->H r=none->H' r=some (.lst (ms.map V.int))->ms.length<=63->(ms.length:Int)<=most->Q (.ref r) H'
theorem NU (D:Df K mg "_law_cells" s_law_cells)(B:Blt mg):A9 P w K mg base "_law_cells" (k+1) ["script","most"] (J8 K):=by
 refine D.has DJ (λ_ _ _ _ _ _ us hl=>match us,hl with|[_,_],_=>rfl) (λvs H Q E h=>by obtain⟨a,ns,most,rfl,_⟩:=h;rfl) (λf cdv A outer s H vs Q E hr h=>?_)
 obtain⟨a,ns,most,rfl,hS,h63,m0,m63,q⟩:=h
 refine⟨_,(AE (AS (i:=2) DJ.nd rfl (by first|exact Or.inl rfl|exact Or.inr rfl) (Ap Lk (AU FK (B3 Ih rfl B.list_ Pj (AA (Ap Lk (pv 0) BI (A4 (pv 1))) AB)) (Av (AA AF AB))) BI (A4 (AI (Ds rfl) rfl B.max ES (AA AF (AA (AI (Dt rfl) rfl B.min FO (AA (pv 1) (AA (AI Ab rfl B.len Aa (AA (pv 0) AB)) AB))) AB))))))
 (AE (Cp PassesOwn.never rfl (CW rfl B.range (AA (pv 1) (AA (AI Ab rfl B.len Aa (AA (pv 0) AB)) AB))) (AQ (i:=3) DJ.nd rfl (by first|exact Or.inl rfl|exact Or.inr rfl))
 (AN (GR (AU BE (AU C9 (Ai Aj (pv 2) (AU Bu (pv 3) (pv 1)) (λ_ _=>rfl)) AF) (Ai Aj (pv 0) (pv 3) (λ_ _=>rfl))) (Km (pv 2) (AU Bu (pv 3) (pv 1)) set_list))))
 (AN (AW (pv 2))))),?_⟩
 have hl:(ns.map V.int).length=ns.length:=List.length_map _
 refine⟨_,rfl,_,rfl,_,rfl,a,_,rfl,hS,λp1 hp1=>?_⟩
 rw[Ou (by omega),<-List.map_take]
 have s1:AJ H (upd H p1 (.lst ((ns.take most.toNat).map V.int))):=(AJ.refl H).new hp1
 have h1:upd H p1 (.lst ((ns.take most.toNat).map V.int)) p1=some (.lst ((ns.take most.toNat).map V.int)):=AD
 generalize upd H p1 (.lst ((ns.take most.toNat).map V.int))=H1 at s1 h1
 refine⟨p1,_,rfl,.inl (AZ.of h1),λp2 hp2=>?_⟩
 have s2:AJ H1 (upd H1 p2 (.lst ((ns.take most.toNat).map V.int))):=(AJ.refl H1).new hp2
 have h2:upd H1 p2 (.lst ((ns.take most.toNat).map V.int)) p2=some (.lst ((ns.take most.toNat).map V.int)):=AD
 generalize upd H1 p2 (.lst ((ns.take most.toNat).map V.int))=H2 at s2 h2
 refine⟨(by show 1<=sizeLine;decide),λp3 hp3=>?_⟩
 have s3:AJ H2 (upd H2 p3 (.lst [.int 23])):=(AJ.refl H2).new hp3
 have h3:upd H2 p3 (.lst [.int 23]) p3=some (.lst [.int 23]):=AD
 generalize upd H2 p3 (.lst [.int 23])=H3 at s3 h3
 have tl:(ns.take most.toNat).length<=63:=by rw[List.length_take];omega
 refine⟨p2,p3,_,_,rfl,rfl,s3 _ _ h2,h3,by rw[List.length_map];exact Nat.le_of_lt (AM (by show _+1<=1000;omega)),λp4 hp4=>?_⟩
 rw[show((ns.take most.toNat).map V.int++[V.int 23])=(ns.take most.toNat++[23]).map V.int by rw[List.map_append];rfl]
 have s4:AJ H3 (upd H3 p4 (.lst ((ns.take most.toNat++[23]).map V.int))):=(AJ.refl H3).new hp4
 have h4:upd H3 p4 (.lst ((ns.take most.toNat++[23]).map V.int)) p4=some (.lst ((ns.take most.toNat++[23]).map V.int)):=AD
 generalize upd H3 p4 (.lst ((ns.take most.toNat++[23]).map V.int))=H4 at s4 h4
 have s04:AJ H H4:=((s1.trans s2).trans s3).trans s4
 refine⟨_,rfl,_,rfl,a,_,rfl,.inl (s04.seq hS),_,_,rfl,_,_,rfl,_,rfl,p4,_,rfl,AZ.of h4,λp5 hp5=>?_⟩
 obtain⟨M,hM,hMm⟩:∃M:Int,M=(if(if(((ns.map V.int).length:Nat):Int) < most then(((ns.map V.int).length:Nat):Int)else most) > 1 then(if(((ns.map V.int).length:Nat):Int) < most then(((ns.map V.int).length:Nat):Int)else most)else 1)/\0 < M/\M<=63/\(most < (ns.length:Int)->M=most)/\M<=most:=by
  refine⟨_,rfl,?_⟩
  rw[hl]
  split<;>(try split)<;>omega
 rw[<-hM,Ou (by omega),<-List.map_take]
 generalize hms:(ns.take most.toNat++[23]).take M.toNat=ms0
 have LMo:(ms0.length:Int)<=most:=by rw[<-hms,List.length_take];omega
 have L63:ms0.length<=63:=by rw[<-hms,List.length_take];omega
 have Lm:most < (ns.length:Int)->(ms0.length:Int)=most:=λz=>by
  have e:=hMm.2.2.1 z
  rw[<-hms,List.length_take,List.length_append,List.length_take]
  simp only[List.length_singleton]
  omega
 have s5:AJ H (upd H4 p5 (.lst (ms0.map V.int))):=s04.new hp5
 have h5:upd H4 p5 (.lst (ms0.map V.int)) p5=some (.lst (ms0.map V.int)):=AD
 have f5:H p5=none:=s04.free hp5
 generalize upd H4 p5 (.lst (ms0.map V.int))=H5 at s5 h5
 refine⟨_,rfl,_,rfl,a,_,rfl,.inl (s5.seq hS),_,_,rfl,⟨by omega,by omega,by omega,by rw[hl];omega⟩,?_⟩
 refine FG (lo:=most) (n:=((((ns.map V.int).length:Nat):Int) - most).toNat) (λi σ H'=>∃(ms:List Int) (o3:Option V),σ=[some (.ref a),some (.int most),some (.ref p5),o3]/\AJ H H'/\H' p5=some (.lst (ms.map V.int))/\ms.length=ms0.length) ⟨ms0,none,rfl,s5,h5,rfl⟩ ?_ ?_
 ·rintro i σ H' hi ⟨ms,o3,rfl,sX,hX,hlX⟩
  rw[hl]at hi
  have Lm':=Lm (by omega)
  have e0:=Int.emod_nonneg (most+(i:Int)) (show most≠0 by omega)
  have e1:=Int.emod_lt_of_pos (most+(i:Int)) m0
  have at1:=GJ (us:=ms) (i:=(most+(i:Int)) % most) e0 (by omega)
  have at2:=GJ (us:=ns) (i:=most+(i:Int)) (by omega) (by omega)
  have hj:N2 (ms.map V.int).length ((most+(i:Int)) % most)=some ((most+(i:Int)) % most).toNat:=by
   unfold N2;rw[if_pos e0,List.length_map,if_pos (by omega)]
  refine⟨_,rfl,_,rfl,_,rfl,_,_,rfl,rfl,m0,p5,_,_,_,rfl,rfl,AZ.of hX,at1,_,_,rfl,rfl,.inr ⟨by decide,by decide⟩,_,rfl,_,rfl,a,_,_,_,rfl,rfl,sX.seq hS,at2,_,_,rfl,rfl,?_⟩
  refine⟨_,rfl,_,rfl,_,rfl,_,_,rfl,rfl,m0,p5,_,_,_,rfl,rfl,hX,hj,?_⟩
  refine⟨ms.set ((most+(i:Int)) % most).toNat (ms.getD ((most+(i:Int)) % most).toNat 0*31+ns.getD (most+(i:Int)).toNat 0),_,rfl,sX.write f5,?_,by rw[List.length_set];exact hlX⟩
  rw[AD,List.map_set]
 ·rintro σ H' ⟨ms,o3,rfl,sX,hX,hlX⟩
  exact⟨_,rfl,q p5 ms H' sX f5 hX (by omega) (by omega)⟩
end
end S24
namespace S24
open PySem L2 W7
section
variable {P:Program}{w:World}{K:PySem.W.Frag}{mg:Str->Option Value}{base:Heap}{k:Nat}
theorem NV:∀x y:List Nat,¬y < x->¬x < y->x=y:=λx y h1 h2=>List.le_antisymm (List.not_lt.mp h1) (List.not_lt.mp h2)
theorem Fz:∀(l:List Str) (p:Str),PyProof.Rows.risingS p l=true->(p::l).Pairwise (λa b=>¬b.cps.toList < a.cps.toList)
 |[],p,_=>List.pairwise_singleton _ _
 |x::r,p,h=>by
  have h':(!PySem.Spec.ltCps x.cps.toList p.cps.toList&&PyProof.Rows.risingS x r)=true:=h
  obtain⟨h1,h2⟩:=(Bool.and_eq_true _ _).mp h'
  have ih:=Fz r x h2
  have px:¬x.cps.toList < p.cps.toList:=by
   rw[PyProof.Rows.ltCps_eq]at h1
   simpa using h1
  refine List.pairwise_cons.mpr ⟨λy hy=>?_,ih⟩
  rcases List.mem_cons.mp hy with rfl|hy
  ·exact px
  ·have xy:=List.rel_of_pairwise_cons ih hy
   exact List.not_lt.mpr (List.le_trans (List.not_lt.mp px) (List.not_lt.mp xy))
theorem BD:∀ss:List Str,PyProof.Rows.sortedS ss=true->ss.Pairwise (λa b=>¬b.cps.toList < a.cps.toList)
 |[],_=>List.Pairwise.nil
 |x::r,h=>Fz r x h
theorem Ba {a b:List Str}(h1:PyProof.Rows.sortedS a=true)(h2:PyProof.Rows.sortedS b=true)(p:a.Perm b):a=b:=
 p.eq_of_pairwise (λx y _ _ l1 l2=>by
  have:=NV x.cps.toList y.cps.toList l1 l2
  exact BW this) (BD a h1) (BD b h2)
def AO (ups:List Int)(lab:Str):List Str:=(List.range ups.length).map λj=>mk (W ups lab.cps.toList j)
theorem Bd (ups:List Int)(lab:Str):BR ups lab ups.length=(AO ups lab).map V.str:=by
 unfold BR AO
 rw[List.map_map];rfl
theorem An (ups:List Int)(lab:Str):(AO ups lab).length=ups.length:=by simp[AO]
theorem A7 {ups:List Int}{lab:Str}(ok:A6 ups lab.cps.toList):∀z∈AO ups lab,z.length<=60:=by
 intro z hz
 obtain⟨j,hj,rfl⟩:=List.mem_map.mp hz
 have hj':=List.mem_range.mp hj
 have:=IQ ok (j+1) j (by omega) hj'
 have:=ok.most
 rw[DK];omega
theorem AY (z:Str):z.cps.toList.length=z.length:=by simp[Str.length]
def HF:Sp:=λvs H Q _=>∃one other:Str,vs=[.str one,.str other]/\one.length<=60/\other.length<=60/\Q (.int ((W16.Gy one.cps.toList other.cps.toList:Nat):Int)) H
theorem NW (D:Df K mg "many_alike" s_many_alike)(B:Blt7 mg):A9 P w K mg base "many_alike" (k+1) ["one","other"] HF:=by
 refine D.has Cw (λ_ _ _ _ _ _ us hl=>match us,hl with|[_,_],_=>rfl) (λvs H Q E h=>by obtain⟨one,other,rfl,_⟩:=h;rfl) (λf cdv A outer s H vs Q E hr h=>?_)
 obtain⟨one,other,rfl,l1,l2,q⟩:=h
 refine⟨_,(AE (AS (i:=2) Cw.nd rfl (by first|exact Or.inl rfl|exact Or.inr rfl) AF)
 (AE (JV PassesOwn.never (PW.pt (Nm (Ac JX (pv 2) (AI (Dt rfl) rfl B.min FO (AA (AI AR rfl B.len Aa (AA (pv 0) AB)) (AA (AI AR rfl B.len Aa (AA (pv 1) AB)) AB))) (Ad _)) (Ld (Ac DN (Ai EN (pv 0) (pv 2) (λ_ _=>rfl)) (Ai EN (pv 1) (pv 2) (λ_ _=>rfl)) (Ad _)))))
 (AN (Np (i:=2) Cw.nd rfl (by first|exact Or.inl rfl|exact Or.inr rfl) AF Nq)))
 (AN (AW (pv 2))))),?_⟩
 have z1:one.length<=sizeLine:=Nat.le_of_lt (AM (by omega))
 have z2:other.length<=sizeLine:=Nat.le_of_lt (AM (by omega))
 have c1:=AY one
 have c2:=AY other
 refine⟨λm σ H'=>H'=H/\∃n:Nat,σ=[some (.str one),some (.str other),some (.int n)]/\m=60 - n/\n<=one.length/\n<=other.length/\∀j,j < n->one.cps.toList[j]?=other.cps.toList[j]?,⟨_,rfl,0,rfl,rfl,Nat.zero_le _,Nat.zero_le _,λj hj=>absurd hj (Nat.not_lt_zero _)⟩,?_⟩
 rintro m σ H' ⟨rfl,n,rfl,rfl,n1,n2,ne⟩
 refine⟨_,rfl,_,rfl,_,rfl,z1,_,rfl,_,rfl,z2,_,_,rfl,_,_,rfl,rfl,_,rfl,Cf (λc=>?_) (λc=>?_)⟩
 ·have c':=of_decide_eq_true c
  have lt1:n < one.length:=by split at c'<;>omega
  have lt2:n < other.length:=by split at c'<;>omega
  have g1:one.cps.toList[n]?=some (one.cps.toList[n]'(by omega)):=List.getElem?_eq_getElem _
  have g2:other.cps.toList[n]?=some (other.cps.toList[n]'(by omega)):=List.getElem?_eq_getElem _
  refine⟨_,rfl,_,rfl,_,_,_,rfl,rfl,z1,Bb g1,_,rfl,_,rfl,_,_,_,rfl,rfl,z2,Bb g2,rfl,_,rfl,?_⟩
  by_cases hc:V.str ⟨#[one.cps.toList[n]'(by omega)]⟩=V.str ⟨#[other.cps.toList[n]'(by omega)]⟩
  ·rw[decide_eq_true hc]
   refine Mr ?_
   refine⟨_,λσ' H3 h=>h,?_⟩
   refine⟨_,rfl,_,_,rfl,rfl,?_⟩
   have e:one.cps.toList[n]'(by omega)=other.cps.toList[n]'(by omega):=by
    injection hc with hc;injection hc with hc;injection hc with hc;injection hc
   refine⟨60 - (n+1),by omega,rfl,n+1,rfl,rfl,by omega,by omega,λj hj=>?_⟩
   rcases Nat.lt_or_ge j n with h|h
   ·exact ne j h
   ·have:j=n:=by omega
    subst this
    rw[g1,g2,e]
  ·rw[decide_eq_false hc]
   refine GW ?_
   have e:W16.Gy one.cps.toList other.cps.toList=n:=W16.G0 _ _ n (by omega) (by omega) ne (λ_ _ he=>hc (by rw[g1,g2]at he;rw[Option.some.inj he]))
   rw[e]at q
   exact⟨_,rfl,q⟩
 ·have c':=of_decide_eq_false (Bool.eq_false_iff.mpr c)
  have e:W16.Gy one.cps.toList other.cps.toList=n:=W16.G0 _ _ n (by omega) (by omega) ne (λh1 h2=>by split at c'<;>omega)
  rw[e]at q
  exact⟨_,rfl,q⟩
def Kf (ss:List Str)(i:Nat):Int:=if i=0 then 0 else((W16.Gy (ss.getD (i - 1) Str.empty).cps.toList (ss.getD i Str.empty).cps.toList:Nat):Int)
def ED (ss:List Str)(n:Nat):List Int:=(List.range n).map (Kf ss)
theorem P7 (ss:List Str)(n:Nat):((ED ss n).map V.int).length=n:=by simp[ED]
theorem E7 {ss:List Str}{i:Nat}(h:i < ss.length):Ec (ss.map V.str) (i:Int)=some (.str (ss.getD i Str.empty)):=Bb (by rw[List.getElem?_map,List.getElem?_eq_getElem h,List.getD_eq_getElem?_getD,List.getElem?_eq_getElem h];rfl)
def Fi:Sp:=λvs H Q _=>∃(t:Addr) (ups:List Int) (lab:Str),vs=[.ref t]/\Al H t ups lab/\
 ∀(ss:List Str) (r:Addr) (H':Hp),ss.Perm (AO ups lab)->PyProof.Rows.sortedS ss=true->AJ H H'->H r=none->H' r=some (.lst ((ED ss ss.length).map V.int))->Q (.ref r) H'
theorem LJ (D:Df K mg "alike_of" s_alike_of)(B:Blt7 mg)(G_words_of:A9 P w K mg base "words_of" k ["tree"] CG)(G_many_alike:A9 P w K mg base "many_alike" k ["one","other"] HF):A9 P w K mg base "alike_of" (k+1) ["tree"] Fi:=by
 refine D.has Fv (λ_ _ _ _ _ _ us hl=>match us,hl with|[_],_=>rfl) (λvs H Q E h=>by obtain⟨t,ups,lab,rfl,_⟩:=h;rfl) (λf cdv A outer s H vs Q E hr h=>?_)
 obtain⟨t,ups,lab,rfl,tr,q⟩:=h
 refine⟨_,(AE (AS (i:=1) Fv.nd rfl (by first|exact Or.inl rfl|exact Or.inr rfl) (AI Ay rfl B.sorted B4 (AA (AH G_words_of hr rfl (AA (pv 0) AB)) AB)))
 (AN (AW (AU FK (Av (AA AF AB)) (Aw rfl (CW rfl B.range (AA AF (AA (AI Ab rfl B.len Aa (AA (pv 1) AB)) AB))) (NL:=["rank"]) (ix:=[1]) (En (AG s_alike_of) HD) (λcl C s₃ H₃ fp pins=>⟨(AQ (i:=0) (show List.Nodup (["rank","words"]:List Str)from by decide+kernel) rfl (by first|exact Or.inl rfl|exact Or.inr rfl)),Ar,(AH G_many_alike hr rfl (AA (Ai (Jk K) (pv 1) (AU Cq (pv 0) AF) (λ_ _=>rfl)) (AA (Ai (Jk K) (pv 1) (pv 0) (λ_ _=>rfl)) AB)))⟩)))))),?_⟩
 obtain⟨_,_,_,ok⟩:=id tr
 have m60:=ok.most
 have lpos:=ok.pos
 have wl:=An ups lab
 have wle:=A7 ok
 refine⟨_,rfl,t,ups,lab,rfl,tr,λr H1 s1 hr1=>?_⟩
 rw[Bd]at hr1
 refine⟨r,_,rfl,AZ.of hr1,by omega,λss r2 hp hs hr2=>?_⟩
 have sl:=hp.length_eq
 have s2:AJ H (upd H1 r2 (.lst (ss.map V.str))):=s1.new hr2
 have h22:upd H1 r2 (.lst (ss.map V.str)) r2=some (.lst (ss.map V.str)):=AD
 generalize upd H1 r2 (.lst (ss.map V.str))=H2 at s2 h22
 have sle:∀i,(ss.getD i Str.empty).length<=60:=λi=>by
  rw[List.getD_eq_getElem?_getD]
  cases e:ss[i]? with
  |none=>show Str.empty.length<=60;decide
  |some z=>exact wle z (hp.mem_iff.mp (List.mem_of_getElem? e))
 refine⟨(by show 1<=sizeLine;decide),λr3 hr3=>?_⟩
 have s3:AJ H2 (upd H2 r3 (.lst [.int 0])):=(AJ.refl H2).new hr3
 have h33:upd H2 r3 (.lst [.int 0]) r3=some (.lst [.int 0]):=AD
 generalize upd H2 r3 (.lst [.int 0])=H3 at s3 h33
 refine⟨_,rfl,r2,_,rfl,.inl (AZ.of (s3 _ _ h22)),_,_,rfl,?_,λacc hacc=>?_⟩
 ·rw[List.length_map];omega
 have eN:((((ss.map V.str).length:Nat):Int) - 1).toNat=ss.length - 1:=by rw[List.length_map];omega
 refine By ((((ss.map V.str).length:Nat):Int) - 1).toNat (by omega) (λi ys H'=>H' acc=some (.lst ys)/\ys=((List.range i).map λj=>Kf ss (j+1)).map V.int/\AJ H3 H')
  (λi ys H' h=>⟨h.1,by rw[h.2.1,List.length_map,List.length_map,List.length_range];exact Nat.le_refl _⟩) ⟨AD,rfl,(AJ.refl H3).new hacc⟩ ?_ ?_
 ·rintro ys H4 ⟨g1,rfl,g3⟩
  refine⟨Nat.le_refl _,?_⟩
  rw[eN]at g1
  refine⟨r3,acc,_,_,rfl,rfl,g3 _ _ h33,g1,?_,λr4 hr4=>?_⟩
  ·rw[List.length_map,List.length_map,List.length_range]
   show 1+_<=sizeLine
   exact Nat.le_of_lt (AM (by omega))
  refine q ss r4 _ hp hs (((s2.trans s3).trans g3).new hr4) (((s2.trans s3).trans g3).free hr4) ?_
  rw[AD]
  have e:ED ss ss.length=0::((List.range (ss.length - 1)).map λj=>Kf ss (j+1)):=by
   obtain⟨m,em⟩:∃m,ss.length=m+1:=⟨ss.length - 1,by omega⟩
   unfold ED
   rw[em,List.range_succ_eq_map,List.map_cons,List.map_map]
   rfl
  rw[e];rfl
 ·rintro i ys H4 hi ⟨g1,rfl,g3⟩
  rw[eN]at hi
  refine⟨by rw[eN];exact hi,?_⟩
  rintro x H5 ⟨rfl,rfl⟩
  refine⟨rfl,?_⟩
  have a1:Ec (ss.map V.str) (1+(i:Int) - 1)=some (.str (ss.getD i Str.empty)):=by rw[show 1+(i:Int) - 1=(i:Int) by omega];exact E7 (by omega)
  have a2:Ec (ss.map V.str) (1+(i:Int))=some (.str (ss.getD (i+1) Str.empty)):=by rw[show 1+(i:Int)=((i+1:Nat):Int) by omega];exact E7 (by omega)
  have hl2:=g3 _ _ (s3 _ _ h22)
  refine⟨_,rfl,_,rfl,_,_,rfl,rfl,r2,_,_,_,rfl,rfl,AZ.of hl2,a1,_,rfl,_,rfl,r2,_,_,_,rfl,rfl,AZ.of hl2,a2,_,_,rfl,sle i,sle (i+1),g1,AD,?_,g3.write hacc⟩
  rw[List.range_succ,List.map_append,List.map_append];rfl
def cs (ss:List Str):List (List Nat):=ss.map λz=>z.cps.toList
theorem CV (ss:List Str)(i:Nat):(cs ss).getD i []=(ss.getD i Str.empty).cps.toList:=by
 unfold cs
 rw[List.getD_eq_getElem?_getD,List.getD_eq_getElem?_getD,List.getElem?_map]
 cases ss[i]?<;>rfl
theorem Rj (ss:List Str)(i:Nat):Kf ss i=((W18.lc (cs ss) i:Nat):Int):=by
 unfold Kf W18.lc
 by_cases h:i=0
 ·rw[if_pos h,if_pos h];rfl
 ·rw[if_neg h,if_neg h,CV,CV]
def CN (ss:List Str)(n:Nat):List Str:=(W18.Oi (cs ss) n).map mk
theorem GL {ss:List Str}(h:∀i,(ss.getD i Str.empty).length<=60):∀n,(CN ss n).length<=60*n
 |0=>Nat.le_refl _
 |n+1=>by
  have ih:=GL h n
  unfold CN at ih ⊢
  rw[W18.Ey,List.map_append,List.length_append]
  have:((W18.IL ((cs ss).getD n []) (W18.lc (cs ss) n)).map mk).length<=60:=by
   rw[List.length_map];unfold W18.IL;rw[List.length_map,List.length_range,CV,AY]
   have:=h n
   omega
  omega
def Ca:Sp:=λvs H Q _=>∃(t:Addr) (ups:List Int) (lab:Str),vs=[.ref t]/\Al H t ups lab/\
 ∀(ss:List Str) (r:Addr) (H':Hp),ss.Perm (AO ups lab)->PyProof.Rows.sortedS ss=true->AJ H H'->H r=none->H' r=some (.lst ((CN ss ss.length).map V.str))->Q (.ref r) H'
theorem LM (D:Df K mg "unlike_words" s_unlike_words)(B:Blt7 mg)(G_words_of:A9 P w K mg base "words_of" k ["tree"] CG)(G_alike_of:A9 P w K mg base "alike_of" k ["tree"] Fi):A9 P w K mg base "unlike_words" (k+1) ["tree"] Ca:=by
 refine D.has Bi (λ_ _ _ _ _ _ us hl=>match us,hl with|[_],_=>rfl) (λvs H Q E h=>by obtain⟨t,ups,lab,rfl,_⟩:=h;rfl) (λf cdv A outer s H vs Q E hr h=>?_)
 obtain⟨t,ups,lab,rfl,tr,q⟩:=h
 refine⟨_,(AE (AS (i:=1) Bi.nd rfl (by first|exact Or.inl rfl|exact Or.inr rfl) (Av AB))
 (AE (Cp PassesOwn.never rfl (N9 rfl B.zip (AA (AI Ay rfl B.sorted B4 (AA (AH G_words_of hr rfl (AA (pv 0) AB)) AB)) (AA (AH G_alike_of hr rfl (AA (pv 0) AB)) AB))) (EM rfl (Ah (AQ (i:=2) Bi.nd rfl (by first|exact Or.inl rfl|exact Or.inr rfl)) (Ah (AQ (i:=3) Bi.nd rfl (by first|exact Or.inl rfl|exact Or.inr rfl)) Bt)))
 (AN (GF (Ej PySem.F.plainAttrs_list PySem.F.slot_list_extend PySem.F.type_list_extend Mo (pv 1) (AA (Aw rfl (CW rfl B.range (AA (AU BE (pv 3) AF) (AA (AU BE (AI AR rfl B.len Aa (AA (pv 2) AB)) AF) AB))) (NL:=["length"]) (ix:=[2]) (En (AG s_unlike_words) Dj) (λcl C s₃ H₃ fp pins=>⟨(AQ (i:=0) (show List.Nodup (["length","word"]:List Str)from by decide+kernel) rfl (by first|exact Or.inl rfl|exact Or.inr rfl)),Ar,(Ap Bk (pv 1) BI (A4 (pv 0)))⟩)) AB)))))
 (AN (AW (pv 1))))),?_⟩
 obtain⟨_,_,_,ok⟩:=id tr
 have m60:=ok.most
 have lpos:=ok.pos
 have wl:=An ups lab
 have wle:=A7 ok
 refine⟨(by show 0<=sizeLine;decide),λr hr0=>?_⟩
 have s0:AJ H (upd H r (.lst [])):=(AJ.refl H).new hr0
 have h0:upd H r (.lst []) r=some (.lst []):=AD
 generalize upd H r (.lst [])=H0 at s0 h0
 refine⟨_,rfl,t,ups,lab,rfl,tr.same s0,λr1 H1 s1 hr1=>?_⟩
 rw[Bd]at hr1
 refine⟨r1,_,rfl,AZ.of hr1,by omega,λss r2 hp hs hr2=>?_⟩
 have sl:=hp.length_eq
 have s2:AJ H1 (upd H1 r2 (.lst (ss.map V.str))):=(AJ.refl H1).new hr2
 have h2:upd H1 r2 (.lst (ss.map V.str)) r2=some (.lst (ss.map V.str)):=AD
 generalize upd H1 r2 (.lst (ss.map V.str))=H2 at s2 h2
 refine⟨_,rfl,t,ups,lab,rfl,tr.same ((s0.trans s1).trans s2),λss' r3 H3 hp' hs' s3 hf3 hr3=>?_⟩
 have es:ss'=ss:=Ba hs' hs (hp'.trans hp.symm)
 subst es
 have sle:∀i,(ss'.getD i Str.empty).length<=60:=λi=>by
  rw[List.getD_eq_getElem?_getD]
  cases e:ss'[i]? with
  |none=>show Str.empty.length<=60;decide
  |some z=>exact wle z (hp.mem_iff.mp (List.mem_of_getElem? e))
 have h23:=s3 _ _ h2
 have s03:AJ H0 H3:=(s1.trans s2).trans s3
 refine⟨.lst r2,.lst r3,rfl,⟨_,.inl h23⟩,⟨_,.inl hr3⟩,?_⟩
 have hlen:(ss'.map V.str).length=((ED ss' ss'.length).map V.int).length:=by rw[P7,List.length_map]
 have n2:r2≠r:=(AK (s1 _ _ h0) hr2).symm
 have n3:r3≠r:=(AK (s2 _ _ (s1 _ _ h0)) hf3).symm
 refine Lo (xs:=ss'.map V.str) (ys:=(ED ss' ss'.length).map V.int) (λi σ H'=>∃o2 o3:Option V,σ=[some (.ref t),some (.ref r),o2,o3]/\AJ H H'/\H' r=some (.lst ((CN ss' i).map V.str))/\H' r2=some (.lst (ss'.map V.str))/\H' r3=some (.lst ((ED ss' ss'.length).map V.int)))
  ⟨none,none,rfl,s0.trans s03,s03 _ _ h0,h23,hr3⟩ hlen (λi σ H' hi h=>by obtain⟨o2,o3,_,_,_,a,b⟩:=h;exact⟨.inl a,.inl b⟩) ?_ ?_
 ·rintro i x y σ H' p hx hy ⟨o2,o3,rfl,sX,g1,g2,g3⟩ hp0
  have hi:i < ss'.length:=by
   have:=(List.getElem?_eq_some_iff.mp hx).1
   rw[List.length_map]at this;exact this
  obtain rfl:x=.str (ss'.getD i Str.empty):=by
   rw[List.getElem?_map,List.getElem?_eq_getElem hi]at hx
   rw[List.getD_eq_getElem?_getD,List.getElem?_eq_getElem hi]
   exact(Option.some.inj hx).symm
  obtain rfl:y=.int (Kf ss' i):=by
   unfold ED at hy
   rw[List.getElem?_map,List.getElem?_map,List.getElem?_range hi]at hy
   exact(Option.some.inj hy).symm
  have za:=sle i
  have hstep:CN ss' (i+1)=CN ss' i++(W18.IL (ss'.getD i Str.empty).cps.toList (W18.lc (cs ss') i)).map mk:=by
   unfold CN;rw[W18.Ey,List.map_append,CV]
  have ul:=GL sle i
  rw[Rj]
  have ab:W18.lc (cs ss') i<=60:=by
   unfold W18.lc
   split
   ·exact Nat.zero_le _
   ·have:=(W16.Gz ((cs ss').getD (i - 1) []) ((cs ss').getD i [])).2
    have e2:=congrArg List.length (CV ss' i)
    rw[AY]at e2
    omega
  generalize W18.lc (cs ss') i=a at hstep ab
  generalize ss'.getD i Str.empty=z at za hstep
  have cz:=AY z
  have z1:z.length<=sizeLine:=Nat.le_of_lt (AM (by omega))
  refine⟨p,_,rfl,Ce.of AD,rfl,_,_,rfl,_,_,rfl,rfl,?_⟩
  have sP:AJ H' (upd H' p (.tup [.str z,.int (a:Int)])):=(AJ.refl H').new hp0
  generalize upd H' p (.tup [.str z,.int (a:Int)])=HP at sP
  have g1P:=sP _ _ g1
  refine⟨_,rfl,.inl ⟨rfl,_,AZ.of g1P⟩,_,rfl,_,_,rfl,rfl,_,rfl,z,rfl,z1,_,_,rfl,rfl,_,_,rfl,⟨by omega,by omega,by omega,by omega⟩,λacc hacc=>?_⟩
  have eN:((z.length:Int)+1 - ((a:Int)+1)).toNat=z.cps.toList.length - a:=by rw[cz];omega
  refine By ((z.length:Int)+1 - ((a:Int)+1)).toNat (by rw[eN];omega) (λj ys HX=>HX acc=some (.lst ys)/\ys=((List.range j).map λn=>mk (z.cps.toList.take (a+1+n))).map V.str/\AJ HP HX)
   (λj ys HX h=>⟨h.1,by rw[h.2.1,List.length_map,List.length_map,List.length_range];exact Nat.le_refl _⟩) ⟨AD,rfl,(AJ.refl HP).new hacc⟩ ?_ ?_
  ·rintro ys HX ⟨e1,rfl,e3⟩
   refine⟨Nat.le_refl _,?_⟩
   rw[eN]at e1
   have eb:(List.range (z.cps.toList.length - a)).map (λn=>mk (z.cps.toList.take (a+1+n)))=(W18.IL z.cps.toList a).map mk:=by
    unfold W18.IL;rw[List.map_map];rfl
   rw[eb]at e1
   refine⟨r,acc,_,_,rfl,rfl,e3 _ _ g1P,e1,?_,?_⟩
   ·rw[List.length_map,List.length_map,List.length_map]
    have:(W18.IL z.cps.toList a).length<=60:=by unfold W18.IL;rw[List.length_map,List.length_range];omega
    exact Nat.le_of_lt (EU (by omega))
   ·have sA:=sX.trans (sP.trans e3)
    refine⟨_,_,rfl,sA.write hr0,?_,?_,?_⟩
    ·rw[AD,hstep,List.map_append]
    ·rw[AL n2];exact e3 _ _ (sP _ _ g2)
    ·rw[AL n3];exact e3 _ _ (sP _ _ g3)
  ·rintro j ys HX hj ⟨e1,rfl,e3⟩
   refine⟨hj,?_⟩
   rintro x HY ⟨rfl,rfl⟩
   refine⟨rfl,?_⟩
   have ce:BU z none (some ((a:Int)+1+(j:Int)))=mk (z.cps.toList.take (a+1+j)):=by
    apply BW
    rw[show(a:Int)+1+(j:Int)=((a+1+j:Nat):Int) by omega,Em];rfl
   refine⟨_,rfl,_,rfl,_,rfl,z,rfl,z1,e1,AD,?_,e3.write hacc⟩
   rw[List.range_succ,List.map_append,List.map_append,ce];rfl
 ·rintro σ H' ⟨o2,o3,rfl,sX,g1,g2,g3⟩
  rw[List.length_map]at g1
  exact⟨_,rfl,q ss' r H' hp hs sX hr0 g1⟩
end
end S24
namespace S24
open PySem L2 W7
section
variable {P:Program}{w:World}{K:PySem.W.Frag}{mg:Str->Option Value}{base:Heap}{k:Nat}
def Cz (ups:List Int)(lab:Str)(n:Nat)(z:Str):List Int:=((List.range n).filter λj=>z.cps.toList.isPrefixOf (W ups lab.cps.toList j)).map λj:Nat=>(j:Int)
theorem D8 (ups:List Int)(lab:Str)(n:Nat)(z:Str):(Cz ups lab n z).length<=n:=by
 unfold Cz
 rw[List.length_map]
 have:=List.length_filter_le (λj=>z.cps.toList.isPrefixOf (W ups lab.cps.toList j)) (List.range n)
 rw[List.length_range]at this
 exact this
theorem J9 (ups:List Int)(lab:Str)(n:Nat)(z:Str):Cz ups lab (n+1) z=Cz ups lab n z++(if z.cps.toList<+:W ups lab.cps.toList n then[(n:Int)]else[]):=by
 unfold Cz
 rw[List.range_succ,List.filter_append,List.map_append]
 congr 1
 rw[List.filter_cons,List.filter_nil]
 by_cases c:z.cps.toList<+:W ups lab.cps.toList n
 ·rw[if_pos c,if_pos (List.isPrefixOf_iff_prefix.mpr c)];rfl
 ·rw[if_neg c,if_neg λk=>c (List.isPrefixOf_iff_prefix.mp k)];rfl
def IU (ups:List Int)(lab:Str)(i:Nat)(z:Str):Prop:=z.cps.toList≠[]/\∃j,j < i/\z.cps.toList<+:W ups lab.cps.toList j
end
end S24
namespace S24
open PySem L2 W7
section
variable {P:Program}{w:World}{K:PySem.W.Frag}{mg:Str->Option Value}{base:Heap}{k:Nat}
theorem mk_inj {a b:List Nat}(h:mk a=mk b):a=b:=by
 have:=congrArg (λz:Str=>z.cps.toList) h
 exact this
theorem MJ (z:Str):mk z.cps.toList=z:=BW rfl
theorem C5 {α β:Type}{f:α->β}(hf:∀a b,f a=f b->a=b):∀{l:List α},l.Nodup->(l.map f).Nodup
 |[],_=>List.nodup_nil
 |x::l,h=>by
  obtain⟨h1,h2⟩:=List.nodup_cons.mp h
  refine List.nodup_cons.mpr ⟨λm=>?_,C5 hf h2⟩
  obtain⟨y,hy,e⟩:=List.mem_map.mp m
  exact h1 (by rw[<-hf _ _ e];exact hy)
theorem D9 {ss:List Str}(hs:PyProof.Rows.sortedS ss=true):∀i j,i<=j->j < (cs ss).length->¬(cs ss).getD j [] < (cs ss).getD i []:=λi j ij jl=>by
 have l:(cs ss).length=ss.length:=by unfold cs;rw[List.length_map]
 rw[l]at jl
 rw[CV,CV]
 rcases Nat.lt_or_ge i j with h|h
 ·have:=List.pairwise_iff_getElem.mp (BD ss hs) i j (by omega) jl h
  rw[List.getD_eq_getElem?_getD,List.getElem?_eq_getElem jl,List.getD_eq_getElem?_getD,List.getElem?_eq_getElem (by omega)]
  exact this
 ·have:i=j:=by omega
  subst this;exact List.lt_irrefl _
theorem LN {ss:List Str}(hs:PyProof.Rows.sortedS ss=true):(CN ss ss.length).Nodup:=by
 unfold CN
 exact C5 (λa b h=>mk_inj h) (W18.IP (D9 hs) ss.length (by unfold cs;rw[List.length_map];exact Nat.le_refl _))
theorem CI {ups:List Int}{lab:Str}{ss:List Str}(hp:ss.Perm (AO ups lab))(z:Str):z∈CN ss ss.length↔IU ups lab ups.length z:=by
 have key:∀i,i < ss.length->∃j,j < ups.length/\(ss.getD i Str.empty).cps.toList=W ups lab.cps.toList j:=λi hi=>by
  have m:ss.getD i Str.empty∈AO ups lab:=hp.mem_iff.mp (by rw[List.getD_eq_getElem?_getD,List.getElem?_eq_getElem hi];exact List.getElem_mem hi)
  obtain⟨j,hj,e⟩:=List.mem_map.mp m
  exact⟨j,List.mem_range.mp hj,by rw[<-e];rfl⟩
 unfold CN IU
 rw[List.mem_map]
 constructor
 ·rintro⟨p,hp',rfl⟩
  obtain⟨i,hi,a,b⟩:=W18.Ez.mp hp'
  obtain⟨j,hj,e⟩:=key i hi
  rw[CV,e]at a
  refine⟨?_,j,hj,a⟩
  rw[BQ];intro z;subst z;simp at b
 ·rintro⟨a,j,hj,b⟩
  refine⟨z.cps.toList,?_,MJ z⟩
  have m:mk (W ups lab.cps.toList j)∈ss:=hp.mem_iff.mpr (List.mem_map.mpr ⟨j,List.mem_range.mpr hj,rfl⟩)
  obtain⟨i,hi,e⟩:=List.getElem_of_mem m
  refine W18.Oj a i hi ?_
  rw[CV,List.getD_eq_getElem?_getD,List.getElem?_eq_getElem hi]
  show z.cps.toList<+:(ss[i]).cps.toList
  rw[e];exact b
theorem B7 {ups:List Int}{lab:Str}(ok:A6 ups lab.cps.toList){z:Str}(h:IU ups lab ups.length z):1<=z.length/\z.length<=60:=by
 obtain⟨a,j,hj,b⟩:=h
 have l1:=IQ ok (j+1) j (by omega) hj
 have l2:=b.length_le
 have l3:=List.length_pos_iff.mpr a
 have m:=ok.most
 rw[AY]at l2 l3
 omega
theorem IV {ups:List Int}{lab:Str}(ok:A6 ups lab.cps.toList):∃z,IU ups lab ups.length z:=by
 have pos:=ok.pos
 refine⟨mk (W ups lab.cps.toList 0),?_,0,pos,List.prefix_refl _⟩
 rw[BQ,JG ok pos]
 simp
def Ov (ns:List Int)(m:Int):List Int:=(List.range m.toNat).map λj:Nat=>((ns.count (1+(j:Int)):Nat):Int)
def B8 (zs:List Str):List Int:=zs.map λz=>(z.length:Int)
theorem P8 (ns:List Int)(m:Int):(Ov ns m).length=m.toNat:=by unfold Ov;rw[List.length_map,List.length_range]
theorem Rk {ns:List Int}{m x:Int}(h1:1<=x)(h2:x<=m):(Ov ns m)[(x - 1).toNat]?=some ((ns.count x:Nat):Int):=by
 unfold Ov
 rw[List.getElem?_map,List.getElem?_range (by omega),Option.map_some,show 1+(((x - 1).toNat:Nat):Int)=x by omega]
theorem Fj (ss:List Str):(cs ss).length=ss.length:=by unfold cs;rw[List.length_map]
theorem DL:∀l:List Str,l.Pairwise (λa b=>¬b.cps.toList < a.cps.toList)->PyProof.Rows.sortedS l=true:=λl h=>
 PyProof.Rows.sortedS_of_pairwise l (h.imp λ{a b} n=>by rw[PyProof.Rows.ltCps_eq];simpa using n)
theorem KA {ss:List Str}(hs:PyProof.Rows.sortedS ss=true):PyProof.Rows.sortedS (CN ss ss.length)=true:=by
 apply DL
 unfold CN
 rw[List.pairwise_map]
 exact W18.J0 (D9 hs) ss.length (by rw[Fj];exact Nat.le_refl _)
end
section
variable (ups:List Int)(lab:Str)
def cnt (z:Str):Nat:=(Cz ups lab ups.length z).length
abbrev F0 (z:Str):Prop:=IU ups lab ups.length z
def Ow (L:Int)(z:Str):Prop:=F0 ups lab z/\(z.length:Int)=L/\∀y,F0 ups lab y->(y.length:Int)=L->cnt ups lab y<=cnt ups lab z/\(cnt ups lab y=cnt ups lab z->¬y.cps.toList < z.cps.toList)
def Qe (L:Int):Prop:=∀z,F0 ups lab z->(z.length:Int)≠L
def UE (z:Str):Prop:=F0 ups lab z/\1 < cnt ups lab z/\∀y,F0 ups lab y->1 < cnt ups lab y->y.length<=z.length/\(y.length=z.length->¬y.cps.toList < z.cps.toList)
def Rl:Prop:=∀z,F0 ups lab z->¬1 < cnt ups lab z
variable {ups lab}
theorem B6 (z:Str):cnt ups lab z=(AO ups lab).countP λw=>z.cps.toList.isPrefixOf w.cps.toList:=by
 unfold cnt Cz AO
 rw[List.length_map,List.countP_map,<-List.countP_eq_length_filter]
 rfl
theorem Co {z:Str}:F0 ups lab z↔z.cps.toList≠[]/\∃w∈AO ups lab,z.cps.toList<+:w.cps.toList:=by
 unfold F0 IU AO
 constructor
 ·rintro⟨h,j,hj,p⟩
  exact⟨h,_,List.mem_map.mpr ⟨j,List.mem_range.mpr hj,rfl⟩,p⟩
 ·rintro⟨h,w,hw,p⟩
  obtain⟨j,hj,rfl⟩:=List.mem_map.mp hw
  exact⟨h,j,List.mem_range.mp hj,p⟩
def Fl (ups:List Int)(lab:Str)(l:Nat):List Str:=((AO ups lab).filter λw=>decide (l<=w.length)).map λw=>mk (w.cps.toList.take l)
theorem HG {l:Nat}(hl:1<=l){z:Str}:z∈Fl ups lab l↔F0 ups lab z/\z.length=l:=by
 rw[Co]
 unfold Fl
 rw[List.mem_map]
 constructor
 ·rintro⟨w,hw,rfl⟩
  obtain⟨h1,h2⟩:=List.mem_filter.mp hw
  have h2':l<=w.length:=of_decide_eq_true h2
  have:=AY w
  have hlen:(w.cps.toList.take l).length=l:=by rw[List.length_take];omega
  refine⟨⟨λe=>?_,w,h1,List.take_prefix _ _⟩,by rw[DK];exact hlen⟩
  rw[BQ]at e
  rw[e]at hlen;simp at hlen;omega
 ·rintro⟨⟨h1,w,hw,p⟩,h2⟩
  have:=AY w
  have:=AY z
  have pl:=p.length_le
  refine⟨w,List.mem_filter.mpr ⟨hw,decide_eq_true (by omega)⟩,BW ?_⟩
  rw[BQ,<-show z.cps.toList.length=l by omega]
  exact(List.prefix_iff_eq_take.mp p).symm
theorem HI {l:Nat}{z:Str}(hz:z.length=l):(Fl ups lab l).count z=cnt ups lab z:=by
 rw[B6]
 unfold Fl List.count
 rw[List.countP_map,List.countP_filter]
 refine List.countP_congr λw _=>?_
 have:=AY w
 have:=AY z
 simp only[Function.comp,Bool.and_eq_true,beq_iff_eq,decide_eq_true_eq,List.isPrefixOf_iff_prefix]
 constructor
 ·rintro⟨e,h⟩
  rw[<-e,BQ];exact List.take_prefix _ _
 ·intro p
  have pl:=p.length_le
  refine⟨BW ?_,by omega⟩
  rw[BQ,<-show z.cps.toList.length=l by omega]
  exact(List.prefix_iff_eq_take.mp p).symm
theorem P9 {l:Nat}(hl:1<=l){bs:List Str}(hp:bs.Perm (Fl ups lab l))(hs:PyProof.Rows.sortedS bs=true){b:Nat}(hb:b < bs.length)(best:Ew (λi=>((bs.count (bs.getD i Str.empty):Nat):Int)) b bs.length):Ow ups lab (l:Int) bs[b]/\bs.count bs[b]=cnt ups lab bs[b]:=by
 have cn:∀z,z.length=l->bs.count z=cnt ups lab z:=λz hz=>by rw[hp.count_eq,HI hz]
 have mb:=(HG hl).mp (hp.mem_iff.mp (List.getElem_mem hb))
 refine⟨⟨mb.1,by rw[mb.2],λy py ly=>?_⟩,cn _ mb.2⟩
 have ly':y.length=l:=by omega
 have my:=hp.mem_iff.mpr ((HG hl).mpr ⟨py,ly'⟩)
 obtain⟨i,hi,ei⟩:=List.getElem_of_mem my
 have h2:=best.2 i hi
 have g:∀i (hi:i < bs.length),bs.getD i Str.empty=bs[i]:=λi hi=>by rw[List.getD_eq_getElem?_getD,List.getElem?_eq_getElem hi];rfl
 simp only[g i hi,g b hb]at h2
 rw[ei]at h2
 rw[<-cn y ly',<-cn _ mb.2]
 refine⟨by omega,λe lt=>?_⟩
 rcases Nat.lt_trichotomy i b with q|q|q
 ·have:=h2.2 q;omega
 ·subst q
  rw[ei]at lt
  exact absurd lt (List.lt_irrefl _)
 ·have:=List.pairwise_iff_getElem.mp (BD bs hs) b i hb hi q
  rw[ei]at this
  exact this lt
theorem KC {ss:List Str}(hs:PyProof.Rows.sortedS ss=true){z:Str}(h:1 < ss.countP λw=>z.cps.toList.isPrefixOf w.cps.toList):∃j,1<=j/\j < ss.length/\z.cps.toList<+:(ss.getD (j - 1) Str.empty).cps.toList/\z.cps.toList<+:(ss.getD j Str.empty).cps.toList:=by
 have sp:=BD ss hs
 have two:∃i j,i < j/\j < ss.length/\z.cps.toList<+:(ss.getD i Str.empty).cps.toList/\z.cps.toList<+:(ss.getD j Str.empty).cps.toList:=by
  clear hs sp
  induction ss with
  |nil=>simp at h
  |cons a l ih=>
   rw[List.countP_cons]at h
   by_cases c:1 < l.countP λw=>z.cps.toList.isPrefixOf w.cps.toList
   ·obtain⟨i,j,h1,h2,h3,h4⟩:=ih c
    exact⟨i+1,j+1,by omega,by simpa using h2,h3,h4⟩
   ·have pa:z.cps.toList.isPrefixOf a.cps.toList=true:=by
     cases e:z.cps.toList.isPrefixOf a.cps.toList with
     |true=>rfl
     |false=>rw[e,if_neg Bool.false_ne_true]at h;omega
    rw[pa]at h
    simp only[if_true]at h
    have pos:0 < l.countP λw=>z.cps.toList.isPrefixOf w.cps.toList:=by omega
    obtain⟨w,hw,pw⟩:=List.countP_pos_iff.mp pos
    obtain⟨j,hj,ej⟩:=List.getElem_of_mem hw
    refine⟨0,j+1,by omega,by simpa using hj,List.isPrefixOf_iff_prefix.mp pa,?_⟩
    show z.cps.toList<+:(l.getD j Str.empty).cps.toList
    rw[List.getD_eq_getElem?_getD,List.getElem?_eq_getElem hj,Option.getD_some,ej]
    exact List.isPrefixOf_iff_prefix.mp pw
 obtain⟨i,j,hij,hj,p1,p2⟩:=two
 have g:∀i (hi:i < ss.length),ss.getD i Str.empty=ss[i]:=λi hi=>by rw[List.getD_eq_getElem?_getD,List.getElem?_eq_getElem hi];rfl
 refine⟨i+1,by omega,by omega,by simpa using p1,?_⟩
 rcases Nat.eq_or_lt_of_le (show i+1<=j by omega)with e|e
 ·rw[e];exact p2
 ·rw[g _ (by omega)]at p1 p2 ⊢
  exact W18.R7 _ _ _ _ p1 p2 (List.pairwise_iff_getElem.mp sp i (i+1) (by omega) (by omega) (by omega)) (List.pairwise_iff_getElem.mp sp (i+1) j (by omega) hj e)
theorem IW {p:Str->Bool}:∀(ss:List Str) (i j:Nat),i < j->j < ss.length->p (ss.getD i Str.empty)=true->p (ss.getD j Str.empty)=true->1 < ss.countP p
 |[],i,j,_,h,_,_=>by simp at h
 |a::l,0,j+1,_,h,h1,h2=>by
  have hj:j < l.length:=by simpa using h
  have pa:p a=true:=h1
  rw[List.countP_cons,pa,if_pos rfl]
  have e:l.getD j Str.empty=l[j]:=by rw[List.getD_eq_getElem?_getD,List.getElem?_eq_getElem hj];rfl
  have h2':p (l.getD j Str.empty)=true:=h2
  rw[e]at h2'
  have:=List.countP_pos_iff.mpr ⟨l[j],List.getElem_mem hj,h2'⟩
  omega
 |a::l,i+1,j+1,hij,h,h1,h2=>by
  have:=IW l i j (by omega) (by simpa using h) h1 h2
  rw[List.countP_cons];omega
theorem E8 {ss:List Str}(hp:ss.Perm (AO ups lab))(z:Str):cnt ups lab z=ss.countP λw=>z.cps.toList.isPrefixOf w.cps.toList:=by rw[B6,hp.countP_eq]
theorem Ox {ss:List Str}{z:Str}{j:Nat}(h1:1<=j)(p1:z.cps.toList<+:(ss.getD (j - 1) Str.empty).cps.toList)(p2:z.cps.toList<+:(ss.getD j Str.empty).cps.toList):(z.length:Int)<=Kf ss j:=by
 unfold Kf
 rw[if_neg (by omega)]
 have e:z.cps.toList=(ss.getD (j - 1) Str.empty).cps.toList.take z.length:=by
  rw[<-AY];exact List.prefix_iff_eq_take.mp p1
 have pl:=p1.length_le
 rw[AY]at pl
 rw[e]at p2
 have:=(W16.B1 _ _ z.length pl).mp p2
 omega
theorem QA {ss:List Str}(hp:ss.Perm (AO ups lab))(hs:PyProof.Rows.sortedS ss=true)(h:∀x∈ED ss ss.length,x<=0):Rl ups lab:=λz pz c=>by
 rw[E8 hp]at c
 obtain⟨j,h1,h2,p1,p2⟩:=KC hs c
 have le:=Ox h1 p1 p2
 have:=h (Kf ss j) (List.mem_map.mpr ⟨j,List.mem_range.mpr h2,rfl⟩)
 have:z.length=0:=by omega
 exact(Co.mp pz).1 (by have:=AY z;exact List.eq_nil_of_length_eq_zero (by omega))
theorem Sz {ss:List Str}(hp:ss.Perm (AO ups lab))(hs:PyProof.Rows.sortedS ss=true){m:Nat}(hm:1<=m)(mem:(m:Int)∈ED ss ss.length)(mx:∀x∈ED ss ss.length,x<=(m:Int)):
 UE ups lab (mk ((ss.getD ((ED ss ss.length).idxOf (m:Int)) Str.empty).cps.toList.take m)):=by
 have hl:(ED ss ss.length).idxOf (m:Int) < ss.length:=by
  have:=List.idxOf_lt_length_of_mem mem
  simpa[ED]using this
 have at':Kf ss ((ED ss ss.length).idxOf (m:Int))=m:=by
  have h0:=List.getElem_idxOf (List.idxOf_lt_length_of_mem mem)
  unfold ED at h0
  rw[List.getElem_map,List.getElem_range]at h0
  exact h0
 have first:∀j,j < (ED ss ss.length).idxOf (m:Int)->Kf ss j≠m:=λj hj e=>by
  have:=List.not_of_lt_findIdx (p:=(·==(m:Int))) (xs:=ED ss ss.length) hj
  have e2:((ED ss ss.length)[j]'(by have:=List.findIdx_le_length (p:=(·==(m:Int))) (xs:=ED ss ss.length);have:j < (ED ss ss.length).findIdx (·==(m:Int)):=hj;omega)==(m:Int))=true:=by
   unfold ED
   rw[List.getElem_map,List.getElem_range]
   simpa using e
  rw[e2]at this
  cases this
 generalize(ED ss ss.length).idxOf (m:Int)=i at hl at' first
 have g:∀i (hi:i < ss.length),ss.getD i Str.empty=ss[i]:=λi hi=>by rw[List.getD_eq_getElem?_getD,List.getElem?_eq_getElem hi];rfl
 have i1:1<=i:=by
  rcases Nat.eq_zero_or_pos i with e|e
  ·subst e;unfold Kf at at';rw[if_pos rfl]at at';omega
  ·exact e
 have lc:W16.Gy (ss.getD (i - 1) Str.empty).cps.toList (ss.getD i Str.empty).cps.toList=m:=by
  unfold Kf at at'
  rw[if_neg (by omega)]at at'
  omega
 obtain⟨le1,le2⟩:=W16.Gz (ss.getD (i - 1) Str.empty).cps.toList (ss.getD i Str.empty).cps.toList
 rw[lc]at le1 le2
 have p0:(ss.getD (i - 1) Str.empty).cps.toList.take m<+:(ss.getD i Str.empty).cps.toList:=(W16.B1 _ _ m le1).mpr (by omega)
 have e0:(ss.getD (i - 1) Str.empty).cps.toList.take m=(ss.getD i Str.empty).cps.toList.take m:=by
  have:=List.prefix_iff_eq_take.mp p0
  rw[List.length_take,Nat.min_eq_left le1]at this
  exact this
 have zl:(mk ((ss.getD i Str.empty).cps.toList.take m)).length=m:=by rw[DK,List.length_take,Nat.min_eq_left le2]
 have q1:(mk ((ss.getD i Str.empty).cps.toList.take m)).cps.toList<+:ss[i - 1].cps.toList:=by
  rw[BQ,<-e0,<-g (i - 1) (by omega)];exact List.take_prefix _ _
 have q2:(mk ((ss.getD i Str.empty).cps.toList.take m)).cps.toList<+:ss[i].cps.toList:=by
  rw[BQ,<-g i hl];exact List.take_prefix _ _
 refine⟨Co.mpr ⟨λe=>?_,ss[i],hp.mem_iff.mp (List.getElem_mem hl),q2⟩,?_,λy py cy=>?_⟩
 ·have:=AY (mk ((ss.getD i Str.empty).cps.toList.take m))
  rw[e,zl]at this;simp at this;omega
 ·rw[E8 hp]
  refine IW ss (i - 1) i (by omega) hl ?_ ?_
  ·rw[g (i - 1) (by omega)];exact List.isPrefixOf_iff_prefix.mpr q1
  ·refine List.isPrefixOf_iff_prefix.mpr ?_
   have:=q2
   rw[<-g i hl]at this
   exact this
 ·rw[E8 hp]at cy
  obtain⟨j,h1,h2,p1,p2⟩:=KC hs cy
  have le:=Ox h1 p1 p2
  have le':=mx (Kf ss j) (List.mem_map.mpr ⟨j,List.mem_range.mpr h2,rfl⟩)
  refine⟨by rw[zl];omega,λe lt=>?_⟩
  rw[zl]at e
  have ej:Kf ss j=m:=by omega
  have ij:i<=j:=by
   rcases Nat.lt_or_ge j i with q|q
   ·exact absurd ej (first j q)
   ·exact q
  have ey:y.cps.toList=(ss[j].cps.toList).take m:=by
   rw[g j h2]at p2
   have:=List.prefix_iff_eq_take.mp p2
   rw[AY,e]at this
   exact this
  rw[BQ,g i hl,ey]at lt
  rcases Nat.eq_or_lt_of_le ij with q|q
  ·subst q;exact absurd lt (List.lt_irrefl _)
  ·exact absurd (take_lt m lt) (List.pairwise_iff_getElem.mp (BD ss hs) i j hl h2 q)
where
 take_lt:∀(m:Nat) {x y:List Nat},x.take m < y.take m->x < y
  |0,x,y,h=>by simp at h
  |m+1,[],y,h=>by
   cases y with
   |nil=>simp at h
   |cons b y=>exact List.nil_lt_cons b y
  |m+1,a::x,[],h=>by simp at h
  |m+1,a::x,b::y,h=>by
   rw[List.take_succ_cons,List.take_succ_cons,List.cons_lt_cons_iff]at h
   rw[List.cons_lt_cons_iff]
   rcases h with h|⟨h1,h2⟩
   ·exact .inl h
   ·exact .inr ⟨h1,take_lt m h2⟩
end
section
variable {P:Program}{w:World}{K:PySem.W.Frag}{mg:Str->Option Value}{base:Heap}{k:Nat}
def Qf:Sp:=λvs H Q _=>∃(t:Addr) (ups:List Int) (lab:Str),vs=[.ref t]/\Al H t ups lab/\
 ∀(ss:List Str) (H':Hp),ss.Perm (AO ups lab)->PyProof.Rows.sortedS ss=true->AJ H H'->Q (.int (((CN ss ss.length).length:Nat):Int)) H'
theorem Rm (D:Df K mg "count_words" s_count_words)(B:Blt7 mg)(G_unlike_words:A9 P w K mg base "unlike_words" k ["tree"] Ca):A9 P w K mg base "count_words" (k+1) ["tree"] Qf:=by
 refine D.has HE (λ_ _ _ _ _ _ us hl=>match us,hl with|[_],_=>rfl) (λvs H Q E h=>by obtain⟨t,ups,lab,rfl,_⟩:=h;rfl) (λf cdv A outer s H vs Q E hr h=>?_)
 obtain⟨t,ups,lab,rfl,tr,q⟩:=h
 refine⟨_,(AN (AW (AI Ab rfl B.len Aa (AA (AH G_unlike_words hr rfl (AA (pv 0) AB)) AB)))),?_⟩
 refine⟨_,rfl,t,ups,lab,rfl,tr,λss r H1 hp hs s1 hf1 hr1=>⟨r,_,rfl,.inl (AZ.of hr1),?_⟩⟩
 have:=q ss H1 hp hs s1
 rw[List.length_map];exact this
def KD:Sp:=λvs H Q _=>∃(t:Addr) (ups:List Int) (lab:Str),vs=[.ref t]/\Al H t ups lab/\
 ∀(ss:List Str) (r:Addr) (m:Int) (H':Hp),ss.Perm (AO ups lab)->PyProof.Rows.sortedS ss=true->m∈B8 (CN ss ss.length)->(∀x∈B8 (CN ss ss.length),x<=m)->AJ H H'->H r=none->
  H' r=some (.lst ((Ov (B8 (CN ss ss.length)) m).map V.int))->Q (.ref r) H'
theorem NX (D:Df K mg "by_lengths" s_by_lengths)(B:Blt7 mg)(G_unlike_words:A9 P w K mg base "unlike_words" k ["tree"] Ca):A9 P w K mg base "by_lengths" (k+1) ["tree"] KD:=by
 refine D.has EI (λ_ _ _ _ _ _ us hl=>match us,hl with|[_],_=>rfl) (λvs H Q E h=>by obtain⟨t,ups,lab,rfl,_⟩:=h;rfl) (λf cdv A outer s H vs Q E hr h=>?_)
 obtain⟨t,ups,lab,rfl,tr,q⟩:=h
 refine⟨_,(AE (AS (i:=1) EI.nd rfl (by first|exact Or.inl rfl|exact Or.inr rfl) (Aw rfl (Ao (AH G_unlike_words hr rfl (AA (pv 0) AB))) (NL:=["word"]) (ix:=[]) (En (AG s_by_lengths) DF) (λcl C s₃ H₃ fp pins=>⟨(AQ (i:=0) (show List.Nodup (["word"]:List Str)from by decide+kernel) rfl (by first|exact Or.inl rfl|exact Or.inr rfl)),Ar,(AI AR rfl B.len Aa (AA (pv 0) AB))⟩)))
 (AN (AW (Aw rfl (CW rfl B.range (AA AF (AA (AU BE (AI (FR rfl) rfl B.max ES (AA (pv 1) AB)) AF) AB))) (NL:=["length"]) (ix:=[1]) (En (AG s_by_lengths) DF) (λcl C s₃ H₃ fp pins=>⟨(AQ (i:=0) (show List.Nodup (["length","lengths"]:List Str)from by decide+kernel) rfl (by first|exact Or.inl rfl|exact Or.inr rfl)),Ar,(M8 K (pv 1) (pv 0))⟩))))),?_⟩
 obtain⟨_,_,_,ok⟩:=id tr
 have m60:=ok.most
 have wle:=A7 ok
 refine⟨_,rfl,t,ups,lab,rfl,tr,λss r H1 hp hs s1 hf1 hr1=>?_⟩
 have sl:=hp.length_eq
 have wl:=An ups lab
 have sle:∀i,(ss.getD i Str.empty).length<=60:=λi=>by
  rw[List.getD_eq_getElem?_getD]
  cases e:ss[i]? with
  |none=>show Str.empty.length<=60;decide
  |some z=>exact wle z (hp.mem_iff.mp (List.mem_of_getElem? e))
 have ul:=GL sle ss.length
 have zl:∀z∈CN ss ss.length,1<=z.length/\z.length<=60:=λz hz=>B7 ok ((CI hp z).mp hz)
 obtain⟨z0,hz0⟩:=IV ok
 have hz0:=(CI hp z0).mpr hz0
 have q:=q ss
 generalize CN ss ss.length=U at hr1 ul zl hz0 q
 have l0:(U.map V.str).length=U.length:=List.length_map _
 refine⟨r,rfl,⟨_,AZ.of hr1⟩,λacc hacc=>?_⟩
 refine M6 (xs:=U.map V.str) (by omega) (λi ys H'=>H' acc=some (.lst ys)/\ys=(B8 (U.take i)).map V.int/\AJ H1 H')
  (λi ys H' h=>AZ.of (h.2.2 _ _ hr1)) (λi ys H' h=>⟨h.1,by rw[h.2.1,List.length_map,B8,List.length_map,List.length_take];exact Nat.min_le_left _ _⟩) ⟨AD,rfl,(AJ.refl H1).new hacc⟩ ?_ ?_
 rotate_left
 ·rintro i x ys H2 hx ⟨g1,rfl,g3⟩
  rw[List.getElem?_map]at hx
  cases e:U[i]? with
  |none=>rw[e]at hx;cases hx
  |some z=>
   rw[e]at hx
   cases hx
   have:=(zl z (List.mem_of_getElem? e)).2
   refine⟨rfl,_,rfl,z,rfl,Nat.le_of_lt (AM (by omega)),g1,AD,?_,g3.write hacc⟩
   rw[List.take_succ,e,B8,B8,List.map_append,List.map_append];rfl
 rintro ys H2 ⟨g1,rfl,g3⟩
 rw[l0,List.take_length]at g1
 have ne:B8 U≠[]:=λe=>by
  have:((z0.length:Nat):Int)∈B8 U:=List.mem_map.mpr ⟨z0,hz0,rfl⟩
  rw[e]at this;cases this
 refine⟨_,rfl,acc,_,rfl,AZ.of g1,ne,λm hm hx=>?_⟩
 have mb:1<=m/\m<=60:=by
  obtain⟨z,hz,rfl⟩:=List.mem_map.mp hm
  have:=zl z hz
  omega
 refine⟨_,_,rfl,rfl,_,_,rfl,⟨by omega,by omega,by omega,by omega⟩,λac2 hac2=>?_⟩
 have eN:(m+1 - 1).toNat=m.toNat:=by omega
 refine By (m+1 - 1).toNat (by omega) (λj ys H'=>H' ac2=some (.lst ys)/\ys=((List.range j).map λn:Nat=>(((B8 U).count (1+(n:Int)):Nat):Int)).map V.int/\AJ H2 H')
  (λj ys H' h=>⟨h.1,by rw[h.2.1,List.length_map,List.length_map,List.length_range];exact Nat.le_refl _⟩) ⟨AD,rfl,(AJ.refl H2).new hac2⟩ ?_ ?_
 ·rintro ys H3 ⟨e1,rfl,e3⟩
  refine⟨Nat.le_refl _,?_⟩
  rw[eN]at e1
  have sA:=(s1.trans g3).trans e3
  exact q ac2 m H3 hp hs hm hx sA ((s1.trans g3).free hac2) e1
 ·rintro j ys H3 hj ⟨e1,rfl,e3⟩
  refine⟨hj,?_⟩
  rintro x HY ⟨rfl,rfl⟩
  refine⟨rfl,?_⟩
  have h3:=e3 _ _ g1
  refine⟨_,rfl,.inl ⟨rfl,_,AZ.of h3⟩,_,rfl,acc,_,_,rfl,rfl,h3,e1,AD,?_,e3.write hac2⟩
  rw[List.range_succ,List.map_append,List.map_append];rfl
end
end S24
namespace S24
open PySem L2 W7
section
variable {P:Program}{w:World}{K:PySem.W.Frag}{mg:Str->Option Value}{base:Heap}{k:Nat}
def KG:Sp:=λvs H Q _=>∃i:Int,vs=[.int i]/\Q (.bl true) H
theorem NY (D:Df K mg "is_whole" s_is_whole)(B:Blt7 mg):A9 P w K mg base "is_whole" (k+1) ["thing"] KG:=by
 refine D.has J1 (λ_ _ _ _ _ _ us hl=>match us,hl with|[_],_=>rfl) (λvs H Q E h=>by obtain⟨x,rfl,_⟩:=h;rfl) (λf cdv A outer s H vs Q E hr h=>?_)
 obtain⟨i,rfl,q⟩:=h
 refine⟨_,(AN (AW (Kl (AI DU rfl B.isinstance Cs (AA (pv 0) (AA (IZ (v:=.ty "int") rfl B.int_ Ku rfl) AB))) (Kk (Qr (AI DU rfl B.isinstance Cs (AA (pv 0) (AA (IZ (v:=.ty "bool") rfl B.bool_ Ph rfl) AB)))))))),?_⟩
 refine⟨_,rfl,_,.type "int","int",true,rfl,.int _,Ji _ _,_,rfl,Mr ?_⟩
 exact⟨_,rfl,_,.type "int","bool",false,rfl,.int _,Ik _,_,rfl,q⟩
def KH:Sp:=λvs H Q _=>∃i n:Int,vs=[.int i,.int n]/\0<=i/\i < n/\Q (.bl true) H
theorem NZ (D:Df K mg "is_number_below" s_is_number_below)(B:Blt7 mg)(G_is_whole:A9 P w K mg base "is_whole" k ["thing"] KG):A9 P w K mg base "is_number_below" (k+1) ["thing","behind"] KH:=by
 refine D.has EZ (λ_ _ _ _ _ _ us hl=>match us,hl with|[_,_],_=>rfl) (λvs H Q E h=>by obtain⟨x,y,rfl,_⟩:=h;rfl) (λf cdv A outer s H vs Q E hr h=>?_)
 obtain⟨i,n,rfl,h0,h1,q⟩:=h
 refine⟨_,(AN (AW (Kl (AH G_is_whole hr rfl (AA (pv 0) AB)) (Kk (N0 Ny JX AF (pv 0) (pv 1)))))),?_⟩
 refine⟨_,rfl,i,rfl,_,rfl,Mr ?_⟩
 refine⟨_,rfl,_,_,rfl,rfl,_,rfl,?_⟩
 rw[decide_eq_true h0]
 refine Mr ⟨_,rfl,_,_,rfl,rfl,?_⟩
 show Q (.bl (decide (i < n))) H
 rw[decide_eq_true h1];exact q
theorem KI {ups:List Int}{lab:Str}{ss:List Str}(ok:A6 ups lab.cps.toList)(hp:ss.Perm (AO ups lab)):(CN ss ss.length).length<=3600:=by
 have wle:=A7 ok
 have sle:∀i,(ss.getD i Str.empty).length<=60:=λi=>by
  rw[List.getD_eq_getElem?_getD]
  cases e:ss[i]? with
  |none=>show Str.empty.length<=60;decide
  |some z=>exact wle z (hp.mem_iff.mp (List.mem_of_getElem? e))
 have ul:=GL sle ss.length
 have sl:=hp.length_eq
 have wl:=An ups lab
 have m60:=ok.most
 omega
def UL (ups:List Int)(lab:Str)(zs:List Str):Prop:=∀ss:List Str,ss.Perm (AO ups lab)->PyProof.Rows.sortedS ss=true->CN ss ss.length=zs
theorem MK {z:Str}:∀zs:List Str,R4 (.str z) (zs.map V.str)=decide (z∈zs)
 |[]=>rfl
 |y::zs=>by
  have ih:=MK (z:=z) zs
  unfold R4 at ih ⊢
  rw[List.map_cons,List.any_cons,ih]
  by_cases e:y=z
  ·subst e;simp[JQ]
  ·have:JQ (.str y) (.str z)=false:=by simp[JQ,e]
   rw[this,Bool.false_or]
   simp[Ne.symm e]
def Oy:Sp:=λvs H Q _=>∃(t:Addr) (ups:List Int) (lab:Str) (i:Int) (zs:List Str),vs=[.ref t,.int i]/\Al H t ups lab/\UL ups lab zs/\0<=i/\i < (zs.length:Int)/\
 ∀H',AJ H H'->Q (.str (zs.getD i.toNat Str.empty)) H'
theorem QB (D:Df K mg "nth_word" s_nth_word)(B:Blt7 mg)(G_unlike_words:A9 P w K mg base "unlike_words" k ["tree"] Ca)(G_is_number_below:A9 P w K mg base "is_number_below" k ["thing","behind"] KH):A9 P w K mg base "nth_word" (k+1) ["tree","k"] Oy:=by
 refine D.has Fx (λ_ _ _ _ _ _ us hl=>match us,hl with|[_,_],_=>rfl) (λvs H Q E h=>by obtain⟨t,ups,lab,i,zs,rfl,_⟩:=h;rfl) (λf cdv A outer s H vs Q E hr h=>?_)
 obtain⟨t,ups,lab,i,zs,rfl,tr,ul,i0,i1,q⟩:=h
 refine⟨_,(AE (AS (i:=2) Fx.nd rfl (by first|exact Or.inl rfl|exact Or.inr rfl) (AH G_unlike_words hr rfl (AA (pv 0) AB)))
 (AE (Bs (EL (C7 (AH G_is_number_below hr rfl (AA (pv 1) (AA (AI Ab rfl B.len Aa (AA (pv 2) AB)) AB)))))
 (AN Fc)
 Au)
 (AN (AW (Ai Aj (pv 2) (pv 1) (λ_ _=>rfl)))))),?_⟩
 refine⟨_,rfl,t,ups,lab,rfl,tr,λss r H1 hp hs s1 hf1 hr1=>?_⟩
 rw[ul ss hp hs]at hr1
 refine⟨_,rfl,_,rfl,r,_,rfl,.inl (AZ.of hr1),i,_,rfl,i0,by rw[List.length_map];exact i1,_,rfl,GW ?_⟩
 have at1:Ec (zs.map V.str) i=some (.str (zs.getD i.toNat Str.empty)):=by
  have:=E7 (ss:=zs) (i:=i.toNat) (by omega)
  rw[show((i.toNat:Nat):Int)=i by omega]at this
  exact this
 exact⟨_,rfl,_,rfl,r,_,_,_,rfl,rfl,AZ.of hr1,at1,q H1 s1⟩
def Oz:Sp:=λvs H Q _=>∃(t:Addr) (ups:List Int) (lab:Str) (z:Str) (zs:List Str),vs=[.ref t,.str z]/\Al H t ups lab/\UL ups lab zs/\z∈zs/\zs.length<=3600/\
 ∀H',AJ H H'->Q (.int ((zs.idxOf z:Nat):Int)) H'
theorem QC (D:Df K mg "number_of" s_number_of)(B:Blt7 mg)(G_unlike_words:A9 P w K mg base "unlike_words" k ["tree"] Ca):A9 P w K mg base "number_of" (k+1) ["tree","word"] Oz:=by
 refine D.has E3 (λ_ _ _ _ _ _ us hl=>match us,hl with|[_,_],_=>rfl) (λvs H Q E h=>by obtain⟨t,ups,lab,z,zs,rfl,_⟩:=h;rfl) (λf cdv A outer s H vs Q E hr h=>?_)
 obtain⟨t,ups,lab,z,zs,rfl,tr,ul,mem,zl,q⟩:=h
 refine⟨_,(AE (AS (i:=2) E3.nd rfl (by first|exact Or.inl rfl|exact Or.inr rfl) (AH G_unlike_words hr rfl (AA (pv 0) AB)))
 (AE (Bs (Ac Ig (pv 1) (pv 2) (by with_unfolding_all rfl))
 (AN Fc)
 Au)
 (AN (AW (NG K (pv 2) (pv 1)))))),?_⟩
 refine⟨_,rfl,t,ups,lab,rfl,tr,λss r H1 hp hs s1 hf1 hr1=>?_⟩
 rw[ul ss hp hs]at hr1
 refine⟨_,rfl,_,rfl,r,_,rfl,.inl (AZ.of hr1),rfl,Bp zs,_,rfl,?_⟩
 rw[MK,decide_eq_true mem]
 refine GW ?_
 exact⟨_,rfl,.inl ⟨rfl,_,AZ.of hr1⟩,_,rfl,r,_,_,rfl,rfl,hr1,mem,by omega,q H1 s1⟩
end
end S24
namespace S24
open PySem L2 W7
section
variable {P:Program}{w:World}{K:PySem.W.Frag}{mg:Str->Option Value}{base:Heap}{k:Nat}
theorem A3 {ss:List Str}{i:Nat}{x:V}(h:(ss.map V.str)[i]?=some x):∃z,ss[i]?=some z/\x=.str z:=by
 rw[List.getElem?_map]at h
 cases e:ss[i]? with
 |none=>rw[e]at h;cases h
 |some z=>rw[e]at h;exact⟨z,rfl,(Option.some.inj h).symm⟩
theorem BM {ss:List Str}{i:Nat}{z:Str}{f:Str->Bool}(h:ss[i]?=some z)(b:Bool)(hb:f z=b):(((ss.take (i+1)).filter f).map V.str)=((ss.take i).filter f).map V.str++(if b=true then[V.str z]else[]):=by
 rw[PySem.take_succ_filter f ss i z h,hb,List.map_append]
 cases b<;>rfl
theorem Dr {ss:List Str}{i:Nat}{f:Str->Bool}:(((ss.take i).filter f).map V.str).length<=i:=by
 rw[List.length_map]
 exact Nat.le_trans (List.length_filter_le _ _) (by rw[List.length_take];omega)
def Fm (H:Hp)(vs:List V)(ps:List (V×V)):Prop:=vs.length=ps.length/\∀(i:Nat) v p,vs[i]?=some v->ps[i]?=some p->∃a,v=.ref a/\H a=some (.tup [p.1,p.2])
theorem Fm.nil (H:Hp):Fm H [] []:=⟨rfl,λi v p e=>by simp at e⟩
theorem Fm.wr {H H':Hp}{vs:List V}{ps:List (V×V)}{q:Addr}{xs:List V}{o:HO}(h:Fm H vs ps)(e:H q=some (.lst xs))(s:AJ H H'):Fm (upd H' q o) vs ps:=⟨h.1,λi v p a b=>by
 obtain⟨x,e1,e2⟩:=h.2 i v p a b
 refine⟨x,e1,?_⟩
 rw[AL (GO e2 e (by intro c;cases c))]
 exact s _ _ e2⟩
theorem Fm.snoc {H:Hp}{vs:List V}{ps:List (V×V)}{a:Addr}{p:V×V}(h:Fm H vs ps)(e:H a=some (.tup [p.1,p.2])):Fm H (vs++[.ref a]) (ps++[p]):=by
 refine⟨by rw[List.length_append,List.length_append,h.1];rfl,λi v q hv hq=>?_⟩
 rcases Nat.lt_or_ge i vs.length with l|l
 ·rw[List.getElem?_append_left l]at hv
  rw[List.getElem?_append_left (by rw[<-h.1];exact l)]at hq
  exact h.2 i v q hv hq
 ·rw[List.getElem?_append_right l]at hv
  rw[List.getElem?_append_right (by rw[<-h.1];exact l),<-h.1]at hq
  rcases Nat.eq_zero_or_pos (i - vs.length)with z|z
  ·rw[z]at hv hq
   cases hv;cases hq
   exact⟨a,rfl,e⟩
  ·rw[List.getElem?_eq_none (by simp;omega)]at hv
   cases hv
def R8 (p:Str×Int):V×V:=(.str p.1,.int p.2)
def EA:Sp:=λvs H Q _=>∃(t:Addr) (ups:List Int) (lab word:Str),vs=[.ref t,.str word]/\Al H t ups lab/\
 ∀(r:Addr) (H':Hp),AJ H H'->H r=none->H' r=some (.lst ((Cz ups lab ups.length word).map V.int))->Q (.ref r) H'
theorem LO (D:Df K mg "places_of" s_places_of)(B:Blt7 mg)(G_words_of:A9 P w K mg base "words_of" k ["tree"] CG):A9 P w K mg base "places_of" (k+1) ["tree","word"] EA:=by
 refine D.has JI (λ_ _ _ _ _ _ us hl=>match us,hl with|[_,_],_=>rfl) (λvs H Q E h=>by obtain⟨t,ups,lab,word,rfl,_⟩:=h;rfl) (λf cdv A outer s H vs Q E hr h=>?_)
 obtain⟨t,ups,lab,word,rfl,tr,q⟩:=h
 refine⟨_,(AN (AW (Aw rfl (Ll rfl B.enumerate (AA (AH G_words_of hr rfl (AA (pv 0) AB)) AB)) (NL:=["place","other"]) (ix:=[1]) (En (AG s_places_of) Fw) (λcl C s₃ H₃ fp pins=>⟨(Eo K (n:=2) rfl (Ah (AQ (i:=0) (show List.Nodup (["place","other","word"]:List Str)from by decide+kernel) rfl (by first|exact Or.inl rfl|exact Or.inr rfl)) (Ah (AQ (i:=1) (show List.Nodup (["place","other","word"]:List Str)from by decide+kernel) rfl (by first|exact Or.inl rfl|exact Or.inr rfl)) Bt))),(CS K (pv 1) (pv 2)),(pv 0)⟩)))),?_⟩
 obtain⟨_,_,_,ok⟩:=id tr
 have m60:=ok.most
 have wl:=An ups lab
 refine⟨_,rfl,t,ups,lab,rfl,tr,λr H1 s1 hr1=>?_⟩
 rw[Bd]at hr1
 refine⟨.lst r,rfl,⟨_,.inl hr1⟩,λacc hacc=>?_⟩
 have hH:H acc=none:=s1.free hacc
 refine My (xs:=(AO ups lab).map V.str) (by rw[List.length_map];omega) (λi ys H2=>H2 acc=some (.lst ys)/\ys=(Cz ups lab i word).map V.int/\AJ H1 H2)
  (λi ys H2 h=>.inl (h.2.2 _ _ hr1)) (λi ys H2 h=>⟨h.1,by rw[h.2.1,List.length_map];exact D8 _ _ _ _⟩) ⟨AD,rfl,(AJ.refl H1).new hacc⟩ ?_ ?_
 ·rintro ys H2 ⟨g1,rfl,g3⟩
  refine q acc H2 (s1.trans g3) hH ?_
  rw[g1,List.length_map,wl]
 ·rintro i x ys H2 p hx ⟨g1,rfl,g3⟩ hp
  obtain⟨z,hz,rfl⟩:=A3 hx
  have il:i < ups.length:=by rw[<-wl];exact(List.getElem?_eq_some_iff.mp hz).1
  have ez:z=mk (W ups lab.cps.toList i):=by
   unfold AO at hz
   rw[List.getElem?_map,List.getElem?_range il]at hz
   cases hz;rfl
  have ga:upd H2 p (.tup [.int i,.str z]) acc=some (.lst ((Cz ups lab i word).map V.int)):=by rw[AL (AK g1 hp)];exact g1
  have gs:AJ H1 (upd H2 p (.tup [.int i,.str z])):=g3.new hp
  refine⟨p,_,rfl,Ce.of AD,rfl,_,_,rfl,_,_,rfl,rfl,rfl,_,rfl,rfl,_,rfl,_,_,rfl,rfl,_,rfl,Cf (λcnd=>?_) (λcnd=>?_)⟩
  ·have pz:=(W16.Bm z word).mp cnd
   rw[ez,BQ]at pz
   exact⟨_,rfl,ga,AD,by rw[J9,if_pos pz,List.map_append];rfl,gs.write hacc⟩
  ·have pz:¬word.cps.toList<+:W ups lab.cps.toList i:=λc=>cnd ((W16.Bm z word).mpr (by rw[ez,BQ];exact c))
   exact⟨ga,by rw[J9,if_neg pz,List.append_nil],gs⟩
def S0 (H:Hp)(r l:Addr)(ups:List Int)(lab:Str):Prop:=(Rl ups lab/\H r=some (.tup [.str Str.empty,.ref l])/\H l=some (.lst []))\/∃z,UE ups lab z/\H r=some (.tup [.str z,.ref l])/\H l=some (.lst ((Cz ups lab ups.length z).map V.int))
def O0:Sp:=λvs H Q _=>∃(t:Addr) (ups:List Int) (lab:Str),vs=[.ref t]/\Al H t ups lab/\
 ∀(r l:Addr) (H':Hp),AJ H H'->H l=none->S0 H' r l ups lab->Q (.ref r) H'
theorem QD (D:Df K mg "longest_again" s_longest_again)(B:Blt7 mg)(G_words_of:A9 P w K mg base "words_of" k ["tree"] CG)(G_alike_of:A9 P w K mg base "alike_of" k ["tree"] Fi)(G_places_of:A9 P w K mg base "places_of" k ["tree","word"] EA):A9 P w K mg base "longest_again" (k+1) ["tree"] O0:=by
 refine D.has Bc (λ_ _ _ _ _ _ us hl=>match us,hl with|[_],_=>rfl) (λvs H Q E h=>by obtain⟨t,ups,lab,rfl,_⟩:=h;rfl) (λf cdv A outer s H vs Q E hr h=>?_)
 obtain⟨t,ups,lab,rfl,tr,q⟩:=h
 refine⟨_,(AE (AS (i:=1) Bc.nd rfl (by first|exact Or.inl rfl|exact Or.inr rfl) (AH G_alike_of hr rfl (AA (pv 0) AB)))
 (AE (AS (i:=2) Bc.nd rfl (by first|exact Or.inl rfl|exact Or.inr rfl) (AI (FR rfl) rfl B.max ES (AA (pv 1) AB)))
 (AE (Bs (Ac DN (pv 2) AF (Ad _))
 (AN (AW (DR (AA FE (AA (Av AB) AB)))))
 Au)
 (AE (AS (i:=3) Bc.nd rfl (by first|exact Or.inl rfl|exact Or.inr rfl) (Ap Bk (Ai Aj (AI Ay rfl B.sorted B4 (AA (AH G_words_of hr rfl (AA (pv 0) AB)) AB)) (NJ K (pv 1) (pv 2)) (λ_ _=>rfl)) BI (A4 (pv 2))))
 (AN (AW (DR (AA (pv 3) (AA (AH G_places_of hr rfl (AA (pv 0) (AA (pv 3) AB))) AB))))))))),?_⟩
 obtain⟨_,_,_,ok⟩:=id tr
 have m60:=ok.most
 have lpos:=ok.pos
 have wl:=An ups lab
 have wle:=A7 ok
 refine⟨_,rfl,t,ups,lab,rfl,tr,λss r1 H1 hp hs s1 hf1 hr1=>?_⟩
 have sl:=hp.length_eq
 have al:(ED ss ss.length).length=ss.length:=by simp[ED]
 refine⟨_,rfl,r1,ED ss ss.length,rfl,AZ.of hr1,λe=>by rw[e]at al;simp at al;omega,λm hm mx=>?_⟩
 have m0:0<=m:=by
  obtain⟨j,hj,e⟩:=List.mem_map.mp hm
  rw[<-e];unfold Kf;split<;>omega
 refine⟨_,rfl,rfl,_,rfl,Cf (λc=>?_) (λc=>?_)⟩
 ·have c':m=0:=by have:=of_decide_eq_true c;injection this
  subst c'
  refine⟨Nat.zero_le _,λl hl=>⟨(by show 2<=sizeLine;decide),λr hr=>?_⟩⟩
  exact q r l _ ((s1.new hl).new hr) (s1.free hl) (.inl ⟨QA hp hs mx,AD,by rw[AL (AK AD hr)];exact AD⟩)
 ·have c':m≠0:=λe=>c (by rw[e];exact decide_eq_true rfl)
  obtain⟨mm,rfl⟩:∃n:Nat,m=(n:Int):=⟨m.toNat,by omega⟩
  refine⟨_,rfl,t,ups,lab,rfl,tr.same s1,λq2 H2 s2 hq2=>?_⟩
  rw[Bd]at hq2
  refine⟨q2,_,rfl,AZ.of hq2,by omega,λss2 r2 hp2 hs2 hr2=>?_⟩
  have e2:ss2=ss:=Ba hs2 hs (hp2.trans hp.symm)
  subst e2
  have s3:AJ H2 (upd H2 r2 (.lst (ss2.map V.str))):=(AJ.refl H2).new hr2
  have h3:upd H2 r2 (.lst (ss2.map V.str)) r2=some (.lst (ss2.map V.str)):=AD
  generalize upd H2 r2 (.lst (ss2.map V.str))=H3 at s3 h3
  have hr3:=s3 _ _ (s2 _ _ hr1)
  have il:(ED ss2 ss2.length).idxOf (mm:Int) < ss2.length:=by have:=List.idxOf_lt_length_of_mem hm;omega
  refine⟨_,rfl,.inl ⟨rfl,_,AZ.of hr3⟩,_,rfl,r1,ED ss2 ss2.length,_,rfl,rfl,hr3,hm,by omega,?_⟩
  have ag:=Sz hp hs (show 1<=mm by omega) hm mx
  have zb:(ss2.getD ((ED ss2 ss2.length).idxOf (mm:Int)) Str.empty).length<=60:=by
   rw[List.getD_eq_getElem?_getD,List.getElem?_eq_getElem il]
   exact wle _ (hp.mem_iff.mp (List.getElem_mem il))
  refine⟨r2,_,_,_,rfl,rfl,AZ.of h3,E7 il,_,rfl,_,rfl,_,rfl,Nat.le_of_lt (AM (by omega)),?_⟩
  have ec:BU (ss2.getD ((ED ss2 ss2.length).idxOf (mm:Int)) Str.empty) none (some (mm:Int))=mk ((ss2.getD ((ED ss2 ss2.length).idxOf (mm:Int)) Str.empty).cps.toList.take mm):=BW (Em _ mm)
  rw[ec]
  generalize mk ((ss2.getD ((ED ss2 ss2.length).idxOf (mm:Int)) Str.empty).cps.toList.take mm)=z at ag
  have s03:=(s1.trans s2).trans s3
  refine⟨_,rfl,_,rfl,_,rfl,t,ups,lab,z,rfl,tr.same s03,λl H4 s4 hl hl4=>?_⟩
  refine⟨(by show 2<=sizeLine;decide),λr hr=>?_⟩
  exact q r l _ ((s03.trans s4).new hr) (s03.free hl) (.inr ⟨z,ag,AD,by rw[AL (AK hl4 hr)];exact hl4⟩)
end
end S24
namespace S24
open PySem L2 W7
section
variable {P:Program}{w:World}{K:PySem.W.Frag}{mg:Str->Option Value}{base:Heap}{k:Nat}
abbrev UG:Pos:=⟨58,31,58,76⟩
abbrev qM:Str:=(("most_read":Str)++".<locals>.")++"<lambda>"
def KJ (L:Int)(ws:List Str):List Str:=(ws.filter λw=>decide (L<=(w.length:Int))).map λw=>BU w none (some L)
theorem O1 (ups:List Int)(lab:Str)(l:Nat):KJ (l:Int) (AO ups lab)=Fl ups lab l:=by
 unfold KJ Fl
 have e:((AO ups lab).filter λw=>decide ((l:Int)<=(w.length:Int)))=(AO ups lab).filter λw=>decide (l<=w.length):=by
  refine List.filter_congr λw _=>?_
  simp
 rw[e]
 refine List.map_congr_left λw _=>BW (Em w l)
theorem IX (L:Int)(ws:List Str)(z:Str):KJ L (ws++[z])=KJ L ws++(if L<=(z.length:Int)then[BU z none (some L)]else[]):=by
 unfold KJ
 rw[List.filter_append,List.map_append,List.filter_cons,List.filter_nil]
 congr 1
 by_cases c:L<=(z.length:Int)
 ·rw[if_pos c,if_pos (decide_eq_true c)];rfl
 ·rw[if_neg c,if_neg (by simpa using c)];rfl
theorem KL (L:Int)(ws:List Str):(KJ L ws).length<=ws.length:=by
 unfold KJ;rw[List.length_map];exact List.length_filter_le _ _
def UH (H:Hp)(v:V)(ups:List Int)(lab:Str)(L:Int):Prop:=(Qe ups lab L/\v=.non)\/∃(z:Str) (r:Addr),Ow ups lab L z/\v=.ref r/\H r=some (.tup [.str z,.int (cnt ups lab z:Nat)])
def Qg (ls:List Lm):Sp:=λvs H Q _=>∃(t:Addr) (ups:List Int) (lab:Str) (L:Int),vs=[.ref t,.int L]/\Al H t ups lab/\Ct ls H/\1<=L/\∀(v:V) (H':Hp),Kt ls H H'->UH H' v ups lab L->Q v H'
theorem Rn {T:Addr}{ls:List Lm}(D:Df K mg "most_read" s_most_read)(B:Blt7 mg)(kb:K.In base)(TA:TabAt base mg "most_read" T)(LK:OF ls)(LI:(T,UG,qM)∈ls)(G_words_of:A9 P w K mg base "words_of" k ["tree"] CG):A9 P w K mg base "most_read" (k+1) ["tree","length"] (Qg ls):=by
 refine D.T8 kb TA DG (λ_ _ _ _ _ _ us hl=>match us,hl with|[_,_],_=>rfl) (λvs H Q E h=>by obtain⟨t,ups,lab,L,rfl,_⟩:=h;rfl) (λf c A outer s H vs Q E CH hr h=>?_)
 have BA:=TA.blt
 obtain⟨t,ups,lab,L,rfl,tr,LL,L1,q⟩:=h
 refine⟨_,(AE (AS (i:=2) DG.nd rfl (by first|exact Or.inl rfl|exact Or.inr rfl) (AI Ay rfl B.sorted B4 (AA (Aw rfl (Ao (AH G_words_of hr rfl (AA (pv 0) AB))) (NL:=["word"]) (ix:=[1]) (En (AG s_most_read) Dk) (λcl C s₃ H₃ fp pins=>⟨(AQ (i:=0) (show List.Nodup (["word","length"]:List Str)from by decide+kernel) rfl (by first|exact Or.inl rfl|exact Or.inr rfl)),(Bx (Ac Nz (AI AR rfl B.len Aa (AA (pv 0) AB)) (pv 1) (Ad _))),(Ap Bk (pv 0) BI (A4 (pv 1)))⟩)) AB)))
 (AE (Bs (Ac (Dx hr.FJ) (pv 2) (Av AB) (Ad _))
 (AN (AW Qo))
 Au)
 (AE (AS (i:=3) DG.nd rfl (by first|exact Or.inl rfl|exact Or.inr rfl) (NN K (x:="beginning") (ix:=[2]) hr rfl rfl B.max (pv 2) rfl CH BA LK LI (En (AG s_most_read) Dk) (λqual cl fa cd A1 s₃ H₃ pins=>(Fd K (pv 1) (pv 0)))))
 (AN (AW (DR (AA (pv 3) (AA (Fd K (pv 2) (pv 3)) AB)))))))),?_⟩
 obtain⟨_,_,_,ok⟩:=id tr
 have m60:=ok.most
 have wl:=An ups lab
 have wle:=A7 ok
 refine⟨_,rfl,t,ups,lab,rfl,tr,λq1 H1 s1 hq1=>?_⟩
 rw[Bd]at hq1
 refine⟨q1,rfl,⟨_,AZ.of hq1⟩,λacc hacc=>?_⟩
 refine Aq (xs:=(AO ups lab).map V.str) (by rw[List.length_map];omega) (λi ys H2=>H2 acc=some (.lst ys)/\ys=(KJ L ((AO ups lab).take i)).map V.str/\AJ H1 H2)
  (λi ys H2 h=>AZ.of (h.2.2 _ _ hq1)) (λi ys H2 h=>⟨h.1,by rw[h.2.1,List.length_map];exact Nat.le_trans (KL _ _) (by rw[List.length_take];omega)⟩) ⟨AD,rfl,(AJ.refl H1).new hacc⟩ ?_ ?_
 rotate_left
 ·rintro i x ys H2 hx ⟨g1,rfl,g3⟩
  obtain⟨z,hz,rfl⟩:=A3 hx
  have zb:=wle z (List.mem_of_getElem? hz)
  have zs:z.length<=sizeLine:=Nat.le_of_lt (AM (by omega))
  have tk:(AO ups lab).take (i+1)=(AO ups lab).take i++[z]:=by rw[List.take_succ,hz];rfl
  refine⟨rfl,_,rfl,z,rfl,zs,_,rfl,_,_,rfl,rfl,_,rfl,Cf (λcnd=>?_) (λcnd=>?_)⟩
  ·have c':L<=(z.length:Int):=of_decide_eq_true cnd
   refine⟨_,rfl,_,rfl,_,rfl,_,rfl,zs,g1,AD,?_,g3.write hacc⟩
   rw[tk,IX,if_pos c',List.map_append];rfl
  ·have c':¬L<=(z.length:Int):=of_decide_eq_false (Bool.eq_false_iff.mpr cnd)
   exact⟨g1,by rw[tk,IX,if_neg c',List.append_nil],g3⟩
 rintro ys H2 ⟨g1,rfl,g3⟩
 rw[List.length_map,wl,<-wl,List.take_length]at g1
 have bl:=KL L (AO ups lab)
 refine⟨acc,_,rfl,AZ.of g1,by omega,λbs r2 hp hs hr2=>?_⟩
 have s3:AJ H2 (upd H2 r2 (.lst (bs.map V.str))):=(AJ.refl H2).new hr2
 have h3:upd H2 r2 (.lst (bs.map V.str)) r2=some (.lst (bs.map V.str)):=AD
 generalize upd H2 r2 (.lst (bs.map V.str))=H3 at s3 h3
 have s03:=(s1.trans g3).trans s3
 refine⟨_,rfl,Nat.zero_le _,λe he=>?_⟩
 have s4:AJ H3 (upd H3 e (.lst [])):=(AJ.refl H3).new he
 have h4:upd H3 e (.lst []) e=some (.lst []):=AD
 generalize upd H3 e (.lst [])=H4 at s4 h4
 have s04:=s03.trans s4
 have hr4:=s4 _ _ h3
 refine⟨r2,e,_,_,rfl,rfl,AZ.of hr4,AZ.of h4,Bp bs,rfl,_,rfl,Cf (λc=>?_) (λc=>?_)⟩
 ·have b0:bs=[]:=by
   have e1:EC (bs.map V.str) (([]:List Str).map V.str)=true:=c
   rw[FQ]at e1
   exact of_decide_eq_true e1
  refine q .non H4 (Kt.of s04 LL) (.inl ⟨λz pz lz=>?_,rfl⟩)
  obtain⟨_,w,hw,p⟩:=Co.mp pz
  have pl:=p.length_le
  rw[AY,AY]at pl
  have:BU w none (some L)∈bs:=hp.mem_iff.mpr (List.mem_map.mpr ⟨w,List.mem_filter.mpr ⟨hw,decide_eq_true (by omega)⟩,rfl⟩)
  rw[b0]at this;cases this
 ·have bne:bs≠[]:=λe1=>c (by rw[e1];rfl)
  have wit:∃w∈AO ups lab,L<=(w.length:Int):=by
   obtain⟨x,hx⟩:=List.exists_mem_of_ne_nil bs bne
   obtain⟨w,hw,_⟩:=List.mem_map.mp (hp.mem_iff.mp hx)
   exact⟨w,(List.mem_filter.mp hw).1,of_decide_eq_true (List.mem_filter.mp hw).2⟩
  obtain⟨l,rfl⟩:∃l:Nat,L=(l:Int):=⟨L.toNat,by omega⟩
  rw[O1]at hp
  refine⟨_,rfl,r2,bs.map V.str,(λi=>((bs.count (bs.getD i Str.empty):Nat):Int)),rfl,AZ.of hr4,by simpa using bne,LL.same s04,λi x H5 hx kt=>?_,λb x H5 hx best kt=>?_⟩
  ·obtain⟨z,hz,rfl⟩:=A3 hx
   have h5:=kt.lst hr4
   have ez:bs.getD i Str.empty=z:=by rw[List.getD_eq_getElem?_getD,hz];rfl
   refine⟨_,rfl,.inl ⟨rfl,_,AZ.of h5⟩,_,rfl,r2,bs,z,rfl,rfl,h5,?_,AJ.refl H5⟩
   show V.int _=V.int ((bs.count (bs.getD i Str.empty):Nat):Int)
   rw[ez]
  ·obtain⟨z,hz,rfl⟩:=A3 hx
   obtain⟨hb,ez⟩:=List.getElem?_eq_some_iff.mp hz
   rw[List.length_map]at best
   obtain⟨mz,cz⟩:=P9 (by omega) hp hs hb best
   rw[ez]at mz cz
   have h5:=kt.lst hr4
   refine⟨_,rfl,_,rfl,.inl ⟨rfl,_,AZ.of h5⟩,_,rfl,r2,bs,z,rfl,rfl,h5,(by show 2<=sizeLine;decide),λr hr=>?_⟩
   rw[cz]
   exact q (.ref r) _ ((AJ.kt s04 kt).same ((AJ.refl H5).new hr)) (.inr ⟨z,r,mz,rfl,AD⟩)
end
end S24
namespace S24
open PySem L2 W7
section
variable {P:Program}{w:World}{K:PySem.W.Frag}{mg:Str->Option Value}{base:Heap}{k:Nat}
def DP:List Nat:=(Str.ofString "abcdefghijklmnopqrstuvwxyz").cps.toList
theorem E9:DP=List.range' 97 26:=by decide+kernel
theorem FA (c:Nat):c∈DP↔Lw c:=by
 rw[E9,List.mem_range'_1]
theorem Na:DP.Pairwise (·<·):=by rw[E9];exact List.pairwise_lt_range'
def C6 (N:Nat->Int):List (Str×Int):=(DP.filter λc=>decide (N c > 0)).map λc=>(mk [c],N c)
theorem KN {L ss:List Str}{N:Nat->Int}(hL:∀l∈L,∃c,Lw c/\l=mk [c])(hN:∀c,Lw c->((L.count (mk [c]):Nat):Int)=N c)(nd:ss.Nodup)(mem:∀x,x∈ss↔x∈L)(so:PyProof.Rows.sortedS ss=true):
 (ss.map λl=>(l,((L.count l:Nat):Int)))=C6 N:=by
 have ra:(DP.filter λc=>decide (N c > 0)).Pairwise (·<·):=Na.filter _
 have e:ss=(DP.filter λc=>decide (N c > 0)).map λc=>mk [c]:=by
  refine Ba so (DL _ ?_) ((List.perm_ext_iff_of_nodup nd ?_).mpr λx=>?_)
  ·rw[List.pairwise_map]
   refine ra.imp λ{a b} h=>?_
   rw[BQ,BQ,List.cons_lt_cons_iff]
   rintro(q|⟨_,q⟩)
   ·omega
   ·exact List.not_lt_nil _ q
  ·unfold List.Nodup
   rw[List.pairwise_map]
   exact ra.imp λ{a b} h q=>by
    have:=mk_inj q
    injection this with t
    omega
  ·rw[mem,List.mem_map]
   constructor
   ·intro hx
    obtain⟨c,lc,rfl⟩:=hL x hx
    refine⟨c,List.mem_filter.mpr ⟨(FA c).mpr lc,?_⟩,rfl⟩
    have:=List.count_pos_iff.mpr hx
    rw[decide_eq_true_eq,<-hN c lc]
    omega
   ·rintro⟨c,hc,rfl⟩
    obtain⟨h1,h2⟩:=List.mem_filter.mp hc
    rw[decide_eq_true_eq,<-hN c ((FA c).mp h1)]at h2
    exact List.count_pos_iff.mp (by omega)
 unfold C6
 rw[e,List.map_map]
 refine List.map_congr_left λc hc=>?_
 show(mk [c],((L.count (mk [c]):Nat):Int))=_
 rw[hN c ((FA c).mp (List.mem_filter.mp hc).1)]
def fF (z x:Str):Bool:=Txt.startswith (BU x (some 1) none) z
def gF (x:Str):Str:=mk [x.cps.toList.headD 0]
def fB (z x:Str):Bool:=Txt.startswith x z&&decide ((x.length:Int) > (z.length:Int))
def gB (z x:Str):Str:=mk [x.cps.toList.getD z.length 0]
theorem Ro (z x:Str):fF z x=true↔z.cps.toList<+:x.cps.toList.drop 1:=by
 unfold fF
 rw[W16.Bm,show(1:Int)=((1:Nat):Int)from rfl,Mx]
theorem S3 {z:Str}{c:Nat}:∀ss:List Str,(∀x∈ss,x.cps.toList≠[])->((ss.filter (fF z)).map gF).count (mk [c])=(ss.filter λx=>(c::z.cps.toList).isPrefixOf x.cps.toList).length
 |[],_=>rfl
 |x::ss,h=>by
  have ih:=S3 (z:=z) (c:=c) ss λy hy=>h y (List.mem_cons_of_mem _ hy)
  have iff:=Ro z x
  rw[List.filter_cons,List.filter_cons]
  cases e:x.cps.toList with
  |nil=>exact absurd e (h x List.mem_cons_self)
  |cons a r=>
   rw[e,List.drop_succ_cons,List.drop_zero]at iff
   by_cases c1:fF z x=true
   ·rw[if_pos c1,List.map_cons,List.count_cons,ih]
    have ga:gF x=mk [a]:=by unfold gF;rw[e];rfl
    by_cases c2:a=c
    ·rw[if_pos (by rw[ga,c2];simp),if_pos (by rw[List.isPrefixOf_iff_prefix,List.cons_prefix_cons];exact⟨c2.symm,iff.mp c1⟩)];rfl
    ·rw[if_neg (by rw[ga];simp only[beq_iff_eq];intro q;exact c2 (by have:=mk_inj q;injection this)),if_neg (by rw[List.isPrefixOf_iff_prefix,List.cons_prefix_cons];exact λq=>c2 q.1.symm)];rfl
   ·rw[if_neg c1,ih,if_neg (by rw[List.isPrefixOf_iff_prefix,List.cons_prefix_cons];exact λq=>c1 (iff.mpr q.2))]
theorem FC {z x:List Nat}{c:Nat}:z++[c]<+:x↔z<+:x/\x[z.length]?=some c:=by
 constructor
 ·rintro⟨r,rfl⟩
  refine⟨⟨c::r,by simp⟩,?_⟩
  rw[List.append_assoc,List.getElem?_append_right (Nat.le_refl _),Nat.sub_self];rfl
 ·rintro⟨⟨r,rfl⟩,h⟩
  rw[List.getElem?_append_right (Nat.le_refl _),Nat.sub_self]at h
  cases r with
  |nil=>cases h
  |cons a r=>
   cases h
   exact⟨r,by simp⟩
theorem S4 {z:Str}{c:Nat}:∀ss:List Str,((ss.filter (fB z)).map (gB z)).count (mk [c])=(ss.filter λx=>(z.cps.toList++[c]).isPrefixOf x.cps.toList).length
 |[]=>rfl
 |x::ss=>by
  have ih:=S4 (z:=z) (c:=c) ss
  have lx:=AY x
  have lz:=AY z
  have iff:fB z x=true↔z.cps.toList<+:x.cps.toList/\z.length < x.length:=by
   unfold fB
   rw[Bool.and_eq_true,W16.Bm,decide_eq_true_eq]
   constructor
   ·rintro⟨a,b⟩;exact⟨a,by omega⟩
   ·rintro⟨a,b⟩;exact⟨a,by omega⟩
  rw[List.filter_cons,List.filter_cons]
  by_cases c1:fB z x=true
  ·rw[if_pos c1,List.map_cons,List.count_cons,ih]
   obtain⟨p1,p2⟩:=iff.mp c1
   have gx:x.cps.toList[z.length]?=some (x.cps.toList.getD z.length 0):=by rw[List.getD_eq_getElem?_getD,List.getElem?_eq_getElem (by omega)];rfl
   by_cases c2:x.cps.toList.getD z.length 0=c
   ·rw[if_pos (by unfold gB;rw[c2];simp),if_pos (by rw[List.isPrefixOf_iff_prefix,FC,lz];exact⟨p1,by rw[gx,c2]⟩)];rfl
   ·rw[if_neg (by unfold gB;simp only[beq_iff_eq];intro q;exact c2 (by have:=mk_inj q;injection this)),if_neg (by rw[List.isPrefixOf_iff_prefix,FC,lz,gx];exact λq=>c2 (Option.some.inj q.2))];rfl
  ·rw[if_neg c1,ih,if_neg (by
    rw[List.isPrefixOf_iff_prefix,FC,lz]
    rintro⟨q1,q2⟩
    exact c1 (iff.mpr ⟨q1,by have:=(List.getElem?_eq_some_iff.mp q2).1;omega⟩))]
def DM (ups:List Int)(lab:Str)(y:List Nat):Int:=((Cz ups lab ups.length (mk y)).length:Int)
theorem ML (ups:List Int)(lab:Str)(y:List Nat):(((AO ups lab).filter λx=>y.isPrefixOf x.cps.toList).length:Int)=DM ups lab y:=by
 unfold DM Cz AO
 rw[List.length_map,List.filter_map,List.length_map];rfl
theorem MM {ups:List Int}{lab:Str}(ok:A6 ups lab.cps.toList)(low:∀c∈lab.cps.toList,Lw c):∀n j,j < n->j < ups.length->∀c∈W ups lab.cps.toList j,Lw c
 |0,j,h,_=>absurd h (Nat.not_lt_zero _)
 |n+1,j,h,hj=>by
  intro c hc
  rw[JG ok hj]at hc
  rcases List.mem_cons.mp hc with rfl|hc
  ·have jl:j < lab.cps.toList.length:=by rw[<-ok.len];exact hj
   rw[List.getD_eq_getElem?_getD,List.getElem?_eq_getElem jl]
   exact low _ (List.getElem_mem jl)
  ·split at hc
   ·cases hc
   ·rename_i c0
    have lt:=ok.lt hj c0
    exact MM ok low n _ (by omega) (by omega) c hc
theorem S5 {ups:List Int}{lab:Str}(ok:A6 ups lab.cps.toList):∀x∈AO ups lab,x.cps.toList≠[]:=λx hx=>by
 obtain⟨j,hj,rfl⟩:=List.mem_map.mp hx
 rw[BQ,JG ok (List.mem_range.mp hj)]
 simp
def QE (ss:List Str)(word:Str):List Str:=ss.filter λz=>Txt.startswith z word
def KO:Sp:=λvs H Q _=>∃(r:Addr) (ss:List Str) (word:Str),vs=[.ref r,.str word]/\H r=some (.lst (ss.map V.str))/\ss.length<=60/\∀H':Hp,AJ H H'->Q (.int ((QE ss word).length:Int)) H'
theorem Nb (D:Df K mg "count_read" s_count_read)(B:Blt mg):A9 P w K mg base "count_read" (k+1) ["words","word"] KO:=by
 refine D.has Hm (λ_ _ _ _ _ _ us hl=>match us,hl with|[_,_],_=>rfl) (λvs H Q E h=>by obtain⟨r,ss,word,rfl,_⟩:=h;rfl) (λf cdv A outer s H vs Q E hr h=>?_)
 obtain⟨r,ss,word,rfl,hr0,s60,q⟩:=h
 refine⟨_,(AN (AW (AI Ab rfl B.len Aa (AA (Aw rfl (Ao (pv 0)) (NL:=["other"]) (ix:=[1]) (En (AG s_count_read) E2) (λcl C s₃ H₃ fp pins=>⟨(AQ (i:=0) (show List.Nodup (["other","word"]:List Str)from by decide+kernel) rfl (by first|exact Or.inl rfl|exact Or.inr rfl)),(CS K (pv 0) (pv 1)),(pv 0)⟩)) AB)))),?_⟩
 refine⟨_,rfl,r,rfl,⟨_,AZ.of hr0⟩,λacc hacc=>?_⟩
 refine Aq (xs:=ss.map V.str) (by rw[List.length_map];omega) (λi ys H2=>H2 acc=some (.lst ys)/\ys=((ss.take i).filter λz=>Txt.startswith z word).map V.str/\AJ H H2)
  (λi ys H2 h=>AZ.of (h.2.2 _ _ hr0)) (λi ys H2 h=>⟨h.1,by rw[h.2.1];exact Dr⟩) ⟨AD,by simp,(AJ.refl H).new hacc⟩ ?_ ?_
 ·rintro ys H2 ⟨g1,rfl,g3⟩
  refine⟨acc,_,rfl,.inl (AZ.of g1),?_⟩
  have e:((List.map V.str (List.filter (λz=>Txt.startswith z word) (List.take (List.map V.str ss).length ss))).length:Int)=((QE ss word).length:Int):=by
   rw[List.length_map,List.length_map,List.take_length];rfl
  rw[e];exact q H2 g3
 ·rintro i x ys H2 hx ⟨g1,rfl,g3⟩
  obtain⟨z,hz,rfl⟩:=A3 hx
  refine⟨rfl,_,rfl,rfl,_,rfl,_,_,rfl,rfl,_,rfl,Cf (λcnd=>?_) (λcnd=>?_)⟩
  ·exact⟨_,rfl,g1,AD,by rw[BM hz true cnd];rfl,g3.write hacc⟩
  ·exact⟨g1,by rw[BM hz false (Bool.eq_false_iff.mpr cnd)];simp,g3⟩
theorem O2 {ups:List Int}{lab z:Str}(h:∃j,j < ups.length/\z.cps.toList<+:W ups lab.cps.toList j):(QE (AO ups lab) z).length≠0:=λe=>by
 obtain⟨j,hj,p⟩:=h
 have:mk (W ups lab.cps.toList j)∈QE (AO ups lab) z:=List.mem_filter.mpr ⟨List.mem_map.mpr ⟨j,List.mem_range.mpr hj,rfl⟩,(W16.Bm _ _).mpr (by rw[BQ];exact p)⟩
 rw[List.eq_nil_of_length_eq_zero e]at this
 cases this
def Red (ups:List Int)(lab z:Str):Prop:=∃j,j < ups.length/\z.cps.toList<+:W ups lab.cps.toList j
def LP:Sp:=λvs H Q _=>∃(t:Addr) (ups:List Int) (lab z:Str),vs=[.ref t,.str z]/\Al H t ups lab/\Red ups lab z/\∀(r:Addr) (H':Hp),AJ H H'->H' r=some (.lst ((AO ups lab).map V.str))->Q (.ref r) H'
theorem QF (D:Df K mg "words_if_read" s_words_if_read)(B:Blt7 mg)(G_words_of:A9 P w K mg base "words_of" k ["tree"] CG)(G_count_read:A9 P w K mg base "count_read" k ["words","word"] KO):A9 P w K mg base "words_if_read" (k+1) ["tree","word"] LP:=by
 refine D.has C4 (λ_ _ _ _ _ _ us hl=>match us,hl with|[_,_],_=>rfl) (λvs H Q E h=>by obtain⟨t,ups,lab,z,rfl,_⟩:=h;rfl) (λf cdv A outer s H vs Q E hr h=>?_)
 obtain⟨t,ups,lab,z,rfl,tr,rd,q⟩:=h
 refine⟨_,(AE (AS (i:=2) C4.nd rfl (by first|exact Or.inl rfl|exact Or.inr rfl) (AH G_words_of hr rfl (AA (pv 0) AB)))
 (AE (Bs (PW.pt (Ee (EL (C7 (AI DU rfl B.isinstance Cs (AA (pv 1) (AA (IZ (v:=.ty "str") rfl B.str_ RA rfl) AB))))) (EK (Ac DN (AH G_count_read hr rfl (AA (pv 2) (AA (pv 1) AB))) AF (Ad _)))))
 (AN Fc)
 Au)
 (AN (AW (pv 2))))),?_⟩
 obtain⟨_,_,_,ok⟩:=id tr
 have m60:=ok.most
 refine⟨_,rfl,t,ups,lab,rfl,tr,λr H1 s1 hr1=>?_⟩
 rw[Bd]at hr1
 refine⟨_,rfl,_,.type "str","str",true,rfl,.str _,Ji _ _,_,rfl,GW ?_⟩
 refine⟨_,rfl,_,rfl,r,_,z,rfl,hr1,by rw[An];exact m60,λH2 s2=>⟨rfl,_,rfl,?_⟩⟩
 rw[decide_eq_false (by intro e;injection e with e;exact O2 rd (by omega))]
 refine GW ?_
 exact⟨_,rfl,q r H2 (s1.trans s2) (s2 _ _ hr1)⟩
def LQ:Sp:=λvs H Q _=>∃(r:Addr) (L:List Str),vs=[.ref r]/\H r=some (.lst (L.map V.str))/\L.length < 64/\
 ∀(ss:List Str) (r':Addr) (ys:List V) (H':Hp),ss.Nodup->(∀x,x∈ss↔x∈L)->PyProof.Rows.sortedS ss=true->AJ H H'->H r'=none->H' r'=some (.lst ys)->Fm H' ys ((ss.map λl=>(l,((L.count l:Nat):Int))).map R8)->Q (.ref r') H'
theorem QG (D:Df K mg "tallied" s_tallied)(B:Blt7 mg):A9 P w K mg base "tallied" (k+1) ["letters"] LQ:=by
 refine D.has LB (λ_ _ _ _ _ _ us hl=>match us,hl with|[_],_=>rfl) (λvs H Q E h=>by obtain⟨r,L,rfl,_⟩:=h;rfl) (λf cdv A outer s H vs Q E hr h=>?_)
 obtain⟨r,L,rfl,hr0,l64,q⟩:=h
 refine⟨_,(AN (AW (Aw rfl (Ao (Ky K rfl rfl B.sorted rfl B.set_ (AA (pv 0) AB))) (NL:=["letter"]) (ix:=[0]) (En (AG s_tallied) IS) (λcl C s₃ H₃ fp pins=>⟨(AQ (i:=0) (show List.Nodup (["letter","letters"]:List Str)from by decide+kernel) rfl (by first|exact Or.inl rfl|exact Or.inr rfl)),Ar,(DR (AA (pv 0) (AA (Fd K (pv 1) (pv 0)) AB)))⟩)))),?_⟩
 refine⟨_,rfl,r,L,rfl,AZ.of hr0,l64,λss r2 nd mem so sl hr2=>?_⟩
 have s2:AJ H (upd H r2 (.lst (ss.map V.str))):=(AJ.refl H).new hr2
 have h22:upd H r2 (.lst (ss.map V.str)) r2=some (.lst (ss.map V.str)):=AD
 generalize upd H r2 (.lst (ss.map V.str))=H2 at s2 h22
 refine⟨r2,rfl,⟨_,AZ.of h22⟩,λacc hacc=>?_⟩
 refine Aq (xs:=ss.map V.str) (by rw[List.length_map];omega) (λi ys HX=>HX acc=some (.lst ys)/\AJ H2 HX/\Fm HX ys (((ss.take i).map λl=>(l,((L.count l:Nat):Int))).map R8))
  (λi ys HX h=>AZ.of (h.2.1 _ _ h22)) (λi ys HX h=>⟨h.1,by rw[h.2.2.1,List.length_map,List.length_map,List.length_take];omega⟩) ⟨AD,(AJ.refl H2).new hacc,Fm.nil _⟩ ?_ ?_
 ·rintro ys HX ⟨g1,g2,g3⟩
  rw[List.length_map,List.take_length]at g3
  exact q ss acc ys HX nd mem so (s2.trans g2) (s2.free hacc) g1 g3
 ·rintro i x ys HX hx ⟨g1,g2,g3⟩
  obtain⟨z,ez,rfl⟩:=A3 hx
  have hrX:=g2 _ _ (s2 _ _ hr0)
  refine⟨rfl,_,rfl,_,rfl,.inl ⟨rfl,_,AZ.of hrX⟩,_,rfl,r,L,z,rfl,rfl,hrX,(by show 2<=sizeLine;decide),λtp htp=>?_⟩
  have s6:AJ HX (upd HX tp (.tup [.str z,.int ((L.count z:Nat):Int)])):=(AJ.refl HX).new htp
  have h6:upd HX tp (.tup [.str z,.int ((L.count z:Nat):Int)]) tp=some (.tup [.str z,.int ((L.count z:Nat):Int)]):=AD
  generalize upd HX tp (.tup [.str z,.int ((L.count z:Nat):Int)])=H6 at s6 h6
  have g16:=s6 _ _ g1
  refine⟨g16,AD,(g2.trans s6).write hacc,?_⟩
  have tks:ss.take (i+1)=ss.take i++[z]:=by rw[List.take_succ,ez];rfl
  rw[tks,List.map_append,List.map_append]
  exact(g3.wr g1 s6).snoc (p:=R8 (z,((L.count z:Nat):Int))) (by rw[AL (GO h6 g16 (by intro e;cases e))];exact h6)
end
end S24
namespace S24
open PySem L2 W7
section
variable {P:Program}{w:World}{K:PySem.W.Frag}{mg:Str->Option Value}{base:Heap}{k:Nat}
theorem MN {ss:List Str}{i:Nat}{z:Str}{f:Str->Bool}{g:Str->Str}(h:ss[i]?=some z)(b:Bool)(hb:f z=b):(((ss.take (i+1)).filter f).map g)=((ss.take i).filter f).map g++(if b=true then[g z]else[]):=by
 rw[PySem.take_succ_filter f ss i z h,hb,List.map_append]
 cases b<;>rfl
theorem Rp {ss:List Str}{i:Nat}{f:Str->Bool}{g:Str->Str}:((((ss.take i).filter f).map g).map V.str).length<=i:=by
 rw[List.length_map,List.length_map]
 exact Nat.le_trans (List.length_filter_le _ _) (by rw[List.length_take];omega)
def yF (z:Str)(c:Nat):List Nat:=c::z.cps.toList
def yB (z:Str)(c:Nat):List Nat:=z.cps.toList++[c]
def MO (y:Str->Nat->List Nat):Sp:=λvs H Q _=>∃(t:Addr) (ups:List Int) (lab z:Str),vs=[.ref t,.str z]/\Al H t ups lab/\(∀c∈lab.cps.toList,Lw c)/\Red ups lab z/\
 ∀(r:Addr) (ys:List V) (H':Hp),AJ H H'->H r=none->H' r=some (.lst ys)->Fm H' ys ((C6 λc=>DM ups lab (y z c)).map R8)->Q (.ref r) H'
theorem LR (D:Df K mg "fronts_of" s_fronts_of)(B:Blt7 mg)(G_words_if_read:A9 P w K mg base "words_if_read" k ["tree","word"] LP)(G_tallied:A9 P w K mg base "tallied" k ["letters"] LQ):A9 P w K mg base "fronts_of" (k+1) ["tree","word"] (MO yF):=by
 refine D.has E4 (λ_ _ _ _ _ _ us hl=>match us,hl with|[_,_],_=>rfl) (λvs H Q E h=>by obtain⟨t,ups,lab,z,rfl,_⟩:=h;rfl) (λf cdv A outer s H vs Q E hr h=>?_)
 obtain⟨t,ups,lab,z,rfl,tr,low,rd,q⟩:=h
 refine⟨_,(AE (AS (i:=2) E4.nd rfl (by first|exact Or.inl rfl|exact Or.inr rfl) (AH G_words_if_read hr rfl (AA (pv 0) (AA (pv 1) AB))))
 (AN (AW (AH G_tallied hr rfl (AA (Aw rfl (Ao (pv 2)) (NL:=["other"]) (ix:=[1]) (En (AG s_fronts_of) Fy) (λcl C s₃ H₃ fp pins=>⟨(AQ (i:=0) (show List.Nodup (["other","word"]:List Str)from by decide+kernel) rfl (by first|exact Or.inl rfl|exact Or.inr rfl)),(CS K (Ap Bk (pv 0) (A4 AF) BI) (pv 1)),(Ai EN (pv 0) AF (λ_ _=>rfl))⟩)) AB))))),?_⟩
 obtain⟨_,_,_,ok⟩:=id tr
 have m60:=ok.most
 have wl:=An ups lab
 have wle:=A7 ok
 have wne:=S5 ok
 refine⟨_,rfl,_,rfl,t,ups,lab,z,rfl,tr,rd,λr H1 s1 hr1=>?_⟩
 refine⟨_,rfl,r,rfl,⟨_,AZ.of hr1⟩,λacc hacc=>?_⟩
 refine Aq (xs:=(AO ups lab).map V.str) (by rw[List.length_map];omega) (λi ys HX=>HX acc=some (.lst ys)/\ys=((((AO ups lab).take i).filter (fF z)).map gF).map V.str/\AJ H1 HX)
  (λi ys HX h=>AZ.of (h.2.2 _ _ hr1)) (λi ys HX h=>⟨h.1,by rw[h.2.1];exact Rp⟩) ⟨AD,by simp,(AJ.refl H1).new hacc⟩ ?_ ?_
 ·rintro ys H2 ⟨g1,rfl,g3⟩
  rw[List.length_map,List.take_length]at g1
  have ll:(((AO ups lab).filter (fF z)).map gF).length < 64:=by
   rw[List.length_map]
   have:=List.length_filter_le (fF z) (AO ups lab)
   omega
  refine⟨acc,_,rfl,g1,ll,λss r' ys H3 nd mem so s3 hf3 hr3 tu=>?_⟩
  have s13:=s1.trans (g3.trans s3)
  refine q r' ys H3 s13 ((s1.trans g3).free hf3) hr3 ?_
  rw[KN (N:=λc=>DM ups lab (yF z c)) (λl hl=>?_) (λc lc=>?_) nd mem so]at tu
  ·exact tu
  ·obtain⟨x,hx,rfl⟩:=List.mem_map.mp hl
   have hx:=(List.mem_filter.mp hx).1
   refine⟨_,?_,rfl⟩
   have ne:=wne x hx
   obtain⟨j,hj,rfl⟩:=List.mem_map.mp hx
   have hj:=List.mem_range.mp hj
   have:=MM ok low (j+1) j (by omega) hj
   cases e:(mk (W ups lab.cps.toList j)).cps.toList with
   |nil=>exact absurd e ne
   |cons a r=>
    rw[BQ]at e
    exact this a (by rw[e];exact List.mem_cons_self)
  ·rw[S3 _ wne];exact ML ups lab _
 ·rintro i x ys H2 hx ⟨g1,rfl,g3⟩
  obtain⟨x,ex,rfl⟩:=A3 hx
  have mx:=List.mem_of_getElem? ex
  have xl:=wle x mx
  have xn:=wne x mx
  have xz:x.length<=sizeLine:=Nat.le_of_lt (AM (by omega))
  refine⟨rfl,_,rfl,_,rfl,x,rfl,xz,rfl,_,rfl,_,_,rfl,rfl,_,rfl,Cf (λcnd=>?_) (λcnd=>?_)⟩
  ·have at0:Ec x.cps.toList 0=some (x.cps.toList.headD 0):=by
    cases e:x.cps.toList with
    |nil=>exact absurd e xn
    |cons a r=>exact Bb (xs:=a::r) (j:=0) rfl
   refine⟨_,rfl,_,_,_,rfl,rfl,xz,at0,g1,AD,?_,g3.write hacc⟩
   rw[MN ex true cnd,List.map_append];rfl
  ·exact⟨g1,by rw[MN ex false (Bool.eq_false_iff.mpr cnd)];simp,g3⟩
theorem KP (D:Df K mg "behinds_of" s_behinds_of)(B:Blt7 mg)(G_words_if_read:A9 P w K mg base "words_if_read" k ["tree","word"] LP)(G_tallied:A9 P w K mg base "tallied" k ["letters"] LQ):A9 P w K mg base "behinds_of" (k+1) ["tree","word"] (MO yB):=by
 refine D.has Cy (λ_ _ _ _ _ _ us hl=>match us,hl with|[_,_],_=>rfl) (λvs H Q E h=>by obtain⟨t,ups,lab,z,rfl,_⟩:=h;rfl) (λf cdv A outer s H vs Q E hr h=>?_)
 obtain⟨t,ups,lab,z,rfl,tr,low,rd,q⟩:=h
 refine⟨_,(AE (AS (i:=2) Cy.nd rfl (by first|exact Or.inl rfl|exact Or.inr rfl) (AH G_words_if_read hr rfl (AA (pv 0) (AA (pv 1) AB))))
 (AE (CQ (i:=3) Cy.nd rfl (by first|exact Or.inl rfl|exact Or.inr rfl) rfl (Ao (pv 2)) (NL:=["other"]) (ix:=[1]) (En (AG s_behinds_of) DH) (λcl C s₃ H₃ fp pins=>⟨(AQ (i:=0) (show List.Nodup (["other","word"]:List Str)from by decide+kernel) rfl (by first|exact Or.inl rfl|exact Or.inr rfl)),(Bx (PW.pt (Nm (C7 (K1 K (pv 0) (pv 1))) (Ld (Ac Li (AI AR rfl B.len Aa (AA (pv 0) AB)) (AI AR rfl B.len Aa (AA (pv 1) AB)) (Ad _)))))),(pv 0)⟩))
 (AN (AW (AH G_tallied hr rfl (AA (Aw rfl (Ao (pv 3)) (NL:=["other"]) (ix:=[1]) (En (AG s_behinds_of) DH) (λcl C s₃ H₃ fp pins=>⟨(AQ (i:=0) (show List.Nodup (["other","word"]:List Str)from by decide+kernel) rfl (by first|exact Or.inl rfl|exact Or.inr rfl)),Ar,(Ai EN (pv 0) (AI AR rfl B.len Aa (AA (pv 1) AB)) (λ_ _=>rfl))⟩)) AB)))))),?_⟩
 obtain⟨_,_,_,ok⟩:=id tr
 have m60:=ok.most
 have wl:=An ups lab
 have wle:=A7 ok
 have zl:z.length<=60:=by
  obtain⟨j,hj,p⟩:=rd
  have l1:=p.length_le
  have l2:=IQ ok (j+1) j (by omega) hj
  rw[AY]at l1
  omega
 have zz:z.length<=sizeLine:=Nat.le_of_lt (AM (by omega))
 refine⟨_,rfl,_,rfl,t,ups,lab,z,rfl,tr,rd,λr H1 s1 hr1=>?_⟩
 refine⟨_,rfl,r,rfl,⟨_,AZ.of hr1⟩,λacc hacc=>?_⟩
 refine Aq (xs:=(AO ups lab).map V.str) (by rw[List.length_map];omega) (λi ys HX=>HX acc=some (.lst ys)/\ys=(((AO ups lab).take i).filter (fB z)).map V.str/\AJ H1 HX)
  (λi ys HX h=>AZ.of (h.2.2 _ _ hr1)) (λi ys HX h=>⟨h.1,by rw[h.2.1];exact Dr⟩) ⟨AD,by simp,(AJ.refl H1).new hacc⟩ ?_ ?_
 rotate_left
 ·rintro i x ys H2 hx ⟨g1,rfl,g3⟩
  obtain⟨x,ex,rfl⟩:=A3 hx
  have xl:=wle x (List.mem_of_getElem? ex)
  have xz:x.length<=sizeLine:=Nat.le_of_lt (AM (by omega))
  refine⟨rfl,_,rfl,rfl,_,rfl,_,_,rfl,rfl,_,rfl,?_⟩
  refine Cf (λc1=>?_) (λc1=>?_)
  ·refine⟨_,rfl,x,rfl,xz,_,rfl,z,rfl,zz,_,_,rfl,rfl,_,rfl,Cf (λc2=>?_) (λc2=>?_)⟩
   ·refine⟨_,rfl,g1,AD,?_,g3.write hacc⟩
    rw[BM ex true (by unfold fB;rw[c1,Bool.true_and];exact c2)];rfl
   ·exact⟨g1,by rw[BM ex false (by unfold fB;rw[c1,Bool.true_and];exact Bool.eq_false_iff.mpr c2)];simp,g3⟩
  ·exact GW ⟨g1,by rw[BM ex false (by unfold fB;rw[Bool.eq_false_iff.mpr c1,Bool.false_and])];simp,g3⟩
 rintro ys H2 ⟨g1,rfl,g3⟩
 rw[List.length_map,List.take_length]at g1
 have gl:(((AO ups lab).filter (fB z)).map V.str).length<=60:=by
  rw[List.length_map]
  have:=List.length_filter_le (fB z) (AO ups lab)
  omega
 refine⟨_,rfl,acc,rfl,⟨_,AZ.of g1⟩,λac2 hac2=>?_⟩
 refine Aq (xs:=((AO ups lab).filter (fB z)).map V.str) (by omega) (λi ys HX=>HX ac2=some (.lst ys)/\ys=((((AO ups lab).filter (fB z)).take i).map (gB z)).map V.str/\AJ H2 HX)
  (λi ys HX h=>AZ.of (h.2.2 _ _ g1)) (λi ys HX h=>⟨h.1,by rw[h.2.1,List.length_map,List.length_map,List.length_take];omega⟩) ⟨AD,by simp,(AJ.refl H2).new hac2⟩ ?_ ?_
 rotate_left
 ·rintro i x ys H3 hx ⟨e1,rfl,e3⟩
  obtain⟨x,ex,rfl⟩:=A3 hx
  obtain⟨mx,fx⟩:=List.mem_filter.mp (List.mem_of_getElem? ex)
  have xl:=wle x mx
  have xz:x.length<=sizeLine:=Nat.le_of_lt (AM (by omega))
  have lt:z.length < x.length:=by
   unfold fB at fx
   have:=of_decide_eq_true ((Bool.and_eq_true _ _).mp fx).2
   omega
  have at1:Ec x.cps.toList (z.length:Int)=some (x.cps.toList.getD z.length 0):=by
   have:=AY x
   exact Bb (by rw[List.getD_eq_getElem?_getD,List.getElem?_eq_getElem (by omega)];rfl)
  refine⟨rfl,_,rfl,_,rfl,z,rfl,zz,_,_,_,rfl,rfl,xz,at1,e1,AD,?_,e3.write hac2⟩
  rw[List.take_succ,ex,List.map_append,List.map_append];rfl
 rintro ys H3 ⟨e1,rfl,e3⟩
 rw[List.length_map,List.take_length]at e1
 have ll:(((AO ups lab).filter (fB z)).map (gB z)).length < 64:=by rw[List.length_map];rw[List.length_map]at gl;omega
 refine⟨ac2,_,rfl,e1,ll,λss r' ys H4 nd mem so s4 hf4 hr4 tu=>?_⟩
 have s13:=s1.trans (g3.trans e3)
 refine q r' ys H4 (s13.trans s4) (s13.free hf4) hr4 ?_
 rw[KN (N:=λc=>DM ups lab (yB z c)) (λl hl=>?_) (λc lc=>?_) nd mem so]at tu
 ·exact tu
 ·obtain⟨x,hx,rfl⟩:=List.mem_map.mp hl
  obtain⟨hx,fx⟩:=List.mem_filter.mp hx
  refine⟨_,?_,rfl⟩
  have lt:z.length < x.length:=by
   unfold fB at fx
   have:=of_decide_eq_true ((Bool.and_eq_true _ _).mp fx).2
   omega
  have cl:=AY x
  obtain⟨j,hj,rfl⟩:=List.mem_map.mp hx
  have hj:=List.mem_range.mp hj
  have:=MM ok low (j+1) j (by omega) hj
  rw[List.getD_eq_getElem?_getD,List.getElem?_eq_getElem (by omega)]
  exact this _ (List.getElem_mem _)
 ·rw[S4];exact ML ups lab _
end
end S24
namespace S24
open PySem L2 W7
section
variable {P:Program}{w:World}{K:PySem.W.Frag}{mg:Str->Option Value}{base:Heap}{k:Nat}
theorem MP (z:Str)(lo hi:Option Int):(BU z lo hi).length<=z.length:=by
 rw[<-AY,<-AY]
 unfold BU
 show(List.toArray _).toList.length<=_
 rw[List.toList_toArray,List.length_take,List.length_drop]
 omega
theorem EB (x y:Str):(x++y).length=x.length+y.length:=by
 have:=congrArg List.length (app_list x y)
 rw[List.length_append]at this
 simpa[Str.length]using this
def MQ:Sp:=λvs H Q _=>∃(p t:Addr) (ups:List Int) (lab:Str) (c:Int),vs=[.ref p,.ref t]/\CT H p c/\0<=c/\c < 900000/\Al H t ups lab/\∀(z:Str) (H':Hp),z.length<=200->Kd p (c+5) H H'->Q (.str z) H'
theorem O3 (D:Df K mg "_law_seek" s_law_seek)(B:Blt7 mg)(G_law_take:A9 P w K mg base "_law_take" k ["pool","many"] GK)(G_law_word:A9 P w K mg base "_law_word" k ["tree","place"] Dp):A9 P w K mg base "_law_seek" (k+1) ["pool","tree"] MQ:=by
 refine D.has BY (λ_ _ _ _ _ _ us hl=>match us,hl with|[_,_],_=>rfl) (λvs H Q E h=>by obtain⟨p,t,ups,lab,c,rfl,_⟩:=h;rfl) (λf cdv A outer s H vs Q E hr h=>?_)
 obtain⟨p,t,ups,lab,c,rfl,dk,c0,c9,tr,q⟩:=h
 refine⟨_,(AE (AS (i:=2) BY.nd rfl (by first|exact Or.inl rfl|exact Or.inr rfl) (AH G_law_take hr rfl (AA (pv 0) (AA AF AB))))
 (AE (AS (i:=3) BY.nd rfl (by first|exact Or.inl rfl|exact Or.inr rfl) (AH G_law_word hr rfl (AA (pv 1) (AA (AH G_law_take hr rfl (AA (pv 0) (AA (AI AR rfl B.len Aa (AA (Ai CL (pv 1) AF (λ_ _=>rfl)) AB)) AB))) AB))))
 (AE (AS (i:=4) BY.nd rfl (by first|exact Or.inl rfl|exact Or.inr rfl) (AH G_law_take hr rfl (AA (pv 0) (AA (AI AR rfl B.len Aa (AA (pv 3) AB)) AB))))
 (AE (AS (i:=5) BY.nd rfl (by first|exact Or.inl rfl|exact Or.inr rfl) (AU BE (pv 4) (AH G_law_take hr rfl (AA (pv 0) (AA (AU BE (AU Cq (AI AR rfl B.len Aa (AA (pv 3) AB)) (pv 4)) AF) AB)))))
 (AE (AS (i:=6) BY.nd rfl (by first|exact Or.inl rfl|exact Or.inr rfl) (Ai EN FE (AH G_law_take hr rfl (AA (pv 0) (AA AF AB))) (λ_ _=>rfl)))
 (AE (AS (i:=7) BY.nd rfl (by first|exact Or.inl rfl|exact Or.inr rfl) (Av (AA (Ap Bk (pv 3) BI (A4 (pv 5))) (AA (pv 3) (AA (Ap Bk (pv 3) (A4 (pv 4)) BI) (AA (Ap Bk (pv 3) (A4 (pv 4)) (A4 (pv 5))) (AA (AU Bj (AU Bj (Ap Bk (pv 3) BI (A4 (pv 4))) (pv 6)) (Ap Bk (pv 3) (A4 (AU BE (pv 4) AF)) BI)) AB)))))))
 (AN (AW (Ai Aj (AU FK (pv 7) (Av (AA (Ap Bk (AU Bj (AU Bj (Ap Bk (pv 3) BI (A4 (pv 4))) (pv 6)) (Ap Bk (pv 3) (A4 (pv 4)) BI)) BI (A4 AF)) (AA (AU Kv (pv 6) (AU Cq (pv 5) (pv 4))) AB)))) (pv 2) (λ_ _=>rfl)))))))))),?_⟩
 obtain⟨u,ht,hu,ok⟩:=id tr
 have m60:=ok.most
 have lpos:=ok.pos
 have hlab:lab.length=ups.length:=by rw[ok.len];simp[Str.length]
 have trK:∀{c' H'},Kd p c' H H'->Al H' t ups lab:=λ{c' H'} kd=>⟨u,kd.keep _ _ (Lp dk ht (by intro _ _ _ e;cases e)) ht,kd.keep _ _ (Lp dk hu (by intro _ _ _ e;cases e)) hu,ok⟩
 refine⟨_,rfl,p,7,c,rfl,dk,by omega,by decide,by decide,λway H1 a0 a1 kd1=>?_⟩
 obtain⟨_,ht1,_,_⟩:=id (trK kd1)
 refine⟨_,rfl,_,rfl,_,rfl,t,_,_,_,rfl,rfl,Ce.of ht1,rfl,lab,rfl,by rw[hlab];exact Nat.le_of_lt (AM (by omega)),p,_,c+1,rfl,kd1.deck,by omega,by rw[hlab];omega,by rw[hlab];omega,λpl H2 b0 b1 kd2=>?_⟩
 rw[hlab]at b1
 have ku2:=kd1.trans kd2
 refine⟨t,ups,lab,pl,rfl,trK ku2,by omega,?_⟩
 have eR:R ups lab.cps.toList pl=W ups lab.cps.toList pl.toNat:=by
  unfold R
  rw[if_neg (by omega)]
 rw[eR]
 have wl:=IQ ok (pl.toNat+1) pl.toNat (by omega) (by omega)
 have wp:0 < (W ups lab.cps.toList pl.toNat).length:=by rw[JG ok (by omega)];simp
 have e1:(mk (W ups lab.cps.toList pl.toNat)).length=(W ups lab.cps.toList pl.toNat).length:=DK _
 have e2:(mk (W ups lab.cps.toList pl.toNat)).length<=60/\0 < (mk (W ups lab.cps.toList pl.toNat)).length:=by omega
 clear e1
 generalize mk (W ups lab.cps.toList pl.toNat)=z at e2
 obtain⟨z60,z0⟩:=e2
 have zz:z.length<=sizeLine:=Nat.le_of_lt (AM (by omega))
 refine⟨_,rfl,_,rfl,z,rfl,zz,p,_,c+1+1,rfl,ku2.deck,by omega,by omega,by omega,λfirst H3 f0 f1 kd3=>?_⟩
 have ku3:=ku2.trans kd3
 refine⟨_,rfl,_,rfl,_,rfl,z,rfl,zz,_,rfl,_,_,rfl,rfl,_,_,rfl,rfl,p,_,c+1+1+1,rfl,ku3.deck,by omega,by omega,by omega,λmore H4 g0 g1 kd4=>?_⟩
 have ku4:=ku3.trans kd4
 refine⟨_,_,rfl,rfl,?_⟩
 refine⟨_,rfl,p,26,_,rfl,ku4.deck,by omega,by decide,by decide,λci H5 h0 h1 kd5=>?_⟩
 have ku5:=(ku4.trans kd5).mono (show c+1+1+1+1+1<=c+5 by omega)
 obtain⟨ch,hch,lch⟩:=MF h0 h1
 refine⟨_,_,_,rfl,rfl,by decide+kernel,hch,?_⟩
 have c1:(⟨#[ch]⟩:Str).length=1:=rfl
 have cl:∀lo hi,(BU z lo hi).length<=60:=λlo hi=>Nat.le_trans (MP z lo hi) z60
 have q1:=cl none (some first)
 have q2:=cl (some (first+1)) none
 have q3:=cl (some first) none
 have q4:=cl none (some (first+more))
 have q5:=cl (some first) (some (first+more))
 refine⟨_,rfl,_,rfl,_,rfl,z,rfl,zz,_,rfl,_,rfl,_,rfl,_,rfl,z,rfl,zz,_,rfl,_,rfl,_,rfl,_,rfl,_,rfl,z,rfl,zz,_,rfl,_,rfl,_,rfl,z,rfl,zz,_,rfl,_,_,rfl,rfl,Nat.le_of_lt (AM (by omega)),?_⟩
 refine⟨_,rfl,_,rfl,_,_,rfl,rfl,_,rfl,z,rfl,zz,_,_,rfl,rfl,by rw[EB];exact Nat.le_of_lt (AM (by omega)),(by show 5<=sizeLine;decide),λr1 hr1=>?_⟩
 refine⟨_,rfl,_,rfl,_,rfl,_,rfl,z,rfl,zz,_,rfl,_,_,rfl,rfl,Nat.le_of_lt (AM (by omega)),?_⟩
 refine⟨_,rfl,_,rfl,_,rfl,z,rfl,zz,_,_,rfl,rfl,by rw[EB];exact Nat.le_of_lt (AM (by omega)),?_⟩
 have q6:(BU z none (some first)++(⟨#[ch]⟩:Str)++BU z (some first) none).length<=121:=by rw[EB,EB];omega
 have q7:=MP (BU z none (some first)++(⟨#[ch]⟩:Str)++BU z (some first) none) none (some 60)
 have q8:(BU z none (some first)++(⟨#[ch]⟩:Str)++BU z (some (first+1)) none).length<=121:=by rw[EB,EB];omega
 have mo:MulOk (⟨#[ch]⟩:Str) (first+more - first):=PyProof.Rows.mulOk_of 1 60 (by rw[c1];decide) (by omega) (by omega) (by decide) (by decide)
 have q9:(Txt.mul ⟨#[ch]⟩ (first+more - first)).length<=60:=by
  have:=Pk (c:=ch) (n:=first+more - first) (by omega)
  rw[AY]at this
  omega
 refine⟨_,rfl,_,rfl,Nat.le_of_lt (AM (by omega)),_,rfl,_,rfl,_,rfl,_,_,rfl,rfl,_,_,rfl,rfl,mo,(by show 2<=sizeLine;decide),λr2 hr2=>?_⟩
 generalize BU (BU z none (some first)++(⟨#[ch]⟩:Str)++BU z (some first) none) none (some 60)=x5 at q7
 generalize Txt.mul ⟨#[ch]⟩ (first+more - first)=x6 at q9
 generalize BU z none (some first)++(⟨#[ch]⟩:Str)++BU z (some (first+1)) none=x4 at q8 hr2
 generalize BU z none (some (first+more))=x0 at q4 hr2
 generalize BU z (some first) none=x2 at q3 hr2
 generalize BU z (some first) (some (first+more))=x3 at q5 hr2
 have k5:=(ku5.new (o:=.lst [.str x0,.str z,.str x2,.str x3,.str x4]) hr1)
 have h11:upd H5 r1 (.lst [.str x0,.str z,.str x2,.str x3,.str x4]) r1=some (.lst [.str x0,.str z,.str x2,.str x3,.str x4]):=AD
 have k6:=k5.new (o:=.lst [.str x5,.str x6]) hr2
 have h12:upd (upd H5 r1 (.lst [.str x0,.str z,.str x2,.str x3,.str x4])) r2 (.lst [.str x5,.str x6]) r2=some (.lst [.str x5,.str x6]):=AD
 have h13:upd (upd H5 r1 (.lst [.str x0,.str z,.str x2,.str x3,.str x4])) r2 (.lst [.str x5,.str x6]) r1=some (.lst [.str x0,.str z,.str x2,.str x3,.str x4]):=by rw[AL (AK h11 hr2)];exact h11
 generalize upd (upd H5 r1 (.lst [.str x0,.str z,.str x2,.str x3,.str x4])) r2 (.lst [.str x5,.str x6])=H6 at k6 h12 h13
 refine⟨r1,r2,_,_,rfl,rfl,h13,h12,(by show 5+2<=sizeLine;decide),λr3 hr3=>?_⟩
 have el:[V.str x0,.str z,.str x2,.str x3,.str x4]++[V.str x5,.str x6]=[x0,z,x2,x3,x4,x5,x6].map V.str:=rfl
 rw[el]
 have all:∀y∈[x0,z,x2,x3,x4,x5,x6],y.length<=200:=λy hy=>by
  simp only[List.mem_cons,List.not_mem_nil,or_false]at hy
  rcases hy with rfl|rfl|rfl|rfl|rfl|rfl|rfl<;>omega
 have ln:[x0,z,x2,x3,x4,x5,x6].length=7:=rfl
 generalize[x0,z,x2,x3,x4,x5,x6]=zs at all ln
 have k7:=k6.new (o:=.lst (zs.map V.str)) hr3
 have at1:Ec (zs.map V.str) way=some (.str (zs.getD way.toNat Str.empty)):=by
  have:=E7 (ss:=zs) (i:=way.toNat) (by omega)
  rw[show((way.toNat:Nat):Int)=way by omega]at this
  exact this
 refine⟨_,rfl,r3,_,_,_,rfl,rfl,AZ.of AD,at1,q _ _ (all _ ?_) k7⟩
 rw[List.getD_eq_getElem?_getD,List.getElem?_eq_getElem (by omega)]
 exact List.getElem_mem _
end
end S24
namespace S24
open PySem L2 W7
section
variable {P:Program}{w:World}{K:PySem.W.Frag}{mg:Str->Option Value}{base:Heap}{k:Nat}
def BN (H:Hp)(vs:List V)(ps:List (Str×Int)):Prop:=vs.length=ps.length/\∀(i:Nat) v p,vs[i]?=some v->ps[i]?=some p->∃a,v=.ref a/\H a=some (.tup [.str p.1,.int p.2])
theorem BN.nil (H:Hp):BN H [] []:=⟨rfl,λi v p e=>by simp at e⟩
theorem BN.same {H H':Hp}{vs:List V}{ps:List (Str×Int)}(h:BN H vs ps)(s:AJ H H'):BN H' vs ps:=⟨h.1,λi v p a b=>let⟨x,e1,e2⟩:=h.2 i v p a b;⟨x,e1,s _ _ e2⟩⟩
theorem BN.snoc {H:Hp}{vs:List V}{ps:List (Str×Int)}{a:Addr}{p:Str×Int}(h:BN H vs ps)(e:H a=some (.tup [.str p.1,.int p.2])):BN H (vs++[.ref a]) (ps++[p]):=by
 refine⟨by rw[List.length_append,List.length_append,h.1];rfl,λi v q hv hq=>?_⟩
 rcases Nat.lt_or_ge i vs.length with l|l
 ·rw[List.getElem?_append_left l]at hv
  rw[List.getElem?_append_left (by rw[<-h.1];exact l)]at hq
  exact h.2 i v q hv hq
 ·rw[List.getElem?_append_right l]at hv
  rw[List.getElem?_append_right (by rw[<-h.1];exact l),<-h.1]at hq
  rcases Nat.eq_zero_or_pos (i - vs.length)with z|z
  ·rw[z]at hv hq
   cases hv;cases hq
   exact⟨a,rfl,e⟩
  ·rw[List.getElem?_eq_none (by simp;omega)]at hv
   cases hv
def HJ (ss:List Str)(z:Str):List Str:=ss.filter λx=>Txt.startswith x z
def part (l:List Str):Nat:=W16.Gy (l.headD Str.empty).cps.toList (l.getLastD Str.empty).cps.toList
def GN (ss U:List Str):List (Str×Int):=(U.filter λz=>decide (((part (HJ ss z):Nat):Int)=(z.length:Int))).map λz=>(z,((HJ ss z).length:Int))
theorem O4 (ss U:List Str)(z:Str):GN ss (U++[z])=GN ss U++(if((part (HJ ss z):Nat):Int)=(z.length:Int)then[(z,((HJ ss z).length:Int))]else[]):=by
 unfold GN
 rw[List.filter_append,List.map_append,List.filter_cons,List.filter_nil]
 congr 1
 by_cases c:((part (HJ ss z):Nat):Int)=(z.length:Int)
 ·rw[if_pos c,if_pos (decide_eq_true c)];rfl
 ·rw[if_neg c,if_neg (by simpa using c)];rfl
theorem MR (ss U:List Str):(GN ss U).length<=U.length:=by
 unfold GN;rw[List.length_map];exact List.length_filter_le _ _
def O5:Sp:=λvs H Q _=>∃(t:Addr) (ups:List Int) (lab:Str),vs=[.ref t]/\Al H t ups lab/\
 ∀(ss:List Str) (r:Addr) (ys:List V) (H':Hp),ss.Perm (AO ups lab)->PyProof.Rows.sortedS ss=true->AJ H H'->H r=none->H' r=some (.lst ys)->BN H' ys (GN ss (CN ss ss.length))->Q (.ref r) H'
theorem QH (D:Df K mg "closed_words" s_closed_words)(B:Blt7 mg)(G_words_of:A9 P w K mg base "words_of" k ["tree"] CG)(G_unlike_words:A9 P w K mg base "unlike_words" k ["tree"] Ca)(G_many_alike:A9 P w K mg base "many_alike" k ["one","other"] HF):A9 P w K mg base "closed_words" (k+1) ["tree"] O5:=by
 refine D.has BS (λ_ _ _ _ _ _ us hl=>match us,hl with|[_],_=>rfl) (λvs H Q E h=>by obtain⟨t,ups,lab,rfl,_⟩:=h;rfl) (λf cdv A outer s H vs Q E hr h=>?_)
 obtain⟨t,ups,lab,rfl,tr,q⟩:=h
 refine⟨_,(AE (AS (i:=1) BS.nd rfl (by first|exact Or.inl rfl|exact Or.inr rfl) (AI Ay rfl B.sorted B4 (AA (AH G_words_of hr rfl (AA (pv 0) AB)) AB)))
 (AE (AS (i:=2) BS.nd rfl (by first|exact Or.inl rfl|exact Or.inr rfl) (Av AB))
 (AE (Cp PassesOwn.never rfl (Ao (AH G_unlike_words hr rfl (AA (pv 0) AB))) (AQ (i:=3) BS.nd rfl (by first|exact Or.inl rfl|exact Or.inr rfl))
 (AE (CQ (i:=4) BS.nd rfl (by first|exact Or.inl rfl|exact Or.inr rfl) rfl (Ao (pv 1)) (NL:=["other"]) (ix:=[3]) (En (AG s_closed_words) Dm) (λcl C s₃ H₃ fp pins=>⟨(AQ (i:=0) (show List.Nodup (["other","word"]:List Str)from by decide+kernel) rfl (by first|exact Or.inl rfl|exact Or.inr rfl)),(CS K (pv 0) (pv 1)),(pv 0)⟩))
 (AN (Bs (Ac DN (AH G_many_alike hr rfl (AA (Ai Aj (pv 4) AF (λ_ _=>rfl)) (AA (Ai Aj (pv 4) (QV Nw AF) (λ_ _=>rfl)) AB))) (AI AR rfl B.len Aa (AA (pv 3) AB)) (Ad _))
 (AN (GF (Ej PySem.F.plainAttrs_list PySem.F.slot_list_append PySem.F.type_list_append Du (pv 2) (AA (DR (AA (pv 3) (AA (AI Ab rfl B.len Aa (AA (pv 4) AB)) AB))) AB))))
 Au))))
 (AN (AW (pv 2)))))),?_⟩
 obtain⟨_,_,_,ok⟩:=id tr
 have m60:=ok.most
 have lpos:=ok.pos
 have wl:=An ups lab
 have wle:=A7 ok
 refine⟨_,rfl,t,ups,lab,rfl,tr,λr H1 s1 hr1=>?_⟩
 rw[Bd]at hr1
 refine⟨r,_,rfl,AZ.of hr1,by omega,λss r2 hp hs hr2=>?_⟩
 have sl:=hp.length_eq
 have s2:AJ H (upd H1 r2 (.lst (ss.map V.str))):=s1.new hr2
 have h22:upd H1 r2 (.lst (ss.map V.str)) r2=some (.lst (ss.map V.str)):=AD
 generalize upd H1 r2 (.lst (ss.map V.str))=H2 at s2 h22
 refine⟨(by show 0<=sizeLine;decide),λr3 hr3=>?_⟩
 have s3:AJ H2 (upd H2 r3 (.lst [])):=(AJ.refl H2).new hr3
 have h33:upd H2 r3 (.lst []) r3=some (.lst []):=AD
 have f3:H r3=none:=s2.free hr3
 generalize upd H2 r3 (.lst [])=H3 at s3 h33
 refine⟨_,rfl,t,ups,lab,rfl,tr.same (s2.trans s3),λss' ru H4 hp' hs' s4 hf4 hr4=>?_⟩
 have ess:ss'=ss:=Ba hs' hs (hp'.trans hp.symm)
 subst ess
 have ul:=KI ok hp
 have mem:=CI hp
 generalize hU:CN ss' ss'.length=U at hr4 ul mem q
 have zl:∀z∈U,1<=z.length/\z.length<=60:=λz hz=>B7 ok ((mem z).mp hz)
 have s24:=s3.trans s4
 have r3w:r3≠r2:=(AK h22 hr3).symm
 have r3u:r3≠ru:=AK h33 hf4
 refine⟨ru,rfl,⟨_,AZ.of hr4⟩,?_⟩
 refine Ef (xs:=U.map V.str) (λi σ H'=>∃(o3 o4:Option V) (ys:List V),σ=[some (.ref t),some (.ref r2),some (.ref r3),o3,o4]/\AJ H H'/\H' r2=some (.lst (ss'.map V.str))/\H' ru=some (.lst (U.map V.str))/\H' r3=some (.lst ys)/\BN H' ys (GN ss' (U.take i)))
  ⟨none,none,[],rfl,s2.trans s24,s24 _ _ h22,hr4,s4 _ _ h33,BN.nil _⟩ (λi σ H' _ h=>by obtain⟨_,_,_,_,_,_,a,_⟩:=h;exact AZ.of a) ?_ ?_
 ·rintro i x σ H' hx ⟨o3,o4,ys,rfl,sX,g2,gu,g3,tu⟩
  obtain⟨z,hz,rfl⟩:=A3 hx
  have zb:=zl z (List.mem_of_getElem? hz)
  refine⟨_,rfl,r2,rfl,⟨_,AZ.of g2⟩,λacc hacc=>?_⟩
  refine Aq (xs:=ss'.map V.str) (by rw[List.length_map];omega) (λi ys H2=>H2 acc=some (.lst ys)/\ys=((ss'.take i).filter λx=>Txt.startswith x z).map V.str/\AJ H' H2)
   (λi ys H2 h=>AZ.of (h.2.2 _ _ g2)) (λi ys H2 h=>⟨h.1,by rw[h.2.1];exact Dr⟩) ⟨AD,by simp,(AJ.refl H').new hacc⟩ ?_ ?_
  rotate_left
  ·rintro i x ys H2 hx ⟨e1,rfl,e3⟩
   obtain⟨y,hy,rfl⟩:=A3 hx
   refine⟨rfl,_,rfl,rfl,_,rfl,_,_,rfl,rfl,_,rfl,Cf (λcnd=>?_) (λcnd=>?_)⟩
   ·exact⟨_,rfl,e1,AD,by rw[BM hy true cnd];rfl,e3.write hacc⟩
   ·exact⟨e1,by rw[BM hy false (Bool.eq_false_iff.mpr cnd)];simp,e3⟩
  rintro ys2 H5 ⟨e1,rfl,e3⟩
  rw[List.length_map,List.take_length]at e1
  have e1:H5 acc=some (.lst ((HJ ss' z).map V.str)):=e1
  have rne:HJ ss' z≠[]:=λe=>by
   obtain⟨a,j,hj,b⟩:=(mem z).mp (List.mem_of_getElem? hz)
   have m:mk (W ups lab.cps.toList j)∈ss':=hp.mem_iff.mpr (List.mem_map.mpr ⟨j,List.mem_range.mpr hj,rfl⟩)
   have:mk (W ups lab.cps.toList j)∈HJ ss' z:=List.mem_filter.mpr ⟨m,(W16.Bm _ _).mpr (by rw[BQ];exact b)⟩
   rw[e]at this;cases this
  have rle:∀x∈HJ ss' z,x.length<=60:=λx hx=>wle x (hp.mem_iff.mp (List.mem_filter.mp hx).1)
  have rlen:(HJ ss' z).length<=ss'.length:=List.length_filter_le _ _
  have step:=O4 ss' (U.take i) z
  have tks:U.take (i+1)=U.take i++[z]:=by rw[List.take_succ,hz];rfl
  unfold part at step
  generalize HJ ss' z=R at e1 rne rle rlen step
  have hd0:Ec (R.map V.str) 0=some (.str (R.headD Str.empty)):=by
   cases R with
   |nil=>exact absurd rfl rne
   |cons a R=>exact Bb (xs:=(a::R).map V.str) (j:=0) rfl
  have hl0:Ec (R.map V.str) (-1)=some (.str (R.getLastD Str.empty))/\R.getLastD Str.empty∈R:=by
   obtain⟨R',l,rfl⟩:=(List.eq_nil_or_concat R).resolve_left rne
   rw[List.concat_eq_append,List.map_append]
   have e:(R'++[l]).getLastD Str.empty=l:=by simp
   rw[e]
   exact⟨N3 _ _,by simp⟩
  have l1:(R.headD Str.empty).length<=60:=by
   cases R with
   |nil=>exact absurd rfl rne
   |cons a R=>exact rle a List.mem_cons_self
  have l2:(R.getLastD Str.empty).length<=60:=rle _ hl0.2
  have hl0:=hl0.1
  refine⟨_,rfl,acc,_,_,_,rfl,rfl,AZ.of e1,hd0,_,rfl,_,rfl,acc,_,_,_,rfl,rfl,AZ.of e1,hl0,_,_,rfl,l1,l2,?_⟩
  have s5:AJ H H5:=sX.trans e3
  refine⟨_,rfl,z,rfl,Nat.le_of_lt (AM (by omega)),rfl,_,rfl,Cf (λcnd=>?_) (λcnd=>?_)⟩
  ·have cnd:=of_decide_eq_true cnd
   injection cnd with cnd
   rw[if_pos cnd]at step
   have g35:=e3 _ _ g3
   refine⟨_,rfl,.inl ⟨rfl,_,AZ.of g35⟩,_,rfl,_,rfl,acc,_,rfl,.inl (AZ.of e1),(by show 2<=sizeLine;decide),λtp htp=>?_⟩
   rw[List.length_map]
   have s6:AJ H5 (upd H5 tp (.tup [.str z,.int ((R.length:Nat):Int)])):=(AJ.refl H5).new htp
   have h6:upd H5 tp (.tup [.str z,.int ((R.length:Nat):Int)]) tp=some (.tup [.str z,.int ((R.length:Nat):Int)]):=AD
   generalize upd H5 tp (.tup [.str z,.int ((R.length:Nat):Int)])=H6 at s6 h6
   have g36:=s6 _ _ g35
   have s06:=s5.trans s6
   have sP:=e3.trans s6
   have il:i < U.length:=(List.getElem?_eq_some_iff.mp hz).1
   have tl:=tu.1
   have cl:=MR ss' (U.take i)
   rw[List.length_take]at cl
   refine⟨r3,_,_,rfl,rfl,g36,EU (by omega),?_⟩
   have tp3:tp≠r3:=GO h6 g36 (by intro e;cases e)
   have tu6:BN (upd H6 r3 (.lst (ys++[.ref tp]))) ys (GN ss' (U.take i)):=⟨tu.1,λi v p a b=>by
    obtain⟨x,e1,e2⟩:=tu.2 i v p a b
    refine⟨x,e1,?_⟩
    rw[AL (GO e2 g3 (by intro e;cases e))]
    exact sP _ _ e2⟩
   refine⟨_,_,_,rfl,s06.write f3,by rw[AL (Ne.symm r3w)];exact sP _ _ g2,by rw[AL (Ne.symm r3u)];exact sP _ _ gu,AD,?_⟩
   rw[tks,step]
   exact tu6.snoc (by rw[AL tp3];exact h6)
  ·have cnd:=of_decide_eq_false (Bool.eq_false_iff.mpr cnd)
   rw[if_neg (λe=>cnd (by rw[e])),List.append_nil]at step
   exact⟨_,_,ys,rfl,s5,e3 _ _ g2,e3 _ _ gu,e3 _ _ g3,by rw[tks,step];exact tu.same e3⟩
 ·rintro σ H' ⟨o3,o4,ys,rfl,sX,g2,gu,g3,tu⟩
  rw[List.length_map,List.take_length]at tu
  exact⟨_,rfl,q ss' r3 ys H' hp hs sX f3 g3 (by rw[hU];exact tu)⟩
end
end S24
namespace W24
open W16 W18
variable {ss:List (List Nat)}
def Rd (ss:List (List Nat))(z:List Nat):Prop:=z≠[]/\∃x∈ss,z<+:x
def Cl (ss:List (List Nat))(z:List Nat):Prop:=Rd ss z/\∀w,(∃x∈ss,w<+:x)->w≠[]->w.dropLast=z->BL ss w < BL ss z
theorem take_drop {z w:List Nat}(h:z<+:w)(l:z.length < w.length):(w.take (z.length+1)).dropLast=z/\w.take (z.length+1)≠[]/\z<+:w.take (z.length+1)/\w.take (z.length+1)<+:w/\(w.take (z.length+1)).length=z.length+1:=by
 have wl:(w.take (z.length+1)).length=z.length+1:=by rw[List.length_take];omega
 have e:=List.prefix_iff_eq_take.mp h
 refine⟨?_,λe=>by rw[e]at wl;simp at wl,?_,List.take_prefix _ _,wl⟩
 ·rw[List.dropLast_eq_take,wl,Nat.add_sub_cancel,List.take_take,Nat.min_eq_left (by omega)]
  exact e.symm
 ·exact List.prefix_of_prefix_length_le h (List.take_prefix _ _) (by omega)
theorem O6 {z w:List Nat}(h:∀x∈ss,z<+:x->w<+:x):BL ss z<=BL ss w:=by
 unfold BL
 induction ss with
 |nil=>simp
 |cons x ss ih=>
  have ih:=ih λy hy=>h y (List.mem_cons_of_mem _ hy)
  rw[List.filter_cons,List.filter_cons]
  by_cases a:pre z x=true
  ·rw[if_pos a,if_pos (BB.mpr (h x List.mem_cons_self (BB.mp a)))]
   simp only[List.length_cons];omega
  ·rw[if_neg a]
   split
   ·simp only[List.length_cons];omega
   ·exact ih
theorem Cl.max {z w:List Nat}(c:Cl ss z)(h:z<+:w)(r:∃x∈ss,w<+:x)(e:BL ss z<=BL ss w):w=z:=by
 rcases Nat.lt_or_ge z.length w.length with l|l
 ·obtain⟨d,n,p1,p2,_⟩:=take_drop h l
  obtain⟨x,hx,wx⟩:=r
  have a:=c.2 _ ⟨x,hx,p2.trans wx⟩ n d
  have b:=G3 (ss:=ss) p2
  omega
 ·exact(h.eq_of_length (Nat.le_antisymm h.length_le l)).symm
theorem grow {z:List Nat}(r:Rd ss z)(n:¬Cl ss z):∃w,Rd ss w/\z<+:w/\w.length=z.length+1/\BL ss z<=BL ss w:=by
 have:∃w,(∃x∈ss,w<+:x)/\w≠[]/\w.dropLast=z/\BL ss z<=BL ss w:=by
  refine Classical.byContradiction λh=>n ⟨r,λw a b c=>?_⟩
  rcases Nat.lt_or_ge (BL ss w) (BL ss z)with g|g
  ·exact g
  ·exact absurd ⟨w,a,b,c,g⟩ h
 obtain⟨w,a,b,c,d⟩:=this
 refine⟨w,⟨b,a⟩,?_,?_,d⟩
 ·rw[<-c];exact List.dropLast_prefix w
 ·rw[<-c,List.length_dropLast]
  have:=List.length_pos_iff.mpr b
  omega
theorem QI {N:Nat}(hN:∀x∈ss,x.length<=N):∀(k:Nat) (p:List Nat),Rd ss p->N - p.length<=k->∃z,Cl ss z/\p<+:z/\BL ss p<=BL ss z/\∀q,Cl ss q->p<+:q->q<+:z->q=z
 |0,p,r,hk=>by
  by_cases c:Cl ss p
  ·exact⟨p,c,List.prefix_refl _,Nat.le_refl _,λq _ h1 h2=>h2.eq_of_length (Nat.le_antisymm h2.length_le h1.length_le)⟩
  ·obtain⟨w,rw',pw,wl,e⟩:=grow r c
   obtain⟨_,x,hx,wx⟩:=rw'
   have:=hN x hx
   have:=wx.length_le
   omega
 |k+1,p,r,hk=>by
  by_cases c:Cl ss p
  ·exact⟨p,c,List.prefix_refl _,Nat.le_refl _,λq _ h1 h2=>h2.eq_of_length (Nat.le_antisymm h2.length_le h1.length_le)⟩
  ·obtain⟨w,rw',pw,wl,e⟩:=grow r c
   obtain⟨z,cz,wz,ez,u⟩:=QI hN k w rw' (by omega)
   refine⟨z,cz,pw.trans wz,Nat.le_trans e ez,λq cq pq qz=>?_⟩
   by_cases l:q.length<=p.length
   ·have:p=q:=pq.eq_of_length (Nat.le_antisymm pq.length_le l)
    subst this
    exact absurd cq c
   ·exact u q cq (List.prefix_of_prefix_length_le wz qz (by omega)) qz
def LS (ss:List (List Nat))(z:List Nat)(m:Nat):Prop:=m < z.length/\(m=0\/Cl ss (z.take m))/\∀l,m < l->l < z.length->¬Cl ss (z.take l)
theorem O7 {z p q:List Nat}{m:Nat}(u:LS ss z m)(pz:p<+:z)(l:m < p.length)(cq:Cl ss q)(pq:p<+:q)(qz:q<+:z):q=z:=by
 rcases Nat.lt_or_ge q.length z.length with g|g
 ·have e:=List.prefix_iff_eq_take.mp qz
  have:=pq.length_le
  exact absurd (e▸cq) (u.2.2 q.length (by omega) g)
 ·exact qz.eq_of_length (Nat.le_antisymm qz.length_le g)
theorem KQ {N:Nat}(hN:∀x∈ss,x.length<=N){z p:List Nat}{m:Nat}(cz:Cl ss z)(u:LS ss z m)(pz:p<+:z)(l:m < p.length):BL ss p<=BL ss z:=by
 obtain⟨⟨_,x,hx,zx⟩,_⟩:=id cz
 have rp:Rd ss p:=⟨λe=>by rw[e]at l;simp at l,x,hx,pz.trans zx⟩
 obtain⟨c,cc,pc,e,u2⟩:=QI hN _ p rp (Nat.le_refl _)
 have all:=B6 pc e x hx (pz.trans zx)
 rcases Nat.le_total c.length z.length with g|g
 ·have cz':=List.prefix_of_prefix_length_le all zx g
  have:c=z:=O7 u pz l cc pc cz'
  rw[<-this];exact e
 ·have zc:=List.prefix_of_prefix_length_le zx all g
  have:=u2 z cz pz zc
  rw[this];exact e
def GC (ss:List (List Nat))(m:List Nat->Nat)(C:List (List Nat)):List (List Nat):=C.flatMap λz=>IL z (m z)
theorem KR {m:List Nat->Nat}{C:List (List Nat)}{p:List Nat}:p∈GC ss m C↔∃z∈C,p<+:z/\m z < p.length:=by
 unfold GC
 rw[List.mem_flatMap]
 exact⟨λ⟨z,a,b⟩=>⟨z,a,DE.mp b⟩,λ⟨z,a,b⟩=>⟨z,a,DE.mpr b⟩⟩
theorem QJ {N:Nat}(hN:∀x∈ss,x.length<=N){m:List Nat->Nat}{C:List (List Nat)}(hC:∀z,z∈C↔Cl ss z)(hm:∀z∈C,LS ss z (m z)){p:List Nat}:p∈GC ss m C↔Rd ss p:=by
 rw[KR]
 constructor
 ·rintro⟨z,hz,pz,l⟩
  obtain⟨⟨_,x,hx,zx⟩,_⟩:=(hC z).mp hz
  exact⟨λe=>by rw[e]at l;simp at l,x,hx,pz.trans zx⟩
 ·intro r
  obtain⟨z,cz,pz,_,u⟩:=QI hN _ p r (Nat.le_refl _)
  refine⟨z,(hC z).mpr cz,pz,?_⟩
  obtain⟨a,b,_⟩:=hm z ((hC z).mpr cz)
  rcases b with b|b
  ·rw[b];exact List.length_pos_iff.mpr r.1
  ·refine Nat.lt_of_not_le λg=>?_
   have p1:p<+:z.take (m z):=List.prefix_of_prefix_length_le pz (List.take_prefix _ _) (by rw[List.length_take];omega)
   have e:=u _ b p1 (List.take_prefix _ _)
   have:=congrArg List.length e
   rw[List.length_take]at this
   omega
theorem HK {N:Nat}(hN:∀x∈ss,x.length<=N){m:List Nat->Nat}:∀{C:List (List Nat)},C.Nodup->(∀z∈C,Cl ss z)->(∀z∈C,LS ss z (m z))->(GC ss m C).Nodup
 |[],_,_,_=>by unfold GC;simp
 |z::C,nd,hC,hm=>by
  obtain⟨nz,nd⟩:=List.nodup_cons.mp nd
  have ih:=HK hN nd (λy hy=>hC y (List.mem_cons_of_mem _ hy)) (λy hy=>hm y (List.mem_cons_of_mem _ hy))
  have e:GC ss m (z::C)=IL z (m z)++GC ss m C:=by unfold GC;rw[List.flatMap_cons]
  rw[e,List.nodup_append]
  refine⟨IM _ _,ih,λp hp q hq eq=>?_⟩
  subst eq
  obtain⟨pz,l⟩:=DE.mp hp
  obtain⟨y,hy,py,l'⟩:=KR.mp hq
  have cz:=hC z List.mem_cons_self
  have cy:=hC y (List.mem_cons_of_mem _ hy)
  have a:=KQ hN cz (hm z List.mem_cons_self) pz l
  have b:=KQ hN cy (hm y (List.mem_cons_of_mem _ hy)) py l'
  obtain⟨⟨_,x,hx,zx⟩,_⟩:=id cz
  have yx:=B6 py b x hx (pz.trans zx)
  have le1:=G3 (ss:=ss) pz
  have le2:=G3 (ss:=ss) py
  have eq:z=y:=by
   rcases Nat.le_total z.length y.length with g|g
   ·exact(cz.max (List.prefix_of_prefix_length_le zx yx g) ⟨x,hx,yx⟩ (by omega)).symm
   ·exact cy.max (List.prefix_of_prefix_length_le yx zx g) ⟨x,hx,zx⟩ (by omega)
  exact nz (eq▸hy)
theorem QK (z:List Nat)(a:Nat):(IL z a).length=z.length - a:=by unfold IL;rw[List.length_map,List.length_range]
theorem KS (m:List Nat->Nat):∀C:List (List Nat),(GC ss m C).length=(C.map λz=>z.length - m z).sum
 |[]=>rfl
 |z::C=>by
  have e:GC ss m (z::C)=IL z (m z)++GC ss m C:=by unfold GC;rw[List.flatMap_cons]
  rw[e,List.length_append,QK,KS m C,List.map_cons,List.sum_cons]
theorem LU {N:Nat}(hN:∀x∈ss,x.length<=N){m:List Nat->Nat}{C U:List (List Nat)}(nC:C.Nodup)(hC:∀z,z∈C↔Cl ss z)(hm:∀z∈C,LS ss z (m z))(nU:U.Nodup)(hU:∀p,p∈U↔Rd ss p):
 (C.map λz=>z.length - m z).sum=U.length:=by
 rw[<-KS (ss:=ss)]
 refine List.Perm.length_eq ((List.perm_ext_iff_of_nodup (HK hN nC (λz hz=>(hC z).mp hz) hm) nU).mpr λp=>?_)
 rw[QJ hN hC hm,hU]
theorem KU {z:List Nat}(h:z∈ss)(n:z≠[]):Cl ss z:=by
 refine⟨⟨n,z,h,List.prefix_refl _⟩,λw ⟨x,hx,wx⟩ ne hd=>?_⟩
 have zw:z<+:w:=by rw[<-hd];exact List.dropLast_prefix w
 have wl:w.length=z.length+1:=by
  rw[<-hd,List.length_dropLast]
  have:=List.length_pos_iff.mpr ne
  omega
 rcases Nat.lt_or_ge (BL ss w) (BL ss z)with g|g
 ·exact g
 ·have:=(B6 zw g z h (List.prefix_refl _)).length_le
  omega
theorem Nc (hs:∀i j,i<=j->j < ss.length->¬ss.getD j [] < ss.getD i []){z:List Nat}(c:Cl ss z):z∈ss\/∃i,i < ss.length/\z=(ss.getD i []).take (lc ss i):=by
 by_cases hz:z∈ss
 ·exact .inl hz
 refine .inr (Classical.byContradiction λno=>?_)
 obtain⟨⟨zn,x0,hx0,px0⟩,cl⟩:=id c
 have ex:∃i,i < ss.length/\z<+:ss.getD i []:=by
  obtain⟨i,hi,e⟩:=List.getElem_of_mem hx0
  exact⟨i,hi,by rw[List.getD_eq_getElem?_getD,List.getElem?_eq_getElem hi];show z<+:ss[i];rw[e];exact px0⟩
 obtain⟨i0,⟨hi0,p0⟩,least⟩:∃i,(i < ss.length/\z<+:ss.getD i [])/\∀j,j < i->¬(j < ss.length/\z<+:ss.getD j []):=by
  obtain⟨i,h⟩:=ex
  induction i using Nat.strongRecOn with
  |ind i ih=>
   by_cases q:∃j,j < i/\j < ss.length/\z<+:ss.getD j []
   ·obtain⟨j,a,b⟩:=q
    exact ih j a b
   ·exact⟨i,h,λj hj hh=>q ⟨j,hj,hh⟩⟩
 have mem:∀i,i < ss.length->ss.getD i []∈ss:=λi hi=>by
  rw[List.getD_eq_getElem?_getD,List.getElem?_eq_getElem hi];exact List.getElem_mem hi
 have l0:z.length < (ss.getD i0 []).length:=by
  rcases Nat.lt_or_ge z.length (ss.getD i0 []).length with g|g
  ·exact g
  ·have:=p0.eq_of_length (Nat.le_antisymm p0.length_le g)
   exact absurd (this▸mem i0 hi0) hz
 obtain⟨d,n,p1,p2,wl⟩:=take_drop p0 l0
 generalize(ss.getD i0 []).take (z.length+1)=w at d n p1 p2 wl
 have step:∀k,i0+k < ss.length->z<+:ss.getD (i0+k) []->w<+:ss.getD (i0+k) []:=λk=>by
  induction k with
  |zero=>intro _ _;exact p2
  |succ k ih=>
   intro hk pk
   have pk':z<+:ss.getD (i0+k) []:=R7 z _ _ _ p0 pk (hs i0 (i0+k) (by omega) (by omega)) (hs (i0+k) (i0+(k+1)) (by omega) hk)
   have wk:=ih (by omega) pk'
   have ge:=JF pk' pk
   have lce:lc ss (i0+(k+1))=Gy (ss.getD (i0+k) []) (ss.getD (i0+(k+1)) []):=by
    unfold lc
    rw[if_neg (by omega)];rfl
   have ne:Gy (ss.getD (i0+k) []) (ss.getD (i0+(k+1)) [])≠z.length:=λe=>by
    refine no ⟨i0+(k+1),hk,?_⟩
    rw[lce,e]
    exact List.prefix_iff_eq_take.mp pk
   have t:=(B1 (ss.getD (i0+k) []) (ss.getD (i0+(k+1)) []) w.length wk.length_le).mpr (by omega)
   have e:=List.prefix_iff_eq_take.mp wk
   rw[<-e]at t
   exact t
 have all:∀x∈ss,z<+:x->w<+:x:=λx hx zx=>by
  obtain⟨j,hj,e⟩:=List.getElem_of_mem hx
  have ej:ss.getD j []=x:=by rw[List.getD_eq_getElem?_getD,List.getElem?_eq_getElem hj];exact e
  have ge:i0<=j:=by
   refine Nat.le_of_not_lt λg=>least j g ⟨hj,by rw[ej];exact zx⟩
  have:=step (j - i0) (by omega)
  rw[show i0+(j - i0)=j by omega,ej]at this
  exact this zx
 have:=cl w ⟨_,mem i0 hi0,p2⟩ n d
 have:=O6 all
 omega
theorem HL (hs:∀i j,i<=j->j < ss.length->¬ss.getD j [] < ss.getD i []){C:List (List Nat)}(nC:C.Nodup)(hC:∀z∈C,Cl ss z):C.length<=2*ss.length:=by
 have:=nC.length_le_of_subset (l₂:=ss++(List.range ss.length).map λi=>(ss.getD i []).take (lc ss i)) λz hz=>by
  rcases Nc hs (hC z hz)with h|⟨i,hi,e⟩
  ·exact List.mem_append_left _ h
  ·exact List.mem_append_right _ (List.mem_map.mpr ⟨i,List.mem_range.mpr hi,e.symm⟩)
 rw[List.length_append,List.length_map,List.length_range]at this
 omega
theorem JL {N:Nat}(hN:∀x∈ss,x.length<=N){p:List Nat}(r:Rd ss p):∃c,Cl ss c/\p<+:c/\BL ss c=BL ss p/\∀x,Cl ss x->p<+:x->c.length<=x.length/\(x.length=c.length->x=c):=by
 obtain⟨c,cc,pc,e,u⟩:=QI hN _ p r (Nat.le_refl _)
 refine⟨c,cc,pc,Nat.le_antisymm (G3 pc) e,λx cx px=>?_⟩
 obtain⟨⟨_,y,hy,xy⟩,_⟩:=id cx
 have cy:=B6 pc e y hy (px.trans xy)
 have ge:c.length<=x.length:=by
  refine Nat.le_of_not_lt λg=>?_
  have:=u x cx px (List.prefix_of_prefix_length_le xy cy (by omega))
  rw[this]at g
  exact Nat.lt_irrefl _ g
 exact⟨ge,λl=>((List.prefix_of_prefix_length_le cy xy ge).eq_of_length l.symm).symm⟩
end W24
namespace S24
open PySem L2 W7
theorem Rq {zs:List Str}(nd:zs.Nodup){i:Nat}(h:i < zs.length):zs.idxOf (zs.getD i Str.empty)=i:=by
 rw[List.getD_eq_getElem?_getD,List.getElem?_eq_getElem h]
 show zs.idxOf zs[i]=i
 have lt:zs.idxOf zs[i] < zs.length:=List.idxOf_lt_length_of_mem (List.getElem_mem h)
 exact(List.getElem_inj nd).mp (List.getElem_idxOf lt)
theorem KW {U:List Str}(so:PyProof.Rows.sortedS U=true){is:List Nat}(up:is.Pairwise (·<=·))(lt:∀i∈is,i < U.length):PyProof.Rows.sortedS (is.map λi=>U.getD i Str.empty)=true:=by
 refine DL _ ?_
 have pw:=BD U so
 rw[List.pairwise_map]
 refine(List.Pairwise.and_mem.mp up).imp λ{a b} ⟨ha,hb,le⟩=>?_
 have la:=lt a ha
 have lb:=lt b hb
 rw[List.getD_eq_getElem?_getD,List.getD_eq_getElem?_getD,List.getElem?_eq_getElem la,List.getElem?_eq_getElem lb]
 rcases Nat.lt_or_ge a b with h|h
 ·exact List.pairwise_iff_getElem.mp pw a b la lb h
 ·have:a=b:=by omega
  subst this
  exact List.lt_irrefl _
theorem Nd {U:List Str}(nd:U.Nodup){is:List Int}(lt:∀i∈is,0<=i/\i < (U.length:Int)){xs:List Str}{ys:List Int}(nx:xs.Nodup)(ny:ys.Nodup)(hx:∀x,x∈xs↔x∈is.map λi=>U.getD i.toNat Str.empty)(hy:∀y,y∈ys↔y∈is):xs.length=ys.length:=by
 have e:xs.Perm (ys.map λi=>U.getD i.toNat Str.empty):=by
  refine(List.perm_ext_iff_of_nodup nx ?_).mpr λx=>?_
  ·unfold List.Nodup
   rw[List.pairwise_map]
   refine(List.Pairwise.and_mem.mp ny).imp λ{a b} ⟨ha,hb,n⟩ e=>n ?_
   obtain⟨a0,a1⟩:=lt a ((hy a).mp ha)
   obtain⟨b0,b1⟩:=lt b ((hy b).mp hb)
   rw[List.getD_eq_getElem?_getD,List.getD_eq_getElem?_getD,List.getElem?_eq_getElem (show a.toNat < U.length by omega),List.getElem?_eq_getElem (show b.toNat < U.length by omega)]at e
   have e':U[a.toNat]'(by omega)=U[b.toNat]'(by omega):=e
   rcases Nat.lt_trichotomy a.toNat b.toNat with h|h|h
   ·exact absurd e' (List.pairwise_iff_getElem.mp nd _ _ _ _ h)
   ·omega
   ·exact absurd e'.symm (List.pairwise_iff_getElem.mp nd _ _ _ _ h)
  ·rw[hx,List.mem_map,List.mem_map]
   exact⟨λ⟨i,hi,e⟩=>⟨i,(hy i).mpr hi,e⟩,λ⟨i,hi,e⟩=>⟨i,(hy i).mp hi,e⟩⟩
 have:=e.length_eq
 rw[List.length_map]at this
 exact this
section
variable {P:Program}{w:World}{K:PySem.W.Frag}{mg:Str->Option Value}{base:Heap}{k:Nat}
structure R9 (ups:List Int)(lab:Str)(U:List Str):Prop where
 ul:UL ups lab U
 nd:U.Nodup
 so:PyProof.Rows.sortedS U=true
 pos:0 < U.length
 most:U.length<=3600
theorem Rt {ups:List Int}{lab:Str}{ss:List Str}(ok:A6 ups lab.cps.toList)(hp:ss.Perm (AO ups lab))(hs:PyProof.Rows.sortedS ss=true):R9 ups lab (CN ss ss.length):=
 ⟨λss' hp' hs'=>by rw[Ba hs' hs (hp'.trans hp.symm)],LN hs,KA hs,by
  obtain⟨z0,hz0⟩:=IV ok
  exact List.length_pos_of_mem ((CI hp z0).mpr hz0),KI ok hp⟩
def MS:Sp:=λvs H Q _=>∃(t:Addr) (ups:List Int) (lab:Str) (U:List Str),vs=[.ref t,.int ((U.length:Nat):Int)]/\Al H t ups lab/\R9 ups lab U/\∀H',AJ H H'->Q (.bl true) H'
theorem O8 (D:Df K mg "_law_numbers_right" s_law_numbers_right)(B:Blt7 mg)(G_nth_word:A9 P w K mg base "nth_word" k ["tree","k"] Oy)(G_number_of:A9 P w K mg base "number_of" k ["tree","word"] Oz):A9 P w K mg base "_law_numbers_right" (k+1) ["tree","count"] MS:=by
 refine D.has BZ (λ_ _ _ _ _ _ us hl=>match us,hl with|[_,_],_=>rfl) (λvs H Q E h=>by obtain⟨t,ups,lab,U,rfl,_⟩:=h;rfl) (λf cdv A outer s H vs Q E hr h=>?_)
 obtain⟨t,ups,lab,U,rfl,tr,un,q⟩:=h
 refine⟨_,(AE (AS (i:=2) BZ.nd rfl (by first|exact Or.inl rfl|exact Or.inr rfl) (Av (AA AF (AA (AU Ia (pv 1) AF) (AA (AU Cq (pv 1) AF) AB)))))
 (AE (CQ (i:=3) BZ.nd rfl (by first|exact Or.inl rfl|exact Or.inr rfl) rfl (Ao (pv 2)) (NL:=["k"]) (ix:=[0]) (En (AG s_law_numbers_right) Bf) (λcl C s₃ H₃ fp pins=>⟨(AQ (i:=0) (show List.Nodup (["k","tree"]:List Str)from by decide+kernel) rfl (by first|exact Or.inl rfl|exact Or.inr rfl)),Ar,(AH G_nth_word hr rfl (AA (pv 1) (AA (pv 0) AB)))⟩))
 (AE (Bs (Ac (IB hr.FJ) (Aw rfl (Ao (pv 3)) (NL:=["word"]) (ix:=[0]) (En (AG s_law_numbers_right) Bf) (λcl C s₃ H₃ fp pins=>⟨(AQ (i:=0) (show List.Nodup (["word","tree"]:List Str)from by decide+kernel) rfl (by first|exact Or.inl rfl|exact Or.inr rfl)),Ar,(AH G_number_of hr rfl (AA (pv 1) (AA (pv 0) AB)))⟩)) (pv 2) (Ad _))
 (AN (AW Cg))
 Au)
 (AN (AW (Kl (B9 (Dx hr.FJ) (pv 3) (AI Ay rfl B.sorted B4 (AA (pv 3) AB)) (Ad _)) (Kk (B9 DN (M5 K rfl rfl B.len rfl B.set_ (AA (pv 3) AB)) (AI (L2J.Hl w rfl) rfl B.len Aa (AA (B3 (L2J.Ex w rfl) rfl B.set_ Io (AA (pv 2) AB)) AB)) (Ad _))))))))),?_⟩
 have u0:=un.pos
 have um:=un.most
 obtain⟨is,his,lt,up,l3⟩:∃is:List Int,is=[0,(U.length:Int) / 2,(U.length:Int) - 1]/\(∀i∈is,0<=i/\i < (U.length:Int))/\is.Pairwise (·<=·)/\is.length=3:=by
  refine⟨_,rfl,λi hi=>?_,?_,rfl⟩
  ·simp only[List.mem_cons,List.not_mem_nil,or_false]at hi
   rcases hi with rfl|rfl|rfl<;>omega
  ·simp only[List.pairwise_cons,List.mem_cons,List.not_mem_nil,or_false]
   refine⟨λa h=>?_,λa h=>?_,λa h=>h.elim,List.Pairwise.nil⟩
   ·rcases h with rfl|rfl<;>omega
   ·subst h;omega
 refine⟨_,rfl,_,_,rfl,rfl,⟨by decide,by decide⟩,_,rfl,_,_,rfl,rfl,(by show 3<=sizeLine;decide),λl0 hl0=>?_⟩
 have e0:([V.int 0,.int ((U.length:Int) / 2),.int ((U.length:Int) - 1)]:List V)=is.map V.int:=by rw[his];rfl
 show(λHH=>_) (upd H l0 (.lst [V.int 0,.int ((U.length:Int) / 2),.int ((U.length:Int) - 1)]))
 rw[e0]
 clear his e0
 have s1:AJ H (upd H l0 (.lst (is.map V.int))):=(AJ.refl H).new hl0
 have h1:upd H l0 (.lst (is.map V.int)) l0=some (.lst (is.map V.int)):=AD
 generalize upd H l0 (.lst (is.map V.int))=H1 at s1 h1
 dsimp only
 let g:=λi:Int=>U.getD i.toNat Str.empty
 refine⟨_,rfl,l0,rfl,⟨_,AZ.of h1⟩,λacc hacc=>?_⟩
 refine Aq (xs:=is.map V.int) (by rw[List.length_map];omega) (λi ys HX=>HX acc=some (.lst ys)/\ys=((is.take i).map g).map V.str/\AJ H1 HX)
  (λi ys HX h=>AZ.of (h.2.2 _ _ h1)) (λi ys HX h=>⟨h.1,by rw[h.2.1,List.length_map,List.length_map,List.length_take];exact Nat.min_le_left _ _⟩) ⟨AD,rfl,(AJ.refl H1).new hacc⟩ ?_ ?_
 rotate_left
 ·rintro i x ys HX hx ⟨g1,rfl,g3⟩
  rw[List.getElem?_map]at hx
  cases e:is[i]? with
  |none=>rw[e]at hx;cases hx
  |some n=>
   rw[e]at hx
   cases hx
   obtain⟨n0,n1⟩:=lt n (List.mem_of_getElem? e)
   refine⟨rfl,_,rfl,_,rfl,t,ups,lab,n,U,rfl,tr.same (s1.trans g3),un.ul,n0,n1,λHY sY=>?_⟩
   refine⟨sY _ _ g1,AD,?_,(g3.trans sY).write hacc⟩
   rw[List.take_succ,e,List.map_append,List.map_append];rfl
 rintro ys H2 ⟨g1,rfl,g3⟩
 rw[List.length_map,List.take_length]at g1
 have ws:∀z∈is.map g,z∈U:=λz hz=>by
  obtain⟨n,hn,rfl⟩:=List.mem_map.mp hz
  obtain⟨n0,n1⟩:=lt n hn
  show U.getD n.toNat Str.empty∈U
  rw[List.getD_eq_getElem?_getD,List.getElem?_eq_getElem (show n.toNat < U.length by omega)]
  exact List.getElem_mem _
 have lw:(is.map g).length=3:=by rw[List.length_map,l3]
 have s2:=s1.trans g3
 have h12:=g3 _ _ h1
 refine⟨_,rfl,acc,rfl,⟨_,AZ.of g1⟩,λac2 hac2=>?_⟩
 refine Aq (xs:=(is.map g).map V.str) (by rw[List.length_map];omega) (λi ys HX=>HX ac2=some (.lst ys)/\ys=(is.take i).map V.int/\AJ H2 HX)
  (λi ys HX h=>AZ.of (h.2.2 _ _ g1)) (λi ys HX h=>⟨h.1,by rw[h.2.1,List.length_map,List.length_take];exact Nat.min_le_left _ _⟩) ⟨AD,rfl,(AJ.refl H2).new hac2⟩ ?_ ?_
 rotate_left
 ·rintro i x ys HX hx ⟨x1,rfl,x3⟩
  rw[List.getElem?_map,List.getElem?_map]at hx
  cases e:is[i]? with
  |none=>rw[e]at hx;cases hx
  |some n=>
   rw[e]at hx
   cases hx
   obtain⟨n0,n1⟩:=lt n (List.mem_of_getElem? e)
   refine⟨rfl,_,rfl,_,rfl,t,ups,lab,_,U,rfl,tr.same (s2.trans x3),un.ul,ws _ (List.mem_map.mpr ⟨n,List.mem_of_getElem? e,rfl⟩),um,λHY sY=>?_⟩
   have ei:=Rq un.nd (i:=n.toNat) (by omega)
   refine⟨sY _ _ x1,AD,?_,(x3.trans sY).write hac2⟩
   rw[List.take_succ,e,List.map_append]
   show _++[V.int ((U.idxOf (U.getD n.toNat Str.empty):Nat):Int)]=_
   rw[ei,show((n.toNat:Nat):Int)=n by omega];rfl
 rintro ys H3 ⟨x1,rfl,x3⟩
 rw[List.length_map,List.length_map,List.take_length]at x1
 have g13:=x3 _ _ g1
 have h13:=x3 _ _ h12
 refine⟨_,rfl,ac2,l0,_,_,rfl,rfl,AZ.of x1,AZ.of h13,Bo _,Bo _,_,rfl,?_⟩
 rw[FP,decide_eq_true rfl]
 refine GW ?_
 refine⟨_,rfl,_,rfl,acc,_,rfl,AZ.of g13,by omega,λso r hp hs hr=>?_⟩
 have eso:so=is.map g:=by
  refine Ba hs ?_ hp
  have:=KW un.so (is:=is.map Int.toNat) ?_ ?_
  ·rw[List.map_map]at this;exact this
  ·rw[List.pairwise_map]
   exact up.imp λ{a b} h=>by omega
  ·intro j hj
   obtain⟨n,hn,rfl⟩:=List.mem_map.mp hj
   obtain⟨n0,n1⟩:=lt n hn
   omega
 subst eso
 have s4:AJ H3 (upd H3 r (.lst ((is.map g).map V.str))):=(AJ.refl H3).new hr
 have h4:upd H3 r (.lst ((is.map g).map V.str)) r=some (.lst ((is.map g).map V.str)):=AD
 generalize upd H3 r (.lst ((is.map g).map V.str))=H4 at s4 h4
 refine⟨acc,r,_,_,rfl,rfl,AZ.of (s4 _ _ g13),AZ.of h4,Bp _,Bp _,?_⟩
 rw[FQ,decide_eq_true rfl]
 have g14:=s4 _ _ g13
 have h14:=s4 _ _ h13
 refine⟨_,rfl,Mr ?_⟩
 refine⟨_,rfl,acc,is.map g,rfl,AZ.of g14,by omega,λxs nx hx=>?_⟩
 refine⟨_,rfl,l0,is,rfl,AZ.of h14,by omega,λa ha=>?_⟩
 have s5:AJ H4 (upd H4 a (L2I.Hk w a is is.length)):=(AJ.refl H4).new ha
 refine⟨a,is,is.length,rfl,AD,by omega,λys ny hy=>⟨rfl,?_⟩⟩
 rw[Nd un.nd lt nx ny hx hy,decide_eq_true rfl]
 exact q _ (((s2.trans x3).trans s4).trans s5)
end
end S24
namespace W24
section
variable {α:Type}[DecidableEq α]
theorem sum_add (D:List α)(f g:α->Nat):(D.map λd=>f d+g d).sum=(D.map f).sum+(D.map g).sum:=by
 induction D with
 |nil=>rfl
 |cons d D ih=>rw[List.map_cons,List.sum_cons,ih,List.map_cons,List.sum_cons,List.map_cons,List.sum_cons];omega
theorem HM (D:List α):(D.map λ_=>0).sum=0:=by
 induction D with
 |nil=>rfl
 |cons d D ih=>rw[List.map_cons,List.sum_cons,ih]
theorem QL {D:List α}(nd:D.Nodup){x:α}(h:x∈D):(D.map λd=>if x=d then 1 else 0).sum=1:=by
 induction D with
 |nil=>cases h
 |cons d D ih=>
  obtain⟨n,nd⟩:=List.nodup_cons.mp nd
  rw[List.map_cons,List.sum_cons]
  by_cases e:x=d
  ·subst e
   rw[if_pos rfl]
   have:(D.map λd=>if x=d then 1 else 0)=D.map λ_=>0:=List.map_congr_left λy hy=>if_neg λq=>n (by rw[q];exact hy)
   rw[this,HM]
  ·rw[if_neg e]
   rcases List.mem_cons.mp h with q|q
   ·exact absurd q e
   ·rw[ih nd q]
theorem HN {β:Type}(p:β->Bool)(f:β->α){D:List α}(nd:D.Nodup):∀{B:List β},(∀b∈B,p b=true->f b∈D)->(D.map λd=>B.countP λb=>p b&&decide (f b=d)).sum=B.countP p
 |[],_=>by simp only[List.countP_nil];exact HM D
 |b::B,h=>by
  have ih:=HN p f nd (B:=B) λc hc=>h c (List.mem_cons_of_mem _ hc)
  have e:(D.map λd=>(b::B).countP λb=>p b&&decide (f b=d))=D.map λd=>(B.countP λb=>p b&&decide (f b=d))+(if p b=true/\f b=d then 1 else 0):=List.map_congr_left λd _=>by
   rw[List.countP_cons]
   simp only[Bool.and_eq_true,decide_eq_true_eq]
  rw[e,sum_add,ih,List.countP_cons]
  congr 1
  by_cases q:p b=true
  ·rw[if_pos q]
   have:(D.map λd=>if p b=true/\f b=d then 1 else 0)=D.map λd=>if f b=d then 1 else 0:=List.map_congr_left λd _=>by simp only[q,true_and]
   rw[this,QL nd (h b List.mem_cons_self q)]
  ·rw[if_neg q]
   have:(D.map λd=>if p b=true/\f b=d then 1 else 0)=D.map λ_=>0:=List.map_congr_left λd _=>if_neg λz=>q z.1
   rw[this,HM]
theorem MT {B D:List α}(nd:D.Nodup)(h:∀b∈B,b∈D):(D.map λd=>B.count d).sum=B.length:=by
 have:=HN (λ_=>true) (λb:α=>b) nd (B:=B) λb hb _=>h b hb
 rw[List.countP_true]at this
 rw[<-this]
 congr 1
theorem Ru {D:List α}{f:α->Nat}{c:Nat}(h:∀d∈D,f d<=c):(D.map f).sum<=c*D.length:=by
 induction D with
 |nil=>exact Nat.zero_le _
 |cons d D ih=>
  have a:=h d List.mem_cons_self
  have b:=ih λx hx=>h x (List.mem_cons_of_mem _ hx)
  rw[List.map_cons,List.sum_cons,List.length_cons,Nat.mul_succ]
  omega
theorem Rv {D:List α}{f:α->Nat}(h:∀d∈D,1<=f d):D.length<=(D.map f).sum:=by
 induction D with
 |nil=>exact Nat.zero_le _
 |cons d D ih=>
  have a:=h d List.mem_cons_self
  have b:=ih λx hx=>h x (List.mem_cons_of_mem _ hx)
  rw[List.map_cons,List.sum_cons,List.length_cons]
  omega
theorem Rw {D:List α}{f:α->Nat}(h:∀d∈D,1<=f d):D.length < (D.map f).sum↔∃d∈D,1 < f d:=by
 induction D with
 |nil=>simp
 |cons d D ih=>
  have a:=h d List.mem_cons_self
  have hD:=λx hx=>h x (List.mem_cons_of_mem d hx)
  have b:=ih hD
  have g:=Rv hD
  rw[List.map_cons,List.sum_cons,List.length_cons]
  constructor
  ·intro l
   rcases Nat.lt_or_ge 1 (f d)with q|q
   ·exact⟨d,List.mem_cons_self,q⟩
   ·obtain⟨x,hx,e⟩:=b.mp (by omega)
    exact⟨x,List.mem_cons_of_mem _ hx,e⟩
  ·rintro⟨x,hx,e⟩
   rcases List.mem_cons.mp hx with rfl|hx
   ·omega
   ·have:=b.mpr ⟨x,hx,e⟩
    omega
end
theorem HQ {α:Type}(f:α->Nat):∀l:List α,(l.map λx=>((f x:Nat):Int)).sum=(((l.map f).sum:Nat):Int)
 |[]=>rfl
 |x::l=>by rw[List.map_cons,List.sum_cons,HQ f l,List.map_cons,List.sum_cons];omega
end W24
namespace L2
open PySem PySem.Spec PyProof.Rows
section
variable {X:Cx}
theorem Nf (hc:X.calm=true):Bg X (.builtin "min") (λvs H Q=>∃(a:Addr) (ns:List Int),vs=[.ref a]/\AZ X.K H a (ns.map V.int)/\ns≠[]/\∀m:Int,m∈ns->(∀x∈ns,m<=x)->Q (.int m) H):=by
 intro pins s σ H xs us Q I r h
 obtain⟨a,ns,rfl,hl,hne,q⟩:=h
 obtain⟨u,rfl,ru⟩:=vals1 r
 cases(show u=Value.ref a from ru)
 obtain⟨its,rv,ht,hz⟩:=I.list hl
 have hlen:=rv.length
 rw[List.length_map]at hlen
 have hh:X.A.in1.handled=none:=I.ok.hd hc
 have hlt:a < s.heap.objs.size:=by obtain⟨o,e,_⟩:=ht.isList;exact Heap.lt_size e
 have hpos:0 < ns.length:=List.length_pos_iff.mpr hne
 refine call_min_walk (wpAny_pyIter_list ht.isList ⟨s.heap.objs.size,_,_,_,_,_,_,rfl,Walks.list hh s.heap.objs.size a (Nat.ne_of_lt hlt) its.toArray,?_,?_,?_,CmpOf.ints_lt (λi=>ns.getD i 0) ?_,?_⟩)
 ·exact⟨⟨_,Heap.get?_push_size _ rfl,rfl,rfl⟩,Heap.IsList.push ht.isList _⟩
 ·intro b hb
  have:b=s.heap.objs.size\/b=a:=by simpa using hb
  show b < (s.heap.objs.push _).size
  rw[Array.size_push]
  rcases this with rfl|rfl
  ·exact Nat.lt_succ_self _
  ·exact Nat.lt_succ_of_lt hlt
 ·rw[List.size_toArray,<-hlen];exact hpos
 ·intro i v hv
  have hv':its[i]?=some v:=by simpa using hv
  have hi:i < (ns.map V.int).length:=by rw[List.length_map,hlen];exact(List.getElem?_eq_some_iff.mp hv').1
  obtain⟨u',e1,e2⟩:=rv.get (List.getElem?_eq_getElem hi)
  rw[hv']at e1
  cases e1
  rw[List.getElem_map]at e2
  obtain⟨t,e2⟩:∃t,v=Value.int _ t:=e2
  have hb:ns.getD i 0=ns[i]'(by simpa using hi):=by rw[List.getD_eq_getElem?_getD,List.getElem?_eq_getElem (by simpa using hi)];rfl
  exact⟨t,by rw[hb];exact e2⟩
 ·intro v h' tk hv hk
  rw[List.size_toArray,<-hlen]at hv
  obtain⟨b1,b2⟩:=least_le (λi=>ns.getD i 0) (ns.length - 1)
  generalize argBest (λi j=>decide (ns.getD i 0 < ns.getD j 0)) (ns.length - 1)=m at hv b1 b2
  have hv':its[m]?=some v:=by simpa using hv
  have hi:m < (ns.map V.int).length:=by rw[List.length_map];omega
  obtain⟨u',e1,e2⟩:=rv.get (List.getElem?_eq_getElem hi)
  rw[hv']at e1
  cases e1
  rw[List.getElem_map]at e2
  have hb:ns.getD m 0=ns[m]'(by omega):=by rw[List.getD_eq_getElem?_getD,List.getElem?_eq_getElem (by omega)];rfl
  refine⟨.int (ns[m]'(by omega)),H,?_,e2,q _ (List.getElem_mem _) λx hx=>?_⟩
  ·exact I.kept (t':=tk) λb o e=>hk b o (by simp;exact Nat.ne_of_lt (Heap.lt_size e)) (Heap.get?_push_of_some _ e)
  ·obtain⟨j,hj,rfl⟩:=List.getElem_of_mem hx
   have g:=b2 j (by omega)
   have hb2:ns.getD j 0=ns[j]:=by rw[List.getD_eq_getElem?_getD,List.getElem?_eq_getElem hj];rfl
   show _<=ns[j]
   rw[<-hb,<-hb2];exact g
end
end L2
namespace S24
open PySem L2 W7
structure O9 (mg:Str->Option Value):Prop extends Blt7 mg where
 sum:mg "sum"=none
 dict_:mg "dict"=none
theorem LV:bootBuiltins "sum"=some (.builtin "sum"):=by decide+kernel
theorem Fn {c:Bool}{A B:Prop}(e:c=false)(h:B):if c=true then A else B:=by subst e;exact h
theorem Qh {x y:V}(e:x=y):(!decide (x=y))=false:=by rw[decide_eq_true e];rfl
section
variable {ups:List Int}{lab:Str}
def CP (U:List Str)(l:Nat):List Str:=U.filter λz=>decide (z.length=l)
theorem HR (U:List Str)(l:Nat):(B8 U).count (l:Int)=(CP U l).length:=by
 unfold B8 CP List.count
 rw[List.countP_map,<-List.countP_eq_length_filter]
 refine List.countP_congr λz _=>?_
 simp only[Function.comp,beq_iff_eq,decide_eq_true_eq]
 omega
theorem Br {U:List Str}(mem:∀z,z∈U↔F0 ups lab z){l:Nat}{z:Str}:z∈CP U l↔F0 ups lab z/\z.length=l:=by
 unfold CP;rw[List.mem_filter,mem,decide_eq_true_eq]
theorem PB {U:List Str}(nd:U.Nodup)(mem:∀z,z∈U↔F0 ups lab z){l:Nat}(hl:1<=l):((CP U l).map (cnt ups lab)).sum=(Fl ups lab l).length:=by
 rw[<-W24.MT (B:=Fl ups lab l) (D:=CP U l) (nd.filter _) λb hb=>(Br mem).mpr ((HG hl).mp hb)]
 congr 1
 refine List.map_congr_left λd hd=>?_
 exact(HI ((Br mem).mp hd).2).symm
theorem PD {z:Str}(l:Nat):cnt ups lab z<=cnt ups lab (mk (z.cps.toList.take l)):=by
 rw[B6,B6]
 refine List.countP_mono_left λw _ h=>?_
 have:=List.isPrefixOf_iff_prefix.mp h
 exact List.isPrefixOf_iff_prefix.mpr ((List.take_prefix _ _).trans this)
theorem HS {z:Str}{l:Nat}(h:l<=z.length):(mk (z.cps.toList.take l)).length=l:=by
 rw[DK,List.length_take]
 have:=AY z
 omega
theorem HU {z:Str}(h:F0 ups lab z){l:Nat}(hl:1<=l):F0 ups lab (mk (z.cps.toList.take l)):=by
 obtain⟨h1,w,hw,p⟩:=Co.mp h
 refine Co.mpr ⟨λe=>?_,w,hw,(List.take_prefix _ _).trans p⟩
 have e':z.cps.toList.take l=[]:=e
 have q1:=congrArg List.length e'
 rw[List.length_take,List.length_nil]at q1
 have:=List.length_pos_iff.mpr h1
 omega
def UI (ups:List Int)(lab:Str)(n:Nat):Prop:=(Rl ups lab/\n=0)\/∃z,UE ups lab z/\z.length=n
theorem Ng {n l:Nat}(a:UI ups lab n)(hl:1<=l):(∃d,F0 ups lab d/\d.length=l/\1 < cnt ups lab d)↔l<=n:=by
 rcases a with⟨no,rfl⟩|⟨z,az,rfl⟩
 ·exact⟨λ⟨d,a,_,c⟩=>absurd c (no d a),λh=>by omega⟩
 ·refine⟨λ⟨d,a,b,c⟩=>by have:=(az.2.2 d a c).1;omega,λh=>⟨mk (z.cps.toList.take l),HU az.1 hl,HS h,Nat.lt_of_lt_of_le az.2.1 (PD l)⟩⟩
theorem QM {U:List Str}{m:Int}(hx:∀z∈U,1<=z.length/\(z.length:Int)<=m):(Ov (B8 U) m).sum=((U.length:Nat):Int):=by
 unfold Ov
 rw[W24.HQ (λj:Nat=>(B8 U).count (1+(j:Int)))]
 have e:((List.range m.toNat).map λj:Nat=>(B8 U).count (1+(j:Int)))=(((List.range m.toNat).map λj:Nat=>1+(j:Int)).map λd=>(B8 U).count d):=by rw[List.map_map];rfl
 rw[e,W24.MT]
 ·unfold B8;rw[List.length_map]
 ·exact C5 (λa b h=>by omega) List.nodup_range
 ·intro b hb
  obtain⟨z,hz,rfl⟩:=List.mem_map.mp hb
  obtain⟨h1,h2⟩:=hx z hz
  exact List.mem_map.mpr ⟨z.length - 1,List.mem_range.mpr (by omega),by omega⟩
theorem QN {U:List Str}{m:Int}(mem:∀z,z∈U↔F0 ups lab z)(hm:m∈B8 U):∀x∈Ov (B8 U) m,1<=x:=by
 intro x hx
 obtain⟨j,hj,rfl⟩:=List.mem_map.mp hx
 have hj:=List.mem_range.mp hj
 obtain⟨z,hz,rfl⟩:=List.mem_map.mp hm
 have e:(1+(j:Int))=((1+j:Nat):Int):=by omega
 rw[e,HR]
 have:mk (z.cps.toList.take (1+j))∈CP U (1+j):=(Br mem).mpr ⟨HU ((mem z).mp hz) (by omega),HS (by omega)⟩
 have:=List.length_pos_of_mem this
 omega
theorem Nh {U:List Str}{m:Int}(nd:U.Nodup)(mem:∀z,z∈U↔F0 ups lab z)(hm:m∈B8 U){n l:Nat}(a:UI ups lab n)(h1:1<=l)(h2:(l:Int)<=m):
 ¬Qe ups lab (l:Int)/\∀z,Ow ups lab (l:Int) z->(Fl ups lab l).length<=cnt ups lab z*(CP U l).length/\((CP U l).length < (Fl ups lab l).length↔l<=n)/\(1 < cnt ups lab z↔l<=n):=by
 obtain⟨y,hy,ey⟩:=List.mem_map.mp hm
 have hy2:l<=y.length:=by omega
 have py:=HU ((mem y).mp hy) h1
 have ly:=HS hy2
 refine⟨λno=>no _ py (by rw[ly]),λz mz=>?_⟩
 have best:∀d∈CP U l,cnt ups lab d<=cnt ups lab z:=λd hd=>by
  obtain⟨a1,a2⟩:=(Br mem).mp hd
  exact(mz.2.2 d a1 (by omega)).1
 have one:∀d∈CP U l,1<=cnt ups lab d:=λd hd=>by
  obtain⟨a1,a2⟩:=(Br mem).mp hd
  rw[B6]
  obtain⟨_,w,hw,p⟩:=Co.mp a1
  exact List.countP_pos_iff.mpr ⟨w,hw,List.isPrefixOf_iff_prefix.mpr p⟩
 have zl:z∈CP U l:=(Br mem).mpr ⟨mz.1,by have:=mz.2.1;omega⟩
 rw[<-PB nd mem h1,<-Ng a h1]
 refine⟨W24.Ru best,(W24.Rw one).trans ?_,?_⟩
 ·constructor
  ·rintro⟨d,hd,c⟩
   obtain⟨a1,a2⟩:=(Br mem).mp hd
   exact⟨d,a1,a2,c⟩
  ·rintro⟨d,a1,a2,c⟩
   exact⟨d,(Br mem).mpr ⟨a1,a2⟩,c⟩
 ·constructor
  ·intro c
   exact⟨z,mz.1,by have:=mz.2.1;omega,c⟩
  ·rintro⟨d,a1,a2,c⟩
   have:=(mz.2.2 d a1 (by omega)).1
   omega
theorem LW {x z:Str}{l:Nat}(hz:z.length=l):BU x none (some (l:Int))=z↔z.cps.toList.isPrefixOf x.cps.toList=true:=by
 rw[List.isPrefixOf_iff_prefix,List.prefix_iff_eq_take,AY,hz]
 have e:BU x none (some (l:Int))=mk (x.cps.toList.take l):=BW (Em x l)
 rw[e]
 constructor
 ·rintro rfl;rfl
 ·intro h;rw[<-h];exact MJ z
end
theorem Al.kt {ls:List Lm}{H H':Hp}{t:Addr}{ups:List Int}{lab:Str}(h:Al H t ups lab)(k:Kt ls H H'):Al H' t ups lab:=by
 obtain⟨u,a,b,c⟩:=h
 exact⟨u,k.tup a,k.tup b,c⟩
theorem Rx {H:Hp}{r l:Addr}{ups:List Int}{lab:Str}(ok:A6 ups lab.cps.toList)(h:S0 H r l ups lab):∃(ag:Str) (ns:List Int),H r=some (.tup [.str ag,.ref l])/\H l=some (.lst (ns.map V.int))/\UI ups lab ag.length/\ag.length<=60/\(ag.length=0\/F0 ups lab ag)/\
 ((ag=Str.empty/\ns=[])\/(ag≠Str.empty/\ns=Cz ups lab ups.length ag)):=by
 rcases h with⟨no,a,b⟩|⟨z,az,a,b⟩
 ·exact⟨Str.empty,[],a,b,.inl ⟨no,rfl⟩,by decide,.inl rfl,.inl ⟨rfl,rfl⟩⟩
 ·refine⟨z,_,a,b,.inr ⟨z,az,rfl⟩,(B7 ok az.1).2,.inr az.1,.inr ⟨λe=>?_,rfl⟩⟩
  have:=(B7 ok az.1).1
  rw[e]at this
  exact absurd this (by decide)
section
variable {P:Program}{w:World}{K:PySem.W.Frag}{mg:Str->Option Value}{base:Heap}{k:Nat}
def MU (ls:List Lm):Sp:=λvs H Q _=>∃(t:Addr) (ups:List Int) (lab:Str) (U:List Str),vs=[.ref t,.int ((U.length:Nat):Int)]/\Al H t ups lab/\R9 ups lab U/\Ct ls H/\∀H',Kt ls H H'->Q (.bl true) H'
theorem PF {ls:List Lm}(D:Df K mg "_law_lengths_right" s_law_lengths_right)(B:O9 mg)(G_by_lengths:A9 P w K mg base "by_lengths" k ["tree"] KD)(G_longest_again:A9 P w K mg base "longest_again" k ["tree"] O0)
 (G_places_of:A9 P w K mg base "places_of" k ["tree","word"] EA)(G_law_word:A9 P w K mg base "_law_word" k ["tree","place"] Dp)(G_most_read:A9 P w K mg base "most_read" k ["tree","length"] (Qg ls)):A9 P w K mg base "_law_lengths_right" (k+1) ["tree","count"] (MU ls):=by
 refine D.has AV (λ_ _ _ _ _ _ us hl=>match us,hl with|[_,_],_=>rfl) (λvs H Q E h=>by obtain⟨t,ups,lab,U,rfl,_⟩:=h;rfl) (λf cdv A outer s H vs Q E hr h=>?_)
 obtain⟨t,ups,lab,U,rfl,tr,un,LL,q⟩:=h
 refine⟨_,(AE (AS (i:=2) AV.nd rfl (by first|exact Or.inl rfl|exact Or.inr rfl) (AH G_by_lengths hr rfl (AA (pv 0) AB)))
 (AE (GR (AH G_longest_again hr rfl (AA (pv 0) AB)) (EM rfl (Ah (AQ (i:=3) AV.nd rfl (by first|exact Or.inl rfl|exact Or.inr rfl)) (Ah (AQ (i:=4) AV.nd rfl (by first|exact Or.inl rfl|exact Or.inr rfl)) Bt))))
 (AE (Bs (PW.pt (Ee (Ac Eh (AI (Fe K rfl) rfl B.sum LV (AA (pv 2) AB)) (pv 1) (Ad _)) (Ee (Ac JX (AI (Nf rfl) rfl B.min FO (AA (pv 2) AB)) AF (Ad _)) (EK (Ac (IB hr.FJ) (pv 4) (AU Q7 (AH G_places_of hr rfl (AA (pv 0) (AA (pv 3) AB))) (B3 Ht rfl B.int_ Ku (AA (B9 Eh (pv 3) FE (Ad _)) AB))) (Ad _))))))
 (AN (AW Cg))
 Au)
 (AE (CQ (i:=5) AV.nd rfl (by first|exact Or.inl rfl|exact Or.inr rfl) rfl (C0 rfl B.range (AA (AI AR rfl B.len Aa (AA (Ai CL (pv 0) AF (λ_ _=>rfl)) AB)) AB)) (NL:=["place"]) (ix:=[0]) (En (AG s_law_lengths_right) BJ) (λcl C s₃ H₃ fp pins=>⟨(AQ (i:=0) (show List.Nodup (["place","tree"]:List Str)from by decide+kernel) rfl (by first|exact Or.inl rfl|exact Or.inr rfl)),Ar,(AH G_law_word hr rfl (AA (pv 1) (AA (pv 0) AB)))⟩))
 (AE (Cp PassesOwn.never rfl (Ao (AI (L2I.Fh w rfl) rfl B.sorted Gj (AA (B3 (L2J.Ex w rfl) rfl B.set_ Io (AA (Av (AA (AI (Ds rfl) rfl B.max ES (AA AF (AA (AI AR rfl B.len Aa (AA (pv 3) AB)) AB))) (AA (AI (Dt rfl) rfl B.min FO (AA (AI Ab rfl B.len Aa (AA (pv 2) AB)) (AA (AU BE (AI AR rfl B.len Aa (AA (pv 3) AB)) AF) AB))) AB))) AB)) AB))) (AQ (i:=6) AV.nd rfl (by first|exact Or.inl rfl|exact Or.inr rfl))
 (AE (AS (i:=7) AV.nd rfl (by first|exact Or.inl rfl|exact Or.inr rfl) (Ai Aj (pv 2) (AU Cq (pv 6) AF) (λ_ _=>rfl)))
 (AE (AS (i:=8) AV.nd rfl (by first|exact Or.inl rfl|exact Or.inr rfl) (AI Ab rfl B.len Aa (AA (Aw rfl (Ao (pv 5)) (NL:=["word"]) (ix:=[6]) (En (AG s_law_lengths_right) BJ) (λcl C s₃ H₃ fp pins=>⟨(AQ (i:=0) (show List.Nodup (["word","length"]:List Str)from by decide+kernel) rfl (by first|exact Or.inl rfl|exact Or.inr rfl)),(Bx (Ac Nz (AI AR rfl B.len Aa (AA (pv 0) AB)) (pv 1) (Ad _))),(pv 0)⟩)) AB)))
 (AE (GR (AH G_most_read hr rfl (AA (pv 0) (AA (pv 6) AB))) (EM rfl (Ah (AQ (i:=9) AV.nd rfl (by first|exact Or.inl rfl|exact Or.inr rfl)) (Ah (AQ (i:=10) AV.nd rfl (by first|exact Or.inl rfl|exact Or.inr rfl)) Bt))))
 (AE (Bs (PW.pt (Ee (Ac Eh (AI AR rfl B.len Aa (AA (pv 9) AB)) (pv 6) (Ad _)) (EK (Ac Eh (AI Ab rfl B.len Aa (AA (Aw rfl (Ao (pv 5)) (NL:=["one"]) (ix:=[6,9]) (En (AG s_law_lengths_right) BJ) (λcl C s₃ H₃ fp pins=>⟨(AQ (i:=0) (show List.Nodup (["one","length","word"]:List Str)from by decide+kernel) rfl (by first|exact Or.inl rfl|exact Or.inr rfl)),(Bx (Ac DN (Ap Bk (pv 0) BI (A4 (pv 1))) (pv 2) (Ad _))),(pv 0)⟩)) AB)) (pv 10) (Ad _)))))
 (AN (AW Cg))
 Au)
 (AE (Bs (Ac JX (AU C9 (pv 10) (pv 7)) (pv 8) (Ad _))
 (AN (AW Cg))
 Au)
 (AN (Bs (PW.pt (Ee (Ac Eh (B9 JX (pv 7) (pv 8) (Ad _)) (B9 Ny (pv 6) (AI AR rfl B.len Aa (AA (pv 3) AB)) (Ad _)) (Ad _)) (EK (Ac Eh (B9 Li (pv 10) AF (Ad _)) (B9 Ny (pv 6) (AI AR rfl B.len Aa (AA (pv 3) AB)) (Ad _)) (Ad _)))))
 (AN (AW Cg))
 Au))))))))
 (AN (AW Cg))))))),?_⟩
 obtain⟨_,_,_,ok⟩:=id tr
 have m60:=ok.most
 have lpos:=ok.pos
 have u0:=un.pos
 have um:=un.most
 have wln:=An ups lab
 have wle:=A7 ok
 refine⟨_,rfl,t,ups,lab,rfl,tr,λss rf m H1 hp hs hm hx s1 hf1 hrf=>?_⟩
 have mem:∀z,z∈U↔F0 ups lab z:=λz=>by rw[<-un.ul ss hp hs];exact CI hp z
 rw[un.ul ss hp hs]at hm hx hrf
 have zl:∀z∈U,1<=z.length/\z.length<=60:=λz hz=>B7 ok ((mem z).mp hz)
 have zm:∀z∈U,1<=z.length/\(z.length:Int)<=m:=λz hz=>⟨(zl z hz).1,hx _ (List.mem_map.mpr ⟨z,hz,rfl⟩)⟩
 have m1:1<=m/\m<=60:=by
  obtain⟨z,hz,rfl⟩:=List.mem_map.mp hm
  have:=zl z hz
  omega
 have bs:=QM zm
 have bp:=QN mem hm
 have bl:=P8 (B8 U) m
 have bat:∀l:Nat,1<=l->(l:Int)<=m->(Ov (B8 U) m)[l - 1]?=some (((CP U l).length:Nat):Int):=λl a b=>by
  have:=Rk (ns:=B8 U) (m:=m) (x:=(l:Int)) (by omega) b
  rw[HR]at this
  rw[<-this];congr 1;omega
 have bmx:∀x∈Ov (B8 U) m,x<=1000000:=λx hx=>by
  obtain⟨j,_,rfl⟩:=List.mem_map.mp hx
  have:=List.count_le_length (a:=1+(j:Int)) (l:=B8 U)
  unfold B8 at this ⊢
  rw[List.length_map]at this
  omega
 generalize Ov (B8 U) m=B0 at hrf bs bp bl bat bmx
 refine⟨_,rfl,t,ups,lab,rfl,tr.same s1,λra l H2 s2 hfl ag2=>?_⟩
 obtain⟨ag,ns,hra,hl,an,ag60,agp,agc⟩:=Rx ok ag2
 have agm:((ag.length:Nat):Int)<=m:=by
  rcases agp with e|e
  ·omega
  ·exact(zm ag ((mem ag).mpr e)).2
 have ags:ag.length<=sizeLine:=Nat.le_of_lt (AM (by omega))
 refine⟨ra,_,rfl,Ce.of hra,rfl,_,_,rfl,_,_,rfl,rfl,?_⟩
 have s12:=s1.trans s2
 have hrf2:=s2 _ _ hrf
 refine⟨_,rfl,rf,B0,rfl,AZ.of hrf2,λn hn=>⟨by have:=bp n hn;omega,bmx n hn⟩,by omega,_,rfl,rfl,_,rfl,Fn (Qh (by rw[bs])) ?_⟩
 refine⟨_,rfl,rf,B0,rfl,AZ.of hrf2,λe=>by rw[e]at bl;simp at bl;omega,λx hx hmin=>?_⟩
 have:=bp x hx
 refine⟨_,_,rfl,rfl,_,rfl,Fn (decide_eq_false (by omega)) ?_⟩
 have nsl:ns.length<=60:=by
  rcases agc with⟨_,e⟩|⟨_,e⟩
  ·rw[e];exact Nat.zero_le _
  ·rw[e];exact Nat.le_trans (D8 _ _ _ _) m60
 refine⟨_,rfl,_,rfl,_,rfl,t,ups,lab,ag,rfl,tr.same s12,λrp H3 s3 hfp hrp=>?_⟩
 have hl3:=s3 _ _ hl
 have pl:=D8 ups lab ups.length ag
 refine⟨_,rfl,rfl,.inr ⟨_,rfl,rp,_,_,rfl,rfl,hrp,?_,?_,?_,λrq hrq=>?_⟩⟩
 ·split<;>decide
 ·split<;>decide
 ·rw[List.length_map]
  refine Nat.le_of_lt (AM ?_)
  split
  ·show(Cz ups lab ups.length ag).length*1<=_;omega
  ·show(Cz ups lab ups.length ag).length*0<=_;omega
 have se:(Str.ofString "":Str)=Str.empty:=by decide
 have e3:∀b:Bool,b=(!decide (V.str ag=V.str (Str.ofString "")))->(List.replicate (if b=true then(1:Int)else 0).toNat ((Cz ups lab ups.length ag).map V.int)).flatten=ns.map V.int:=λb eb=>by
  rcases agc with⟨e1,e2⟩|⟨e1,e2⟩
  ·have:b=false:=by rw[eb,e1,se];simp
   subst this;rw[e2];rfl
  ·have:b=true:=by
    rw[eb,se,decide_eq_false (λz=>e1 (by injection z))];rfl
   subst this;rw[e2]
   show(List.replicate 1 _).flatten=_
   simp
 have s34:=(AJ.refl H3).new (o:=.lst (ns.map V.int)) hrq
 refine⟨l,rq,ns.map V.int,ns.map V.int,rfl,rfl,AZ.of (by rw[AL (AK hl3 hrq)];exact hl3),AZ.of (by rw[AD,e3 _ rfl]),Bo _,Bo _,_,rfl,Fn (by rw[FP,decide_eq_true rfl];rfl) ?_⟩
 rw[e3 _ rfl]
 have s4:=(s12.trans s3).trans s34
 have hrf4:=s34 _ _ (s3 _ _ hrf2)
 generalize upd H3 rq (.lst (ns.map V.int))=H4 at s4 hrf4
 obtain⟨u4,ht4,hu4,_⟩:=id (tr.same s4)
 have ll:lab.length=ups.length:=by rw[ok.len];simp[Str.length]
 refine⟨_,rfl,t,_,_,_,rfl,rfl,Ce.of ht4,rfl,lab,rfl,Nat.le_of_lt (AM (by omega)),_,rfl,?_,?_,λwd hwd=>?_⟩
 ·omega
 ·omega
 have eN:((lab.length:Nat):Int).toNat=ups.length:=by omega
 refine By (((lab.length:Nat):Int).toNat) (by omega) (λj ys H'=>H' wd=some (.lst ys)/\ys=BR ups lab j/\AJ H4 H')
  (λj ys H' h=>⟨h.1,by rw[h.2.1];simp[BR]⟩) ⟨AD,rfl,(AJ.refl H4).new hwd⟩ ?_ ?_
 rotate_left
 ·rintro j ys H' hj ⟨g1,rfl,g3⟩
  refine⟨hj,?_⟩
  rw[eN]at hj
  rintro x HX ⟨rfl,rfl⟩
  refine⟨rfl,?_⟩
  refine⟨_,rfl,_,rfl,t,ups,lab,0+(j:Int),rfl,(tr.same s4).same g3,by omega,g1,AD,?_,g3.write hwd⟩
  have eR:R ups lab.cps.toList (0+(j:Int))=W ups lab.cps.toList j:=by
   unfold R
   rw[if_neg (by omega),Int.zero_add,Int.toNat_natCast]
  rw[eR]
  unfold BR
  rw[List.range_succ,List.map_append];rfl
 rintro ys H5 ⟨g1,rfl,g3⟩
 refine⟨Nat.le_refl _,?_⟩
 rw[eN,Bd]at g1
 have s5:=s4.trans g3
 have hrf5:=g3 _ _ hrf4
 have k5:=Kt.of s5 LL
 have tr5:=tr.same s5
 refine⟨_,rfl,_,rfl,ags,_,_,rfl,?_⟩
 refine⟨_,rfl,rf,_,rfl,.inl (AZ.of hrf5),_,rfl,_,rfl,ags,_,_,rfl,rfl,_,_,rfl,(by show 2<=sizeLine;decide),λr0 hr0=>?_⟩
 rw[List.length_map,bl]
 have two:∀x:Int,x∈[if((ag.length:Nat):Int) > 1 then((ag.length:Nat):Int)else 1,if((ag.length:Nat):Int)+1 < ((m.toNat:Nat):Int)then((ag.length:Nat):Int)+1 else((m.toNat:Nat):Int)]->1<=x/\x<=m:=λx hx=>by
  simp only[List.mem_cons,List.not_mem_nil,or_false]at hx
  rcases hx with rfl|rfl<;>split<;>omega
 have ln:∀a b:Int,[a,b].length=2:=λ_ _=>rfl
 have ln:=ln (if((ag.length:Nat):Int) > 1 then((ag.length:Nat):Int)else 1) (if((ag.length:Nat):Int)+1 < ((m.toNat:Nat):Int)then((ag.length:Nat):Int)+1 else((m.toNat:Nat):Int))
 have ex:∀a b:Int,([.int a,.int b]:List V)=[a,b].map V.int:=λ_ _=>rfl
 rw[ex]
 have s6:AJ H5 (upd H5 r0 (.lst ([if((ag.length:Nat):Int) > 1 then((ag.length:Nat):Int)else 1,if((ag.length:Nat):Int)+1 < ((m.toNat:Nat):Int)then((ag.length:Nat):Int)+1 else((m.toNat:Nat):Int)].map V.int))):=(AJ.refl H5).new hr0
 have h6:upd H5 r0 (.lst ([if((ag.length:Nat):Int) > 1 then((ag.length:Nat):Int)else 1,if((ag.length:Nat):Int)+1 < ((m.toNat:Nat):Int)then((ag.length:Nat):Int)+1 else((m.toNat:Nat):Int)].map V.int)) r0=some (.lst ([if((ag.length:Nat):Int) > 1 then((ag.length:Nat):Int)else 1,if((ag.length:Nat):Int)+1 < ((m.toNat:Nat):Int)then((ag.length:Nat):Int)+1 else((m.toNat:Nat):Int)].map V.int)):=AD
 show(λHH=>_) (upd H5 r0 (.lst ([if((ag.length:Nat):Int) > 1 then((ag.length:Nat):Int)else 1,if((ag.length:Nat):Int)+1 < ((m.toNat:Nat):Int)then((ag.length:Nat):Int)+1 else((m.toNat:Nat):Int)].map V.int)))
 generalize[if((ag.length:Nat):Int) > 1 then((ag.length:Nat):Int)else 1,if((ag.length:Nat):Int)+1 < ((m.toNat:Nat):Int)then((ag.length:Nat):Int)+1 else((m.toNat:Nat):Int)]=xs at two ln s6 h6
 generalize upd H5 r0 (.lst (xs.map V.int))=H6 at s6 h6
 refine⟨r0,xs,rfl,AZ.of h6,by omega,λr1 hr1=>?_⟩
 have s7:AJ H6 (upd H6 r1 (L2I.Hk w r1 xs xs.length)):=(AJ.refl H6).new hr1
 refine⟨r1,xs,xs.length,rfl,AD,by omega,λys r2 ny hy py ly hr2=>?_⟩
 have s8:=s7.new (o:=.lst (ys.map V.int)) hr2
 have h8:upd (upd H6 r1 (L2I.Hk w r1 xs xs.length)) r2 (.lst (ys.map V.int)) r2=some (.lst (ys.map V.int)):=AD
 generalize upd (upd H6 r1 (L2I.Hk w r1 xs xs.length)) r2 (.lst (ys.map V.int))=H8 at s8 h8
 have s58:=s6.trans s8
 have k8:=k5.same s58
 have gw:=s58 _ _ g1
 have grf:=s58 _ _ hrf5
 refine⟨r2,rfl,⟨_,AZ.of h8⟩,?_⟩
 refine Ef (xs:=ys.map V.int) (λi σ H'=>∃o6 o7 o8 o9 o10:Option V,σ=[some (.ref t),some (.int ((U.length:Nat):Int)),some (.ref rf),some (.str ag),some (.ref l),some (.ref wd),o6,o7,o8,o9,o10]/\Kt ls H8 H')
  ⟨none,none,none,none,none,rfl,Kt.refl k8.lam⟩ (λi σ H' _ h=>by obtain⟨_,_,_,_,_,_,kX⟩:=h;exact AZ.of (kX.lst h8)) ?_ ?_
 rotate_left
 ·rintro σ H' ⟨o6,o7,o8,o9,o10,rfl,kX⟩
  exact q _ (k8.trans kX)
 rintro i x σ H' hx ⟨o6,o7,o8,o9,o10,rfl,kX⟩
 obtain⟨L,hL,rfl⟩:=List.mem_map.mp (List.mem_of_getElem? hx)
 obtain⟨L1,Lm⟩:=two L ((hy L).mp hL)
 obtain⟨n,rfl⟩:∃n:Nat,L=(n:Int):=⟨L.toNat,by omega⟩
 have n1:1<=n:=by omega
 obtain⟨nn,best⟩:=Nh un.nd mem hm an n1 Lm
 have at1:Ec (B0.map V.int) ((n:Int) - 1)=some (.int (((CP U n).length:Nat):Int)):=by
  have:=Bb (xs:=B0.map V.int) (j:=n - 1) (v:=.int (((CP U n).length:Nat):Int)) (by rw[List.getElem?_map,bat n n1 Lm];rfl)
  rw[show(((n - 1:Nat)):Int)=(n:Int) - 1 by omega]at this
  exact this
 refine⟨_,rfl,_,rfl,_,_,rfl,rfl,rf,_,_,_,rfl,rfl,AZ.of (kX.lst grf),at1,?_⟩
 have gwX:=kX.lst gw
 refine⟨_,rfl,wd,rfl,⟨_,AZ.of gwX⟩,λacc hacc=>?_⟩
 refine Aq (xs:=(AO ups lab).map V.str) (by rw[List.length_map];omega) (λi ys HX=>HX acc=some (.lst ys)/\ys=(((AO ups lab).take i).filter λz=>decide (n<=z.length)).map V.str/\AJ H' HX)
  (λi ys HX h=>AZ.of (h.2.2 _ _ gwX)) (λi ys HX h=>⟨h.1,by rw[h.2.1];exact Dr⟩) ⟨AD,by simp,(AJ.refl H').new hacc⟩ ?_ ?_
 rotate_left
 ·rintro i x ys HX hx ⟨e1,rfl,e3⟩
  obtain⟨y,hy,rfl⟩:=A3 hx
  have yb:=wle y (List.mem_of_getElem? hy)
  refine⟨rfl,_,rfl,y,rfl,Nat.le_of_lt (AM (by omega)),_,rfl,_,_,rfl,rfl,_,rfl,Cf (λcnd=>?_) (λcnd=>?_)⟩
  ·exact⟨_,rfl,e1,AD,by rw[BM hy true (decide_eq_true (by have:=of_decide_eq_true cnd;omega))];rfl,e3.write hacc⟩
  ·exact⟨e1,by rw[BM hy false (decide_eq_false (by have:=of_decide_eq_false (Bool.eq_false_iff.mpr cnd);omega))];simp,e3⟩
 rintro ys2 HA ⟨e1,rfl,e3⟩
 rw[List.length_map,List.take_length]at e1
 refine⟨acc,_,rfl,.inl (AZ.of e1),?_⟩
 have there:(((AO ups lab).filter λz=>decide (n<=z.length)).map V.str).length=(Fl ups lab n).length:=by unfold Fl;rw[List.length_map,List.length_map]
 rw[there]
 have kA:=kX.same e3
 refine⟨_,rfl,_,rfl,t,ups,lab,(n:Int),rfl,(tr5.same s58).kt kA,kA.lam,by omega,λv HB kt mo=>?_⟩
 have kB:=kA.trans kt
 rcases mo with⟨no,_⟩|⟨z,r,mz,rfl,hr'⟩
 ·exact absurd no nn
 obtain⟨c1,c2,c3⟩:=best z mz
 have zn:z.length=n:=by have:=mz.2.1;omega
 have cz:cnt ups lab z<=60:=Nat.le_trans (D8 _ _ _ _) m60
 have zs:z.length<=sizeLine:=Nat.le_of_lt (AM (by omega))
 refine⟨r,_,rfl,Ce.of hr',rfl,_,_,rfl,_,_,rfl,rfl,?_⟩
 refine⟨_,rfl,z,rfl,zs,_,rfl,rfl,_,rfl,Fn (Qh (by rw[zn])) ?_⟩
 have gwB:=kB.lst gw
 refine⟨_,rfl,wd,rfl,⟨_,AZ.of gwB⟩,λac2 hac2=>?_⟩
 refine Aq (xs:=(AO ups lab).map V.str) (by rw[List.length_map];omega) (λi ys HX=>HX ac2=some (.lst ys)/\ys=(((AO ups lab).take i).filter λy=>z.cps.toList.isPrefixOf y.cps.toList).map V.str/\AJ HB HX)
  (λi ys HX h=>AZ.of (h.2.2 _ _ gwB)) (λi ys HX h=>⟨h.1,by rw[h.2.1];exact Dr⟩) ⟨AD,by simp,(AJ.refl HB).new hac2⟩ ?_ ?_
 rotate_left
 ·rintro i x ys HX hx ⟨e1,rfl,e3⟩
  obtain⟨y,hy,rfl⟩:=A3 hx
  have yb:=wle y (List.mem_of_getElem? hy)
  refine⟨rfl,_,rfl,_,rfl,_,rfl,y,rfl,Nat.le_of_lt (AM (by omega)),_,rfl,rfl,_,rfl,Cf (λcnd=>?_) (λcnd=>?_)⟩
  ·have c:=of_decide_eq_true cnd
   injection c with c
   exact⟨_,rfl,e1,AD,by rw[BM hy true ((LW zn).mp c)];rfl,e3.write hac2⟩
  ·have c:=of_decide_eq_false (Bool.eq_false_iff.mpr cnd)
   exact⟨e1,by rw[BM hy false (Bool.eq_false_iff.mpr λe=>c (congrArg V.str ((LW zn).mpr e)))];simp,e3⟩
 rintro ys3 HC ⟨x1,rfl,x3⟩
 rw[List.length_map,List.take_length]at x1
 have kC:=kB.same x3
 refine⟨ac2,_,rfl,.inl (AZ.of x1),_,rfl,rfl,_,rfl,Fn (Qh (by rw[List.length_map,B6,List.countP_eq_length_filter])) ?_⟩
 have em:=Int.natCast_mul (cnt ups lab z) (CP U n).length
 refine⟨_,rfl,_,rfl,_,_,rfl,rfl,.inl ⟨by omega,by omega⟩,_,rfl,_,_,rfl,rfl,_,rfl,Fn (decide_eq_false (by omega)) ?_⟩
 refine⟨_,rfl,_,rfl,_,_,rfl,rfl,_,rfl,_,rfl,ag,rfl,ags,_,_,rfl,rfl,rfl,_,rfl,Fn (Qh (congrArg V.bl (decide_eq_decide.mpr ⟨λh=>by have:=c2.mp (by omega);omega,λh=>by have:=c2.mpr (by omega);omega⟩))) ?_⟩
 refine⟨_,rfl,_,_,rfl,rfl,_,rfl,_,rfl,ag,rfl,ags,_,_,rfl,rfl,rfl,_,rfl,Fn (Qh (congrArg V.bl (decide_eq_decide.mpr ⟨λh=>by have:=c3.mp (by omega);omega,λh=>by have:=c3.mpr (by omega);omega⟩))) ?_⟩
 exact⟨_,_,_,_,_,rfl,kC⟩
end
end S24
namespace S24
open PySem L2 W7
section
variable {ups:List Int}{lab:Str}{ss U:List Str}
def Kg (ss U:List Str):List Str:=U.filter λz=>decide (((part (HJ ss z):Nat):Int)=(z.length:Int))
theorem LX (ss U:List Str):GN ss U=(Kg ss U).map λz=>(z,((HJ ss z).length:Int)):=rfl
theorem PH (ss:List Str)(z:Str):(HJ ss z).map (λx=>x.cps.toList)=(cs ss).filter (W18.pre z.cps.toList):=by
 unfold HJ cs
 rw[List.filter_map]
 congr 1
 refine List.filter_congr λx _=>?_
 rw[Bool.eq_iff_iff,W16.Bm]
 exact W18.BB.symm
theorem MV (ss:List Str)(z:Str):(HJ ss z).length=W18.BL (cs ss) z.cps.toList:=by
 unfold W18.BL;rw[<-PH,List.length_map]
theorem JM (hp:ss.Perm (AO ups lab))(z:Str):F0 ups lab z↔W24.Rd (cs ss) z.cps.toList:=by
 rw[Co]
 constructor
 ·rintro⟨h,w,hw,p⟩;exact⟨h,_,List.mem_map.mpr ⟨w,hp.mem_iff.mpr hw,rfl⟩,p⟩
 ·rintro⟨h,x,hx,p⟩
  obtain⟨w,hw,rfl⟩:=List.mem_map.mp hx
  exact⟨h,w,hp.mem_iff.mp hw,p⟩
theorem KY (hp:ss.Perm (AO ups lab))(hs:PyProof.Rows.sortedS ss=true){z:Str}(pz:F0 ups lab z):((part (HJ ss z):Nat):Int)=(z.length:Int)↔W24.Cl (cs ss) z.cps.toList:=by
 have so:(cs ss).Pairwise λa b=>¬b < a:=by
  unfold cs;rw[List.pairwise_map];exact BD ss hs
 have hr:=PH ss z
 have rd:=(JM hp z).mp pz
 obtain⟨_,x,hx,px⟩:=id rd
 have rne:HJ ss z≠[]:=λe=>by
  have:x∈(cs ss).filter (W18.pre z.cps.toList):=List.mem_filter.mpr ⟨hx,W18.BB.mpr px⟩
  rw[<-hr,e]at this;cases this
 have h1:((cs ss).filter (W18.pre z.cps.toList)).head?=some ((HJ ss z).headD Str.empty).cps.toList:=by
  rw[<-hr]
  cases e:HJ ss z with
  |nil=>exact absurd e rne
  |cons a R=>rfl
 have h2:((cs ss).filter (W18.pre z.cps.toList)).getLast?=some ((HJ ss z).getLastD Str.empty).cps.toList:=by
  rw[<-hr]
  obtain⟨R',l,e⟩:=(List.eq_nil_or_concat (HJ ss z)).resolve_left rne
  rw[e];simp
 have ci:=W18.K7 so h1 h2
 have cl:=AY z
 unfold part W24.Cl
 constructor
 ·intro h;exact⟨rd,ci.mp (by omega)⟩
 ·rintro⟨_,h⟩
  have:=ci.mpr h
  omega
theorem JN (hp:ss.Perm (AO ups lab))(hs:PyProof.Rows.sortedS ss=true)(mem:∀z,z∈U↔F0 ups lab z){z:Str}:z∈Kg ss U↔W24.Cl (cs ss) z.cps.toList:=by
 unfold Kg
 rw[List.mem_filter,mem,decide_eq_true_eq]
 constructor
 ·rintro⟨a,b⟩;exact(KY hp hs a).mp b
 ·intro c
  have a:=(JM hp z).mpr c.1
  exact⟨a,(KY hp hs a).mpr c⟩
theorem LY (so:PyProof.Rows.sortedS U=true):PyProof.Rows.sortedS (Kg ss U)=true:=DL _ ((BD U so).filter _)
theorem FD {zs:List Str}(nd:zs.Nodup):(cs zs).Nodup:=C5 (λ_ _ h=>BW h) nd
theorem HV {zs:List Str}{p:List Nat}:p∈cs zs↔mk p∈zs:=by
 unfold cs
 rw[List.mem_map]
 constructor
 ·rintro⟨z,hz,rfl⟩;rw[MJ];exact hz
 ·intro h;exact⟨_,h,rfl⟩
noncomputable def mU (ss:List (List Nat))(z:List Nat):Nat:=open Classical in if h:∃m,W24.LS ss z m then h.choose else 0
theorem QO {ss:List (List Nat)}{z:List Nat}{m n:Nat}(a:W24.LS ss z m)(b:W24.LS ss z n):m=n:=by
 have key:∀{m n:Nat},W24.LS ss z m->W24.LS ss z n->¬m < n:=λ{m n} a b lt=>by
  rcases b.2.1 with e|e
  ·omega
  ·exact a.2.2 n lt b.1 e
 have:=key a b
 have:=key b a
 omega
theorem Ry {ss:List (List Nat)}{z:List Nat}(hz:1<=z.length):∃m,W24.LS ss z m:=by
 have key:∀k,k < z.length->(∀l,k < l->l < z.length->¬W24.Cl ss (z.take l))->∃m,W24.LS ss z m:=λk=>by
  induction k with
  |zero=>intro h n;exact⟨0,h,.inl rfl,n⟩
  |succ k ih=>
   intro h n
   by_cases c:W24.Cl ss (z.take (k+1))
   ·exact⟨k+1,h,.inr c,n⟩
   ·refine ih (by omega) λl a b=>?_
    rcases Nat.eq_or_lt_of_le (show k+1<=l by omega)with e|e
    ·rw[<-e];exact c
    ·exact n l e b
 exact key (z.length - 1) (by omega) λl a b=>by omega
theorem Rz {ss:List (List Nat)}{z:List Nat}(hz:1<=z.length):W24.LS ss z (mU ss z):=by
 have h:=Ry (ss:=ss) hz
 unfold mU
 rw[dif_pos h]
 exact h.choose_spec
theorem S6 {ss:List (List Nat)}{z:List Nat}{m:Nat}(a:W24.LS ss z m):mU ss z=m:=by
 have h:∃m,W24.LS ss z m:=⟨m,a⟩
 unfold mU
 rw[dif_pos h]
 exact QO h.choose_spec a
def Ni (zs:List Str)(z:Str)(i:Nat):List Int:=((List.range i).filter λj=>decide (mk (z.cps.toList.take (1+j))∈zs)).map λj:Nat=>1+(j:Int)
theorem KZ (zs:List Str)(z:Str)(i:Nat):Ni zs z (i+1)=Ni zs z i++(if mk (z.cps.toList.take (1+i))∈zs then[1+(i:Int)]else[]):=by
 unfold Ni
 rw[List.range_succ,List.filter_append,List.map_append,List.filter_cons,List.filter_nil]
 congr 1
 by_cases c:mk (z.cps.toList.take (1+i))∈zs
 ·rw[if_pos c,if_pos (decide_eq_true c)];rfl
 ·rw[if_neg c,if_neg (by simpa using c)];rfl
theorem MW (zs:List Str)(z:Str)(i:Nat):(Ni zs z i).length<=i:=by
 unfold Ni
 rw[List.length_map]
 exact Nat.le_trans (List.length_filter_le _ _) (by rw[List.length_range];exact Nat.le_refl _)
theorem R0 {zs:List Str}(zm:∀y:Str,y∈zs↔W24.Cl (cs ss) y.cps.toList){z:Str}(hz:1<=z.length){M:Int}(hm:M∈0::Ni zs z (z.length - 1))(mx:∀x∈0::Ni zs z (z.length - 1),x<=M):0<=M/\M < (z.length:Int)/\mU (cs ss) z.cps.toList=M.toNat:=by
 have cl:=AY z
 have inS:∀l:Nat,1<=l->l < z.length->W24.Cl (cs ss) (z.cps.toList.take l)->(l:Int)∈Ni zs z (z.length - 1):=λl a b c=>by
  unfold Ni
  refine List.mem_map.mpr ⟨l - 1,List.mem_filter.mpr ⟨List.mem_range.mpr (by omega),decide_eq_true ?_⟩,by omega⟩
  rw[show 1+(l - 1)=l by omega]
  exact(zm _).mpr c
 have ofS:∀x∈Ni zs z (z.length - 1),1<=x/\x < (z.length:Int)/\W24.Cl (cs ss) (z.cps.toList.take x.toNat):=λx hx=>by
  obtain⟨j,hj,rfl⟩:=List.mem_map.mp hx
  obtain⟨h1,h2⟩:=List.mem_filter.mp hj
  have:=List.mem_range.mp h1
  refine⟨by omega,by omega,?_⟩
  have:=(zm _).mp (of_decide_eq_true h2)
  rw[show(1+(j:Int)).toNat=1+j by omega]
  exact this
 have M0:0<=M:=mx 0 List.mem_cons_self
 have Ml:M < (z.length:Int):=by
  rcases List.mem_cons.mp hm with e|e
  ·omega
  ·exact(ofS M e).2.1
 refine⟨M0,Ml,S6 ⟨by omega,?_,λl a b c=>?_⟩⟩
 ·rcases List.mem_cons.mp hm with e|e
  ·exact .inl (by omega)
  ·exact .inr (ofS M e).2.2
 ·have:=mx _ (List.mem_cons_of_mem _ (inS l (by omega) (by omega) c))
  omega
def Kh (ps:List (Str×Int)):List (Key×V):=ps.map λp=>(Sum.inr p.1,.int p.2)
theorem PJ (ps:List (Str×Int))(z:Str):(FW (Kh ps) (.inr z)).isSome=decide (z∈ps.map (·.1)):=by
 rw[<-Jo,Bool.eq_iff_iff,decide_eq_true_eq,List.any_eq_true]
 unfold Kh
 constructor
 ·rintro⟨p,hp,e⟩
  obtain⟨q,hq,rfl⟩:=List.mem_map.mp hp
  have:=of_decide_eq_true e
  injection this with this
  exact List.mem_map.mpr ⟨q,hq,this⟩
 ·intro h
  obtain⟨q,hq,rfl⟩:=List.mem_map.mp h
  exact⟨_,List.mem_map.mpr ⟨q,hq,rfl⟩,decide_eq_true rfl⟩
theorem Ka (ps:List (Str×Int)):(Kh ps).map (·.1)=(ps.map (·.1)).map Sum.inr:=by
 unfold Kh;rw[List.map_map,List.map_map];rfl
theorem MX:∀{ys:List V},(∀(i:Nat) v,ys[i]?=some v->∃a,v=.ref a)->∃as:List Addr,ys=as.map V.ref
 |[],_=>⟨[],rfl⟩
 |y::ys,h=>by
  obtain⟨a,rfl⟩:=h 0 y rfl
  obtain⟨as,rfl⟩:=MX (ys:=ys) λi v e=>h (i+1) v e
  exact⟨a::as,rfl⟩
theorem BN.refs {H:Hp}{ys:List V}{ps:List (Str×Int)}(h:BN H ys ps):∃as:List Addr,ys=as.map V.ref:=MX λi v e=>by
 have lt:i < ps.length:=by rw[<-h.1];exact(List.getElem?_eq_some_iff.mp e).1
 obtain⟨a,e1,_⟩:=h.2 i v _ e (List.getElem?_eq_getElem lt)
 exact⟨a,e1⟩
theorem BN.at {H:Hp}{ys:List V}{ps:List (Str×Int)}(h:BN H ys ps){i:Nat}{v:V}(e:ys[i]?=some v):∃z c a,ps[i]?=some (z,c)/\v=.ref a/\H a=some (.tup [.str z,.int c]):=by
 have lt:i < ps.length:=by rw[<-h.1];exact(List.getElem?_eq_some_iff.mp e).1
 obtain⟨a,e1,e2⟩:=h.2 i v _ e (List.getElem?_eq_getElem lt)
 exact⟨ps[i].1,ps[i].2,a,List.getElem?_eq_getElem lt,e1,e2⟩
end
section
variable {P:Program}{w:World}{K:PySem.W.Frag}{mg:Str->Option Value}{base:Heap}{k:Nat}
def MY:Sp:=λvs H Q _=>∃(t r:Addr) (ups:List Int) (lab:Str) (U ss:List Str) (ys:List V),vs=[.ref t,.ref r,.int ((U.length:Nat):Int)]/\Al H t ups lab/\R9 ups lab U/\ss.Perm (AO ups lab)/\PyProof.Rows.sortedS ss=true/\H r=some (.lst ys)/\BN H ys (GN ss U)/\∀H',AJ H H'->Q (.bl true) H'
theorem PK (D:Df K mg "_law_closed_right" s_law_closed_right)(B:O9 mg)(G_law_word:A9 P w K mg base "_law_word" k ["tree","place"] Dp):A9 P w K mg base "_law_closed_right" (k+1) ["tree","closed","count"] MY:=by
 refine D.has Ag (λ_ _ _ _ _ _ us hl=>match us,hl with|[_,_,_],_=>rfl) (λvs H Q E h=>by obtain⟨t,r,ups,lab,U,ss,ys,rfl,_⟩:=h;rfl) (λf cdv A outer s H vs Q E hr h=>?_)
 obtain⟨t,r,ups,lab,U,ss,ys,rfl,tr,un,hp,hs,hr0,tu,q⟩:=h
 refine⟨_,(AE (AS (i:=3) Ag.nd rfl (by first|exact Or.inl rfl|exact Or.inr rfl) (B3 (Hj rfl) rfl B.dict_ Pr (AA (pv 1) AB)))
 (AE (AS (i:=4) Ag.nd rfl (by first|exact Or.inl rfl|exact Or.inr rfl) AF)
 (AE (Cp PassesOwn.never rfl (Ao (pv 1)) (EM rfl (Ah (AQ (i:=5) Ag.nd rfl (by first|exact Or.inl rfl|exact Or.inr rfl)) (Ah (AQ (i:=6) Ag.nd rfl (by first|exact Or.inl rfl|exact Or.inr rfl)) Bt)))
 (AE (CQ (i:=7) Ag.nd rfl (by first|exact Or.inl rfl|exact Or.inr rfl) rfl (CW rfl B.range (AA AF (AA (AI AR rfl B.len Aa (AA (pv 5) AB)) AB))) (NL:=["length"]) (ix:=[5,3]) (En (AG s_law_closed_right) A2) (λcl C s₃ H₃ fp pins=>⟨(AQ (i:=0) (show List.Nodup (["length","word","many"]:List Str)from by decide+kernel) rfl (by first|exact Or.inl rfl|exact Or.inr rfl)),(Bx (Qq (OO (QZ hr) (Ap Bk (pv 1) BI (A4 (pv 0))) (pv 2)) (by with_unfolding_all rfl))),(pv 0)⟩))
 (AN (Np (i:=4) Ag.nd rfl (by first|exact Or.inl rfl|exact Or.inr rfl) (AU Cq (AI AR rfl B.len Aa (AA (pv 5) AB)) (AI (FR rfl) rfl B.max ES (AA (AU FK (Av (AA AF AB)) (pv 7)) AB))) Nq))))
 (AE (CQ (i:=8) Ag.nd rfl (by first|exact Or.inl rfl|exact Or.inr rfl) rfl (C0 rfl B.range (AA (AI AR rfl B.len Aa (AA (Ai CL (pv 0) AF (λ_ _=>rfl)) AB)) AB)) (NL:=["place"]) (ix:=[0]) (En (AG s_law_closed_right) A2) (λcl C s₃ H₃ fp pins=>⟨(AQ (i:=0) (show List.Nodup (["place","tree"]:List Str)from by decide+kernel) rfl (by first|exact Or.inl rfl|exact Or.inr rfl)),Ar,(AH G_law_word hr rfl (AA (pv 1) (AA (pv 0) AB)))⟩))
 (AE (Bs (PW.pt (Ee (Ac Eh (pv 4) (pv 2) (Ad _)) (Ee (Ac Li (AI Ab rfl B.len Aa (AA (pv 1) AB)) (AU C9 AF (AI Ab rfl B.len Aa (AA (pv 8) AB))) (Ad _)) (EK (EL (C7 (AI (OC rfl) rfl B.all Ri (AA (Aw rfl (Ao (pv 8)) (NL:=["word"]) (ix:=[3]) (En (AG s_law_closed_right) A2) (λcl C s₃ H₃ fp pins=>⟨(AQ (i:=0) (show List.Nodup (["word","many"]:List Str)from by decide+kernel) rfl (by first|exact Or.inl rfl|exact Or.inr rfl)),Ar,(Qp (OO (QZ hr) (pv 0) (pv 1)) (by with_unfolding_all rfl))⟩)) AB))))))))
 (AN (AW Cg))
 Au)
 (AN (AW (B9 (Dx hr.FJ) (AI (JD rfl) rfl B.sorted B4 (AA (pv 3) AB)) (Aw rfl (Ao (pv 1)) (NL:=["word","places"]) (ix:=[]) (En (AG s_law_closed_right) A2) (λcl C s₃ H₃ fp pins=>⟨(Eo K (n:=2) rfl (Ah (AQ (i:=0) (show List.Nodup (["word","places"]:List Str)from by decide+kernel) rfl (by first|exact Or.inl rfl|exact Or.inr rfl)) (Ah (AQ (i:=1) (show List.Nodup (["word","places"]:List Str)from by decide+kernel) rfl (by first|exact Or.inl rfl|exact Or.inr rfl)) Bt))),Ar,(pv 0)⟩)) (Ad _))))))))),?_⟩
 obtain⟨_,_,_,ok⟩:=id tr
 have m60:=ok.most
 have lpos:=ok.pos
 have wln:=An ups lab
 have wle:=A7 ok
 have um:=un.most
 have mem:∀z,z∈U↔F0 ups lab z:=λz=>by rw[<-un.ul ss hp hs];exact CI hp z
 have zl:∀z∈U,1<=z.length/\z.length<=60:=λz hz=>B7 ok ((mem z).mp hz)
 have zm:∀y,y∈Kg ss U↔W24.Cl (cs ss) y.cps.toList:=λy=>JN hp hs mem
 have znd:(Kg ss U).Nodup:=un.nd.filter _
 have zso:=LY (ss:=ss) un.so
 have zU:∀z∈Kg ss U,z∈U:=λz hz=>(List.mem_filter.mp hz).1
 have sl:=hp.length_eq
 have hN:∀x∈cs ss,x.length<=60:=λx hx=>by
  obtain⟨z,hz,rfl⟩:=List.mem_map.mp hx
  rw[AY];exact wle z (hp.mem_iff.mp hz)
 have few:(Kg ss U).length<=2*ups.length:=by
  have:=W24.HL (D9 hs) (C:=cs (Kg ss U)) (FD znd) (λz hz=>(zm (mk z)).mp (HV.mp hz))
  rw[Fj,Fj]at this
  omega
 have hps:GN ss U=(Kg ss U).map λz=>(z,((HJ ss z).length:Int)):=rfl
 have hp1:(GN ss U).map (·.1)=Kg ss U:=by rw[hps,List.map_map];exact List.map_id _
 have total:((cs (Kg ss U)).map λz=>z.length - mU (cs ss) z).sum=U.length:=by
  have:=W24.LU hN (m:=mU (cs ss)) (C:=cs (Kg ss U)) (U:=cs U) (FD znd) (λz=>⟨λh=>(zm (mk z)).mp (HV.mp h),λh=>HV.mpr ((zm (mk z)).mpr h)⟩) (λz hz=>?_) (FD un.nd) (λp=>?_)
  ·rw[this,Fj]
  ·obtain⟨y,hy,rfl⟩:=List.mem_map.mp hz
   exact Rz (by rw[AY];exact(zl y (zU y hy)).1)
  ·rw[HV,mem,JM hp];rfl
 clear hps
 generalize GN ss U=ps at tu hp1
 generalize Kg ss U=Z at zm znd zso zU few hp1 total
 obtain⟨as,rfl⟩:=tu.refs
 have lps:ps.length=Z.length:=by rw[<-hp1,List.length_map]
 have las:as.length=ps.length:=by have:=tu.1;rw[List.length_map]at this;exact this
 have kk:(Kh ps).length=ps.length:=by unfold Kh;rw[List.length_map]
 refine⟨_,rfl,r,as,Kh ps,rfl,hr0,by rw[kk];exact las,λj a k v e1 e2=>?_,by rw[Ka,hp1];exact C5 (λa b h=>by injection h) znd,by omega,λd hd=>?_⟩
 ·obtain⟨z,c,b,p1,p2,p3⟩:=tu.at (i:=j) (v:=.ref a) (by rw[List.getElem?_map,e1];rfl)
  unfold Kh at e2
  rw[List.getElem?_map,p1]at e2
  cases e2
  cases p2
  exact p3
 have s1:AJ H (upd H d (.dK (Kh ps))):=(AJ.refl H).new hd
 have h1:upd H d (.dK (Kh ps)) d=some (.dK (Kh ps)):=AD
 generalize upd H d (.dK (Kh ps))=H1 at s1 h1
 have hr1:=s1 _ _ hr0
 have inZ:∀{HX:Hp} (y:Str),AJ H1 HX->RD HX d (.str y) (FW (Kh ps) (.inr y)):=λ{HX} y sx=>.inl ⟨Kh ps,Sum.inr y,.inl (sx _ _ h1),rfl,rfl⟩
 have vZ:∀y,(FW (Kh ps) (.inr y)).isSome=decide (y∈Z):=λy=>by rw[PJ,hp1]
 refine⟨_,rfl,r,rfl,⟨_,AZ.of hr1⟩,?_⟩
 refine Ef (xs:=as.map V.ref) (λi σ H'=>∃o5 o6 o7 o8:Option V,σ=[some (.ref t),some (.ref r),some (.int ((U.length:Nat):Int)),some (.ref d),some (.int ((((cs (Z.take i)).map λz=>z.length - mU (cs ss) z).sum:Nat):Int)),o5,o6,o7,o8]/\AJ H1 H')
  ⟨none,none,none,none,rfl,AJ.refl H1⟩ (λi σ H' _ h=>by obtain⟨_,_,_,_,_,sX⟩:=h;exact AZ.of (sX _ _ hr1)) ?_ ?_
 ·rintro i x σ H' hx ⟨o5,o6,o7,o8,rfl,sX⟩
  obtain⟨z,c,a,ep,rfl,ha⟩:=(tu.same (s1.trans sX)).at hx
  have ez:Z[i]?=some z:=by rw[<-hp1,List.getElem?_map,ep];rfl
  have zb:=zl z (zU z (List.mem_of_getElem? ez))
  have zs:z.length<=sizeLine:=Nat.le_of_lt (AM (by omega))
  refine⟨a,_,rfl,Ce.of ha,rfl,_,_,rfl,_,_,rfl,rfl,?_⟩
  refine⟨_,rfl,z,rfl,zs,_,_,rfl,⟨by omega,by omega,by omega,by omega⟩,λacc hacc=>?_⟩
  have eN:((z.length:Int) - 1).toNat=z.length - 1:=by omega
  refine By ((z.length:Int) - 1).toNat (by omega) (λj ys HX=>HX acc=some (.lst ys)/\ys=(Ni Z z j).map V.int/\AJ H' HX)
   (λj ys HX h=>⟨h.1,by rw[h.2.1,List.length_map];exact MW _ _ _⟩) ⟨AD,rfl,(AJ.refl H').new hacc⟩ ?_ ?_
  rotate_left
  ·rintro j ys HX hj ⟨e1,rfl,e3⟩
   refine⟨hj,?_⟩
   rintro x HY ⟨rfl,rfl⟩
   refine⟨rfl,?_⟩
   refine⟨_,rfl,_,rfl,_,rfl,z,rfl,zs,_,rfl,d,_,rfl,inZ _ (sX.trans e3),_,rfl,?_⟩
   have ec:BU z none (some (1+(j:Int)))=mk (z.cps.toList.take (1+j)):=by
    have:=Em z (1+j)
    rw[show(((1+j:Nat)):Int)=1+(j:Int) by omega]at this
    exact BW this
   rw[vZ,ec]
   refine Cf (λcnd=>?_) (λcnd=>?_)
   ·exact⟨_,rfl,e1,AD,by rw[KZ,if_pos (of_decide_eq_true cnd),List.map_append];rfl,e3.write hacc⟩
   ·exact⟨e1,by rw[KZ,if_neg (of_decide_eq_false (Bool.eq_false_iff.mpr cnd)),List.append_nil],e3⟩
  rintro ys HA ⟨e1,rfl,e3⟩
  refine⟨Nat.le_refl _,?_⟩
  rw[eN]at e1
  have sl0:=MW Z z (z.length - 1)
  refine⟨_,rfl,_,rfl,z,rfl,zs,(by show 1<=sizeLine;decide),λr0 hr0=>?_⟩
  have e1':upd HA r0 (.lst [.int 0]) acc=some (.lst ((Ni Z z (z.length - 1)).map V.int)):=by rw[AL (AK e1 hr0)];exact e1
  refine⟨_,rfl,r0,acc,_,_,rfl,rfl,AD,e1',Nat.le_of_lt (AM (by rw[List.length_map];show 1+_<=1000;omega)),λpp hpp=>?_⟩
  refine⟨pp,0::Ni Z z (z.length - 1),rfl,AZ.of AD,by simp,λM hM mx=>?_⟩
  obtain⟨M0,Ml,Me⟩:=R0 zm zb.1 hM mx
  refine⟨_,_,rfl,rfl,_,_,rfl,rfl,?_⟩
  refine⟨some (.str z),some (.int c),some (.ref acc),o8,?_,((sX.trans e3).new hr0).new hpp⟩
  have tk:Z.take (i+1)=Z.take i++[z]:=by rw[List.take_succ,ez];rfl
  have es:((((cs (Z.take (i+1))).map λz=>z.length - mU (cs ss) z).sum:Nat):Int)=((((cs (Z.take i)).map λz=>z.length - mU (cs ss) z).sum:Nat):Int)+((z.length:Int) - M):=by
   have ec:cs (Z.take i++[z])=cs (Z.take i)++[z.cps.toList]:=by unfold cs;rw[List.map_append];rfl
   rw[tk,ec,List.map_append,List.sum_append]
   show(((_+((z.cps.toList.length - mU (cs ss) z.cps.toList)+0):Nat)):Int)=_
   rw[Me,AY]
   omega
  rw[es];rfl
 rintro σ H2 ⟨o5,o6,o7,o8,rfl,sX⟩
 have lz:(as.map V.ref).length=Z.length:=by rw[List.length_map];omega
 rw[lz,List.take_length,total]
 have s2:=s1.trans sX
 obtain⟨u4,ht4,hu4,_⟩:=id (tr.same s2)
 have ll:lab.length=ups.length:=by rw[ok.len];simp[Str.length]
 refine⟨_,rfl,t,_,_,_,rfl,rfl,Ce.of ht4,rfl,lab,rfl,Nat.le_of_lt (AM (by omega)),_,rfl,?_,?_,λwd hwd=>?_⟩
 ·omega
 ·omega
 have eN:((lab.length:Nat):Int).toNat=ups.length:=by omega
 refine By (((lab.length:Nat):Int).toNat) (by omega) (λj ys H'=>H' wd=some (.lst ys)/\ys=BR ups lab j/\AJ H2 H')
  (λj ys H' h=>⟨h.1,by rw[h.2.1];simp[BR]⟩) ⟨AD,rfl,(AJ.refl H2).new hwd⟩ ?_ ?_
 rotate_left
 ·rintro j ys H' hj ⟨g1,rfl,g3⟩
  refine⟨hj,?_⟩
  rw[eN]at hj
  rintro x HX ⟨rfl,rfl⟩
  refine⟨rfl,?_⟩
  refine⟨_,rfl,_,rfl,t,ups,lab,0+(j:Int),rfl,(tr.same s2).same g3,by omega,g1,AD,?_,g3.write hwd⟩
  have eR:R ups lab.cps.toList (0+(j:Int))=W ups lab.cps.toList j:=by
   unfold R
   rw[if_neg (by omega),Int.zero_add,Int.toNat_natCast]
  rw[eR]
  unfold BR
  rw[List.range_succ,List.map_append];rfl
 rintro ys H5 ⟨g1,rfl,g3⟩
 refine⟨Nat.le_refl _,?_⟩
 rw[eN,Bd]at g1
 have s5:=s2.trans g3
 have s15:=sX.trans g3
 have hr5:=s15 _ _ hr1
 refine⟨_,rfl,_,rfl,rfl,_,rfl,Fn (Qh rfl) ?_⟩
 refine⟨_,rfl,r,_,rfl,.inl (AZ.of hr5),_,rfl,wd,_,rfl,.inl (AZ.of g1),_,_,rfl,rfl,.inl ⟨by decide,by decide⟩,_,_,rfl,rfl,_,rfl,Fn (decide_eq_false (by rw[lz,List.length_map];omega)) ?_⟩
 refine⟨_,rfl,wd,rfl,⟨_,AZ.of g1⟩,λac2 hac2=>?_⟩
 refine Aq (xs:=(AO ups lab).map V.str) (by rw[List.length_map];omega) (λi ys HX=>HX ac2=some (.lst ys)/\ys=(((AO ups lab).take i).map λ_=>true).map V.bl/\AJ H5 HX)
  (λi ys HX h=>AZ.of (h.2.2 _ _ g1)) (λi ys HX h=>⟨h.1,by rw[h.2.1,List.length_map,List.length_map,List.length_take];exact Nat.min_le_left _ _⟩) ⟨AD,rfl,(AJ.refl H5).new hac2⟩ ?_ ?_
 rotate_left
 ·rintro i x ys HX hx ⟨e1,rfl,e3⟩
  obtain⟨y,hy,rfl⟩:=A3 hx
  have yw:=List.mem_of_getElem? hy
  refine⟨rfl,_,rfl,_,rfl,d,_,rfl,inZ y (s15.trans e3),e1,AD,?_,e3.write hac2⟩
  have yz:y∈Z:=(zm y).mpr (W24.KU (List.mem_map.mpr ⟨y,hp.mem_iff.mpr yw,rfl⟩) (S5 ok y yw))
  rw[vZ,decide_eq_true yz,List.take_succ,hy,List.map_append,List.map_append];rfl
 rintro ys3 H6 ⟨x1,rfl,x3⟩
 rw[List.length_map,List.take_length]at x1
 have s16:=s15.trans x3
 have hr6:=s16 _ _ hr1
 refine⟨ac2,(AO ups lab).map λ_=>true,rfl,AZ.of x1,_,rfl,Fn ?_ ?_⟩
 ·have:((AO ups lab).map λ_=>true).all id=true:=by rw[List.all_eq_true];intro b hb;obtain⟨_,_,rfl⟩:=List.mem_map.mp hb;rfl
  rw[this];rfl
 refine⟨_,rfl,d,Kh ps,Z,rfl,.inl (s16 _ _ h1),by rw[Ka,hp1],znd,λsz l zp zo hl=>?_⟩
 have esz:=Ba zo zso zp
 subst esz
 have s7:AJ H6 (upd H6 l (.lst (sz.map V.str))):=(AJ.refl H6).new hl
 have h7:upd H6 l (.lst (sz.map V.str)) l=some (.lst (sz.map V.str)):=AD
 generalize upd H6 l (.lst (sz.map V.str))=H7 at s7 h7
 have hr7:=s7 _ _ hr6
 have s07:=(s1.trans s16).trans s7
 refine⟨_,rfl,r,rfl,⟨_,AZ.of hr7⟩,λac3 hac3=>?_⟩
 refine Aq (xs:=as.map V.ref) (by rw[List.length_map];omega) (λi ys HX=>HX ac3=some (.lst ys)/\ys=(sz.take i).map V.str/\AJ H7 HX)
  (λi ys HX h=>AZ.of (h.2.2 _ _ hr7)) (λi ys HX h=>⟨h.1,by rw[h.2.1,List.length_map,List.length_take];exact Nat.min_le_left _ _⟩) ⟨AD,rfl,(AJ.refl H7).new hac3⟩ ?_ ?_
 rotate_left
 ·rintro i x ys HX hx ⟨e1,rfl,e3⟩
  obtain⟨z,c,a,ep,rfl,ha⟩:=(tu.same (s07.trans e3)).at hx
  have ez:sz[i]?=some z:=by rw[<-hp1,List.getElem?_map,ep];rfl
  refine⟨a,_,rfl,Ce.of ha,rfl,_,_,rfl,_,_,rfl,rfl,rfl,_,rfl,e1,AD,?_,e3.write hac3⟩
  rw[List.take_succ,ez,List.map_append];rfl
 rintro ys4 H8 ⟨y1,rfl,y3⟩
 rw[lz,List.take_length]at y1
 refine⟨l,ac3,_,_,rfl,rfl,AZ.of (y3 _ _ h7),AZ.of y1,Bp _,Bp _,?_⟩
 rw[FQ,decide_eq_true rfl]
 exact q _ (s07.trans y3)
end
end S24
namespace L2
open PySem PySem.Spec PyProof.Rows PySem.W
structure MZ (K:Nat->List V)(sh:List Nat):Prop where
 shp:∀i,(K i).map EF=sh
 z:0∉sh
section
variable {X:Cx}{pins:List (Addr×Obj)}{σ:St}{A:Around}{R:Result->Shared->Prop}{H:Hp}{a S It:Addr}{as:List Addr}{K:Nat->List V}{sh:List Nat}
theorem PL {s:Shared}{E:Value->Shared->Prop}{Q:Value->Shared->Prop}{i j:Nat}{p q:Addr}(I:Inv X pins σ H s)(hT:∀i b,as[i]?=some b->Ce X.K H b (K i))(k:MZ K sh)(hu:A.units < cLine)(hi:as[i]?=some p)(hj:as[j]?=some q)
 (h:Q (.bool (CU (K i) (K j))) s):wpAny (model X.prog X.w) A (richCompare .Lt (.ref p) (.ref q)) Q E s:=by
 obtain⟨its,r1,p1,_⟩:=I.tuple (hT i p hi)
 obtain⟨its2,r2,p2,_⟩:=I.tuple (hT j q hj)
 obtain⟨⟨cls,dd,data,sl⟩,ho,hc,n,hd⟩:=id p1
 obtain⟨⟨cls2,dd2,data2,sl2⟩,ho2,hc2,n2,hd2⟩:=id p2
 simp only at hc hd hc2 hd2
 subst hc hd hc2 hd2
 exact richCompare_meets_room (op:=.Lt) ⟨_,ho,rfl⟩ ⟨_,ho2,rfl⟩ PySem.F.slot_tuple_lt PySem.F.entry_tuple_lt (PySem.F.args_tuple_lt_2 _ _) (Kx p q its.toArray its2.toArray n n2 dd dd2 sl sl2 (K i) (K j) (by simpa using r1) (by simpa using r2) ((k.shp i).trans (k.shp j).symm) (by rw[k.shp];exact k.z))
  ⟨ho,ho2,⟨(λx=>nomatch x),h⟩⟩ hu
theorem Eb (SI:S≠It)(hl:AZ X.K H a (as.map V.ref))(hh:A.in1.handled=none)(hu:A.in1.units < cLine)(hT:∀i b,as[i]?=some b->Ce X.K H b (K i))(k:MZ K sh)
 (fin:∀(s':Shared) (b:Nat) (p:Addr),Inv X pins σ H s'->as[b]?=some p->MB (λi j=>CU (K i) (K j)) b as.length->R (.ok (.ret (.ref p))) s')(fS:B2 X pins H S)(fI:B2 X pins H It):
 ∀(m j b:Nat) (s:Shared) (p:Addr) (c:Nat),as.length - j=m->1<=j->j<=as.length->Inv X pins σ H s->s.heap.IsListIter It a j->s.heap.get? S=some (seqObj "list" #[.ref p,.ref p] c)->
  as[b]?=some p->MB (λi j=>CU (K i) (K j)) b j->codeAny (model X.prog X.w) A (.builtin "min.loop" ⟨[.ref It,.none,.ref S],[]⟩) R s
 |0,j,b,s,p,c,hm,h1,hj,I,hit,hS,hb,best=>by
  have ej:j=as.length:=by omega
  subst ej
  refine codeAny_builtin Cv ?_
  rw[Around.under_plainId BH _]
  show wpAny _ _ (seqItems? (.ref S) >>= _) _ _ _
  refine wpAny_bind (wpAny_seqItems hS rfl ?_)
  obtain⟨its,rv,ht,hz⟩:=I.list hl
  have aI:=Od I hl fI hit
  have il:as.length=its.toArray.size:=by rw[List.size_toArray,<-rv.length,List.length_map]
  refine wpAny_bind (wpAny_tryCatch ((Walks.list (prog:=X.prog) (w:=X.w) hh It a aI its.toArray).done s _ _ ⟨by rw[<-il];exact hit,ht.isList⟩ λh' tk kp=>?_))
  have I1:Inv X pins σ H { s with heap:=h',toks:=tk }:=I.BF (tk:=tk) (ch:=[It]) (λb hb=>by rw[List.mem_singleton.mp hb];exact fI) λb ob hb q=>kp b ob hb q
  have hS1:h'.get? S=some (seqObj "list" #[.ref p,.ref p] c):=kp S _ (by simpa using SI) hS
  show wpAny _ _ (updateSeq S (λ_=>#[]) >>= _) _ _ _
  refine wpAny_bind (wpAny_updateSeq (s:={ s with heap:=h',toks:=tk }) hS1 rfl ?_ (by show 2<=_;decide) (Nat.zero_le _))
  refine wpAny_bind (wpAny_letGo (wpAny_pure ?_))
  exact fin _ b p (I1.BF (tk:=tk) (ch:=[S]) (λb hb=>by rw[List.mem_singleton.mp hb];exact fS) λb ob hb q=>(Heap.get?_update_ne _ _ _ _ (by simpa using hb)).trans q) hb best
 |m+1,j,b,s,p,c,hm,h1,hj,I,hit,hS,hb,best=>by
  have lj:j < as.length:=by omega
  refine codeAny_builtin Cv ?_
  rw[Around.under_plainId BH _]
  show wpAny _ _ (seqItems? (.ref S) >>= _) _ _ _
  refine wpAny_bind (wpAny_seqItems hS rfl ?_)
  refine wpAny_bind (GI (A:=A.in1) (x:=V.ref as[j]) I fI SI hl hh hit hS (by rw[List.getElem?_map,List.getElem?_eq_getElem lj];rfl) λv s' rv I' hit' hS'=>?_)
  cases(show v=Value.ref as[j]from rv)
  refine wpAny_bind (wpAny_pure ?_)
  refine wpAny_bind (wpAny_tryCatch (wpAny_holding ?_))
  refine wpAny_bind (PL (A:=A.in1) I' hT k hu (List.getElem?_eq_getElem lj) hb ?_)
  refine wpAny_bind (wpAny_holding (wpAny_truthy_bool ?_))
  refine wpAny_bind (wpAny_letGo (wpAny_pure ?_))
  by_cases cnd:CU (K j) (K b)=true
  ·simp only[cnd,if_true]
   refine wpAny_bind (wpAny_updateSeq hS' rfl ?_ (by show 2<=_;decide) (by show 2<=_;decide))
   refine wpAny_bind (wpAny_letGo (wpAny_pure ⟨plainId_quiet BH _,?_⟩))
   obtain⟨c',hS2⟩:∃c',(s'.heap.update S (Obj.mapSeq λ_=>#[.ref as[j],.ref as[j]])).get? S=some (seqObj "list" #[.ref as[j],.ref as[j]] c'):=⟨_,get?_update_seq hS' λ_=>#[.ref as[j],.ref as[j]]⟩
   have ku:∀b o,b≠S->s'.heap.get? b=some o->(s'.heap.update S (Obj.mapSeq λ_=>#[.ref as[j],.ref as[j]])).get? b=some o:=λb o hb e=>(Heap.get?_update_ne _ _ _ _ hb).trans e
   refine Eb SI hl hh hu hT k fin fS fI m (j+1) j { s' with heap:=s'.heap.update S (Obj.mapSeq λ_=>#[.ref as[j],.ref as[j]]),toks:=s'.toks } as[j] c' (by omega) (by omega) lj (I'.BF (tk:=s'.toks) (ch:=[S]) (λb hb=>by rw[List.mem_singleton.mp hb];exact fS) λb ob hb q=>ku b ob (by simpa using hb) q)
    (Heap.IsListIter.at hit' λo e=>ku _ o (Ne.symm SI) e) hS2 (List.getElem?_eq_getElem lj) ⟨by omega,λi hi=>?_⟩
   rcases Nat.lt_or_ge i j with q|q
   ·exact Lr _ _ _ ((k.shp j).trans (k.shp b).symm) ((k.shp b).trans (k.shp i).symm) (by rw[k.shp];exact k.z) (IC _ _ cnd) (best.2 i q)
   ·rw[show i=j by omega]
    exact IK _
  ·have cnd':CU (K j) (K b)=false:=by simpa using cnd
   simp only[cnd',Bool.false_eq_true,if_false]
   refine wpAny_bind (wpAny_letGo (wpAny_pure ⟨plainId_quiet BH _,?_⟩))
   refine Eb SI hl hh hu hT k fin fS fI m (j+1) b s' p c (by omega) (by omega) lj I' hit' hS' hb ⟨by have:=best.1;omega,λi hi=>?_⟩
   rcases Nat.lt_or_ge i j with q|q
   ·exact best.2 i q
   ·rw[show i=j by omega];exact cnd'
end
section
variable {X:Cx}
theorem HW {kr:Nat}(hr:CK kr X.A)(hc:X.calm=true):Bg X (.builtin "min") (λvs H Q=>∃(a:Addr) (as:List Addr) (K:Nat->List V) (sh:List Nat),vs=[.ref a]/\AZ X.K H a (as.map V.ref)/\as≠[]/\(∀i b,as[i]?=some b->Ce X.K H b (K i))/\MZ K sh/\
 ∀(b:Nat) (p:Addr),as[b]?=some p->MB (λi j=>CU (K i) (K j)) b as.length->Q (.ref p) H):=by
 intro pins s σ H xs us Q I r h
 obtain⟨a,as,K,sh,rfl,hl,ne,hT,k,q⟩:=h
 obtain⟨u,rfl,ru⟩:=vals1 r
 cases(show u=Value.ref a from ru)
 have l0:0 < as.length:=List.length_pos_iff.mpr ne
 have hh:X.A.in1.handled=none:=I.ok.hd hc
 have hu:X.A.in1.units < cLine:=by have:=hr.units;show X.A.units+1 < _;omega
 obtain⟨its,rv,ht,hz⟩:=I.list hl
 refine kmk_tree (kw:=[]) kind_min plain_min entry_min (PySem.F.args_min1 _) ?_
 show wpAny _ _ (pyIter (.ref a) >>= _) _ _ _
 refine wpAny_bind (wpAny_pyIter_list ht.isList ?_)
 refine wpAny_bind (wpAny_newList ?_ (Nat.zero_le _))
 refine wpAny_pure ⟨plainId_quiet BH _,?_⟩
 generalize hg:(s.heap.push { cls:=.type "list_iterator",data:=.fields #[.ref a,.int 0 0] })=g
 have zg:g.objs.size=s.heap.objs.size+1:=by rw[<-hg];exact Heap.size_push ..
 have kg:∀b o,s.heap.get? b=some o->g.get? b=some o:=λb o e=>by rw[<-hg];exact Heap.get?_push_of_some _ e
 have hi:g.IsListIter s.heap.objs.size a 0:=⟨_,by rw[<-hg];exact Heap.get?_push_size _ rfl,rfl,rfl⟩
 have hS:(g.push (seqObj "list" #[] 0)).get? g.objs.size=some (seqObj "list" #[] 0):=Heap.get?_push_size _ rfl
 have k1:∀b o,g.get? b=some o->(g.push (seqObj "list" #[] 0)).get? b=some o:=λb o e=>Heap.get?_push_of_some _ e
 have I1:Inv X pins σ H { s with heap:=g.push (seqObj "list" #[] 0),toks:=s.toks }:=I.kept (t':=s.toks) λb o e=>k1 b o (kg b o e)
 have fI:B2 X pins H s.heap.objs.size:=I.GS (Nat.le_refl _) (I.hok.fresh (Nat.le_refl _))
 have fS:B2 X pins H g.objs.size:=I.GS (by omega) (I.hok.fresh (by omega))
 have SI:g.objs.size≠s.heap.objs.size:=by omega
 show codeAny _ X.A (.builtin "min.loop" ⟨[.ref s.heap.objs.size,.none,.ref g.objs.size],[]⟩) _ { s with heap:=g.push (seqObj "list" #[] 0),toks:=s.toks }
 refine codeAny_builtin Cv ?_
 rw[Around.under_plainId BH _]
 show wpAny _ _ (seqItems? (.ref g.objs.size) >>= _) _ _ { s with heap:=g.push (seqObj "list" #[] 0),toks:=s.toks }
 refine wpAny_bind (wpAny_seqItems hS rfl ?_)
 refine wpAny_bind (GI (A:=X.A.in1) (x:=V.ref as[0]) I1 fI SI hl hh (Heap.IsListIter.at hi λo e=>k1 _ o e) hS (by rw[List.getElem?_map,List.getElem?_eq_getElem l0];rfl) λv s' rv I' hit' hS'=>?_)
 cases(show v=Value.ref as[0]from rv)
 show wpAny _ _ (updateSeq g.objs.size _ >>= _) _ _ _
 refine wpAny_bind (wpAny_updateSeq hS' rfl ?_ (Nat.zero_le _) (by show 2<=_;decide))
 refine wpAny_pure ⟨plainId_quiet BH _,?_⟩
 obtain⟨c',hS2⟩:∃c',(s'.heap.update g.objs.size (Obj.mapSeq λ_=>#[.ref as[0],.ref as[0]])).get? g.objs.size=some (seqObj "list" #[.ref as[0],.ref as[0]] c'):=⟨_,get?_update_seq hS' λ_=>#[.ref as[0],.ref as[0]]⟩
 have ku:∀b o,b≠g.objs.size->s'.heap.get? b=some o->(s'.heap.update g.objs.size (Obj.mapSeq λ_=>#[.ref as[0],.ref as[0]])).get? b=some o:=λb o hb e=>(Heap.get?_update_ne _ _ _ _ hb).trans e
 refine Eb SI hl hh hu hT k (λs' b p a1 a2 a3=>⟨.ref p,H,a1,rfl,q b p a2 a3⟩) fS fI (as.length - 1) 1 0 { s' with heap:=s'.heap.update g.objs.size (Obj.mapSeq λ_=>#[.ref as[0],.ref as[0]]),toks:=s'.toks } as[0] c' rfl (Nat.le_refl _) l0
  (I'.BF (tk:=s'.toks) (ch:=[g.objs.size]) (λb hb=>by rw[List.mem_singleton.mp hb];exact fS) λb ob hb q=>ku b ob (by simpa using hb) q) (Heap.IsListIter.at hit' λo e=>ku _ o (Ne.symm SI) e) hS2 (List.getElem?_eq_getElem l0) ⟨by omega,λi hi=>?_⟩
 rw[show i=0 by omega]
 exact IK _
end
end L2
namespace S24
open PySem L2 W7
theorem QP (v:Int)(l:List Int):R4 (V.int v) (l.map V.int)=decide (v∈l):=by
 unfold R4
 rw[Bool.eq_iff_iff,List.any_eq_true,decide_eq_true_eq]
 constructor
 ·rintro⟨y,hy,e⟩
  obtain⟨n,hn,rfl⟩:=List.mem_map.mp hy
  have:n=v:=by simpa[JQ]using e
  rw[<-this];exact hn
 ·intro h
  exact⟨V.int v,List.mem_map.mpr ⟨v,h,rfl⟩,by simp[JQ]⟩
theorem HZ {α:Type}{a b c:α->Bool}:∀{l:List α},(∀x∈l,a x=(b x||c x))->(∀x∈l,¬(b x=true/\c x=true))->l.countP a=l.countP b+l.countP c
 |[],_,_=>rfl
 |x::l,h,d=>by
  have ih:=HZ (l:=l) (λy hy=>h y (List.mem_cons_of_mem _ hy)) (λy hy=>d y (List.mem_cons_of_mem _ hy))
  have hx:=h x List.mem_cons_self
  have dx:=d x List.mem_cons_self
  rw[List.countP_cons,List.countP_cons,List.countP_cons,ih,hx]
  cases e1:b x<;>cases e2:c x<;>simp_all<;>omega
section
variable {ups:List Int}{lab:Str}
theorem Kb (y:List Nat):DM ups lab y=(((List.range ups.length).countP λj=>y.isPrefixOf (W ups lab.cps.toList j):Nat):Int):=by
 unfold DM Cz;rw[List.length_map,<-List.countP_eq_length_filter];rfl
theorem QQ (N:Nat->Int)(h:∀c,0<=N c):((C6 N).map (·.2)).sum=(DP.map N).sum:=by
 unfold C6
 rw[List.map_map]
 generalize DP=l
 induction l with
 |nil=>rfl
 |cons c l ih=>
  rw[List.filter_cons,List.map_cons,List.sum_cons]
  have:=h c
  by_cases g:N c > 0
  ·rw[if_pos (decide_eq_true g),List.map_cons,List.sum_cons,ih];rfl
  ·rw[if_neg (by simpa using g),ih];omega
theorem LZ:DP.Nodup:=by rw[E9];exact List.nodup_range'
theorem F1 {y:Nat->List Nat}{p:Nat->Bool}{f:Nat->Nat}(h:∀c j,j < ups.length->(y c).isPrefixOf (W ups lab.cps.toList j)=(p j&&decide (f j=c)))(hf:∀j,j < ups.length->p j=true->Lw (f j)):
 ((C6 λc=>DM ups lab (y c)).map (·.2)).sum=(((List.range ups.length).countP p:Nat):Int):=by
 rw[QQ _ λc=>by rw[Kb];omega]
 have e:(DP.map λc=>DM ups lab (y c))=DP.map λc=>(((List.range ups.length).countP λj=>p j&&decide (f j=c):Nat):Int):=List.map_congr_left λc _=>by
  rw[Kb]
  congr 1
  exact List.countP_congr λj hj=>by rw[h c j (List.mem_range.mp hj)]
 rw[e,W24.HQ (λc=>(List.range ups.length).countP λj=>p j&&decide (f j=c)),W24.HN p f LZ λj hj pj=>(FA _).mpr (hf j (List.mem_range.mp hj) pj)]
theorem PM (ok:A6 ups lab.cps.toList)(low:∀c∈lab.cps.toList,Lw c){j:Nat}(hj:j < ups.length):Lw (lab.cps.toList.getD j 0):=by
 have jl:j < lab.cps.toList.length:=by rw[<-ok.len];exact hj
 rw[List.getD_eq_getElem?_getD,List.getElem?_eq_getElem jl]
 exact low _ (List.getElem_mem jl)
theorem JO {z:Str}{u:Int}:u∈Cz ups lab ups.length z↔0<=u/\u < (ups.length:Int)/\z.cps.toList<+:W ups lab.cps.toList u.toNat:=by
 unfold Cz
 rw[List.mem_map]
 constructor
 ·rintro⟨j,hj,rfl⟩
  obtain⟨h1,h2⟩:=List.mem_filter.mp hj
  have:=List.mem_range.mp h1
  exact⟨by omega,by omega,List.isPrefixOf_iff_prefix.mp h2⟩
 ·rintro⟨a,b,c⟩
  exact⟨u.toNat,List.mem_filter.mpr ⟨List.mem_range.mpr (by omega),List.isPrefixOf_iff_prefix.mpr c⟩,by omega⟩
theorem La (ok:A6 ups lab.cps.toList)(low:∀c∈lab.cps.toList,Lw c){z:Str}(hz:z.cps.toList≠[]):((C6 λc=>DM ups lab (yF z c)).map (·.2)).sum=(((ups.filter λu=>decide (u∈Cz ups lab ups.length z)).length:Nat):Int):=by
 have key:∀j,j < ups.length->(ups.getD j 0∈Cz ups lab ups.length z↔¬ups.getD j 0 < 0/\z.cps.toList<+:W ups lab.cps.toList (ups.getD j 0).toNat):=λj hj=>by
  rw[JO]
  constructor
  ·rintro⟨a,_,c⟩;exact⟨by omega,c⟩
  ·rintro⟨a,c⟩
   have:=ok.lt hj a
   exact⟨by omega,by omega,c⟩
 rw[F1 (y:=yF z) (p:=λj=>decide (ups.getD j 0∈Cz ups lab ups.length z)) (f:=λj=>lab.cps.toList.getD j 0) (λc j hj=>?_) λj hj _=>PM ok low hj]
 ·congr 1
  have e:ups=(List.range ups.length).map λj=>ups.getD j 0:=by
   apply List.ext_getElem
   ·rw[List.length_map,List.length_range]
   ·intro i h1 h2
    rw[List.getElem_map,List.getElem_range,List.getD_eq_getElem?_getD,List.getElem?_eq_getElem h1];rfl
  rw[<-List.countP_eq_length_filter]
  conv=>rhs;arg 2;rw[e]
  rw[List.countP_map];rfl
 ·rw[Bool.eq_iff_iff,List.isPrefixOf_iff_prefix,Bool.and_eq_true,decide_eq_true_eq,decide_eq_true_eq,key j hj,JG ok hj]
  unfold yF
  rw[List.cons_prefix_cons]
  by_cases c0:ups.getD j 0 < 0
  ·rw[if_pos c0]
   constructor
   ·rintro⟨_,h⟩;exact absurd (List.prefix_nil.mp h) hz
   ·rintro⟨⟨h,_⟩,_⟩;exact absurd c0 h
  ·rw[if_neg c0]
   constructor
   ·rintro⟨rfl,h⟩;exact⟨⟨c0,h⟩,rfl⟩
   ·rintro⟨⟨_,h⟩,rfl⟩;exact⟨rfl,h⟩
theorem Kc (ok:A6 ups lab.cps.toList)(low:∀c∈lab.cps.toList,Lw c){z:Str}:((C6 λc=>DM ups lab (yB z c)).map (·.2)).sum=(((Cz ups lab ups.length z).length:Nat):Int) - ((((Cz ups lab ups.length z).filter λi:Int=>decide (mk (R ups lab.cps.toList i)=z)).length:Nat):Int):=by
 have cl:=AY z
 rw[F1 (y:=yB z) (p:=λj=>decide (z.cps.toList<+:W ups lab.cps.toList j/\z.length < (W ups lab.cps.toList j).length)) (f:=λj=>(W ups lab.cps.toList j).getD z.length 0) (λc j hj=>?_) λj hj h=>?_]
 ·have e1:(Cz ups lab ups.length z).length=(List.range ups.length).countP λj=>z.cps.toList.isPrefixOf (W ups lab.cps.toList j):=by unfold Cz;rw[List.length_map,<-List.countP_eq_length_filter]
  have e2:((Cz ups lab ups.length z).filter λi:Int=>decide (mk (R ups lab.cps.toList i)=z)).length=(List.range ups.length).countP λj=>decide (W ups lab.cps.toList j=z.cps.toList):=by
   unfold Cz
   rw[<-List.countP_eq_length_filter,List.countP_map,List.countP_filter]
   refine List.countP_congr λj _=>?_
   have eR:R ups lab.cps.toList (j:Int)=W ups lab.cps.toList j:=by unfold R;rw[if_neg (by omega),Int.toNat_natCast]
   simp only[Function.comp,Bool.and_eq_true,decide_eq_true_eq,eR,List.isPrefixOf_iff_prefix]
   constructor
   ·rintro⟨h,_⟩;rw[<-h,BQ]
   ·intro h;exact⟨by rw[h];exact MJ z,by rw[h];exact List.prefix_refl _⟩
  rw[e1,e2,HZ (a:=λj=>z.cps.toList.isPrefixOf (W ups lab.cps.toList j)) (b:=λj=>decide (z.cps.toList<+:W ups lab.cps.toList j/\z.length < (W ups lab.cps.toList j).length)) (c:=λj=>decide (W ups lab.cps.toList j=z.cps.toList))]
  ·omega
  ·intro j _
   rw[Bool.eq_iff_iff,List.isPrefixOf_iff_prefix,Bool.or_eq_true,decide_eq_true_eq,decide_eq_true_eq]
   constructor
   ·intro h
    have:=h.length_le
    rcases Nat.lt_or_ge z.length (W ups lab.cps.toList j).length with g|g
    ·exact .inl ⟨h,g⟩
    ·exact .inr (h.eq_of_length (by omega)).symm
   ·rintro(⟨h,_⟩|h)
    ·exact h
    ·rw[h];exact List.prefix_refl _
  ·rintro j _ ⟨h1,h2⟩
   have h1:=of_decide_eq_true h1
   have h2:=of_decide_eq_true h2
   rw[h2]at h1
   omega
 ·rw[Bool.eq_iff_iff,List.isPrefixOf_iff_prefix,Bool.and_eq_true,decide_eq_true_eq,decide_eq_true_eq]
  unfold yB
  rw[FC,cl]
  constructor
  ·rintro⟨h,g⟩
   have lt:=(List.getElem?_eq_some_iff.mp g).1
   exact⟨⟨h,lt⟩,by rw[List.getD_eq_getElem?_getD,g];rfl⟩
  ·rintro⟨⟨h,lt⟩,g⟩
   refine⟨h,?_⟩
   rw[List.getD_eq_getElem?_getD,List.getElem?_eq_getElem lt]at g
   rw[List.getElem?_eq_getElem lt]
   exact congrArg some g
 ·have lt:=(of_decide_eq_true h).2
  have:(W ups lab.cps.toList j).getD z.length 0∈W ups lab.cps.toList j:=by
   rw[List.getD_eq_getElem?_getD,List.getElem?_eq_getElem lt];exact List.getElem_mem lt
  exact MM ok low (j+1) j (by omega) hj _ this
end
section
variable {P:Program}{w:World}{K:PySem.W.Frag}{mg:Str->Option Value}{base:Heap}{k:Nat}
def Ke (ps:List (Str×Int))(z:Str):List (Str×Int):=ps.filter λp=>decide (BU p.1 none (some ((z.length:Nat):Int))=z)
def FT (sel:List (Str×Int))(i:Nat):List V:=[.int (((sel.getD i (Str.empty,0)).1.length:Nat):Int),.int (sel.getD i (Str.empty,0)).2]
def IY (H:Hp)(as:List Addr)(sel:List (Str×Int)):Prop:=as.length=sel.length/\∀(i:Nat) (b:Addr),as[i]?=some b->H b=some (.tup (FT sel i))
theorem IY.nil {H:Hp}:IY H [] []:=⟨rfl,λi b e=>by simp at e⟩
theorem IY.push {H:Hp}{as:List Addr}{sel:List (Str×Int)}{e acc:Addr}{z:Str}{c:Int}{ys:List V}{o:HO}(h:IY H as sel)(hacc:H acc=some (.lst ys))(he:H e=none):IY (upd (upd H e (.tup [.int ((z.length:Nat):Int),.int c])) acc o) (as++[e]) (sel++[(z,c)]):=by
 refine⟨by simp[h.1],λi b hb=>?_⟩
 have ae:acc≠e:=AK hacc he
 rcases Nat.lt_or_ge i as.length with q|q
 ·rw[List.getElem?_append_left q]at hb
  have h1:=h.2 i b hb
  have e1:FT (sel++[(z,c)]) i=FT sel i:=by
   unfold FT
   rw[List.getD_eq_getElem?_getD,List.getD_eq_getElem?_getD,List.getElem?_append_left (by rw[<-h.1];exact q)]
  rw[AL (GO h1 hacc (by intro z;cases z)),AL (AK h1 he),e1];exact h1
 ·have q0:i=as.length:=by
   have:=(List.getElem?_eq_some_iff.mp hb).1
   simp at this;omega
  subst q0
  have ea:e=b:=by simpa using hb
  subst ea
  have e1:FT (sel++[(z,c)]) as.length=[.int ((z.length:Nat):Int),.int c]:=by
   unfold FT
   rw[List.getD_eq_getElem?_getD,List.getElem?_append_right (by rw[h.1];exact Nat.le_refl _),h.1,Nat.sub_self];rfl
  rw[AL (Ne.symm ae),AD,e1]
theorem QR (sel:List (Str×Int)):MZ (FT sel) [1,1]:=⟨λi=>rfl,by decide⟩
theorem PN {sel:List (Str×Int)}{b:Nat}(h:MB (λi j=>CU (FT sel i) (FT sel j)) b sel.length):sel.getD b (Str.empty,0)∈sel/\∀y∈sel,(sel.getD b (Str.empty,0)).1.length<=y.1.length/\(y.1.length=(sel.getD b (Str.empty,0)).1.length->(sel.getD b (Str.empty,0)).2<=y.2):=by
 have hb:=h.1
 have g0:∀i (hi:i < sel.length),sel.getD i (Str.empty,0)=sel[i]:=λi hi=>by rw[List.getD_eq_getElem?_getD,List.getElem?_eq_getElem hi];rfl
 refine⟨by rw[g0 b hb];exact List.getElem_mem hb,λy hy=>?_⟩
 obtain⟨i,hi,ei⟩:=List.getElem_of_mem hy
 have l:=h.2 i hi
 have l':CU [V.int (((sel.getD i (Str.empty,0)).1.length:Nat):Int),.int (sel.getD i (Str.empty,0)).2] [V.int (((sel.getD b (Str.empty,0)).1.length:Nat):Int),.int (sel.getD b (Str.empty,0)).2]=false:=l
 rw[g0 i hi,ei]at l'
 generalize sel.getD b (Str.empty,0)=x at l'
 unfold CU at l'
 by_cases e:y.1.length=x.1.length
 ·rw[if_pos (by rw[e])]at l'
  refine⟨by omega,λ_=>?_⟩
  unfold CU at l'
  by_cases e2:V.int y.2=V.int x.2
  ·injection e2 with e2
   omega
  ·rw[if_neg e2]at l'
   have:decide (y.2 < x.2)=false:=l'
   have:=of_decide_eq_false this
   omega
 ·rw[if_neg (by intro c;injection c with c;exact e (by omega))]at l'
  have:decide (((y.1.length:Nat):Int) < ((x.1.length:Nat):Int))=false:=l'
  have:=of_decide_eq_false this
  exact⟨by omega,λc=>absurd c e⟩
theorem QS {ups:List Int}{lab:Str}{ss U:List Str}(ok:A6 ups lab.cps.toList)(un:R9 ups lab U)(hp:ss.Perm (AO ups lab))(hs:PyProof.Rows.sortedS ss=true):(GN ss U).length<=120:=by
 have mem:∀z,z∈U↔F0 ups lab z:=λz=>by rw[<-un.ul ss hp hs];exact CI hp z
 have:=W24.HL (D9 hs) (C:=cs (Kg ss U)) (FD (un.nd.filter _)) (λz hz=>(JN hp hs mem (z:=mk z)).mp (HV.mp hz))
 have m60:=ok.most
 have sl:=hp.length_eq
 have wl:=An ups lab
 rw[Fj,Fj]at this
 rw[LX,List.length_map]
 omega
def Ma:Sp:=λvs H Q _=>∃(t r:Addr) (ups:List Int) (lab z:Str) (U ss:List Str) (ys:List V),vs=[.ref t,.ref r,.str z]/\Al H t ups lab/\(∀c∈lab.cps.toList,Lw c)/\R9 ups lab U/\ss.Perm (AO ups lab)/\PyProof.Rows.sortedS ss=true/\z.length<=200/\H r=some (.lst ys)/\BN H ys (GN ss U)/\∀H',AJ H H'->Q (.bl true) H'
theorem PQ (D:Df K mg "_law_word_right" s_law_word_right)(B:O9 mg)(G_places_of:A9 P w K mg base "places_of" k ["tree","word"] EA)(G_law_word:A9 P w K mg base "_law_word" k ["tree","place"] Dp)
 (G_fronts_of:A9 P w K mg base "fronts_of" k ["tree","word"] (MO yF))(G_behinds_of:A9 P w K mg base "behinds_of" k ["tree","word"] (MO yB)):A9 P w K mg base "_law_word_right" (k+1) ["tree","closed","word"] Ma:=by
 refine D.has BC (λ_ _ _ _ _ _ us hl=>match us,hl with|[_,_,_],_=>rfl) (λvs H Q E h=>by obtain⟨t,r,ups,lab,z,U,ss,ys,rfl,_⟩:=h;rfl) (λf cdv A outer s H vs Q E hr h=>?_)
 obtain⟨t,r,ups,lab,z,U,ss,ys,rfl,tr,low,un,hp,hs,z200,hr0,tu,q⟩:=h
 refine⟨_,(AE (AS (i:=3) BC.nd rfl (by first|exact Or.inl rfl|exact Or.inr rfl) (AH G_places_of hr rfl (AA (pv 0) (AA (pv 2) AB))))
 (AE (Bs (PW.pt (Ee (Ac DN (pv 2) FE (Ad _)) (EK (Ac (Dx hr.FJ) (pv 3) (Av AB) (Ad _)))))
 (AN (AW Cg))
 Au)
 (AE (AS (i:=4) BC.nd rfl (by first|exact Or.inl rfl|exact Or.inr rfl) (AI Ab rfl B.len Aa (AA (Aw rfl (Qx (Ai CL (pv 0) AF (λ_ _=>rfl))) (NL:=["up"]) (ix:=[3]) (En (AG s_law_word_right) Az) (λcl C s₃ H₃ fp pins=>⟨(AQ (i:=0) (show List.Nodup (["up","places"]:List Str)from by decide+kernel) rfl (by first|exact Or.inl rfl|exact Or.inr rfl)),(Bx (Ac (Kw K) (pv 0) (pv 1) (by with_unfolding_all rfl))),(pv 0)⟩)) AB)))
 (AE (AS (i:=5) BC.nd rfl (by first|exact Or.inl rfl|exact Or.inr rfl) (AI Ab rfl B.len Aa (AA (Aw rfl (Ao (pv 3)) (NL:=["place"]) (ix:=[0,2]) (En (AG s_law_word_right) Az) (λcl C s₃ H₃ fp pins=>⟨(AQ (i:=0) (show List.Nodup (["place","tree","word"]:List Str)from by decide+kernel) rfl (by first|exact Or.inl rfl|exact Or.inr rfl)),(Bx (Ac DN (AH G_law_word hr rfl (AA (pv 1) (AA (pv 0) AB))) (pv 2) (Ad _))),(pv 0)⟩)) AB)))
 (AE (Bs (Ac Eh (AI (Fe K rfl) rfl B.sum LV (AA (Aw rfl (Ao (AH G_fronts_of hr rfl (AA (pv 0) (AA (pv 2) AB)))) (NL:=["letter","many"]) (ix:=[]) (En (AG s_law_word_right) Az) (λcl C s₃ H₃ fp pins=>⟨(Eo K (n:=2) rfl (Ah (AQ (i:=0) (show List.Nodup (["letter","many"]:List Str)from by decide+kernel) rfl (by first|exact Or.inl rfl|exact Or.inr rfl)) (Ah (AQ (i:=1) (show List.Nodup (["letter","many"]:List Str)from by decide+kernel) rfl (by first|exact Or.inl rfl|exact Or.inr rfl)) Bt))),Ar,(pv 1)⟩)) AB)) (pv 4) (Ad _))
 (AN (AW Cg))
 Au)
 (AE (Bs (Ac Eh (AI (Fe K rfl) rfl B.sum LV (AA (Aw rfl (Ao (AH G_behinds_of hr rfl (AA (pv 0) (AA (pv 2) AB)))) (NL:=["letter","many"]) (ix:=[]) (En (AG s_law_word_right) Az) (λcl C s₃ H₃ fp pins=>⟨(Eo K (n:=2) rfl (Ah (AQ (i:=0) (show List.Nodup (["letter","many"]:List Str)from by decide+kernel) rfl (by first|exact Or.inl rfl|exact Or.inr rfl)) (Ah (AQ (i:=1) (show List.Nodup (["letter","many"]:List Str)from by decide+kernel) rfl (by first|exact Or.inl rfl|exact Or.inr rfl)) Bt))),Ar,(pv 1)⟩)) AB)) (AU Cq (AI Ab rfl B.len Aa (AA (pv 3) AB)) (pv 5)) (Ad _))
 (AN (AW Cg))
 Au)
 (AE (CQ (i:=6) BC.nd rfl (by first|exact Or.inl rfl|exact Or.inr rfl) rfl (Ao (pv 1)) (NL:=["other","many"]) (ix:=[2]) (En (AG s_law_word_right) Az) (λcl C s₃ H₃ fp pins=>⟨(Eo K (n:=2) rfl (Ah (AQ (i:=0) (show List.Nodup (["other","many","word"]:List Str)from by decide+kernel) rfl (by first|exact Or.inl rfl|exact Or.inr rfl)) (Ah (AQ (i:=1) (show List.Nodup (["other","many","word"]:List Str)from by decide+kernel) rfl (by first|exact Or.inl rfl|exact Or.inr rfl)) Bt))),(Bx (Ac DN (Ap Bk (pv 0) BI (A4 (AI AR rfl B.len Aa (AA (pv 2) AB)))) (pv 2) (Ad _))),(DR (AA (AI AR rfl B.len Aa (AA (pv 0) AB)) (AA (pv 1) AB)))⟩))
 (AN (AW (B9 DN (Ai CL (AI (HW hr rfl) rfl B.min FO (AA (pv 6) AB)) AF (λ_ _=>rfl)) (AI Ab rfl B.len Aa (AA (pv 3) AB)) (Ad _))))))))))),?_⟩
 obtain⟨_,_,_,ok⟩:=id tr
 have m60:=ok.most
 have um:=un.most
 have wle:=A7 ok
 have zs:z.length<=sizeLine:=Nat.le_of_lt (AM (by omega))
 have mem:∀z,z∈U↔F0 ups lab z:=λz=>by rw[<-un.ul ss hp hs];exact CI hp z
 have cl:=MR ss U
 have pl:=D8 ups lab ups.length z
 have se:(Str.ofString "":Str)=Str.empty:=by decide
 refine⟨_,rfl,_,rfl,t,ups,lab,z,rfl,tr,λrp H1 s1 hfp hrp=>?_⟩
 refine⟨_,rfl,rfl,_,rfl,Cf (λc=>Mr (q H1 s1)) (λc=>?_)⟩
 have zne:z.cps.toList≠[]:=λe=>c (by
  have:z=Str.empty:=BW e
  rw[this,<-se];exact decide_eq_true rfl)
 refine⟨_,rfl,Nat.zero_le _,λe he=>?_⟩
 have s2:AJ H1 (upd H1 e (.lst [])):=(AJ.refl H1).new he
 have h2:upd H1 e (.lst []) e=some (.lst []):=AD
 generalize upd H1 e (.lst [])=H2 at s2 h2
 have hrp2:=s2 _ _ hrp
 have s02:=s1.trans s2
 have enil:EC ((Cz ups lab ups.length z).map V.int) []=decide (Cz ups lab ups.length z=[]):=FP _ []
 refine⟨rp,e,_,_,rfl,rfl,AZ.of hrp2,AZ.of h2,Bo _,rfl,_,rfl,?_⟩
 rw[enil]
 refine Cf (λc=>q H2 s02) (λc=>?_)
 have pne:Cz ups lab ups.length z≠[]:=of_decide_eq_false (Bool.eq_false_iff.mpr c)
 have red:Red ups lab z:=by
  obtain⟨u,hu⟩:=List.exists_mem_of_ne_nil _ pne
  obtain⟨a,b,c⟩:=JO.mp hu
  exact⟨u.toNat,by omega,c⟩
 have pz:F0 ups lab z:=by
  obtain⟨j,a,b⟩:=red
  exact⟨zne,j,a,b⟩
 obtain⟨u2,ht2,hu2,_⟩:=id (tr.same s02)
 refine⟨_,rfl,t,_,_,_,rfl,rfl,Ce.of ht2,rfl,u2,rfl,⟨_,Ce.of hu2⟩,λacc hacc=>?_⟩
 refine NK (xs:=ups.map V.int) (by rw[List.length_map];omega) (λi ys HX=>HX acc=some (.lst ys)/\ys=((ups.take i).filter λu=>decide (u∈Cz ups lab ups.length z)).map V.int/\AJ H2 HX)
  (λi ys HX h=>Ce.of (h.2.2 _ _ hu2)) (λi ys HX h=>⟨h.1,by rw[h.2.1,List.length_map];exact Nat.le_trans (List.length_filter_le _ _) (by rw[List.length_take];omega)⟩) ⟨AD,by simp,(AJ.refl H2).new hacc⟩ ?_ ?_
 rotate_left
 ·rintro i x ys HX hx ⟨e1,rfl,e3⟩
  rw[List.getElem?_map]at hx
  cases hu:ups[i]? with
  |none=>rw[hu]at hx;cases hx
  |some u=>
  rw[hu]at hx
  cases hx
  have tk:ups.take (i+1)=ups.take i++[u]:=by rw[List.take_succ,hu];rfl
  refine⟨rfl,_,rfl,_,rfl,rp,_,rfl,.inl (AZ.of (e3 _ _ hrp2)),rfl,Bo _,_,rfl,?_⟩
  rw[QP]
  refine Cf (λcnd=>?_) (λcnd=>?_)
  ·exact⟨_,rfl,e1,AD,by rw[tk,List.filter_append,List.filter_cons,if_pos (show decide (u∈Cz ups lab ups.length z)=true from cnd),List.map_append];rfl,e3.write hacc⟩
  ·exact⟨e1,by rw[tk,List.filter_append,List.filter_cons,if_neg (show¬decide (u∈Cz ups lab ups.length z)=true from cnd)];simp,e3⟩
 rintro ys2 H3 ⟨e1,rfl,s3⟩
 rw[List.length_map,List.take_length]at e1
 refine⟨acc,_,rfl,.inl (AZ.of e1),?_⟩
 rw[List.length_map,<-La ok low zne]
 have s03:=s02.trans s3
 have hrp3:=s3 _ _ hrp2
 refine⟨_,rfl,rp,rfl,⟨_,AZ.of hrp3⟩,λac2 hac2=>?_⟩
 refine Aq (xs:=(Cz ups lab ups.length z).map V.int) (by rw[List.length_map];omega) (λi ys HX=>HX ac2=some (.lst ys)/\ys=(((Cz ups lab ups.length z).take i).filter λi:Int=>decide (mk (R ups lab.cps.toList i)=z)).map V.int/\AJ H3 HX)
  (λi ys HX h=>AZ.of (h.2.2 _ _ hrp3)) (λi ys HX h=>⟨h.1,by rw[h.2.1,List.length_map];exact Nat.le_trans (List.length_filter_le _ _) (by rw[List.length_take];omega)⟩) ⟨AD,by simp,(AJ.refl H3).new hac2⟩ ?_ ?_
 rotate_left
 ·rintro i x ys HX hx ⟨g1,rfl,g3⟩
  rw[List.getElem?_map]at hx
  cases hu:(Cz ups lab ups.length z)[i]? with
  |none=>rw[hu]at hx;cases hx
  |some u=>
  rw[hu]at hx
  cases hx
  obtain⟨a,b,_⟩:=JO.mp (List.mem_of_getElem? hu)
  have tk:(Cz ups lab ups.length z).take (i+1)=(Cz ups lab ups.length z).take i++[u]:=by rw[List.take_succ,hu];rfl
  refine⟨rfl,_,rfl,_,rfl,t,ups,lab,u,rfl,(tr.same s03).same g3,by omega,_,rfl,rfl,_,rfl,?_⟩
  refine Cf (λcnd=>?_) (λcnd=>?_)
  ·have cnd:=of_decide_eq_true cnd
   injection cnd with cnd
   exact⟨_,rfl,g1,AD,by rw[tk,List.filter_append,List.filter_cons,if_pos (decide_eq_true cnd),List.map_append];rfl,g3.write hac2⟩
  ·have cnd:=of_decide_eq_false (Bool.eq_false_iff.mpr cnd)
   exact⟨g1,by rw[tk,List.filter_append,List.filter_cons,if_neg (by intro e;exact cnd (congrArg V.str (of_decide_eq_true e)))];simp,g3⟩
 rintro ys3 H4 ⟨g1,rfl,s4⟩
 rw[List.length_map,List.take_length]at g1
 refine⟨ac2,_,rfl,.inl (AZ.of g1),?_⟩
 rw[List.length_map]
 have s04:=s03.trans s4
 have bh:=Kc (z:=z) ok low
 have sumC:∀(N:Nat->Int) (vs:List V) (l:Addr) (HA:Hp),HA l=some (.lst vs)->Fm HA vs ((C6 N).map R8)->(∀c∈DP,0<=N c/\N c<=1000)->vs.length<=26/\∀(i:Nat) (x:V),vs[i]?=some x->∃(a:Addr) (c:Str×Int),(C6 N)[i]?=some c/\x=.ref a/\HA a=some (.tup [.str c.1,.int c.2]):=λN vs l HA hl tv nb=>by
  have l1:=tv.1
  rw[List.length_map]at l1
  have l2:(C6 N).length<=26:=by
   unfold C6
   rw[List.length_map]
   exact Nat.le_trans (List.length_filter_le _ _) (by rw[E9,List.length_range'];exact Nat.le_refl _)
  refine⟨by omega,λi x hx=>?_⟩
  have il:i < (C6 N).length:=by rw[<-l1];exact(List.getElem?_eq_some_iff.mp hx).1
  obtain⟨a,e1,e2⟩:=tv.2 i x (R8 (C6 N)[i]) hx (by rw[List.getElem?_map,List.getElem?_eq_getElem il];rfl)
  exact⟨a,_,List.getElem?_eq_getElem il,e1,e2⟩
 have cb:∀(y:Nat->List Nat) c,0<=DM ups lab (y c)/\DM ups lab (y c)<=1000:=λ(y:Nat->List Nat) c=>by
  have:=D8 ups lab ups.length (mk (y c))
  unfold DM
  omega
 have db:∀y:Nat->List Nat,∀n∈(C6 λc=>DM ups lab (y c)).map (·.2),0<=n/\n<=1000000:=λy n hn=>by
  obtain⟨p,hp,rfl⟩:=List.mem_map.mp hn
  unfold C6 at hp
  obtain⟨c,_,rfl⟩:=List.mem_map.mp hp
  have:=cb y c
  exact⟨this.1,Int.le_trans this.2 (by decide)⟩
 refine⟨_,rfl,_,rfl,t,ups,lab,z,rfl,tr.same s04,low,red,λl1 v1 H5 s5 hf5 hl5 tv5=>?_⟩
 obtain⟨n5,at5⟩:=sumC _ v1 l1 H5 hl5 tv5 λc _=>cb _ c
 have d5:=(by have:=tv5.1;rw[List.length_map]at this;exact this:v1.length=(C6 λc=>DM ups lab (yF z c)).length)
 refine⟨l1,rfl,⟨_,AZ.of hl5⟩,λac3 hac3=>?_⟩
 refine Aq (xs:=v1) (by omega) (λi ys HX=>HX ac3=some (.lst ys)/\ys=(((C6 λc=>DM ups lab (yF z c)).take i).map (·.2)).map V.int/\AJ H5 HX)
  (λi ys HX h=>AZ.of (h.2.2 _ _ hl5)) (λi ys HX h=>⟨h.1,by rw[h.2.1,List.length_map,List.length_map,List.length_take];exact Nat.min_le_left _ _⟩) ⟨AD,rfl,(AJ.refl H5).new hac3⟩ ?_ ?_
 rotate_left
 ·rintro i x ys HX hx ⟨x1,rfl,x3⟩
  obtain⟨a,c,ec,rfl,ha⟩:=at5 i x hx
  refine⟨a,_,rfl,Ce.of (x3 _ _ ha),rfl,_,_,rfl,_,_,rfl,rfl,rfl,_,rfl,x1,AD,?_,x3.write hac3⟩
  rw[List.take_succ,ec,List.map_append,List.map_append];rfl
 rintro ys5 H6 ⟨x1,rfl,s6⟩
 rw[d5,List.take_length]at x1
 refine⟨ac3,_,rfl,AZ.of x1,db _,by rw[List.length_map];omega,_,rfl,rfl,_,rfl,Fn (Qh rfl) ?_⟩
 have s06:=(s04.trans s5).trans s6
 refine⟨_,rfl,_,rfl,t,ups,lab,z,rfl,tr.same s06,low,red,λl2 v2 H7 s7 hf7 hl7 tv7=>?_⟩
 obtain⟨n7,at7⟩:=sumC _ v2 l2 H7 hl7 tv7 λc _=>cb _ c
 have d7:=(by have:=tv7.1;rw[List.length_map]at this;exact this:v2.length=(C6 λc=>DM ups lab (yB z c)).length)
 refine⟨l2,rfl,⟨_,AZ.of hl7⟩,λac4 hac4=>?_⟩
 refine Aq (xs:=v2) (by omega) (λi ys HX=>HX ac4=some (.lst ys)/\ys=(((C6 λc=>DM ups lab (yB z c)).take i).map (·.2)).map V.int/\AJ H7 HX)
  (λi ys HX h=>AZ.of (h.2.2 _ _ hl7)) (λi ys HX h=>⟨h.1,by rw[h.2.1,List.length_map,List.length_map,List.length_take];exact Nat.min_le_left _ _⟩) ⟨AD,rfl,(AJ.refl H7).new hac4⟩ ?_ ?_
 rotate_left
 ·rintro i x ys HX hx ⟨x1,rfl,x3⟩
  obtain⟨a,c,ec,rfl,ha⟩:=at7 i x hx
  refine⟨a,_,rfl,Ce.of (x3 _ _ ha),rfl,_,_,rfl,_,_,rfl,rfl,rfl,_,rfl,x1,AD,?_,x3.write hac4⟩
  rw[List.take_succ,ec,List.map_append,List.map_append];rfl
 rintro ys7 H8 ⟨w1,rfl,s8⟩
 rw[d7,List.take_length]at w1
 have s48:=((s5.trans s6).trans s7).trans s8
 have hrp8:=s48 _ _ (s4 _ _ hrp3)
 refine⟨ac4,_,rfl,AZ.of w1,db _,by rw[List.length_map];omega,_,rfl,rp,_,rfl,.inl (AZ.of hrp8),_,rfl,_,_,rfl,rfl,rfl,_,rfl,Fn (Qh (by rw[bh,List.length_map])) ?_⟩
 have s08:=s04.trans s48
 obtain⟨as,rfl⟩:=tu.refs
 have las:=tu.1
 rw[List.length_map]at las
 have hr8:=s08 _ _ hr0
 have few:=QS ok un hp hs
 refine⟨_,rfl,r,rfl,⟨_,AZ.of hr8⟩,λac5 hac5=>?_⟩
 have hsel:∀i z2 c,(GN ss U)[i]?=some (z2,c)->Ke ((GN ss U).take (i+1)) z=Ke ((GN ss U).take i) z++(if BU z2 none (some ((z.length:Nat):Int))=z then[(z2,c)]else[]):=λi z2 c e=>by
  unfold Ke
  rw[List.take_succ,e,List.filter_append]
  congr 1
  show List.filter _ [(z2,c)]=_
  rw[List.filter_cons,List.filter_nil]
  by_cases g:BU z2 none (some ((z.length:Nat):Int))=z
  ·rw[if_pos g,if_pos (decide_eq_true g)]
  ·rw[if_neg g,if_neg (by simpa using g)]
 refine Aq (xs:=as.map V.ref) (by rw[List.length_map];omega) (λi ys HX=>HX ac5=some (.lst ys)/\AJ H8 HX/\∃bs:List Addr,ys=bs.map V.ref/\IY HX bs (Ke ((GN ss U).take i) z))
  (λi ys HX h=>AZ.of (h.2.1 _ _ hr8)) (λi ys HX h=>⟨h.1,by obtain⟨bs,e,r,_⟩:=h.2.2;rw[e,List.length_map,r];exact Nat.le_trans (List.length_filter_le _ _) (by rw[List.length_take];omega)⟩) ⟨AD,(AJ.refl H8).new hac5,[],rfl,.nil⟩ ?_ ?_
 rotate_left
 ·rintro i x ys HX hx ⟨x1,x3,bs,rfl,rt⟩
  obtain⟨z2,c,a,ep,rfl,ha⟩:=(tu.same (s08.trans x3)).at hx
  have z2U:z2∈U:=by
   have m:=List.mem_of_getElem? ep
   rw[LX]at m
   obtain⟨y,hy,e⟩:=List.mem_map.mp m
   cases e
   exact(List.mem_filter.mp hy).1
  have z2b:=(B7 ok ((mem z2).mp z2U)).2
  have z2s:z2.length<=sizeLine:=Nat.le_of_lt (AM (by omega))
  have st:=hsel i z2 c ep
  refine⟨a,_,rfl,Ce.of ha,rfl,_,_,rfl,_,_,rfl,rfl,rfl,_,rfl,_,rfl,z,rfl,zs,_,rfl,z2,rfl,z2s,_,rfl,rfl,_,rfl,Cf (λcnd=>?_) (λcnd=>?_)⟩
  ·have cnd:=of_decide_eq_true cnd
   injection cnd with cnd
   rw[if_pos cnd]at st
   refine⟨_,rfl,z2,rfl,z2s,_,rfl,(by show 2<=sizeLine;decide),λe he=>?_⟩
   have ae:ac5≠e:=AK x1 he
   refine⟨by rw[AL ae];exact x1,AD,(x3.new he).write hac5,bs++[e],by rw[List.map_append];rfl,?_⟩
   rw[st]
   exact rt.push x1 he
  ·have cnd:=of_decide_eq_false (Bool.eq_false_iff.mpr cnd)
   rw[if_neg (λe=>cnd (congrArg V.str e)),List.append_nil]at st
   exact⟨x1,x3,bs,rfl,by rw[st];exact rt⟩
 rintro ys9 H9 ⟨y1,s9,bs,rfl,rt⟩
 rw[List.length_map,las,List.take_length]at rt
 have hN:∀x∈cs ss,x.length<=60:=λx hx=>by
  obtain⟨y,hy,rfl⟩:=List.mem_map.mp hx
  rw[AY];exact wle y (hp.mem_iff.mp hy)
 obtain⟨c0,cc0,pc0,ec0,min0⟩:=W24.JL hN ((JM hp z).mp pz)
 have zm:∀y,y∈Kg ss U↔W24.Cl (cs ss) y.cps.toList:=λy=>JN hp hs mem
 have inSel:∀p,p∈Ke (GN ss U) z↔W24.Cl (cs ss) p.1.cps.toList/\p.2=((W18.BL (cs ss) p.1.cps.toList:Nat):Int)/\z.cps.toList<+:p.1.cps.toList:=λp=>by
  unfold Ke
  rw[List.mem_filter,decide_eq_true_eq,LW rfl,List.isPrefixOf_iff_prefix,LX,List.mem_map]
  constructor
  ·rintro⟨⟨y,hy,rfl⟩,h⟩
   exact⟨(zm y).mp hy,by rw[MV],h⟩
  ·rintro⟨h1,h2,h3⟩
   exact⟨⟨p.1,(zm p.1).mpr h1,by rw[MV,<-h2]⟩,h3⟩
 have m0:(mk c0,((W18.BL (cs ss) c0:Nat):Int))∈Ke (GN ss U) z:=(inSel _).mpr ⟨cc0,rfl,pc0⟩
 generalize Ke (GN ss U) z=sel at rt inSel m0
 have ne:bs≠[]:=λe=>by
  have l:=rt.1
  rw[e]at l
  have:sel=[]:=List.eq_nil_of_length_eq_zero l.symm
  rw[this]at m0;cases m0
 have many:(Cz ups lab ups.length z).length=W18.BL (cs ss) z.cps.toList:=by
  have h1:=E8 hp z
  unfold cnt at h1
  rw[h1]
  unfold W18.BL cs
  rw[List.filter_map,List.length_map,<-List.countP_eq_length_filter];rfl
 have hrp9:=s9 _ _ hrp8
 refine⟨_,rfl,ac5,bs,FT sel,[1,1],rfl,AZ.of y1,ne,λi b hb=>Ce.of (rt.2 i b hb),QR sel,λb p hb lb=>?_⟩
 rw[rt.1]at lb
 obtain⟨fm,fl⟩:=PN lb
 refine⟨p,_,_,_,rfl,rfl,Ce.of (rt.2 b p hb),rfl,?_⟩
 refine⟨_,rfl,rp,_,rfl,.inl (AZ.of hrp9),rfl,?_⟩
 obtain⟨f1,f2,f3⟩:=(inSel _).mp fm
 have le0:=(fl _ m0).1
 obtain⟨g1,g2⟩:=min0 _ f1 f3
 have el:(sel.getD b (Str.empty,0)).1.cps.toList=c0:=by
  refine g2 ?_
  have a:=AY (sel.getD b (Str.empty,0)).1
  have b':(mk c0).length=c0.length:=DK _
  have le0:(sel.getD b (Str.empty,0)).1.length<=(mk c0).length:=le0
  omega
 have fin:(sel.getD b (Str.empty,0)).2=(((Cz ups lab ups.length z).length:Nat):Int):=by rw[f2,el,ec0,many]
 rw[List.length_map,fin,decide_eq_true rfl]
 exact q _ (s08.trans s9)
end
end S24
namespace S24
open PySem L2 W7
theorem Ct.but {ls:List Lm}{p:Addr}{o:HO}{H H':Hp}(a:Ct ls H)(hp:H p=some o)(h1:∀ps,o≠.tbl ps)(h2:∀c q,o≠ID c q)(k:∀b u,b≠p->H b=some u->H' b=some u):Ct ls H':=λm hm=>by
 obtain⟨ps,a,b,c⟩:=a m hm
 refine⟨ps,k _ _ (λe=>h1 ps (by rw[e,hp]at a;exact Option.some.inj a)) a,b,?_⟩
 rcases c with c|⟨d,c,e⟩
 ·exact .inl c
 ·exact .inr ⟨d,c,k _ _ (λz=>h2 d _ (by rw[z,hp]at e;rw[z];exact Option.some.inj e)) e⟩
theorem Ct.kd {ls:List Lm}{p:Addr}{c:Int}{H H':Hp}(a:Ct ls H)(dk:∃c,CT H p c)(k:Kd p c H H'):Ct ls H':=by
 obtain⟨c0,x,y,z,e0,_⟩:=dk
 exact Ct.but a e0 (λ_ z=>by cases z) (λ_ _ z=>by cases z) k.keep
theorem Kt.kd {ls:List Lm}{p:Addr}{c:Int}{H0 H H':Hp}(a:Kt ls H0 H)(dk:∃c,CT H p c)(hp:H0 p=none)(k:Kd p c H H'):Kt ls H0 H':=
 ⟨Ct.kd a.lam dk k,λb o ho e=>k.keep b o (AK e hp) (a.keep b o ho e),λb e=>a.here b (k.fresh e)⟩
theorem Al.kd {p:Addr}{c:Int}{H H':Hp}{t:Addr}{ups:List Int}{lab:Str}(h:Al H t ups lab)(dk:∃c,CT H p c)(k:Kd p c H H'):Al H' t ups lab:=by
 obtain⟨c0,x,y,z,e0,_⟩:=dk
 obtain⟨u,a,b,c⟩:=h
 exact⟨u,k.keep _ _ (GO a e0 (by intro z;cases z)) a,k.keep _ _ (GO b e0 (by intro z;cases z)) b,c⟩
theorem CT.same {p:Addr}{c:Int}{H H':Hp}(h:CT H p c)(s:AJ H H'):CT H' p c:=by
 obtain⟨x,y,z,e,r⟩:=h
 exact⟨x,y,z,s _ _ e,r⟩
def lamsOf (Ts:List Addr):List Lm:=[(Ts.getD 0 0,UG,qM)]
theorem S7 (Ts:List Addr):OF (lamsOf Ts):=by
 intro l hl m hm
 simp only[lamsOf,List.mem_cons,List.not_mem_nil,or_false]at hl hm
 rw[hl,hm];exact .inl rfl
theorem lams_start {Ts:List Addr}{H:Hp}(hl:Ts.length=1)(h:∀T∈Ts,H T=some (.tbl #[])):Ct (lamsOf Ts) H:=by
 match Ts,hl with
 |[T1],_=>
  intro l hl
  simp only[lamsOf,List.mem_cons,List.not_mem_nil,or_false]at hl
  rw[hl]
  exact Gb.start (h T1 (by simp))
section
variable {P:Program}{w:World}{K:PySem.W.Frag}{mg:Str->Option Value}{base:Heap}{k:Nat}
def sp_law (ls:List Lm):PySem.W.Frag->Sp:=λK vs H Q _=>∃(a:Addr) (ns:List Int),vs=[.ref a]/\AZ K H a (ns.map V.int)/\ns.length<=63/\Ct ls H/\∀H',Q (.bl true) H'
theorem R1 {ls:List Lm}{f:Addr}{fd:FuncData}(F:Q8 K "law" "law" s_law f fd)(B:O9 mg)(G_law_cells:A9 P w K mg base "_law_cells" k ["script","most"] (J8 K))(G_law_pool:A9 P w K mg base "_law_pool" k ["cell"] MG)(G_law_tree:A9 P w K mg base "_law_tree" k ["pool","most"] MI)
 (G_count_words:A9 P w K mg base "count_words" k ["tree"] Qf)(G_law_numbers_right:A9 P w K mg base "_law_numbers_right" k ["tree","count"] MS)(G_law_lengths_right:A9 P w K mg base "_law_lengths_right" k ["tree","count"] (MU ls))(G_closed_words:A9 P w K mg base "closed_words" k ["tree"] O5)
 (G_law_closed_right:A9 P w K mg base "_law_closed_right" k ["tree","closed","count"] MY)(G_law_seek:A9 P w K mg base "_law_seek" k ["pool","tree"] MQ)(G_law_word_right:A9 P w K mg base "_law_word_right" k ["tree","closed","word"] Ma):
 F3 P w K mg base CX0 (k+1) f fd ["script"] (sp_law ls K):=by
 refine F.ok Dn (λvs H Q E h=>by obtain⟨a,ns,rfl,_⟩:=h;rfl) (λcdv A outer s H vs Q E hr h=>?_)
 obtain⟨a,ns,rfl,hS,h63,LL,q⟩:=h
 refine⟨_,(AE (Cp PassesOwn.never rfl (Ll rfl B.enumerate (AA (AH G_law_cells hr rfl (AA (pv 0) (AA AF AB))) AB)) (EM rfl (Ah (AQ (i:=1) Dn.nd rfl (by first|exact Or.inl rfl|exact Or.inr rfl)) (Ah (AQ (i:=2) Dn.nd rfl (by first|exact Or.inl rfl|exact Or.inr rfl)) Bt)))
 (AE (AS (i:=3) Dn.nd rfl (by first|exact Or.inl rfl|exact Or.inr rfl) (AH G_law_pool hr rfl (AA (pv 2) AB)))
 (AE (AS (i:=4) Dn.nd rfl (by first|exact Or.inl rfl|exact Or.inr rfl) (AH G_law_tree hr rfl (AA (pv 3) (AA (Ai Aj (Av (AA AF (AA AF AB))) (pv 1) (λ_ _=>rfl)) AB))))
 (AE (AS (i:=5) Dn.nd rfl (by first|exact Or.inl rfl|exact Or.inr rfl) (AH G_count_words hr rfl (AA (pv 4) AB)))
 (AE (Bs (PW.pt (Ee (EL (C7 (AH G_law_numbers_right hr rfl (AA (pv 4) (AA (pv 5) AB))))) (EK (EL (C7 (AH G_law_lengths_right hr rfl (AA (pv 4) (AA (pv 5) AB))))))))
 (AN (AW Cg))
 Au)
 (AE (AS (i:=6) Dn.nd rfl (by first|exact Or.inl rfl|exact Or.inr rfl) (AH G_closed_words hr rfl (AA (pv 4) AB)))
 (AE (Bs (EL (C7 (AH G_law_closed_right hr rfl (AA (pv 4) (AA (pv 6) (AA (pv 5) AB))))))
 (AN (AW Cg))
 Au)
 (AN (Cp PassesOwn.never rfl (Ao (Av (AA (AH G_law_seek hr rfl (AA (pv 3) (AA (pv 4) AB))) (AA (AH G_law_seek hr rfl (AA (pv 3) (AA (pv 4) AB))) AB)))) (AQ (i:=7) Dn.nd rfl (by first|exact Or.inl rfl|exact Or.inr rfl))
 (AN (Bs (EL (C7 (AH G_law_word_right hr rfl (AA (pv 4) (AA (pv 6) (AA (pv 7) AB))))))
 (AN (AW Cg))
 Au)))))))))))
 (AN (AW Cg))),?_⟩
 refine⟨_,rfl,a,ns,2,rfl,hS,h63,by decide,by decide,λr0 cl H0 s0 hf0 hr0 _ c2=>?_⟩
 refine⟨.lst r0,rfl,⟨_,.inl hr0⟩,?_⟩
 have L0:Ct ls H0:=LL.same s0
 refine OA (xs:=cl.map V.int) (λi σ H'=>∃o1 o2 o3 o4 o5 o6 o7:Option V,σ=[some (.ref a),o1,o2,o3,o4,o5,o6,o7]/\Kt ls H0 H') ⟨none,none,none,none,none,none,none,rfl,Kt.refl L0⟩ (λi σ H' _ h=>by obtain⟨_,_,_,_,_,_,_,_,k1⟩:=h;exact .inl (k1.lst hr0)) ?_ ?_
 rotate_left
 ·rintro σ H' ⟨o1,o2,o3,o4,o5,o6,o7,rfl,kX⟩
  exact q H'
 rintro i x σ H' pp hx ⟨o1,o2,o3,o4,o5,o6,o7,rfl,k1⟩ hpp
 have il:i < 2:=by
  have:=(List.getElem?_eq_some_iff.mp hx).1
  rw[List.length_map]at this
  omega
 obtain⟨cell,_,rfl⟩:=List.mem_map.mp (List.mem_of_getElem? hx)
 refine⟨pp,_,rfl,Ce.of AD,rfl,_,_,rfl,_,_,rfl,rfl,?_⟩
 have k2:Kt ls H0 (upd H' pp (.tup [.int (i:Int),.int cell])):=k1.same ((AJ.refl H').new hpp)
 show(λHH=>_) (upd H' pp (.tup [.int (i:Int),.int cell]))
 generalize upd H' pp (.tup [.int (i:Int),.int cell])=H2 at k2
 refine⟨_,rfl,cell,rfl,λp x y hp=>?_⟩
 have dk3:CT (upd H2 p (.lst [.int x,.int y,.int 0])) p 0:=⟨x,y,0,AD,by decide,by decide⟩
 have k3:Kt ls H2 (upd H2 p (.lst [.int x,.int y,.int 0])):=(Kt.refl k2.lam).same ((AJ.refl H2).new hp)
 show(λHH=>_) (upd H2 p (.lst [.int x,.int y,.int 0]))
 generalize upd H2 p (.lst [.int x,.int y,.int 0])=H3 at dk3 k3
 refine⟨_,rfl,(by show 2<=sizeLine;decide),λv hv=>?_⟩
 have s4:AJ H3 (upd H3 v (.lst [.int 60,.int 20])):=(AJ.refl H3).new hv
 have h4:upd H3 v (.lst [.int 60,.int 20]) v=some (.lst [.int 60,.int 20]):=AD
 show(λHH=>_) (upd H3 v (.lst [.int 60,.int 20]))
 generalize upd H3 v (.lst [.int 60,.int 20])=H4 at s4 h4
 obtain⟨most,ms1,ms60,atm⟩:∃most:Int,1<=most/\most<=60/\Ec [V.int 60,.int 20] (i:Int)=some (.int most):=by
  rcases i with _|_|i
  ·exact⟨60,by decide,by decide,rfl⟩
  ·exact⟨20,by decide,by decide,rfl⟩
  ·omega
 have dk4:=CT.same dk3 s4
 refine⟨_,rfl,v,_,_,_,rfl,rfl,AZ.of h4,atm,p,most,0,rfl,dk4,by decide,by decide,ms1,ms60,λt ups lab H5 kd5 tr fine=>?_⟩
 have k5:Kt ls H2 H5:=Kt.kd (k3.same s4) ⟨_,dk4⟩ hp kd5
 obtain⟨_,_,_,ok⟩:=id tr
 refine⟨_,rfl,t,ups,lab,rfl,tr,λss H6 hps hss s6=>?_⟩
 have un:=Rt ok hps hss
 generalize hU:CN ss ss.length=U at un
 have k6:=k5.same s6
 have tr6:=tr.same s6
 refine⟨_,rfl,_,rfl,t,ups,lab,U,rfl,tr6,un,λH7 s7=>?_⟩
 have k7:=k6.same s7
 refine⟨_,rfl,GW ?_⟩
 refine⟨_,rfl,_,rfl,t,ups,lab,U,rfl,tr6.same s7,un,k7.lam,λH8 k78=>?_⟩
 have k8:=k7.trans k78
 have tr8:=(tr6.same s7).kt k78
 refine⟨_,rfl,GW ?_⟩
 refine⟨_,rfl,t,ups,lab,rfl,tr8,λss' rc ys H9 hps' hss' s9 hfc hrc tu=>?_⟩
 have ess:ss'=ss:=Ba hss' hss (hps'.trans hps.symm)
 subst ess
 rw[hU]at tu
 have k9:=k8.same s9
 have tr9:=tr8.same s9
 refine⟨_,rfl,_,rfl,_,rfl,t,rc,ups,lab,U,ss',ys,rfl,tr9,un,hps,hss,hrc,tu,λH10 s10=>?_⟩
 refine⟨_,rfl,GW ?_⟩
 have k10:=k9.same s10
 have dkt:∀{HA HB:Hp} {c:Int},CT HA p c->Kt ls HA HB->CT HB p c:=λ{HA HB c} d k=>by
  obtain⟨x,y,z,e,r⟩:=d
  exact⟨x,y,z,k.lst e,r⟩
 have k510:Kt ls H5 H10:=((((Kt.refl k5.lam).same s6).same s7).trans k78).same (s9.trans s10)
 have dk10:=dkt kd5.deck k510
 have rcp:rc≠p:=by
  intro e
  rw[e]at hfc
  have:CT H8 p (0+400):=dkt kd5.deck ((((Kt.refl k5.lam).same s6).same s7).trans k78)
  obtain⟨x,y,z,e2,_⟩:=this
  rw[hfc]at e2;cases e2
 have tr10:=tr9.same s10
 have hrc10:=s10 _ _ hrc
 have tu10:=tu.same s10
 have tuk:∀{HA HB:Hp} {c d:Int},CT HA p c->BN HA ys (GN ss' U)->Kd p d HA HB->BN HB ys (GN ss' U):=λ{HA HB c d} dk a kd=>⟨a.1,λi v q e1 e2=>by
  obtain⟨x,f1,f2⟩:=a.2 i v q e1 e2
  refine⟨x,f1,kd.keep _ _ (λz=>?_) f2⟩
  obtain⟨x1,y1,z1,e3,_⟩:=dk
  rw[z]at f2;rw[f2]at e3;cases e3⟩
 refine⟨_,rfl,_,rfl,p,t,ups,lab,_,rfl,dk10,by decide,by decide,tr10,λz1 H11 z1l kd11=>?_⟩
 have tr11:=tr10.kd ⟨_,dk10⟩ kd11
 refine⟨_,rfl,_,rfl,p,t,ups,lab,_,rfl,kd11.deck,by decide,by decide,tr11,λz2 H12 z2l kd12=>?_⟩
 have tr12:=tr11.kd ⟨_,kd11.deck⟩ kd12
 have hrc12:=kd12.keep _ _ rcp (kd11.keep _ _ rcp hrc10)
 have tu12:=tuk kd11.deck (tuk dk10 tu10 kd11) kd12
 have hp10:H2 p=none:=hp
 have k210:Kt ls H2 H10:=k5.trans k510
 have k212:Kt ls H2 H12:=Kt.kd (Kt.kd k210 ⟨_,dk10⟩ hp kd11) ⟨_,kd11.deck⟩ hp kd12
 refine⟨(by show 2<=sizeLine;decide),λl0 hl0=>?_⟩
 have e0:([.str z1,.str z2]:List V)=[z1,z2].map V.str:=rfl
 rw[e0]
 have s13:AJ H12 (upd H12 l0 (.lst ([z1,z2].map V.str))):=(AJ.refl H12).new hl0
 have h13:upd H12 l0 (.lst ([z1,z2].map V.str)) l0=some (.lst ([z1,z2].map V.str)):=AD
 have all:∀z∈[z1,z2],z.length<=200:=λz hz=>by
  simp only[List.mem_cons,List.not_mem_nil,or_false]at hz
  rcases hz with rfl|rfl
  ·exact z1l
  ·exact z2l
 show(λHH=>_) (upd H12 l0 (.lst ([z1,z2].map V.str)))
 generalize[z1,z2]=zs at s13 h13 all
 generalize upd H12 l0 (.lst (zs.map V.str))=H13 at s13 h13
 have tr13:=tr12.same s13
 have hrc13:=s13 _ _ hrc12
 have tu13:=tu12.same s13
 refine⟨l0,rfl,⟨_,AZ.of h13⟩,?_⟩
 refine Ef (xs:=zs.map V.str) (λj σ HX=>∃o7:Option V,σ=[some (.ref a),some (.int (i:Int)),some (.int cell),some (.ref p),some (.ref t),some (.int ((U.length:Nat):Int)),some (.ref rc),o7]/\AJ H13 HX)
  ⟨_,by rw[<-hU];rfl,AJ.refl H13⟩ (λj σ HX _ h=>by obtain⟨_,_,sX⟩:=h;exact AZ.of (sX _ _ h13)) ?_ ?_
 ·rintro j x σ HX hx ⟨o7,rfl,sX⟩
  obtain⟨z,hz,rfl⟩:=A3 hx
  refine⟨_,rfl,_,rfl,_,rfl,t,rc,ups,lab,z,U,ss',ys,rfl,tr13.same sX,fine.low,un,hps,hss,all z (List.mem_of_getElem? hz),sX _ _ hrc13,tu13.same sX,λHY sY=>?_⟩
  exact⟨_,rfl,GW ⟨_,rfl,sX.trans sY⟩⟩
 ·rintro σ HX ⟨o7,rfl,sX⟩
  exact⟨_,_,_,_,_,_,_,rfl,k2.trans ((k212.same s13).same sX)⟩
end
end S24
namespace S24
open PySem L2 W7
theorem df_mk {K:PySem.W.Frag}{h:Heap}{mg:Str->Option Value}{x:Str}{st:Stmt}{f:Addr}{oc:Value}{od an:Option Addr}{osl:Array (Option Value)}{kV doc pm cdv ct:Value}(X:K.In h)(G:h.Ns mainGlobals mg)
 (a:PySem.W.nsIn K mainGlobals x=some (some (.ref f)))(l:K.lookup f=some ⟨oc,od,.func (PySem.W.fnOf x x (DA st) (CA st) (AG st) .none kV doc pm an cdv ct),osl⟩)(c:PySem.W.codeIn K cdv x=true)(kk:PySem.W.keepIn K (.ref f)=true):Df K mg x st:=
 ⟨f,_,Q9 l c kk,PySem.W.mg_of X G a⟩
theorem blt_mk {K:PySem.W.Frag}{h:Heap}{mg:Str->Option Value}(X:K.In h)(G:h.Ns mainGlobals mg)
 (z1:PySem.W.nsIn K mainGlobals "len"=some none)(z2:PySem.W.nsIn K mainGlobals "range"=some none)(z3:PySem.W.nsIn K mainGlobals "zip"=some none)(z4:PySem.W.nsIn K mainGlobals "enumerate"=some none)
 (z5:PySem.W.nsIn K mainGlobals "max"=some none)(z6:PySem.W.nsIn K mainGlobals "min"=some none)(z7:PySem.W.nsIn K mainGlobals "int"=some none)(z8:PySem.W.nsIn K mainGlobals "str"=some none)
 (z9:PySem.W.nsIn K mainGlobals "bool"=some none)(z10:PySem.W.nsIn K mainGlobals "list"=some none)(z11:PySem.W.nsIn K mainGlobals "tuple"=some none)(z12:PySem.W.nsIn K mainGlobals "isinstance"=some none):Blt mg:=
 ⟨PySem.W.mg_none_of X G z1,PySem.W.mg_none_of X G z2,PySem.W.mg_none_of X G z3,PySem.W.mg_none_of X G z4,PySem.W.mg_none_of X G z5,PySem.W.mg_none_of X G z6,PySem.W.mg_none_of X G z7,PySem.W.mg_none_of X G z8,
  PySem.W.mg_none_of X G z9,PySem.W.mg_none_of X G z10,PySem.W.mg_none_of X G z11,PySem.W.mg_none_of X G z12⟩
theorem all_ok {P:Program}{w:World}{K:PySem.W.Frag}{mg:Str->Option Value}{fa:Addr}(hfa:mg "law"=some (.ref fa))(B:O9 mg)
 (d1:Df K mg "is_whole" s_is_whole)(d2:Df K mg "is_number_below" s_is_number_below)(d3:Df K mg "words_of" s_words_of)(d4:Df K mg "alike_of" s_alike_of)(d5:Df K mg "many_alike" s_many_alike)(d6:Df K mg "count_read" s_count_read)(d7:Df K mg "places_of" s_places_of)(d8:Df K mg "unlike_words" s_unlike_words)(d9:Df K mg "count_words" s_count_words)(d10:Df K mg "nth_word" s_nth_word)(d11:Df K mg "number_of" s_number_of)(d12:Df K mg "by_lengths" s_by_lengths)(d13:Df K mg "most_read" s_most_read)(d14:Df K mg "longest_again" s_longest_again)(d15:Df K mg "fronts_of" s_fronts_of)(d16:Df K mg "behinds_of" s_behinds_of)(d17:Df K mg "words_if_read" s_words_if_read)(d18:Df K mg "tallied" s_tallied)(d19:Df K mg "closed_words" s_closed_words)(d20:Df K mg "_law_prime" s_law_prime)(d21:Df K mg "_law_pool" s_law_pool)(d22:Df K mg "_law_take" s_law_take)(d23:Df K mg "_law_cells" s_law_cells)(d24:Df K mg "_law_letter" s_law_letter)(d25:Df K mg "_law_tree" s_law_tree)(d26:Df K mg "_law_word" s_law_word)(d27:Df K mg "_law_seek" s_law_seek)(d28:Df K mg "_law_numbers_right" s_law_numbers_right)(d29:Df K mg "_law_lengths_right" s_law_lengths_right)(d30:Df K mg "_law_closed_right" s_law_closed_right)(d31:Df K mg "_law_word_right" s_law_word_right)(d32:Df K mg "law" s_law):
 ∃fd:FuncData,(∀(s:Shared) (v:Value),BindsTo s fd ⟨[v],[]⟩ [("script",v)])/\∀(Ts:List Addr) (base:Heap),K.In base->Fp (TabAt base mg) ["most_read"] Ts->F3 P w K mg base CX0 12 fa fd ["script"] (sp_law (lamsOf Ts) K):=by
 obtain⟨f,fd,F,m⟩:=d32
 have e:=hfa.symm.trans m
 cases e
 refine⟨fd,?_,λTs base kb TT=>?_⟩
 ·obtain⟨oc,od,kV,doc,pm,an,cdv,ct,osl,rfl,_,_⟩:=F.ex
  exact λs v=>.of_eq rfl
 cases TT with
 |cons TA1 TT2=>
  rename_i T1 _
  cases TT2
  have LK:OF (lamsOf [T1]):=S7 _
  have LI1:(T1,UG,qM)∈lamsOf [T1]:=List.mem_cons_self ..
  have g_words:=NS (P:=P) (w:=w) (base:=base) (k:=0) d3 B.toBlt
  have g_alike:=NW (P:=P) (w:=w) (base:=base) (k:=0) d5 B.toBlt7
  have g_alikes:=LJ (k:=1) d4 B.toBlt7 g_words g_alike
  have g_places:=LO (k:=1) d7 B.toBlt7 g_words
  have g_mr:=Rn (k:=1) d13 B.toBlt7 kb TA1 LK LI1 g_words
  have g_lag:=QD (k:=2) d14 B.toBlt7 (g_words.mono (by decide)) g_alikes g_places
  have g_prime:=NR (P:=P) (w:=w) (base:=base) (k:=0) d20 B.toBlt
  have g_pool:=Oo (P:=P) (w:=w) (base:=base) (k:=0) d21 B.toBlt
  have g_take:=Oq (k:=1) d22 B.toBlt g_prime
  have g_letter:=LH (k:=2) d24 B.toBlt g_take
  have g_tree:=Ot (k:=3) d25 B.toBlt (g_take.mono (by decide)) g_letter
  have g_cells:=NU (P:=P) (w:=w) (base:=base) (k:=0) d23 B.toBlt
  have g_lword:=NT (P:=P) (w:=w) (base:=base) (k:=0) d26 B.toBlt
  have g_unlike:=LM (k:=2) d8 B.toBlt7 (g_words.mono (by decide)) g_alikes
  have g_cw:=Rm (k:=3) d9 B.toBlt7 g_unlike
  have g_bylen:=NX (k:=3) d12 B.toBlt7 g_unlike
  have g_whole:=NY (P:=P) (w:=w) (base:=base) (k:=0) d1 B.toBlt7
  have g_below:=NZ (k:=1) d2 B.toBlt7 g_whole
  have g_nth:=QB (k:=3) d10 B.toBlt7 g_unlike (g_below.mono (by decide))
  have g_num:=QC (k:=3) d11 B.toBlt7 g_unlike
  have g_count:=Nb (P:=P) (w:=w) (base:=base) (k:=0) d6 B.toBlt
  have g_wif:=QF (k:=1) d17 B.toBlt7 g_words (g_count.mono (by decide))
  have g_tal:=QG (P:=P) (w:=w) (base:=base) (k:=0) d18 B.toBlt7
  have g_fronts:=LR (k:=2) d15 B.toBlt7 g_wif (g_tal.mono (by decide))
  have g_behinds:=KP (k:=2) d16 B.toBlt7 g_wif (g_tal.mono (by decide))
  have g_clo:=QH (k:=3) d19 B.toBlt7 (g_words.mono (by decide)) g_unlike (g_alike.mono (by decide))
  have g_seek:=O3 (k:=2) d27 B.toBlt7 g_take (g_lword.mono (by decide))
  have g_numr:=O8 (k:=4) d28 B.toBlt7 g_nth g_num
  have g_lenr:=PF (k:=4) d29 B g_bylen (g_lag.mono (by decide)) (g_places.mono (by decide)) (g_lword.mono (by decide)) (g_mr.mono (by decide))
  have g_clor:=PK (k:=4) d30 B (g_lword.mono (by decide))
  have g_worr:=PQ (k:=4) d31 B (g_places.mono (by decide)) (g_lword.mono (by decide)) (g_fronts.mono (by decide)) (g_behinds.mono (by decide))
  exact(R1 (k:=5) F B (g_cells.mono (by decide)) (g_pool.mono (by decide)) (g_tree.mono (by decide)) (g_cw.mono (by decide)) g_numr g_lenr (g_clo.mono (by decide)) g_clor (g_seek.mono (by decide)) g_worr).mono (by decide)
end S24
def PySem.W.Fast.tw5724217699242724159:Nat:=0
def PySem.W.Fast.tw505424475429550928:Nat:=0
def PySem.W.Fast.tw9775008141603006104:Nat:=0
def PySem.W.Fast.tw17490880836869528885:Nat:=0
def PySem.W.Fast.tw14163010608860033480:Nat:=0
def PySem.W.Fast.tw12576681912557119653:Nat:=0
def PySem.W.Fast.tw5210461563267161146:Nat:=0
def PySem.W.Fast.tw16456126682884477471:Nat:=0
def PySem.W.Fast.tw17586021632415051106:Nat:=0
def PySem.W.Fast.tw11111164204460972244:Nat:=0
def PySem.W.Fast.tw10364880113156588071:Nat:=0
def PySem.W.Fast.tw14967953265465239494:Nat:=0
def PySem.W.Fast.tw13513712731916120250:Nat:=0
def PySem.W.Fast.tw9935445558562305509:Nat:=0
def PySem.W.Fast.tw2388514118089891476:Nat:=0
def PySem.W.Fast.tw3355599621382130379:Nat:=0
def PySem.W.Fast.tw17054419940846064121:Nat:=0
def PySem.W.Fast.tw11813445774069635717:Nat:=0
def PySem.W.Fast.tw13122093847528859597:Nat:=0
def PySem.W.Fast.tw3772927884492190707:Nat:=0
def PySem.W.Fast.tw4315213428770896304:Nat:=0
def PySem.W.Fast.tw3927123642228126289:Nat:=0
def PySem.W.Fast.tw16982453922102977642:Nat:=0
def PySem.W.Fast.tw18369514808060606571:Nat:=0
def PySem.W.Fast.tw18415079065664947974:Nat:=0
def PySem.W.Fast.tw599573365845954614:Nat:=0
def PySem.W.Fast.tw3535956030953131455:Nat:=0
def PySem.W.Fast.tw1452885311857506591:Nat:=0
def PySem.W.Fast.tw1361176462738184636:Nat:=0
def PySem.W.Fast.tw11552344067660404819:Nat:=0
def PySem.W.Fast.tw15615618764886265727:Nat:=0
def PySem.W.Fast.tw12429795023936652214:Nat:=0
def PySem.W.Fast.tw7773057190307046215:Nat:=0
def PySem.W.Fast.tw3649570869937939065:Nat:=0
def PySem.W.Fast.tw13190436997459976822:Nat:=0
def PySem.W.Fast.tw17360164824264108814:Nat:=0
open PySem PySem.W PyProof.Rows
set_option maxRecDepth 100000 in
set_option maxHeartbeats 0 in
theorem PySem.Challenge.cw_upwords_k24_whole_unlike_words_hang_toge_holds : PySem.Challenge.rw_upwords_k24_whole_unlike_words_hang_toge.Holds := by
  w_on; o_law; k_head; (case hw => w_witness2)
  k_fill
  refine L2.walk_ofT (l := PySem.Challenge.rw_upwords_k24_whole_unlike_words_hang_toge) (n := 63) (k := 12) (x := "script") (nms := ["most_read"]) (CX := L2.CX0) (sp := fun Ts => S24.sp_law (S24.lamsOf Ts)) rfl (by decide) rfl ⟨rfl, by decide, by decide, rfl⟩ (fun w h Y => PySem.W.km_in_of Y) (.cons rfl .nil) (fun w => by kernel_rfl) ?F
    (fun K Ts H a ns hl hlen hT hS => ⟨a, ns, rfl, hS, hl, S24.lams_start hlen hT, fun _ => rfl⟩) (fun _ _ _ _ z => z)
  case F =>
    intro w mg fa h KX G hmg
    have B : L2.Blt mg := by
      refine' S24.blt_mk KX G ?z1 ?z2 ?z3 ?z4 ?z5 ?z6 ?z7 ?z8 ?z9 ?z10 ?z11 ?z12
      (case z1 => k_is); (case z2 => k_is); (case z3 => k_is); (case z4 => k_is); (case z5 => k_is); (case z6 => k_is); (case z7 => k_is); (case z8 => k_is); (case z9 => k_is); (case z10 => k_is); (case z11 => k_is); (case z12 => k_is)
    have Bx0 : mg "sorted" = none := by
      refine' PySem.W.mg_none_of KX G ?z
      (case z => k_is)
    have Bx1 : mg "all" = none := by
      refine' PySem.W.mg_none_of KX G ?z
      (case z => k_is)
    have Bx2 : mg "repr" = none := by
      refine' PySem.W.mg_none_of KX G ?z
      (case z => k_is)
    have Bx3 : mg "set" = none := by
      refine' PySem.W.mg_none_of KX G ?z
      (case z => k_is)
    have Bx4 : mg "sum" = none := by
      refine' PySem.W.mg_none_of KX G ?z
      (case z => k_is)
    have Bx5 : mg "dict" = none := by
      refine' PySem.W.mg_none_of KX G ?z
      (case z => k_is)
    have d1 : L2.Df (L2.KOf KX) mg "is_whole" S24.s_is_whole := by
      dsimp only [L2.KOf]; refine' S24.df_mk KX G ?a ?l ?c ?k
      (case a => k_is); (case l => k_is); (case c => k_is); (case k => k_is)
    have d2 : L2.Df (L2.KOf KX) mg "is_number_below" S24.s_is_number_below := by
      dsimp only [L2.KOf]; refine' S24.df_mk KX G ?a ?l ?c ?k
      (case a => k_is); (case l => k_is); (case c => k_is); (case k => k_is)
    have d3 : L2.Df (L2.KOf KX) mg "words_of" S24.s_words_of := by
      dsimp only [L2.KOf]; refine' S24.df_mk KX G ?a ?l ?c ?k
      (case a => k_is); (case l => k_is); (case c => k_is); (case k => k_is)
    have d4 : L2.Df (L2.KOf KX) mg "alike_of" S24.s_alike_of := by
      dsimp only [L2.KOf]; refine' S24.df_mk KX G ?a ?l ?c ?k
      (case a => k_is); (case l => k_is); (case c => k_is); (case k => k_is)
    have d5 : L2.Df (L2.KOf KX) mg "many_alike" S24.s_many_alike := by
      dsimp only [L2.KOf]; refine' S24.df_mk KX G ?a ?l ?c ?k
      (case a => k_is); (case l => k_is); (case c => k_is); (case k => k_is)
    have d6 : L2.Df (L2.KOf KX) mg "count_read" S24.s_count_read := by
      dsimp only [L2.KOf]; refine' S24.df_mk KX G ?a ?l ?c ?k
      (case a => k_is); (case l => k_is); (case c => k_is); (case k => k_is)
    have d7 : L2.Df (L2.KOf KX) mg "places_of" S24.s_places_of := by
      dsimp only [L2.KOf]; refine' S24.df_mk KX G ?a ?l ?c ?k
      (case a => k_is); (case l => k_is); (case c => k_is); (case k => k_is)
    have d8 : L2.Df (L2.KOf KX) mg "unlike_words" S24.s_unlike_words := by
      dsimp only [L2.KOf]; refine' S24.df_mk KX G ?a ?l ?c ?k
      (case a => k_is); (case l => k_is); (case c => k_is); (case k => k_is)
    have d9 : L2.Df (L2.KOf KX) mg "count_words" S24.s_count_words := by
      dsimp only [L2.KOf]; refine' S24.df_mk KX G ?a ?l ?c ?k
      (case a => k_is); (case l => k_is); (case c => k_is); (case k => k_is)
    have d10 : L2.Df (L2.KOf KX) mg "nth_word" S24.s_nth_word := by
      dsimp only [L2.KOf]; refine' S24.df_mk KX G ?a ?l ?c ?k
      (case a => k_is); (case l => k_is); (case c => k_is); (case k => k_is)
    have d11 : L2.Df (L2.KOf KX) mg "number_of" S24.s_number_of := by
      dsimp only [L2.KOf]; refine' S24.df_mk KX G ?a ?l ?c ?k
      (case a => k_is); (case l => k_is); (case c => k_is); (case k => k_is)
    have d12 : L2.Df (L2.KOf KX) mg "by_lengths" S24.s_by_lengths := by
      dsimp only [L2.KOf]; refine' S24.df_mk KX G ?a ?l ?c ?k
      (case a => k_is); (case l => k_is); (case c => k_is); (case k => k_is)
    have d13 : L2.Df (L2.KOf KX) mg "most_read" S24.s_most_read := by
      dsimp only [L2.KOf]; refine' S24.df_mk KX G ?a ?l ?c ?k
      (case a => k_is); (case l => k_is); (case c => k_is); (case k => k_is)
    have d14 : L2.Df (L2.KOf KX) mg "longest_again" S24.s_longest_again := by
      dsimp only [L2.KOf]; refine' S24.df_mk KX G ?a ?l ?c ?k
      (case a => k_is); (case l => k_is); (case c => k_is); (case k => k_is)
    have d15 : L2.Df (L2.KOf KX) mg "fronts_of" S24.s_fronts_of := by
      dsimp only [L2.KOf]; refine' S24.df_mk KX G ?a ?l ?c ?k
      (case a => k_is); (case l => k_is); (case c => k_is); (case k => k_is)
    have d16 : L2.Df (L2.KOf KX) mg "behinds_of" S24.s_behinds_of := by
      dsimp only [L2.KOf]; refine' S24.df_mk KX G ?a ?l ?c ?k
      (case a => k_is); (case l => k_is); (case c => k_is); (case k => k_is)
    have d17 : L2.Df (L2.KOf KX) mg "words_if_read" S24.s_words_if_read := by
      dsimp only [L2.KOf]; refine' S24.df_mk KX G ?a ?l ?c ?k
      (case a => k_is); (case l => k_is); (case c => k_is); (case k => k_is)
    have d18 : L2.Df (L2.KOf KX) mg "tallied" S24.s_tallied := by
      dsimp only [L2.KOf]; refine' S24.df_mk KX G ?a ?l ?c ?k
      (case a => k_is); (case l => k_is); (case c => k_is); (case k => k_is)
    have d19 : L2.Df (L2.KOf KX) mg "closed_words" S24.s_closed_words := by
      dsimp only [L2.KOf]; refine' S24.df_mk KX G ?a ?l ?c ?k
      (case a => k_is); (case l => k_is); (case c => k_is); (case k => k_is)
    have d20 : L2.Df (L2.KOf KX) mg "_law_prime" S24.s_law_prime := by
      dsimp only [L2.KOf]; refine' S24.df_mk KX G ?a ?l ?c ?k
      (case a => k_is); (case l => k_is); (case c => k_is); (case k => k_is)
    have d21 : L2.Df (L2.KOf KX) mg "_law_pool" S24.s_law_pool := by
      dsimp only [L2.KOf]; refine' S24.df_mk KX G ?a ?l ?c ?k
      (case a => k_is); (case l => k_is); (case c => k_is); (case k => k_is)
    have d22 : L2.Df (L2.KOf KX) mg "_law_take" S24.s_law_take := by
      dsimp only [L2.KOf]; refine' S24.df_mk KX G ?a ?l ?c ?k
      (case a => k_is); (case l => k_is); (case c => k_is); (case k => k_is)
    have d23 : L2.Df (L2.KOf KX) mg "_law_cells" S24.s_law_cells := by
      dsimp only [L2.KOf]; refine' S24.df_mk KX G ?a ?l ?c ?k
      (case a => k_is); (case l => k_is); (case c => k_is); (case k => k_is)
    have d24 : L2.Df (L2.KOf KX) mg "_law_letter" S24.s_law_letter := by
      dsimp only [L2.KOf]; refine' S24.df_mk KX G ?a ?l ?c ?k
      (case a => k_is); (case l => k_is); (case c => k_is); (case k => k_is)
    have d25 : L2.Df (L2.KOf KX) mg "_law_tree" S24.s_law_tree := by
      dsimp only [L2.KOf]; refine' S24.df_mk KX G ?a ?l ?c ?k
      (case a => k_is); (case l => k_is); (case c => k_is); (case k => k_is)
    have d26 : L2.Df (L2.KOf KX) mg "_law_word" S24.s_law_word := by
      dsimp only [L2.KOf]; refine' S24.df_mk KX G ?a ?l ?c ?k
      (case a => k_is); (case l => k_is); (case c => k_is); (case k => k_is)
    have d27 : L2.Df (L2.KOf KX) mg "_law_seek" S24.s_law_seek := by
      dsimp only [L2.KOf]; refine' S24.df_mk KX G ?a ?l ?c ?k
      (case a => k_is); (case l => k_is); (case c => k_is); (case k => k_is)
    have d28 : L2.Df (L2.KOf KX) mg "_law_numbers_right" S24.s_law_numbers_right := by
      dsimp only [L2.KOf]; refine' S24.df_mk KX G ?a ?l ?c ?k
      (case a => k_is); (case l => k_is); (case c => k_is); (case k => k_is)
    have d29 : L2.Df (L2.KOf KX) mg "_law_lengths_right" S24.s_law_lengths_right := by
      dsimp only [L2.KOf]; refine' S24.df_mk KX G ?a ?l ?c ?k
      (case a => k_is); (case l => k_is); (case c => k_is); (case k => k_is)
    have d30 : L2.Df (L2.KOf KX) mg "_law_closed_right" S24.s_law_closed_right := by
      dsimp only [L2.KOf]; refine' S24.df_mk KX G ?a ?l ?c ?k
      (case a => k_is); (case l => k_is); (case c => k_is); (case k => k_is)
    have d31 : L2.Df (L2.KOf KX) mg "_law_word_right" S24.s_law_word_right := by
      dsimp only [L2.KOf]; refine' S24.df_mk KX G ?a ?l ?c ?k
      (case a => k_is); (case l => k_is); (case c => k_is); (case k => k_is)
    have d32 : L2.Df (L2.KOf KX) mg "law" S24.s_law := by
      dsimp only [L2.KOf]; refine' S24.df_mk KX G ?a ?l ?c ?k
      (case a => k_is); (case l => k_is); (case c => k_is); (case k => k_is)
    obtain ⟨fd, h1, h2⟩ := S24.all_ok (P := PySem.Challenge.rw_upwords_k24_whole_unlike_words_hang_toge.prog) (w := w) hmg ⟨⟨B, Bx0, Bx1, Bx2, Bx3⟩, Bx4, Bx5⟩ d1 d2 d3 d4 d5 d6 d7 d8 d9 d10 d11 d12 d13 d14 d15 d16 d17 d18 d19 d20 d21 d22 d23 d24 d25 d26 d27 d28 d29 d30 d31 d32
    exact ⟨fd, h1, fun Ts base kb _ TA => h2 Ts base kb TA⟩
