import PyProof.Rows.All
import Wide.All
import OpenK.AllK
import Wide.FinOn
import Lean
import PyProof.EqAt
import PyProof.EqKinds
import PyProof.TupleCall
import PyProof.WalkInts
import PyProof.NeKinds
import KE.KSortTup
import KE.KLam
import PyProof.ListRange
import KE.KDictOf
import PyProof.DictWalks
import PyProof.AttrMissSeq
import KE.KDictSum
import PyProof.Rows.TupAdd
import KE.KTryOn
import PyProof.NsDelKeeps
import PyProof.ExcAttrAll.ValueError
import PyProof.ListStr
import PySem.Challenge.RW_upwords_k58_what_is_not_laid
set_option Elab.async false
set_option linter.all false
set_option maxRecDepth 100000
namespace L2
open PySem PySem.Spec PyProof.Rows
abbrev Key:=Sum Int Str
def Ht:Key->Value->Bool
 |.inl k,v=>Value.isInt k v
 |.inr x,v=>Value.isStrOf x v
def U7 (w:World):Key->Int
 |.inl k=>hashInt k
 |.inr x=>hashStr w x
theorem A1:∀{k:Key} {v:Value},Ht k v=true->(∃i t,k=Sum.inl i/\v=Value.int i t)\/(∃x t,k=Sum.inr x/\v=Value.str x t)
 |.inl i,v,h=>by
  obtain⟨t,e⟩:=Value.isInt_shape (k:=i) (v:=v) h;exact .inl ⟨i,t,rfl,e⟩
 |.inr x,v,h=>by
  obtain⟨t,e⟩:=Value.isStrOf_shape (x:=x) (v:=v) h;exact .inr ⟨x,t,rfl,e⟩
theorem M7 (i:Int)(t:Tok):Ht (.inl i) (.int i t)=true:=by simp[Ht,Value.isInt]
theorem M8 (x:Str)(t:Tok):Ht (.inr x) (.str x t)=true:=by simp[Ht,Value.isStrOf]
theorem Rj (a b:Int):decide ((Sum.inl a:Key)=Sum.inl b)=(a==b):=by
 by_cases e:a=b
 ·subst e;simp
 ·have h:¬(Sum.inl a:Key)=Sum.inl b:=λq=>e (Sum.inl.inj q)
  rw[decide_eq_false h];exact(beq_eq_false_iff_ne.mpr e).symm
theorem Rk (a b:Str):decide ((Sum.inr a:Key)=Sum.inr b)=decide (a=b):=by
 by_cases e:a=b
 ·subst e;simp
 ·have h:¬(Sum.inr a:Key)=Sum.inr b:=λq=>e (Sum.inr.inj q)
  rw[decide_eq_false h,decide_eq_false e]
theorem Rl (a:Int)(b:Str):decide ((Sum.inl a:Key)=Sum.inr b)=false:=decide_eq_false (λq=>nomatch q)
theorem Rm (a:Str)(b:Int):decide ((Sum.inr a:Key)=Sum.inl b)=false:=decide_eq_false (λq=>nomatch q)
def Ac (prog:Program)(w:World):PySem.KeyKind prog w Key where
 is:=Ht
 hash:=U7 w
 inj:=λv a b ha hb=>by
  rcases A1 ha with⟨i,t,rfl,rfl⟩|⟨x,t,rfl,rfl⟩
  ·rcases A1 hb with⟨j,u,rfl,e⟩|⟨y,u,rfl,e⟩
   ·injection e with e1 _;rw[e1]
   ·exact nomatch e
  ·rcases A1 hb with⟨j,u,rfl,e⟩|⟨y,u,rfl,e⟩
   ·exact nomatch e
   ·injection e with e1 _;rw[e1]
 byValue:=λk v h=>by
  rcases A1 h with⟨i,t,rfl,rfl⟩|⟨x,t,rfl,rfl⟩<;>rfl
 pyHash:=λhv h=>by
  rcases A1 hv with⟨i,t,rfl,rfl⟩|⟨x,t,rfl,rfl⟩
  ·exact wpAny_pyHash_int h
  ·exact wpAny_pyHash_str h
 eqBool:=λhu hv h=>by
  rcases A1 hu with⟨i,t,rfl,rfl⟩|⟨x,t,rfl,rfl⟩
  ·rcases A1 hv with⟨j,u,rfl,rfl⟩|⟨y,u,rfl,rfl⟩
   ·rw[Rj]at h;exact wpAny_eqBool_int h
   ·rw[Rl]at h;exact SeqAt.EqAt.int_str i t y u _ _ _ _ h
  ·rcases A1 hv with⟨j,u,rfl,rfl⟩|⟨y,u,rfl,rfl⟩
   ·rw[Rm]at h;exact SeqAt.EqAt.str_int x t j u _ _ _ _ h
   ·rw[Rk]at h;exact wpAny_eqBool_str h
 «strs»:=λk x t v h=>by
  rcases A1 h with⟨i,u,rfl,e⟩|⟨y,u,rfl,e⟩
  ·exact nomatch e
  ·injection e with e1 _
   subst e1;cases v<;>rfl
theorem Jo (prog:Program)(w:World)(i:Int)(t:Tok):(Ac prog w).is (.inl i) (.int i t)=true:=M7 i t
theorem Jp (prog:Program)(w:World)(x:Str)(t:Tok):(Ac prog w).is (.inr x) (.str x t)=true:=M8 x t
end L2
namespace L2
open PySem PySem.Spec PyProof.Rows
inductive V where
 |BK|bl (b:Bool)|int (i:Int)|str (x:Str)|byt (b:Array UInt8)|flt (b:UInt64)|ref (a:Addr)|ty (n:String)
 deriving DecidableEq
def RelV:V->Value->Prop
 |.BK,u=>u=Value.none
 |.bl b,u=>u=Value.bool b
 |.int i,u=>∃t,u=Value.int i t
 |.str x,u=>∃t,u=Value.str x t
 |.byt b,u=>∃t,u=Value.bytes b t
 |.flt b,u=>∃t,u=Value.float b t
 |.ref a,u=>u=Value.ref a
 |.ty n,u=>u=Value.type n
abbrev Vals:List V->List Value->Prop:=Paired RelV
theorem Vals.length {xs:List V}{us:List Value}(r:Vals xs us):xs.length=us.length:=Paired.length r
theorem Vals.get:∀{xs:List V} {us:List Value} {i:Nat} {x:V},Vals xs us->xs[i]?=some x->∃u,us[i]?=some u/\RelV x u
 |_,_,_,_,.nil,e=>by simp at e
 |_,_,0,_,.cons r _,e=>by simp at e;subst e;exact⟨_,rfl,r⟩
 |_,_,i+1,x,.cons _ t,e=>by
  obtain⟨u,h1,h2⟩:=Vals.get (i:=i) (x:=x) t (by simpa using e)
  exact⟨u,by simpa using h1,h2⟩
theorem Vals.set {x:V}{u:Value}(r:RelV x u):∀{xs:List V} {us:List Value} (i:Nat),Vals xs us->Vals (xs.set i x) (us.set i u)
 |_,_,_,.nil=>.nil
 |_,_,0,.cons _ t=>.cons r t
 |_,_,i+1,.cons q t=>.cons q (Vals.set r i t)
theorem Vals.append:∀{xs ys:List V} {us ws:List Value},Vals xs us->Vals ys ws->Vals (xs++ys) (us++ws)
 |_,_,_,_,.nil,s=>s
 |_,_,_,_,.cons r t,s=>.cons r (Vals.append t s)
theorem Vals.take:∀{xs:List V} {us:List Value} (n:Nat),Vals xs us->Vals (xs.take n) (us.take n)
 |_,_,0,_=>.nil
 |_,_,_+1,.nil=>.nil
 |_,_,n+1,.cons r t=>.cons r (Vals.take n t)
theorem Vals.drop:∀{xs:List V} {us:List Value} (n:Nat),Vals xs us->Vals (xs.drop n) (us.drop n)
 |_,_,0,r=>r
 |_,_,_+1,.nil=>.nil
 |_,_,n+1,.cons _ t=>Vals.drop n t
def Ij:Option V->Option Value->Prop
 |some v,some u=>RelV v u
 |none,none=>True
 |_,_=>False
def KV {κ:Type}:List (κ×V)->List (κ×Value)->Prop:=Paired λ(p:κ×V) (q:κ×Value)=>p.1=q.1/\RelV p.2 q.2
def kV:Key->V
 |.inl i=>.int i
 |.inr x=>.str x
inductive HO where
 |lst (xs:List V)
 |tup (xs:List V)
 |dK (kvs:List (Key×V))|dT (kvs:List (List Key×V))
 |set (S:Int->Bool) (n:Nat)
 |ins (C dx:Addr) (fs:List (Str×V))
 |own (x:Addr)
 |xd (fs:List (Str×V))
 |met (f x:Addr)
 |rng (lo hi:Int)
 |frz (o:Obj) (u:HO)
 |tbl (ps:Array Value)
 |ext (φ:Heap->Prop)
abbrev Hp:=Addr->Option HO
def upd (H:Hp)(a:Addr)(o:HO):Hp:=λb=>if b=a then some o else H b
theorem AD {H:Hp}{a:Addr}{o:HO}:upd H a o a=some o:=by unfold upd;rw[if_pos rfl]
theorem AO {H:Hp}{a b:Addr}{o:HO}(h:b≠a):upd H a o b=H b:=by unfold upd;rw[if_neg h]
theorem L6 {H:Hp}{a:Addr}{o u:HO}:upd (upd H a o) a u=upd H a u:=by
 funext b;unfold upd;split<;>rfl
theorem Jq {H:Hp}{a b:Addr}{o u:HO}(h:H a=some o)(h':H b=some u)(d:o≠u):a≠b:=by
 intro e;subst e;rw[h]at h';exact d (Option.some.inj h')
theorem AL {H:Hp}{a b:Addr}{o:HO}(h:H a=some o)(h':H b=none):a≠b:=by
 intro e;subst e;rw[h]at h';cases h'
section
variable (P:Program)(w:World)
def Am (H:Hp)(h:Heap)(a:Addr):HO->Prop
 |.lst xs=>xs.length<=sizeLine/\∃(its:List Value) (n:Nat),Vals xs its/\h.get? a=some { cls:=.type "list",data:=.seq its.toArray n }
 |.tup xs=>(xs.length<=sizeLine/\∃o,h.get? a=some o/\o.dict=none)/\∃its:List Value,Vals xs its/\IsTup h a its.toArray
 |.dK kvs=>kvs.length<=sizeLine/\(a==sysModules)=false/\∃vs,KV kvs vs/\h.DictOf (Ac P w) a vs
 |.dT kvs=>kvs.length<=sizeLine/\(a==sysModules)=false/\∃xs:List (List Key×Addr×Value),
  Paired (λ(p:List Key×V) (q:List Key×Addr×Value)=>p.1=q.1/\H q.2.1=some (.tup (p.1.map kV))/\RelV p.2 q.2.2) kvs xs/\
  ∃o es ep,h.get? a=some o/\o.ExactDict/\o.data=.dict es ep/\es.toList=xs.map (entryOfKey (tupleKind (Ac P w)))/\(xs.map (·.1)).Nodup
 |.set S n=>h.SetOf (intKind P w) a S n
 |.ins C dx fs=>H dx=some (.own a)/\fs.length<=1000/\dx≠a/\h.get? a=some (PySem.W.instObj C dx)/\
  ∃mA,h.Ns1 dx mA/\(∀f,Ij (fs.lookup f) (mA f))/\PySem.Within mA (fs.map (·.1))
 |.own _=>∃o,h.get? a=some o
 |.xd fs=>∃mA,h.Ns1 a mA/\∀f,Ij (fs.lookup f) (mA f)
 |.rng lo hi=>∃t u v,h.get? a=some { cls:=.type "range",data:=.fields #[.int lo t,.int hi u,.int 1 v] }
 |.frz o u=>h.get? a=some o/\Am H h a u
 |.tbl ps=>h.get? a=some { cls:=.none,data:=.fields ps }
 |.met f x=>h.get? a=some (PySem.W.methodObj (.ref f) (.ref x))
 |.ext φ=>φ h/\(∃o,h.get? a=some o)/\∀h1 h2:Heap,φ h1->(∀o,h1.get? a=some o->h2.get? a=some o)->φ h2
def DO (H:Hp)(h:Heap):Prop:=∀a o,H a=some o->Am P w H h a o
end
section
variable {P:Program}{w:World}{H H':Hp}{h h':Heap}{a:Addr}{o:HO}
theorem Am.lt (x:Am P w H h a o):a < h.objs.size:=by
 cases o with
 |lst xs=>obtain⟨_,_,_,_,e⟩:=x;exact Heap.lt_size e
 |tup xs=>obtain⟨_,_,_,p⟩:=x;exact p.lt
 |dK kvs=>obtain⟨_,_,_,_,o,_,_,e,_⟩:=x;exact Heap.lt_size e
 |dT kvs=>obtain⟨_,_,_,_,o,_,_,e,_⟩:=x;exact Heap.lt_size e
 |set S n=>obtain⟨o,_,_,_,e,_⟩:=x;exact Heap.lt_size e
 |ins C dx fs=>obtain⟨_,_,_,e,_⟩:=x;exact Heap.lt_size e
 |own y=>obtain⟨_,e⟩:=x;exact Heap.lt_size e
 |xd fs=>obtain⟨_,⟨_,_,_,e,_⟩,_⟩:=x;exact Heap.lt_size e
 |rng lo hi=>obtain⟨_,_,_,e⟩:=x;exact Heap.lt_size e
 |frz ob u=>obtain⟨e,_⟩:=x;exact Heap.lt_size e
 |tbl ps=>exact Heap.lt_size (show h.get? a=some _ from x)
 |met f y=>exact Heap.lt_size (show h.get? a=some _ from x)
 |ext φ=>obtain⟨_,⟨_,e⟩,_⟩:=x;exact Heap.lt_size e
theorem Paired.Rn {α β:Type}{F G:α->β->Prop}:∀{l₁:List α} {l₂:List β},Paired F l₁ l₂->(∀a b,F a b->G a b)->Paired G l₁ l₂
 |_,_,.nil,_=>.nil
 |_,_,.cons r t,f=>.cons (f _ _ r) (Paired.Rn t f)
theorem Am.Ek (x:Am P w H h a o)(k:∀b u,(b=a\/H b=some (.own a))->h.get? b=some u->h'.get? b=some u)
 (ho:∀b,H b=some (.own a)->H' b=some (.own a))(ht:∀b xs,H b=some (.tup xs)->H' b=some (.tup xs)):Am P w H' h' a o:=by
 induction o with
 |lst xs=>obtain⟨z,its,n,r,e⟩:=x;exact⟨z,its,n,r,k _ _ (.inl rfl) e⟩
 |tup xs=>obtain⟨⟨z,o1,e1,c1⟩,its,r,ob,e,c⟩:=x;exact⟨⟨z,o1,k _ _ (.inl rfl) e1,c1⟩,its,r,ob,k _ _ (.inl rfl) e,c⟩
 |dK kvs=>obtain⟨z,y,vs,r,ob,es,ep,e,c⟩:=x;exact⟨z,y,vs,r,ob,es,ep,k _ _ (.inl rfl) e,c⟩
 |dT kvs=>
  obtain⟨z,y,xs,r,ob,es,ep,e,c⟩:=x;exact⟨z,y,xs,Paired.Rn r λp q z=>⟨z.1,ht _ _ z.2.1,z.2.2⟩,ob,es,ep,k _ _ (.inl rfl) e,c⟩
 |set S n=>obtain⟨ob,es,ep,t,e,c⟩:=x;exact⟨ob,es,ep,t,k _ _ (.inl rfl) e,c⟩
 |ins C dx fs=>
  obtain⟨d,z,ne,e,mA,⟨od,es,ep,e2,c⟩,r⟩:=x;exact⟨ho _ d,z,ne,k _ _ (.inl rfl) e,mA,⟨od,es,ep,k _ _ (.inr d) e2,c⟩,r⟩
 |own y=>obtain⟨ob,e⟩:=x;exact⟨ob,k _ _ (.inl rfl) e⟩
 |xd fs=>obtain⟨mA,⟨od,es,ep,e,c⟩,r⟩:=x;exact⟨mA,⟨od,es,ep,k _ _ (.inl rfl) e,c⟩,r⟩
 |rng lo hi=>obtain⟨t,u,v,e⟩:=x;exact⟨t,u,v,k _ _ (.inl rfl) e⟩
 |frz ob u ih=>obtain⟨e,q⟩:=x;exact⟨k _ _ (.inl rfl) e,ih q⟩
 |tbl ps=>
  have e:h.get? a=some { cls:=.none,data:=.fields ps }:=x;show h'.get? a=some { cls:=.none,data:=.fields ps };exact k a _ (.inl rfl) e
 |met f y=>
  have e:h.get? a=some (PySem.W.methodObj (.ref f) (.ref y)):=x;show h'.get? a=some (PySem.W.methodObj (.ref f) (.ref y));exact k a _ (.inl rfl) e
 |ext φ=>obtain⟨p,⟨o,e⟩,st⟩:=x;exact⟨st _ _ p λo q=>k _ _ (.inl rfl) q,⟨o,k _ _ (.inl rfl) e⟩,st⟩
theorem DO.lt (x:DO P w H h)(e:H a=some o):a < h.objs.size:=(x a o e).lt
theorem DO.fresh (x:DO P w H h)(e:h.objs.size<=a):H a=none:=by
 cases q:H a with
 |none=>rfl
 |some u=>exact absurd (Nat.lt_of_lt_of_le (x.lt q) e) (Nat.lt_irrefl _)
theorem DO.kept (x:DO P w H h)(k:∀b u,h.get? b=some u->h'.get? b=some u):DO P w H h':=λa o e=>
 (x a o e).Ek (λb u _ q=>k b u q) (λ_ q=>q) λ_ _ q=>q
theorem DO.laid (x:DO P w H h)(k:∀b u,h.get? b=some u->h'.get? b=some u)(hp:h.objs.size<=a)(new:Am P w (upd H a o) h' a o):DO P w (upd H a o) h':=λb u e=>by
 have hn:=x.fresh hp
 by_cases hb:b=a
 ·subst hb;rw[AD]at e;cases e;exact new
 ·rw[AO hb]at e
  exact(x b u e).Ek (λc v _ q=>k c v q) (λc q=>by rw[AO (AL q hn)];exact q) λc xs q=>by rw[AO (AL q hn)];exact q
end
def Rd (H:Hp)(a:Addr)(u:HO):Prop:=H a=some u\/∃o,H a=some (.frz o u)
theorem Rd.ok {P:Program}{w:World}{H:Hp}{h:Heap}{a:Addr}{u:HO}(r:Rd H a u)(x:DO P w H h):Am P w H h a u:=by
 rcases r with r|⟨o,r⟩
 ·exact x a u r
 ·obtain⟨_,q⟩:=x a _ r
  exact q
def Tp:Option HO->Prop
 |some (.lst _)=>True
 |some (.dK _)=>True
 |some (.dT _)=>True
 |some (.set _ _)=>True
 |some (.ins _ _ _)=>True
 |some (.ext _)=>True
 |_=>False
section
variable {P:Program}{w:World}{H:Hp}{h h':Heap}{x e:Addr}{o':HO}
theorem DO.write (ok:DO P w H h)(mu:Tp (H x))(he:e=x\/H e=some (.own x))(k:∀b u,b≠e->h.get? b=some u->h'.get? b=some u)(heo:∃u,h'.get? e=some u)
 (new:Am P w (upd H x o') h' x o'):DO P w (upd H x o') h':=λb u q=>by
 have nown:∀c y,H c=some (.own y)->c≠x:=λc y r z=>by subst z;rw[r]at mu;exact mu
 have ntup:∀c xs,H c=some (.tup xs)->c≠x:=λc xs r z=>by subst z;rw[r]at mu;exact mu
 by_cases hb:b=x
 ·subst hb;rw[AD]at q;cases q;exact new
 ·rw[AO hb]at q
  by_cases hbe:b=e
  ·have q':H b=some (.own x):=by
    rcases he with z|z
    ·exact absurd (hbe.trans z) hb
    ·rw[hbe];exact z
   rw[q]at q';cases q';obtain⟨v,hv⟩:=heo;exact⟨v,by rw[hbe];exact hv⟩
  ·refine(ok b u q).Ek (λc v hc r=>k c v ?_ r) (λc r=>by rw[AO (nown c b r)];exact r) λc xs r=>by rw[AO (ntup c xs r)];exact r
   rcases hc with rfl|hc
   ·exact hbe
   ·rintro rfl
    rcases he with z|z
    ·exact nown c b hc z
    ·rw[hc]at z;cases z;exact hb rfl
end
structure Un (fs ex:List Addr)(H H':Hp)(h h':Heap):Prop where
 keep:∀b o,h.get? b=some o->H b=none->b∉fs->b∉ex->h'.get? b=some o
 slot:∀b o,h.get? b=some o->H b=none->b∈fs->b∉ex->∃sl,h'.get? b=some { o with slots:=sl }
 free:∀b o,h.get? b=some o->H b=none->b∉ex->H' b=none
 there:∀b o,h.get? b=some o->b∉ex->∃o',h'.get? b=some o'
 tups:∀b xs,H b=some (.tup xs)->H' b=some (.tup xs)
 frzs:∀b o u,H b=some (.frz o u)->H' b=some (.frz o u)
 tbls:∀b ps,H b=some (.tbl ps)->∃more,H' b=some (.tbl (ps++more))
section
variable {fs fs' ex ex':List Addr}{H H1 H2:Hp}{h h1 h2 h':Heap}{a x e:Addr}{o:HO}
theorem Un.any (u:Un fs ex H H1 h h1){b:Addr}{ob:Obj}(q:h.get? b=some ob)(n:H b=none)(hx:b∉ex):∃sl,h1.get? b=some { ob with slots:=sl }:=by
 by_cases hb:b∈fs
 ·exact u.slot b ob q n hb hx
 ·exact⟨ob.slots,u.keep b ob q n hb hx⟩
theorem Un.kept (k:∀b u,h.get? b=some u->h'.get? b=some u):Un fs ex H H h h':=
 ⟨λb ob q _ _ _=>k b ob q,λb ob q _ _ _=>⟨ob.slots,k b ob q⟩,λ_ _ _ n _=>n,λb ob q _=>⟨ob,k b ob q⟩,λ_ _ q=>q,λ_ _ _ q=>q,λ_ ps q=>⟨#[],by rw[q];simp⟩⟩
theorem Un.refl:Un fs ex H H h h:=Un.kept λ_ _ q=>q
theorem Un.laid (k:∀b u,h.get? b=some u->h'.get? b=some u)(hp:h.objs.size<=a)(hn:H a=none):Un fs ex H (upd H a o) h h' where
 keep:=λb u q _ _ _=>k b u q
 slot:=λb u q _ _ _=>⟨u.slots,k b u q⟩
 free:=λb u q n _=>by rw[AO (Nat.ne_of_lt (Nat.lt_of_lt_of_le (Heap.lt_size q) hp))];exact n
 there:=λb u q _=>⟨u,k b u q⟩
 tups:=λb xs q=>by rw[AO (AL q hn)];exact q
 frzs:=λb u xs q=>by rw[AO (AL q hn)];exact q
 tbls:=λb ps q=>⟨#[],by rw[AO (AL q hn),q];simp⟩
theorem Un.write (mu:Tp (H x))(he:e=x\/H e=some (.own x))(k:∀b u,b≠e->h.get? b=some u->h'.get? b=some u)(heo:∃u,h'.get? e=some u):Un fs ex H (upd H x o) h h':=by
 have hx:∀b,H b=none->b≠x:=λb n z=>by subst z;rw[n]at mu;exact mu
 have hb:∀b,H b=none->b≠e:=λb n z=>by
  subst z
  rcases he with r|r
  ·exact hx b n r
  ·rw[n]at r;cases r
 have hm:∀b u,H b=some u->¬Tp (some u)->b≠x:=λb u q nm z=>by subst z;rw[q]at mu;exact nm mu
 refine⟨λb u q n _ _=>k b u (hb b n) q,λb u q n _ _=>⟨u.slots,k b u (hb b n) q⟩,λb u q n _=>by rw[AO (hx b n)];exact n,λb u q _=>?_,
  λb xs q=>by rw[AO (hm b _ q λz=>z)];exact q,λb u xs q=>by rw[AO (hm b _ q λz=>z)];exact q,λb ps q=>⟨#[],by rw[AO (hm b _ q λz=>z),q];simp⟩⟩
 by_cases hbe:b=e
 ·subst hbe;exact heo
 ·exact⟨u,k b u hbe q⟩
end
def Ur (h:Heap)(H:Hp):List Addr:=(List.range h.objs.size).filter λa=>(H a).isSome
def Ik (h:Heap)(H:Hp):Heap:=PySem.W.hideAll h (Ur h H)
theorem M9 (h:Heap)(H:Hp):(Ik h H).objs.size=h.objs.size:=PySem.W.hideAll_size _ _
theorem OE {h:Heap}{H:Hp}{b:Addr}{o:Obj}(e:h.get? b=some o)(n:H b=none):(Ik h H).get? b=some o:=
 PySem.W.hideAll_get _ e λhm=>by
  have q:(H b).isSome=true:=(List.mem_filter.mp hm).2;rw[n]at q;simp at q
theorem QM {h:Heap}{H:Hp}{b:Addr}{o:Obj}(e:(Ik h H).get? b=some o):h.get? b=some o/\H b=none:=by
 have e':h.get? b=some o:=PySem.W.of_hideAll (Ur h H) e;refine⟨e',?_⟩
 cases q:H b with
 |none=>rfl
 |some x=>
  have hm:b∈Ur h H:=List.mem_filter.mpr ⟨List.mem_range.mpr (Heap.lt_size e'),by simp[q]⟩
  have z:(Ik h H).get? b=none:=PySem.W.hideAll_none (Ur h H) hm;rw[z]at e;cases e
end L2
namespace L2
open PySem PySem.Spec PyProof.Rows
structure Mod (K:PySem.W.Frag)(mg:Str->Option Value)(base:Heap):Prop where
 kin:K.In base
 glob:base.Ns mainGlobals mg
 blt:∃mb,base.Ns builtinsNs mb/\∀x:Str,x≠"__name__"->mb x=bootBuiltins x
 nolimit:base.NoLimit
structure Cx where
 prog:Program
 w:World
 K:PySem.W.Frag
 mg:Str->Option Value
 base:Heap
 A:Around
 N:List Str
 s₀:Shared
 H₀:Hp
 env:Env
 outer:List Env
 stack:List Env
 ex:List Addr
 fn:Str->Bool
 calm:Bool
 pn:List (Addr×Obj)
 xe:Value->Shared->Prop
def Ej (l:List Env):List Addr:=l.filterMap (·.frame)
abbrev Cx.fs (X:Cx):List Addr:=Ej X.outer
def Us (sc:Scope)(x:Str):Prop:=sc.names.lookup x=some .local\/sc.names.lookup x=some .cell\/sc.names.lookup x=some .free
def Loc (sc:Scope)(x:Str):Prop:=sc.names.lookup x=some .local\/sc.names.lookup x=some .cell
def Look (env:Env)(h:Heap)(m:Str->Option Value)(x:Str)(u:Value):Prop:=
 (env.kindOf x=some .local/\m x=some u)\/((env.kindOf x=some .cell\/env.kindOf x=some .free)/\∃c,env.cells.lookup x=some c/\h.IsCell c (some u))
structure Cx.Ok (X:Cx):Prop where
 mod:Mod X.K X.mg X.base
 kind:X.env.scope.kind=.function
 glob:X.env.globals=mainGlobals
 blt:X.env.builtins=builtinsNs
 above:X.s₀.heap.objs.size<=X.env.locals
 inj:∀x y c,X.env.cells.lookup x=some c->X.env.cells.lookup y=some c->x=y
 has:∀x,(X.env.kindOf x=some .cell\/X.env.kindOf x=some .free)->∃c,X.env.cells.lookup x=some c
 cab:∀x c,X.fn x=true->X.env.cells.lookup x=some c->X.s₀.heap.objs.size<=c
 hd:X.calm=true->X.A.handled=none
 frames:X.A.frames=some X.stack
 stk:X.stack=X.outer\/(X.stack=X.env::X.outer/\X.env.frame=some X.env.locals)
 exf:∀b∈X.ex,b≠X.env.locals/\∀x c,X.env.cells.lookup x=some c->c≠b
 bs:∀b o,X.base.get? b=some o->X.s₀.heap.get? b=some o/\X.H₀ b=none
 bsz:X.base.objs.size<=X.s₀.heap.objs.size
 noex:∀b o,X.base.get? b=some o->b∉X.ex
 exfs:∀b∈X.ex,b∉X.fs
 ED:X.s₀.heap.FunFrames X.base X.outer
 frf:∀b∈X.fs,X.H₀ b=none
structure Inv (X:Cx)(pins:List (Addr×Obj))(σ:List (Option V))(H:Hp)(s:Shared):Prop where
 ok:X.Ok
 os:s.os=X.s₀.os
 bare:AllBare s.gens
 base:Un X.fs X.ex X.H₀ H X.s₀.heap s.heap
 loc:∃m,s.heap.Ns X.env.locals m/\∀(i:Nat) (x:Str) (v:V),X.N[i]?=some x->σ[i]?=some (some v)->Us X.env.scope x->∃u,RelV v u/\Look X.env s.heap m x u
 cell:∀x c,X.env.cells.lookup x=some c->∃v,s.heap.IsCell c v
 free:H X.env.locals=none
 freeC:∀x c,X.env.cells.lookup x=some c->H c=none
 pin:∀p∈X.pn++pins,s.heap.get? p.1=some p.2/\H p.1=none/\p.1≠X.env.locals/\p.1∉X.fs/\∀v,p.2.data≠.cell v
 hok:DO X.prog X.w H s.heap
 len:σ.length=X.N.length
section
variable {X:Cx}{pins:List (Addr×Obj)}{σ:List (Option V)}{H H':Hp}{s:Shared}{h':Heap}
theorem Cx.Ok.U8 (ok:X.Ok){b:Addr}{o:Obj}(e:X.base.get? b=some o):b∉X.fs:=λhb=>by
 have:=(ok.ED.mem hb).1;rw[e]at this;cases this
theorem Inv.bs (I:Inv X pins σ H s):∀b o,X.base.get? b=some o->s.heap.get? b=some o/\H b=none:=λb o e=>
 ⟨I.base.keep b o (I.ok.bs b o e).1 (I.ok.bs b o e).2 (I.ok.U8 e) (I.ok.noex b o e),I.base.free b o (I.ok.bs b o e).1 (I.ok.bs b o e).2 (I.ok.noex b o e)⟩
theorem Inv.bk (I:Inv X pins σ H s):∀b o,X.base.get? b=some o->s.heap.get? b=some o:=λb o e=>(I.bs b o e).1
theorem Inv.mod (I:Inv X pins σ H s):Mod X.K X.mg X.base:=I.ok.mod
theorem Inv.GJ (I:Inv X pins σ H s):X.K.In s.heap:=I.ok.mod.kin.keeps I.bk
theorem Inv.fr (I:Inv X pins σ H s):∃m,Fr X.base X.env.locals s.heap m:=
 let⟨m,hn,_⟩:=I.loc
 ⟨m,hn,I.bk,Nat.le_trans I.ok.bsz I.ok.above⟩
theorem Inv.lt (I:Inv X pins σ H s):X.env.locals < s.heap.objs.size:=let⟨_,hn,_⟩:=I.loc;hn.lt
theorem Inv.sz (I:Inv X pins σ H s):X.s₀.heap.objs.size<=s.heap.objs.size:=Nat.le_trans I.ok.above (Nat.le_of_lt I.lt)
theorem Inv.U9 (I:Inv X pins σ H s){a:Addr}(h:s.heap.objs.size<=a):a∉X.fs:=λhb=>by
 obtain⟨_,o,ho,_⟩:=I.ok.ED.mem hb;exact absurd (Nat.lt_of_lt_of_le (Heap.lt_size ho) (Nat.le_trans I.sz h)) (Nat.lt_irrefl _)
theorem Inv.QN (I:Inv X pins σ H s):∀x c,X.env.cells.lookup x=some c->c≠X.env.locals:=λx c e z=>by
 obtain⟨v,o,ho,hd⟩:=I.cell x c e;obtain⟨m,⟨o',es,ep,ho',hd',_⟩,_⟩:=I.loc;rw[z,ho']at ho;cases ho;rw[hd']at hd;cases hd
theorem Inv.ED (I:Inv X pins σ H s):s.heap.FunFrames X.base X.outer:=by
 have all:∀(l:List Env),(∀b∈Ej l,b∈X.fs)->X.s₀.heap.FunFrames X.base l->s.heap.FunFrames X.base l:=by
  intro l
  induction l with
  |nil=>intro _ _;trivial
  |cons env r ih=>
   intro hs hl;obtain⟨hk,⟨L,o,hf,hn,ho,hd⟩,hr⟩:=hl;have hL:L∈X.fs:=hs L (by unfold Ej;rw[List.filterMap_cons,hf];exact List.mem_cons_self)
   obtain⟨sl,e⟩:=I.base.slot L o ho (I.ok.frf L hL) hL λz=>I.ok.exfs L z hL
   exact⟨hk,⟨L,_,hf,hn,e,hd⟩,ih (λb hb=>hs b (by unfold Ej;rw[List.filterMap_cons,hf];exact List.mem_cons_of_mem _ hb)) hr⟩
 exact all X.outer (λ_ hb=>hb) I.ok.ED
theorem Inv.stack (I:Inv X pins σ H s):s.heap.FunFrames X.base X.stack:=by
 rcases I.ok.stk with e|⟨e,hf⟩
 ·rw[e];exact I.ED
 ·rw[e]
  obtain⟨m,hn,_⟩:=I.loc;refine .cons (by rw[I.ok.kind];decide) hf hn ?_ I.ED
  exact Heap.get?_none_of_le (Nat.le_trans I.ok.bsz I.ok.above)
theorem Inv.GK (I:Inv X pins σ H s):∀b∈Ej X.stack,b∈X.env.locals::X.fs:=λb hb=>by
 rcases I.ok.stk with e|⟨e,hf⟩
 ·rw[e]at hb;exact List.mem_cons_of_mem _ hb
 ·rw[e]at hb
  unfold Ej at hb;rw[List.filterMap_cons,hf]at hb;exact hb
theorem Inv.Il (I:Inv X pins σ H s):∀b∈Ej X.stack,H b=none:=λb hb=>by
 rcases List.mem_cons.mp (I.GK b hb)with e|hb
 ·rw[e];exact I.free
 ·obtain⟨_,o,ho,_⟩:=I.ok.ED.mem hb
  exact I.base.free b o ho (I.ok.frf b hb) λz=>I.ok.exfs b z hb
theorem Inv.step {g':Array GenState}{t':Nat}{d':Drawn}{ch:List Addr}(I:Inv X pins σ H s)
 (hch:∀b∈ch,(b∈X.ex\/X.s₀.heap.objs.size<=b)/\b≠X.env.locals/\(∀x c,X.env.cells.lookup x=some c->c≠b)/\∀p∈X.pn++pins,p.1≠b)
 (keep:∀b o,b≠X.env.locals->b∉X.fs->b∉ch->s.heap.get? b=some o->H b=none->h'.get? b=some o)
 (slot:∀b o,b≠X.env.locals->b∈X.fs->b∉ch->s.heap.get? b=some o->H b=none->∃sl,h'.get? b=some { o with slots:=sl })(free:∀b o,b∉ch->s.heap.get? b=some o->H b=none->H' b=none)
 (there:∀b o,b∉ch->s.heap.get? b=some o->∃o',h'.get? b=some o')
 (tups:∀b xs,H b=some (.tup xs)->H' b=some (.tup xs))(frzs:∀b o u,H b=some (.frz o u)->H' b=some (.frz o u))(tbls:∀b ps,H b=some (.tbl ps)->∃more,H' b=some (.tbl (ps++more)))
 (ns:∀m,s.heap.Ns X.env.locals m->h'.Ns X.env.locals m)(hok:DO X.prog X.w H' h')(hg:AllBare g'):
 Inv X pins σ H' { s with heap:=h',gens:=g',drawn:=d',toks:=t' }:=by
 have neL:∀b o,X.s₀.heap.get? b=some o->b≠X.env.locals:=λb o e=>Nat.ne_of_lt (Nat.lt_of_lt_of_le (Heap.lt_size e) I.ok.above)
 have neC:∀b o,X.s₀.heap.get? b=some o->b∉X.ex->b∉ch:=λb o e hx hb=>by
  rcases(hch b hb).1 with z|z
  ·exact hx z
  ·exact absurd (Nat.lt_of_lt_of_le (Heap.lt_size e) z) (Nat.lt_irrefl _)
 have cellK:∀x c,X.env.cells.lookup x=some c->∀v,s.heap.IsCell c v->h'.IsCell c v:=λx c e v ⟨o,ho,hd⟩=>by
  have nch:c∉ch:=λz=>(hch c z).2.2.1 x c e rfl
  by_cases hc:c∈X.fs
  ·obtain⟨sl,q⟩:=slot c o (I.QN x c e) hc nch ho (I.freeC x c e)
   exact⟨_,q,hd⟩
  ·exact⟨o,keep c o (I.QN x c e) hc nch ho (I.freeC x c e),hd⟩
 refine⟨I.ok,I.os,hg,⟨λb o e n hb hx=>?_,λb o e n hb hx=>?_,λb o e n hx=>?_,λb o e hx=>?_,λb xs e=>tups b xs (I.base.tups b xs e),λb o xs e=>frzs b o xs (I.base.frzs b o xs e),λb ps e=>?_⟩,?_,λx c e=>?_,?_,λx c e=>?_,λp hp=>?_,hok,I.len⟩
 ·exact keep b o (neL b o e) hb (neC b o e hx) (I.base.keep b o e n hb hx) (I.base.free b o e n hx)
 ·obtain⟨sl,e1⟩:=I.base.slot b o e n hb hx
  obtain⟨sl',e2⟩:=slot b _ (neL b o e) hb (neC b o e hx) e1 (I.base.free b o e n hx);exact⟨sl',e2⟩
 ·obtain⟨o',e1⟩:=I.base.there b o e hx
  exact free b o' (neC b o e hx) e1 (I.base.free b o e n hx)
 ·obtain⟨o',e1⟩:=I.base.there b o e hx
  exact there b o' (neC b o e hx) e1
 ·obtain⟨m1,e1⟩:=I.base.tbls b ps e
  obtain⟨m2,e2⟩:=tbls b _ e1;exact⟨m1++m2,by rw[e2,Array.append_assoc]⟩
 ·obtain⟨m,hn,hl⟩:=I.loc
  refine⟨m,ns m hn,λi x v e1 e2 e3=>?_⟩
  obtain⟨u,r,l⟩:=hl i x v e1 e2 e3;refine⟨u,r,?_⟩
  rcases l with l|⟨k,c,e,z⟩
  ·exact .inl l
  ·exact .inr ⟨k,c,e,cellK x c e _ z⟩
 ·obtain⟨v,z⟩:=I.cell x c e
  exact⟨v,cellK x c e v z⟩
 ·obtain⟨m,⟨o,_,_,ho,_⟩,_⟩:=I.loc
  exact free _ o (λz=>(hch _ z).2.1 rfl) ho I.free
 ·obtain⟨v,o,ho,hd⟩:=I.cell x c e
  exact free c o (λz=>(hch c z).2.2.1 x c e rfl) ho (I.freeC x c e)
 ·obtain⟨e,n,ne,nf,d⟩:=I.pin p hp
  have nch:p.1∉ch:=λz=>(hch p.1 z).2.2.2 p hp rfl
  exact⟨keep p.1 p.2 ne nf nch e n,free p.1 p.2 nch e n,ne,nf,d⟩
theorem Inv.un {t':Nat}(I:Inv X pins σ H s)(u:Un X.fs [] H H' s.heap h')(hok:DO X.prog X.w H' h'):Inv X pins σ H' { s with heap:=h',toks:=t' }:=by
 obtain⟨m,⟨o,es,ep,ho,r⟩,_⟩:=id I.loc;obtain⟨sl,hL⟩:=u.any ho I.free (by simp)
 exact I.step (g':=s.gens) (d':=s.drawn) (ch:=[]) (λ_ z=>nomatch z) (λb o _ hb _ e n=>u.keep b o e n hb (by simp)) (λb o _ hb _ e n=>u.slot b o e n hb (by simp)) (λb o _ e n=>u.free b o e n (by simp)) (λb o _ e=>u.there b o e (by simp)) u.tups u.frzs u.tbls (λm' hm=>by
  obtain⟨o',es',ep',ho',r'⟩:=hm;rw[ho]at ho';cases ho';exact⟨_,es',ep',hL,r'⟩) hok I.bare
theorem Inv.call {g':Array GenState}{t':Nat}{d':Drawn}{ch:List Addr}(I:Inv X pins σ H s)(u:Un (Ej X.stack) ch H H' s.heap h')(hok:DO X.prog X.w H' h')(hg:AllBare g')
 (hch:∀b∈ch,(b∈X.ex\/X.s₀.heap.objs.size<=b)/\b≠X.env.locals/\(∀x c,X.env.cells.lookup x=some c->c≠b)/\∀p∈X.pn++pins,p.1≠b):
 Inv X pins σ H' { s with heap:=h',gens:=g',drawn:=d',toks:=t' }:=by
 obtain⟨m,⟨o,es,ep,ho,r⟩,_⟩:=id I.loc;obtain⟨sl,hL⟩:=u.any ho I.free λz=>(hch _ z).2.1 rfl
 exact I.step (ch:=ch) hch (λb o hL hb hc e n=>u.keep b o e n (λz=>(List.mem_cons.mp (I.GK b z)).elim hL hb) hc) (λb o _ _ hc e n=>u.any e n hc) (λb o hc e n=>u.free b o e n hc) (λb o hc e=>u.there b o e hc) u.tups u.frzs u.tbls (λm' hm=>by
  obtain⟨o',es',ep',ho',r'⟩:=hm;rw[ho]at ho';cases ho';exact⟨_,es',ep',hL,r'⟩) hok hg
theorem Inv.turned {t':Nat}{it:Addr}(I:Inv X pins σ H s)(k:∀b o,b≠it->s.heap.get? b=some o->h'.get? b=some o)(hn:H it=none)(hL:it≠X.env.locals)
 (h1:it∈X.ex\/X.s₀.heap.objs.size<=it)(h2:∀x c,X.env.cells.lookup x=some c->c≠it)(h3:∀p∈X.pn++pins,p.1≠it):Inv X pins σ H { s with heap:=h',toks:=t' }:=by
 have nit:∀b u,H b=some u->b≠it:=λb u e z=>by rw[z,hn]at e;cases e
 refine I.step (g':=s.gens) (d':=s.drawn) (ch:=[it]) (λb hb=>?_) (λb o _ _ hc e _=>k b o (λz=>hc (by simp[z])) e) (λb o _ _ hc e _=>⟨o.slots,k b o (λz=>hc (by simp[z])) e⟩) (λ_ _ _ _ n=>n)
  (λb o hc e=>⟨o,k b o (λz=>hc (by simp[z])) e⟩) (λ_ _ e=>e) (λ_ _ _ e=>e) (λb ps e=>⟨#[],by rw[e];simp⟩) (λm hm=>?_) (λb u e=>?_) I.bare
 ·have e:b=it:=by simpa using hb
  subst e;exact⟨h1,hL,h2,h3⟩
 ·obtain⟨o,es,ep,ho,r⟩:=hm
  exact⟨o,es,ep,k _ o (Ne.symm hL) ho,r⟩
 ·refine(I.hok b u e).Ek (λc v hc q=>k c v ?_ q) (λ_ q=>q) λ_ _ q=>q
  rcases hc with z|z
  ·rw[z];exact nit b u e
  ·exact nit c _ z
theorem Inv.tok (I:Inv X pins σ H s)(t:Nat):Inv X pins σ H { s with toks:=t }:=I.un (h':=s.heap) (t':=t) Un.refl I.hok
theorem Inv.kept {t':Nat}(I:Inv X pins σ H s)(k:∀b u,s.heap.get? b=some u->h'.get? b=some u):Inv X pins σ H { s with heap:=h',toks:=t' }:=I.un (Un.kept k) (I.hok.kept k)
theorem Inv.laid {a:Addr}{o:HO}{t':Nat}(I:Inv X pins σ H s)(k:∀b u,s.heap.get? b=some u->h'.get? b=some u)(hp:s.heap.objs.size<=a)(new:Am X.prog X.w (upd H a o) h' a o):
 Inv X pins σ (upd H a o) { s with heap:=h',toks:=t' }:=I.un (Un.laid k hp (I.hok.fresh hp)) (I.hok.laid k hp new)
theorem Inv.write {x e:Addr}{o:HO}{t':Nat}(I:Inv X pins σ H s)(mu:Tp (H x))(he:e=x\/H e=some (.own x))(k:∀b u,b≠e->s.heap.get? b=some u->h'.get? b=some u)(heo:∃u,h'.get? e=some u)
 (new:Am X.prog X.w (upd H x o) h' x o):Inv X pins σ (upd H x o) { s with heap:=h',toks:=t' }:=I.un (Un.write mu he k heo) (I.hok.write mu he k heo new)
theorem Inv.weak {σ':List (Option V)}(I:Inv X pins σ H s)(hl:σ'.length=σ.length)(w:∀(i:Nat) v,σ'[i]?=some (some v)->σ[i]?=some (some v)):Inv X pins σ' H s:=
 ⟨I.ok,I.os,I.bare,I.base,let⟨m,hn,hl'⟩:=I.loc;⟨m,hn,λi x v e1 e2 e3=>hl' i x v e1 (w i v e2) e3⟩,I.cell,I.free,I.freeC,I.pin,I.hok,hl.trans I.len⟩
theorem Inv.L7 {pins':List (Addr×Obj)}(I:Inv X pins σ H s)(h:∀p∈pins',s.heap.get? p.1=some p.2/\H p.1=none/\p.1≠X.env.locals/\p.1∉X.fs/\∀v,p.2.data≠.cell v):Inv X pins' σ H s:=
 ⟨I.ok,I.os,I.bare,I.base,I.loc,I.cell,I.free,I.freeC,λp hp=>(List.mem_append.mp hp).elim (λz=>I.pin p (List.mem_append_left _ z)) (h p),I.hok,I.len⟩
theorem GL {N:List Str}(hN:N.Nodup){i j:Nat}{x:Str}(a:N[i]?=some x)(b:N[j]?=some x):i=j:=by
 obtain⟨h1,e1⟩:=List.getElem?_eq_some_iff.mp a
 obtain⟨h2,e2⟩:=List.getElem?_eq_some_iff.mp b
 exact(List.getElem_inj hN).mp (e1.trans e2.symm)
theorem Hu {M:Model}{A:Around}{E:Value->Shared->Prop}{i:Nat}{x:Str}{v:V}{u:Value}{Q:Unit->Shared->Prop}(I:Inv X pins σ H s)(hN:X.N.Nodup)(hi:X.N[i]?=some x)(hx:Loc X.env.scope x)(r:RelV v u)
 (h:∀s',Inv X pins (σ.set i (some v)) H s'->(∃a,Heap.SameBut a s.heap s'.heap/\(a=X.env.locals\/X.env.cells.lookup x=some a))->Q () s')(hf:X.fn x=true\/X.env.scope.names.lookup x=some .local:=by first|exact .inl rfl|exact .inr rfl|assumption):wpAny M A (storeName X.env x u) Q E s:=by
 obtain⟨m,hn,hl⟩:=id I.loc;have hcls:(X.env.scope.kind==.class||(X.env.scope.kind==.module&&X.env.locals !=X.env.globals))=false:=by rw[I.ok.kind];rfl
 have hiσ:i < σ.length:=by rw[I.len];exact(List.getElem?_eq_some_iff.mp hi).1
 have QN:=I.QN
 have tracked:∀{a:Addr} {h':Heap},(∃o,s.heap.get? a=some o/\H a=none)->Heap.SameBut a s.heap h'->DO X.prog X.w H h':=λ{a h'} ha hs b ob e=>by
  obtain⟨_,_,hfree⟩:=ha;refine(I.hok b ob e).Ek (λc w' hc q=>(hs.2 c ?_).trans q) (λ_ q=>q) λ_ _ q=>q
  rintro rfl
  rcases hc with rfl|hc
  ·rw[hfree]at e;cases e
  ·rw[hfree]at hc;cases hc
 rcases hx with hk|hk
 ·refine wpAny_storeName_local hk hn (λh' hn' hs=>?_) hcls
  obtain⟨oL,_,_,hoL,_⟩:=id hn;refine h _ ⟨I.ok,I.os,I.bare,⟨λb o e n hb hx=>?_,λb o e n hb hx=>?_,I.base.free,λb o e hx=>?_,I.base.tups,I.base.frzs,I.base.tbls⟩,⟨_,hn',λj y v' e1 e2 e3=>?_⟩,λy c e=>?_,I.free,I.freeC,λp hp=>?_,tracked ⟨oL,hoL,I.free⟩ hs,by simpa using I.len⟩ ⟨_,hs,.inl rfl⟩
  ·exact(hs.2 b (Nat.ne_of_lt (Nat.lt_of_lt_of_le (Heap.lt_size e) I.ok.above))).trans (I.base.keep b o e n hb hx)
  ·obtain⟨sl,e1⟩:=I.base.slot b o e n hb hx
   exact⟨sl,(hs.2 b (Nat.ne_of_lt (Nat.lt_of_lt_of_le (Heap.lt_size e) I.ok.above))).trans e1⟩
  ·obtain⟨o',e1⟩:=I.base.there b o e hx
   exact⟨o',(hs.2 b (Nat.ne_of_lt (Nat.lt_of_lt_of_le (Heap.lt_size e) I.ok.above))).trans e1⟩
  ·by_cases hj:j=i
   ·subst hj
    rw[hi]at e1;cases e1;rw[List.getElem?_set_self hiσ]at e2
    cases e2;exact⟨u,r,.inl ⟨hk,by simp⟩⟩
   ·rw[List.getElem?_set_ne (Ne.symm hj)]at e2
    obtain⟨u',r',q⟩:=hl j y v' e1 e2 e3;refine⟨u',r',?_⟩
    rcases q with⟨k,e⟩|⟨k,c,e,z⟩
    ·refine .inl ⟨k,?_⟩
     have:y≠x:=λe=>hj (GL hN e1 (e▸hi))
     simp[this,e]
    ·exact .inr ⟨k,c,e,z.sameBut hs (QN y c e)⟩
  ·obtain⟨w',z⟩:=I.cell y c e
   exact⟨w',z.sameBut hs (QN y c e)⟩
  ·obtain⟨e,n,ne,nf,d⟩:=I.pin p hp
   exact⟨(hs.2 p.1 ne).trans e,n,ne,nf,d⟩
 ·have hfn:X.fn x=true:=by
   rcases hf with z|z
   ·exact z
   ·rw[z]at hk;cases hk
  obtain⟨c,hc⟩:=I.ok.has x (.inl hk);obtain⟨w',z⟩:=I.cell x c hc;refine wpAny_storeName_cell I.ok.kind hk hc z (λh' hc' hs=>?_)
  obtain⟨oc,hoc,hocd⟩:=id z;refine h { s with heap:=h' } ⟨I.ok,I.os,I.bare,⟨λb o e n hb hx=>?_,λb o e n hb hx=>?_,I.base.free,λb o e hx=>?_,I.base.tups,I.base.frzs,I.base.tbls⟩,⟨m,hn.sameBut hs (Ne.symm (QN x c hc)),λj y v' e1 e2 e3=>?_⟩,λy c' e=>?_,I.free,I.freeC,λp hp=>?_,tracked ⟨oc,hoc,I.freeC x c hc⟩ hs,by simpa using I.len⟩ ⟨c,hs,.inr hc⟩
  ·exact(hs.2 b (Nat.ne_of_lt (Nat.lt_of_lt_of_le (Heap.lt_size e) (I.ok.cab x c hfn hc)))).trans (I.base.keep b o e n hb hx)
  ·obtain⟨sl,e1⟩:=I.base.slot b o e n hb hx
   exact⟨sl,(hs.2 b (Nat.ne_of_lt (Nat.lt_of_lt_of_le (Heap.lt_size e) (I.ok.cab x c hfn hc)))).trans e1⟩
  ·obtain⟨o',e1⟩:=I.base.there b o e hx
   exact⟨o',(hs.2 b (Nat.ne_of_lt (Nat.lt_of_lt_of_le (Heap.lt_size e) (I.ok.cab x c hfn hc)))).trans e1⟩
  ·by_cases hj:j=i
   ·subst hj
    rw[hi]at e1;cases e1;rw[List.getElem?_set_self hiσ]at e2
    cases e2;exact⟨u,r,.inr ⟨.inl hk,c,hc,hc'⟩⟩
   ·rw[List.getElem?_set_ne (Ne.symm hj)]at e2
    obtain⟨u',r',q⟩:=hl j y v' e1 e2 e3;refine⟨u',r',?_⟩
    rcases q with q|⟨k,c',e,z'⟩
    ·exact .inl q
    ·refine .inr ⟨k,c',e,z'.sameBut hs ?_⟩
     rintro rfl;exact hj (GL hN e1 (I.ok.inj _ _ _ e hc▸hi))
  ·by_cases hcc:c'=c
   ·subst hcc;exact⟨_,hc'⟩
   ·obtain⟨w2,z2⟩:=I.cell y c' e
    exact⟨w2,z2.sameBut hs hcc⟩
  ·obtain⟨e,n,ne,nf,d⟩:=I.pin p hp
   refine⟨(hs.2 p.1 ?_).trans e,n,ne,nf,d⟩
   intro q;rw[q,hoc]at e;have q':oc=p.2:=Option.some.inj e;exact d w' (by rw[<-q'];exact hocd)
theorem GN {M:Model}{A:Around}{E:Value->Shared->Prop}{i:Nat}{x:Str}{v:V}{u:Value}{Q:Unit->Shared->Prop}(I:Inv X pins σ H s)(hN:X.N.Nodup)(hi:X.N[i]?=some x)(hx:Loc X.env.scope x)(r:RelV v u)
 (h:∀s',Inv X pins (σ.set i (some v)) H s'->Q () s')(hf:X.fn x=true\/X.env.scope.names.lookup x=some .local:=by first|exact .inl rfl|exact .inr rfl|assumption):wpAny M A (storeName X.env x u) Q E s:=
 Hu I hN hi hx r (λs' I' _=>h s' I') hf
theorem Inv.RH {s':Shared}{ch:List Addr}(I:Inv X pins σ H s)(ho:s'.os=s.os)(u:Un (Ej X.stack) ch H H' s.heap s'.heap)(hok:DO X.prog X.w H' s'.heap)(hg:AllBare s'.gens)
 (hch:∀b∈ch,(b∈X.ex\/X.s₀.heap.objs.size<=b)/\b≠X.env.locals/\(∀x c,X.env.cells.lookup x=some c->c≠b)/\∀p∈X.pn++pins,p.1≠b):Inv X pins σ H' s':=by
 obtain⟨h',g',d',t',o'⟩:=s';have e:o'=s.os:=ho;subst e;exact I.call (g':=g') (t':=t') (d':=d') u hok hg hch
end
abbrev XK:=Value->Option Addr->Hp->Prop
abbrev St:=List (Option V)
abbrev VK:=V->Hp->Prop
abbrev TE:=St->Hp->VK->Prop
abbrev TT:=St->Hp->(Bool->Hp->Prop)->Prop
abbrev TA:=St->Hp->(List V->Hp->Prop)->Prop
structure Ends where
 nx:St->Hp->Prop
 rt:VK
 bk:St->Hp->Prop:=λ_ _=>False
 ct:St->Hp->Prop:=λ_ _=>False
abbrev TS:=Ends->St->Hp->Prop
def EP (X:Cx)(pins:List (Addr×Obj))(σ:St)(Q:VK)(u:Value)(s':Shared):Prop:=∃v H',Inv X pins σ H' s'/\RelV v u/\Q v H'
def TP (X:Cx)(pins:List (Addr×Obj))(σ:St)(Q:Bool->Hp->Prop)(b:Bool)(s':Shared):Prop:=∃H',Inv X pins σ H' s'/\Q b H'
def AP (X:Cx)(pins:List (Addr×Obj))(σ:St)(Q:List V->Hp->Prop)(us:List Value)(s':Shared):Prop:=∃vs H',Inv X pins σ H' s'/\Vals vs us/\Q vs H'
def SP (X:Cx)(pins:List (Addr×Obj))(D:Ends)(f:Flow)(s':Shared):Prop:=
 match f with
 |.next=>∃σ' H',Inv X pins σ' H' s'/\D.nx σ' H'
 |.brk=>∃σ' H',Inv X pins σ' H' s'/\D.bk σ' H'
 |.cont=>∃σ' H',Inv X pins σ' H' s'/\D.ct σ' H'
 |.ret u=>∃v σ' H',Inv X pins σ' H' s'/\RelV v u/\D.rt v H'
def PE (X:Cx)(e:Expr)(t:TE):Prop:=
 ∀(pins:List (Addr×Obj)) (s:Shared) (σ:St) (H:Hp) (Q:VK),Inv X pins σ H s->t σ H Q->wpAny (model X.prog X.w) X.A (eval e X.env) (EP X pins σ Q) X.xe s
def PT (X:Cx)(e:Expr)(t:TT):Prop:=
 ∀(pins:List (Addr×Obj)) (s:Shared) (σ:St) (H:Hp) (Q:Bool->Hp->Prop),Inv X pins σ H s->t σ H Q->wpAny (model X.prog X.w) X.A (isTrue e X.env (eval e X.env)) (TP X pins σ Q) X.xe s
def PW (X:Cx)(e:Expr)(t:TT):Prop:=
 ∀(whole:Sem Value) (pins:List (Addr×Obj)) (s:Shared) (σ:St) (H:Hp) (Q:Bool->Hp->Prop),Inv X pins σ H s->t σ H Q->wpAny (model X.prog X.w) X.A (isTrue e X.env whole) (TP X pins σ Q) X.xe s
theorem PW.pt {X:Cx}{e:Expr}{t:TT}(h:PW X e t):PT X e t:=h _
def PA (X:Cx)(es:List Expr)(t:TA):Prop:=
 ∀(pos:Pos) (pins:List (Addr×Obj)) (s:Shared) (σ:St) (H:Hp) (Q:List V->Hp->Prop),Inv X pins σ H s->t σ H Q->wpAny (model X.prog X.w) X.A (spliced (backTo pos (starEach es X.env))) (AP X pins σ Q) X.xe s
def PS (X:Cx)(st:Stmt)(t:TS):Prop:=
 ∀(pins:List (Addr×Obj)) (s:Shared) (σ:St) (H:Hp) (D:Ends),Inv X pins σ H s->t D σ H->wpAny (model X.prog X.w) X.A (exec st X.env) (SP X pins D) X.xe s
def Jr (X:Cx)(st:List Stmt)(t:TS):Prop:=
 ∀(pins:List (Addr×Obj)) (s:Shared) (σ:St) (H:Hp) (D:Ends),Inv X pins σ H s->t D σ H->wpAny (model X.prog X.w) X.A (execs st X.env) (SP X pins D) X.xe s
theorem A8 {α:Type}{t:Sem α}{Q Q':α->Shared->Prop}{M:Model}{A:Around}{E:Value->Shared->Prop}{s:Shared}(h:wpAny M A t Q E s)(hQ:∀a s,Q a s->Q' a s):wpAny M A t Q' E s:=wpAny_mono h hQ λ_ _ x=>x
end L2
namespace L2
open PySem PySem.Spec PyProof.Rows
section
variable {X:Cx}
def Tq (i:Nat):TE:=λσ H Q=>∃v,σ[i]?=some (some v)/\Q v H
def tC (v:V):TE:=λ_ H Q=>Q v H
theorem Ro {i:Nat}{x:Str}{pos:Pos}(hN:X.N[i]?=some x)(hv:Us X.env.scope x)(hd:(x==("__debug__":Str))=false:=by decide)(hcd:(x==("__classdict__":Str))=false:=by decide):PE X (.Name x pos) (Tq i):=by
 intro pins s σ H Q I h;obtain⟨v,e,h⟩:=h;obtain⟨m,hn,hl⟩:=I.loc;obtain⟨u,r,l⟩:=hl i x v hN e hv;have fin:EP X pins σ Q u s:=⟨v,H,I,r,h⟩
 rcases l with⟨hk,hm⟩|⟨hk,c,hc,hcell⟩
 ·exact wpAny_Name (wpAny_loadName_local I.ok.kind hk hn hm fin) hd
 ·rcases hk with hk|hk
  ·exact wpAny_Name (wpAny_loadName_cell I.ok.kind hk hc hcell fin) hd
  ·exact wpAny_Name (wpAny_loadName_free I.ok.kind hk hc hcell fin hcd) hd
theorem AF {i j pos}:PE X (.Constant (.int i) j pos) (tC (.int i)):=λ_ _ _ H _ I h=>wpAny_Constant_int ⟨.int i,H,I.tok _,⟨_,rfl⟩,h⟩
theorem CM {b j pos}:PE X (.Constant (.bool b) j pos) (tC (.bl b)):=λ_ _ _ H _ I h=>Constant_bool ⟨.bl b,H,I,rfl,h⟩
theorem LA {j pos}:PE X (.Constant .none j pos) (tC .BK):=λ_ _ _ H _ I h=>Constant_none ⟨.BK,H,I,rfl,h⟩
theorem Aq {x j pos}:PE X (.Constant (.str x) j pos) (tC (.str x)):=λ_ _ _ H _ I h=>Calls.Constant_str ⟨.str x,H,I.tok _,⟨_,rfl⟩,h⟩
def Gl (X:Cx)(x:Str):Prop:=X.env.kindOf x=some .globalImplicit
theorem El {E:Value->Shared->Prop}{pins:List (Addr×Obj)}{s:Shared}{σ:St}{H:Hp}{x:Str}{u:Value}{pos:Pos}{Q:Value->Shared->Prop}(I:Inv X pins σ H s)(hg:Gl X x)(hm:X.mg x=some u)(h:Q u s)
 (hd:(x==("__debug__":Str))=false:=by decide):wpAny (model X.prog X.w) X.A (eval (.Name x pos) X.env) Q E s:=
 Calls.Name_function_global I.ok.kind hg (Calls.loadGlobal_global (by rw[I.ok.glob];exact I.mod.glob.keeps I.bk) hm h) hd
theorem CS {E:Value->Shared->Prop}{pins:List (Addr×Obj)}{s:Shared}{σ:St}{H:Hp}{x:Str}{u:Value}{pos:Pos}{Q:Value->Shared->Prop}(I:Inv X pins σ H s)(hg:Gl X x)(hm:X.mg x=none)(hv:bootBuiltins x=some u)(h:Q u s)
 (hn:x≠"__name__":=by decide)(hd:(x==("__debug__":Str))=false:=by decide):wpAny (model X.prog X.w) X.A (eval (.Name x pos) X.env) Q E s:=by
 obtain⟨mb,h1,h2⟩:=I.mod.blt;exact Calls.Name_function_global I.ok.kind hg (Calls.loadGlobal_builtin (by rw[I.ok.glob];exact I.mod.glob.keeps I.bk) hm (by rw[I.ok.blt];exact h1.keeps I.bk) ((h2 x hn).trans hv) h) hd
theorem A0 {x:Str}{v:V}{u:Value}{pos:Pos}(hg:Gl X x)(hm:X.mg x=some u)(r:RelV v u)(hd:(x==("__debug__":Str))=false:=by decide):PE X (.Name x pos) (tC v):=
 λ_ _ _ H _ I h=>El I hg hm ⟨v,H,I,r,h⟩ hd
theorem CN {x:Str}{v:V}{u:Value}{pos:Pos}(hg:Gl X x)(hm:X.mg x=none)(hv:bootBuiltins x=some u)(r:RelV v u)(hn:x≠"__name__":=by decide)(hd:(x==("__debug__":Str))=false:=by decide):PE X (.Name x pos) (tC v):=
 λ_ _ _ H _ I h=>CS I hg hm hv ⟨v,H,I,r,h⟩ hn hd
variable {a b:Expr}{ta tb:TE}{pos:Pos}
def tB (t:TE):TT:=λσ H Q=>t σ H λx H1=>∃c,x=.bl c/\Q c H1
theorem Ck {e:Expr}{t:TE}(h:PE X e t)(he:∀whole,isTrue e X.env whole=(do let v<-whole;standAt e.pos;holding [v] (truthy v)):=by intro _;rfl):PT X e (tB t):=by
 intro pins s σ H Q I hw;refine isTrue_plain (A8 (h pins s σ H _ I hw) λv s1 ⟨x,H1,I1,r1,q1⟩=>?_) (he _)
 obtain⟨d,rfl,q⟩:=q1;cases r1;exact wpAny_truthy_bool ⟨H1,I1,q⟩
variable {tA tB':TT}{rest:List Expr}
def VA (t u:TT):TT:=λσ H Q=>t σ H λc H1=>if c=true then u σ H1 Q else Q false H1
def Vw (t u:TT):TT:=λσ H Q=>t σ H λc H1=>if c=true then Q true H1 else u σ H1 Q
def VB (t:TT):TT:=λσ H Q=>t σ H λc H1=>Q (!c) H1
theorem L8 (ha:PT X a tA):PW X (.BoolOp .And [a] pos) tA:=by
 intro wh pins s σ H Q I h;refine isTrue_and (A8 (ha pins s σ H Q I h) λc s1 e=>?_)
 cases c with
 |true=>exact isTrue_and_nil e
 |false=>exact e
theorem FI (ha:PT X a tA):PW X (.BoolOp .Or [a] pos) tA:=by
 intro wh pins s σ H Q I h;refine isTrue_or (A8 (ha pins s σ H Q I h) λc s1 e=>?_)
 cases c with
 |false=>exact isTrue_or_nil e
 |true=>exact e
theorem OF (ha:PT X a tA)(hb:PW X (.BoolOp .And (b::rest) pos) tB'):PW X (.BoolOp .And (a::b::rest) pos) (VA tA tB'):=by
 intro wh pins s σ H Q I h;refine isTrue_and (A8 (ha pins s σ H _ I h) λc s1 ⟨H1,I1,q1⟩=>?_)
 cases c with
 |true=>exact hb wh pins s1 σ H1 Q I1 q1
 |false=>exact⟨H1,I1,q1⟩
theorem GO (ha:PT X a tA)(hb:PW X (.BoolOp .Or (b::rest) pos) tB'):PW X (.BoolOp .Or (a::b::rest) pos) (Vw tA tB'):=by
 intro wh pins s σ H Q I h;refine isTrue_or (A8 (ha pins s σ H _ I h) λc s1 ⟨H1,I1,q1⟩=>?_)
 cases c with
 |true=>exact⟨H1,I1,q1⟩
 |false=>exact hb wh pins s1 σ H1 Q I1 q1
theorem DP (ha:PT X a tA):PT X (.UnaryOp .Not a pos) (VB tA):=by
 intro pins s σ H Q I h;exact isTrue_not (ha pins s σ H (λc H1=>Q (!c) H1) I h)
def Tr (ta tb:TE):TE:=λσ H Q=>ta σ H λx H1=>∃c,x=.bl c/\if c=true then tb σ H1 Q else Q (.bl false) H1
def Ts (ta:TE):TE:=λσ H Q=>ta σ H λx H1=>∃c,x=.bl c/\Q (.bl (!c)) H1
theorem FJ {op}{t:TE}(h:PE X a t):PE X (.BoolOp op [a] pos) t:=λpins s σ H Q I hw=>BoolOp_one (h pins s σ H Q I hw)
theorem FK (ha:PE X a ta)(hb:PE X (.BoolOp .And (b::rest) pos) tb):PE X (.BoolOp .And (a::b::rest) pos) (Tr ta tb):=by
 intro pins s σ H Q I h;refine BoolOp_and (A8 (ha pins s σ H _ I h) λv s1 ⟨x,H1,I1,r1,q1⟩=>?_)
 obtain⟨c,rfl,q1⟩:=q1;cases r1;refine wpAny_truthy_bool ?_
 cases c with
 |true=>exact hb pins s1 σ H1 Q I1 q1
 |false=>exact⟨.bl false,H1,I1,rfl,q1⟩
theorem OG (ha:PE X a ta):PE X (.UnaryOp .Not a pos) (Ts ta):=by
 intro pins s σ H Q I h;refine UnaryOp_ (A8 (ha pins s σ H _ I h) λv s1 ⟨x,H1,I1,r1,q1⟩=>?_)
 obtain⟨c,rfl,q1⟩:=q1;cases r1;exact not_of (wpAny_truthy_bool ⟨.bl (!c),H1,I1,rfl,q1⟩)
def Vx (t:TT)(ta tb:TE):TE:=λσ H Q=>t σ H λc H1=>if c=true then ta σ H1 Q else tb σ H1 Q
theorem OH {c:Expr}(hc:PT X c tA)(ha:PE X a ta)(hb:PE X b tb):PE X (.IfExp c a b pos) (Vx tA ta tb):=by
 intro pins s σ H Q I h;refine wpAny_IfExp (A8 (hc pins s σ H _ I h) λd s1 ⟨H1,I1,q1⟩=>?_)
 cases d with
 |true=>exact ha pins s1 σ H1 Q I1 q1
 |false=>exact hb pins s1 σ H1 Q I1 q1
end
end L2
namespace L2
open PySem PySem.Spec PyProof.Rows
def Ah (K:PySem.W.Frag)(H:Hp)(a:Addr)(xs:List V):Prop:=
 Rd H a (.lst xs)\/
  ∃(o:Obj) (its:Array Value) (n:Nat),K.lookup a=some o/\o.cls=.type "list"/\o.dict=none/\o.data=.seq its n/\its.size<=sizeLine/\Vals xs its.toList
def BM (K:PySem.W.Frag)(H:Hp)(a:Addr)(xs:List V):Prop:=
 Rd H a (.tup xs)\/
  ∃(o:Obj) (its:Array Value) (n:Nat),K.lookup a=some o/\o.cls=.type "tuple"/\o.data=.seq its n/\its.size<=sizeLine/\Vals xs its.toList
def VC:Value->Option V
 |.none=>some .BK
 |.bool b=>some (.bl b)
 |.int i _=>some (.int i)
 |.str x _=>some (.str x)
 |.bytes b _=>some (.byt b)
 |.float b _=>some (.flt b)
 |.ref a=>some (.ref a)
 |.type n=>some (.ty n)
 |_=>none
theorem RelV.abs {x:V}{u:Value}(r:RelV x u):VC u=some x:=by
 cases x with
 |BK=>cases r;rfl
 |bl _=>cases r;rfl
 |int _=>obtain⟨t,rfl⟩:=r;rfl
 |str _=>obtain⟨t,rfl⟩:=r;rfl
 |byt _=>obtain⟨t,rfl⟩:=r;rfl
 |flt _=>obtain⟨t,rfl⟩:=r;rfl
 |ref _=>cases r;rfl
 |ty _=>cases r;rfl
theorem RelV.inj {x y:V}{u:Value}(r:RelV x u)(q:RelV y u):x=y:=Option.some.inj (r.abs.symm.trans q.abs)
theorem Vals.inj:∀{xs ys:List V} {us:List Value},Vals xs us->Vals ys us->xs=ys
 |_,_,_,.nil,.nil=>rfl
 |_,_,_,.cons r t,.cons r' t'=>by rw[r.inj r',Vals.inj t t']
section
variable {X:Cx}{pins:List (Addr×Obj)}{σ:St}{H:Hp}{s:Shared}{a:Addr}{xs ys:List V}
theorem Ah.of {K:PySem.W.Frag}(h:H a=some (.lst xs)):Ah K H a xs:=.inl (.inl h)
theorem BM.of {K:PySem.W.Frag}(h:H a=some (.tup xs)):BM K H a xs:=.inl (.inl h)
theorem Inv.list (I:Inv X pins σ H s)(h:Ah X.K H a xs):∃its:List Value,Vals xs its/\PlainL s.heap a its.toArray/\xs.length<=sizeLine:=by
 rcases h with h|⟨o,its,n,hk,hc,hd,hs,hz,r⟩
 ·obtain⟨z,its,n,r,e⟩:=h.ok I.hok
  exact⟨its,r,⟨_,n,e,rfl,rfl,rfl⟩,z⟩
 ·refine⟨its.toList,r,⟨o,n,I.GJ a o hk,hc,hd,by simpa using hs⟩,?_⟩
  have e:=r.length;simp only[Array.length_toList]at e;omega
theorem Inv.tuple (I:Inv X pins σ H s)(h:BM X.K H a xs):∃its:List Value,Vals xs its/\IsTup s.heap a its.toArray/\xs.length<=sizeLine:=by
 rcases h with h|⟨o,its,n,hk,hc,hs,hz,r⟩
 ·obtain⟨z,its,r,p⟩:=h.ok I.hok
  exact⟨its,r,p,z.1⟩
 ·refine⟨its.toList,r,⟨o,I.GJ a o hk,hc,n,by simpa using hs⟩,?_⟩
  have e:=r.length;simp only[Array.length_toList]at e;omega
theorem Inv.list_inj (I:Inv X pins σ H s)(h:Ah X.K H a xs)(h':Ah X.K H a ys):xs=ys:=by
 obtain⟨its,r,⟨o,n,e,_,_,d⟩,_⟩:=I.list h;obtain⟨its',r',⟨o',n',e',_,_,d'⟩,_⟩:=I.list h';rw[e]at e';cases e';rw[d]at d';injection d' with d1 _
 have:its=its':=by simpa using congrArg Array.toList d1
 subst this;exact r.inj r'
theorem Inv.NA (I:Inv X pins σ H s)(h:BM X.K H a xs)(h':BM X.K H a ys):xs=ys:=by
 obtain⟨its,r,⟨o,e,_,n,d⟩,_⟩:=I.tuple h;obtain⟨its',r',⟨o',e',_,n',d'⟩,_⟩:=I.tuple h';rw[e]at e';cases e';rw[d]at d';injection d' with d1 _
 have:its=its':=by simpa using congrArg Array.toList d1
 subst this;exact r.inj r'
end
abbrev Cx.Hc (X:Cx)(E:Value->Shared->Prop):Cx:={ X with xe:=E }
abbrev Cx.Tt (X:Cx):Cx:=X.Hc λ_ _=>False
theorem Cx.Ok.Hc {X:Cx}(ok:X.Ok)(E:Value->Shared->Prop):(X.Hc E).Ok:=
 ⟨ok.mod,ok.kind,ok.glob,ok.blt,ok.above,ok.inj,ok.has,ok.cab,ok.hd,ok.frames,ok.stk,ok.exf,ok.bs,ok.bsz,ok.noex,ok.exfs,ok.ED,ok.frf⟩
theorem Cx.Ok.DQ {X:Cx}{E:Value->Shared->Prop}(ok:(X.Hc E).Ok):X.Ok:=
 ⟨ok.mod,ok.kind,ok.glob,ok.blt,ok.above,ok.inj,ok.has,ok.cab,ok.hd,ok.frames,ok.stk,ok.exf,ok.bs,ok.bsz,ok.noex,ok.exfs,ok.ED,ok.frf⟩
section
variable {X:Cx}{pins:List (Addr×Obj)}{σ:St}{H:Hp}{s:Shared}{E:Value->Shared->Prop}
theorem Inv.Hc (I:Inv X pins σ H s)(E:Value->Shared->Prop):Inv (X.Hc E) pins σ H s:=⟨I.ok.Hc E,I.os,I.bare,I.base,I.loc,I.cell,I.free,I.freeC,I.pin,I.hok,I.len⟩
theorem Inv.DQ (I:Inv (X.Hc E) pins σ H s):Inv X pins σ H s:=⟨I.ok.DQ,I.os,I.bare,I.base,I.loc,I.cell,I.free,I.freeC,I.pin,I.hok,I.len⟩
theorem SP.DQ {D:Ends}{f:Flow}{s':Shared}(h:SP (X.Hc E) pins D f s'):SP X pins D f s':=by
 cases f with
 |next=>obtain⟨σ',H',I,q⟩:=h;exact⟨σ',H',I.DQ,q⟩
 |brk=>obtain⟨σ',H',I,q⟩:=h;exact⟨σ',H',I.DQ,q⟩
 |cont=>obtain⟨σ',H',I,q⟩:=h;exact⟨σ',H',I.DQ,q⟩
 |ret u=>obtain⟨v,σ',H',I,r,q⟩:=h;exact⟨v,σ',H',I.DQ,r,q⟩
theorem Jr.Tt {st:List Stmt}{t:TS}(h:Jr X.Tt st t):Jr X st t:=λpins s σ H D I hw=>
 wpAny_mono (h pins s σ H D (I.Hc _) hw) (λ_ _ q=>q.DQ) λ_ _ z=>False.elim z
end
section
variable {X:Cx}{st:Stmt}{rest:List Stmt}{t u:TS}{e:Expr}{te:TE}{pos:Pos}
def Tu:TS:=λD σ H=>D.nx σ H
def Tv (t u:TS):TS:=λD σ H=>t { D with nx:=u D } σ H
theorem Ad:Jr X [] Tu:=λ_ _ σ H _ I h=>wpAny_execs_nil ⟨σ,H,I,h⟩
theorem AE (h1:PS X st t)(h2:Jr X rest u):Jr X (st::rest) (Tv t u):=by
 intro pins s σ H D I h;refine wpAny_execs_cons (A8 (h1 pins s σ H { D with nx:=u D } I h) λf s1 q=>?_)
 cases f with
 |next=>
  obtain⟨σ',H',I',q⟩:=q;exact h2 pins s1 σ' H' D I' q
 |ret v=>exact q
 |brk=>exact q
 |cont=>exact q
theorem AI (h1:PS X st t):Jr X [st] t:=by
 intro pins s σ H D I h;refine wpAny_execs_cons (A8 (h1 pins s σ H D I h) λf s1 q=>?_)
 cases f with
 |next=>exact wpAny_execs_nil q
 |ret v=>exact q
 |brk=>exact q
 |cont=>exact q
theorem Inv.quiet {pins:List (Addr×Obj)}{σ:St}{H:Hp}{s:Shared}(I:Inv X pins σ H s):interactive X.env=false:=by simp[interactive,I.ok.kind]
def Tw (te:TE):TS:=λD σ H=>te σ H λ_ H1=>D.nx σ H1
theorem BZ (he:PE X e te)(hs:swapsWith e none pos.line X.env=pure false:=by rfl):PS X (.Expr e pos) (Tw te):=by
 intro pins s σ H D I h;exact wpAny_Expr_any (A8 (he pins s σ H _ I h) λv s1 ⟨x,H1,I1,r1,q1⟩=>⟨σ,H1,I1,q1⟩) I.quiet hs
def VD (te:TE):TS:=λD σ H=>te σ H D.rt
theorem AS (he:PE X e te):PS X (.Return (some e) pos) (VD te):=by
 intro pins s σ H D I h;exact wpAny_Return_some (A8 (he pins s σ H _ I h) λv s1 ⟨x,H1,I1,r1,q1⟩=>⟨x,σ,H1,I1,r1,q1⟩)
def VE (c:TT)(t u:TS):TS:=λD σ H=>c σ H λb H1=>if b=true then t D σ H1 else u D σ H1
theorem A9 {c:Expr}{a b:List Stmt}{tc:TT}(hc:PT X c tc)(ha:Jr X a t)(hb:Jr X b u):PS X (.If c a b pos) (VE tc t u):=by
 intro pins s σ H D I h;refine wpAny_If (A8 (hc pins s σ H _ I h) λd s1 ⟨H1,I1,q1⟩=>?_)
 cases d with
 |true=>exact ha pins s1 σ H1 D I1 q1
 |false=>exact hb pins s1 σ H1 D I1 q1
end
abbrev TG:=V->St->Hp->(St->Hp->Prop)->Prop
abbrev RJ:=List V->St->Hp->(St->Hp->Prop)->Prop
def PG (X:Cx)(target:Expr)(t:TG):Prop:=
 ∀(pins:List (Addr×Obj)) (s:Shared) (σ:St) (H:Hp) (v:V) (u:Value) (Q:St->Hp->Prop),Inv X pins σ H s->RelV v u->t v σ H Q->
  wpAny (model X.prog X.w) X.A (assign target X.env u) (λ_ s'=>∃σ' H',Inv X pins σ' H' s'/\Q σ' H') X.xe s
def Tx (X:Cx)(ts:List Expr)(t:RJ):Prop:=
 ∀(pins:List (Addr×Obj)) (s:Shared) (σ:St) (H:Hp) (vs:List V) (us:List Value) (Q:St->Hp->Prop),Inv X pins σ H s->Vals vs us->t vs σ H Q->
  wpAny (model X.prog X.w) X.A (assignInOrder ((assignEach ts X.env).map (·.2)) us) (λ_ s'=>∃σ' H',Inv X pins σ' H' s'/\Q σ' H') X.xe s
abbrev Rp:=V->V->V->Hp->(Hp->Prop)->Prop
def Tz (X:Cx)(t:Rp):Prop:=
 ∀(pins:List (Addr×Obj)) (s:Shared) (σ:St) (H:Hp) (o i v:V) (ov iv u:Value) (Q:Hp->Prop),Inv X pins σ H s->RelV o ov->RelV i iv->RelV v u->t o i v H Q->
  wpAny (model X.prog X.w) X.A (setItem ov iv u) (λ_ s'=>∃H',Inv X pins σ H' s'/\Q H') X.xe s
section
variable {X:Cx}{pos:Pos}
def Js (i:Nat):TG:=λv σ H Q=>Q (σ.set i (some v)) H
theorem AW {i:Nat}{x:Str}(hN:X.N.Nodup)(hi:X.N[i]?=some x)(hx:Loc X.env.scope x)(hf:X.fn x=true\/X.env.scope.names.lookup x=some .local:=by first|exact .inl rfl|exact .inr rfl|assumption):PG X (.Name x pos) (Js i):=by
 intro pins s σ H v u Q I r h;exact wpAny_assign_Name (GN I hN hi hx r (λs' I'=>⟨_,H,I',h⟩) hf)
def VF:RJ:=λvs σ H Q=>vs=[]/\Q σ H
def T1 (t:TG)(u:RJ):RJ:=λvs σ H Q=>∃v r,vs=v::r/\t v σ H λσ' H'=>u r σ' H' Q
theorem Em:Tx X [] VF:=by
 intro pins s σ H vs us Q I r h;obtain⟨e,h⟩:=h;subst e;cases r;exact assignInOrder_nil ⟨σ,H,I,h⟩
theorem Bc {e:Expr}{es:List Expr}{t:TG}{u:RJ}(h1:PG X e t)(h2:Tx X es u)
 (hs:(assignEach (e::es) X.env).map (·.2)=assign e X.env::(assignEach es X.env).map (·.2):=by rfl):Tx X (e::es) (T1 t u):=by
 intro pins s σ H vs us Q I r h;obtain⟨v,vr,e1,h⟩:=h;subst e1;cases r with
 |cons r rr=>
  rw[hs];refine assignInOrder_cons (A8 (h1 pins s σ H _ _ _ I r h) λ_ s1 ⟨σ1,H1,I1,q1⟩=>?_)
  exact h2 pins s1 σ1 H1 _ _ Q I1 rr q1
def T2 (K:PySem.W.Frag)(n:Nat)(t:RJ):TG:=λv σ H Q=>∃a xs,v=.ref a/\BM K H a xs/\xs.length=n/\t xs σ H Q
theorem Im {es:List Expr}{k:Nat}{t:RJ}{n:Nat}(hc:X.calm=true)(h:Tx X es t)
 (hn:(assignEach es X.env).length=n:=by rfl)(hst:(assignEach es X.env).findIdx? (·.1)=none:=by rfl):PG X (.Tuple es k pos) (T2 X.K n t):=by
 intro pins s σ H v u Q I r hw;obtain⟨a,xs,e1,hq,hl,hw⟩:=hw;subst e1;cases r;obtain⟨its,rv,ht,hz⟩:=I.tuple hq;refine assign_Tuple_tuple (I.ok.hd hc) ht (by simp[hn,<-hl,rv.length]) hst λh' hx=>?_
 have I1:Inv X pins σ H { s with heap:=h' }:=I.kept (t':=s.toks) λb o e=>hx b o (Nat.ne_of_lt (Heap.lt_size e)) e
 exact h pins _ σ H xs _ Q I1 (by simpa using rv) hw
def VG (to ti:TE)(t:Rp):TG:=λv σ H Q=>to σ H λo H1=>ti σ H1 λi H2=>t o i v H2 λH3=>Q σ H3
theorem Rq {o i:Expr}{to ti:TE}{t:Rp}(ho:PE X o to)(hi:PE X i ti)(hs:Tz X t)
 (ha:∀v,assign (.Subscript o i pos) X.env v=(do
  let ov<-holding [v] (eval o X.env)
  let iv<-holding [v,ov] (eval i X.env)
  standAt pos
  holding [v,ov,iv] (setItem ov iv v)
  release [v,ov,iv] []):=by intro _;rfl):PG X (.Subscript o i pos) (VG to ti t):=by
 intro pins s σ H v u Q I r h;rw[ha];refine wpAny_bind (wpAny_holding (A8 (ho pins s σ H _ I h) λov s1 ⟨x,H1,I1,r1,q1⟩=>?_))
 refine wpAny_bind (wpAny_holding (A8 (hi pins s1 σ H1 _ I1 q1) λiv s2 ⟨y,H2,I2,r2,q2⟩=>?_))
 refine wpAny_bind (wpAny_standAt (wpAny_bind (wpAny_holding (A8 (hs pins s2 σ H2 x y v ov iv u _ I2 r1 r2 r q2) λ_ s3 ⟨H3,I3,q3⟩=>?_))))
 exact wpAny_release ⟨σ,H3,I3,q3⟩
def Rt (te:TE)(g:TG):TS:=λD σ H=>te σ H λx H1=>g x σ H1 D.nx
theorem OI {tg e:Expr}{te:TE}{g:TG}(he:PE X e te)(hg:PG X tg g)(hs:swapsWithSole [tg] e pos.line X.env=pure false:=by rfl)(hw:swappedStores [tg] e X.env=pure none:=by rfl)
 (h1:(assignEach [tg] X.env).map (·.2)=[assign tg X.env]:=by rfl):PS X (.Assign [tg] e pos) (Rt te g):=by
 intro pins s σ H D I h;refine wpAny_Assign_stores (A8 (he pins s σ H _ I h) λv s1 ⟨x,H1,I1,r1,q1⟩=>?_) hs hw
 rw[h1];exact A8 (hg pins s1 σ H1 x v _ I1 r1 q1) λ_ s2 q=>q
theorem AM {i:Nat}{x:Str}{e:Expr}{te:TE}{pos':Pos}(hN:X.N.Nodup)(hi:X.N[i]?=some x)(hx:Loc X.env.scope x)(he:PE X e te)(hs:swapsWith e (some (.Name x pos')) pos.line X.env=pure false:=by rfl)(hf:X.fn x=true\/X.env.scope.names.lookup x=some .local:=by first|exact .inl rfl|exact .inr rfl|assumption):
 PS X (.Assign [.Name x pos'] e pos) (Rt te (Js i)):=by
 intro pins s σ H D I h;refine wpAny_Assign_Name (A8 (he pins s σ H _ I h) λv s1 ⟨y,H1,I1,r1,q1⟩=>?_) hs
 exact GN I1 hN hi hx r1 (λs2 I2=>⟨_,H1,I2,q1⟩) hf
end
section
variable {X:Cx}{pos:Pos}
def Ru (c:TT)(tb:TS):TS:=λD σ H=>∃W:Nat->St->Hp->Prop,(∃m,W m σ H)/\∀m σ H,W m σ H->
 c σ H λb H1=>if b=true then∃N:St->Hp->Prop,(∀σ' H',N σ' H'->∃m',m' < m/\W m' σ' H')/\tb { D with nx:=N,ct:=N,bk:=D.nx } σ H1 else D.nx σ H1
theorem OJ {c:Expr}{body:List Stmt}{tc:TT}{tb:TS}(hp:PassesOwn (model X.prog X.w) X.A X.env X.xe)(hc:PT X c tc)(hb:Jr X body tb):PS X (.While c body [] pos) (Ru tc tb):=by
 intro pins s σ H D I h;obtain⟨W,⟨m0,w0⟩,turn⟩:=h;refine wpAny_While (codeAny_whileLoop (λn s'=>∃σ' H',Inv X pins σ' H' s'/\W n σ' H') ?_ m0 ⟨σ,H,I,w0⟩)
 rintro n s1 ⟨σ1,H1,I1,w1⟩;refine wpAny_passesOwn hp (A8 (hc pins s1 σ1 H1 _ I1 (turn n σ1 H1 w1)) λb s2 ⟨H2,I2,q2⟩=>?_)
 cases b with
 |true=>
  obtain⟨N,hN,q2⟩:=q2;rw[if_pos rfl];refine wpAny_passesOwn hp (A8 (hb pins s2 σ1 H2 _ I2 q2) λf s3 q3=>?_)
  cases f with
  |next=>
   obtain⟨σ3,H3,I3,n3⟩:=q3;obtain⟨m',hm,w3⟩:=hN σ3 H3 n3;exact⟨m',hm,σ3,H3,I3,w3⟩
  |cont=>
   obtain⟨σ3,H3,I3,n3⟩:=q3;obtain⟨m',hm,w3⟩:=hN σ3 H3 n3;exact⟨m',hm,σ3,H3,I3,w3⟩
  |brk=>exact q3
  |ret v=>exact q3
 |false=>
  rw[if_neg Bool.false_ne_true];exact wpAny_execs_nil ⟨σ1,H2,I2,q2⟩
end
structure It where
 go:Nat->Hp->Prop
 yld:Nat->Hp->V->Hp->Prop
 stop:Nat->Hp->Prop
def CF (X:Cx)(pins:List (Addr×Obj))(H:Hp)(b:Addr):Prop:=
 H b=none/\b≠X.env.locals/\b∉X.fs/\(b∈X.ex\/X.s₀.heap.objs.size<=b)/\(∀x c,X.env.cells.lookup x=some c->c≠b)/\∀p∈X.pn++pins,p.1≠b
theorem Inv.Io {X:Cx}{pins:List (Addr×Obj)}{σ:St}{H H':Hp}{s:Shared}{b:Addr}(I:Inv X pins σ H s)(hb:s.heap.objs.size<=b)(hn:H' b=none):CF X pins H' b:=by
 refine⟨hn,Nat.ne_of_gt (Nat.lt_of_lt_of_le I.lt hb),I.U9 hb,.inr (Nat.le_trans I.sz hb),λx c e z=>?_,λp hp z=>?_⟩
 ·obtain⟨v,q⟩:=I.cell x c e
  exact absurd (Nat.lt_of_lt_of_le q.lt (by rw[z];exact hb)) (Nat.lt_irrefl _)
 ·exact absurd (Nat.lt_of_lt_of_le (Heap.lt_size (I.pin p hp).1) (by rw[z];exact hb)) (Nat.lt_irrefl _)
structure Turn (P:Program)(w:World)(K:PySem.W.Frag)(tg:Expr)(J:It)(fp:List Addr)(it:Addr)(tn:Nat->Heap->Prop):Prop where
 mem:it∈fp
 obj:∀i h,tn i h->∀b∈fp,∃o,h.get? b=some o/\∀v,o.data≠.cell v
 keep:∀i h h',tn i h->(∀b∈fp,∀o,h.get? b=some o->h'.get? b=some o)->tn i h'
 item:∀(X:Cx),X.prog=P->X.w=w->X.K=K->X.calm=true->∀(i:Nat) (pins:List (Addr×Obj)) (s:Shared) (σ:St) (H:Hp) (E:Value->Shared->Prop),Inv X pins σ H s->(∀b∈fp,CF X pins H b)->tn i s.heap->J.go i H->
  wpAny (model P w) X.A (pyNext (.ref it)) (λr s1=>∃u,r=some u/\
   wpAny (model P w) X.A (letOwnedTupleGo tg (.ref it) u) (λ_ s2=>∃x H',Inv X pins σ H' s2/\RelV x u/\J.yld i H x H'/\tn (i+1) s2.heap/\∀b∈fp,H' b=none) E s1) E s
 done:∀(X:Cx),X.prog=P->X.w=w->X.K=K->X.calm=true->∀(i:Nat) (pins:List (Addr×Obj)) (s:Shared) (σ:St) (H:Hp) (E:Value->Shared->Prop),Inv X pins σ H s->(∀b∈fp,CF X pins H b)->tn i s.heap->J.stop i H->
  wpAny (model P w) X.A (pyNext (.ref it)) (λr s1=>r=none/\Inv X pins σ H s1) E s
 self:∀(A:Around) (i:Nat) (s:Shared) (Q:Value->Shared->Prop) (E:Value->Shared->Prop),tn i s.heap->Q (.ref it) s->wpAny (model P w) A (pyIter (.ref it)) Q E s
abbrev TI:=St->Hp->(It->Hp->Prop)->Prop
def Vl (X:Cx)(pins:List (Addr×Obj))(σ:St)(tg:Expr)(R:It->Hp->Prop)(itv:Value)(s2:Shared):Prop:=
 ∃(it:Addr) (fp:List Addr) (tn:Nat->Heap->Prop) (J:It) (H':Hp),itv=.ref it/\Inv X pins σ H' s2/\Turn X.prog X.w X.K tg J fp it tn/\tn 0 s2.heap/\(∀b∈fp,CF X pins H' b)/\R J H'
def PI (X:Cx)(tg iter:Expr)(wi:TI):Prop:=
 ∀(pins:List (Addr×Obj)) (s:Shared) (σ:St) (H:Hp) (R:It->Hp->Prop),Inv X pins σ H s->wi σ H R->
  wpAny (model X.prog X.w) X.A (eval iter X.env) (λv s1=>wpAny (model X.prog X.w) X.A (pyIter v) (Vl X pins σ tg R) X.xe s1) X.xe s
theorem L9 {M:Model}{A:Around}{E:Value->Shared->Prop}{s:Shared}{tg:Expr}{it:Addr}{u:Value}{o:Obj}{n:String}{vs:Array Value}{Q:Unit->Shared->Prop}(ho:s.heap.get? it=some o)(hc:o.cls=.type n)(hd:o.data=.fields vs)
 (hn:["enumerate","zip","dict_itemiterator","dict_reverseitemiterator","odict_iterator","itertools.zip_longest","itertools.pairwise"].contains n=false)(hQ:Q () s):wpAny M A (letOwnedTupleGo tg (.ref it) u) Q E s:=by
 unfold letOwnedTupleGo
 cases tg<;>first
  |exact wpAny_pure hQ
  |(cases u<;>first
   |exact wpAny_pure hQ
   |(refine wpAny_bind (wpAny_load ho ?_)
     rw[hc,hd];show wpAny M A (if(["enumerate","zip","dict_itemiterator","dict_reverseitemiterator","odict_iterator","itertools.zip_longest","itertools.pairwise"].contains n&&vs[0]?==some (rawInt _))=true then _ else _) Q E s
     rw[if_neg (by intro h;rw[hn,Bool.false_and]at h;cases h)]
     exact wpAny_pure hQ))
def RK (K:PySem.W.Frag)(a:Addr):It:=
 ⟨λi H=>∃xs x,Ah K H a xs/\xs[i]?=some x,λi H x H'=>H'=H/\∀xs,Ah K H a xs->xs[i]?=some x,λi H=>∃xs,Ah K H a xs/\xs.length<=i⟩
def T3 (K:PySem.W.Frag)(a:Addr):It:=
 ⟨λi H=>∃xs x,BM K H a xs/\xs[i]?=some x,λi H x H'=>H'=H/\∀xs,BM K H a xs->xs[i]?=some x,λi H=>∃xs,BM K H a xs/\xs.length<=i⟩
def Rv (lo:Int)(n:Nat):It:=⟨λi _=>i < n,λi H x H'=>H'=H/\x=.int (lo+i),λi _=>n<=i⟩
theorem NB {P:Program}{w:World}{K:PySem.W.Frag}{tg:Expr}(a it:Addr):Turn P w K tg (RK K a) [it] it (λi h=>h.IsListIter it a i) where
 mem:=by simp
 obj:=λi h st b hb=>by
  have e:b=it:=by simpa using hb
  subst e;obtain⟨o,e,c,d⟩:=st;exact⟨o,e,λv z=>by rw[d]at z;cases z⟩
 keep:=λi h h' st k=>st.at λo e=>k it (by simp) o e
 item:=by
  intro X hP hw hK hc i pins s σ H E I hf st hg;subst hP hw hK;obtain⟨xs,x,hq,hx⟩:=hg;obtain⟨its,rv,p,hz⟩:=I.list hq;obtain⟨u,hu,ru⟩:=rv.get hx;obtain⟨f0,f1,f2,f3,f4,f5⟩:=hf it (by simp)
  refine wpAny_pyNext_list_item st p.isList (x:=u) (by simpa using hu) λh' st' sb=>?_
  have I1:Inv X pins σ H { s with heap:=h' }:=I.turned (t':=s.toks) (λb o hb e=>(sb.2 b hb).trans e) f0 f1 f3 f4 f5
  obtain⟨o,e,c,d⟩:=id st';exact⟨u,rfl,L9 (s:={ s with heap:=h' }) e c d (by decide) ⟨x,H,I1,ru,⟨rfl,λys hy=>by rw[I.list_inj hy hq];exact hx⟩,st',λb hb=>(hf b hb).1⟩⟩
 done:=by
  intro X hP hw hK hc i pins s σ H E I hf st hg;subst hP hw hK;obtain⟨xs,hq,hx⟩:=hg;obtain⟨its,rv,p,hz⟩:=I.list hq;obtain⟨f0,f1,f2,f3,f4,f5⟩:=hf it (by simp)
  have hl:=rv.length;exact wpAny_pyNext_list_end (I.ok.hd hc) st p.isList (by simp;omega) λh' eb=>⟨rfl,I.turned (t':=s.toks) (λb o hb e=>eb b o hb e) f0 f1 f3 f4 f5⟩
 self:=λ_ _ _ _ _ st h=>wpAny_pyIter_listiter st h
theorem LB {P:Program}{w:World}{K:PySem.W.Frag}{tg:Expr}(a it:Addr):Turn P w K tg (T3 K a) [it] it (λi h=>h.IsTupleIter it a i) where
 mem:=by simp
 obj:=λi h st b hb=>by
  have e:b=it:=by simpa using hb
  subst e;obtain⟨o,e,c,d⟩:=st;exact⟨o,e,λv z=>by rw[d]at z;cases z⟩
 keep:=λi h h' st k=>st.at λo e=>k it (by simp) o e
 item:=by
  intro X hP hw hK hc i pins s σ H E I hf st hg;subst hP hw hK;obtain⟨xs,x,hq,hx⟩:=hg;obtain⟨its,rv,p,hz⟩:=I.tuple hq;obtain⟨u,hu,ru⟩:=rv.get hx;obtain⟨f0,f1,f2,f3,f4,f5⟩:=hf it (by simp)
  refine wpAny_pyNext_tuple_item st (show s.heap.IsTuple a its.toArray from p) (x:=u) (by simpa using hu) λh' st' sb=>?_
  have I1:Inv X pins σ H { s with heap:=h' }:=I.turned (t':=s.toks) (λb o hb e=>(sb.2 b hb).trans e) f0 f1 f3 f4 f5
  obtain⟨o,e,c,d⟩:=id st';exact⟨u,rfl,L9 (s:={ s with heap:=h' }) e c d (by decide) ⟨x,H,I1,ru,⟨rfl,λys hy=>by rw[I.NA hy hq];exact hx⟩,st',λb hb=>(hf b hb).1⟩⟩
 done:=by
  intro X hP hw hK hc i pins s σ H E I hf st hg;subst hP hw hK;obtain⟨xs,hq,hx⟩:=hg;obtain⟨its,rv,p,hz⟩:=I.tuple hq;obtain⟨f0,f1,f2,f3,f4,f5⟩:=hf it (by simp)
  have hl:=rv.length;exact wpAny_pyNext_tuple_end (I.ok.hd hc) st (show s.heap.IsTuple a its.toArray from p) (by simp;omega) λh' eb=>⟨rfl,I.turned (t':=s.toks) (λb o hb e=>eb b o hb e) f0 f1 f3 f4 f5⟩
 self:=λ_ _ _ _ _ st h=>wpAny_pyIter_tupleiter st h
theorem LC {P:Program}{w:World}{K:PySem.W.Frag}{tg:Expr}(it:Addr)(lo:Int)(n:Nat):Turn P w K tg (Rv lo n) [it] it (λi h=>IsRangeIter h it (lo+(i:Nat)*1) ((n:Int) - (i:Nat)) 1) where
 mem:=by simp
 obj:=λi h st b hb=>by
  have e:b=it:=by simpa using hb
  subst e
  exact⟨_,st,λv z=>by
   have z':Data.fields _=Data.cell v:=z;cases z'⟩
 keep:=λi h h' st k=>k it (by simp) _ st
 item:=by
  intro X hP hw hK hc i pins s σ H E I hf st hg;subst hP hw hK;obtain⟨f0,f1,f2,f3,f4,f5⟩:=hf it (by simp)
  have W:=Walks.range (prog:=X.prog) (w:=X.w) (I.ok.hd hc) it lo 1 n;refine W.item i s _ _ hg st λv h' tk hv st' kk=>?_
  obtain⟨t,rfl⟩:=hv;have I1:Inv X pins σ H { s with heap:=h',toks:=tk }:=I.turned (λb o hb e=>kk b o (by simpa using hb) e) f0 f1 f3 f4 f5
  refine⟨_,rfl,L9 (s:={ s with heap:=h',toks:=tk }) (n:="range_iterator") st' rfl rfl (by decide) ⟨.int (lo+i),H,I1,⟨t,?_⟩,⟨rfl,rfl⟩,st',λb hb=>(hf b hb).1⟩⟩
  rw[Int.mul_one]
 done:=by
  intro X hP hw hK hc i pins s σ H E I hf st hg;subst hP hw hK;obtain⟨f0,f1,f2,f3,f4,f5⟩:=hf it (by simp)
  exact wpAny_pyNext_range_end (I.ok.hd hc) st (by have:n<=i:=hg;omega) λh' eb=>⟨rfl,I.turned (t':=s.toks) (λb o hb e=>eb b o hb e) f0 f1 f3 f4 f5⟩
 self:=λ_ _ _ _ _ st h=>wpAny_pyIter_rangeiter st h
end L2
namespace L2
open PySem PySem.Spec PyProof.Rows
section
variable {X:Cx}{tg:Expr}
def T4 (K:PySem.W.Frag)(tl:TE):TI:=λσ H R=>tl σ H λx H1=>∃a,x=.ref a/\(∃xs,Ah K H1 a xs)/\R (RK K a) H1
def VH (K:PySem.W.Frag)(tl:TE):TI:=λσ H R=>tl σ H λx H1=>∃a,x=.ref a/\(∃xs,BM K H1 a xs)/\R (T3 K a) H1
theorem Br {l:Expr}{tl:TE}(hl:PE X l tl):PI X tg l (T4 X.K tl):=by
 intro pins s σ H R I h;refine A8 (hl pins s σ H _ I h) λv s1 ⟨x,H1,I1,r1,q1⟩=>?_
 obtain⟨a,e,⟨xs,hq⟩,q⟩:=q1;subst e;cases r1;obtain⟨its,rv,p,hz⟩:=I1.list hq;refine wpAny_pyIter_list p.isList ?_
 refine⟨s1.heap.objs.size,[s1.heap.objs.size],_,_,H1,rfl,I1.kept (t':=s1.toks) λb o e=>Heap.get?_push_of_some _ e,NB a _,⟨_,Heap.get?_push_size _ rfl,rfl,rfl⟩,λb hb=>?_,q⟩
 have e:b=s1.heap.objs.size:=by simpa using hb
 subst e;exact I1.Io (Nat.le_refl _) (I1.hok.fresh (Nat.le_refl _))
theorem LD {l:Expr}{tl:TE}(hl:PE X l tl):PI X tg l (VH X.K tl):=by
 intro pins s σ H R I h;refine A8 (hl pins s σ H _ I h) λv s1 ⟨x,H1,I1,r1,q1⟩=>?_
 obtain⟨a,e,⟨xs,hq⟩,q⟩:=q1;subst e;cases r1;obtain⟨its,rv,p,hz⟩:=I1.tuple hq;refine wpAny_pyIter_tuple (show s1.heap.IsTuple a its.toArray from p) ?_
 refine⟨s1.heap.objs.size,[s1.heap.objs.size],_,_,H1,rfl,I1.kept (t':=s1.toks) λb o e=>Heap.get?_push_of_some _ e,LB a _,⟨_,Heap.get?_push_size _ rfl,rfl,rfl⟩,λb hb=>?_,q⟩
 have e:b=s1.heap.objs.size:=by simpa using hb
 subst e;exact I1.Io (Nat.le_refl _) (I1.hok.fresh (Nat.le_refl _))
theorem Jt {pins:List (Addr×Obj)}{σ:St}{H:Hp}{s:Shared}{R:It->Hp->Prop}{E:Value->Shared->Prop}{lo hi:Int}{t u v:Tok}{tk:Nat}(I:Inv X pins σ H s)(h1:-(2 ^ 62)<=lo)(h2:lo < 2 ^ 62)(h3:-(2 ^ 62)<=hi)(h4:hi < 2 ^ 62)
 (q:R (Rv lo (hi - lo).toNat) H):wpAny (model X.prog X.w) X.A (pyIter (.ref s.heap.objs.size)) (Vl X pins σ tg R) E { s with heap:=s.heap.push { cls:=.type "range",data:=.fields #[.int lo t,.int hi u,.int 1 v] },toks:=tk }:=by
 refine wpAny_pyIter_range (IsRange.new ..) (small_one h1 h2 h3 h4) ?_
 have I1:Inv X pins σ H { s with heap:=s.heap.push { cls:=.type "range",data:=.fields #[.int lo t,.int hi u,.int 1 v] },toks:=tk }:=I.kept λb o e=>Heap.get?_push_of_some _ e
 refine⟨(s.heap.push { cls:=.type "range",data:=.fields #[.int lo t,.int hi u,.int 1 v] }).objs.size,[(s.heap.push { cls:=.type "range",data:=.fields #[.int lo t,.int hi u,.int 1 v] }).objs.size],_,_,H,rfl,
  I1.kept (t':=tk) λb o e=>Heap.get?_push_of_some _ e,LC _ lo (hi - lo).toNat,?_,λb hb=>?_,q⟩
 ·have e1:lo+((0:Nat):Int)*1=lo:=by simp
  have e2:(((hi - lo).toNat:Nat):Int) - ((0:Nat):Int)=Builtin.Range.rangeSize lo hi 1:=by rw[rangeSize_one];split<;>omega
  show IsRangeIter _ _ (lo+((0:Nat):Int)*1) ((((hi - lo).toNat:Nat):Int) - ((0:Nat):Int)) 1;rw[e1,e2];exact Heap.get?_push_size _ rfl
 ·have e:b=(s.heap.push { cls:=.type "range",data:=.fields #[.int lo t,.int hi u,.int 1 v] }).objs.size:=by simpa using hb
  subst e;exact I1.Io (Nat.le_refl _) (I1.hok.fresh (Nat.le_refl _))
def T5 (ta:TA):TI:=λσ H R=>ta σ H λvs H1=>∃j:Int,vs=[.int j]/\-(2 ^ 62)<=j/\j < 2 ^ 62/\R (Rv 0 j.toNat) H1
def T6 (ta:TA):TI:=λσ H R=>ta σ H λvs H1=>∃i j:Int,vs=[.int i,.int j]/\(-(2 ^ 62)<=i/\i < 2 ^ 62/\-(2 ^ 62)<=j/\j < 2 ^ 62)/\R (Rv i (j - i).toNat) H1
theorem By {a:Expr}{ta:TA}{p pos:Pos}(hg:Gl X "range")(hm:X.mg "range"=none)(ha:PA X [a] ta)(hs:starEach [a] X.env=[(false,eval a X.env)]:=by rfl):PI X tg (.Call (.Name "range" p) [a] [] pos) (T5 ta):=by
 intro pins s σ H R I h;refine Call_ (CS I hg hm boot_range (PyProof.Rows.callWith_type1 (A8 (ha pos pins s σ H _ I h) λus s1 ⟨vs,H1,I1,r1,q1⟩=>?_) hs rfl))
 obtain⟨j,e,q1,q2,q⟩:=q1;subst e;cases r1 with
 |cons r rr=>
  cases rr;obtain⟨t,rfl⟩:=r;exact call_range_1 (Jt I1 (by omega) (by omega) q1 q2 (by simpa using q))
theorem Cp {a b:Expr}{ta:TA}{p pos:Pos}(hg:Gl X "range")(hm:X.mg "range"=none)(ha:PA X [a,b] ta)(hs:starEach [a,b] X.env=[(false,eval a X.env),(false,eval b X.env)]:=by rfl)(hs2:starEach [b] X.env=[(false,eval b X.env)]:=by rfl):
 PI X tg (.Call (.Name "range" p) [a,b] [] pos) (T6 ta):=by
 intro pins s σ H R I h;refine Call_ (CS I hg hm boot_range (PyProof.Rows.callWith_type1 (A8 (ha pos pins s σ H _ I h) λus s1 ⟨vs,H1,I1,r1,q1⟩=>?_) (by rw[hs,hs2]) (by rw[hs2];rfl)))
 obtain⟨i,j,e,⟨q1,q2,q3,q4⟩,q⟩:=q1;subst e;cases r1 with
 |cons r rr=>
  cases rr with
  |cons r' rr=>
   cases rr;obtain⟨t,rfl⟩:=r;obtain⟨t',rfl⟩:=r';exact call_range_2 (Jt I1 q1 q2 q3 q4 q)
def VI (wi:TI)(g:TG)(tb:TS):TS:=λD σ H=>wi σ H λJ H1=>∃W:Nat->Nat->St->Hp->Prop,(∃m,W 0 m σ H1)/\∀i m σ H,W i m σ H->
 (J.stop i H/\D.nx σ H)\/(J.go i H/\∃N:St->Hp->Prop,(∀σ' H',N σ' H'->∃m',m' < m/\W (i+1) m' σ' H')/\∀x H',J.yld i H x H'->g x σ H' λσ2 H2=>tb { D with nx:=N,ct:=N,bk:=D.nx } σ2 H2)
def FL (fp:List Addr)(h:Heap):List (Addr×Obj):=fp.filterMap λb=>(h.get? b).map λo=>(b,o)
theorem C8 {fp:List Addr}{h:Heap}{b:Addr}{o:Obj}(hb:b∈fp)(e:h.get? b=some o):(b,o)∈FL fp h:=List.mem_filterMap.mpr ⟨b,hb,by rw[e];rfl⟩
theorem NC {fp:List Addr}{h:Heap}{p:Addr×Obj}(hp:p∈FL fp h):p.1∈fp/\h.get? p.1=some p.2:=by
 obtain⟨b,hb,e⟩:=List.mem_filterMap.mp hp;cases q:h.get? b with
 |none=>rw[q]at e;cases e
 |some o=>
  rw[q]at e;have e':(b,o)=p:=Option.some.inj e;subst e';exact⟨hb,q⟩
theorem Inv.pinned {pins:List (Addr×Obj)}{σ:St}{H:Hp}{s:Shared}{fp:List Addr}(I:Inv X pins σ H s)(hf:∀b∈fp,CF X pins H b)(ho:∀b∈fp,∃o,s.heap.get? b=some o/\∀v,o.data≠.cell v):Inv X (pins++FL fp s.heap) σ H s:=
 I.L7 λp hp=>(List.mem_append.mp hp).elim (λz=>I.pin p (List.mem_append_right _ z)) λz=>by
  obtain⟨hb,e⟩:=NC z;obtain⟨f0,f1,f2,_⟩:=hf p.1 hb;obtain⟨o,e',d⟩:=ho p.1 hb;rw[e]at e';cases e';exact⟨e,f0,f1,f2,d⟩
theorem Inv.En {pins pl:List (Addr×Obj)}{σ:St}{H:Hp}{s:Shared}(I:Inv X (pins++pl) σ H s):Inv X pins σ H s:=I.L7 λp hp=>I.pin p (List.mem_append_right _ (List.mem_append_left _ hp))
theorem Bs {iter:Expr}{body:List Stmt}{wi:TI}{g:TG}{tb:TS}{pos:Pos}(hp:PassesOwn (model X.prog X.w) X.A X.env X.xe)(hc:X.calm=true)(hi:PI X tg iter wi)(hg:PG X tg g)(hb:Jr X body tb)
 (hs:∀x,foldedSetIterable iter X.env x=pure x:=by intro _;rfl):PS X (.For tg iter body [] pos) (VI wi g tb):=by
 intro pins s σ H D I h;refine wpAny_For (A8 (hi pins s σ H _ I h) λv s1 h1=>A8 h1 λitv s2 h2=>?_) hs
 obtain⟨it,fp,tn,J,H2,e,I2,T,st2,f2,W,⟨m0,w0⟩,turn⟩:=h2;subst e;have stat:∀{H':Hp},(∀b∈fp,H' b=none)->∀b∈fp,CF X pins H' b:=λhn b hb=>⟨hn b hb,(f2 b hb).2⟩
 refine codeAny_forLoop_any (λn s'=>∃i σ' H',Inv X pins σ' H' s'/\tn i s'.heap/\(∀b∈fp,H' b=none)/\W i n σ' H') ?_ m0 ⟨0,σ,H2,I2,st2,λb hb=>(f2 b hb).1,w0⟩
 rintro n s3 ⟨i,σ3,H3,I3,st3,fr3,w3⟩
 rcases turn i n σ3 H3 w3 with⟨stop,qn⟩|⟨go,N,hN,step⟩
 ·refine wpAny_passesOwn hp (A8 (T.done X rfl rfl rfl hc i pins s3 σ3 H3 X.xe I3 (stat fr3) st3 stop) λr s4 ⟨hr,I4⟩=>?_)
  subst hr;exact wpAny_execs_nil ⟨σ3,H3,I4,qn⟩
 ·refine wpAny_passesOwn hp (A8 (T.item X rfl rfl rfl hc i pins s3 σ3 H3 X.xe I3 (stat fr3) st3 go) λr s4 ⟨u,hr,h4⟩=>?_)
  subst hr;refine wpAny_passesOwn hp (A8 h4 λ_ s5 ⟨x,H5,I5,r5,y5,st5,fr5⟩=>?_)
  have I5':=I5.pinned (stat fr5) (T.obj _ _ st5);refine wpAny_passesOwn hp (A8 (hg _ s5 σ3 H5 x u _ I5' r5 (step x H5 y5)) λ_ s6 ⟨σ6,H6,I6,q6⟩=>?_)
  refine wpAny_passesOwn hp (A8 (hb _ s6 σ6 H6 _ I6 q6) λf s7 q7=>?_)
  have again:∀{σ7:St} {H7:Hp},Inv X (pins++FL fp s5.heap) σ7 H7 s7->N σ7 H7->∃m,m < n/\∃i σ' H',Inv X pins σ' H' s7/\tn i s7.heap/\(∀b∈fp,H' b=none)/\W i m σ' H':=λ{σ7 H7} I7 n7=>by
   obtain⟨m',hm,w7⟩:=hN σ7 H7 n7;refine⟨m',hm,i+1,σ7,H7,I7.En,T.keep _ _ _ st5 λb hb o e=>(I7.pin (b,o) (List.mem_append_right _ (List.mem_append_right _ (C8 hb e)))).1,λb hb=>?_,w7⟩
   obtain⟨o,e,d⟩:=T.obj _ _ st5 b hb;exact(I7.pin (b,o) (List.mem_append_right _ (List.mem_append_right _ (C8 hb e)))).2.1
  cases f with
  |next=>obtain⟨σ7,H7,I7,n7⟩:=q7;exact again I7 n7
  |cont=>obtain⟨σ7,H7,I7,n7⟩:=q7;exact again I7 n7
  |brk=>obtain⟨σ7,H7,I7,q7⟩:=q7;exact⟨σ7,H7,I7.En,q7⟩
  |ret v=>obtain⟨x7,σ7,H7,I7,r7,q7⟩:=q7;exact⟨x7,σ7,H7,I7.En,r7,q7⟩
end
theorem GP {K:PySem.W.Frag}{a:Addr}{xs:List V}{g:TG}{tb:TS}{D:Ends}{σ:St}{H:Hp}(Pv:Nat->St->Hp->Prop)(h0:Pv 0 σ H)(hl:∀i σ H,i<=xs.length->Pv i σ H->Ah K H a xs)
 (hs:∀i x σ H,xs[i]?=some x->Pv i σ H->g x σ H λσ2 H2=>tb { D with nx:=Pv (i+1),ct:=Pv (i+1),bk:=D.nx } σ2 H2)(hd:∀σ H,Pv xs.length σ H->D.nx σ H):
 ∃W:Nat->Nat->St->Hp->Prop,(∃m,W 0 m σ H)/\∀i m σ H,W i m σ H->
  ((RK K a).stop i H/\D.nx σ H)\/((RK K a).go i H/\∃N:St->Hp->Prop,(∀σ' H',N σ' H'->∃m',m' < m/\W (i+1) m' σ' H')/\∀x H',(RK K a).yld i H x H'->g x σ H' λσ2 H2=>tb { D with nx:=N,ct:=N,bk:=D.nx } σ2 H2):=by
 refine⟨λi m σ H=>m=xs.length - i/\i<=xs.length/\Pv i σ H,⟨xs.length,by simp,Nat.zero_le _,h0⟩,?_⟩
 rintro i m σ H ⟨rfl,hi,p⟩;have q:=hl i σ H hi p
 by_cases hlt:i < xs.length
 ·refine .inr ⟨⟨xs,xs[i],q,by simp[hlt]⟩,Pv (i+1),λσ' H' p'=>⟨xs.length - (i+1),by omega,rfl,hlt,p'⟩,λx H' y=>?_⟩
  obtain⟨e,y⟩:=y;subst e;exact hs i x σ _ (y xs q) p
 ·have e:i=xs.length:=by omega
  subst e;exact .inl ⟨⟨xs,q,Nat.le_refl _⟩,hd σ H p⟩
theorem Bm {lo:Int}{n:Nat}{g:TG}{tb:TS}{D:Ends}{σ:St}{H:Hp}(Pv:Nat->St->Hp->Prop)(h0:Pv 0 σ H)
 (hs:∀i σ H,i < n->Pv i σ H->g (.int (lo+i)) σ H λσ2 H2=>tb { D with nx:=Pv (i+1),ct:=Pv (i+1),bk:=D.nx } σ2 H2)(hd:∀σ H,Pv n σ H->D.nx σ H):
 ∃W:Nat->Nat->St->Hp->Prop,(∃m,W 0 m σ H)/\∀i m σ H,W i m σ H->
  ((Rv lo n).stop i H/\D.nx σ H)\/((Rv lo n).go i H/\∃N:St->Hp->Prop,(∀σ' H',N σ' H'->∃m',m' < m/\W (i+1) m' σ' H')/\∀x H',(Rv lo n).yld i H x H'->g x σ H' λσ2 H2=>tb { D with nx:=N,ct:=N,bk:=D.nx } σ2 H2):=by
 refine⟨λi m σ H=>m=n - i/\i<=n/\Pv i σ H,⟨n,by simp,Nat.zero_le _,h0⟩,?_⟩
 rintro i m σ H ⟨rfl,hi,p⟩
 by_cases hlt:i < n
 ·refine .inr ⟨hlt,Pv (i+1),λσ' H' p'=>⟨n - (i+1),by omega,rfl,hlt,p'⟩,λx H' y=>?_⟩
  obtain⟨e,y⟩:=y;subst e y;exact hs i σ _ hlt p
 ·have e:i=n:=by omega
  subst e;exact .inl ⟨Nat.le_refl _,hd σ H p⟩
end L2
namespace L2
open PySem PySem.Spec PyProof.Rows
abbrev R2:=V->V->Hp->VK->Prop
def C9 (X:Cx)(f:Value->Value->Sem Value)(r:R2):Prop:=
 ∀(pins:List (Addr×Obj)) (s:Shared) (σ:St) (H:Hp) (x y:V) (v u:Value) (Q:VK),Inv X pins σ H s->RelV x v->RelV y u->r x y H Q->
  wpAny (model X.prog X.w) X.A (f v u) (EP X pins σ Q) X.xe s
def VJ (X:Cx)(f:Value->Sem Value)(r:V->Hp->VK->Prop):Prop:=
 ∀(pins:List (Addr×Obj)) (s:Shared) (σ:St) (H:Hp) (x:V) (v:Value) (Q:VK),Inv X pins σ H s->RelV x v->r x H Q->
  wpAny (model X.prog X.w) X.A (f v) (EP X pins σ Q) X.xe s
def Be (X:Cx)(f:Value)(r:List V->Hp->VK->Prop):Prop:=
 ∀(pins:List (Addr×Obj)) (s:Shared) (σ:St) (H:Hp) (xs:List V) (us:List Value) (Q:VK),Inv X pins σ H s->Vals xs us->r xs H Q->
  wpAny (model X.prog X.w) X.A (call f us) (EP X pins σ Q) X.xe s
def Ut (r:R2)(ta tb:TE):TE:=λσ H Q=>ta σ H λx H1=>tb σ H1 λy H2=>r x y H2 Q
def Vy (r:V->Hp->VK->Prop)(ta:TE):TE:=λσ H Q=>ta σ H λx H1=>r x H1 Q
def rI (C:Int->Int->Prop)(g:Int->Int->V):R2:=λx y H Q=>∃i j,x=.int i/\y=.int j/\C i j/\Q (g i j) H
def RL (g:Int->Int->V):R2:=λx y H Q=>∃i j,x=.int i/\y=.int j/\Q (g i j) H
def rU (g:Int->V):V->Hp->VK->Prop:=λx H Q=>∃i,x=.int i/\Q (g i) H
section
variable {X:Cx}{a b c:Expr}{ta tb tc:TE}{pos:Pos}
theorem Rw (ha:PE X a ta)(hb:PE X b tb){pins:List (Addr×Obj)}{s:Shared}{σ:St}{H:Hp}{R:V->V->Hp->Prop}(I:Inv X pins σ H s)
 (h:ta σ H λx H1=>tb σ H1 λy H2=>R x y H2){Q:Value->Shared->Prop}{f:Value->Value->Sem Value}
 (hf:∀v u s2 x y H2,Inv X pins σ H2 s2->RelV x v->RelV y u->R x y H2->wpAny (model X.prog X.w) X.A (f v u) Q X.xe s2):
 wpAny (model X.prog X.w) X.A (eval a X.env) (λv s₁=>wpAny (model X.prog X.w) X.A (eval b X.env) (λu s₂=>wpAny (model X.prog X.w) X.A (f v u) Q X.xe s₂) X.xe s₁) X.xe s:=by
 refine A8 (ha pins s σ H _ I h) λv s1 ⟨x,H1,I1,r1,q1⟩=>?_
 refine A8 (hb pins s1 σ H1 _ I1 q1) λu s2 ⟨y,H2,I2,r2,q2⟩=>?_
 exact hf v u s2 x y H2 I2 r1 r2 q2
theorem AR {op:Operator}{r:R2}(ho:C9 X (binaryOp op) r)(ha:PE X a ta)(hb:PE X b tb):PE X (.BinOp a op b pos) (Ut r ta tb):=by
 intro pins s σ H Q I h;exact wpAny_BinOp (Rw ha hb I h λv u s2 x y H2 I2 rx ry q=>ho pins s2 σ H2 x y v u Q I2 rx ry q)
theorem Cq {op:UnaryOp}{r:V->Hp->VK->Prop}(ho:VJ X (unaryOp op) r)(ha:PE X a ta):PE X (.UnaryOp op a pos) (Vy r ta):=by
 intro pins s σ H Q I h;exact UnaryOp_ (A8 (ha pins s σ H _ I h) λv s1 ⟨x,H1,I1,r1,q1⟩=>ho pins s1 σ H1 x v Q I1 r1 q1)
theorem Uu {f:Value->Value->Sem Value}{C:Int->Int->Prop}{g:Int->Int->Int}
 (rule:∀(i j:Int) (t u:Tok) (s:Shared) (Q:Value->Shared->Prop) (E:Value->Shared->Prop),C i j->Q (.int (g i j) s.toks) { s with toks:=s.toks+1 }->wpAny (model X.prog X.w) X.A (f (.int i t) (.int j u)) Q E s):
 C9 X f (rI C λi j=>.int (g i j)):=by
 intro pins s σ H x y v u Q I rx ry h;obtain⟨i,j,rfl,rfl,hc,q⟩:=h;obtain⟨t,rfl⟩:=rx;obtain⟨t',rfl⟩:=ry;exact rule i j t t' s _ _ hc ⟨.int (g i j),H,I.tok _,⟨_,rfl⟩,q⟩
theorem T7 {f:Value->Value->Sem Value}{g:Int->Int->Int}
 (rule:∀(i j:Int) (t u:Tok) (s:Shared) (Q:Value->Shared->Prop) (E:Value->Shared->Prop),Q (.int (g i j) s.toks) { s with toks:=s.toks+1 }->wpAny (model X.prog X.w) X.A (f (.int i t) (.int j u)) Q E s):
 C9 X f (RL λi j=>.int (g i j)):=by
 intro pins s σ H x y v u Q I rx ry h;obtain⟨i,j,rfl,rfl,q⟩:=h;obtain⟨t,rfl⟩:=rx;obtain⟨t',rfl⟩:=ry;exact rule i j t t' s _ _ ⟨.int (g i j),H,I.tok _,⟨_,rfl⟩,q⟩
theorem QO {f:Value->Value->Sem Value}{g:Int->Int->Bool}
 (rule:∀(i j:Int) (t u:Tok) (s:Shared) (Q:Value->Shared->Prop) (E:Value->Shared->Prop),Q (.bool (g i j)) s->wpAny (model X.prog X.w) X.A (f (.int i t) (.int j u)) Q E s):
 C9 X f (RL λi j=>.bl (g i j)):=by
 intro pins s σ H x y v u Q I rx ry h;obtain⟨i,j,rfl,rfl,q⟩:=h;obtain⟨t,rfl⟩:=rx;obtain⟨t',rfl⟩:=ry;exact rule i j t t' s _ _ ⟨.bl (g i j),H,I,rfl,q⟩
def VL (i j:Int):Prop:=0 < j/\j < 1073741824
def VM (i j:Int):Prop:=0<=j/\j<=1000000/\i.natAbs < 2 ^ 64
def Rx (i j:Int):Prop:=(-(2 ^ 64) < i/\i < 2 ^ 64)\/(-(2 ^ 64) < j/\j < 2 ^ 64)
theorem Rx.ok {i j:Int}(h:Rx i j):IntMulOk i j:=by
 rcases h with⟨h1,h2⟩|⟨h1,h2⟩
 ·exact .of_left (intBits_le_64 h1 h2)
 ·exact .of_right (intBits_le_64 h1 h2)
theorem BB:C9 X (binaryOp .Add) (RL λi j=>.int (i+j)):=T7 λ_ _ _ _ _ _ _ q=>add_int q
theorem DR:C9 X (binaryOp .Sub) (RL λi j=>.int (i - j)):=T7 λ_ _ _ _ _ _ _ q=>sub_int q
theorem Cm:C9 X (binaryOp .Mult) (rI Rx λi j=>.int (i*j)):=Uu λ_ _ _ _ _ _ _ hc q=>mul_int q hc.ok
theorem MA:C9 X (binaryOp .FloorDiv) (rI VL λi j=>.int (i / j)):=Uu λi j _ _ _ _ _ hc q=>by
 have h1:(0:Int) < j:=hc.1;have h2:j < 1073741824:=hc.2;exact floordiv_int (by omega) (by rw[Int.fdiv_eq_ediv_of_nonneg i (by omega)];exact q) (.inl (PyProof.noPylong_small (by omega)))
theorem CI:C9 X (binaryOp .Mod) (rI (λ_ j=>0 < j) λi j=>.int (i % j)):=Uu λi j _ _ _ _ _ hc q=>by
 have h1:(0:Int) < j:=hc;exact mod_int' (by omega) (by rw[Int.fmod_eq_emod_of_nonneg i (by omega)];exact q)
theorem Ry:C9 X (binaryOp .Pow) (rI VM λi j=>.int (i ^ j.toNat)):=Uu λ_ _ _ _ _ _ _ hc q=>pow_int_small hc.1 hc.2.1 hc.2.2 q
theorem Vz {f:Value->Sem Value}{g:Int->Int}
 (rule:∀(i:Int) (t:Tok) (s:Shared) (Q:Value->Shared->Prop) (E:Value->Shared->Prop),Q (.int (g i) s.toks) { s with toks:=s.toks+1 }->wpAny (model X.prog X.w) X.A (f (.int i t)) Q E s):
 VJ X f (rU λi=>.int (g i)):=by
 intro pins s σ H x v Q I rx h;obtain⟨i,rfl,q⟩:=h;obtain⟨t,rfl⟩:=rx;exact rule i t s _ _ ⟨.int (g i),H,I.tok _,⟨_,rfl⟩,q⟩
theorem Bz:VJ X (unaryOp .USub) (rU λi=>.int (-i)):=Vz λ_ _ _ _ _ q=>neg_int q
end
def T8:V->V->Bool
 |.BK,.BK=>true|.BK,.int _=>true|.int _,.BK=>true|.BK,.bl _=>true|.bl _,.BK=>true|.BK,.str _=>true|.str _,.BK=>true
 |.int _,.int _=>true|.bl _,.bl _=>true|.str _,.str _=>true|.byt _,.byt _=>true
 |.int _,.str _=>true|.str _,.int _=>true|.bl _,.str _=>true|.str _,.bl _=>true
 |_,_=>false
def V0:R2:=λx y H Q=>T8 x y=true/\Q (.bl (decide (x=y))) H
def V1:R2:=λx y H Q=>T8 x y=true/\Q (.bl (!decide (x=y))) H
theorem MB {i j:Int}:decide (V.int i=V.int j)=(i==j):=by
 rw[Bool.eq_iff_iff];simp
theorem OL {i j:Bool}:decide (V.bl i=V.bl j)=(i==j):=by
 rw[Bool.eq_iff_iff];simp
theorem MC {i j:Str}:decide (V.str i=V.str j)=(i==j):=by
 rw[Bool.eq_iff_iff];simp
theorem MD {i j:Array UInt8}:decide (V.byt i=V.byt j)=(i.toList==j.toList):=by
 rw[Bool.eq_iff_iff];cases i;cases j;simp
section
variable {X:Cx}{a b c:Expr}{ta tb tc:TE}{pos:Pos}
theorem Ag {pins:List (Addr×Obj)}{σ:St}{H:Hp}{s:Shared}{Q:VK}{k k':Bool}(I:Inv X pins σ H s)(q:Q (.bl k) H)(e:k=k'):EP X pins σ Q (.bool k') s:=by
 subst e;exact⟨.bl k,H,I,rfl,q⟩
theorem Fs:C9 X (compareOp .Eq) V0:=by
 intro pins s σ H x y v u Q I rx ry h;obtain⟨hs,q⟩:=h;cases x with
 |BK=>
  cases rx;cases y with
  |BK=>cases ry;exact PySem.EqNone.eq_none_none (Ag I q (by simp))
  |bl j=>cases ry;exact PySem.EqNone.eq_none_bool (Ag I q (by simp))
  |int j=>obtain⟨t',rfl⟩:=ry;exact PySem.EqNone.eq_none_int (Ag I q (by simp))
  |str j=>obtain⟨t',rfl⟩:=ry;exact PySem.EqNone.eq_none_str (Ag I q (by simp))
  |_=>exact absurd (show false=true from hs) Bool.false_ne_true
 |bl i=>
  cases rx;cases y with
  |BK=>cases ry;exact PySem.EqNone.eq_bool_none (Ag I q (by simp))
  |bl j=>cases ry;exact eq_bool (Ag I q OL)
  |str j=>obtain⟨t',rfl⟩:=ry;exact PySem.EqMixed.eq_bool_str (Ag I q (by simp))
  |_=>exact absurd (show false=true from hs) Bool.false_ne_true
 |int i=>
  obtain⟨t,rfl⟩:=rx;cases y with
  |BK=>cases ry;exact PySem.EqNone.eq_int_none (Ag I q (by simp))
  |int j=>obtain⟨t',rfl⟩:=ry;exact eq_int (Ag I q MB)
  |str j=>obtain⟨t',rfl⟩:=ry;exact PySem.EqMixed.eq_int_str (Ag I q (by simp))
  |_=>exact absurd (show false=true from hs) Bool.false_ne_true
 |str i=>
  obtain⟨t,rfl⟩:=rx;cases y with
  |BK=>cases ry;exact PySem.EqNone.eq_str_none (Ag I q (by simp))
  |bl j=>cases ry;exact PySem.EqMixed.eq_str_bool (Ag I q (by simp))
  |int j=>obtain⟨t',rfl⟩:=ry;exact PySem.EqMixed.eq_str_int (Ag I q (by simp))
  |str j=>obtain⟨t',rfl⟩:=ry;exact eq_str (Ag I q MC)
  |_=>exact absurd (show false=true from hs) Bool.false_ne_true
 |byt i=>
  obtain⟨t,rfl⟩:=rx;cases y with
  |byt j=>obtain⟨t',rfl⟩:=ry;exact PySem.W.eq_bytes (Ag I q MD)
  |_=>exact absurd (show false=true from hs) Bool.false_ne_true
 |_=>cases y<;>exact absurd (show false=true from hs) Bool.false_ne_true
theorem Cr:C9 X (compareOp .NotEq) V1:=by
 intro pins s σ H x y v u Q I rx ry h;obtain⟨hs,q⟩:=h;cases x with
 |BK=>
  cases rx;cases y with
  |BK=>cases ry;exact PySem.EqNone.ne_none_none (Ag I q (by simp))
  |bl j=>cases ry;exact PySem.EqNone.ne_none_bool (Ag I q (by simp))
  |int j=>obtain⟨t',rfl⟩:=ry;exact PySem.EqNone.ne_none_int (Ag I q (by simp))
  |str j=>obtain⟨t',rfl⟩:=ry;exact PySem.EqNone.ne_none_str (Ag I q (by simp))
  |_=>exact absurd (show false=true from hs) Bool.false_ne_true
 |bl i=>
  cases rx;cases y with
  |BK=>cases ry;exact PySem.EqNone.ne_bool_none (Ag I q (by simp))
  |bl j=>cases ry;exact ne_bool (Ag I q (congrArg not OL))
  |str j=>obtain⟨t',rfl⟩:=ry;exact PySem.EqMixed.ne_bool_str (Ag I q (by simp))
  |_=>exact absurd (show false=true from hs) Bool.false_ne_true
 |int i=>
  obtain⟨t,rfl⟩:=rx;cases y with
  |BK=>cases ry;exact PySem.EqNone.ne_int_none (Ag I q (by simp))
  |int j=>obtain⟨t',rfl⟩:=ry;exact ne_int (Ag I q (congrArg not MB))
  |str j=>obtain⟨t',rfl⟩:=ry;exact PySem.EqMixed.ne_int_str (Ag I q (by simp))
  |_=>exact absurd (show false=true from hs) Bool.false_ne_true
 |str i=>
  obtain⟨t,rfl⟩:=rx;cases y with
  |BK=>cases ry;exact PySem.EqNone.ne_str_none (Ag I q (by simp))
  |bl j=>cases ry;exact PySem.EqMixed.ne_str_bool (Ag I q (by simp))
  |int j=>obtain⟨t',rfl⟩:=ry;exact PySem.EqMixed.ne_str_int (Ag I q (by simp))
  |str j=>obtain⟨t',rfl⟩:=ry;exact ne_str (Ag I q (congrArg not MC))
  |_=>exact absurd (show false=true from hs) Bool.false_ne_true
 |byt i=>
  obtain⟨t,rfl⟩:=rx;cases y with
  |byt j=>obtain⟨t',rfl⟩:=ry;exact PySem.W.ne_bytes (Ag I q (congrArg not MD))
  |_=>exact absurd (show false=true from hs) Bool.false_ne_true
 |_=>cases y<;>exact absurd (show false=true from hs) Bool.false_ne_true
theorem ME:C9 X (compareOp .Lt) (RL λi j=>.bl (decide (i < j))):=QO λ_ _ _ _ _ _ _ q=>lt_int q
theorem OM:C9 X (compareOp .LtE) (RL λi j=>.bl (decide (i<=j))):=QO λ_ _ _ _ _ _ _ q=>le_int q
theorem Hv:C9 X (compareOp .Gt) (RL λi j=>.bl (decide (j < i))):=QO λ_ _ _ _ _ _ _ q=>gt_int q
theorem RM:C9 X (compareOp .GtE) (RL λi j=>.bl (decide (j<=i))):=QO λ_ _ _ _ _ _ _ q=>ge_int q
theorem ND:C9 X (compareOp .Lt) (λx y H Q=>∃i j,x=.str i/\y=.str j/\Q (.bl (decide (i.cps.toList < j.cps.toList))) H):=by
 intro pins s σ H x y v u Q I rx ry h;obtain⟨i,j,rfl,rfl,q⟩:=h;obtain⟨t,rfl⟩:=rx;obtain⟨t',rfl⟩:=ry;exact lt_str (Ag I q rfl)
theorem NF:C9 X (compareOp .In) (λx y H Q=>∃i j,x=.str i/\y=.str j/\Q (.bl (!(Builtin.Str.occurrences j i 0 j.length 1).isEmpty)) H):=by
 intro pins s σ H x y v u Q I rx ry h;obtain⟨i,j,rfl,rfl,q⟩:=h;obtain⟨t,rfl⟩:=rx;obtain⟨t',rfl⟩:=ry;exact in_str (Ag I q rfl)
theorem Rz:C9 X (compareOp .Is) (λx y H Q=>y=.BK/\Q (.bl (decide (x=.BK))) H):=by
 intro pins s σ H x y v u Q I rx ry h;obtain⟨rfl,q⟩:=h;cases ry;refine is_none_gen (Ag I q ?_)
 cases x<;>first
  |(cases rx;rfl)
  |(obtain⟨t,rfl⟩:=rx;rfl)
theorem Ae (b:Expr){op:CmpOp}(h:op≠.In:=by decide)(h2:op≠.NotIn:=by decide):behindInMarks op b=false:=by
 have e1:(op==CmpOp.In)=false:=by cases op<;>first|rfl|exact absurd rfl h
 have e2:(op==CmpOp.NotIn)=false:=by cases op<;>first|rfl|exact absurd rfl h2
 cases b<;>simp[behindInMarks,e1,e2]
theorem Ca {op:CmpOp}{r:R2}(ho:C9 X (compareOp op) r)(ha:PE X a ta)(hb:PE X b tb)(hm:behindInMarks op b=false):PE X (.Compare a [op] [b] pos) (Ut r ta tb):=by
 intro pins s σ H Q I h;exact wpAny_Compare1 (Rw ha hb I h λv u s2 x y H2 I2 rx ry q=>ho pins s2 σ H2 x y v u Q I2 rx ry q) hm
def RN (t:TE):TT:=λσ H Q=>t σ H λx H'=>∃k,x=.bl k/\Q k H'
theorem Aa {op:CmpOp}{r:R2}(ho:C9 X (compareOp op) r)(ha:PE X a ta)(hb:PE X b tb)(hm:behindInMarks op b=false):PT X (.Compare a [op] [b] pos) (RN (Ut r ta tb)):=by
 intro pins s σ H Q I h
 refine wpAny_isTrue_Compare1 (A8 (ha pins s σ H _ I h) λv s1 ⟨x,H1,I1,r1,q1⟩=>A8 (hb pins s1 σ H1 _ I1 q1) λu s2 ⟨y,H2,I2,r2,q2⟩=>
  A8 (ho pins s2 σ H2 x y v u _ I2 r1 r2 q2) λc s3 ⟨z,H3,I3,r3,k,e,q3⟩=>?_) hm
 subst e;cases r3;exact wpAny_truthy_bool ⟨H3,I3,q3⟩
def ON (r r':R2)(ta tb tc:TE):TE:=λσ H Q=>ta σ H λx H1=>tb σ H1 λy H2=>r x y H2 λz H3=>∃k,z=.bl k/\
 (if k=true then tc σ H3 λw' H4=>r' y w' H4 Q else Q (.bl false) H3)
theorem OO {op op':CmpOp}{r r':R2}(ho:C9 X (compareOp op) r)(ho':C9 X (compareOp op') r')(ha:PE X a ta)(hb:PE X b tb)(hc:PE X c tc)
 (hm:lastMarks [op,op'] [b,c]=false:=by with_unfolding_all rfl):PE X (.Compare a [op,op'] [b,c] pos) (ON r r' ta tb tc):=by
 intro pins s σ H Q I h
 refine Compare_chain (A8 (ha pins s σ H _ I h) λv s1 ⟨x,H1,I1,r1,q1⟩=>chain_link (A8 (hb pins s1 σ H1 _ I1 q1) λu s2 ⟨y,H2,I2,r2,q2⟩=>
  A8 (ho pins s2 σ H2 x y v u _ I2 r1 r2 q2) λd s3 ⟨z,H3,I3,r3,k,e,q3⟩=>?_)) hm
 subst e;cases r3;refine wpAny_truthy_bool ?_
 cases k with
 |false=>exact ite_ff ⟨.bl false,H3,I3,rfl,q3⟩
 |true=>exact ite_tt (chain_last (A8 (hc pins s3 σ H3 _ I3 q3) λw' s4 ⟨z',H4,I4,r4,q4⟩=>ho' pins s4 σ H4 y z' u w' Q I4 r2 r4 q4))
theorem OP {op op':CmpOp}{r r':R2}(ho:C9 X (compareOp op) r)(ho':C9 X (compareOp op') r')(ha:PE X a ta)(hb:PE X b tb)(hc:PE X c tc)
 (hm:lastMarks [op,op'] [b,c]=false:=by with_unfolding_all rfl):PT X (.Compare a [op,op'] [b,c] pos) (RN (ON r r' ta tb tc)):=by
 intro pins s σ H Q I h
 refine isTrue_chain (A8 (ha pins s σ H _ I h) λv s1 ⟨x,H1,I1,r1,q1⟩=>test_link (A8 (hb pins s1 σ H1 _ I1 q1) λu s2 ⟨y,H2,I2,r2,q2⟩=>
  A8 (ho pins s2 σ H2 x y v u _ I2 r1 r2 q2) λd s3 ⟨z,H3,I3,r3,k,e,q3⟩=>?_)) hm
 subst e;cases r3;refine wpAny_truthy_bool ?_
 cases k with
 |false=>
  obtain⟨k',e',q'⟩:=q3;cases e';exact ite_ff ⟨H3,I3,q'⟩
 |true=>
  refine ite_tt (test_last (A8 (hc pins s3 σ H3 _ I3 q3) λw' s4 ⟨z',H4,I4,r4,q4⟩=>A8 (ho' pins s4 σ H4 y z' u w' _ I4 r2 r4 q4) λd' s5 ⟨z2,H5,I5,r5,k2,e2,q5⟩=>?_))
  subst e2;cases r5;exact wpAny_truthy_bool ⟨H5,I5,q5⟩
theorem FN:(sizeLine:Nat) < 2 ^ 63:=by rw[sizeLine_eq];decide
theorem Ax:C9 X (binaryOp .Add) (λx y H Q=>∃i j,x=.str i/\y=.str j/\i.length+j.length<=sizeLine/\Q (.str (i++j)) H):=by
 intro pins s σ H x y v u Q I rx ry h;obtain⟨i,j,rfl,rfl,hz,q⟩:=h;obtain⟨t,rfl⟩:=rx;obtain⟨t',rfl⟩:=ry;exact add_str (λt' tk=>⟨.str (i++j),H,I.tok _,⟨_,rfl⟩,q⟩) hz
theorem vals1 {x:V}{us:List Value}(r:Vals [x] us):∃u,us=[u]/\RelV x u:=by
 cases r with
 |cons r1 r2=>cases r2;exact⟨_,rfl,r1⟩
theorem vals2 {x y:V}{us:List Value}(r:Vals [x,y] us):∃u w',us=[u,w']/\RelV x u/\RelV y w':=by
 cases r with
 |cons r1 r2=>
  cases r2 with
  |cons r3 r4=>cases r4;exact⟨_,_,rfl,r1,r3⟩
theorem Dt (hc:X.calm=true):Be X (.builtin "max") (λxs H Q=>∃i j,xs=[.int i,.int j]/\Q (.int (if j > i then j else i)) H):=by
 intro pins s σ H xs us Q I r h;obtain⟨i,j,rfl,q⟩:=h;obtain⟨u,w',rfl,⟨t,rfl⟩,⟨t',rfl⟩⟩:=vals2 r;refine max_two_ints (I.ok.hd hc) λh' tk k=>⟨_,H,I.kept k,?_,q⟩
 by_cases hj:j > i
 ·rw[if_pos hj,if_pos hj];exact⟨_,rfl⟩
 ·rw[if_neg hj,if_neg hj];exact⟨_,rfl⟩
theorem NG (hc:X.calm=true):Be X (.builtin "min") (λxs H Q=>∃i j,xs=[.int i,.int j]/\Q (.int (if j < i then j else i)) H):=by
 intro pins s σ H xs us Q I r h;obtain⟨i,j,rfl,q⟩:=h;obtain⟨u,w',rfl,⟨t,rfl⟩,⟨t',rfl⟩⟩:=vals2 r;refine min_two_ints (I.ok.hd hc) λh' tk k=>⟨_,H,I.kept k,?_,q⟩
 by_cases hj:j < i
 ·rw[if_pos hj,if_pos hj];exact⟨_,rfl⟩
 ·rw[if_neg hj,if_neg hj];exact⟨_,rfl⟩
theorem B0:Be X (.type "int") (λxs H Q=>(∃i,xs=[.int i]/\Q (.int i) H)\/∃k,xs=[.bl k]/\Q (.int (if k then 1 else 0)) H):=by
 intro pins s σ H xs us Q I r h
 rcases h with⟨i,rfl,q⟩|⟨k,rfl,q⟩
 ·obtain⟨u,rfl,t,rfl⟩:=vals1 r
  exact call_int_int ⟨.int i,H,I,⟨_,rfl⟩,q⟩
 ·obtain⟨u,rfl,r1⟩:=vals1 r
  cases r1;exact call_int_bool ⟨.int (if k then 1 else 0),H,I.tok _,⟨_,rfl⟩,q⟩
end
end L2
namespace L2
open PySem PySem.Spec PyProof.Rows
structure R0 (h:Heap)(x dx C:Addr)(mA:Str->Option Value):Prop where
 obj:h.get? x=some (PySem.W.instObj C dx)
 ns:h.Ns1 dx mA
 ne:dx≠x
theorem NH {h:Heap}{dx:Addr}{mA:Str->Option Value}(n:h.Ns1 dx mA):∃od,h.get? dx=some od/\∀name,PySem.W.lookIn name od=some (mA name):=by
 obtain⟨o,es,ep,ho,hd,hk,_,hm⟩:=n;refine⟨o,ho,λname=>?_⟩
 have e:=hm name;unfold nsFind findBy at e;rw[<-Array.find?_toList]at e
 unfold PySem.W.lookIn;rw[hd]
 dsimp only
 split
 ·rename_i y q
  rw[q]at e;exact congrArg some e
 ·rename_i q
  rw[q]at e
  have a:es.toList.any (·.refKey)=false:=by
   rw[List.any_eq_false];intro y hy;obtain⟨z,t,hkey⟩:=hk y (Array.mem_toList_iff.mp hy);simp[DictEntry.refKey,hkey]
  have a':¬es.toList.any (·.refKey)=true:=by rw[a];exact Bool.false_ne_true
  rw[if_neg a'];exact congrArg some e
theorem R0.look {h:Heap}{x dx C:Addr}{mA:Str->Option Value}(I:R0 h x dx C mA):∃od,PySem.W.InstAt h x (PySem.W.instObj C dx) C (some od)/\∀name,PySem.W.lookIn name od=some (mA name):=
 let⟨od,ho,hl⟩:=NH I.ns
 ⟨od,⟨I.obj,rfl,rfl,ho⟩,hl⟩
section
variable {prog:Program}{w:World}{A:Around}{E:Value->Shared->Prop}{s:Shared}{K:PySem.W.Frag}{x dx C f:Addr}{mA:Str->Option Value}{name:Str}{v:Value}
end
section
variable {P:Program}{w:World}{H H':Hp}{h h':Heap}{a C dx:Addr}{fs fs':List (Str×V)}
theorem QP (hok:DO P w H h)(e:H a=some (.ins C dx fs)):∃mA,R0 h a dx C mA/\(∀f,Ij (fs.lookup f) (mA f))/\PySem.Within mA (fs.map (·.1))/\fs.length<=1000/\H dx=some (.own a):=by
 obtain⟨d,z,ne,ob,mA,n,r,q⟩:=(show Am P w H h a (.ins C dx fs)from hok a _ e)
 exact⟨mA,⟨ob,n,ne⟩,r,q,z,d⟩
end
structure VN (K:PySem.W.Frag)(C:Addr):Prop where
 pg:PySem.W.plainGet K C Str.empty=true
 hd:PySem.W.hasDictIn K C=true
 po:PySem.W.plainOver K C=true
 sa:PySem.W.findIn K (.ref C) "__setattr__"=some (some (.builtin "object.__setattr__"))
theorem VN.get {K:PySem.W.Frag}{C:Addr}(c:VN K C)(f:Str):PySem.W.plainGet K C f=true:=c.pg
section
variable {X:Cx}{pins:List (Addr×Obj)}{σ:St}{H:Hp}{s:Shared}{a C dx:Addr}{fs:List (Str×V)}{f:Str}{v:V}{A:Around}{E:Value->Shared->Prop}
end
section
variable {X:Cx}{o e value:Expr}{f:Str}{pos pos' tpos:Pos}{ta tv:TE}
end
section
variable {X:Cx}{pins:List (Addr×Obj)}{σ:St}{H:Hp}{s:Shared}{A:Around}{E:Value->Shared->Prop}{Q:Value->Shared->Prop}{c:Value}{b:Bool}
inductive DS (K:PySem.W.Frag)(H:Hp):V->Value->Prop where
 |BK:DS K H .BK (.type "NoneType")
 |bl (x:Bool):DS K H (.bl x) (.type "bool")
 |int (i:Int):DS K H (.int i) (.type "int")
 |str (x:Str):DS K H (.str x) (.type "str")
 |flt (x:UInt64):DS K H (.flt x) (.type "float")
 |lst {a:Addr} {xs:List V} (e:H a=some (.lst xs)):DS K H (.ref a) (.type "list")
 |frz {a:Addr} {o:Obj} {xs:List V} (e:H a=some (.frz o (.lst xs))):DS K H (.ref a) (.type "list")
 |tup {a:Addr} {xs:List V} (e:H a=some (.tup xs)):DS K H (.ref a) (.type "tuple")
 |dK {a:Addr} {kvs:List (Key×V)} (e:H a=some (.dK kvs)):DS K H (.ref a) (.type "dict")
 |dT {a:Addr} {kvs:List (List Key×V)} (e:H a=some (.dT kvs)):DS K H (.ref a) (.type "dict")
 |ins {a C dx:Addr} {fs:List (Str×V)} (e:H a=some (.ins C dx fs)) (cl:VN K C) (ha:PySem.W.findIn K (.ref C) "__class__"=some (some (.builtin "object.__class__")))
  (hn:PySem.W.specialIn K (.builtin "object.__class__") "__get__"=some (some (.builtin "getset_descriptor.__get__"))) (htk:PySem.W.takesIn K (.builtin "object.__class__")=some true)
  (hm:PySem.W.mroIn K C (.type "object")=some true):DS K H (.ref a) (.ref C)
theorem NI {x:V}{u t:Value}(I:Inv X pins σ H s)(rx:RelV x u)(ty:DS X.K H x t)(e:PySem.W.kitOne X.K t c=some b)(h:∀tk,Q (.bool b) { s with toks:=tk }):
 wpAny (model X.prog X.w) A (call (.builtin "isinstance") [u,c]) Q E s:=by
 cases ty with
 |BK=>cases(show u=Value.none from rx);exact PySem.W.kia_one PySem.W.kitx_none I.GJ True.intro e (λz=>nomatch z) h
 |bl y=>cases(show u=Value.bool y from rx);exact PySem.W.kia_one PySem.W.kitx_bool I.GJ True.intro e (λz=>nomatch z) h
 |int i=>obtain⟨t,q⟩:=(show∃t,u=Value.int i t from rx);cases q;exact PySem.W.kia_one PySem.W.kitx_int I.GJ True.intro e (λz=>nomatch z) h
 |str y=>obtain⟨t,q⟩:=(show∃t,u=Value.str y t from rx);cases q;exact PySem.W.kia_one PySem.W.kitx_str I.GJ True.intro e (λz=>nomatch z) h
 |flt y=>obtain⟨t,q⟩:=(show∃t,u=Value.float y t from rx);cases q;exact PySem.W.kia_one PySem.W.kitx_float I.GJ True.intro e (λz=>nomatch z) h
 |@lst a xs ea=>
  cases(show u=Value.ref a from rx)
  obtain⟨_,_,n,_,h1⟩:=(show Am X.prog X.w H s.heap a (.lst xs)from I.hok a _ ea)
  exact PySem.W.kia_one PySem.W.kitx_list I.GJ ⟨_,h1,rfl⟩ e (λz=>nomatch z) h
 |@frz a ob xs ea=>
  cases(show u=Value.ref a from rx)
  obtain⟨_,_,_,n,_,h1⟩:=(show Am X.prog X.w H s.heap a (.frz ob (.lst xs))from I.hok a _ ea)
  exact PySem.W.kia_one PySem.W.kitx_list I.GJ ⟨_,h1,rfl⟩ e (λz=>nomatch z) h
 |@tup a xs ea=>
  cases(show u=Value.ref a from rx)
  obtain⟨_,_,_,p⟩:=(show Am X.prog X.w H s.heap a (.tup xs)from I.hok a _ ea)
  obtain⟨o,h1,h2,_⟩:=p;exact PySem.W.kia_one PySem.W.kitx_tuple I.GJ ⟨o,h1,h2⟩ e (λz=>nomatch z) h
 |@dK a kvs ea=>
  cases(show u=Value.ref a from rx)
  obtain⟨_,_,vs,_,p⟩:=(show Am X.prog X.w H s.heap a (.dK kvs)from I.hok a _ ea)
  obtain⟨o,es,ep,h1,h2,_⟩:=p;exact PySem.W.kia_one PySem.W.kitx_dict I.GJ ⟨o,h1,h2.1⟩ e (λz=>nomatch z) h
 |@dT a kvs ea=>
  cases(show u=Value.ref a from rx)
  obtain⟨_,_,xs,_,o,es,ep,h1,h2,_⟩:=(show Am X.prog X.w H s.heap a (.dT kvs)from I.hok a _ ea)
  exact PySem.W.kia_one PySem.W.kitx_dict I.GJ ⟨o,h1,h2.1⟩ e (λz=>nomatch z) h
 |@ins a C dx fs ea cl ha hn htk hm=>
  cases(show u=Value.ref a from rx)
  obtain⟨mA,O,_⟩:=QP I.hok ea;obtain⟨od,J,_⟩:=O.look;exact PySem.W.kia_one (PySem.W.kitx_own (cl.get _) cl.hd ha hn htk hm) I.GJ J e (λz=>nomatch z) h
end
end L2
namespace L2
open PySem PySem.Spec PyProof.Rows
structure Bx (k:Nat)(A:Around):Prop where
 hd:A.handled=none
 dp:A.depth+3*k+5 < recursionLimit
 un:A.units+16*k+200 < cLine
 gd:A.guards=some []
theorem Bx.mono {j k:Nat}{A:Around}(r:Bx k A)(h:j<=k):Bx j A:=⟨r.hd,by have:=r.dp;omega,by have:=r.un;omega,by first|exact r.gd|(simpa[Around.under,Code.isGuard,guardIds]using r.gd)⟩
theorem Bx.deeper {k:Nat}{A:Around}(r:Bx (k+1) A)(env:Env):Bx k (A.deeper env):=
 ⟨r.hd,by have:=r.dp;show A.depth+1+3*k+5 < _;omega,by have:=r.un;show A.units+3+16*k+200 < _;omega,by first|exact r.gd|(simpa[Around.under,Code.isGuard,guardIds]using r.gd)⟩
theorem Bx.depth {k:Nat}{A:Around}(r:Bx k A):A.depth < recursionLimit:=by have:=r.dp;omega
theorem Bx.units {k:Nat}{A:Around}(r:Bx k A):A.units+64 < cLine:=by have:=r.un;omega
theorem Bx.R1 {k:Nat}{A:Around}(r:Bx k A):A.units < cLine:=by have:=r.un;omega
def NJ:TA:=λ_ H Q=>Q [] H
def OQ (ta:TE)(tr:TA):TA:=λσ H Q=>ta σ H λx H1=>tr σ H1 λxs H2=>Q (x::xs) H2
section
variable {X:Cx}{e:Expr}{es:List Expr}{te:TE}{t:TA}{pos:Pos}
theorem AB:PA X [] NJ:=λ_ _ _ _ H Q I h=>Calls.spliced_nil ⟨[],H,I,.nil,h⟩
theorem AA (ha:PE X e te)(hr:PA X es t)(hs:starEach (e::es) X.env=(false,eval e X.env)::starEach es X.env:=by rfl):PA X (e::es) (OQ te t):=by
 intro pos pins s σ H Q I h;rw[hs];show wpAny _ _ (spliced ((false,eval e X.env)::backTo pos (starEach es X.env))) _ _ s;refine Calls.spliced_cons (A8 (ha pins s σ H _ I h) λu s1 ⟨x,H1,I1,r1,q1⟩=>?_)
 exact A8 (hr pos pins s1 σ H1 _ I1 q1) λus s2 ⟨xs,H2,I2,r2,q2⟩=>⟨x::xs,H2,I2,.cons r1 r2,q2⟩
def VO (t:TA):TE:=λσ H Q=>t σ H λxs H1=>xs.length<=sizeLine/\∀p,H1 p=none->Q (.ref p) (upd H1 p (.tup xs))
def VP (t:TA):TE:=λσ H Q=>t σ H λxs H1=>xs.length<=sizeLine/\∀p,H1 p=none->Q (.ref p) (upd H1 p (.lst xs))
theorem An {x1}(h:PA X es t):PE X (.Tuple es x1 pos) (VO t):=by
 intro pins s σ H Q I hq;refine wpAny_Tuple_spliced (A8 (h pos pins s σ H _ I hq) λus s1 ⟨xs,H1,I1,r,z,q⟩=>⟨by rw[<-r.length];exact z,?_⟩)
 have hf:H1 s1.heap.objs.size=none:=I1.hok.fresh (Nat.le_refl _);refine⟨.ref s1.heap.objs.size,upd H1 s1.heap.objs.size (.tup xs),I1.laid (t':=s1.toks) (λb u e=>Heap.get?_push_of_some _ e) (Nat.le_refl _) ?_,rfl,q _ hf⟩
 exact⟨⟨z,_,Heap.get?_push_size _ rfl,rfl⟩,us,r,⟨_,Heap.get?_push_size _ rfl,rfl,_,rfl⟩⟩
theorem Ar (h:PA X es t):PE X (.List es pos) (VP t):=by
 intro pins s σ H Q I hq;refine wpAny_List_spliced (A8 (h pos pins s σ H _ I hq) λus s1 ⟨xs,H1,I1,r,z,q⟩=>⟨by rw[<-r.length];exact z,?_⟩)
 have hf:H1 s1.heap.objs.size=none:=I1.hok.fresh (Nat.le_refl _);refine⟨.ref s1.heap.objs.size,upd H1 s1.heap.objs.size (.lst xs),I1.laid (t':=s1.toks) (λb u e=>Heap.get?_push_of_some _ e) (Nat.le_refl _) ?_,rfl,q _ hf⟩
 exact⟨z,us,0,r,Heap.get?_push_size _ rfl⟩
end
abbrev Sp:=List V->Hp->VK->XK->Prop
abbrev LF:=List Env->Hp->Shared->XK->Value->Shared->Prop
structure QQ (P:Program)(w:World)(K:PySem.W.Frag)(mg:Str->Option Value)(base:Heap)(A:Around)(outer:List Env)(s:Shared)(H:Hp):Prop where
 frames:A.frames=some outer
 mod:Mod K mg base
 bs:∀b o,base.get? b=some o->s.heap.get? b=some o/\H b=none
 bsz:base.objs.size<=s.heap.objs.size
 ED:s.heap.FunFrames base outer
 frf:∀b∈Ej outer,H b=none
 hok:DO P w H s.heap
 bare:AllBare s.gens
def CE (outer:List Env)(P:Program)(w:World)(H:Hp)(s:Shared)(Q:VK)(u:Value)(s':Shared):Prop:=
 ∃v H',s'.os=s.os/\AllBare s'.gens/\Un (Ej outer) [] H H' s.heap s'.heap/\DO P w H' s'.heap/\RelV v u/\Q v H'
def CR (CX:LF)(outer:List Env)(P:Program)(w:World)(H:Hp)(s:Shared)(Q:VK)(E:XK)(r:Result)(s':Shared):Prop:=
 match r with
 |.ok (.ret u)=>CE outer P w H s Q u s'
 |.ok _=>False
 |.error e=>CX outer H s E e s'
structure ET (P:Program)(w:World)(K:PySem.W.Frag)(mg:Str->Option Value)(base:Heap)(CX:LF)(k:Nat)(f:Addr)(fd:FuncData)(ps:List Str)(sp:Sp):Prop where
 len:∀vs H Q E,sp vs H Q E->vs.length=ps.length
 run:∀(A:Around) (outer:List Env) (s:Shared) (H:Hp) (args:Args) (us:List Value) (vs:List V) (Q:VK) (E:XK),Bx k A->QQ P w K mg base A outer s H->BindsTo s fd args (ps.zip us)->Vals vs us->sp vs H Q E->
  codeAny (model P w) A (.call (.ref f) args) (CR CX outer P w H s Q E) s
theorem ET.mono {P:Program}{w:World}{K:PySem.W.Frag}{mg:Str->Option Value}{base:Heap}{CX:LF}{j k:Nat}{f:Addr}{fd:FuncData}{ps:List Str}{sp:Sp}(F:ET P w K mg base CX j f fd ps sp)(h:j<=k):
 ET P w K mg base CX k f fd ps sp:=⟨F.len,λA outer s H args us vs Q E hr=>F.run A outer s H args us vs Q E (hr.mono h)⟩
section
variable {X:Cx}{pins:List (Addr×Obj)}{σ:St}{H:Hp}{s s':Shared}
theorem Inv.R3 (I:Inv X pins σ H s):QQ X.prog X.w X.K X.mg X.base X.A X.stack s H:=
 ⟨I.ok.frames,I.ok.mod,I.bs,Nat.le_trans I.ok.bsz I.sz,I.stack,I.Il,I.hok,I.bare⟩
theorem Inv.after {Q:VK}{u:Value}(I:Inv X pins σ H s)(h:CE X.stack X.prog X.w H s Q u s'):EP X pins σ Q u s':=by
 obtain⟨v,H',os,bare,un,hok,r,q⟩:=h;obtain⟨hh,g,d,t,os'⟩:=s';obtain rfl:os'=s.os:=os;exact⟨v,H',I.call (h':=hh) (g':=g) (d':=d) (t':=t) (ch:=[]) un hok bare (λb z=>absurd z (by simp)),r,q⟩
end
def MF (sp:Sp)(dvs:List V)(E:XK)(t:TA):TE:=λσ H Q=>t σ H λvs H1=>sp (vs++dvs) H1 Q E
def Binds (K:PySem.W.Frag)(fd:FuncData)(ps:List Str)(ds:List Value):Prop:=
 ∀(s:Shared) (us:List Value),K.In s.heap->(us++ds).length=ps.length->BindsTo s fd ⟨us,[]⟩ (ps.zip (us++ds))
theorem Binds.all {K:PySem.W.Frag}{fd:FuncData}{ps:List Str}(h:∀us:List Value,us.length=ps.length->bindArgs fd ⟨us,[]⟩=pure (ps.zip us)):Binds K fd ps []:=λs us _ hl=>by
 rw[List.append_nil]at hl ⊢;exact .of_eq (h us hl)
def Passes (CX:LF)(X:Cx)(E:XK):Prop:=∀(pins:List (Addr×Obj)) (σ:St) (H:Hp) (s:Shared) (e:Value) (s':Shared),Inv X pins σ H s->CX X.stack H s E e s'->X.xe e s'
section
variable {X:Cx}{CX:LF}{k:Nat}{f C:Addr}{fd:FuncData}{ps:List Str}{sp:Sp}{dvs:List V}{ds:List Value}{E:XK}{x m:Str}{p pos apos:Pos}{e o:Expr}{es:List Expr}{ta:TE}{t:TA}
theorem R4 {pins:List (Addr×Obj)}{σ:St}{H:Hp}{s:Shared}{Q:VK}{us:List Value}{vs:List V}(F:ET X.prog X.w X.K X.mg X.base CX k f fd ps sp)(hr:Bx k X.A)(hb:Binds X.K fd ps ds)(hd:Vals dvs ds)(hx:Passes CX X E)
 (I:Inv X pins σ H s)(r:Vals vs us)(h:sp (vs++dvs) H Q E):wpAny (model X.prog X.w) X.A (call (.ref f) us) (EP X pins σ Q) X.xe s:=by
 have r2:Vals (vs++dvs) (us++ds):=r.append hd;have hl:(us++ds).length=ps.length:=by rw[<-r2.length];exact F.len _ _ _ _ h
 refine wpAny_call (codeAny_mono (F.run X.A X.stack s H ⟨us,[]⟩ (us++ds) (vs++dvs) Q E hr I.R3 (hb s us I.GJ hl) r2 h) λr s' hq=>?_)
 cases r with
 |error e=>exact hx pins σ H s e s' I hq
 |ok fl=>
  cases fl with
  |ret u=>exact I.after hq
  |next=>exact False.elim hq
  |brk=>exact False.elim hq
  |cont=>exact False.elim hq
theorem MG (F:ET X.prog X.w X.K X.mg X.base CX k f fd ps sp)(hr:Bx k X.A)(hg:Gl X x)(hm:X.mg x=some (.ref f))(hk:PySem.W.keepIn X.K (.ref f)=true)(hb:Binds X.K fd ps ds)(hd:Vals dvs ds)(hx:Passes CX X E)
 (ha:PA X (e::es) t)(hdb:(x==("__debug__":Str))=false:=by decide)(he:starEach (e::es) X.env=(false,eval e X.env)::starEach es X.env:=by rfl)(hpl:(backTo pos (starEach es X.env)).any (·.1)=false:=by rfl):
 PE X (.Call (.Name x p) (e::es) [] pos) (MF sp dvs E t):=by
 intro pins s σ H Q I h;refine wpAny_Call_Name_kw (El I hg hm ?_ hdb)
 refine PySem.W.callWith_K (h₀:=X.base) I.ok.mod.kin hk (A8 (ha pos pins s σ H _ I h) λus s1 ⟨vs,H1,I1,r,q⟩=>⟨I1.GJ,?_⟩) he hpl
 exact R4 F hr hb hd hx I1 r q
end
section
variable {X:Cx}{CX:LF}{k:Nat}{f C:Addr}{fd:FuncData}{ps ks:List Str}{sp:Sp}{E:XK}{x m:Str}{p pos apos kpos:Pos}{e o:Expr}{es:List Expr}{kws:List Keyword}{te ta:TE}{t tk:TA}{nm:Option Str}
variable {g:List Value->List Value->List Value}{gV:List V->List V->List V}
end
structure AV (N P:List Str)(sc:Scope):Prop where
 kind:sc.kind=.function
 co:sc.isCoroutine=false
 gen:sc.isGenerator=false
 nd:N.Nodup
 pre:N.take P.length=P
 par:∀x∈P,sc.names.lookup x=some .local\/sc.names.lookup x=some .cell
 nofree:∀y∈sc.names,y.2≠.free
theorem Hw {kindOf:Str->Option NameKind}{x:Str}:∀{binds:List (Str×Value)} {m:Str->Option Value},(∀v,(x,v)∉binds)->bindL kindOf binds m x=m x
 |[],_,_=>rfl
 |(n,v)::r,m,h=>by
  unfold bindL;rw[Hw λw hw=>h w (List.mem_cons_of_mem _ hw)]
  split
  ·have:x≠n:=by rintro rfl;exact h v List.mem_cons_self
   simp[this]
  ·rfl
theorem Hx {kindOf:Str->Option NameKind}{x:Str}:∀{binds:List (Str×Value)} {m:Str->Option Value},(∀v,(x,v)∉binds)->bindC kindOf binds m x=m x
 |[],_,_=>rfl
 |(n,v)::r,m,h=>by
  unfold bindC;rw[Hx λw hw=>h w (List.mem_cons_of_mem _ hw)]
  split
  ·rfl
  ·have:x≠n:=by rintro rfl;exact h v List.mem_cons_self
   simp[this]
theorem Hy {kindOf:Str->Option NameKind}{x:Str}{v:Value}:∀{P:List Str} {vs:List Value} {i:Nat} {m:Str->Option Value},P.Nodup->P[i]?=some x->vs[i]?=some v->kindOf x=some .local->
 bindL kindOf (P.zip vs) m x=some v
 |[],_,_,_,_,h,_,_=>by simp at h
 |_::_,[],_,_,_,_,h,_=>by simp at h
 |p::P,w::vs,0,m,nd,h1,h2,hk=>by
  simp at h1 h2;subst h1;subst h2;show bindL kindOf ((p,w)::P.zip vs) m p=_;unfold bindL;rw[Hw λv hv=>(List.nodup_cons.mp nd).1 (List.of_mem_zip hv).1,if_pos hk]
  simp
 |p::P,w::vs,i+1,m,nd,h1,h2,hk=>by
  show bindL kindOf ((p,w)::P.zip vs) m x=_;unfold bindL;exact Hy (i:=i) (List.nodup_cons.mp nd).2 (by simpa using h1) (by simpa using h2) hk
theorem Hz {kindOf:Str->Option NameKind}{x:Str}{v:Value}:∀{P:List Str} {vs:List Value} {i:Nat} {m:Str->Option Value},P.Nodup->P[i]?=some x->vs[i]?=some v->kindOf x≠some .local->
 bindC kindOf (P.zip vs) m x=some v
 |[],_,_,_,_,h,_,_=>by simp at h
 |_::_,[],_,_,_,_,h,_=>by simp at h
 |p::P,w::vs,0,m,nd,h1,h2,hk=>by
  simp at h1 h2;subst h1;subst h2;show bindC kindOf ((p,w)::P.zip vs) m p=_;unfold bindC;rw[Hx λv hv=>(List.nodup_cons.mp nd).1 (List.of_mem_zip hv).1,if_neg hk]
  simp
 |p::P,w::vs,i+1,m,nd,h1,h2,hk=>by
  show bindC kindOf ((p,w)::P.zip vs) m x=_;unfold bindC;exact Hz (i:=i) (List.nodup_cons.mp nd).2 (by simpa using h1) (by simpa using h2) hk
def start (N:List Str)(vs:List V):St:=vs.map some++List.replicate (N.length - vs.length) none
def EE (CX:LF)(P:Program)(w:World)(K:PySem.W.Frag)(mg:Str->Option Value)(base:Heap)(N:List Str)(qual:Str)(scope:Scope)(f:Addr)(cd:Value)(A:Around)(outer:List Env)(s:Shared)(H:Hp)(E:XK):Cx where
 prog:=P
 w:=w
 K:=K
 mg:=mg
 base:=base
 A:=A.deeper (envOfC qual scope s.heap.objs.size f cd)
 N:=N
 s₀:=s
 H₀:=H
 env:=envOfC qual scope s.heap.objs.size f cd
 outer:=outer
 stack:=envOfC qual scope s.heap.objs.size f cd::outer
 ex:=[]
 calm:=true
 fn:=λ_=>true
 pn:=[]
 xe:=λe s'=>wpAny (model P w) (A.deeper (envOfC qual scope s.heap.objs.size f cd)) (leaving (envOfC qual scope s.heap.objs.size f cd) e) (λ_ s''=>CX outer H s E e s'') (λe' s''=>CX outer H s E e' s'') s'
theorem Ju {sc:Scope}{n:Nat}{x:Str}(h:sc.names.lookup x=some .cell):∃c,(cellsFrom n sc.names []).lookup x=some c:=by
 have q:=PySem.W.cellsFrom_some sc.names n [] (.inl h);exact Option.isSome_iff_exists.mp q
theorem NK {CX:LF}{P:Program}{w:World}{K:PySem.W.Frag}{mg:Str->Option Value}{base:Heap}{N ps:List Str}{qual:Str}{scope:Scope}{f:Addr}{cd:Value}{A:Around}{outer:List Env}{s s1:Shared}{H:Hp}{E:XK}{us:List Value}{vs:List V}
 (S:AV N ps scope)(hd:A.handled=none)(e0:QQ P w K mg base A outer s H)(hl:vs.length=ps.length)(r:Vals vs us)
 (x:InCallC s s.heap.objs.size (bindL (envOfC qual scope s.heap.objs.size f cd).kindOf (ps.zip us) λ_=>none) (cellsFrom (s.heap.objs.size+1) scope.names []) (bindC (envOfC qual scope s.heap.objs.size f cd).kindOf (ps.zip us) λ_=>none) s1):
 Inv (EE CX P w K mg base N qual scope f cd A outer s H E) [] (start N vs) H s1:=by
 have hpl:ps.length<=N.length:=by have:=congrArg List.length S.pre;rw[List.length_take]at this;omega
 obtain⟨h1,tk,rfl,hk⟩:=x.done;have noA:∀b:Addr,b∉(EE CX P w K mg base N qual scope f cd A outer s H E).ex:=λb z=>absurd (show b∈([]:List Addr)from z) (by simp)
 refine⟨⟨e0.mod,S.kind,rfl,rfl,Nat.le_refl _,λy z c h1 h2=>?_,λy hy=>?_,λy c _ h=>?_,λ_=>hd,Around.frames_deeper e0.frames,.inr ⟨rfl,rfl⟩,λb z=>absurd z (noA b),e0.bs,e0.bsz,λb _ _=>noA b,λb z=>absurd z (noA b),e0.ED,e0.frf⟩,
  rfl,e0.bare,Un.kept hk,⟨_,x.toInCall.ns,λi y v h1 h2 h3=>?_⟩,λy c h=>⟨_,x.cell y c h⟩,e0.hok.fresh (Nat.le_refl _),λy c h=>?_,λp hp=>absurd (show p∈([]:List (Addr×Obj))from hp) (by simp),e0.hok.kept hk,?_⟩
 ·exact name_of_addr x.apart (PySem.mem_of_lookup h1) (PySem.mem_of_lookup h2)
 ·have hy:scope.names.lookup y=some .cell\/scope.names.lookup y=some .free:=hy
  rcases hy with hy|hy
  ·exact Ju hy
  ·exact absurd rfl (S.nofree _ (PySem.mem_of_lookup hy))
 ·exact Nat.le_of_lt (x.above y c (PySem.mem_of_lookup h))
 ·have hi:i < vs.length:=by
   unfold start at h2
   by_cases hi:i < vs.length
   ·exact hi
   ·rw[List.getElem?_append_right (by simpa using hi)]at h2
    rw[List.getElem?_replicate]at h2
    split at h2<;>cases h2
  have ha:vs[i]?=some v:=by
   unfold start at h2;rw[List.getElem?_append_left (by simpa using hi),List.getElem?_map]at h2
   cases e:vs[i]? with
   |none=>rw[e]at h2;cases h2
   |some a=>rw[e]at h2;cases h2;rfl
  obtain⟨u,hu,rv⟩:=r.get ha
  have hp:ps[i]?=some y:=by
   rw[<-S.pre,List.getElem?_take_of_lt (by omega)];exact h1
  have ndP:ps.Nodup:=by rw[<-S.pre];exact S.nd.sublist (List.take_sublist _ _)
  refine⟨u,rv,?_⟩
  rcases S.par y (List.mem_of_getElem? hp)with k|k
  ·exact .inl ⟨k,Hy ndP hp hu k⟩
  ·obtain⟨c,e⟩:=Ju (n:=s.heap.objs.size+1) k
   refine .inr ⟨.inl k,c,e,?_⟩
   have q:=x.cell y c e;rw[Hz ndP hp hu (by show scope.names.lookup y≠_;rw[k];decide)]at q
   exact q
 ·exact e0.hok.fresh (Nat.le_of_lt (x.above y c (PySem.mem_of_lookup h)))
 ·unfold start
  show _=N.length;rw[List.length_append,List.length_map,List.length_replicate];omega
theorem RO {CX:LF}{P:Program}{w:World}{K:PySem.W.Frag}{mg:Str->Option Value}{base:Heap}{k:Nat}{f:Addr}{name qual:Str}{params:Arguments}{body:List Stmt}{scope:Scope}{dV kV doc pm cdv ct oc:Value}{an od:Option Addr}
 {osl:Array (Option Value)}{N ps:List Str}{sp:Sp}(lk:K.lookup f=some ⟨oc,od,.func (PySem.W.fnOf name qual params body scope dV kV doc pm an cdv ct),osl⟩)(hcd:PySem.W.codeIn K cdv qual=true)(S:AV N ps scope)
 (len:∀vs H Q E,sp vs H Q E->vs.length=ps.length)
 (hbody:∀(A:Around) (outer:List Env) (s:Shared) (H:Hp) (vs:List V) (Q:VK) (E:XK),Bx k (A.deeper (envOfC qual scope s.heap.objs.size f cdv))->sp vs H Q E->
  ∃t,Jr (EE CX P w K mg base N qual scope f cdv A outer s H E) body t/\t { nx:=λ_ H'=>Q .BK H',rt:=Q } (start N vs) H):
 ET P w K mg base CX (k+1) f (PySem.W.fnOf name qual params body scope dV kV doc pm an cdv ct) ps sp:=by
 refine⟨len,λA outer s H args us vs Q E hr e0 hb r hsp=>?_⟩
 have hl:=len _ _ _ _ hsp;have KX:K.In s.heap:=e0.mod.kin.keeps λb o e=>(e0.bs b o e).1
 have lim:s.heap.NoLimit:=e0.mod.nolimit.keeps λb o e=>(e0.bs b o e).1
 have hkind:∀y∈ps.zip us,scope.names.lookup y.1=some .local\/(scope.names.lookup y.1=some .cell/\((cellsFrom (s.heap.objs.size+1) scope.names []).lookup y.1).isSome=true):=λ⟨n,v⟩ hy=>by
  rcases S.par n (List.of_mem_zip hy).1 with q|q
  ·exact .inl q
  ·exact .inr ⟨q,PySem.W.cellsFrom_some _ _ _ (.inl q)⟩
 refine codeAny_call_function hr.depth (KX _ _ lk) rfl S.co S.gen rfl (PySem.W.codeRec_of KX hcd) (hb _ _ _ _ ?_)
 refine wpAny_newFunctionEnv_cells S.kind hkind λenv he s1 x=>?_
 subst he;refine⟨lim.keeps x.toInCall.keep,codeAny_func ?_⟩
 obtain⟨t,ht,hq⟩:=hbody A outer s H vs Q E (hr.deeper _) hsp;have I:Inv (EE CX P w K mg base N qual scope f cdv A outer s H E) [] (start N vs) H s1:=NK S hr.hd e0 hl r x;refine wpAny_mono (ht [] s1 (start N vs) H _ I hq) (λfl s' hs=>?_) λe s' hs=>hs
 have fin:∀{σ':St} {H':Hp} {v:V} {u:Value},Inv (EE CX P w K mg base N qual scope f cdv A outer s H E) [] σ' H' s'->RelV v u->Q v H'->CE outer P w H s Q u s':=
  λ{σ' H' v u} J rv q=>⟨v,H',J.os,J.bare,J.base,J.hok,rv,q⟩
 cases fl with
 |ret u=>
  obtain⟨v,σ',H',J,rv,q⟩:=hs;exact fin J rv q
 |next=>
  obtain⟨σ',H',J,q⟩:=hs;exact fin (v:=V.BK) (u:=Value.none) J rfl q
 |brk=>
  obtain⟨_,_,_,q⟩:=hs;exact False.elim q
 |cont=>
  obtain⟨_,_,_,q⟩:=hs;exact False.elim q
end L2
namespace L2
open PySem PySem.Spec PyProof.Rows
section
variable {X:Cx}{x:Str}{p pos:Pos}{e:Expr}{es:List Expr}{t:TA}{id T:String}{r:List V->Hp->VK->Prop}
def Vm (r:List V->Hp->VK->Prop)(t:TA):TE:=λσ H Q=>t σ H λvs H1=>r vs H1 Q
theorem AN (hc:Be X (.builtin id) r)(hg:Gl X x)(hm:X.mg x=none)(hv:bootBuiltins x=some (.builtin id))(ha:PA X (e::es) t)(hn:x≠"__name__":=by decide)(hdb:(x==("__debug__":Str))=false:=by decide)
 (he:starEach (e::es) X.env=(false,eval e X.env)::starEach es X.env:=by rfl)(hpl:(backTo pos (starEach es X.env)).any (·.1)=false:=by rfl):PE X (.Call (.Name x p) (e::es) [] pos) (Vm r t):=by
 intro pins s σ H Q I h;refine wpAny_Call_Name_kw (CS I hg hm hv ?_ hn hdb)
 exact PyProof.Rows.callWith_builtin1 (A8 (ha pos pins s σ H _ I h) λus s1 ⟨vs,H1,I1,r1,q1⟩=>hc pins s1 σ H1 vs us Q I1 r1 q1) he hpl
theorem Af (hc:Be X (.type T) r)(hg:Gl X x)(hm:X.mg x=none)(hv:bootBuiltins x=some (.type T))(ha:PA X (e::es) t)(hn:x≠"__name__":=by decide)(hdb:(x==("__debug__":Str))=false:=by decide)
 (he:starEach (e::es) X.env=(false,eval e X.env)::starEach es X.env:=by rfl)(hpl:(backTo pos (starEach es X.env)).any (·.1)=false:=by rfl):PE X (.Call (.Name x p) (e::es) [] pos) (Vm r t):=by
 intro pins s σ H Q I h;refine wpAny_Call_Name_kw (CS I hg hm hv ?_ hn hdb)
 exact PyProof.Rows.callWith_type1 (A8 (ha pos pins s σ H _ I h) λus s1 ⟨vs,H1,I1,r1,q1⟩=>hc pins s1 σ H1 vs us Q I1 r1 q1) he hpl
end
end L2
namespace HT
open PySem PyProof.Rows
section
open PySem.SeqAt
open PySem.MeetsSeq PySem.MeetsSeq2 PySem.MeetsSeq3
end
section
variable {prog:Program}{w:World}{A:Around}{E:Value->Shared->Prop}{s:Shared}
theorem QR {t b:Addr}{vs ws:List Value}{Q:Value->Shared->Prop}(ht:IsTup s.heap t vs.toArray)(hb:IsTup s.heap b ws.toArray)(hv:vs≠[])
 (h1:ws=[]->Q (.ref t) s)(h2:ws≠[]->Q (.ref s.heap.objs.size) { s with heap:=s.heap.push { cls:=.type "tuple",data:=.seq (vs++ws).toArray } })
 (hsz:vs.length+ws.length<=sizeLine):wpAny (model prog w) A (binaryOp .Add (.ref t) (.ref b)) Q E s:=by
 obtain⟨⟨cls,dd,data,sl⟩,ho,hc,n,hd⟩:=id ht;obtain⟨⟨cls2,dd2,data2,sl2⟩,ho2,hc2,n2,hd2⟩:=id hb;simp only at hc hd hc2 hd2;subst hc hd hc2 hd2;have e:vs.toArray++ws.toArray=(vs++ws).toArray:=by simp
 by_cases hw:ws=[]
 ·exact concat_meets ⟨_,ho,rfl⟩ ⟨_,ho2,rfl⟩ noFill_tuple_add seq_tuple_add PySem.F.slot_tuple_add PySem.F.entry_tuple_add (PySem.F.args_tuple_add_2 _ _)
   (tuple_addW1 t b vs.toArray ws.toArray n n2 dd dd2 sl sl2 (by simpa using hv) (by simp[hw])) ⟨ho,ho2,h1 hw⟩
 ·refine concat_meets ⟨_,ho,rfl⟩ ⟨_,ho2,rfl⟩ noFill_tuple_add seq_tuple_add PySem.F.slot_tuple_add PySem.F.entry_tuple_add (PySem.F.args_tuple_add_2 _ _)
   (tuple_addW2 t b vs.toArray ws.toArray n n2 dd dd2 sl sl2 (by simpa using hv) (by simpa using hw) (by rw[List.size_toArray,List.size_toArray];exact hsz)) ⟨ho,ho2,?_⟩
  rw[e];exact h2 hw
def As (n d:Nat):Option Int->Nat
 |none=>d
 |some v=>if v < 0 then(v+(n:Int)).toNat else min v.toNat n
theorem DT (n d:Nat):As n d none=d:=rfl
theorem Eo (n d k:Nat):As n d (some (k:Int))=min k n:=by
 show(if(k:Int) < 0 then((k:Int)+(n:Int)).toNat else min (k:Int).toNat n)=min k n
 rw[if_neg (by omega),Int.toNat_natCast]
theorem LG (n d:Nat)(hd:d<=n)(o:Option Int):As n d o<=n:=by
 cases o with
 |none=>exact hd
 |some v=>
  show(if v < 0 then(v+(n:Int)).toNat else min v.toNat n)<=n
  by_cases hv:v < 0
  ·rw[if_pos hv];omega
  ·rw[if_neg hv];exact Nat.min_le_right _ _
theorem MH (v:Int)(n d:Nat):(if v < 0 then max (v+(n:Int)) 0 else min v (n:Int))=((As n d (some v):Nat):Int):=by
 show(if v < 0 then max (v+(n:Int)) 0 else min v (n:Int))=(((if v < 0 then(v+(n:Int)).toNat else min v.toNat n):Nat):Int)
 by_cases hv:v < 0
 ·simp only[if_pos hv];omega
 ·simp only[if_neg hv];omega
theorem LH (lo hi:Option Int)(n:Nat):Builtin.Slice.sliceAdjust lo hi 1 (n:Int)=(((As n 0 lo:Nat):Int),((As n n hi:Nat):Int)):=by
 have h1:¬((1:Int) < 0):=by omega
 unfold Builtin.Slice.sliceAdjust;simp only[h1,if_false];refine Prod.ext ?_ ?_
 ·cases lo with
  |none=>rfl
  |some v=>exact MH v n 0
 ·cases hi with
  |none=>rfl
  |some v=>exact MH v n n
theorem LJ (i j:Nat):Builtin.Slice.slicePlaces (i:Int) (j:Int) 1=j - i:=by
 unfold Builtin.Slice.slicePlaces;have h1:(1:Int) > 0:=by omega
 simp only[h1,if_true,Int.ediv_one]
 split<;>omega
theorem GQ {v:Value}{o:Option Int}{Q:Option Int->Shared->Prop}(p:IsPart v o)(h:Q o s):wpAny (model prog w) A (Builtin.Slice.slicePartIndex v) Q E s:=by
 cases p with
 |none=>exact slicePart_none h
 |int i t=>exact slicePart_int h
theorem Cs {sl:Addr}{vl vu:Value}{lo hi:Option Int}{n:Nat}{Q:Int×Int×Nat->Shared->Prop}(hs:s.heap.IsSliceOf sl vl vu .none)(pl:IsPart vl lo)(pu:IsPart vu hi)
 (h:Q (((As n 0 lo:Nat):Int),1,As n n hi - As n 0 lo) s):wpAny (model prog w) A (Builtin.Slice.sliceApplied (.ref sl) (pure (n:Int))) Q E s:=by
 obtain⟨os,hos,hcs,hds⟩:=id hs;unfold Builtin.Slice.sliceApplied Builtin.Slice.sliceFields;refine wpAny_bind (wpAny_bind (wpAny_field hos hds (x:=vl) rfl (wpAny_bind (wpAny_field hos hds (x:=vu) rfl (wpAny_bind (wpAny_field hos hds (x:=.none) rfl (wpAny_pure ?_)))))))
 refine wpAny_bind (slicePart_none ?_)
 show wpAny _ _ (if((1:Int)==0)=true then _ else _) _ _ s
 rw[if_neg (by decide)]
 refine wpAny_bind (GQ pl (wpAny_bind (GQ pu (wpAny_bind (wpAny_pure ?_)))))
 show wpAny _ _ (match Builtin.Slice.sliceAdjust lo hi 1 (n:Int)with|(lo,hi)=>pure (lo,(1:Int),Builtin.Slice.slicePlaces lo hi 1)) _ _ s
 rw[LH lo hi n];show wpAny _ _ (pure (((As n 0 lo:Nat):Int),(1:Int),Builtin.Slice.slicePlaces ((As n 0 lo:Nat):Int) ((As n n hi:Nat):Int) 1)) _ _ s;rw[LJ];exact wpAny_pure h
theorem OR (xs:Array Value)(i k:Nat):((List.range k).filterMap λ(m:Nat)=>xs[((i:Int)+(m:Int)*1).toNat]?).toArray=((xs.toList.drop i).take k).toArray:=by
 have e:(λ(m:Nat)=>xs[((i:Int)+(m:Int)*1).toNat]?)=λm=>xs[i+m]?:=by
  funext m
  have:((i:Int)+(m:Int)*1).toNat=i+m:=by omega
  rw[this]
 rw[e];have:=pick_run xs i k;rw[List.filterMap_map]at this;have e2:((λx=>xs[x]?)∘λx=>i+x)=λm=>xs[i+m]?:=rfl
 rw[e2]at this;rw[this]
theorem Ep {t sl:Addr}{items:Array Value}{vl vu:Value}{lo hi:Option Int}{Q:Value->Shared->Prop}(ht:IsTup s.heap t items)(hs:s.heap.IsSliceOf sl vl vu .none)(pl:IsPart vl lo)(pu:IsPart vu hi)
 (hw:¬(As items.size 0 lo=0/\As items.size items.size hi=items.size))
 (h:Q (.ref s.heap.objs.size) { s with heap:=s.heap.push { cls:=.type "tuple",data:=.seq ((items.toList.drop (As items.size 0 lo)).take (As items.size items.size hi - As items.size 0 lo)).toArray } })
 (hsz:items.size<=sizeLine):wpAny (model prog w) A (getItem (.ref t) (.ref sl)) Q E s:=by
 have htake:sizeOk (.seq ((items.toList.drop (As items.size 0 lo)).take (As items.size items.size hi - As items.size 0 lo)).toArray):=by
  show((items.toList.drop (As items.size 0 lo)).take (As items.size items.size hi - As items.size 0 lo)).toArray.size<=sizeLine;rw[List.size_toArray,List.length_take,List.length_drop,Array.length_toList];omega
 have hj:As items.size items.size hi<=items.size:=LG _ _ (Nat.le_refl _) hi;obtain⟨os,hos,hcs,hds⟩:=id hs;have hTs:s.TypeIs (.ref sl) "slice":=⟨os,hos,hcs⟩;unfold getItem
 try with_reducible refine wpAny_holding ?_
 first|refine wpAny_bind (wpAny_pure ?_)|skip
 refine wpAny_bind (wpAny_sequenceKey ht.typeIs (by decide) ?_)
 refine wpAny_bind (wpAny_callSpecial?_slot (name:=Str.ofString "__getitem__") ht.typeIs PyProof.Rows.slot_tuple_getitem
  (wpAny_call_entry PyProof.Rows.slot_tuple_getitem ht.typeIs entry_tuple_getitem ?_ (args_tuple_getitem _ _)))
 show wpAny _ _ (Builtin.Tuple.tupleItemsOf (.ref t) >>= _) _ _ s;refine wpAny_bind (tupleItemsOf_ ht ?_)
 refine wpAny_bind (wpAny_typeOf hTs ?_)
 rw[if_pos (by decide)]
 refine wpAny_bind (Cs hs pl pu ?_)
 have hno:¬((((As items.size 0 lo:Nat):Int)==0&&(1:Int)==1&&(As items.size items.size hi - As items.size 0 lo)==items.size)=true):=by
  intro q;rw[Bool.and_eq_true,Bool.and_eq_true]at q;have q1:((As items.size 0 lo:Nat):Int)=0:=eq_of_beq q.1.1;have q2:As items.size items.size hi - As items.size 0 lo=items.size:=eq_of_beq q.2;exact hw ⟨by omega,by omega⟩
 show wpAny _ _ (if(((As items.size 0 lo:Nat):Int)==0&&(1:Int)==1&&(As items.size items.size hi - As items.size 0 lo)==items.size)=true then _ else _) _ _ s
 rw[if_neg hno,OR]
 first
  |exact wpAny_bind (m:=Builtin.Tuple.tupleExact _) (wpAny_newObj_type (wpAny_pure ⟨_,rfl,wpAny_pure h⟩) htake)
  |exact wpAny_bind (m:=Builtin.Tuple.tupleExact _) (wpAny_newObj_type (wpAny_bind (wpAny_pure (wpAny_pure ⟨_,rfl,wpAny_pure h⟩))) htake)
  |exact wpAny_bind (wpAny_bind (m:=Builtin.Tuple.tupleExact _) (wpAny_newObj_type (wpAny_pure (wpAny_pure ⟨_,rfl,wpAny_pure h⟩)) htake))
  |exact wpAny_bind (wpAny_bind (m:=Builtin.Tuple.tupleExact _) (wpAny_newObj_type (wpAny_pure ⟨_,rfl,wpAny_pure h⟩) htake))
end
end HT
namespace L2
open PySem PySem.Spec PyProof.Rows
abbrev TO:=St->Hp->(Option Int->Hp->Prop)->Prop
def PO (X:Cx)(e:Option Expr)(t:TO):Prop:=
 ∀(pins:List (Addr×Obj)) (s:Shared) (σ:St) (H:Hp) (Q:Option Int->Hp->Prop),Inv X pins σ H s->t σ H Q->
  wpAny (model X.prog X.w) X.A (evalPart e X.env) (λu s'=>∃o H',Inv X pins σ H' s'/\IsPart u o/\Q o H') X.xe s
def QS:TO:=λ_ H Q=>Q none H
def T9 (t:TE):TO:=λσ H Q=>t σ H λx H1=>∃i,x=.int i/\Q (some i) H1
section
variable {X:Cx}{e:Expr}{te:TE}{lo hi:Option Expr}{tl th:TO}{pos p2:Pos}
theorem Bg:PO X none QS:=by
 intro pins s σ H Q I h;rw[evalPart_none];exact wpAny_pure ⟨none,H,I,.none,h⟩
theorem Ba (h:PE X e te):PO X (some e) (T9 te):=by
 intro pins s σ H Q I hw;rw[evalPart_some];refine A8 (h pins s σ H _ I hw) λu s1 ⟨x,H1,I1,r1,q1⟩=>?_
 obtain⟨i,rfl,q⟩:=q1;obtain⟨t,rfl⟩:=r1;exact⟨some i,H1,I1,.int i t,q⟩
def Tf (X:Cx)(r:V->Option Int->Option Int->Hp->VK->Prop):Prop:=
 ∀(pins:List (Addr×Obj)) (s:Shared) (σ:St) (H:Hp) (x:V) (v vl vu:Value) (lo hi:Option Int) (sl:Addr) (Q:VK),Inv X pins σ H s->RelV x v->s.heap.IsSliceOf sl vl vu .none->IsPart vl lo->IsPart vu hi->r x lo hi H Q->
  ∃T id,typeLookup (.type T) "__getitem__"=pure (some (.builtin id))/\s.TypeIs v T/\wpAny (model X.prog X.w) X.A (getItem v (.ref sl)) (EP X pins σ Q) X.xe s
def V2 (r:V->Option Int->Option Int->Hp->VK->Prop)(te:TE)(tl th:TO):TE:=λσ H Q=>te σ H λx H1=>tl σ H1 λl H2=>th σ H2 λu H3=>r x l u H3 Q
theorem BN {r:V->Option Int->Option Int->Hp->VK->Prop}(hr:Tf X r)(he:PE X e te)(hl:PO X lo tl)(hu:PO X hi th):PE X (.Subscript e (.Slice lo hi none p2) pos) (V2 r te tl th):=by
 intro pins s σ H Q I h;refine Subscript_ (A8 (he pins s σ H _ I h) λv s1 ⟨x,H1,I1,r1,q1⟩=>?_)
 refine wpAny_Slice (A8 (hl pins s1 σ H1 _ I1 q1) λvl s2 ⟨l,H2,I2,pl,q2⟩=>A8 (hu pins s2 σ H2 _ I2 q2) λvu s3 ⟨u,H3,I3,pu,q3⟩=>?_)
 rw[evalPart_none];refine wpAny_pure ?_
 have I4:Inv X pins σ H3 { s3 with heap:=s3.heap.push { cls:=.type "slice",data:=.fields #[vl,vu,.none] } }:=I3.kept (t':=s3.toks) λb ob q=>Heap.get?_push_of_some _ q
 obtain⟨T,id,hT,ht,hg⟩:=hr pins { s3 with heap:=s3.heap.push { cls:=.type "slice",data:=.fields #[vl,vu,.none] } } σ H3 x v vl vu l u s3.heap.objs.size Q I4 r1 (Heap.IsSliceOf.new ..) pl pu q3
 show wpAny (model X.prog X.w) X.A (subscriptTail e (.Slice lo hi none p2) v (.ref s3.heap.objs.size)) (EP X pins σ Q) X.xe { s3 with heap:=s3.heap.push { cls:=.type "slice",data:=.fields #[vl,vu,.none] } }
 exact tail_any (ops:=[.ref s3.heap.objs.size,v]) ht hT hg (by with_unfolding_all rfl)
def CY (xs:List V)(lo hi:Option Int):List V:=(xs.drop (HT.As xs.length 0 lo)).take (HT.As xs.length xs.length hi - HT.As xs.length 0 lo)
theorem Ft (xs:List V)(lo hi:Option Int):(CY xs lo hi).length<=xs.length:=by
 unfold CY;rw[List.length_take,List.length_drop];omega
def VQ (K:PySem.W.Frag):V->Option Int->Option Int->Hp->VK->Prop:=λx lo hi H Q=>∃a xs,x=.ref a/\BM K H a xs/\
 ¬(HT.As xs.length 0 lo=0/\HT.As xs.length xs.length hi=xs.length)/\∀p,H p=none->Q (.ref p) (upd H p (.tup (CY xs lo hi)))
theorem OS:Tf X (VQ X.K):=by
 intro pins s σ H x v vl vu lo hi sl Q I rx hs pl pu h;obtain⟨a,xs,rfl,hx,hw,q⟩:=h;cases rx;obtain⟨its,r,ht,hz⟩:=I.tuple hx;have hlen:its.toArray.size=xs.length:=by rw[List.size_toArray];exact r.length.symm
 refine⟨"tuple",_,PyProof.Rows.slot_tuple_getitem.lookup,ht.typeIs,?_⟩
 refine HT.Ep ht hs pl pu (by rw[hlen];exact hw) ?_ (by rw[hlen];exact hz)
 rw[hlen];refine⟨.ref s.heap.objs.size,_,I.laid (t':=s.toks) (o:=.tup (CY xs lo hi)) (λb ob q=>Heap.get?_push_of_some _ q) (Nat.le_refl _) ?_,rfl,q _ (I.hok.fresh (Nat.le_refl _))⟩
 exact⟨⟨Nat.le_trans (Ft xs lo hi) hz,_,Heap.get?_push_size _ rfl,rfl⟩,_,(r.drop (HT.As xs.length 0 lo)).take (HT.As xs.length xs.length hi - HT.As xs.length 0 lo),IsTup.new _ _⟩
def UA (K:PySem.W.Frag):R2:=λx y H Q=>∃a b xs ys,x=.ref a/\y=.ref b/\BM K H a xs/\BM K H b ys/\xs≠[]/\xs.length+ys.length<=sizeLine/\
 (ys=[]->Q (.ref a) H)/\(ys≠[]->∀p,H p=none->Q (.ref p) (upd H p (.tup (xs++ys))))
theorem Vals.F8 {xs:List V}{us:List Value}(r:Vals xs us):us=[]↔xs=[]:=by
 cases r with
 |nil=>simp
 |cons _ _=>simp
theorem QT:C9 X (binaryOp .Add) (UA X.K):=by
 intro pins s σ H x y v u Q I rx ry h;obtain⟨a,b,xs,ys,rfl,rfl,ha,hb,hx,hz,q1,q2⟩:=h;cases rx;cases ry;obtain⟨its,r1,p1,_⟩:=I.tuple ha;obtain⟨its2,r2,p2,_⟩:=I.tuple hb;refine HT.QR p1 p2 (λz=>hx (r1.F8.mp z)) (λz=>⟨.ref a,H,I,rfl,q1 (r2.F8.mp z)⟩) (λz=>?_) (by rw[<-r1.length,<-r2.length];exact hz)
 refine⟨.ref s.heap.objs.size,_,I.laid (t':=s.toks) (o:=.tup (xs++ys)) (λb ob q=>Heap.get?_push_of_some _ q) (Nat.le_refl _) ?_,rfl,q2 (λw=>z (r2.F8.mpr w)) _ (I.hok.fresh (Nat.le_refl _))⟩
 exact⟨⟨by rw[List.length_append];exact hz,_,Heap.get?_push_size _ rfl,rfl⟩,_,r1.append r2,IsTup.new _ _⟩
end
end L2
namespace L2
open PySem PySem.Spec PyProof.Rows
def RP (n:Nat)(i:Int):Option Nat:=if 0<=i then(if i < n then some i.toNat else none)else if -(n:Int)<=i then some (i+n).toNat else none
def Du {α:Type}(xs:List α)(i:Int):Option α:=(RP xs.length i).bind λj=>xs[j]?
theorem MI {n:Nat}{i:Int}{j:Nat}(h:RP n i=some j):seqIndex? i n=some j/\j < n/\-(n:Int)<=i/\i < n:=by
 unfold RP at h
 by_cases h0:0<=i
 ·rw[if_pos h0]at h
  by_cases h1:i < n
  ·rw[if_pos h1]at h
   have e:i.toNat=j:=Option.some.inj h;exact⟨by rw[seqIndex_of h0 h1,e],by omega,by omega,h1⟩
  ·rw[if_neg h1]at h;cases h
 ·rw[if_neg h0]at h
  by_cases h1:-(n:Int)<=i
  ·rw[if_pos h1]at h
   have e:(i+n).toNat=j:=Option.some.inj h;exact⟨by rw[seqIndex_neg (by omega) h1,e],by omega,h1,by omega⟩
  ·rw[if_neg h1]at h;cases h
theorem Ip {α:Type}{xs:List α}{i:Int}{v:α}(h:Du xs i=some v):∃j,seqIndex? i xs.length=some j/\xs[j]?=some v/\j < xs.length/\-(xs.length:Int)<=i/\i < xs.length:=by
 unfold Du at h;cases e:RP xs.length i with
 |none=>rw[e]at h;cases h
 |some j=>
  rw[e]at h;obtain⟨h1,h2,h3,h4⟩:=MI e;exact⟨j,h1,h,h2,h3,h4⟩
theorem BH {α:Type}{xs:List α}{j:Nat}{v:α}(h:xs[j]?=some v):Du xs (j:Int)=some v:=by
 have hj:j < xs.length:=(List.getElem?_eq_some_iff.mp h).1
 have e:RP xs.length (j:Int)=some j:=by
  unfold RP;rw[if_pos (by omega),if_pos (by omega)];simp
 unfold Du;rw[e];exact h
def QU (b:Expr):Prop:=∀o i,subscripted b false o i=operate [o,i] (getItem o i)
def Tg (X:Cx)(r:R2):Prop:=
 ∀(value slice:Expr) (pins:List (Addr×Obj)) (s:Shared) (σ:St) (H:Hp) (x y:V) (v u:Value) (Q:VK),Inv X pins σ H s->RelV x v->RelV y u->r x y H Q->
  subscripted slice false v u=operate [v,u] (getItem v u)->wpAny (model X.prog X.w) X.A (subscriptTail value slice v u) (EP X pins σ Q) X.xe s
def VR (X:Cx)(id:String)(r:V->List V->Hp->VK->Prop):Prop:=
 ∀(pins:List (Addr×Obj)) (s:Shared) (σ:St) (H:Hp) (x:V) (xs:List V) (v:Value) (us:List Value) (Q:VK),Inv X pins σ H s->RelV x v->Vals xs us->r x xs H Q->
  wpAny (model X.prog X.w) X.A (call (.builtin id) (v::us)) (EP X pins σ Q) X.xe s
section
variable {X:Cx}{a b:Expr}{ta tb:TE}{pos:Pos}
theorem AU {r:R2}(hr:Tg X r)(ha:PE X a ta)(hb:PE X b tb)(hs:QU b):PE X (.Subscript a b pos) (Ut r ta tb):=by
 intro pins s σ H Q I h;exact Subscript_ (Rw ha hb I h λv u s2 x y H2 I2 rx ry q=>hr a b pins s2 σ H2 x y v u Q I2 rx ry q (hs _ _))
def UB (K:PySem.W.Frag):R2:=λx y H Q=>∃p xs i v,x=.ref p/\y=.int i/\Ah K H p xs/\Du xs i=some v/\Q v H
def UC (K:PySem.W.Frag):R2:=λx y H Q=>∃p xs i v,x=.ref p/\y=.int i/\BM K H p xs/\Du xs i=some v/\Q v H
def VS:R2:=λx y H Q=>∃z i c,x=.str z/\y=.int i/\z.length<=sizeLine/\Du z.cps.toList i=some c/\Q (.str ⟨#[c]⟩) H
theorem Av:Tg X (UB X.K):=by
 intro value slice pins s σ H x y v u Q I rx ry h hs;obtain⟨p,xs,i,z,rfl,rfl,hq,he,q⟩:=h;cases rx;obtain⟨t,rfl⟩:=ry;obtain⟨its,r,pl,hz⟩:=I.list hq;obtain⟨j,h1,h2,h3,h4,h5⟩:=Ip he;obtain⟨w,ew,rw'⟩:=r.get h2;have hl:=r.length;have hn:=FN;have fin:EP X pins σ Q w s:=⟨z,H,I,rw',q⟩
 by_cases h0:0<=i
 ·have hj:i.toNat=j:=by
   rw[seqIndex_of h0 h5]at h1;exact Option.some.inj h1
  exact item_listR pl.isList h0 (by omega) (by rw[hj];simpa using ew) fin hs
 ·have hj:(i+(its.toArray.size:Int)).toNat=j:=by
   rw[seqIndex_neg (by omega) h4]at h1
   rw[List.size_toArray,<-hl];exact Option.some.inj h1
  exact subscriptTail_builtinR (x:=w) pl.isList.typeIs slot_list_getitem.lookup
   (wpAny_getItem_list_neg (Q:=λr s'=>r=w/\EP X pins σ Q r s') pl.isList (by omega) (by rw[List.size_toArray]<;>omega) (by omega) (by rw[hj];simpa using ew) ⟨rfl,fin⟩) hs
theorem Aj:Tg X (UC X.K):=by
 intro value slice pins s σ H x y v u Q I rx ry h hs;obtain⟨p,xs,i,z,rfl,rfl,hq,he,q⟩:=h;cases rx;obtain⟨t,rfl⟩:=ry;obtain⟨its,r,pl,hz⟩:=I.tuple hq;obtain⟨j,h1,h2,h3,h4,h5⟩:=Ip he;obtain⟨w,ew,rw'⟩:=r.get h2;have hl:=r.length;have hn:=FN;have fin:EP X pins σ Q w s:=⟨z,H,I,rw',q⟩
 exact subscriptTail_builtinR (x:=w) pl.typeIs slot_tuple_getitem.lookup
  (getItem_tuple (j:=j) (Q:=λr s'=>r=w/\EP X pins σ Q r s') pl (by omega) (by omega) (by rw[List.size_toArray,<-hl];exact h1) (by simpa using ew) ⟨rfl,fin⟩) hs
theorem Cn:Tg X VS:=by
 intro value slice pins s σ H x y v u Q I rx ry h hs;obtain⟨z,i,c,rfl,rfl,hz,he,q⟩:=h;obtain⟨t,rfl⟩:=rx;obtain⟨t',rfl⟩:=ry;obtain⟨j,h1,h2,h3,h4,h5⟩:=Ip he;have hl:z.cps.toList.length=z.length:=by simp[Str.length]
 rw[hl]at h1 h4 h5;have hn:=FN
 exact tail_any (typeIs_str s z t) slot_str_getitem.lookup (getItem_str (c:=c) (by
  have e1:decide (i < -(2 ^ 63:Int))=false:=decide_eq_false (by omega)
  have e2:decide (i≥2 ^ 63)=false:=decide_eq_false (by omega)
  rw[e1,e2,Bool.or_false]) (by rw[h1];simpa using h2) ⟨.str ⟨#[c]⟩,H,I.tok _,⟨_,rfl⟩,q⟩) hs
theorem LK (its:List Value)(n j:Nat)(u:Value):Obj.mapSeq (·.setIfInBounds j u) { cls:=.type "list",data:=.seq its.toArray n }={ cls:=.type "list",data:=.seq (its.set j u).toArray n }:=by
 simp[Obj.mapSeq]
theorem Inv.lst {pins:List (Addr×Obj)}{σ:St}{H:Hp}{s:Shared}{p:Addr}{xs:List V}(I:Inv X pins σ H s)(h:H p=some (.lst xs)):
 ∃(its:List Value) (n:Nat),Vals xs its/\s.heap.get? p=some { cls:=.type "list",data:=.seq its.toArray n }/\xs.length<=sizeLine:=by
 obtain⟨z,its,n,r,e⟩:=I.hok p _ h;exact⟨its,n,r,e,z⟩
theorem Inv.R5 {pins:List (Addr×Obj)}{σ:St}{H:Hp}{s:Shared}{p:Addr}{xs ys:List V}{its its':List Value}{n n':Nat}{f:Obj->Obj}(I:Inv X pins σ H s)(h:H p=some (.lst xs))
 (ho:s.heap.get? p=some { cls:=.type "list",data:=.seq its.toArray n })(hf:f { cls:=.type "list",data:=.seq its.toArray n }={ cls:=.type "list",data:=.seq its'.toArray n' })(r:Vals ys its')(hz:ys.length<=sizeLine)(t:Nat):
 Inv X pins σ (upd H p (.lst ys)) { s with heap:=s.heap.update p f,toks:=t }:=by
 have e:(s.heap.update p f).get? p=some { cls:=.type "list",data:=.seq its'.toArray n' }:=by
  rw[Heap.get?_update_self f ho (by rw[hf]<;>rfl),hf]
 refine I.write (x:=p) (e:=p) (by rw[h];trivial) (.inl rfl) (λb u hb q=>(Heap.get?_update_other _ _ (Ne.symm hb)).trans q) ⟨_,e⟩ ?_
 exact⟨hz,its',n',r,e⟩
def UD:V->V->V->Hp->(Hp->Prop)->Prop:=λo i v H Q=>∃p xs k j,o=.ref p/\i=.int k/\H p=some (.lst xs)/\RP xs.length k=some j/\Q (upd H p (.lst (xs.set j v)))
theorem set_list:Tz X UD:=by
 intro pins s σ H o i v ov iv u Q I ro ri rv h;obtain⟨p,xs,k,j,rfl,rfl,hp,hj,q⟩:=h;cases ro;obtain⟨t,rfl⟩:=ri;obtain⟨its,n,r,ho,hz⟩:=I.lst hp;obtain⟨h1,h2,h3,h4⟩:=MI hj;have hl:=r.length;have hn:=FN
 have I':Inv X pins σ (upd H p (.lst (xs.set j v))) { s with heap:=s.heap.update p (Obj.mapSeq (·.setIfInBounds j u)) }:=
  I.R5 hp ho (LK its n j u) (r.set rv j) (by rw[List.length_set];exact hz) s.toks
 by_cases h0:0<=k
 ·have hk:k.toNat=j:=by
   rw[seqIndex_of h0 h4]at h1;exact Option.some.inj h1
  exact PySem.W.ki_setAt ho h0 (by omega) (by rw[List.size_toArray,<-hl];exact h4) (by rw[hk];exact⟨_,I',q⟩)
 ·have hk:(k+(its.toArray.size:Int)).toNat=j:=by
   rw[seqIndex_neg (by omega) h3]at h1
   rw[List.size_toArray,<-hl];exact Option.some.inj h1
  exact PySem.W.ki_setBack ho (by omega) (by rw[List.size_toArray,<-hl];exact h3) (by omega) (by rw[hk];exact⟨_,I',q⟩)
theorem Iq (lo hi:Option Int)(n:Nat):(sliceBounds lo hi none n).1=((HT.As n 0 lo:Nat):Int)/\(sliceBounds lo hi none n).2.1=((HT.As n n hi:Nat):Int)/\(sliceBounds lo hi none n).2.2=1:=by
 refine⟨?_,?_,rfl⟩
 ·cases lo with
  |none=>simp[sliceBounds,HT.As]
  |some i=>
   simp only[sliceBounds,HT.As,Option.getD_none,show(1:Int) > 0 by decide,if_true]
   by_cases h:i < 0
   ·simp only[h,if_true]<;>omega
   ·simp only[h,if_false]<;>omega
 ·cases hi with
  |none=>simp[sliceBounds,HT.As]
  |some i=>
   simp only[sliceBounds,HT.As,Option.getD_none,show(1:Int) > 0 by decide,if_true]
   by_cases h:i < 0
   ·simp only[h,if_true]<;>omega
   ·simp only[h,if_false]<;>omega
theorem Hd (its:List Value)(lo hi:Option Int):slicePick its.toArray lo hi none=((its.drop (HT.As its.length 0 lo)).take (HT.As its.length its.length hi - HT.As its.length 0 lo)).toArray:=by
 obtain⟨h1,h2,h3⟩:=Iq lo hi its.toArray.size;unfold slicePick;rw[h1,h2,h3];simp only[sliceRange_one,pick_run,List.size_toArray]<;>rfl
def VT (K:PySem.W.Frag):V->Option Int->Option Int->Hp->VK->Prop:=λx lo hi H Q=>∃a xs,x=.ref a/\Ah K H a xs/\∀p,H p=none->Q (.ref p) (upd H p (.lst (CY xs lo hi)))
theorem MJ:Tf X (VT X.K):=by
 intro pins s σ H x v vl vu lo hi sl Q I rx hs pl pu h;obtain⟨a,xs,rfl,hx,q⟩:=h;cases rx;obtain⟨its,r,ht,hz⟩:=I.list hx;have hlen:=r.length;refine⟨"list",_,slot_list_getitem.lookup,ht.isList.typeIs,?_⟩
 refine wpAny_getItem_list_slice ht.isList hs pl pu .none (by simp) ?_ (by rw[List.size_toArray]<;>omega)
 rw[Hd,<-hlen];refine⟨.ref s.heap.objs.size,_,I.laid (t':=s.toks) (o:=.lst (CY xs lo hi)) (λb ob q=>Heap.get?_push_of_some _ q) (Nat.le_refl _) ?_,rfl,q _ (I.hok.fresh (Nat.le_refl _))⟩
 exact⟨Nat.le_trans (Ft xs lo hi) hz,_,0,(r.drop (HT.As xs.length 0 lo)).take (HT.As xs.length xs.length hi - HT.As xs.length 0 lo),Heap.get?_push_size _ rfl⟩
def Cb:V->Bool
 |.BK=>true
 |.bl _=>true
 |.int _=>true
 |.str _=>true
 |_=>false
def OT:V->V->Bool
 |.BK,.BK=>true
 |.bl a,.bl b=>a==b
 |.bl a,.int b=>(if a then 1 else 0)==b
 |.int a,.bl b=>a==(if b then 1 else 0)
 |.int a,.int b=>a==b
 |.str a,.str b=>a==b
 |_,_=>false
theorem OU {A:Around}{s:Shared}{y x:V}{u v:Value}(ry:RelV y u)(rx:RelV x v)(fy:Cb y=true)(fx:Cb x=true):SeqAt.EqAt A s u v (OT y x):=by
 cases y with
 |BK=>
  cases ry;cases x with
  |BK=>cases rx;exact SeqAt.EqAt.same _
  |bl b=>cases rx;exact SeqAt.EqAt.none_bool b
  |int b=>obtain⟨t,rfl⟩:=rx;exact SeqAt.EqAt.none_int b t
  |str b=>obtain⟨t,rfl⟩:=rx;exact SeqAt.EqAt.none_str b t
  |_=>exact absurd (show false=true from fx) Bool.false_ne_true
 |bl a=>
  cases ry;cases x with
  |BK=>cases rx;exact SeqAt.EqAt.bool_none a
  |bl b=>cases rx;exact SeqAt.EqAt.bool_bool a b
  |int b=>obtain⟨t,rfl⟩:=rx;exact SeqAt.EqAt.bool_int a b t
  |str b=>obtain⟨t,rfl⟩:=rx;exact SeqAt.EqAt.bool_str a b t
  |_=>exact absurd (show false=true from fx) Bool.false_ne_true
 |int a=>
  obtain⟨t',rfl⟩:=ry;cases x with
  |BK=>cases rx;exact SeqAt.EqAt.int_none a t'
  |bl b=>cases rx;exact SeqAt.EqAt.int_bool a t' b
  |int b=>obtain⟨t,rfl⟩:=rx;exact SeqAt.EqAt.int_int a t' b t
  |str b=>obtain⟨t,rfl⟩:=rx;exact SeqAt.EqAt.int_str a t' b t
  |_=>exact absurd (show false=true from fx) Bool.false_ne_true
 |str a=>
  obtain⟨t',rfl⟩:=ry;cases x with
  |BK=>cases rx;exact SeqAt.EqAt.str_none a t'
  |bl b=>cases rx;exact SeqAt.EqAt.str_bool a t' b
  |int b=>obtain⟨t,rfl⟩:=rx;exact SeqAt.EqAt.str_int a t' b t
  |str b=>obtain⟨t,rfl⟩:=rx;exact SeqAt.EqAt.str_str a t' b t
  |_=>exact absurd (show false=true from fx) Bool.false_ne_true
 |_=>exact absurd (show false=true from fy) Bool.false_ne_true
def Jv (x:V)(u:Value):Bool:=match u with
 |.none=>OT .BK x
 |.bool b=>OT (.bl b) x
 |.int i _=>OT (.int i) x
 |.str z _=>OT (.str z) x
 |_=>false
theorem OV {x y:V}{u:Value}(r:RelV y u)(f:Cb y=true):Jv x u=OT y x:=by
 cases y with
 |BK=>cases r;rfl
 |bl b=>cases r;rfl
 |int i=>obtain⟨t,rfl⟩:=r;rfl
 |str z=>obtain⟨t,rfl⟩:=r;rfl
 |_=>exact absurd (show false=true from f) Bool.false_ne_true
theorem Er {x:V}:∀{xs:List V} {us:List Value},Vals xs us->xs.all Cb=true->us.any (Jv x)=xs.any λy=>OT y x
 |_,_,.nil,_=>rfl
 |y::xs,u::us,.cons r t,f=>by
  rw[List.all_cons,Bool.and_eq_true]at f;rw[List.any_cons,List.any_cons,OV r f.1,Er t f.2]
theorem Ct {A:Around}{s:Shared}{x:V}{v:Value}(rx:RelV x v)(fx:Cb x=true):∀{xs:List V} {us:List Value},Vals xs us->xs.all Cb=true->∀u∈us,SeqAt.EqAt A s u v (Jv x u)
 |_,_,.nil,_=>λu hu=>by cases hu
 |y::xs,u::us,.cons r t,f=>λu' hu=>by
  rw[List.all_cons,Bool.and_eq_true]at f
  rcases List.mem_cons.mp hu with rfl|hu
  ·rw[OV r f.1];exact OU r rx f.1 fx
  ·exact Ct rx fx t f.2 u' hu
def Uv (x:V)(xs:List V):Bool:=xs.any λy=>OT y x
def Vn (K:PySem.W.Frag)(neg:Bool):R2:=λx y H Q=>∃p xs,y=.ref p/\(Ah K H p xs\/BM K H p xs)/\Cb x=true/\xs.all Cb=true/\Q (.bl (if neg then !Uv x xs else Uv x xs)) H
theorem NM:C9 X (compareOp .In) (Vn X.K false):=by
 intro pins s σ H x y v u Q I rx ry h;obtain⟨p,xs,rfl,hq,fx,fs,q⟩:=h;cases ry
 rcases hq with hq|hq
 ·obtain⟨its,r,pl,hz⟩:=I.list hq
  refine SeqAt.in_listAt (Jv x) pl.isList (λw hw=>Ct rx fx r fs w (by simpa using hw)) ⟨.bl _,H,I,rfl,?_⟩
  rw[show its.toArray.any (Jv x)=its.any (Jv x) by simp,Er r fs]
  exact q
 ·obtain⟨its,r,pl,hz⟩:=I.tuple hq
  refine SeqAt.in_tupleAt (Jv x) pl (λw hw=>Ct rx fx r fs w (by simpa using hw)) ⟨.bl _,H,I,rfl,?_⟩
  rw[show its.toArray.any (Jv x)=its.any (Jv x) by simp,Er r fs]
  exact q
theorem Es:C9 X (compareOp .NotIn) (Vn X.K true):=by
 intro pins s σ H x y v u Q I rx ry h;obtain⟨p,xs,rfl,hq,fx,fs,q⟩:=h;cases ry
 rcases hq with hq|hq
 ·obtain⟨its,r,pl,hz⟩:=I.list hq
  refine SeqAt.notIn_listAt (Jv x) pl.isList (λw hw=>Ct rx fx r fs w (by simpa using hw)) ⟨.bl _,H,I,rfl,?_⟩
  rw[show its.toArray.any (Jv x)=its.any (Jv x) by simp,Er r fs]
  exact q
 ·obtain⟨its,r,pl,hz⟩:=I.tuple hq
  refine SeqAt.notIn_tupleAt (Jv x) pl (λw hw=>Ct rx fx r fs w (by simpa using hw)) ⟨.bl _,H,I,rfl,?_⟩
  rw[show its.toArray.any (Jv x)=its.any (Jv x) by simp,Er r fs]
  exact q
theorem AY:Be X (.builtin "len") (λxs H Q=>∃p ys,xs=[.ref p]/\(Ah X.K H p ys\/BM X.K H p ys)/\Q (.int ys.length) H):=by
 intro pins s σ H xs us Q I r h;obtain⟨p,ys,rfl,hq,q⟩:=h;obtain⟨u,rfl,rx⟩:=vals1 r;cases rx;have hn:=FN
 rcases hq with hq|hq
 ·obtain⟨its,r',pl,hz⟩:=I.list hq
  have hlen:=r'.length;exact Calls.call_len_list pl.isList (by simp only[List.size_toArray]<;>omega) ⟨.int ys.length,H,I.tok _,⟨s.toks+1,by rw[List.size_toArray,hlen]⟩,q⟩
 ·obtain⟨its,r',pl,hz⟩:=I.tuple hq
  have hlen:=r'.length;exact len_tuple pl (by simp only[List.size_toArray]<;>omega) ⟨.int ys.length,H,I.tok _,⟨s.toks+1,by rw[List.size_toArray,hlen]⟩,q⟩
theorem Bb:Be X (.builtin "len") (λxs H Q=>∃z,xs=[.str z]/\z.length<=sizeLine/\Q (.int z.length) H):=by
 intro pins s σ H xs us Q I r h;obtain⟨z,rfl,hz,q⟩:=h;obtain⟨u,rfl,t,rfl⟩:=vals1 r;have hn:=FN;exact len_str (by omega) ⟨.int z.length,H,I.tok _,⟨_,rfl⟩,q⟩
theorem Et:Be X (.type "list") (λxs H Q=>∃p ys,xs=[.ref p]/\(Ah X.K H p ys\/BM X.K H p ys)/\∀l,H l=none->Q (.ref l) (upd H l (.lst ys))):=by
 intro pins s σ H xs us Q I r h;obtain⟨p,ys,rfl,hq,q⟩:=h;obtain⟨u,rfl,rx⟩:=vals1 r;cases rx
 have fin:∀(its:List Value),Vals ys its->ys.length<=sizeLine->∀(h':Heap) (c':Nat),(∀b o',s.heap.get? b=some o'->h'.get? b=some o')->
  h'.get? s.heap.objs.size=some { cls:=.type "list",dict:=none,data:=.seq its.toArray c',slots:=#[] }->EP X pins σ Q (.ref s.heap.objs.size) { s with heap:=h' }:=λits r' hz h' c' kp e=>
  ⟨.ref s.heap.objs.size,_,I.laid (t':=s.toks) kp (Nat.le_refl _) (show Am X.prog X.w _ h' _ (.lst ys)from⟨hz,its,c',r',e⟩),rfl,q _ (I.hok.fresh (Nat.le_refl _))⟩
 rcases hq with hq|hq
 ·obtain⟨its,r',pl,hz⟩:=I.list hq
  have hlen:=r'.length;obtain⟨o,ho,hc,n,hd⟩:=pl.isList;exact call_list_seq p (.inl rfl) ho hc hd (λh' c' kp e=>fin its r' hz h' c' kp e) (by simp only[List.size_toArray]<;>omega)
 ·obtain⟨its,r',pl,hz⟩:=I.tuple hq
  have hlen:=r'.length;obtain⟨o,ho,hc,n,hd⟩:=pl;exact call_list_seq p (.inr rfl) ho hc hd (λh' c' kp e=>fin its r' hz h' c' kp e) (by simp only[List.size_toArray]<;>omega)
theorem B8:Be X (.type "tuple") (λxs H Q=>∃p ys,xs=[.ref p]/\((Ah X.K H p ys/\∀l,H l=none->Q (.ref l) (upd H l (.tup ys)))\/(BM X.K H p ys/\Q (.ref p) H))):=by
 intro pins s σ H xs us Q I r h;obtain⟨p,ys,rfl,h⟩:=h;obtain⟨u,rfl,rx⟩:=vals1 r;cases rx
 rcases h with⟨hq,q⟩|⟨hq,q⟩
 ·obtain⟨its,r',pl,hz⟩:=I.list hq
  have hlen:=r'.length;refine call_tuple_list pl.isList (λh' kp=>?_) (by simp only[List.size_toArray]<;>omega)
  have I1:Inv X pins σ H { s with heap:=h' }:=I.kept (t':=s.toks) kp
  have I2:Inv X pins σ (upd H h'.objs.size (.tup ys)) { s with heap:=h'.push { cls:=.type "tuple",data:=.seq its.toArray } }:=
   I1.laid (t':=s.toks) (λb o e=>Heap.get?_push_of_some _ e) (Nat.le_refl _) (show Am X.prog X.w _ _ _ (.tup ys)from⟨⟨hz,_,Heap.get?_push_size _ rfl,rfl⟩,its,r',IsTup.new _ _⟩)
  exact⟨.ref h'.objs.size,_,I2,rfl,q _ (I1.hok.fresh (Nat.le_refl _))⟩
 ·obtain⟨its,r',pl,hz⟩:=I.tuple hq
  exact call_tuple_same pl ⟨.ref p,H,I,rfl,q⟩
def Vo (K:PySem.W.Frag)(T:String)(x:V)(H:Hp):Prop:=match x with
 |.str _=>T="str"
 |.int _=>T="int"
 |.ref p=>(T="list"/\∃xs,Ah K H p xs)\/(T="tuple"/\∃o,K.lookup p=some o/\o.cls=.type "tuple"/\o.dict=none)\/
  (T="dict"/\((∃kvs,H p=some (.dK kvs))\/∃kvs,H p=some (.dT kvs)))\/(T="set"/\∃S n,H p=some (.set S n))
 |_=>False
theorem R6 {pins:List (Addr×Obj)}{σ:St}{H:Hp}{s:Shared}{T:String}{x:V}{v:Value}(I:Inv X pins σ H s)(r:RelV x v)(ty:Vo X.K T x H):
 s.TypeIs v T/\∀a,v=.ref a->∃ob,s.heap.get? a=some ob/\ob.dict=none:=by
 cases x with
 |str z=>
  obtain⟨t,rfl⟩:=r;cases(show T="str" from ty)
  exact⟨typeIs_str s z t,λ_ e=>nomatch e⟩
 |int i=>
  obtain⟨t,rfl⟩:=r;cases(show T="int" from ty)
  exact⟨typeIs_int s i t,λ_ e=>nomatch e⟩
 |ref p=>
  cases r
  rcases ty with⟨rfl,xs,hq⟩|⟨rfl,o,hk,hc,hd⟩|⟨rfl,hk⟩|⟨rfl,S,n,hk⟩
  ·obtain⟨its,_,pl,_⟩:=I.list hq
   refine⟨pl.isList.typeIs,λa e=>?_⟩
   cases e;obtain⟨o,n,e,c,hd,_⟩:=pl;exact⟨o,e,hd⟩
  ·refine⟨⟨o,I.GJ p o hk,hc⟩,λa e=>?_⟩
   cases e;exact⟨o,I.GJ _ o hk,hd⟩
  ·have z:∃o,s.heap.get? p=some o/\o.ExactDict:=by
    rcases hk with⟨kvs,hk⟩|⟨kvs,hk⟩
    ·obtain⟨_,_,_,_,o,_,_,e,ex,_⟩:=I.hok p _ hk
     exact⟨o,e,ex⟩
    ·obtain⟨_,_,_,_,o,_,_,e,ex,_⟩:=I.hok p _ hk
     exact⟨o,e,ex⟩
   obtain⟨o,e,ex⟩:=z;refine⟨⟨o,e,ex.1⟩,λa e2=>?_⟩
   cases e2;exact⟨o,e,ex.2.1⟩
  ·obtain⟨o,_,_,_,e,ex,_⟩:=I.hok p _ hk
   refine⟨⟨o,e,ex.1⟩,λa e2=>?_⟩
   cases e2;exact⟨o,e,ex.2.1⟩
 |_=>exact False.elim ty
def VU (K:PySem.W.Frag)(T:String)(r:V->List V->Hp->VK->Prop)(to:TE)(t:TA):TE:=λσ H Q=>to σ H λx H1=>Vo K T x H1/\t σ H1 λxs H2=>r x xs H2 Q
variable {o e:Expr}{es:List Expr}{to:TE}{t:TA}{name:Str}{apos cpos:Pos}{T id:String}{r:V->List V->Hp->VK->Prop}
theorem Cu (pa:PlainAttrs T)(slot:Slot T name id)(hty:typeOf (.builtin id)=pure (.type "method_descriptor"))(hm:VR X id r)(ho:PE X o to)(ha:PA X (e::es) t)
 (hbase:attributeBase o name X.env (eval o X.env)=eval o X.env:=by rfl)
 (hfew:((backTo cpos (starEach (e::es) X.env)).all (λx=>!x.1)&&(backToKw cpos (keywordEach [] X.env)).all (λx=>x.1.isSome)
  &&decide ((e::es).length+([]:List Keyword).length+(if([]:List Keyword).isEmpty then 0 else 1) < 30))=true:=by rfl)
 (hline:(apos.endLine==cpos.line)=true:=by rfl)(hs:starEach (e::es) X.env=(false,eval e X.env)::starEach es X.env:=by rfl)(hplain:(backTo cpos (starEach es X.env)).any (·.1)=false:=by rfl):
 PE X (.Call (.Attribute o name apos) (e::es) [] cpos) (VU X.K T r to t):=by
 intro pins s σ H Q I h;refine wpAny_Call_method_late hbase hfew hline rfl (A8 (ho pins s σ H _ I h) λv s1 ⟨x,H1,I1,r1,ty,q1⟩=>?_)
 obtain⟨h1,h2⟩:=R6 I1 r1 ty;refine⟨T,id,pa,slot,hty,h1,h2,?_⟩
 have hA:=ha cpos pins s1 σ H1 _ I1 q1;rw[hs]at hA ⊢;refine Calls.callWith_builtin (by show(false||(backTo cpos (starEach es X.env)).any (·.1))=false;rw[hplain]<;>rfl) (Calls.evalArgs_plain ?_)
 exact A8 hA λus s2 ⟨vs,H2,I2,r2,q2⟩=>hm pins s2 σ H2 x vs v us Q I2 r1 r2 q2
end
end L2
namespace L2
open PySem PySem.Spec PyProof.Rows
def VW (X:Cx)(id:String)(r:V->List V->Hp->VK->Prop):Prop:=
 ∀(pins:List (Addr×Obj)) (s:Shared) (σ:St) (H:Hp) (x:V) (xs:List V) (v:Value) (us:List Value) (Q:VK),Inv X pins σ H s->RelV x v->Vals xs us->r x xs H Q->
  wpAny (model X.prog X.w) X.A (call (.builtin id) (v::us)) (EP X pins σ Q) X.xe s
theorem Vals.one:∀{x:V} {us:List Value},Vals [x] us->∃u,us=[u]/\RelV x u
 |_,_,.cons r .nil=>⟨_,rfl,r⟩
section
variable {X:Cx}{pins:List (Addr×Obj)}{σ:St}{H:Hp}{s:Shared}{l b:Addr}{xs ys zs:List V}
theorem Inv.UE {its its':List Value}{n:Nat}{f:Array Value->Array Value}{t':Nat}(I:Inv X pins σ H s)(hH:H l=some (.lst xs))
 (e:s.heap.get? l=some { cls:=.type "list",data:=.seq its.toArray n })(hf:f its.toArray=its'.toArray)(hv:Vals ys its')(hz:ys.length<=sizeLine):
 Inv X pins σ (upd H l (.lst ys)) { s with heap:=s.heap.update l (Obj.mapSeq f),toks:=t' }:=by
 have q:=PySem.IsL.update e f;rw[hf]at q;refine I.write (x:=l) (e:=l) (by rw[hH];exact trivial) (.inl rfl) (λb' u hb hu=>(Heap.get?_update_other s.heap (Obj.mapSeq f) (Ne.symm hb)).trans hu) ⟨_,q⟩ ?_
 exact⟨hz,its',_,hv,q⟩
theorem Inv.UG {its:List Value}{t':Nat}(I:Inv X pins σ H s)(hv:Vals ys its)(hz:ys.length<=sizeLine):
 Inv X pins σ (upd H s.heap.objs.size (.lst ys)) { s with heap:=s.heap.push { cls:=.type "list",data:=.seq its.toArray },toks:=t' }:=
 I.laid (λ_ _ q=>Heap.get?_push_of_some _ q) (Nat.le_refl _) ⟨hz,its,0,hv,Heap.get?_push_size _ rfl⟩
theorem Inv.fresh (I:Inv X pins σ H s):H s.heap.objs.size=none:=I.hok.fresh (Nat.le_refl _)
theorem Inv.LL (I:Inv X pins σ H s)(hH:H l=some (.lst xs)):xs.length<=sizeLine/\∃(its:List Value) (n:Nat),Vals xs its/\xs.length=its.length/\s.heap.get? l=some { cls:=.type "list",data:=.seq its.toArray n }:=by
 obtain⟨z,its,n,r,e⟩:=I.hok l _ hH;exact⟨z,its,n,r,r.length,e⟩
theorem OW {n:Nat}(h:n<=sizeLine):Builtin.List.listTooLong n=false:=by
 unfold Builtin.List.listTooLong;exact decide_eq_false (by omega)
end
section
variable {X:Cx}
def QV:V->List V->Hp->VK->Prop:=λx vs H Q=>∃l xs y,x=.ref l/\vs=[y]/\H l=some (.lst xs)/\xs.length < sizeLine/\Q .BK (upd H l (.lst (xs++[y])))
theorem B1:VW X "list.append" QV:=by
 intro pins s σ H x vs v us Q I rx rv h;obtain⟨l,xs,y,rfl,rfl,hH,hz,q⟩:=h;cases rx;obtain⟨u,rfl,ru⟩:=rv.one;obtain⟨z,its,n,r,hl,e⟩:=I.LL hH;refine call_meets F.slot_list_append ⟨_,e,rfl⟩ F.entry_list_append (F.args_list_append_2 _ _) (PySem.list_append l its.toArray n u (by rw[List.size_toArray];omega)) ⟨e,?_⟩
 refine⟨.BK,_,I.UE (its':=its++[u]) hH e (by simp) (r.append (.cons ru .nil)) ?_,rfl,q⟩
 rw[List.length_append,List.length_singleton];omega
def QW:V->List V->Hp->VK->Prop:=λx vs H Q=>∃l b xs zs,x=.ref l/\vs=[.ref b]/\H l=some (.lst xs)/\H b=some (.lst zs)/\xs.length+zs.length<=sizeLine/\Q .BK (upd H l (.lst (xs++zs)))
theorem FO:VW X "list.extend" QW:=by
 intro pins s σ H x vs v us Q I rx rv h;obtain⟨l,b,xs,zs,rfl,rfl,hH,hB,hz,q⟩:=h;cases rx;obtain⟨u,rfl,ru⟩:=rv.one;cases ru;obtain⟨z,its,n,r,hl,e⟩:=I.LL hH;obtain⟨z2,its2,n2,r2,hl2,e2⟩:=I.LL hB;have hsz:its.toArray.size+its2.toArray.size<=sizeLine:=by rw[List.size_toArray,List.size_toArray];omega
 have hlong:¬(!its.toArray.isEmpty&&Builtin.List.listTooLong (its.toArray.size+its2.toArray.size))=true:=by
  rw[OW hsz,Bool.and_false];exact Bool.false_ne_true
 refine call_meets F.slot_list_extend ⟨_,e,rfl⟩ F.entry_list_extend (F.args_list_extend_2 _ _)
  (AutoSeq1.list_extend_list_list_0 l its.toArray n b its2.toArray n2 hlong (by rw[List.size_toArray];omega) (by omega)) ⟨e,e2,?_⟩
 refine⟨.BK,_,I.UE (its':=its++its2) hH e (by simp) (r.append r2) ?_,rfl,q⟩
 rw[List.length_append];omega
def VX:R2:=λx y H Q=>∃l b xs zs,x=.ref l/\y=.ref b/\H l=some (.lst xs)/\H b=some (.lst zs)/\xs.length+zs.length<=sizeLine/\∀p,H p=none->Q (.ref p) (upd H p (.lst (xs++zs)))
theorem LM:C9 X (binaryOp .Add) VX:=by
 intro pins s σ H x y v u Q I rx ry h;obtain⟨l,b,xs,zs,rfl,rfl,hH,hB,hz,q⟩:=h;cases rx;cases ry;obtain⟨z,its,n,r,hl,e⟩:=I.LL hH;obtain⟨z2,its2,n2,r2,hl2,e2⟩:=I.LL hB;refine PySem.P.add_list e e2 ?_ (by rw[List.size_toArray,List.size_toArray];omega)
 have ea:its.toArray++its2.toArray=(its++its2).toArray:=by simp
 rw[ea];exact⟨.ref _,_,I.UG (t':=s.toks) (r.append r2) (by rw[List.length_append];omega),rfl,q _ I.fresh⟩
end
section
variable {prog:Program}{w:World}{A:Around}{E:Value->Shared->Prop}{s:Shared}
end
section
variable {X:Cx}
end
end L2
namespace Att
open PySem PySem.W PySem.Calls PyProof.Rows
theorem F3 {P:Params}{h:Heap}:∀(ns:List Int) (vs:List Value),WellAll P h vs (ns.map WData.int)->IntsAre vs ns:=by
 intro ns
 induction ns with
 |nil=>
  intro vs w;rw[List.map_nil]at w;cases w;exact .nil
 |cons n ns ih=>
  intro vs w;rw[List.map_cons]at w;cases w with
  |cons a b=>
   cases a;exact .cons _ _ (ih _ b)
theorem NN {l:OpenLaw}{n:Nat}(hn:l.most=some n){P:Params}{h:Heap}{args:List WData}{vals:List Value}
 (hpre:l.row.toRowW.claim.pre args=true)(hwl:WellAll P h vals args):
 ∃a vs ns,vals=[Value.ref a]/\args=[WData.list (ns.map WData.int)]/\h.get? a=some { cls:=.type "list",data:=.seq vs.toArray }/\IntsAre vs ns/\ns.length<=n:=by
 have hsh:WShape.hasAll [] args [.list .int]=true:=(pre_splitW hpre).1;have hc:l.pre.holds [] { args:=args }=true:=(pre_splitW hpre).2;obtain⟨d,r,rfl,h1,h2⟩:=hasAllW_cons hsh;obtain rfl:=hasAllW_nil h2;obtain⟨xs,rfl,h3⟩:=hasW_list h1;obtain⟨ns,rfl⟩:=items_int h3
 have hlen:ns.length<=n:=by
  unfold OpenLaw.pre at hc
  have h4:(WTm.not (.lt (.lit (.int (n:Int))) (.len (.arg 0)))).holds [] { args:=[.list (ns.map .int)] }=true:=by
   have h4:=(holds_andW hc).1;rw[hn]at h4;exact h4
  have h5:=condW_of h4 (w_not (w_lt w_lit (w_len_list (w_arg rfl))));rw[List.length_map]at h5;refine Nat.le_of_not_lt λq=>?_
  have q':(n:Int) < ((ns.length:Nat):Int):=by omega
  first
   |(rw[decide_eq_true q']at h5;exact absurd h5 (by decide))
   |(simp at h5;omega)
 cases hwl with
 |cons w1 w2=>
  cases w2;cases w1 with
  |list ho hall=>exact⟨_,_,ns,rfl,rfl,ho,F3 ns _ hall,hlen⟩
theorem NO (l:OpenLaw)(args:List WData):l.row.toRowW.claim.post args (.bool true) args=true:=
 postW_of (r:=l.row.toRowW) (X:=(true==true))
  (show WShape.has [] (.bool true) .bool=true by first|rfl|decide|simp[WShape.has,WShape.arms,WShape.armsAll])
  (show(WTm.eq .res (.lit (.bool true))).value [] { args:=args,res:=some (.bool true),after:=args }=some (.bool (true==true))from w_eq_bool (w_res rfl) w_lit) rfl
theorem Jw {l:OpenLaw}{n:Nat}{q:Program}{loose:List Str}{XP:(Str->Option Value)->Heap->Prop}{YP:World->Heap->Prop}{d:DefRec}
 (hn:l.most=some n)(hdf:d.params.defaults=[])
 (call:∀(w:World) (s₀ s₁:Shared) (mg mb:Str->Option Value) (fa:Addr) (o:Obj) (pm cd doc:Value) (a:Addr) (vs:List Value) (ns:List Int),
  Ground q loose [] XP w s₀ mg mb s₁.heap->YP w s₁.heap->
  s₁.heap.get? fa=some o->o.data=.func (docDef d.name d.params d.body d.scope pm cd doc)->s₁.heap.CodeRec cd d.name->mg d.name=some (.ref fa)->
  s₁.heap.get? a=some { cls:=.type "list",data:=.seq vs.toArray }->IntsAre vs ns->ns.length<=n->s₁.gens=#[]->
  codeAny (model l.prog w) callerA (.call (.ref fa) ⟨[.ref a],[]⟩) (λr s'=>r=.ok (.ret (.bool true))/\OldK s₁.heap s'.heap/\s'.os=s₁.os/\AllBare s'.gens) s₁):
 WalkO q loose XP YP l.row.toRowW d [] (λf vs=>PySem.call f vs):=by
 intro w s₀ s₁ mg mb G Y fa o pm cd doc dV kV ho hd hcd hD hmg hg args vals as hpre hlay hrd hwl hlo;obtain rfl:dV=.none:=Dflts.none hD hdf;obtain rfl:kV=.none:=Dflts.noKw hD;obtain⟨a,vs,ns,rfl,rfl,hobj,hints,hlen⟩:=NN hn hpre hwl;refine enter_call (codeAny_mono (call w s₀ s₁ mg mb fa o pm cd doc a vs ns G Y ho (fd_plain hd) hcd hmg hobj hints hlen hg) λr s' hq=>?_)
 obtain⟨rfl,h2,h3,h4⟩:=hq;exact⟨.inl ⟨.bool true,.bool true,[],rfl,λ_=>rfl,.bool true,NO l _,λ_=>⟨List.Pairwise.nil,λ_ hm=>(nomatch hm)⟩⟩,h2,h3,h4⟩
section
variable {prog:Program}{w:World}{A:Around}{E:Value->Shared->Prop}{s:Shared}{K:Frag}
end
end Att
namespace L2
open PySem PySem.Spec PyProof.Rows
theorem IA:∀{vs:List Value} {ns:List Int},IntsAre vs ns->Vals (ns.map V.int) vs
 |_,_,.nil=>.nil
 |_,_,.cons n t h=>.cons ⟨t,rfl⟩ (IA h)
def QX (H:Hp):Prop:=∀b,H b=none\/∃o xs,H b=some (.frz o (.lst xs))
theorem OX {P:Program}{w:World}{K:PySem.W.Frag}{mg mb:Str->Option Value}{CX:LF}{k:Nat}{fa a:Addr}{fd:FuncData}{x:Str}{sp:Sp}{s₁:Shared}{vs:List Value}{ns:List Int}
 (KX:K.In s₁.heap)(hns:s₁.heap.Ns mainGlobals mg)(hb:s₁.heap.Ns builtinsNs mb)(hbb:∀x:Str,x≠"__name__"->mb x=bootBuiltins x)(hlim:s₁.heap.NoLimit)(hg:s₁.gens=#[])
 (ha:s₁.heap.get? a=some { cls:=.type "list",data:=.seq vs.toArray })(hi:IntsAre vs ns)(hl:ns.length<=sizeLine)(hr:Bx k callerA)
 (F:∀base:Heap,K.In base->base.Ns mainGlobals mg->ET P w K mg base CX k fa fd [x] sp)(hbind:∀(s:Shared) (u:Value),BindsTo s fd ⟨[u],[]⟩ [(x,u)])
 (hsp:∀H:Hp,QX H->Ah K H a (ns.map V.int)->sp [.ref a] H (λv _=>v=.bl true) λ_ _ _=>False)
 (hCX:∀H e s',CX [] H s₁ (λ_ _ _=>False) e s'->False):
 codeAny (model P w) callerA (.call (.ref fa) ⟨[.ref a],[]⟩) (λr s'=>r=.ok (.ret (.bool true))/\OldK s₁.heap s'.heap/\s'.os=s₁.os/\AllBare s'.gens) s₁:=by
 have rv:=IA hi;have lenV:=hi.length
 have core:∀H:Hp,QX H->Ah K H a (ns.map V.int)->DO P w H s₁.heap->(∀b,H b≠none->b=a)->(H a≠none->K.lookup a=none)->
  codeAny (model P w) callerA (.call (.ref fa) ⟨[.ref a],[]⟩) (λr s'=>r=.ok (.ret (.bool true))/\OldK s₁.heap s'.heap/\s'.os=s₁.os/\AllBare s'.gens) s₁:=by
  intro H hO hS hok hA hK;have base_of:∀{b:Addr} {o:Obj},s₁.heap.get? b=some o->H b=none->(Ik s₁.heap H).get? b=some o:=λe n=>OE e n
  have noA:∀{b:Addr} {o:Obj} {es:Array DictEntry} {ep:Nat},s₁.heap.get? b=some o->o.data=.dict es ep->H b=none:=λ{b o es ep} e d=>by
   cases q:H b with
   |none=>rfl
   |some u=>
    have e':b=a:=hA b (by rw[q];simp)
    subst e';rw[ha]at e;cases e;have d':Data.seq vs.toArray _=Data.dict es ep:=d;cases d'
  have nsK:∀{b:Addr} {m:Str->Option Value},s₁.heap.Ns b m->(Ik s₁.heap H).Ns b m:=λ{b m} ⟨o,es,ep,e,d,r⟩=>⟨o,es,ep,base_of e (noA e d),d,r⟩
  have hKb:K.In (Ik s₁.heap H):=λb o e=>base_of (KX b o e) (by
   cases q:H b with
   |none=>rfl
   |some u=>
    have e':b=a:=hA b (by rw[q];simp)
    subst e';rw[hK (by rw[q];simp)]at e;cases e)
  have hM:Mod K mg (Ik s₁.heap H):=⟨hKb,nsK hns,⟨mb,nsK hb,hbb⟩,let⟨mc,h1,h2⟩:=hlim;⟨mc,nsK h1,h2⟩⟩
  have e0:QQ P w K mg (Ik s₁.heap H) callerA [] s₁ H:=⟨rfl,hM,λb o e=>QM e,Nat.le_of_eq (M9 _ _),trivial,λb hb=>absurd (show b∈([]:List Addr)from hb) (by simp),hok,.of_eq hg⟩
  refine codeAny_mono ((F _ hKb (nsK hns)).run callerA [] s₁ H ⟨[.ref a],[]⟩ [.ref a] [.ref a] _ _ hr e0 (hbind s₁ (.ref a)) (.cons rfl .nil) (hsp H hO hS)) λr s' h=>?_
  cases r with
  |error e=>exact(hCX H e s' h).elim
  |ok fl=>
   cases fl with
   |next=>exact False.elim h
   |brk=>exact False.elim h
   |cont=>exact False.elim h
   |ret u=>
    obtain⟨v,H',os,bare,un,hok',r',q⟩:=h;have q':v=.bl true:=q;subst q';obtain rfl:u=Value.bool true:=r';refine⟨rfl,OldK.of_keep λb o e=>?_,os,bare⟩
    cases q:H b with
    |none=>exact un.keep b o e q (by intro z;exact absurd (show b∈([]:List Addr)from z) (by simp)) (by simp)
    |some u=>
     rcases hO b with z|⟨ob,xs,z⟩
     ·rw[q]at z;cases z
     ·have z2:=un.frzs b ob _ z
      obtain⟨e1,_⟩:=hok b _ z;obtain⟨e2,_⟩:=hok' b _ z2;rw[e]at e1;cases e1;exact e2
 cases hk:K.lookup a with
 |some o=>
  have e:=KX a o hk;rw[ha]at e;cases e;refine core (λ_=>none) (λ_=>.inl rfl) (.inr ⟨_,vs.toArray,_,hk,rfl,rfl,rfl,by rw[List.size_toArray,lenV];exact hl,by simpa using rv⟩) (λb u z=>by have z':(none:Option HO)=some u:=z;cases z') (λb z=>absurd rfl z) λz=>absurd rfl z
 |none=>
  refine core (λb=>if b=a then some (.frz { cls:=.type "list",data:=.seq vs.toArray } (.lst (ns.map V.int)))else none) (λb=>?_) (.inl (.inr ⟨{ cls:=.type "list",data:=.seq vs.toArray },if_pos rfl⟩)) (λb u z=>?_) (λb z=>?_) λ_=>hk
  ·by_cases hb:b=a
   ·exact .inr ⟨_,_,if_pos hb⟩
   ·exact .inl (if_neg hb)
  ·by_cases hb:b=a
   ·have z':=(if_pos hb).symm.trans z
    cases z';subst hb;exact⟨ha,by rw[List.length_map];exact hl,vs,_,rv,ha⟩
   ·have z':=(if_neg hb).symm.trans z
    cases z'
  ·by_cases hb:b=a
   ·exact hb
   ·exact absurd (if_neg hb) z
end L2
namespace L2
open PySem PySem.Spec PyProof.Rows
abbrev KOf {K:PySem.W.Frag}{h:Heap}(_:K.In h):PySem.W.Frag:=K
theorem QY {l:PySem.W.OpenLaw}{n k:Nat}{q:Program}{loose:List Str}{XP:(Str->Option Value)->Heap->Prop}{YP:World->Heap->Prop}{d:DefRec}{K:Params->PySem.W.Frag}{CX:World->LF}{sp:World->Sp}{x:Str}
 (hn:l.most=some n)(hn2:n<=sizeLine)(hdf:d.params.defaults=[])(hr:Bx k callerA)
 (hY:∀(w:World) (h:Heap),YP w h->(K w.params).In h)
 (F:∀(w:World) (mg:Str->Option Value) (fa:Addr) (h:Heap),(K w.params).In h->h.Ns mainGlobals mg->mg d.name=some (.ref fa)->
  ∃fd:FuncData,(∀(s:Shared) (u:Value),BindsTo s fd ⟨[u],[]⟩ [(x,u)])/\
   ∀base:Heap,(K w.params).In base->base.Ns mainGlobals mg->ET l.prog w (K w.params) mg base (CX w) k fa fd [x] (sp w))
 (hsp:∀(w:World) (H:Hp) (a:Addr) (ns:List Int),ns.length<=n->QX H->Ah (K w.params) H a (ns.map V.int)->sp w [.ref a] H (λv _=>v=.bl true) λ_ _ _=>False)
 (hCX:∀(w:World) (H:Hp) (s:Shared) (e:Value) (s':Shared),CX w [] H s (λ_ _ _=>False) e s'->False):
 PySem.W.WalkO q loose XP YP l.row.toRowW d [] (λf vs=>PySem.call f vs):=by
 refine Att.Jw hn hdf λw s₀ s₁ mg mb fa o pm cd doc a vs ns G Y ho hd hcd hmg hobj hints hlen hg=>?_
 have KX:=hY w _ Y;obtain⟨fd,hb,hF⟩:=F w mg fa _ KX G.T.g hmg;exact OX KX G.T.g G.T.b G.T.builtins G.T.nolimit hg hobj hints (Nat.le_trans hlen hn2) hr hF hb (λH hO hS=>hsp w H a ns hlen hO hS) λH e s'=>hCX w H s₁ e s'
theorem walk_ofK {l:PySem.W.OpenLaw}{n k:Nat}{q:Program}{loose:List Str}{XP:(Str->Option Value)->Heap->Prop}{YP:World->Heap->Prop}{d:DefRec}{K:Params->PySem.W.Frag}{CX:LF}{sp:PySem.W.Frag->Sp}{x:Str}
 (hn:l.most=some n)(hn2:n<=sizeLine)(hdf:d.params.defaults=[])(hr:Bx k callerA)
 (hY:∀(w:World) (h:Heap),YP w h->(K w.params).In h)
 (F:∀(w:World) (mg:Str->Option Value) (fa:Addr) (h:Heap),(K w.params).In h->h.Ns mainGlobals mg->mg d.name=some (.ref fa)->
  ∃fd:FuncData,(∀(s:Shared) (u:Value),BindsTo s fd ⟨[u],[]⟩ [(x,u)])/\
   ∀base:Heap,(K w.params).In base->base.Ns mainGlobals mg->ET l.prog w (K w.params) mg base CX k fa fd [x] (sp (K w.params)))
 (hsp:∀(K:PySem.W.Frag) (H:Hp) (a:Addr) (ns:List Int),ns.length<=n->QX H->Ah K H a (ns.map V.int)->sp K [.ref a] H (λv _=>v=.bl true) λ_ _ _=>False)
 (hCX:∀(H:Hp) (s:Shared) (e:Value) (s':Shared),CX [] H s (λ_ _ _=>False) e s'->False):
 PySem.W.WalkO q loose XP YP l.row.toRowW d [] (λf vs=>PySem.call f vs):=
 QY (K:=K) (CX:=λ_=>CX) (sp:=λw=>sp (K w.params)) hn hn2 hdf hr hY F (λw H a ns h1 h2 h3=>hsp (K w.params) H a ns h1 h2 h3) λ_ H s e s'=>hCX H s e s'
end L2
namespace L2
open PySem PySem.Spec PyProof.Rows
def DA (s:Stmt):Arguments:=match s with
 |.FunctionDef _ a _ _ _ _ _ _ _ _=>a
 |_=>{ posonlyargs:=[],args:=[],vararg:=none,kwonlyargs:=[],kw_defaults:=[],kwarg:=none,defaults:=[] }
def B9 (s:Stmt):List Stmt:=match s with
 |.FunctionDef _ _ b _ _ _ _ _ _ _=>b
 |_=>[]
def AJ (s:Stmt):Scope:=match s with
 |.FunctionDef _ _ _ _ _ _ sc _ _ _=>sc
 |_=>{ kind:=.function,names:=[],isGenerator:=false,isCoroutine:=false }
abbrev CX0:LF:=λ_ _ _ _ _ _=>False
abbrev E0:XK:=λ_ _ _=>False
theorem UH {X:Cx}:Passes CX0 X E0:=λ_ _ _ _ _ _ _ h=>h.elim
structure R7 (K:PySem.W.Frag)(x qual:Str)(st:Stmt)(f:Addr)(fd:FuncData):Prop where
 ex:∃(oc:Value) (od:Option Addr) (kV doc pm:Value) (an:Option Addr) (cdv ct:Value) (osl:Array (Option Value)),
  fd=PySem.W.fnOf x qual (DA st) (B9 st) (AJ st) .none kV doc pm an cdv ct/\K.lookup f=some ⟨oc,od,.func fd,osl⟩/\PySem.W.codeIn K cdv qual=true
 kp:PySem.W.keepIn K (.ref f)=true
section
variable {P:Program}{w:World}{K:PySem.W.Frag}{mg:Str->Option Value}{base:Heap}
theorem R7.ok {x qual:Str}{st:Stmt}{f:Addr}{fd:FuncData}{N ps:List Str}{k:Nat}{sp:Sp}(F:R7 K x qual st f fd)(S:AV N ps (AJ st))(len:∀vs H Q E,sp vs H Q E->vs.length=ps.length)
 (hbody:∀(cdv:Value) (A:Around) (outer:List Env) (s:Shared) (H:Hp) (vs:List V) (Q:VK) (E:XK),Bx k (A.deeper (envOfC qual (AJ st) s.heap.objs.size f cdv))->sp vs H Q E->
  ∃t,Jr (EE CX0 P w K mg base N qual (AJ st) f cdv A outer s H E).Tt (B9 st) t/\t { nx:=λ_ H'=>Q .BK H',rt:=Q } (start N vs) H):ET P w K mg base CX0 (k+1) f fd ps sp:=by
 obtain⟨oc,od,kV,doc,pm,an,cdv,ct,osl,rfl,lk,hcd⟩:=F.ex;refine RO lk hcd S len λA outer s H vs Q E hr hsp=>?_
 obtain⟨t,h,q⟩:=hbody cdv A outer s H vs Q E hr hsp;exact⟨t,h.Tt,q⟩
theorem R7.binds {x qual:Str}{st:Stmt}{f:Addr}{fd:FuncData}{ps:List Str}(F:R7 K x qual st f fd)
 (h:∀(kV doc pm:Value) (an:Option Addr) (cdv ct:Value) (us:List Value),us.length=ps.length->bindArgs (PySem.W.fnOf x qual (DA st) (B9 st) (AJ st) .none kV doc pm an cdv ct) ⟨us,[]⟩=pure (ps.zip us)):Binds K fd ps []:=by
 obtain⟨oc,od,kV,doc,pm,an,cdv,ct,osl,rfl,lk,hcd⟩:=F.ex;exact .all (h kV doc pm an cdv ct)
theorem R8 {x qual:Str}{st:Stmt}{f:Addr}{oc:Value}{od an:Option Addr}{osl:Array (Option Value)}{kV doc pm cdv ct:Value}(l:K.lookup f=some ⟨oc,od,.func (PySem.W.fnOf x qual (DA st) (B9 st) (AJ st) .none kV doc pm an cdv ct),osl⟩)
 (c:PySem.W.codeIn K cdv qual=true)(k:PySem.W.keepIn K (.ref f)=true):R7 K x qual st f (PySem.W.fnOf x qual (DA st) (B9 st) (AJ st) .none kV doc pm an cdv ct):=⟨⟨oc,od,kV,doc,pm,an,cdv,ct,osl,rfl,l,c⟩,k⟩
end
theorem OY {A:Around}{k:Nat}(hr:Bx k A):A.units+1 < cLine:=Nat.lt_of_le_of_lt (Nat.add_le_add_left (by decide:1<=64) _) hr.units
theorem AK {n:Nat}(h:n<=1000):n < sizeLine:=Nat.lt_of_le_of_lt h (by decide)
section
variable {X:Cx}
theorem pv (i:Nat){x:Str}{pos:Pos}(hN:X.N[i]?=some x:=by rfl)(hv:Us X.env.scope x:=by first|exact Or.inl rfl|exact Or.inr (Or.inl rfl)|exact Or.inr (Or.inr rfl))(hd:(x==("__debug__":Str))=false:=by decide)
 (hcd:(x==("__classdict__":Str))=false:=by decide):PE X (.Name x pos) (Tq i):=Ro hN hv hd hcd
end
theorem DN {A B:Prop}(h:B):if false=true then A else B:=by
 rw[if_neg Bool.false_ne_true];exact h
theorem Ir {A B:Prop}(h:A):if true=true then A else B:=by
 rw[if_pos rfl];exact h
theorem CZ {c A B:Prop}[Decidable c](h1:c->A)(h2:¬c->B):if c then A else B:=by
 by_cases h:c
 ·rw[if_pos h]
  exact h1 h
 ·rw[if_neg h]
  exact h2 h
def AG (H H':Hp):Prop:=∀b o,H b=some o->H' b=some o
theorem AG.refl (H:Hp):AG H H:=λ_ _ h=>h
theorem AG.trans {H H1 H2:Hp}(a:AG H H1)(b:AG H1 H2):AG H H2:=λc o h=>b c o (a c o h)
theorem AG.free {H H':Hp}(e:AG H H'){l:Addr}(h:H' l=Option.none):H l=Option.none:=by
 cases q:H l with
 |none=>rfl
 |some o=>
  rw[e l o q]at h;cases h
theorem AG.seq {K:PySem.W.Frag}{H H':Hp}{a:Addr}{xs:List V}(e:AG H H')(h:Ah K H a xs):Ah K H' a xs:=by
 rcases h with(h|⟨o,h⟩)|h
 ·exact .inl (.inl (e _ _ h))
 ·exact .inl (.inr ⟨o,e _ _ h⟩)
 ·exact .inr h
end L2
set_option maxHeartbeats 16000000
namespace L2
open PySem PySem.Spec PyProof.Rows
theorem lookup_mem {α:Type}:∀{cl:List (Str×α)} {x:Str} {c:α},cl.lookup x=some c->(x,c)∈cl
 |[],_,_,h=>by simp at h
 |(y,d)::r,x,c,h=>by
  rw[List.lookup_cons]at h;cases e:x==y with
  |true=>
   rw[e]at h;have e':x=y:=eq_of_beq e;cases h;rw[e'];exact List.mem_cons_self
  |false=>
   rw[e]at h;exact List.mem_cons_of_mem _ (lookup_mem h)
theorem EF {α:Type}:∀{cl:List (Str×α)} {x:Str} {c:α},(x,c)∈cl->∃c',cl.lookup x=some c'
 |[],_,_,h=>nomatch h
 |(y,d)::r,x,c,h=>by
  rw[List.lookup_cons];cases e:x==y with
  |true=>exact⟨d,rfl⟩
  |false=>
   rcases List.mem_cons.mp h with h|h
   ·cases h
    simp at e
   ·exact EF h
theorem EU {env:Env}{f:(Str×NameKind)->List (Str×Addr)->Sem (ForInStep (List (Str×Addr)))}
 (h1:∀x k cs,k≠NameKind.free->f (x,k) cs=pure (.yield cs))(h2:∀x cs c,env.cells.lookup x=some c->f (x,NameKind.free) cs=pure (.yield ((x,c)::cs))):
 ∀(names:List (Str×NameKind)) (acc:List (Str×Addr)),(∀x,(x,NameKind.free)∈names->∃c,env.cells.lookup x=some c)->
  ∃cl,forIn names acc f=pure cl/\(∀p∈cl,p∈acc\/env.cells.lookup p.1=some p.2)/\(∀p∈acc,p∈cl)/\∀x,(x,NameKind.free)∈names->∃c,(x,c)∈cl
 |[],acc,_=>⟨acc,rfl,λ_ h=>.inl h,λ_ h=>h,λ_ h=>nomatch h⟩
 |(x,k)::r,acc,h=>by
  by_cases hk:k=NameKind.free
  ·subst hk
   obtain⟨c,hc⟩:=h x List.mem_cons_self;obtain⟨cl,e,a,b,d⟩:=EU h1 h2 r ((x,c)::acc) λy hy=>h y (List.mem_cons_of_mem _ hy)
   refine⟨cl,?_,λp hp=>?_,λp hp=>b p (List.mem_cons_of_mem _ hp),λy hy=>?_⟩
   ·rw[List.forIn_cons,h2 x acc c hc,pure_bind];exact e
   ·rcases a p hp with q|q
    ·rcases List.mem_cons.mp q with q|q
     ·subst q;exact .inr hc
     ·exact .inl q
    ·exact .inr q
   ·rcases List.mem_cons.mp hy with q|q
    ·cases q;exact⟨c,b _ List.mem_cons_self⟩
    ·exact d y q
  ·obtain⟨cl,e,a,b,d⟩:=EU h1 h2 r acc λy hy=>h y (List.mem_cons_of_mem _ hy)
   refine⟨cl,?_,a,b,λy hy=>?_⟩
   ·rw[List.forIn_cons,h1 x k acc hk,pure_bind];exact e
   ·rcases List.mem_cons.mp hy with q|q
    ·cases q;exact absurd rfl hk
    ·exact d y q
theorem GR {scope:Scope}{env:Env}(h:∀x,(x,NameKind.free)∈scope.names->∃c,env.cells.lookup x=some c):
 ∃cl,closureFor scope env=pure cl/\(∀x c,cl.lookup x=some c->env.cells.lookup x=some c)/\∀x,(x,NameKind.free)∈scope.names->∃c,cl.lookup x=some c:=by
 have go:=EU (env:=env) (f:=λx cs=>match x with|(name,kind)=>if(kind==NameKind.free)=true then do let a<-cellOf env name;pure (.yield ((name,a)::cs))else pure (.yield cs))
  (λx k cs hk=>by
   have:(k==NameKind.free)=false:=by simpa using hk
   simp only[this,Bool.false_eq_true,if_false])
  (λx cs c hc=>by
   simp only[beq_self_eq_true,if_true];unfold cellOf;rw[hc,pure_bind])
  scope.names [] h
 obtain⟨cl,e,a,_,d⟩:=go;refine⟨cl,?_,λx c hx=>?_,λx hx=>?_⟩
 ·unfold closureFor
  simp only[bind_pure];exact e
 ·rcases a _ (lookup_mem hx)with q|q
  ·exact nomatch q
  ·exact q
 ·obtain⟨c,hc⟩:=d x hx
  exact EF hc
theorem Bt {env:Env}{x:Str}{k:NameKind}:∀{names:List (Str×NameKind)},
 (names.map λ(n,k)=>if(k==NameKind.free&&env.scope.kind==.function&&env.kindOf n==some .cell)then(n,NameKind.cell)else(n,k)).lookup x=some k->
  names.lookup x=some k\/(k=.cell/\names.lookup x=some .free)
 |[],h=>by simp at h
 |(n,j)::r,h=>by
  have ih:=@Bt env x k r;rw[List.lookup_cons]
  change List.lookup x ((if(j==NameKind.free&&env.scope.kind==.function&&env.kindOf n==some .cell)=true then(n,NameKind.cell)else(n,j))::_)=_ at h
  by_cases hc:(j==NameKind.free&&env.scope.kind==.function&&env.kindOf n==some .cell)=true
  ·rw[if_pos hc,List.lookup_cons]at h
   have hj:j=NameKind.free:=by
    simp only[Bool.and_eq_true]at hc;exact eq_of_beq hc.1.1
   cases hx:x==n with
   |true=>rw[hx]at h;cases h;exact .inr ⟨rfl,by rw[hj]⟩
   |false=>rw[hx]at h;exact ih h
  ·rw[if_neg hc,List.lookup_cons]at h
   cases hx:x==n with
   |true=>rw[hx]at h;exact .inl h
   |false=>rw[hx]at h;exact ih h
def CJ (X:Cx)(scope:Scope)(NL:List Str)(ix:List Nat)(cl:List (Str×Addr))(C:Addr)(s₃:Shared)(H₃:Hp)(fp:List Addr)(pins:List (Addr×Obj)):Cx where
 prog:=X.prog
 w:=X.w
 K:=X.K
 mg:=X.mg
 base:=X.base
 A:=X.A
 N:=NL++ix.map λj=>X.N.getD j ""
 s₀:=s₃
 H₀:=H₃
 env:=compEnvC scope cl C X.env
 outer:=X.stack
 stack:=X.stack
 ex:=fp
 fn:=λ_=>false
 calm:=X.calm
 pn:=X.pn++pins
 xe:=λ_ _=>False
def BC (NL:List Str)(ix:List Nat)(σ:St):St:=NL.map (λ_=>none)++ix.map λj=>σ.getD j none
def OZ (X:Cx)(ifs:List Expr)(t:TT):Prop:=
 ∀(pins:List (Addr×Obj)) (s:Shared) (σ:St) (H:Hp) (Q:Bool->Hp->Prop),Inv X pins σ H s->t σ H Q->
  wpAny (model X.prog X.w) X.A (forIn ifs true λc r=>if r=true then do let ok<-isTrue c X.env (eval c X.env);pure (ForInStep.yield ok)else pure (ForInStep.yield r)) (TP X pins σ Q) X.xe s
def VY:TT:=λ_ H Q=>Q true H
theorem A3 {X:Cx}:OZ X [] VY:=λ_ _ _ H _ I h=>wpAny_tests_nil ⟨H,I,h⟩
theorem Jx {X:Cx}{c:Expr}{t:TT}(h:PT X c t):OZ X [c] t:=λpins s σ H Q I q=>wpAny_tests_one (h pins s σ H Q I q)
def RQ (NL:List Str)(ix:List Nat)(wi:TI)(g:TG)(tt:TT)(te:TE):TE:=λσ H Q=>
 wi σ H λJ H1=>∀acc,H1 acc=none->∃W:Nat->Nat->List V->Hp->Prop,(∃m,W 0 m [] (upd H1 acc (.lst [])))/\
  ∀i m ys H2,W i m ys H2->H2 acc=some (.lst ys)/\ys.length < sizeLine/\
   ((J.stop i H2/\Q (.ref acc) H2)\/(J.go i H2/\∃N:List V->Hp->Prop,(∀ys' H',N ys' H'->∃m',m' < m/\W (i+1) m' ys' H')/\
     ∀x H3,J.yld i H2 x H3->g x (BC NL ix σ) H3 λσ' H4=>σ'.drop NL.length=ix.map (λj=>σ.getD j none)/\tt σ' H4 λb H5=>
      if b=true then te σ' H5 λv H6=>H6 acc=some (.lst ys)/\N (ys++[v]) (upd H6 acc (.lst (ys++[v])))else N ys H5))
section
variable {X:Cx}{pins:List (Addr×Obj)}{σ:St}{H:Hp}{s:Shared}
structure Cv (X:Cx)(scope:Scope)(NL:List Str)(ix:List Nat):Prop where
 kind:scope.kind=.function
 cell:∀y∈scope.names,y.2≠.cell
 names:∀y∈scope.names,y.2=.local->scope.names.lookup y.1=some .local
 free:∀y∈scope.names,y.2=.free->X.env.kindOf y.1=some .cell\/X.env.kindOf y.1=some .free
 cap:∀j∈ix,∃x,X.N[j]?=some x/\scope.names.lookup x=some .free
theorem Oa {scope:Scope}{NL:List Str}{ix:List Nat}{cl:List (Str×Addr)}{fp:List Addr}{tn:Nat->Heap->Prop}{s₃:Shared}{h₁:Heap}{m:Str->Option Value}{tk:Nat}
 (S:Cv X scope NL ix)(I:Inv X pins σ H s₃)(c1:∀x c,cl.lookup x=some c->X.env.cells.lookup x=some c)(c2:∀x,(x,NameKind.free)∈scope.names->∃c,cl.lookup x=some c)
 (hf:∀b∈fp,CF X pins H b)(ho:∀b∈fp,∃o,s₃.heap.get? b=some o)(hn:h₁.Ns s₃.heap.objs.size m)(old:∀b o,s₃.heap.get? b=some o->h₁.get? b=some o):
 Inv (CJ X scope NL ix cl s₃.heap.objs.size s₃ H fp pins) [] (BC NL ix σ) H { s₃ with heap:=h₁,toks:=tk }:=by
 have e0:=I.R3;have lt:∀b o,s₃.heap.get? b=some o->b≠s₃.heap.objs.size:=λb o e=>Nat.ne_of_lt (Heap.lt_size e)
 have nst:∀b,b≠X.env.locals->b∉X.fs->b∉Ej X.stack:=λb h1 h2 h3=>(List.mem_cons.mp (I.GK b h3)).elim h1 h2
 have ok:(CJ X scope NL ix cl s₃.heap.objs.size s₃ H fp pins).Ok:=
  { mod:=I.ok.mod
    kind:=S.kind
    glob:=I.ok.glob
    blt:=I.ok.blt
    above:=Nat.le_refl _
    inj:=λx y c h1 h2=>I.ok.inj x y c (c1 x c h1) (c1 y c h2)
    has:=λx hx=>by
     have hfree:scope.names.lookup x=some .free:=by
      rcases hx with hx|hx
      ·rcases Bt hx with q|⟨_,q⟩
       ·exact absurd rfl (S.cell _ (lookup_mem q))
       ·exact q
      ·rcases Bt hx with q|⟨z,_⟩
       ·exact q
       ·cases z
     exact c2 x (lookup_mem hfree)
    cab:=λ_ _ z=>nomatch z
    hd:=I.ok.hd
    frames:=I.ok.frames
    stk:=.inl rfl
    exf:=λb hb=>⟨let⟨o,e⟩:=ho b hb;lt b o e,λx c hx=>(hf b hb).2.2.2.2.1 x c (c1 x c hx)⟩
    bs:=I.bs
    bsz:=e0.bsz
    noex:=λb o e hb=>by
     rcases(hf b hb).2.2.2.1 with z|z
     ·exact I.ok.noex b o e z
     ·exact absurd (Nat.lt_of_lt_of_le (Heap.lt_size e) (Nat.le_trans I.ok.bsz z)) (Nat.lt_irrefl _)
    exfs:=λb hb=>nst b (hf b hb).2.1 (hf b hb).2.2.1
    ED:=e0.ED
    frf:=e0.frf }
 refine⟨ok,rfl,I.bare,Un.kept old,⟨m,hn,λi x v e1 e2 e3=>?_⟩,λx c e=>?_,I.hok.fresh (Nat.le_refl _),λx c e=>I.freeC x c (c1 x c e),λp hp=>?_,I.hok.kept old,?_⟩
 ·have hl:NL.length<=i:=by
   rcases Nat.lt_or_ge i NL.length with z|z
   ·exfalso
    unfold BC at e2;rw[List.getElem?_append_left (by simpa using z),List.getElem?_map]at e2
    cases q:NL[i]? with
    |none=>rw[q]at e2;cases e2
    |some y=>rw[q]at e2;cases e2
   ·exact z
  unfold BC at e2;rw[List.getElem?_append_right (by simpa using hl),List.length_map,List.getElem?_map]at e2
  change(NL++ix.map λj=>X.N.getD j "")[i]?=some x at e1
  rw[List.getElem?_append_right hl,List.getElem?_map]at e1
  cases q:ix[i - NL.length]? with
  |none=>rw[q]at e1;cases e1
  |some j=>
   rw[q]at e1 e2;have e1':X.N.getD j ""=x:=Option.some.inj e1;have e2':σ.getD j none=some v:=Option.some.inj e2;obtain⟨x',hx',hfr⟩:=S.cap j (List.mem_of_getElem? q)
   have exx:x'=x:=by
    rw[<-e1',List.getD_eq_getElem?_getD,hx'];rfl
   subst exx
   have hσ:σ[j]?=some (some v):=by
    rw[List.getD_eq_getElem?_getD]at e2'
    cases z:σ[j]? with
    |none=>rw[z]at e2';cases e2'
    |some o=>rw[z]at e2';exact congrArg some e2'
   have kd:=S.free _ (lookup_mem hfr) rfl
   have vis:Us X.env.scope x':=by
    rcases kd with z|z
    ·exact .inr (.inl z)
    ·exact .inr (.inr z)
   obtain⟨m',hn',hl'⟩:=I.loc;obtain⟨u,r,l⟩:=hl' j x' v hx' hσ vis;refine⟨u,r,.inr ?_⟩
   have hk':(compEnvC scope cl s₃.heap.objs.size X.env).kindOf x'=some .cell\/(compEnvC scope cl s₃.heap.objs.size X.env).kindOf x'=some .free:=by
    rcases e3 with z|z|z
    ·rcases Bt z with w|⟨w,_⟩
     ·rw[hfr]at w;cases w
     ·cases w
    ·exact .inl z
    ·exact .inr z
   refine⟨hk',?_⟩
   obtain⟨c,hc⟩:=c2 x' (lookup_mem hfr)
   rcases l with⟨k,_⟩|⟨k,c',ec,o,ho',hd⟩
   ·rcases kd with z|z
    ·rw[k]at z;cases z
    ·rw[k]at z;cases z
   ·have:c'=c:=by
     have:=c1 x' c hc;rw[ec]at this;exact Option.some.inj this
    subst this;exact⟨c',hc,o,old _ _ ho',hd⟩
 ·obtain⟨v,o,ho',hd⟩:=I.cell x c (c1 x c e)
  exact⟨v,o,old _ _ ho',hd⟩
 ·have hp':p∈X.pn++pins:=by
   rcases List.mem_append.mp hp with z|z
   ·exact z
   ·exact nomatch z
  obtain⟨e,n,ne,nf,d⟩:=I.pin p hp';exact⟨old _ _ e,n,lt _ _ e,nst _ ne nf,d⟩
 ·show(NL.map (λ_=>(none:Option V))++ix.map λj=>σ.getD j none).length=(NL++ix.map λj=>X.N.getD j "").length
  simp
theorem Jy {scope:Scope}{NL:List Str}{ix:List Nat}{elt tg iter:Expr}{ifs:List Expr}{pos:Pos}{g:TG}{tt:TT}{te:TE}{cl:List (Str×Addr)}{fp:List Addr}{it:Addr}{tn:Nat->Heap->Prop}{J:It}{Q:VK}
 {E:Value->Shared->Prop}{RR:Value->Addr->Result->Shared->Prop}
 (hc:X.calm=true)(S:Cv X scope NL ix)(c1:∀x c,cl.lookup x=some c->X.env.cells.lookup x=some c)(c2:∀x,(x,NameKind.free)∈scope.names->∃c,cl.lookup x=some c)
 (hb:∀(cl:List (Str×Addr)) (C:Addr) (s₃:Shared) (H₃:Hp) (fp:List Addr) (pins:List (Addr×Obj)),PG (CJ X scope NL ix cl C s₃ H₃ fp pins) tg g/\OZ (CJ X scope NL ix cl C s₃ H₃ fp pins) ifs tt/\PE (CJ X scope NL ix cl C s₃ H₃ fp pins) elt te)
 (I:Inv X pins σ H s)(T:Turn X.prog X.w X.K tg J fp it tn)(st:tn 0 s.heap)(hf:∀b∈fp,CF X pins H b)
 (q:∀acc,H acc=none->∃W:Nat->Nat->List V->Hp->Prop,(∃m,W 0 m [] (upd H acc (.lst [])))/\
  ∀i m ys H2,W i m ys H2->H2 acc=some (.lst ys)/\ys.length < sizeLine/\
  ((J.stop i H2/\Q (.ref acc) H2)\/(J.go i H2/\∃N:List V->Hp->Prop,(∀ys' H',N ys' H'->∃m',m' < m/\W (i+1) m' ys' H')/\
    ∀x H3,J.yld i H2 x H3->g x (BC NL ix σ) H3 λσ' H4=>σ'.drop NL.length=ix.map (λj=>σ.getD j none)/\tt σ' H4 λb H5=>
     if b=true then te σ' H5 λv H6=>H6 acc=some (.lst ys)/\N (ys++[v]) (upd H6 acc (.lst (ys++[v])))else N ys H5)))
 (hRR:∀(acc C:Addr) (H':Hp) (s':Shared) (m':Str->Option Value),Inv X pins σ H' s'->s'.heap.Ns C m'->CF X pins H' C->Q (.ref acc) H'->RR (.ref acc) C (.ok .next) s'):
 wpAny (model X.prog X.w) X.A (newList []) (λacc s₃=>wpAny (model X.prog X.w) X.A (newFunctionEnv scope X.env.globals cl [] X.env.qual none .none (some X.env)) (λcenv s₄=>
  codeAny (model X.prog X.w) X.A (.compStart (.ListComp elt [⟨tg,iter,ifs,0⟩] scope pos) 0 (.ref it) acc { cenv with scope:=relabel scope X.env }) (RR acc cenv.locals) s₄) E s₃) E s:=by
 refine wpAny_newObj_type (wpAny_newFunctionEnv S.cell (by intro y hy;simp at hy) (λh₁ hns₁ hsb₁=>?_) S.kind)
 have I3:Inv X pins σ (upd H s.heap.objs.size (.lst [])) { s with heap:=s.heap.push { cls:=.type "list",data:=.seq ([]:List Value).toArray },toks:=s.toks }:=I.UG (its:=[]) .nil (Nat.zero_le _)
 have hfr:H s.heap.objs.size=none:=I.hok.fresh (Nat.le_refl _);generalize hs3:({ s with heap:=s.heap.push { cls:=.type "list",data:=.seq ([]:List Value).toArray },toks:=s.toks }:Shared)=s₃ at I3
 have hsz:s₃.heap.objs.size=s.heap.objs.size+1:=by rw[<-hs3];exact Heap.size_push ..
 have old1:∀b o,s.heap.get? b=some o->s₃.heap.get? b=some o:=λb o e=>by rw[<-hs3];exact Heap.get?_push_of_some _ e
 have key:codeAny (model X.prog X.w) X.A (.compStart (.ListComp elt [⟨tg,iter,ifs,0⟩] scope pos) 0 (.ref it) (.ref s.heap.objs.size) (compEnvC scope cl s₃.heap.objs.size X.env))
  (RR (.ref s.heap.objs.size) s₃.heap.objs.size) { s₃ with heap:=h₁,toks:=s₃.toks+0 }:=by
  have hns:h₁.Ns s₃.heap.objs.size (λ_=>none):=by
   have:=hns₁;rw[<-hs3];exact this
  have hsb:Heap.SameBut s₃.heap.objs.size (s₃.heap.push { cls:=.type "dict",data:=.dict #[] }) h₁:=by
   have:=hsb₁;rw[<-hs3];exact this
  have old:∀b o,s₃.heap.get? b=some o->h₁.get? b=some o:=λb o e=>hsb.extBut b o (Nat.ne_of_lt (Heap.lt_size e)) (Heap.get?_push_of_some _ e)
  have hf3:∀b∈fp,CF X pins (upd H s.heap.objs.size (.lst [])) b:=λb hb'=>by
   obtain⟨o,e,_⟩:=T.obj 0 _ st b hb';have ne:b≠s.heap.objs.size:=Nat.ne_of_lt (Heap.lt_size e);exact⟨by rw[AO ne];exact(hf b hb').1,(hf b hb').2⟩
  have ho3:∀b∈fp,∃o,s₃.heap.get? b=some o:=λb hb'=>by
   obtain⟨o,e,_⟩:=T.obj 0 _ st b hb';exact⟨o,old1 b o e⟩
  have st1:tn 0 h₁:=T.keep 0 _ _ st λb hb' o e=>old b o (old1 b o e)
  have I4:=Oa (tn:=tn) (tk:=s₃.toks+0) S I3 c1 c2 hf3 ho3 hns old;obtain⟨W,⟨m0,w0⟩,turn⟩:=q s.heap.objs.size hfr;obtain⟨hg,ht,he⟩:=hb cl s₃.heap.objs.size s₃ (upd H s.heap.objs.size (.lst [])) fp pins;generalize hX':CJ X scope NL ix cl s₃.heap.objs.size s₃ (upd H s.heap.objs.size (.lst [])) fp pins=X' at I4 hg ht he;have p1:X'.prog=X.prog:=by rw[<-hX'];rfl
  have p2:X'.w=X.w:=by rw[<-hX'];rfl
  have p3:X'.K=X.K:=by rw[<-hX'];rfl
  have p4:X'.A=X.A:=by rw[<-hX'];rfl
  have p5:X'.env=compEnvC scope cl s₃.heap.objs.size X.env:=by rw[<-hX'];rfl
  have p6:X'.calm=true:=by rw[<-hX'];exact hc
  have p7:X'.xe=λ_ _=>False:=by rw[<-hX'];rfl
  have stat:∀{H':Hp},(∀b∈fp,H' b=none)->∀b∈fp,CF X' [] H' b:=λ{H'} hn b hb'=>by
   have z:=hf3 b hb';obtain⟨o,eo⟩:=ho3 b hb';rw[<-hX'];refine⟨hn b hb',Nat.ne_of_lt (Heap.lt_size eo),λq=>(List.mem_cons.mp (I3.GK b q)).elim z.2.1 z.2.2.1,.inl hb',λx c hx=>z.2.2.2.2.1 x c (c1 x c hx),λp hp=>?_⟩
   rcases List.mem_append.mp hp with w|w
   ·exact z.2.2.2.2.2 p w
   ·exact nomatch w
  have fin:∀i n ys H' s',Inv X' [] (BC NL ix σ) H' s'->W i n ys H'->Q (.ref s.heap.objs.size) H'->RR (.ref s.heap.objs.size) s₃.heap.objs.size (.ok .next) s':=λi n ys H' s' I' w' q'=>by
   obtain⟨m',hn',_⟩:=I'.loc;have hos:s'.os=s₃.os:=by have:=I'.os;rw[<-hX']at this;exact this
   have hu:Un (Ej X.stack) fp (upd H s.heap.objs.size (.lst [])) H' s₃.heap s'.heap:=by have:=I'.base;rw[<-hX']at this;exact this
   have hk:DO X.prog X.w H' s'.heap:=by have:=I'.hok;rw[<-hX']at this;exact this
   have hfC:H' s₃.heap.objs.size=none:=by have:=I'.free;rw[<-hX']at this;exact this
   have hnC:s'.heap.Ns s₃.heap.objs.size m':=by rw[p5]at hn';exact hn'
   exact hRR _ _ H' s' m' (I3.RH hos hu hk I'.bare λb hb'=>⟨(hf3 b hb').2.2.2.1,(hf3 b hb').2.1,(hf3 b hb').2.2.2.2.1,(hf3 b hb').2.2.2.2.2⟩) hnC (I3.Io (Nat.le_refl _) hfC) q'
  have loop:∀s₄:Shared,Inv X' [] (BC NL ix σ) (upd H s.heap.objs.size (.lst [])) s₄->tn 0 s₄.heap->codeAny (model X.prog X.w) X.A (.compLoop (.ListComp elt [⟨tg,iter,ifs,0⟩] scope pos) 0 (.ref it) (.ref s.heap.objs.size) (compEnvC scope cl s₃.heap.objs.size X.env))
   (RR (.ref s.heap.objs.size) s₃.heap.objs.size) s₄:=λs₄ I4 st1=>by
   refine codeAny_loop rfl (λn s'=>∃i ys H',Inv X' [] (BC NL ix σ) H' s'/\tn i s'.heap/\(∀b∈fp,H' b=none)/\W i n ys H') (λn s' hI=>?_) m0 ⟨0,[],_,I4,st1,λb hb'=>(hf3 b hb').1,w0⟩
   obtain⟨i,ys,H',I',st',fr',w'⟩:=hI;show wpAny _ X.A ((compTurn (.ListComp elt [⟨tg,iter,ifs,0⟩] scope pos) 0 (.ref it) (.ref s.heap.objs.size) (compEnvC scope cl s₃.heap.objs.size X.env)).onRaise (λx=>do noteFrame x (compEnvC scope cl s₃.heap.objs.size X.env);theTreesLotGoes x)) _ _ s'
   refine wpAny_noted ?_
   rw[compTurn_list];obtain⟨hacc,hz8,alt⟩:=turn i n ys H' w'
   rcases alt with⟨stop,qn⟩|⟨go,N,hN,step⟩
   ·have d:=T.done X' p1 p2 p3 p6 i [] s' (BC NL ix σ) H' (notedBy (model X.prog X.w) X.A (compEnvC scope cl s₃.heap.objs.size X.env) λe s'=>RR (.ref s.heap.objs.size) s₃.heap.objs.size (.error e) s') I' (stat fr') st' stop
    rw[p4]at d;refine wpAny_bind (wpAny_standAt (wpAny_bind (A8 d λr s1 ⟨hr,I1⟩=>?_)))
    subst hr;exact wpAny_pure (fin i n ys H' s1 I1 w' qn)
   ·have d:=T.item X' p1 p2 p3 p6 i [] s' (BC NL ix σ) H' (notedBy (model X.prog X.w) X.A (compEnvC scope cl s₃.heap.objs.size X.env) λe s'=>RR (.ref s.heap.objs.size) s₃.heap.objs.size (.error e) s') I' (stat fr') st' go
    rw[p4]at d;refine wpAny_bind (wpAny_standAt (wpAny_bind (A8 d λr s1 ⟨u,hr,h4⟩=>?_)))
    subst hr;refine wpAny_bind (A8 h4 λ_ s5 ⟨x,H5,I5,r5,y5,st5,fr5⟩=>?_)
    have I5':=I5.pinned (stat fr5) (T.obj _ _ st5)
    have nofail:∀{α:Type} {t:Sem α} {R:α->Shared->Prop} {sx:Shared},wpAny (model X'.prog X'.w) X'.A t R X'.xe sx->wpAny (model X.prog X.w) X.A t R (notedBy (model X.prog X.w) X.A (compEnvC scope cl s₃.heap.objs.size X.env) λe s'=>RR (.ref s.heap.objs.size) s₃.heap.objs.size (.error e) s') sx:=λ{α t R sx} hh=>by
     rw[p1,p2,p4,p7]at hh;exact wpAny_mono hh (λ_ _ z=>z) λ_ _ z=>z.elim
    have again:∀{σ7:St} {H7:Hp} {s7:Shared} {ys':List V},σ7.drop NL.length=ix.map (λj=>σ.getD j none)->Inv X' ([]++FL fp s5.heap) σ7 H7 s7->(∃m',m' < n/\W (i+1) m' ys' H7)->∃m,m < n/\∃i ys H',Inv X' [] (BC NL ix σ) H' s7/\tn i s7.heap/\(∀b∈fp,H' b=none)/\W i m ys H':=λ{σ7 H7 s7 ys'} hσ I7 n7=>by
     obtain⟨m',hm,w7⟩:=n7
     have Iw:Inv X' ([]++FL fp s5.heap) (BC NL ix σ) H7 s7:=I7.weak (by rw[I7.len,I'.len]) λj v hj=>by
      have hlj:NL.length<=j:=by
       rcases Nat.lt_or_ge j NL.length with z|z
       ·exfalso
        unfold BC at hj;rw[List.getElem?_append_left (by simpa using z),List.getElem?_map]at hj
        cases q:NL[j]? with
        |none=>rw[q]at hj;cases hj
        |some y=>rw[q]at hj;cases hj
       ·exact z
      unfold BC at hj;rw[List.getElem?_append_right (by simpa using hlj),List.length_map,<-hσ,List.getElem?_drop]at hj
      rw[<-hj]
      congr 1
      omega
     refine⟨m',hm,i+1,ys',H7,Iw.En,T.keep _ _ _ st5 λb hb' o e=>(I7.pin (b,o) (List.mem_append_right _ (List.mem_append_right _ (C8 hb' e)))).1,λb hb'=>?_,w7⟩
     obtain⟨o,e,d⟩:=T.obj _ _ st5 b hb';exact(I7.pin (b,o) (List.mem_append_right _ (List.mem_append_right _ (C8 hb' e)))).2.1
    have hg':=nofail (hg _ s5 (BC NL ix σ) H5 x u _ I5' r5 (step x H5 y5));rw[p5]at hg';refine wpAny_bind (A8 hg' λ_ s6 ⟨σ6,H6,I6,hσ6,q6⟩=>?_)
    have ht':=nofail (ht _ s6 σ6 H6 _ I6 q6);rw[p5]at ht';refine wpAny_bind (A8 ht' λok s7 ⟨H7,I7,q7⟩=>?_)
    cases ok with
    |false=>
     have q7':N ys H7:=by simpa using q7
     exact wpAny_pure ⟨rfl,again hσ6 I7 (hN _ _ q7')⟩
    |true=>
     have q7':=(if_pos rfl).mp q7;have he':=nofail (he _ s7 σ6 H7 _ I7 q7');rw[p5]at he';refine wpAny_bind (wpAny_bind (A8 he' λv s8 ⟨y,H8,I8,r8,ha8,q8⟩=>?_))
     have ap:=nofail (B1 _ s8 σ6 H8 (.ref s.heap.objs.size) [y] (.ref s.heap.objs.size) [v] (λ_ H9=>H9=upd H8 s.heap.objs.size (.lst (ys++[y]))) I8 rfl (.cons r8 .nil) ⟨_,ys,y,rfl,rfl,ha8,hz8,rfl⟩)
     refine wpAny_bind (A8 ap λ_ s9 ⟨z,H9,I9,r9,e9⟩=>wpAny_pure (wpAny_pure ⟨rfl,?_⟩))
     subst e9;exact again hσ6 I9 (hN _ _ q8)
  exact codeAny_compStart_list (loop _ I4 st1) (T.self X.A 0 _ _ _ st1 (loop _ I4 st1))
 exact key
theorem BI {scope:Scope}{NL:List Str}{ix:List Nat}{elt tg iter:Expr}{ifs:List Expr}{pos:Pos}{wi:TI}{g:TG}{tt:TT}{te:TE}
 (hc:X.calm=true)(hi:PI X tg iter wi)(S:Cv X scope NL ix)
 (hb:∀(cl:List (Str×Addr)) (C:Addr) (s₃:Shared) (H₃:Hp) (fp:List Addr) (pins:List (Addr×Obj)),PG (CJ X scope NL ix cl C s₃ H₃ fp pins) tg g/\OZ (CJ X scope NL ix cl C s₃ H₃ fp pins) ifs tt/\PE (CJ X scope NL ix cl C s₃ H₃ fp pins) elt te)
 (hs:∀x,foldedSetIterable iter X.env x=pure x:=by intro _;rfl):PE X (.ListComp elt [⟨tg,iter,ifs,0⟩] scope pos) (RQ NL ix wi g tt te):=by
 intro pins s σ H Q I h
 obtain⟨cl,hcl,c1,c2⟩:=GR (scope:=scope) (env:=X.env) λx hx=>by
  rcases S.free _ hx rfl with z|z
  ·exact I.ok.has x (.inl z)
  ·exact I.ok.has x (.inr z)
 rw[eval_ListComp];refine wpAny_comprehension_free (use:=none) rfl hs hcl S.kind S.names (A8 (hi pins s σ H _ I h) λxv s1 h1=>A8 h1 λitv s2 h2=>?_)
 obtain⟨it,fp,tn,J,H2,rfl,I2,T,st2,f2,q⟩:=h2;refine Jy (RR:=λacc C=>compPost (model X.prog X.w) X.A X.xe none (EP X pins σ Q) acc C) hc S c1 c2 hb I2 T st2 f2 q ?_
 intro acc C H' s' m' I' hn fC q';refine⟨m',hn,λh' sb=>⟨.ref acc,H',?_,rfl,q'⟩⟩
 exact I'.turned (t':=s'.toks) (λb o hb e=>sb.extBut b o hb e) fC.1 fC.2.1 fC.2.2.2.1 fC.2.2.2.2.1 fC.2.2.2.2.2
theorem MK {i:Nat}{y:Str}{py spos:Pos}{scope:Scope}{NL:List Str}{ix:List Nat}{elt tg iter:Expr}{ifs:List Expr}{pos:Pos}{wi:TI}{g:TG}{tt:TT}{te:TE}
 (hN:X.N.Nodup)(hiy:X.N[i]?=some y)(hy:Loc X.env.scope y)
 (hc:X.calm=true)(hi:PI X tg iter wi)(S:Cv X scope NL ix)
 (hb:∀(cl:List (Str×Addr)) (C:Addr) (s₃:Shared) (H₃:Hp) (fp:List Addr) (pins:List (Addr×Obj)),PG (CJ X scope NL ix cl C s₃ H₃ fp pins) tg g/\OZ (CJ X scope NL ix cl C s₃ H₃ fp pins) ifs tt/\PE (CJ X scope NL ix cl C s₃ H₃ fp pins) elt te)
 (hsw:swapsWith (.ListComp elt [⟨tg,iter,ifs,0⟩] scope pos) (some (.Name y py)) spos.line X.env=pure true:=by rfl)
 (hs:∀x,foldedSetIterable iter X.env x=pure x:=by intro _;rfl)
 (hf:X.fn y=true\/X.env.scope.names.lookup y=some .local:=by first|exact .inl rfl|exact .inr rfl|assumption):
 PS X (.Assign [.Name y py] (.ListComp elt [⟨tg,iter,ifs,0⟩] scope pos) spos) (Rt (RQ NL ix wi g tt te) (Js i)):=by
 intro pins s σ H D I h
 obtain⟨cl,hcl,c1,c2⟩:=GR (scope:=scope) (env:=X.env) λx hx=>by
  rcases S.free _ hx rfl with z|z
  ·exact I.ok.has x (.inl z)
  ·exact I.ok.has x (.inr z)
 rw[exec_Assign_Name_used _ _ _ _ hsw];refine wpAny_bind (wpAny_standAt (wpAny_bind ?_))
 show wpAny _ X.A (do let _<-comprehension (.ListComp elt [⟨tg,iter,ifs,0⟩] scope pos) scope X.env _ (newList []) false (eval iter X.env) (some (assign (.Name y py) X.env))) _ _ s
 refine wpAny_bind (A8 (wpAny_comprehension_free (use:=some (assign (.Name y py) X.env)) (Q:=λ_ s'=>SP X pins D .next s') rfl hs hcl S.kind S.names
  (A8 (hi pins s σ H _ I h) λxv s1 h1=>A8 h1 λitv s2 h2=>?_)) λ_ s' hq=>wpAny_pure (wpAny_pure hq))
 obtain⟨it,fp,tn,J,H2,rfl,I2,T,st2,f2,q⟩:=h2;refine Jy (RR:=λacc C=>compPost (model X.prog X.w) X.A X.xe (some (assign (.Name y py) X.env)) (λ_ s'=>SP X pins D .next s') acc C) (Q:=λx H1=>Js i x σ H1 D.nx) hc S c1 c2 hb I2 T st2 f2 q ?_
 intro acc C H' s' m' I' hn fC q';show wpAny _ X.A (assign (.Name y py) X.env (.ref acc)) _ _ _;refine wpAny_assign_Name (Hu I' hN hiy hy (v:=.ref acc) rfl (λs'' I'' hsb=>?_) hf)
 obtain⟨a,sb,ha⟩:=hsb
 have hne:C≠a:=by
  rcases ha with z|z
  ·rw[z];exact fC.2.1
  ·exact λw=>fC.2.2.2.2.1 y a z w.symm
 refine⟨m',hn.sameBut sb hne,λh' sb'=>⟨_,H',?_,q'⟩⟩
 exact I''.turned (t':=s''.toks) (λb o hb e=>sb'.extBut b o hb e) fC.1 fC.2.1 fC.2.2.2.1 fC.2.2.2.2.1 fC.2.2.2.2.2
theorem DB {J:It}{NL:List Str}{ix:List Nat}{g:TG}{tt:TT}{te:TE}{σ:St}{H1:Hp}{Qs:Hp->Prop}{acc:Addr}(n:Nat)(hn:n < 1000)(Pv:Nat->List V->Hp->Prop)
 (hacc:∀i ys H2,Pv i ys H2->H2 acc=some (.lst ys)/\ys.length<=i)(h0:Pv 0 [] (upd H1 acc (.lst [])))(hstop:∀ys H2,Pv n ys H2->J.stop n H2/\Qs H2)
 (hturn:∀i ys H2,i < n->Pv i ys H2->J.go i H2/\∀x H3,J.yld i H2 x H3->g x (BC NL ix σ) H3 λσ' H4=>σ'.drop NL.length=ix.map (λj=>σ.getD j none)/\tt σ' H4 λb H5=>
  if b=true then te σ' H5 λv H6=>H6 acc=some (.lst ys)/\Pv (i+1) (ys++[v]) (upd H6 acc (.lst (ys++[v])))else Pv (i+1) ys H5):
 ∃W:Nat->Nat->List V->Hp->Prop,(∃m,W 0 m [] (upd H1 acc (.lst [])))/\
 ∀i m ys H2,W i m ys H2->H2 acc=some (.lst ys)/\ys.length < sizeLine/\
  ((J.stop i H2/\Qs H2)\/(J.go i H2/\∃N:List V->Hp->Prop,(∀ys' H',N ys' H'->∃m',m' < m/\W (i+1) m' ys' H')/\
    ∀x H3,J.yld i H2 x H3->g x (BC NL ix σ) H3 λσ' H4=>σ'.drop NL.length=ix.map (λj=>σ.getD j none)/\tt σ' H4 λb H5=>
     if b=true then te σ' H5 λv H6=>H6 acc=some (.lst ys)/\N (ys++[v]) (upd H6 acc (.lst (ys++[v])))else N ys H5)):=by
 refine⟨λi m ys H2=>i<=n/\m=n - i/\Pv i ys H2,⟨n,Nat.zero_le _,rfl,h0⟩,λi m ys H2 ⟨hi,hm,hp⟩=>?_⟩
 obtain⟨a1,a2⟩:=hacc i ys H2 hp;refine⟨a1,AK (by omega),?_⟩
 rcases Nat.lt_or_ge i n with lt|ge
 ·obtain⟨go,tn⟩:=hturn i ys H2 lt hp
  exact .inr ⟨go,Pv (i+1),λys' H' hN=>⟨n - (i+1),by omega,by omega,rfl,hN⟩,tn⟩
 ·have e:i=n:=by omega
  subst e;exact .inl (hstop ys H2 hp)
end
end L2
namespace L2
open PySem PySem.Spec PyProof.Rows
section
variable {prog:Program}{w:World}{A:Around}{E:Value->Shared->Prop}{s:Shared}
theorem Eu {it t:Addr}{i:Nat}{items:Array Value}{x:Value}{Q:Value->Shared->Prop}(hit:s.heap.IsTupleIter it t i)
 (ht:s.heap.IsTuple t items)(hx:items[i]?=some x)
 (hQ:∀h',h'.IsTupleIter it t (i+1)->Heap.SameBut it s.heap h'->Q x { s with heap:=h' }):
 wpAny (model prog w) A (Builtin.SmallTypes.nextOf (.ref it)) Q E s:=by
 obtain⟨o,ho,hc,hd⟩:=id hit;obtain⟨ol,hol,_,nl,hdl⟩:=ht;unfold Builtin.SmallTypes.nextOf
 refine wpAny_bind (wpAny_callSpecial?_slot (name:=Str.ofString "__next__") hit.typeIs F.slot_tuple_iterator_next
  (wpAny_call_entry F.slot_tuple_iterator_next hit.typeIs F.entry_tuple_iterator_next ?_ (F.args_tuple_iterator_next_1 _)))
 show wpAny _ _ (field (.ref it) 0 >>= _) _ _ s;refine wpAny_bind (wpAny_field ho hd (x:=.ref t) rfl ?_)
 show wpAny _ _ (if(Value.ref t==Value.none)=true then _ else _) _ _ s
 rw[if_neg (show¬((Value.ref t==Value.none)=true)from Bool.false_ne_true)]
 show wpAny _ _ (field (.ref it) 1 >>= _) _ _ s;refine wpAny_bind (wpAny_field ho hd (x:=.int i 0) rfl ?_)
 show wpAny _ _ (seqItems? (.ref t) >>= _) _ _ s;refine wpAny_bind (wpAny_seqItems hol hdl ?_)
 simp only[Int.toNat_natCast,hx];refine wpAny_bind (wpAny_setField ho hd (by simp) (wpAny_pure ⟨x,rfl,wpAny_pure (hQ _ ?_ (Heap.SameBut.update ..))⟩))
 exact⟨_,Heap.get?_update_self _ ho (Obj.isFreed_of_fields (Obj.data_mapFields hd _)),(Obj.cls_mapFields ..).trans hc,by
  rw[Obj.data_mapFields hd];simp[rawInt]⟩
theorem FP {it t:Addr}{i:Nat}{items:Array Value}{Q:Value->Shared->Prop}(hh:A.handled=none)
 (hit:s.heap.IsTupleIter it t i)(ht:s.heap.IsTuple t items)(hx:items[i]?=none)
 (hE:∀h' e,Heap.ExtBut it s.heap h'->(∃o,h'.get? e=some o/\o.cls=.type "StopIteration")->E (.ref e) { s with heap:=h' }):
 wpAny (model prog w) A (Builtin.SmallTypes.nextOf (.ref it)) Q E s:=by
 obtain⟨o,ho,hc,hd⟩:=id hit;obtain⟨ol,hol,_,nl,hdl⟩:=ht;unfold Builtin.SmallTypes.nextOf
 refine wpAny_bind (wpAny_callSpecial?_slot (name:=Str.ofString "__next__") hit.typeIs F.slot_tuple_iterator_next
  (wpAny_call_entry F.slot_tuple_iterator_next hit.typeIs F.entry_tuple_iterator_next ?_ (F.args_tuple_iterator_next_1 _)))
 show wpAny _ _ (field (.ref it) 0 >>= _) _ _ s;refine wpAny_bind (wpAny_field ho hd (x:=.ref t) rfl ?_)
 show wpAny _ _ (if(Value.ref t==Value.none)=true then _ else _) _ _ s
 rw[if_neg (show¬((Value.ref t==Value.none)=true)from Bool.false_ne_true)]
 show wpAny _ _ (field (.ref it) 1 >>= _) _ _ s;refine wpAny_bind (wpAny_field ho hd (x:=.int i 0) rfl ?_)
 show wpAny _ _ (seqItems? (.ref t) >>= _) _ _ s;refine wpAny_bind (wpAny_seqItems hol hdl ?_)
 simp only[Int.toNat_natCast,hx];refine wpAny_bind (wpAny_rule (wpAny_bind (wpAny_setField ho hd (by simp) ?_)))
 show wpAny _ _ (newExc (.type "StopIteration") [] >>= _) _ _ _;refine wpAny_bind ?_
 simp only[newExc,newTuple];refine wpAny_bind (wpAny_newObj_type ?_ (by size_fits))
 refine wpAny_bind (m:=firstArgMember _ _) (wpAny_of_eq (a:=Value.none) (by first|rfl|(simp only[firstArgMember];rfl)) ?_)
 refine wpAny_newObj_type ?_ (by size_fits)
 simp only[raiseNew];refine wpAny_bind (wpAny_handled ?_)
 first|rw[show A.in1.handled=none from hh]|rw[hh]
 refine wpAny_bind (wpAny_pure (wpAny_throw ?_))
 exact hE _ _ (((Heap.SameBut.update ..).extBut.push _).push _) ⟨_,Heap.get?_push_size _ rfl,rfl⟩
end
theorem Jz {prog:Program}{w:World}{A:Around}(hh:A.handled=none)(it l:Addr)(hne:l≠it)(items:Array Value):
 Draws prog w A it [it,l] items.size (λi v=>items[i]?=some v) (λi h=>h.IsTupleIter it l i/\h.IsTuple l items) where
 live:=λ_ _ st=>let⟨o,ho,_⟩:=st.1;⟨o,ho⟩
 frame:=λ_ _ _ st hk=>⟨st.1.at λo e=>hk it (by simp) o e,let⟨o,ho,r⟩:=st.2;⟨o,hk l (by simp) o ho,r⟩⟩
 item:=λi s Q E hi st hQ=>by
  refine Eu st.1 st.2 (x:=items[i]) (by simp[hi]) λh' hit' hs'=>?_
  exact hQ _ h' s.toks (by simp[hi]) ⟨hit',st.2.extBut hs'.extBut hne⟩ hs'
 done:=λs Q E st hE=>FP hh st.1 st.2 (by simp) hE
theorem NP {prog:Program}{w:World}{A:Around}(hh:A.handled=none)(it:Addr)(x:Str)(t:Tok):
 Draws prog w A it [it] x.cps.size (λi v=>∃c u,x.cps[i]?=some c/\v=.str ⟨#[c]⟩ u) (λi h=>h.IsStrIter it (strIterType x) x t i):=by
 unfold strIterType;cases x.cps.all (·< 128)with
 |true=>exact Draws.strAscii hh it x t
 |false=>exact Draws.strWide hh it x t
inductive SK where
 |lst (a:Addr)|tup (a:Addr)|str (x:Str)
def SK.val:SK->V
 |.lst a=>.ref a
 |.tup a=>.ref a
 |.str x=>.str x
def signs (x:Str):List V:=x.cps.toList.map λc=>.str ⟨#[c]⟩
def SK.has (H:Hp):SK->List V->Prop
 |.lst a,xs=>Rd H a (.lst xs)
 |.tup a,xs=>Rd H a (.tup xs)
 |.str x,xs=>xs=signs x
def SK.own (it:Addr)(k:Nat)(h:Heap):SK->Prop
 |.lst a=>h.IsListIter it a k
 |.tup a=>h.IsTupleIter it a k
 |.str x=>∃t,h.IsStrIter it (strIterType x) x t k
theorem SK.DU {it:Addr}{k:Nat}{h h':Heap}{κ:SK}(x:κ.own it k h)(e:∀o,h.get? it=some o->h'.get? it=some o):κ.own it k h':=by
 cases κ with
 |lst a=>exact Heap.IsListIter.at x e
 |tup a=>exact Heap.IsTupleIter.at x e
 |str y=>obtain⟨t,o,ho,r⟩:=x;exact⟨t,o,e o ho,r⟩
theorem SK.Bh {it:Addr}{k:Nat}{h:Heap}{κ:SK}(x:κ.own it k h):∃o,h.get? it=some o/\(∀v,o.data≠.cell v)/\o.cls≠.type "tuple"/\o.cls≠.type "zip"/\o.cls≠.type "enumerate":=by
 cases κ with
 |lst a=>obtain⟨o,ho,c,d⟩:=x;exact⟨o,ho,(λv z=>by rw[d]at z;cases z),(λz=>by rw[c]at z;simp at z),(λz=>by rw[c]at z;simp at z),(λz=>by rw[c]at z;simp at z)⟩
 |tup a=>obtain⟨o,ho,c,d⟩:=x;exact⟨o,ho,(λv z=>by rw[d]at z;cases z),(λz=>by rw[c]at z;simp at z),(λz=>by rw[c]at z;simp at z),(λz=>by rw[c]at z;simp at z)⟩
 |str y=>
  obtain⟨t,o,ho,c,d⟩:=x;refine⟨o,ho,(λv z=>by rw[d]at z;cases z),?_,?_,?_⟩<;>
  ·intro z
   rw[c]at z;unfold strIterType at z
   split at z<;>simp at z
theorem Rd.inj {H:Hp}{a:Addr}{u v:HO}(hu:∀o w,u≠.frz o w)(hv:∀o w,v≠.frz o w)(x:Rd H a u)(y:Rd H a v):u=v:=by
 rcases x with x|⟨o,x⟩<;>rcases y with y|⟨p,y⟩<;>rw[x]at y
 ·exact Option.some.inj y
 ·exact absurd (Option.some.inj y) (hu p v)
 ·exact absurd (Option.some.inj y).symm (hv o u)
 ·have:=Option.some.inj y
  injection this
theorem SK.inj {H:Hp}{κ:SK}{xs ys:List V}(x:κ.has H xs)(y:κ.has H ys):xs=ys:=by
 cases κ with
 |lst a=>have:=Rd.inj (u:=.lst xs) (v:=.lst ys) (λ_ _ z=>nomatch z) (λ_ _ z=>nomatch z) x y;injection this
 |tup a=>have:=Rd.inj (u:=.tup xs) (v:=.tup ys) (λ_ _ z=>nomatch z) (λ_ _ z=>nomatch z) x y;injection this
 |str z=>exact Eq.trans x (Eq.symm y)
def SK.box:SK->List Addr
 |.lst a=>[a]
 |.tup a=>[a]
 |.str _=>[]
theorem SK.DV {H:Hp}{κ:SK}{xs:List V}(x:κ.has H xs){b:Addr}(hb:b∈κ.box):H b≠none:=by
 cases κ with
 |lst a=>have e:b=a:=by simpa[SK.box]using hb
         subst e;intro z;rcases x with q|⟨o,q⟩<;>(rw[z]at q;cases q)
 |tup a=>have e:b=a:=by simpa[SK.box]using hb
         subst e;intro z;rcases x with q|⟨o,q⟩<;>(rw[z]at q;cases q)
 |str z=>simp[SK.box]at hb
section
variable {X:Cx}{pins:List (Addr×Obj)}{σ:St}{H:Hp}{s:Shared}
theorem Bf {κ:SK}{it:Addr}{k:Nat}{xs:List V}{A:Around}(I:Inv X pins σ H s)(hv:κ.has H xs)(hit:κ.own it k s.heap)(hn:H it=none)(hh:A.handled=none):
 ∃(P:Nat->Value->Prop) (St:Nat->Heap->Prop),Draws X.prog X.w A it (it::κ.box) xs.length P St/\St k s.heap/\(∀i u,P i u->∃x,xs[i]?=some x/\RelV x u)/\(∀i h,St i h->κ.own it i h):=by
 have ne:∀b∈κ.box,b≠it:=λb hb z=>SK.DV hv hb (by rw[z];exact hn)
 cases κ with
 |lst a=>
  obtain⟨_,its,n,r,e⟩:=Rd.ok hv I.hok;have hl:s.heap.IsList a its.toArray:=⟨_,e,rfl,n,rfl⟩;have D:=Draws.list (prog:=X.prog) (w:=X.w) hh it a (ne a (by simp[SK.box])) its.toArray
  rw[List.size_toArray,<-r.length]at D;refine⟨_,_,D,⟨hit,hl⟩,λi u hu=>?_,λi h st=>st.1⟩
  ·have hu':its[i]?=some u:=by simpa using hu
   have hlt:i < xs.length:=by rw[r.length];exact(List.getElem?_eq_some_iff.mp hu').1
   obtain⟨u',e1,e2⟩:=r.get (List.getElem?_eq_getElem hlt)
   rw[hu']at e1;cases e1;exact⟨_,List.getElem?_eq_getElem hlt,e2⟩
 |tup a=>
  obtain⟨_,its,r,ht⟩:=Rd.ok hv I.hok;have hl:s.heap.IsTuple a its.toArray:=ht;have D:=Jz (prog:=X.prog) (w:=X.w) hh it a (ne a (by simp[SK.box])) its.toArray
  rw[List.size_toArray,<-r.length]at D;refine⟨_,_,D,⟨hit,hl⟩,λi u hu=>?_,λi h st=>st.1⟩
  ·have hu':its[i]?=some u:=by simpa using hu
   have hlt:i < xs.length:=by rw[r.length];exact(List.getElem?_eq_some_iff.mp hu').1
   obtain⟨u',e1,e2⟩:=r.get (List.getElem?_eq_getElem hlt)
   rw[hu']at e1;cases e1;exact⟨_,List.getElem?_eq_getElem hlt,e2⟩
 |str z=>
  obtain⟨t,hit⟩:=hit;have hv':xs=signs z:=hv;subst hv';have D:=NP (prog:=X.prog) (w:=X.w) hh it z t;have e:(signs z).length=z.cps.size:=by simp[signs]
  rw[<-e]at D;refine⟨_,_,D,hit,λi u hu=>?_,λi h st=>⟨t,st⟩⟩
  ·obtain⟨c,u',hc,rfl⟩:=hu
   refine⟨.str ⟨#[c]⟩,?_,⟨u',rfl⟩⟩
   simp only[signs,List.getElem?_map,Array.getElem?_toList,hc,Option.map_some]
theorem Inv.FQ {ch:List Addr}{p:Addr}{o:HO}{h':Heap}{tk:Nat}(I:Inv X pins σ H s)
 (hch:∀b∈ch,CF X pins H b)(k:∀b ob,b∉ch->s.heap.get? b=some ob->h'.get? b=some ob)(hp:s.heap.objs.size<=p)(new:Am X.prog X.w (upd H p o) h' p o):
 Inv X pins σ (upd H p o) { s with heap:=h',toks:=tk }:=by
 have hn:H p=none:=I.hok.fresh hp
 refine I.call (g':=s.gens) (d':=s.drawn) (ch:=ch) ⟨λb u q _ _ hx=>k b u hx q,λb u q _ _ hx=>⟨u.slots,k b u hx q⟩,λb u q n _=>?_,λb u q hx=>⟨u,k b u hx q⟩,λb xs q=>?_,λb u xs q=>?_,λb ps q=>⟨#[],?_⟩⟩ (λb u e=>?_) I.bare
  λb hb=>⟨(hch b hb).2.2.2.1,(hch b hb).2.1,(hch b hb).2.2.2.2.1,(hch b hb).2.2.2.2.2⟩
 ·rw[AO (Nat.ne_of_lt (Nat.lt_of_lt_of_le (Heap.lt_size q) hp))];exact n
 ·rw[AO (AL q hn)];exact q
 ·rw[AO (AL q hn)];exact q
 ·rw[AO (AL q hn),q];simp
 ·by_cases hb:b=p
  ·subst hb;rw[AD]at e;cases e;exact new
  ·rw[AO hb]at e
   refine(I.hok b u e).Ek (λc v hc q=>k c v (λhm=>?_) q) (λc q=>by rw[AO (AL q hn)];exact q) λc xs q=>by rw[AO (AL q hn)];exact q
   have z:=(hch c hm).1
   rcases hc with hc|hc
   ·rw[hc,e]at z;cases z
   ·rw[hc]at z;cases z
theorem Inv.DC {ch:List Addr}{h':Heap}{tk:Nat}(I:Inv X pins σ H s)
 (hch:∀b∈ch,CF X pins H b)(k:∀b ob,b∉ch->s.heap.get? b=some ob->h'.get? b=some ob):Inv X pins σ H { s with heap:=h',toks:=tk }:=by
 refine I.call (g':=s.gens) (d':=s.drawn) (ch:=ch) ⟨λb u q _ _ hx=>k b u hx q,λb u q _ _ hx=>⟨u.slots,k b u hx q⟩,λb u q n _=>n,λb u q hx=>⟨u,k b u hx q⟩,λb xs q=>q,λb u xs q=>q,λb ps q=>⟨#[],by rw[q];simp⟩⟩ (λb u e=>?_) I.bare
  λb hb=>⟨(hch b hb).2.2.2.1,(hch b hb).2.1,(hch b hb).2.2.2.2.1,(hch b hb).2.2.2.2.2⟩
 refine(I.hok b u e).Ek (λc v hc q=>k c v (λhm=>?_) q) (λ_ q=>q) λ_ _ q=>q
 have z:=(hch c hm).1
 rcases hc with hc|hc
 ·rw[hc,e]at z;cases z
 ·rw[hc]at z;cases z
end
def RS (κ:SK):It:=
 ⟨λi H=>∃xs x,κ.has H xs/\xs[i]?=some x,λi H v H'=>∃p x,v=.ref p/\H p=none/\H'=upd H p (.tup [.int i,x])/\∀xs,κ.has H xs->xs[i]?=some x,λi H=>∃xs,κ.has H xs/\xs.length=i⟩
theorem NQ {P:Program}{w:World}{K:PySem.W.Frag}{elts:List Expr}{x1:Nat}{tpos:Pos}(κ:SK)(e it:Addr)(hei:e≠it):
 Turn P w K (.Tuple elts x1 tpos) (RS κ) [e,it] e (λi h=>(∃old,IsEnum h e it i old)/\κ.own it i h) where
 mem:=by simp
 obj:=λi h st b hb=>by
  obtain⟨⟨old,he⟩,ho⟩:=st;simp only[List.mem_cons,List.not_mem_nil,or_false]at hb
  rcases hb with rfl|rfl
  ·exact⟨_,he,λv z=>by
    have z':Data.fields _=Data.cell v:=z;cases z'⟩
  ·obtain⟨o,h1,h2,_⟩:=SK.Bh ho
   exact⟨o,h1,h2⟩
 keep:=λi h h' st k=>by
  obtain⟨⟨old,he⟩,ho⟩:=st;exact⟨⟨old,k e (by simp) _ he⟩,SK.DU ho λo q=>k it (by simp) o q⟩
 item:=by
  intro X hP hw hK hc i pins s σ H E I hf st hg;subst hP hw hK;obtain⟨⟨old,he⟩,ho⟩:=st;obtain⟨xs,x,hx,hxi⟩:=hg;have hlt:i < xs.length:=(List.getElem?_eq_some_iff.mp hxi).1
  have hh:X.A.in1.handled=none:=I.ok.hd hc;obtain⟨Pp,St,D,hst,hrel,hown⟩:=Bf (A:=X.A.in1) I hx ho (hf it (by simp)).1 hh
  have hef:e∉it::κ.box:=λz=>by
   rcases List.mem_cons.mp z with z|z
   ·exact hei z
   ·exact SK.DV hx z (hf e (by simp)).1
  refine wpAny_pyNext_enum_itemD D he hst hlt hei hef λy h' tk hy ho' hst' hT hsz hk=>⟨_,rfl,?_⟩
  refine wpAny_letOwnedTupleGo_enum ho' λh'' he'' hs''=>?_
  obtain⟨x',hx',rx⟩:=hrel i y hy;have exx:x'=x:=Option.some.inj (hx'.symm.trans hxi);subst exx
  have kk:∀b ob,b∉[e,it]->s.heap.get? b=some ob->h''.get? b=some ob:=λb ob hb q=>
   (hs''.2 b (λz=>hb (by simp[z]))).trans (hk b ob (λz=>hb (by simp[z])) (λz=>hb (by simp[z])) q)
  have ne:s.heap.objs.size≠e:=Nat.ne_of_gt (Heap.lt_size he);have hT':h''.get? s.heap.objs.size=some { cls:=.type "tuple",data:=.seq #[.int i tk,y] }:=(hs''.2 _ ne).trans hT
  refine⟨.ref s.heap.objs.size,upd H s.heap.objs.size (.tup [.int i,x']),I.FQ (tk:=tk+1) hf kk (Nat.le_refl _) ⟨⟨(by show 2<=sizeLine;decide),_,hT',rfl⟩,[.int i tk,y],.cons ⟨tk,rfl⟩ (.cons rx .nil),_,hT',rfl,0,rfl⟩,rfl,
   ⟨_,x',rfl,I.hok.fresh (Nat.le_refl _),rfl,λys hy'=>by rw[SK.inj hy' hx];exact hxi⟩,⟨⟨y,by simpa using he''⟩,SK.DU (hown _ _ hst') λo q=>(hs''.2 it (Ne.symm hei)).trans q⟩,λb hb=>?_⟩
  obtain⟨o,hob,_⟩:∃o,s.heap.get? b=some o/\True:=by
   simp only[List.mem_cons,List.not_mem_nil,or_false]at hb
   rcases hb with rfl|rfl
   ·exact⟨_,he,trivial⟩
   ·obtain⟨o,h1,_⟩:=SK.Bh ho;exact⟨o,h1,trivial⟩
  rw[AO (Nat.ne_of_lt (Heap.lt_size hob))];exact(hf b hb).1
 done:=by
  intro X hP hw hK hc i pins s σ H E I hf st hg;subst hP hw hK;obtain⟨⟨old,he⟩,ho⟩:=st;obtain⟨xs,hx,hlen⟩:=hg;have hh:X.A.in1.handled=none:=I.ok.hd hc;obtain⟨Pp,St,D,hst,hrel,hown⟩:=Bf (A:=X.A.in1) I hx ho (hf it (by simp)).1 hh
  have hst':St xs.length s.heap:=by rw[hlen];exact hst
  refine wpAny_pyNext_enum_endD D he hst' λh' hx'=>⟨rfl,?_⟩
  have f:=hf it (by simp)
  exact I.turned (t':=s.toks) (λb o hb q=>hx' b o hb q) f.1 f.2.1 f.2.2.2.1 f.2.2.2.2.1 f.2.2.2.2.2
 self:=λ_ _ _ _ _ st h=>let⟨⟨_,he⟩,_⟩:=st;wpAny_pyIter_enum he h
open AutoSeq1 (wpAny_loadPart') in
set_option maxHeartbeats 4000000 in
theorem DW (l:Addr)(items:Array Value)(n:Nat)(dct:Option Addr)(sl:Array (Option Value)):
 Meets (Builtin.«enumerate.__new__» ⟨[.type "enumerate",.ref l],[]⟩) (λ_ R s=>s.heap.get? l=some { cls:=.type "tuple",dict:=dct,data:=.seq items n,slots:=sl }/\
  R (.ok (.ret (.ref (s.heap.push { cls:=.type "tuple_iterator",data:=.fields #[.ref l,.int 0 0] }).objs.size)))
   { s with heap:=(s.heap.push { cls:=.type "tuple_iterator",data:=.fields #[.ref l,.int 0 0] }).push { cls:=.type "enumerate",data:=.fields #[.none,.bool false,.ref s.heap.objs.size,rawInt 0,.none,.none] } }):=
 .of_wp λprog w A R s h=>by
  obtain⟨hp,g,d,tk,os⟩:=s;obtain⟨hl,h⟩:=h;have hsub:=sub_enumerate;have hL:Heap.IsTuple (Shared.heap ⟨hp,g,d,tk,os⟩) l items:=⟨_,hl,rfl,n,rfl⟩
  wp_walk using wpAny_loadPart' hl
  refine wpAny_stack_any λst=>wpAny_pure ?_
  split
  ·rename_i c _ _ _ _ _
   cases(c==Value.type "enumerate")
   ·wp_walk using wpAny_loadPart' hl,wpAny_pyIter_tuple hL
    exact⟨_,rfl,h⟩
   ·wp_walk using wpAny_loadPart' hl,wpAny_pyIter_tuple hL
    exact⟨_,rfl,h⟩
  ·wp_walk using wpAny_loadPart' hl,wpAny_pyIter_tuple hL
   exact⟨_,rfl,h⟩
theorem DX {prog:Program}{w:World}{A:Around}{E:Value->Shared->Prop}{s:Shared}{l:Addr}{items:Array Value}{Q:Value->Shared->Prop}(hL:s.heap.IsTuple l items)
 (h:∀h',IsEnum h' (s.heap.objs.size+1) s.heap.objs.size 0 .none->h'.IsTupleIter s.heap.objs.size l 0->h'.objs.size=s.heap.objs.size+2->
  (∀b o,s.heap.get? b=some o->h'.get? b=some o)->Q (.ref (s.heap.objs.size+1)) { s with heap:=h' }):
 wpAny (model prog w) A (call (.type "enumerate") [.ref l]) Q E s:=by
 obtain⟨⟨c,dct,dt,sl⟩,hl,hc,n,hd⟩:=hL
 replace hc:c=.type "tuple":=hc
 replace hd:dt=.seq items n:=hd
 subst hc hd
 refine callType_new F.called_enumerate (by decide) (F.typeCall_enumerate_1 _) (F.newCall_enumerate_1 _) (λobj=>F.args_object_init_2 obj _) F.entry_enumerate_new
  (DW l items n dct sl) ⟨hl,?_⟩
 have hz:(s.heap.push { cls:=.type "tuple_iterator",data:=.fields #[.ref l,.int 0 0] }).objs.size=s.heap.objs.size+1:=Heap.size_push ..;show _/\_;rw[hz]
 have he:IsEnum ((s.heap.push { cls:=.type "tuple_iterator",data:=.fields #[.ref l,.int 0 0] }).push
  { cls:=.type "enumerate",data:=.fields #[.none,.bool false,.ref s.heap.objs.size,rawInt 0,.none,.none] }) (s.heap.objs.size+1) s.heap.objs.size 0 .none:=by
  have:=Heap.get?_push_size (s.heap.push { cls:=.type "tuple_iterator",data:=.fields #[.ref l,.int 0 0] })
   (o:={ cls:=.type "enumerate",data:=.fields #[.none,.bool false,.ref s.heap.objs.size,rawInt 0,.none,.none] }) rfl
  rw[hz]at this;exact this
 refine⟨⟨_,he,rfl⟩,h _ he ⟨_,Heap.get?_push_of_some _ (Heap.get?_push_size _ rfl),rfl,rfl⟩ (by rw[Heap.size_push,hz]) λb o x=>Heap.get?_push_of_some _ (Heap.get?_push_of_some _ x)⟩
section
variable {X:Cx}{pins:List (Addr×Obj)}{σ:St}{H:Hp}{s:Shared}
theorem NR {κ:SK}{xs:List V}{u:Value}{E:Value->Shared->Prop}{Q:Value->Shared->Prop}(I:Inv X pins σ H s)(hv:κ.has H xs)(r:RelV κ.val u)
 (h:∀h',IsEnum h' (s.heap.objs.size+1) s.heap.objs.size 0 .none->κ.own s.heap.objs.size 0 h'->(∀b o,s.heap.get? b=some o->h'.get? b=some o)->Q (.ref (s.heap.objs.size+1)) { s with heap:=h' }):
 wpAny (model X.prog X.w) X.A (call (.type "enumerate") [u]) Q E s:=by
 cases κ with
 |lst a=>
  cases(show u=Value.ref a from r)
  obtain⟨_,its,n,rr,e⟩:=Rd.ok hv I.hok;exact call_enumerate_list ⟨_,e,rfl,n,rfl⟩ λh' a1 a2 _ a4=>h h' a1 a2 a4
 |tup a=>
  cases(show u=Value.ref a from r)
  obtain⟨_,its,rr,e⟩:=Rd.ok hv I.hok;exact DX e λh' a1 a2 _ a4=>h h' a1 a2 a4
 |str x=>
  obtain⟨t,q⟩:=(show∃t,u=Value.str x t from r)
  subst q;exact call_enumerate_str λh' a1 a2 _ a4=>h h' a1 ⟨t,a2⟩ a4
def UI (ta:TA):TI:=λσ H R=>ta σ H λvs H1=>∃κ:SK,vs=[κ.val]/\(∃xs,κ.has H1 xs)/\R (RS κ) H1
theorem Iu {a:Expr}{ta:TA}{p pos:Pos}{elts:List Expr}{x1:Nat}{tpos:Pos}(hg:Gl X "enumerate")(hm:X.mg "enumerate"=none)(ha:PA X [a] ta)
 (hs:starEach [a] X.env=[(false,eval a X.env)]:=by rfl):PI X (.Tuple elts x1 tpos) (.Call (.Name "enumerate" p) [a] [] pos) (UI ta):=by
 intro pins s σ H R I h;refine Call_ (CS I hg hm boot_enumerate (PyProof.Rows.callWith_type1 (A8 (ha pos pins s σ H _ I h) λus s1 ⟨vs,H1,I1,r1,q1⟩=>?_) hs rfl))
 obtain⟨κ,e,⟨xs,hx⟩,q⟩:=q1;subst e;obtain⟨u,rfl,ru⟩:=vals1 r1;refine NR I1 hx ru λh' he hi hk=>?_
 refine wpAny_pyIter_enum he ⟨s1.heap.objs.size+1,[s1.heap.objs.size+1,s1.heap.objs.size],_,_,H1,rfl,I1.kept (t':=s1.toks) hk,NQ κ _ _ (Nat.ne_of_gt (Nat.lt_succ_self _)),⟨⟨_,he⟩,hi⟩,λb hb=>?_,q⟩
 have hge:s1.heap.objs.size<=b:=by
  simp only[List.mem_cons,List.not_mem_nil,or_false]at hb
  rcases hb with rfl|rfl
  ·exact Nat.le_succ _
  ·exact Nat.le_refl _
 exact I1.Io hge (I1.hok.fresh hge)
end
structure ZA (z TI TO i1 i2:Addr)(fp1 fp2:List Addr):Prop where
 TIz:TI≠z
 TOz:TO≠z
 i1z:i1≠z
 i2z:i2≠z
 TITO:TI≠TO
 TIi1:TI≠i1
 TIi2:TI≠i2
 TOi1:TO≠i1
 TOi2:TO≠i2
 i12:i1≠i2
 z1:z∉fp1
 z2:z∉fp2
 o1:TO∉fp1
 o2:TO∉fp2
 a1:i2∉fp1
 a2:i1∉fp2
section
variable {prog:Program}{w:World}{A:Around}{E:Value->Shared->Prop}{s:Shared}
theorem DY {z TI TO i1 i2:Addr}{fp1 fp2:List Addr}{n1 n2 k:Nat}{P1 P2:Nat->Value->Prop}{S1 S2:Nat->Heap->Prop}{a b:Value}{Q:Value->Shared->Prop}(Z:ZA z TI TO i1 i2 fp1 fp2)
 (D1:Draws prog w A i1 fp1 n1 P1 S1)(D2:Draws prog w A i2 fp2 n2 P2 S2)
 (hz:IsZip s.heap z TI TO .none)(hTI:IsPair s.heap TI (.ref i1) (.ref i2))(hTO:IsPair s.heap TO a b)(h1:S1 k s.heap)(h2:S2 k s.heap)(l1:k < n1)(l2:k < n2)
 (hQ:∀x y h' tk,P1 k x->P2 k y->IsZip h' z TI TO (rawInt s.heap.objs.size)->IsPair h' TO x y->S1 (k+1) h'->S2 (k+1) h'->IsPair h' s.heap.objs.size x y->h'.objs.size=s.heap.objs.size+1->
  (∀c o,c≠z->c≠TO->c≠i1->c≠i2->s.heap.get? c=some o->h'.get? c=some o)->Q (.ref s.heap.objs.size) { s with heap:=h',toks:=tk }):
 wpAny (model prog w) A (Builtin.«zip.__next__» ⟨[.ref z],[]⟩) (λfin s'=>∃v,fin=.done (.ret v)/\Q v s') E s:=by
 obtain⟨hp,g,d,tk₀,os⟩:=s;show wpAny _ _ (field (.ref z) 2 >>= _) _ _ _;refine wpAny_bind (wpAny_field hz rfl (x:=.bool false) rfl ?_)
 show wpAny _ _ (field (.ref z) 3 >>= _) _ _ _;refine wpAny_bind (wpAny_field hz rfl (x:=.ref TI) rfl ?_)
 refine wpAny_bind (wpAny_seqItems hTI rfl ?_)
 show wpAny _ _ (Builtin.SmallTypes.ownedTupleIsFree (.ref z) >>= _) _ _ _;refine wpAny_bind ?_
 unfold Builtin.SmallTypes.ownedTupleIsFree;refine wpAny_bind (wpAny_field hz rfl (x:=.none) rfl (wpAny_pure ?_))
 simp only[if_true];refine wpAny_bind (wpAny_rule ?_)
 refine wpAny_bind (wpAny_field hz rfl (x:=.ref TO) rfl ?_)
 refine wpAny_bind (wpAny_setField_rec hz (by simp) λh₁ hz₁ hs₁=>?_)
 replace hz₁:IsZip h₁ z TI TO .ellipsis:=hz₁
 replace hs₁:Heap.SameBut z hp h₁:=hs₁
 refine wpAny_bind ?_
 simp only[List.zipIdx_cons,List.zipIdx_nil,List.forIn_cons,List.forIn_nil];refine wpAny_bind (wpAny_bind (wpAny_onRaise ?_))
 show wpAny _ _ (Builtin.SmallTypes.nextOf (.ref i1) >>= _) _ _ _;have h1₁:S1 k h₁:=D1.frame _ _ _ h1 λc hc o e=>hs₁.extBut _ _ (λq=>Z.z1 (q▸hc)) e
 refine wpAny_bind (D1.item k _ _ _ l1 h1₁ λx h₂ tk₂ hx h1₂ hs₂=>wpAny_pure ?_)
 replace hs₂:Heap.SameBut i1 h₁ h₂:=hs₂
 have hTO₂:IsPair h₂ TO a b:=hs₂.extBut _ _ Z.TOi1 (hs₁.extBut _ _ Z.TOz hTO);refine wpAny_bind (wpAny_seqItems (s:=⟨h₂,g,d,tk₂,os⟩) hTO₂ rfl ?_)
 refine wpAny_bind (wpAny_updateSeq_pair (s:=⟨h₂,g,d,tk₂,os⟩) hTO₂ λh₃ hTO₃ hs₃=>?_)
 replace hTO₃:IsPair h₃ TO x b:=hTO₃
 replace hs₃:Heap.SameBut TO h₂ h₃:=hs₃
 refine wpAny_bind (wpAny_letGo (wpAny_pure ?_))
 refine wpAny_bind (wpAny_bind (wpAny_onRaise ?_))
 show wpAny _ _ (Builtin.SmallTypes.nextOf (.ref i2) >>= _) _ _ _;have h2₃:S2 k h₃:=D2.frame _ _ _ h2 λc hc o e=>hs₃.extBut _ _ (λq=>Z.o2 (q▸hc)) (hs₂.extBut _ _ (λq=>Z.a2 (q▸hc)) (hs₁.extBut _ _ (λq=>Z.z2 (q▸hc)) e))
 refine wpAny_bind (D2.item k _ _ _ l2 h2₃ λy h₄ tk₄ hy h2₄ hs₄=>wpAny_pure ?_)
 replace hs₄:Heap.SameBut i2 h₃ h₄:=hs₄
 have hTO₄:IsPair h₄ TO x b:=hs₄.extBut _ _ Z.TOi2 hTO₃;refine wpAny_bind (wpAny_seqItems (s:=⟨h₄,g,d,tk₄,os⟩) hTO₄ rfl ?_)
 refine wpAny_bind (wpAny_updateSeq_pair (s:=⟨h₄,g,d,tk₄,os⟩) hTO₄ λh₅ hTO₅ hs₅=>?_)
 replace hTO₅:IsPair h₅ TO x y:=hTO₅
 replace hs₅:Heap.SameBut TO h₄ h₅:=hs₅
 refine wpAny_bind (wpAny_letGo (wpAny_pure (wpAny_pure ?_)))
 refine wpAny_bind (wpAny_seqItems (s:=⟨h₅,g,d,tk₄,os⟩) hTO₅ rfl ?_)
 refine wpAny_bind (wpAny_newTuple ?_)
 have hsz:h₅.objs.size=hp.objs.size:=by rw[hs₅.1,hs₄.1,hs₃.1,hs₂.1,hs₁.1]
 have hz₅:IsZip h₅ z TI TO .ellipsis:=hs₅.extBut _ _ Z.TOz.symm (hs₄.extBut _ _ Z.i2z.symm (hs₃.extBut _ _ Z.TOz.symm (hs₂.extBut _ _ Z.i1z.symm hz₁)))
 have hk₅:∀c o,c≠z->c≠TO->c≠i1->c≠i2->hp.get? c=some o->h₅.get? c=some o:=λc o c1 c2 c3 c4 e=>
  hs₅.extBut _ _ c2 (hs₄.extBut _ _ c4 (hs₃.extBut _ _ c2 (hs₂.extBut _ _ c3 (hs₁.extBut _ _ c1 e))))
 have h1₅:S1 (k+1) h₅:=D1.frame _ _ _ h1₂ λc hc o e=>hs₅.extBut _ _ (λq=>Z.o1 (q▸hc)) (hs₄.extBut _ _ (λq=>Z.a1 (q▸hc)) (hs₃.extBut _ _ (λq=>Z.o1 (q▸hc)) e))
 have h2₅:S2 (k+1) h₅:=D2.frame _ _ _ h2₄ λc hc o e=>hs₅.extBut _ _ (λq=>Z.o2 (q▸hc)) e
 have hzlt:z < h₅.objs.size:=Heap.lt_size hz₅;show wpAny _ _ (Builtin.SmallTypes.ownedTupleHandOut (.ref z) (.ref h₅.objs.size) >>= _) _ _ _;refine wpAny_bind ?_
 unfold Builtin.SmallTypes.ownedTupleHandOut;have hz₆:IsZip (h₅.push { cls:=.type "tuple",data:=.seq #[x,y] }) z TI TO .ellipsis:=Heap.get?_push_of_some _ hz₅
 refine wpAny_bind (wpAny_setField_rec hz₆ (by simp) λh₇ hz₇ hs₇=>?_)
 replace hz₇:IsZip h₇ z TI TO (rawInt h₅.objs.size):=hz₇
 replace hs₇:Heap.SameBut z (h₅.push { cls:=.type "tuple",data:=.seq #[x,y] }) h₇:=hs₇
 refine wpAny_setField_rec hz₇ (by simp) λh₈ hz₈ hs₈=>?_
 replace hz₈:IsZip h₈ z TI TO (rawInt h₅.objs.size):=hz₈
 replace hs₈:Heap.SameBut z h₇ h₈:=hs₈
 have up:∀c o,c≠z->h₅.get? c=some o->h₈.get? c=some o:=λc o c1 e=>hs₈.extBut _ _ c1 (hs₇.extBut _ _ c1 (Heap.get?_push_of_some _ e))
 have hT₈:IsPair h₈ h₅.objs.size x y:=hs₈.extBut _ _ (Nat.ne_of_gt hzlt) (hs₇.extBut _ _ (Nat.ne_of_gt hzlt) (Heap.get?_push_size _ rfl))
 have hz8:h₈.objs.size=h₅.objs.size+1:=by rw[hs₈.1,hs₇.1,Heap.size_push]
 rw[hsz]at hz₈ hT₈ hz8;refine wpAny_pure ⟨_,rfl,?_⟩
 show Q (.ref h₅.objs.size) _;rw[hsz];exact hQ x y h₈ tk₄ hx hy hz₈ (up _ _ Z.TOz hTO₅) (D1.frame _ _ _ h1₅ λc hc o e=>up c o (λq=>Z.z1 (q▸hc)) e) (D2.frame _ _ _ h2₅ λc hc o e=>up c o (λq=>Z.z2 (q▸hc)) e) hT₈ hz8 λc o c1 c2 c3 c4 e=>up c o c1 (hk₅ c o c1 c2 c3 c4 e)
theorem EG {z TI TO i1 i2:Addr}{fp1 fp2:List Addr}{n1 n2 k:Nat}{P1 P2:Nat->Value->Prop}{S1 S2:Nat->Heap->Prop}{a b:Value}{Q:Fin->Shared->Prop}(Z:ZA z TI TO i1 i2 fp1 fp2)
 (D1:Draws prog w A i1 fp1 n1 P1 S1)(D2:Draws prog w A i2 fp2 n2 P2 S2)
 (hz:IsZip s.heap z TI TO .none)(hTI:IsPair s.heap TI (.ref i1) (.ref i2))(hTO:IsPair s.heap TO a b)(h1:S1 k s.heap)(h2:S2 k s.heap)(hend:n1=k\/(k < n1/\n2=k))
 (hE:∀h' e tk,(∀c o,c≠z->c≠TO->c≠i1->c≠i2->s.heap.get? c=some o->h'.get? c=some o)->(∃o,h'.get? e=some o/\o.cls=.type "StopIteration")->E (.ref e) { s with heap:=h',toks:=tk }):
 wpAny (model prog w) A (Builtin.«zip.__next__» ⟨[.ref z],[]⟩) Q E s:=by
 obtain⟨hp,g,d,tk₀,os⟩:=s;show wpAny _ _ (field (.ref z) 2 >>= _) _ _ _;refine wpAny_bind (wpAny_field hz rfl (x:=.bool false) rfl ?_)
 show wpAny _ _ (field (.ref z) 3 >>= _) _ _ _;refine wpAny_bind (wpAny_field hz rfl (x:=.ref TI) rfl ?_)
 refine wpAny_bind (wpAny_seqItems hTI rfl ?_)
 show wpAny _ _ (Builtin.SmallTypes.ownedTupleIsFree (.ref z) >>= _) _ _ _;refine wpAny_bind ?_
 unfold Builtin.SmallTypes.ownedTupleIsFree;refine wpAny_bind (wpAny_field hz rfl (x:=.none) rfl (wpAny_pure ?_))
 simp only[if_true];refine wpAny_bind (wpAny_rule ?_)
 refine wpAny_bind (wpAny_field hz rfl (x:=.ref TO) rfl ?_)
 refine wpAny_bind (wpAny_setField_rec hz (by simp) λh₁ hz₁ hs₁=>?_)
 replace hz₁:IsZip h₁ z TI TO .ellipsis:=hz₁
 replace hs₁:Heap.SameBut z hp h₁:=hs₁
 refine wpAny_bind ?_
 simp only[List.zipIdx_cons,List.zipIdx_nil,List.forIn_cons,List.forIn_nil];refine wpAny_bind (wpAny_bind (wpAny_onRaise ?_))
 show wpAny _ _ (Builtin.SmallTypes.nextOf (.ref i1) >>= _) _ _ _;have h1₁:S1 k h₁:=D1.frame _ _ _ h1 λc hc o e=>hs₁.extBut _ _ (λq=>Z.z1 (q▸hc)) e
 rcases hend with hn|⟨l1,hn⟩
 ·subst hn
  refine wpAny_bind (D1.done _ _ _ h1₁ λh₂ e hs₂ he=>?_)
  obtain⟨oe,hoe,hce⟩:=he
  replace hs₂:Heap.ExtBut i1 h₁ h₂:=hs₂
  have hz₂:IsZip h₂ z TI TO .ellipsis:=hs₂ _ _ Z.i1z.symm hz₁;have hez:e≠z:=λx=>by subst x;rw[hz₂]at hoe;cases hoe;simp at hce
  exact wpAny_setField_rec hz₂ (by simp) λh₃ _ hs₃=>hE h₃ e _ (λc o c1 _ c3 _ x=>hs₃.extBut _ _ c1 (hs₂ _ _ c3 (hs₁.extBut _ _ c1 x))) ⟨oe,hs₃.extBut _ _ hez hoe,hce⟩
 ·subst hn
  refine wpAny_bind (D1.item _ _ _ _ l1 h1₁ λx h₂ tk₂ hx h1₂ hs₂=>wpAny_pure ?_)
  replace hs₂:Heap.SameBut i1 h₁ h₂:=hs₂
  have hTO₂:IsPair h₂ TO a b:=hs₂.extBut _ _ Z.TOi1 (hs₁.extBut _ _ Z.TOz hTO);refine wpAny_bind (wpAny_seqItems (s:=⟨h₂,g,d,tk₂,os⟩) hTO₂ rfl ?_)
  refine wpAny_bind (wpAny_updateSeq_pair (s:=⟨h₂,g,d,tk₂,os⟩) hTO₂ λh₃ hTO₃ hs₃=>?_)
  replace hs₃:Heap.SameBut TO h₂ h₃:=hs₃
  refine wpAny_bind (wpAny_letGo (wpAny_pure ?_))
  refine wpAny_bind (wpAny_bind (wpAny_onRaise ?_))
  show wpAny _ _ (Builtin.SmallTypes.nextOf (.ref i2) >>= _) _ _ _;have h2₃:=D2.frame _ _ h₃ h2 λc hc o e=>hs₃.extBut _ _ (λq=>Z.o2 (q▸hc)) (hs₂.extBut _ _ (λq=>Z.a2 (q▸hc)) (hs₁.extBut _ _ (λq=>Z.z2 (q▸hc)) e))
  refine wpAny_bind (D2.done _ _ _ h2₃ λh₄ e hs₄ he=>?_)
  obtain⟨oe,hoe,hce⟩:=he
  replace hs₄:Heap.ExtBut i2 h₃ h₄:=hs₄
  have hz₄:IsZip h₄ z TI TO .ellipsis:=hs₄ _ _ Z.i2z.symm (hs₃.extBut _ _ Z.TOz.symm (hs₂.extBut _ _ Z.i1z.symm hz₁));have hez:e≠z:=λx=>by subst x;rw[hz₄]at hoe;cases hoe;simp at hce
  exact wpAny_setField_rec hz₄ (by simp) λh₅ _ hs₅=>hE h₅ e _ (λc o c1 c2 c3 c4 x=>hs₅.extBut _ _ c1 (hs₄ _ _ c4 (hs₃.extBut _ _ c2 (hs₂.extBut _ _ c3 (hs₁.extBut _ _ c1 x))))) ⟨oe,hs₅.extBut _ _ hez hoe,hce⟩
end
def UJ (κ1 κ2:SK):It:=
 ⟨λi H=>∃xs ys x y,κ1.has H xs/\κ2.has H ys/\xs[i]?=some x/\ys[i]?=some y,
  λi H v H'=>∃p x y,v=.ref p/\H p=none/\H'=upd H p (.tup [x,y])/\(∀xs,κ1.has H xs->xs[i]?=some x)/\∀ys,κ2.has H ys->ys[i]?=some y,
  λi H=>∃xs ys,κ1.has H xs/\κ2.has H ys/\(xs.length=i\/(i < xs.length/\ys.length=i))⟩
theorem Ob {P:Program}{w:World}{K:PySem.W.Frag}{elts:List Expr}{x1:Nat}{tpos:Pos}(κ1 κ2:SK)(z TI TO i1 i2:Addr)(hnd:[z,TI,TO,i1,i2].Nodup):
 Turn P w K (.Tuple elts x1 tpos) (UJ κ1 κ2) [z,TI,TO,i1,i2] z (λi h=>IsZip h z TI TO .none/\IsPair h TI (.ref i1) (.ref i2)/\(∃a b,IsPair h TO a b)/\κ1.own i1 i h/\κ2.own i2 i h) where
 mem:=by simp
 obj:=λi h st b hb=>by
  obtain⟨hz,hTI,⟨a,c,hTO⟩,h1,h2⟩:=st;simp only[List.mem_cons,List.not_mem_nil,or_false]at hb
  rcases hb with rfl|rfl|rfl|rfl|rfl
  ·exact⟨_,hz,λv y=>by have y':Data.fields _=Data.cell v:=y;cases y'⟩
  ·exact⟨_,hTI,λv y=>by have y':Data.seq _ _=Data.cell v:=y;cases y'⟩
  ·exact⟨_,hTO,λv y=>by have y':Data.seq _ _=Data.cell v:=y;cases y'⟩
  ·obtain⟨o,e1,e2,_⟩:=SK.Bh h1;exact⟨o,e1,e2⟩
  ·obtain⟨o,e1,e2,_⟩:=SK.Bh h2;exact⟨o,e1,e2⟩
 keep:=λi h h' st k=>by
  obtain⟨hz,hTI,⟨a,c,hTO⟩,h1,h2⟩:=st;exact⟨k z (by simp) _ hz,k TI (by simp) _ hTI,⟨a,c,k TO (by simp) _ hTO⟩,SK.DU h1 λo q=>k i1 (by simp) o q,SK.DU h2 λo q=>k i2 (by simp) o q⟩
 item:=by
  intro X hP hw hK hc i pins s σ H E I hf st hg;subst hP hw hK;obtain⟨hz,hTI,⟨a,c,hTO⟩,h1,h2⟩:=st;obtain⟨xs,ys,x,y,hx,hy,hxi,hyi⟩:=hg;have l1:i < xs.length:=(List.getElem?_eq_some_iff.mp hxi).1
  have l2:i < ys.length:=(List.getElem?_eq_some_iff.mp hyi).1
  have hh:X.A.in1.handled=none:=I.ok.hd hc;obtain⟨P1,S1,D1,s1,r1,w1⟩:=Bf (A:=X.A.in1) I hx h1 (hf i1 (by simp)).1 hh
  obtain⟨P2,S2,D2,s2,r2,w2⟩:=Bf (A:=X.A.in1) I hy h2 (hf i2 (by simp)).1 hh
  simp only[List.nodup_cons,List.mem_cons,List.not_mem_nil,or_false,not_or]at hnd;obtain⟨⟨n1,n2,n3,n4⟩,⟨n5,n6,n7⟩,⟨n8,n9⟩,n10,_⟩:=hnd
  have nb:∀{κ:SK} {zs:List V} {b it:Addr},κ.has H zs->H b=none->b≠it->b∉it::κ.box:=λ{κ zs b it} hκ hb hne q=>by
   rcases List.mem_cons.mp q with q|q
   ·exact hne q
   ·exact SK.DV hκ q hb
  have Z:ZA z TI TO i1 i2 (i1::κ1.box) (i2::κ2.box):=
   { TIz:=Ne.symm n1,TOz:=Ne.symm n2,i1z:=Ne.symm n3,i2z:=Ne.symm n4,TITO:=n5,TIi1:=n6,TIi2:=n7,TOi1:=n8,TOi2:=n9,i12:=n10
     z1:=nb hx (hf z (by simp)).1 n3,z2:=nb hy (hf z (by simp)).1 n4,o1:=nb hx (hf TO (by simp)).1 n8,o2:=nb hy (hf TO (by simp)).1 n9,a1:=nb hx (hf i2 (by simp)).1 (Ne.symm n10),a2:=nb hy (hf i1 (by simp)).1 n10 }
  have hT:s.TypeIs (.ref z) "zip":=⟨_,hz,rfl⟩;unfold pyNext
  refine wpAny_bind (wpAny_attempt (wpAny_callSpecial?_slot (name:=Str.ofString "__next__") hT F.slot_zip_next
   (wpAny_call_entry F.slot_zip_next hT F.entry_zip_next
    (DY Z D1 D2 hz hTI hTO s1 s2 l1 l2 λu v h' tk hu hv hz' hTO' s1' s2' hT' hsz hk=>wpAny_pure ⟨_,rfl,?_⟩) (F.args_zip_next_1 _))))
  refine wpAny_letOwnedTupleGo_zip hz' λh'' hz'' hs''=>?_
  obtain⟨x',hx',rx⟩:=r1 i u hu;obtain⟨y',hy',ry⟩:=r2 i v hv;have ex:x'=x:=Option.some.inj (hx'.symm.trans hxi);have ey:y'=y:=Option.some.inj (hy'.symm.trans hyi);subst ex ey
  have kk:∀b ob,b∉[z,TI,TO,i1,i2]->s.heap.get? b=some ob->h''.get? b=some ob:=λb ob hb q=>
   (hs''.2 b (λe=>hb (by simp[e]))).trans (hk b ob (λe=>hb (by simp[e])) (λe=>hb (by simp[e])) (λe=>hb (by simp[e])) (λe=>hb (by simp[e])) q)
  have ne:s.heap.objs.size≠z:=Nat.ne_of_gt (Heap.lt_size hz);have hT'':h''.get? s.heap.objs.size=some { cls:=.type "tuple",data:=.seq #[u,v] }:=(hs''.2 _ ne).trans hT'
  refine⟨.ref s.heap.objs.size,upd H s.heap.objs.size (.tup [x',y']),I.FQ (tk:=tk) hf kk (Nat.le_refl _) ⟨⟨(by show 2<=sizeLine;decide),_,hT'',rfl⟩,[u,v],.cons rx (.cons ry .nil),_,hT'',rfl,0,rfl⟩,rfl,
   ⟨_,x',y',rfl,I.hok.fresh (Nat.le_refl _),rfl,λzs hzs=>by rw[SK.inj hzs hx];exact hxi,λzs hzs=>by rw[SK.inj hzs hy];exact hyi⟩,
   ⟨hz'',hs''.extBut _ _ (Ne.symm n1) (hk _ _ (Ne.symm n1) n5 n6 n7 hTI),⟨_,_,hs''.extBut _ _ (Ne.symm n2) hTO'⟩,SK.DU (w1 _ _ s1') λo q=>(hs''.2 i1 (Ne.symm n3)).trans q,SK.DU (w2 _ _ s2') λo q=>(hs''.2 i2 (Ne.symm n4)).trans q⟩,λb hb=>?_⟩
  have hob:∃o,s.heap.get? b=some o:=by
   simp only[List.mem_cons,List.not_mem_nil,or_false]at hb
   rcases hb with rfl|rfl|rfl|rfl|rfl
   ·exact⟨_,hz⟩
   ·exact⟨_,hTI⟩
   ·exact⟨_,hTO⟩
   ·obtain⟨o,e1,_⟩:=SK.Bh h1;exact⟨o,e1⟩
   ·obtain⟨o,e1,_⟩:=SK.Bh h2;exact⟨o,e1⟩
  obtain⟨o,hob⟩:=hob;rw[AO (Nat.ne_of_lt (Heap.lt_size hob))];exact(hf b hb).1
 done:=by
  intro X hP hw hK hc i pins s σ H E I hf st hg;subst hP hw hK;obtain⟨hz,hTI,⟨a,c,hTO⟩,h1,h2⟩:=st;obtain⟨xs,ys,hx,hy,hend⟩:=hg;have hh:X.A.in1.handled=none:=I.ok.hd hc;obtain⟨P1,S1,D1,s1,r1,w1⟩:=Bf (A:=X.A.in1) I hx h1 (hf i1 (by simp)).1 hh
  obtain⟨P2,S2,D2,s2,r2,w2⟩:=Bf (A:=X.A.in1) I hy h2 (hf i2 (by simp)).1 hh
  simp only[List.nodup_cons,List.mem_cons,List.not_mem_nil,or_false,not_or]at hnd;obtain⟨⟨n1,n2,n3,n4⟩,⟨n5,n6,n7⟩,⟨n8,n9⟩,n10,_⟩:=hnd
  have nb:∀{κ:SK} {zs:List V} {b it:Addr},κ.has H zs->H b=none->b≠it->b∉it::κ.box:=λ{κ zs b it} hκ hb hne q=>by
   rcases List.mem_cons.mp q with q|q
   ·exact hne q
   ·exact SK.DV hκ q hb
  have Z:ZA z TI TO i1 i2 (i1::κ1.box) (i2::κ2.box):=
   { TIz:=Ne.symm n1,TOz:=Ne.symm n2,i1z:=Ne.symm n3,i2z:=Ne.symm n4,TITO:=n5,TIi1:=n6,TIi2:=n7,TOi1:=n8,TOi2:=n9,i12:=n10
     z1:=nb hx (hf z (by simp)).1 n3,z2:=nb hy (hf z (by simp)).1 n4,o1:=nb hx (hf TO (by simp)).1 n8,o2:=nb hy (hf TO (by simp)).1 n9,a1:=nb hx (hf i2 (by simp)).1 (Ne.symm n10),a2:=nb hy (hf i1 (by simp)).1 n10 }
  have hT:s.TypeIs (.ref z) "zip":=⟨_,hz,rfl⟩;unfold pyNext
  refine wpAny_bind (wpAny_attempt (wpAny_callSpecial?_slot (name:=Str.ofString "__next__") hT F.slot_zip_next
   (wpAny_call_entry F.slot_zip_next hT F.entry_zip_next (EG Z D1 D2 hz hTI hTO s1 s2 hend λh' e tk hk he=>?_) (F.args_zip_next_1 _))))
  obtain⟨o,ho,hcl⟩:=he;refine wpAny_bind (wpAny_isInstance (T:="StopIteration") (b:=true) ⟨o,ho,hcl⟩ isSubtype_stop ?_)
  exact wpAny_pure ⟨rfl,I.DC hf λb ob hb q=>hk b ob (λe=>hb (by simp[e])) (λe=>hb (by simp[e])) (λe=>hb (by simp[e])) (λe=>hb (by simp[e])) q⟩
 self:=λ_ _ _ _ _ st h=>wpAny_pyIter_zip st.1 h
def Oc (v:Value):SK->Obj
 |.lst _=>{ cls:=.type "list_iterator",data:=.fields #[v,.int 0 0] }
 |.tup _=>{ cls:=.type "tuple_iterator",data:=.fields #[v,.int 0 0] }
 |.str x=>{ cls:=.type (strIterType x),data:=.fields #[v,.int 0 0] }
theorem DE (v:Value)(κ:SK):(Oc v κ).isFreed=false:=by cases κ<;>rfl
def J0 (h:Heap)(v:Value)(o:Obj):Prop:=∀(prog:Program) (w:World) (A:Around) (E:Value->Shared->Prop) (s:Shared) (Q:Value->Shared->Prop),(∀b ob,h.get? b=some ob->s.heap.get? b=some ob)->Q (.ref s.heap.objs.size) { s with heap:=s.heap.push o }->wpAny (model prog w) A (pyIter v) Q E s
theorem Ew {X:Cx}{pins:List (Addr×Obj)}{σ:St}{H:Hp}{s:Shared}{κ:SK}{xs:List V}{u:Value}(I:Inv X pins σ H s)(hv:κ.has H xs)(r:RelV κ.val u):J0 s.heap u (Oc u κ):=by
 intro prog w A E s' Q k h;cases κ with
 |lst a=>
  cases(show u=Value.ref a from r)
  obtain⟨_,its,n,rr,e⟩:=Rd.ok hv I.hok;exact wpAny_pyIter_list (items:=its.toArray) ⟨_,k _ _ e,rfl,n,rfl⟩ h
 |tup a=>
  cases(show u=Value.ref a from r)
  obtain⟨_,its,rr,o,e,c⟩:=Rd.ok hv I.hok;exact wpAny_pyIter_tuple (items:=its.toArray) ⟨o,k _ _ e,c⟩ h
 |str x=>
  obtain⟨t,q⟩:=(show∃t,u=Value.str x t from r)
  subst q;exact wpAny_pyIter_strU h
theorem F9 {κ:SK}{u:Value}{h h':Heap}{it:Addr}(r:RelV κ.val u)(e:h.get? it=some (Oc u κ)):κ.own it 0 h:=by
 cases κ with
 |lst a=>cases(show u=Value.ref a from r);exact⟨_,e,rfl,rfl⟩
 |tup a=>cases(show u=Value.ref a from r);exact⟨_,e,rfl,rfl⟩
 |str x=>obtain⟨t,q⟩:=(show∃t,u=Value.str x t from r);subst q;exact⟨t,_,e,rfl,rfl⟩
abbrev Uw (h:Heap)(o1:Obj):Heap:=h.push o1
abbrev Ux (h:Heap)(o1 o2:Obj):Heap:=(Uw h o1).push o2
abbrev Uy (h:Heap)(o1 o2:Obj):Heap:=(Ux h o1 o2).push { cls:=.type "tuple",data:=.seq #[.ref h.objs.size,.ref (Uw h o1).objs.size] }
abbrev Uz (h:Heap)(o1 o2:Obj):Heap:=(Uy h o1 o2).push { cls:=.type "tuple",data:=.seq #[.none,.none] }
abbrev Th (h:Heap)(o1 o2:Obj):Heap:=(Uz h o1 o2).push { cls:=.type "zip",data:=.fields #[.none,.bool false,.bool false,.ref (Ux h o1 o2).objs.size,.ref (Uy h o1 o2).objs.size] }
set_option maxHeartbeats 4000000 in
theorem LN (v1 v2:Value)(o1 o2:Obj):
 Meets (Builtin.«zip.__new__» ⟨[.type "zip",v1,v2],[]⟩) (λ_ R s=>J0 s.heap v1 o1/\J0 s.heap v2 o2/\
  R (.ok (.ret (.ref (Uz s.heap o1 o2).objs.size))) { s with heap:=Th s.heap o1 o2 }):=
 .of_wp λprog w A R s h=>by
  obtain⟨hp,g,d,tk,os⟩:=s;obtain⟨hl1,hl2,h⟩:=h;have hsub:=sub_zip;have g1:∀(A:Around) (E:Value->Shared->Prop) (Q:Value->Shared->Prop),Q (.ref hp.objs.size) ⟨hp.push o1,g,d,tk,os⟩->wpAny (model prog w) A (pyIter v1) Q E ⟨hp,g,d,tk,os⟩:=λA E Q q=>hl1 prog w A E ⟨hp,g,d,tk,os⟩ Q (λ_ _ e=>e) q
  have g2:∀(A:Around) (E:Value->Shared->Prop) (Q:Value->Shared->Prop),Q (.ref (hp.push o1).objs.size) ⟨(hp.push o1).push o2,g,d,tk,os⟩->wpAny (model prog w) A (pyIter v2) Q E ⟨hp.push o1,g,d,tk,os⟩:=λA E Q q=>hl2 prog w A E ⟨hp.push o1,g,d,tk,os⟩ Q (λ_ _ e=>Heap.get?_push_of_some _ e) q
  wp_walk using g1 _ _ _,g2 _ _ _
  exact⟨_,rfl,h⟩
theorem IB {prog:Program}{w:World}{A:Around}{E:Value->Shared->Prop}{s:Shared}{v1 v2:Value}{o1 o2:Obj}{Q:Value->Shared->Prop}(f1:o1.isFreed=false)(f2:o2.isFreed=false)(hl1:J0 s.heap v1 o1)(hl2:J0 s.heap v2 o2)
 (h:∀h',IsZip h' (s.heap.objs.size+4) (s.heap.objs.size+2) (s.heap.objs.size+3) .none->IsPair h' (s.heap.objs.size+2) (.ref s.heap.objs.size) (.ref (s.heap.objs.size+1))->
  IsPair h' (s.heap.objs.size+3) .none .none->h'.get? s.heap.objs.size=some o1->h'.get? (s.heap.objs.size+1)=some o2->
  (∀c o,s.heap.get? c=some o->h'.get? c=some o)->Q (.ref (s.heap.objs.size+4)) { s with heap:=h' }):
 wpAny (model prog w) A (call (.type "zip") [v1,v2]) Q E s:=by
 refine callType_new F.called_zip (by decide) (F.typeCall_zip_2 _ _) (F.newCall_zip_2 _ _) (λobj=>F.args_object_init_3 obj _ _) F.entry_zip_new
  (LN v1 v2 o1 o2) ⟨hl1,hl2,?_⟩
 have z1:(Uw s.heap o1).objs.size=s.heap.objs.size+1:=Heap.size_push ..;have z2:(Ux s.heap o1 o2).objs.size=s.heap.objs.size+2:=by rw[Heap.size_push,z1]
 have z3:(Uy s.heap o1 o2).objs.size=s.heap.objs.size+3:=by rw[Heap.size_push,z2]
 have z4:(Uz s.heap o1 o2).objs.size=s.heap.objs.size+4:=by rw[Heap.size_push,z3]
 have g5:(Th s.heap o1 o2).get? (Uz s.heap o1 o2).objs.size=some _:=Heap.get?_push_size _ rfl
 have g4:(Th s.heap o1 o2).get? (Uy s.heap o1 o2).objs.size=some _:=Heap.get?_push_of_some _ (Heap.get?_push_size _ rfl)
 have g3:(Th s.heap o1 o2).get? (Ux s.heap o1 o2).objs.size=some _:=Heap.get?_push_of_some _ (Heap.get?_push_of_some _ (Heap.get?_push_size _ rfl))
 have g2:(Th s.heap o1 o2).get? (Uw s.heap o1).objs.size=some _:=Heap.get?_push_of_some _ (Heap.get?_push_of_some _ (Heap.get?_push_of_some _ (Heap.get?_push_size _ f2)))
 have g1:(Th s.heap o1 o2).get? s.heap.objs.size=some _:=Heap.get?_push_of_some _ (Heap.get?_push_of_some _ (Heap.get?_push_of_some _ (Heap.get?_push_of_some _ (Heap.get?_push_size _ f1))))
 show _/\_;rw[z2,z3,z4]at g5;rw[z1,z2]at g3;rw[z3]at g4;rw[z1]at g2;rw[z4]
 exact⟨⟨_,g5,rfl⟩,h _ g5 g3 g4 g1 g2 λc o x=>
  Heap.get?_push_of_some _ (Heap.get?_push_of_some _ (Heap.get?_push_of_some _ (Heap.get?_push_of_some _ (Heap.get?_push_of_some _ x))))⟩
section
variable {X:Cx}
def VZ (ta:TA):TI:=λσ H R=>ta σ H λvs H1=>∃κ1 κ2:SK,vs=[κ1.val,κ2.val]/\(∃xs,κ1.has H1 xs)/\(∃ys,κ2.has H1 ys)/\R (UJ κ1 κ2) H1
theorem R9 {a b:Expr}{ta:TA}{p pos:Pos}{elts:List Expr}{x1:Nat}{tpos:Pos}(hg:Gl X "zip")(hm:X.mg "zip"=none)(ha:PA X [a,b] ta)
 (hs:starEach [a,b] X.env=[(false,eval a X.env),(false,eval b X.env)]:=by rfl)(hs2:starEach [b] X.env=[(false,eval b X.env)]:=by rfl):PI X (.Tuple elts x1 tpos) (.Call (.Name "zip" p) [a,b] [] pos) (VZ ta):=by
 intro pins s σ H R I h;refine Call_ (CS I hg hm boot_zip (PyProof.Rows.callWith_type1 (A8 (ha pos pins s σ H _ I h) λus s1 ⟨vs,H1,I1,r1,q1⟩=>?_) (by rw[hs,hs2]) (by rw[hs2];rfl)))
 obtain⟨κ1,κ2,e,⟨xs,hx⟩,⟨ys,hy⟩,q⟩:=q1;subst e;obtain⟨u,v,rfl,ru,rv⟩:=vals2 r1;refine IB (DE u κ1) (DE v κ2) (Ew I1 hx ru) (Ew I1 hy rv) λh' hz hTI hTO h1 h2 hk=>?_
 refine wpAny_pyIter_zip hz ⟨s1.heap.objs.size+4,[s1.heap.objs.size+4,s1.heap.objs.size+2,s1.heap.objs.size+3,s1.heap.objs.size,s1.heap.objs.size+1],_,_,H1,rfl,I1.kept (t':=s1.toks) hk,
  Ob κ1 κ2 _ _ _ _ _ (by simp),⟨hz,hTI,⟨_,_,hTO⟩,F9 (h':=h') ru h1,F9 (h':=h') rv h2⟩,λb hb=>?_,q⟩
 have hge:s1.heap.objs.size<=b:=by
  simp only[List.mem_cons,List.not_mem_nil,or_false]at hb
  rcases hb with rfl|rfl|rfl|rfl|rfl<;>first|exact Nat.le_add_right _ _|exact Nat.le_refl _
 exact I1.Io hge (I1.hok.fresh hge)
end
theorem QZ {κ1 κ2:SK}{xs ys:List V}{g:TG}{tb:TS}{D:Ends}{σ:St}{H:Hp}(Pv:Nat->St->Hp->Prop)(h0:Pv 0 σ H)(hlen:xs.length=ys.length)(hl:∀i σ H,i<=xs.length->Pv i σ H->κ1.has H xs/\κ2.has H ys)
 (hs:∀i x y σ H p,xs[i]?=some x->ys[i]?=some y->Pv i σ H->H p=none->g (.ref p) σ (upd H p (.tup [x,y])) λσ2 H2=>tb { D with nx:=Pv (i+1),ct:=Pv (i+1),bk:=D.nx } σ2 H2)(hd:∀σ H,Pv xs.length σ H->D.nx σ H):
 ∃W:Nat->Nat->St->Hp->Prop,(∃m,W 0 m σ H)/\∀i m σ H,W i m σ H->
  ((UJ κ1 κ2).stop i H/\D.nx σ H)\/((UJ κ1 κ2).go i H/\∃N:St->Hp->Prop,(∀σ' H',N σ' H'->∃m',m' < m/\W (i+1) m' σ' H')/\∀x H',(UJ κ1 κ2).yld i H x H'->g x σ H' λσ2 H2=>tb { D with nx:=N,ct:=N,bk:=D.nx } σ2 H2):=by
 refine⟨λi m σ H=>i<=xs.length/\m=xs.length - i/\Pv i σ H,⟨xs.length,Nat.zero_le _,rfl,h0⟩,λi m σ H ⟨hi,hm,hp⟩=>?_⟩
 obtain⟨a1,a2⟩:=hl i σ H hi hp
 rcases Nat.lt_or_ge i xs.length with lt|ge
 ·have lt2:i < ys.length:=by omega
  refine .inr ⟨⟨xs,ys,xs[i],ys[i],a1,a2,List.getElem?_eq_getElem lt,List.getElem?_eq_getElem lt2⟩,Pv (i+1),λσ' H' hn=>⟨xs.length - (i+1),by omega,by omega,rfl,hn⟩,λx H' hy=>?_⟩
  obtain⟨p,x',y',rfl,hpn,rfl,e1,e2⟩:=hy;exact hs i x' y' σ H p (e1 xs a1) (e2 ys a2) hp hpn
 ·have e:i=xs.length:=by omega
  subst e;exact .inl ⟨⟨xs,ys,a1,a2,.inl rfl⟩,hd σ H hp⟩
theorem Od {κ:SK}{xs:List V}{g:TG}{tb:TS}{D:Ends}{σ:St}{H:Hp}(Pv:Nat->St->Hp->Prop)(h0:Pv 0 σ H)(hl:∀i σ H,i<=xs.length->Pv i σ H->κ.has H xs)
 (hs:∀(i:Nat) x σ H p,xs[i]?=some x->Pv i σ H->H p=none->g (.ref p) σ (upd H p (.tup [.int i,x])) λσ2 H2=>tb { D with nx:=Pv (i+1),ct:=Pv (i+1),bk:=D.nx } σ2 H2)(hd:∀σ H,Pv xs.length σ H->D.nx σ H):
 ∃W:Nat->Nat->St->Hp->Prop,(∃m,W 0 m σ H)/\∀i m σ H,W i m σ H->
  ((RS κ).stop i H/\D.nx σ H)\/((RS κ).go i H/\∃N:St->Hp->Prop,(∀σ' H',N σ' H'->∃m',m' < m/\W (i+1) m' σ' H')/\∀x H',(RS κ).yld i H x H'->g x σ H' λσ2 H2=>tb { D with nx:=N,ct:=N,bk:=D.nx } σ2 H2):=by
 refine⟨λi m σ H=>i<=xs.length/\m=xs.length - i/\Pv i σ H,⟨xs.length,Nat.zero_le _,rfl,h0⟩,λi m σ H ⟨hi,hm,hp⟩=>?_⟩
 have a1:=hl i σ H hi hp
 rcases Nat.lt_or_ge i xs.length with lt|ge
 ·refine .inr ⟨⟨xs,xs[i],a1,List.getElem?_eq_getElem lt⟩,Pv (i+1),λσ' H' hn=>⟨xs.length - (i+1),by omega,by omega,rfl,hn⟩,λx H' hy=>?_⟩
  obtain⟨p,x',rfl,hpn,rfl,e1⟩:=hy;exact hs i x' σ H p (e1 xs a1) hp hpn
 ·have e:i=xs.length:=by omega
  subst e;exact .inl ⟨⟨xs,a1,rfl⟩,hd σ H hp⟩
def CT (z:Str)(lo hi:Option Int):Str:=⟨((z.cps.toList.drop (HT.As z.length 0 lo)).take (HT.As z.length z.length hi - HT.As z.length 0 lo)).toArray⟩
theorem Iv (i:Int)(n d:Nat):max 0 (min (if i < 0 then i+(n:Int)else i) (n:Int))=((HT.As n d (some i):Nat):Int):=by
 simp only[HT.As]
 split
 ·omega
 ·omega
theorem Dv (a b:Nat):sliceRange (a:Int) (b:Int) 1=(List.range (b - a)).map λk=>a+k:=by
 unfold sliceRange;simp only[show((1:Int) > 0)=True from by simp,if_true]
 by_cases hlt:(a:Int) < b
 ·have e3:(((b:Int) - a+1 - 1) / 1).toNat=b - a:=by
   rw[Int.ediv_one];omega
  simp only[hlt,if_true,e3];refine List.map_congr_left λk _=>?_
  omega
 ·have:b - a=0:=by omega
  simp[hlt,this]
theorem Iy (lo hi:Option Int)(n:Nat):Builtin.Str.strSliceIndices lo hi 1 n=(List.range (HT.As n n hi - HT.As n 0 lo)).map λk=>HT.As n 0 lo+k:=by
 unfold Builtin.Str.strSliceIndices;simp only[show((1:Int) > 0)=True from by simp,if_true]
 cases lo with
 |none=>
  cases hi with
  |none=>exact Dv 0 n
  |some j=>dsimp only;rw[Iv j n n];exact Dv 0 _
 |some i=>
  cases hi with
  |none=>dsimp only;rw[Iv i n 0];exact Dv _ n
  |some j=>dsimp only;rw[Iv i n 0,Iv j n n];exact Dv _ _
theorem LO (z:Str)(t:Tok)(l u:Option (Int×Tok)):∀(Q:Value->Shared->Prop) (s:Shared),z.length<=sizeLine->(∀t' s',s'.heap=s.heap->s'.gens=s.gens->s'.drawn=s.drawn->s'.os=s.os->Q (.str (CT z (l.map (·.1)) (u.map (·.1))) t') s')->(sliceMade z t l u none).post Q s:=by
 intro Q s hz h;have hidx:=Iy (l.map (·.1)) (u.map (·.1)) z.length
 have hle:HT.As z.length z.length (u.map (·.1))<=z.length:=HT.LG _ _ (Nat.le_refl _) _
 have hlo:HT.As z.length 0 (l.map (·.1))<=z.length:=HT.LG _ _ (Nat.zero_le _) _
 have hzl:z.length=z.cps.toList.length:=by simp[Str.length]
 have cut:((slicePicked z l u none).filterMap (z.cps[·]?))=(z.cps.toList.drop (HT.As z.length 0 (l.map (·.1)))).take (HT.As z.length z.length (u.map (·.1)) - HT.As z.length 0 (l.map (·.1))):=by
  have p:=StrLaws.picks z.cps.toList (HT.As z.length z.length (u.map (·.1)) - HT.As z.length 0 (l.map (·.1))) (HT.As z.length 0 (l.map (·.1))) (by omega)
  rw[<-p];unfold slicePicked;simp only[Option.map_none,Option.getD_none];rw[hidx]
  congr 1
  funext k
  simp
 unfold sliceMade
 split
 ·rename_i c
  have whole:CT z (l.map (·.1)) (u.map (·.1))=z:=by
   unfold CT
   have e:(slicePicked z l u none).length=z.length:=by
    simp only[Bool.and_eq_true,beq_iff_eq]at c;exact c.2
   have e':HT.As z.length z.length (u.map (·.1)) - HT.As z.length 0 (l.map (·.1))=z.length:=by
    unfold slicePicked at e;simp only[Option.map_none,Option.getD_none]at e;rw[hidx]at e;simpa using e
   have e0:HT.As z.length 0 (l.map (·.1))=0:=by omega
   rw[e',e0,List.drop_zero,hzl,List.take_length]
  have:=h t s rfl rfl rfl rfl;rw[whole]at this;exact this
 ·rw[cut]
  have hl':(⟨((z.cps.toList.drop (HT.As z.length 0 (l.map (·.1)))).take (HT.As z.length z.length (u.map (·.1)) - HT.As z.length 0 (l.map (·.1)))).toArray⟩:Str).length<=sizeLine:=by
   have:(⟨((z.cps.toList.drop (HT.As z.length 0 (l.map (·.1)))).take (HT.As z.length z.length (u.map (·.1)) - HT.As z.length 0 (l.map (·.1)))).toArray⟩:Str).length<=z.length:=by
    simp only[Str.length,List.size_toArray,List.length_take,List.length_drop];have:z.cps.size=z.length:=rfl;omega
   omega
  first
   |exact⟨hl',h _ _ rfl rfl rfl rfl⟩
   |exact h _ _ rfl rfl rfl rfl
def Va:V->Option Int->Option Int->Hp->VK->Prop:=λx lo hi H Q=>∃z,x=.str z/\z.length<=sizeLine/\Q (.str (CT z lo hi)) H
theorem EV {X:Cx}:Tf X Va:=by
 intro pins s σ H x v vl vu lo hi sl Q I rx hs pl pu h;obtain⟨z,rfl,hz,q⟩:=h;obtain⟨t,rfl⟩:=rx;refine⟨"str",_,F.slot_str_getitem.lookup,typeIs_str s z t,?_⟩
 have part:∀{v:Value} {o:Option Int},IsPart v o->∃p:Option (Int×Tok),v=partValue p/\p.map (·.1)=o:=λ{v o} p=>by
  cases p with
  |none=>exact⟨none,rfl,rfl⟩
  |int i t=>exact⟨some (i,t),rfl,rfl⟩
 obtain⟨l,rfl,rfl⟩:=part pl;obtain⟨u,rfl,rfl⟩:=part pu;refine wpAny_getItem_str_slice (l:=l) (u:=u) (st:=none) hs rfl (LO z t l u _ s hz λt' s' e1 e2 e3 e4=>⟨.str _,H,?_,⟨t',rfl⟩,q⟩)
 obtain⟨hp,g,d,tk,os⟩:=s';cases e1;cases e2;cases e3;cases e4;exact I.tok tk
theorem IC (z:Str)(k:Nat):(CT z (some (k:Int)) none).cps.toList=z.cps.toList.drop k:=by
 unfold CT;have hzl:z.length=z.cps.toList.length:=by simp[Str.length]
 simp only[HT.Eo,HT.DT]
 rcases Nat.le_total k z.length with h|h
 ·rw[Nat.min_eq_left h]
  exact List.take_of_length_le (by rw[List.length_drop];omega)
 ·rw[Nat.min_eq_right h,Nat.sub_self,List.take_zero]
  exact(List.drop_eq_nil_of_le (by omega)).symm
theorem Qa (z:Str)(k:Nat):(CT z none (some (k:Int))).cps.toList=z.cps.toList.take k:=by
 unfold CT;have hzl:z.length=z.cps.toList.length:=by simp[Str.length]
 simp only[HT.Eo,HT.DT,List.drop_zero,Nat.sub_zero]
 rcases Nat.le_total k z.length with h|h
 ·rw[Nat.min_eq_left h]
 ·rw[Nat.min_eq_right h,hzl,List.take_length]
  exact(List.take_of_length_le (by omega)).symm
theorem BE {X:Cx}:Be X (.builtin "isinstance") (λvs H Q=>∃x t T b,vs=[x,.ty T]/\DS X.K H x t/\PySem.W.kitOne X.K t (.type T)=some b/\Q (.bl b) H):=by
 intro pins s σ H xs us Q I r h;obtain⟨x,t,T,b,rfl,ty,e,q⟩:=h;obtain⟨u,v,rfl,ru,rv⟩:=vals2 r;cases(show v=Value.type T from rv)
 exact NI I ru ty e λtk=>⟨.bl b,H,I.tok tk,rfl,q⟩
end L2
namespace L2
open PySem PySem.Spec PyProof.Rows
theorem J1 {X:Cx}{scope:Scope}{NL:List Str}{ix:List Nat}(esc:Scope)(N:List Str)(h1:X.env.scope=esc:=by rfl)(h2:X.N=N:=by rfl)(c1:scope.kind=.function:=by rfl)
 (c2:∀y∈scope.names,y.2≠.cell:=by decide+kernel)(c3:∀y∈scope.names,y.2=.local->scope.names.lookup y.1=some .local:=by decide+kernel)
 (c4:∀y∈scope.names,y.2=.free->esc.names.lookup y.1=some .cell\/esc.names.lookup y.1=some .free:=by decide+kernel)
 (c5:∀j∈ix,(N[j]?).bind (λx=>scope.names.lookup x)=some .free:=by decide+kernel):Cv X scope NL ix where
 kind:=c1
 cell:=c2
 names:=c3
 free:=λy hy hf=>by
  have:=c4 y hy hf;rw[<-h1]at this;exact this
 cap:=λj hj=>by
  have:=c5 j hj;rw[h2];cases e:N[j]? with
  |none=>rw[e]at this;cases this
  |some x=>rw[e]at this;exact⟨x,rfl,this⟩
def BO (P:Program)(w:World)(K:PySem.W.Frag)(mg:Str->Option Value)(base:Heap)(x:Str)(k:Nat)(ps:List Str)(sp:Sp):Prop:=
 ∃f fd,ET P w K mg base CX0 k f fd ps sp/\Binds K fd ps []/\PySem.W.keepIn K (.ref f)=true/\mg x=some (.ref f)
section
variable {P:Program}{w:World}{K:PySem.W.Frag}{mg:Str->Option Value}{base:Heap}
theorem BO.mono {x:Str}{j k:Nat}{ps:List Str}{sp:Sp}(G:BO P w K mg base x j ps sp)(h:j<=k):BO P w K mg base x k ps sp:=
 let⟨f,fd,F,r⟩:=G;⟨f,fd,F.mono h,r⟩
def Df (K:PySem.W.Frag)(mg:Str->Option Value)(x:Str)(st:Stmt):Prop:=∃f fd,R7 K x x st f fd/\mg x=some (.ref f)
theorem Df.has {x:Str}{st:Stmt}{N ps:List Str}{k:Nat}{sp:Sp}(D:Df K mg x st)(S:AV N ps (AJ st))
 (hb:∀(kV doc pm:Value) (an:Option Addr) (cdv ct:Value) (us:List Value),us.length=ps.length->bindArgs (PySem.W.fnOf x x (DA st) (B9 st) (AJ st) .none kV doc pm an cdv ct) ⟨us,[]⟩=pure (ps.zip us))
 (len:∀vs H Q E,sp vs H Q E->vs.length=ps.length)
 (hbody:∀(f:Addr) (cdv:Value) (A:Around) (outer:List Env) (s:Shared) (H:Hp) (vs:List V) (Q:VK) (E:XK),Bx k (A.deeper (envOfC x (AJ st) s.heap.objs.size f cdv))->sp vs H Q E->
  ∃t,Jr (EE CX0 P w K mg base N x (AJ st) f cdv A outer s H E).Tt (B9 st) t/\t { nx:=λ_ H'=>Q .BK H',rt:=Q } (start N vs) H):BO P w K mg base x (k+1) ps sp:=by
 obtain⟨f,fd,F,m⟩:=D;exact⟨f,fd,F.ok S len λcdv A outer s H vs Q E hr h=>hbody f cdv A outer s H vs Q E hr h,F.binds hb,F.kp,m⟩
end
theorem AH {X:Cx}{x:Str}{k:Nat}{ps:List Str}{sp:Sp}{p pos:Pos}{e:Expr}{es:List Expr}{t:TA}(G:BO X.prog X.w X.K X.mg X.base x k ps sp)(hr:Bx k X.A)(hg:Gl X x)(ha:PA X (e::es) t)
 (hdb:(x==("__debug__":Str))=false:=by decide)(he:starEach (e::es) X.env=(false,eval e X.env)::starEach es X.env:=by rfl)(hpl:(backTo pos (starEach es X.env)).any (·.1)=false:=by rfl):
 PE X (.Call (.Name x p) (e::es) [] pos) (MF sp [] E0 t):=by
 obtain⟨f,fd,F,b,kp,m⟩:=G;exact MG F hr hg m kp b .nil UH ha hdb he hpl
structure Blt (mg:Str->Option Value):Prop where
 len:mg "len"=none
 range:mg "range"=none
 zip:mg "zip"=none
 enumerate:mg "enumerate"=none
 max:mg "max"=none
 min:mg "min"=none
 int_:mg "int"=none
 str_:mg "str"=none
 bool_:mg "bool"=none
 list_:mg "list"=none
 tuple_:mg "tuple"=none
 isinstance:mg "isinstance"=none
abbrev DF (H:Hp)(p:Addr):Prop:=∃x y:Int,H p=some (.lst [.int x,.int y])
structure Kp (p:Addr)(H H':Hp):Prop where
 pool:DF H' p
 keep:∀b o,b≠p->H b=some o->H' b=some o
section
variable {p q:Addr}{H H1 H2:Hp}{o:HO}
theorem Kp.refl (h:DF H p):Kp p H H:=⟨h,λ_ _ _ e=>e⟩
theorem Kp.trans (a:Kp p H H1)(b:Kp p H1 H2):Kp p H H2:=⟨b.pool,λc u hc e=>b.keep c u hc (a.keep c u hc e)⟩
theorem Kp.new (a:Kp p H H1)(hq:H1 q=none):Kp p H (upd H1 q o):=by
 obtain⟨⟨x,y,e⟩,k⟩:=a;refine⟨⟨x,y,by rw[AO (AL e hq)];exact e⟩,λc u hc h=>?_⟩
 have:=k c u hc h;rw[AO (AL this hq)];exact this
theorem Kp.write (a:Kp p H H1)(hq:H q=none)(hp:q≠p):Kp p H (upd H1 q o):=by
 obtain⟨⟨x,y,e⟩,k⟩:=a;refine⟨⟨x,y,by rw[AO (Ne.symm hp)];exact e⟩,λc u hc h=>?_⟩
 rw[AO (AL h hq)];exact k c u hc h
theorem DF.ne (h:DF H p)(hq:H q=none):q≠p:=by
 obtain⟨x,y,e⟩:=h;exact Ne.symm (AL e hq)
end
theorem A6:bootBuiltins "len"=some (.builtin "len"):=by decide+kernel
theorem Iz:bootBuiltins "max"=some (.builtin "max"):=by decide+kernel
theorem SA:bootBuiltins "min"=some (.builtin "min"):=by decide+kernel
theorem GS:bootBuiltins "all"=some (.builtin "all"):=by decide+kernel
theorem NS:bootBuiltins "sorted"=some (.builtin "sorted"):=by decide+kernel
theorem AZ:bootBuiltins "isinstance"=some (.builtin "isinstance"):=by decide+kernel
theorem DG:bootBuiltins "int"=some (.type "int"):=by decide+kernel
theorem SD:bootBuiltins "str"=some (.type "str"):=by decide+kernel
theorem ML:bootBuiltins "bool"=some (.type "bool"):=by decide+kernel
theorem JA:bootBuiltins "list"=some (.type "list"):=by decide+kernel
theorem CU:bootBuiltins "tuple"=some (.type "tuple"):=by decide+kernel
theorem AG.new {H0 H:Hp}{q:Addr}{o:HO}(h:AG H0 H)(hq:H q=none):AG H0 (upd H q o):=λb u e=>by
 have:=h b u e;rw[AO (AL this hq)];exact this
theorem AG.write {H0 H:Hp}{q:Addr}{o:HO}(h:AG H0 H)(hq:H0 q=none):AG H0 (upd H q o):=λb u e=>by
 rw[AO (AL e hq)];exact h b u e
theorem app_list (a y:Str):(a++y).cps.toList=a.cps.toList++y.cps.toList:=by
 show(a.cps++y.cps).toList=_;simp
end L2
namespace L2
open PySem PySem.Spec PyProof.Rows
section
variable {X:Cx}
theorem MM (K:PySem.W.Frag){es:List Expr}{k:Nat}{t:RJ}{n:Nat}{pos:Pos}(hc:X.calm=true)(h:Tx X es t)(hK:X.K=K:=by rfl)(hn:(assignEach es X.env).length=n:=by rfl)
 (hst:(assignEach es X.env).findIdx? (·.1)=none:=by rfl):PG X (.Tuple es k pos) (T2 K n t):=by
 subst hK;exact Im hc h hn hst
theorem CV:∀{ys:List Str} {us:List Value},Vals (ys.map V.str) us->StrsAre us ys
 |[],[],_=>.nil
 |[],_::_,h=>nomatch h
 |_::_,[],h=>nomatch h
 |y::r,u::us,h=>by
  cases h with
  |cons a b=>
   obtain⟨t,rfl⟩:=a;exact .cons y t (CV b)
theorem MN:VR X "str.join" (λx vs H Q=>∃z a ys,x=.str z/\vs=[.ref a]/\Ah X.K H a (ys.map V.str)/\(ys.map (·.length)).sum+ys.length*z.length<=16777216/\Q (.str (Txt.join z ys)) H):=by
 intro pins s σ H x xs v us Q I rx rv h;obtain⟨z,a,ys,rfl,rfl,hl,hok,q⟩:=h;obtain⟨t,rfl⟩:=rx;obtain⟨u,rfl,ru⟩:=rv.one;cases(show u=Value.ref a from ru)
 obtain⟨its,r,ht,hz⟩:=I.list hl;exact join_list ht.isList (CV (by simpa using r)) hok λt' k=>⟨.str _,H,I.tok k,⟨t',rfl⟩,q⟩
theorem LP:C9 X (binaryOp .Mult) (λx y H Q=>∃z n,x=.str z/\y=.int n/\MulOk z n/\Q (.str (Txt.mul z n)) H):=by
 intro pins s σ H x y v u Q I rx ry h;obtain⟨z,n,rfl,rfl,hok,q⟩:=h;obtain⟨t,rfl⟩:=rx;obtain⟨t',rfl⟩:=ry;exact SB.mul hok λt' k=>⟨.str _,H,I.tok k,⟨t',rfl⟩,q⟩
def J2 (xs ys:List V)(j:Nat):Bool:=match xs[j]?,ys[j]? with
 |some x,some y=>OT x y
 |_,_=>false
def Oe (xs ys:List V):Bool:=xs.length==ys.length&&(List.range xs.length).all (J2 xs ys)
theorem NT (ns:List Int):(ns.map V.int).all Cb=true:=by
 rw[List.all_eq_true];intro x hx;obtain⟨n,_,rfl⟩:=List.mem_map.mp hx;rfl
theorem NU (ns:List Str):(ns.map V.str).all Cb=true:=by
 rw[List.all_eq_true];intro x hx;obtain⟨n,_,rfl⟩:=List.mem_map.mp hx;rfl
theorem LQ {A:Around}{s:Shared}{xs ys:List V}{us ws:List Value}(r1:Vals xs us)(r2:Vals ys ws)(f1:xs.all Cb=true)(f2:ys.all Cb=true)(j:Nat)(h1:j < us.toArray.size)(h2:j < ws.toArray.size):
 SeqAt.EqAt A s us.toArray[j] ws.toArray[j] (J2 xs ys j):=by
 have g1:j < xs.length:=by rw[r1.length];simpa using h1
 have g2:j < ys.length:=by rw[r2.length];simpa using h2
 obtain⟨u,e1,q1⟩:=r1.get (List.getElem?_eq_getElem g1)
 obtain⟨v,e2,q2⟩:=r2.get (List.getElem?_eq_getElem g2)
 have d1:us.toArray[j]=u:=by
  rw[List.getElem?_eq_getElem (by simpa using h1)]at e1
  simpa using Option.some.inj e1
 have d2:ws.toArray[j]=v:=by
  rw[List.getElem?_eq_getElem (by simpa using h2)]at e2
  simpa using Option.some.inj e2
 rw[d1,d2];unfold J2;rw[List.getElem?_eq_getElem g1,List.getElem?_eq_getElem g2]
 exact OU q1 q2 (List.all_eq_true.mp f1 _ (List.getElem_mem g1)) (List.all_eq_true.mp f2 _ (List.getElem_mem g2))
end
section
variable {NL:List Str}{ix:List Nat}{g:TG}{tt:TT}{te:TE}{σ:St}{H1:Hp}{Qs:Hp->Prop}{acc:Addr}
theorem CG {K:PySem.W.Frag}{a:Addr}{xs:List V}(hn:xs.length < 1000)(Pv:Nat->List V->Hp->Prop)
 (hl:∀i ys H2,Pv i ys H2->Ah K H2 a xs)(hacc:∀i ys H2,Pv i ys H2->H2 acc=some (.lst ys)/\ys.length<=i)(h0:Pv 0 [] (upd H1 acc (.lst [])))(hstop:∀ys H2,Pv xs.length ys H2->Qs H2)
 (hturn:∀i x ys H2,xs[i]?=some x->Pv i ys H2->g x (BC NL ix σ) H2 λσ' H4=>σ'.drop NL.length=ix.map (λj=>σ.getD j none)/\tt σ' H4 λb H5=>
  if b=true then te σ' H5 λv H6=>H6 acc=some (.lst ys)/\Pv (i+1) (ys++[v]) (upd H6 acc (.lst (ys++[v])))else Pv (i+1) ys H5):
 ∃W:Nat->Nat->List V->Hp->Prop,(∃m,W 0 m [] (upd H1 acc (.lst [])))/\
 ∀i m ys H2,W i m ys H2->H2 acc=some (.lst ys)/\ys.length < sizeLine/\
  (((RK K a).stop i H2/\Qs H2)\/((RK K a).go i H2/\∃N:List V->Hp->Prop,(∀ys' H',N ys' H'->∃m',m' < m/\W (i+1) m' ys' H')/\
    ∀x H3,(RK K a).yld i H2 x H3->g x (BC NL ix σ) H3 λσ' H4=>σ'.drop NL.length=ix.map (λj=>σ.getD j none)/\tt σ' H4 λb H5=>
     if b=true then te σ' H5 λv H6=>H6 acc=some (.lst ys)/\N (ys++[v]) (upd H6 acc (.lst (ys++[v])))else N ys H5)):=by
 refine DB xs.length hn Pv hacc h0 (λys H2 hp=>⟨⟨xs,hl _ _ _ hp,Nat.le_refl _⟩,hstop ys H2 hp⟩) λi ys H2 hi hp=>?_
 have hs:=hl _ _ _ hp;refine⟨⟨xs,xs[i],hs,List.getElem?_eq_getElem hi⟩,?_⟩
 rintro x H3 ⟨rfl,hx⟩;exact hturn i x ys H3 (hx xs hs) hp
theorem ID {κ:SK}{xs:List V}(hn:xs.length < 1000)(Pv:Nat->List V->Hp->Prop)
 (hl:∀i ys H2,Pv i ys H2->κ.has H2 xs)(hacc:∀i ys H2,Pv i ys H2->H2 acc=some (.lst ys)/\ys.length<=i)(h0:Pv 0 [] (upd H1 acc (.lst [])))(hstop:∀ys H2,Pv xs.length ys H2->Qs H2)
 (hturn:∀(i:Nat) x ys H2 p,xs[i]?=some x->Pv i ys H2->H2 p=none->g (.ref p) (BC NL ix σ) (upd H2 p (.tup [.int i,x])) λσ' H4=>σ'.drop NL.length=ix.map (λj=>σ.getD j none)/\tt σ' H4 λb H5=>
  if b=true then te σ' H5 λv H6=>H6 acc=some (.lst ys)/\Pv (i+1) (ys++[v]) (upd H6 acc (.lst (ys++[v])))else Pv (i+1) ys H5):
 ∃W:Nat->Nat->List V->Hp->Prop,(∃m,W 0 m [] (upd H1 acc (.lst [])))/\
 ∀i m ys H2,W i m ys H2->H2 acc=some (.lst ys)/\ys.length < sizeLine/\
  (((RS κ).stop i H2/\Qs H2)\/((RS κ).go i H2/\∃N:List V->Hp->Prop,(∀ys' H',N ys' H'->∃m',m' < m/\W (i+1) m' ys' H')/\
    ∀x H3,(RS κ).yld i H2 x H3->g x (BC NL ix σ) H3 λσ' H4=>σ'.drop NL.length=ix.map (λj=>σ.getD j none)/\tt σ' H4 λb H5=>
     if b=true then te σ' H5 λv H6=>H6 acc=some (.lst ys)/\N (ys++[v]) (upd H6 acc (.lst (ys++[v])))else N ys H5)):=by
 refine DB xs.length hn Pv hacc h0 (λys H2 hp=>⟨⟨xs,hl _ _ _ hp,rfl⟩,hstop ys H2 hp⟩) λi ys H2 hi hp=>?_
 have hs:=hl _ _ _ hp;refine⟨⟨xs,xs[i],hs,List.getElem?_eq_getElem hi⟩,?_⟩
 rintro x H3 ⟨p,x',rfl,hpn,rfl,hx⟩;exact hturn i x' ys H2 p (hx xs hs) hp hpn
end
theorem JB (K:PySem.W.Frag):PySem.W.kitOne K (.type "int") (.type "bool")=some false:=by rfl
theorem J3 (K:PySem.W.Frag)(T:String):PySem.W.kitOne K (.type T) (.type T)=some true:=by
 unfold PySem.W.kitOne;rw[if_pos (beq_self_eq_true _)]
section
variable {p q:Addr}{H H1 H2:Hp}{o:HO}{c d:Int}
end
end L2
namespace L2
open PySem PySem.Spec PyProof.Rows
section
variable {X:Cx}
theorem NV (hu:X.A.units < cLine):C9 X (compareOp .NotEq) (λx y H Q=>∃a b xs ys,x=.ref a/\y=.ref b/\Ah X.K H a xs/\Ah X.K H b ys/\xs.all Cb=true/\ys.all Cb=true/\Q (.bl (!Oe xs ys)) H):=by
 intro pins s σ H x y v u Q I rx ry h;obtain⟨a,b,xs,ys,rfl,rfl,h1,h2,f1,f2,q⟩:=h;cases(show v=Value.ref a from rx)
 cases(show u=Value.ref b from ry)
 obtain⟨us,r1,l1,_⟩:=I.list h1;obtain⟨ws,r2,l2,_⟩:=I.list h2;have e1:=r1.length;have e2:=r2.length
 by_cases hl:xs.length=ys.length
 ·refine SeqAt.RcNeAt.lists (e:=J2 xs ys) l1.isList l2.isList (by simp;omega) hu (λj g1 g2=>LQ r1 r2 f1 f2 j g1 g2) _ _ _ _ ⟨.bl _,H,I,rfl,?_⟩
  have:Oe xs ys=(List.range us.toArray.size).all (J2 xs ys):=by
   unfold Oe;rw[List.size_toArray,<-e1,beq_iff_eq.mpr hl,Bool.true_and]
  rw[<-this];exact q
 ·refine SeqAt.RcNeAt.lists_lengths l1.isList l2.isList (by simp;omega) hu _ _ _ _ ⟨.bl _,H,I,rfl,?_⟩
  have:Oe xs ys=false:=by
   unfold Oe;have:(xs.length==ys.length)=false:=by simpa using hl
   rw[this];rfl
  rw[this]at q;exact q
end
end L2
namespace L2
open PySem PySem.Spec PyProof.Rows
section
variable {X:Cx}
theorem Cc {vs:List Value}{ss:List Str}(h:StrsAre vs ss):Vals (ss.map V.str) vs:=by
 induction h with
 |nil=>exact .nil
 |cons y t _ ih=>exact .cons ⟨t,rfl⟩ ih
theorem range_all (bs:List Bool):(List.range bs.length).all (λi=>bs.getD i true)=bs.all id:=by
 rw[Bool.eq_iff_iff,List.all_eq_true,List.all_eq_true]
 constructor
 ·intro h b hb
  obtain⟨i,hi,rfl⟩:=List.getElem_of_mem hb;have:=h i (List.mem_range.mpr hi);rw[List.getD_eq_getElem?_getD,List.getElem?_eq_getElem hi]at this
  exact this
 ·intro h i hi
  have hi':=List.mem_range.mp hi;rw[List.getD_eq_getElem?_getD,List.getElem?_eq_getElem hi']
  exact h _ (List.getElem_mem hi')
theorem DZ (hc:X.calm=true):Be X (.builtin "all") (λvs H Q=>∃(a:Addr) (bs:List Bool),vs=[.ref a]/\Ah X.K H a (bs.map V.bl)/\Q (.bl (bs.all id)) H):=by
 intro pins s σ H xs us Q I r h;obtain⟨a,bs,rfl,hl,q⟩:=h;obtain⟨u,rfl,ru⟩:=vals1 r;cases(show u=Value.ref a from ru)
 obtain⟨its,rv,ht,hz⟩:=I.list hl;have hlen:=rv.length;rw[List.length_map]at hlen;have hh:X.A.in1.handled=none:=I.ok.hd hc;have hlt:a < s.heap.objs.size:=by obtain⟨o,e,_⟩:=ht.isList;exact Heap.lt_size e
 refine call_all_walk (wpAny_pyIter_list ht.isList ⟨s.heap.objs.size,_,_,_,_,_,λi=>bs.getD i true,rfl,Walks.list hh s.heap.objs.size a (Nat.ne_of_lt hlt) its.toArray,?_,?_,?_⟩)
 ·exact⟨⟨_,Heap.get?_push_size _ rfl,rfl,rfl⟩,Heap.IsList.push ht.isList _⟩
 ·intro i v s' Q' E' hv hQ
  have hv':its[i]?=some v:=by simpa using hv
  have hi:i < (bs.map V.bl).length:=by rw[List.length_map,hlen];exact(List.getElem?_eq_some_iff.mp hv').1
  obtain⟨u',e1,e2⟩:=rv.get (List.getElem?_eq_getElem hi)
  rw[hv']at e1;cases e1;rw[List.getElem_map]at e2;cases(show v=Value.bool _ from e2)
  refine wpAny_truthy_bool ?_
  have hb:bs.getD i true=bs[i]'(by simpa using hi):=by rw[List.getD_eq_getElem?_getD,List.getElem?_eq_getElem (by simpa using hi)];rfl
  rw[<-hb];exact hQ
 ·intro h' tk hk
  refine⟨.bl (bs.all id),H,?_,?_,q⟩
  ·exact I.kept (t':=tk) λb o e=>hk b o (by simp;exact Nat.ne_of_lt (Heap.lt_size e)) (Heap.get?_push_of_some _ e)
  ·show Value.bool _=Value.bool _
   rw[<-range_all,hlen,List.size_toArray]
end
end L2
namespace L2
open PySem.W PyProof.Rows
section
variable {α β:Type}{n:Nat}{lt:Nat->Nat->Bool}
structure Vb (n:Nat)(lt:Nat->Nat->Bool):Prop where
 asym:∀i j,lt i j=true->lt j i=false
 tr:∀i j k,lt j i=false->lt k j=false->lt k i=false
 tot:∀i j,i < n->j < n->lt i j=false->lt j i=false->i=j
variable (o:Vb n lt)
include o
end
open PySem PySem.Spec
theorem SE {a b:Str}(h:a.cps.toList=b.cps.toList):a=b:=by
 obtain⟨x⟩:=a;obtain⟨y⟩:=b;have:x=y:=Array.toList_inj.mp h;rw[this]
section
variable {prog:Program}{w:World}{A:Around}{E:Value->Shared->Prop}{s:Shared}{Q:Bool->Shared->Prop}
variable {n:Nat}{K:Nat->List V}{sh:List Nat}{ks:List Value}
end
end L2
namespace L2
open PySem PySem.Spec PyProof.Rows PySem.W
theorem NW (as:List Addr):Vals (as.map V.ref) (as.map Value.ref):=by
 induction as with
 |nil=>exact .nil
 |cons a r ih=>exact .cons rfl ih
section
variable {prog:Program}{w:World}{A:Around}{E:Value->Shared->Prop}{s:Shared}{K:Nat->List V}{sh:List Nat}{vs:List Value}
end
section
variable {X:Cx}
end
end L2
namespace L2
open PySem PySem.Spec PyProof.Rows PySem.W
section
variable {X:Cx}{pins:List (Addr×Obj)}{σ:St}{H:Hp}{s:Shared}
theorem Inv.adopt {D:Addr}{o:HO}{h':Heap}{t':Nat}{oD:Obj}(I:Inv X pins σ H s)(f:CF X pins H D)(k:∀b u,b≠D->s.heap.get? b=some u->h'.get? b=some u)(new:Am X.prog X.w (upd H D o) h' D o)(hD:s.heap.get? D=some oD):
 Inv X pins σ (upd H D o) { s with heap:=h',toks:=t' }:=by
 have nD:∀b u,H b=some u->b≠D:=λb u e=>AL e f.1
 refine I.step (g':=s.gens) (d':=s.drawn) (ch:=[D]) (λb hb=>?_) (λb u _ _ hc e _=>k b u (λz=>hc (by simp[z])) e) (λb u _ _ hc e _=>⟨u.slots,k b u (λz=>hc (by simp[z])) e⟩)
  (λb u hc e n=>by rw[AO (λz=>hc (by simp[z]))];exact n) (λb u hc e=>⟨u,k b u (λz=>hc (by simp[z])) e⟩)
  (λb xs e=>by rw[AO (nD b _ e)];exact e) (λb ob u e=>by rw[AO (nD b _ e)];exact e) (λb ps e=>⟨#[],by rw[AO (nD b _ e),e];simp⟩) (λm hm=>?_) (λb u e=>?_) I.bare
 ·have e:b=D:=by simpa using hb
  subst e;exact⟨f.2.2.2.1,f.2.1,f.2.2.2.2.1,f.2.2.2.2.2⟩
 ·obtain⟨ob,es,ep,ho,r⟩:=hm
  exact⟨ob,es,ep,k _ ob (Ne.symm f.2.1) ho,r⟩
 ·by_cases hb:b=D
  ·subst hb;rw[AD]at e;cases e;exact new
  ·rw[AO hb]at e
   refine(I.hok b u e).Ek (λc v hc q=>k c v ?_ q) (λc q=>by rw[AO (nD c _ q)];exact q) λc xs q=>by rw[AO (nD c _ q)];exact q
   rcases hc with z|z
   ·rw[z];exact hb
   ·exact nD c _ z
end
end L2
namespace L2
open PySem PySem.Spec PyProof.Rows PySem.W
section
variable {prog:Program}{w:World}{A:Around}{E:Value->Shared->Prop}{s:Shared}
end
theorem MO:∀{xs:List V} {us:List Value},xs.length=us.length->(∀(i:Nat) (x:V) (u:Value),xs[i]?=some x->us[i]?=some u->RelV x u)->Vals xs us
 |[],[],_,_=>.nil
 |[],_::_,h,_=>by cases h
 |_::_,[],h,_=>by cases h
 |x::xs,u::us,h,k=>.cons (k 0 x u rfl rfl) (MO (by simpa using h) λi y v a b=>k (i+1) y v (by simpa using a) (by simpa using b))
section
variable {X:Cx}
end
end L2
namespace L2
open PySem PySem.Spec PyProof.Rows PySem.W
end L2
namespace L2
open PySem PySem.Spec PyProof.Rows PySem.W
theorem GU {X:Cx}(K:PySem.W.Frag)(hK:X.K=K:=by rfl):Tg X (UB K):=by
 subst hK;exact Av
end L2
namespace L2
open PySem PySem.Spec PyProof.Rows PySem.W
theorem He {ns:List Int}(h:∀n∈ns,n.natAbs < 10 ^ 12):PyData.showable (.list (ns.map .int))=true:=by
 simp only[PyData.showable];refine PyData.showableAll_ints ns λn hn=>?_
 rcases Nat.eq_zero_or_pos n.natAbs with z|z
 ·rw[z];decide
 ·exact(Nat.log2_lt (by omega)).mpr (Nat.lt_of_lt_of_le (Nat.lt_trans (h n hn) (show 10 ^ 12 < 2 ^ 40 by decide)) (Nat.pow_le_pow_right (by decide) (by decide)))
section
variable {X:Cx}{k:Nat}
theorem MP:bootBuiltins "repr"=some (.builtin "repr"):=by kernel_rfl
theorem JC (K:PySem.W.Frag)(hK:X.K=K:=by rfl):Tg X (UC K):=by
 subst hK;exact Aj
end
end L2
namespace L2
open PySem PySem.Spec PyProof.Rows PySem.W
end L2
namespace L2
open PySem PySem.Spec PyProof.Rows PySem.W
theorem Fu:∀ns:List Int,(∀n∈ns,n.natAbs < 10 ^ 12)->PyData.weightAll (ns.map .int)<=42*ns.length
 |[],_=>by simp[PyData.weightAll]
 |n::r,h=>by
  have a:=Fu r λm hm=>h m (List.mem_cons_of_mem _ hm)
  have b:PyData.weight (.int n)<=41:=by
   simp only[PyData.weight]
   split
   ·omega
   ·rename_i z
    have nz:n.natAbs≠0:=λe=>z (by rw[Int.natAbs_eq_zero.mp e];rfl)
    have:=(Nat.log2_lt nz (k:=40)).mpr (Nat.lt_trans (h n List.mem_cons_self) (by decide))
    omega
  simp only[List.map_cons,PyData.weightAll,List.length_cons];omega
section
variable {X:Cx}{k:Nat}
end
end L2
namespace L2
open PySem PySem.Spec PyProof.Rows PySem.W
def NX (z:Str):Str:=⟨z.cps.toList.reverse.toArray⟩
theorem Of (z:Str):(NX z).length=z.length:=by simp[NX,Str.length]
theorem Qb (n:Nat):Builtin.Str.strSliceIndices none none (-1) n=(List.range n).reverse:=by
 unfold Builtin.Str.strSliceIndices sliceRange
 dsimp only
 rw[if_neg (show¬((-1:Int) > 0) by decide),if_neg (show¬((-1:Int) > 0) by decide),if_neg (show¬((-1:Int) > 0) by decide)]
 have e:(if(n:Int) - 1 > -1 then((n:Int) - 1 - -1 - -1 - 1) / - -1 else 0).toNat=n:=by
  split
  ·rw[show(- -1:Int)=1 by decide,Int.ediv_one];omega
  ·omega
 rw[e];apply List.ext_getElem
 ·simp
 ·intro i h1 h2
  simp only[List.length_map,List.length_range]at h1;rw[List.getElem_map,List.getElem_range,List.getElem_reverse,List.getElem_range,List.length_range];omega
theorem NY (z:Str)(t tk:Tok):∀(Q:Value->Shared->Prop) (s:Shared),z.length<=sizeLine->(∀t' s',s'.heap=s.heap->s'.gens=s.gens->s'.drawn=s.drawn->s'.os=s.os->Q (.str (NX z) t') s')->(sliceMade z t none none (some (-1,tk))).post Q s:=by
 intro Q s hz h
 have cut:((slicePicked z none none (some (-1,tk))).filterMap (z.cps[·]?))=z.cps.toList.reverse:=by
  have p:=StrLaws.picks z.cps.toList z.length 0 (by simp[Str.length])
  unfold slicePicked;simp only[Option.map_none,Option.map_some,Option.getD_some];rw[Qb,List.filterMap_reverse]
  congr 1
  have e1:(List.range z.length).map (λk=>0+k)=List.range z.length:=by simp
  rw[e1,List.drop_zero,List.take_of_length_le (by simp[Str.length])]at p
  rw[<-p]
  congr 1
  funext k
  simp
 unfold sliceMade
 split
 ·rename_i c
  simp at c
 ·rw[cut]
  have hl':(⟨z.cps.toList.reverse.toArray⟩:Str).length<=sizeLine:=by
   have:=Of z;unfold NX at this;omega
  first
   |exact⟨hl',h _ _ rfl rfl rfl rfl⟩
   |exact h _ _ rfl rfl rfl rfl
section
variable {X:Cx}{e st:Expr}{te:TE}{ts:TO}{pos p2:Pos}
def Vc (te:TE)(ts:TO):TE:=λσ H Q=>te σ H λx H1=>ts σ H1 λo H2=>o=some (-1)/\∃z,x=.str z/\z.length<=sizeLine/\Q (.str (NX z)) H2
theorem SF (he:PE X e te)(hs:PO X (some st) ts):PE X (.Subscript e (.Slice none none (some st) p2) pos) (Vc te ts):=by
 intro pins s σ H Q I h;refine Subscript_ (A8 (he pins s σ H _ I h) λv s1 ⟨x,H1,I1,r1,q1⟩=>?_)
 refine wpAny_Slice ?_
 rw[evalPart_none];refine wpAny_pure (wpAny_pure ?_)
 refine A8 (hs pins s1 σ H1 _ I1 q1) λvs s3 ⟨o,H3,I3,po,q3⟩=>?_
 obtain⟨rfl,z,rfl,hz,q⟩:=q3;obtain⟨t,rfl⟩:=r1;cases po with
 |int i tk=>
 have I4:Inv X pins σ H3 { s3 with heap:=s3.heap.push { cls:=.type "slice",data:=.fields #[.none,.none,.int (-1) tk] } }:=I3.kept (t':=s3.toks) λb ob q=>Heap.get?_push_of_some _ q
 show wpAny (model X.prog X.w) X.A (subscriptTail e (.Slice none none (some st) p2) (.str z t) (.ref s3.heap.objs.size)) (EP X pins σ Q) X.xe { s3 with heap:=s3.heap.push { cls:=.type "slice",data:=.fields #[.none,.none,.int (-1) tk] } }
 refine tail_any (ops:=[.str z t,.ref s3.heap.objs.size]) (T:="str") (typeIs_str _ z t) F.slot_str_getitem.lookup ?_ (by with_unfolding_all rfl)
 refine wpAny_getItem_str_slice (l:=none) (u:=none) (st:=some (-1,tk)) (Heap.IsSliceOf.new ..) rfl (NY z t tk _ _ hz λt' s' e1 e2 e3 e4=>⟨.str _,H3,?_,⟨t',rfl⟩,q⟩)
 obtain⟨hp,g,d,tk',os⟩:=s';cases e1;cases e2;cases e3;cases e4;exact I4.tok tk'
end
section
variable {X:Cx}{k:Nat}
end
section
variable {X:Cx}{k:Nat}
end
end L2
namespace L2
open PySem PySem.Spec PyProof.Rows PySem.W
def keyOf (e:Int×Value):Str:=match e.2 with|.str x _=>x|_=>Str.empty
structure CK (w:World)(led:Bool)(es:Array (Int×Value))(t:SetTable)(S:List Str):Prop where
 ent:∀e∈es.toList,∃x tk,e=(hashStr w x,Value.str x tk)
 nd:(es.toList.map keyOf).Nodup
 mem:∀x,x∈es.toList.map keyOf↔x∈S
 fit:t.fits es.size=true
 led:t.led=led
 pl:es.size=0\/t.plain=false
theorem IE (t:SetTable)(es:Array (Int×Value))(n:Nat):(relayAll t es n).2.1.led=t.led/\(t.plain=false->(relayAll t es n).2.1.plain=false):=by
 unfold relayAll;cases e:t.relaid (es.map (·.1)) n with
 |none=>exact⟨rfl,λ_=>rfl⟩
 |some p=>
  obtain⟨t',order⟩:=p
  dsimp only
  have hl:t'.led=t.led/\t'.plain=t.plain:=by
   unfold SetTable.relaid SetTable.laid at e;cases e2:SetTable.layClean (SetTable.sizeAbove n - 1) (es.map (·.1))with
   |none=>rw[e2]at e;cases e
   |some o=>
    rw[e2]at e;injection e with e
    injection e with e1 e3
    rw[<-e1];exact⟨rfl,rfl⟩
  split
  ·exact⟨hl.1,λh=>by rw[hl.2];exact h⟩
  ·exact⟨rfl,λ_=>rfl⟩
theorem SG (t:SetTable)(n:Nat):(t.orStandIn n).led=t.led:=by
 unfold SetTable.orStandIn
 split<;>rfl
theorem MQ (t:SetTable)(es:Array (Int×Value))(h:Int)(x:Value):(layNew t es h x).2.1.led=t.led:=by
 unfold layNew;cases e:t.freeSlot h with
 |none=>rfl
 |some p=>
  obtain⟨slot,wd⟩:=p;exact SG _ _
theorem B2 {a b:List (Int×Value)}(p:a.Perm b):(a.map keyOf).Perm (b.map keyOf):=p.map _
theorem CK.grow {w:World}{led:Bool}{es es':Array (Int×Value)}{t t':SetTable}{S:List Str}{x:Str}{tk:Tok}(h:CK w led es t S)(nx:x∉S)(p:es'.toList.Perm (es.push (hashStr w x,.str x tk)).toList)(f:t'.fits es'.size=true)(l:t'.led=led)(q:t'.plain=false):CK w led es' t' (S++[x]) where
 ent:=λe he=>by
  have:=p.mem_iff.mp he;rw[Array.toList_push]at this
  rcases List.mem_append.mp this with z|z
  ·exact h.ent e z
  ·exact⟨x,tk,List.mem_singleton.mp z⟩
 nd:=by
  rw[(B2 p).nodup_iff,Array.toList_push,List.map_append,List.nodup_append];refine⟨h.nd,by simp,λa ha b hb=>?_⟩
  have hb':b=x:=by simpa[keyOf]using hb
  subst hb';exact λe=>nx (by rw[<-e];exact(h.mem a).mp ha)
 mem:=λy=>by
  rw[(B2 p).mem_iff,Array.toList_push,List.map_append,List.mem_append,List.mem_append,h.mem y];simp[keyOf]
 fit:=f
 led:=l
 pl:=.inr q
theorem CK.RT {w:World}{led:Bool}{es:Array (Int×Value)}{t:SetTable}{S:List Str}(h:CK w led es t S)(q:t.plain=false)(n:Nat):CK w led (relayAll t es n).1 (relayAll t es n).2.1 S where
 ent:=λe he=>h.ent e ((relayAll_perm t es n).mem_iff.mp he)
 nd:=by rw[(B2 (relayAll_perm t es n)).nodup_iff];exact h.nd
 mem:=λy=>by rw[(B2 (relayAll_perm t es n)).mem_iff];exact h.mem y
 fit:=relayAll_fits t es n
 led:=(IE t es n).1.trans h.led
 pl:=.inr ((IE t es n).2 q)
structure Ak (w:World)(led:Bool)(h:Heap)(a:Addr)(S:List Str)(n:Nat):Prop where
 ex:∃es ep t,h.get? a=some { cls:=.type "set",data:=.set es ep t }/\CK w led es t S/\es.size<=n
section
variable {prog:Program}{w:World}{A:Around}{E:Value->Shared->Prop}{s:Shared}
theorem Bn {a:Addr}{es es':Array (Int×Value)}{ep:Nat}{t t':SetTable}{Q:Unit->Shared->Prop}(ha:s.heap.get? a=some { cls:=.type "set",data:=.set es ep t })(hz:es'.size<=sizeLine)
 (h:∀h',Heap.SameBut a s.heap h'->h'.get? a=some { cls:=.type "set",data:=.set es' (ep+1) t' }->Q () { s with heap:=h' }):wpAny (model prog w) A (storeSet a es' t') Q E s:=by
 unfold storeSet;refine wpAny_bind (wpAny_load ha ?_)
 dsimp only
 rw[if_neg (by omega)]
 refine wpAny_update ha (h _ (Heap.SameBut.update ..) ?_)
 rw[Heap.get?_update_self _ ha rfl]
 rfl
theorem GA {b:Bool}{Q:Unit->Shared->Prop}(h:Q () s):wpAny (model prog w) A (match b with|true=>rule "set.scan.the-table-gave-way"|false=>pure ()) Q E s:=by
 cases b with
 |true=>exact wpAny_rule h
 |false=>exact wpAny_pure h
theorem Og {a:Addr}{S:List Str}{n:Nat}{led:Bool}{x:Str}{tk:Tok}{Q:Bool->Shared->Prop}(ha:Ak w led s.heap a S n)(hn:n+1 < scanBound)
 (h:∀b h',Heap.SameBut a s.heap h'->Ak w led h' a (S++[x]) (n+1)->Q b { s with heap:=h',toks:=s.toks+1 }):wpAny (model prog w) A (setAdd a (.str x tk)) Q E s:=by
 obtain⟨es,ep,t,hget,hS,hsz⟩:=ha;have hsc:scanBound=4096:=rfl;have is:(strKind prog w).is x (.str x tk)=true:=by show(x==x)=true;exact beq_self_eq_true x
 have elems:ElemsOf (strKind prog w) es.toList:=λe he=>by
  obtain⟨y,tk',rfl⟩:=hS.ent e he;exact⟨⟨y,by show(y==y)=true;exact beq_self_eq_true y,rfl⟩,rfl⟩
 unfold setAdd;refine wpAny_holding (wpAny_bind ((strKind prog w).pyHash is ?_))
 unfold setAddHashed;refine wpAny_holding ?_
 rw[setAddHashedIn.eq_def];show wpAny _ _ (setState a >>= _) _ _ _;refine wpAny_bind (wpAny_setState_of (s:={ s with toks:=s.toks+1 }) hget rfl hS.fit ?_)
 have bs:byScan (.str x tk) es=true:=by
  unfold byScan;have h1:(Value.str x tk).scannable=true:=rfl
  have h2:(es.all λe=>e.2.scannable)=true:=by
   rw[Array.all_eq_true_iff_forall_mem];intro e he;exact(elems e (Array.mem_toList_iff.mpr he)).2
  rw[h1,h2,decide_eq_true (by omega)];rfl
 dsimp only
 rw[if_pos bs];refine wpAny_bind ?_
 unfold setAddByScan;refine wpAny_bind (wpAny_rule (wpAny_bind (wpAny_setScan_of (s:={ s with toks:=s.toks+1 }) is hget rfl hS.fit elems ?_)))
 cases ef:List.findIdx? (λe=>(strKind prog w).is x e.2) es.toList with
 |some j=>
  dsimp only
  refine wpAny_pure (wpAny_pure ?_)
  have xin:x∈S:=by
   rw[<-hS.mem x];obtain⟨hj,hp,_⟩:=List.findIdx?_eq_some_iff_getElem.mp ef
   have hm:=List.getElem_mem hj;obtain⟨y,tk',e⟩:=hS.ent _ hm;rw[e]at hp;have:y=x:=eq_of_beq (show(y==x)=true from hp)
   subst this;exact List.mem_map.mpr ⟨_,hm,by rw[e];rfl⟩
  refine h false s.heap (Heap.SameBut.refl ..) ⟨es,ep,t,hget,⟨hS.ent,hS.nd,λy=>?_,hS.fit,hS.led,hS.pl⟩,by omega⟩
  rw[hS.mem y,List.mem_append]
  constructor
  ·exact .inl
  ·rintro(z|z)
   ·exact z
   ·rw[List.mem_singleton.mp z];exact xin
 |none=>
  dsimp only
  have xout:x∉S:=λhin=>by
   rw[<-hS.mem x]at hin;obtain⟨e,he,ek⟩:=List.mem_map.mp hin;have:=List.findIdx?_eq_none_iff.mp ef e he
   obtain⟨y,tk',rfl⟩:=hS.ent e he;have ey:y=x:=ek;subst ey;exact absurd (show(strKind prog w).is y (.str y tk')=true from(by show(y==y)=true;exact beq_self_eq_true y)) (by rw[this];simp)
  have lp:=layNew_perm t es ((strKind prog w).hash x) (.str x tk);have lf:=layNew_fits t es ((strKind prog w).hash x) (.str x tk);have ll:=MQ t es ((strKind prog w).hash x) (.str x tk);have lz:=lp.length_eq;rw[Array.length_toList,Array.length_toList,Array.size_push]at lz;generalize layNew t es ((strKind prog w).hash x) (.str x tk)=L at lp lf ll lz;obtain⟨es1,t1,wd,gv⟩:=L
  dsimp only at lp lf ll lz ⊢
  have zl:sizeLine=268435455\/4096<=sizeLine:=.inr (by rw[sizeLine_eq];decide)
  have zz:es1.size<=sizeLine:=by rcases zl with z|z<;>omega
  refine wpAny_bind (GA ?_)
  have fin:∀t2:SetTable,t2.fits es1.size=true->t2.led=led->t2.plain=false->
   wpAny (model prog w) A (do
    storeSet a es1 t2
    have __do_jp:Unit->Sem (Option Bool):=λ__r=>pure (some true)
    if(!wd&&t2.tooFull)=true then
     match relayAll t2 es1 (SetTable.grown es1.size)with
     |(es,t,gave)=>do
      (match gave with|true=>rule "set.scan.the-table-gave-way"|false=>pure ())
      let __r<-storeSet a es t
      __do_jp __r
    else __do_jp ()) (λr s'=>wpAny (model prog w) A (match r with|some added=>pure added|none=>setAddHashedIn a (.str x tk) ((strKind prog w).hash x) 99999) Q E s') E { s with toks:=s.toks+1 }:=λt2 f2 l2 p2=>by
   have g:=hS.grow (es':=es1) (t':=t2) (tk:=tk) xout lp f2 l2 p2;refine wpAny_bind (Bn (s:={ s with toks:=s.toks+1 }) hget zz λh1 sb1 hg1=>?_)
   dsimp only
   split
   ·have gr:=g.RT p2 (SetTable.grown es1.size)
    have rz:=(relayAll_perm t2 es1 (SetTable.grown es1.size)).length_eq;rw[Array.length_toList,Array.length_toList]at rz;generalize relayAll t2 es1 (SetTable.grown es1.size)=Rr at gr rz;obtain⟨es3,t3,gv3⟩:=Rr
    dsimp only at gr rz ⊢
    refine wpAny_bind (GA ?_)
    refine wpAny_bind (Bn (s:={ s with heap:=h1,toks:=s.toks+1 }) hg1 (by omega) λh2 sb2 hg2=>?_)
    refine wpAny_pure (wpAny_pure ?_)
    exact h true h2 (sb1.trans sb2) ⟨es3,_,t3,hg2,gr,by omega⟩
   ·refine wpAny_pure (wpAny_pure ?_)
    exact h true h1 sb1 ⟨es1,_,t2,hg1,g,by omega⟩
  by_cases hp:t1.plain=true
  ·rw[if_pos hp,hashByValue.eq_5]
   refine wpAny_bind (wpAny_pure ?_)
   have ff:=fin { mask:=t1.mask,place:=t1.place,dummies:=t1.dummies,finger:=t1.finger,led:=t1.led,moves:=t1.moves,plain:=false } lf (ll.trans hS.led) rfl;exact ff
  ·rw[if_neg hp]
   refine wpAny_bind (wpAny_pure ?_)
   have ff:=fin t1 lf (ll.trans hS.led) (by simpa using hp)
   exact ff
end
end L2
namespace L2
open PySem PySem.Spec PyProof.Rows PySem.W
def AQ (w:World):Bool:=!w.params.followText "set-order"
section
variable {prog:Program}{w:World}{A:Around}{E:Value->Shared->Prop}{s:Shared}
theorem Bu {Q:Bool->Shared->Prop}(h:Q (w.params.followText "set-order") s):wpAny (model prog w) A setsByText Q E s:=by
 unfold setsByText;exact wpAny_bind (wpAny_askSetting (wpAny_pure h))
theorem FR (a:Value){Q₁:Value->Shared->Prop}(h:Q₁ (.ref s.heap.objs.size) { s with heap:=s.heap.push { cls:=.type "set",data:=.set #[] 0 (SetTable.fresh 0 0 (AQ w)) } }):
 codeAny (model prog w) A (.call (.builtin "set.__new__") ⟨[.type "set",a],[]⟩) (wants Q₁ E) s:=by
 refine codeAny_call_builtin F.plain_set_new F.entry_set_new ?_
 rw[F.newCall_set_1];refine wpAny_pure ?_
 unfold Builtin.«set.__new__» Builtin.Frozenset.newClass
 dsimp only
 refine wpAny_bind (wpAny_bind ?_)
 show wpAny _ _ (pure true) _ _ _;refine wpAny_pure ?_
 rw[if_neg (by decide)]
 refine wpAny_bind ?_
 rw[F.sub_set_set];refine wpAny_pure ?_
 rw[if_neg (by decide)]
 refine wpAny_pure ?_
 unfold newSet;refine wpAny_bind (wpAny_bind (Bu ?_))
 dsimp only
 refine wpAny_newObj_type ?_
 exact wpAny_pure h
theorem Ak.keeps {led:Bool}{h h':Heap}{a:Addr}{S:List Str}{n:Nat}(x:Ak w led h a S n)(k:∀o,h.get? a=some o->h'.get? a=some o):Ak w led h' a S n:=by
 obtain⟨es,ep,t,e,r⟩:=x;exact⟨es,ep,t,k _ e,r⟩
theorem Ak.start {h:Heap}{a:Addr}{led:Bool}(e:h.get? a=some { cls:=.type "set",data:=.set #[] 0 (SetTable.fresh 0 0 led) }):Ak w led h a [] 0:=
 ⟨#[],0,_,e,⟨λx hx=>by simp at hx,by simp,λx=>by simp,by rfl,rfl,.inl rfl⟩,Nat.le_refl _⟩
theorem Ak.typeIs {led:Bool}{a:Addr}{S:List Str}{n:Nat}(x:Ak w led s.heap a S n):s.TypeIs (.ref a) "set":=by
 obtain⟨es,ep,t,e,r⟩:=x;exact⟨_,e,rfl⟩
theorem J5 {led:Bool}{l I S:Addr}{items:Array Value}{ss:List Str}{R:Result->Shared->Prop}(hv:StrsAre items.toList ss)(hh:A.handled=none)(lI:l≠I)(SI:S≠I)(Sl:S≠l)(hn:items.size+1 < scanBound):
 ∀(k i:Nat) (s:Shared),items.size - i=k->i<=items.size->s.heap.IsListIter I l i->s.heap.IsList l items->Ak w led s.heap S (ss.take i) i->
  (∀h' tk,(∀b o,b≠I->b≠S->s.heap.get? b=some o->h'.get? b=some o)->Ak w led h' S ss items.size->R (.ok (.ret .none)) { s with heap:=h',toks:=tk })->
  codeAny (model prog w) A (.builtin "set.update.loop" ⟨[.ref S,.ref I],[]⟩) R s
 |0,i,s,hk,hi,h1,h2,h3,h=>by
  have ei:i=items.size:=by omega
  subst ei;refine codeAny_builtin F.entry_set_update_loop ?_
  rw[Around.under_plainId F.plain_set_update_loop _];show wpAny _ A.in1 (pyNext (.ref I) >>= _) _ _ s;have Wk:=Walks.list (prog:=prog) (w:=w) (A:=A.in1) hh I l lI items;have sl:ss.length=items.size:=by have:=hv.length;simpa using this.symm
  refine wpAny_bind (Wk.done s _ _ ⟨h1,h2⟩ λh' tk kp=>wpAny_pure ?_)
  refine h h' tk (λb o n1 _ e=>kp b o (by simpa using n1) e) ?_
  have:=h3.keeps (h':=h') λo e=>kp S o (by simpa using SI) e
  rw[List.take_of_length_le (by omega)]at this
  exact this
 |k+1,i,s,hk,hi,h1,h2,h3,h=>by
  have il:i < items.size:=by omega
  refine codeAny_builtin F.entry_set_update_loop ?_
  rw[Around.under_plainId F.plain_set_update_loop _];show wpAny _ A.in1 (pyNext (.ref I) >>= _) _ _ s;have Wk:=Walks.list (prog:=prog) (w:=w) (A:=A.in1) hh I l lI items;have sl:ss.length=items.size:=by have:=hv.length;simpa using this.symm
  refine wpAny_bind (Wk.item i s _ _ il ⟨h1,h2⟩ λv h' tk hP hSt kp=>?_)
  obtain⟨x,tkx,rfl,hx⟩:∃x tkx,v=.str x tkx/\ss[i]?=some x:=by
   have hx:ss[i]?=some (ss[i]'(by omega)):=List.getElem?_eq_getElem _
   obtain⟨u,e1,e2⟩:=(Cc hv).get (i:=i) (x:=V.str (ss[i]'(by omega))) (by rw[List.getElem?_map,hx];rfl)
   rw[Array.getElem?_toList,hP]at e1
   cases e1;obtain⟨tkx,e3⟩:=e2;exact⟨_,tkx,e3,hx⟩
  have h3':=h3.keeps (h':=h') λo e=>kp S o (by simpa using SI) e
  dsimp only
  refine wpAny_bind (wpAny_holding (Og (s:={ s with heap:=h',toks:=tk }) h3' (by omega) λb h2' sb hA=>?_))
  refine wpAny_pure ⟨plainId_quiet F.plain_set_update_loop _,?_⟩
  have et:ss.take i++[x]=ss.take (i+1):=by rw[List.take_succ,hx];rfl
  rw[et]at hA;refine J5 hv hh lI SI Sl hn k (i+1) { s with heap:=h2',toks:=tk+1 } (by omega) (by omega) ?_ ?_ hA λh4 tk4 k4 hA4=>?_
  ·exact hSt.1.at λo e=>sb.extBut _ _ (Ne.symm SI) e
  ·obtain⟨o,e,r⟩:=hSt.2
   exact⟨o,sb.extBut _ _ (Ne.symm Sl) e,r⟩
  ·exact h h4 tk4 (λb o n1 n2 e=>k4 b o n1 n2 (sb.extBut _ _ n2 (kp b o (by simpa using n1) e))) hA4
end
end L2
namespace L2
open PySem PySem.Spec PyProof.Rows PySem.W
section
variable {prog:Program}{w:World}{A:Around}{E:Value->Shared->Prop}{s:Shared}
theorem Oh:typeNameCut 200 (Value.type "set")=pure "set":=by kernel_rfl
theorem Oi {D l:Addr}{items:Array Value}{ss:List Str}{Pf:PySem.Fin->Shared->Prop}(hget:s.heap.get? D=some { cls:=.type "set",data:=.set #[] 0 (SetTable.fresh 0 0 (AQ w)) })(hl:s.heap.IsList l items)(Dl:D≠l)(hv:StrsAre items.toList ss)(hh:A.handled=none)(hn:items.size+1 < scanBound)
 (h:∀h' tk,(∀b o,b≠D->s.heap.get? b=some o->h'.get? b=some o)->Ak w (AQ w) h' D ss items.size->Pf (.done (.ret .none)) { s with heap:=h',toks:=tk }):
 wpAny (model prog w) A (Builtin.«set.__init__» ⟨[.ref D,.ref l],[]⟩) Pf E s:=by
 have hT:s.TypeIs (.ref D) "set":=⟨_,hget,rfl⟩;have hTl:s.TypeIs (.ref l) "list":=by obtain⟨o,e,r,_⟩:=hl;exact⟨o,e,r⟩
 unfold Builtin.«set.__init__»;refine wpAny_bind ?_
 unfold noKeywords;show wpAny _ _ (pure ()) _ _ _;refine wpAny_pure ?_
 dsimp only
 unfold typeNameOfCut shownTypeOf;refine wpAny_bind (wpAny_bind (wpAny_bind (wpAny_typeOf hT ?_)))
 rw[if_neg (by decide)]
 refine wpAny_pure ?_
 rw[Oh];refine wpAny_pure ?_
 refine wpAny_bind ?_
 unfold checkCount;show wpAny _ _ (pure ()) _ _ _;refine wpAny_pure ?_
 refine wpAny_bind ?_
 show wpAny _ _ (pure D) _ _ _;refine wpAny_pure ?_
 refine wpAny_bind ?_
 unfold setUsed;refine wpAny_bind (wpAny_setState_of hget rfl rfl (wpAny_pure ?_))
 have hfill:(((#[],0,SetTable.fresh 0 0 (AQ w)):Array (Int×Value)×Nat×SetTable).2.2.fill !=0)=false:=rfl;rw[hfill,if_neg (by decide)]
 refine wpAny_bind ?_
 unfold Builtin.Frozenset.updateFrom;refine wpAny_bind ?_
 unfold Builtin.Frozenset.isAnySet;refine wpAny_bind (wpAny_isInstance hTl F.sub_list_set ?_)
 refine wpAny_isInstance hTl F.sub_list_frozenset ?_
 rw[if_neg (by decide)]
 refine wpAny_bind (wpAny_typeOf hTl ?_)
 rw[if_neg (by decide)]
 have lD:l < s.heap.objs.size:=by obtain⟨o,e,_⟩:=hl;exact Heap.lt_size e
 have DD:D < s.heap.objs.size:=Heap.lt_size hget;refine wpAny_bind (wpAny_pyIter_list hl ?_)
 refine wpAny_bind (wpAny_runValue ?_)
 refine J5 (led:=AQ w) (l:=l) hv (show A.handled=none from hh) (Nat.ne_of_lt lD) (Nat.ne_of_lt DD) Dl hn items.size 0 { s with heap:=s.heap.push { cls:=.type "list_iterator",data:=.fields #[.ref l,.int 0 0] } } (Nat.sub_zero _) (Nat.zero_le _) ⟨_,Heap.get?_push_size _ rfl,rfl,rfl⟩ (Heap.IsList.push hl _) (Ak.start (Heap.get?_push_of_some _ hget)) λh' tk kp hA=>?_
 refine wpAny_pure (wpAny_pure ?_)
 exact h h' tk (λb o n e=>kp b o (Nat.ne_of_lt (Heap.lt_size e)) n (Heap.get?_push_of_some _ e)) hA
theorem J6 {l:Addr}{items:Array Value}{ss:List Str}{Q:Value->Shared->Prop}(hl:s.heap.IsList l items)(hv:StrsAre items.toList ss)(hh:A.handled=none)(hn:items.size+1 < scanBound)
 (h:∀h' tk,(∀b o,s.heap.get? b=some o->h'.get? b=some o)->Ak w (AQ w) h' s.heap.objs.size ss items.size->Q (.ref s.heap.objs.size) { s with heap:=h',toks:=tk }):
 wpAny (model prog w) A (call (.type "set") [.ref l]) Q E s:=by
 have hlt:l < s.heap.objs.size:=by obtain⟨o,e,_⟩:=hl;exact Heap.lt_size e
 obtain⟨c,tl,hmro⟩:=F.called_set.mro;refine wpAny_call (codeAny_of_tree ?_)
 show wpAny _ _ (pure (Fin.again (.builtin "type.__call__" ⟨[.type "set",.ref l],[]⟩))) _ _ _;refine wpAny_pure ⟨Code.quiet_builtin _ (by decide+kernel),codeAny_builtin F.entry_type_call ?_⟩
 rw[Around.under_plain (weight_type_call_type "set" [.ref l] []) rfl];unfold Builtin.«type.__call__»
 dsimp only
 rw[if_neg (by decide),if_neg (by rw[F.called_set.canCreate];decide)]
 refine wpAny_bind ?_
 rw[F.typeCall_set_1];refine wpAny_pure ?_
 refine wpAny_bind ?_
 rw[hmro];refine wpAny_pure ?_
 rw[if_neg (by simp)]
 refine wpAny_bind ?_
 rw[F.called_set.made];refine wpAny_pure ?_
 dsimp only
 refine wpAny_bind (wpAny_pure ?_)
 refine wpAny_bind (wpAny_holding (wpAny_call ?_))
 refine FR _ ?_
 have hget:(s.heap.push { cls:=.type "set",data:=.set #[] 0 (SetTable.fresh 0 0 (AQ w)) }).get? s.heap.objs.size=some { cls:=.type "set",data:=.set #[] 0 (SetTable.fresh 0 0 (AQ w)) }:=Heap.get?_push_size _ rfl
 have hT:({ s with heap:=s.heap.push { cls:=.type "set",data:=.set #[] 0 (SetTable.fresh 0 0 (AQ w)) } }:Shared).TypeIs (.ref s.heap.objs.size) "set":=⟨_,hget,rfl⟩
 refine wpAny_bind (wpAny_isInstance hT F.called_set.sub ?_)
 rw[if_neg (by decide)]
 refine wpAny_bind (wpAny_holding ?_)
 refine wpAny_callSpecial?_slot hT F.called_set.init (wpAny_call (codeAny_call_builtin F.called_set.init.plain F.entry_set_init (check_set_init_1 hT ?_)))
 refine Oi (s:={ s with heap:=s.heap.push { cls:=.type "set",data:=.set #[] 0 (SetTable.fresh 0 0 (AQ w)) } }) hget (Heap.IsList.push hl _) (Ne.symm (Nat.ne_of_lt hlt)) hv hh hn λh' tk kp hA=>?_
 dsimp only
 rw[if_neg (by decide)]
 refine wpAny_pure ?_
 exact h h' tk (λb o e=>kp b o (Nat.ne_of_lt (Heap.lt_size e)) (Heap.get?_push_of_some _ e)) hA
end
end L2
namespace L2
open PySem PySem.Spec PyProof.Rows PySem.W
theorem A7:Slot "set_iterator" (Str.ofString "__next__") "set_iterator.__next__":=Slot.of (owner:="set_iterator") (n:="__next__") (by kernel_rfl) (by kernel_rfl) (by kernel_rfl) (by kernel_rfl) (.inl (by kernel_rfl)) (by kernel_rfl)
theorem F4:entryFor table "set_iterator.__next__"=some Builtin.«set_iterator.__next__»:=by kernel_rfl
theorem Dc:entryFor table "set.__iter__"=some Builtin.«frozenset.__iter__»:=by kernel_rfl
theorem J7:List.lookup (String.ofList ['r','o','t','a','r','e','t','i','_','t','e','s'].reverse) Manifest.owners=some Manifest.sig_set_iterator:=by kernel_rfl
theorem GV (a:Value):argsOk "set_iterator.__next__" { pos:=[a] }:=by
 show(match Manifest.signature? "set_iterator.__next__" with|some sig=>Bind.checkArgs "set_iterator.__next__" sig { pos:=[a] }|none=>pure ())=pure ()
 rw[signature?_of (id:="set_iterator.__next__") (n:=['_','_','t','x','e','n','_','_']) (o:=['r','o','t','a','r','e','t','i','_','t','e','s']) (by kernel_rfl) J7]
 kernel_rfl
theorem FT {α:Type}:∀{xs:List α} {i:Nat} {x:α},xs[i]?=some x->(x::xs.eraseIdx i).Perm xs
 |[],i,x,h=>by simp at h
 |y::ys,0,x,h=>by
  have:y=x:=by simpa using h
  subst this;exact List.Perm.refl _
 |y::ys,i+1,x,h=>by
  have ih:=FT (xs:=ys) (i:=i) (x:=x) (by simpa using h)
  rw[List.eraseIdx_cons_succ];exact(List.Perm.swap y x _).trans (ih.cons y)
theorem MR {α:Type}(next:Nat->Nat):∀(fuel k:Nat) (left:List α) (out:Array α),left.length=fuel->(pickOrder.go next fuel k left out).toList.Perm (out.toList++left)
 |0,k,left,out,h=>by
  rw[pickOrder.go.eq_1];have:left=[]:=List.length_eq_zero_iff.mp h;rw[this,List.append_nil]
 |fuel+1,k,left,out,h=>by
  have lt:next k % left.length < left.length:=Nat.mod_lt _ (by omega)
  have e:left[next k % left.length]?=some left[next k % left.length]:=List.getElem?_eq_getElem lt
  rw[pickOrder.go.eq_2,e]
  dsimp only
  refine(MR next fuel (k+1) _ _ (by rw[List.length_eraseIdx_of_lt lt];omega)).trans ?_
  rw[Array.toList_push,List.append_assoc];exact List.Perm.append_left _ (FT e)
theorem Cw {α:Type}(next:Nat->Nat)(xs:Array α):(pickOrder next xs).toList.Perm xs.toList:=by
 unfold pickOrder;have:=MR next xs.size 0 xs.toList #[] (by simp)
 simpa using this
section
variable {prog:Program}{w:World}{A:Around}{E:Value->Shared->Prop}
theorem NZ {s:Shared}{src:Source}{n:Nat}{Q:Nat->Shared->Prop}(hn:n≠0)(h:∀i d,i < n->Q i { s with drawn:=d }):wpAny (model prog w) A (choose src n) Q E s:=by
 intro Γ p hΓ;unfold choose;rw[Sem.wp_choose];refine⟨hn,?_⟩
 rw[Sem.wp_pure];exact h _ _ (Nat.mod_lt _ (by omega))
theorem GB {α:Type}:∀(n:Nat) (xs:List α) (s:Shared) (Q:List α->Shared->Prop),xs.length=n->(∀ys d,ys.Perm xs->Q ys { s with drawn:=d })->wpAny (model prog w) A (drawOrder n xs) Q E s
 |0,xs,s,Q,h,q=>by
  rw[drawOrder.eq_1];have:xs=[]:=List.length_eq_zero_iff.mp h;subst this;exact wpAny_pure (q [] s.drawn (List.Perm.refl _))
 |n+1,xs,s,Q,h,q=>by
  rw[drawOrder.eq_3 _ _ (λe=>by rw[e]at h;cases h)]
  refine wpAny_bind (NZ (by omega) λi d hi=>?_)
  have e:xs[i]?=some xs[i]:=List.getElem?_eq_getElem hi
  rw[e]
  dsimp only
  refine wpAny_bind (GB n (xs.eraseIdx i) _ _ (by rw[List.length_eraseIdx_of_lt hi];omega) λys d' hp=>?_)
  exact wpAny_pure (q _ _ ((hp.cons _).trans (FT e)))
theorem IF (p:Nat):SetTable.below #[p] 0=0/\SetTable.below #[p] (p+1)=1:=by
 constructor
 ·simp[SetTable.below,SetTable.below.go]
 ·simp[SetTable.below,SetTable.below.go]
abbrev Cy (f:Value)(i:Nat)(D:Addr)(n ep:Nat):Obj:={ cls:=.type "set_iterator",data:=.fields #[f,rawInt (i:Int),.ref D,rawInt (n:Int),rawInt (ep:Int)] }
theorem GW {h:Heap}{I:Addr}{f g:Value}{i j:Nat}{D:Addr}{n ep:Nat}(e:h.get? I=some (Cy f i D n ep)):(h.update I (Obj.mapFields λvs=>vs.setIfInBounds 1 (rawInt ((i:Int)+1)))).get? I=some (Cy f (i+1) D n ep):=by
 rw[Heap.get?_update_self _ e rfl]
 rfl
variable {s:Shared}
theorem FU {I:Addr}{o:Obj}{vs:Array Value}{Pf:PySem.Fin->Shared->Prop}(hh:A.handled=none)(ho:s.heap.get? I=some o)(hd:o.data=.fields vs)(h2:2 < vs.size)
 (hE:∀h' e,Heap.ExtBut I s.heap h'->(∃o,h'.get? e=some o/\o.cls=.type "StopIteration")->E (.ref e) { s with heap:=h' }):
 wpAny (model prog w) A (do setField (.ref I) 2 .none;let __do_lift<-newExc (.type "StopIteration") [];raiseNew __do_lift) Pf E s:=by
 refine wpAny_bind (wpAny_setField ho hd h2 ?_)
 refine wpAny_bind ?_
 simp only[newExc,newTuple];refine wpAny_bind (wpAny_newObj_type ?_ (by size_fits))
 refine wpAny_bind (m:=firstArgMember _ _) (wpAny_of_eq (a:=Value.none) (by first|rfl|(simp only[firstArgMember];rfl)) ?_)
 refine wpAny_newObj_type ?_ (by size_fits)
 simp only[raiseNew];refine wpAny_bind (wpAny_handled ?_)
 rw[hh];refine wpAny_bind (wpAny_pure (wpAny_throw ?_))
 exact hE _ _ (((Heap.SameBut.update ..).extBut.push _).push _) ⟨_,Heap.get?_push_size _ rfl,rfl⟩
theorem Cz {I D:Addr}{f:Value}{i ep:Nat}{es:Array (Int×Value)}{t:SetTable}{Pf:PySem.Fin->Shared->Prop}(hI:s.heap.get? I=some (Cy f i D es.size ep))(hD:s.heap.get? D=some { cls:=.type "set",data:=.set es ep t })(hf:t.fits es.size=true)
 (h:wpAny (model prog w) A (match f with
  |.int slot tok=>do
   let __do_lift<-setNext D slot.toNat i ep
   match __do_lift with
    |some (x,next)=>do
     setField (.ref I) 0 (rawInt next)
     setField (.ref I) 1 (rawInt ((i:Int)+1))
     ret x
    |none=>do
     setField (.ref I) 2 .none
     let __do_lift<-newExc (.type "StopIteration") []
     raiseNew __do_lift
  |x=>do
   let __x<-seqItems? f
   match __x with
    |some places=>
     match places[i]? with
     |some (.int place tok)=>do
      let x<-setNextDrawn D place.toNat ep
      setField (.ref I) 1 (rawInt ((i:Int)+1))
      ret x
     |some val=>unsupported "internal:set_iterator"
     |none=>do
      setField (.ref I) 0 (rawInt 0)
      setField (.ref I) 2 .none
      let __do_lift<-newExc (.type "StopIteration") []
      raiseNew __do_lift
    |x=>unsupported "internal:set_iterator") Pf E s):
 wpAny (model prog w) A (Builtin.«set_iterator.__next__» ⟨[.ref I],[]⟩) Pf E s:=by
 unfold Builtin.«set_iterator.__next__»;refine wpAny_bind ?_
 show wpAny _ _ (pure (Value.ref I,[])) _ _ _;refine wpAny_pure ?_
 dsimp only
 refine wpAny_bind (wpAny_fieldsOf hI rfl ?_)
 show wpAny _ _ (setEntries D >>= _) _ _ s;unfold setEntries;refine wpAny_bind (wpAny_bind (wpAny_setState_of hD rfl hf (wpAny_pure ?_)))
 dsimp only
 rw[if_neg (by simp)]
 simp only[Int.toNat_natCast];exact h
theorem Ex {D:Addr}{slot i ep:Nat}{es:Array (Int×Value)}{t:SetTable}{Q:Option (Value×Nat)->Shared->Prop}(bt:w.params.followText "set-order"=true)(hD:s.heap.get? D=some { cls:=.type "set",data:=.set es ep t })(hf:t.fits es.size=true)
 (h:Q (((pickOrder (w.params.setOrder D ep) es)[i]?).map λe=>(e.2,slot)) s):wpAny (model prog w) A (setNext D slot i ep) Q E s:=by
 unfold setNext;refine wpAny_bind (wpAny_setState_of hD rfl hf ?_)
 dsimp only
 refine wpAny_bind (Bu ?_)
 rw[bt,if_pos rfl,if_neg (by simp)]
 unfold setWalk;refine wpAny_bind (wpAny_bind (wpAny_setState_of hD rfl hf ?_))
 dsimp only
 refine wpAny_bind (Bu ?_)
 rw[bt,if_pos rfl];refine wpAny_bind (wpAny_askSetting (wpAny_pure (wpAny_pure h)))
theorem Dd {D:Addr}{slot i ep:Nat}{es:Array (Int×Value)}{t:SetTable}{Q:Option (Value×Nat)->Shared->Prop}(bt:w.params.followText "set-order"=false)(hD:s.heap.get? D=some { cls:=.type "set",data:=.set es ep t })(hf:t.fits es.size=true)(hl:t.led=true)(hz:es.size<=1)
 (h:Q (match es[SetTable.below t.place slot]?,t.place[SetTable.below t.place slot]? with|some (_,x),some j=>some (x,j+1)|_,_=>none) s):wpAny (model prog w) A (setNext D slot i ep) Q E s:=by
 unfold setNext;refine wpAny_bind (wpAny_setState_of hD rfl hf ?_)
 dsimp only
 refine wpAny_bind (Bu ?_)
 rw[bt,if_neg (by decide)]
 rw[if_neg (by
  show¬((!t.plain&&decide (es.size > 1))=true);rw[decide_eq_false (by omega)]
  simp)]
 refine wpAny_bind ?_
 show wpAny _ _ (if(!t.led&&!es.isEmpty)=true then _ else pure ()) _ _ _
 rw[if_neg (by rw[hl];simp)]
 exact wpAny_pure (wpAny_pure h)
end
end L2
namespace L2
open PySem PySem.Spec PyProof.Rows PySem.W
theorem De:Slot "set_iterator" (Str.ofString "__iter__") "set_iterator.__iter__":=Slot.of (owner:="set_iterator") (n:="__iter__") (by kernel_rfl) (by kernel_rfl) (by kernel_rfl) (by kernel_rfl) (.inl (by kernel_rfl)) (by kernel_rfl)
theorem F5:entryFor table "set_iterator.__iter__"=some Builtin.«dict_keyiterator.__iter__»:=by kernel_rfl
theorem GX (a:Value):argsOk "set_iterator.__iter__" { pos:=[a] }:=by
 show(match Manifest.signature? "set_iterator.__iter__" with|some sig=>Bind.checkArgs "set_iterator.__iter__" sig { pos:=[a] }|none=>pure ())=pure ()
 rw[signature?_of (id:="set_iterator.__iter__") (n:=['_','_','r','e','t','i','_','_']) (o:=['r','o','t','a','r','e','t','i','_','t','e','s']) (by kernel_rfl) J7]
 kernel_rfl
section
variable {prog:Program}{w:World}{A:Around}
theorem FV {E:Value->Shared->Prop}{s:Shared}{I D:Addr}{f:Value}{i n ep:Nat}{Q:Value->Shared->Prop}(hI:s.heap.get? I=some (Cy f i D n ep))(q:Q (.ref I) s):wpAny (model prog w) A (pyIter (.ref I)) Q E s:=by
 have hT:s.TypeIs (.ref I) "set_iterator":=⟨_,hI,rfl⟩;refine wpAny_pyIter_slot hT De (wpAny_call_entry De hT F5 ?_ (GX _))
 exact wpAny_pure ⟨.ref I,rfl,"set_iterator",_,hT,A7.lookup,q⟩
theorem CQ {E:Value->Shared->Prop}{s:Shared}{I D:Addr}{f:Value}{i n ep:Nat}{Q:Option Value->Shared->Prop}(hI:s.heap.get? I=some (Cy f i D n ep))
 (h:wpAny (model prog w) A.in1 (Builtin.«set_iterator.__next__» ⟨[.ref I],[]⟩) (λfin s'=>∃v,fin=Fin.done (Flow.ret v)/\Q (some v) s') (λe s'=>(∃o,s'.heap.get? (match e with|.ref a=>a|_=>0)=some o/\o.cls=.type "StopIteration")/\(∃a,e=.ref a)/\Q none s') s):
 wpAny (model prog w) A (pyNext (.ref I)) Q E s:=by
 have hT:s.TypeIs (.ref I) "set_iterator":=⟨_,hI,rfl⟩;unfold pyNext;refine wpAny_bind (wpAny_attempt (wpAny_callSpecial?_slot (name:=Str.ofString "__next__") hT A7 (wpAny_call_entry A7 hT F4 ?_ (GV _))))
 refine wpAny_mono h (λfin s' hf=>?_) (λe s' he=>?_)
 ·obtain⟨v,e1,q⟩:=hf
  exact⟨v,e1,wpAny_pure q⟩
 ·obtain⟨⟨o,ho,hc⟩,⟨a,rfl⟩,q⟩:=he
  refine wpAny_bind (wpAny_isInstance (T:="StopIteration") (b:=true) ⟨o,ho,hc⟩ isSubtype_stop ?_)
  exact wpAny_pure q
abbrev setAt (D:Addr)(es:Array (Int×Value))(ep:Nat)(t:SetTable)(h:Heap):Prop:=h.get? D=some { cls:=.type "set",data:=.set es ep t }
theorem GY (bt:w.params.followText "set-order"=true)(hh:A.handled=none){I D:Addr}(DI:D≠I){es:Array (Int×Value)}{ep:Nat}{t:SetTable}(hf:t.fits es.size=true):
 Walks prog w A I [I,D] [I] es.size (λi v=>((pickOrder (w.params.setOrder D ep) es).toList.map (·.2))[i]?=some v) (λi h=>h.get? I=some (Cy (rawInt 0) i D es.size ep)/\setAt D es ep t h) where
 sub:=λb hb=>by simp at hb;simp[hb]
 frame:=λi h h' st k=>⟨k I (by simp) _ st.1,k D (by simp) _ st.2⟩
 item:=λi s Q E hi st hQ=>by
  have pz:(pickOrder (w.params.setOrder D ep) es).size=es.size:=by
   have:=(Cw (w.params.setOrder D ep) es).length_eq;simpa using this
  have e:(pickOrder (w.params.setOrder D ep) es)[i]?=some ((pickOrder (w.params.setOrder D ep) es)[i]'(by omega)):=Array.getElem?_eq_getElem _
  refine CQ st.1 (Cz st.1 st.2 hf ?_)
  show wpAny _ _ (setNext D 0 i ep >>= _) _ _ s;refine wpAny_bind (Ex bt st.2 hf ?_)
  rw[e]
  dsimp only[Option.map_some]
  refine wpAny_bind (wpAny_setField st.1 rfl (by simp) ?_)
  have e1:(s.heap.update I (Obj.mapFields λvs=>vs.setIfInBounds 0 (rawInt ((0:Nat):Int)))).get? I=some (Cy (rawInt 0) i D es.size ep):=by
   rw[Heap.get?_update_self _ st.1 rfl];rfl
  refine wpAny_bind (wpAny_setField (s:={ s with heap:=s.heap.update I (Obj.mapFields λvs=>vs.setIfInBounds 0 (rawInt ((0:Nat):Int))) }) e1 rfl (by simp) (wpAny_pure ⟨_,rfl,?_⟩))
  refine hQ _ _ s.toks ?_ ⟨GW (g:=rawInt 0) (j:=0) e1,?_⟩ (λb o hb eb=>?_)
  ·rw[List.getElem?_map,Array.getElem?_toList,e];rfl
  ·exact(Heap.get?_update_ne _ _ _ _ DI).trans ((Heap.get?_update_ne _ _ _ _ DI).trans st.2)
  ·have nb:b≠I:=by simpa using hb
   rw[Heap.get?_update_ne _ _ _ _ nb,Heap.get?_update_ne _ _ _ _ nb];exact eb
 done:=λs Q E st hQ=>by
  have pz:(pickOrder (w.params.setOrder D ep) es).size=es.size:=by
   have:=(Cw (w.params.setOrder D ep) es).length_eq;simpa using this
  refine CQ st.1 (Cz st.1 st.2 hf ?_)
  show wpAny _ _ (setNext D 0 es.size ep >>= _) _ _ s;refine wpAny_bind (Ex bt st.2 hf ?_)
  rw[Array.getElem?_eq_none (by omega)]
  dsimp only[Option.map_none]
  refine FU (show A.in1.handled=none from hh) st.1 rfl (by simp) λh' e x ho=>⟨ho,⟨e,rfl⟩,hQ h' s.toks λb o hb eb=>x b o (by simpa using hb) eb⟩
 self:=λi s Q E st q=>FV st.1 q
theorem IG (bt:w.params.followText "set-order"=false)(hh:A.handled=none){I D:Addr}(DI:D≠I){es:Array (Int×Value)}{ep:Nat}{t:SetTable}(hf:t.fits es.size=true)(hl:t.led=true)(hz:es.size<=1):
 Walks prog w A I [I,D] [I] es.size (λi v=>(es.toList.map (·.2))[i]?=some v) (λi h=>h.get? I=some (Cy (rawInt (if i=0 then 0 else((t.place.getD 0 0:Nat):Int)+1)) i D es.size ep)/\setAt D es ep t h) where
 sub:=λb hb=>by simp at hb;simp[hb]
 frame:=λi h h' st k=>⟨k I (by simp) _ st.1,k D (by simp) _ st.2⟩
 item:=λi s Q E hi st hQ=>by
  have i0:i=0:=by omega
  subst i0
  have pz:t.place.size=es.size:=by
   unfold SetTable.fits at hf;simp only[Bool.and_eq_true,beq_iff_eq]at hf;exact hf.1
  obtain⟨p,hp⟩:∃p,t.place=#[p]:=Array.size_eq_one_iff.mp (by omega)
  obtain⟨en,hen⟩:∃en,es=#[en]:=Array.size_eq_one_iff.mp (by omega)
  refine CQ st.1 (Cz st.1 st.2 hf ?_)
  show wpAny _ _ (setNext D 0 0 ep >>= _) _ _ s;refine wpAny_bind (Dd bt st.2 hf hl hz ?_)
  rw[hp,(IF p).1,hen];show wpAny _ _ (do setField (.ref I) 0 (rawInt ((p+1:Nat):Int));setField (.ref I) 1 (rawInt (((0:Nat):Int)+1));ret en.2) _ _ s
  refine wpAny_bind (wpAny_setField st.1 rfl (by simp) ?_)
  have e1:(s.heap.update I (Obj.mapFields λvs=>vs.setIfInBounds 0 (rawInt ((p+1:Nat):Int)))).get? I=some (Cy (rawInt ((p+1:Nat):Int)) 0 D es.size ep):=by
   rw[Heap.get?_update_self _ st.1 rfl];rfl
  refine wpAny_bind (wpAny_setField (s:={ s with heap:=s.heap.update I (Obj.mapFields λvs=>vs.setIfInBounds 0 (rawInt ((p+1:Nat):Int))) }) e1 rfl (by simp) (wpAny_pure ⟨_,rfl,?_⟩))
  refine hQ _ _ s.toks ?_ ⟨?_,?_⟩ (λb o hb eb=>?_)
  ·rw[hen];rfl
  ·have:=GW (g:=rawInt 0) (j:=0) e1
   rw[hp];exact this
  ·exact(Heap.get?_update_ne _ _ _ _ DI).trans ((Heap.get?_update_ne _ _ _ _ DI).trans st.2)
  ·have nb:b≠I:=by simpa using hb
   rw[Heap.get?_update_ne _ _ _ _ nb,Heap.get?_update_ne _ _ _ _ nb];exact eb
 done:=λs Q E st hQ=>by
  have pz:t.place.size=es.size:=by
   unfold SetTable.fits at hf;simp only[Bool.and_eq_true,beq_iff_eq]at hf;exact hf.1
  refine CQ st.1 (Cz st.1 st.2 hf ?_)
  have fin:wpAny (model prog w) A.in1 (do setField (.ref I) 2 .none;let __do_lift<-newExc (.type "StopIteration") [];raiseNew __do_lift) (λfin s'=>∃v,fin=Fin.done (Flow.ret v)/\Q (some v) s') (λe s'=>(∃o,s'.heap.get? (match e with|.ref a=>a|_=>0)=some o/\o.cls=.type "StopIteration")/\(∃a,e=.ref a)/\Q none s') s:=
   FU (show A.in1.handled=none from hh) st.1 rfl (by simp) λh' e x ho=>⟨ho,⟨e,rfl⟩,hQ h' s.toks λb o hb eb=>x b o (by simpa using hb) eb⟩
  rcases Nat.eq_zero_or_pos es.size with z|z
  ·rw[if_pos z]
   show wpAny _ _ (setNext D 0 es.size ep >>= _) _ _ s;refine wpAny_bind (Dd bt st.2 hf hl hz ?_)
   have:es=#[]:=Array.eq_empty_of_size_eq_zero z;rw[this];exact fin
  ·rw[if_neg (by omega)]
   obtain⟨p,hp⟩:∃p,t.place=#[p]:=Array.size_eq_one_iff.mp (by omega)
   obtain⟨en,hen⟩:∃en,es=#[en]:=Array.size_eq_one_iff.mp (by omega)
   have e0:((t.place.getD 0 0:Nat):Int)+1=((p+1:Nat):Int):=by rw[hp];rfl
   rw[e0];show wpAny _ _ (setNext D (p+1) es.size ep >>= _) _ _ s;refine wpAny_bind (Dd bt st.2 hf hl hz ?_)
   rw[hp,(IF p).2,hen];exact fin
 self:=λi s Q E st q=>FV st.1 q
theorem Fv (hh:A.handled=none){I D T:Addr}(DI:D≠I)(TI:T≠I){es:Array (Int×Value)}{ep:Nat}{t:SetTable}(hf:t.fits es.size=true){ps:List Nat}(hp:ps.Perm (List.range es.size)):
 Walks prog w A I [I,D,T] [I] es.size (λi v=>(ps.map λp=>(es.toList.getD p (0,.none)).2)[i]?=some v) (λi h=>h.get? I=some (Cy (.ref T) i D es.size ep)/\setAt D es ep t h/\h.get? T=some { cls:=.type "tuple",data:=.seq (ps.map λp:Nat=>rawInt (p:Int)).toArray }) where
 sub:=λb hb=>by simp at hb;simp[hb]
 frame:=λi h h' st k=>⟨k I (by simp) _ st.1,k D (by simp) _ st.2.1,k T (by simp) _ st.2.2⟩
 item:=λi s Q E hi st hQ=>by
  have pl:ps.length=es.size:=by have:=hp.length_eq;simpa using this
  have ei:ps[i]?=some (ps[i]'(by omega)):=List.getElem?_eq_getElem _
  have pil:ps[i]'(by omega) < es.size:=List.mem_range.mp (hp.mem_iff.mp (List.getElem_mem _))
  refine CQ st.1 (Cz st.1 st.2.1 hf ?_)
  show wpAny _ _ (seqItems? (.ref T) >>= _) _ _ s;refine wpAny_bind (wpAny_seqItems st.2.2 rfl ?_)
  dsimp only
  have eg:(ps.map λp:Nat=>rawInt (p:Int)).toArray[i]?=some (.int ((ps[i]'(by omega):Nat):Int) 0):=by
   rw[List.getElem?_toArray,List.getElem?_map,ei];rfl
  rw[eg]
  dsimp only
  unfold setNextDrawn;refine wpAny_bind (wpAny_bind (wpAny_setState_of st.2.1 rfl hf ?_))
  dsimp only
  rw[if_neg (by simp),Int.toNat_natCast,Array.getElem?_eq_getElem pil]
  dsimp only
  refine wpAny_pure ?_
  refine wpAny_bind (wpAny_setField st.1 rfl (by simp) (wpAny_pure ⟨_,rfl,?_⟩))
  refine hQ _ _ s.toks ?_ ⟨GW (g:=rawInt 0) (j:=0) st.1,?_,?_⟩ (λb o hb eb=>?_)
  ·rw[List.getElem?_map,ei]
   show some ((es.toList.getD (ps[i]'(by omega)) (0,.none)).2)=_
   rw[List.getD_eq_getElem?_getD,Array.getElem?_toList,Array.getElem?_eq_getElem pil];rfl
  ·exact(Heap.get?_update_ne _ _ _ _ DI).trans st.2.1
  ·rw[Heap.get?_update_ne _ _ _ _ TI];exact st.2.2
  ·have nb:b≠I:=by simpa using hb
   rw[Heap.get?_update_ne _ _ _ _ nb];exact eb
 done:=λs Q E st hQ=>by
  have pl:ps.length=es.size:=by have:=hp.length_eq;simpa using this
  refine CQ st.1 (Cz st.1 st.2.1 hf ?_)
  show wpAny _ _ (seqItems? (.ref T) >>= _) _ _ s;refine wpAny_bind (wpAny_seqItems st.2.2 rfl ?_)
  dsimp only
  rw[show(ps.map λp:Nat=>rawInt (p:Int)).toArray[es.size]?=none by rw[List.getElem?_toArray,List.getElem?_map,List.getElem?_eq_none (by omega)];rfl]
  dsimp only
  refine wpAny_bind (wpAny_setField st.1 rfl (by simp) ?_)
  have e1:(s.heap.update I (Obj.mapFields λvs=>vs.setIfInBounds 0 (rawInt 0))).get? I=some (Cy (rawInt 0) es.size D es.size ep):=by
   rw[Heap.get?_update_self _ st.1 rfl];rfl
  refine FU (s:={ s with heap:=s.heap.update I (Obj.mapFields λvs=>vs.setIfInBounds 0 (rawInt 0)) }) (show A.in1.handled=none from hh) e1 rfl (by simp) λh' e x ho=>⟨ho,⟨e,rfl⟩,hQ h' s.toks λb o hb eb=>x b o (by simpa using hb) (by
   have nb:b≠I:=by simpa using hb
   rw[Heap.get?_update_ne _ _ _ _ nb];exact eb)⟩
 self:=λi s Q E st q=>FV st.1 q
end
end L2
namespace L2
open PySem PySem.Spec PyProof.Rows PySem.W
section
variable {prog:Program}{w:World}{A:Around}{E:Value->Shared->Prop}{s:Shared}
theorem Dg {α β:Type}(f:α->β)(l:List α)(d:α):((List.range l.length).map λp=>f (l.getD p d))=l.map f:=by
 apply List.ext_getElem
 ·simp
 ·intro i h1 h2
  simp only[List.length_map]at h2;rw[List.getElem_map,List.getElem_range,List.getElem_map,List.getD_eq_getElem?_getD,List.getElem?_eq_getElem h2];rfl
theorem Oj {D:Addr}{es:Array (Int×Value)}{ep:Nat}{t:SetTable}{S:List Str}{Q:Value->Shared->Prop}(hD:setAt D es ep t s.heap)(hS:CK w (AQ w) es t S)(hz:es.size<=1000)
 (h:∀(I:Addr) (fp:List Addr) (St:Nat->Heap->Prop) (vs:List Value) (h1:Heap) (d:Drawn),(∀A':Around,A'.handled=none->Walks prog w A' I fp [I] es.size (λi v=>vs[i]?=some v) St)->St 0 h1->s.heap.objs.size<=I->(∀b∈fp,b < h1.objs.size)->(∀b o,s.heap.get? b=some o->h1.get? b=some o)->vs.Perm (es.toList.map (·.2))->h1.get? I≠none->(∀b∈fp,b=I\/b=D\/s.heap.objs.size<=b)->Q (.ref I) { s with heap:=h1,drawn:=d }):
 wpAny (model prog w) A (pyIter (.ref D)) Q E s:=by
 have hT:s.TypeIs (.ref D) "set":=⟨_,hD,rfl⟩;have Dlt:D < s.heap.objs.size:=Heap.lt_size hD;refine wpAny_pyIter_slot hT F.slot_set_iter (wpAny_call_entry F.slot_set_iter hT Dc ?_ (F.args_set_iter_1 _))
 unfold Builtin.«frozenset.__iter__» Builtin.Frozenset.slot0;refine wpAny_bind (wpAny_bind ?_)
 show wpAny _ _ (pure (Value.ref D,[])) _ _ _;refine wpAny_pure ?_
 show wpAny _ _ (pure D) _ _ _;refine wpAny_pure ?_
 unfold Builtin.Frozenset.sizeOf setEntries;refine wpAny_bind (wpAny_bind (wpAny_bind (wpAny_setState_of hD rfl hS.fit (wpAny_pure (wpAny_pure ?_)))))
 unfold setDrawn;refine wpAny_bind (wpAny_bind (wpAny_setState_of hD rfl hS.fit ?_))
 dsimp only
 refine wpAny_bind (Bu (wpAny_pure ?_))
 have szp:∀(g:Heap) (o:Obj),(g.push o).objs.size=g.objs.size+1:=λg o=>Heap.size_push ..
 by_cases dr:(!w.params.followText "set-order"&&(!t.plain&&decide (es.size > 1)))=true
 ·refine wpAny_ite_true ?_ ?_
  ·exact decide_eq_true dr
  refine wpAny_bind (GB es.size (List.range es.size) _ _ (by simp) λps d hp=>?_)
  have pl:ps.length=es.size:=by have:=hp.length_eq;simpa using this
  unfold newTuple
  refine wpAny_bind (wpAny_newObj_type ?_ (by
   show(ps.map λi:Nat=>rawInt (i:Int)).toArray.size<=sizeLine
   rw[List.size_toArray,List.length_map,sizeLine_eq];omega))
  unfold setEpoch;have hD1:setAt D es ep t (s.heap.push { cls:=.type "tuple",data:=.seq (ps.map λi:Nat=>rawInt (i:Int)).toArray }):=Heap.get?_push_of_some _ hD
  refine wpAny_bind (wpAny_bind (wpAny_setState_of (s:={ s with heap:=s.heap.push { cls:=.type "tuple",data:=.seq (ps.map λi:Nat=>rawInt (i:Int)).toArray },drawn:=d }) hD1 rfl hS.fit (wpAny_pure ?_)))
  dsimp only
  unfold newFields;refine wpAny_bind (wpAny_newObj_type ?_)
  refine wpAny_pure ⟨_,rfl,"set_iterator",_,⟨_,Heap.get?_push_size _ rfl,rfl⟩,A7.lookup,?_⟩
  have TI:s.heap.objs.size≠(s.heap.push { cls:=.type "tuple",data:=.seq (ps.map λi:Nat=>rawInt (i:Int)).toArray }).objs.size:=by rw[szp];omega
  have DI:D≠(s.heap.push { cls:=.type "tuple",data:=.seq (ps.map λi:Nat=>rawInt (i:Int)).toArray }).objs.size:=by rw[szp];exact Nat.ne_of_lt (Nat.lt_succ_of_lt Dlt)
  refine h _ _ _ _ _ d (λA' hA'=>Fv (T:=s.heap.objs.size) hA' DI TI hS.fit hp) ⟨Heap.get?_push_size _ rfl,Heap.get?_push_of_some _ hD1,Heap.get?_push_of_some _ (Heap.get?_push_size _ rfl)⟩ ?_ ?_ (λb o e=>Heap.get?_push_of_some _ (Heap.get?_push_of_some _ e)) ?_ ?_ ?_
  ·rw[szp];omega
  ·intro b hb
   rw[szp,szp];simp only[List.mem_cons,List.not_mem_nil,or_false]at hb
   rcases hb with rfl|rfl|rfl
   ·rw[szp];exact Nat.lt_succ_self _
   ·exact Nat.lt_succ_of_lt (Nat.lt_succ_of_lt Dlt)
   ·exact Nat.lt_succ_of_lt (Nat.lt_succ_self _)
  ·have:=hp.map (λp=>(es.toList.getD p (0,.none)).2)
   have e2:=Dg (λe:Int×Value=>e.2) es.toList (0,.none)
   rw[Array.length_toList]at e2;rw[e2]at this;exact this
  ·rw[Heap.get?_push_size _ rfl];simp
  ·intro b hb
   simp only[List.mem_cons,List.not_mem_nil,or_false]at hb
   rcases hb with rfl|rfl|rfl
   ·exact .inl rfl
   ·exact .inr (.inl rfl)
   ·exact .inr (.inr (Nat.le_refl _))
 ·refine wpAny_ite_false ?_ ?_
  ·exact decide_eq_false dr
  refine wpAny_bind (wpAny_pure ?_)
  unfold setEpoch;refine wpAny_bind (wpAny_bind (wpAny_setState_of hD rfl hS.fit (wpAny_pure ?_)))
  dsimp only
  unfold newFields;refine wpAny_bind (wpAny_newObj_type ?_)
  refine wpAny_pure ⟨_,rfl,"set_iterator",_,⟨_,Heap.get?_push_size _ rfl,rfl⟩,A7.lookup,?_⟩
  have DI:D≠s.heap.objs.size:=Nat.ne_of_lt Dlt
  have fpl:∀b∈[s.heap.objs.size,D],b < (s.heap.push (Cy (rawInt 0) 0 D es.size ep)).objs.size:=λb hb=>by
   rw[szp];simp only[List.mem_cons,List.not_mem_nil,or_false]at hb
   rcases hb with rfl|rfl
   ·exact Nat.lt_succ_self _
   ·exact Nat.lt_succ_of_lt Dlt
  have fpw:∀b∈[s.heap.objs.size,D],b=s.heap.objs.size\/b=D\/s.heap.objs.size<=b:=λb hb=>by
   simp only[List.mem_cons,List.not_mem_nil,or_false]at hb
   rcases hb with rfl|rfl
   ·exact .inl rfl
   ·exact .inr (.inl rfl)
  cases bt:w.params.followText "set-order" with
  |true=>
   refine h _ _ _ _ _ s.drawn (λA' hA'=>GY bt hA' DI hS.fit) ⟨Heap.get?_push_size _ rfl,Heap.get?_push_of_some _ hD⟩ (Nat.le_refl _) fpl (λb o e=>Heap.get?_push_of_some _ e) ((Cw _ es).map _) (by rw[Heap.get?_push_size _ rfl];simp) fpw
  |false=>
   have hl:t.led=true:=by rw[hS.led];unfold AQ;rw[bt];rfl
   have z1:es.size<=1:=by
    rcases hS.pl with z|z
    ·omega
    ·rw[bt,z]at dr
     have:¬es.size > 1:=λc=>dr (by simp[c])
     omega
   refine h _ _ _ _ _ s.drawn (λA' hA'=>IG bt hA' DI hS.fit hl z1) ⟨Heap.get?_push_size _ rfl,Heap.get?_push_of_some _ hD⟩ (Nat.le_refl _) fpl (λb o e=>Heap.get?_push_of_some _ e) (List.Perm.refl _) (by rw[Heap.get?_push_size _ rfl];simp) fpw
theorem J8 {r:Addr}{Q:Bool->Shared->Prop}(hT:s.TypeIs (.ref r) "set")(h:Q false s):wpAny (model prog w) A (Builtin.List.listLengthHint (.ref r)) Q E s:=by
 unfold Builtin.List.listLengthHint;refine wpAny_bind (wpAny_specialOf hT F.slot_set_len.lookup ?_)
 dsimp only
 rw[show splitId "set.__len__"=some ("set","__len__") by kernel_rfl]
 dsimp only
 refine wpAny_bind (wpAny_isInstance hT F.sub_set_set ?_)
 rw[if_neg (by decide)]
 refine wpAny_ite_true (by kernel_rfl) ?_
 refine wpAny_bind (wpAny_typeOf hT ?_)
 exact wpAny_pure h
end
end L2
namespace L2
open PySem PySem.Spec PyProof.Rows PySem.W
section
variable {prog:Program}{w:World}{A:Around}{E:Value->Shared->Prop}{s:Shared}
theorem J9 {D:Addr}{es:Array (Int×Value)}{ep:Nat}{t:SetTable}{S:List Str}{Q:List Value->Shared->Prop}(hD:setAt D es ep t s.heap)(hS:CK w (AQ w) es t S)(hh:A.handled=none)(hz:es.size<=1000)
 (h:∀h' tk d acc,(∀b o,s.heap.get? b=some o->h'.get? b=some o)->s.heap.objs.size<=h'.objs.size->acc.Perm (es.toList.map (·.2))->Q acc { s with heap:=h',toks:=tk,drawn:=d }):
 wpAny (model prog w) A (collect (.ref D)) Q E s:=by
 have Dlt:D < s.heap.objs.size:=Heap.lt_size hD;unfold collect;refine wpAny_bind (wpAny_runValue (codeAny_builtin F.entry_proto_collect ?_))
 rw[Around.under_plainId F.plain_proto_collect _];show wpAny _ A.in1 (newList [] >>= λl=>again (.builtin "list.__iadd__" ⟨[l,.ref D],[]⟩)) _ _ s
 refine wpAny_bind (wpAny_newObj_type ?_)
 refine wpAny_pure ⟨plainId_quiet F.plain_list_iadd _,codeAny_builtin F.entry_list_iadd ?_⟩
 rw[Around.under_plainId F.plain_list_iadd _];show wpAny _ A.in1 (Builtin.List.listExtendWith (.ref s.heap.objs.size) (.ref D) (.ref s.heap.objs.size)) _ _ _;have hS₁:(s.heap.push { cls:=.type "list",data:=.seq ([]:List Value).toArray }).get? s.heap.objs.size=some { cls:=.type "list",data:=.seq #[] 0 }:=Heap.get?_push_size _ rfl
 have hD1:setAt D es ep t (s.heap.push { cls:=.type "list",data:=.seq ([]:List Value).toArray }):=Heap.get?_push_of_some _ hD
 have szp:(s.heap.push { cls:=.type "list",data:=.seq ([]:List Value).toArray }).objs.size=s.heap.objs.size+1:=Heap.size_push ..;have old1:∀b o,s.heap.get? b=some o->(s.heap.push { cls:=.type "list",data:=.seq ([]:List Value).toArray }).get? b=some o:=λb o e=>Heap.get?_push_of_some _ e
 generalize s.heap.push { cls:=.type "list",data:=.seq ([]:List Value).toArray }=g at hS₁ hD1 szp old1;have hT:({ s with heap:=g }:Shared).TypeIs (.ref D) "set":=⟨_,hD1,rfl⟩
 unfold Builtin.List.listExtendWith;refine wpAny_bind (wpAny_typeOf hT ?_)
 rw[if_neg (by
  have:(s.heap.objs.size==D)=false:=by simpa using Nat.ne_of_gt Dlt
  show¬(((s.heap.objs.size==D)||_||_)=true)
  rw[this];decide)]
 refine wpAny_bind (Oj (s:={ s with heap:=g }) hD1 hS hz λI fp St vs h1 d Wk st0 Ige fpl old2 vp hI fpw=>?_)
 have hT2:({ s with heap:=h1,drawn:=d }:Shared).TypeIs (.ref D) "set":=⟨_,old2 _ _ hD1,rfl⟩
 refine wpAny_bind (wpAny_holding (J8 hT2 ?_))
 dsimp only
 have Ige':s.heap.objs.size+1<=I:=by rw[<-szp];exact Ige
 have vl:vs.length=es.size:=by have:=vp.length_eq;simpa using this
 have hS2:=old2 _ _ hS₁
 have nfp:s.heap.objs.size∉fp:=λhm=>by
  rcases fpw _ hm with z|z|z
  ·have z':s.heap.objs.size=I:=z
   rw[<-z']at Ige';exact Nat.not_succ_le_self _ Ige'
  ·have z':s.heap.objs.size=D:=z
   rw[z']at Dlt;exact Nat.lt_irrefl _ Dlt
  ·rw[szp]at z
   have z':s.heap.objs.size+1<=s.heap.objs.size:=z;omega
 have fin:∀(c0:Nat) (h2:Heap),h2.get? s.heap.objs.size=some { cls:=.type "list",data:=.seq #[] c0 }->(∀b o,b≠s.heap.objs.size->h1.get? b=some o->h2.get? b=some o)->
  codeAny (model prog w) A (.builtin "list.extend.loop" ⟨[.ref s.heap.objs.size,.ref I,.ref s.heap.objs.size],[]⟩) (λr s'=>match r with|.ok (.ret v)=>wpAny (model prog w) A (match v with|.ref a=>(do let __do_lift<-load a;match __do_lift.data with|.seq xs _=>pure xs.toList|_=>unsupported "internal:collect")|_=>unsupported "internal:collect") Q E s'|.ok _=>False|.error e=>E e s') { s with heap:=h2,drawn:=d }:=λc0 h2 hg2 k2=>by
  refine codeAny_extend_loopS (Wk A.in1 hh).toS (by rw[sizeLine_eq];omega) s.heap.objs.size nfp (.ref s.heap.objs.size) es.size 0 _ #[] c0 (Nat.sub_zero _) (Nat.zero_le _) ((Wk A.in1 hh).frame 0 _ _ st0 λb hb o e=>k2 b o (λz=>nfp (by rw[<-z];exact hb)) e) hg2 ⟨rfl,λj v hj=>by simp at hj⟩ λs' acc' c' mv hg3 it=>?_
  obtain⟨hp',gn',dr',tk',os'⟩:=s';have e1:gn'=s.gens:=mv.gens;have e2:dr'=d:=mv.drawn;have e3:os'=s.os:=mv.os;subst e1;subst e2;subst e3;refine wpAny_bind (wpAny_load hg3 (wpAny_pure ?_))
  have ea:acc'.toList=vs:=by
   apply List.ext_getElem?;intro i
   rcases Nat.lt_or_ge i es.size with c|c
   ·have hi:i < acc'.size:=by rw[it.1];exact c
    have:=it.2 i acc'[i] (Array.getElem?_eq_getElem hi)
    rw[Array.getElem?_toList,Array.getElem?_eq_getElem hi,this]
   ·rw[Array.getElem?_toList,Array.getElem?_eq_none (by rw[it.1];exact c),List.getElem?_eq_none (by omega)]
  rw[ea];refine h hp' tk' _ vs (λb o e=>?_) ?_ vp
  ·have bl:b≠s.heap.objs.size:=Nat.ne_of_lt (Heap.lt_size e)
   have bI:b≠I:=λz=>by
    have h1:b < s.heap.objs.size:=Heap.lt_size e;have h2:b=I:=z;have h3:I < s.heap.objs.size:=by rw[<-h2];exact h1
    exact absurd (Nat.lt_of_lt_of_le h3 (Nat.le_of_succ_le Ige')) (Nat.lt_irrefl _)
   exact mv.heap b o (by simp[bl,bI]) (k2 b o bl (old2 _ _ (old1 _ _ e)))
  ·exact Nat.le_of_lt (Heap.lt_size hg3)
 rw[if_pos (by decide+kernel)]
 refine wpAny_bind (wpAny_rule (wpAny_bind ?_))
 unfold Builtin.List.listTouch;refine wpAny_bind (listUpdate_at (a:=s.heap.objs.size) (s:={ s with heap:=h1,drawn:=d }) hS2 rfl ?_ (Nat.zero_le _) (by show 1<=sizeLine+1;omega))
 have g1:=get?_update_seq hS2 (λx=>x.push Value.none)
 refine listUpdate_at (a:=s.heap.objs.size) (s:={ s with heap:=h1.update s.heap.objs.size (Obj.mapSeq λx=>x.push Value.none),drawn:=d }) g1 rfl ?_ (by show 1<=sizeLine;rw[sizeLine_eq];decide) (Nat.zero_le _)
 have g2:=get?_update_seq g1 (λx=>x.pop)
 refine wpAny_pure ⟨plainId_quiet (by kernel_rfl) _,?_⟩
 exact fin _ _ g2 λb o n e=>(Heap.get?_update_ne _ _ _ _ n).trans ((Heap.get?_update_ne _ _ _ _ n).trans e)
theorem IH:∀{es:List (Int×Value)} {acc:List Value},(∀e∈es,∃x tk,e=(hashStr w x,Value.str x tk))->acc.Perm (es.map (·.2))->∃ss,StrsAre acc ss/\ss.Perm (es.map keyOf):=λ{es acc} he hp=>by
 let f:Value->Str:=λv=>match v with|.str x _=>x|_=>Str.empty
 have hall:∀v∈acc,∃x tk,v=Value.str x tk:=λv hv=>by
  obtain⟨e,hm,rfl⟩:=List.mem_map.mp (hp.mem_iff.mp hv);obtain⟨x,tk,rfl⟩:=he e hm;exact⟨x,tk,rfl⟩
 have go:∀(l:List Value),(∀v∈l,∃x tk,v=Value.str x tk)->StrsAre l (l.map f):=λl=>by
  induction l with
  |nil=>intro _;exact .nil
  |cons v r ih=>
   intro hl;obtain⟨x,tk,rfl⟩:=hl v List.mem_cons_self;exact .cons x tk (ih λu hu=>hl u (List.mem_cons_of_mem _ hu))
 refine⟨acc.map f,go acc hall,?_⟩
 have:=hp.map f;rw[List.map_map]at this;have e2:es.map (f∘λe=>e.2)=es.map keyOf:=List.map_congr_left λe _=>rfl
 rw[e2]at this;exact this
theorem LR {D:Addr}{S:List Str}{n:Nat}{Q:Value->Shared->Prop}(hA:Ak w (AQ w) s.heap D S n)(hh:A.handled=none)(hn:n < 64)
 (h:∀h' tk d l out ss' e,(∀b o,s.heap.get? b=some o->h'.get? b=some o)->s.heap.objs.size<=l->h'.get? l=some (seqObj "list" out e)->StrsAre out.toList ss'->ss'.Nodup->(∀x,x∈ss'↔x∈S)->sortedS ss'=true->ss'.length<=n->Q (.ref l) { s with heap:=h',toks:=tk,drawn:=d }):
 wpAny (model prog w) A (call (.builtin "sorted") [.ref D]) Q E s:=by
 obtain⟨es,ep,t,hD,hS,hsz⟩:=hA;refine Calls.call_function_entry kind_sorted plain_sorted entry_sorted (args_sorted1 _) ?_
 unfold Builtin.«sorted»;refine wpAny_bind (m:=checkCount "sorted" 1 1 _) (wpAny_pure ?_)
 refine wpAny_bind (J9 (A:=A.in1) hD hS hh (by omega) λh1 tk d acc old1 sz1 hp=>?_)
 obtain⟨ss,hv,hpk⟩:=IH hS.ent hp;have al:acc.length=es.size:=by have:=hp.length_eq;simpa using this
 have fz:acc.length<=sizeLine:=by rw[sizeLine_eq];omega
 refine wpAny_bind (wpAny_newList ?_ fz)
 have hDL:(h1.push (seqObj "list" acc.toArray 0)).get? h1.objs.size=some (seqObj "list" acc.toArray 0):=Heap.get?_push_size _ rfl
 refine wpAny_bind (wpAny_holding (wpAny_call_entry slot_list_sort ⟨_,hDL,rfl⟩ entry_list_sort (list_sort_treeK (s:={ s with heap:=h1.push (seqObj "list" acc.toArray 0),toks:=tk,drawn:=d }) strKind_oneLt hDL (StrsAre.keysOf hv) (λv₁ v₂ rest e=>keyKind_strs (by rw[<-e];exact hv)) (by omega) λst' a1 a2=>⟨_,rfl,?_⟩) (args_list_sort _)))
 obtain⟨ss',b1,b2,b3⟩:=sorted_out_str hv a1 a2;obtain⟨e,he⟩:=sortedHeap_at hDL;refine wpAny_pure ⟨_,rfl,h _ tk d h1.objs.size _ ss' e (λb o eb=>?_) sz1 he b1 ?_ (λx=>?_) b3 ?_⟩
 ·have lt:=Heap.lt_size (old1 _ _ eb)
  rw[sortedHeap_old (Nat.ne_of_lt lt) (by rw[show(h1.push (seqObj "list" acc.toArray 0)).objs.size=h1.objs.size+1 from Heap.size_push ..];exact Nat.lt_succ_of_lt lt)]
  exact Heap.get?_push_of_some _ (old1 _ _ eb)
 ·exact(b2.trans hpk).nodup_iff.mpr hS.nd
 ·rw[(b2.trans hpk).mem_iff];exact hS.mem x
 ·have t1:(es.toList.map keyOf).length=es.size:=by rw[List.length_map,Array.length_toList]
  have t2:=(b2.trans hpk).length_eq;exact Nat.le_trans (Nat.le_of_eq (t2.trans t1)) hsz
end
end L2
namespace L2
open PySem PySem.Spec PyProof.Rows PySem.W
theorem Inv.drawn {X:Cx}{pins:List (Addr×Obj)}{σ:St}{H:Hp}{s:Shared}(I:Inv X pins σ H s)(d:Drawn):Inv X pins σ H { s with drawn:=d }:=
 ⟨I.ok,I.os,I.bare,I.base,I.loc,I.cell,I.free,I.freeC,I.pin,I.hok,I.len⟩
theorem FW:bootBuiltins "set"=some (.type "set"):=by kernel_rfl
theorem EW:bootBuiltins "sorted"=some (.builtin "sorted"):=by kernel_rfl
section
variable {X:Cx}{a:Expr}{ta:TA}{p p2 pos pos2:Pos}
def Ol (K:PySem.W.Frag)(ta:TA):TE:=λσ H Q=>ta σ H λvs H1=>∃(l:Addr) (ss:List Str),vs=[.ref l]/\Ah K H1 l (ss.map V.str)/\ss.length < 64/\
 ∀(ss':List Str) (r:Addr),ss'.Nodup->(∀x,x∈ss'↔x∈ss)->sortedS ss'=true->ss'.length<=ss.length->H1 r=none->Q (.ref r) (upd H1 r (.lst (ss'.map V.str)))
theorem GZ (K:PySem.W.Frag)(hc:X.calm=true)(hg1:Gl X "sorted")(hm1:X.mg "sorted"=none)(hg2:Gl X "set")(hm2:X.mg "set"=none)(ha:PA X [a] ta)(hK:X.K=K:=by rfl)
 (he:starEach [.Call (.Name "set" p2) [a] [] pos2] X.env=[(false,eval (.Call (.Name "set" p2) [a] [] pos2) X.env)]:=by rfl)(he2:starEach [a] X.env=[(false,eval a X.env)]:=by rfl):
 PE X (.Call (.Name "sorted" p) [.Call (.Name "set" p2) [a] [] pos2] [] pos) (Ol K ta):=by
 subst hK;intro pins s σ H Q I h;refine wpAny_Call_Name_kw (CS I hg1 hm1 EW ?_ (by decide) (by decide))
 refine PyProof.Rows.callWith_builtin1 ?_ he rfl
 rw[he];show wpAny _ _ (spliced ((false,eval (.Call (.Name "set" p2) [a] [] pos2) X.env)::backTo pos (starEach [] X.env))) _ _ _;refine Calls.spliced_cons ?_
 refine wpAny_Call_Name_kw (CS (I.tok _) hg2 hm2 FW ?_ (by decide) (by decide))
 refine PyProof.Rows.callWith_type1 (A8 (ha pos2 pins _ σ H _ (I.tok _) h) λus s1 ⟨vs,H1,I1,r1,q1⟩=>?_) he2 rfl
 obtain⟨l,ss,rfl,hq,h64,q⟩:=q1;obtain⟨u,rfl,ru⟩:=vals1 r1;cases(show u=Value.ref l from ru)
 obtain⟨its,rv,ht,hz⟩:=I1.list hq;have hlen:=rv.length;rw[List.length_map]at hlen;have hh:X.A.handled=none:=I1.ok.hd hc;have hsz:its.toArray.size=its.length:=List.size_toArray ..;refine J6 ht.isList (CV rv) hh (by show its.toArray.size+1 < 4096;omega) λh2 tk2 old2 hA=>?_
 refine Calls.spliced_nil ?_
 have lt2:s1.heap.objs.size < h2.objs.size:=by
  obtain⟨es,ep,t,e,_⟩:=id hA;exact Heap.lt_size e
 refine LR (s:={ s1 with heap:=h2,toks:=tk2 }) hA hh (by omega) λh3 tk3 d l3 out ss' e old3 lge hg3 hv3 nd3 mem3 srt3 len3=>?_
 have lge':s1.heap.objs.size<=l3:=Nat.le_trans (Nat.le_of_lt lt2) lge;have sl:ss'.length<=ss.length:=by omega
 have I3:=I1.laid (t':=tk3) (h':=h3) (a:=l3) (o:=.lst (ss'.map V.str)) (λb o eb=>old3 b o (old2 b o eb)) lge' (show Am X.prog X.w _ _ _ (.lst (ss'.map V.str))from⟨by rw[List.length_map];exact Nat.le_of_lt (AK (by omega)),out.toList,e,Cc hv3,hg3⟩)
 exact⟨.ref l3,_,I3.drawn d,rfl,q ss' l3 nd3 mem3 srt3 sl (I1.hok.fresh lge')⟩
end
end L2
namespace L2
open PySem PySem.Spec PyProof.Rows PySem.W
section
variable {X:Cx}
theorem Om:VW X "list.index" (λx vs H Q=>∃(l:Addr) (ss:List Str) (y:Str),x=.ref l/\vs=[.str y]/\H l=some (.lst (ss.map V.str))/\y∈ss/\ss.length<=1000/\Q (.int ((ss.idxOf y:Nat):Int)) H):=by
 intro pins s σ H x vs v us Q I rx rv h;obtain⟨l,ss,y,rfl,rfl,hH,hm,hl,q⟩:=h;cases rx;obtain⟨u,rfl,ru⟩:=rv.one;have ru0:=ru;obtain⟨ty,rfl⟩:=ru;obtain⟨z,its,n,r,hz,e⟩:=I.LL hH;have rl:=r.length;rw[List.length_map]at rl;have jl:ss.idxOf y < ss.length:=List.idxOf_lt_length_of_mem hm
 have key:∀(j:Nat) (hj:j < its.toArray.size),Jv (V.str y) its.toArray[j]=(ss[j]'(by rw[rl];simpa using hj)==y):=λj hj=>by
  have hj':j < ss.length:=by rw[rl];simpa using hj
  obtain⟨w',e1,e2⟩:=r.get (i:=j) (x:=V.str (ss[j])) (by rw[List.getElem?_map,List.getElem?_eq_getElem hj'];rfl)
  obtain⟨t',rfl⟩:=e2
  have:its.toArray[j]=Value.str ss[j] t':=by
   rw[List.getElem?_eq_getElem (by omega)]at e1
   simpa using Option.some.inj e1
  rw[this];rfl
 refine call_meets F.slot_list_index ⟨_,e,rfl⟩ F.entry_list_index (F.args_list_index_2 _ _) (SeqAt.list_indexAt l its.toArray n none #[] (.str y ty) (Jv (V.str y)) (ss.idxOf y) (by rw[List.size_toArray];omega) (by omega) ?_ ?_) ⟨e,λu hu=>Ct (x:=V.str y) ru0 rfl r (NU ss) u (by simpa using hu),?_⟩
 ·rw[key _ (by rw[List.size_toArray];omega),List.getElem_idxOf jl];exact beq_self_eq_true y
 ·intro m hm' hlt
  rw[key m hm'];have:=List.not_of_lt_findIdx (p:=(·==y)) (xs:=ss) (i:=m) hlt
  simpa using this
 ·exact⟨.int _,H,I.tok _,⟨_,rfl⟩,q⟩
end
end L2
namespace L2
open PySem PySem.Spec PyProof.Rows PySem.W
section
variable {X:Cx}
def SH:V->List V->Hp->VK->Prop:=λx vs H Q=>∃(l:Addr) (ss:List Str) (y:Str),x=.ref l/\vs=[.str y]/\H l=some (.lst (ss.map V.str))/\y∈ss/\ss.length<=1000/\Q (.int ((ss.idxOf y:Nat):Int)) H
theorem Na (K:PySem.W.Frag){o e:Expr}{to te:TE}{apos cpos:Pos}(ho:PE X o to)(he:PE X e te)(hK:X.K=K:=by rfl)(hbase:attributeBase o "index" X.env (eval o X.env)=eval o X.env:=by rfl)
 (h1:starEach [e] X.env=[(false,eval e X.env)]:=by rfl)(hl:(apos.endLine==cpos.line)=true:=by rfl):
 PE X (.Call (.Attribute o "index" apos) [e] [] cpos) (VU K "list" SH to (OQ te NJ)):=by
 subst hK;exact Cu PySem.F.plainAttrs_list PySem.F.slot_list_index PySem.F.type_list_index Om ho (AA he AB h1) hbase (by rw[h1];rfl) hl h1 (by rfl)
end
end L2
namespace L2
open PySem PySem.Spec PyProof.Rows
section
variable {κ:Type}[DecidableEq κ]
def FX (kvs:List (κ×V))(k:κ):Option V:=(kvs.find? λkv=>decide (kv.1=k)).map (·.2)
def putK (kvs:List (κ×V))(k:κ)(v:V):List (κ×V):=
 if(kvs.any λkv=>decide (kv.1=k))=true then kvs.map (λkv=>if kv.1=k then(kv.1,v)else kv)else kvs++[(k,v)]
theorem Ey {p:κ×V}{r:List (κ×V)}{k:κ}(e:p.1=k):FX (p::r) k=some p.2:=by simp[FX,List.find?_cons,e]
theorem Ez {p:κ×V}{r:List (κ×V)}{k:κ}(e:¬p.1=k):FX (p::r) k=FX r k:=by simp[FX,List.find?_cons,e]
theorem KA (k:κ):∀kvs:List (κ×V),(kvs.any λkv=>decide (kv.1=k))=(FX kvs k).isSome
 |[]=>rfl
 |p::r=>by
  rw[List.any_cons]
  by_cases e:p.1=k
  ·simp only[Ey e,decide_eq_true e,Bool.true_or,Option.isSome_some]
  ·rw[Ez e,decide_eq_false e,Bool.false_or];exact KA k r
theorem Dh (kvs:List (κ×V))(k:κ)(v:V):(putK kvs k v).length<=kvs.length+1:=by
 unfold putK
 split
 ·rw[List.length_map];omega
 ·rw[List.length_append,List.length_cons,List.length_nil];omega
theorem Ij.Nb {o:Option V}{u:Option Value}(r:Ij o u):o.isSome=u.isSome:=by
 cases o with
 |none=>cases u with
  |none=>rfl
  |some _=>exact(show False from r).elim
 |some _=>cases u with
  |none=>exact(show False from r).elim
  |some _=>rfl
theorem Ij.getD {o:Option V}{u:Option Value}{d:V}{d':Value}(r:Ij o u)(rd:RelV d d'):RelV (o.getD d) (u.getD d'):=by
 cases o with
 |none=>cases u with
  |none=>exact rd
  |some _=>exact(show False from r).elim
 |some _=>cases u with
  |none=>exact(show False from r).elim
  |some _=>exact r
theorem KV.val {kvs:List (κ×V)}{vs:List (κ×Value)}(r:KV kvs vs)(k:κ):Ij (FX kvs k) (valueAt vs k):=by
 unfold KV at r
 induction r with
 |nil=>exact True.intro
 |@cons p q ps qs h t ih=>
  obtain⟨h1,h2⟩:=h
  by_cases e:p.1=k
  ·have e':q.1=k:=h1.symm.trans e
   have b:valueAt (q::qs) k=some q.2:=by simp[valueAt,List.find?_cons,e']
   rw[Ey e,b];exact h2
  ·have e':¬q.1=k:=λz=>e (h1.trans z)
   have b:valueAt (q::qs) k=valueAt qs k:=by simp[valueAt,List.find?_cons,e']
   rw[Ez e,b];exact ih
theorem KV.any {kvs:List (κ×V)}{vs:List (κ×Value)}(r:KV kvs vs)(k:κ):(kvs.any λkv=>decide (kv.1=k))=vs.any λkv=>decide (kv.1=k):=by
 unfold KV at r
 induction r with
 |nil=>rfl
 |cons h t ih=>rw[List.any_cons,List.any_cons,ih,h.1]
theorem KV.SJ {kvs:List (κ×V)}{vs:List (κ×Value)}(r:KV kvs vs)(k:κ){y:V}{u:Value}(ry:RelV y u):
 KV (kvs.map λkv=>if kv.1=k then(kv.1,y)else kv) (vs.map λkv=>if kv.1=k then(kv.1,u)else kv):=by
 unfold KV at r ⊢
 induction r with
 |nil=>exact .nil
 |@cons p q ps qs h t ih=>
  rw[List.map_cons,List.map_cons];refine .cons ?_ ih
  obtain⟨h1,h2⟩:=h
  by_cases e:p.1=k
  ·rw[if_pos e,if_pos (h1.symm.trans e)];exact⟨h1,ry⟩
  ·rw[if_neg e,if_neg (λz=>e (h1.trans z))];exact⟨h1,h2⟩
theorem KV.put {kvs:List (κ×V)}{vs:List (κ×Value)}(r:KV kvs vs)(k:κ){y:V}{u:Value}(ry:RelV y u):KV (putK kvs k y) (stored vs k u):=by
 unfold putK stored;rw[r.any k]
 by_cases e:(vs.any λkv=>decide (kv.1=k))=true
 ·rw[if_pos e,if_pos e];exact r.SJ k ry
 ·rw[if_neg e,if_neg e];exact Paired.snoc r ⟨rfl,ry⟩
theorem KV.keys {kvs:List (κ×V)}{vs:List (κ×Value)}(r:KV kvs vs):kvs.map (·.1)=vs.map (·.1):=by
 unfold KV at r
 induction r with
 |nil=>rfl
 |cons h t ih=>rw[List.map_cons,List.map_cons,ih,h.1]
theorem KV.length {kvs:List (κ×V)}{vs:List (κ×Value)}(r:KV kvs vs):kvs.length=vs.length:=Paired.length r
end
theorem II {P:Program}{w:World}{k:Key}{u:Value}(r:RelV (kV k) u):(Ac P w).is k u=true:=by
 cases k with
 |inl i=>obtain⟨t,e⟩:=(show∃t,u=Value.int i t from r);subst e;exact Jo P w i t
 |inr x=>obtain⟨t,e⟩:=(show∃t,u=Value.str x t from r);subst e;exact Jp P w x t
theorem IJ {P:Program}{w:World}:∀{ks:List Key} {us:List Value},Vals (ks.map kV) us->ItemsAre (Ac P w) ks us
 |[],_,r=>by rw[List.map_nil]at r;cases r;exact .nil
 |k::ks,_,r=>by
  rw[List.map_cons]at r;cases r with
  |cons h t=>exact .cons (II h) (IJ t)
abbrev KT (H:Hp):List (List Key×V)->List (List Key×Addr×Value)->Prop:=Paired λp q=>p.1=q.1/\H q.2.1=some (.tup (p.1.map kV))/\RelV p.2 q.2.2
theorem KT.val {H:Hp}{kvs:List (List Key×V)}{xs:List (List Key×Addr×Value)}(r:KT H kvs xs)(k:List Key):Ij (FX kvs k) ((atKey xs k).map (·.2)):=by
 induction r with
 |nil=>exact True.intro
 |@cons p q ps qs h t ih=>
  obtain⟨h1,_,h2⟩:=h
  by_cases e:p.1=k
  ·have e':q.1=k:=h1.symm.trans e
   have b:atKey (q::qs) k=some q.2:=by simp[atKey,List.find?_cons,e']
   rw[Ey e,b];exact h2
  ·have e':¬q.1=k:=λz=>e (h1.trans z)
   have b:atKey (q::qs) k=atKey qs k:=by simp[atKey,List.find?_cons,e']
   rw[Ez e,b];exact ih
theorem KT.SJ {H:Hp}{kvs:List (List Key×V)}{xs:List (List Key×Addr×Value)}(r:KT H kvs xs)(k:List Key){y:V}{u:Value}(ry:RelV y u):
 KT H (kvs.map λkv=>if kv.1=k then(kv.1,y)else kv) (xs.map (putAt k u)):=by
 induction r with
 |nil=>exact .nil
 |@cons p q ps qs h t ih=>
  rw[List.map_cons,List.map_cons];refine .cons ?_ ih
  obtain⟨h1,h2,h3⟩:=h;unfold putAt
  by_cases e:p.1=k
  ·rw[if_pos e,if_pos (h1.symm.trans e)];exact⟨h1,h2,ry⟩
  ·rw[if_neg e,if_neg (λz=>e (h1.trans z))];exact⟨h1,h2,h3⟩
theorem KT.put {H:Hp}{kvs:List (List Key×V)}{xs:List (List Key×Addr×Value)}(r:KT H kvs xs)(k:List Key){b:Addr}{y:V}{u:Value}(hb:H b=some (.tup (k.map kV)))(ry:RelV y u):
 KT H (putK kvs k y) (storedH xs k b u):=by
 have e:(kvs.any λkv=>decide (kv.1=k))=(atKey xs k).isSome:=by
  rw[KA,(r.val k).Nb,Option.isSome_map]
 unfold putK storedH;rw[e]
 by_cases q:(atKey xs k).isSome=true
 ·rw[if_pos q,if_pos q];exact r.SJ k ry
 ·rw[if_neg q,if_neg q];exact Paired.snoc r ⟨rfl,hb,ry⟩
theorem KT.keeps {H H':Hp}{kvs:List (List Key×V)}{xs:List (List Key×Addr×Value)}(r:KT H kvs xs)(ht:∀b ys,H b=some (.tup ys)->H' b=some (.tup ys)):KT H' kvs xs:=
 Paired.Rn r λ_ _ z=>⟨z.1,ht _ _ z.2.1,z.2.2⟩
section
variable {P:Program}{w:World}{H:Hp}{h:Heap}{a:Addr}
theorem RU {u:HO}(ok:DO P w H h)(e:Rd H a u):Am P w H h a u:=e.ok ok
theorem KC {kvs:List (Key×V)}(ok:DO P w H h)(e:Rd H a (.dK kvs)):kvs.length<=sizeLine/\(a==sysModules)=false/\∃vs,KV kvs vs/\h.DictOf (Ac P w) a vs:=
 show Am P w H h a (.dK kvs)from RU ok e
theorem RV {kvs:List (Key×V)}(ok:DO P w H h)(e:H a=some (.dK kvs)):kvs.length<=sizeLine/\(a==sysModules)=false/\∃vs,KV kvs vs/\h.DictOf (Ac P w) a vs:=KC ok (.inl e)
theorem JD {ks:List Key}(ok:DO P w H h)(e:H a=some (.tup (ks.map kV))):(tupleKind (Ac P w)).is h ks a:=by
 obtain⟨_,its,r,o,h1,h2,n,h3⟩:=(show Am P w H h a (.tup (ks.map kV))from ok a _ e)
 exact⟨o,its.toArray,n,h1,h2,h3,by simpa using IJ r⟩
theorem MS {kvs:List (List Key×V)}(ok:DO P w H h)(e:Rd H a (.dT kvs)):kvs.length<=sizeLine/\(a==sysModules)=false/\
 ∃xs,KT H kvs xs/\h.DictOfH (tupleKind (Ac P w)) a xs:=by
 obtain⟨z,y,xs,r,o,es,ep,h1,h2,h3,h4,h5⟩:=(show Am P w H h a (.dT kvs)from RU ok e)
 refine⟨z,y,xs,r,o,es,ep,h1,h2,h3,h4,λx hx=>?_,h5⟩
 have all:∀{l:List (List Key×V)} {m:List (List Key×Addr×Value)},KT H l m->∀x∈m,(tupleKind (Ac P w)).is h x.1 x.2.1:=by
  intro l m q
  induction q with
  |nil=>intro x hx;exact nomatch hx
  |@cons p q ps qs hq t ih=>
   intro x hx
   rcases List.mem_cons.mp hx with e|hx
   ·subst e
    exact JD ok (by rw[<-hq.1];exact hq.2.1)
   ·exact ih x hx
 exact all r x hx
theorem UK {kvs:List (List Key×V)}(ok:DO P w H h)(e:H a=some (.dT kvs)):kvs.length<=sizeLine/\(a==sysModules)=false/\
 ∃xs,KT H kvs xs/\h.DictOfH (tupleKind (Ac P w)) a xs:=MS ok (.inl e)
end
def KD (H:Hp)(a:Addr)(y:V)(r:Option V):Prop:=
 (∃kvs k,Rd H a (.dK kvs)/\y=kV k/\r=FX kvs k)\/∃kvs k b,Rd H a (.dT kvs)/\y=.ref b/\H b=some (.tup (k.map kV))/\r=FX kvs k
def Oo (H:Hp)(a:Addr)(y v:V)(H':Hp):Prop:=
 (∃kvs k,H a=some (.dK kvs)/\y=kV k/\kvs.length < sizeLine/\H'=upd H a (.dK (putK kvs k v)))\/
 ∃kvs k b,H a=some (.dT kvs)/\y=.ref b/\H b=some (.tup (k.map kV))/\kvs.length < sizeLine/\H'=upd H a (.dT (putK kvs k v))
theorem KD.k {H:Hp}{a:Addr}{kvs:List (Key×V)}{k:Key}(e:H a=some (.dK kvs)):KD H a (kV k) (FX kvs k):=.inl ⟨kvs,k,.inl e,rfl,rfl⟩
theorem Oo.k {H:Hp}{a:Addr}{kvs:List (Key×V)}{k:Key}{v:V}(e:H a=some (.dK kvs))(hl:kvs.length < sizeLine):Oo H a (kV k) v (upd H a (.dK (putK kvs k v))):=.inl ⟨kvs,k,e,rfl,hl,rfl⟩
section
variable {X:Cx}{pins:List (Addr×Obj)}{σ:St}{H:Hp}{s:Shared}{a:Addr}{y v:V}{u r:Value}{o:Option V}{A:Around}{E:Value->Shared->Prop}
theorem Inv.big (I:Inv X pins σ H s):sysModules < s.heap.objs.size:=by
 have h:mainGlobals < s.heap.objs.size:=(I.mod.glob.keeps I.bk).lt;exact Nat.lt_trans (by decide) h
theorem JE {h':Heap}{t':Nat}{ob:HO}(I:Inv X pins σ H s)(mu:Tp (H a))(hs:Heap.SameBut a s.heap h')(he:∃q,h'.get? a=some q)(new:Am X.prog X.w (upd H a ob) h' a ob):
 Inv X pins σ (upd H a ob) { s with heap:=h',toks:=t' }:=
 I.write (x:=a) (e:=a) mu (.inl rfl) (λb q hb z=>(hs.2 b hb).trans z) he new
theorem LS {P:Program}{w:World}{H':Hp}{h':Heap}{kvs:List (Key×V)}{vs:List (Key×Value)}(z:kvs.length<=sizeLine)(hd:(a==sysModules)=false)(rel:KV kvs vs)(dd:h'.DictOf (Ac P w) a vs):
 Am P w H' h' a (.dK kvs):=⟨z,hd,vs,rel,dd⟩
theorem Nc {H':Hp}{Q:Unit->Shared->Prop}(hu:A.units+1 < cLine)(I:Inv X pins σ H s)(g:Oo H a y v H')(ry:RelV y u)(rv:RelV v r)(h:∀s',Inv X pins σ H' s'->Q () s'):
 wpAny (model X.prog X.w) A (setItem (.ref a) u r) Q E s:=by
 rcases g with⟨kvs,k,e,ey,l,eH⟩|⟨kvs,k,b,e,ey,eb,l,eH⟩
 ·subst ey eH
  obtain⟨z,hd,vs,rel,dd⟩:=RV I.hok e;have hz:vs.length<=sizeLine:=by rw[<-rel.length];exact z
  have hl:(putK kvs k v).length<=sizeLine:=by have:=Dh kvs k v;omega
  refine wpAny_setItem_pairs (hsz:=hz) (II ry) dd λh' dd' hs=>h _ ?_
  have he:∃q,h'.get? a=some q:=let⟨q,_,_,hq,_⟩:=dd';⟨q,hq⟩
  exact JE I (by rw[e];exact True.intro) hs he (LS hl hd (rel.put k rv) dd')
 ·subst ey eH
  cases(show u=Value.ref b from ry)
  obtain⟨z,hd,xs,rel,dd⟩:=UK I.hok e;have hz:xs.length<=sizeLine:=by rw[<-Paired.length rel];exact z
  have hl:(putK kvs k v).length<=sizeLine:=by have:=Dh kvs k v;omega
  refine wpAny_setItem_heap (hsz:=hz) (tupleKind_room_in1 hu) (JD I.hok eb) dd λh' dd' hs=>h _ ?_
  obtain⟨q,es,ep,hq,h2,h3,h4,_,h5⟩:=dd';refine JE I (by rw[e];exact True.intro) hs ⟨q,hq⟩ ⟨hl,hd,_,(rel.put k eb rv).keeps λc ys ec=>?_,q,es,ep,hq,h2,h3,h4,h5⟩
  rw[AO (Jq ec e (λz=>nomatch z))]
  exact ec
end
section
variable {X:Cx}{pins:List (Addr×Obj)}{σ:St}{H:Hp}{s:Shared}{a:Addr}{kvs:List (Key×V)}{k:Key}{u:Value}{A:Around}{E:Value->Shared->Prop}
end
def UL (td ty tv:TE):TS:=λD σ H=>tv σ H λv H1=>td σ H1 λx H2=>ty σ H2 λy H3=>∃a H4,x=.ref a/\Oo H3 a y v H4/\D.nx σ H4
section
variable {X:Cx}{o i e value:Expr}{pos pos' tpos:Pos}{td ty tv:TE}
theorem Qc (hu:X.A.units+1 < cLine)(ho:PE X o td)(hi:PE X i ty)(hv:PE X value tv)(hs:swapsWith value (some (.Subscript o i pos')) pos.line X.env=pure false):
 PS X (.Assign [.Subscript o i pos'] value pos) (UL td ty tv):=by
 intro pins s σ H D I h;refine wpAny_Assign_Subscript (A8 (hv pins s σ H _ I h) λr s1 ⟨v,H1,I1,rv,q1⟩=>A8 (ho pins s1 σ H1 _ I1 q1) λu s2 ⟨x,H2,I2,rx,q2⟩=>A8 (hi pins s2 σ H2 _ I2 q2) λiv s3 ⟨y,H3,I3,ry,a,H4,ex,g,q3⟩=>?_) hs
 subst ex;obtain rfl:u=Value.ref a:=rx;exact Nc hu I3 g ry rv λs4 I4=>⟨σ,H4,I4,q3⟩
end
theorem KG {P:Program}{w:World}{H:Hp}(h:Heap)(hb:sysModules < h.objs.size):Am P w H (h.push { cls:=.type "dict",data:=.dict #[] }) h.objs.size (.dK []):=
 ⟨Nat.zero_le _,beq_eq_false_iff_ne.mpr (Ne.symm (Nat.ne_of_lt hb)),[],.nil,Heap.DictOf.new h⟩
def SN:TE:=λ_ H Q=>∀p,H p=none->Q (.ref p) (upd H p (.dK []))
section
variable {X:Cx}{pos:Pos}
theorem Oq:PE X (.Dict [] [] pos) SN:=λpins s σ H Q I h=>
 wpAny_Dict_empty ⟨.ref s.heap.objs.size,_,I.laid (a:=s.heap.objs.size) (o:=.dK []) (t':=s.toks) (λ_ _ q=>Heap.get?_push_of_some _ q) (Nat.le_refl _) (KG s.heap I.big),rfl,h _ (I.hok.fresh (Nat.le_refl _))⟩
end
def LU:List (TE×TE)->St->Hp->(List (V×V)->Hp->Prop)->Prop
 |[],_,H,Q=>Q [] H
 |(tk,tv)::r,σ,H,Q=>tk σ H λx H1=>tv σ H1 λy H2=>LU r σ H2 λps H3=>Q ((x,y)::ps) H3
abbrev VV:List (V×V)->List (Value×Value)->Prop:=Paired λp q=>RelV p.1 q.1/\RelV p.2 q.2
def U0 (X:Cx)(pos:Pos)(keys:List (Option Expr))(values:List Expr)(trs:List (TE×TE)):Prop:=
 ∀(pins:List (Addr×Obj)) (s:Shared) (σ:St) (H:Hp) (Q:List (V×V)->Hp->Prop),Inv X pins σ H s->LU trs σ H Q->
  wpAny (model X.prog X.w) X.A (evalPairs (pairTrees keys values X.env pos)) (λvs s'=>∃ps H',Inv X pins σ H' s'/\VV ps vs/\Q ps H') X.xe s
theorem Qd {X:Cx}{pos:Pos}:U0 X pos [] [] []:=λpins s σ H Q I h=>pairTrees_nil_walk ⟨[],H,I,.nil,h⟩
theorem Ot {X:Cx}{pos:Pos}{k v:Expr}{ks:List (Option Expr)}{vs:List Expr}{tk tv:TE}{trs:List (TE×TE)}(hk:PE X k tk)(hv:PE X v tv)(hr:U0 X pos ks vs trs):
 U0 X pos (some k::ks) (v::vs) ((tk,tv)::trs):=λpins s σ H Q I h=>
 pairTrees_cons_walk (A8 (hk pins s σ H _ I h) λu s1 ⟨x,H1,I1,rx,q1⟩=>A8 (hv pins s1 σ H1 _ I1 q1) λw2 s2 ⟨y,H2,I2,ry,q2⟩=>
  A8 (hr pins s2 σ H2 _ I2 q2) λws s3 ⟨ps,H3,I3,rel,q3⟩=>⟨(x,y)::ps,H3,I3,.cons ⟨rx,ry⟩ rel,q3⟩)
def FY (kvs more:List (Key×V)):List (Key×V):=more.foldl (λacc kv=>putK acc kv.1 kv.2) kvs
theorem KV.merge:∀{more:List (Key×V)} {rs:List (Key×Value)} {kvs:List (Key×V)} {vs:List (Key×Value)},KV more rs->KV kvs vs->KV (FY kvs more) (merged vs rs):=by
 intro more rs kvs vs r;unfold KV at r
 induction r generalizing kvs vs with
 |nil=>intro q;exact q
 |@cons p q ps qs h t ih=>
  intro r0
  have e:KV (putK kvs p.1 p.2) (stored vs q.1 q.2):=by
   have:=r0.put p.1 h.2;rw[<-h.1];exact this
  exact ih e
theorem EH:∀(more kvs:List (Key×V)),(FY kvs more).length<=kvs.length+more.length
 |[],kvs=>by show kvs.length<=kvs.length+0;omega
 |p::r,kvs=>by
  have h1:=EH r (putK kvs p.1 p.2);have h2:=Dh kvs p.1 p.2;show(FY (putK kvs p.1 p.2) r).length<=_;rw[List.length_cons];omega
theorem Ga {P:Program}{w:World}:∀{kvs:List (Key×V)} {ws:List (Value×Value)},VV (kvs.map λkv=>(kV kv.1,kv.2)) ws->∃rs,Carries (Ac P w) ws rs/\KV kvs rs
 |[],_,r=>by rw[List.map_nil]at r;cases r;exact⟨[],True.intro,.nil⟩
 |p::kvs,_,r=>by
  rw[List.map_cons]at r;cases r with
  |@cons a b as bs h t=>
   obtain⟨rs,c,q⟩:=Ga (P:=P) (w:=w) t;obtain⟨b1,b2⟩:=b;exact⟨(p.1,b2)::rs,⟨II h.1,rfl,c⟩,.cons ⟨rfl,h.2⟩ q⟩
def UM (trs:List (TE×TE)):TE:=λσ H Q=>∀p,H p=none->LU trs σ (upd H p (.dK [])) λps H2=>H2 p=some (.dK [])/\∃kvs:List (Key×V),ps=kvs.map (λkv=>(kV kv.1,kv.2))/\kvs.length<=15/\Q (.ref p) (upd H2 p (.dK (FY [] kvs)))
theorem Qe {X:Cx}{pos:Pos}{keys:List (Option Expr)}{values:List Expr}{trs:List (TE×TE)}(h:U0 X pos keys values trs)(hall:keys.all (·.isSome)=true)(hl:keys.length=values.length)(h0:keys≠[])
 (h15:keys.length<=15):PE X (.Dict keys values pos) (UM trs):=by
 intro pins s σ H Q I q;have hn:=I.hok.fresh (Nat.le_refl s.heap.objs.size);have I1:=I.laid (a:=s.heap.objs.size) (o:=.dK []) (h':=s.heap.push { cls:=.type "dict",data:=.dict #[] }) (t':=s.toks) (λ_ _ q=>Heap.get?_push_of_some _ q) (Nat.le_refl _) (KG s.heap I.big)
 refine wpAny_Dict_walk (knd:=Ac X.prog X.w) hall hl h0 h15 (A8 (h pins _ σ _ _ I1 (q _ hn)) λws s2 ⟨ps,H2,I2,rel,e,kvs,ep,lk,q2⟩=>?_)
 subst ep;obtain⟨rs,c,rk⟩:=Ga (P:=X.prog) (w:=X.w) rel;obtain⟨z,hd,vs0,r0,dd⟩:=RV I2.hok e;cases r0;refine⟨rs,c,dd,λh' dd' hs=>⟨.ref s.heap.objs.size,_,?_,rfl,q2⟩⟩
 have hz:(FY [] kvs).length<=sizeLine:=by
  have h1:=EH kvs [];rw[List.length_nil]at h1;rw[sizeLine_eq];omega
 have he:∃q,h'.get? s.heap.objs.size=some q:=let⟨q,_,_,hq,_⟩:=dd';⟨q,hq⟩
 exact JE I2 (by rw[e];exact True.intro) hs he (LS hz hd (rk.merge .nil) dd')
structure M1 (X:Cx)(o:Expr)(m:Str)(apos:Pos)(e:Expr)(cpos:Pos):Prop where
 base:attributeBase o m X.env (eval o X.env)=eval o X.env
 few:((backTo cpos (starEach [e] X.env)).all (λx=>!x.1)&&(backToKw cpos (keywordEach [] X.env)).all (λx=>x.1.isSome)
  &&decide (([e]:List Expr).length+([]:List Keyword).length+(if([]:List Keyword).isEmpty then 0 else 1) < 30))=true
 line:(apos.endLine==cpos.line)=true
 trees:backTo cpos (starEach [e] X.env)=[(false,eval e X.env)]
structure M2 (X:Cx)(o:Expr)(m:Str)(apos:Pos)(e f:Expr)(cpos:Pos):Prop where
 base:attributeBase o m X.env (eval o X.env)=eval o X.env
 few:((backTo cpos (starEach [e,f] X.env)).all (λx=>!x.1)&&(backToKw cpos (keywordEach [] X.env)).all (λx=>x.1.isSome)
  &&decide (([e,f]:List Expr).length+([]:List Keyword).length+(if([]:List Keyword).isEmpty then 0 else 1) < 30))=true
 line:(apos.endLine==cpos.line)=true
 trees:backTo cpos (starEach [e,f] X.env)=[(false,eval e X.env),(false,eval f X.env)]
def Vd (H:Hp)(a:Addr):Prop:=(∃kvs,Rd H a (.dK kvs))\/∃kvs,Rd H a (.dT kvs)
theorem Ou {X:Cx}{pins:List (Addr×Obj)}{σ:St}{H:Hp}{s:Shared}{a:Addr}(I:Inv X pins σ H s)(d:Vd H a):
 s.TypeIs (.ref a) "dict"/\(∀b,Value.ref a=.ref b->∃ob,s.heap.get? b=some ob/\ob.dict=none)/\(a==sysModules)=false:=by
 rcases d with⟨kvs,e⟩|⟨kvs,e⟩
 ·obtain⟨_,hd,vs,_,dd⟩:=KC I.hok e
  refine⟨dd.typeIs,λb q=>?_,hd⟩
  cases q;obtain⟨ob,_,_,h1,h2,_⟩:=dd;exact⟨ob,h1,h2.2.1⟩
 ·obtain⟨_,hd,xs,_,dd⟩:=MS I.hok e
  refine⟨dd.typeIs,λb q=>?_,hd⟩
  cases q;obtain⟨ob,_,_,h1,h2,_⟩:=dd;exact⟨ob,h1,h2.2.1⟩
section
variable {X:Cx}{pins:List (Addr×Obj)}{σ:St}{H:Hp}{s:Shared}{a:Addr}{y d:V}{u r:Value}{o:Option V}{A:Around}{E:Value->Shared->Prop}
theorem SO {Q:Value->Shared->Prop}(hu:A.units+1 < cLine)(I:Inv X pins σ H s)(g:KD H a y o)(ry:RelV y u)(h:∀w' s',Inv X pins σ H s'->RelV (o.getD .BK) w'->Q w' s'):
 wpAny (model X.prog X.w) A (call (.builtin "dict.get") [.ref a,u]) Q E s:=by
 rcases g with⟨kvs,k,e,ey,l⟩|⟨kvs,k,b,e,ey,eb,l⟩
 ·subst ey
  obtain⟨z,hd,vs,rel,dd⟩:=KC I.hok e;refine call_meetsIn PySem.F.slot_dict_get dd.typeIs PySem.F.entry_dict_get (PySem.F.args_dict_get_2 _ _) (meets_dict_get (Ac X.prog X.w) a (II ry) hd) ⟨_,dd.mapOf,h _ _ (I.tok _) ?_⟩
  rw[l];exact(rel.val k).getD rfl
 ·subst ey
  cases(show u=Value.ref b from ry)
  obtain⟨z,hd,xs,rel,dd⟩:=MS I.hok e;refine call_meetsIn PySem.F.slot_dict_get dd.typeIs PySem.F.entry_dict_get (PySem.F.args_dict_get_2 _ _) (meetsH_dict_get (tupleKind (Ac X.prog X.w)) a b hd) ⟨tupleKind_room_in1 hu,k,xs,JD I.hok eb,dd,h _ _ (I.tok _) ?_⟩
  rw[l];exact(rel.val k).getD rfl
theorem SQ {Q:Value->Shared->Prop}(hu:A.units+1 < cLine)(I:Inv X pins σ H s)(g:KD H a y o)(ry:RelV y u)(rd:RelV d r)(h:∀w' s',Inv X pins σ H s'->RelV (o.getD d) w'->Q w' s'):
 wpAny (model X.prog X.w) A (call (.builtin "dict.get") [.ref a,u,r]) Q E s:=by
 rcases g with⟨kvs,k,e,ey,l⟩|⟨kvs,k,b,e,ey,eb,l⟩
 ·subst ey
  obtain⟨z,hd,vs,rel,dd⟩:=KC I.hok e;refine call_meetsIn PySem.F.slot_dict_get dd.typeIs PySem.F.entry_dict_get (PySem.F.args_dict_get_3 _ _ _) (meets_dict_get_default (Ac X.prog X.w) a (II ry) hd r) ⟨_,dd.mapOf,h _ _ (I.tok _) ?_⟩
  rw[l];exact(rel.val k).getD rd
 ·subst ey
  cases(show u=Value.ref b from ry)
  obtain⟨z,hd,xs,rel,dd⟩:=MS I.hok e;refine call_meetsIn PySem.F.slot_dict_get dd.typeIs PySem.F.entry_dict_get (PySem.F.args_dict_get_3 _ _ _) (meetsH_dict_get_default (tupleKind (Ac X.prog X.w)) a b hd r) ⟨tupleKind_room_in1 hu,k,xs,JD I.hok eb,dd,h _ _ (I.tok _) ?_⟩
  rw[l];exact(rel.val k).getD rd
end
def SR (td ty:TE):TE:=λσ H Q=>td σ H λx H1=>∃a,x=.ref a/\Vd H1 a/\ty σ H1 λy H2=>∃o,KD H2 a y o/\Q (o.getD .BK) H2
def SS (td ty tx:TE):TE:=λσ H Q=>td σ H λx H1=>∃a,x=.ref a/\Vd H1 a/\ty σ H1 λy H2=>tx σ H2 λz H3=>∃o,KD H3 a y o/\Q (o.getD z) H3
section
variable {X:Cx}{o e f:Expr}{apos cpos:Pos}{td ty tx:TE}
theorem Ov (hu:X.A.units+1 < cLine)(ho:PE X o td)(he:PE X e ty)(m:M1 X o "get" apos e cpos):PE X (.Call (.Attribute o "get" apos) [e] [] cpos) (SR td ty):=by
 intro pins s σ H Q I h;refine wpAny_Call_method m.base m.few m.line PySem.F.plainAttrs_dict PySem.F.slot_dict_get PySem.F.type_dict_get (A8 (ho pins s σ H _ I h) λu s1 ⟨x,H1,I1,rx,a,ex,d,q1⟩=>?_)
 subst ex;obtain rfl:u=Value.ref a:=rx;obtain⟨t1,t2,_⟩:=Ou I1 d;refine⟨t1,t2,?_⟩
 rw[m.trees];refine Calls.callWith_builtin rfl (Calls.evalArgs_plain (Calls.spliced_cons (A8 (he pins s1 σ H1 _ I1 q1) λiv s2 ⟨y,H2,I2,ry,ov,g,q2⟩=>Calls.spliced_nil ?_)))
 exact SO hu I2 g ry λw' s3 I3 rw'=>⟨_,H2,I3,rw',q2⟩
theorem Ow (hu:X.A.units+1 < cLine)(ho:PE X o td)(he:PE X e ty)(hf:PE X f tx)(m:M2 X o "get" apos e f cpos):PE X (.Call (.Attribute o "get" apos) [e,f] [] cpos) (SS td ty tx):=by
 intro pins s σ H Q I h;refine wpAny_Call_method m.base m.few m.line PySem.F.plainAttrs_dict PySem.F.slot_dict_get PySem.F.type_dict_get (A8 (ho pins s σ H _ I h) λu s1 ⟨x,H1,I1,rx,a,ex,d,q1⟩=>?_)
 subst ex;obtain rfl:u=Value.ref a:=rx;obtain⟨t1,t2,_⟩:=Ou I1 d;refine⟨t1,t2,?_⟩
 rw[m.trees]
 refine Calls.callWith_builtin rfl (Calls.evalArgs_plain (Calls.spliced_cons (A8 (he pins s1 σ H1 _ I1 q1) λiv s2 ⟨y,H2,I2,ry,q2⟩=>
  Calls.spliced_cons (A8 (hf pins s2 σ H2 _ I2 q2) λfv s3 ⟨z,H3,I3,rz,ov,g,q3⟩=>Calls.spliced_nil ?_))))
 exact SQ hu I3 g ry rz λw' s4 I4 rw'=>⟨_,H3,I4,rw',q3⟩
end
section
variable {X:Cx}{pins:List (Addr×Obj)}{σ:St}{H:Hp}{s:Shared}{a:Addr}{kvs:List (Key×V)}{A:Around}{E:Value->Shared->Prop}
end
section
variable {X:Cx}{pins:List (Addr×Obj)}{σ:St}{H:Hp}{s:Shared}{a:Addr}{y:V}{u:Value}{A:Around}{E:Value->Shared->Prop}
end
end L2
namespace L2
open PySem PySem.Spec PyProof.Rows PySem.W
open MeetsSeq MeetsSeq2 MeetsSeq3 SeqRoads2 SeqAt
theorem UN {P:Program}{w:World}{k:Key}{u:Value}(h:(Ac P w).is k u=true):RelV (kV k) u:=by
 cases k with
 |inl i=>obtain⟨t,e⟩:=PySem.Value.isInt_shape (show Value.isInt i u=true from h);exact⟨t,e⟩
 |inr x=>obtain⟨t,e⟩:=PySem.Value.isStrOf_shape (show Value.isStrOf x u=true from h);exact⟨t,e⟩
theorem SU {kvs:List (Key×V)}{vs:List (Key×Value)}(r:KV kvs vs):∀{i:Nat} {k:Key} {v:V},kvs[i]?=some (k,v)->∃x,vs[i]?=some (k,x)/\RelV v x:=by
 unfold KV at r
 induction r with
 |nil=>intro i k v h;simp at h
 |@cons p q _ _ h t ih=>
  intro i k v e;cases i with
  |zero=>
   have e':p=(k,v):=by simpa using e
   subst e';obtain⟨k',x⟩:=q;obtain⟨rfl,h2⟩:=h;exact⟨x,rfl,h2⟩
  |succ i=>exact ih (by simpa using e)
section
variable {X:Cx}{tg:Expr}
end
section
theorem Gb {n:Nat}(h:n < 10000):n < sizeLine:=by
 rw[sizeLine_eq];omega
theorem Ox {J:It}{NL:List Str}{ix:List Nat}{g:TG}{tt:TT}{te:TE}{σ:St}{H1:Hp}{Qs:Hp->Prop}{acc:Addr}(n:Nat)(hn:n < 10000)(Pv:Nat->List V->Hp->Prop)
 (hacc:∀i ys H2,Pv i ys H2->H2 acc=some (.lst ys)/\ys.length<=i)(h0:Pv 0 [] (upd H1 acc (.lst [])))(hstop:∀ys H2,Pv n ys H2->J.stop n H2/\Qs H2)
 (hturn:∀i ys H2,i < n->Pv i ys H2->J.go i H2/\∀x H3,J.yld i H2 x H3->g x (BC NL ix σ) H3 λσ' H4=>σ'.drop NL.length=ix.map (λj=>σ.getD j none)/\tt σ' H4 λb H5=>
  if b=true then te σ' H5 λv H6=>H6 acc=some (.lst ys)/\Pv (i+1) (ys++[v]) (upd H6 acc (.lst (ys++[v])))else Pv (i+1) ys H5):
 ∃W:Nat->Nat->List V->Hp->Prop,(∃m,W 0 m [] (upd H1 acc (.lst [])))/\
 ∀i m ys H2,W i m ys H2->H2 acc=some (.lst ys)/\ys.length < sizeLine/\
  ((J.stop i H2/\Qs H2)\/(J.go i H2/\∃N:List V->Hp->Prop,(∀ys' H',N ys' H'->∃m',m' < m/\W (i+1) m' ys' H')/\
    ∀x H3,J.yld i H2 x H3->g x (BC NL ix σ) H3 λσ' H4=>σ'.drop NL.length=ix.map (λj=>σ.getD j none)/\tt σ' H4 λb H5=>
     if b=true then te σ' H5 λv H6=>H6 acc=some (.lst ys)/\N (ys++[v]) (upd H6 acc (.lst (ys++[v])))else N ys H5)):=by
 refine⟨λi m ys H2=>i<=n/\m=n - i/\Pv i ys H2,⟨n,Nat.zero_le _,rfl,h0⟩,λi m ys H2 ⟨hi,hm,hp⟩=>?_⟩
 obtain⟨a1,a2⟩:=hacc i ys H2 hp;refine⟨a1,Gb (by omega),?_⟩
 rcases Nat.lt_or_ge i n with lt|ge
 ·obtain⟨go,tn⟩:=hturn i ys H2 lt hp
  exact .inr ⟨go,Pv (i+1),λys' H' hN=>⟨n - (i+1),by omega,by omega,rfl,hN⟩,tn⟩
 ·have e:i=n:=by omega
  subst e;exact .inl (hstop ys H2 hp)
end
section
variable {NL:List Str}{ix:List Nat}{g:TG}{tt:TT}{te:TE}{σ:St}{H1:Hp}{Qs:Hp->Prop}{acc:Addr}
end
section
variable {X:Cx}
end
end L2
namespace L2
open PySem PySem.Spec PyProof.Rows PySem.W
end L2
namespace L2
open PySem PySem.Spec PyProof.Rows PySem.W
theorem JF:typeLookup (.type "list") "keys"=pure none:=by rw[typeLookup_type,builtinLookup_eq_fast];kernel_rfl
theorem Nd {prog:Program}{w:World}{A:Around}{E:Value->Shared->Prop}{s:Shared}{a:Addr}{xs:Array Value}{k:Nat}{Q:Option Value->Shared->Prop}
 (hx:s.heap.get? a=some { cls:=.type "list",data:=.seq xs k })(hA:A.handled=none)
 (h:∀h' tk,(∀b o,s.heap.get? b=some o->h'.get? b=some o)->Q none { s with heap:=h',toks:=tk }):
 wpAny (model prog w) A (getAttr? (.ref a) "keys") Q E s:=by
 obtain⟨hp,g,d,tk,os⟩:=s;have hT:∀tk',(⟨hp,g,d,tk',os⟩:Shared).TypeIs (.ref a) "list":=λ_=>⟨_,hx,rfl⟩
 have f1:=sub_AttributeError;have f3:=F.slot_list_getattribute.lookup;have f4:=F.slot_list_getattribute.bind (.ref a);have f5:=am_list_getattr_none;unfold getAttr? getAttrBy? getAttrBy
 repeat(any_goals (first|assumption|exact hT _|((with_reducible show wpAny _ _ (call (Value.builtin "list.__getattribute__") _ _) _ _ _);refine call_meets F.slot_list_getattribute (hT _) am_entry_list_getattribute (F.args_list_getattribute_2 _ _) (meets_getattribute_miss_list a xs k #[] "keys" _ JF (by decide) (by size_fits)) ⟨hx,hA,λh' tk' e hx'=>?_⟩)|wp_step))
 obtain⟨t',u',he⟩:=hx'.there;show wpAny _ _ (getattributeRaised _ _ _ _ _ _ _) _ _ _;unfold getattributeRaised
 repeat(any_goals (first|assumption|wp_step))
 exact h _ _ hx'.keeps
end L2
namespace L2
open PySem PySem.Spec PyProof.Rows PySem.W
theorem DK:entryFor table "dict.update.loop"=some Builtin.«dict.update.loop»:=entryFor_of_tree (by kernel_rfl)
theorem Bi:plainId "dict.update.loop"=true:=by decide+kernel
section
variable {prog:Program}{w:World}{A:Around}{E:Value->Shared->Prop}
def Oy (h:Heap)(D:Addr)(items:Array Value)(ps:List (Key×Value)):Prop:=
 ps.length=items.size/\∀(j:Nat) (k:Key) (v:Value),ps[j]?=some (k,v)->∃(a:Addr) (ku:Value),items[j]?=some (Value.ref a)/\a≠D/\RelV (kV k) ku/\IsTup h a #[ku,v]
theorem Oy.keeps {h h':Heap}{D I:Addr}{items:Array Value}{ps:List (Key×Value)}(p:Oy h D items ps)(nI:∀a:Addr,Value.ref a∈items->a≠I)(k:∀b o,b≠I->b≠D->h.get? b=some o->h'.get? b=some o):Oy h' D items ps:=by
 refine⟨p.1,λj kk v e=>?_⟩
 obtain⟨a,ku,ha,hD,hk,o,e1,e2⟩:=p.2 j kk v e;exact⟨a,ku,ha,hD,hk,o,k a o (nI a (Array.mem_of_getElem? ha)) hD e1,e2⟩
theorem KH {ps:List (Key×Value)}(nd:(ps.map (·.1)).Nodup){i:Nat}{k:Key}{v:Value}(e:ps[i]?=some (k,v)):stored (ps.take i) k v=ps.take (i+1):=by
 have h:¬(ps.take i).any (λkv=>decide (kv.1=k))=true:=λa=>by
  obtain⟨p,hp,e2⟩:=List.any_eq_true.mp a;have e2:=of_decide_eq_true e2;obtain⟨j,hj,rfl⟩:=List.getElem_of_mem hp;rw[List.length_take]at hj;obtain⟨hi,e3⟩:=List.getElem?_eq_some_iff.mp e
  have:=(List.pairwise_iff_getElem.mp nd) j i (by rw[List.length_map];omega) (by rw[List.length_map];omega) (by omega)
  apply this;rw[List.getElem_map,List.getElem_map,e3];rw[List.getElem_take]at e2;exact e2
 unfold stored;rw[if_neg h,List.take_succ,e];rfl
theorem IK {l I D:Addr}{items:Array Value}{ps:List (Key×Value)}{R:Result->Shared->Prop}(hh:A.handled=none)(lI:l≠I)(DI:D≠I)(Dl:D≠l)(nI:∀a:Addr,Value.ref a∈items->a≠I)(nd:(ps.map (·.1)).Nodup)(hn:items.size < 1000):
 ∀(n i:Nat) (s:Shared),items.size - i=n->i<=items.size->s.heap.IsListIter I l i->s.heap.IsList l items->Oy s.heap D items ps->s.heap.DictOf (Ac prog w) D (ps.take i)->
  (∀h' tk,(∀b o,b≠I->b≠D->s.heap.get? b=some o->h'.get? b=some o)->h'.DictOf (Ac prog w) D ps->R (.ok (.ret .none)) { s with heap:=h',toks:=tk })->
  codeAny (model prog w) A (.builtin "dict.update.loop" ⟨[.ref D,.ref I,rawInt i,.none],[]⟩) R s
 |0,i,s,hk,hi,h1,h2,h3,h4,h=>by
  have ei:i=items.size:=by omega
  subst ei;refine codeAny_builtin DK ?_
  rw[Around.under_plainId Bi _];show wpAny _ A.in1 (pyNext (.ref I) >>= _) _ _ s;have Wk:=Walks.list (prog:=prog) (w:=w) (A:=A.in1) hh I l lI items;refine wpAny_bind (Wk.done s _ _ ⟨h1,h2⟩ λh' tk kp=>?_)
  refine wpAny_bind (m:=Builtin.Dict.addKeywords D []) (wpAny_pure (wpAny_pure ?_))
  refine h h' tk (λb o n1 _ e=>kp b o (by simpa using n1) e) ?_
  rw[List.take_of_length_le (by rw[h3.1];exact Nat.le_refl _)]at h4
  obtain⟨o,es,ep,e,r⟩:=h4;exact⟨o,es,ep,kp D o (by simpa using DI) e,r⟩
 |n+1,i,s,hk,hi,h1,h2,h3,h4,h=>by
  have il:i < items.size:=by omega
  refine codeAny_builtin DK ?_
  rw[Around.under_plainId Bi _];show wpAny _ A.in1 (pyNext (.ref I) >>= _) _ _ s;have Wk:=Walks.list (prog:=prog) (w:=w) (A:=A.in1) hh I l lI items;refine wpAny_bind (Wk.item i s _ _ il ⟨h1,h2⟩ λv h' tk hP hSt kp=>?_)
  obtain⟨pk,pv,hps⟩:∃pk pv,ps[i]?=some (pk,pv):=⟨_,_,List.getElem?_eq_getElem (by rw[h3.1];exact il)⟩
  obtain⟨a,ku,ha,hD,hk',tup⟩:=h3.2 i pk pv hps;have ev:v=.ref a:=Option.some.inj (hP.symm.trans ha);subst ev;have aI:a≠I:=nI a (Array.mem_of_getElem? ha);obtain⟨o,e1,e2,n2,e3⟩:=tup;have e1':=kp a o (by simpa using aI) e1
  have hTt:(Shared.mk h' s.gens s.drawn tk s.os).TypeIs (.ref a) "tuple":=⟨o,e1',e2⟩
  have h4':h'.DictOf (Ac prog w) D (ps.take i):=by
   obtain⟨o,es,ep,e,r⟩:=h4;exact⟨o,es,ep,kp D o (by simpa using DI) e,r⟩
  dsimp only
  refine wpAny_bind (wpAny_holding ?_)
  refine wpAny_bind (wpAny_tryCatch ?_)
  unfold Builtin.Dict.pairItems;refine wpAny_bind (wpAny_typeOf hTt ?_)
  rw[if_pos (by decide)]
  refine wpAny_bind ?_
  unfold seqItems?;refine wpAny_bind (wpAny_load e1' ?_)
  rw[e3];refine wpAny_pure (wpAny_pure ?_)
  refine wpAny_holding (wpAny_dictSet_pairs (II hk') h4' (λh2' dd sb=>?_) (by rw[List.length_take];exact Nat.le_of_lt (AK (by omega))))
  refine wpAny_pure ⟨plainId_quiet Bi _,?_⟩
  rw[KH nd hps]at dd;have kk:∀b o,b≠I->b≠D->s.heap.get? b=some o->h2'.get? b=some o:=λb o n1 n2 e=>(sb.2 b n2).trans (kp b o (by simpa using n1) e)
  refine IK hh lI DI Dl nI nd hn n (i+1) { s with heap:=h2',toks:=tk+1 } (by omega) (by omega) ?_ ?_ (h3.keeps nI kk) dd λh5 tk5 k5 d5=>?_
  ·exact hSt.1.at λo e=>(sb.2 I (Ne.symm DI)).trans e
  ·obtain⟨o,e,r⟩:=hSt.2
   exact⟨o,(sb.2 l (Ne.symm Dl)).trans e,r⟩
  ·exact h h5 tk5 (λb o n1 n2 e=>k5 b o n1 n2 (kk b o n1 n2 e)) d5
end
end L2
namespace L2
open PySem PySem.Spec PyProof.Rows PySem.W
section
variable {prog:Program}{w:World}{A:Around}{E:Value->Shared->Prop}{s:Shared}
theorem Oz {l:Addr}{items:List Value}{n:Nat}{ps:List (Key×Value)}{Q:Value->Shared->Prop}(hh:A.handled=none)(hl:s.heap.get? l=some { cls:=.type "list",data:=.seq items.toArray n })(hps:Oy s.heap s.heap.objs.size items.toArray ps)(nd:(ps.map (·.1)).Nodup)(hn:items.length < 1000)
 (h:∀h' tk,(∀b o,s.heap.get? b=some o->h'.get? b=some o)->h'.DictOf (Ac prog w) s.heap.objs.size ps->Q (.ref s.heap.objs.size) { s with heap:=h',toks:=tk }):
 wpAny (model prog w) A (call (.type "dict") [.ref l]) Q E s:=by
 have hlt:l < s.heap.objs.size:=Heap.lt_size hl;refine callType_codes (Q₁:=λobj s₁=>obj=.ref s.heap.objs.size/\s₁={ s with heap:=s.heap.push { cls:=.type "dict",data:=.dict #[] } }) F.kt_called_dict (F.kt_typeCall_dict_1 _) F.entry_dict_init (kt_code_dict_new _ ⟨rfl,rfl⟩) ?_
 rintro obj s₁ ⟨rfl,rfl⟩;have hnew:(s.heap.push { cls:=.type "dict",data:=.dict #[] }).DictOf (Ac prog w) s.heap.objs.size []:=Heap.DictOf.new s.heap;refine⟨hnew.typeIs,F.args_dict_init_2 _ _,?_⟩
 unfold Builtin.«dict.__init__»;refine wpAny_bind ?_
 unfold Builtin.Dict.selfAndRest;refine wpAny_bind (wpAny_notOrdered_dict hnew.typeIs ?_)
 show wpAny _ _ (pure (s.heap.objs.size,[Value.ref l])) _ _ _;refine wpAny_pure ?_
 show wpAny _ _ (Builtin.Dict.updateFrom "dict.__init__" s.heap.objs.size (.ref l) [] .none) _ _ _;unfold Builtin.Dict.updateFrom;have hl1:(s.heap.push { cls:=.type "dict",data:=.dict #[] }).get? l=some { cls:=.type "list",data:=.seq items.toArray n }:=Heap.get?_push_of_some _ hl
 have hT:(Shared.mk (s.heap.push { cls:=.type "dict",data:=.dict #[] }) s.gens s.drawn s.toks s.os).TypeIs (.ref l) "list":=⟨_,hl1,rfl⟩;refine wpAny_bind (wpAny_typeOf hT ?_)
 rw[if_pos (by decide)]
 refine wpAny_bind (Nd hl1 hh λh2 tk2 k2=>?_)
 rw[if_pos (by rfl)]
 refine wpAny_bind (wpAny_rule ?_)
 have hl2:=k2 _ _ hl1;refine wpAny_bind (wpAny_pyIter_list (s:={ s with heap:=h2,toks:=tk2 }) (items:=items.toArray) ⟨_,hl2,rfl,n,rfl⟩ ?_)
 refine wpAny_pure ⟨plainId_quiet Bi _,?_⟩
 have D2:s.heap.objs.size < h2.objs.size:=by
  obtain⟨o,es,ep,e,_⟩:=hnew;exact Heap.lt_size (k2 _ _ e)
 have l2:l < h2.objs.size:=Heap.lt_size hl2;have k02:∀b o,s.heap.get? b=some o->h2.get? b=some o:=λb o e=>k2 _ _ (Heap.get?_push_of_some _ e)
 have tlt:∀a:Addr,Value.ref a∈items.toArray->a < s.heap.objs.size:=λa ha=>by
  obtain⟨j,hj,e⟩:=Array.getElem_of_mem ha;have hj':j < ps.length:=by rw[hps.1];exact hj
  obtain⟨a',ku,ha',_,_,o,e1,_⟩:=hps.2 j ps[j].1 ps[j].2 (List.getElem?_eq_getElem hj')
  have:a'=a:=by
   have e2:items.toArray[j]?=some (Value.ref a):=by rw[Array.getElem?_eq_getElem hj,e]
   rw[ha']at e2;cases e2;rfl
  subst this;exact Heap.lt_size e1
 refine IK (l:=l) (D:=s.heap.objs.size) (ps:=ps) (show A.in1.handled=none from hh) (Nat.ne_of_lt l2) (Nat.ne_of_lt D2) (Nat.ne_of_gt hlt) (λa ha=>Nat.ne_of_lt (Nat.lt_trans (tlt a ha) D2)) nd (by rw[List.size_toArray];exact hn) items.toArray.size 0 { s with heap:=h2.push { cls:=.type "list_iterator",data:=.fields #[.ref l,.int 0 0] },toks:=tk2 } (Nat.sub_zero _) (Nat.zero_le _) ⟨_,Heap.get?_push_size _ rfl,rfl,rfl⟩ ⟨_,Heap.get?_push_of_some _ hl2,rfl,n,rfl⟩ ?_ ?_ λh' tk kp hd=>?_
 ·refine⟨hps.1,λj k v e=>?_⟩
  obtain⟨a,ku,ha,hD,hk,o,e1,e2⟩:=hps.2 j k v e;exact⟨a,ku,ha,hD,hk,o,Heap.get?_push_of_some _ (k02 _ _ e1),e2⟩
 ·obtain⟨o,es,ep,e,r⟩:=hnew
  exact⟨o,es,ep,Heap.get?_push_of_some _ (k2 _ _ e),r⟩
 ·exact⟨rfl,h h' tk (λb o e=>kp b o (Nat.ne_of_lt (Nat.lt_trans (Heap.lt_size e) D2)) (Nat.ne_of_lt (Heap.lt_size e)) (Heap.get?_push_of_some _ (k02 _ _ e))) hd⟩
end
end L2
namespace L2
open PySem PySem.Spec PyProof.Rows PySem.W
theorem KI {h:Heap}:∀(as:List Addr) (kvs:List (Key×V)),as.length=kvs.length->(∀(j:Nat) a k v,as[j]?=some a->kvs[j]?=some (k,v)->∃ku vu,RelV (kV k) ku/\RelV v vu/\IsTup h a #[ku,vu])->
 ∃ps:List (Key×Value),KV kvs ps/\∀(j:Nat) k vu,ps[j]?=some (k,vu)->∃a ku,as[j]?=some a/\RelV (kV k) ku/\IsTup h a #[ku,vu]
 |[],[],_,_=>⟨[],.nil,λj k vu e=>by simp at e⟩
 |a::as,(k,v)::kvs,hl,hp=>by
  obtain⟨ps,r,q⟩:=KI as kvs (by simpa using hl) λj a k v h1 h2=>hp (j+1) a k v (by simpa using h1) (by simpa using h2)
  obtain⟨ku,vu,r1,r2,r3⟩:=hp 0 a k v rfl rfl;refine⟨(k,vu)::ps,.cons ⟨rfl,r2⟩ r,λj k' vu' e=>?_⟩
  cases j with
  |zero=>cases e;exact⟨a,ku,rfl,r1,r3⟩
  |succ j=>exact q j k' vu' (by simpa using e)
section
variable {X:Cx}
theorem Hf (hc:X.calm=true):Be X (.type "dict") (λvs H Q=>∃(l:Addr) (as:List Addr) (kvs:List (Key×V)),vs=[.ref l]/\H l=some (.lst (as.map V.ref))/\as.length=kvs.length/\
 (∀(j:Nat) a k v,as[j]?=some a->kvs[j]?=some (k,v)->H a=some (.tup [kV k,v]))/\(kvs.map (·.1)).Nodup/\as.length < 1000/\∀d,H d=none->Q (.ref d) (upd H d (.dK kvs))):=by
 intro pins s σ H xs us Q I r h;obtain⟨l,as,kvs,rfl,hH,hlen,hT,nd,h1000,q⟩:=h;obtain⟨u,rfl,ru⟩:=vals1 r;cases(show u=Value.ref l from ru)
 obtain⟨z,its,n,rv,hz,e⟩:=I.LL hH;rw[List.length_map]at hz
 have hit:∀(j:Nat) a,as[j]?=some a->its[j]?=some (Value.ref a):=λj a ha=>by
  obtain⟨w',e1,e2⟩:=rv.get (i:=j) (x:=V.ref a) (by rw[List.getElem?_map,ha];rfl)
  cases(show w'=Value.ref a from e2)
  exact e1
 obtain⟨ps,pr,pq⟩:=KI (h:=s.heap) as kvs hlen λj a k v h1 h2=>by
  obtain⟨_,its',r',t'⟩:=(show Am X.prog X.w H s.heap a (.tup [kV k,v])from I.hok a _ (hT j a k v h1 h2))
  cases r' with
  |cons ra rb=>
   cases rb with
   |cons rb rc=>
    cases rc;exact⟨_,_,ra,rb,t'⟩
 have hb:sysModules < s.heap.objs.size:=I.big;have pl:=pr.length;refine Oz (ps:=ps) (I.ok.hd hc) e ⟨?_,λj k v e1=>?_⟩ ?_ (by omega) λh' tk kp dd=>?_
 ·rw[List.size_toArray];omega
 ·obtain⟨a,ku,ha,hk,t⟩:=pq j k v e1
  refine⟨a,ku,by rw[List.getElem?_toArray];exact hit j a ha,?_,hk,t⟩
  obtain⟨o,e2,_⟩:=t;exact Nat.ne_of_lt (Heap.lt_size e2)
 ·rw[<-pr.keys];exact nd
 ·refine⟨.ref s.heap.objs.size,_,I.laid (a:=s.heap.objs.size) (o:=.dK kvs) (t':=tk) (λb o e=>kp b o e) (Nat.le_refl _) (LS (Nat.le_of_lt (AK (by omega))) (beq_eq_false_iff_ne.mpr (Ne.symm (Nat.ne_of_lt hb))) pr dd),rfl,q _ (I.hok.fresh (Nat.le_refl _))⟩
end
theorem Qf:bootBuiltins "dict"=some (.type "dict"):=by decide+kernel
end L2
namespace W7
def wd (ups:List Int)(lab:List Nat):Nat->Nat->List Nat
 |0,_=>[]
 |f+1,k=>lab.getD k 0::(if ups.getD k 0 < 0 then[]else wd ups lab f (ups.getD k 0).toNat)
structure Al (ups:List Int)(lab:List Nat):Prop where
 len:ups.length=lab.length
 pos:0 < ups.length
 most:ups.length<=60
 root:ups.getD 0 0=-1
 up:∀k,0 < k->k < ups.length->0<=ups.getD k 0/\ups.getD k 0 < (k:Int)
theorem Al.lt {ups:List Int}{lab:List Nat}(t:Al ups lab){k:Nat}(h:k < ups.length)(h0:¬ups.getD k 0 < 0):(ups.getD k 0).toNat < k:=by
 rcases Nat.eq_zero_or_pos k with e|e
 ·subst e;have:=t.root;omega
 ·have:=t.up k e h;omega
theorem Al.neg {ups:List Int}{lab:List Nat}(t:Al ups lab){k:Nat}(h:k < ups.length):ups.getD k 0 < 0↔ups.getD k 0=-1:=by
 rcases Nat.eq_zero_or_pos k with e|e
 ·subst e;have:=t.root;omega
 ·have:=t.up k e h;omega
theorem MT {ups:List Int}{lab:List Nat}(t:Al ups lab):∀(f g k:Nat),k < ups.length->k < f->k < g->wd ups lab f k=wd ups lab g k
 |0,_,_,_,h,_=>absurd h (Nat.not_lt_zero _)
 |_+1,0,_,_,_,h=>absurd h (Nat.not_lt_zero _)
 |f+1,g+1,k,hk,hf,hg=>by
  simp only[wd]
  congr 1
  split
  ·rfl
  ·rename_i h0
   have:=t.lt hk h0;exact MT t f g _ (by omega) (by omega) (by omega)
def W (ups:List Int)(lab:List Nat)(k:Nat):List Nat:=wd ups lab (k+1) k
theorem KJ {ups:List Int}{lab:List Nat}(t:Al ups lab){k:Nat}(hk:k < ups.length):W ups lab k=lab.getD k 0::(if ups.getD k 0 < 0 then[]else W ups lab (ups.getD k 0).toNat):=by
 unfold W;rw[wd]
 congr 1
 split
 ·rfl
 ·rename_i h0
  have:=t.lt hk h0;exact MT t _ _ _ (by omega) (by omega) (by omega)
theorem KL {ups:List Int}{lab:List Nat}(t:Al ups lab):∀(n k:Nat),k < n->k < ups.length->(W ups lab k).length<=k+1
 |0,_,h,_=>absurd h (Nat.not_lt_zero _)
 |n+1,k,hn,hk=>by
  rw[KJ t hk]
  split
  ·simp
  ·rename_i h0
   have:=t.lt hk h0;have ih:=KL t n (ups.getD k 0).toNat (by omega) (by omega)
   simp only[List.length_cons];omega
end W7
namespace S58
open PySem L2 W7
def top (i:Nat):Stmt:=PySem.Challenge.pw_upwords_k58_what_is_not_laid.main.body.getD i (.Pass ⟨0,0,0,0⟩)
abbrev s_is_whole:Stmt:=top 19
abbrev LV:List Str:=["thing"]
theorem Fw:AV LV ["thing"] (AJ s_is_whole):=⟨rfl,rfl,rfl,by decide+kernel,rfl,by decide+kernel,by decide+kernel⟩
abbrev s_is_letters:Stmt:=top 20
abbrev E1:List Str:=["thing"]
theorem Hg:AV E1 ["thing"] (AJ s_is_letters):=⟨rfl,rfl,rfl,by decide+kernel,rfl,by decide+kernel,by decide+kernel⟩
abbrev s_is_rising:Stmt:=top 21
abbrev Fx:List Str:=["things"]
theorem JG:AV Fx ["things"] (AJ s_is_rising):=⟨rfl,rfl,rfl,by decide+kernel,rfl,by decide+kernel,by decide+kernel⟩
abbrev s_is_tree:Stmt:=top 24
abbrev Nf:List Str:=["thing"]
theorem LW:AV Nf ["thing"] (AJ s_is_tree):=⟨rfl,rfl,rfl,by decide+kernel,rfl,by decide+kernel,by decide+kernel⟩
abbrev s_is_labels:Stmt:=top 25
abbrev KN:List Str:=["thing"]
theorem JH:AV KN ["thing"] (AJ s_is_labels):=⟨rfl,rfl,rfl,by decide+kernel,rfl,by decide+kernel,by decide+kernel⟩
abbrev s_is_ups:Stmt:=top 26
abbrev Ge:List Str:=["thing","many","place","ahead"]
theorem C0:AV Ge ["thing","many"] (AJ s_is_ups):=⟨rfl,rfl,rfl,by decide+kernel,rfl,by decide+kernel,by decide+kernel⟩
abbrev s_all_above:Stmt:=top 27
abbrev KO:List Str:=["ups","place","found","up"]
theorem CO:AV KO ["ups","place"] (AJ s_all_above):=⟨rfl,rfl,rfl,by decide+kernel,rfl,by decide+kernel,by decide+kernel⟩
abbrev s_beneath_of:Stmt:=top 28
abbrev E2:List Str:=["tree","place"]
theorem Hh:AV E2 ["tree","place"] (AJ s_beneath_of):=⟨rfl,rfl,rfl,by decide+kernel,rfl,by decide+kernel,by decide+kernel⟩
abbrev s_words_of:Stmt:=top 30
abbrev LX:List Str:=["tree","words","letter","up"]
theorem Cd:AV LX ["tree"] (AJ s_words_of):=⟨rfl,rfl,rfl,by decide+kernel,rfl,by decide+kernel,by decide+kernel⟩
abbrev s_is_trie:Stmt:=top 32
abbrev IL:List Str:=["thing"]
theorem LY:AV IL ["thing"] (AJ s_is_trie):=⟨rfl,rfl,rfl,by decide+kernel,rfl,by decide+kernel,by decide+kernel⟩
abbrev s_letters_beneath:Stmt:=top 33
abbrev Ce:List Str:=["tree","place"]
theorem EY:AV Ce ["tree","place"] (AJ s_letters_beneath):=⟨rfl,rfl,rfl,by decide+kernel,rfl,by decide+kernel,by decide+kernel⟩
abbrev s_ways_down:Stmt:=top 34
abbrev Fy:List Str:=["tree"]
theorem JI:AV Fy ["tree"] (AJ s_ways_down):=⟨rfl,rfl,rfl,by decide+kernel,rfl,by decide+kernel,by decide+kernel⟩
abbrev s_trie_by:Stmt:=top 35
abbrev FZ:List Str:=["ways","known","ups"]
theorem EZ:AV FZ ["ways"] (AJ s_trie_by):=⟨rfl,rfl,rfl,by decide+kernel,rfl,by decide+kernel,by decide+kernel⟩
abbrev s_places_by:Stmt:=top 36
abbrev Fz:List Str:=["known_ways","ways","known"]
theorem E3:AV Fz ["known_ways","ways"] (AJ s_places_by):=⟨rfl,rfl,rfl,by decide+kernel,rfl,by decide+kernel,by decide+kernel⟩
abbrev s_numbers_by:Stmt:=top 37
abbrev E4:List Str:=["ways"]
theorem Hi:AV E4 ["ways"] (AJ s_numbers_by):=⟨rfl,rfl,rfl,by decide+kernel,rfl,by decide+kernel,by decide+kernel⟩
abbrev s_laid_over:Stmt:=top 38
abbrev KP:List Str:=["one","other","ways"]
theorem E5:AV KP ["one","other"] (AJ s_laid_over):=⟨rfl,rfl,rfl,by decide+kernel,rfl,by decide+kernel,by decide+kernel⟩
abbrev s_laid_under:Stmt:=top 39
abbrev JJ:List Str:=["one","other"]
theorem Hj:AV JJ ["one","other"] (AJ s_laid_under):=⟨rfl,rfl,rfl,by decide+kernel,rfl,by decide+kernel,by decide+kernel⟩
abbrev s_refuse_no_tries:Stmt:=top 40
abbrev E6:List Str:=["one","other"]
theorem Ea:AV E6 ["one","other"] (AJ s_refuse_no_tries):=⟨rfl,rfl,rfl,by decide+kernel,rfl,by decide+kernel,by decide+kernel⟩
abbrev s_laid_by:Stmt:=top 41
abbrev Ng:List Str:=["ways","one","other","pairs"]
theorem Gf:AV Ng ["ways","one","other"] (AJ s_laid_by):=⟨rfl,rfl,rfl,by decide+kernel,rfl,by decide+kernel,by decide+kernel⟩
abbrev s_law_cell_at:Stmt:=top 43
abbrev Hk:List Str:=["script","k"]
theorem Gg:AV Hk ["script","k"] (AJ s_law_cell_at):=⟨rfl,rfl,rfl,by decide+kernel,rfl,by decide+kernel,by decide+kernel⟩
abbrev s_law_pool:Stmt:=top 44
abbrev LZ:List Str:=["script","at","cell","big","turn","one"]
theorem BF:AV LZ ["script","at"] (AJ s_law_pool):=⟨rfl,rfl,rfl,by decide+kernel,rfl,by decide+kernel,by decide+kernel⟩
abbrev s_law_take:Stmt:=top 45
abbrev La:List Str:=["pool","many","at","number"]
theorem Di:AV La ["pool","many"] (AJ s_law_take):=⟨rfl,rfl,rfl,by decide+kernel,rfl,by decide+kernel,by decide+kernel⟩
abbrev s_law_letters:Stmt:=top 46
abbrev EI:List Str:=["pool","many","first","by"]
theorem Bv:AV EI ["pool"] (AJ s_law_letters):=⟨rfl,rfl,rfl,by decide+kernel,rfl,by decide+kernel,by decide+kernel⟩
abbrev s_law_grown:Stmt:=top 47
abbrev KQ:List Str:=["pool","many","kind","letters","ups","line","k","deep","low","near","comb","cut","way","other","labels","at"]
theorem AX:AV KQ ["pool","many","kind","letters"] (AJ s_law_grown):=⟨rfl,rfl,rfl,by decide+kernel,rfl,by decide+kernel,by decide+kernel⟩
abbrev s_law_copies:Stmt:=top 48
abbrev E7:List Str:=["pool","most","letters","one","chain","ups","labels","turn","here"]
theorem A2:AV E7 ["pool","most","letters"] (AJ s_law_copies):=⟨rfl,rfl,rfl,by decide+kernel,rfl,by decide+kernel,by decide+kernel⟩
abbrev s_law_tree:Stmt:=top 49
abbrev Lb:List Str:=["pool","most","letters","kind","many"]
theorem Dj:AV Lb ["pool","most","letters"] (AJ s_law_tree):=⟨rfl,rfl,rfl,by decide+kernel,rfl,by decide+kernel,by decide+kernel⟩
abbrev s_law_ways:Stmt:=top 50
abbrev Lc:List Str:=["tree","found","place","up","ahead"]
theorem Bo:AV Lc ["tree"] (AJ s_law_ways):=⟨rfl,rfl,rfl,by decide+kernel,rfl,by decide+kernel,by decide+kernel⟩
abbrev s_law_trie:Stmt:=top 51
abbrev Gh:List Str:=["ways","rows","ups","way","up"]
theorem Bp:AV Gh ["ways"] (AJ s_law_trie):=⟨rfl,rfl,rfl,by decide+kernel,rfl,by decide+kernel,by decide+kernel⟩
abbrev s_law_part:Stmt:=top 52
abbrev Ld:List Str:=["pool","ways","most","found","way","kind","more","many"]
theorem Bq:AV Ld ["pool","ways","most"] (AJ s_law_part):=⟨rfl,rfl,rfl,by decide+kernel,rfl,by decide+kernel,by decide+kernel⟩
abbrev s_law_two:Stmt:=top 53
abbrev IM:List Str:=["pool","most","kind","letters","one","other"]
theorem Bk:AV IM ["pool","most"] (AJ s_law_two):=⟨rfl,rfl,rfl,by decide+kernel,rfl,by decide+kernel,by decide+kernel⟩
abbrev s_law_told:Stmt:=top 54
abbrev Le:List Str:=["way","one","other","kept","caught","e"]
theorem CH:AV Le ["way","one","other"] (AJ s_law_told):=⟨rfl,rfl,rfl,by decide+kernel,rfl,by decide+kernel,by decide+kernel⟩
abbrev s_law_bad:Stmt:=top 55
abbrev Nh:List Str:=["pool","tree","ups","labels","pick","at","hang","turn","twice","falling","signed","bent","odd"]
theorem Au:AV Nh ["pool","tree"] (AJ s_law_bad):=⟨rfl,rfl,rfl,by decide+kernel,rfl,by decide+kernel,by decide+kernel⟩
abbrev s_law:Stmt:=top 56
abbrev RW:List Str:=["script","at","pool","away","ways","one","other","bad","worse","root","unlike","pairs","pair"]
theorem B3:AV RW ["script"] (AJ s_law):=⟨rfl,rfl,rfl,by decide+kernel,rfl,by decide+kernel,by decide+kernel⟩
section
variable {P:Program}{w:World}{K:PySem.W.Frag}{mg:Str->Option Value}{base:Heap}{k:Nat}
abbrev Lw (c:Nat):Prop:=97<=c/\c < 123
def Co (l:List Nat):Prop:=∀c∈l,Lw c
theorem Co.app {a b:List Nat}(h:Co a)(g:Co b):Co (a++b):=λc hc=>(List.mem_append.mp hc).elim (h c) (g c)
theorem Co.one {c:Nat}(h:Lw c):Co [c]:=λd hd=>by rw[List.mem_singleton.mp hd];exact h
theorem Co.nil:Co []:=λc hc=>nomatch hc
def mk (l:List Nat):Str:=⟨l.toArray⟩
theorem BQ (l:List Nat):(mk l).cps.toList=l:=rfl
theorem Fb (l:List Nat):(mk l).length=l.length:=by simp[mk,Str.length]
theorem Cf {a b:Str}(h:a.cps.toList=b.cps.toList):a=b:=by
 obtain⟨x⟩:=a;obtain⟨y⟩:=b;have:x=y:=Array.toList_inj.mp h;rw[this]
theorem SV (c:Nat)(l:List Nat):(⟨#[c]⟩:Str)++mk l=mk (c::l):=by
 apply Cf;rw[app_list];rfl
def BJ (H:Hp)(t:Addr)(ups:List Int)(lab:Str):Prop:=∃u,H t=some (.tup [.ref u,.str lab])/\H u=some (.tup (ups.map V.int))/\Al ups lab.cps.toList
theorem BJ.same {H H':Hp}{t:Addr}{ups:List Int}{lab:Str}(h:BJ H t ups lab)(s:AG H H'):BJ H' t ups lab:=by
 obtain⟨u,a,b,c⟩:=h;exact⟨u,s _ _ a,s _ _ b,c⟩
def MU:PySem.W.Frag->Sp:=λK vs H Q _=>∃(a:Addr) (ns:List Int) (i:Int),vs=[.ref a,.int i]/\Ah K H a (ns.map V.int)/\ns.length<=63/\0<=i/\∀n:Int,Q (.int n) H
theorem O0 (D:Df K mg "_law_cell_at" s_law_cell_at)(B:Blt mg):BO P w K mg base "_law_cell_at" (k+1) ["script","k"] (MU K):=by
 refine D.has Gg (λ_ _ _ _ _ _ us hl=>match us,hl with|[_,_],_=>rfl) (λvs H Q E h=>by obtain⟨a,ns,i,rfl,_⟩:=h;rfl) (λf cdv A outer s H vs Q E hr h=>?_)
 obtain⟨a,ns,i,rfl,hS,h63,h0,q⟩:=h;refine⟨_,(AE (A9 (Aa ME (pv 1) (AN AY rfl B.len A6 (AA (pv 0) AB)) (Ae _))
 (AI (AS (AU Av (pv 0) (pv 1) (λ_ _=>rfl))))
 Ad)
 (AI (AS AF))),?_⟩
 have hl:(ns.map V.int).length=ns.length:=List.length_map _;refine⟨_,rfl,_,rfl,a,_,rfl,.inl hS,_,_,rfl,rfl,_,rfl,CZ (λc=>?_) (λc=>?_)⟩
 ·have c':i < (((ns.map V.int).length:Nat):Int):=of_decide_eq_true c
  rw[hl]at c';have hk:i.toNat < ns.length:=by omega
  have e:Du (ns.map V.int) ((i.toNat:Nat):Int)=some (.int ns[i.toNat]):=BH (by rw[List.getElem?_map,List.getElem?_eq_getElem hk]<;>rfl)
  rw[show((i.toNat:Nat):Int)=i by omega]at e
  exact⟨_,rfl,_,rfl,a,_,_,_,rfl,rfl,hS,e,q _⟩
 ·exact q 0
def MV:PySem.W.Frag->Sp:=λK vs H Q _=>∃(a:Addr) (ns:List Int) (i:Int),vs=[.ref a,.int i]/\Ah K H a (ns.map V.int)/\ns.length<=63/\0<=i/\i<=63/\∀(p:Addr) (x y:Int),H p=none->Q (.ref p) (upd H p (.lst [.int x,.int y]))
theorem O1 (D:Df K mg "_law_pool" s_law_pool)(B:Blt mg)(G_law_cell_at:BO P w K mg base "_law_cell_at" k ["script","k"] (MU K)):BO P w K mg base "_law_pool" (k+1) ["script","at"] (MV K):=by
 refine D.has BF (λ_ _ _ _ _ _ us hl=>match us,hl with|[_,_],_=>rfl) (λvs H Q E h=>by obtain⟨a,ns,i,rfl,_⟩:=h;rfl) (λf cdv A outer s H vs Q E hr h=>?_)
 obtain⟨a,ns,i,rfl,hS,h63,h0,h1,q⟩:=h;refine⟨_,(AE (AM (i:=2) BF.nd rfl (by first|exact Or.inl rfl|exact Or.inr rfl) (AH G_law_cell_at hr rfl (AA (pv 0) (AA (pv 1) AB))))
 (AE (AM (i:=3) BF.nd rfl (by first|exact Or.inl rfl|exact Or.inr rfl) AF)
 (AE (Bs PassesOwn.never rfl (By rfl B.range (AA AF AB)) (AW (i:=4) BF.nd rfl (by first|exact Or.inl rfl|exact Or.inr rfl))
 (AE (AM (i:=5) BF.nd rfl (by first|exact Or.inl rfl|exact Or.inr rfl) (AR CI (AR Cm (AR BB (AR BB (AR BB (AR CI (pv 2) AF) (AR Cm (AR Cm AF (pv 4)) (pv 4))) (AR Cm AF (pv 1))) AF) AF) AF))
 (AE (AM (i:=5) BF.nd rfl (by first|exact Or.inl rfl|exact Or.inr rfl) (AR CI (AR Cm (pv 5) (pv 5)) AF))
 (AE (AM (i:=5) BF.nd rfl (by first|exact Or.inl rfl|exact Or.inr rfl) (AR CI (AR Cm (AR BB (pv 5) (AR Cm AF (pv 4))) AF) AF))
 (AI (AM (i:=3) BF.nd rfl (by first|exact Or.inl rfl|exact Or.inr rfl) (AR BB (AR Cm (pv 3) AF) (AR CI (AR MA (pv 5) AF) AF))))))))
 (AI (AS (Ar (AA (AR Cm (pv 2) (Af B0 rfl B.int_ DG (AA (Ca RM (pv 2) (AR Ry AF AF) (Ae _)) AB))) (AA (pv 3) AB)))))))),?_⟩
 refine⟨_,rfl,_,rfl,a,ns,i,rfl,hS,h63,h0,λcell=>?_⟩
 refine⟨99,rfl,by decide,by decide,Bm (n:=99) (λ_ σ H'=>∃(big:Int) (o1 o2:Option V),σ=[some (.ref a),some (.int i),some (.int cell),some (.int big),o1,o2]/\H'=H) ⟨0,none,none,rfl,rfl⟩ ?_ ?_⟩
 ·rintro j σ H' hj ⟨big,o1,o2,rfl,rfl⟩
  have hj':(j:Int) < 99:=by omega
  refine⟨_,rfl,_,_,rfl,rfl,(by decide:(0:Int) < 998244353),_,rfl,_,_,rfl,rfl,.inl ⟨by decide,by decide⟩,_,rfl,_,_,rfl,rfl,.inl ⟨by omega,by omega⟩,_,_,rfl,rfl,_,rfl,_,_,rfl,rfl,.inl ⟨by decide,by decide⟩,_,_,rfl,rfl,_,_,rfl,rfl,_,_,rfl,rfl,.inr ⟨by decide,by decide⟩,_,_,rfl,rfl,(by decide:(0:Int) < 2147483647),?_⟩
  generalize hone:(cell % 998244353+89*(0+(j:Int))*(0+(j:Int))+7*i+1)*48271 % 2147483647=one;have b1:0<=one/\one < 2147483647:=by rw[<-hone];exact⟨Int.emod_nonneg _ (by decide),Int.emod_lt_of_pos _ (by decide)⟩
  refine⟨_,rfl,_,rfl,_,_,rfl,rfl,.inl ⟨by omega,by omega⟩,_,_,rfl,rfl,(by decide:(0:Int) < 1000000007),?_⟩
  refine⟨_,rfl,_,rfl,_,_,rfl,rfl,.inl ⟨by decide,by decide⟩,_,_,rfl,rfl,_,_,rfl,rfl,.inr ⟨by decide,by decide⟩,_,_,rfl,rfl,(by decide:(0:Int) < 2147483587),?_⟩
  refine⟨_,rfl,_,_,rfl,rfl,.inr ⟨by decide,by decide⟩,_,rfl,_,_,rfl,rfl,⟨by decide,by decide⟩,_,_,rfl,rfl,(by decide:(0:Int) < 1000003),_,_,rfl,rfl,?_⟩
  exact⟨_,_,_,rfl,rfl⟩
 ·rintro σ H' ⟨big,o1,o2,rfl,rfl⟩
  refine⟨_,rfl,_,rfl,_,_,rfl,rfl,⟨by decide,by decide,by decide⟩,_,_,rfl,rfl,.inr ⟨_,rfl,?_⟩⟩
  refine⟨_,_,rfl,rfl,.inr ⟨?_,?_⟩,_,rfl,(by show 2<=sizeLine;decide),λp hp=>q p _ _ hp⟩
  ·split<;>decide
  ·split<;>decide
def CP:Sp:=λvs H Q _=>∃(p:Addr) (m:Int),vs=[.ref p,.int m]/\DF H p/\0 < m/\m < 1073741824/\∀(n:Int) (H':Hp),0<=n->n < m->Kp p H H'->Q (.int n) H'
theorem O2 (D:Df K mg "_law_take" s_law_take)(B:Blt mg):BO P w K mg base "_law_take" (k+1) ["pool","many"] CP:=by
 refine D.has Di (λ_ _ _ _ _ _ us hl=>match us,hl with|[_,_],_=>rfl) (λvs H Q E h=>by obtain⟨p,m,rfl,_⟩:=h;rfl) (λf cdv A outer s H vs Q E hr h=>?_)
 obtain⟨p,m,rfl,⟨x,y,hp⟩,m0,m1,q⟩:=h;refine⟨_,(AE (AM (i:=2) Di.nd rfl (by first|exact Or.inl rfl|exact Or.inr rfl) (Af B0 rfl B.int_ DG (AA (Ca Fs (AU Av (pv 0) AF (λ_ _=>rfl)) AF (Ae _)) AB)))
 (AE (AM (i:=3) Di.nd rfl (by first|exact Or.inl rfl|exact Or.inr rfl) (AR CI (AU Av (pv 0) (pv 2) (λ_ _=>rfl)) (pv 1)))
 (AE (OI (AR MA (AU Av (pv 0) (pv 2) (λ_ _=>rfl)) (pv 1)) (Rq (pv 0) (pv 2) set_list))
 (AI (AS (pv 3)))))),?_⟩
 have fin:∀z x' y':Int,Q (.int (z % m)) (upd H p (.lst [.int x',.int y'])):=λz x' y'=>
  q _ _ (Int.emod_nonneg _ (by omega)) (Int.emod_lt_of_pos _ m0) ⟨⟨x',y',AD⟩,λb o hb e=>by rw[AO hb];exact e⟩
 refine⟨_,rfl,p,_,_,_,rfl,rfl,Ah.of hp,rfl,rfl,.inr ⟨_,rfl,?_⟩⟩
 generalize decide (V.int x=V.int 0)=b;cases b
 ·refine⟨_,rfl,_,rfl,p,_,_,_,rfl,rfl,Ah.of hp,rfl,_,rfl,_,_,rfl,rfl,m0,?_⟩
  refine⟨_,rfl,_,rfl,p,_,_,_,rfl,rfl,Ah.of hp,rfl,_,rfl,_,_,rfl,rfl,⟨m0,m1⟩,?_⟩
  refine⟨_,rfl,_,rfl,p,_,_,0,rfl,rfl,hp,rfl,_,rfl,fin x _ y⟩
 ·refine⟨_,rfl,_,rfl,p,_,_,_,rfl,rfl,Ah.of hp,rfl,_,rfl,_,_,rfl,rfl,m0,?_⟩
  refine⟨_,rfl,_,rfl,p,_,_,_,rfl,rfl,Ah.of hp,rfl,_,rfl,_,_,rfl,rfl,⟨m0,m1⟩,?_⟩
  refine⟨_,rfl,_,rfl,p,_,_,1,rfl,rfl,hp,rfl,_,rfl,fin y x _⟩
def Bl (ups:List Int)(lab:Str)(n:Nat):List V:=(List.range n).map λj=>.str (mk (W ups lab.cps.toList j))
def KR:Sp:=λvs H Q _=>∃(t:Addr) (ups:List Int) (lab:Str),vs=[.ref t]/\BJ H t ups lab/\∀(q:Addr) (H':Hp),AG H H'->H' q=some (.lst (Bl ups lab ups.length))->Q (.ref q) H'
theorem Ni (D:Df K mg "words_of" s_words_of)(B:Blt mg):BO P w K mg base "words_of" (k+1) ["tree"] KR:=by
 refine D.has Cd (λ_ _ _ _ _ _ us hl=>match us,hl with|[_],_=>rfl) (λvs H Q E h=>by obtain⟨t,ups,lab,rfl,_⟩:=h;rfl) (λf cdv A outer s H vs Q E hr h=>?_)
 obtain⟨t,ups,lab,rfl,⟨u,ht,hu,ok⟩,q⟩:=h;refine⟨_,(AE (AM (i:=1) Cd.nd rfl (by first|exact Or.inl rfl|exact Or.inr rfl) (Ar AB))
 (AE (Bs PassesOwn.never rfl (R9 rfl B.zip (AA (AU Aj (pv 0) AF (λ_ _=>rfl)) (AA (AU Aj (pv 0) AF (λ_ _=>rfl)) AB))) (Im rfl (Bc (AW (i:=2) Cd.nd rfl (by first|exact Or.inl rfl|exact Or.inr rfl)) (Bc (AW (i:=3) Cd.nd rfl (by first|exact Or.inl rfl|exact Or.inr rfl)) Em)))
 (AI (BZ (Cu PySem.F.plainAttrs_list PySem.F.slot_list_append PySem.F.type_list_append B1 (pv 1) (AA (OH (Aa Fs (pv 3) (Cq Bz AF) (Ae _)) (pv 2) (AR Ax (pv 2) (AU Av (pv 1) (pv 3) (λ_ _=>rfl)))) AB)))))
 (AI (AS (pv 1))))),?_⟩
 have hlen:(signs lab).length=(ups.map V.int).length:=by rw[List.length_map,ok.len];simp[signs]
 refine⟨(by show 0<=sizeLine;decide),λr hr0=>?_⟩
 have s0:AG H (upd H r (.lst [])):=(AG.refl H).new hr0;refine⟨_,rfl,t,_,_,_,rfl,rfl,BM.of (s0 _ _ ht),rfl,_,rfl,t,_,_,_,rfl,rfl,BM.of (s0 _ _ ht),rfl,.str lab,.tup u,rfl,⟨_,rfl⟩,⟨_,.inl (s0 _ _ hu)⟩,?_⟩
 refine QZ (xs:=signs lab) (ys:=ups.map V.int) (λi σ H'=>∃o1 o2:Option V,σ=[some (.ref t),some (.ref r),o1,o2]/\AG H H'/\H' r=some (.lst (Bl ups lab i))) ⟨none,none,rfl,s0,AD⟩ hlen
  (λi σ H' hi h=>by obtain⟨o1,o2,_,s1,_⟩:=h;exact⟨rfl,.inl (s1 _ _ hu)⟩) ?_ ?_
 ·rintro i x y σ H' p hx hy ⟨o1,o2,rfl,s1,hr1⟩ hp
  obtain⟨c,hc,rfl⟩:∃c,lab.cps.toList[i]?=some c/\x=.str ⟨#[c]⟩:=by
   simp only[signs,List.getElem?_map]at hx
   cases e:lab.cps.toList[i]? with
   |none=>rw[e]at hx;cases hx
   |some c=>rw[e]at hx;exact⟨c,rfl,(Option.some.inj hx).symm⟩
  obtain⟨v,hv,rfl⟩:∃v,ups[i]?=some v/\y=.int v:=by
   simp only[List.getElem?_map]at hy
   cases e:ups[i]? with
   |none=>rw[e]at hy;cases hy
   |some v=>rw[e]at hy;exact⟨v,rfl,(Option.some.inj hy).symm⟩
  have hi:i < ups.length:=(List.getElem?_eq_some_iff.mp hv).1
  have ev:ups.getD i 0=v:=by rw[List.getD_eq_getElem?_getD,hv];rfl
  have ec:lab.cps.toList.getD i 0=c:=by rw[List.getD_eq_getElem?_getD,hc];rfl
  have hm:=ok.most;have s2:AG H (upd H' p (.tup [.str ⟨#[c]⟩,.int v])):=s1.new hp;have hr2:upd H' p (.tup [.str ⟨#[c]⟩,.int v]) r=some (.lst (Bl ups lab i)):=by rw[AO (AL hr1 hp)];exact hr1
  have wl:(Bl ups lab i).length=i:=by simp[Bl]
  have step:Bl ups lab (i+1)=Bl ups lab i++[.str (mk (W ups lab.cps.toList i))]:=by
   unfold Bl;rw[List.range_succ,List.map_append];rfl
  refine⟨p,_,rfl,BM.of AD,rfl,_,_,rfl,_,_,rfl,rfl,?_⟩
  refine⟨_,rfl,.inl ⟨rfl,_,Ah.of hr2⟩,_,rfl,_,rfl,rfl,_,rfl,CZ (λcnd=>?_) (λcnd=>?_)⟩
  ·have e1:V.int v=V.int (-1):=of_decide_eq_true cnd
   have e2:v=-1:=by injection e1
   have ew:W ups lab.cps.toList i=[c]:=by rw[KJ ok hi,ev,ec,if_pos (by omega)]
   refine⟨_,rfl,r,_,_,rfl,rfl,hr2,by rw[wl];exact AK (by omega),⟨_,_,rfl,s2.write hr0,?_⟩⟩
   rw[AD,step,ew];rfl
  ·have e1:¬V.int v=V.int (-1):=of_decide_eq_false (Bool.eq_false_iff.mpr cnd)
   have e2:v≠-1:=λz=>e1 (by rw[z])
   have e3:¬v < 0:=by
    have:=ok.neg hi;rw[ev]at this;omega
   have lt:=ok.lt hi (by rw[ev];exact e3)
   rw[ev]at lt
   have hat:Du (Bl ups lab i) v=some (.str (mk (W ups lab.cps.toList v.toNat))):=by
    have e:Du (Bl ups lab i) ((v.toNat:Nat):Int)=some (.str (mk (W ups lab.cps.toList v.toNat))):=BH (by
     unfold Bl;rw[List.getElem?_map,List.getElem?_range lt];rfl)
    rw[show((v.toNat:Nat):Int)=v by omega]at e
    exact e
   have wle:=KL ok (v.toNat+1) v.toNat (by omega) (by omega)
   have ew:W ups lab.cps.toList i=c::W ups lab.cps.toList v.toNat:=by rw[KJ ok hi,ev,ec,if_neg e3]
   refine⟨_,rfl,_,rfl,_,rfl,r,_,_,_,rfl,rfl,Ah.of hr2,hat,_,_,rfl,rfl,?_,r,_,_,rfl,rfl,hr2,by rw[wl];exact AK (by omega),⟨_,_,rfl,s2.write hr0,?_⟩⟩
   ·rw[Fb]
    have:(⟨#[c]⟩:Str).length=1:=rfl;rw[this];exact Nat.le_of_lt (AK (by omega))
   ·rw[AD,step,ew,SV]
 ·rintro σ H' ⟨o1,o2,rfl,s1,hr1⟩
  refine⟨_,rfl,q r H' s1 ?_⟩
  rw[hr1]
  congr 2
  simp[signs,ok.len]
end
end S58
namespace S58
open PySem L2 W7
section
variable {P:Program}{w:World}{K:PySem.W.Frag}{mg:Str->Option Value}{base:Heap}{k:Nat}
theorem E8 {H:Hp}{p q:Addr}{o:HO}(h:DF H p)(e:H q=some o)(ho:∀x y:Int,o≠.lst [.int x,.int y]):q≠p:=λz=>by
 obtain⟨x,y,hp⟩:=h;subst z;rw[hp]at e;exact ho x y (Option.some.inj e).symm
theorem BJ.kp {H H':Hp}{p t:Addr}{ups:List Int}{lab:Str}(h:BJ H t ups lab)(hp:DF H p)(s:Kp p H H'):BJ H' t ups lab:=by
 obtain⟨u,a,b,c⟩:=h;exact⟨u,s.keep _ _ (E8 hp a (λ_ _ z=>nomatch z)) a,s.keep _ _ (E8 hp b (λ_ _ z=>nomatch z)) b,c⟩
theorem _root_.L2.Kp.UO {H H':Hp}{p a:Addr}(k:Kp p H H')(hp:DF H p)(h:H' a=none):H a=none:=by
 have ap:a≠p:=k.pool.ne h;cases e:H a with
 |none=>rfl
 |some o=>have:=k.keep a o ap e;rw[h]at this;cases this
def BW (cs:List Nat):List V:=cs.map λc=>.str ⟨#[c]⟩
theorem Gi (cs:List Nat):(BW cs).length=cs.length:=List.length_map _
theorem MW {cs:List Nat}{i:Int}(h0:0<=i)(h1:i < (cs.length:Int)):∃c,Du (BW cs) i=some (.str ⟨#[c]⟩)/\c∈cs:=by
 have hk:i.toNat < cs.length:=by omega
 refine⟨cs[i.toNat],?_,List.getElem_mem hk⟩
 have e:=BH (xs:=BW cs) (j:=i.toNat) (v:=.str ⟨#[cs[i.toNat]]⟩) (by unfold BW;rw[List.getElem?_map,List.getElem?_eq_getElem hk];rfl)
 rw[show((i.toNat:Nat):Int)=i by omega]at e
 exact e
theorem GC {cs:List Nat}(h:0 < cs.length):∀x y:Int,HO.lst (BW cs)≠.lst [.int x,.int y]:=by
 intro x y z;cases cs with
 |nil=>simp at h
 |cons c r=>
  injection z with z
  unfold BW at z;rw[List.map_cons]at z;injection z with z1 z2
  cases z1
theorem GD {us:List Int}{i:Int}(h0:0<=i)(h1:i < (us.length:Int)):Du (us.map V.int) i=some (.int (us.getD i.toNat 0)):=by
 have hk:i.toNat < us.length:=by omega
 have e:=BH (xs:=us.map V.int) (j:=i.toNat) (v:=.int (us.getD i.toNat 0)) (by rw[List.getElem?_map,List.getElem?_eq_getElem hk,List.getD_eq_getElem?_getD,List.getElem?_eq_getElem hk];rfl)
 rw[show((i.toNat:Nat):Int)=i by omega]at e
 exact e
theorem Qg {xs:List V}{i:Int}(h0:0<=i)(h1:i<=(xs.length:Int)):CY xs none (some i)=xs.take i.toNat:=by
 unfold CY
 have e:HT.As xs.length xs.length (some i)=i.toNat:=by
  simp only[HT.As];rw[if_neg (by omega)];omega
 rw[e];simp[HT.As]
theorem Nj {xs:List V}{j:Nat}(h1:j<=xs.length):CY xs (some (j:Int)) none=xs.drop j:=by
 unfold CY;rw[HT.Eo,HT.DT,Nat.min_eq_left h1];exact List.take_of_length_le (by rw[List.length_drop];omega)
def Gj:Sp:=λvs H Q _=>∃p:Addr,vs=[.ref p]/\DF H p/\∀(q:Addr) (cs:List Nat) (H':Hp),Kp p H H'->H' q=some (.lst (BW cs))->0 < cs.length->cs.length<=26->Co cs->H q=none->Q (.ref q) H'
theorem UP {n:Int}(h0:0<=n)(h1:n < 6):∃v:Int,Du [V.int 1,.int 2,.int 2,.int 3,.int 5,.int 26] n=some (.int v)/\1<=v/\v<=26:=by
 have:n=0\/n=1\/n=2\/n=3\/n=4\/n=5:=by omega
 rcases this with rfl|rfl|rfl|rfl|rfl|rfl<;>exact⟨_,rfl,by decide,by decide⟩
theorem UQ {n:Int}(h0:0<=n)(h1:n < 3):∃v:Int,Du [V.int 1,.int 3,.int 25] n=some (.int v)/\1<=v/\v<=25:=by
 have:n=0\/n=1\/n=2:=by omega
 rcases this with rfl|rfl|rfl<;>exact⟨_,rfl,by decide,by decide⟩
theorem MX {i:Int}(h0:0<=i)(h1:i < 26):∃c,Du (Str.ofString "abcdefghijklmnopqrstuvwxyz").cps.toList i=some c/\Lw c:=by
 have hl:(Str.ofString "abcdefghijklmnopqrstuvwxyz").cps.toList.length=26:=by decide+kernel
 have hk:i.toNat < (Str.ofString "abcdefghijklmnopqrstuvwxyz").cps.toList.length:=by omega
 have e:=BH (xs:=(Str.ofString "abcdefghijklmnopqrstuvwxyz").cps.toList) (j:=i.toNat) (List.getElem?_eq_getElem hk)
 rw[show((i.toNat:Nat):Int)=i by omega]at e
 have al:∀c∈(Str.ofString "abcdefghijklmnopqrstuvwxyz").cps.toList,Lw c:=by decide+kernel
 exact⟨_,e,al _ (List.getElem_mem hk)⟩
theorem KS (D:Df K mg "_law_letters" s_law_letters)(B:Blt mg)(G_law_take:BO P w K mg base "_law_take" k ["pool","many"] CP):BO P w K mg base "_law_letters" (k+1) ["pool"] Gj:=by
 refine D.has Bv (λ_ _ _ _ _ _ us hl=>match us,hl with|[_],_=>rfl) (λvs H Q E h=>by obtain⟨p,rfl,_⟩:=h;rfl) (λf cdv A outer s H vs Q E hr h=>?_)
 obtain⟨p,rfl,hp,q⟩:=h;refine⟨_,(AE (AM (i:=1) Bv.nd rfl (by first|exact Or.inl rfl|exact Or.inr rfl) (AU Av (Ar (AA AF (AA AF (AA AF (AA AF (AA AF (AA AF AB))))))) (AH G_law_take hr rfl (AA (pv 0) (AA AF AB))) (λ_ _=>rfl)))
 (AE (AM (i:=2) Bv.nd rfl (by first|exact Or.inl rfl|exact Or.inr rfl) (AH G_law_take hr rfl (AA (pv 0) (AA AF AB))))
 (AE (AM (i:=3) Bv.nd rfl (by first|exact Or.inl rfl|exact Or.inr rfl) (AU Av (Ar (AA AF (AA AF (AA AF AB)))) (AH G_law_take hr rfl (AA (pv 0) (AA AF AB))) (λ_ _=>rfl)))
 (AI (AS (BI rfl (By rfl B.range (AA (pv 1) AB)) (NL:=["k"]) (ix:=[2,3]) (J1 (AJ s_law_letters) EI) (λcl C s₃ H₃ fp pins=>⟨(AW (i:=0) (show List.Nodup (["k","first","by"]:List Str)from by decide+kernel) rfl (by first|exact Or.inl rfl|exact Or.inr rfl)),A3,(AU Cn Aq (AR CI (AR BB (pv 1) (AR Cm (pv 2) (pv 0))) AF) (λ_ _=>rfl))⟩))))))),?_⟩
 have k0:=Kp.refl hp;refine⟨(by show 6<=sizeLine;decide),λr1 hr1=>?_⟩
 have k1:Kp p H (upd H r1 (.lst [.int 1,.int 2,.int 2,.int 3,.int 5,.int 26])):=k0.new hr1;refine⟨_,rfl,p,6,rfl,k1.pool,by decide,by decide,λn1 H1 a0 a1 kp1=>?_⟩
 obtain⟨many,hv,b0,b1⟩:=UP a0 a1;refine⟨r1,_,_,_,rfl,rfl,Ah.of (kp1.keep _ _ (hp.ne hr1) AD),hv,?_⟩
 refine⟨_,rfl,p,26,rfl,kp1.pool,by decide,by decide,λfirst H2 c0 c1 kp2=>?_⟩
 refine⟨(by show 3<=sizeLine;decide),λr2 hr2=>?_⟩
 have k3:Kp p H (upd H2 r2 (.lst [.int 1,.int 3,.int 25])):=((k1.trans kp1).trans kp2).new hr2;refine⟨_,rfl,p,3,rfl,k3.pool,by decide,by decide,λn3 H3 d0 d1 kp3=>?_⟩
 obtain⟨by',hv3,e0,e1⟩:=UQ d0 d1;refine⟨r2,_,_,_,rfl,rfl,Ah.of (kp3.keep _ _ (kp2.pool.ne hr2) AD),hv3,?_⟩
 have k4:Kp p H H3:=k3.trans kp3;refine⟨_,rfl,many,rfl,by omega,by omega,λacc hacc=>?_⟩
 refine DB many.toNat (by omega) (λi ys H'=>H' acc=some (.lst ys)/\ys.length=i/\(∃cs,ys=BW cs/\Co cs)/\Kp p H H') (λi ys H' h=>⟨h.1,by omega⟩) ⟨AD,rfl,⟨[],rfl,Co.nil⟩,k4.new hacc⟩ ?_ ?_
 ·rintro ys H' ⟨h1,h2,⟨cs,rfl,lw⟩,h3⟩
  rw[Gi]at h2;exact⟨Nat.le_refl _,q acc cs H' h3 h1 (by omega) (by omega) lw (k4.UO hp hacc)⟩
 ·rintro i ys H' hi ⟨h1,h2,⟨cs,rfl,lw⟩,h3⟩
  refine⟨hi,?_⟩
  rintro x H'' ⟨rfl,rfl⟩;refine⟨rfl,?_⟩
  have hb:((first+by'*(0+(i:Int))) % 26:Int) < 26:=Int.emod_lt_of_pos _ (by decide)
  have hb0:0<=((first+by'*(0+(i:Int))) % 26:Int):=Int.emod_nonneg _ (by decide)
  obtain⟨c,hc,hcl⟩:=MX hb0 hb;refine⟨_,rfl,_,rfl,_,rfl,_,_,rfl,rfl,.inl ⟨by omega,by omega⟩,_,_,rfl,rfl,_,_,rfl,rfl,(by decide:(0:Int) < 26),_,_,c,rfl,rfl,?_,hc,h1,?_⟩
  ·show(Str.ofString "abcdefghijklmnopqrstuvwxyz").length<=sizeLine
   have:(Str.ofString "abcdefghijklmnopqrstuvwxyz").length=26:=by decide+kernel
   rw[this];decide
  ·refine⟨AD,by rw[List.length_append,h2];rfl,⟨cs++[c],by unfold BW;rw[List.map_append];rfl,lw.app (Co.one hcl)⟩,?_⟩
   have hacc0:H acc=none\/True:=.inr trivial
   exact⟨by obtain⟨x,y,e⟩:=h3.pool;exact⟨x,y,by rw[AO (Jq e h1 (Ne.symm (λz=>by
    rcases cs with _|⟨c',r⟩
    ·injection z with z;cases z
    ·exact GC (cs:=c'::r) (by simp) x y z)))]    ;exact e⟩,
    λb o hb e=>by
     have:=h3.keep b o hb e
     have ne:b≠acc:=λz=>by
      subst z;have q1:=k4.keep b o hb e;rw[hacc]at q1;cases q1
     rw[AO ne];exact this⟩
end
end S58
namespace S58
open PySem L2 W7
section
variable {P:Program}{w:World}{K:PySem.W.Frag}{mg:Str->Option Value}{base:Heap}{k:Nat}
structure BV (us:List Int):Prop where
 pos:0 < us.length
 root:us.getD 0 0=-1
 up:∀k,0 < k->k < us.length->0<=us.getD k 0/\us.getD k 0 < (k:Int)
theorem BA {us vs:List Int}{j:Nat}:(us++vs).getD j 0=if j < us.length then us.getD j 0 else vs.getD (j - us.length) 0:=by
 simp only[List.getD_eq_getElem?_getD]
 split
 ·rename_i h;rw[List.getElem?_append_left h]
 ·rename_i h;rw[List.getElem?_append_right (by omega)]
theorem BV.snoc {us:List Int}(g:BV us){v:Int}(h0:0<=v)(h1:v < (us.length:Int)):BV (us++[v]) where
 pos:=by rw[List.length_append];have:=g.pos;omega
 root:=by rw[BA,if_pos g.pos];exact g.root
 up:=λj hj hl=>by
  rw[List.length_append,List.length_singleton]at hl;rw[BA]
  split
  ·rename_i h;exact g.up j hj h
  ·rename_i h
   have e:j=us.length:=by omega
   subst e;rw[Nat.sub_self];exact⟨h0,h1⟩
theorem BV.one:BV [-1]:=⟨by decide,rfl,λj h0 h1=>by
 have:j < 1:=h1;omega⟩
theorem mem_getD {us:List Int}{j:Nat}(h:j < us.length):us.getD j 0∈us:=by
 rw[List.getD_eq_getElem?_getD,List.getElem?_eq_getElem h]
 exact List.getElem_mem h
def Gk:Sp:=λvs H Q _=>∃(p ℓ:Addr) (many kind:Int) (cs:List Nat),vs=[.ref p,.int many,.int kind,.ref ℓ]/\DF H p/\1<=many/\many<=60/\0<=kind/\kind < 6/\H ℓ=some (.lst (BW cs))/\0 < cs.length/\cs.length<=26/\Co cs/\
 ∀(t:Addr) (ups:List Int) (lab:Str) (H':Hp),Kp p H H'->BJ H' t ups lab->Co lab.cps.toList->Q (.ref t) H'
theorem Nk (D:Df K mg "_law_grown" s_law_grown)(B:Blt mg)(G_law_take:BO P w K mg base "_law_take" k ["pool","many"] CP):BO P w K mg base "_law_grown" (k+1) ["pool","many","kind","letters"] Gk:=by
 refine D.has AX (λ_ _ _ _ _ _ us hl=>match us,hl with|[_,_,_,_],_=>rfl) (λvs H Q E h=>by obtain⟨p,ℓ,many,kind,cs,rfl,_⟩:=h;rfl) (λf cdv A outer s H vs Q E hr h=>?_)
 obtain⟨p,ℓ,many,kind,cs,rfl,hp,m1,m60,kd0,kd6,hℓ,cs0,cs26,clw,q⟩:=h;refine⟨_,(AE (AM (i:=4) AX.nd rfl (by first|exact Or.inl rfl|exact Or.inr rfl) (Ar (AA (Cq Bz AF) AB)))
 (AE (AM (i:=5) AX.nd rfl (by first|exact Or.inl rfl|exact Or.inr rfl) (Ar (AA AF AB)))
 (AE (Bs PassesOwn.never rfl (Cp rfl B.range (AA AF (AA (pv 1) AB))) (AW (i:=6) AX.nd rfl (by first|exact Or.inl rfl|exact Or.inr rfl))
 (AE (AM (i:=7) AX.nd rfl (by first|exact Or.inl rfl|exact Or.inr rfl) (AN AY rfl B.len A6 (AA (pv 5) AB)))
 (AE (AM (i:=8) AX.nd rfl (by first|exact Or.inl rfl|exact Or.inr rfl) (AU Av (Ar (AA (pv 7) (AA (AR BB AF (AH G_law_take hr rfl (AA (pv 0) (AA AF AB)))) AB))) (Af B0 rfl B.int_ DG (AA (Ca Hv (pv 7) AF (Ae _)) AB)) (λ_ _=>rfl)))
 (AE (AM (i:=9) AX.nd rfl (by first|exact Or.inl rfl|exact Or.inr rfl) (AN (Dt rfl) rfl B.max Iz (AA AF (AA (AR DR (pv 7) (AH G_law_take hr rfl (AA (pv 0) (AA AF AB)))) AB))))
 (AE (AM (i:=10) AX.nd rfl (by first|exact Or.inl rfl|exact Or.inr rfl) (AN (Dt rfl) rfl B.max Iz (AA AF (AA (AR BB (AR DR (pv 7) AF) (AR CI (pv 6) AF)) AB))))
 (AE (AM (i:=11) AX.nd rfl (by first|exact Or.inl rfl|exact Or.inr rfl) (AU Av (Ar (AA (pv 7) (AA AF (AA (AR BB AF (AH G_law_take hr rfl (AA (pv 0) (AA (pv 7) AB)))) (AA (pv 9) (AA (pv 10) (AA (pv 8) AB))))))) (pv 2) (λ_ _=>rfl)))
 (AE (BZ (Cu PySem.F.plainAttrs_list PySem.F.slot_list_append PySem.F.type_list_append B1 (pv 4) (AA (AU Av (pv 5) (AR DR (pv 11) AF) (λ_ _=>rfl)) AB)))
 (AI (AM (i:=5) AX.nd rfl (by first|exact Or.inl rfl|exact Or.inr rfl) (AR LM (BN MJ (pv 5) Bg (Ba (pv 11))) (Ar (AA (pv 6) AB))))))))))))
 (AE (AM (i:=12) AX.nd rfl (by first|exact Or.inl rfl|exact Or.inr rfl) (AH G_law_take hr rfl (AA (pv 0) (AA AF AB))))
 (AE (AM (i:=13) AX.nd rfl (by first|exact Or.inl rfl|exact Or.inr rfl) (AU Av (Ar (AA (AH G_law_take hr rfl (AA (pv 0) (AA (pv 1) AB))) (AA AF AB))) (AH G_law_take hr rfl (AA (pv 0) (AA AF AB))) (λ_ _=>rfl)))
 (AE (AM (i:=14) AX.nd rfl (by first|exact Or.inl rfl|exact Or.inr rfl) Aq)
 (AE (Bs PassesOwn.never rfl (By rfl B.range (AA (pv 1) AB)) (AW (i:=6) AX.nd rfl (by first|exact Or.inl rfl|exact Or.inr rfl))
 (AE (AM (i:=15) AX.nd rfl (by first|exact Or.inl rfl|exact Or.inr rfl) (AH G_law_take hr rfl (AA (pv 0) (AA (AN AY rfl B.len A6 (AA (pv 3) AB)) AB))))
 (AE (A9 (OP ME ME AF (pv 12) AF)
 (AI (AM (i:=15) AX.nd rfl (by first|exact Or.inl rfl|exact Or.inr rfl) (AR CI (AR CI (pv 6) (pv 12)) (AN AY rfl B.len A6 (AA (pv 3) AB)))))
 Ad)
 (AE (A9 (Aa Hv (pv 12) AF (Ae _))
 (AI (AM (i:=15) AX.nd rfl (by first|exact Or.inl rfl|exact Or.inr rfl) (AR CI (Af B0 rfl B.int_ DG (AA (Ca Fs (pv 6) (pv 13) (Ae _)) AB)) (AN AY rfl B.len A6 (AA (pv 3) AB)))))
 Ad)
 (AI (AM (i:=14) AX.nd rfl (by first|exact Or.inl rfl|exact Or.inr rfl) (AR Ax (pv 14) (AU Av (pv 3) (pv 15) (λ_ _=>rfl)))))))))
 (AI (AS (An (AA (Af B8 rfl B.tuple_ CU (AA (pv 4) AB)) (AA (pv 14) AB)))))))))))),?_⟩
 have hℓp:ℓ≠p:=E8 hp hℓ (GC cs0);have ocl:(BW cs).length=cs.length:=Gi cs;refine⟨_,rfl,(by show 1<=sizeLine;decide),λu hu0=>?_⟩
 have k1:Kp p H (upd H u (.lst [.int (-1)])):=(Kp.refl hp).new hu0;refine⟨(by show 1<=sizeLine;decide),λl0 hl0=>?_⟩
 have k2:Kp p H (upd (upd H u (.lst [.int (-1)])) l0 (.lst [.int 0])):=k1.new hl0;have hup:u≠p:=hp.ne hu0;have ne0:u≠l0:=AL AD hl0;refine⟨_,rfl,1,many,rfl,⟨by decide,by decide,by omega,by omega⟩,?_⟩
 refine Bm (lo:=1) (n:=(many - 1).toNat) (λi σ H'=>∃(l:Addr) (us line:List Int) (o6 o7 o8 o9 o10 o11:Option V),
  σ=[some (.ref p),some (.int many),some (.int kind),some (.ref ℓ),some (.ref u),some (.ref l),o6,o7,o8,o9,o10,o11,none,none,none,none]/\Kp p H H'/\H' u=some (.lst (us.map V.int))/\H' l=some (.lst (line.map V.int))/\l≠u/\l≠p/\
  us.length=i+1/\BV us/\1<=line.length/\line.length<=i+1/\∀v∈line,0<=v/\v < (i:Int)+1)
  ⟨l0,[-1],[0],none,none,none,none,none,none,rfl,k2,by rw[AO ne0];exact AD,AD,Ne.symm ne0,k1.pool.ne hl0,rfl,BV.one,by decide,by decide,by simp⟩ ?_ ?_
 ·rintro i σ H' hi ⟨l,us,line,o6,o7,o8,o9,o10,o11,rfl,kp,hu,hl,lu,lp,hlen,gr,ln1,ln2,lmem⟩
  have hd:(line.map V.int).length=line.length:=List.length_map _;have hul:(us.map V.int).length=us.length:=List.length_map _;refine⟨_,rfl,l,_,rfl,.inl (Ah.of hl),?_⟩
  generalize hD:(((line.map V.int).length:Nat):Int)=d;have d1:1<=d:=by omega
  have d2:d<=60:=by omega
  have d3:d=(line.length:Int):=by omega
  refine⟨_,rfl,_,rfl,p,4,rfl,kp.pool,by decide,by decide,λn1 H1 a0 a1 kp1=>?_⟩
  refine⟨_,_,rfl,rfl,(by show 2<=sizeLine;decide),λr1 hr1=>?_⟩
  refine⟨_,rfl,_,_,rfl,rfl,.inr ⟨_,rfl,?_⟩⟩
  have hlow:∃v:Int,Du [V.int d,.int (1+n1)] (if decide (4 < d)=true then 1 else 0)=some (.int v)/\1<=v/\v<=d:=by
   by_cases c:4 < d
   ·rw[decide_eq_true c];exact⟨1+n1,rfl,by omega,by omega⟩
   ·rw[decide_eq_false c];exact⟨d,rfl,by omega,by omega⟩
  obtain⟨low,hlow,l1,l2⟩:=hlow;refine⟨r1,_,_,_,rfl,rfl,Ah.of AD,hlow,?_⟩
  have kq1:=kp1.new (o:=.lst [.int d,.int (1+n1)]) hr1;refine⟨_,rfl,_,rfl,p,3,rfl,kq1.pool,by decide,by decide,λn2 H2 b0 b1 kp2=>?_⟩
  refine⟨_,_,rfl,rfl,_,_,rfl,?_⟩
  have hnear:1<=(if d - n2 > 1 then d - n2 else 1)/\(if d - n2 > 1 then d - n2 else 1)<=d:=by split<;>omega
  generalize(if d - n2 > 1 then d - n2 else 1)=near at hnear
  have kq2:=kq1.trans kp2;refine⟨_,rfl,_,_,rfl,rfl,_,rfl,_,_,rfl,rfl,(by decide:(0:Int) < 2),_,_,rfl,rfl,_,_,rfl,?_⟩
  have hcomb:1<=(if d - 1+(1+(i:Int)) % 2 > 1 then d - 1+(1+(i:Int)) % 2 else 1)/\(if d - 1+(1+(i:Int)) % 2 > 1 then d - 1+(1+(i:Int)) % 2 else 1)<=d:=by split<;>omega
  generalize(if d - 1+(1+(i:Int)) % 2 > 1 then d - 1+(1+(i:Int)) % 2 else 1)=comb at hcomb
  refine⟨_,rfl,_,rfl,_,rfl,p,d,rfl,kq2.pool,by omega,by omega,λn3 H3 c0 c1 kp3=>?_⟩
  refine⟨_,_,rfl,rfl,_,rfl,_,rfl,_,rfl,(by show 6<=sizeLine;decide),λr3 hr3=>?_⟩
  have hcut:∃v:Int,Du [V.int d,.int 1,.int (1+n3),.int near,.int comb,.int low] kind=some (.int v)/\1<=v/\v<=d:=by
   have:kind=0\/kind=1\/kind=2\/kind=3\/kind=4\/kind=5:=by omega
   rcases this with rfl|rfl|rfl|rfl|rfl|rfl
   ·exact⟨_,rfl,by omega,by omega⟩
   ·exact⟨_,rfl,by omega,by omega⟩
   ·exact⟨_,rfl,by omega,by omega⟩
   ·exact⟨_,rfl,by omega,by omega⟩
   ·exact⟨_,rfl,by omega,by omega⟩
   ·exact⟨_,rfl,by omega,by omega⟩
  obtain⟨cut,hcut,u1,u2⟩:=hcut;refine⟨_,rfl,r3,_,_,_,rfl,rfl,Ah.of AD,hcut,?_⟩
  have kq3:=(kq2.trans kp3).new (o:=.lst [V.int d,.int 1,.int (1+n3),.int near,.int comb,.int low]) hr3;have hu3:=kq3.keep _ _ hup hu;have hl3:=kq3.keep _ _ lp hl;have hat:=GD (us:=line) (i:=cut - 1) (by omega) (by omega)
  have hvm:=lmem _ (mem_getD (us:=line) (j:=(cut - 1).toNat) (by omega))
  generalize line.getD (cut - 1).toNat 0=v at hat hvm;refine⟨_,rfl,.inl ⟨rfl,_,Ah.of hu3⟩,_,rfl,_,rfl,_,_,rfl,rfl,l,_,_,_,rfl,rfl,Ah.of hl3,hat,u,_,_,rfl,rfl,hu3,by rw[hul];exact AK (by omega),?_⟩
  have ku4:Kp p H (upd (upd H3 r3 (.lst [V.int d,.int 1,.int (1+n3),.int near,.int comb,.int low])) u (.lst (us.map V.int++[.int v]))):=(kp.trans kq3).write hu0 hup;generalize hH4:upd (upd H3 r3 (.lst [V.int d,.int 1,.int (1+n3),.int near,.int comb,.int low])) u (.lst (us.map V.int++[.int v]))=H4 at ku4;have hu4:H4 u=some (.lst (us.map V.int++[.int v])):=by rw[<-hH4];exact AD
  have hl4:H4 l=some (.lst (line.map V.int)):=by rw[<-hH4,AO lu];exact hl3
  refine⟨_,rfl,_,rfl,_,rfl,l,_,rfl,Ah.of hl4,λr4 hr4=>?_⟩
  refine⟨_,rfl,(by show 1<=sizeLine;decide),λr5 hr5=>?_⟩
  have ec:CY (line.map V.int) none (some cut)=(line.take cut.toNat).map V.int:=by rw[Qg (by omega) (by omega),List.map_take]
  rw[ec];rw[ec]at hr5;have ne45:r4≠r5:=AL AD hr5;refine⟨r4,r5,_,_,rfl,rfl,by rw[AO ne45];exact AD,AD,?_,λr6 hr6=>?_⟩
  ·rw[List.length_map,List.length_take]
   have:([V.int (1+(i:Int))]:List V).length=1:=rfl;rw[this];exact Nat.le_of_lt (AK (by omega))
  have ku5:=((ku4.new (o:=.lst ((line.take cut.toNat).map V.int)) hr4).new (o:=.lst [V.int (1+(i:Int))]) hr5)
  have hu5:(upd (upd H4 r4 (.lst ((line.take cut.toNat).map V.int))) r5 (.lst [V.int (1+(i:Int))])) u=some (.lst (us.map V.int++[.int v])):=by
   have e4:upd H4 r4 (.lst ((line.take cut.toNat).map V.int)) u=some (.lst (us.map V.int++[.int v])):=by rw[AO (AL hu4 hr4)];exact hu4
   rw[AO (AL e4 hr5)];exact e4
  refine⟨r6,us++[v],line.take cut.toNat++[1+(i:Int)],_,_,_,_,_,_,rfl,ku5.new hr6,?_,?_,Ne.symm (AL hu5 hr6),ku5.pool.ne hr6,?_,gr.snoc hvm.1 (by omega),?_,?_,?_⟩
  ·rw[AO (AL hu5 hr6),hu5,List.map_append];rfl
  ·rw[AD,List.map_append];rfl
  ·rw[List.length_append,hlen];rfl
  ·rw[List.length_append,List.length_singleton];omega
  ·rw[List.length_append,List.length_singleton,List.length_take];omega
  ·intro x hx
   rcases List.mem_append.mp hx with hx|hx
   ·have:=lmem x (List.mem_of_mem_take hx)
    omega
   ·have:x=1+(i:Int):=by simpa using hx
    omega
 ·rintro σ H' ⟨l,us,line,o6,o7,o8,o9,o10,o11,rfl,kp,hu,hl,lu,lp,hlen,gr,ln1,ln2,lmem⟩
  have hlen':(us.length:Int)=many:=by omega
  refine⟨_,rfl,p,6,rfl,kp.pool,by decide,by decide,λway H1 a0 a1 kp1=>?_⟩
  refine⟨_,rfl,_,rfl,p,many,rfl,kp1.pool,by omega,by omega,λn2 H2 b0 b1 kp2=>?_⟩
  refine⟨(by show 2<=sizeLine;decide),λr1 hr1=>?_⟩
  have kq2:=(kp1.trans kp2).new (o:=.lst [.int n2,.int 0]) hr1;refine⟨_,rfl,p,2,rfl,kq2.pool,by decide,by decide,λn3 H3 c0 c1 kp3=>?_⟩
  have hother:∃v:Int,Du [V.int n2,.int 0] n3=some (.int v):=by
   have:n3=0\/n3=1:=by omega
   rcases this with rfl|rfl
   ·exact⟨_,rfl⟩
   ·exact⟨_,rfl⟩
  obtain⟨other,hother⟩:=hother;refine⟨r1,_,_,_,rfl,rfl,Ah.of (kp3.keep _ _ ((kp1.trans kp2).pool.ne hr1) AD),hother,?_⟩
  have kq3:=kq2.trans kp3;have ku3:=kp.trans kq3;have hu3:=kq3.keep _ _ hup hu;refine⟨_,rfl,many,rfl,by omega,by omega,?_⟩
  refine Bm (lo:=0) (n:=many.toNat) (λi σ H'=>∃(ls:List Nat) (tx:Str) (o6 o15:Option V),
   σ=[some (.ref p),some (.int many),some (.int kind),some (.ref ℓ),some (.ref u),some (.ref l),o6,o7,o8,o9,o10,o11,some (.int way),some (.int other),some (.str tx),o15]/\tx=mk ls/\Kp p H H'/\H' u=some (.lst (us.map V.int))/\ls.length=i/\Co ls)
   ⟨[],_,_,_,rfl,rfl,ku3,hu3,rfl,Co.nil⟩ ?_ ?_
  ·rintro i σ H4 hi ⟨ls,tx,o6',o15,rfl,rfl,kp4,hu4,hls,llw⟩
   have hℓ4:=kp4.keep _ _ hℓp hℓ;refine⟨_,rfl,_,rfl,ℓ,_,rfl,.inl (Ah.of hℓ4),p,_,rfl,kp4.pool,by omega,by omega,λat0 H5 d0 d1 kp5=>?_⟩
   have ku5:=kp4.trans kp5;have hu5:=kp5.keep _ _ hup hu4;have hℓ5:=ku5.keep _ _ hℓp hℓ;have fin:∀(a:Int),0<=a->a < (cs.length:Int)->∃c,Du (BW cs) a=some (.str ⟨#[c]⟩)/\c∈cs:=λa h0 h1=>MW h0 h1
   have hln:∀c:Nat,(mk ls).length+(⟨#[c]⟩:Str).length<=sizeLine:=λc=>by
    rw[Fb];have:(⟨#[c]⟩:Str).length=1:=rfl;rw[this];exact Nat.le_of_lt (AK (by omega))
   have happ:∀c:Nat,mk ls++(⟨#[c]⟩:Str)=mk (ls++[c]):=λc=>by
    apply Cf;rw[app_list];rfl
   refine⟨_,rfl,_,_,rfl,rfl,_,rfl,CZ (λc1=>?_) (λc1=>?_)⟩
   ·have c1':0 < way:=of_decide_eq_true c1
    refine⟨_,_,rfl,rfl,_,rfl,CZ (λc2=>?_) (λc2=>?_)⟩
    ·have c2':way < 4:=of_decide_eq_true c2
     refine⟨_,rfl,_,rfl,_,_,rfl,rfl,c1',_,rfl,ℓ,_,rfl,.inl (Ah.of hℓ5),_,_,rfl,rfl,by omega,?_⟩
     refine⟨_,rfl,_,_,rfl,rfl,_,rfl,CZ (λc3=>?_) (λc3=>?_)⟩
     ·have c3':4 < way:=of_decide_eq_true c3
      omega
     ·obtain⟨c,hc,hcm⟩:=fin ((0+(i:Int)) % way % ((BW cs).length:Int)) (Int.emod_nonneg _ (by omega)) (by have:=Int.emod_lt_of_pos ((0+(i:Int)) % way) (show(0:Int) < ((BW cs).length:Int) by omega);omega)
      refine⟨_,rfl,_,rfl,_,rfl,ℓ,_,_,_,rfl,rfl,Ah.of hℓ5,hc,_,_,rfl,rfl,hln c,⟨ls++[c],_,_,_,rfl,happ c,ku5,hu5,by rw[List.length_append,hls];rfl,llw.app (Co.one (clw c hcm))⟩⟩
    ·refine⟨_,rfl,_,_,rfl,rfl,_,rfl,CZ (λc3=>?_) (λc3=>?_)⟩
     ·obtain⟨c,hc,hcm⟩:=fin ((if decide (V.int (0+(i:Int))=V.int other)=true then 1 else 0) % ((BW cs).length:Int)) (Int.emod_nonneg _ (by omega)) (by have:=Int.emod_lt_of_pos (if decide (V.int (0+(i:Int))=V.int other)=true then 1 else 0) (show(0:Int) < ((BW cs).length:Int) by omega);omega)
      refine⟨_,rfl,_,rfl,rfl,.inr ⟨_,rfl,_,rfl,ℓ,_,rfl,.inl (Ah.of hℓ5),_,_,rfl,rfl,by omega,?_⟩⟩
      refine⟨_,rfl,_,rfl,_,rfl,ℓ,_,_,_,rfl,rfl,Ah.of hℓ5,hc,_,_,rfl,rfl,hln c,⟨ls++[c],_,_,_,rfl,happ c,ku5,hu5,by rw[List.length_append,hls];rfl,llw.app (Co.one (clw c hcm))⟩⟩
     ·obtain⟨c,hc,hcm⟩:=fin at0 d0 (by omega)
      refine⟨_,rfl,_,rfl,_,rfl,ℓ,_,_,_,rfl,rfl,Ah.of hℓ5,hc,_,_,rfl,rfl,hln c,⟨ls++[c],_,_,_,rfl,happ c,ku5,hu5,by rw[List.length_append,hls];rfl,llw.app (Co.one (clw c hcm))⟩⟩
   ·refine⟨_,rfl,?_⟩
    refine DN ?_
    refine⟨_,rfl,_,_,rfl,rfl,_,rfl,CZ (λc3=>?_) (λc3=>?_)⟩
    ·obtain⟨c,hc,hcm⟩:=fin ((if decide (V.int (0+(i:Int))=V.int other)=true then 1 else 0) % ((BW cs).length:Int)) (Int.emod_nonneg _ (by omega)) (by have:=Int.emod_lt_of_pos (if decide (V.int (0+(i:Int))=V.int other)=true then 1 else 0) (show(0:Int) < ((BW cs).length:Int) by omega);omega)
     refine⟨_,rfl,_,rfl,rfl,.inr ⟨_,rfl,_,rfl,ℓ,_,rfl,.inl (Ah.of hℓ5),_,_,rfl,rfl,by omega,?_⟩⟩
     refine⟨_,rfl,_,rfl,_,rfl,ℓ,_,_,_,rfl,rfl,Ah.of hℓ5,hc,_,_,rfl,rfl,hln c,⟨ls++[c],_,_,_,rfl,happ c,ku5,hu5,by rw[List.length_append,hls];rfl,llw.app (Co.one (clw c hcm))⟩⟩
    ·obtain⟨c,hc,hcm⟩:=fin at0 d0 (by omega)
     refine⟨_,rfl,_,rfl,_,rfl,ℓ,_,_,_,rfl,rfl,Ah.of hℓ5,hc,_,_,rfl,rfl,hln c,⟨ls++[c],_,_,_,rfl,happ c,ku5,hu5,by rw[List.length_append,hls];rfl,llw.app (Co.one (clw c hcm))⟩⟩
  ·rintro σ H4 ⟨ls,tx,o6',o15,rfl,rfl,kp4,hu4,hls,llw⟩
   refine⟨_,rfl,u,_,rfl,.inl ⟨Ah.of hu4,λr7 hr7=>?_⟩⟩
   refine⟨_,rfl,(by show 2<=sizeLine;decide),λt ht=>?_⟩
   refine q t us (mk ls) _ ((kp4.new hr7).new ht) ⟨r7,AD,?_,?_⟩ (by rw[BQ];exact llw)
   ·rw[AO (AL AD ht)];exact AD
   ·exact⟨by rw[BQ];omega,gr.pos,by omega,gr.root,gr.up⟩
end
end S58
namespace S58
open PySem L2 W7
section
variable {P:Program}{w:World}{K:PySem.W.Frag}{mg:Str->Option Value}{base:Heap}{k:Nat}
theorem BV.app {us vs:List Int}(g:BV us){v0:Int}(h0:0<=v0)(h1:v0 < (us.length:Int))(hv:∀j,j < vs.length->0<=vs.getD j 0/\vs.getD j 0<=(us.length:Int)+j):BV (us++v0::vs) where
 pos:=by rw[List.length_append];have:=g.pos;omega
 root:=by rw[BA,if_pos g.pos];exact g.root
 up:=λj hj hl=>by
  rw[List.length_append,List.length_cons]at hl;rw[BA]
  split
  ·rename_i h;exact g.up j hj h
  ·rename_i h
   rcases Nat.eq_or_lt_of_le (Nat.le_of_not_lt h)with e|e
   ·subst e
    rw[Nat.sub_self];exact⟨h0,h1⟩
   ·obtain⟨m,hm⟩:∃m,j - us.length=m+1:=⟨j - us.length - 1,by omega⟩
    rw[hm];have:=hv m (by omega)
    show 0<=vs.getD m 0/\vs.getD m 0 < (j:Int);omega
def IP:Sp:=λvs H Q _=>∃(p ℓ:Addr) (cs:List Nat) (m0:Nat),vs=[.ref p,.int (m0:Int),.ref ℓ]/\m0<=60/\1<=m0/\DF H p/\H ℓ=some (.lst (BW cs))/\0 < cs.length/\cs.length<=26/\Co cs/\
 ∀(t:Addr) (ups:List Int) (lab:Str) (H':Hp),Kp p H H'->BJ H' t ups lab->Co lab.cps.toList->Q (.ref t) H'
theorem Lf (D:Df K mg "_law_copies" s_law_copies)(B:Blt mg)(G_law_take:BO P w K mg base "_law_take" k ["pool","many"] CP)(G_law_grown:BO P w K mg base "_law_grown" k ["pool","many","kind","letters"] Gk):
 BO P w K mg base "_law_copies" (k+1) ["pool","most","letters"] IP:=by
 refine D.has A2 (λ_ _ _ _ _ _ us hl=>match us,hl with|[_,_,_],_=>rfl) (λvs H Q E h=>by obtain⟨p,ℓ,cs,m0,rfl,_⟩:=h;rfl) (λf cdv A outer s H vs Q E hr h=>?_)
 obtain⟨p,ℓ,cs,m0,rfl,m60,m1,hp,hℓ,cs0,cs26,clw,q⟩:=h;refine⟨_,(AE (AM (i:=3) A2.nd rfl (by first|exact Or.inl rfl|exact Or.inr rfl) (AH G_law_grown hr rfl (AA (pv 0) (AA (AR BB AF (AH G_law_take hr rfl (AA (pv 0) (AA AF AB)))) (AA AF (AA (pv 2) AB))))))
 (AE (AM (i:=4) A2.nd rfl (by first|exact Or.inl rfl|exact Or.inr rfl) (AH G_law_take hr rfl (AA (pv 0) (AA AF AB))))
 (AE (AM (i:=5) A2.nd rfl (by first|exact Or.inl rfl|exact Or.inr rfl) (Ar (AA (Cq Bz AF) AB)))
 (AE (AM (i:=6) A2.nd rfl (by first|exact Or.inl rfl|exact Or.inr rfl) (AU Av (pv 2) (AH G_law_take hr rfl (AA (pv 0) (AA (AN AY rfl B.len A6 (AA (pv 2) AB)) AB))) (λ_ _=>rfl)))
 (AE (Bs PassesOwn.never rfl (By rfl B.range (AA (AR BB AF (AH G_law_take hr rfl (AA (pv 0) (AA AF AB)))) AB)) (AW (i:=7) A2.nd rfl (by first|exact Or.inl rfl|exact Or.inr rfl))
 (AI (A9 (Aa OM (AR BB (AN AY rfl B.len A6 (AA (pv 5) AB)) (AN AY rfl B.len A6 (AA (AU Aj (pv 3) AF (λ_ _=>rfl)) AB))) (pv 1) (Ae _))
 (AE (AM (i:=8) A2.nd rfl (by first|exact Or.inl rfl|exact Or.inr rfl) (AN AY rfl B.len A6 (AA (pv 5) AB)))
 (AE (BZ (Cu PySem.F.plainAttrs_list PySem.F.slot_list_extend PySem.F.type_list_extend FO (pv 5) (AA (AR LM (Ar (AA (AU Av (Ar (AA AF (AA (AR DR (pv 8) AF) AB))) (pv 4) (λ_ _=>rfl)) AB)) (BI rfl (LD (BN OS (AU Aj (pv 3) AF (λ_ _=>rfl)) (Ba AF) Bg)) (NL:=["up"]) (ix:=[8]) (J1 (AJ s_law_copies) E7) (λcl C s₃ H₃ fp pins=>⟨(AW (i:=0) (show List.Nodup (["up","here"]:List Str)from by decide+kernel) rfl (by first|exact Or.inl rfl|exact Or.inr rfl)),A3,(AR BB (pv 0) (pv 1))⟩))) AB)))
 (AI (AM (i:=6) A2.nd rfl (by first|exact Or.inl rfl|exact Or.inr rfl) (AR Ax (pv 6) (AU Aj (pv 3) AF (λ_ _=>rfl)))))))
 Ad)))
 (AI (AS (An (AA (Af B8 rfl B.tuple_ CU (AA (pv 5) AB)) (AA (pv 6) AB)))))))))),?_⟩
 have hℓp:ℓ≠p:=E8 hp hℓ (GC cs0);have ocl:(BW cs).length=cs.length:=Gi cs;refine⟨_,rfl,_,rfl,p,6,rfl,hp,by decide,by decide,λn1 H1 a0 a1 kp1=>?_⟩
 refine⟨_,_,rfl,rfl,_,rfl,p,ℓ,1+n1,2,cs,rfl,kp1.pool,by omega,by omega,by decide,by decide,kp1.keep _ _ hℓp hℓ,cs0,cs26,clw,λt1 ups1 lab1 H2 kp2 tr2 lw1=>?_⟩
 have ku2:=kp1.trans kp2;refine⟨_,rfl,p,2,rfl,kp2.pool,by decide,by decide,λch H3 b0 b1 kp3=>?_⟩
 have ku3:=ku2.trans kp3;have tr3:=tr2.kp kp2.pool kp3;refine⟨_,rfl,(by show 1<=sizeLine;decide),λu hu0=>?_⟩
 have ku4:=ku3.new (o:=.lst [.int (-1)]) hu0;have hup:u≠p:=kp3.pool.ne hu0
 have hH0:H u=none:=by
  cases e:H u with
  |none=>rfl
  |some o=>have:=ku3.keep u o hup e;rw[hu0]at this;cases this
 have tr4:BJ (upd H3 u (.lst [.int (-1)])) t1 ups1 lab1:=tr3.kp kp3.pool ((Kp.refl kp3.pool).new hu0);refine⟨_,rfl,_,rfl,_,rfl,ℓ,_,rfl,.inl (Ah.of (ku4.keep _ _ hℓp hℓ)),p,_,rfl,ku4.pool,by omega,by omega,λn5 H5 c0 c1 kp5=>?_⟩
 have ku5:=ku4.trans kp5;obtain⟨c5,hc5,hcm5⟩:=MW (cs:=cs) (i:=n5) c0 (by omega)
 refine⟨ℓ,_,_,_,rfl,rfl,Ah.of (ku5.keep _ _ hℓp hℓ),hc5,?_⟩
 have tr5:=tr4.kp ku4.pool kp5;have hu5:H5 u=some (.lst [.int (-1)]):=kp5.keep _ _ hup AD;refine⟨_,rfl,p,12,rfl,kp5.pool,by decide,by decide,λn6 H6 d0 d1 kp6=>?_⟩
 refine⟨_,_,rfl,rfl,_,rfl,by omega,by omega,?_⟩
 obtain⟨_,_,_,okk⟩:=id tr5;have l60:=okk.most;have lpos:=okk.pos
 refine Bm (lo:=0) (n:=(1+n6).toNat) (λi σ H'=>∃(us:List Int) (ls:List Nat) (tx:Str) (o7 o8:Option V),
  σ=[some (.ref p),some (.int (m0:Int)),some (.ref ℓ),some (.ref t1),some (.int ch),some (.ref u),some (.str tx),o7,o8]/\tx=mk ls/\Kp p H H'/\H' u=some (.lst (us.map V.int))/\BJ H' t1 ups1 lab1/\us.length=ls.length/\us.length<=60/\BV us/\Co ls)
  ⟨[-1],[c5],_,none,none,rfl,rfl,ku5.trans kp6,kp6.keep _ _ hup hu5,tr5.kp kp5.pool kp6,rfl,by decide,BV.one,Co.one (clw _ hcm5)⟩ ?_ ?_
 ·rintro i σ H' hi ⟨us,ls,tx,o7,o8,rfl,rfl,kp,hu,⟨v1,ht1,hv1,ok⟩,hlen,h60,gr,llw⟩
  have hul:(us.map V.int).length=us.length:=List.length_map _;have hul1:(ups1.map V.int).length=ups1.length:=List.length_map _;refine⟨_,rfl,u,_,rfl,.inl (Ah.of hu),_,rfl,t1,_,_,_,rfl,rfl,BM.of ht1,rfl,v1,_,rfl,.inr (BM.of hv1),_,_,rfl,rfl,_,rfl,_,_,rfl,rfl,_,rfl,CZ (λcnd=>?_) (λcnd=>?_)⟩
  ·have cnd':(((us.map V.int).length:Nat):Int)+(((ups1.map V.int).length:Nat):Int)<=(m0:Int):=of_decide_eq_true cnd
   refine⟨_,rfl,u,_,rfl,.inl (Ah.of hu),?_⟩
   generalize hh:(((us.map V.int).length:Nat):Int)=here;have gp:=gr.pos;refine⟨_,rfl,.inl ⟨rfl,_,Ah.of hu⟩,_,rfl,_,_,rfl,rfl,(by show 2<=sizeLine;decide),λr1 hr1=>?_⟩
   have hch:∃v:Int,Du [V.int 0,.int (here - 1)] ch=some (.int v)/\0<=v/\v < here:=by
    have:ch=0\/ch=1:=by omega
    rcases this with rfl|rfl
    ·exact⟨_,rfl,by omega,by omega⟩
    ·exact⟨_,rfl,by omega,by omega⟩
   obtain⟨v0,hv0,e0,e1⟩:=hch;refine⟨_,rfl,r1,_,_,_,rfl,rfl,Ah.of AD,hv0,(by show 1<=sizeLine;decide),λr2 hr2=>?_⟩
   have kq2:Kp p H (upd (upd H' r1 (.lst [.int 0,.int (here - 1)])) r2 (.lst [.int v0])):=(kp.new hr1).new hr2;have s2:AG H' (upd (upd H' r1 (.lst [.int 0,.int (here - 1)])) r2 (.lst [.int v0])):=((AG.refl H').new hr1).new hr2;have h2:(upd (upd H' r1 (.lst [.int 0,.int (here - 1)])) r2 (.lst [.int v0])) r2=some (.lst [.int v0]):=AD;generalize hH2:upd (upd H' r1 (.lst [.int 0,.int (here - 1)])) r2 (.lst [.int v0])=HH2 at kq2 s2 h2;refine⟨_,rfl,t1,_,_,_,rfl,rfl,BM.of (s2 _ _ ht1),rfl,_,rfl,v1,_,rfl,BM.of (s2 _ _ hv1),?_,λr3 hr3=>?_⟩
   ·intro z
    have:=z.1;rw[show(some (1:Int))=some ((1:Nat):Int)from rfl,HT.Eo]at this
    omega
   have ecut:CY (ups1.map V.int) (some 1) none=(ups1.drop 1).map V.int:=by
    rw[show(some (1:Int))=some ((1:Nat):Int)from rfl,Nj (by omega),List.map_drop]
   rw[ecut];have kq3:=kq2.new (o:=.tup ((ups1.drop 1).map V.int)) hr3;have s3:AG H' (upd HH2 r3 (.tup ((ups1.drop 1).map V.int))):=s2.new hr3;have h23:(upd HH2 r3 (.tup ((ups1.drop 1).map V.int))) r2=some (.lst [.int v0]):=by rw[AO (AL h2 hr3)];exact h2
   have h33:(upd HH2 r3 (.tup ((ups1.drop 1).map V.int))) r3=some (.tup ((ups1.drop 1).map V.int)):=AD;generalize hH3:upd HH2 r3 (.tup ((ups1.drop 1).map V.int))=HH3 at kq3 s3 h23 h33;have hdl:((ups1.drop 1).map V.int).length=ups1.length - 1:=by rw[List.length_map,List.length_drop]
   refine⟨r3,rfl,⟨_,BM.of h33⟩,λacc hacc=>?_⟩
   refine DB (ups1.length - 1) (by omega) (λj ys HH=>HH acc=some (.lst ys)/\ys=((ups1.drop 1).take j).map (λv=>V.int (v+here))/\AG HH3 HH) (λj ys HH h=>⟨h.1,by rw[h.2.1,List.length_map,List.length_take];omega⟩)
    ⟨AD,by simp,(AG.refl HH3).new hacc⟩ ?_ ?_
   ·rintro ys HH ⟨g1,rfl,g3⟩
    refine⟨⟨_,BM.of (g3 _ _ h33),by omega⟩,?_⟩
    have full:(ups1.drop 1).take (ups1.length - 1)=ups1.drop 1:=List.take_of_length_le (by rw[List.length_drop];omega)
    rw[full]at g1;refine⟨r2,acc,_,_,rfl,rfl,g3 _ _ h23,g1,?_,λr4 hr4=>?_⟩
    ·rw[List.length_map,List.length_drop]
     have:([V.int v0]:List V).length=1:=rfl;rw[this];exact Nat.le_of_lt (AK (by omega))
    have s4:AG H' (upd HH r4 (.lst ([V.int v0]++(ups1.drop 1).map (λv=>V.int (v+here))))):=((s3.trans g3).new hr4)
    have huu:=s4 _ _ hu;refine⟨u,r4,_,_,rfl,rfl,huu,AD,?_,?_⟩
    ·have z:(us.map V.int).length+([V.int v0]++(ups1.drop 1).map (λv=>V.int (v+here))).length=us.length+(1+(ups1.length - 1)):=by
      simp only[List.length_append,List.length_map,List.length_drop,List.length_singleton]
     rw[z];exact Nat.le_of_lt (AK (by omega))
    have eapp:us.map V.int++([V.int v0]++(ups1.drop 1).map (λv=>V.int (v+here)))=(us++v0::(ups1.drop 1).map (·+here)).map V.int:=by
     rw[List.map_append,List.map_cons,List.map_map];rfl
    have kfin:Kp p H (upd (upd HH r4 (.lst ([V.int v0]++(ups1.drop 1).map (λv=>V.int (v+here))))) u (.lst (us.map V.int++([V.int v0]++(ups1.drop 1).map (λv=>V.int (v+here)))))):=by
     refine Kp.write ?_ hH0 hup
     refine⟨?_,λb o hb e=>s4 _ _ (kp.keep b o hb e)⟩
     obtain⟨x,y,e⟩:=kp.pool;exact⟨x,y,s4 _ _ e⟩
    have tfin:BJ (upd (upd HH r4 (.lst ([V.int v0]++(ups1.drop 1).map (λv=>V.int (v+here))))) u (.lst (us.map V.int++([V.int v0]++(ups1.drop 1).map (λv=>V.int (v+here)))))) t1 ups1 lab1:=by
     refine⟨v1,?_,?_,ok⟩
     ·rw[AO (Jq (s4 _ _ ht1) huu (λz=>nomatch z))];exact s4 _ _ ht1
     ·rw[AO (Jq (s4 _ _ hv1) huu (λz=>nomatch z))];exact s4 _ _ hv1
    obtain⟨v1',ht1',hv1',_⟩:=id tfin;have hlab:lab1.length=ups1.length:=by rw[ok.len];simp[Str.length]
    refine⟨_,rfl,_,rfl,t1,_,_,_,rfl,rfl,BM.of ht1',rfl,_,_,rfl,rfl,?_,?_⟩
    ·rw[Fb,hlab];exact Nat.le_of_lt (AK (by omega))
    refine⟨us++v0::(ups1.drop 1).map (·+here),ls++lab1.cps.toList,_,_,_,rfl,?_,kfin,by rw[AD,eapp],tfin,?_,?_,?_,llw.app lw1⟩
    ·have:mk ls++lab1=mk (ls++lab1.cps.toList):=by
      apply Cf;rw[app_list];rfl
     exact this
    ·rw[List.length_append,List.length_append,List.length_cons,List.length_map,List.length_drop,<-ok.len];omega
    ·rw[List.length_append,List.length_cons,List.length_map,List.length_drop];omega
    ·refine gr.app e0 (by omega) λj hj=>?_
     rw[List.length_map,List.length_drop]at hj;have hj1:j+1 < ups1.length:=by omega
     have e:((ups1.drop 1).map (·+here)).getD j 0=ups1.getD (j+1) 0+here:=by
      rw[List.getD_eq_getElem?_getD,List.getElem?_map,List.getElem?_drop,List.getD_eq_getElem?_getD,Nat.add_comm 1 j,List.getElem?_eq_getElem hj1];rfl
     rw[e];have:=ok.up (j+1) (by omega) hj1
     omega
   ·rintro j ys HH hj ⟨g1,rfl,g3⟩
    have h33':=g3 _ _ h33;have hj1:j < (ups1.drop 1).length:=by rw[List.length_drop];omega
    have hget:((ups1.drop 1).map V.int)[j]?=some (.int (ups1.drop 1)[j]):=by rw[List.getElem?_map,List.getElem?_eq_getElem hj1];rfl
    refine⟨⟨_,_,BM.of h33',hget⟩,?_⟩
    rintro x H'' ⟨rfl,hx⟩
    have ex:x=.int (ups1.drop 1)[j]:=by
     have:=hx _ (BM.of h33');rw[hget]at this;exact(Option.some.inj this).symm
    subst ex;refine⟨rfl,?_⟩
    refine⟨_,rfl,_,rfl,_,_,rfl,rfl,g1,AD,?_,?_⟩
    ·rw[List.take_add_one,List.getElem?_eq_getElem hj1,List.map_append];rfl
    ·exact(g3.write (by
      cases e:HH3 acc with
      |none=>rfl
      |some o=>rw[hacc]at e;cases e))
  ·exact⟨us,ls,_,_,_,rfl,rfl,kp,hu,⟨v1,ht1,hv1,ok⟩,hlen,h60,gr,llw⟩
 ·rintro σ H' ⟨us,ls,tx,o7,o8,rfl,rfl,kp,hu,tr,hlen,h60,gr,llw⟩
  refine⟨_,rfl,u,_,rfl,.inl ⟨Ah.of hu,λr7 hr7=>?_⟩⟩
  refine⟨_,rfl,(by show 2<=sizeLine;decide),λt ht=>?_⟩
  refine q t us (mk ls) _ ((kp.new hr7).new ht) ⟨r7,AD,?_,?_⟩ (by rw[BQ];exact llw)
  ·rw[AO (AL AD ht)];exact AD
  ·exact⟨by rw[BQ];exact hlen,gr.pos,h60,gr.root,gr.up⟩
def MY:Sp:=λvs H Q _=>∃(p ℓ:Addr) (cs:List Nat) (m0:Nat),vs=[.ref p,.int (m0:Int),.ref ℓ]/\m0<=60/\1<=m0/\DF H p/\H ℓ=some (.lst (BW cs))/\0 < cs.length/\cs.length<=26/\Co cs/\∀(t:Addr) (ups:List Int) (lab:Str) (H':Hp),Kp p H H'->BJ H' t ups lab->Co lab.cps.toList->Q (.ref t) H'
theorem O3 (D:Df K mg "_law_tree" s_law_tree)(B:Blt mg)(G_law_take:BO P w K mg base "_law_take" k ["pool","many"] CP)
 (G_law_grown:BO P w K mg base "_law_grown" k ["pool","many","kind","letters"] Gk)(G_law_copies:BO P w K mg base "_law_copies" k ["pool","most","letters"] IP):BO P w K mg base "_law_tree" (k+1) ["pool","most","letters"] MY:=by
 refine D.has Dj (λ_ _ _ _ _ _ us hl=>match us,hl with|[_,_,_],_=>rfl) (λvs H Q E h=>by obtain⟨p,ℓ,cs,m0,rfl,_⟩:=h;rfl) (λf cdv A outer s H vs Q E hr h=>?_)
 obtain⟨p,ℓ,cs,m0,rfl,m60,m1,hp,hℓ0,cs0,cs26,clw,q⟩:=h;refine⟨_,(AE (AM (i:=3) Dj.nd rfl (by first|exact Or.inl rfl|exact Or.inr rfl) (AH G_law_take hr rfl (AA (pv 0) (AA AF AB))))
 (AE (AM (i:=4) Dj.nd rfl (by first|exact Or.inl rfl|exact Or.inr rfl) (AU Av (Ar (AA (AR BB AF (AH G_law_take hr rfl (AA (pv 0) (AA AF AB)))) (AA (AR BB AF (AH G_law_take hr rfl (AA (pv 0) (AA (pv 1) AB)))) (AA (pv 1) AB)))) (AH G_law_take hr rfl (AA (pv 0) (AA AF AB))) (λ_ _=>rfl)))
 (AE (A9 (Aa Hv (pv 3) AF (Ae _))
 (AI (AS (AH G_law_copies hr rfl (AA (pv 0) (AA (pv 1) (AA (pv 2) AB))))))
 Ad)
 (AI (AS (AH G_law_grown hr rfl (AA (pv 0) (AA (pv 4) (AA (pv 3) (AA (pv 2) AB)))))))))),?_⟩
 refine⟨_,rfl,p,8,rfl,hp,by decide,by decide,λkind H1 a0 a1 kp1=>?_⟩
 refine⟨_,rfl,p,9,rfl,kp1.pool,by decide,by decide,λn2 H2 b0 b1 kp2=>?_⟩
 refine⟨_,_,rfl,rfl,_,rfl,_,rfl,p,(m0:Int),rfl,kp2.pool,by omega,by omega,λn3 H3 c0 c1 kp3=>?_⟩
 refine⟨_,_,rfl,rfl,_,rfl,(by show 3<=sizeLine;decide),λr hr0=>?_⟩
 have ku:=((kp1.trans kp2).trans kp3).new (o:=.lst [.int (1+n2),.int (1+n3),.int (m0:Int)]) hr0;refine⟨_,rfl,p,3,rfl,ku.pool,by decide,by decide,λn4 H4 d0 d1 kp4=>?_⟩
 have hm:∃v:Int,Du [V.int (1+n2),.int (1+n3),.int (m0:Int)] n4=some (.int v)/\1<=v/\v<=60:=by
  have:n4=0\/n4=1\/n4=2:=by omega
  rcases this with rfl|rfl|rfl
  ·exact⟨_,rfl,by omega,by omega⟩
  ·exact⟨_,rfl,by omega,by omega⟩
  ·exact⟨_,rfl,by omega,by omega⟩
 obtain⟨many,hm,e0,e1⟩:=hm;refine⟨r,_,_,_,rfl,rfl,Ah.of (kp4.keep _ _ (kp3.pool.ne hr0) AD),hm,?_⟩
 have ku4:=ku.trans kp4;have hℓp:ℓ≠p:=E8 hp hℓ0 (GC cs0);have hℓ:=ku4.keep _ _ hℓp hℓ0;refine⟨_,rfl,_,_,rfl,rfl,_,rfl,CZ (λc=>?_) (λc=>?_)⟩
 ·exact⟨_,rfl,_,rfl,_,rfl,p,ℓ,cs,m0,rfl,m60,m1,kp4.pool,hℓ,cs0,cs26,clw,λt ups lab H6 kp6 tr lw=>q t ups lab H6 (ku4.trans kp6) tr lw⟩
 ·have c':¬5 < kind:=of_decide_eq_false (Bool.eq_false_iff.mpr c)
  exact⟨_,rfl,_,rfl,_,rfl,_,rfl,p,ℓ,many,kind,cs,rfl,kp4.pool,e0,e1,a0,by omega,hℓ,cs0,cs26,clw,λt ups lab H6 kp6 tr lw=>q t ups lab H6 (ku4.trans kp6) tr lw⟩
end
end S58
namespace W55
open PySem L2 W7
def sm (l:List Nat):Str:=⟨l.toArray⟩
theorem KU {a b:Str}(h:a.cps.toList=b.cps.toList):a=b:=by
 obtain⟨x⟩:=a;obtain⟨y⟩:=b;have:x=y:=Array.toList_inj.mp h;rw[this]
def front (z:Str):Str:=sm z.cps.toList.dropLast
def CL (us:List Str)(z:Str):Int:=if us.idxOf (front z) < us.length then((us.idxOf (front z):Nat):Int)else -1
def Az (us:List Str):List Int:=us.map (CL us)
def EJ (us:List Str):List Nat:=us.map λz=>z.cps.toList.getLastD 0
structure Cl (us:List Str):Prop where
 ne:∀z∈us,z.cps.toList≠[]
 fr:∀z∈us,1 < z.cps.toList.length->front z∈us
 hd:∃c,∀z∈us,z.cps.toList.head?=some c
theorem Cl.perm {us ws:List Str}(h:Cl ws)(m:∀z,z∈us↔z∈ws):Cl us:=
 ⟨λz hz=>h.ne z ((m z).mp hz),λz hz l=>(m _).mpr (h.fr z ((m z).mp hz) l),let⟨c,hc⟩:=h.hd;⟨c,λz hz=>hc z ((m z).mp hz)⟩⟩
theorem O4:∀(a:List Nat) (c:Nat),a < a++[c]
 |[],c=>List.nil_lt_cons _ _
 |x::a,c=>by rw[List.cons_append,List.cons_lt_cons_iff];exact .inr ⟨rfl,O4 a c⟩
theorem Gm {z:Str}(h:z.cps.toList≠[]):(front z).cps.toList < z.cps.toList:=by
 have e:=List.dropLast_concat_getLast h;have:=O4 z.cps.toList.dropLast (z.cps.toList.getLast h);rw[e]at this;exact this
theorem Qh {us:List Str}{z:Str}(h:z∈us):∃h':us.idxOf z < us.length,us[us.idxOf z]=z:=
 ⟨List.idxOf_lt_length_of_mem h,List.getElem_idxOf _⟩
theorem KW {us:List Str}(cl:Cl us){z:Str}(h:z.cps.toList.length<=1):¬us.idxOf (front z) < us.length:=λi=>by
 have m:front z∈us:=List.idxOf_lt_length_iff.mp i;refine cl.ne _ m ?_
 show z.cps.toList.dropLast=[];apply List.length_eq_zero_iff.mp;rw[List.length_dropLast];omega
theorem E9 {us:List Str}(cl:Cl us)(srt:us.Pairwise (λa b=>a.cps.toList < b.cps.toList))(h0:us≠[])(h60:us.length<=60):Al (Az us) (EJ us):=by
 have lp:0 < us.length:=List.length_pos_iff.mpr h0
 have at':∀k,k < us.length->(Az us).getD k 0=CL us (us.getD k Str.empty):=λk hk=>by
  unfold Az;rw[List.getD_eq_getElem?_getD,List.getElem?_map,List.getElem?_eq_getElem hk,List.getD_eq_getElem?_getD,List.getElem?_eq_getElem hk];rfl
 have gd:∀k (hk:k < us.length),us.getD k Str.empty=us[k]:=λk hk=>by rw[List.getD_eq_getElem?_getD,List.getElem?_eq_getElem hk];rfl
 have lt:∀i j (hi:i < us.length) (hj:j < us.length),i < j->us[i].cps.toList < us[j].cps.toList:=λi j hi hj h=>List.pairwise_iff_getElem.mp srt i j hi hj h
 have len0:(us[0]'lp).cps.toList.length=1:=by
  have ne:=cl.ne _ (List.getElem_mem lp);have l1:=List.length_pos_iff.mpr ne
  rcases Nat.lt_or_ge 1 (us[0]'lp).cps.toList.length with h|h
  ·have m:=cl.fr _ (List.getElem_mem lp) h
   have fl:=Gm ne;obtain⟨j,hj,e⟩:=List.getElem_of_mem m
   rcases Nat.eq_zero_or_pos j with z|z
   ·subst z
    rw[<-e]at fl;exact absurd fl (List.lt_irrefl _)
   ·have:=lt 0 j lp hj z
    rw[e]at this;exact absurd (List.lt_trans this fl) (List.lt_irrefl _)
  ·omega
 refine⟨?_,?_,?_,?_,λk k0 kl=>?_⟩
 ·unfold Az EJ;rw[List.length_map,List.length_map]
 ·unfold Az;rw[List.length_map];exact lp
 ·unfold Az;rw[List.length_map];exact h60
 ·rw[at' 0 lp,gd 0 lp]
  unfold CL;rw[if_neg (KW cl (by omega))]
 ·unfold Az at kl
  rw[List.length_map]at kl;rw[at' k kl,gd k kl]
  have lk:1 < (us[k]).cps.toList.length:=by
   have ne:=cl.ne _ (List.getElem_mem kl);have l1:=List.length_pos_iff.mpr ne
   rcases Nat.lt_or_ge 1 (us[k]).cps.toList.length with h|h
   ·exact h
   ·obtain⟨c,hc⟩:=cl.hd
    have a0:=hc _ (List.getElem_mem lp);have ak:=hc _ (List.getElem_mem kl)
    have e1:(us[0]'lp).cps.toList=[c]:=by
     generalize(us[0]'lp).cps.toList=l at a0 len0
     match l,a0,len0 with
     |[x],a0,_=>cases a0;rfl
    have ek:(us[k]).cps.toList=[c]:=by
     have hk1:(us[k]).cps.toList.length=1:=by omega
     generalize(us[k]).cps.toList=l at ak hk1
     match l,ak,hk1 with
     |[x],ak,_=>cases ak;rfl
    have:=lt 0 k lp kl k0;rw[e1,ek]at this;exact absurd this (List.lt_irrefl _)
  have m:=cl.fr _ (List.getElem_mem kl) lk;obtain⟨hi,e⟩:=Qh m;have fl:=Gm (cl.ne _ (List.getElem_mem kl));unfold CL;rw[if_pos hi];refine⟨by omega,?_⟩
  rcases Nat.lt_or_ge (us.idxOf (front us[k])) k with h|h
  ·omega
  ·rcases Nat.eq_or_lt_of_le h with z|z
   ·have:us[us.idxOf (front us[k])].cps.toList=us[k].cps.toList:=by
     congr 2;exact getElem_congr_idx z.symm
    rw[e]at this;rw[this]at fl;exact absurd fl (List.lt_irrefl _)
   ·have:=lt k _ kl hi z
    rw[e]at this;exact absurd (List.lt_trans this fl) (List.lt_irrefl _)
def Fc (i:Nat):List Str->List (Key×V)
 |[]=>[]
 |z::r=>(Sum.inr z,.int (i:Int))::Fc (i+1) r
theorem KY:∀(us:List Str) (i:Nat),(Fc i us).length=us.length
 |[],_=>rfl
 |z::r,i=>by show(Fc (i+1) r).length+1=_;rw[KY r];rfl
theorem IQ:∀(us:List Str) (i:Nat),(Fc i us).map (·.1)=us.map Sum.inr
 |[],_=>rfl
 |z::r,i=>by show Sum.inr z::(Fc (i+1) r).map (·.1)=_;rw[IQ r];rfl
theorem KZ:∀(us:List Str) (i j:Nat) {k:Key} {v:V},(Fc i us)[j]?=some (k,v)->∃z,us[j]?=some z/\k=Sum.inr z/\v=.int ((i+j:Nat):Int)
 |[],_,_,_,_,h=>by simp[Fc]at h
 |z::r,i,0,k,v,h=>by
  have h':(Sum.inr z,V.int (i:Int))=(k,v):=by simpa[Fc]using h
  cases h';exact⟨z,rfl,rfl,rfl⟩
 |z::r,i,j+1,k,v,h=>by
  obtain⟨y,a,b,c⟩:=KZ r (i+1) j (k:=k) (v:=v) (by simpa[Fc]using h)
  exact⟨y,by simpa using a,b,by rw[c];congr 1;omega⟩
theorem Gn (z:Str):∀(us:List Str) (i:Nat),FX (Fc i us) (Sum.inr z)=if us.idxOf z < us.length then some (.int ((i+us.idxOf z:Nat):Int))else none
 |[],_=>by rfl
 |y::r,i=>by
  show FX ((Sum.inr y,V.int (i:Int))::Fc (i+1) r) (Sum.inr z)=_
  by_cases h:y=z
  ·subst h
   rw[Ey rfl,List.idxOf_cons_self,if_pos (by simp)];rfl
  ·rw[Ez (λe=>h (by injection e)),Gn z r (i+1),List.idxOf_cons,show(y==z)=false from beq_eq_false_iff_ne.mpr h,List.length_cons]
   show _=if r.idxOf z+1 < r.length+1 then some (V.int ((i+(r.idxOf z+1):Nat):Int))else none
   by_cases c:r.idxOf z < r.length
   ·rw[if_pos c,if_pos (by omega)];congr 3;omega
   ·rw[if_neg c,if_neg (by omega)]
end W55
namespace S58
open PySem L2 W7 W55
structure B6 (mg:Str->Option Value):Prop extends Blt mg where
 sorted:mg "sorted"=none
 set_:mg "set"=none
 repr:mg "repr"=none
 dict_:mg "dict"=none
 all:mg "all"=none
 ValueError_:mg "ValueError"=none
 most:∃u,mg "MOST_PLACES"=some u/\RelV (.int 60) u
 letters:∃u,mg "LETTERS"=some u/\RelV (.str "abcdefghijklmnopqrstuvwxyz") u
section
variable {P:Program}{w:World}{K:PySem.W.Frag}{mg:Str->Option Value}{base:Heap}{k:Nat}
theorem Nl:∀x y:List Nat,¬y < x->¬x < y->x=y:=λx y h1 h2=>List.le_antisymm (List.not_lt.mp h1) (List.not_lt.mp h2)
theorem F0:∀(l:List Str) (p:Str),PyProof.Rows.risingS p l=true->(p::l).Pairwise (λa b=>¬b.cps.toList < a.cps.toList)
 |[],p,_=>List.pairwise_singleton _ _
 |x::r,p,h=>by
  have h':(!PySem.Spec.ltCps x.cps.toList p.cps.toList&&PyProof.Rows.risingS x r)=true:=h;obtain⟨h1,h2⟩:=(Bool.and_eq_true _ _).mp h';have ih:=F0 r x h2
  have px:¬x.cps.toList < p.cps.toList:=by
   rw[PyProof.Rows.ltCps_eq]at h1;simpa using h1
  refine List.pairwise_cons.mpr ⟨λy hy=>?_,ih⟩
  rcases List.mem_cons.mp hy with rfl|hy
  ·exact px
  ·have xy:=List.rel_of_pairwise_cons ih hy
   exact List.not_lt.mpr (List.le_trans (List.not_lt.mp px) (List.not_lt.mp xy))
theorem Ka:∀ss:List Str,PyProof.Rows.sortedS ss=true->ss.Pairwise (λa b=>¬b.cps.toList < a.cps.toList)
 |[],_=>List.Pairwise.nil
 |x::r,h=>F0 r x h
structure Uq (us bs:List Str):Prop where
 nd:us.Nodup
 mem:∀x,x∈us↔x∈bs
 srt:PyProof.Rows.sortedS us=true
theorem Kb:∀(ss:List Str) (acc:Array Nat),(List.foldl (λacc (p:Str)=>acc++(Str.ofString "").cps++p.cps) acc ss).toList=acc.toList++(ss.map λz:Str=>z.cps.toList).flatten
 |[],acc=>by simp
 |x::r,acc=>by
  rw[List.foldl_cons,Kb r,Array.toList_append,Array.toList_append];have e:(Str.ofString "").cps.toList=[]:=rfl;rw[e,List.append_nil,List.map_cons,List.flatten_cons,List.append_assoc]
theorem O5 (ss:List Str):(Txt.join (Str.ofString "") ss).cps.toList=(ss.map λz:Str=>z.cps.toList).flatten:=by
 cases ss with
 |nil=>rfl
 |cons x r=>
  have:=Kb r x.cps;rw[List.map_cons,List.flatten_cons];exact this
def Cg (ups:List Int)(lab:Str)(n:Nat):List Str:=(List.range n).map λj=>mk (W ups lab.cps.toList j).reverse
theorem Dw (ups:List Int)(lab:Str)(n:Nat):(Cg ups lab n).length=n:=by simp[Cg]
theorem Gp (ups:List Int)(lab:Str)(n:Nat):(Cg ups lab (n+1)).map V.str=(Cg ups lab n).map V.str++[.str (mk (W ups lab.cps.toList n).reverse)]:=by
 unfold Cg;rw[List.range_succ,List.map_append,List.map_append];rfl
theorem Qi (l:List Nat):NX (mk l)=mk l.reverse:=rfl
theorem RX {ups:List Int}{lab:List Nat}(ok:Al ups lab)(lw:Co lab):∀(n i:Nat),i < n->i < ups.length->Co (W ups lab i)
 |0,i,h,_=>absurd h (Nat.not_lt_zero _)
 |n+1,i,h,hi=>by
  rw[KJ ok hi]
  have hc:Lw (lab.getD i 0):=by
   rw[List.getD_eq_getElem?_getD,List.getElem?_eq_getElem (by have:=ok.len;omega)]
   exact lw _ (List.getElem_mem _)
  split
  ·exact Co.one hc
  ·rename_i hn
   have lt:=ok.lt hi hn;exact Co.app (Co.one hc) (RX ok lw n _ (by omega) (by omega))
def FA:Sp:=λvs H Q _=>∃(t:Addr) (ups:List Int) (lab:Str),vs=[.ref t]/\BJ H t ups lab/\∀(r:Addr) (H':Hp),AG H H'->H r=none->H' r=some (.lst ((Cg ups lab ups.length).map V.str))->Q (.ref r) H'
theorem O6 (D:Df K mg "ways_down" s_ways_down)(B:B6 mg)(G_words_of:BO P w K mg base "words_of" k ["tree"] KR):BO P w K mg base "ways_down" (k+1) ["tree"] FA:=by
 refine D.has JI (λ_ _ _ _ _ _ us hl=>match us,hl with|[_],_=>rfl) (λvs H Q E h=>by obtain⟨t,ups,lab,rfl,_⟩:=h;rfl) (λf cdv A outer s H vs Q E hr h=>?_)
 obtain⟨t,ups,lab,rfl,tr,q⟩:=h;refine⟨_,(AI (AS (BI rfl (Br (AH G_words_of hr rfl (AA (pv 0) AB))) (NL:=["word"]) (ix:=[]) (J1 (AJ s_ways_down) Fy) (λcl C s₃ H₃ fp pins=>⟨(AW (i:=0) (show List.Nodup (["word"]:List Str)from by decide+kernel) rfl (by first|exact Or.inl rfl|exact Or.inr rfl)),A3,(SF (pv 0) (Ba (Cq Bz AF)))⟩)))),?_⟩
 obtain⟨_,_,_,ok⟩:=id tr;have m60:=ok.most;have lpos:=ok.pos;have wl:(Bl ups lab ups.length).length=ups.length:=by simp[Bl]
 refine⟨_,rfl,t,ups,lab,rfl,tr,λr H1 s1 hr1=>?_⟩
 refine⟨r,rfl,⟨_,Ah.of hr1⟩,λacc hacc=>?_⟩
 refine CG (xs:=Bl ups lab ups.length) (by omega) (λi ys H'=>H' acc=some (.lst ys)/\ys=(Cg ups lab i).map V.str/\AG H1 H')
  (λi ys H' h=>Ah.of (h.2.2 _ _ hr1)) (λi ys H' h=>⟨h.1,by rw[h.2.1,List.length_map,Dw];exact Nat.le_refl _⟩) ⟨AD,rfl,(AG.refl H1).new hacc⟩ ?_ ?_
 ·rintro ys H2 ⟨g1,rfl,g3⟩
  rw[wl]at g1;exact q acc H2 (s1.trans g3) (s1.free hacc) g1
 ·rintro i x ys H2 hx ⟨g1,rfl,g3⟩
  have hi:i < ups.length:=by
   have:=(List.getElem?_eq_some_iff.mp hx).1
   rw[wl]at this;exact this
  unfold Bl at hx;rw[List.getElem?_map,List.getElem?_range hi]at hx
  cases hx;have wle:=KL ok (i+1) i (by omega) (by omega)
  refine⟨rfl,?_⟩
  refine⟨_,rfl,_,rfl,_,rfl,rfl,_,rfl,?_,g1,AD,?_,g3.write hacc⟩
  ·rw[Fb];exact Nat.le_of_lt (AK (by omega))
  ·rw[Gp,Qi]
theorem Bj (z:Str):z.cps.toList.length=z.length:=by simp[Str.length]
theorem IS (z:Str):CT z none (some (-1))=front z:=by
 apply KU;unfold CT front;have hl:z.length=z.cps.toList.length:=(Bj z).symm;show((z.cps.toList.drop (HT.As z.length 0 none)).take (HT.As z.length z.length (some (-1)) - HT.As z.length 0 none))=z.cps.toList.dropLast
 have e:HT.As z.length z.length (some (-1))=z.cps.toList.length - 1:=by
  show(if(-1:Int) < 0 then((-1:Int)+(z.length:Int)).toNat else min (-1:Int).toNat z.length)=_
  rw[if_pos (by decide),hl];omega
 rw[HT.DT,e,List.drop_zero,Nat.sub_zero,List.dropLast_eq_take]
def MZ (z:Str):Str:=⟨#[z.cps.toList.getLastD 0]⟩
theorem Ma {z:Str}(h:z.cps.toList≠[]):Du z.cps.toList (-1)=some (z.cps.toList.getLastD 0):=by
 have lp:=List.length_pos_iff.mpr h;unfold Du RP;rw[if_neg (by decide),if_pos (by omega)]
 show z.cps.toList[(-1+(z.cps.toList.length:Int)).toNat]?=_;rw[show(-1+(z.cps.toList.length:Int)).toNat=z.cps.toList.length - 1 by omega,List.getElem?_eq_getElem (by omega),List.getLastD_eq_getLast?,List.getLast?_eq_some_getLast h,List.getLast_eq_getElem]
 rfl
def FH (us:List Str):Str:=Txt.join (Str.ofString "") (us.map MZ)
theorem CA (us:List Str):(FH us).cps.toList=EJ us:=by
 unfold FH EJ;rw[O5,List.map_map]
 induction us with
 |nil=>rfl
 |cons a r ih=>rw[List.map_cons,List.flatten_cons,ih];rfl
theorem Gq:∀us:List Str,((us.map MZ).map (·.length)).sum=us.length
 |[]=>rfl
 |a::r=>by
  rw[List.map_cons,List.map_cons,List.sum_cons,Gq r,List.length_cons];show 1+_=_;omega
def JK:Sp:=λvs H Q _=>∃(l:Addr) (us:List Str),vs=[.ref l]/\H l=some (.lst (us.map V.str))/\us.Nodup/\us.length<=60/\∀(d:Addr) (H':Hp),AG H H'->H d=none->H' d=some (.dK (Fc 0 us))->Q (.ref d) H'
theorem O7 (D:Df K mg "numbers_by" s_numbers_by)(B:B6 mg):BO P w K mg base "numbers_by" (k+1) ["ways"] JK:=by
 refine D.has Hi (λ_ _ _ _ _ _ us hl=>match us,hl with|[_],_=>rfl) (λvs H Q E h=>by obtain⟨l,us,rfl,_⟩:=h;rfl) (λf cdv A outer s H vs Q E hr h=>?_)
 obtain⟨l,us,rfl,hl,nd,u60,q⟩:=h;refine⟨_,(AI (AS (Af (Hf rfl) rfl B.dict_ Qf (AA (BI rfl (Iu rfl B.enumerate (AA (pv 0) AB)) (NL:=["number","way"]) (ix:=[]) (J1 (AJ s_numbers_by) E4) (λcl C s₃ H₃ fp pins=>⟨(MM K (n:=2) rfl (Bc (AW (i:=0) (show List.Nodup (["number","way"]:List Str)from by decide+kernel) rfl (by first|exact Or.inl rfl|exact Or.inr rfl)) (Bc (AW (i:=1) (show List.Nodup (["number","way"]:List Str)from by decide+kernel) rfl (by first|exact Or.inl rfl|exact Or.inr rfl)) Em))),A3,(An (AA (pv 1) (AA (pv 0) AB)))⟩)) AB)))),?_⟩
 refine⟨_,rfl,.lst l,rfl,⟨_,.inl hl⟩,λacc hacc=>?_⟩
 refine ID (xs:=us.map V.str) (by rw[List.length_map];omega) (λi ys H2=>H2 acc=some (.lst ys)/\(∃as:List Addr,ys=as.map V.ref/\as.length=i/\∀(j:Nat) a,as[j]?=some a->H2 a=some (.tup [.str (us.getD j Str.empty),.int (j:Int)]))/\AG H H2)
  (λi ys H2 h=>.inl (h.2.2 _ _ hl)) (λi ys H2 h=>⟨h.1,by obtain⟨as,e,e2,_⟩:=h.2.1;rw[e,List.length_map];omega⟩) ⟨AD,⟨[],rfl,rfl,λj a e=>by simp at e⟩,(AG.refl H).new hacc⟩ ?_ ?_
 ·rintro ys H2 ⟨g1,⟨as,rfl,la,ha⟩,g3⟩
  rw[List.length_map]at la;refine⟨acc,as,Fc 0 us,rfl,g1,by rw[KY];exact la,λj a kk v e1 e2=>?_,?_,by omega,λd hd=>?_⟩
  ·obtain⟨z,ez,rfl,rfl⟩:=KZ us 0 j e2
   rw[ha j a e1,List.getD_eq_getElem?_getD,ez,Nat.zero_add];rfl
  ·rw[IQ]
   unfold List.Nodup;rw[List.pairwise_map];exact nd.imp λh e=>h (by injection e)
  ·exact q d _ (g3.new hd) (g3.free hd) AD
 ·rintro i x ys H2 pp hx ⟨g1,⟨as,rfl,la,ha⟩,g3⟩ hpp
  rw[List.getElem?_map]at hx
  cases e1:us[i]? with
  |none=>rw[e1]at hx;cases hx
  |some z=>
   rw[e1]at hx;cases hx;have ez:us.getD i Str.empty=z:=by rw[List.getD_eq_getElem?_getD,e1];rfl
   have sP:AG H2 (upd H2 pp (.tup [.int (i:Int),.str z])):=(AG.refl H2).new hpp;refine⟨pp,_,rfl,BM.of AD,rfl,_,_,rfl,_,_,rfl,rfl,?_⟩
   refine⟨rfl,?_⟩
   generalize upd H2 pp (.tup [.int (i:Int),.str z])=H3 at sP;refine⟨_,rfl,_,rfl,(by show 2<=sizeLine;decide),λt ht=>?_⟩
   have sT:AG H3 (upd H3 t (.tup [.str z,.int (i:Int)])):=(AG.refl H3).new ht;have hT:upd H3 t (.tup [.str z,.int (i:Int)]) t=some (.tup [.str z,.int (i:Int)]):=AD;generalize upd H3 t (.tup [.str z,.int (i:Int)])=H4 at sT hT;have s24:=sP.trans sT;have ga:=s24 _ _ g1;refine⟨ga,AD,⟨as++[t],by rw[List.map_append];rfl,by rw[List.length_append,la];rfl,λj a e=>?_⟩,(g3.trans s24).write hacc⟩
   have key:H4 a=some (.tup [.str (us.getD j Str.empty),.int (j:Int)]):=by
    rcases Nat.lt_or_ge j as.length with h|h
    ·rw[List.getElem?_append_left h]at e
     exact s24 _ _ (ha j a e)
    ·rw[List.getElem?_append_right h]at e
     have ej:j=i:=by
      have:=(List.getElem?_eq_some_iff.mp e).1
      simp at this;omega
     subst ej;rw[la,Nat.sub_self]at e;have ea:t=a:=by simpa using e
     subst ea;rw[hT,ez]
   rw[AO (Jq key ga (by intro z;cases z))];exact key
def SW (us:List Str)(b:Str):V:=if us.idxOf b < us.length then .int ((us.idxOf b:Nat):Int)else .BK
def Gr (us ws:List Str):List V:=ws.map (SW us)
def IT:Sp:=λvs H Q _=>∃(l m:Addr) (us ws:List Str),vs=[.ref l,.ref m]/\H l=some (.lst (us.map V.str))/\H m=some (.lst (ws.map V.str))/\us.Nodup/\us.length<=60/\ws.length<=60/\
 ∀(r:Addr) (H':Hp),AG H H'->H r=none->H' r=some (.lst (Gr us ws))->Q (.ref r) H'
theorem Lg (D:Df K mg "places_by" s_places_by)(B:B6 mg)(G_numbers_by:BO P w K mg base "numbers_by" k ["ways"] JK):BO P w K mg base "places_by" (k+1) ["known_ways","ways"] IT:=by
 refine D.has E3 (λ_ _ _ _ _ _ us hl=>match us,hl with|[_,_],_=>rfl) (λvs H Q E h=>by obtain⟨l,m,us,ws,rfl,_⟩:=h;rfl) (λf cdv A outer s H vs Q E hr h=>?_)
 obtain⟨l,m,us,ws,rfl,hl,hm,nd,u60,w60,q⟩:=h;refine⟨_,(AE (AM (i:=2) E3.nd rfl (by first|exact Or.inl rfl|exact Or.inr rfl) (AH G_numbers_by hr rfl (AA (pv 0) AB)))
 (AI (AS (BI rfl (Br (pv 1)) (NL:=["way"]) (ix:=[2]) (J1 (AJ s_places_by) Fz) (λcl C s₃ H₃ fp pins=>⟨(AW (i:=0) (show List.Nodup (["way","known"]:List Str)from by decide+kernel) rfl (by first|exact Or.inl rfl|exact Or.inr rfl)),A3,(Ov (OY hr) (pv 1) (pv 0) ⟨rfl,rfl,rfl,rfl⟩)⟩))))),?_⟩
 refine⟨_,rfl,l,us,rfl,hl,nd,u60,λd H1 s1 hf1 hd1=>?_⟩
 have hm1:=s1 _ _ hm;refine⟨_,rfl,m,rfl,⟨_,Ah.of hm1⟩,λacc hacc=>?_⟩
 have cvl:(ws.map V.str).length=ws.length:=List.length_map _
 refine CG (xs:=ws.map V.str) (by omega) (λi ys H2=>H2 acc=some (.lst ys)/\ys=Gr us (ws.take i)/\AG H1 H2)
  (λi ys H2 h=>Ah.of (h.2.2 _ _ hm1)) (λi ys H2 h=>⟨h.1,by rw[h.2.1,Gr,List.length_map,List.length_take];exact Nat.min_le_left _ _⟩) ⟨AD,rfl,(AG.refl H1).new hacc⟩ ?_ ?_
 ·rintro ys H2 ⟨g1,rfl,g3⟩
  rw[cvl,List.take_length]at g1;exact q acc H2 (s1.trans g3) (s1.free hacc) g1
 ·rintro i x ys H2 hx ⟨g1,rfl,g3⟩
  rw[List.getElem?_map]at hx
  cases e1:ws[i]? with
  |none=>rw[e1]at hx;cases hx
  |some z=>
   rw[e1]at hx;cases hx;have hd2:=g3 _ _ hd1;have dv:=Gn z us 0;rw[Nat.zero_add]at dv;have dg:=KD.k (k:=Sum.inr z) hd2;rw[dv]at dg;refine⟨rfl,_,rfl,d,rfl,.inl ⟨_,.inl hd2⟩,_,rfl,_,dg,g1,AD,?_,g3.write hacc⟩
   have ev:(if us.idxOf z < us.length then some (V.int ((us.idxOf z:Nat):Int))else none).getD .BK=SW us z:=by unfold SW;split<;>rfl
   rw[ev,List.take_succ,e1,Gr,Gr,List.map_append];rfl
def IU:Sp:=λvs H Q _=>∃(l:Addr) (us:List Str),vs=[.ref l]/\H l=some (.lst (us.map V.str))/\us.Nodup/\us.length<=60/\(∀z∈us,z.cps.toList≠[]/\z.length<=60)/\
 ∀(t u:Addr) (H':Hp),AG H H'->H t=none->H' t=some (.tup [.ref u,.str (FH us)])->H' u=some (.tup ((Az us).map V.int))->Q (.ref t) H'
theorem Lh (D:Df K mg "trie_by" s_trie_by)(B:B6 mg)(G_numbers_by:BO P w K mg base "numbers_by" k ["ways"] JK):BO P w K mg base "trie_by" (k+1) ["ways"] IU:=by
 refine D.has EZ (λ_ _ _ _ _ _ us hl=>match us,hl with|[_],_=>rfl) (λvs H Q E h=>by obtain⟨l,us,rfl,_⟩:=h;rfl) (λf cdv A outer s H vs Q E hr h=>?_)
 obtain⟨l,us,rfl,hl,nd,u60,ne,q⟩:=h;refine⟨_,(AE (AM (i:=1) EZ.nd rfl (by first|exact Or.inl rfl|exact Or.inr rfl) (AH G_numbers_by hr rfl (AA (pv 0) AB)))
 (AE (MK (i:=2) EZ.nd rfl (by first|exact Or.inl rfl|exact Or.inr rfl) rfl (Br (pv 0)) (NL:=["way"]) (ix:=[1]) (J1 (AJ s_trie_by) FZ) (λcl C s₃ H₃ fp pins=>⟨(AW (i:=0) (show List.Nodup (["way","known"]:List Str)from by decide+kernel) rfl (by first|exact Or.inl rfl|exact Or.inr rfl)),A3,(Ow (OY hr) (pv 1) (BN EV (pv 0) Bg (Ba (Cq Bz AF))) (Cq Bz AF) ⟨rfl,rfl,rfl,rfl⟩)⟩))
 (AI (AS (An (AA (Af B8 rfl B.tuple_ CU (AA (pv 2) AB)) (AA (Cu PySem.F.plainAttrs_str PySem.F.slot_str_join PySem.F.type_str_join MN Aq (AA (BI rfl (Br (pv 0)) (NL:=["way"]) (ix:=[]) (J1 (AJ s_trie_by) FZ) (λcl C s₃ H₃ fp pins=>⟨(AW (i:=0) (show List.Nodup (["way"]:List Str)from by decide+kernel) rfl (by first|exact Or.inl rfl|exact Or.inr rfl)),A3,(AU Cn (pv 0) (Cq Bz AF) (λ_ _=>rfl))⟩)) AB)) AB))))))),?_⟩
 refine⟨_,rfl,l,us,rfl,hl,nd,u60,λd H1 s1 hf1 hd1=>?_⟩
 have hl1:=s1 _ _ hl;refine⟨_,rfl,l,rfl,⟨_,Ah.of hl1⟩,λacc hacc=>?_⟩
 have cvl:(us.map V.str).length=us.length:=List.length_map _
 refine CG (xs:=us.map V.str) (by omega) (λi ys H2=>H2 acc=some (.lst ys)/\ys=((us.take i).map (CL us)).map V.int/\AG H1 H2)
  (λi ys H2 h=>Ah.of (h.2.2 _ _ hl1)) (λi ys H2 h=>⟨h.1,by rw[h.2.1,List.length_map,List.length_map,List.length_take];exact Nat.min_le_left _ _⟩) ⟨AD,rfl,(AG.refl H1).new hacc⟩ ?_ ?_
 rotate_left
 ·rintro i x ys H2 hx ⟨g1,rfl,g3⟩
  rw[List.getElem?_map]at hx
  cases e1:us[i]? with
  |none=>rw[e1]at hx;cases hx
  |some z=>
   rw[e1]at hx;cases hx;have zn:=ne z (List.mem_of_getElem? e1);have hd2:=g3 _ _ hd1;have dv:=Gn (front z) us 0;rw[Nat.zero_add]at dv;refine⟨rfl,_,rfl,d,rfl,.inl ⟨_,.inl hd2⟩,_,rfl,_,rfl,_,rfl,z,rfl,Nat.le_of_lt (AK (by omega)),?_⟩
   rw[IS];refine⟨_,rfl,_,KD.k (k:=Sum.inr (front z)) hd2,?_⟩
   rw[dv]
   have ev:(if us.idxOf (front z) < us.length then some (V.int ((us.idxOf (front z):Nat):Int))else none).getD (.int (-1))=.int (CL us z):=by
    unfold CL;split<;>rfl
   rw[ev];refine⟨g1,AD,?_,g3.write hacc⟩
   rw[List.take_succ,e1,List.map_append,List.map_append];rfl
 rintro ys H2 ⟨g1,rfl,g3⟩;rw[cvl,List.take_length]at g1;refine⟨_,rfl,acc,_,rfl,.inl ⟨Ah.of g1,λu hu=>?_⟩⟩
 have s3:AG H2 (upd H2 u (.tup ((us.map (CL us)).map V.int))):=(AG.refl H2).new hu;have h3:upd H2 u (.tup ((us.map (CL us)).map V.int)) u=some (.tup ((Az us).map V.int)):=AD;generalize upd H2 u (.tup ((us.map (CL us)).map V.int))=H3 at s3 h3;have s13:=g3.trans s3;have hl3:=s13 _ _ hl1;refine⟨rfl,?_⟩
 refine⟨_,rfl,l,rfl,⟨_,Ah.of hl3⟩,λac2 hac2=>?_⟩
 refine CG (xs:=us.map V.str) (by omega) (λi ys H4=>H4 ac2=some (.lst ys)/\ys=((us.take i).map MZ).map V.str/\AG H3 H4)
  (λi ys H4 h=>Ah.of (h.2.2 _ _ hl3)) (λi ys H4 h=>⟨h.1,by rw[h.2.1,List.length_map,List.length_map,List.length_take];exact Nat.min_le_left _ _⟩) ⟨AD,rfl,(AG.refl H3).new hac2⟩ ?_ ?_
 rotate_left
 ·rintro i x ys H4 hx ⟨g1,rfl,g3⟩
  rw[List.getElem?_map]at hx
  cases e1:us[i]? with
  |none=>rw[e1]at hx;cases hx
  |some z=>
   rw[e1]at hx;cases hx;have zn:=ne z (List.mem_of_getElem? e1);refine⟨rfl,_,rfl,_,rfl,z,_,_,rfl,rfl,Nat.le_of_lt (AK (by omega)),Ma zn.1,g1,AD,?_,g3.write hac2⟩
   rw[List.take_succ,e1,List.map_append,List.map_append];rfl
 rintro ys H4 ⟨g4,rfl,s4⟩;rw[cvl,List.take_length]at g4;refine⟨_,ac2,_,rfl,rfl,Ah.of g4,?_,(by show 2<=sizeLine;decide),λt ht=>?_⟩
 ·have e0:(Str.ofString "").length=0:=rfl
  rw[Gq,e0];omega
 ·have sA:=(s1.trans s13).trans s4
  exact q t u _ (sA.new ht) (sA.free ht) AD (((AG.refl H4).new ht) _ _ (s4 _ _ h3))
end
end S58
namespace S58
open PySem L2 W7 W55
section
variable {P:Program}{w:World}{K:PySem.W.Frag}{mg:Str->Option Value}{base:Heap}{k:Nat}
abbrev Qj (ups:List Int)(lab:Str):List Str:=Cg ups lab ups.length
theorem Mb {ups:List Int}{lab:Str}(ok:Al ups lab.cps.toList):∀z∈Qj ups lab,z.cps.toList≠[]/\z.length<=60:=λz hz=>by
 obtain⟨j,hj,rfl⟩:=List.mem_map.mp hz;have hj':=List.mem_range.mp hj;have wl:=KL ok (j+1) j (by omega) hj'
 have m:=ok.most;refine⟨?_,by rw[Fb,List.length_reverse];omega⟩
 rw[BQ,KJ ok hj'];simp
theorem SX {us ws:List Str}(uq:Uq us ws):us.length<=ws.length:=uq.nd.length_le_of_subset λx hx=>(uq.mem x).mp hx
end
end S58
namespace S58
open PySem L2 W7 W55
section
variable {P:Program}{w:World}{K:PySem.W.Frag}{mg:Str->Option Value}{base:Heap}{k:Nat}
theorem Li {ups:List Int}{lab:Str}(ok:Al ups lab.cps.toList){j:Nat}(hj:j < ups.length):
 (W ups lab.cps.toList j).reverse=(if ups.getD j 0 < 0 then[]else(W ups lab.cps.toList (ups.getD j 0).toNat).reverse)++[lab.cps.toList.getD j 0]:=by
 rw[KJ ok hj,List.reverse_cons]
 split<;>rfl
def Kc:Sp:=FA
theorem Nm (D:Df K mg "_law_ways" s_law_ways)(B:B6 mg):BO P w K mg base "_law_ways" (k+1) ["tree"] Kc:=by
 refine D.has Bo (λ_ _ _ _ _ _ us hl=>match us,hl with|[_],_=>rfl) (λvs H Q E h=>by obtain⟨t,ups,lab,rfl,_⟩:=h;rfl) (λf cdv A outer s H vs Q E hr h=>?_)
 obtain⟨t,ups,lab,rfl,tr,q⟩:=h;refine⟨_,(AE (AM (i:=1) Bo.nd rfl (by first|exact Or.inl rfl|exact Or.inr rfl) (Ar AB))
 (AE (Bs PassesOwn.never rfl (Iu rfl B.enumerate (AA (AU Aj (pv 0) AF (λ_ _=>rfl)) AB)) (Im rfl (Bc (AW (i:=2) Bo.nd rfl (by first|exact Or.inl rfl|exact Or.inr rfl)) (Bc (AW (i:=3) Bo.nd rfl (by first|exact Or.inl rfl|exact Or.inr rfl)) Em)))
 (AE (AM (i:=4) Bo.nd rfl (by first|exact Or.inl rfl|exact Or.inr rfl) Aq)
 (AE (A9 (Aa RM (pv 3) AF (Ae _))
 (AI (AM (i:=4) Bo.nd rfl (by first|exact Or.inl rfl|exact Or.inr rfl) (AU Av (pv 1) (pv 3) (λ_ _=>rfl))))
 Ad)
 (AI (BZ (Cu PySem.F.plainAttrs_list PySem.F.slot_list_append PySem.F.type_list_append B1 (pv 1) (AA (AR Ax (pv 4) (AU Cn (AU Aj (pv 0) AF (λ_ _=>rfl)) (pv 2) (λ_ _=>rfl))) AB)))))))
 (AI (AS (pv 1))))),?_⟩
 obtain⟨u,ht,hu,ok⟩:=id tr;have m60:=ok.most;have hlab:lab.length=ups.length:=by rw[ok.len];simp[Str.length]
 refine⟨(by show 0<=sizeLine;decide),λr hr0=>?_⟩
 have s0:AG H (upd H r (.lst [])):=(AG.refl H).new hr0;have h0:upd H r (.lst []) r=some (.lst []):=AD;generalize upd H r (.lst [])=H0 at s0 h0;refine⟨_,rfl,t,_,_,_,rfl,rfl,BM.of (s0 _ _ ht),rfl,.tup u,rfl,⟨_,.inl (s0 _ _ hu)⟩,?_⟩
 refine Od (xs:=ups.map V.int) (λi σ H'=>∃o2 o3 o4:Option V,σ=[some (.ref t),some (.ref r),o2,o3,o4]/\AG H H'/\H' r=some (.lst ((Cg ups lab i).map V.str))) ⟨none,none,none,rfl,s0,h0⟩
  (λi σ H' hi h=>by obtain⟨_,_,_,_,s1,_⟩:=h;exact .inl (s1 _ _ hu)) ?_ ?_
 ·rintro i x σ H' p hx ⟨o2,o3,o4,rfl,s1,hr1⟩ hp
  rw[List.getElem?_map]at hx
  cases e1:ups[i]? with
  |none=>rw[e1]at hx;cases hx
  |some v=>
   rw[e1]at hx;cases hx;have hi:i < ups.length:=(List.getElem?_eq_some_iff.mp e1).1
   have ev:ups.getD i 0=v:=by rw[List.getD_eq_getElem?_getD,e1];rfl
   have we:=Li ok hi;rw[ev]at we;have i2:i < lab.cps.toList.length:=by rw[<-ok.len];exact hi
   have ac:Du lab.cps.toList (i:Int)=some (lab.cps.toList.getD i 0):=BH (by rw[List.getD_eq_getElem?_getD,List.getElem?_eq_getElem i2];rfl)
   have sP:AG H' (upd H' p (.tup [.int (i:Int),.int v])):=(AG.refl H').new hp;refine⟨p,_,rfl,BM.of AD,rfl,_,_,rfl,_,_,rfl,rfl,?_⟩
   generalize upd H' p (.tup [.int (i:Int),.int v])=HP at sP;have hrP:=sP _ _ hr1;have htP:=sP _ _ (s1 _ _ ht);have wlen:=Dw ups lab i;have step:=Gp ups lab i
   have fin:∀al:List Nat,al.length<=60->al++[lab.cps.toList.getD i 0]=(W ups lab.cps.toList i).reverse->mk al++(⟨#[lab.cps.toList.getD i 0]⟩:Str)=mk (W ups lab.cps.toList i).reverse:=λal _ e=>by
    apply Cf;rw[app_list,BQ,BQ,<-e]
   refine⟨_,rfl,_,_,rfl,rfl,_,rfl,CZ (λcnd=>?_) (λcnd=>?_)⟩
   ·have c':(0:Int)<=v:=of_decide_eq_true cnd
    have lt:=ok.lt hi (by rw[ev];omega)
    rw[ev]at lt
    have hat:Du ((Cg ups lab i).map V.str) v=some (.str (mk (W ups lab.cps.toList v.toNat).reverse)):=by
     have e:=BH (xs:=(Cg ups lab i).map V.str) (j:=v.toNat) (v:=.str (mk (W ups lab.cps.toList v.toNat).reverse)) (by unfold Cg;rw[List.getElem?_map,List.getElem?_map,List.getElem?_range lt];rfl)
     rw[show((v.toNat:Nat):Int)=v by omega]at e
     exact e
    have wl:=KL ok (v.toNat+1) v.toNat (by omega) (by omega)
    have e2:=fin (W ups lab.cps.toList v.toNat).reverse (by rw[List.length_reverse];omega) (by rw[we,if_neg (by omega)])
    refine⟨_,rfl,_,rfl,r,_,_,_,rfl,rfl,Ah.of hrP,hat,?_⟩
    refine⟨_,rfl,.inl ⟨rfl,_,Ah.of hrP⟩,_,rfl,_,rfl,t,_,_,_,rfl,rfl,BM.of htP,rfl,_,rfl,lab,_,_,rfl,rfl,by rw[hlab];exact Nat.le_of_lt (AK (by omega)),ac,_,_,rfl,rfl,?_,r,_,_,rfl,rfl,hrP,by rw[List.length_map,wlen];exact AK (by omega),_,_,_,rfl,(s1.trans sP).write hr0,?_⟩
    ·rw[Fb,List.length_reverse]
     show _+1<=sizeLine;exact Nat.le_of_lt (AK (by omega))
    ·rw[AD,e2,step]
   ·have c':¬(0:Int)<=v:=of_decide_eq_false (Bool.eq_false_iff.mpr cnd)
    have e2:=fin [] (by simp) (by rw[we,if_pos (by omega)])
    refine⟨_,rfl,.inl ⟨rfl,_,Ah.of hrP⟩,_,rfl,_,rfl,t,_,_,_,rfl,rfl,BM.of htP,rfl,_,rfl,lab,_,_,rfl,rfl,by rw[hlab];exact Nat.le_of_lt (AK (by omega)),ac,_,_,rfl,rfl,?_,r,_,_,rfl,rfl,hrP,by rw[List.length_map,wlen];exact AK (by omega),_,_,_,rfl,(s1.trans sP).write hr0,?_⟩
    ·show 0+1<=sizeLine;decide
    ·rw[AD,step,<-e2];rfl
 ·rintro σ H' ⟨o2,o3,o4,rfl,s1,hr1⟩
  rw[List.length_map]at hr1;exact⟨_,rfl,q r H' s1 hr0 hr1⟩
end
end S58
namespace S58
open PySem L2 W7 W55
section
variable {P:Program}{w:World}{K:PySem.W.Frag}{mg:Str->Option Value}{base:Heap}{k:Nat}
theorem Gu {ups:List Int}{lab:Str}(ok:Al ups lab.cps.toList):∀(n j:Nat),j < n->j < ups.length->(W ups lab.cps.toList j).reverse.head?=some (lab.cps.toList.getD 0 0)
 |0,j,h,_=>absurd h (Nat.not_lt_zero _)
 |n+1,j,h,hj=>by
  rw[Li ok hj]
  split
  ·rename_i hn
   have:j=0:=by
    rcases Nat.eq_zero_or_pos j with z|z
    ·exact z
    ·have:=ok.up j z hj;omega
   subst this;rfl
  ·rename_i hn
   have lt:=ok.lt hj hn;have ih:=Gu ok n (ups.getD j 0).toNat (by omega) (by omega)
   rw[List.head?_append,ih];rfl
theorem Qk {ups:List Int}{lab:Str}(ok:Al ups lab.cps.toList):Cl (Qj ups lab):=by
 refine⟨λz hz=>(Mb ok z hz).1,λz hz l=>?_,lab.cps.toList.getD 0 0,λz hz=>?_⟩
 ·obtain⟨j,hj,rfl⟩:=List.mem_map.mp hz
  have hj':=List.mem_range.mp hj;have e:=Li ok hj';rw[BQ]at l
  have hn:¬ups.getD j 0 < 0:=λhn=>by
   rw[if_pos hn]at e;rw[e]at l;simp at l
  rw[if_neg hn]at e;have lt:=ok.lt hj' hn;refine List.mem_map.mpr ⟨(ups.getD j 0).toNat,List.mem_range.mpr (by omega),?_⟩
  apply Cf;show _=(W ups lab.cps.toList j).reverse.dropLast;rw[e,List.dropLast_concat];rfl
 ·obtain⟨j,hj,rfl⟩:=List.mem_map.mp hz
  exact Gu ok (j+1) j (by omega) (List.mem_range.mp hj)
theorem strict {us:List Str}(srt:PyProof.Rows.sortedS us=true)(nd:us.Nodup):us.Pairwise (λa b=>a.cps.toList < b.cps.toList):=by
 have h1:=Ka us srt;rw[List.pairwise_iff_getElem]at h1 ⊢;intro i j hi hj hij;have a:=h1 i j hi hj hij;have b:=List.pairwise_iff_getElem.mp nd i j hi hj hij
 by_cases c:us[i].cps.toList < us[j].cps.toList
 ·exact c
 ·exact absurd (Cf (Nl _ _ a c)) b
theorem O8 {us:List Str}(cl:Cl us){z:Str}(h:z.cps.toList.length<=1):CL us z=-1:=by
 unfold CL;rw[if_neg (KW cl h)]
theorem Ql {us:List Str}{z:Str}(h:front z∈us):CL us z=((us.idxOf (front z):Nat):Int):=by
 unfold CL;rw[if_pos (List.idxOf_lt_length_of_mem h)]
def Kd:Sp:=λvs H Q _=>∃(l:Addr) (ws:List Str),vs=[.ref l]/\H l=some (.lst (ws.map V.str))/\ws.length<=60/\Cl ws/\(∀z∈ws,z.length<=60)/\
 ∀(us:List Str) (t u:Addr) (H':Hp),Uq us ws->AG H H'->H t=none->H' t=some (.tup [.ref u,.str (FH us)])->H' u=some (.tup ((Az us).map V.int))->Q (.ref t) H'
theorem Nn (D:Df K mg "_law_trie" s_law_trie)(B:B6 mg):BO P w K mg base "_law_trie" (k+1) ["ways"] Kd:=by
 refine D.has Bp (λ_ _ _ _ _ _ us hl=>match us,hl with|[_],_=>rfl) (λvs H Q E h=>by obtain⟨l,ws,rfl,_⟩:=h;rfl) (λf cdv A outer s H vs Q E hr h=>?_)
 obtain⟨l,ws,rfl,hl,w60,cw,wle,q⟩:=h;refine⟨_,(AE (AM (i:=1) Bp.nd rfl (by first|exact Or.inl rfl|exact Or.inr rfl) (GZ K rfl rfl B.sorted rfl B.set_ (AA (pv 0) AB)))
 (AE (AM (i:=2) Bp.nd rfl (by first|exact Or.inl rfl|exact Or.inr rfl) (Ar AB))
 (AE (Bs PassesOwn.never rfl (Br (pv 1)) (AW (i:=3) Bp.nd rfl (by first|exact Or.inl rfl|exact Or.inr rfl))
 (AE (AM (i:=4) Bp.nd rfl (by first|exact Or.inl rfl|exact Or.inr rfl) (Cq Bz AF))
 (AE (A9 (Aa Hv (AN Bb rfl B.len A6 (AA (pv 3) AB)) AF (Ae _))
 (AI (AM (i:=4) Bp.nd rfl (by first|exact Or.inl rfl|exact Or.inr rfl) (Na K (pv 1) (BN EV (pv 3) Bg (Ba (Cq Bz AF))))))
 Ad)
 (AI (BZ (Cu PySem.F.plainAttrs_list PySem.F.slot_list_append PySem.F.type_list_append B1 (pv 2) (AA (pv 4) AB)))))))
 (AI (AS (An (AA (Af B8 rfl B.tuple_ CU (AA (pv 2) AB)) (AA (Cu PySem.F.plainAttrs_str PySem.F.slot_str_join PySem.F.type_str_join MN Aq (AA (BI rfl (Br (pv 1)) (NL:=["way"]) (ix:=[]) (J1 (AJ s_law_trie) Gh) (λcl C s₃ H₃ fp pins=>⟨(AW (i:=0) (show List.Nodup (["way"]:List Str)from by decide+kernel) rfl (by first|exact Or.inl rfl|exact Or.inr rfl)),A3,(AU Cn (pv 0) (Cq Bz AF) (λ_ _=>rfl))⟩)) AB)) AB)))))))),?_⟩
 refine⟨_,rfl,l,ws,rfl,Ah.of hl,by omega,λus r2 nd mem srt len hr2=>?_⟩
 have uq:Uq us ws:=⟨nd,mem,srt⟩;have ul:=SX uq;have cl:=cw.perm mem;have s2:AG H (upd H r2 (.lst (us.map V.str))):=(AG.refl H).new hr2;have h2:upd H r2 (.lst (us.map V.str)) r2=some (.lst (us.map V.str)):=AD;generalize upd H r2 (.lst (us.map V.str))=H2 at s2 h2;refine⟨(by show 0<=sizeLine;decide),λr3 hr3=>?_⟩
 have s3:AG H2 (upd H2 r3 (.lst [])):=(AG.refl H2).new hr3;have h3:upd H2 r3 (.lst []) r3=some (.lst []):=AD;generalize upd H2 r3 (.lst [])=H3 at s3 h3;have h23:=s3 _ _ h2;have cvl:(us.map V.str).length=us.length:=List.length_map _;refine⟨_,rfl,r2,rfl,⟨_,Ah.of h23⟩,?_⟩
 refine GP (xs:=us.map V.str) (λi σ H'=>∃o3 o4:Option V,σ=[some (.ref l),some (.ref r2),some (.ref r3),o3,o4]/\AG H2 H'/\H' r3=some (.lst (((us.take i).map (CL us)).map V.int))) ⟨none,none,rfl,s3,h3⟩
  (λi σ H' _ h=>by obtain⟨_,_,_,sX,_⟩:=h;exact Ah.of (sX _ _ h2)) ?_ ?_
 ·rintro i x σ H' hx ⟨o3,o4,rfl,sX,hX⟩
  rw[List.getElem?_map]at hx
  cases e1:us[i]? with
  |none=>rw[e1]at hx;cases hx
  |some z=>
   rw[e1]at hx;cases hx;have zm:=List.mem_of_getElem? e1;have zl:=wle z ((mem z).mp zm);have sz:z.length<=sizeLine:=Nat.le_of_lt (AK (by omega))
   have hi:i < us.length:=(List.getElem?_eq_some_iff.mp e1).1
   have hl3:(((us.take i).map (CL us)).map V.int).length < sizeLine:=by rw[List.length_map,List.length_map,List.length_take];exact AK (by omega)
   have st:((us.take (i+1)).map (CL us)).map V.int=((us.take i).map (CL us)).map V.int++[.int (CL us z)]:=by rw[List.take_succ,e1,List.map_append,List.map_append];rfl
   have hX2:=sX _ _ h2;refine⟨_,rfl,_,rfl,z,rfl,sz,_,_,rfl,rfl,_,rfl,CZ (λcnd=>?_) (λcnd=>?_)⟩
   ·have c':(1:Int) < (z.length:Int):=of_decide_eq_true cnd
    have fm:=cl.fr z zm (by rw[Bj];omega)
    refine⟨_,rfl,.inl ⟨rfl,_,Ah.of hX2⟩,_,rfl,_,rfl,_,rfl,z,rfl,sz,?_⟩
    rw[IS];refine⟨r2,us,_,rfl,rfl,hX2,fm,by omega,?_⟩
    refine⟨_,rfl,.inl ⟨rfl,_,Ah.of hX⟩,_,rfl,r3,_,_,rfl,rfl,hX,hl3,_,_,rfl,sX.write hr3,?_⟩
    rw[AD,st,Ql fm]
   ·have c':¬(1:Int) < (z.length:Int):=of_decide_eq_false (Bool.eq_false_iff.mpr cnd)
    refine⟨_,rfl,.inl ⟨rfl,_,Ah.of hX⟩,_,rfl,r3,_,_,rfl,rfl,hX,hl3,_,_,rfl,sX.write hr3,?_⟩
    rw[AD,st,O8 cl (by rw[Bj];omega)]
 ·rintro σ H4 ⟨o3,o4,rfl,s4,h4⟩
  rw[cvl,List.take_length]at h4;refine⟨_,rfl,r3,_,rfl,.inl ⟨Ah.of h4,λu hu=>?_⟩⟩
  have s5:AG H4 (upd H4 u (.tup ((us.map (CL us)).map V.int))):=(AG.refl H4).new hu;have h5:upd H4 u (.tup ((us.map (CL us)).map V.int)) u=some (.tup ((Az us).map V.int)):=AD;generalize upd H4 u (.tup ((us.map (CL us)).map V.int))=H5 at s5 h5;have hr5:=s5 _ _ (s4 _ _ h2);refine⟨rfl,?_⟩
  refine⟨_,rfl,r2,rfl,⟨_,Ah.of hr5⟩,λac2 hac2=>?_⟩
  refine CG (xs:=us.map V.str) (by omega) (λi ys H6=>H6 ac2=some (.lst ys)/\ys=((us.take i).map MZ).map V.str/\AG H5 H6)
   (λi ys H6 h=>Ah.of (h.2.2 _ _ hr5)) (λi ys H6 h=>⟨h.1,by rw[h.2.1,List.length_map,List.length_map,List.length_take];exact Nat.min_le_left _ _⟩) ⟨AD,rfl,(AG.refl H5).new hac2⟩ ?_ ?_
  rotate_left
  ·rintro i x ys H6 hx ⟨g1,rfl,g3⟩
   rw[List.getElem?_map]at hx
   cases e1:us[i]? with
   |none=>rw[e1]at hx;cases hx
   |some z=>
    rw[e1]at hx;cases hx;have zm:=List.mem_of_getElem? e1;have zl:=wle z ((mem z).mp zm);refine⟨rfl,_,rfl,_,rfl,z,_,_,rfl,rfl,Nat.le_of_lt (AK (by omega)),Ma (cl.ne z zm),g1,AD,?_,g3.write hac2⟩
    rw[List.take_succ,e1,List.map_append,List.map_append];rfl
  rintro ys H6 ⟨g6,rfl,s6⟩;rw[cvl,List.take_length]at g6;refine⟨_,ac2,_,rfl,rfl,Ah.of g6,?_,(by show 2<=sizeLine;decide),λt ht=>?_⟩
  ·have e0:(Str.ofString "").length=0:=rfl
   rw[Gq,e0];omega
  ·have sA:=((s2.trans s4).trans s5).trans s6
   exact q us t u _ uq (sA.new ht) (sA.free ht) AD (((AG.refl H6).new ht) _ _ (s6 _ _ h5))
end
end S58
namespace Tim
open PySem PyProof.Rows
abbrev SM:=StateT SortSt Sem
def OB:Bool->Keyed->Array Keyed->Nat->Nat->Nat->SM (Option Nat):=sortPriv% PySem.Builtin.gallop
def Ve:Array Keyed->Array Keyed->SM (Array Keyed):=sortPriv% PySem.Builtin.mergeLo
def Vf:Array Keyed->Array Keyed->SM (Array Keyed):=sortPriv% PySem.Builtin.mergeHi
abbrev setG (st:SortSt)(g:Nat):SortSt:=SortSt.mk' (kindOf st) (arrOf st) (pendingOf st) g (failedOf st)
def Qm (left:Bool)(x:Keyed)(xs:Array Keyed)(b:Nat)(i:Nat):SM (Option Bool):=do
 let p<-elem' xs (b+i)
 if left then lt' p x else return(<-lt' x p).map (!·)
theorem SY (left:Bool)(x:Keyed)(xs:Array Keyed)(b n h:Nat):OB left x xs b n h=(do
 let mut la:=0
 let mut o:=1
 let mut l:=0
 let mut r:=0
 let some right<-Qm left x xs b h|return none
 if right then
  let mo:=n - h
  for _ in [0:n] do
   if o≥mo then break
   let some more<-Qm left x xs b (h+o)|return none
   if !more then break
   la:=o
   o:=2*o+1
  l:=h+la+1
  r:=h+min o mo
 else
  let mo:=h+1
  for _ in [0:n] do
   if o≥mo then break
   let some f<-Qm left x xs b (h - o)|return none
   if f then break
   la:=o
   o:=2*o+1
  l:=h+1 - min o mo
  r:=h - la
 for _ in [0:n] do
  if l≥r then break
  let m:=l+(r - l) / 2
  let some more<-Qm left x xs b m|return none
  if more then l:=m+1 else r:=m
 return some r):=rfl
def Np (g:Nat):SM Unit:=modify λs=>setG s g
theorem Sa (a b:Array Keyed):Ve a b=(do
 rule "list.sort.merge-lo"
 let tt:=a.size+b.size
 let dn (o:Array Keyed) (p q:Nat):=o++a.extract p a.size++b.extract q b.size
 let la (o:Array Keyed) (p q:Nat):=o++b.extract q b.size++a.extract p a.size
 let mut o:Array Keyed:=#[<-elem' b 0]
 let mut p:=0
 let mut q:=1
 if q==b.size then return dn o p q
 if p+1==a.size then return la o p q
 let mut g:=gallopOf (<-get)
 for _ in [0:tt] do
  let mut c:=0
  let mut d:=0
  for _ in [0:tt] do
   let some w<-lt' (<-elem' b q) (<-elem' a p)|return dn o p q
   if w then
    o:=o.push (<-elem' b q);q:=q+1;d:=d+1;c:=0
    if q==b.size then return dn o p q
    if d≥g then break
   else
    o:=o.push (<-elem' a p);p:=p+1;c:=c+1;d:=0
    if p+1==a.size then return la o p q
    if c≥g then break
  rule "list.sort.gallop"
  g:=g+1
  for _ in [0:tt] do
   if g > 1 then g:=g - 1
   Np g
   let some k<-OB false (<-elem' b q) a p (a.size - p) 0|return dn o p q
   c:=k
   if k > 0 then
    o:=o++a.extract p (p+k);p:=p+k
    if p+1==a.size then return la o p q
    if p==a.size then return dn o p q
   o:=o.push (<-elem' b q);q:=q+1
   if q==b.size then return dn o p q
   let some k<-OB true (<-elem' a p) b q (b.size - q) 0|return dn o p q
   d:=k
   if k > 0 then
    o:=o++b.extract q (q+k);q:=q+k
    if q==b.size then return dn o p q
   o:=o.push (<-elem' a p);p:=p+1
   if p+1==a.size then return la o p q
   if c < 7&&d < 7 then break
  g:=g+1
  Np g
 unsupported "internal:list.sort.merge-bound"):=rfl
theorem Sb (a b:Array Keyed):Vf a b=(do
 rule "list.sort.merge-hi"
 let tt:=a.size+b.size
 let dn (o:Array Keyed) (p q:Nat):=a.extract 0 p++b.extract 0 q++o.reverse
 let fb (o:Array Keyed) (p q:Nat):=b.extract 0 q++a.extract 0 p++o.reverse
 let mut p:=a.size - 1
 let mut q:=b.size
 let mut o:Array Keyed:=#[<-elem' a p]
 if p==0 then return dn o p q
 if q==1 then return fb o p q
 let mut g:=gallopOf (<-get)
 for _ in [0:tt] do
  let mut c:=0
  let mut d:=0
  for _ in [0:tt] do
   let some w<-lt' (<-elem' b (q - 1)) (<-elem' a (p - 1))|return dn o p q
   if w then
    p:=p - 1;o:=o.push (<-elem' a p);c:=c+1;d:=0
    if p==0 then return dn o p q
    if c≥g then break
   else
    q:=q - 1;o:=o.push (<-elem' b q);d:=d+1;c:=0
    if q==1 then return fb o p q
    if d≥g then break
  rule "list.sort.gallop"
  g:=g+1
  for _ in [0:tt] do
   if g > 1 then g:=g - 1
   Np g
   let some f<-OB false (<-elem' b (q - 1)) a 0 p (p - 1)|return dn o p q
   let k:=p - f
   c:=k
   if k > 0 then
    o:=o++(a.extract f p).reverse;p:=f
    if p==0 then return dn o p q
   q:=q - 1;o:=o.push (<-elem' b q)
   if q==1 then return fb o p q
   let some f<-OB true (<-elem' a (p - 1)) b 0 q (q - 1)|return dn o p q
   let k:=q - f
   d:=k
   if k > 0 then
    o:=o++(b.extract f q).reverse;q:=f
    if q==1 then return fb o p q
    if q==0 then return dn o p q
   p:=p - 1;o:=o.push (<-elem' a p)
   if p==0 then return dn o p q
   if c < 7&&d < 7 then break
  g:=g+1
  Np g
 unsupported "internal:list.sort.merge-bound"):=rfl
theorem Sd (i:Nat):mergeAt' i=(do
 let s<-get
 let(some (u,n,w),some (v,m,_)):=((pendingOf s)[i]?,(pendingOf s)[i+1]?)|unsupported "internal:list.sort.pending"
 set (setPending s (((pendingOf s).setIfInBounds i (u,n+m,w)).eraseIdxIfInBounds (i+1)))
 let some k<-OB false (<-elem' (arrOf s) v) (arrOf s) u n 0|return false
 let(u,n):=(u+k,n - k)
 if n==0 then return true
 let some m<-OB true (<-elem' (arrOf s) (u+n - 1)) (arrOf s) v m (m - 1)|return false
 if m==0 then return true
 let x:=(arrOf s).extract u v
 let y:=(arrOf s).extract v (v+m)
 let r<-if n<=m then Ve x y else Vf x y
 modify λs=>setArr s (r.toList.zipIdx.foldl (λa (p,j)=>a.setIfInBounds (u+j) p) (arrOf s))
 return(failedOf (<-get)).isNone):=rfl
end Tim
namespace Tim
open PySem PyProof.Rows
section
variable {prog:Program}{w:World}{A:Around}{E:Value->Shared->Prop}{s:Shared}{a₀:Array Keyed}{κ:SortKind}{O:KeyOrd}{key:Keyed->O.α}
def Jn (prog:Program)(w:World)(A:Around)(E:Value->Shared->Prop)(s:Shared)(a₀:Array Keyed)(κ:SortKind)(O:KeyOrd)(key:Keyed->O.α):Prop:=
 ∀(x y:Keyed) (st:SortSt) (Q:Option Bool->SortSt->Prop),x∈a₀->y∈a₀->kindOf st=κ->Q (some (O.blt (key x) (key y))) st->wpS (model prog w) A E s (lt' x y) Q st
theorem Ao {xs:Array Keyed}{i:Nat}{p:Keyed}{st:SortSt}{Q:Keyed->SortSt->Prop}(e:xs[i]?=some p)(h:Q p st):wpS (model prog w) A E s (elem' xs i) Q st:=by
 rw[elem'_eq,e];exact wpS_pure h
abbrev Vp (key:Keyed->O.α)(left:Bool)(x p:Keyed):Bool:=if left then O.blt (key p) (key x)else !O.blt (key x) (key p)
theorem Se (C:Jn prog w A E s a₀ κ O key){left:Bool}{x p:Keyed}{xs:Array Keyed}{b i:Nat}{st:SortSt}{Q:Option Bool->SortSt->Prop}(hx:x∈a₀)(hp:p∈a₀)(e:xs[b+i]?=some p)(hk:kindOf st=κ)
 (h:Q (some (Vp key left x p)) st):wpS (model prog w) A E s (Qm left x xs b i) Q st:=by
 unfold Qm;refine wpS_bind (Ao e ?_)
 cases left with
 |true=>exact C p x st Q hp hx hk h
 |false=>exact wpS_bind (C x p st _ hx hp hk (wpS_pure h))
def UR (left:Bool)(x:Keyed)(xs:Array Keyed)(b n l0 r0:Nat):SM (Option Nat):=do
 let mut l:=l0
 let mut r:=r0
 for _ in [0:n] do
  if l≥r then break
  let m:=l+(r - l) / 2
  let some more<-Qm left x xs b m|return none
  if more then l:=m+1 else r:=m
 return some r
theorem Mc {left:Bool}{x:Keyed}{xs:Array Keyed}{b n l0 r0:Nat}{st:SortSt}{Q:Option Nat->SortSt->Prop}(B:Nat->Bool)
 (ask:∀(i:Nat) (Q':Option Bool->SortSt->Prop),i < n->Q' (some (B i)) st->wpS (model prog w) A E s (Qm left x xs b i) Q' st)
 (mono:∀i j,i<=j->j < n->B j=true->B i=true)(h1:l0<=r0)(h2:r0<=n)(h3:∀i,i < l0->B i=true)(h4:∀i,r0<=i->i < n->B i=false)
 (h:∀k,k<=n->(∀i,i < k->B i=true)->(∀i,k<=i->i < n->B i=false)->Q (some k) st):wpS (model prog w) A E s (UR left x xs b n l0 r0) Q st:=by
 unfold UR
 refine wpS_bind (wpS_mono (wpS_forRange (I:=λt c st'=>st'=st/\∃l r,c=(none,l,r)/\l<=r/\r<=n/\r - l<=n - t/\(∀i,i < l->B i=true)/\(∀i,r<=i->i < n->B i=false))
  (Q:=λc st'=>st'=st/\∃l,c=(none,l,l)/\l<=n/\(∀i,i < l->B i=true)/\(∀i,l<=i->i < n->B i=false)) ?step ?fin ⟨rfl,l0,r0,rfl,h1,h2,by omega,h3,h4⟩) ?post)
 case post=>
  rintro c st' ⟨rfl,l,rfl,a,b,c⟩;exact wpS_pure (h l a b c)
 case fin=>
  rintro c st' ⟨rfl,l,r,rfl,a1,a2,a3,a4,a5⟩;have:r=l:=by omega
  subst this;exact⟨rfl,r,rfl,a2,a4,a5⟩
 case step=>
  rintro t c st' _ ht ⟨rfl,l,r,rfl,a1,a2,a3,a4,a5⟩
  dsimp only
  by_cases g:l≥r
  ·rw[if_pos g]
   have:r=l:=by omega
   subst this;exact wpS_pure ⟨rfl,r,rfl,a2,a4,a5⟩
  ·rw[if_neg g]
   refine wpS_bind (ask _ _ (by omega) ?_)
   dsimp only
   cases e:B (l+(r - l) / 2)with
   |true=>
    rw[if_pos rfl];exact wpS_pure ⟨rfl,_,r,rfl,by omega,a2,by omega,λi hi=>mono i _ (by omega) (by omega) e,a5⟩
   |false=>
    rw[if_neg (by simp)]
    refine wpS_pure ⟨rfl,l,_,rfl,by omega,by omega,by omega,a4,λi hi hn=>?_⟩
    cases e':B i with
    |false=>rfl
    |true=>rw[mono _ i hi hn e']at e;cases e
theorem Fd (C:Jn prog w A E s a₀ κ O key){left:Bool}{x:Keyed}{xs:Array Keyed}{b n hn:Nat}{st:SortSt}{Q:Option Nat->SortSt->Prop}(B:Nat->Bool)(hx:x∈a₀)(hk:kindOf st=κ)
 (hB:∀i,i < n->∃p,xs[b+i]?=some p/\p∈a₀/\B i=Vp key left x p)(mono:∀i j,i<=j->j < n->B j=true->B i=true)(hh:hn < n)
 (h:∀k,k<=n->(∀i,i < k->B i=true)->(∀i,k<=i->i < n->B i=false)->Q (some k) st):wpS (model prog w) A E s (OB left x xs b n hn) Q st:=by
 have ask:∀(i:Nat) (Q':Option Bool->SortSt->Prop),i < n->Q' (some (B i)) st->wpS (model prog w) A E s (Qm left x xs b i) Q' st:=λi Q' hi hq=>by
  obtain⟨p,e1,e2,e3⟩:=hB i hi;rw[e3]at hq;exact Se C hx e2 e1 hk hq
 have off:∀i j,i<=j->j < n->B i=false->B j=false:=λi j hij hj e=>by
  cases e':B j with
  |false=>rfl
  |true=>rw[mono i j hij hj e']at e;cases e
 rw[SY];refine wpS_bind (ask hn _ hh ?_)
 dsimp only
 cases e:B hn with
 |true=>
  rw[if_pos rfl]
  refine wpS_bind (wpS_mono (wpS_forRange (I:=λt c st'=>st'=st/\∃la o,c=(none,la,o)/\la < o/\t < o/\hn+la < n/\B (hn+la)=true)
   (Q:=λc st'=>st'=st/\∃la o,c=(none,la,o)/\la < o/\hn+la < n/\B (hn+la)=true/\(n - hn<=o\/(hn+o < n/\B (hn+o)=false))) ?step ?fin ⟨rfl,0,1,rfl,by omega,by omega,hh,e⟩) ?post)
  case post=>
   rintro c st' ⟨rfl,la,o,rfl,a1,a2,a3,a4⟩
   exact Mc (l0:=hn+la+1) (r0:=hn+min o (n - hn)) B ask mono (by omega) (by omega) (λi hi=>mono i _ (by omega) a2 a3) (λi hi hn'=>by
    rcases a4 with a4|a4
    ·omega
    ·exact off _ i (by omega) hn' a4.2) h
  case fin=>
   rintro c st' ⟨rfl,la,o,rfl,a1,a2,a3,a4⟩;exact⟨rfl,la,o,rfl,a1,a3,a4,.inl (by omega)⟩
  case step=>
   rintro t c st' _ ht ⟨rfl,la,o,rfl,a1,a2,a3,a4⟩
   dsimp only
   by_cases g:o≥n - hn
   ·rw[if_pos g]
    exact wpS_pure ⟨rfl,la,o,rfl,a1,a3,a4,.inl g⟩
   ·rw[if_neg g]
    refine wpS_bind (ask _ _ (by omega) ?_)
    dsimp only
    cases e':B (hn+o)with
    |true=>
     rw[if_neg (by simp)]
     exact wpS_pure ⟨rfl,o,_,rfl,by omega,by omega,by omega,e'⟩
    |false=>
     rw[if_pos (by simp)]
     exact wpS_pure ⟨rfl,la,o,rfl,a1,a3,a4,.inr ⟨by omega,e'⟩⟩
 |false=>
  rw[if_neg (by simp)]
  refine wpS_bind (wpS_mono (wpS_forRange (I:=λt c st'=>st'=st/\∃la o,c=(none,la,o)/\la < o/\t < o/\la<=hn/\B (hn - la)=false)
   (Q:=λc st'=>st'=st/\∃la o,c=(none,la,o)/\la < o/\la<=hn/\B (hn - la)=false/\(hn+1<=o\/(o<=hn/\B (hn - o)=true))) ?step ?fin ⟨rfl,0,1,rfl,by omega,by omega,by omega,e⟩) ?post)
  case post=>
   rintro c st' ⟨rfl,la,o,rfl,a1,a2,a3,a4⟩
   exact Mc (l0:=hn+1 - min o (hn+1)) (r0:=hn - la) B ask mono (by omega) (by omega) (λi hi=>by
    rcases a4 with a4|a4
    ·omega
    ·exact mono i _ (by omega) (by omega) a4.2) (λi hi hn'=>off _ i (by omega) hn' a3) h
  case fin=>
   rintro c st' ⟨rfl,la,o,rfl,a1,a2,a3,a4⟩;exact⟨rfl,la,o,rfl,a1,a3,a4,.inl (by omega)⟩
  case step=>
   rintro t c st' _ ht ⟨rfl,la,o,rfl,a1,a2,a3,a4⟩
   dsimp only
   by_cases g:o≥hn+1
   ·rw[if_pos g]
    exact wpS_pure ⟨rfl,la,o,rfl,a1,a3,a4,.inl g⟩
   ·rw[if_neg g]
    refine wpS_bind (ask _ _ (by omega) ?_)
    dsimp only
    cases e':B (hn - o)with
    |false=>
     rw[if_neg (by simp)]
     exact wpS_pure ⟨rfl,o,_,rfl,by omega,by omega,by omega,e'⟩
    |true=>
     rw[if_pos rfl];exact wpS_pure ⟨rfl,la,o,rfl,a1,a3,a4,.inr ⟨by omega,e'⟩⟩
def CW (key:Keyed->O.α):List Keyed->List Keyed->List Keyed
 |[],ys=>ys
 |x::xs,[]=>x::xs
 |x::xs,y::ys=>if O.blt (key y) (key x)=true then y::CW key (x::xs) ys else x::CW key xs (y::ys)
termination_by xs ys=>xs.length+ys.length
abbrev O9 (key:Keyed->O.α)(l:List Keyed):Prop:=l.Pairwise λx y=>O.blt (key y) (key x)=false
theorem CB (ys:List Keyed):CW key [] ys=ys:=by unfold CW;rfl
theorem Bw:∀(xs:List Keyed),CW key xs []=xs
 |[]=>CB _
 |x::xs=>by unfold CW;rfl
theorem BX (x y:Keyed)(xs ys:List Keyed):CW key (x::xs) (y::ys)=if O.blt (key y) (key x)=true then y::CW key (x::xs) ys else x::CW key xs (y::ys):=by
 rw[CW]
theorem Fe (y:Keyed)(ys xs:List Keyed):∀us:List Keyed,(∀x∈us,O.blt (key y) (key x)=false)->CW key (us++xs) (y::ys)=us++CW key xs (y::ys)
 |[],_=>rfl
 |u::us,h=>by
  rw[List.cons_append,BX,if_neg (by rw[h u List.mem_cons_self];simp),Fe y ys xs us λx hx=>h x (List.mem_cons_of_mem _ hx)]
  rfl
theorem Eb (x:Keyed)(xs ys:List Keyed):∀us:List Keyed,(∀y∈us,O.blt (key y) (key x)=true)->CW key (x::xs) (us++ys)=us++CW key (x::xs) ys
 |[],_=>rfl
 |u::us,h=>by
  rw[List.cons_append,BX,if_pos (h u List.mem_cons_self),Eb x xs ys us λx hx=>h x (List.mem_cons_of_mem _ hx)]
  rfl
theorem Md (x:Keyed)(ys:List Keyed)(h:∀y∈ys,O.blt (key y) (key x)=true):CW key [x] ys=ys++[x]:=by
 have:=Eb (O:=O) x [] [] ys h;rw[List.append_nil,Bw]at this;exact this
theorem Nq (y:Keyed)(xs:List Keyed)(h:∀x∈xs,O.blt (key y) (key x)=true):CW key xs [y]=y::xs:=by
 cases xs with
 |nil=>exact CB _
 |cons x xs=>rw[BX,if_pos (h x List.mem_cons_self),Bw]
theorem Dx (x:Keyed):∀(xs zs:List Keyed),(∀z∈zs,O.blt (key z) (key x)=true)->CW key (xs++[x]) zs=CW key xs zs++[x]
 |[],zs,h=>by rw[List.nil_append,Md x zs h,CB]
 |u::us,[],h=>by rw[Bw,Bw]
 |u::us,z::zs,h=>by
  rw[List.cons_append,BX,BX]
  split
  ·have:=Dx x (u::us) zs λz hz=>h z (List.mem_cons_of_mem _ hz)
   rw[<-List.cons_append,this];rfl
  ·rw[Dx x us (z::zs) h];rfl
termination_by xs zs=>xs.length+zs.length
theorem Dy (y:Keyed):∀(xs zs:List Keyed),(∀x∈xs,O.blt (key y) (key x)=false)->CW key xs (zs++[y])=CW key xs zs++[y]
 |[],zs,h=>by rw[CB,CB]
 |u::us,[],h=>by
  have:=Fe (O:=O) y [] [] (u::us) h;rw[List.append_nil,CB]at this;rw[List.nil_append,Bw];exact this
 |u::us,z::zs,h=>by
  rw[List.cons_append,BX,BX]
  split
  ·rw[Dy y (u::us) zs h];rfl
  ·have:=Dy y us (z::zs) λx hx=>h x (List.mem_cons_of_mem _ hx)
   rw[<-List.cons_append,this];rfl
termination_by xs zs=>xs.length+zs.length
theorem Gv (zs:List Keyed):∀(us xs:List Keyed),(∀u∈us,∀z∈zs,O.blt (key z) (key u)=true)->CW key (xs++us) zs=CW key xs zs++us
 |[],xs,_=>by rw[List.append_nil,List.append_nil]
 |u::us,xs,h=>by
  have e:=Gv zs us (xs++[u]) λv hv=>h v (List.mem_cons_of_mem _ hv)
  rw[Dx u _ _ (h u List.mem_cons_self),List.append_assoc,List.append_assoc]at e;exact e
theorem Gw (xs:List Keyed):∀(us zs:List Keyed),(∀u∈us,∀x∈xs,O.blt (key u) (key x)=false)->CW key xs (zs++us)=CW key xs zs++us
 |[],zs,_=>by rw[List.append_nil,List.append_nil]
 |u::us,zs,h=>by
  have e:=Gw xs us (zs++[u]) λv hv=>h v (List.mem_cons_of_mem _ hv)
  rw[Dy u _ _ (h u List.mem_cons_self),List.append_assoc,List.append_assoc]at e;exact e
theorem Dk:∀(xs ys:List Keyed),(CW key xs ys).Perm (xs++ys)
 |[],ys=>by rw[CB];exact .refl _
 |x::xs,[]=>by rw[Bw,List.append_nil]
 |x::xs,y::ys=>by
  rw[BX]
  split
  ·exact((Dk (x::xs) ys).cons y).trans List.perm_middle.symm
  ·exact(Dk xs (y::ys)).cons x
termination_by xs ys=>xs.length+ys.length
theorem B7 {x y z:Keyed}(h1:O.blt (key y) (key x)=false)(h2:O.blt (key z) (key y)=false):O.blt (key z) (key x)=false:=KeyOrd.kle_trans (O:=O) (a:=key x) (b:=key y) (c:=key z) h1 h2
theorem Gx {x y:Keyed}(h:O.blt (key x) (key y)=true):O.blt (key y) (key x)=false:=KeyOrd.klt_asymm (O:=O) (a:=key x) (b:=key y) h
theorem JL:∀(xs ys:List Keyed),O9 key xs->O9 key ys->O9 key (CW key xs ys)
 |[],ys,_,h=>by rw[CB];exact h
 |x::xs,[],h,_=>by rw[Bw];exact h
 |x::xs,y::ys,h1,h2=>by
  have k1:=List.pairwise_cons.mp h1;have k2:=List.pairwise_cons.mp h2;rw[BX]
  split
  ·rename_i e
   refine List.pairwise_cons.mpr ⟨λz hz=>?_,JL (x::xs) ys h1 k2.2⟩
   rcases List.mem_append.mp ((Dk _ _).mem_iff.mp hz)with hz|hz
   ·rcases List.mem_cons.mp hz with rfl|hz
    ·exact Gx e
    ·exact B7 (Gx e) (k1.1 z hz)
   ·exact k2.1 z hz
  ·rename_i e
   have e':O.blt (key y) (key x)=false:=by simpa using e
   refine List.pairwise_cons.mpr ⟨λz hz=>?_,JL xs (y::ys) k1.2 h2⟩
   rcases List.mem_append.mp ((Dk _ _).mem_iff.mp hz)with hz|hz
   ·exact k1.1 z hz
   ·rcases List.mem_cons.mp hz with rfl|hz
    ·exact e'
    ·exact B7 e' (k2.1 z hz)
termination_by xs ys=>xs.length+ys.length
end
end Tim
namespace Tim
open PySem PyProof.Rows
section
variable {prog:Program}{w:World}{A:Around}{E:Value->Shared->Prop}{s:Shared}{a₀:Array Keyed}{κ:SortKind}{O:KeyOrd}{key:Keyed->O.α}
structure OC (key:Keyed->O.α)(a₀ a b:Array Keyed):Prop where
 ma:∀x∈a,x∈a₀
 mb:∀x∈b,x∈a₀
 na:1<=a.size
 nb:1<=b.size
 sa:O9 key a.toList
 sb:O9 key b.toList
 fst:∀x∈a,∀y,b[0]?=some y->O.blt (key y) (key x)=true
 lst:∀y∈b,∀x,a[a.size - 1]?=some x->O.blt (key y) (key x)=true
theorem CC {a:Array Keyed}{p:Nat}{x:Keyed}(e:a[p]?=some x):a.toList.drop p=x::a.toList.drop (p+1):=by
 obtain⟨h,rfl⟩:=Array.getElem?_eq_some_iff.mp e
 rw[List.drop_eq_getElem_cons (by simpa using h)]
 simp
theorem Dz (a:Array Keyed)(p:Nat):(a.extract p a.size).toList=a.toList.drop p:=by
 rw[Array.toList_extract,List.extract_eq_drop_take];exact List.take_of_length_le (by simp)
theorem Me (a:Array Keyed)(p k:Nat):(a.extract p (p+k)).toList=(a.toList.drop p).take k:=by
 rw[Array.toList_extract,List.extract_eq_drop_take,Nat.add_sub_cancel_left]
theorem mem_mid {a:Array Keyed}{p k:Nat}{z:Keyed}(hz:z∈(a.toList.drop p).take k):∃i,i < k/\a[p+i]?=some z:=by
 obtain⟨i,hi,rfl⟩:=List.getElem_of_mem hz;have hi':i < min k (a.size - p):=by simpa using hi
 refine⟨i,by omega,?_⟩
 rw[List.getElem_take,List.getElem_drop,Array.getElem_toList,Array.getElem?_eq_getElem]
theorem BR {a:Array Keyed}{i:Nat}{x:Keyed}(e:a[i]?=some x):x∈a:=Array.mem_of_getElem? e
theorem Ab {a:Array Keyed}{i:Nat}(h:i < a.size):∃x,a[i]?=some x:=⟨_,Array.getElem?_eq_getElem h⟩
def Ec (key:Keyed->O.α)(a b o:Array Keyed)(p q:Nat):Prop:=o.toList++CW key (a.toList.drop p) (b.toList.drop q)=CW key a.toList b.toList
section
variable {a b o:Array Keyed}{p q k:Nat}{x y:Keyed}
theorem Sf (I:Ec key a b o p q)(ex:a[p]?=some x)(ey:b[q]?=some y)(h:O.blt (key y) (key x)=true):Ec key a b (o.push y) p (q+1):=by
 unfold Ec at I ⊢;rw[CC ex,CC ey,BX,if_pos h]at I;rw[CC ex,Array.toList_push,List.append_assoc];exact I
theorem US (I:Ec key a b o p q)(ex:a[p]?=some x)(ey:b[q]?=some y)(h:O.blt (key y) (key x)=false):Ec key a b (o.push x) (p+1) q:=by
 unfold Ec at I ⊢;rw[CC ex,CC ey,BX,if_neg (by rw[h];simp)]at I
 rw[CC ey,Array.toList_push,List.append_assoc];exact I
theorem UT (I:Ec key a b o p q)(ey:b[q]?=some y)(h:∀i x,i < k->a[p+i]?=some x->O.blt (key y) (key x)=false):Ec key a b (o++a.extract p (p+k)) (p+k) q:=by
 unfold Ec at I ⊢;rw[CC ey]at I ⊢;rw[Array.toList_append,Me,List.append_assoc,<-I]
 conv=>rhs;rw[<-List.take_append_drop k (a.toList.drop p)]
 rw[Fe y _ _ _ λz hz=>by obtain⟨i,hi,e⟩:=mem_mid hz;exact h i z hi e,List.drop_drop]
theorem UU (I:Ec key a b o p q)(ex:a[p]?=some x)(h:∀i y,i < k->b[q+i]?=some y->O.blt (key y) (key x)=true):Ec key a b (o++b.extract q (q+k)) p (q+k):=by
 unfold Ec at I ⊢;rw[CC ex]at I ⊢;rw[Array.toList_append,Me,List.append_assoc,<-I]
 conv=>rhs;rw[<-List.take_append_drop k (b.toList.drop q)]
 rw[Eb x _ _ _ λz hz=>by obtain⟨i,hi,e⟩:=mem_mid hz;exact h i z hi e,List.drop_drop]
theorem JM (I:Ec key a b o p q)(h:q=b.size):(o++a.extract p a.size++b.extract q b.size).toList=CW key a.toList b.toList:=by
 unfold Ec at I;rw[Array.toList_append,Array.toList_append,Dz,Dz,<-I,List.drop_of_length_le (l:=b.toList) (by simp[h]),Bw,List.append_nil]
theorem Sg (I:Ec key a b o p q)(h:p=a.size):(o++a.extract p a.size++b.extract q b.size).toList=CW key a.toList b.toList:=by
 unfold Ec at I;rw[Array.toList_append,Array.toList_append,Dz,Dz,<-I,List.drop_of_length_le (l:=a.toList) (by simp[h]),CB,List.append_nil]
theorem Mf (T:OC key a₀ a b)(I:Ec key a b o p q)(h:p+1=a.size):(o++b.extract q b.size++a.extract p a.size).toList=CW key a.toList b.toList:=by
 obtain⟨x,ex⟩:=Ab (a:=a) (i:=p) (by omega)
 unfold Ec at I;rw[CC ex,List.drop_of_length_le (l:=a.toList) (i:=p+1) (by simp[h]),Md x _ λy hy=>T.lst y (Array.mem_toList_iff.mp (List.mem_of_mem_drop hy)) x (by rw[<-ex];congr 1;omega)]at I
 rw[Array.toList_append,Array.toList_append,Dz,Dz,<-I,CC ex,List.drop_of_length_le (l:=a.toList) (i:=p+1) (by simp[h]),List.append_assoc]
end
abbrev Si:=Option (Array Keyed)×Array Keyed×Nat×Nat×Nat×Nat×Nat
def U1 (a b o:Array Keyed)(p q g c d:Nat):SM (ForInStep Si):=do
 let x<-elem' a p
 if p+1+1==a.size then return .done (some (o.push x++b.extract q b.size++a.extract (p+1) a.size),o.push x,p+1,q,g,c,d)
 else if c < 7&&d < 7 then return .done (none,o.push x,p+1,q,g,c,d)
 else return .yield (none,o.push x,p+1,q,g,c,d)
def U2 (a b o:Array Keyed)(p q g c d:Nat):SM (ForInStep Si):=do
 let y<-elem' b q
 if q+1==b.size then return .done (some (o.push y++a.extract p a.size++b.extract (q+1) b.size),o.push y,p,q+1,g,c,d)
 else
  let x<-elem' a p
  let some k<-OB true x b (q+1) (b.size - (q+1)) 0|return .done (some (o.push y++a.extract p a.size++b.extract (q+1) b.size),o.push y,p,q+1,g,c,d)
  if k > 0 then
   if q+1+k==b.size then return .done (some (o.push y++b.extract (q+1) (q+1+k)++a.extract p a.size++b.extract (q+1+k) b.size),o.push y++b.extract (q+1) (q+1+k),p,q+1+k,g,c,k)
   else U1 a b (o.push y++b.extract (q+1) (q+1+k)) p (q+1+k) g c k
  else U1 a b (o.push y) p (q+1) g c k
def U3 (a b o:Array Keyed)(p q g c d:Nat):SM (ForInStep Si):=do
 Np g
 let y<-elem' b q
 let some k<-OB false y a p (a.size - p) 0|return .done (some (o++a.extract p a.size++b.extract q b.size),o,p,q,g,c,d)
 if k > 0 then
  if p+k+1==a.size then return .done (some (o++a.extract p (p+k)++b.extract q b.size++a.extract (p+k) a.size),o++a.extract p (p+k),p+k,q,g,k,d)
  else if p+k==a.size then return .done (some (o++a.extract p (p+k)++a.extract (p+k) a.size++b.extract q b.size),o++a.extract p (p+k),p+k,q,g,k,d)
  else U2 a b (o++a.extract p (p+k)) (p+k) q g k d
 else U2 a b o p q g k d
def Vq (a b:Array Keyed)(c:Si):SM (ForInStep Si):=
 if c.2.2.2.2.1 > 1 then U3 a b c.2.1 c.2.2.1 c.2.2.2.1 (c.2.2.2.2.1 - 1) c.2.2.2.2.2.1 c.2.2.2.2.2.2
 else U3 a b c.2.1 c.2.2.1 c.2.2.2.1 c.2.2.2.2.1 c.2.2.2.2.2.1 c.2.2.2.2.2.2
structure JN (key:Keyed->O.α)(a b:Array Keyed)(st:SortSt)(m:Nat)(R:ForInStep Si->SortSt->Prop):Prop where
 fin:∀(out:Array Keyed) c g,out.toList=CW key a.toList b.toList->R (.done (some out,c)) (setG st g)
 brk:∀o p q g c d g',Ec key a b o p q->p+1 < a.size->q < b.size->m<=p+q->R (.done (none,o,p,q,g,c,d)) (setG st g')
 yld:∀o p q g c d g',Ec key a b o p q->p+1 < a.size->q < b.size->m<=p+q->R (.yield (none,o,p,q,g,c,d)) (setG st g')
section
variable {a b o:Array Keyed}{p q k g c d m g':Nat}{x y:Keyed}{st:SortSt}{R:ForInStep Si->SortSt->Prop}
theorem PB (T:OC key a₀ a b)(G:JN key a b st m R)(I:Ec key a b o p q)(hp:p+1 < a.size)(hq:q < b.size)(hm:m<=p+1+q)(h:∀x y,a[p]?=some x->b[q]?=some y->O.blt (key y) (key x)=false):
 wpS (model prog w) A E s (U1 a b o p q g c d) R (setG st g'):=by
 obtain⟨x,ex⟩:=Ab (a:=a) (i:=p) (by omega)
 obtain⟨y,ey⟩:=Ab hq;unfold U1;refine wpS_bind (Ao ex ?_)
 have I':=US I ex ey (h x y ex ey)
 by_cases e:p+1+1=a.size
 ·rw[if_pos (by simpa using e)]
  exact wpS_pure (G.fin _ _ _ (Mf T I' e))
 ·rw[if_neg (by simpa using e)]
  split
  ·exact wpS_pure (G.brk _ _ _ _ _ _ _ I' (by omega) hq hm)
  ·exact wpS_pure (G.yld _ _ _ _ _ _ _ I' (by omega) hq hm)
theorem PC (C:Jn prog w A E s a₀ κ O key)(T:OC key a₀ a b)(hk:kindOf st=κ)(G:JN key a b st m R)(I:Ec key a b o p q)(hp:p+1 < a.size)(hq:q < b.size)(hm:m<=p+1+(q+1))(h:∀x y,a[p]?=some x->b[q]?=some y->O.blt (key y) (key x)=true):
 wpS (model prog w) A E s (U2 a b o p q g c d) R (setG st g'):=by
 obtain⟨x,ex⟩:=Ab (a:=a) (i:=p) (by omega)
 obtain⟨y,ey⟩:=Ab hq;unfold U2;refine wpS_bind (Ao ey ?_)
 have I':=Sf I ex ey (h x y ex ey)
 by_cases e:q+1=b.size
 ·rw[if_pos (by simpa using e)]
  exact wpS_pure (G.fin _ _ _ (JM I' e))
 ·rw[if_neg (by simpa using e)]
  refine wpS_bind (Ao ex ?_)
  refine wpS_bind (Fd C (λi=>match b[q+1+i]? with|some y=>O.blt (key y) (key x)|none=>false) (T.ma x (BR ex)) hk (λi hi=>?_) (λi j hij hj=>?_) (by omega) λk hk' ht hf=>?_)
  ·obtain⟨z,ez⟩:=Ab (a:=b) (i:=q+1+i) (by omega)
   refine⟨z,ez,T.mb z (BR ez),?_⟩
   rw[ez];rfl
  ·obtain⟨z,ez⟩:=Ab (a:=b) (i:=q+1+i) (by omega)
   obtain⟨v,ev⟩:=Ab (a:=b) (i:=q+1+j) (by omega)
   rw[ez,ev]
   dsimp only
   intro hv
   rcases Nat.lt_or_ge i j with l|l
   ·have:=List.pairwise_iff_getElem.mp T.sb (q+1+i) (q+1+j) (by simp;omega) (by simp;omega) (by omega)
    rw[Array.getElem_toList,Array.getElem_toList,(Array.getElem?_eq_some_iff.mp ez).2,(Array.getElem?_eq_some_iff.mp ev).2]at this
    exact KeyOrd.klt_of_kle_of_klt (O:=O) (a:=key z) (b:=key v) (c:=key x) this hv
   ·have:i=j:=by omega
    subst this;rw[ez]at ev;cases ev;exact hv
  ·have fs:∀i y,i < k->b[q+1+i]?=some y->O.blt (key y) (key x)=true:=λi y hi e=>by
    have:=ht i hi;rw[e]at this;exact this
   have nx:q+1+k < b.size->∀x' y',a[p]?=some x'->b[q+1+k]?=some y'->O.blt (key y') (key x')=false:=λhlt x' y' e1 e2=>by
    have:=hf k (Nat.le_refl _) (by omega)
    rw[e2]at this;rw[ex]at e1;cases e1;exact this
   dsimp only
   by_cases k0:k > 0
   ·rw[if_pos k0]
    have I2:=UU I' ex fs
    by_cases e2:q+1+k=b.size
    ·rw[if_pos (by simpa using e2)]
     exact wpS_pure (G.fin _ _ _ (JM I2 e2))
    ·rw[if_neg (by simpa using e2)]
     exact PB T G I2 hp (by omega) (by omega) (nx (by omega))
   ·rw[if_neg k0]
    have:k=0:=by omega
    subst this;exact PB T G I' hp (by omega) (by omega) (nx (by omega))
theorem PD (C:Jn prog w A E s a₀ κ O key)(T:OC key a₀ a b)(hk:kindOf st=κ)(G:JN key a b st m R)(I:Ec key a b o p q)(hp:p+1 < a.size)(hq:q < b.size)(hm:m<=p+1+(q+1)):
 wpS (model prog w) A E s (U3 a b o p q g c d) R (setG st g'):=by
 obtain⟨y,ey⟩:=Ab hq;unfold U3;refine wpS_bind (wpS_modify ?_)
 refine wpS_bind (Ao ey ?_)
 refine wpS_bind (Fd C (λi=>match a[p+i]? with|some x=>!O.blt (key y) (key x)|none=>false) (T.mb y (BR ey)) hk (λi hi=>?_) (λi j hij hj=>?_) (by omega) λk hk' ht hf=>?_)
 ·obtain⟨z,ez⟩:=Ab (a:=a) (i:=p+i) (by omega)
  refine⟨z,ez,T.ma z (BR ez),?_⟩
  rw[ez];rfl
 ·obtain⟨z,ez⟩:=Ab (a:=a) (i:=p+i) (by omega)
  obtain⟨v,ev⟩:=Ab (a:=a) (i:=p+j) (by omega)
  rw[ez,ev]
  dsimp only
  intro hv;have hv:O.blt (key y) (key v)=false:=by simpa using hv
  rcases Nat.lt_or_ge i j with l|l
  ·have:=List.pairwise_iff_getElem.mp T.sa (p+i) (p+j) (by simp;omega) (by simp;omega) (by omega)
   rw[Array.getElem_toList,Array.getElem_toList,(Array.getElem?_eq_some_iff.mp ez).2,(Array.getElem?_eq_some_iff.mp ev).2]at this
   rw[B7 this hv];rfl
  ·have:i=j:=by omega
   subst this;rw[ez]at ev;cases ev;rw[hv];rfl
 ·have fs:∀i x,i < k->a[p+i]?=some x->O.blt (key y) (key x)=false:=λi x hi e=>by
   have:=ht i hi;rw[e]at this;simpa using this
  have nx:p+k < a.size->∀x' y',a[p+k]?=some x'->b[q]?=some y'->O.blt (key y') (key x')=true:=λhlt x' y' e1 e2=>by
   have:=hf k (Nat.le_refl _) (by omega)
   rw[e1]at this;rw[ey]at e2;cases e2;simpa using this
  dsimp only
  by_cases k0:k > 0
  ·rw[if_pos k0]
   have I2:=UT I ey fs
   by_cases e1:p+k+1=a.size
   ·rw[if_pos (by simpa using e1)]
    exact wpS_pure (G.fin _ _ _ (Mf T I2 e1))
   ·rw[if_neg (by simpa using e1)]
    by_cases e2:p+k=a.size
    ·rw[if_pos (by simpa using e2)]
     exact wpS_pure (G.fin _ _ _ (Sg I2 e2))
    ·rw[if_neg (by simpa using e2)]
     exact PC (st:=st) C T hk G I2 (by omega) hq (by omega) (nx (by omega))
  ·rw[if_neg k0]
   have:k=0:=by omega
   subst this;exact PC (st:=st) C T hk G I hp hq hm (nx (by omega))
theorem Sj (C:Jn prog w A E s a₀ κ O key)(T:OC key a₀ a b)(hk:kindOf st=κ)(G:JN key a b st m R)(I:Ec key a b o p q)(hp:p+1 < a.size)(hq:q < b.size)(hm:m<=p+1+(q+1)):
 wpS (model prog w) A E s (Vq a b (none,o,p,q,g,c,d)) R (setG st g'):=by
 unfold Vq
 split
 ·exact PD C T hk G I hp hq hm
 ·exact PD C T hk G I hp hq hm
end
theorem Sk (C:Jn prog w A E s a₀ κ O key){a b:Array Keyed}(T:OC key a₀ a b){st:SortSt}(hk:kindOf st=κ){Q:Array Keyed->SortSt->Prop}(h:∀(o:Array Keyed) (g:Nat),o.toList=CW key a.toList b.toList->Q o (setG st g)):
 wpS (model prog w) A E s (Ve a b) Q st:=by
 have na:=T.na;have nb:=T.nb;obtain⟨y0,ey⟩:=Ab (a:=b) (i:=0) (by omega)
 obtain⟨x0,ex⟩:=Ab (a:=a) (i:=0) (by omega)
 rw[Sa];refine wpS_bind (wpS_lift (wpAny_rule ⟨rfl,?_⟩))
 dsimp only
 refine wpS_bind (Ao ey ?_)
 have I0:Ec key a b #[y0] 0 1:=Sf (o:=#[]) (by unfold Ec;rfl) ex ey (T.fst x0 (BR ex) y0 ey)
 have e0:st=setG st (gallopOf st):=rfl
 by_cases e1:1=b.size
 ·rw[if_pos (by simpa using e1)]
  exact wpS_pure (h _ (gallopOf st) (JM I0 e1))
 rw[if_neg (by simpa using e1)]
 by_cases e2:0+1=a.size
 ·rw[if_pos (by simpa using e2)]
  exact wpS_pure (h _ (gallopOf st) (Mf T I0 e2))
 rw[if_neg (by simpa using e2)]
 refine wpS_bind (wpS_get ?_)
 refine wpS_bind (wpS_mono (wpS_forRange (I:=λt c st'=>∃o p q g g',c=(none,o,p,q,g)/\st'=setG st g'/\Ec key a b o p q/\p+1 < a.size/\q < b.size/\t+1<=p+q)
  (Q:=λc st'=>∃out c' g',c=(some out,c')/\st'=setG st g'/\out.toList=CW key a.toList b.toList) ?step ?fin ⟨_,_,_,_,_,rfl,e0,I0,by omega,by omega,by omega⟩) ?post)
 case post=>
  rintro c st' ⟨out,c',g',rfl,rfl,e⟩;exact wpS_pure (h _ _ e)
 case fin=>
  rintro c st' ⟨o,p,q,g,g',rfl,rfl,I,a1,a2,a3⟩;omega
 case step=>
  rintro t c st' _ ht ⟨o,p,q,g,g',rfl,rfl,I,a1,a2,a3⟩
  dsimp only
  refine wpS_bind (wpS_mono (wpS_forRange (I:=λt' c st'=>∃o' p' q' c' d',c=(none,o',p',q',c',d')/\st'=setG st g'/\Ec key a b o' p' q'/\p'+1 < a.size/\q' < b.size/\p+q+t'<=p'+q')
   (Q:=λc st'=>st'=setG st g'/\((∃out c',c=(some out,c')/\out.toList=CW key a.toList b.toList)\/∃o' p' q' c' d',c=(none,o',p',q',c',d')/\Ec key a b o' p' q'/\p'+1 < a.size/\q' < b.size/\p+q+1<=p'+q')) ?s1 ?f1 ⟨_,_,_,_,_,rfl,rfl,I,a1,a2,by omega⟩) ?p1)
  case f1=>
   rintro c st' ⟨o',p',q',c',d',rfl,rfl,I',b1,b2,b3⟩;omega
  case s1=>
   rintro t' c st' _ ht' ⟨o',p',q',c',d',rfl,rfl,I',b1,b2,b3⟩
   dsimp only
   obtain⟨x,ex'⟩:=Ab (a:=a) (i:=p') (by omega)
   obtain⟨y,ey'⟩:=Ab b2;refine wpS_bind (Ao ey' (wpS_bind (Ao ex' (wpS_bind (C y x _ _ (T.mb y (BR ey')) (T.ma x (BR ex')) hk ?_)))))
   dsimp only
   cases e:O.blt (key y) (key x)with
   |true=>
    rw[if_pos rfl];refine wpS_bind (Ao ey' ?_)
    have I2:=Sf I' ex' ey' e
    by_cases f1:q'+1=b.size
    ·rw[if_pos (by simpa using f1)]
     exact wpS_pure ⟨rfl,.inl ⟨_,_,rfl,JM I2 f1⟩⟩
    ·rw[if_neg (by simpa using f1)]
     split
     ·exact wpS_pure ⟨rfl,.inr ⟨_,_,_,_,_,rfl,I2,b1,by omega,by omega⟩⟩
     ·exact wpS_pure ⟨_,_,_,_,_,rfl,rfl,I2,b1,by omega,by omega⟩
   |false=>
    rw[if_neg (by simp)]
    refine wpS_bind (Ao ex' ?_)
    have I2:=US I' ex' ey' e
    by_cases f1:p'+1+1=a.size
    ·rw[if_pos (by simpa using f1)]
     exact wpS_pure ⟨rfl,.inl ⟨_,_,rfl,Mf T I2 f1⟩⟩
    ·rw[if_neg (by simpa using f1)]
     split
     ·exact wpS_pure ⟨rfl,.inr ⟨_,_,_,_,_,rfl,I2,by omega,b2,by omega⟩⟩
     ·exact wpS_pure ⟨_,_,_,_,_,rfl,rfl,I2,by omega,b2,by omega⟩
  case p1=>
   rintro c st' ⟨rfl,⟨out,c',rfl,e⟩|⟨o',p',q',c',d',rfl,I',b1,b2,b3⟩⟩
   ·exact wpS_pure ⟨_,_,_,rfl,rfl,e⟩
   ·dsimp only
    refine wpS_bind (wpS_lift (wpAny_rule ⟨rfl,?_⟩))
    refine wpS_bind (wpS_mono (wpS_forRange (I:=λt' c st'=>∃o' p' q' g c' d' g',c=(none,o',p',q',g,c',d')/\st'=setG st g'/\Ec key a b o' p' q'/\p'+1 < a.size/\q' < b.size/\p+q+1+t'<=p'+q')
     (Q:=λc st'=>(∃out c' g',c=(some out,c')/\st'=setG st g'/\out.toList=CW key a.toList b.toList)\/∃o' p' q' g c' d' g',c=(none,o',p',q',g,c',d')/\st'=setG st g'/\Ec key a b o' p' q'/\p'+1 < a.size/\q' < b.size/\p+q+1<=p'+q') ?s2 ?f2 ⟨_,_,_,_,_,_,_,rfl,rfl,I',b1,b2,by omega⟩) ?p2)
    case f2=>
     rintro c st' ⟨o',p',q',g,c',d',g',rfl,rfl,I',b1,b2,b3⟩;omega
    case s2=>
     rintro t' c st' _ ht' ⟨o',p',q',g,c',d',g',rfl,rfl,I',b1,b2,b3⟩;exact Sj (m:=p'+q'+2) C T hk ⟨λout c g e=>.inl ⟨_,_,_,rfl,rfl,e⟩,λo p q g c d g' I h1 h2 h3=>.inr ⟨_,_,_,_,_,_,_,rfl,rfl,I,h1,h2,by omega⟩,λo p q g c d g' I h1 h2 h3=>⟨_,_,_,_,_,_,_,rfl,rfl,I,h1,h2,by omega⟩⟩ I' b1 b2 (by omega)
    case p2=>
     rintro c st' (⟨out,c',g',rfl,rfl,e⟩|⟨o',p',q',g,c',d',g',rfl,rfl,I',b1,b2,b3⟩)
     ·exact wpS_pure ⟨_,_,_,rfl,rfl,e⟩
     ·exact wpS_bind (wpS_modify (wpS_pure ⟨o',p',q',_,_,rfl,rfl,I',b1,b2,by omega⟩))
end
end Tim
namespace Tim
open PySem PyProof.Rows
section
variable {prog:Program}{w:World}{A:Around}{E:Value->Shared->Prop}{s:Shared}{a₀:Array Keyed}{κ:SortKind}{O:KeyOrd}{key:Keyed->O.α}
theorem Ed (a:Array Keyed)(p:Nat):(a.extract 0 p).toList=a.toList.take p:=by
 rw[Array.toList_extract,List.extract_eq_drop_take,List.drop_zero,Nat.sub_zero]
theorem JO {a:Array Keyed}{p:Nat}{x:Keyed}(e:a[p]?=some x):a.toList.take (p+1)=a.toList.take p++[x]:=by
 obtain⟨h,rfl⟩:=Array.getElem?_eq_some_iff.mp e
 rw[List.take_succ_eq_append_getElem (by simpa using h)]
 simp
theorem Dm (a:Array Keyed){f p:Nat}(h:f<=p):a.toList.take p=a.toList.take f++(a.extract f p).toList:=by
 rw[Array.toList_extract,List.extract_eq_drop_take];have e:p=f+(p - f):=by omega
 conv=>lhs;rw[e]
 rw[List.take_add]
theorem Gy {a:Array Keyed}{p:Nat}{z:Keyed}(hz:z∈a.toList.take p):∃i,i < p/\a[i]?=some z:=by
 obtain⟨i,hi,rfl⟩:=List.getElem_of_mem hz;have hi':i < min p a.size:=by simpa using hi
 refine⟨i,by omega,?_⟩
 rw[List.getElem_take,Array.getElem_toList,Array.getElem?_eq_getElem]
theorem Ci {a:Array Keyed}{f p:Nat}{z:Keyed}(hz:z∈(a.extract f p).toList):∃i,f<=i/\i < p/\a[i]?=some z:=by
 rw[Array.toList_extract,List.extract_eq_drop_take]at hz;obtain⟨i,hi,e⟩:=mem_mid hz;exact⟨f+i,by omega,by omega,e⟩
theorem Ff {a:Array Keyed}(h:O9 key a.toList){i j:Nat}{x y:Keyed}(ex:a[i]?=some x)(ey:a[j]?=some y)(hij:i<=j):O.blt (key y) (key x)=false:=by
 obtain⟨h1,rfl⟩:=Array.getElem?_eq_some_iff.mp ex
 obtain⟨h2,rfl⟩:=Array.getElem?_eq_some_iff.mp ey
 rcases Nat.lt_or_ge i j with l|l
 ·have:=List.pairwise_iff_getElem.mp h i j (by simpa using h1) (by simpa using h2) l
  simpa using this
 ·have:i=j:=by omega
  subst this;exact O.irrefl _
def Ee (key:Keyed->O.α)(a b o:Array Keyed)(p q:Nat):Prop:=CW key (a.toList.take p) (b.toList.take q)++o.toList.reverse=CW key a.toList b.toList
section
variable {a b o:Array Keyed}{p q f:Nat}{x y:Keyed}
theorem Sm (I:Ee key a b o (p+1) q)(ex:a[p]?=some x)(h:∀i z,i < q->b[i]?=some z->O.blt (key z) (key x)=true):Ee key a b (o.push x) p q:=by
 unfold Ee at I ⊢;rw[JO ex,Dx x _ _ λz hz=>by obtain⟨i,hi,e⟩:=Gy hz;exact h i z hi e,List.append_assoc]at I
 rw[Array.toList_push,List.reverse_append];exact I
theorem UW (I:Ee key a b o p (q+1))(ey:b[q]?=some y)(h:∀i z,i < p->a[i]?=some z->O.blt (key y) (key z)=false):Ee key a b (o.push y) p q:=by
 unfold Ee at I ⊢;rw[JO ey,Dy y _ _ λz hz=>by obtain⟨i,hi,e⟩:=Gy hz;exact h i z hi e,List.append_assoc]at I
 rw[Array.toList_push,List.reverse_append];exact I
theorem UX (I:Ee key a b o p q)(hf:f<=p)(h:∀i u j z,f<=i->i < p->a[i]?=some u->j < q->b[j]?=some z->O.blt (key z) (key u)=true):Ee key a b (o++(a.extract f p).reverse) f q:=by
 unfold Ee at I ⊢
 rw[Dm a hf,Gv _ _ _ λu hu z hz=>by
  obtain⟨i,h1,h2,e⟩:=Ci hu;obtain⟨j,hj,e'⟩:=Gy hz;exact h i u j z h1 h2 e hj e',List.append_assoc]at I
 rw[Array.toList_append,List.reverse_append,Array.toList_reverse,List.reverse_reverse];exact I
theorem UY (I:Ee key a b o p q)(hf:f<=q)(h:∀i u j z,f<=i->i < q->b[i]?=some u->j < p->a[j]?=some z->O.blt (key u) (key z)=false):Ee key a b (o++(b.extract f q).reverse) p f:=by
 unfold Ee at I ⊢
 rw[Dm b hf,Gw _ _ _ λu hu z hz=>by
  obtain⟨i,h1,h2,e⟩:=Ci hu;obtain⟨j,hj,e'⟩:=Gy hz;exact h i u j z h1 h2 e hj e',List.append_assoc]at I
 rw[Array.toList_append,List.reverse_append,Array.toList_reverse,List.reverse_reverse];exact I
theorem JP (I:Ee key a b o p q)(h:p=0):(a.extract 0 p++b.extract 0 q++o.reverse).toList=CW key a.toList b.toList:=by
 subst h;unfold Ee at I;rw[Array.toList_append,Array.toList_append,Ed,Ed,<-I,List.take_zero,CB,Array.toList_reverse,List.nil_append]
theorem Sn (I:Ee key a b o p q)(h:q=0):(a.extract 0 p++b.extract 0 q++o.reverse).toList=CW key a.toList b.toList:=by
 subst h;unfold Ee at I;rw[Array.toList_append,Array.toList_append,Ed,Ed,<-I,List.take_zero,Bw,Array.toList_reverse,List.append_nil]
theorem Mg (T:OC key a₀ a b)(I:Ee key a b o p q)(h:q=1):(b.extract 0 q++a.extract 0 p++o.reverse).toList=CW key a.toList b.toList:=by
 subst h;obtain⟨y,ey⟩:=Ab (a:=b) (i:=0) T.nb;have e:b.toList.take 1=[y]:=JO ey;unfold Ee at I;rw[e,Nq y _ λz hz=>by obtain⟨i,hi,e'⟩:=Gy hz;exact T.fst z (BR e') y ey]at I
 rw[Array.toList_append,Array.toList_append,Ed,Ed,<-I,e,Array.toList_reverse];rfl
end
abbrev So:=Option (Array Keyed)×Nat×Nat×Array Keyed×Nat×Nat×Nat
def U4 (a b o:Array Keyed)(p q g c d:Nat):SM (ForInStep So):=do
 let x<-elem' a (p - 1)
 if p - 1==0 then return .done (some (a.extract 0 (p - 1)++b.extract 0 q++(o.push x).reverse),p - 1,q,o.push x,g,c,d)
 else if c < 7&&d < 7 then return .done (none,p - 1,q,o.push x,g,c,d)
 else return .yield (none,p - 1,q,o.push x,g,c,d)
def U5 (a b o:Array Keyed)(p q g c d:Nat):SM (ForInStep So):=do
 let y<-elem' b (q - 1)
 if q - 1==1 then return .done (some (b.extract 0 (q - 1)++a.extract 0 p++(o.push y).reverse),p,q - 1,o.push y,g,c,d)
 else
  let x<-elem' a (p - 1)
  let some f<-OB true x b 0 (q - 1) (q - 1 - 1)|return .done (some (a.extract 0 p++b.extract 0 (q - 1)++(o.push y).reverse),p,q - 1,o.push y,g,c,d)
  if q - 1 - f > 0 then
   if f==1 then return .done (some (b.extract 0 f++a.extract 0 p++(o.push y++(b.extract f (q - 1)).reverse).reverse),p,f,o.push y++(b.extract f (q - 1)).reverse,g,c,q - 1 - f)
   else if f==0 then return .done (some (a.extract 0 p++b.extract 0 f++(o.push y++(b.extract f (q - 1)).reverse).reverse),p,f,o.push y++(b.extract f (q - 1)).reverse,g,c,q - 1 - f)
   else U4 a b (o.push y++(b.extract f (q - 1)).reverse) p f g c (q - 1 - f)
  else U4 a b (o.push y) p (q - 1) g c (q - 1 - f)
def U6 (a b o:Array Keyed)(p q g c d:Nat):SM (ForInStep So):=do
 Np g
 let y<-elem' b (q - 1)
 let some f<-OB false y a 0 p (p - 1)|return .done (some (a.extract 0 p++b.extract 0 q++o.reverse),p,q,o,g,c,d)
 if p - f > 0 then
  if f==0 then return .done (some (a.extract 0 f++b.extract 0 q++(o++(a.extract f p).reverse).reverse),f,q,o++(a.extract f p).reverse,g,p - f,d)
  else U5 a b (o++(a.extract f p).reverse) f q g (p - f) d
 else U5 a b o p q g (p - f) d
def Vr (a b:Array Keyed)(c:So):SM (ForInStep So):=
 if c.2.2.2.2.1 > 1 then U6 a b c.2.2.2.1 c.2.1 c.2.2.1 (c.2.2.2.2.1 - 1) c.2.2.2.2.2.1 c.2.2.2.2.2.2
 else U6 a b c.2.2.2.1 c.2.1 c.2.2.1 c.2.2.2.2.1 c.2.2.2.2.2.1 c.2.2.2.2.2.2
structure JQ (key:Keyed->O.α)(a b:Array Keyed)(st:SortSt)(m:Nat)(R:ForInStep So->SortSt->Prop):Prop where
 fin:∀(out:Array Keyed) c g,out.toList=CW key a.toList b.toList->R (.done (some out,c)) (setG st g)
 brk:∀o p q g c d g',Ee key a b o p q->0 < p->p<=a.size->1 < q->q<=b.size->p+q<=m->R (.done (none,p,q,o,g,c,d)) (setG st g')
 yld:∀o p q g c d g',Ee key a b o p q->0 < p->p<=a.size->1 < q->q<=b.size->p+q<=m->R (.yield (none,p,q,o,g,c,d)) (setG st g')
section
variable {a b o:Array Keyed}{p q k g c d m g':Nat}{x y:Keyed}{st:SortSt}{R:ForInStep So->SortSt->Prop}
theorem PF (G:JQ key a b st m R)(I:Ee key a b o (p+1) q)(hp:p+1<=a.size)(hq:1 < q)(hq':q<=b.size)(hm:p+q<=m)(h:∀x i z,a[p]?=some x->i < q->b[i]?=some z->O.blt (key z) (key x)=true):
 wpS (model prog w) A E s (U4 a b o (p+1) q g c d) R (setG st g'):=by
 obtain⟨x,ex⟩:=Ab (a:=a) (i:=p) (by omega)
 unfold U4;rw[Nat.add_sub_cancel];refine wpS_bind (Ao ex ?_)
 have I':=Sm I ex λi z=>h x i z ex
 by_cases e:p=0
 ·rw[if_pos (by simpa using e)]
  exact wpS_pure (G.fin _ _ _ (JP I' e))
 ·rw[if_neg (by simpa using e)]
  split
  ·exact wpS_pure (G.brk _ _ _ _ _ _ _ I' (by omega) (by omega) hq hq' hm)
  ·exact wpS_pure (G.yld _ _ _ _ _ _ _ I' (by omega) (by omega) hq hq' hm)
theorem PJ (C:Jn prog w A E s a₀ κ O key)(T:OC key a₀ a b)(hk:kindOf st=κ)(G:JQ key a b st m R)(I:Ee key a b o (p+1) (q+1))(hp:p+1<=a.size)(hq:1 < q+1)(hq':q+1<=b.size)(hm:p+q<=m)
 (h:∀y i z,b[q]?=some y->i < p+1->a[i]?=some z->O.blt (key y) (key z)=false):
 wpS (model prog w) A E s (U5 a b o (p+1) (q+1) g c d) R (setG st g'):=by
 obtain⟨x,ex⟩:=Ab (a:=a) (i:=p) (by omega)
 obtain⟨y,ey⟩:=Ab (a:=b) (i:=q) (by omega)
 unfold U5;rw[Nat.add_sub_cancel,Nat.add_sub_cancel];refine wpS_bind (Ao ey ?_)
 have I':=UW I ey λi z=>h y i z ey
 by_cases e:q=1
 ·rw[if_pos (by simpa using e)]
  exact wpS_pure (G.fin _ _ _ (Mg T I' e))
 ·rw[if_neg (by simpa using e)]
  refine wpS_bind (Ao ex ?_)
  refine wpS_bind (Fd C (λi=>match b[0+i]? with|some y=>O.blt (key y) (key x)|none=>false) (T.ma x (BR ex)) hk (λi hi=>?_) (λi j hij hj=>?_) (by omega) λf hf' ht hf=>?_)
  ·obtain⟨z,ez⟩:=Ab (a:=b) (i:=0+i) (by omega)
   refine⟨z,ez,T.mb z (BR ez),?_⟩
   rw[ez];rfl
  ·obtain⟨z,ez⟩:=Ab (a:=b) (i:=0+i) (by omega)
   obtain⟨v,ev⟩:=Ab (a:=b) (i:=0+j) (by omega)
   rw[ez,ev];exact λhv=>KeyOrd.klt_of_kle_of_klt (O:=O) (a:=key z) (b:=key v) (c:=key x) (Ff T.sb ez ev (by omega)) hv
  ·have fs:∀i y,i < f->b[i]?=some y->O.blt (key y) (key x)=true:=λi y hi e=>by
    have:=ht i hi;rw[Nat.zero_add,e]at this;exact this
   have nx:∀i u,f<=i->i < q->b[i]?=some u->O.blt (key u) (key x)=false:=λi u h1 h2 e=>by
    have:=hf i h1 h2;rw[Nat.zero_add,e]at this;exact this
   have go:∀x' i z,a[p]?=some x'->i < f->b[i]?=some z->O.blt (key z) (key x')=true:=λx' i z e1 hi e=>by
    rw[ex]at e1;cases e1;exact fs i z hi e
   dsimp only
   by_cases k0:q - f > 0
   ·rw[if_pos k0]
    have I2:=UY I' hf' λi u j z h1 h2 e1 hj e2=>B7 (Ff T.sa e2 ex (by omega)) (nx i u h1 h2 e1)
    by_cases e1:f=1
    ·rw[if_pos (by simpa using e1)]
     exact wpS_pure (G.fin _ _ _ (Mg T I2 e1))
    ·rw[if_neg (by simpa using e1)]
     by_cases e2:f=0
     ·rw[if_pos (by simpa using e2)]
      exact wpS_pure (G.fin _ _ _ (Sn I2 e2))
     ·rw[if_neg (by simpa using e2)]
      exact PF G I2 hp (by omega) (by omega) (by omega) go
   ·rw[if_neg k0]
    have:f=q:=by omega
    subst this;exact PF G I' hp (by omega) (by omega) (by omega) go
theorem PK (C:Jn prog w A E s a₀ κ O key)(T:OC key a₀ a b)(hk:kindOf st=κ)(G:JQ key a b st m R)(I:Ee key a b o p (q+1))(hp:0 < p)(hp':p<=a.size)(hq:1 < q+1)(hq':q+1<=b.size)(hm:p+q<=m+1):
 wpS (model prog w) A E s (U6 a b o p (q+1) g c d) R (setG st g'):=by
 obtain⟨y,ey⟩:=Ab (a:=b) (i:=q) (by omega)
 unfold U6;rw[Nat.add_sub_cancel];refine wpS_bind (wpS_modify ?_)
 refine wpS_bind (Ao ey ?_)
 refine wpS_bind (Fd C (λi=>match a[0+i]? with|some x=>!O.blt (key y) (key x)|none=>false) (T.mb y (BR ey)) hk (λi hi=>?_) (λi j hij hj=>?_) (by omega) λf hf' ht hf=>?_)
 ·obtain⟨z,ez⟩:=Ab (a:=a) (i:=0+i) (by omega)
  refine⟨z,ez,T.ma z (BR ez),?_⟩
  rw[ez];rfl
 ·obtain⟨z,ez⟩:=Ab (a:=a) (i:=0+i) (by omega)
  obtain⟨v,ev⟩:=Ab (a:=a) (i:=0+j) (by omega)
  rw[ez,ev]
  dsimp only
  intro hv;have hv:O.blt (key y) (key v)=false:=by simpa using hv
  rw[B7 (Ff T.sa ez ev (by omega)) hv];rfl
 ·have fs:∀i x,i < f->a[i]?=some x->O.blt (key y) (key x)=false:=λi x hi e=>by
   have:=ht i hi;rw[Nat.zero_add,e]at this;simpa using this
  have nx:∀i u,f<=i->i < p->a[i]?=some u->O.blt (key y) (key u)=true:=λi u h1 h2 e=>by
   have:=hf i h1 h2;rw[Nat.zero_add,e]at this;simpa using this
  have go:∀y' i z,b[q]?=some y'->i < f->a[i]?=some z->O.blt (key y') (key z)=false:=λy' i z e1 hi e=>by
   rw[ey]at e1;cases e1;exact fs i z hi e
  dsimp only
  by_cases k0:p - f > 0
  ·rw[if_pos k0]
   have I2:=UX I hf' λi u j z h1 h2 e1 hj e2=>KeyOrd.klt_of_kle_of_klt (O:=O) (a:=key z) (b:=key y) (c:=key u) (Ff T.sb e2 ey (by omega)) (nx i u h1 h2 e1)
   by_cases e2:f=0
   ·rw[if_pos (by simpa using e2)]
    exact wpS_pure (G.fin _ _ _ (JP I2 e2))
   ·rw[if_neg (by simpa using e2)]
    obtain⟨f',rfl⟩:∃f',f=f'+1:=⟨f - 1,by omega⟩
    exact PJ (st:=st) C T hk G I2 (by omega) hq hq' (by omega) go
  ·rw[if_neg k0]
   have:f=p:=by omega
   subst this;obtain⟨f',rfl⟩:∃f',f=f'+1:=⟨f - 1,by omega⟩
   exact PJ (st:=st) C T hk G I (by omega) hq hq' (by omega) go
theorem Sq (C:Jn prog w A E s a₀ κ O key)(T:OC key a₀ a b)(hk:kindOf st=κ)(G:JQ key a b st m R)(I:Ee key a b o p q)(hp:0 < p)(hp':p<=a.size)(hq:1 < q)(hq':q<=b.size)(hm:p+q<=m+2):
 wpS (model prog w) A E s (Vr a b (none,p,q,o,g,c,d)) R (setG st g'):=by
 obtain⟨q,rfl⟩:∃q',q=q'+1:=⟨q - 1,by omega⟩
 unfold Vr
 split
 ·exact PK (p:=p) (q:=q) C T hk G I hp hp' hq hq' (by omega)
 ·exact PK (p:=p) (q:=q) C T hk G I hp hp' hq hq' (by omega)
end
theorem Sr (C:Jn prog w A E s a₀ κ O key){a b:Array Keyed}(T:OC key a₀ a b){st:SortSt}(hk:kindOf st=κ){Q:Array Keyed->SortSt->Prop}(h:∀(o:Array Keyed) (g:Nat),o.toList=CW key a.toList b.toList->Q o (setG st g)):
 wpS (model prog w) A E s (Vf a b) Q st:=by
 have na:=T.na;have nb:=T.nb;obtain⟨x0,ex⟩:=Ab (a:=a) (i:=a.size - 1) (by omega)
 rw[Sb];refine wpS_bind (wpS_lift (wpAny_rule ⟨rfl,?_⟩))
 dsimp only
 refine wpS_bind (Ao ex ?_)
 have I0:Ee key a b #[x0] (a.size - 1) b.size:=Sm (o:=#[]) (by
  unfold Ee;rw[show a.size - 1+1=a.size by omega,List.take_of_length_le (l:=a.toList) (by simp),List.take_of_length_le (l:=b.toList) (by simp)]
  simp) ex λi z hi e=>T.lst z (BR e) x0 ex
 have e0:st=setG st (gallopOf st):=rfl
 by_cases e1:a.size - 1=0
 ·rw[if_pos (by simpa using e1)]
  exact wpS_pure (h _ (gallopOf st) (JP I0 e1))
 rw[if_neg (by simpa using e1)]
 by_cases e2:b.size=1
 ·rw[if_pos (by simpa using e2)]
  exact wpS_pure (h _ (gallopOf st) (Mg T I0 e2))
 rw[if_neg (by simpa using e2)]
 refine wpS_bind (wpS_get ?_)
 refine wpS_bind (wpS_mono (wpS_forRange (I:=λt c st'=>∃o p q g g',c=(none,p,q,o,g)/\st'=setG st g'/\Ee key a b o p q/\0 < p/\p<=a.size/\1 < q/\q<=b.size/\t+1+p+q<=a.size+b.size)
  (Q:=λc st'=>∃out c' g',c=(some out,c')/\st'=setG st g'/\out.toList=CW key a.toList b.toList) ?step ?fin ⟨_,_,_,_,_,rfl,e0,I0,by omega,by omega,by omega,by omega,by omega⟩) ?post)
 case post=>
  rintro c st' ⟨out,c',g',rfl,rfl,e⟩;exact wpS_pure (h _ _ e)
 case fin=>
  rintro c st' ⟨o,p,q,g,g',rfl,rfl,I,a1,a2,a3,a4,a5⟩;omega
 case step=>
  rintro t c st' _ ht ⟨o,p,q,g,g',rfl,rfl,I,a1,a2,a3,a4,a5⟩
  dsimp only
  refine wpS_bind (wpS_mono (wpS_forRange (I:=λt' c st'=>∃o' p' q' c' d',c=(none,p',q',o',c',d')/\st'=setG st g'/\Ee key a b o' p' q'/\0 < p'/\p'<=a.size/\1 < q'/\q'<=b.size/\p'+q'+t'<=p+q)
   (Q:=λc st'=>st'=setG st g'/\((∃out c',c=(some out,c')/\out.toList=CW key a.toList b.toList)\/∃o' p' q' c' d',c=(none,p',q',o',c',d')/\Ee key a b o' p' q'/\0 < p'/\p'<=a.size/\1 < q'/\q'<=b.size/\p'+q'+1<=p+q)) ?s1 ?f1 ⟨_,_,_,_,_,rfl,rfl,I,a1,a2,a3,a4,by omega⟩) ?p1)
  case f1=>
   rintro c st' ⟨o',p',q',c',d',rfl,rfl,I',b1,b2,b3,b4,b5⟩;omega
  case s1=>
   rintro t' c st' _ ht' ⟨o',p',q',c',d',rfl,rfl,I',b1,b2,b3,b4,b5⟩;obtain⟨p',rfl⟩:∃z,p'=z+1:=⟨p' - 1,by omega⟩
   obtain⟨q',rfl⟩:∃z,q'=z+1:=⟨q' - 1,by omega⟩
   simp only[Nat.add_sub_cancel];obtain⟨x,ex'⟩:=Ab (a:=a) (i:=p') (by omega)
   obtain⟨y,ey'⟩:=Ab (a:=b) (i:=q') (by omega)
   refine wpS_bind (Ao ey' (wpS_bind (Ao ex' (wpS_bind (C y x _ _ (T.mb y (BR ey')) (T.ma x (BR ex')) hk ?_)))))
   dsimp only
   cases e:O.blt (key y) (key x)with
   |true=>
    rw[if_pos rfl];refine wpS_bind (Ao ex' ?_)
    have I2:=Sm I' ex' λi z hi ez=>KeyOrd.klt_of_kle_of_klt (O:=O) (a:=key z) (b:=key y) (c:=key x) (Ff T.sb ez ey' (by omega)) e
    by_cases f1:p'=0
    ·rw[if_pos (by simpa using f1)]
     exact wpS_pure ⟨rfl,.inl ⟨_,_,rfl,JP I2 f1⟩⟩
    ·rw[if_neg (by simpa using f1)]
     split
     ·exact wpS_pure ⟨rfl,.inr ⟨_,_,_,_,_,rfl,I2,by omega,by omega,by omega,by omega,by omega⟩⟩
     ·exact wpS_pure ⟨_,_,_,_,_,rfl,rfl,I2,by omega,by omega,by omega,by omega,by omega⟩
   |false=>
    rw[if_neg (by simp)]
    refine wpS_bind (Ao ey' ?_)
    have I2:=UW I' ey' λi z hi ez=>B7 (Ff T.sa ez ex' (by omega)) e
    by_cases f1:q'=1
    ·rw[if_pos (by simpa using f1)]
     exact wpS_pure ⟨rfl,.inl ⟨_,_,rfl,Mg T I2 f1⟩⟩
    ·rw[if_neg (by simpa using f1)]
     split
     ·exact wpS_pure ⟨rfl,.inr ⟨_,_,_,_,_,rfl,I2,by omega,by omega,by omega,by omega,by omega⟩⟩
     ·exact wpS_pure ⟨_,_,_,_,_,rfl,rfl,I2,by omega,by omega,by omega,by omega,by omega⟩
  case p1=>
   rintro c st' ⟨rfl,⟨out,c',rfl,e⟩|⟨o',p',q',c',d',rfl,I',b1,b2,b3,b4,b5⟩⟩
   ·exact wpS_pure ⟨_,_,_,rfl,rfl,e⟩
   ·dsimp only
    refine wpS_bind (wpS_lift (wpAny_rule ⟨rfl,?_⟩))
    refine wpS_bind (wpS_mono (wpS_forRange (I:=λt' c st'=>∃o' p' q' g c' d' g',c=(none,p',q',o',g,c',d')/\st'=setG st g'/\Ee key a b o' p' q'/\0 < p'/\p'<=a.size/\1 < q'/\q'<=b.size/\p'+q'+1+t'<=p+q)
     (Q:=λc st'=>(∃out c' g',c=(some out,c')/\st'=setG st g'/\out.toList=CW key a.toList b.toList)\/∃o' p' q' g c' d' g',c=(none,p',q',o',g,c',d')/\st'=setG st g'/\Ee key a b o' p' q'/\0 < p'/\p'<=a.size/\1 < q'/\q'<=b.size/\p'+q'+1<=p+q) ?s2 ?f2 ⟨_,_,_,_,_,_,_,rfl,rfl,I',b1,b2,b3,b4,by omega⟩) ?p2)
    case f2=>
     rintro c st' ⟨o',p',q',g,c',d',g',rfl,rfl,I',b1,b2,b3,b4,b5⟩;omega
    case s2=>
     rintro t' c st' _ ht' ⟨o',p',q',g,c',d',g',rfl,rfl,I',b1,b2,b3,b4,b5⟩;exact Sq (m:=p'+q' - 2) C T hk ⟨λout c g e=>.inl ⟨_,_,_,rfl,rfl,e⟩,λo p q g c d g' I h1 h2 h3 h4 h5=>.inr ⟨_,_,_,_,_,_,_,rfl,rfl,I,h1,h2,h3,h4,by omega⟩,λo p q g c d g' I h1 h2 h3 h4 h5=>⟨_,_,_,_,_,_,_,rfl,rfl,I,h1,h2,h3,h4,by omega⟩⟩ I' b1 b2 b3 b4 (by omega)
    case p2=>
     rintro c st' (⟨out,c',g',rfl,rfl,e⟩|⟨o',p',q',g,c',d',g',rfl,rfl,I',b1,b2,b3,b4,b5⟩)
     ·exact wpS_pure ⟨_,_,_,rfl,rfl,e⟩
     ·exact wpS_bind (wpS_modify (wpS_pure ⟨o',p',q',_,_,rfl,rfl,I',b1,b2,b3,b4,by omega⟩))
end
end Tim
namespace Tim
open PySem PyProof.Rows
section
variable {prog:Program}{w:World}{A:Around}{E:Value->Shared->Prop}{s:Shared}{a₀:Array Keyed}{κ:SortKind}{O:KeyOrd}{key:Keyed->O.α}
theorem Mh:∀(l:List Keyed) (b m:Nat) (xs:Array Keyed),b+m+l.length<=xs.size->
 ((l.zipIdx m).foldl (λa (p,j)=>a.setIfInBounds (b+j) p) xs).toList=xs.toList.take (b+m)++l++xs.toList.drop (b+m+l.length)
 |[],b,m,xs,h=>by simp
 |x::l,b,m,xs,h=>by
  rw[List.length_cons]at h;rw[List.zipIdx_cons,List.foldl_cons];have:=Mh l b (m+1) (xs.setIfInBounds (b+m) x) (by rw[Array.size_setIfInBounds];omega)
  rw[this,Array.toList_setIfInBounds,List.length_cons,<-Nat.add_assoc b m 1];have hl:b+m < xs.toList.length:=by simp;omega
  have e1:(xs.toList.set (b+m) x).take (b+m+1)=xs.toList.take (b+m)++[x]:=by
   rw[List.take_succ_eq_append_getElem (by simpa using hl),List.take_set_of_le (Nat.le_refl _),List.getElem_set_self]
  have e2:(xs.toList.set (b+m) x).drop (b+m+1+l.length)=xs.toList.drop (b+m+(l.length+1)):=by
   rw[List.drop_set_of_lt (by omega)]
   congr 1
   omega
  rw[e1,e2,List.append_assoc,List.append_assoc,List.append_assoc];rfl
abbrev Seg (key:Keyed->O.α)(xs:Array Keyed)(i j:Nat):Prop:=∀p q x y,i<=p->p<=q->q < j->xs[p]?=some x->xs[q]?=some y->O.blt (key y) (key x)=false
theorem JR {xs:Array Keyed}{i j:Nat}(h:Seg key xs i j):O9 key (xs.extract i j).toList:=by
 refine List.pairwise_iff_getElem.mpr λp q hp hq hpq=>?_
 rw[Array.getElem_toList,Array.getElem_toList,Array.getElem_extract,Array.getElem_extract];have hq':q < min (j - i) (xs.size - i):=by simpa using hq
 exact h (i+p) (i+q) _ _ (by omega) (by omega) (by omega) (Array.getElem?_eq_getElem _) (Array.getElem?_eq_getElem _)
theorem Mi {xs:Array Keyed}{i j i' j':Nat}(h:Seg key xs i j)(h1:i<=i')(h2:j'<=j):Seg key xs i' j':=λp q x y a b c=>h p q x y (by omega) b (by omega)
theorem JS {xs ys:Array Keyed}{i j:Nat}(h:Seg key xs i j)(e:∀t,i<=t->t < j->ys[t]?=xs[t]?):Seg key ys i j:=λp q x y a b c ex ey=>h p q x y a b c (by rw[<-e p a (by omega)];exact ex) (by rw[<-e q (by omega) c];exact ey)
theorem Gz {xs ys:Array Keyed}(h:xs.Perm ys){x:Keyed}(hx:x∈xs):x∈ys:=(Array.perm_iff_toList_perm.mp h).mem_iff.mp (Array.mem_toList_iff.mpr hx)|> Array.mem_toList_iff.mp
theorem three (L:List Keyed){u v:Nat}(h:u<=v):L=L.take u++(L.drop u).take (v - u)++L.drop v:=by
 have e:L.drop v=(L.drop u).drop (v - u):=by rw[List.drop_drop];congr 1;omega
 rw[e,List.append_assoc,List.take_append_drop,List.take_append_drop]
abbrev EK (p:Array (Nat×Nat×Nat))(i sa n pw:Nat):Array (Nat×Nat×Nat):=(p.setIfInBounds i (sa,n,pw)).eraseIdxIfInBounds (i+1)
theorem Ss (C:Jn prog w A E s a₀ κ O key){st:SortSt}{i sa na pw sb nb pw':Nat}{Q:Bool->SortSt->Prop}(hk:kindOf st=κ)(hf:failedOf st=none)(hp:(arrOf st).Perm a₀)
 (e1:(pendingOf st)[i]?=some (sa,na,pw))(e2:(pendingOf st)[i+1]?=some (sb,nb,pw'))(hsb:sb=sa+na)(n1:1<=na)(n2:1<=nb)(hz:sb+nb<=(arrOf st).size)
 (s1:Seg key (arrOf st) sa sb)(s2:Seg key (arrOf st) sb (sb+nb))
 (h:∀(arr':Array Keyed) (g:Nat),arr'.Perm a₀->(∀t,t < sa\/sb+nb<=t->arr'[t]?=(arrOf st)[t]?)->Seg key arr' sa (sb+nb)->Q true (SortSt.mk' κ arr' (EK (pendingOf st) i sa (na+nb) pw) g none)):
 wpS (model prog w) A E s (mergeAt' i) Q st:=by
 subst hk;rw[Sd];refine wpS_bind (wpS_get ?_)
 rw[e1,e2]
 dsimp only
 generalize hL:arrOf st=xs at*;refine wpS_bind (show wpS _ _ _ _ (modify λ_=>setPending st (EK (pendingOf st) i sa (na+nb) pw)) _ _ from wpS_modify ?_)
 have Ek:Q true (setPending st (EK (pendingOf st) i sa (na+nb) pw))↔Q true (SortSt.mk' (kindOf st) xs (EK (pendingOf st) i sa (na+nb) pw) (gallopOf st) none):=by
  show Q true (SortSt.mk' (kindOf st) (arrOf st) _ (gallopOf st) (failedOf st))↔_;rw[hL,hf]
 obtain⟨y0,ey⟩:=Ab (a:=xs) (i:=sb) (by omega)
 refine wpS_bind (Ao ey ?_)
 have mem:∀{t z},xs[t]?=some z->z∈a₀:=λe=>Gz hp (BR e)
 refine wpS_bind (Fd C (λt=>match xs[sa+t]? with|some x=>!O.blt (key y0) (key x)|none=>false) (mem ey) rfl (λt ht=>?_) (λt u htu hu=>?_) (by omega) λk hk' ht hf'=>?_)
 ·obtain⟨z,ez⟩:=Ab (a:=xs) (i:=sa+t) (by omega)
  refine⟨z,ez,mem ez,?_⟩
  rw[ez];rfl
 ·obtain⟨z,ez⟩:=Ab (a:=xs) (i:=sa+t) (by omega)
  obtain⟨v,ev⟩:=Ab (a:=xs) (i:=sa+u) (by omega)
  rw[ez,ev]
  dsimp only
  intro hv;have hv:O.blt (key y0) (key v)=false:=by simpa using hv
  rw[B7 (s1 _ _ _ _ (by omega) (by omega) (by omega) ez ev) hv];rfl
 have lowA:∀t x,sa<=t->t < sa+k->xs[t]?=some x->O.blt (key y0) (key x)=false:=λt x h1 h2 e=>by
  have:=ht (t - sa) (by omega)
  rw[show sa+(t - sa)=t by omega,e]at this
  simpa using this
 have highA:∀t x,sa+k<=t->t < sb->xs[t]?=some x->O.blt (key y0) (key x)=true:=λt x h1 h2 e=>by
  have:=hf' (t - sa) (by omega) (by omega)
  rw[show sa+(t - sa)=t by omega,e]at this
  simpa using this
 dsimp only
 by_cases c1:na - k=0
 ·rw[if_pos (by simpa using c1)]
  refine wpS_pure (Ek.mpr (h xs _ hp (λ_ _=>rfl) λp q x y a b c ex ey'=>?_))
  rcases Nat.lt_or_ge q sb with l|l
  ·exact s1 p q x y a b l ex ey'
  ·rcases Nat.lt_or_ge p sb with l'|l'
   ·exact B7 (lowA p x a (by omega) ex) (s2 sb q y0 y (Nat.le_refl _) l c ey ey')
   ·exact s2 p q x y l' b c ex ey'
 rw[if_neg (by simpa using c1)]
 obtain⟨x1,ex⟩:=Ab (a:=xs) (i:=sa+k+(na - k) - 1) (by omega)
 have ex1:xs[sb - 1]?=some x1:=by rw[<-ex];congr 1;omega
 refine wpS_bind (Ao ex ?_)
 refine wpS_bind (Fd C (λt=>match xs[sb+t]? with|some y=>O.blt (key y) (key x1)|none=>false) (mem ex) rfl (λt ht=>?_) (λt u htu hu=>?_) (by omega) λm hm' gt gf=>?_)
 ·obtain⟨z,ez⟩:=Ab (a:=xs) (i:=sb+t) (by omega)
  refine⟨z,ez,mem ez,?_⟩
  rw[ez];rfl
 ·obtain⟨z,ez⟩:=Ab (a:=xs) (i:=sb+t) (by omega)
  obtain⟨v,ev⟩:=Ab (a:=xs) (i:=sb+u) (by omega)
  rw[ez,ev];exact λhv=>KeyOrd.klt_of_kle_of_klt (O:=O) (a:=key z) (b:=key v) (c:=key x1) (s2 _ _ _ _ (by omega) (by omega) (by omega) ez ev) hv
 have lowB:∀t y,sb<=t->t < sb+m->xs[t]?=some y->O.blt (key y) (key x1)=true:=λt y h1 h2 e=>by
  have:=gt (t - sb) (by omega)
  rw[show sb+(t - sb)=t by omega,e]at this
  exact this
 have highB:∀t y,sb+m<=t->t < sb+nb->xs[t]?=some y->O.blt (key y) (key x1)=false:=λt y h1 h2 e=>by
  have:=gf (t - sb) (by omega) (by omega)
  rw[show sb+(t - sb)=t by omega,e]at this
  exact this
 dsimp only
 by_cases c2:m=0
 ·exfalso
  have a1:=highB sb y0 (by omega) (by omega) ey
  have a2:=highA (sb - 1) x1 (by omega) (by omega) ex1
  rw[a1]at a2;cases a2
 rw[if_neg (by simpa using c2)]
 have T:OC key a₀ (xs.extract (sa+k) sb) (xs.extract sb (sb+m)):=by
  have za:(xs.extract (sa+k) sb).size=sb - (sa+k):=by simp;omega
  refine⟨λx hx=>?_,λx hx=>?_,by omega,by simp;omega,JR (Mi s1 (by omega) (Nat.le_refl _)),JR (Mi s2 (Nat.le_refl _) (by omega)),λx hx y e=>?_,λy hy x e=>?_⟩
  ·obtain⟨t,_,_,e⟩:=Ci (Array.mem_toList_iff.mpr hx);exact mem e
  ·obtain⟨t,_,_,e⟩:=Ci (Array.mem_toList_iff.mpr hx);exact mem e
  ·obtain⟨t,b1,b2,et⟩:=Ci (Array.mem_toList_iff.mpr hx)
   rw[Array.getElem?_extract,if_pos (by omega),Nat.add_zero,ey]at e
   cases e;exact highA t x b1 b2 et
  ·obtain⟨t,b1,b2,et⟩:=Ci (Array.mem_toList_iff.mpr hy)
   rw[za,Array.getElem?_extract,if_pos (by omega),show sa+k+(sb - (sa+k) - 1)=sb - 1 by omega,ex1]at e
   cases e;exact lowB t y b1 b2 et
 have fin:∀(o:Array Keyed) (g:Nat),o.toList=CW key (xs.extract (sa+k) sb).toList (xs.extract sb (sb+m)).toList->
  wpS (model prog w) A E s (do
   modify λs=>setArr s (o.toList.zipIdx.foldl (λa (p,j)=>a.setIfInBounds (sa+k+j) p) (arrOf s))
   return(failedOf (<-get)).isNone) Q (setG (setPending st (EK (pendingOf st) i sa (na+nb) pw)) g):=λo g ho=>by
  refine wpS_bind (wpS_modify (wpS_bind (wpS_get (wpS_pure ?_))))
  show Q (failedOf st).isNone (SortSt.mk' (kindOf st) (o.toList.zipIdx.foldl (λa (p,j)=>a.setIfInBounds (sa+k+j) p) (arrOf st)) _ g (failedOf st))
  rw[hL,hf];have pm:o.toList.Perm ((xs.extract (sa+k) sb).toList++(xs.extract sb (sb+m)).toList):=by rw[ho];exact Dk _ _
  have ln:o.toList.length=sb+m - (sa+k):=by
   rw[pm.length_eq];simp;omega
  have wl:=Mh o.toList (sa+k) 0 xs (by rw[ln];omega)
  rw[Nat.add_zero,ln,show sa+k+(sb+m - (sa+k))=sb+m by omega]at wl
  generalize List.foldl (λa (x:Keyed×Nat)=>a.setIfInBounds (sa+k+x.snd) x.fst) xs o.toList.zipIdx=arr' at wl
  have z1:∀t,t < sa+k->arr'[t]?=xs[t]?:=λt h1=>by
   rw[<-Array.getElem?_toList,wl,List.append_assoc,List.getElem?_append_left (by simp;omega),List.getElem?_take_of_lt h1,Array.getElem?_toList]
  have tk:(xs.toList.take (sa+k)).length=sa+k:=by simp;omega
  have z2:∀t,sa+k<=t->t < sb+m->arr'[t]?=o.toList[t - (sa+k)]?:=λt h1 h2=>by
   rw[<-Array.getElem?_toList,wl,List.append_assoc,List.getElem?_append_right (by rw[tk];exact h1),tk,List.getElem?_append_left (by rw[ln];omega)]
  have z3:∀t,sb+m<=t->arr'[t]?=xs[t]?:=λt h1=>by
   rw[<-Array.getElem?_toList,wl,List.getElem?_append_right (by rw[List.length_append,tk,ln];omega),List.length_append,tk,ln,List.getElem?_drop,<-Array.getElem?_toList]
   congr 1
   omega
  have at2:∀t z,sa+k<=t->t < sb+m->arr'[t]?=some z->∃t',xs[t']?=some z/\sa+k<=t'/\t' < sb+m:=λt z h1 h2 e=>by
   rw[z2 t h1 h2]at e
   rcases List.mem_append.mp (pm.mem_iff.mp (List.mem_of_getElem? e))with hz'|hz'
   ·obtain⟨t',b1,b2,e'⟩:=Ci hz';exact⟨t',e',b1,by omega⟩
   ·obtain⟨t',b1,b2,e'⟩:=Ci hz';exact⟨t',e',by omega,b2⟩
  refine h arr' g ?_ (λt ht=>?_) λp q x y a b c ex' ey'=>?_
  ·refine Array.Perm.trans (Array.perm_iff_toList_perm.mpr ?_) hp
   rw[wl,three xs.toList (u:=sa+k) (v:=sb+m) (by omega)]
   have e3:(xs.toList.drop (sa+k)).take (sb+m - (sa+k))=(xs.extract (sa+k) sb).toList++(xs.extract sb (sb+m)).toList:=by
    have q1:=Dm xs (f:=sb) (p:=sb+m) (by omega)
    have q2:=Dm xs (f:=sa+k) (p:=sb) (by omega)
    have q3:=Dm xs (f:=sa+k) (p:=sb+m) (by omega)
    rw[q1,q2,List.append_assoc]at q3;have:=List.append_cancel_left q3;rw[this,Array.toList_extract,List.extract_eq_drop_take]
   have len:(List.take (sa+k) xs.toList++List.take (sb+m - (sa+k)) (List.drop (sa+k) xs.toList)++List.drop (sb+m) xs.toList)=xs.toList:=(three xs.toList (by omega)).symm
   rw[len]
   conv=>rhs;rw[three xs.toList (u:=sa+k) (v:=sb+m) (by omega),e3]
   exact((List.Perm.refl _).append pm).append (.refl _)
  ·rcases ht with ht|ht
   ·exact z1 t (by omega)
   ·exact z3 t (by omega)
  ·have y0le:∀t z,sb<=t->t < sb+nb->xs[t]?=some z->O.blt (key z) (key y0)=false:=λt z h1 h2 e=>s2 sb t y0 z (Nat.le_refl _) h1 h2 ey e
   have lex1:∀t z,sa<=t->t < sb->xs[t]?=some z->O.blt (key x1) (key z)=false:=λt z h1 h2 e=>s1 t (sb - 1) z x1 h1 (by omega) (by omega) e ex1
   rcases Nat.lt_or_ge p (sa+k)with p1|p1
   ·rw[z1 p p1]at ex'
    have lo1:=lowA p x a p1 ex'
    have low:∀t z,p<=t->t < sb+nb->xs[t]?=some z->O.blt (key z) (key x)=false:=λt z h1 h2 e=>by
     rcases Nat.lt_or_ge t sb with l|l
     ·exact s1 p t x z a h1 l ex' e
     ·exact B7 lo1 (y0le t z l h2 e)
    rcases Nat.lt_or_ge q (sa+k)with q1|q1
    ·rw[z1 q q1]at ey';exact low q y b c ey'
    ·rcases Nat.lt_or_ge q (sb+m)with q2|q2
     ·obtain⟨t,e,b1,b2⟩:=at2 q y q1 q2 ey'
      exact low t y (by omega) (by omega) e
     ·rw[z3 q q2]at ey';exact low q y b c ey'
   ·rcases Nat.lt_or_ge p (sb+m)with p2|p2
    ·rcases Nat.lt_or_ge q (sb+m)with q2|q2
     ·rw[z2 p p1 p2]at ex'
      rw[z2 q (by omega) q2]at ey'
      rcases Nat.lt_or_ge p q with l|l
      ·obtain⟨g1,rfl⟩:=List.getElem?_eq_some_iff.mp ex'
       obtain⟨g2,rfl⟩:=List.getElem?_eq_some_iff.mp ey'
       have so:O9 key o.toList:=by rw[ho];exact JL _ _ T.sa T.sb
       exact List.pairwise_iff_getElem.mp so _ _ g1 g2 (by omega)
      ·have:p=q:=by omega
       subst this;rw[ex']at ey';cases ey';exact O.irrefl _
     ·obtain⟨t,e,b1,b2⟩:=at2 p x p1 p2 ex'
      rw[z3 q q2]at ey'
      rcases Nat.lt_or_ge t sb with l|l
      ·exact B7 (lex1 t x (by omega) l e) (highB q y q2 c ey')
      ·exact s2 t q x y l (by omega) c e ey'
    ·rw[z3 p p2]at ex'
     rw[z3 q (by omega)]at ey'
     exact s2 p q x y (by omega) b c ex' ey'
 split
 ·exact wpS_bind (Sk (st:=setPending st (EK (pendingOf st) i sa (na+nb) pw)) C T rfl λo g ho=>fin o g ho)
 ·exact wpS_bind (Sr (st:=setPending st (EK (pendingOf st) i sa (na+nb) pw)) C T rfl λo g ho=>fin o g ho)
end
end Tim
namespace Tim
open PySem PyProof.Rows
section
variable {prog:Program}{w:World}{A:Around}{E:Value->Shared->Prop}{s:Shared}{a₀:Array Keyed}{κ:SortKind}{O:KeyOrd}{key:Keyed->O.α}
def Lj (key:Keyed->O.α)(a₀:Array Keyed):Prop:=(a₀.toList.map key).Nodup
theorem Lj.inj (D:Lj key a₀){xs:Array Keyed}(h:xs.Perm a₀){i j:Nat}{x y:Keyed}(ex:xs[i]?=some x)(ey:xs[j]?=some y)(h1:O.blt (key x) (key y)=false)(h2:O.blt (key y) (key x)=false):i=j:=by
 have nd:(xs.toList.map key).Nodup:=(List.Perm.nodup_iff ((Array.perm_iff_toList_perm.mp h).map key)).mpr D;obtain⟨g1,rfl⟩:=Array.getElem?_eq_some_iff.mp ex
 obtain⟨g2,rfl⟩:=Array.getElem?_eq_some_iff.mp ey
 refine(List.getElem_inj (h₀:=by simpa using g1) (h₁:=by simpa using g2) nd).mp ?_
 rw[List.getElem_map,List.getElem_map,Array.getElem_toList,Array.getElem_toList];exact O.total _ _ h1 h2
theorem EA (C:Jn prog w A E s a₀ κ O key){st:SortSt}{i j:Nat}{x y:Keyed}{Q:Option Bool->SortSt->Prop}(hk:kindOf st=κ)(hp:(arrOf st).Perm a₀)(ex:(arrOf st)[i]?=some x)(ey:(arrOf st)[j]?=some y)
 (h:Q (some (O.blt (key x) (key y))) st):wpS (model prog w) A E s (ltAt' i j) Q st:=by
 rw[ltAt'_eq];exact wpS_bind (wpS_get (wpS_bind (Ao ex (wpS_bind (Ao ey (C x y st Q (Gz hp (BR ex)) (Gz hp (BR ey)) hk h))))))
abbrev UZ (key:Keyed->O.α)(xs:Array Keyed)(i j:Nat):Prop:=∀p q x y,i<=p->p<=q->q < j->xs[p]?=some x->xs[q]?=some y->O.blt (key x) (key y)=false
theorem PL {xs:Array Keyed}{lo n:Nat}{x y:Keyed}(h:Seg key xs lo (lo+n))(h1:1<=n)(ex:xs[lo+n]?=some x)(ey:xs[lo+n - 1]?=some y)(hl:O.blt (key x) (key y)=false):Seg key xs lo (lo+(n+1)):=λp q u v a b c eu ev=>by
 rcases Nat.lt_or_ge q (lo+n)with l|l
 ·exact h p q u v a b l eu ev
 ·have:q=lo+n:=by omega
  subst this;rw[ex]at ev;cases ev
  rcases Nat.lt_or_ge p (lo+n)with l'|l'
  ·exact B7 (h p (lo+n - 1) u y a (by omega) (by omega) eu ey) hl
  ·have:p=lo+n:=by omega
   subst this;rw[ex]at eu;cases eu;exact O.irrefl _
theorem PM {xs:Array Keyed}{lo n:Nat}{x y:Keyed}(h:UZ key xs lo (lo+n))(h1:1<=n)(ex:xs[lo+n]?=some x)(ey:xs[lo+n - 1]?=some y)(hl:O.blt (key y) (key x)=false):UZ key xs lo (lo+(n+1)):=λp q u v a b c eu ev=>by
 rcases Nat.lt_or_ge q (lo+n)with l|l
 ·exact h p q u v a b l eu ev
 ·have:q=lo+n:=by omega
  subst this;rw[ex]at ev;cases ev
  rcases Nat.lt_or_ge p (lo+n)with l'|l'
  ·exact B7 hl (h p (lo+n - 1) u y a (by omega) (by omega) eu ey)
  ·have:p=lo+n:=by omega
   subst this;rw[ex]at eu;cases eu;exact O.irrefl _
theorem Qn (xs:Array Keyed)(lo:Nat):Seg key xs lo (lo+1):=λp q x y a b c ex ey=>by
 have:p=q:=by omega
 subst this;rw[ex]at ey;cases ey;exact O.irrefl _
theorem Su (C:Jn prog w A E s a₀ κ O key)(D:Lj key a₀){st:SortSt}{lo nrem:Nat}{Q:Option Nat->SortSt->Prop}(hk:kindOf st=κ)(hp:(arrOf st).Perm a₀)(hn:lo+nrem<=(arrOf st).size)(h1:1<=nrem)
 (h:∀(m:Nat) (arr':Array Keyed),arr'.Perm a₀->(∀t,t < lo->arr'[t]?=(arrOf st)[t]?)->1<=m->m<=nrem->Seg key arr' lo (lo+m)->Q (some m) (setArr st arr')):
 wpS (model prog w) A E s (countRun' lo nrem) Q st:=by
 have own:st=setArr st (arrOf st):=rfl;rw[countRun'_eq]
 refine wpS_bind (wpS_mono (wpS_forRange (I:=λt c st'=>st'=st/\c=(none,t)/\Seg key (arrOf st) lo (lo+t))
  (Q:=λc st'=>st'=st/\∃n,c=(none,n)/\1<=n/\n<=nrem/\Seg key (arrOf st) lo (lo+n)/\(n=nrem\/∀x y,(arrOf st)[lo+n]?=some x->(arrOf st)[lo+n - 1]?=some y->O.blt (key x) (key y)=true)) ?step ?fin ⟨rfl,rfl,Qn _ _⟩) ?post)
 case fin=>
  rintro c st' ⟨rfl,rfl,g⟩;rw[show max 1 nrem=nrem by omega]at g ⊢
  exact⟨rfl,nrem,rfl,h1,Nat.le_refl _,g,.inl rfl⟩
 case step=>
  rintro t c st' ht1 ht2 ⟨rfl,rfl,g⟩
  dsimp only
  obtain⟨x,ex⟩:=Ab (a:=arrOf st') (i:=lo+t) (by omega)
  obtain⟨y,ey⟩:=Ab (a:=arrOf st') (i:=lo+t - 1) (by omega)
  refine wpS_bind (EA C hk hp ex ey ?_)
  dsimp only
  cases e:O.blt (key x) (key y)with
  |true=>
   rw[if_pos rfl];refine wpS_pure ⟨rfl,t,rfl,ht1,by omega,g,.inr λx' y' a b=>?_⟩
   rw[ex]at a;cases a;rw[ey]at b;cases b;exact e
  |false=>
   rw[if_neg (by simp)]
   exact wpS_pure ⟨rfl,rfl,PL g ht1 ex ey e⟩
 case post=>
  rintro c st' ⟨rfl,n,rfl,n1,n2,g,g2⟩
  dsimp only
  by_cases e1:n=nrem
  ·rw[if_pos (by simpa using e1)]
   exact wpS_pure (h n (arrOf st') hp (λ_ _=>rfl) n1 n2 g)
  rw[if_neg (by simpa using e1)]
  have g2:=g2.resolve_left e1
  by_cases e2:n > 1
  ·rw[if_pos e2]
   obtain⟨x,ex⟩:=Ab (a:=arrOf st') (i:=lo) (by omega)
   obtain⟨y,ey⟩:=Ab (a:=arrOf st') (i:=lo+n - 1) (by omega)
   refine wpS_bind (EA C hk hp ex ey ?_)
   dsimp only
   cases e:O.blt (key x) (key y)with
   |true=>
    rw[if_pos rfl];exact wpS_pure (h n (arrOf st') hp (λ_ _=>rfl) n1 n2 g)
   |false=>
    have:=D.inj hp ex ey e (g lo (lo+n - 1) x y (Nat.le_refl _) (by omega) (by omega) ex ey)
    omega
  ·rw[if_neg e2]
   have:n=1:=by omega
   subst this;refine wpS_bind (wpS_lift (wpAny_rule ⟨rfl,?_⟩))
   have f2:UZ key (arrOf st') lo (lo+(1+1)):=by
    obtain⟨x,ex⟩:=Ab (a:=arrOf st') (i:=lo+1) (by omega)
    obtain⟨y,ey⟩:=Ab (a:=arrOf st') (i:=lo+1 - 1) (by omega)
    refine PM (n:=1) (λp q u v a b c eu ev=>?_) (Nat.le_refl _) ex ey (Gx (g2 x y ex ey))
    have:p=q:=by omega
    subst this;rw[eu]at ev;cases ev;exact O.irrefl _
   refine wpS_bind (wpS_mono (wpS_forRange (I:=λt c st''=>st''=st'/\c=(none,t,0)/\UZ key (arrOf st') lo (lo+t))
    (Q:=λc st''=>st''=st'/\∃n,c=(none,n,0)/\2<=n/\n<=nrem/\UZ key (arrOf st') lo (lo+n)) ?s1 ?f1 ⟨rfl,rfl,f2⟩) ?p1)
   case f1=>
    rintro c st'' ⟨rfl,rfl,g⟩;rw[show max (1+1) nrem=nrem by omega]at g ⊢
    exact⟨rfl,nrem,rfl,by omega,Nat.le_refl _,g⟩
   case s1=>
    rintro t c st'' ht1 ht2 ⟨rfl,rfl,g⟩
    dsimp only
    obtain⟨x,ex⟩:=Ab (a:=arrOf st'') (i:=lo+t) (by omega)
    obtain⟨y,ey⟩:=Ab (a:=arrOf st'') (i:=lo+t - 1) (by omega)
    refine wpS_bind (EA C hk hp ex ey ?_)
    dsimp only
    cases e:O.blt (key x) (key y)with
    |true=>
     rw[if_pos rfl,if_neg (by omega)]
     exact wpS_pure ⟨rfl,rfl,PM g (by omega) ex ey (Gx e)⟩
    |false=>
     rw[if_neg (by simp)]
     refine wpS_bind (EA C hk hp ey ex ?_)
     dsimp only
     cases e':O.blt (key y) (key x)with
     |true=>
      rw[if_pos rfl];exact wpS_pure ⟨rfl,t,rfl,by omega,by omega,g⟩
     |false=>
      have:=D.inj hp ex ey e e';omega
   case p1=>
    rintro c st'' ⟨rfl,m,rfl,m1,m2,g⟩
    dsimp only
    rw[if_neg (by omega)]
    refine wpS_bind (wpS_reverse ?_)
    have mg:∀t,(mirror (arrOf st'') lo (lo+m) ((lo+m - lo) / 2))[t]?=if lo<=t/\t < lo+m then(arrOf st'')[lo+(lo+m) - 1 - t]? else(arrOf st'')[t]?:=λt=>getElem?_mirror_all (by omega) t
    have mp:=mirror_perm (arrOf st'') lo (lo+m) ((lo+m - lo) / 2);generalize mirror (arrOf st'') lo (lo+m) ((lo+m - lo) / 2)=xs at mg mp;have hz:xs.size=(arrOf st'').size:=mp.size_eq
    have g3:Seg key xs lo (lo+m):=λp q u v a b c eu ev=>by
     rw[mg,if_pos (by omega)]at eu ev
     exact g _ _ v u (by omega) (by omega) (by omega) ev eu
    have hp':xs.Perm a₀:=mp.trans hp;have out:∀t,t < lo->xs[t]?=(arrOf st'')[t]?:=λt ht=>by rw[mg,if_neg (by omega)]
    refine wpS_bind (wpS_mono (wpS_forRange (I:=λt c st3=>st3=setArr st'' xs/\c=(none,t)/\Seg key xs lo (lo+t))
     (Q:=λc st3=>st3=setArr st'' xs/\∃n,c=(none,n)/\1<=n/\n<=nrem/\Seg key xs lo (lo+n)) ?s2 ?f2 ⟨rfl,rfl,g3⟩) ?p2)
    case f2=>
     rintro c st3 ⟨rfl,rfl,g⟩;rw[show max m nrem=nrem by omega]at g ⊢
     exact⟨rfl,nrem,rfl,h1,Nat.le_refl _,g⟩
    case s2=>
     rintro t c st3 ht1 ht2 ⟨rfl,rfl,g⟩
     dsimp only
     obtain⟨x,ex⟩:=Ab (a:=xs) (i:=lo+t) (by omega)
     obtain⟨y,ey⟩:=Ab (a:=xs) (i:=lo+t - 1) (by omega)
     refine wpS_bind (EA (st:=setArr st'' xs) C hk hp' ex ey ?_)
     dsimp only
     cases e:O.blt (key x) (key y)with
     |true=>
      rw[if_pos rfl];exact wpS_pure ⟨rfl,t,rfl,by omega,by omega,g⟩
     |false=>
      rw[if_neg (by simp)]
      exact wpS_pure ⟨rfl,rfl,PL g (by omega) ex ey e⟩
    case p2=>
     rintro c st3 ⟨rfl,n,rfl,n1,n2,g⟩;exact wpS_pure (h n xs hp' out n1 n2 g)
theorem Sv (C:Jn prog w A E s a₀ κ O key){st:SortSt}{lo n ok:Nat}{Q:Bool->SortSt->Prop}(hk:kindOf st=κ)(hp:(arrOf st).Perm a₀)(hn:lo+n<=(arrOf st).size)(h1:1<=ok)(h2:ok<=n)(hs:Seg key (arrOf st) lo (lo+ok))
 (h:∀(arr':Array Keyed),arr'.Perm a₀->(∀t,t < lo->arr'[t]?=(arrOf st)[t]?)->Seg key arr' lo (lo+n)->Q true (setArr st arr')):
 wpS (model prog w) A E s (binarySort' lo n ok) Q st:=by
 rw[binarySort'_eq]
 refine wpS_bind (wpS_mono (wpS_forRange (I:=λt c st'=>c=(none,())/\∃xs,st'=setArr st xs/\xs.Perm a₀/\(∀t,t < lo->xs[t]?=(arrOf st)[t]?)/\Seg key xs lo (lo+t))
  (Q:=λc st'=>c=(none,())/\∃xs,st'=setArr st xs/\xs.Perm a₀/\(∀t,t < lo->xs[t]?=(arrOf st)[t]?)/\Seg key xs lo (lo+n)) ?step ?fin ?init) ?post)
 case init=>
  rw[show max ok 1=ok by omega]
  exact⟨rfl,_,rfl,hp,λ_ _=>rfl,hs⟩
 case fin=>
  rintro c st' ⟨rfl,xs,rfl,a1,a2,a3⟩;rw[show max (max ok 1) n=n by omega]at a3
  exact⟨rfl,xs,rfl,a1,a2,a3⟩
 case post=>
  rintro c st' ⟨rfl,xs,rfl,a1,a2,a3⟩;exact wpS_pure (h xs a1 a2 a3)
 case step=>
  rintro k c st' hk1 hk2 ⟨rfl,xs,rfl,a1,a2,a3⟩;have hz:xs.size=(arrOf st).size:=(a1.trans hp.symm).size_eq;obtain⟨x,ex⟩:=Ab (a:=xs) (i:=lo+k) (by omega)
  refine wpS_bind (wpS_mono (wpS_forRange (I:=λt c st''=>st''=setArr st xs/\∃l r,c=(none,l,r)/\l<=r/\r<=k/\r - l<=k - t/\
   (∀i y,i < l->xs[lo+i]?=some y->O.blt (key x) (key y)=false)/\(∀i y,r<=i->i < k->xs[lo+i]?=some y->O.blt (key x) (key y)=true))
   (Q:=λc st''=>st''=setArr st xs/\∃l r,c=(none,l,r)/\l<=k/\
    (∀i y,i < l->xs[lo+i]?=some y->O.blt (key x) (key y)=false)/\(∀i y,l<=i->i < k->xs[lo+i]?=some y->O.blt (key x) (key y)=true)) ?s1 ?f1 ⟨rfl,0,k,rfl,by omega,by omega,by omega,λi y hi=>by omega,λi y b1 b2=>by omega⟩) ?p1)
  case f1=>
   rintro c st'' ⟨rfl,l,r,rfl,b1,b2,b3,b4,b5⟩;have:l=r:=by omega
   subst this;exact⟨rfl,l,l,rfl,b2,b4,b5⟩
  case s1=>
   rintro t c st'' _ ht ⟨rfl,l,r,rfl,b1,b2,b3,b4,b5⟩
   dsimp only
   by_cases g:l≥r
   ·rw[if_pos g]
    have:l=r:=by omega
    subst this;exact wpS_pure ⟨rfl,l,l,rfl,b2,b4,b5⟩
   ·rw[if_neg g]
    obtain⟨y,ey⟩:=Ab (a:=xs) (i:=lo+(l+r) / 2) (by omega)
    refine wpS_bind (EA (st:=setArr st xs) C hk a1 ex ey ?_)
    dsimp only
    cases e:O.blt (key x) (key y)with
    |true=>
     rw[if_pos rfl];exact wpS_pure ⟨rfl,l,(l+r) / 2,rfl,by omega,by omega,by omega,b4,λi z q1 q2 ez=>KeyOrd.klt_of_klt_of_kle (O:=O) (a:=key x) (b:=key y) (c:=key z) e (a3 _ _ y z (by omega) (by omega) (by omega) ey ez)⟩
    |false=>
     rw[if_neg (by simp)]
     exact wpS_pure ⟨rfl,(l+r) / 2+1,r,rfl,by omega,by omega,by omega,λi z q1 ez=>B7 (a3 _ _ z y (by omega) (by omega) (by omega) ez ey) e,b5⟩
  case p1=>
   rintro c st'' ⟨rfl,l,r,rfl,b1,b2,b3⟩
   dsimp only
   rw[moveDown'_eq]
   have bg:∀t,(bubble xs (lo+k) (lo+k - (lo+l)))[t]?=if t=lo+l then xs[lo+k]? else if lo+l < t/\t<=lo+k then xs[t - 1]? else xs[t]?:=λt=>by
    rw[getElem?_bubble (by omega) _ (by omega),show lo+k - (lo+k - (lo+l))=lo+l by omega]
   have bp:=bubble_perm xs (lo+k) (lo+k - (lo+l));refine wpS_bind (wpS_modify (wpS_pure ⟨rfl,bubble xs (lo+k) (lo+k - (lo+l)),rfl,bp.trans a1,λt ht=>?_,λp q u v a b c eu ev=>?_⟩))
   ·rw[bg,if_neg (by omega),if_neg (by omega)]
    exact a2 t ht
   ·rw[bg]at eu ev
    by_cases p1:p=lo+l
    ·rw[if_pos p1,ex]at eu
     cases eu
     by_cases q1:q=lo+l
     ·rw[if_pos q1,ex]at ev
      cases ev;exact O.irrefl _
     ·rw[if_neg q1,if_pos (by omega)]at ev
      exact Gx (b3 (q - 1 - lo) v (by omega) (by omega) (by rw[<-ev];congr 1;omega))
    ·rw[if_neg p1]at eu
     by_cases q1:q=lo+l
     ·rw[if_pos q1,ex]at ev
      cases ev;rw[if_neg (by omega)]at eu
      exact b2 (p - lo) u (by omega) (by rw[<-eu];congr 1;omega)
     ·rw[if_neg q1]at ev
      split at eu<;>split at ev
      ·exact a3 _ _ u v (by omega) (by omega) (by omega) eu ev
      ·omega
      ·exact a3 _ _ u v (by omega) (by omega) (by omega) eu ev
      ·exact a3 _ _ u v (by omega) (by omega) (by omega) eu ev
end
end Tim
namespace Tim
open PySem PyProof.Rows
section
variable {prog:Program}{w:World}{A:Around}{E:Value->Shared->Prop}{s:Shared}{a₀:Array Keyed}{κ:SortKind}{O:KeyOrd}{key:Keyed->O.α}
abbrev F6:=Nat×Nat×Nat
def Runs (key:Keyed->O.α)(xs:Array Keyed):List F6->Nat->Nat->Prop
 |[],i,j=>i=j
 |r::rs,i,j=>r.1=i/\1<=r.2.1/\Seg key xs i (i+r.2.1)/\Runs key xs rs (i+r.2.1) j
theorem FC {xs:Array Keyed}:∀(l:List F6) (i j:Nat),Runs key xs l i j->i+l.length<=j
 |[],i,j,h=>Nat.le_of_eq h
 |r::rs,i,j,h=>by
  have:=FC rs _ j h.2.2.2;have:=h.2.1;rw[List.length_cons];omega
theorem GF {xs ys:Array Keyed}:∀(l:List F6) (i j:Nat),Runs key xs l i j->(∀t,i<=t->t < j->ys[t]?=xs[t]?)->Runs key ys l i j
 |[],i,j,h,_=>h
 |r::rs,i,j,h,e=>by
  have:=FC rs _ j h.2.2.2;exact⟨h.1,h.2.1,JS h.2.2.1 λt t1 t2=>e t t1 (by omega),GF rs _ j h.2.2.2 λt t1 t2=>e t (by omega) t2⟩
theorem Fg {xs:Array Keyed}{lo n:Nat}:∀{l:List F6} {i:Nat},Runs key xs l i lo->1<=n->Seg key xs lo (lo+n)->Runs key xs (l++[(lo,n,0)]) i (lo+n)
 |[],i,h,h1,h2=>by
  cases(show i=lo from h)
  exact⟨rfl,h1,h2,rfl⟩
 |r::rs,i,h,h1,h2=>⟨h.1,h.2.1,h.2.2.1,Fg h.2.2.2 h1 h2⟩
theorem Dn {xs:Array Keyed}(f:F6->F6)(f1:∀r,(f r).1=r.1)(f2:∀r,(f r).2.1=r.2.1):∀(l:List F6) (k i j:Nat),Runs key xs l i j->Runs key xs (l.modify k f) i j
 |[],k,i,j,h=>by cases k<;>exact h
 |r::rs,0,i,j,h=>by
  rw[List.modify_zero_cons];unfold Runs;rw[f1,f2];exact h
 |r::rs,k+1,i,j,h=>by
  rw[List.modify_succ_cons];exact⟨h.1,h.2.1,h.2.2.1,Dn f f1 f2 rs k _ j h.2.2.2⟩
theorem Ke {xs:Array Keyed}:∀(k:Nat) (l:List F6) (i j:Nat),Runs key xs l i j->k+1 < l.length->∃sa na pw sb nb pw',l[k]?=some (sa,na,pw)/\l[k+1]?=some (sb,nb,pw')/\sb=sa+na/\1<=na/\1<=nb/\i<=sa/\sb+nb<=j/\
 Seg key xs sa sb/\Seg key xs sb (sb+nb)/\∀ys:Array Keyed,(∀t,t < sa\/sb+nb<=t->ys[t]?=xs[t]?)->Seg key ys sa (sb+nb)->Runs key ys ((l.set k (sa,na+nb,pw)).eraseIdx (k+1)) i j
 |0,(sa,na,pw)::(sb,nb,pw')::rs,i,j,h,_=>by
  obtain⟨h1,h2,h3,h4,h5,h6,h7⟩:=h;cases(show sa=i from h1)
  cases(show sb=sa+na from h4)
  have l:sa+na+nb+rs.length<=j:=FC rs _ j h7;refine⟨sa,na,pw,sa+na,nb,pw',rfl,rfl,rfl,h2,h5,Nat.le_refl _,by omega,h3,h6,λys e sg=>?_⟩
  show Runs key ys ((sa,na+nb,pw)::rs) sa j;refine⟨rfl,by show 1<=na+nb;exact Nat.le_trans h2 (Nat.le_add_right _ _),?_,?_⟩
  ·show Seg key ys sa (sa+(na+nb))
   rw[<-Nat.add_assoc];exact sg
  ·show Runs key ys rs (sa+(na+nb)) j
   rw[<-Nat.add_assoc];exact GF rs _ j h7 λt t1 t2=>e t (.inr t1)
 |k+1,r::rs,i,j,h,hl=>by
  rw[List.length_cons]at hl;obtain⟨sa,na,pw,sb,nb,pw',e1,e2,e3,e4,e5,e6,e7,e8,e9,e10⟩:=Ke k rs _ j h.2.2.2 (by omega)
  have hr:=h.2.1;refine⟨sa,na,pw,sb,nb,pw',e1,e2,e3,e4,e5,by omega,e7,e8,e9,λys e sg=>?_⟩
  exact⟨h.1,h.2.1,JS h.2.2.1 λt t1 t2=>e t (.inl (by omega)),e10 ys e sg⟩
 |0,[_],_,_,_,hl=>by simp at hl
 |0,[],_,_,_,hl=>by simp at hl
 |_+1,[],_,_,_,hl=>by simp at hl
theorem G0 (p:Array F6)(i sa n pw:Nat):(EK p i sa n pw).toList=(p.toList.set i (sa,n,pw)).eraseIdx (i+1):=by
 unfold EK;rw[Array.toList_eraseIdxIfInBounds,Array.toList_setIfInBounds]
theorem Lk (p:Array F6)(i sa n pw:Nat)(h:i+1 < p.size):(EK p i sa n pw).size=p.size - 1:=by
 rw[<-Array.length_toList,G0,List.length_eraseIdx,if_pos (by simpa using h),List.length_set,Array.length_toList]
theorem JT (C:Jn prog w A E s a₀ κ O key){st:SortSt}{i j:Nat}{Q:Bool->SortSt->Prop}(hk:kindOf st=κ)(hf:failedOf st=none)(hp:(arrOf st).Perm a₀)(hi:i+1 < (pendingOf st).size)(hr:Runs key (arrOf st) (pendingOf st).toList 0 j)(hj:j<=(arrOf st).size)
 (h:∀(arr':Array Keyed) (pd':Array F6) (g:Nat),arr'.Perm a₀->(∀t,j<=t->arr'[t]?=(arrOf st)[t]?)->Runs key arr' pd'.toList 0 j->pd'.size+1=(pendingOf st).size->Q true (SortSt.mk' κ arr' pd' g none)):
 wpS (model prog w) A E s (mergeAt' i) Q st:=by
 obtain⟨sa,na,pw,sb,nb,pw',e1,e2,e3,e4,e5,e6,e7,e8,e9,e10⟩:=Ke i _ 0 j hr (by simpa using hi)
 rw[Array.getElem?_toList]at e1 e2
 refine Ss C hk hf hp e1 e2 e3 e4 e5 (by omega) e8 e9 λarr' g c1 c2 c3=>h arr' _ g c1 (λt ht=>c2 t (.inr (by omega))) ?_ ?_
 ·rw[G0];exact e10 arr' c2 c3
 ·rw[Lk _ _ _ _ _ hi];omega
def RI (key:Keyed->O.α)(a₀:Array Keyed)(κ:SortKind)(lo:Nat)(st:SortSt):Prop:=∃ys pd g,st=SortSt.mk' κ ys pd g none/\ys.Perm a₀/\Runs key ys pd.toList 0 lo/\lo<=a₀.size
theorem Qo (C:Jn prog w A E s a₀ κ O key)(D:Lj key a₀){g:Nat}{Q:Unit->SortSt->Prop}
 (h:∀(arr':Array Keyed) (pd:Array F6) (g:Nat),arr'.Perm a₀->O9 key arr'.toList->Q () (SortSt.mk' κ arr' pd g none)):
 wpS (model prog w) A E s sortRuns' Q (SortSt.mk' κ a₀ #[] g none):=by
 rw[sortRuns'_eq];refine wpS_bind (wpS_get ?_)
 dsimp only
 show wpS _ _ _ _ (forIn [:a₀.size] _ _ >>= _) Q _
 refine wpS_bind (wpS_mono (wpS_forRange (I:=λt c st'=>∃lo,c=(none,lo)/\RI key a₀ κ lo st'/\t<=lo)
  (Q:=λc st'=>∃lo,c=(none,lo)/\RI key a₀ κ lo st'/\a₀.size<=lo) ?step ?fin ⟨0,rfl,⟨a₀,#[],g,rfl,.refl _,rfl,Nat.zero_le _⟩,Nat.le_refl _⟩) ?post)
 case fin=>
  rintro c st' ⟨lo,rfl,r,hl⟩;exact⟨lo,rfl,r,by omega⟩
 case step=>
  rintro t c st' _ ht ⟨lo,rfl,⟨xs,pd,g,rfl,p1,p2,p3⟩,hl⟩
  dsimp only
  by_cases c1:lo≥a₀.size
  ·rw[if_pos c1]
   exact wpS_pure ⟨lo,rfl,⟨xs,pd,g,rfl,p1,p2,p3⟩,c1⟩
  rw[if_neg c1];have hz:xs.size=a₀.size:=p1.size_eq;refine wpS_bind (Su (st:=SortSt.mk' κ xs pd g none) C D rfl p1 (by show lo+(a₀.size - lo)<=xs.size;omega) (by show 1<=a₀.size - lo;omega) λfound xs1 f1 f2 f3 f4 f5=>?_)
  have f4:found<=a₀.size - lo:=f4;have r1:Runs key xs1 pd.toList 0 lo:=GF _ 0 lo p2 λt _ t2=>f2 t t2
  dsimp only
  generalize hmr:minRun' (arrOf (SortSt.mk' κ a₀ #[] _ none)).size (arrOf (SortSt.mk' κ a₀ #[] _ none)).size 0=mr
  by_cases c2:found < mr
  ·rw[if_pos c2]
   refine wpS_bind (wpS_lift (wpAny_rule ⟨rfl,?_⟩))
   have hn:min (a₀.size - lo) mr<=a₀.size - lo:=Nat.min_le_left _ _;have hn2:found<=min (a₀.size - lo) mr:=by omega
   show wpS _ _ _ _ (binarySort' lo (min (a₀.size - lo) mr) found >>= _) _ _;generalize hnn:min ((arrOf (SortSt.mk' κ a₀ #[] _ none)).size - lo) mr=n;have hnn:min (a₀.size - lo) mr=n:=hnn;rw[hnn]at hn hn2;have zz:xs1.size=a₀.size:=f1.size_eq;refine wpS_bind (Sv (st:=setArr (SortSt.mk' κ xs pd g none) xs1) C rfl f1 (by show lo+n<=xs1.size;omega) f3 hn2 f5 λxs2 q1 out q3=>?_)
   have q2:Runs key xs2 pd.toList 0 lo:=GF _ 0 lo r1 λt _ t2=>out t t2
   have n1:1<=n:=by omega
   rw[if_neg (by simp)]
   refine wpS_bind (wpS_get ?_)
   have push:∀(ys:Array Keyed) (pd:Array (Nat×Nat×Nat)) (g':Nat),ys.Perm a₀->Runs key ys pd.toList 0 lo->Seg key ys lo (lo+n)->RI key a₀ κ (lo+n) (SortSt.mk' κ ys (pd.push (lo,n,0)) g' none):=λys pd g' b1 b2 b3=>
    ⟨ys,_,g',rfl,b1,by rw[Array.toList_push];exact Fg b2 n1 b3,by omega⟩
   split
   ·rename_i s1 m1 pw1 eb
    refine wpS_bind (wpS_mono (wpS_forRange (I:=λt c st'=>c=(none,())/\∃ys pd g',st'=SortSt.mk' κ ys pd g' none/\ys.Perm a₀/\Runs key ys pd.toList 0 lo/\Seg key ys lo (lo+n))
     (Q:=λc st'=>c=(none,())/\∃ys pd g',st'=SortSt.mk' κ ys pd g' none/\ys.Perm a₀/\Runs key ys pd.toList 0 lo/\Seg key ys lo (lo+n)) ?sA ?fA ⟨rfl,_,_,_,rfl,q1,q2,q3⟩) ?pA)
    case fA=>
     rintro c st' hh;exact hh
    case sA=>
     rintro t c st' _ _ ⟨rfl,ys,pd,g',rfl,b1,b2,b3⟩;refine wpS_bind (wpS_get ?_)
     split
     ·rename_i x1 x2 older eo
      have big:pd.size > 1:=by
       rcases Nat.lt_or_ge 1 pd.size with l|l
       ·exact l
       ·have l':¬(pendingOf (SortSt.mk' κ ys pd g' none)).size > 1:=by show¬pd.size > 1;omega
        rw[if_neg l']at eo;cases eo
      split
      ·exact wpS_pure ⟨rfl,ys,pd,g',rfl,b1,b2,b3⟩
      ·have hz':ys.size=a₀.size:=b1.size_eq
       refine wpS_bind (JT C (st:=SortSt.mk' κ ys pd g' none) (i:=pd.size - 2) (j:=lo) rfl rfl b1 (by show pd.size - 2+1 < pd.size;omega) b2 (by show lo<=ys.size;omega) λys' pd' g2 c1 c2 c3 c4=>?_)
       rw[if_neg (by simp)]
       exact wpS_pure ⟨rfl,ys',pd',g2,rfl,c1,c3,JS b3 λt t1 t2=>c2 t t1⟩
     ·exact wpS_pure ⟨rfl,ys,pd,g',rfl,b1,b2,b3⟩
    case pA=>
     rintro c st' ⟨rfl,ys,pd,g',rfl,b1,b2,b3⟩;refine wpS_bind (wpS_modify (wpS_bind (wpS_modify (wpS_pure ⟨lo+n,rfl,push ys _ g' b1 ?_ b3,by omega⟩))))
     rw[Array.toList_modify];apply Dn
     ·intro _;rfl
     ·intro _;rfl
     ·exact b2
   ·exact wpS_bind (wpS_modify (wpS_pure ⟨lo+n,rfl,push _ _ _ q1 q2 q3,by omega⟩))
  ·rw[if_neg c2]
   have q1:=f1;have q2:=r1;have q3:=f5;have n1:=f3;have hn:=f4;generalize found=n at*;refine wpS_bind (wpS_get ?_)
   have push:∀(ys:Array Keyed) (pd:Array (Nat×Nat×Nat)) (g':Nat),ys.Perm a₀->Runs key ys pd.toList 0 lo->Seg key ys lo (lo+n)->RI key a₀ κ (lo+n) (SortSt.mk' κ ys (pd.push (lo,n,0)) g' none):=λys pd g' b1 b2 b3=>
    ⟨ys,_,g',rfl,b1,by rw[Array.toList_push];exact Fg b2 n1 b3,by omega⟩
   split
   ·rename_i s1 m1 pw1 eb
    refine wpS_bind (wpS_mono (wpS_forRange (I:=λt c st'=>c=(none,())/\∃ys pd g',st'=SortSt.mk' κ ys pd g' none/\ys.Perm a₀/\Runs key ys pd.toList 0 lo/\Seg key ys lo (lo+n))
     (Q:=λc st'=>c=(none,())/\∃ys pd g',st'=SortSt.mk' κ ys pd g' none/\ys.Perm a₀/\Runs key ys pd.toList 0 lo/\Seg key ys lo (lo+n)) ?sB ?fB ⟨rfl,_,_,_,rfl,q1,q2,q3⟩) ?pB)
    case fB=>
     rintro c st' hh;exact hh
    case sB=>
     rintro t c st' _ _ ⟨rfl,ys,pd,g',rfl,b1,b2,b3⟩;refine wpS_bind (wpS_get ?_)
     split
     ·rename_i x1 x2 older eo
      have big:pd.size > 1:=by
       rcases Nat.lt_or_ge 1 pd.size with l|l
       ·exact l
       ·have l':¬(pendingOf (SortSt.mk' κ ys pd g' none)).size > 1:=by show¬pd.size > 1;omega
        rw[if_neg l']at eo;cases eo
      split
      ·exact wpS_pure ⟨rfl,ys,pd,g',rfl,b1,b2,b3⟩
      ·have hz':ys.size=a₀.size:=b1.size_eq
       refine wpS_bind (JT C (st:=SortSt.mk' κ ys pd g' none) (i:=pd.size - 2) (j:=lo) rfl rfl b1 (by show pd.size - 2+1 < pd.size;omega) b2 (by show lo<=ys.size;omega) λys' pd' g2 c1 c2 c3 c4=>?_)
       rw[if_neg (by simp)]
       exact wpS_pure ⟨rfl,ys',pd',g2,rfl,c1,c3,JS b3 λt t1 t2=>c2 t t1⟩
     ·exact wpS_pure ⟨rfl,ys,pd,g',rfl,b1,b2,b3⟩
    case pB=>
     rintro c st' ⟨rfl,ys,pd,g',rfl,b1,b2,b3⟩;refine wpS_bind (wpS_modify (wpS_bind (wpS_modify (wpS_pure ⟨lo+n,rfl,push ys _ g' b1 ?_ b3,by omega⟩))))
     rw[Array.toList_modify];apply Dn
     ·intro _;rfl
     ·intro _;rfl
     ·exact b2
   ·exact wpS_bind (wpS_modify (wpS_pure ⟨lo+n,rfl,push _ _ _ q1 q2 q3,by omega⟩))
 case post=>
  rintro c st' ⟨lo,rfl,⟨xs,pd,g,rfl,p1,p2,p3⟩,hl⟩;have:lo=a₀.size:=by omega
  subst this
  dsimp only
  have l0:=FC _ _ _ p2;rw[Array.length_toList]at l0
  refine wpS_bind (wpS_mono (wpS_forRange (I:=λt c st'=>c=(none,())/\∃ys pd g',st'=SortSt.mk' κ ys pd g' none/\ys.Perm a₀/\Runs key ys pd.toList 0 a₀.size/\pd.size+t<=a₀.size)
   (Q:=λc st'=>c=(none,())/\∃ys pd g',st'=SortSt.mk' κ ys pd g' none/\ys.Perm a₀/\Runs key ys pd.toList 0 a₀.size/\pd.size<=1) ?s3 ?f3 ⟨rfl,xs,pd,g,rfl,p1,p2,by omega⟩) ?p3)
  case f3=>
   rintro c st' ⟨rfl,ys,pd,g',rfl,b1,b2,b3⟩;refine⟨rfl,ys,pd,g',rfl,b1,b2,?_⟩
   have b3:pd.size+max 0 a₀.size<=a₀.size:=b3;omega
  case s3=>
   rintro t c st' _ _ ⟨rfl,ys,pd,g',rfl,b1,b2,b3⟩;refine wpS_bind (wpS_get ?_)
   by_cases c3:pd.size<=1
   ·rw[if_pos (show(pendingOf (SortSt.mk' κ ys pd g' none)).size<=1 from c3)]
    exact wpS_pure ⟨rfl,ys,pd,g',rfl,b1,b2,c3⟩
   ·rw[if_neg (show¬(pendingOf (SortSt.mk' κ ys pd g' none)).size<=1 from c3)]
    have hz':ys.size=a₀.size:=b1.size_eq;refine wpS_bind (JT C (st:=SortSt.mk' κ ys pd g' none) (j:=a₀.size) rfl rfl b1 ?_ b2 (by show a₀.size<=ys.size;omega) λys' pd' g2 c1 c2 c3 c4=>?_)
    ·have ix:∀(P:Prop) [Decidable P],(if P then pd.size - 2 - 1 else pd.size - 2)+1 < pd.size:=λP _=>by split<;>omega
     exact ix _
    ·rw[if_neg (by simp)]
     have c4:pd'.size+1=pd.size:=c4;exact wpS_pure ⟨rfl,ys',pd',g2,rfl,c1,c3,by omega⟩
  case p3=>
   rintro c st' ⟨rfl,ys,pd,g',rfl,b1,b2,b3⟩;refine wpS_pure (h ys pd g' b1 ?_)
   have hz':ys.size=a₀.size:=b1.size_eq
   have sg:Seg key ys 0 a₀.size:=by
    rw[<-Array.length_toList]at b3
    match e:pd.toList,b2,b3 with
    |[],b2,_=>exact λp q x y a b c=>by have:0=a₀.size:=b2;omega
    |[r],b2,_=>
     have e2:0+r.2.1=a₀.size:=b2.2.2.2;rw[<-e2];exact b2.2.2.1
    |_::_::_,_,b3=>simp at b3
   have:=JR sg;rw[<-hz',Ed,List.take_of_length_le (by simp)]at this
   exact this
end
end Tim
namespace L2
open PySem PySem.Spec PyProof.Rows PySem.W Tim
section
variable {prog:Program}{w:World}{A:Around}{E:Value->Shared->Prop}{s:Shared}
theorem PN {a:Addr}{vs:List Value}{n:Nat}{P:PySem.Fin->Shared->Prop}(ho:s.heap.get? a=some (seqObj "list" vs.toArray n))(h2:2<=vs.length)(hz:vs.length<=sizeLine){κ:SortKind}{O:KeyOrd}{key:Keyed->O.α}(D:Lj key (pairsOf vs))
 (hk:∀g:Heap,(∀b o,b≠a->s.heap.get? b=some o->g.get? b=some o)->(∀R:SortKind->Shared->Prop,R κ { s with heap:=g }->wpAny (model prog w) A (keyKind' vs.toArray) R E { s with heap:=g })/\Jn prog w A E { s with heap:=g } (pairsOf vs) κ O key)
 (h:∀xs:Array Keyed,xs.Perm (pairsOf vs)->O9 key xs.toList->P (.done (.ret .none)) { s with heap:=sortedHeap s.heap a vs (xs.map (·.2)) }):
 wpAny (model prog w) A (Builtin.«list.sort» ⟨[.ref a],[]⟩) P E s:=by
 have al:a < s.heap.objs.size:=Heap.lt_size ho;have nb:¬vs.toArray.size < 2:=by rw[List.size_toArray];omega
 rw[list_sort_plain];refine wpAny_bind (listItems_at ho rfl (wpAny_bind (listUpdate_at ho rfl ?_ (by rw[List.size_toArray];exact hz) (Nat.zero_le _))))
 obtain⟨e1,g1⟩:∃e1,(s.heap.update a (Obj.mapSeq λ_=>(#[]:Array Value))).get? a=some (seqObj "list" #[] e1):=⟨_,get?_update_seq ho λ_=>#[]⟩
 refine wpAny_bind (seqEpoch_at g1 rfl (wpAny_bind (wpAny_newTuple ?_ (by show vs.length<=_;exact hz))))
 refine wpAny_bind (wpAny_newList (wpAny_holding ?_))
 have sz1:(s.heap.update a (Obj.mapSeq λ_=>(#[]:Array Value))).objs.size=s.heap.objs.size:=Heap.size_update ..
 have g2:=Heap.get?_push_of_some (seqObj "list" #[] 0) (Heap.get?_push_of_some (seqObj "tuple" vs.toArray 0) g1)
 have old:∀b o,b≠a->s.heap.get? b=some o->(((s.heap.update a (Obj.mapSeq λ_=>(#[]:Array Value))).push (seqObj "tuple" vs.toArray 0)).push (seqObj "list" #[] 0)).get? b=some o:=λb o hb e=>
  Heap.get?_push_of_some _ (Heap.get?_push_of_some _ ((Heap.get?_update_ne _ _ _ _ hb).trans e))
 obtain⟨hkind,C⟩:=hk _ old;show wpAny (model prog w) A _ P E { s with heap:=((s.heap.update a (Obj.mapSeq λ_=>(#[]:Array Value))).push (seqObj "tuple" vs.toArray 0)).push (seqObj "list" #[] 0) }
 have hfin:=h;unfold sortedHeap at hfin;generalize((s.heap.update a (Obj.mapSeq λ_=>(#[]:Array Value))).push (seqObj "tuple" vs.toArray 0)).push (seqObj "list" #[] 0)=g at g2 hkind C hfin
 rw[if_neg nb,if_neg nb];refine wpAny_bind (hkind _ ?_)
 refine wpAny_bind (wpAny_mono (Qo (s:={ s with heap:=g }) (E:=E) C D (g:=7) (Q:=λ_ st'=>∃xs pd g',st'=SortSt.mk' κ xs pd g' none/\xs.Perm (pairsOf vs)/\O9 key xs.toList) λxs pd g' a1 a2=>⟨xs,pd,g',rfl,a1,a2⟩) ?_ λ_ _ e=>e)
 rintro⟨⟨⟩,st'⟩ s' ⟨rfl,xs,pd,g',rfl,a1,a2⟩;refine wpAny_bind (seqEpoch_at g2 rfl (wpAny_bind (listUpdate_at g2 rfl ?_ (Nat.zero_le _) ?_)))
 ·show wpAny _ _ (if(e1 !=e1)=true then _ else _) _ _ _
  rw[if_neg (by simp)]
  exact wpAny_pure (hfin xs a1 a2)
 ·show(xs.map _).size<=_
  rw[Array.size_map,a1.size_eq,pairsOf_size];exact Nat.le_succ_of_le hz
abbrev Kf (p:Keyed):strKind.α:=(strOf p.1).cps.toList
theorem PQ {vs:List Value}{ss:List Str}(hS:StrsAre vs ss):Jn prog w A E s (pairsOf vs) oneType' strKind.toKeyOrd Kf:=by
 have is:∀x:Keyed,x∈pairsOf vs->∃z t,x.1=.str z t:=λx hx=>by
  have:=Array.mem_toList_iff.mpr hx;rw[pairsOf_toList]at this;exact hS.all _ (mem_zip_self this).2
 intro x y st Q hx hy hk h;obtain⟨x1,t1,e1⟩:=is x hx;obtain⟨y1,u1,e2⟩:=is y hy;rw[lt'_eq];refine wpS_bind (wpS_get ?_)
 rw[hk,keyLt'_oneType,e1,e2];refine wpS_bind (wpS_lift (wpAny_attempt (oneLt_str ⟨rfl,wpS_pure ?_⟩)))
 unfold Kf at h;rw[e1,e2]at h;exact h
theorem Nr {vs:List Value}{ss:List Str}(hS:StrsAre vs ss)(nd:ss.Nodup):Lj (O:=strKind.toKeyOrd) Kf (pairsOf vs):=by
 unfold Lj;rw[pairsOf_toList]
 have e:(vs.zip vs).map Kf=ss.map λz=>z.cps.toList:=by
  rw[<-hS.strs,List.map_map];have:(vs.zip vs).map Kf=((vs.zip vs).map Prod.fst).map λv=>(strOf v).cps.toList:=by rw[List.map_map];rfl
  rw[this,List.map_fst_zip (Nat.le_refl _)];rfl
 rw[e];unfold List.Nodup at nd ⊢;rw[List.pairwise_map];exact nd.imp λh e=>h (SE e)
theorem IV {a:Addr}{vs:List Value}{ss:List Str}{n:Nat}{P:PySem.Fin->Shared->Prop}(ho:s.heap.get? a=some (seqObj "list" vs.toArray n))(hS:StrsAre vs ss)(nd:ss.Nodup)(hz:vs.length<=sizeLine)
 (h:∀(out:Array Value) (ss':List Str),StrsAre out.toList ss'->ss'.Perm ss->sortedS ss'=true->P (.done (.ret .none)) { s with heap:=sortedHeap s.heap a vs out }):
 wpAny (model prog w) A (Builtin.«list.sort» ⟨[.ref a],[]⟩) P E s:=by
 rcases Nat.lt_or_ge vs.length 64 with l|l
 ·refine list_sort_treeK strKind_oneLt ho hS.keysOf (λv₁ v₂ rest e=>keyKind_strs (by rw[<-e];exact hS)) l λst' a1 a2=>?_
  obtain⟨ss',b1,b2,b3⟩:=sorted_out_str hS a1 a2;exact h _ ss' b1 b2 b3
 ·obtain⟨v₁,v₂,rest,rfl⟩:∃v₁ v₂ rest,vs=v₁::v₂::rest:=by
   match vs,l with
   |v₁::v₂::rest,_=>exact⟨v₁,v₂,rest,rfl⟩
  refine PN ho (by simp) hz (κ:=oneType') (O:=strKind.toKeyOrd) (key:=Kf) (Nr hS nd) (λg _=>⟨λR hR=>?_,PQ hS⟩) λxs a1 a2=>?_
  ·rw[keyKind_strs hS];exact wpAny_pure hR
  ·have mem:∀i (hi:i < xs.size),∃z t,xs[i].1=.str z t:=λi hi=>by
    have m:xs[i]∈(pairsOf (v₁::v₂::rest)).toList:=(Array.perm_iff_toList_perm.mp a1).mem_iff.mp (by simp)
    rw[pairsOf_toList]at m;exact hS.all _ (mem_zip_self m).2
   have kk:∀i (hi:i < xs.size),KK strKind xs i=Kf xs[i]:=λi hi=>by
    obtain⟨z,t,e⟩:=mem i hi;rw[KK_str hi (x:=z) (t:=t) (q:=xs[i].2) (Prod.ext e rfl)];unfold Kf;rw[e];rfl
   obtain⟨ss',b1,b2,b3⟩:=sorted_out_str hS a1 (λi j hij hj=>by
    rw[<-a1.size_eq]at hj;rw[kk i (by omega),kk j hj]
    rcases Nat.lt_or_ge i j with l|l
    ·have:=List.pairwise_iff_getElem.mp a2 i j (by simp;omega) (by simpa using hj) l
     rw[Array.getElem_toList,Array.getElem_toList]at this;exact this
    ·have:i=j:=by omega
     subst this;exact KeyOrd.kle_refl _)
   exact h _ ss' b1 b2 b3
end
section
variable {prog:Program}{w:World}{A:Around}{E:Value->Shared->Prop}{s:Shared}{T:String}{r d:Addr}{n:Nat}{P:Nat->Value->Prop}{OK:Heap->Prop}
theorem Kg {R:List Value->Shared->Prop}(K:KdlSrc prog w T r d n P OK)(hh:A.handled=none)(hok:OK s.heap)(hn:n<=sizeLine)
 (h:∀(g:Heap) (tk:Nat) (acc:Array Value),s.heap.objs.size<=g.objs.size->(∀b o,s.heap.get? b=some o->g.get? b=some o)->ItemsOf P acc n->R acc.toList { s with heap:=g,toks:=tk }):
 wpAny (model prog w) A (collect (.ref r)) R E s:=by
 obtain⟨l1,l2⟩:=K.there _ hok;unfold collect;refine wpAny_bind (wpAny_runValue (codeAny_builtin F.entry_proto_collect ?_))
 rw[Around.under_plainId F.plain_proto_collect _];refine wpAny_bind (wpAny_newObj_type (wpAny_pure ⟨plainId_quiet F.plain_list_iadd _,codeAny_builtin F.entry_list_iadd ?_⟩))
 rw[Around.under_plainId F.plain_list_iadd _];have g0:(s.heap.push { cls:=.type "list",data:=.seq ([]:List Value).toArray }).get? s.heap.objs.size=some { cls:=.type "list",data:=.seq #[] }:=Heap.get?_push_size _ rfl
 refine wpAny_mono (kdl_extend (A:=A) (s:={ s with heap:=s.heap.push { cls:=.type "list",data:=.seq ([]:List Value).toArray } })
  (R:=λ(q:Result) (s':Shared)=>∃(g:Heap) (tk:Nat) (xs:Array Value) (c':Nat),q=.ok (.ret (.ref s.heap.objs.size))/\s'={ s with heap:=g,toks:=tk }/\(∀b o,s.heap.get? b=some o->g.get? b=some o)/\
   g.get? s.heap.objs.size=some { cls:=.type "list",dict:=none,data:=.seq xs c',slots:=#[] }/\ItemsOf P xs n)
  K hh (K.keep _ _ hok λb _ o e=>Heap.get?_push_of_some _ e) s.heap.objs.size (Nat.ne_of_gt l1) (Nat.ne_of_gt l2) (.ref s.heap.objs.size) 0 g0
  (λg tk xs c' k1 k2 k3=>⟨g,tk,xs,c',rfl,rfl,λb o e=>k1 b o (Nat.ne_of_lt (Heap.lt_size e)) (Heap.get?_push_of_some _ e),k2,k3⟩) hn) (λf s' x=>?_) λe s' x=>?_
 ·cases f with
  |done f=>
   obtain⟨g,tk,xs,c',e,rfl,k1,k2,k3⟩:=x;cases e;exact wpAny_bind (wpAny_load k2 (wpAny_pure (h g tk xs (Nat.le_of_lt (Heap.lt_size k2)) k1 k3)))
  |again c₁=>
   refine⟨x.1,codeAny_mono x.2 λq s₂ y=>?_⟩
   obtain⟨g,tk,xs,c',rfl,rfl,k1,k2,k3⟩:=y;exact wpAny_bind (wpAny_load k2 (wpAny_pure (h g tk xs (Nat.le_of_lt (Heap.lt_size k2)) k1 k3)))
 ·obtain⟨_,_,_,_,z,_⟩:=x
  cases z
end
section
variable {X:Cx}
theorem JU (hc:X.calm=true):Be X (.builtin "sorted") (λvs H Q=>∃(a:Addr) (kvs:List (Key×V)) (zs:List Str),vs=[.ref a]/\Rd H a (.dK kvs)/\kvs.map (·.1)=zs.map Sum.inr/\zs.Nodup/\
 ∀(ss':List Str) (l:Addr),ss'.Perm zs->sortedS ss'=true->H l=none->Q (.ref l) (upd H l (.lst (ss'.map V.str)))):=by
 intro pins s σ H xs us Q I r h;obtain⟨a,kvs,zs,rfl,hq,hk,nd,q⟩:=h;obtain⟨u,rfl,ru⟩:=vals1 r;cases(show u=Value.ref a from ru)
 have hh:X.A.in1.handled=none:=I.ok.hd hc;obtain⟨z,hy,vs,rv,dd⟩:=KC I.hok hq;obtain⟨o,es,ep,ho,hrest⟩:=id dd;have da:s.heap.DictAt (Ac X.prog X.w) a vs ep:=⟨o,es,ho,hrest⟩;have vl:=rv.length;refine Calls.call_function_entry kind_sorted plain_sorted entry_sorted (args_sorted1 _) ?_
 unfold Builtin.«sorted»;refine wpAny_bind (m:=checkCount "sorted" 1 1 _) (wpAny_pure ?_)
 have K:=kdl_dict (prog:=X.prog) (w:=X.w) (knd:=Ac X.prog X.w) (kvs:=vs) (ep:=ep) hy;refine wpAny_bind (Kg (A:=X.A.in1) K hh da (by rw[<-vl];exact z) λh1 tk acc sz old1 hacc=>?_)
 have zl:zs.length=vs.length:=by
  have:=congrArg List.length hk;rw[List.length_map,List.length_map]at this;omega
 have hS:StrsAre acc.toList zs:=by
  refine CV (MO ?_ λi x u hx hu=>?_)
  ·simp[hacc.1,zl]
  ·rw[List.getElem?_map]at hx
   rw[Array.getElem?_toList]at hu
   have il:i < zs.length:=by
    rw[zl,<-hacc.1];exact(Array.getElem?_eq_some_iff.mp hu).1
   obtain⟨kk,xx,e1,e2⟩:=hacc.2 i u hu
   have ki:(kvs.map (·.1))[i]?=some kk:=by
    have il':i < kvs.length:=by omega
    rw[List.getElem?_map,List.getElem?_eq_getElem il']
    obtain⟨y,ey,_⟩:=SU rv (k:=kvs[i].1) (v:=kvs[i].2) (List.getElem?_eq_getElem il')
    rw[ey]at e1;cases e1;rfl
   rw[hk,List.getElem?_map,List.getElem?_eq_getElem il]at ki
   rw[List.getElem?_eq_getElem il]at hx
   cases hx;cases ki;exact UN e2
 have al:acc.toList.length<=sizeLine:=by rw[Array.length_toList,hacc.1,<-vl];exact z
 refine wpAny_bind (wpAny_newList ?_ al)
 have hL:(h1.push (seqObj "list" acc.toList.toArray 0)).get? h1.objs.size=some (seqObj "list" acc.toList.toArray 0):=Heap.get?_push_size _ rfl
 refine wpAny_bind (wpAny_holding (wpAny_call_entry slot_list_sort ⟨_,hL,rfl⟩ entry_list_sort (IV (s:={ s with heap:=h1.push (seqObj "list" acc.toList.toArray 0),toks:=tk }) hL hS nd al λout ss' b1 b2 b3=>⟨_,rfl,?_⟩) (args_list_sort _)))
 obtain⟨e,he⟩:=sortedHeap_at (out:=out) hL
 have old:∀b o,s.heap.get? b=some o->(sortedHeap (h1.push (seqObj "list" acc.toList.toArray 0)) h1.objs.size acc.toList out).get? b=some o:=λb o eb=>by
  have lt:=Heap.lt_size (old1 _ _ eb);rw[sortedHeap_old (Nat.ne_of_lt lt) (by rw[show(h1.push (seqObj "list" acc.toList.toArray 0)).objs.size=h1.objs.size+1 from Heap.size_push ..];exact Nat.lt_succ_of_lt lt)]
  exact Heap.get?_push_of_some _ (old1 _ _ eb)
 have I2:=I.laid (t':=tk) old sz (show Am X.prog X.w _ _ _ (.lst (ss'.map V.str))from⟨by rw[List.length_map,b2.length_eq,zl,<-vl];exact z,out.toList,e,Cc b1,he⟩)
 exact wpAny_pure ⟨_,rfl,.ref h1.objs.size,_,I2,rfl,q ss' _ b2 b3 (I.hok.fresh sz)⟩
end
end L2
namespace L2
open PySem PySem.Spec PyProof.Rows PySem.W
section
variable {X:Cx}
variable {e st:Expr}{te:TE}{ts:TO}{pos p2:Pos}
end
def Ti (x:Str):It:=⟨λi _=>i < x.cps.size,λi H v H'=>H'=H/\∃c,x.cps[i]?=some c/\v=.str ⟨#[c]⟩,λi _=>x.cps.size<=i⟩
theorem PR {P:Program}{w:World}{K:PySem.W.Frag}{tg:Expr}(x:Str)(t:Tok)(it:Addr):Turn P w K tg (Ti x) [it] it (λi h=>h.IsStrIter it (strIterType x) x t i) where
 mem:=by simp
 obj:=λi h st b hb=>by
  have e:b=it:=by simpa using hb
  subst e;obtain⟨o,e,c,d⟩:=st;exact⟨o,e,λv z=>by rw[d]at z;cases z⟩
 keep:=λi h h' st k=>by
  obtain⟨o,e,c,d⟩:=st;exact⟨o,k it (by simp) o e,c,d⟩
 item:=by
  intro X hP hw hK hc i pins s σ H E I hf st hg;subst hP hw hK;have hg:i < x.cps.size:=hg;obtain⟨f0,f1,f2,f3,f4,f5⟩:=hf it (by simp)
  have hx:x.cps[i]?=some (x.cps[i]'hg):=Array.getElem?_eq_getElem hg
  have go:∀(h':Heap),h'.IsStrIter it (strIterType x) x t (i+1)->Heap.SameBut it s.heap h'->∃u,some (Value.str ⟨#[x.cps[i]'hg]⟩ s.toks)=some u/\
   wpAny (model X.prog X.w) X.A (letOwnedTupleGo tg (.ref it) u) (λ_ s2=>∃v H',Inv X pins σ H' s2/\RelV v u/\(Ti x).yld i H v H'/\s2.heap.IsStrIter it (strIterType x) x t (i+1)/\∀b∈[it],H' b=none) E { s with heap:=h',toks:=s.toks+1 }:=λh' st' sb=>by
   have I1:Inv X pins σ H { s with heap:=h',toks:=s.toks+1 }:=I.turned (t':=s.toks+1) (λb o hb e=>(sb.2 b hb).trans e) f0 f1 f3 f4 f5
   obtain⟨o,e,c,d⟩:=id st';refine⟨_,rfl,L9 (s:={ s with heap:=h',toks:=s.toks+1 }) e c d ?_ ⟨.str ⟨#[x.cps[i]'hg]⟩,H,I1,⟨_,rfl⟩,⟨rfl,_,hx,rfl⟩,st',λb hb=>(hf b hb).1⟩⟩
   unfold strIterType
   split<;>decide
  cases c:x.cps.all (·< 128)with
  |true=>
   have e:strIterType x="str_ascii_iterator":=by unfold strIterType;rw[c];rfl
   rw[e]at st;exact wpAny_pyNext_ascii_item st hx λh' st' sb=>go h' (by rw[e];exact st') sb
  |false=>
   have e:strIterType x="str_iterator":=by unfold strIterType;rw[c];rfl
   rw[e]at st;exact wpAny_pyNext_wide_item st hx λh' st' sb=>go h' (by rw[e];exact st') sb
 done:=by
  intro X hP hw hK hc i pins s σ H E I hf st hg;subst hP hw hK;have hg:x.cps.size<=i:=hg;obtain⟨f0,f1,f2,f3,f4,f5⟩:=hf it (by simp)
  have hx:x.cps[i]?=none:=Array.getElem?_eq_none hg
  cases c:x.cps.all (·< 128)with
  |true=>
   have e:strIterType x="str_ascii_iterator":=by unfold strIterType;rw[c];rfl
   rw[e]at st;exact wpAny_pyNext_ascii_end (I.ok.hd hc) st hx λh' eb=>⟨rfl,I.turned (t':=s.toks) (λb o hb e=>eb b o hb e) f0 f1 f3 f4 f5⟩
  |false=>
   have e:strIterType x="str_iterator":=by unfold strIterType;rw[c];rfl
   rw[e]at st;exact wpAny_pyNext_wide_end (I.ok.hd hc) st hx λh' eb=>⟨rfl,I.turned (t':=s.toks) (λb o hb e=>eb b o hb e) f0 f1 f3 f4 f5⟩
 self:=λ_ _ _ _ _ st h=>by
  cases c:x.cps.all (·< 128)with
  |true=>
   have e:strIterType x="str_ascii_iterator":=by unfold strIterType;rw[c];rfl
   rw[e]at st;exact wpAny_pyIter_striter_ascii st h
  |false=>
   have e:strIterType x="str_iterator":=by unfold strIterType;rw[c];rfl
   rw[e]at st;exact wpAny_pyIter_striter_wide st h
section
variable {X:Cx}{tg:Expr}
def Vg (tl:TE):TI:=λσ H R=>tl σ H λx H1=>∃z,x=.str z/\R (Ti z) H1
theorem Sw {l:Expr}{tl:TE}(hl:PE X l tl):PI X tg l (Vg tl):=by
 intro pins s σ H R I h;refine A8 (hl pins s σ H _ I h) λv s1 ⟨x,H1,I1,r1,q1⟩=>?_
 obtain⟨z,rfl,q⟩:=q1;obtain⟨t,rfl⟩:=r1;refine wpAny_pyIter_strU ?_
 refine⟨s1.heap.objs.size,[s1.heap.objs.size],_,_,H1,rfl,I1.kept (t':=s1.toks) λb o e=>Heap.get?_push_of_some _ e,PR z t _,⟨_,Heap.get?_push_size _ rfl,rfl,rfl⟩,λb hb=>?_,q⟩
 have e:b=s1.heap.objs.size:=by simpa using hb
 subst e;exact I1.Io (Nat.le_refl _) (I1.hok.fresh (Nat.le_refl _))
end
section
variable {NL:List Str}{ix:List Nat}{g:TG}{tt:TT}{te:TE}{σ:St}{H1:Hp}{Qs:Hp->Prop}{acc:Addr}
theorem PU {z:Str}(hn:z.cps.size < 10000)(Pv:Nat->List V->Hp->Prop)
 (hacc:∀i ys H2,Pv i ys H2->H2 acc=some (.lst ys)/\ys.length<=i)(h0:Pv 0 [] (upd H1 acc (.lst [])))(hstop:∀ys H2,Pv z.cps.size ys H2->Qs H2)
 (hturn:∀i c ys H2,z.cps[i]?=some c->Pv i ys H2->g (.str ⟨#[c]⟩) (BC NL ix σ) H2 λσ' H4=>σ'.drop NL.length=ix.map (λj=>σ.getD j none)/\tt σ' H4 λb H5=>
  if b=true then te σ' H5 λv H6=>H6 acc=some (.lst ys)/\Pv (i+1) (ys++[v]) (upd H6 acc (.lst (ys++[v])))else Pv (i+1) ys H5):
 ∃W:Nat->Nat->List V->Hp->Prop,(∃m,W 0 m [] (upd H1 acc (.lst [])))/\
 ∀i m ys H2,W i m ys H2->H2 acc=some (.lst ys)/\ys.length < sizeLine/\
  (((Ti z).stop i H2/\Qs H2)\/((Ti z).go i H2/\∃N:List V->Hp->Prop,(∀ys' H',N ys' H'->∃m',m' < m/\W (i+1) m' ys' H')/\
    ∀x H3,(Ti z).yld i H2 x H3->g x (BC NL ix σ) H3 λσ' H4=>σ'.drop NL.length=ix.map (λj=>σ.getD j none)/\tt σ' H4 λb H5=>
     if b=true then te σ' H5 λv H6=>H6 acc=some (.lst ys)/\N (ys++[v]) (upd H6 acc (.lst (ys++[v])))else N ys H5)):=by
 refine Ox z.cps.size hn Pv hacc h0 (λys H2 hp=>⟨Nat.le_refl _,hstop ys H2 hp⟩) λi ys H2 hi hp=>⟨hi,?_⟩
 rintro x H3 ⟨rfl,c,hc,rfl⟩;exact hturn i c ys H3 hc hp
end
section
variable {X:Cx}
end
end L2
namespace L2
open PySem PySem.Spec PyProof.Rows
section
variable {X:Cx}
def Ua (K:PySem.W.Frag):R2:=λx y H Q=>∃a b xs ys,x=.ref a/\y=.ref b/\BM K H a xs/\BM K H b ys/\xs.length+ys.length<=sizeLine/\
 (xs=[]->Q (.ref b) H)/\(xs≠[]->ys=[]->Q (.ref a) H)/\(xs≠[]->ys≠[]->∀p,H p=none->Q (.ref p) (upd H p (.tup (xs++ys))))
theorem PV {prog:Program}{w:World}{A:Around}{E:Value->Shared->Prop}{s:Shared}{t b:Addr}{vs ws:List Value}{Q:Value->Shared->Prop}(ht:IsTup s.heap t vs.toArray)(hb:IsTup s.heap b ws.toArray)(hv:vs=[])
 (h:Q (.ref b) s):wpAny (model prog w) A (binaryOp .Add (.ref t) (.ref b)) Q E s:=by
 obtain⟨⟨cls,dd,data,sl⟩,ho,hc,n,hd⟩:=id ht;obtain⟨⟨cls2,dd2,data2,sl2⟩,ho2,hc2,n2,hd2⟩:=id hb;simp only at hc hd hc2 hd2;subst hc hd hc2 hd2
 exact concat_meets ⟨_,ho,rfl⟩ ⟨_,ho2,rfl⟩ noFill_tuple_add seq_tuple_add PySem.F.slot_tuple_add PySem.F.entry_tuple_add (PySem.F.args_tuple_add_2 _ _)
  (tuple_addW0 t b vs.toArray ws.toArray n n2 dd dd2 sl sl2 (by simp[hv])) ⟨ho,ho2,h⟩
theorem Qp:C9 X (binaryOp .Add) (Ua X.K):=by
 intro pins s σ H x y v u Q I rx ry h;obtain⟨a,b,xs,ys,rfl,rfl,ha,hb,hz,q0,q1,q2⟩:=h
 by_cases hx:xs=[]
 ·cases rx
  cases ry;obtain⟨its,r1,p1,_⟩:=I.tuple ha;obtain⟨its2,r2,p2,_⟩:=I.tuple hb;exact PV p1 p2 (r1.F8.mpr hx) ⟨.ref b,H,I,rfl,q0 hx⟩
 ·exact QT pins s σ H _ _ v u Q I rx ry ⟨a,b,xs,ys,rfl,rfl,ha,hb,hx,hz,q1 hx,q2 hx⟩
end
end L2
namespace L2
open PySem PySem.Spec PyProof.Rows
theorem Am.obj {P:Program}{w:World}{H:Hp}{h:Heap}{a:Addr}{o:HO}(x:Am P w H h a o):∃u,h.get? a=some u:=by
 cases o with
 |lst xs=>obtain⟨_,_,_,_,e⟩:=x;exact⟨_,e⟩
 |tup xs=>obtain⟨⟨_,o,e,_⟩,_⟩:=x;exact⟨_,e⟩
 |dK kvs=>obtain⟨_,_,_,_,o,_,_,e,_⟩:=x;exact⟨_,e⟩
 |dT kvs=>obtain⟨_,_,_,_,o,_,_,e,_⟩:=x;exact⟨_,e⟩
 |set S n=>obtain⟨o,_,_,_,e,_⟩:=x;exact⟨_,e⟩
 |ins C dx fs=>obtain⟨_,_,_,e,_⟩:=x;exact⟨_,e⟩
 |own y=>exact x
 |xd fs=>obtain⟨_,⟨_,_,_,e,_⟩,_⟩:=x;exact⟨_,e⟩
 |rng lo hi=>obtain⟨_,_,_,e⟩:=x;exact⟨_,e⟩
 |frz ob u=>exact⟨_,x.1⟩
 |tbl ps=>exact⟨_,x⟩
 |met f y=>exact⟨_,x⟩
 |ext φ=>exact x.2.1
def Ub (l:List Env)(H₀:Hp)(h₀:Heap)(H':Hp)(a C:Addr)(h:Heap):Prop:=
 ∃B a0,Heap.FlyingW B l a (.ref C) a0 h/\(∀b o,h₀.get? b=some o->b∉Ej l->∃o',B.get? b=some o'/\(H₀ b=none->o'=o))/\∀b u,H' b=some u->∃o,B.get? b=some o
def K9 (P:Program)(w:World):LF:=λouter H s E e s'=>∃a C H',e=.ref a/\s'.os=s.os/\AllBare s'.gens/\Un (Ej outer) [] H H' s.heap s'.heap/\DO P w H' s'.heap/\Ub outer H s.heap H' a C s'.heap/\H' a=none/\E e (some C) H'
theorem PX {P:Program}{w:World}{H:Hp}{h h' B:Heap}(x:DO P w H h)(hB:∀b o,B.get? b=some o->h.get? b=some o)(hB':B.StaysIn h')(t:∀b u,H b=some u->∃o,B.get? b=some o):DO P w H h':=λa o e=>
 (x a o e).Ek (λb u hb q=>by
  have:∃o,B.get? b=some o:=by
   rcases hb with rfl|hb
   ·exact t _ _ e
   ·exact t _ _ hb
  obtain⟨o',e'⟩:=this;have z:=hB _ _ e';rw[q]at z;cases z;exact hB' _ _ e') (λ_ q=>q) λ_ _ q=>q
theorem Mj {X:Cx}{pins:List (Addr×Obj)}{σ:St}{H1 H2:Hp}{s1:Shared}{B h2:Heap}(I:Inv X pins σ H1 s1)(hex:X.ex=[])
 (inB:∀b o,s1.heap.get? b=some o->b∉Ej X.stack->∃o',B.get? b=some o'/\(H1 b=none->o'=o))(st:B.StaysIn h2)
 (fr:∀b o,s1.heap.get? b=some o->b∈Ej X.stack->∃sl,h2.get? b=some { o with slots:=sl })(free:∀b o,s1.heap.get? b=some o->H1 b=none->H2 b=none)
 (tups:∀b xs,H1 b=some (.tup xs)->H2 b=some (.tup xs))(frzs:∀b o u,H1 b=some (.frz o u)->H2 b=some (.frz o u))(tbls:∀b ps,H1 b=some (.tbl ps)->∃more,H2 b=some (.tbl (ps++more))):
 Un X.fs [] X.H₀ H2 X.s₀.heap h2/\∀b o,X.s₀.heap.get? b=some o->b∉X.fs->∃o',B.get? b=some o'/\(X.H₀ b=none->o'=o):=by
 have nx:∀b:Addr,b∉X.ex:=λb=>by rw[hex];simp
 have ns:∀b o,X.s₀.heap.get? b=some o->b∉X.fs->b∉Ej X.stack:=λb o e n z=>by
  rcases List.mem_cons.mp (I.GK b z)with q|q
  ·rw[q]at e
   exact absurd (Nat.lt_of_lt_of_le (Heap.lt_size e) I.ok.above) (Nat.lt_irrefl _)
  ·exact n q
 have toB:∀b o,X.s₀.heap.get? b=some o->b∉X.fs->∃o',B.get? b=some o'/\(X.H₀ b=none->o'=o):=λb o e n=>by
  obtain⟨o1,e1⟩:=I.base.there b o e (nx b);obtain⟨o2,e2,k2⟩:=inB b o1 e1 (ns b o e n);refine⟨o2,e2,λh0=>?_⟩
  have z:=I.base.keep b o e h0 n (nx b);rw[e1]at z;cases z;exact k2 (I.base.free b o e h0 (nx b))
 have inSt:∀b∈X.fs,∀o1,s1.heap.get? b=some o1->∃sl,h2.get? b=some { o1 with slots:=sl }:=λb hb o1 e1=>by
  by_cases hs:b∈Ej X.stack
  ·exact fr b o1 e1 hs
  ·obtain⟨o2,e2,k2⟩:=inB b o1 e1 hs
   have h1:H1 b=none:=by
    obtain⟨_,o,ho,_⟩:=I.ok.ED.mem hb;exact I.base.free b o ho (I.ok.frf b hb) (nx b)
   rw[k2 h1]at e2;exact⟨o1.slots,st _ _ e2⟩
 refine⟨⟨λb o e n hb _=>?_,λb o e n hb _=>?_,λb o e n _=>?_,λb o e _=>?_,λb xs e=>tups _ _ (I.base.tups _ _ e),λb o u e=>frzs _ _ _ (I.base.frzs _ _ _ e),λb ps e=>?_⟩,toB⟩
 ·obtain⟨o',e',k⟩:=toB b o e hb
  rw[k n]at e';exact st _ _ e'
 ·obtain⟨sl,e1⟩:=I.base.slot b o e n hb (nx b)
  obtain⟨sl2,e2⟩:=inSt b hb _ e1;exact⟨sl2,e2⟩
 ·obtain⟨o1,e1⟩:=I.base.there b o e (nx b)
  exact free b o1 e1 (I.base.free b o e n (nx b))
 ·obtain⟨o1,e1⟩:=I.base.there b o e (nx b)
  by_cases hb:b∈X.fs
  ·obtain⟨sl,q⟩:=inSt b hb o1 e1
   exact⟨_,q⟩
  ·obtain⟨o',e',_⟩:=toB b o e hb
   exact⟨o',st _ _ e'⟩
 ·obtain⟨m1,e1⟩:=I.base.tbls b ps e
  obtain⟨m2,e2⟩:=tbls b _ e1;exact⟨m1++m2,by rw[e2,Array.append_assoc]⟩
def Raises (X:Cx)(E:XK):Prop:=∀(pins:List (Addr×Obj)) (σ:St) (H1:Hp) (s1:Shared) (h':Heap) (a C:Addr) (vs:List Value),Inv X pins σ H1 s1->Heap.MadeExcOf s1.heap h' a (.ref C) vs->E (.ref a) (some C) H1->X.xe (.ref a) { s1 with heap:=h' }
section
variable {P:Program}{w:World}{K:PySem.W.Frag}{mg:Str->Option Value}{base:Heap}{N:List Str}{qual:Str}{scope:Scope}{f:Addr}{cd:Value}{A:Around}{outer:List Env}{s:Shared}{H:Hp}{E:XK}
theorem IW:Raises (EE (K9 P w) P w K mg base N qual scope f cd A outer s H E) E:=by
 intro pins σ H1 s1 h' a C vs I mk hE;have stk:=I.stack
 have nTr:∀b u,H1 b=some u->b∉Ej (EE (K9 P w) P w K mg base N qual scope f cd A outer s H E).stack:=λb u e z=>by
  rw[I.Il b z]at e;cases e
 have inB:∀b o,s1.heap.get? b=some o->b∉Ej (EE (K9 P w) P w K mg base N qual scope f cd A outer s H E).stack->(PySem.W.hideAll s1.heap (Ej (EE (K9 P w) P w K mg base N qual scope f cd A outer s H E).stack)).get? b=some o:=λb o e n=>PySem.W.hideAll_get _ e n
 show wpAny _ _ (leaving _ _) _ _ _
 refine wpAny_leaves_madeW (base:=PySem.W.hideAll s1.heap (Ej (EE (K9 P w) P w K mg base N qual scope f cd A outer s H E).stack)) (h:=s1.heap) I.ok.frames rfl (λb o q=>PySem.W.of_hideAll _ q)
  (PySem.W.funFrames_hide stk λenv he b hb=>List.mem_filterMap.mpr ⟨env,he,hb⟩) mk λh2 t fl _ _ sm=>?_
 generalize PySem.W.hideAll s1.heap (Ej (EE (K9 P w) P w K mg base N qual scope f cd A outer s H E).stack)=B at inB fl;have BS:∀b o,B.get? b=some o->s1.heap.get? b=some o\/True:=λ_ _ _=>.inr trivial
 obtain⟨u,k1⟩:=Mj (H2:=H1) (B:=B) (h2:=h2) I rfl (λb o e n=>⟨o,inB b o e n,λ_=>rfl⟩) fl.1
  (λb o e hb=>by
   obtain⟨_,o',e',nf⟩:=stk.mem hb;rw[e]at e';cases e';exact sm b o (mk.keeps _ _ e) nf)
  (λ_ _ _ z=>z) (λ_ _ z=>z) (λ_ _ _ z=>z) (λb ps z=>⟨#[],by rw[z];simp⟩)
 have tr:∀b u,H1 b=some u->∃o,B.get? b=some o:=λb u e=>by
  obtain⟨o,eo⟩:=(I.hok b u e).obj;exact⟨o,inB b o eo (nTr b u e)⟩
 refine⟨a,C,H1,rfl,I.os,I.bare,u,λb o e=>?_,⟨B,_,fl,k1,tr⟩,?_,hE⟩
 ·refine(I.hok b o e).Ek (λc v hc q=>?_) (λ_ q=>q) λ_ _ q=>q
  have nc:c∉Ej (EE (K9 P w) P w K mg base N qual scope f cd A outer s H E).stack:=by
   rcases hc with rfl|hc
   ·exact nTr _ _ e
   ·exact nTr _ _ hc
  exact fl.1 _ _ (inB c v q nc)
 ·cases q:H1 a with
  |none=>rfl
  |some u=>
   obtain⟨o,eo⟩:=(I.hok a u q).obj;rw[mk.new]at eo;cases eo
theorem IX:Passes (K9 P w) (EE (K9 P w) P w K mg base N qual scope f cd A outer s H E) E:=by
 intro pins σ H1 s1 e s2 I h;obtain⟨a,C,H2,rfl,os,bare,un,hok,⟨B,a0,fl,k0,tr⟩,ha,hE⟩:=h;show wpAny _ _ (leaving _ _) _ _ _;refine wpAny_leaves_onW (base:=B) I.ok.frames rfl fl λh3 fl3 sm=>?_
 obtain⟨u,k1⟩:=Mj (H2:=H2) (B:=B) (h2:=h3) I rfl k0 fl3.1
  (λb o e hb=>by
   obtain⟨sl,e2⟩:=un.slot b o e (I.Il b hb) hb (by simp)
   obtain⟨_,o',e',nf⟩:=I.stack.mem hb;rw[e]at e';cases e';obtain⟨sl3,e3⟩:=sm b _ e2 nf;exact⟨sl3,e3⟩)
  (λb o e n=>un.free b o e n (by simp)) un.tups un.frzs un.tbls
 exact⟨a,C,H2,rfl,os.trans I.os,bare,u,PX hok fl.1 fl3.1 tr,⟨B,a0,fl3,k1,tr⟩,ha,hE⟩
end
end L2
namespace L2
open PySem PySem.Spec PyProof.Rows
def Ef (a C:Addr):HO:=.ext λh=>∃o vs,h.get? a=some o/\o.cls=.ref C/\o.data=.fields vs
def Up (X:Cx)(pins:List (Addr×Obj))(σ:St)(a C:Addr)(H2:Hp)(s:Shared):Prop:=
 ∃H1 s1,Inv X pins σ H1 s1/\s.os=s1.os/\AllBare s.gens/\Un (Ej X.stack) [] H1 H2 s1.heap s.heap/\DO X.prog X.w H2 s.heap/\Ub X.stack H1 s1.heap H2 a C s.heap/\H2 a=none
section
variable {X:Cx}{pins:List (Addr×Obj)}{σ:St}{a C:Addr}{H1 H2:Hp}{s s1:Shared}{B h h':Heap}{a0:Value}
theorem Qq (H:Hp)(e:∃o vs,h.get? a=some o/\o.cls=.ref C/\o.data=.fields vs):Am X.prog X.w H h a (Ef a C):=by
 refine⟨e,?_,λh1 h2 ⟨o,vs,x1,x2,x3⟩ k=>⟨o,vs,k _ x1,x2,x3⟩⟩
 obtain⟨o,_,e,_⟩:=e;exact⟨o,e⟩
theorem Up.inv (U:Up X pins σ a C H2 s):Inv X pins σ (upd H2 a (Ef a C)) s:=by
 obtain⟨H1,s1,I,os,bare,un,hok,⟨B,a0,fl,k0,tr⟩,ha⟩:=U;obtain⟨oe,vs,e1,e2,e3,_⟩:=fl.first
 have na:∀b o,s1.heap.get? b=some o->b≠a:=λb o e z=>by
  subst z
  by_cases hb:b∈Ej X.stack
  ·obtain⟨_,o',e',nf⟩:=fl.2.2.1.mem hb
   rw[e1]at e';cases e';exact nf vs e3
  ·obtain⟨o',e',_⟩:=k0 b o e hb
   rw[fl.2.1]at e';cases e'
 have up:∀b u,H2 b=some u->upd H2 a (Ef a C) b=some u:=λb u e=>by rw[AO (AL e ha)];exact e
 refine I.RH (ch:=[]) os ⟨un.keep,un.slot,λb o e n hx=>?_,un.there,λb xs e=>up _ _ (un.tups b xs e),λb o u e=>up _ _ (un.frzs b o u e),λb ps e=>?_⟩ (λb o e=>?_) bare (λ_ z=>nomatch z)
 ·rw[AO (na b o e)];exact un.free b o e n hx
 ·obtain⟨more,e2⟩:=un.tbls b ps e
  exact⟨more,up _ _ e2⟩
 ·by_cases hb:b=a
  ·subst hb
   rw[AD]at e;cases e;exact Qq _ ⟨oe,vs,e1,e2,e3⟩
  ·rw[AO hb]at e
   exact(hok b o e).Ek (λ_ _ _ q=>q) (λc q=>up _ _ q) λc xs q=>up _ _ q
theorem RY (I:Inv X pins σ H1 s1)(os:s.os=s1.os)(bare:AllBare s.gens)(un:Un (Ej X.stack) [] H1 H2 s1.heap s.heap)(hok:DO X.prog X.w H2 s.heap)(hB:B.StaysIn s.heap)(ffs:s.heap.FunFrames B X.stack)
 (k0:∀b o,s1.heap.get? b=some o->b∉Ej X.stack->∃o',B.get? b=some o'/\(H1 b=none->o'=o))(tr:∀b u,H2 b=some u->∃o,B.get? b=some o)(ha:H2 a=none)
 (fl':Heap.FlyingW B X.stack a (.ref C) a0 h')(sm:s.heap.UpToSlots h'):Up X pins σ a C H2 { s with heap:=h' }:=by
 refine⟨H1,s1,I,os,bare,⟨λb o e n hb _=>?_,λb o e n hb _=>?_,un.free,λb o e _=>?_,un.tups,un.frzs,un.tbls⟩,PX hok hB fl'.1 tr,⟨B,a0,fl',k0,tr⟩,ha⟩
 ·obtain⟨o',e',k⟩:=k0 b o e hb
  rw[k n]at e';exact fl'.1 _ _ e'
 ·obtain⟨sl,e2⟩:=un.slot b o e n hb (by simp)
  obtain⟨_,o',e',nf⟩:=ffs.mem hb;rw[e2]at e';cases e';obtain⟨sl3,e3⟩:=sm b _ e2 nf;exact⟨sl3,e3⟩
 ·by_cases hb:b∈Ej X.stack
  ·obtain⟨_,o',e',_⟩:=fl'.2.2.1.mem hb
   exact⟨o',e'⟩
  ·obtain⟨o',e',_⟩:=k0 b o e hb
   exact⟨o',fl'.1 _ _ e'⟩
theorem PY {M:Model}{A:Around}{E:Value->Shared->Prop}{Q:Unit->Shared->Prop}(U:Up X pins σ a C H2 s)(h:∀h',Up X pins σ a C H2 { s with heap:=h' }->Q () { s with heap:=h' }):
 wpAny M A (setFlight (.ref a) none) Q E s:=by
 obtain⟨H1,s1,I,os,bare,un,hok,⟨B,a0,fl,k0,tr⟩,ha⟩:=U;exact lands_againW fl λh' fl' sm=>h h' (RY I os bare un hok fl.1 fl.2.2.1 k0 tr ha fl' sm)
theorem PZ {M:Model}{A:Around}{E:Value->Shared->Prop}{Q:Unit->Shared->Prop}(hA:A.frames=some X.stack)(hst:X.stack=X.env::X.outer)(hf:X.env.frame=some X.env.locals)(U:Up X pins σ a C H2 s)
 (h:∀h',Up X pins σ a C H2 { s with heap:=h' }->Q () { s with heap:=h' }):
 wpAny M A (noteFrame (.ref a) X.env) (λ_ s2=>wpAny M A (setFlight (.ref a) none) Q E s2) E s:=by
 obtain⟨H1,s1,I,os,bare,un,hok,⟨B,a0,fl,k0,tr⟩,ha⟩:=U;have fl0:=fl;rw[hst]at fl0 hA;refine wpAny_looks_onW hA hf fl0 λh1 hh sm=>?_
 refine wpAny_landsW hh λh2 fl2 sm2=>?_
 rw[<-hst]at fl2;exact h h2 (RY I os bare un hok fl.1 fl.2.2.1 k0 tr ha fl2 (sm.trans sm2))
abbrev Cx.Fh (X:Cx)(a:Addr):Cx:={ X with A:=X.A.mark (some (.ref a)),calm:=false,xe:=λ_ _=>False }
theorem Inv.Fh {H:Hp}(I:Inv X pins σ H s)(a:Addr):Inv (X.Fh a) pins σ H s:=
 ⟨⟨I.ok.mod,I.ok.kind,I.ok.glob,I.ok.blt,I.ok.above,I.ok.inj,I.ok.has,I.ok.cab,(λz=>nomatch z),I.ok.frames,I.ok.stk,I.ok.exf,I.ok.bs,I.ok.bsz,I.ok.noex,I.ok.exfs,I.ok.ED,I.ok.frf⟩,I.os,I.bare,I.base,I.loc,I.cell,I.free,I.freeC,I.pin,I.hok,I.len⟩
theorem Inv.uncaught {H:Hp}(ok:X.Ok)(I:Inv (X.Fh a) pins σ H s):Inv X pins σ H s:=⟨ok,I.os,I.bare,I.base,I.loc,I.cell,I.free,I.freeC,I.pin,I.hok,I.len⟩
theorem Inv.Ll {M:Model}{A:Around}{E:Value->Shared->Prop}{H:Hp}{i:Nat}{n:Str}{pos:Pos}{Q:Unit->Shared->Prop}(I:Inv X pins σ H s)(hN:X.N.Nodup)(hi:X.N[i]?=some n)(hl:X.env.kindOf n=some .local)
 (h:∀s',Inv X pins (σ.set i none) H s'->Q () s'):wpAny M A (do bindName X.env n .none;unbindBehindTheSuite X.env n pos) Q E s:=by
 obtain⟨m,hn,hl'⟩:=id I.loc;have hcls:(X.env.scope.kind==.class||(X.env.scope.kind==.module&&X.env.locals !=X.env.globals))=false:=by rw[I.ok.kind];rfl
 have hiσ:i < σ.length:=by rw[I.len];exact(List.getElem?_eq_some_iff.mp hi).1
 refine wpAny_nameGoes_keeps hl hn hcls λh' v hn' hs=>?_
 obtain⟨oL,_,_,hoL,_⟩:=id hn;refine h _ ⟨I.ok,I.os,I.bare,⟨λb o e n hb hx=>?_,λb o e n hb hx=>?_,I.base.free,λb o e hx=>?_,I.base.tups,I.base.frzs,I.base.tbls⟩,⟨_,hn',λj y v' e1 e2 e3=>?_⟩,λy c e=>?_,I.free,I.freeC,λp hp=>?_,λb ob e=>?_,by simpa using I.len⟩
 ·exact(hs.2 b (Nat.ne_of_lt (Nat.lt_of_lt_of_le (Heap.lt_size e) I.ok.above))).trans (I.base.keep b o e n hb hx)
 ·obtain⟨sl,e1⟩:=I.base.slot b o e n hb hx
  exact⟨sl,(hs.2 b (Nat.ne_of_lt (Nat.lt_of_lt_of_le (Heap.lt_size e) I.ok.above))).trans e1⟩
 ·obtain⟨o',e1⟩:=I.base.there b o e hx
  exact⟨o',(hs.2 b (Nat.ne_of_lt (Nat.lt_of_lt_of_le (Heap.lt_size e) I.ok.above))).trans e1⟩
 ·by_cases hj:j=i
  ·subst hj
   rw[List.getElem?_set_self hiσ]at e2
   cases e2
  ·rw[List.getElem?_set_ne (Ne.symm hj)]at e2
   obtain⟨u',r',q⟩:=hl' j y v' e1 e2 e3;refine⟨u',r',?_⟩
   rcases q with⟨k,e⟩|⟨k,c,e,z⟩
   ·refine .inl ⟨k,?_⟩
    have:y≠n:=λe=>hj (GL hN e1 (e▸hi))
    simp[this,e]
   ·exact .inr ⟨k,c,e,z.sameBut hs (I.QN y c e)⟩
 ·obtain⟨w',z⟩:=I.cell y c e
  exact⟨w',z.sameBut hs (I.QN y c e)⟩
 ·obtain⟨e,n,ne,nf,d⟩:=I.pin p hp
  exact⟨(hs.2 p.1 ne).trans e,n,ne,nf,d⟩
 ·refine(I.hok b ob e).Ek (λc w' hc q=>(hs.2 c ?_).trans q) (λ_ q=>q) λ_ _ q=>q
  rintro rfl
  rcases hc with rfl|hc
  ·rw[I.free]at e;cases e
  ·rw[I.free]at hc;cases hc
end
def PH (X:Cx)(hs:List ExceptHandler)(th:Addr->Addr->TS):Prop:=
 ∀(pins:List (Addr×Obj)) (s:Shared) (σ:St) (H2:Hp) (D:Ends) (a C:Addr),Up X pins σ a C H2 s->th a C D σ (upd H2 a (Ef a C))->wpAny (model X.prog X.w) X.A (handleBy (.ref a) X.env hs) (SP X pins D) X.xe s
def Ends.Ll (D:Ends)(i:Nat):Ends:=⟨λσ H=>D.nx (σ.set i none) H,D.rt,λσ H=>D.bk (σ.set i none) H,λσ H=>D.ct (σ.set i none) H⟩
section
variable {X:Cx}{x n:Str}{i:Nat}{np pos:Pos}{b₀:Stmt}{suite:List Stmt}{rest:List ExceptHandler}{Cl:Addr}{th:Addr->TS}{tr:Addr->Addr->TS}
theorem Sx {M:Model}{H:Hp}{h:Heap}{a C:Addr}(e:Am X.prog X.w H h a (Ef a C)):PySem.W.Looks M h (typeOf (.ref a)) (.ref C):=by
 obtain⟨⟨o,vs,e1,e2,_⟩,_⟩:=e;rw[<-e2];exact(PySem.W.Looks.ld e1).andThen .now
theorem Uc (hg:Gl X x)(hm:X.mg x=some (.ref Cl))(hN:X.N.Nodup)(hi:X.N[i]?=some n)(hl:X.env.scope.names.lookup n=some .local)(hb:∀a,Jr (X.Fh a) (b₀::suite) (th a))(hd:(x==("__debug__":Str))=false:=by decide):
 PH X (.ExceptHandler (some (.Name x np)) (some n) (b₀::suite) pos::rest) (λa C D σ H=>PySem.W.exmOne X.K (.ref C) (.ref Cl)=some true/\th a (D.Ll i) (σ.set i (some (.ref a))) H):=by
 intro pins s σ H2 D a C U h;obtain⟨hx,h⟩:=h;have I:=U.inv;refine wpAny_handleBy_cons (codeAny_handlers_test (El (I.Fh a) hg hm ?_ hd)) (by intro q;cases q)
 refine(PySem.W.exm_one I.GJ (Sx (I.hok a _ AD)) hx).here ?_
 refine codeAny_handlers_suite_as ?_
 refine PY U λh' U'=>?_
 have I':=U'.inv;refine GN I' hN hi (.inl hl) (v:=.ref a) rfl (λs2 I2=>?_) (.inr hl)
 refine wpAny_mono (hb a pins s2 _ _ (D.Ll i) (I2.Fh a) h) (λf s3 q=>?_) λ_ _ z=>False.elim z
 cases f with
 |next=>obtain⟨σ',H',J,q⟩:=q;exact(J.uncaught I.ok).Ll hN hi hl λs4 J4=>⟨_,H',J4,q⟩
 |brk=>obtain⟨σ',H',J,q⟩:=q;exact(J.uncaught I.ok).Ll hN hi hl λs4 J4=>⟨_,H',J4,q⟩
 |cont=>obtain⟨σ',H',J,q⟩:=q;exact(J.uncaught I.ok).Ll hN hi hl λs4 J4=>⟨_,H',J4,q⟩
 |ret u=>obtain⟨v,σ',H',J,r,q⟩:=q;exact(J.uncaught I.ok).Ll hN hi hl λs4 J4=>⟨v,_,H',J4,r,q⟩
end
def HI (CX:LF)(X:Cx)(E:XK)(σ:St):Prop:=∀(pins:List (Addr×Obj)) (H:Hp) (s:Shared) (e:Value) (s':Shared),Inv X pins σ H s->CX X.stack H s E e s'->X.xe e s'
abbrev Cx.tries (X:Cx)(pn:List (Addr×Obj))(xe:Value->Shared->Prop):Cx:={ X with pn:=pn,xe:=xe }
def Ud (th:Addr->Addr->TS)(D:Ends)(σ:St):XK:=λv c H'=>∃a C,v=.ref a/\c=some C/\th a C D σ (upd H' a (Ef a C))
def Vh (tb:XK->St->TS)(th:Addr->Addr->TS):TS:=λD σ H=>tb (Ud th D σ) σ D σ H
theorem Sy {X:Cx}{body:List Stmt}{h₀:ExceptHandler}{hs:List ExceptHandler}{pos:Pos}{tb:XK->St->TS}{th:Addr->Addr->TS}
 (hb:∀pn xe E σ0,HI (K9 X.prog X.w) (X.tries pn xe) E σ0->Jr (X.tries pn xe) body (tb E σ0))(hh:PH X (h₀::hs) th)
 (hst:X.stack=X.env::X.outer:=by rfl)(hf:X.env.frame=some X.env.locals:=by rfl):PS X (.Try body (h₀::hs) [] [] pos) (Vh tb th):=by
 intro pins s σ H D I h
 have toX:∀{xe:Value->Shared->Prop} {pins':List (Addr×Obj)} {σ':St} {H':Hp} {s':Shared},Inv (X.tries (X.pn++pins) xe) pins' σ' H' s'->Inv X pins σ' H' s':=λ{xe pins' σ' H' s'} J=>
  ⟨I.ok,J.os,J.bare,J.base,J.loc,J.cell,J.free,J.freeC,λp hp=>J.pin p (List.mem_append_left _ hp),J.hok,J.len⟩
 refine wpAny_Try_except ?_
 have J:∀xe,Inv (X.tries (X.pn++pins) xe) [] σ H s:=λxe=>
  ⟨⟨I.ok.mod,I.ok.kind,I.ok.glob,I.ok.blt,I.ok.above,I.ok.inj,I.ok.has,I.ok.cab,I.ok.hd,I.ok.frames,I.ok.stk,I.ok.exf,I.ok.bs,I.ok.bsz,I.ok.noex,I.ok.exfs,I.ok.ED,I.ok.frf⟩,I.os,I.bare,I.base,I.loc,I.cell,I.free,I.freeC,λp hp=>by
    rw[List.append_nil]at hp;exact I.pin p hp,I.hok,I.len⟩
 refine wpAny_mono (hb (X.pn++pins) (λe s'=>∃a C H2,e=.ref a/\Up X pins σ a C H2 s'/\th a C D σ (upd H2 a (Ef a C))) (Ud th D σ) σ ?_ [] s σ H D (J _) h) (λf s1 q=>?_) λe s1 q=>?_
 ·rintro pins' H1 s1 e s2 I1 ⟨a,C,H2,rfl,os,bare,un,hok,fly,ha,a',C',e1,e2,hE⟩
  cases e1;cases e2;exact⟨a,C,H2,rfl,⟨H1,s1,toX I1,os,bare,un,hok,fly,ha⟩,hE⟩
 ·cases f with
  |next=>obtain⟨σ',H',J,q⟩:=q;exact wpAny_execs_nil ⟨σ',H',toX J,q⟩
  |brk=>obtain⟨σ',H',J,q⟩:=q;exact⟨σ',H',toX J,q⟩
  |cont=>obtain⟨σ',H',J,q⟩:=q;exact⟨σ',H',toX J,q⟩
  |ret u=>obtain⟨v,σ',H',J,r,q⟩:=q;exact⟨v,σ',H',toX J,r,q⟩
 ·obtain⟨a,C,H2,rfl,U,hE⟩:=q
  exact PZ I.ok.frames hst hf U λh' U'=>hh pins _ σ H2 D a C U' hE
end L2
namespace L2
open PySem PySem.Spec PyProof.Rows PySem.W PySem.Calls PySem.Builtin PySem.Builtin.ObjectAttr PySem.Builtin.Getset_descriptor
structure Pa (K:Frag)(C:Addr):Prop where
 ga:findIn K (.ref C) "__getattribute__"=some (some (.builtin "BaseException.__getattribute__"))
 gn:findIn K (.ref C) "__getattr__"=some none
 cl:findIn K (.ref C) "__class__"=some (some (.builtin "object.__class__"))
 gt:specialIn K (.builtin "object.__class__") "__get__"=some (some (.builtin "getset_descriptor.__get__"))
 tk:takesIn K (.builtin "object.__class__")=some true
 ob:mroIn K C (.type "object")=some true
 be:mroIn K C (.type "BaseException")=some true
 cd:(clsIn K C).isSome=true
section
variable {prog:Program}{w:World}{A:Around}{E:Value->Shared->Prop}{s:Shared}{K:Frag}{x C:Addr}{R:Result->Shared->Prop}
theorem Hl {tp:Value}(X:K.In s.heap)(L0:Looks (model prog w) s.heap (typeOf (.ref x)) (.ref C))(L1:Looks (model prog w) s.heap (isSubtype (.ref C) (.type "object")) true)
 (h:R (.ok (.ret (.ref C))) s):codeAny (model prog w) A (.call (.builtin "getset_descriptor.__get__") ⟨[.builtin "object.__class__",.ref x,tp],[]⟩) R s:=by
 obtain⟨hh,g,dr,t,os⟩:=s;refine codeAny_call_builtin KF.slot_gs.plain KF.entry_gs (KF.slot_gs.check _ _ _ _ _ _ _ _ KF.type_class (KF.args_gs _ _ _) ?_)
 unfold Builtin.«getset_descriptor.__get__» descrGet;rw[dga_obj];refine wpAny_bind (wpAny_pure ?_)
 unfold descrGetter descrCheckInstance descrNameAndClass isInstance;simp only[KF.owner_class]
 repeat lk
 refine⟨Code.quiet_builtin _ (by decide+kernel),codeAny_builtin KF.entry_class ?_⟩
 unfold Builtin.«object.__class__» shownTypeOf
 repeat lk
 exact h
theorem Pb {M:Model}{h:Heap}(X:K.In h)(Z:Pa K C):Looks M h (find (.ref x) (.ref C) "__class__") (.bind (.builtin "getset_descriptor.__get__") (.builtin "object.__class__")):=by
 have L1:=looks_findIn (M:=M) X Z.cl;have L2:Looks M h (getOf (some (.builtin "object.__class__"))) (some (.builtin "getset_descriptor.__get__")):=looks_specialIn X Z.gt;have L3:=looks_takesIn (M:=M) X Z.tk;refine L1.andThen (L2.andThen ?_)
 exact(show Looks M h (dataDescriptor? (some (.builtin "object.__class__")) (some (.builtin "getset_descriptor.__get__"))) (some (.builtin "getset_descriptor.__get__",.builtin "object.__class__"))from L3.andThen .now).andThen (Looks.tag .now)
theorem Nt {tk:Tok}{Q:Fin->Shared->Prop}(X:K.In s.heap)(Z:Pa K C)(L0:Looks (model prog w) s.heap (typeOf (.ref x)) (.ref C))(h:Q (.done (.ret (.ref C))) s):
 wpAny (model prog w) A (Builtin.«object.__getattribute__» ⟨[.ref x,.str "__class__" tk],[]⟩) Q E s:=by
 have L1:=looks_mroIn (M:=model prog w) X Z.ob;have L2:=Pb (M:=model prog w) (x:=x) X Z;obtain⟨hh,g,dr,t,os⟩:=s;unfold Builtin.«object.__getattribute__»
 repeat(any_goals (first|assumption|(refine wpAny_bind (L0.at ?_))|(refine wpAny_bind (L2.at ?_))|wp_step))
 refine Hl X L0 L1 ?_
 repeat(any_goals (first|assumption|wp_step))
theorem Pc:builtinKind "BaseException.__getattribute__"=some .slot:=by decide+kernel
theorem Nu:splitId "BaseException.__getattribute__"=some ("BaseException","__getattribute__"):=by decide+kernel
theorem Nv {M:Model}{nameV:Value}{Q:Unit->Shared->Prop}(LI:Looks M s.heap (isInstance (.ref x) (.type "BaseException")) true)(h:Q () s):
 wpAny M A (checkBuiltinCall "BaseException.__getattribute__" ⟨[.ref x,nameV],[]⟩) Q E s:=
 check_slot (i:="BaseException.__getattribute__") (owner:="BaseException") (n:="__getattribute__") (self:=.ref x) (rest:=[nameV]) (kw:=[]) Pc Nu LI (F.args_bexc_ga (.ref x) nameV) h
theorem Pd {tk:Tok}(X:K.In s.heap)(Z:Pa K C)(L0:Looks (model prog w) s.heap (typeOf (.ref x)) (.ref C))(h:R (.ok (.ret (.ref C))) s):
 codeAny (model prog w) A (.call (.builtin "BaseException.__getattribute__") ⟨[.ref x,.str "__class__" tk],[]⟩) R s:=
 codeAny_call_builtin F.attrBase_ValueError.ga.plain F.entry_bexc_ga (Nv (L0.andThen (looks_mroIn (M:=model prog w) X Z.be)) (Nt X Z L0 h))
theorem Sz {hh:Heap}{g:Array GenState}{dr:Drawn}{t:Nat}{os:OsState}{tk:Tok}{fill expr:Bool}{Q:Value->Shared->Prop}(X:K.In hh)(Z:Pa K C)(L0:Looks (model prog w) hh (typeOf (.ref x)) (.ref C))(h:Q (.ref C) ⟨hh,g,dr,t,os⟩):
 wpAny (model prog w) A (getAttrBy (.ref x) (.str "__class__" tk) fill expr) Q E ⟨hh,g,dr,t,os⟩:=by
 have f3:=F.attrBase_ValueError.ga.bind (.ref x);have hx0:(expr&&onTheHeap (Value.builtin "BaseException.__getattribute__"))=false:=by cases expr<;>rfl
 have hx2:(Value.builtin "BaseException.__getattribute__"==Value.builtin "object.__getattribute__")=false:=by decide+kernel
 have hx1:(onTheHeap (Value.ref C)&&Value.builtin "BaseException.__getattribute__"==Value.builtin "object.__getattribute__")=false:=by rw[hx2];rfl
 have L1:=looks_findIn (M:=model prog w) X Z.ga;have L2:=looks_findIn (M:=model prog w) X Z.gn
 repeat(any_goals (first|assumption|(refine wpAny_bind (L0.at ?_))|(refine wpAny_bind (L1.at ?_))|(refine wpAny_bind (L2.at ?_))|wp_step))
 refine Pd X Z L0 ?_
 repeat(any_goals (first|assumption|wp_step))
theorem Nw {hh:Heap}{g:Array GenState}{dr:Drawn}{t:Nat}{os:OsState}{Q:Option Value->Shared->Prop}(X:K.In hh)(Z:Pa K C)(L0:Looks (model prog w) hh (typeOf (.ref x)) (.ref C))(h:Q (some (.ref C)) ⟨hh,g,dr,t+1,os⟩):
 wpAny (model prog w) A (getAttr? (.ref x) "__class__") Q E ⟨hh,g,dr,t,os⟩:=by
 unfold getAttr? getAttrBy?
 repeat(any_goals (first|assumption|(with_reducible apply Sz X Z L0)|wp_step))
end
end L2
namespace L2
open PySem PySem.Spec PyProof.Rows PySem.W
theorem HJ {K:Frag}{a C:Addr}(Z:Pa K C):KitX K (.ref a) (.ref C) (λh=>∃o vs,h.get? a=some o/\o.cls=.ref C/\o.data=.fields vs) where
 ty:=λM h _ ⟨o,vs,e1,e2,_⟩=>e2▸(Looks.ld e1).andThen .now
 it:=λM h X _=>by
  obtain⟨cd,hcD⟩:=Option.isSome_iff_exists.mp Z.cd;unfold clsIn at hcD
  split at hcD
  ·rename_i c' d' cd' sl' ho
   intro A' Q' E' s' k q;unfold isType loadHead;exact wpAny_bind (wpAny_loadPart (k _ _ (X _ _ ho)) (wpAny_pure q))
  ·cases hcD
 ne:=λh tp dd its n sl X htp=>by
  obtain⟨cd,hcD⟩:=Option.isSome_iff_exists.mp Z.cd;refine Bool.eq_false_iff.mpr λq=>?_
  have e:C=tp:=Value.ref.inj (beq_iff_eq.mp q);subst e;unfold clsIn at hcD
  split at hcD
  ·rename_i c' d' cd' sl' ho
   have z:=(X _ _ ho).symm.trans htp;cases z
  ·cases hcD
 ca:=λ{prog w A E Q s} X I k=>by
  obtain⟨hh,g,d,t,os⟩:=s;obtain⟨o,vs,e1,e2,_⟩:=I;exact Nw (C:=C) X Z (e2▸(Looks.ld e1).andThen .now) k
section
variable {X:Cx}
theorem Kh:∀{Ds:List Addr} {its:List Value},Vals (Ds.map V.ref) its->its=Ds.map Value.ref
 |[],_,.nil=>rfl
 |D::Ds,_::_,.cons r h=>by rw[Kh h];cases(show _=Value.ref D from r);rfl
theorem DH (K:Frag)(hK:X.K=K:=by rfl):Be X (.builtin "isinstance") (λvs H Q=>∃(a C D:Addr) (b:Bool),vs=[.ref a,.ref D]/\H a=some (Ef a C)/\Pa K C/\kitOne K (.ref C) (.ref D)=some b/\Q (.bl b) H):=by
 subst hK;intro pins s σ H xs us Q I r h;obtain⟨a,C,D,b,rfl,ha,Z,e,q⟩:=h;obtain⟨u,v,rfl,ru,rv⟩:=vals2 r;cases(show u=Value.ref a from ru)
 cases(show v=Value.ref D from rv)
 exact kia_one (HJ Z) I.GJ (I.hok a _ ha).1 e (λz=>nomatch z) λtk=>⟨.bl b,H,I.tok tk,rfl,q⟩
theorem Hm (K:Frag)(hK:X.K=K:=by rfl):Be X (.builtin "isinstance") (λvs H Q=>∃(a C:Addr) (T:String) (b:Bool),vs=[.ref a,.ty T]/\H a=some (Ef a C)/\Pa K C/\kitOne K (.ref C) (.type T)=some b/\Q (.bl b) H):=by
 subst hK;intro pins s σ H xs us Q I r h;obtain⟨a,C,T,b,rfl,ha,Z,e,q⟩:=h;obtain⟨u,v,rfl,ru,rv⟩:=vals2 r;cases(show u=Value.ref a from ru)
 cases(show v=Value.type T from rv)
 exact kia_one (HJ Z) I.GJ (I.hok a _ ha).1 e (λz=>nomatch z) λtk=>⟨.bl b,H,I.tok tk,rfl,q⟩
theorem EL (K:Frag)(hK:X.K=K:=by rfl):Be X (.builtin "isinstance") (λvs H Q=>∃(a C c:Addr) (Ds:List Addr) (b:Bool),vs=[.ref a,.ref c]/\H a=some (Ef a C)/\H c=some (.tup (Ds.map V.ref))/\Pa K C/\kitAny K (.ref C) (Ds.map Value.ref)=some b/\Q (.bl b) H):=by
 subst hK;intro pins s σ H xs us Q I r h;obtain⟨a,C,c,Ds,b,rfl,ha,hc,Z,e,q⟩:=h;obtain⟨u,v,rfl,ru,rv⟩:=vals2 r;cases(show u=Value.ref a from ru)
 cases(show v=Value.ref c from rv)
 obtain⟨_,its,rv2,⟨o,h1,h2,n,h3⟩⟩:=(show Am X.prog X.w H s.heap c (.tup (Ds.map V.ref))from I.hok c _ hc)
 cases Kh rv2;obtain⟨cls,dd,dat,sl⟩:=o;cases h2;cases h3;exact kia_tup (HJ Z) I.GJ (I.hok a _ ha).1 h1 e (λz=>nomatch z) λtk=>⟨.bl b,H,I.tok tk,rfl,q⟩
end
abbrev Ue:List Value:=[.type "ValueError",.type "Exception",.type "BaseException",.type "object"]
theorem Qr {K:Frag}{h:Heap}{C:Addr}{bmB:List Value}{newId:String}(X:K.In h)(q:excIn K C bmB newId=true):
 ∃bm N nm q bs hdct sn sub ab col dd k0 k1 k2 k3 k5 mN,h.get? C=some (excClassObj nm q C N bs bm hdct sn sub ab col dd k0 k1 k2 k3 k5 newId)/\h.Ns N mN/\mN "__init__"=none/\OwnTail h bmB bm:=by
 unfold excIn at q
 split at q
 ·rename_i dd cd sl ho
  split at q
  ·rename_i C' bm k0 k1 k2 k3 n k5 hm hs
   simp only[Bool.and_eq_true,beq_iff_eq,Bool.not_eq_true']at q;obtain⟨⟨⟨⟨⟨rfl,rfl⟩,hdel⟩,ht⟩,hok⟩,hni⟩:=q;obtain⟨nm,bs,mro,ns,qn,hd,sn,sub,ab,col,del⟩:=cd
   dsimp only at hm hdel hok hni
   subst hm hdel
   have hsl:sl=#[k0,k1,k2,k3,some (.builtin n),k5]:=by
    obtain⟨l⟩:=sl;simp only at hs;rw[hs]
   subst hsl;exact⟨bm,ns,nm,qn,bs,hd,sn,sub,ab,col,dd,k0,k1,k2,k3,k5,_,X _ _ ho,.of_isNs (isNs_of_in X hok),nsMap_none_of_in X hok hni,tail_of_in X ht⟩
  ·cases q
 ·cases q
def S3 (E:XK)(C:Addr)(ta:TA):TS:=λ_ σ H=>ta σ H λvs H1=>vs.length<=sizeLine/\∀a,H1 a=none->E (.ref a) (some C) H1
theorem Ki {X:Cx}{E:XK}{x:Str}{C:Addr}{e₀:Expr}{rest:List Expr}{ta:TA}{np cpos pos:Pos}(R:Raises X E)(hm:X.mg x=some (.ref C))(hq:excIn X.K C Ue "ValueError.__new__"=true)(hg:Gl X x)(ha:PA X (e₀::rest) ta)
 (hc:X.calm=true:=by rfl)(he:starEach (e₀::rest) X.env=(false,eval e₀ X.env)::starEach rest X.env:=by rfl)(hplain:(backTo cpos (starEach rest X.env)).any (·.1)=false:=by rfl)(hd:(x==("__debug__":Str))=false:=by decide):
 PS X (.Raise (some (.Call (.Name x np) (e₀::rest) [] cpos)) none pos) (S3 E C ta):=by
 intro pins s σ H D I h;obtain⟨tl,N,nm,q,bs,hdct,sn,sub,ab,col,dd,k0,k1,k2,k3,k5,mN,hC,hN,hni,T⟩:=Qr I.ok.mod.kin hq
 refine wpAny_Raise_call_subT (C:=C) (nm:=nm) (q:=q) (N:=N) (bs:=bs) (bm:=tl) (hdct:=hdct) (sn:=sn) (sub:=sub) (ab:=ab) (col:=col) (dd:=dd) (k0:=k0) (k1:=k1) (k2:=k2) (k3:=k3) (k5:=k5)
  F.excBase_ValueError (mN:=mN) (T.hasType F.excBase_ValueError.hasBase) (I.ok.hd hc) (by rw[he];show(false||(backTo cpos (starEach rest X.env)).any (·.1))=false;rw[hplain];rfl) hni (El I hg hm ⟨rfl,?_⟩ hd)
 have hh:=ha cpos pins s σ H _ I h;rw[he]at hh ⊢;refine Calls.evalArgs_plain (wpAny_mono hh (λvs s₂ h₂=>?_) λ_ _ y=>y)
 obtain⟨us,H1,I1,r,hz,q⟩:=h₂;refine⟨rfl,by rw[<-r.length];exact hz,I1.bk _ _ hC,hN.keeps I1.bk,T.keeps I1.bk,λh' e mk=>R pins σ H1 s₂ h' e C vs I1 mk (q e ?_)⟩
 cases z:H1 e with
 |none=>rfl
 |some u=>
  obtain⟨o,eo⟩:=(I1.hok e u z).obj;rw[mk.new]at eo;cases eo
def Hn (P:Program)(w:World)(K:Frag)(mg:Str->Option Value)(base:Heap)(x:Str)(k:Nat)(ps:List Str)(sp:Sp):Prop:=
 ∃f fd,ET P w K mg base (K9 P w) k f fd ps sp/\Binds K fd ps []/\keepIn K (.ref f)=true/\mg x=some (.ref f)
section
variable {P:Program}{w:World}{K:Frag}{mg:Str->Option Value}{base:Heap}
theorem Df.S4 {x:Str}{st:Stmt}{N ps:List Str}{k:Nat}{sp:Sp}(D:Df K mg x st)(S:AV N ps (AJ st))
 (hb:∀(kV doc pm:Value) (an:Option Addr) (cdv ct:Value) (us:List Value),us.length=ps.length->bindArgs (fnOf x x (DA st) (B9 st) (AJ st) .none kV doc pm an cdv ct) ⟨us,[]⟩=pure (ps.zip us))
 (len:∀vs H Q E,sp vs H Q E->vs.length=ps.length)
 (hbody:∀(f:Addr) (cdv:Value) (A:Around) (outer:List Env) (s:Shared) (H:Hp) (vs:List V) (Q:VK) (E:XK),Bx k (A.deeper (envOfC x (AJ st) s.heap.objs.size f cdv))->sp vs H Q E->
  ∃t,Jr (EE (K9 P w) P w K mg base N x (AJ st) f cdv A outer s H E) (B9 st) t/\t { nx:=λ_ H'=>Q .BK H',rt:=Q } (start N vs) H):Hn P w K mg base x (k+1) ps sp:=by
 obtain⟨f,fd,F,m⟩:=D;refine⟨f,fd,?_,F.binds hb,F.kp,m⟩
 obtain⟨oc,od,kV,doc,pm,an,cdv,ct,osl,rfl,lk,hcd⟩:=F.ex;exact RO lk hcd S len λA outer s H vs Q E hr hsp=>hbody f cdv A outer s H vs Q E hr hsp
end
section
variable {X:Cx}{x:Str}{k:Nat}{ps:List Str}{sp:Sp}{p pos:Pos}{e:Expr}{es:List Expr}{t:TA}{E:XK}{σ0:St}
theorem Kj (G:Hn X.prog X.w X.K X.mg X.base x k ps sp)(hx:Passes (K9 X.prog X.w) X E)(hr:Bx k X.A)(hg:Gl X x)(ha:PA X (e::es) t)
 (hdb:(x==("__debug__":Str))=false:=by decide)(he:starEach (e::es) X.env=(false,eval e X.env)::starEach es X.env:=by rfl)(hpl:(backTo pos (starEach es X.env)).any (·.1)=false:=by rfl):
 PE X (.Call (.Name x p) (e::es) [] pos) (MF sp [] E t):=by
 obtain⟨f,fd,F,b,kp,m⟩:=G;exact MG F hr hg m kp b .nil hx ha hdb he hpl
theorem Qt {f:Addr}{fd:FuncData}{pins:List (Addr×Obj)}{H:Hp}{s:Shared}{Q:VK}{us:List Value}{vs:List V}(F:ET X.prog X.w X.K X.mg X.base (K9 X.prog X.w) k f fd ps sp)(hr:Bx k X.A)(hb:Binds X.K fd ps [])(hx:HI (K9 X.prog X.w) X E σ0)
 (I:Inv X pins σ0 H s)(r:Vals vs us)(h:sp (vs++[]) H Q E):wpAny (model X.prog X.w) X.A (call (.ref f) us) (EP X pins σ0 Q) X.xe s:=by
 have r2:Vals (vs++[]) (us++[]):=r.append .nil;have hl:(us++[]).length=ps.length:=by rw[<-r2.length];exact F.len _ _ _ _ h
 refine wpAny_call (codeAny_mono (F.run X.A X.stack s H ⟨us,[]⟩ (us++[]) (vs++[]) Q E hr I.R3 (hb s us I.GJ hl) r2 h) λr s' hq=>?_)
 cases r with
 |error e=>exact hx pins H s e s' I hq
 |ok fl=>
  cases fl with
  |ret u=>exact I.after hq
  |next=>exact False.elim hq
  |brk=>exact False.elim hq
  |cont=>exact False.elim hq
theorem Kk (G:Hn X.prog X.w X.K X.mg X.base x k ps sp)(hx:HI (K9 X.prog X.w) X E σ0)(hr:Bx k X.A)(hg:Gl X x)(ha:PA X (e::es) t)
 (hdb:(x==("__debug__":Str))=false:=by decide)(he:starEach (e::es) X.env=(false,eval e X.env)::starEach es X.env:=by rfl)(hpl:(backTo pos (starEach es X.env)).any (·.1)=false:=by rfl):
 PE X (.Call (.Name x p) (e::es) [] pos) (λσ H Q=>σ=σ0/\MF sp [] E t σ H Q):=by
 obtain⟨f,fd,F,b,kp,hm⟩:=G;rintro pins s σ H Q I ⟨rfl,h⟩;refine wpAny_Call_Name_kw (El I hg hm ?_ hdb)
 refine callWith_K (h₀:=X.base) I.ok.mod.kin kp (A8 (ha pos pins s σ H _ I h) λus s1 ⟨vs,H1,I1,r,q⟩=>⟨I1.GJ,?_⟩) he hpl
 exact Qt F hr b hx I1 r q
end
end L2
namespace L2
open PySem PySem.Spec PyProof.Rows PySem.W
section
variable {X:Cx}
theorem Nx (hu:X.A.units < cLine):C9 X (compareOp .NotEq) (λx y H Q=>∃a b xs,x=.ref a/\y=.ref b/\Ah X.K H a xs/\Ah X.K H b []/\Q (.bl (!xs.isEmpty)) H):=by
 intro pins s σ H x y v u Q I rx ry h;obtain⟨a,b,xs,rfl,rfl,h1,h2,q⟩:=h;cases xs with
 |nil=>exact NV hu pins s σ H _ _ v u Q I rx ry ⟨a,b,[],[],rfl,rfl,h1,h2,rfl,rfl,q⟩
 |cons z zs=>
  cases(show v=Value.ref a from rx)
  cases(show u=Value.ref b from ry)
  obtain⟨us,r1,l1,_⟩:=I.list h1;obtain⟨ws,r2,l2,_⟩:=I.list h2;have e1:=r1.length;have e2:=r2.length;rw[List.length_cons]at e1;rw[List.length_nil]at e2;exact SeqAt.RcNeAt.lists_lengths l1.isList l2.isList (by simp;omega) hu _ _ _ _ ⟨.bl _,H,I,rfl,q⟩
end
end L2
namespace L2
open PySem PySem.Spec PyProof.Rows PySem.W
theorem EM:entryFor table "list.extend.loop"=some Builtin.«list.extend.loop»:=by kernel_rfl
theorem CD:plainId "list.extend.loop"=true:=by kernel_rfl
theorem Kl {M:Model}{A:Around}{E:Value->Shared->Prop}{s:Shared}{a:Addr}{Q:Option Obj->Shared->Prop}(h:Q (s.heap.get? a) s):wpAny M A (loadIfAlive a) Q E s:=by
 intro Γ p hΓ;unfold loadIfAlive;rw[Sem.wp_loadIfAlive];exact h
abbrev Dp (h:Heap)(z TI TO p:Addr)(b:Bool):Prop:=h.get? z=some { cls:=.type "zip",data:=.fields #[rawInt (p:Int),.bool b,.bool false,.ref TI,.ref TO] }
section
variable {prog:Program}{w:World}{A:Around}{E:Value->Shared->Prop}{s:Shared}
theorem Km {z TI TO p:Addr}{b:Bool}{Q:Bool->Shared->Prop}(hz:Dp s.heap z TI TO p b)(hp:∃o,s.heap.get? p=some o)
 (h:∀h',Dp h' z TI TO p true->Heap.SameBut z s.heap h'->Q false { s with heap:=h' }):wpAny (model prog w) A (Builtin.SmallTypes.ownedTupleIsFree (.ref z)) Q E s:=by
 obtain⟨o,ho⟩:=hp;unfold Builtin.SmallTypes.ownedTupleIsFree;refine wpAny_bind (wpAny_field hz rfl (x:=rawInt (p:Int)) rfl ?_)
 show wpAny _ _ (loadIfAlive (p:Int).toNat >>= _) _ _ _;refine wpAny_bind (Kl ?_)
 rw[Int.toNat_natCast,ho];show wpAny _ _ (field (.ref z) 1 >>= _) _ _ _;refine wpAny_bind (wpAny_field hz rfl (x:=.bool b) rfl ?_)
 cases b with
 |true=>exact wpAny_pure (h s.heap hz ⟨rfl,λ_ _=>rfl⟩)
 |false=>
  show wpAny _ _ (setField (.ref z) 1 (.bool true) >>= _) _ _ _;exact wpAny_bind (wpAny_setField_rec hz (by simp) λh₁ hz₁ hs₁=>wpAny_pure (h h₁ hz₁ hs₁))
theorem HK {z TI TO i1 i2 p:Addr}{fp1 fp2:List Addr}{n1 n2 k:Nat}{P1 P2:Nat->Value->Prop}{S1 S2:Nat->Heap->Prop}{bb:Bool}{Q:Value->Shared->Prop}(Z:ZA z TI TO i1 i2 fp1 fp2)
 (D1:Draws prog w A i1 fp1 n1 P1 S1)(D2:Draws prog w A i2 fp2 n2 P2 S2)
 (hz:Dp s.heap z TI TO p bb)(hp:∃o,s.heap.get? p=some o)(hTI:IsPair s.heap TI (.ref i1) (.ref i2))(h1:S1 k s.heap)(h2:S2 k s.heap)(l1:k < n1)(l2:k < n2)
 (hQ:∀x y h' tk,P1 k x->P2 k y->Dp h' z TI TO p true->S1 (k+1) h'->S2 (k+1) h'->IsPair h' s.heap.objs.size x y->h'.objs.size=s.heap.objs.size+1->
  (∀c o,c≠z->c≠i1->c≠i2->s.heap.get? c=some o->h'.get? c=some o)->Q (.ref s.heap.objs.size) { s with heap:=h',toks:=tk }):
 wpAny (model prog w) A (Builtin.«zip.__next__» ⟨[.ref z],[]⟩) (λfin s'=>∃v,fin=.done (.ret v)/\Q v s') E s:=by
 obtain⟨hp₀,g,d,tk₀,os⟩:=s;show wpAny _ _ (field (.ref z) 2 >>= _) _ _ _;refine wpAny_bind (wpAny_field hz rfl (x:=.bool false) rfl ?_)
 show wpAny _ _ (field (.ref z) 3 >>= _) _ _ _;refine wpAny_bind (wpAny_field hz rfl (x:=.ref TI) rfl ?_)
 refine wpAny_bind (wpAny_seqItems hTI rfl ?_)
 show wpAny _ _ (Builtin.SmallTypes.ownedTupleIsFree (.ref z) >>= _) _ _ _;refine wpAny_bind (Km hz hp λh₁ hz₁ hs₁=>?_)
 replace hs₁:Heap.SameBut z hp₀ h₁:=hs₁
 simp only[Bool.false_eq_true,if_false,List.forIn_toArray,List.forIn_cons,List.forIn_nil];refine wpAny_bind (wpAny_bind (wpAny_bind (wpAny_holding ?_)))
 show wpAny _ _ (Builtin.SmallTypes.nextOf (.ref i1) >>= _) _ _ _;have h1₁:S1 k h₁:=D1.frame _ _ _ h1 λc hc o e=>hs₁.extBut _ _ (λq=>Z.z1 (q▸hc)) e
 refine wpAny_bind (D1.item k _ _ _ l1 h1₁ λx h₂ tk₂ hx h1₂ hs₂=>wpAny_pure ?_)
 replace hs₂:Heap.SameBut i1 h₁ h₂:=hs₂
 refine wpAny_pure ?_
 refine wpAny_bind (wpAny_bind (wpAny_holding ?_))
 show wpAny _ _ (Builtin.SmallTypes.nextOf (.ref i2) >>= _) _ _ _;have h2₂:S2 k h₂:=D2.frame _ _ _ h2 λc hc o e=>hs₂.extBut _ _ (λq=>Z.a2 (q▸hc)) (hs₁.extBut _ _ (λq=>Z.z2 (q▸hc)) e)
 refine wpAny_bind (D2.item k _ _ _ l2 h2₂ λy h₃ tk₃ hy h2₃ hs₃=>wpAny_pure ?_)
 replace hs₃:Heap.SameBut i2 h₂ h₃:=hs₃
 refine wpAny_pure (wpAny_pure ?_)
 refine wpAny_bind (wpAny_newTuple (wpAny_pure ⟨_,rfl,?_⟩) (by show 2<=sizeLine;decide))
 have hsz:h₃.objs.size=hp₀.objs.size:=by rw[hs₃.1,hs₂.1,hs₁.1]
 have up:∀c o,h₃.get? c=some o->(h₃.push { cls:=.type "tuple",data:=.seq #[x,y] }).get? c=some o:=λc o e=>Heap.get?_push_of_some _ e
 have hz₃:Dp h₃ z TI TO p true:=hs₃.extBut _ _ Z.i2z.symm (hs₂.extBut _ _ Z.i1z.symm hz₁);have h1₃:S1 (k+1) h₃:=D1.frame _ _ _ h1₂ λc hc o e=>hs₃.extBut _ _ (λq=>Z.a1 (q▸hc)) e
 have hT:IsPair (h₃.push { cls:=.type "tuple",data:=.seq #[x,y] }) h₃.objs.size x y:=Heap.get?_push_size _ rfl
 have e8:(h₃.push { cls:=.type "tuple",data:=.seq #[x,y] }).objs.size=hp₀.objs.size+1:=by rw[Heap.size_push,hsz]
 have:=hQ x y (h₃.push { cls:=.type "tuple",data:=.seq #[x,y] }) tk₃ hx hy (up _ _ hz₃) (D1.frame _ _ _ h1₃ λc _ o e=>up c o e) (D2.frame _ _ _ h2₃ λc _ o e=>up c o e) (by rw[<-hsz];exact hT) e8
  λc o c1 c3 c4 e=>up c o (hs₃.extBut _ _ c4 (hs₂.extBut _ _ c3 (hs₁.extBut _ _ c1 e)))
 rw[<-hsz]at this;exact this
theorem Ho {z TI TO i1 i2 p:Addr}{fp1 fp2:List Addr}{n1 k:Nat}{P1:Nat->Value->Prop}{S1:Nat->Heap->Prop}{bb:Bool}{Q:Fin->Shared->Prop}(Z:ZA z TI TO i1 i2 fp1 fp2)
 (D1:Draws prog w A i1 fp1 n1 P1 S1)
 (hz:Dp s.heap z TI TO p bb)(hp:∃o,s.heap.get? p=some o)(hTI:IsPair s.heap TI (.ref i1) (.ref i2))(h1:S1 k s.heap)(hend:n1=k)
 (hE:∀h' e tk,(∀c o,c≠z->c≠i1->s.heap.get? c=some o->h'.get? c=some o)->(∃o,h'.get? e=some o/\o.cls=.type "StopIteration")->E (.ref e) { s with heap:=h',toks:=tk }):
 wpAny (model prog w) A (Builtin.«zip.__next__» ⟨[.ref z],[]⟩) Q E s:=by
 obtain⟨hp₀,g,d,tk₀,os⟩:=s;subst hend;show wpAny _ _ (field (.ref z) 2 >>= _) _ _ _;refine wpAny_bind (wpAny_field hz rfl (x:=.bool false) rfl ?_)
 show wpAny _ _ (field (.ref z) 3 >>= _) _ _ _;refine wpAny_bind (wpAny_field hz rfl (x:=.ref TI) rfl ?_)
 refine wpAny_bind (wpAny_seqItems hTI rfl ?_)
 show wpAny _ _ (Builtin.SmallTypes.ownedTupleIsFree (.ref z) >>= _) _ _ _;refine wpAny_bind (Km hz hp λh₁ hz₁ hs₁=>?_)
 replace hs₁:Heap.SameBut z hp₀ h₁:=hs₁
 simp only[Bool.false_eq_true,if_false,List.forIn_toArray,List.forIn_cons,List.forIn_nil];refine wpAny_bind (wpAny_bind (wpAny_bind (wpAny_holding ?_)))
 show wpAny _ _ (Builtin.SmallTypes.nextOf (.ref i1) >>= _) _ _ _;have h1₁:=D1.frame _ _ h₁ h1 λc hc o e=>hs₁.extBut _ _ (λq=>Z.z1 (q▸hc)) e
 exact wpAny_bind (D1.done _ _ _ h1₁ λh₂ e hs₂ he=>hE h₂ e _ (λc o c1 c3 x=>hs₂ _ _ c3 (hs₁.extBut _ _ c1 x)) he)
end
def Pe (κ1 κ2:SK)(z TI TO i1 i2:Addr)(k:Nat)(h:Heap):Prop:=
 ((IsZip h z TI TO .none)\/∃p b,Dp h z TI TO p b/\(∃o,h.get? p=some o))/\IsPair h TI (.ref i1) (.ref i2)/\(∃a b,IsPair h TO a b)/\κ1.own i1 k h/\κ2.own i2 k h
theorem Pe.keep {κ1 κ2:SK}{z TI TO i1 i2:Addr}{k:Nat}{h h':Heap}(x:Pe κ1 κ2 z TI TO i1 i2 k h)(k1:∀b∈[z,TI,TO,i1,i2],∀o,h.get? b=some o->h'.get? b=some o)(k2:∀b o,h.get? b=some o->∃o',h'.get? b=some o'):Pe κ1 κ2 z TI TO i1 i2 k h':=by
 obtain⟨hz,hTI,⟨a,c,hTO⟩,h1,h2⟩:=x;refine⟨?_,k1 TI (by simp) _ hTI,⟨a,c,k1 TO (by simp) _ hTO⟩,SK.DU h1 λo q=>k1 i1 (by simp) o q,SK.DU h2 λo q=>k1 i2 (by simp) o q⟩
 rcases hz with hz|⟨p,b,hz,o,hp⟩
 ·exact .inl (k1 z (by simp) _ hz)
 ·exact .inr ⟨p,b,k1 z (by simp) _ hz,k2 _ _ hp⟩
section
variable {X:Cx}{pins:List (Addr×Obj)}{σ:St}{H:Hp}{s:Shared}{A:Around}{E:Value->Shared->Prop}{κ1 κ2:SK}{z TI TO i1 i2:Addr}
theorem RZ {xs ys:List V}(hnd:[z,TI,TO,i1,i2].Nodup)(hf:∀b∈[z,TI,TO,i1,i2],CF X pins H b)(hx:κ1.has H xs)(hy:κ2.has H ys):ZA z TI TO i1 i2 (i1::κ1.box) (i2::κ2.box):=by
 simp only[List.nodup_cons,List.mem_cons,List.not_mem_nil,or_false,not_or]at hnd;obtain⟨⟨n1,n2,n3,n4⟩,⟨n5,n6,n7⟩,⟨n8,n9⟩,n10,_⟩:=hnd
 have nb:∀{κ:SK} {zs:List V} {b it:Addr},κ.has H zs->H b=none->b≠it->b∉it::κ.box:=λ{κ zs b it} hκ hb hne q=>by
  rcases List.mem_cons.mp q with q|q
  ·exact hne q
  ·exact SK.DV hκ q hb
 exact{ TIz:=Ne.symm n1,TOz:=Ne.symm n2,i1z:=Ne.symm n3,i2z:=Ne.symm n4,TITO:=n5,TIi1:=n6,TIi2:=n7,TOi1:=n8,TOi2:=n9,i12:=n10
        z1:=nb hx (hf z (by simp)).1 n3,z2:=nb hy (hf z (by simp)).1 n4,o1:=nb hx (hf TO (by simp)).1 n8,o2:=nb hy (hf TO (by simp)).1 n9,a1:=nb hx (hf i2 (by simp)).1 (Ne.symm n10),a2:=nb hy (hf i1 (by simp)).1 n10 }
theorem Pg {k:Nat}{xs ys:List V}{x y:V}{Q:Option Value->Shared->Prop}(I:Inv X pins σ H s)(hnd:[z,TI,TO,i1,i2].Nodup)(hf:∀b∈[z,TI,TO,i1,i2],CF X pins H b)(st:Pe κ1 κ2 z TI TO i1 i2 k s.heap)
 (hx:κ1.has H xs)(hy:κ2.has H ys)(hxi:xs[k]?=some x)(hyi:ys[k]?=some y)(hh:A.in1.handled=none)
 (h:∀h' tk,Inv X pins σ (upd H s.heap.objs.size (.tup [x,y])) { s with heap:=h',toks:=tk }->Pe κ1 κ2 z TI TO i1 i2 (k+1) h'->(∀b ob,b∉[z,TI,TO,i1,i2]->s.heap.get? b=some ob->h'.get? b=some ob)->Q (some (.ref s.heap.objs.size)) { s with heap:=h',toks:=tk }):
 wpAny (model X.prog X.w) A (pyNext (.ref z)) Q E s:=by
 obtain⟨hz,hTI,⟨a,c,hTO⟩,h1,h2⟩:=st;have l1:k < xs.length:=(List.getElem?_eq_some_iff.mp hxi).1
 have l2:k < ys.length:=(List.getElem?_eq_some_iff.mp hyi).1
 obtain⟨P1,S1,D1,s1,r1,w1⟩:=Bf (A:=A.in1) I hx h1 (hf i1 (by simp)).1 hh
 obtain⟨P2,S2,D2,s2,r2,w2⟩:=Bf (A:=A.in1) I hy h2 (hf i2 (by simp)).1 hh
 have Z:=RZ hnd hf hx hy
 have fin:∀u v h' tk,P1 k u->P2 k v->((IsZip h' z TI TO .none)\/∃p b,Dp h' z TI TO p b/\(∃o,h'.get? p=some o))->IsPair h' TI (.ref i1) (.ref i2)->(∃a b,IsPair h' TO a b)->S1 (k+1) h'->S2 (k+1) h'->IsPair h' s.heap.objs.size u v->
  (∀b ob,b∉[z,TI,TO,i1,i2]->s.heap.get? b=some ob->h'.get? b=some ob)->Q (some (.ref s.heap.objs.size)) { s with heap:=h',toks:=tk }:=λu v h' tk hu hv hz' hTI' hTO' s1' s2' hT' kk=>by
  obtain⟨x',hx',rx⟩:=r1 k u hu;obtain⟨y',hy',ry⟩:=r2 k v hv;have ex:x'=x:=Option.some.inj (hx'.symm.trans hxi);have ey:y'=y:=Option.some.inj (hy'.symm.trans hyi);subst ex ey;exact h h' tk (I.FQ (tk:=tk) hf kk (Nat.le_refl _) ⟨⟨(by show 2<=sizeLine;decide),_,hT',rfl⟩,[u,v],.cons rx (.cons ry .nil),_,hT',rfl,0,rfl⟩) ⟨hz',hTI',hTO',w1 _ _ s1',w2 _ _ s2'⟩ kk
 have hT:s.TypeIs (.ref z) "zip":=by
  rcases hz with hz|⟨p,b,hz,_⟩
  ·exact⟨_,hz,rfl⟩
  ·exact⟨_,hz,rfl⟩
 unfold pyNext;refine wpAny_bind (wpAny_attempt (wpAny_callSpecial?_slot (name:=Str.ofString "__next__") hT F.slot_zip_next (wpAny_call_entry F.slot_zip_next hT F.entry_zip_next ?_ (F.args_zip_next_1 _))))
 rcases hz with hz|⟨p,b,hz,hp⟩
 ·refine DY Z D1 D2 hz hTI hTO s1 s2 l1 l2 λu v h' tk hu hv hz' hTO' s1' s2' hT' hsz hk=>wpAny_pure (fin u v h' tk hu hv (.inr ⟨_,_,hz',_,hT'⟩) (hk _ _ Z.TIz Z.TITO Z.TIi1 Z.TIi2 hTI) ⟨_,_,hTO'⟩ s1' s2' hT' λb ob hb q=>hk b ob ?_ ?_ ?_ ?_ q)<;>(intro e;exact hb (by simp[e]))
 ·refine HK Z D1 D2 hz hp hTI s1 s2 l1 l2 λu v h' tk hu hv hz' s1' s2' hT' hsz hk=>wpAny_pure (fin u v h' tk hu hv (.inr ⟨_,_,hz',?_⟩) (hk _ _ Z.TIz Z.TIi1 Z.TIi2 hTI) ⟨_,_,hk _ _ Z.TOz Z.TOi1 Z.TOi2 hTO⟩ s1' s2' hT' λb ob hb q=>hk b ob ?_ ?_ ?_ q)
  ·obtain⟨o,hp⟩:=hp
   by_cases q1:p=z
   ·rw[q1];exact⟨_,hz'⟩
   ·by_cases q2:p=i1
    ·obtain⟨o,e,_⟩:=SK.Bh (w1 _ _ s1');rw[q2];exact⟨o,e⟩
    ·by_cases q3:p=i2
     ·obtain⟨o,e,_⟩:=SK.Bh (w2 _ _ s2');rw[q3];exact⟨o,e⟩
     ·exact⟨o,hk p o q1 q2 q3 hp⟩
  all_goals(intro e;exact hb (by simp[e]))
theorem Ph {xs ys:List V}{Q:Option Value->Shared->Prop}(I:Inv X pins σ H s)(hnd:[z,TI,TO,i1,i2].Nodup)(hf:∀b∈[z,TI,TO,i1,i2],CF X pins H b)(st:Pe κ1 κ2 z TI TO i1 i2 xs.length s.heap)
 (hx:κ1.has H xs)(hy:κ2.has H ys)(hh:A.in1.handled=none)
 (h:∀h' tk,(∀b ob,b∉[z,TI,TO,i1,i2]->s.heap.get? b=some ob->h'.get? b=some ob)->Q none { s with heap:=h',toks:=tk }):
 wpAny (model X.prog X.w) A (pyNext (.ref z)) Q E s:=by
 obtain⟨hz,hTI,⟨a,c,hTO⟩,h1,h2⟩:=st;obtain⟨P1,S1,D1,s1,r1,w1⟩:=Bf (A:=A.in1) I hx h1 (hf i1 (by simp)).1 hh
 obtain⟨P2,S2,D2,s2,r2,w2⟩:=Bf (A:=A.in1) I hy h2 (hf i2 (by simp)).1 hh
 have Z:=RZ hnd hf hx hy
 have hT:s.TypeIs (.ref z) "zip":=by
  rcases hz with hz|⟨p,b,hz,_⟩
  ·exact⟨_,hz,rfl⟩
  ·exact⟨_,hz,rfl⟩
 unfold pyNext;refine wpAny_bind (wpAny_attempt (wpAny_callSpecial?_slot (name:=Str.ofString "__next__") hT F.slot_zip_next (wpAny_call_entry F.slot_zip_next hT F.entry_zip_next ?_ (F.args_zip_next_1 _))))
 rcases hz with hz|⟨p,b,hz,hp⟩
 ·refine EG Z D1 D2 hz hTI hTO s1 s2 (.inl rfl) λh' e tk hk he=>?_
  obtain⟨o,ho,hcl⟩:=he;refine wpAny_bind (wpAny_isInstance (T:="StopIteration") (b:=true) ⟨o,ho,hcl⟩ isSubtype_stop ?_)
  exact wpAny_pure (h h' tk λb ob hb q=>hk b ob (λe=>hb (by simp[e])) (λe=>hb (by simp[e])) (λe=>hb (by simp[e])) (λe=>hb (by simp[e])) q)
 ·refine Ho Z D1 hz hp hTI s1 rfl λh' e tk hk he=>?_
  obtain⟨o,ho,hcl⟩:=he;refine wpAny_bind (wpAny_isInstance (T:="StopIteration") (b:=true) ⟨o,ho,hcl⟩ isSubtype_stop ?_)
  exact wpAny_pure (h h' tk λb ob hb q=>hk b ob (λe=>hb (by simp[e])) (λe=>hb (by simp[e])) q)
end
def BU (H0 H:Hp)(as:List Addr)(xs ys:List V):Prop:=
 as.Nodup/\(∀b,b∉as->H b=H0 b)/\∀(i:Nat) (a:Addr),as[i]?=some a->H0 a=none/\∃x y,xs[i]?=some x/\ys[i]?=some y/\H a=some (.tup [x,y])
theorem BU.nil {H:Hp}{xs ys:List V}:BU H H [] xs ys:=⟨List.nodup_nil,λ_ _=>rfl,λi a e=>by simp at e⟩
theorem BU.same {H0 H:Hp}{as:List Addr}{xs ys:List V}(n:BU H0 H as xs ys):AG H0 H:=λb u e=>by
 have nb:b∉as:=λhb=>by
  obtain⟨i,hi⟩:=List.getElem?_of_mem hb
  rw[(n.2.2 i b hi).1]at e;cases e
 exact(n.2.1 b nb).trans e
theorem BU.push {H0 H:Hp}{as:List Addr}{xs ys:List V}{p:Addr}{x y:V}(n:BU H0 H as xs ys)(hp:H p=none)(hx:xs[as.length]?=some x)(hy:ys[as.length]?=some y):BU H0 (upd H p (.tup [x,y])) (as++[p]) xs ys:=by
 have np:p∉as:=λhm=>by
  obtain⟨i,hi⟩:=List.getElem?_of_mem hm
  obtain⟨_,x,y,_,_,e⟩:=n.2.2 i p hi;rw[hp]at e;cases e
 refine⟨List.nodup_append.mpr ⟨n.1,by simp,λa ha b hb=>by simp at hb;subst hb;exact λe=>np (e▸ha)⟩,λb hb=>?_,λi a e=>?_⟩
 ·have h1:b∉as:=λq=>hb (by simp[q])
  have h2:b≠p:=λq=>hb (by simp[q])
  rw[AO h2];exact n.2.1 b h1
 ·rcases Nat.lt_or_ge i as.length with q|q
  ·rw[List.getElem?_append_left q]at e
   obtain⟨e1,x,y,e2,e3,e4⟩:=n.2.2 i a e;exact⟨e1,x,y,e2,e3,by rw[AO (λz=>np (by rw[<-z];exact List.mem_of_getElem? e))];exact e4⟩
  ·have q0:i=as.length:=by
    have:=(List.getElem?_eq_some_iff.mp e).1
    simp at this;omega
   subst q0;have ea:p=a:=by simpa using e
   subst ea;exact⟨by rw[<-n.2.1 p np];exact hp,x,y,hx,hy,AD⟩
section
variable {X:Cx}{pins:List (Addr×Obj)}{σ:St}{A:Around}{κ1 κ2:SK}{z TI TO i1 i2 S:Addr}{xs ys:List V}{H0:Hp}{res:Value}{R:Result->Shared->Prop}{g0:Array GenState}{d0:Drawn}{o0:OsState}
theorem GG {κ:SK}{H H':Hp}{xs:List V}(s:AG H H')(x:κ.has H xs):κ.has H' xs:=by
 cases κ with
 |lst a=>exact Or.imp (s _ _) (λ⟨o,q⟩=>⟨o,s _ _ q⟩) x
 |tup a=>exact Or.imp (s _ _) (λ⟨o,q⟩=>⟨o,s _ _ q⟩) x
 |str z=>exact x
theorem Kn (hnd:[z,TI,TO,i1,i2].Nodup)(hS:S∉[z,TI,TO,i1,i2])(hh:A.in1.in1.handled=none)(hx0:κ1.has H0 xs)(hy0:κ2.has H0 ys)(hl:xs.length=ys.length)(hz:xs.length<=sizeLine)
 (fin:∀(H':Hp) (s':Shared) (as:List Addr) (c:Nat),Inv X pins σ H' s'->CF X pins H' S->BU H0 H' as xs ys->as.length=xs.length->s'.heap.get? S=some (seqObj "list" (as.map Value.ref).toArray c)->R (.ok (.ret res)) s'):
 ∀(m k:Nat) (H:Hp) (s:Shared) (as:List Addr) (c:Nat),xs.length - k=m->k<=xs.length->Inv X pins σ H s->(∀b∈S::[z,TI,TO,i1,i2],CF X pins H b)->Pe κ1 κ2 z TI TO i1 i2 k s.heap->BU H0 H as xs ys->as.length=k->
  s.heap.get? S=some (seqObj "list" (as.map Value.ref).toArray c)->codeAny (model X.prog X.w) A (.builtin "list.extend.loop" ⟨[.ref S,.ref z,res],[]⟩) R s
 |0,k,H,s,as,c,hm,hk,I,hf,st,nt,la,hS0=>by
  have ek:k=xs.length:=by omega
  subst ek;refine codeAny_builtin EM ?_
  rw[Around.under_plainId CD _];show wpAny _ _ (pyNext (.ref z) >>= _) _ _ _;have hf5:∀b∈[z,TI,TO,i1,i2],CF X pins H b:=λb hb=>hf b (List.mem_cons_of_mem _ hb)
  refine wpAny_bind (Ph I hnd hf5 st (GG nt.same hx0) (GG nt.same hy0) hh λh' tk kk=>wpAny_pure ?_)
  exact fin H _ as c (I.DC (tk:=tk) hf5 kk) (hf S (by simp)) nt la (kk S _ hS hS0)
 |m+1,k,H,s,as,c,hm,hk,I,hf,st,nt,la,hS0=>by
  have lk:k < xs.length:=by omega
  have lk2:k < ys.length:=by omega
  refine codeAny_builtin EM ?_
  rw[Around.under_plainId CD _];show wpAny _ _ (pyNext (.ref z) >>= _) _ _ _;have hf5:∀b∈[z,TI,TO,i1,i2],CF X pins H b:=λb hb=>hf b (List.mem_cons_of_mem _ hb)
  refine wpAny_bind (Pg I hnd hf5 st (GG nt.same hx0) (GG nt.same hy0) (List.getElem?_eq_getElem lk) (List.getElem?_eq_getElem lk2) hh λh' tk I' st' kk=>?_)
  have hS1:h'.get? S=some (seqObj "list" (as.map Value.ref).toArray c):=kk S _ hS hS0;have pS:s.heap.objs.size≠S:=Nat.ne_of_gt (Heap.lt_size hS0);refine wpAny_bind (listUpdate_at (s:={ s with heap:=h',toks:=tk }) (a:=S) hS1 rfl (wpAny_pure ⟨plainId_quiet CD _,?_⟩) (by rw[List.size_toArray,List.length_map];omega) (by rw[Array.size_push,List.size_toArray,List.length_map];omega))
  have fp:∀b∈S::[z,TI,TO,i1,i2],CF X pins (upd H s.heap.objs.size (.tup [xs[k],ys[k]])) b:=λb hb=>by
   refine⟨?_,(hf b hb).2⟩
   have:b≠s.heap.objs.size:=by
    obtain⟨hz,hTI,⟨a,c,hTO⟩,h1,h2⟩:=st;simp only[List.mem_cons,List.not_mem_nil,or_false]at hb
    rcases hb with rfl|rfl|rfl|rfl|rfl|rfl
    ·exact Ne.symm pS
    ·rcases hz with hz|⟨_,_,hz,_⟩<;>exact Nat.ne_of_lt (Heap.lt_size hz)
    ·exact Nat.ne_of_lt (Heap.lt_size hTI)
    ·exact Nat.ne_of_lt (Heap.lt_size hTO)
    ·obtain⟨o,e,_⟩:=SK.Bh h1;exact Nat.ne_of_lt (Heap.lt_size e)
    ·obtain⟨o,e,_⟩:=SK.Bh h2;exact Nat.ne_of_lt (Heap.lt_size e)
   rw[AO this];exact(hf b hb).1
  have ku:∀b o,b≠S->h'.get? b=some o->(h'.update S (Obj.mapSeq λv=>v.push (.ref s.heap.objs.size))).get? b=some o:=λb o hb e=>(Heap.get?_update_ne _ _ _ _ hb).trans e
  have ee:(as.map Value.ref).toArray.push (.ref s.heap.objs.size)=((as++[s.heap.objs.size]).map Value.ref).toArray:=by simp
  obtain⟨c',hS2⟩:∃c',(h'.update S (Obj.mapSeq λv=>v.push (.ref s.heap.objs.size))).get? S=some (seqObj "list" ((as++[s.heap.objs.size]).map Value.ref).toArray c'):=⟨_,by rw[<-ee];exact get?_update_seq hS1 λv=>v.push (.ref s.heap.objs.size)⟩
  refine Kn hnd hS hh hx0 hy0 hl hz fin m (k+1) _ { s with heap:=h'.update S (Obj.mapSeq λv=>v.push (.ref s.heap.objs.size)),toks:=tk } (as++[s.heap.objs.size]) c' (by omega) lk (I'.DC (tk:=tk) (ch:=[S]) (λb hb=>fp b (by simp at hb;simp[hb])) λb ob hb q=>ku b ob (λz=>hb (by simp[z])) q) fp
   (st'.keep (λb hb o e=>ku b o (λz=>hS (z▸hb)) e) λb o e=>?_) (nt.push (I.hok.fresh (Nat.le_refl _)) (by rw[la];exact List.getElem?_eq_getElem lk) (by rw[la];exact List.getElem?_eq_getElem lk2)) (by simp[la]) hS2
  ·by_cases q:b=S
   ·rw[q];exact⟨_,hS2⟩
   ·exact⟨o,ku b o q e⟩
end
end L2
namespace L2
open PySem PySem.Spec PyProof.Rows PySem.W Tim
section
variable {prog:Program}{w:World}{A:Around}{E:Value->Shared->Prop}{s:Shared}
theorem Pj {r:Addr}{Q:Bool->Shared->Prop}(hT:s.TypeIs (.ref r) "zip")(h:Q true s):wpAny (model prog w) A (Builtin.List.listLengthHint (.ref r)) Q E s:=by
 unfold Builtin.List.listLengthHint;refine wpAny_bind (wpAny_specialOf hT (r:=none) (by kernel_rfl) ?_)
 dsimp only
 refine wpAny_bind (wpAny_specialOf hT (r:=none) (by kernel_rfl) ?_)
 exact wpAny_pure h
end
section
variable {X:Cx}{pins:List (Addr×Obj)}{σ:St}{H:Hp}{s:Shared}{A:Around}{E:Value->Shared->Prop}{κ1 κ2:SK}{z TI TO i1 i2:Addr}{xs ys:List V}
theorem Pe.zip {k:Nat}{h:Heap}(x:Pe κ1 κ2 z TI TO i1 i2 k h):∃o,h.get? z=some o/\o.cls=.type "zip":=by
 rcases x.1 with e|⟨_,_,e,_⟩
 ·exact⟨_,e,rfl⟩
 ·exact⟨_,e,rfl⟩
theorem Lm {S:Addr}{c:Nat}{res:Value}{R:Result->Shared->Prop}(I:Inv X pins σ H s)(hnd:[z,TI,TO,i1,i2].Nodup)(hS:S∉[z,TI,TO,i1,i2])(hf:∀b∈S::[z,TI,TO,i1,i2],CF X pins H b)(st:Pe κ1 κ2 z TI TO i1 i2 0 s.heap)(hz0:IsZip s.heap z TI TO .none)
 (hx:κ1.has H xs)(hy:κ2.has H ys)(hl:xs.length=ys.length)(hz:xs.length<=sizeLine)(hh:A.in1.in1.handled=none)(hS0:s.heap.get? S=some (seqObj "list" #[] c))
 (fin:∀(H':Hp) (s':Shared) (as:List Addr) (c:Nat),Inv X pins σ H' s'->CF X pins H' S->BU H H' as xs ys->as.length=xs.length->s'.heap.get? S=some (seqObj "list" (as.map Value.ref).toArray c)->R (.ok (.ret res)) s'):
 wpAny (model X.prog X.w) A.in1 (Builtin.List.listExtendWith (.ref S) (.ref z) res) (λfin s'=>match fin with|.done f=>R (.ok f) s'|.again c'=>c'.quiet=true/\codeAny (model X.prog X.w) A c' R s') (λe s'=>R (.error e) s') s:=by
 obtain⟨oz,hoz,hcz⟩:=st.zip;have hT:s.TypeIs (.ref z) "zip":=⟨oz,hoz,hcz⟩;have nSz:S≠z:=λe=>hS (by simp[e])
 unfold Builtin.List.listExtendWith;refine wpAny_bind (wpAny_typeOf hT ?_)
 rw[if_neg (by
  have:(S==z)=false:=by simpa using nSz
  show¬(((S==z)||_||_)=true)
  rw[this];decide)]
 refine wpAny_bind (wpAny_pyIter_zip hz0 ?_)
 refine wpAny_bind (wpAny_holding (Pj hT ?_))
 simp only[Bool.true_or,if_true];refine wpAny_bind (wpAny_rule (wpAny_bind ?_))
 unfold Builtin.List.listTouch;refine wpAny_bind (listUpdate_at hS0 rfl ?_ (Nat.zero_le _) (by show 1<=_;rw[sizeLine_eq];omega))
 obtain⟨c1,hS1⟩:∃c1,(s.heap.update S (Obj.mapSeq λx=>x.push .none)).get? S=some (seqObj "list" #[Value.none] c1):=⟨_,get?_update_seq hS0 λx=>x.push Value.none⟩
 refine listUpdate_at (s:={ s with heap:=s.heap.update S (Obj.mapSeq λx=>x.push .none) }) hS1 rfl ?_ (by show 1<=_;rw[sizeLine_eq];omega) (Nat.zero_le _)
 obtain⟨c2,hS2⟩:∃c2,((s.heap.update S (Obj.mapSeq λx=>x.push .none)).update S (Obj.mapSeq λx=>x.pop)).get? S=some (seqObj "list" #[] c2):=⟨_,get?_update_seq hS1 λx=>x.pop⟩
 refine wpAny_pure ⟨plainId_quiet CD _,?_⟩
 have ku:∀b o,b≠S->s.heap.get? b=some o->((s.heap.update S (Obj.mapSeq λx=>x.push .none)).update S (Obj.mapSeq λx=>x.pop)).get? b=some o:=λb o hb e=>(Heap.get?_update_ne _ _ _ _ hb).trans ((Heap.get?_update_ne _ _ _ _ hb).trans e)
 refine Kn hnd hS hh hx hy hl hz fin xs.length 0 H { s with heap:=(s.heap.update S (Obj.mapSeq λx=>x.push .none)).update S (Obj.mapSeq λx=>x.pop) } [] c2 rfl (Nat.zero_le _) (I.DC (tk:=s.toks) (ch:=[S]) (λb hb=>hf b (by simp at hb;simp[hb])) λb ob hb q=>ku b ob (λz=>hb (by simp[z])) q) hf
  (st.keep (λb hb o e=>ku b o (λz=>hS (z▸hb)) e) λb o e=>?_) BU.nil rfl hS2
 by_cases q:b=S
 ·rw[q];exact⟨_,hS2⟩
 ·exact⟨o,ku b o q e⟩
theorem S5 {a b:Expr}{ta:TA}{p pos:Pos}{R:SK->SK->List V->List V->Hp->Prop}(hg:Gl X "zip")(hm:X.mg "zip"=none)(ha:PA X [a,b] ta)(I:Inv X pins σ H s)
 (h:ta σ H λvs H1=>∃(κ1 κ2:SK) (xs ys:List V),vs=[κ1.val,κ2.val]/\κ1.has H1 xs/\κ2.has H1 ys/\R κ1 κ2 xs ys H1)
 (hs:starEach [a,b] X.env=[(false,eval a X.env),(false,eval b X.env)]:=by rfl)(hs2:starEach [b] X.env=[(false,eval b X.env)]:=by rfl):
 wpAny (model X.prog X.w) X.A (eval (.Call (.Name "zip" p) [a,b] [] pos) X.env) (λu s'=>∃(z TI TO i1 i2:Addr) (κ1 κ2:SK) (xs ys:List V) (H1:Hp),u=.ref z/\Inv X pins σ H1 s'/\[z,TI,TO,i1,i2].Nodup/\(∀b∈[z,TI,TO,i1,i2],CF X pins H1 b)/\
  Pe κ1 κ2 z TI TO i1 i2 0 s'.heap/\IsZip s'.heap z TI TO .none/\κ1.has H1 xs/\κ2.has H1 ys/\R κ1 κ2 xs ys H1) X.xe s:=by
 refine Call_ (CS I hg hm boot_zip (PyProof.Rows.callWith_type1 (A8 (ha pos pins s σ H _ I h) λus s1 ⟨vs,H1,I1,r1,q1⟩=>?_) (by rw[hs,hs2]) (by rw[hs2];rfl)))
 obtain⟨κ1,κ2,xs,ys,e,hx,hy,q⟩:=q1;subst e;obtain⟨u,v,rfl,ru,rv⟩:=vals2 r1;refine IB (DE u κ1) (DE v κ2) (Ew I1 hx ru) (Ew I1 hy rv) λh' hz hTI hTO h1 h2 hk=>?_
 refine⟨s1.heap.objs.size+4,s1.heap.objs.size+2,s1.heap.objs.size+3,s1.heap.objs.size,s1.heap.objs.size+1,κ1,κ2,xs,ys,H1,rfl,I1.kept (t':=s1.toks) hk,by simp,λb hb=>?_,⟨.inl hz,hTI,⟨_,_,hTO⟩,F9 (h':=h') ru h1,F9 (h':=h') rv h2⟩,hz,hx,hy,q⟩
 have hge:s1.heap.objs.size<=b:=by
  simp only[List.mem_cons,List.not_mem_nil,or_false]at hb
  rcases hb with rfl|rfl|rfl|rfl|rfl<;>first|exact Nat.le_add_right _ _|exact Nat.le_refl _
 exact I1.Io hge (I1.hok.fresh hge)
end
end L2
namespace L2
open PySem PySem.Spec PyProof.Rows PySem.W
section
variable {X:Cx}
def S6 (ta:TA):TE:=λσ H Q=>ta σ H λvs H1=>∃(κ1 κ2:SK) (xs ys:List V),vs=[κ1.val,κ2.val]/\κ1.has H1 xs/\κ2.has H1 ys/\xs.length=ys.length/\xs.length<=10000/\
 ∀(as:List Addr) (H2:Hp) (l:Addr),BU H1 H2 as xs ys->as.length=xs.length->H1 l=none->H2 l=none->Q (.ref l) (upd H2 l (.lst (as.map V.ref)))
theorem Pk {a b:Expr}{ta:TA}{p p2 pos pos2:Pos}(hcalm:X.calm=true)(hg:Gl X "list")(hm:X.mg "list"=none)(hg2:Gl X "zip")(hm2:X.mg "zip"=none)(ha:PA X [a,b] ta)
 (hs0:starEach [.Call (.Name "zip" p2) [a,b] [] pos2] X.env=[(false,eval (.Call (.Name "zip" p2) [a,b] [] pos2) X.env)]:=by rfl)
 (hs:starEach [a,b] X.env=[(false,eval a X.env),(false,eval b X.env)]:=by rfl)(hs2:starEach [b] X.env=[(false,eval b X.env)]:=by rfl):
 PE X (.Call (.Name "list" p) [.Call (.Name "zip" p2) [a,b] [] pos2] [] pos) (S6 ta):=by
 intro pins s σ H Q I h
 have h':ta σ H λvs H1=>∃(κ1 κ2:SK) (xs ys:List V),vs=[κ1.val,κ2.val]/\κ1.has H1 xs/\κ2.has H1 ys/\(xs.length=ys.length/\xs.length<=10000/\
  ∀(as:List Addr) (H2:Hp) (l:Addr),BU H1 H2 as xs ys->as.length=xs.length->H1 l=none->H2 l=none->Q (.ref l) (upd H2 l (.lst (as.map V.ref)))):=h
 refine Call_ (CS I hg hm JA ?_)
 refine PyProof.Rows.callWith_type1 ?_ hs0 rfl
 rw[hs0];show wpAny _ _ (spliced [(false,eval (.Call (.Name "zip" p2) [a,b] [] pos2) X.env)]) _ _ s;refine Calls.spliced_cons (A8 (S5 (R:=λ_ _ xs ys H1=>xs.length=ys.length/\xs.length<=10000/\∀(as:List Addr) (H2:Hp) (l:Addr),BU H1 H2 as xs ys->as.length=xs.length->H1 l=none->H2 l=none->Q (.ref l) (upd H2 l (.lst (as.map V.ref)))) (p:=p2) (pos:=pos2) hg2 hm2 ha I h' hs hs2) λu s1 hu=>Calls.spliced_nil ?_)
 obtain⟨z,TI,TO,i1,i2,κ1,κ2,xs,ys,H1,rfl,I1,hnd,hf,st,hz0,hx,hy,hl,hz,q⟩:=hu;have hh:X.A.in1.handled=none:=I.ok.hd hcalm;have lsz:xs.length<=sizeLine:=by rw[sizeLine_eq];omega
 have nS:s1.heap.objs.size∉[z,TI,TO,i1,i2]:=λhb=>by
  obtain⟨_,hTI,⟨a,c,hTO⟩,h1,h2⟩:=st;simp only[List.mem_cons,List.not_mem_nil,or_false]at hb
  rcases hb with e|e|e|e|e
  ·exact Nat.lt_irrefl _ (e▸Heap.lt_size hz0)
  ·exact Nat.lt_irrefl _ (e▸Heap.lt_size hTI)
  ·exact Nat.lt_irrefl _ (e▸Heap.lt_size hTO)
  ·obtain⟨o,e1,_⟩:=SK.Bh h1;exact Nat.lt_irrefl _ (e▸Heap.lt_size e1)
  ·obtain⟨o,e1,_⟩:=SK.Bh h2;exact Nat.lt_irrefl _ (e▸Heap.lt_size e1)
 refine callType_codes F.called_list (F.typeCall_list_1 _) F.entry_list_init (code_list_new _ (Q₁:=λobj s'=>obj=.ref s1.heap.objs.size/\s'={ s1 with heap:=s1.heap.push { cls:=.type "list",data:=.seq #[] } }) ⟨rfl,rfl⟩) ?_
 rintro obj s' ⟨rfl,rfl⟩;have hS₁:(s1.heap.push { cls:=.type "list",data:=.seq #[] }).get? s1.heap.objs.size=some (seqObj "list" #[] 0):=Heap.get?_push_size _ rfl
 have old:∀b o,s1.heap.get? b=some o->(s1.heap.push { cls:=.type "list",data:=.seq #[] }).get? b=some o:=λb o e=>Heap.get?_push_of_some _ e
 refine⟨⟨_,hS₁,rfl⟩,F.args_list_init_2 _ _,?_⟩
 show wpAny _ _ (Builtin.List.listItems (.ref s1.heap.objs.size) >>= _) _ _ _;refine wpAny_bind (listItems_at (a:=s1.heap.objs.size) (s:={ s1 with heap:=s1.heap.push { cls:=.type "list",data:=.seq #[] } }) hS₁ rfl ?_)
 refine wpAny_bind (listUpdate_at (a:=s1.heap.objs.size) (s:={ s1 with heap:=s1.heap.push { cls:=.type "list",data:=.seq #[] } }) hS₁ rfl ?_ (Nat.zero_le _) (Nat.zero_le _))
 refine wpAny_bind (wpAny_letGo ?_)
 obtain⟨c2,hS2⟩:∃c2,((s1.heap.push { cls:=.type "list",data:=.seq #[] }).update s1.heap.objs.size (Obj.mapSeq λ_=>#[])).get? s1.heap.objs.size=some (seqObj "list" #[] c2):=⟨_,get?_update_seq hS₁ λ_=>#[]⟩
 have old2:∀b o,s1.heap.get? b=some o->((s1.heap.push { cls:=.type "list",data:=.seq #[] }).update s1.heap.objs.size (Obj.mapSeq λ_=>#[])).get? b=some o:=λb o e=>(Heap.get?_update_ne _ _ _ _ (Nat.ne_of_lt (Heap.lt_size e))).trans (old b o e)
 have fS:CF X pins H1 s1.heap.objs.size:=I1.Io (Nat.le_refl _) (I1.hok.fresh (Nat.le_refl _));refine Lm (A:=X.A.in1) (res:=.none) (s:={ s1 with heap:=(s1.heap.push { cls:=.type "list",data:=.seq #[] }).update s1.heap.objs.size (Obj.mapSeq λ_=>#[]),toks:=s1.toks }) (I1.kept (t':=s1.toks) old2) hnd nS (λb hb=>?_) (st.keep (λb _ o e=>old2 b o e) λb o e=>⟨o,old2 b o e⟩) (old2 _ _ hz0) hx hy hl lsz hh hS2 λH' s' as c I' fS' nt la hS'=>⟨rfl,?_⟩
 ·rcases List.mem_cons.mp hb with e|e
  ·rw[e];exact fS
  ·exact hf b e
 ·have J:=I'.adopt (t':=s'.toks) (o:=.lst (as.map V.ref)) (h':=s'.heap) fS' (λb u _ e=>e) ⟨by rw[List.length_map,la];exact lsz,as.map Value.ref,c,NW as,hS'⟩ hS'
  exact⟨.ref s1.heap.objs.size,_,J,rfl,q as H' _ nt la fS.1 fS'.1⟩
end
end L2
namespace L2
open PySem PySem.Spec PyProof.Rows PySem.W
section
variable {prog:Program}{w:World}{A:Around}{E:Value->Shared->Prop}{s:Shared}
theorem IY {a:Addr}{S:List Str}{n:Nat}{led:Bool}{x:Str}{tk:Tok}{Q:Bool->Shared->Prop}(ha:Ak w led s.heap a S n)(hn:n+1 < scanBound)
 (h:∀b h',Heap.SameBut a s.heap h'->Ak w led h' a (S++[x]) (n+1)->Q b { s with heap:=h' }):wpAny (model prog w) A (setAddHashed a (.str x tk) (hashStr w x)) Q E s:=by
 obtain⟨es,ep,t,hget,hS,hsz⟩:=ha;have hsc:scanBound=4096:=rfl;have is:(strKind prog w).is x (.str x tk)=true:=by show(x==x)=true;exact beq_self_eq_true x
 have elems:ElemsOf (strKind prog w) es.toList:=λe he=>by
  obtain⟨y,tk',rfl⟩:=hS.ent e he;exact⟨⟨y,by show(y==y)=true;exact beq_self_eq_true y,rfl⟩,rfl⟩
 show wpAny _ _ (setAddHashed a (.str x tk) ((strKind prog w).hash x)) _ _ _;unfold setAddHashed;refine wpAny_holding ?_
 rw[setAddHashedIn.eq_def];show wpAny _ _ (setState a >>= _) _ _ _;refine wpAny_bind (wpAny_setState_of (s:=s) hget rfl hS.fit ?_)
 have bs:byScan (.str x tk) es=true:=by
  unfold byScan;have h1:(Value.str x tk).scannable=true:=rfl
  have h2:(es.all λe=>e.2.scannable)=true:=by
   rw[Array.all_eq_true_iff_forall_mem];intro e he;exact(elems e (Array.mem_toList_iff.mpr he)).2
  rw[h1,h2,decide_eq_true (by omega)];rfl
 dsimp only
 rw[if_pos bs];refine wpAny_bind ?_
 unfold setAddByScan;refine wpAny_bind (wpAny_rule (wpAny_bind (wpAny_setScan_of (s:=s) is hget rfl hS.fit elems ?_)))
 cases ef:List.findIdx? (λe=>(strKind prog w).is x e.2) es.toList with
 |some j=>
  dsimp only
  refine wpAny_pure (wpAny_pure ?_)
  have xin:x∈S:=by
   rw[<-hS.mem x];obtain⟨hj,hp,_⟩:=List.findIdx?_eq_some_iff_getElem.mp ef
   have hm:=List.getElem_mem hj;obtain⟨y,tk',e⟩:=hS.ent _ hm;rw[e]at hp;have:y=x:=eq_of_beq (show(y==x)=true from hp)
   subst this;exact List.mem_map.mpr ⟨_,hm,by rw[e];rfl⟩
  refine h false s.heap (Heap.SameBut.refl ..) ⟨es,ep,t,hget,⟨hS.ent,hS.nd,λy=>?_,hS.fit,hS.led,hS.pl⟩,by omega⟩
  rw[hS.mem y,List.mem_append]
  constructor
  ·exact .inl
  ·rintro(z|z)
   ·exact z
   ·rw[List.mem_singleton.mp z];exact xin
 |none=>
  dsimp only
  have xout:x∉S:=λhin=>by
   rw[<-hS.mem x]at hin;obtain⟨e,he,ek⟩:=List.mem_map.mp hin;have:=List.findIdx?_eq_none_iff.mp ef e he
   obtain⟨y,tk',rfl⟩:=hS.ent e he;have ey:y=x:=ek;subst ey;exact absurd (show(strKind prog w).is y (.str y tk')=true from(by show(y==y)=true;exact beq_self_eq_true y)) (by rw[this];simp)
  have lp:=layNew_perm t es ((strKind prog w).hash x) (.str x tk);have lf:=layNew_fits t es ((strKind prog w).hash x) (.str x tk);have ll:=MQ t es ((strKind prog w).hash x) (.str x tk);have lz:=lp.length_eq;rw[Array.length_toList,Array.length_toList,Array.size_push]at lz;generalize layNew t es ((strKind prog w).hash x) (.str x tk)=L at lp lf ll lz;obtain⟨es1,t1,wd,gv⟩:=L
  dsimp only at lp lf ll lz ⊢
  have zl:sizeLine=268435455\/4096<=sizeLine:=.inr (by rw[sizeLine_eq];decide)
  have zz:es1.size<=sizeLine:=by rcases zl with z|z<;>omega
  refine wpAny_bind (GA ?_)
  have fin:∀t2:SetTable,t2.fits es1.size=true->t2.led=led->t2.plain=false->
   wpAny (model prog w) A (do
    storeSet a es1 t2
    have __do_jp:Unit->Sem (Option Bool):=λ__r=>pure (some true)
    if(!wd&&t2.tooFull)=true then
     match relayAll t2 es1 (SetTable.grown es1.size)with
     |(es,t,gave)=>do
      (match gave with|true=>rule "set.scan.the-table-gave-way"|false=>pure ())
      let __r<-storeSet a es t
      __do_jp __r
    else __do_jp ()) (λr s'=>wpAny (model prog w) A (match r with|some added=>pure added|none=>setAddHashedIn a (.str x tk) ((strKind prog w).hash x) 99999) Q E s') E s:=λt2 f2 l2 p2=>by
   have g:=hS.grow (es':=es1) (t':=t2) (tk:=tk) xout lp f2 l2 p2;refine wpAny_bind (Bn (s:=s) hget zz λh1 sb1 hg1=>?_)
   dsimp only
   split
   ·have gr:=g.RT p2 (SetTable.grown es1.size)
    have rz:=(relayAll_perm t2 es1 (SetTable.grown es1.size)).length_eq;rw[Array.length_toList,Array.length_toList]at rz;generalize relayAll t2 es1 (SetTable.grown es1.size)=Rr at gr rz;obtain⟨es3,t3,gv3⟩:=Rr
    dsimp only at gr rz ⊢
    refine wpAny_bind (GA ?_)
    refine wpAny_bind (Bn (s:={ s with heap:=h1 }) hg1 (by omega) λh2 sb2 hg2=>?_)
    refine wpAny_pure (wpAny_pure ?_)
    exact h true h2 (sb1.trans sb2) ⟨es3,_,t3,hg2,gr,by omega⟩
   ·refine wpAny_pure (wpAny_pure ?_)
    exact h true h1 sb1 ⟨es1,_,t2,hg1,g,by omega⟩
  by_cases hp:t1.plain=true
  ·rw[if_pos hp,hashByValue.eq_5]
   refine wpAny_bind (wpAny_pure ?_)
   have ff:=fin { mask:=t1.mask,place:=t1.place,dummies:=t1.dummies,finger:=t1.finger,led:=t1.led,moves:=t1.moves,plain:=false } lf (ll.trans hS.led) rfl;exact ff
  ·rw[if_neg hp]
   refine wpAny_bind (wpAny_pure ?_)
   have ff:=fin t1 lf (ll.trans hS.led) (by simpa using hp)
   exact ff
theorem Ny {a:Addr}{S:List Str}{n:Nat}{led:Bool}{x:Str}{tk:Tok}{Q:Option Nat->Shared->Prop}(ha:Ak w led s.heap a S n)(hn:n < scanBound)
 (h:∀r:Option Nat,(r.isSome=true↔x∈S)->Q r s):wpAny (model prog w) A (setFind a (.str x tk) (hashStr w x)) Q E s:=by
 obtain⟨es,ep,t,hget,hS,hsz⟩:=ha;have hsc:scanBound=4096:=rfl;have is:(strKind prog w).is x (.str x tk)=true:=by show(x==x)=true;exact beq_self_eq_true x
 have elems:ElemsOf (strKind prog w) es.toList:=λe he=>by
  obtain⟨y,tk',rfl⟩:=hS.ent e he;exact⟨⟨y,by show(y==y)=true;exact beq_self_eq_true y,rfl⟩,rfl⟩
 show wpAny _ _ (setFind a (.str x tk) ((strKind prog w).hash x)) _ _ _;unfold setFind setFindIn;refine wpAny_bind (wpAny_setState_of hget rfl hS.fit ?_)
 dsimp only
 rw[byScan_of (knd:=strKind prog w) (x:=.str x tk) rfl (by omega) elems]
 simp only[↓reduceIte];refine wpAny_bind (wpAny_rule ?_)
 refine wpAny_bind (wpAny_setScan_of is hget rfl hS.fit elems ?_)
 cases ef:List.findIdx? (λe=>(strKind prog w).is x e.2) es.toList with
 |some j=>
  dsimp only
  refine wpAny_pure (h _ ⟨λ_=>?_,λ_=>rfl⟩)
  rw[<-hS.mem x];obtain⟨hj,hp,_⟩:=List.findIdx?_eq_some_iff_getElem.mp ef
  have hm:=List.getElem_mem hj;obtain⟨y,tk',e⟩:=hS.ent _ hm;rw[e]at hp;have:y=x:=eq_of_beq (show(y==x)=true from hp)
  subst this;exact List.mem_map.mpr ⟨_,hm,by rw[e];rfl⟩
 |none=>
  dsimp only
  refine wpAny_pure (h _ ⟨(λz=>by cases z),λhin=>?_⟩)
  exfalso;rw[<-hS.mem x]at hin;obtain⟨e,he,ek⟩:=List.mem_map.mp hin;have:=List.findIdx?_eq_none_iff.mp ef e he
  obtain⟨y,tk',rfl⟩:=hS.ent e he;have ey:y=x:=ek;subst ey;exact absurd (show(strKind prog w).is y (.str y tk')=true from(by show(y==y)=true;exact beq_self_eq_true y)) (by rw[this];simp)
theorem Mk {D:Addr}{es:Array (Int×Value)}{ep:Nat}{t:SetTable}{S:List Str}{Q:Array (Int×Value)->Shared->Prop}(hD:s.heap.get? D=some { cls:=.type "set",data:=.set es ep t })(hS:CK w (AQ w) es t S)
 (h:∀(ys:Array (Int×Value)) d,ys.toList.Perm es.toList->Q ys { s with drawn:=d }):wpAny (model prog w) A (setWalk D) Q E s:=by
 unfold setWalk;refine wpAny_bind (wpAny_setState_of hD rfl hS.fit ?_)
 dsimp only
 refine wpAny_bind (Bu ?_)
 by_cases bt:w.params.followText "set-order"=true
 ·rw[if_pos bt]
  refine wpAny_bind (wpAny_askSetting (wpAny_pure ?_))
  exact h _ s.drawn (Cw _ _)
 ·rw[if_neg bt]
  by_cases dr:(!t.plain&&decide (es.size > 1))=true
  ·refine wpAny_ite_true (decide_eq_true dr) ?_
   refine wpAny_bind (GB es.size es.toList _ _ (by simp) λps d hp=>?_)
   exact wpAny_pure (h _ d (by simpa using hp))
  ·split
   ·rename_i c
    exact absurd c dr
   refine wpAny_bind ?_
   show wpAny _ _ (if(!t.led&&decide (es.size > 1))=true then _ else pure ()) _ _ _
   have hl:t.led=true:=by
    rw[hS.led];unfold AQ;simpa using bt
   rw[if_neg (by rw[hl];simp)]
   exact wpAny_pure (wpAny_pure (h es s.drawn (List.Perm.refl _)))
theorem Ko {Q:Bool->Shared->Prop}:∀(as:List Addr) (b:MProd (Option Bool) PUnit),(∀a∈as,∃S n led,Ak w led s.heap a S n)->Q true s->wpAny (model prog w) A (setsQuiet as) Q E s:=λas _ hs q=>by
 unfold setsQuiet;refine wpAny_bind (wpAny_forIn_list _ (λrest b s'=>b.1=none/\s'=s/\∀a∈rest,∃S n led,Ak w led s.heap a S n) _ ?_ ?_ as _ ⟨rfl,rfl,hs⟩)
 ·rintro a rest b s' ⟨hb,rfl,hr⟩
  obtain⟨S,n,led,es,ep,t,hget,hS,_⟩:=hr a List.mem_cons_self;unfold setEntries;refine wpAny_bind (wpAny_bind (wpAny_setState_of hget rfl hS.fit (wpAny_pure ?_)))
  refine wpAny_bind (PySem.MeetsSeq2.wpAny_forIn_array _ (λrest2 b2 s2=>b2.1=none/\s2=s'/\∀e∈rest2,∃x tk,e=(hashStr w x,Value.str x tk)) _ ?_ ?_ es _ ⟨rfl,rfl,hS.ent⟩)
  ·rintro e rest2 b2 s2 ⟨hb2,rfl,he⟩
   obtain⟨x,tk,rfl⟩:=he e List.mem_cons_self
   dsimp only
   exact wpAny_pure ⟨rfl,rfl,λe h=>he e (List.mem_cons_of_mem _ h)⟩
  ·rintro b2 s2 ⟨hb2,rfl,_⟩
   obtain⟨b21,b22⟩:=b2;cases(show b21=none from hb2)
   dsimp only
   exact wpAny_pure ⟨rfl,rfl,λa h=>hr a (List.mem_cons_of_mem _ h)⟩
 ·rintro b s' ⟨hb,rfl,_⟩
  obtain⟨b1,b2⟩:=b;cases(show b1=none from hb)
  dsimp only
  exact wpAny_pure q
theorem Ak.empty {led:Bool}{h:Heap}{r:Addr}{n:Nat}(x:Ak w led h r [] n):∃ep t,h.get? r=some { cls:=.type "set",data:=.set #[] ep t }/\CK w led #[] t []:=by
 obtain⟨es,ep,t,hg,hS,_⟩:=x
 have:es=#[]:=by
  have e:es.toList=[]:=by
   refine List.eq_nil_iff_forall_not_mem.mpr λe he=>?_
   have:=(hS.mem (keyOf e)).mp (List.mem_map.mpr ⟨e,he,rfl⟩);cases this
  simpa using e
 subst this;exact⟨ep,t,hg,hS⟩
theorem Nz {D r asked:Addr}{es:Array (Int×Value)}{ep:Nat}{t:SetTable}{S T:List Str}{m:Nat}{Q:Array (Int×Value)->Shared->Prop}(hD:s.heap.get? D=some { cls:=.type "set",data:=.set es ep t })(hS:CK w (AQ w) es t S)
 (hk:Ak w (AQ w) s.heap asked T m)(hr:Ak w (AQ w) s.heap r [] 0)
 (h:∀(ys:Array (Int×Value)) (h':Heap) d,ys.toList.Perm es.toList->Heap.SameBut r s.heap h'->Ak w (AQ w) h' r [] 0->Q ys { s with heap:=h',drawn:=d }):wpAny (model prog w) A (setWalkUnseen D [asked,r] (some r)) Q E s:=by
 unfold setWalkUnseen;refine wpAny_bind (wpAny_setState_of hD rfl hS.fit ?_)
 dsimp only
 refine wpAny_bind (Bu ?_)
 split
 ·refine Mk hD hS λys d hp=>?_
  exact h ys s.heap d hp (Heap.SameBut.refl ..) hr
 ·refine wpAny_bind (Ko (D::[asked,r]) default (λa ha=>?_) ?_)
  ·simp only[List.mem_cons,List.not_mem_nil,or_false]at ha
   rcases ha with rfl|rfl|rfl
   ·exact⟨S,es.size,_,⟨es,ep,t,hD,hS,Nat.le_refl _⟩⟩
   ·exact⟨T,m,_,hk⟩
   ·exact⟨[],0,_,hr⟩
  ·rw[if_neg (by decide)]
   refine wpAny_bind (wpAny_rule ?_)
   obtain⟨ep2,t2,hg2,hS2⟩:=hr.empty;refine wpAny_bind (wpAny_setState_of hg2 rfl hS2.fit ?_)
   dsimp only
   split
   ·refine wpAny_bind (Bn hg2 (by rw[sizeLine_eq];decide) λh' sb hg=>?_)
    refine wpAny_pure (h es h' s.drawn (List.Perm.refl _) sb ⟨#[],_,_,hg,⟨hS2.ent,hS2.nd,hS2.mem,hS2.fit,?_,.inl rfl⟩,Nat.le_refl _⟩)
    show(t2.led&&t.led)=AQ w;rw[hS2.led,hS.led,Bool.and_self]
   ·exact wpAny_pure (h es s.heap s.drawn (List.Perm.refl _) (Heap.SameBut.refl ..) hr)
theorem Kq {id:String}{W r asked:Addr}{es:Array (Int×Value)}{ep:Nat}{t:SetTable}{S T:List Str}{n m:Nat}{Q:PUnit->Shared->Prop}(hW:s.heap.get? W=some { cls:=.type "set",data:=.set es ep t })(hS:CK w (AQ w) es t S)
 (hk:Ak w (AQ w) s.heap asked T m)(hr:Ak w (AQ w) s.heap r [] 0)(Wr:W≠r)(kr:asked≠r)(n1:es.size<=n)(n4:n < 4000)(m4:m < 4000)
 (h:∀(h':Heap) d U,Heap.SameBut r s.heap h'->Ak w (AQ w) h' r U n->(∀x,x∈U↔x∈S/\x∈T)->Q ⟨⟩ { s with heap:=h',drawn:=d }):
 wpAny (model prog w) A (do
  let was<-setEpoch W
  for (h,x) in<-setWalkUnseen W [asked,r] (some r) do
   holding [x] do
    if(<-setFind asked x h).isSome then
     let _<-setAddHashed r x h
   Builtin.Frozenset.unchanged id W was) Q E s:=by
 have hsc:scanBound=4096:=rfl;refine wpAny_bind (wpAny_setEpoch_of hW rfl hS.fit ?_)
 refine wpAny_bind (Nz hW hS hk hr λys h1 d hp sb1 hr1=>?_)
 have yl:ys.toList.length=es.size:=by rw[hp.length_eq];simp
 refine wpAny_bind (wpAny_mono (PySem.MeetsSeq2.wpAny_forIn_array _ (λrest _ s'=>∃h' U k,s'={ s with heap:=h',drawn:=d }/\Heap.SameBut r s.heap h'/\Ak w (AQ w) h' r U k/\k+rest.length<=n/\(∀e∈rest,∃x tk,e=(hashStr w x,Value.str x tk))/\∀x,(x∈U\/(x∈rest.map keyOf/\x∈T))↔(x∈S/\x∈T)) (λ_ s'=>∃h' U,s'={ s with heap:=h',drawn:=d }/\Heap.SameBut r s.heap h'/\Ak w (AQ w) h' r U n/\∀x,x∈U↔x∈S/\x∈T) ?_ ?_ ys _ ⟨h1,[],0,rfl,sb1,hr1,by omega,λe he=>hS.ent e (hp.mem_iff.mp he),λx=>?_⟩) (λ_ s' ⟨h',U,e,sb,hU,hm⟩=>by subst e;exact wpAny_pure (h h' d U sb hU hm)) (λ_ _ z=>z))
 ·rintro e rest b s' ⟨h',U,k,rfl,sb,hU,hk',hent,hm⟩
  obtain⟨x,tk,rfl⟩:=hent e List.mem_cons_self
  dsimp only
  have hk2:Ak w (AQ w) h' asked T m:=hk.keeps λo e=>by rw[sb.2 _ kr];exact e
  have hW2:h'.get? W=some { cls:=.type "set",data:=.set es ep t }:=by rw[sb.2 _ Wr];exact hW
  rw[List.length_cons]at hk';refine wpAny_bind (wpAny_holding (wpAny_bind (Ny (s:={ s with heap:=h',drawn:=d }) hk2 (by omega) λo ho=>?_)))
  by_cases xt:x∈T
  ·rw[if_pos (ho.mpr xt)]
   refine wpAny_bind (IY (s:={ s with heap:=h',drawn:=d }) hU (by omega) λb' h2 sb2 hU2=>wpAny_pure ?_)
   unfold Builtin.Frozenset.unchanged;have hW3:h2.get? W=some { cls:=.type "set",data:=.set es ep t }:=by rw[sb2.2 _ Wr];exact hW2
   refine wpAny_bind (wpAny_bind (wpAny_setEpoch_of (s:={ s with heap:=h2,drawn:=d }) hW3 rfl hS.fit ?_))
   rw[if_neg (by simp)]
   refine wpAny_pure (wpAny_pure ⟨h2,U++[x],k+1,rfl,sb.trans sb2,hU2,by omega,λe he=>hent e (List.mem_cons_of_mem _ he),λy=>?_⟩)
   rw[<-hm y,List.mem_append,List.mem_singleton,List.map_cons,List.mem_cons];show((y∈U\/y=x)\/_)↔(y∈U\/((y=x\/_)/\_))
   constructor
   ·rintro((z|z)|z)
    ·exact .inl z
    ·exact .inr ⟨.inl z,by rw[z];exact xt⟩
    ·exact .inr ⟨.inr z.1,z.2⟩
   ·rintro(z|⟨z|z,z2⟩)
    ·exact .inl (.inl z)
    ·exact .inl (.inr z)
    ·exact .inr ⟨z,z2⟩
  ·rw[if_neg (λz=>xt (ho.mp z))]
   refine wpAny_pure ?_
   unfold Builtin.Frozenset.unchanged;refine wpAny_bind (wpAny_bind (wpAny_setEpoch_of (s:={ s with heap:=h',drawn:=d }) hW2 rfl hS.fit ?_))
   rw[if_neg (by simp)]
   refine wpAny_pure (wpAny_pure ⟨h',U,k,rfl,sb,hU,by omega,λe he=>hent e (List.mem_cons_of_mem _ he),λy=>?_⟩)
   rw[<-hm y,List.map_cons,List.mem_cons];show(y∈U\/_)↔(y∈U\/((y=x\/_)/\_))
   constructor
   ·rintro(z|z)
    ·exact .inl z
    ·exact .inr ⟨.inr z.1,z.2⟩
   ·rintro(z|⟨z|z,z2⟩)
    ·exact .inl z
    ·rw[z]at z2;exact absurd z2 xt
    ·exact .inr ⟨z,z2⟩
 ·rintro b s' ⟨h',U,k,rfl,sb,hU,hk',_,hm⟩
  refine⟨h',U,rfl,sb,?_,λx=>?_⟩
  ·obtain⟨es2,ep2,t2,g,hS2,hz⟩:=hU
   exact⟨es2,ep2,t2,g,hS2,by omega⟩
  ·rw[<-hm x];simp
 ·rw[(hp.map keyOf).mem_iff,hS.mem x];simp
theorem sub_set_self:isSubtype (.type "set") (.type "set")=pure true:=F.sub_set_set
theorem S7 {nm:String}{a b:Addr}{S T:List Str}{n m:Nat}{Q:Value->Shared->Prop}(ha:Ak w (AQ w) s.heap a S n)(hb:Ak w (AQ w) s.heap b T m)(ab:a≠b)(n4:n < 4000)(m4:m < 4000)
 (h:∀(h':Heap) d U k,(∀c o,s.heap.get? c=some o->h'.get? c=some o)->Ak w (AQ w) h' s.heap.objs.size U k->(k=n\/k=m)->(∀x,x∈U↔x∈S/\x∈T)->Q (.ref s.heap.objs.size) { s with heap:=h',drawn:=d }):
 wpAny (model prog w) A (Builtin.Frozenset.intersection nm a (.ref b)) Q E s:=by
 have hTa:=ha.typeIs;obtain⟨es,ep,t,hga,hSa,za⟩:=id ha;obtain⟨es2,ep2,t2,hgb,hSb,zb⟩:=id hb;have la:a < s.heap.objs.size:=Heap.lt_size hga;have lb:b < s.heap.objs.size:=Heap.lt_size hgb;unfold Builtin.Frozenset.intersection;rw[if_neg (by intro z;exact ab (by simpa using(eq_of_beq z).symm))]
 unfold Builtin.Frozenset.baseOf;refine wpAny_bind (wpAny_bind (wpAny_isInstance hTa sub_set_self (wpAny_pure ?_)))
 rw[if_pos rfl];unfold newSet;refine wpAny_bind (wpAny_bind (Bu ?_))
 dsimp only
 refine wpAny_newObj_type ?_
 show wpAny (model prog w) A _ _ E { s with heap:=s.heap.push { cls:=.type "set",data:=.set #[] 0 (SetTable.fresh 0 0 (AQ w)) } }
 have hn:(s.heap.push { cls:=.type "set",data:=.set #[] 0 (SetTable.fresh 0 0 (AQ w)) }).get? s.heap.objs.size=some { cls:=.type "set",data:=.set #[] 0 (SetTable.fresh 0 0 (AQ w)) }:=Heap.get?_push_size _ rfl
 have ha1:Ak w (AQ w) (s.heap.push { cls:=.type "set",data:=.set #[] 0 (SetTable.fresh 0 0 (AQ w)) }) a S n:=ha.keeps λo e=>Heap.get?_push_of_some _ e
 have hb1:Ak w (AQ w) (s.heap.push { cls:=.type "set",data:=.set #[] 0 (SetTable.fresh 0 0 (AQ w)) }) b T m:=hb.keeps λo e=>Heap.get?_push_of_some _ e
 have hga1:=Heap.get?_push_of_some { cls:=.type "set",data:=.set #[] 0 (SetTable.fresh 0 0 (AQ w)) } hga
 have hgb1:=Heap.get?_push_of_some { cls:=.type "set",data:=.set #[] 0 (SetTable.fresh 0 0 (AQ w)) } hgb
 have hr1:Ak w (AQ w) (s.heap.push { cls:=.type "set",data:=.set #[] 0 (SetTable.fresh 0 0 (AQ w)) }) s.heap.objs.size [] 0:=Ak.start hn;have old1:∀c o,s.heap.get? c=some o->(s.heap.push { cls:=.type "set",data:=.set #[] 0 (SetTable.fresh 0 0 (AQ w)) }).get? c=some o:=λc o e=>Heap.get?_push_of_some _ e
 generalize hg:s.heap.push { cls:=.type "set",data:=.set #[] 0 (SetTable.fresh 0 0 (AQ w)) }=g at hn ha1 hb1 hga1 hgb1 hr1 old1;show wpAny _ _ (pure s.heap.objs.size >>= _) _ _ _;refine wpAny_bind (wpAny_pure ?_)
 refine wpAny_bind (wpAny_holding ?_)
 unfold Builtin.Frozenset.isAnySet;have hTb:({ s with heap:=g }:Shared).TypeIs (.ref b) "set":=hb1.typeIs (s:={ s with heap:=g })
 refine wpAny_bind ?_
 refine wpAny_bind (wpAny_isInstance hTb sub_set_self ?_)
 refine wpAny_pure ?_
 rw[if_pos rfl];show wpAny _ _ (pure b >>= _) _ _ _;refine wpAny_bind (wpAny_pure ?_)
 unfold Builtin.Frozenset.sizeOf setEntries;refine wpAny_bind (wpAny_bind (wpAny_bind (wpAny_setState_of (s:={ s with heap:=g }) hgb1 rfl hSb.fit (wpAny_pure (wpAny_pure ?_)))))
 refine wpAny_bind (wpAny_bind (wpAny_bind (wpAny_setState_of (s:={ s with heap:=g }) hga1 rfl hSa.fit (wpAny_pure (wpAny_pure ?_)))))
 have ar:a≠s.heap.objs.size:=Nat.ne_of_lt la;have br:b≠s.heap.objs.size:=Nat.ne_of_lt lb
 have fin:∀(h':Heap) d U k,Heap.SameBut s.heap.objs.size g h'->Ak w (AQ w) h' s.heap.objs.size U k->(k=n\/k=m)->(∀x,x∈U↔x∈S/\x∈T)->Q (.ref s.heap.objs.size) { s with heap:=h',drawn:=d }:=λh' d U k sb hU hk hm=>h h' d U k (λc o e=>by
  rw[sb.2 c (Nat.ne_of_lt (Heap.lt_size e))];exact old1 c o e) hU hk hm
 by_cases hc:es2.size > es.size
 ·have:=Kq (prog:=prog) (A:=A) (E:=E) (id:=nm) (s:={ s with heap:=g }) (Q:=λ_ s'=>wpAny (model prog w) A (pure (Value.ref s.heap.objs.size)) Q E s') hga1 hSa hb1 hr1 ar br za n4 m4 λh' d U sb hU hm=>wpAny_pure (fin h' d U n sb hU (.inl rfl) hm)
  simp only[if_pos hc];exact this
 ·have:=Kq (prog:=prog) (A:=A) (E:=E) (id:=nm) (s:={ s with heap:=g }) (Q:=λ_ s'=>wpAny (model prog w) A (pure (Value.ref s.heap.objs.size)) Q E s') hgb1 hSb ha1 hr1 br ar zb m4 n4 λh' d U sb hU hm=>wpAny_pure (fin h' d U m sb hU (.inr rfl) λx=>by rw[hm x];exact And.comm)
  simp only[if_neg hc];exact this
theorem Hq:entryFor table "set.__and__"=some Builtin.«frozenset.__and__»:=by kernel_rfl
theorem Qu {a b:Addr}{S T:List Str}{n m:Nat}{Q:Value->Shared->Prop}(ha:Ak w (AQ w) s.heap a S n)(hb:Ak w (AQ w) s.heap b T m)(ab:a≠b)(n4:n < 4000)(m4:m < 4000)
 (h:∀(h':Heap) d U k,(∀c o,s.heap.get? c=some o->h'.get? c=some o)->Ak w (AQ w) h' s.heap.objs.size U k->(k=n\/k=m)->(∀x,x∈U↔x∈S/\x∈T)->Q (.ref s.heap.objs.size) { s with heap:=h',drawn:=d }):
 wpAny (model prog w) A (binaryOp .BitAnd (.ref a) (.ref b)) Q E s:=by
 refine wpAny_binaryOp_same (T:="set") (id:="set.__and__") ha.typeIs hb.typeIs F.fills_set_and F.slot_set_and ?_
 refine wpAny_call_entry F.slot_set_and ha.typeIs Hq ?_ (F.args_set_and_2 _ _)
 show wpAny _ _ (Builtin.Frozenset.slot1 "__and__" ⟨[.ref a,.ref b],[]⟩ >>= _) _ _ _;unfold Builtin.Frozenset.slot1;refine wpAny_bind (wpAny_bind ?_)
 show wpAny _ _ (pure (Value.ref a,[Value.ref b])) _ _ _;refine wpAny_pure (wpAny_pure ?_)
 dsimp only
 rw[if_neg (by decide)]
 dsimp only
 unfold Builtin.Frozenset.isAnySet;refine wpAny_bind ?_
 refine wpAny_bind ?_
 refine wpAny_bind (wpAny_isInstance ha.typeIs sub_set_self ?_)
 refine wpAny_pure ?_
 show wpAny _ _ (isInstance (.ref b) (.type "set") <||> _) _ _ _
 refine wpAny_bind (wpAny_isInstance hb.typeIs sub_set_self ?_)
 refine wpAny_pure ?_
 rw[if_neg (by decide)]
 show wpAny _ _ (pure a >>= _) _ _ _;refine wpAny_bind (wpAny_pure ?_)
 refine wpAny_bind (S7 ha hb ab n4 m4 λh' d U k old hU hk hm=>?_)
 exact wpAny_pure ⟨_,rfl,(λz=>by cases z),h h' d U k old hU hk hm⟩
end
def Aw (w:World)(a:Addr)(S:List Str)(n:Nat):HO:=.ext λh=>Ak w (AQ w) h a S n
theorem JV {P:Program}{w:World}{H:Hp}{h:Heap}{a:Addr}{S:List Str}{n:Nat}(x:Ak w (AQ w) h a S n):Am P w H h a (Aw w a S n):=by
 refine⟨x,?_,λh1 h2 p k=>Ak.keeps p k⟩
 obtain⟨es,ep,t,e,_⟩:=x;exact⟨_,e⟩
section
variable {X:Cx}
theorem EB {pins:List (Addr×Obj)}{σ:St}{H:Hp}{s:Shared}(I:Inv X pins σ H s){a:Addr}{S:List Str}{n:Nat}(h:H a=some (Aw X.w a S n)):Ak X.w (AQ X.w) s.heap a S n:=(I.hok a _ h).1
theorem HL (hc:X.calm=true):Be X (.type "set") (λxs H Q=>∃(l:Addr) (ss:List Str),xs=[.ref l]/\Ah X.K H l (ss.map V.str)/\ss.length < 4000/\∀r,H r=none->Q (.ref r) (upd H r (Aw X.w r ss ss.length))):=by
 intro pins s σ H xs us Q I r h;obtain⟨l,ss,rfl,hq,h4,q⟩:=h;obtain⟨u,rfl,ru⟩:=vals1 r;cases(show u=Value.ref l from ru)
 obtain⟨its,rv,ht,hz⟩:=I.list hq;have hlen:=rv.length;rw[List.length_map]at hlen;have hh:X.A.handled=none:=I.ok.hd hc;have hsz:its.toArray.size=its.length:=List.size_toArray ..;refine J6 ht.isList (CV rv) hh (by show its.toArray.size+1 < 4096;omega) λh2 tk2 old2 hA=>?_
 rw[hsz,<-hlen]at hA;exact⟨.ref s.heap.objs.size,_,I.laid (t':=tk2) (h':=h2) (a:=s.heap.objs.size) (o:=Aw X.w s.heap.objs.size ss ss.length) old2 (Nat.le_refl _) (JV hA),rfl,q _ (I.hok.fresh (Nat.le_refl _))⟩
theorem Ln:C9 X (binaryOp .BitAnd) (λx y H Q=>∃(a b:Addr) (S T:List Str) (n m:Nat),x=.ref a/\y=.ref b/\a≠b/\H a=some (Aw X.w a S n)/\H b=some (Aw X.w b T m)/\n < 4000/\m < 4000/\
 ∀(r:Addr) (U:List Str) (k:Nat),H r=none->(k=n\/k=m)->(∀x,x∈U↔x∈S/\x∈T)->Q (.ref r) (upd H r (Aw X.w r U k))):=by
 intro pins s σ H x y v u Q I rx ry h;obtain⟨a,b,S,T,n,m,rfl,rfl,ab,ha,hb,n4,m4,q⟩:=h;cases(show v=Value.ref a from rx)
 cases(show u=Value.ref b from ry)
 refine Qu (EB I ha) (EB I hb) ab n4 m4 λh' d U k old hU hk hm=>?_
 have I2:=I.laid (t':=s.toks) (h':=h') (a:=s.heap.objs.size) (o:=Aw X.w s.heap.objs.size U k) old (Nat.le_refl _) (JV hU);exact⟨.ref s.heap.objs.size,_,I2.drawn d,rfl,q _ U k (I.hok.fresh (Nat.le_refl _)) hk hm⟩
theorem BP (w:World)(hc:X.calm=true)(hw:X.w=w:=by rfl):Be X (.type "set") (λxs H Q=>∃(l:Addr) (ss:List Str),xs=[.ref l]/\Ah X.K H l (ss.map V.str)/\ss.length < 4000/\∀r,H r=none->Q (.ref r) (upd H r (Aw w r ss ss.length))):=by
 subst hw;exact HL hc
theorem Kr (w:World)(hw:X.w=w:=by rfl):C9 X (binaryOp .BitAnd) (λx y H Q=>∃(a b:Addr) (S T:List Str) (n m:Nat),x=.ref a/\y=.ref b/\a≠b/\H a=some (Aw w a S n)/\H b=some (Aw w b T m)/\n < 4000/\m < 4000/\
 ∀(r:Addr) (U:List Str) (k:Nat),H r=none->(k=n\/k=m)->(∀x,x∈U↔x∈S/\x∈T)->Q (.ref r) (upd H r (Aw w r U k))):=by
 subst hw;exact Ln
end
end L2
namespace W7
def Tj (ups:List Int):Nat->Nat->List Int
 |0,_=>[]
 |f+1,k=>if ups.getD k 0 < 0 then[]else ups.getD k 0::Tj ups f (ups.getD k 0).toNat
theorem Ks {ups:List Int}{lab:List Nat}(t:Al ups lab):∀(f g k:Nat),k < ups.length->k < f->k < g->Tj ups f k=Tj ups g k
 |0,_,_,_,h,_=>absurd h (Nat.not_lt_zero _)
 |_+1,0,_,_,_,h=>absurd h (Nat.not_lt_zero _)
 |f+1,g+1,k,hk,hf,hg=>by
  simp only[Tj]
  split
  ·rfl
  ·rename_i h0
   have:=t.lt hk h0
   congr 1
   exact Ks t f g _ (by omega) (by omega) (by omega)
def JW (ups:List Int)(k:Nat):List Int:=Tj ups (k+1) k
theorem Fi {ups:List Int}{lab:List Nat}(t:Al ups lab){k:Nat}(hk:k < ups.length):JW ups k=if ups.getD k 0 < 0 then[]else ups.getD k 0::JW ups (ups.getD k 0).toNat:=by
 unfold JW;rw[Tj]
 split
 ·rfl
 ·rename_i h0
  have:=t.lt hk h0
  congr 1
  exact Ks t _ _ _ (by omega) (by omega) (by omega)
def S8 (ups:List Int)(k:Int):List Int:=if k < 0 then[]else k::JW ups k.toNat
theorem Ml {ups:List Int}{lab:List Nat}(t:Al ups lab){k:Nat}(hk:k < ups.length):JW ups k=S8 ups (ups.getD k 0):=by
 rw[Fi t hk];rfl
theorem Pl {ups:List Int}{lab:List Nat}(t:Al ups lab){k:Int}(h0:0<=k)(hk:k < (ups.length:Int)):S8 ups k=k::S8 ups (ups.getD k.toNat 0):=by
 have:=Ml t (k:=k.toNat) (by omega)
 unfold S8;rw[if_neg (by omega),this]
 rfl
theorem JX {ups:List Int}{lab:List Nat}(t:Al ups lab):∀(n k:Nat),k < n->k < ups.length->(JW ups k).length<=k/\∀v∈JW ups k,0<=v/\v < (k:Int)
 |0,_,h,_=>absurd h (Nat.not_lt_zero _)
 |n+1,k,hn,hk=>by
  rw[Fi t hk]
  split
  ·exact⟨Nat.zero_le _,λv hv=>nomatch hv⟩
  ·rename_i h0
   have lt:=t.lt hk h0;obtain⟨i1,i2⟩:=JX t n (ups.getD k 0).toNat (by omega) (by omega)
   refine⟨by rw[List.length_cons];omega,λv hv=>?_⟩
   rcases List.mem_cons.mp hv with e|e
   ·omega
   ·have:=i2 v e;omega
end W7
namespace W03
section
variable {n:Nat}{c:Nat->List Nat}{l:Nat->Nat}
end
end W03
namespace W57
open PySem L2 W7 W55
theorem Vs:∀(a x:List Nat) (c:Nat),a < x->x < a++[c]->∃t,t≠[]/\x=a++t
 |[],x,c,h,_=>⟨x,λe=>by rw[e]at h;exact absurd h (List.lt_irrefl _),rfl⟩
 |y::a,[],c,h,_=>absurd h (List.not_lt_nil _)
 |y::a,z::x,c,h1,h2=>by
  rw[List.cons_lt_cons_iff]at h1;rw[List.cons_append,List.cons_lt_cons_iff]at h2
  have e:y=z/\a < x/\x < a++[c]:=by
   rcases h1 with h1|⟨e,h1⟩
   ·rcases h2 with h2|⟨e,_⟩<;>omega
   ·rcases h2 with h2|⟨_,h2⟩
    ·omega
    ·exact⟨e,h1,h2⟩
  obtain⟨rfl,e1,e2⟩:=e;obtain⟨t,t0,et⟩:=Vs a x c e1 e2;exact⟨t,t0,by rw[et];rfl⟩
theorem Mm:∀(f:List Nat) (a b:Nat),f++[a] < f++[b]->a < b
 |[],a,b,h=>by
  rw[List.nil_append,List.nil_append,List.cons_lt_cons_iff]at h
  rcases h with h|⟨_,h⟩
  ·exact h
  ·exact absurd h (List.lt_irrefl _)
 |x::f,a,b,h=>by
  rw[List.cons_append,List.cons_append,List.cons_lt_cons_iff]at h
  rcases h with h|⟨_,h⟩
  ·omega
  ·exact Mm f a b h
section
variable {us:List Str}
theorem Ra (k:Nat)(hk:k < us.length):(Az us).getD k 0=CL us us[k]:=by
 unfold Az;rw[List.getD_eq_getElem?_getD,List.getElem?_map,List.getElem?_eq_getElem hk];rfl
theorem JY (k:Nat)(hk:k < us.length):(EJ us).getD k 0=us[k].cps.toList.getLastD 0:=by
 unfold EJ;rw[List.getD_eq_getElem?_getD,List.getElem?_map,List.getElem?_eq_getElem hk];rfl
theorem EC:(Az us).length=us.length:=List.length_map _
variable (cl:Cl us)(srt:us.Pairwise (λa b=>a.cps.toList < b.cps.toList))(h0:us≠[])(h60:us.length<=60)
include cl srt h0 h60
theorem Kt {k:Nat}(k0:0 < k)(hk:k < us.length):∃(j:Nat) (hj:j < us.length),j < k/\(Az us).getD k 0=(j:Int)/\us[j]=front us[k]:=by
 have ok:=E9 cl srt h0 h60;have u:=ok.up k k0 (by rw[EC];exact hk)
 rw[Ra k hk]at u ⊢;unfold CL at u ⊢
 by_cases c:us.idxOf (front us[k]) < us.length
 ·rw[if_pos c]at u ⊢
  exact⟨_,c,by omega,rfl,List.getElem_idxOf c⟩
 ·rw[if_neg c]at u;omega
theorem S9:(us[0]'(List.length_pos_iff.mpr h0)).cps.toList.length=1:=by
 have lp:0 < us.length:=List.length_pos_iff.mpr h0;have ok:=E9 cl srt h0 h60;have r:=ok.root;rw[Ra 0 lp]at r;have ne:=List.length_pos_iff.mpr (cl.ne _ (List.getElem_mem lp))
 rcases Nat.lt_or_ge 1 (us[0]'lp).cps.toList.length with h|h
 ·have m:=cl.fr _ (List.getElem_mem lp) h
  unfold CL at r;rw[if_pos (List.idxOf_lt_length_of_mem m)]at r;omega
 ·omega
theorem back (z:Str)(h:z.cps.toList≠[]):z.cps.toList=(front z).cps.toList++[z.cps.toList.getLastD 0]:=by
 have e:=(List.dropLast_concat_getLast h).symm
 have l:z.cps.toList.getLastD 0=z.cps.toList.getLast h:=by
  rw[List.getLastD_eq_getLast?,List.getLast?_eq_some_getLast h];rfl
 rw[l];exact e
theorem Mn:∀(n j:Nat),j < n->∀(hj:j < us.length) (p:Nat) (hp:p < us.length) (t:List Nat),t≠[]->us[j].cps.toList=us[p].cps.toList++t->(p:Int)∈JW (Az us) j
 |0,_,h,_,_,_,_,_,_=>absurd h (Nat.not_lt_zero _)
 |n+1,j,hn,hj,p,hp,t,t0,e=>by
  have ok:=E9 cl srt h0 h60;have pne:=List.length_pos_iff.mpr (cl.ne _ (List.getElem_mem hp));have tl:=List.length_pos_iff.mpr t0
  have j0:0 < j:=by
   rcases Nat.eq_zero_or_pos j with z|z
   ·subst z
    have:=S9 cl srt h0 h60;rw[e,List.length_append]at this;omega
   ·exact z
  obtain⟨i,hi,ij,eu,ei⟩:=Kt cl srt h0 h60 j0 hj;rw[Fi ok (by rw[EC];exact hj),eu,if_neg (by omega),Int.toNat_natCast]
  have ef:us[i].cps.toList=us[p].cps.toList++t.dropLast:=by
   rw[ei];show us[j].cps.toList.dropLast=_;rw[e,List.dropLast_append_of_ne_nil t0]
  by_cases td:t.dropLast=[]
  ·have:i=p:=by
    rw[td,List.append_nil]at ef
    rcases Nat.lt_trichotomy i p with z|z|z
    ·have:=List.pairwise_iff_getElem.mp srt i p hi hp z
     rw[ef]at this;exact absurd this (List.lt_irrefl _)
    ·exact z
    ·have:=List.pairwise_iff_getElem.mp srt p i hp hi z
     rw[ef]at this;exact absurd this (List.lt_irrefl _)
   rw[this];exact List.mem_cons_self
  ·exact List.mem_cons_of_mem _ (Mn n i (by omega) hi p hp _ td ef)
theorem road {k:Nat}(k0:0 < k)(hk:k < us.length):(Az us).getD k 0=((k - 1:Nat):Int)\/(Az us).getD k 0∈JW (Az us) (k - 1):=by
 obtain⟨j,hj,jk,eu,ej⟩:=Kt cl srt h0 h60 k0 hk;rw[eu]
 rcases Nat.eq_or_lt_of_le (show j<=k - 1 by omega)with z|z
 ·left;rw[z]
 ·right
  have l1:=List.pairwise_iff_getElem.mp srt j (k - 1) hj (by omega) z
  have l2:=List.pairwise_iff_getElem.mp srt (k - 1) k (by omega) hk (by omega)
  rw[back cl srt h0 h60 us[k] (cl.ne _ (List.getElem_mem hk)),<-ej]at l2;obtain⟨t,t0,et⟩:=Vs _ _ _ l1 l2;exact Mn cl srt h0 h60 (k - 1+1) (k - 1) (Nat.lt_succ_self _) (by omega) j hj t t0 et
theorem JZ:∀(n j:Nat),j < n->∀hj:j < us.length,(W (Az us) (EJ us) j).reverse=us[j].cps.toList
 |0,_,h,_=>absurd h (Nat.not_lt_zero _)
 |n+1,j,hn,hj=>by
  have ok:=E9 cl srt h0 h60;rw[KJ ok (by rw[EC];exact hj),List.reverse_cons,JY j hj]
  rcases Nat.eq_zero_or_pos j with z|z
  ·subst z
   rw[ok.root,if_pos (by decide)]
   have l:=S9 cl srt h0 h60;generalize(us[0]'hj).cps.toList=l0 at l
   match l0,l with
   |[x],_=>rfl
  ·obtain⟨i,hi,ij,eu,ei⟩:=Kt cl srt h0 h60 z hj
   rw[eu,if_neg (by omega),Int.toNat_natCast,JZ n i (by omega) hi,ei]
   exact(back cl srt h0 h60 us[j] (cl.ne _ (List.getElem_mem hj))).symm
theorem rise {k k':Nat}(kk:k < k')(k0:0 < k)(hk:k' < us.length)(e:(Az us).getD k 0=(Az us).getD k' 0):(EJ us).getD k 0 < (EJ us).getD k' 0:=by
 obtain⟨i,hi,_,eu,ei⟩:=Kt cl srt h0 h60 k0 (show k < us.length by omega)
 obtain⟨i',hi',_,eu',ei'⟩:=Kt cl srt h0 h60 (show 0 < k' by omega) hk
 have ii:i=i':=by rw[eu,eu']at e;omega
 subst ii;have ef:front us[k]=front us[k']:=ei.symm.trans ei';have l:=List.pairwise_iff_getElem.mp srt k k' (by omega) hk kk
 rw[back cl srt h0 h60 us[k] (cl.ne _ (List.getElem_mem _)),back cl srt h0 h60 us[k'] (cl.ne _ (List.getElem_mem _)),ef]at l;rw[JY k (by omega),JY k' hk]
 exact Mm _ _ _ l
end
end W57
namespace L2
section
variable {NL:List PySem.Str}{ix:List Nat}{g:TG}{tt:TT}{te:TE}{σ:St}{H1:Hp}{Qs:Hp->Prop}{acc:PySem.Addr}
theorem IZ {K:PySem.W.Frag}{a:PySem.Addr}{xs:List V}(hn:xs.length < 1000)(Pv:Nat->List V->Hp->Prop)
 (hl:∀i ys H2,Pv i ys H2->BM K H2 a xs)(hacc:∀i ys H2,Pv i ys H2->H2 acc=some (.lst ys)/\ys.length<=i)(h0:Pv 0 [] (upd H1 acc (.lst [])))(hstop:∀ys H2,Pv xs.length ys H2->Qs H2)
 (hturn:∀i x ys H2,xs[i]?=some x->Pv i ys H2->g x (BC NL ix σ) H2 λσ' H4=>σ'.drop NL.length=ix.map (λj=>σ.getD j none)/\tt σ' H4 λb H5=>
  if b=true then te σ' H5 λv H6=>H6 acc=some (.lst ys)/\Pv (i+1) (ys++[v]) (upd H6 acc (.lst (ys++[v])))else Pv (i+1) ys H5):
 ∃W:Nat->Nat->List V->Hp->Prop,(∃m,W 0 m [] (upd H1 acc (.lst [])))/\
 ∀i m ys H2,W i m ys H2->H2 acc=some (.lst ys)/\ys.length < PySem.sizeLine/\
  (((T3 K a).stop i H2/\Qs H2)\/((T3 K a).go i H2/\∃N:List V->Hp->Prop,(∀ys' H',N ys' H'->∃m',m' < m/\W (i+1) m' ys' H')/\
    ∀x H3,(T3 K a).yld i H2 x H3->g x (BC NL ix σ) H3 λσ' H4=>σ'.drop NL.length=ix.map (λj=>σ.getD j none)/\tt σ' H4 λb H5=>
     if b=true then te σ' H5 λv H6=>H6 acc=some (.lst ys)/\N (ys++[v]) (upd H6 acc (.lst (ys++[v])))else N ys H5)):=by
 refine DB xs.length hn Pv hacc h0 (λys H2 hp=>⟨⟨xs,hl _ _ _ hp,Nat.le_refl _⟩,hstop ys H2 hp⟩) λi ys H2 hi hp=>?_
 have hs:=hl _ _ _ hp;refine⟨⟨xs,xs[i],hs,List.getElem?_eq_getElem hi⟩,?_⟩
 rintro x H3 ⟨rfl,hx⟩;exact hturn i x ys H3 (hx xs hs) hp
end
end L2
namespace S58.R
open PySem L2 W7
abbrev F7 (l:List Nat):List V:=l.map λi:Nat=>V.int (i:Int)
theorem Dq {c:Bool}{A B:Prop}(h:c=true)(q:A):if c=true then A else B:=by rw[if_pos h];exact q
theorem TB {c:Bool}{A B:Prop}(h:c=false)(q:B):if c=true then A else B:=by rw[h];exact DN q
section
variable {P:Program}{w:World}{K:PySem.W.Frag}{mg:Str->Option Value}{base:Heap}{k:Nat}
def Ay (us:List Int)(p:Int):Int:=if us.getD p.toNat 0 > 0 then us.getD p.toNat 0 else 0
def Ai (us:List Int):Nat->Int->Int
 |0,p=>p
 |n+1,p=>Ay us (Ai us n p)
structure BV (us:List Int):Prop where
 road:∀k,0 < k->k < us.length->∃n,Ai us n ((k:Int) - 1)=us.getD k 0
 pos:0 < us.length
 root:us.getD 0 0=-1
 up:∀k,0 < k->k < us.length->0<=us.getD k 0/\us.getD k 0 < (k:Int)
theorem BA {us vs:List Int}{j:Nat}:(us++vs).getD j 0=if j < us.length then us.getD j 0 else vs.getD (j - us.length) 0:=by
 simp only[List.getD_eq_getElem?_getD]
 split
 ·rename_i h;rw[List.getElem?_append_left h]
 ·rename_i h;rw[List.getElem?_append_right (by omega)]
theorem BV.Ai {us:List Int}(g:BV us)(v:Int){p:Int}(h0:0<=p)(h1:p < (us.length:Int)):∀n,Ai (us++[v]) n p=Ai us n p/\0<=Ai us n p/\Ai us n p < (us.length:Int)
 |0=>⟨rfl,h0,h1⟩
 |n+1=>by
  obtain⟨a,b,c⟩:=g.Ai v h0 h1 n;have lt:(S58.R.Ai us n p).toNat < us.length:=by omega
  have e:(us++[v]).getD (S58.R.Ai us n p).toNat 0=us.getD (S58.R.Ai us n p).toNat 0:=by rw[BA,if_pos lt]
  refine⟨?_,?_⟩
  ·show Ay (us++[v]) (S58.R.Ai (us++[v]) n p)=Ay us (S58.R.Ai us n p)
   rw[a];unfold Ay;rw[e]
  ·show 0<=Ay us (S58.R.Ai us n p)/\Ay us (S58.R.Ai us n p) < (us.length:Int)
   have pos:=g.pos;unfold Ay
   rcases Nat.eq_zero_or_pos (S58.R.Ai us n p).toNat with z|z
   ·rw[z,g.root];exact⟨by decide,by show(0:Int) < _;omega⟩
   ·have:=g.up _ z lt
    split<;>omega
theorem BV.snoc {us:List Int}(g:BV us){v:Int}(h0:0<=v)(h1:v < (us.length:Int))(hr:∃n,S58.R.Ai us n ((us.length:Int) - 1)=v):BV (us++[v]) where
 road:=λj hj hl=>by
  rw[List.length_append,List.length_singleton]at hl;rw[BA];have pos:=g.pos
  split
  ·rename_i h
   obtain⟨n,e⟩:=g.road j hj h;exact⟨n,((g.Ai v (by omega) (by omega) n).1).trans e⟩
  ·rename_i h
   have e:j=us.length:=by omega
   subst e;obtain⟨n,e⟩:=hr;rw[Nat.sub_self];exact⟨n,((g.Ai v (by omega) (by omega) n).1).trans e⟩
 pos:=by rw[List.length_append];have:=g.pos;omega
 root:=by rw[BA,if_pos g.pos];exact g.root
 up:=λj hj hl=>by
  rw[List.length_append,List.length_singleton]at hl;rw[BA]
  split
  ·rename_i h;exact g.up j hj h
  ·rename_i h
   have e:j=us.length:=by omega
   subst e;rw[Nat.sub_self];exact⟨h0,h1⟩
theorem BV.one:BV [-1]:=⟨λj h0 h1=>by
 have:j < 1:=h1;omega,by decide,rfl,λj h0 h1=>by
 have:j < 1:=h1;omega⟩
theorem Qv {us:List Int}{ls:List Nat}(g:BV us)(hl:us.length=ls.length)(h60:us.length<=60):Al us (mk ls).cps.toList:=⟨by rw[BQ];exact hl,g.pos,h60,g.root,g.up⟩
end
section
variable {ups:List Int}{lab:List Nat}
theorem Ia (t:Al ups lab):∀(n k:Nat),k < n->k < ups.length->∀v∈JW ups k,∀w∈JW ups v.toNat,w∈JW ups k
 |0,_,h,_,_,_,_,_=>absurd h (Nat.not_lt_zero _)
 |n+1,k,hn,hk,v,hv,w,hw=>by
  rw[Fi t hk]at hv ⊢
  split at hv
  ·cases hv
  ·rename_i h0
   rw[if_neg h0];have lt:=t.lt hk h0
   rcases List.mem_cons.mp hv with e|e
   ·rw[e]at hw;exact List.mem_cons_of_mem _ hw
   ·exact List.mem_cons_of_mem _ (Ia t n _ (by omega) (by omega) v e w hw)
theorem Ku (t:Al ups lab){k:Nat}(hk:k < ups.length):∀n,Ai ups n (k:Int)=(k:Int)\/Ai ups n (k:Int)∈JW ups k
 |0=>.inl rfl
 |n+1=>by
  have step:∀c:Nat,c < ups.length->Ay ups (c:Int)=(c:Int)\/Ay ups (c:Int)∈JW ups c:=λc hc=>by
   rcases Nat.eq_zero_or_pos c with z|z
   ·left;subst z;unfold Ay;show(if ups.getD 0 0 > 0 then ups.getD 0 0 else 0)=0;rw[t.root];rfl
   ·right
    have u:=t.up c z hc;rw[Fi t hc,if_neg (by omega)]
    have e:Ay ups (c:Int)=ups.getD c 0:=by
     unfold Ay;rw[Int.toNat_natCast];split<;>omega
    rw[e];exact List.mem_cons_self ..
  show Ay ups (Ai ups n (k:Int))=_\/Ay ups (Ai ups n (k:Int))∈_
  rcases Ku t hk n with a|a
  ·rw[a];exact step k hk
  ·have b:=(JX t (k+1) k (by omega) hk).2 _ a
   have e:Ai ups n (k:Int)=((Ai ups n (k:Int)).toNat:Int):=by omega
   rcases step (Ai ups n (k:Int)).toNat (by omega)with s|s
   ·rw[<-e]at s;rw[s];exact .inr a
   ·rw[<-e]at s;exact .inr (Ia t (k+1) k (by omega) hk _ a _ s)
end
section
variable {P:Program}{w:World}{K:PySem.W.Frag}{mg:Str->Option Value}{base:Heap}{k:Nat}
def Lo:Sp:=λvs H Q _=>∃(u:Addr) (ups more:List Int) (lab:List Nat) (i:Int),vs=[.ref u,.int i]/\H u=some (.tup ((ups++more).map V.int))/\Al ups lab/\0<=i/\i < (ups.length:Int)/\
 ∀(r:Addr) (H':Hp),AG H H'->H' r=some (.lst ((JW ups i.toNat).map V.int))->Q (.ref r) H'
theorem Kv {us more:List Int}{i:Int}(h0:0<=i)(h1:i < (us.length:Int)):Du ((us++more).map V.int) i=some (.int (us.getD i.toNat 0)):=by
 have:=GD (us:=us++more) (i:=i) h0 (by rw[List.length_append];omega)
 rw[BA,if_pos (by omega)]at this
 exact this
theorem Qw (D:Df K mg "all_above" s_all_above)(B:B6 mg):BO P w K mg base "all_above" (k+1) ["ups","place"] Lo:=by
 refine D.has CO (λ_ _ _ _ _ _ us hl=>match us,hl with|[_,_],_=>rfl) (λvs H Q E h=>by obtain⟨u,ups,more,lab,i,rfl,_⟩:=h;rfl) (λf cdv A outer s H vs Q E hr h=>?_)
 obtain⟨u,ups,more,lab,i,rfl,hu,ok,i0,i1,q⟩:=h;refine⟨_,(AE (AM (i:=2) CO.nd rfl (by first|exact Or.inl rfl|exact Or.inr rfl) (Ar AB))
 (AE (AM (i:=3) CO.nd rfl (by first|exact Or.inl rfl|exact Or.inr rfl) (AU Aj (pv 0) (pv 1) (λ_ _=>rfl)))
 (AE (OJ PassesOwn.never (Aa Cr (pv 3) (Cq Bz AF) (Ae _))
 (AE (BZ (Cu PySem.F.plainAttrs_list PySem.F.slot_list_append PySem.F.type_list_append B1 (pv 2) (AA (pv 3) AB)))
 (AI (AM (i:=3) CO.nd rfl (by first|exact Or.inl rfl|exact Or.inr rfl) (AU Aj (pv 0) (pv 3) (λ_ _=>rfl))))))
 (AI (AS (pv 2)))))),?_⟩
 have m60:=ok.most
 have hup:∀j:Int,0<=j->j < (ups.length:Int)->ups.getD j.toNat 0 < j/\-1<=ups.getD j.toNat 0:=λj h0 h1=>by
  rcases Nat.eq_zero_or_pos j.toNat with z|z
  ·have:=ok.root
   rw[z];omega
  ·have:=ok.up j.toNat z (by omega)
   omega
 refine⟨(by show 0<=sizeLine;decide),λr hr0=>?_⟩
 have ne:u≠r:=AL hu hr0;have hu':∀o,upd H r o u=some (.tup ((ups++more).map V.int)):=λo=>by rw[AO ne];exact hu
 refine⟨_,rfl,_,rfl,u,_,_,_,rfl,rfl,BM.of (hu' _),Kv i0 i1,?_⟩
 refine⟨λm σ H'=>∃(l:List Int) (up:Int),σ=[some (.ref u),some (.int i),some (.ref r),some (.int up)]/\H'=upd H r (.lst (l.map V.int))/\l++S8 ups up=JW ups i.toNat/\m=(up+1).toNat/\up < (ups.length:Int)/\-1<=up/\l.length+(up+1).toNat<=61,
  ⟨_,[],_,rfl,rfl,(by rw[List.nil_append];exact(Ml ok (by omega)).symm),rfl,by have:=hup i i0 i1;omega,(hup i i0 i1).2,by have:=hup i i0 i1;rw[List.length_nil];omega⟩,?_⟩
 rintro m σ H' ⟨l,up,rfl,rfl,hl,rfl,u1,u2,u3⟩;refine⟨_,rfl,_,rfl,rfl,_,rfl,?_⟩
 by_cases hc:V.int up=V.int (-1)
 ·rw[decide_eq_true hc]
  refine DN ?_
  have e:up=-1:=by injection hc
  subst e;refine⟨_,rfl,q r _ ((AG.refl H).new hr0) ?_⟩
  rw[AD,<-hl];have:S8 ups (-1)=[]:=by unfold S8;rw[if_pos (by decide)]
  rw[this,List.append_nil]
 ·rw[decide_eq_false hc]
  refine Ir ?_
  have e:up≠-1:=λz=>hc (by rw[z])
  have g:=hup up (by omega) u1
  refine⟨_,λσ' H3 h=>h,?_⟩
  refine⟨_,rfl,.inl ⟨rfl,_,Ah.of AD⟩,_,rfl,r,_,_,rfl,rfl,AD,by rw[List.length_map];exact AK (by omega),?_⟩
  rw[L6];refine⟨_,rfl,_,rfl,u,_,_,_,rfl,rfl,BM.of (hu' _),Kv (by omega) u1,?_⟩
  refine⟨(ups.getD up.toNat 0+1).toNat,by omega,l++[up],ups.getD up.toNat 0,rfl,by rw[List.map_append];rfl,?_,rfl,by omega,g.2,by rw[List.length_append,List.length_singleton];omega⟩
  rw[List.append_assoc,<-hl,Pl ok (by omega) u1];rfl
end
theorem Fj (n:Nat):((List.replicate n true).all id)=true:=by induction n with
 |zero=>rfl
 |succ n ih=>rw[List.replicate_succ,List.all_cons,ih];rfl
theorem Eg (n:Nat):(List.replicate n true).map V.bl++[V.bl true]=(List.replicate (n+1) true).map V.bl:=by rw[List.replicate_succ',List.map_append];rfl
section
variable {P:Program}{w:World}{K:PySem.W.Frag}{mg:Str->Option Value}{base:Heap}{k:Nat}
def HM:Sp:=λvs H Q _=>∃i:Int,vs=[.int i]/\Q (.bl true) H
theorem N0 (D:Df K mg "is_whole" s_is_whole)(B:B6 mg):BO P w K mg base "is_whole" (k+1) ["thing"] HM:=by
 refine D.has Fw (λ_ _ _ _ _ _ us hl=>match us,hl with|[_],_=>rfl) (λvs H Q E h=>by obtain⟨x,rfl,_⟩:=h;rfl) (λf cdv A outer s H vs Q E hr h=>?_)
 obtain⟨i,rfl,q⟩:=h;refine⟨_,(AI (AS (FK (AN BE rfl B.isinstance AZ (AA (pv 0) (AA (CN (v:=.ty "int") rfl B.int_ DG rfl) AB))) (FJ (OG (AN BE rfl B.isinstance AZ (AA (pv 0) (AA (CN (v:=.ty "bool") rfl B.bool_ ML rfl) AB)))))))),?_⟩
 refine⟨_,rfl,_,.type "int","int",true,rfl,.int _,J3 _ _,_,rfl,Ir ?_⟩
 exact⟨_,rfl,_,.type "int","bool",false,rfl,.int _,JB _,_,rfl,q⟩
theorem Fl {pre:List Int}(g:BV pre)(more:List Int){p:Int}(h0:0<=p)(h1:p < (pre.length:Int)):∀n,Ai (pre++more) n p=Ai pre n p/\0<=Ai pre n p/\Ai pre n p < (pre.length:Int)
 |0=>⟨rfl,h0,h1⟩
 |n+1=>by
  obtain⟨a,b,c⟩:=Fl g more h0 h1 n;have lt:(Ai pre n p).toNat < pre.length:=by omega
  have e:(pre++more).getD (Ai pre n p).toNat 0=pre.getD (Ai pre n p).toNat 0:=by rw[BA,if_pos lt]
  refine⟨?_,?_⟩
  ·show Ay (pre++more) (Ai (pre++more) n p)=Ay pre (Ai pre n p)
   rw[a];unfold Ay;rw[e]
  ·exact(g.Ai 0 h0 h1 (n+1)).2
theorem Kw (us:List Int):∀(n:Nat) (p:Int),Ai us n (Ay us p)=Ay us (Ai us n p)
 |0,_=>rfl
 |n+1,p=>by show Ay us (Ai us n (Ay us p))=_;rw[Kw us n p];rfl
theorem Fm {ups:List Int}{lab:List Nat}(t:Al ups lab):∀(f j:Nat),j < f->j < ups.length->∀v∈JW ups j,∃n,Ai ups n (j:Int)=v
 |0,j,h,_,_,_=>absurd h (Nat.not_lt_zero _)
 |f+1,j,h,hj,v,hv=>by
  rw[Fi t hj]at hv
  split at hv
  ·cases hv
  ·rename_i h0
   have lt:=t.lt hj h0;have st:Ay ups (j:Int)=ups.getD j 0:=by unfold Ay;rw[Int.toNat_natCast];split<;>omega
   rcases List.mem_cons.mp hv with e|e
   ·exact⟨1,by show Ay ups (j:Int)=v;rw[st,e]⟩
   ·obtain⟨n,en⟩:=Fm t f _ (by omega) (by omega) v e
    refine⟨n+1,?_⟩
    show Ay ups (Ai ups n (j:Int))=v;rw[<-Kw,st,<-en]
    congr 1
    omega
theorem Pm {us:List Int}(g:BV us)(h60:us.length<=60):Al us (List.replicate us.length 97):=by
 have:=Qv (ls:=List.replicate us.length 97) g (by rw[List.length_replicate]) h60
 exact this
theorem Qx {pre:List Int}{v:Int}(g:BV pre)(h60:pre.length<=60):(v=(pre.length:Int) - 1\/v∈JW pre (pre.length - 1))↔BV (pre++[v]):=by
 have pos:=g.pos;have t:=Pm g h60
 constructor
 ·rintro(e|e)
  ·exact g.snoc (by omega) (by omega) ⟨0,e.symm⟩
  ·have m:=(JX t (pre.length - 1+1) (pre.length - 1) (by omega) (by omega)).2 v e
   obtain⟨n,en⟩:=Fm t (pre.length - 1+1) (pre.length - 1) (by omega) (by omega) v e
   exact g.snoc (by omega) (by omega) ⟨n,by rw[<-en];congr 1;omega⟩
 ·intro g2
  obtain⟨n,en⟩:=g2.road pre.length pos (by rw[List.length_append];show _ < _+1;omega)
  rw[(Fl g [v] (by omega) (by omega) n).1,BA,if_neg (by omega),Nat.sub_self]at en
  have en:Ai pre n ((pre.length:Int) - 1)=v:=en
  rcases Ku t (k:=pre.length - 1) (by omega) n with m|m
  ·left
   rw[show(((pre.length - 1:Nat)):Int)=(pre.length:Int) - 1 by omega,en]at m
   exact m
  ·right
   rw[show(((pre.length - 1:Nat)):Int)=(pre.length:Int) - 1 by omega,en]at m
   exact m
theorem TC {pre more:List Int}{v:Int}(g:BV pre)(g2:BV (pre++v::more)):BV (pre++[v]):=by
 have pos:=g.pos;have lt:pre.length < (pre++v::more).length:=by rw[List.length_append,List.length_cons];omega
 have u:=g2.up pre.length pos lt;obtain⟨n,en⟩:=g2.road pre.length pos lt;rw[(Fl g (v::more) (by omega) (by omega) n).1,BA,if_neg (by omega),Nat.sub_self]at en
 rw[BA,if_neg (by omega),Nat.sub_self]at u
 exact g.snoc u.1 u.2 ⟨n,en⟩
end
theorem Qy (v:Int)(l:List Int):Uv (V.int v) (l.map V.int)=decide (v∈l):=by
 unfold Uv;rw[Bool.eq_iff_iff,List.any_eq_true,decide_eq_true_eq]
 constructor
 ·rintro⟨y,hy,e⟩
  obtain⟨n,hn,rfl⟩:=List.mem_map.mp hy;have:n=v:=by simpa[OT]using e
  rw[<-this];exact hn
 ·intro h
  exact⟨V.int v,List.mem_map.mpr ⟨v,h,rfl⟩,by simp[OT]⟩
section
variable {P:Program}{w:World}{K:PySem.W.Frag}{mg:Str->Option Value}{base:Heap}{k:Nat}
end
end S58.R
namespace S58
open PySem L2 W7 W55
open S58.R (F7 Fj Eg)
section
variable {P:Program}{w:World}{K:PySem.W.Frag}{mg:Str->Option Value}{base:Heap}{k:Nat}
def Hb (ups:List Int)(p:Int)(m:Nat):List Nat:=(List.range m).filter λj=>decide (ups.getD j 0=p)
theorem Kx (ups:List Int)(p:Int)(m:Nat):Hb ups p (m+1)=if ups.getD m 0=p then Hb ups p m++[m]else Hb ups p m:=by
 unfold Hb;rw[List.range_succ,List.filter_append]
 by_cases h:ups.getD m 0=p
 ·rw[if_pos h,List.filter_cons_of_pos (by simpa using h)];rfl
 ·rw[if_neg h,List.filter_cons_of_neg (by simpa using h)];simp
theorem Lp (ups:List Int)(p:Int)(m:Nat):(Hb ups p m).length<=m:=by
 have:=List.length_filter_le (λj=>decide (ups.getD j 0=p)) (List.range m)
 simpa[Hb]using this
def HN:Sp:=λvs H Q _=>∃(t:Addr) (ups:List Int) (lab:Str) (p:Int),vs=[.ref t,.int p]/\BJ H t ups lab/\
 ∀(r:Addr) (H':Hp),AG H H'->H r=none->H' r=some (.lst (F7 (Hb ups p ups.length)))->Q (.ref r) H'
theorem Ky (D:Df K mg "beneath_of" s_beneath_of)(B:B6 mg):BO P w K mg base "beneath_of" (k+1) ["tree","place"] HN:=by
 refine D.has Hh (λ_ _ _ _ _ _ us hl=>match us,hl with|[_,_],_=>rfl) (λvs H Q E h=>by obtain⟨t,ups,lab,p,rfl,_⟩:=h;rfl) (λf cdv A outer s H vs Q E hr h=>?_)
 obtain⟨t,ups,lab,p,rfl,tr,q⟩:=h;refine⟨_,(AI (AS (BI rfl (Iu rfl B.enumerate (AA (AU Aj (pv 0) AF (λ_ _=>rfl)) AB)) (NL:=["other","up"]) (ix:=[1]) (J1 (AJ s_beneath_of) E2) (λcl C s₃ H₃ fp pins=>⟨(MM K (n:=2) rfl (Bc (AW (i:=0) (show List.Nodup (["other","up","place"]:List Str)from by decide+kernel) rfl (by first|exact Or.inl rfl|exact Or.inr rfl)) (Bc (AW (i:=1) (show List.Nodup (["other","up","place"]:List Str)from by decide+kernel) rfl (by first|exact Or.inl rfl|exact Or.inr rfl)) Em))),(Jx (Aa Fs (pv 1) (pv 2) (Ae _))),(pv 0)⟩)))),?_⟩
 obtain⟨u,ht,hu,ok⟩:=id tr;have m60:=ok.most;refine⟨_,rfl,t,_,_,_,rfl,rfl,BM.of ht,rfl,.tup u,rfl,⟨_,.inl hu⟩,λacc hacc=>?_⟩
 refine ID (xs:=ups.map V.int) (by rw[List.length_map];omega) (λi ys H2=>H2 acc=some (.lst ys)/\ys=F7 (Hb ups p i)/\AG H H2)
  (λi ys H2 h=>.inl (h.2.2 _ _ hu)) (λi ys H2 h=>⟨h.1,by rw[h.2.1,F7,List.length_map];exact Lp _ _ _⟩) ⟨AD,rfl,(AG.refl H).new hacc⟩ ?_ ?_
 ·rintro ys H2 ⟨g1,rfl,g3⟩
  rw[List.length_map]at g1;exact q acc H2 g3 hacc g1
 ·rintro i x ys H2 pp hx ⟨g1,rfl,g3⟩ hpp
  rw[List.getElem?_map]at hx
  cases e1:ups[i]? with
  |none=>rw[e1]at hx;cases hx
  |some v=>
   rw[e1]at hx;cases hx;have ev:ups.getD i 0=v:=by rw[List.getD_eq_getElem?_getD,e1];rfl
   refine⟨pp,_,rfl,BM.of AD,rfl,_,_,rfl,_,_,rfl,rfl,?_⟩
   refine⟨rfl,?_⟩
   have g1':upd H2 pp (.tup [.int (i:Int),.int v]) acc=some (.lst (F7 (Hb ups p i))):=by rw[AO (AL g1 hpp)];exact g1
   refine⟨_,rfl,_,rfl,rfl,_,rfl,CZ (λcnd=>?_) (λcnd=>?_)⟩
   ·have ec:v=p:=by
     have:=of_decide_eq_true cnd;injection this
    exact⟨_,rfl,g1',AD,by rw[Kx,if_pos (ev.trans ec),F7,F7,List.map_append];rfl,(g3.new hpp).write hacc⟩
   ·have ec:v≠p:=λz=>cnd (by rw[z];exact decide_eq_true rfl)
    exact⟨g1',by rw[Kx,if_neg (by rw[ev];exact ec)],g3.new hpp⟩
def K0:Sp:=λvs H Q _=>∃(t:Addr) (ups:List Int) (lab:Str) (p:Int),vs=[.ref t,.int p]/\BJ H t ups lab/\
 ∀(r:Addr) (H':Hp),AG H H'->H r=none->H' r=some (.lst (BW ((Hb ups p ups.length).map λj=>lab.cps.toList.getD j 0)))->Q (.ref r) H'
theorem N1 (D:Df K mg "letters_beneath" s_letters_beneath)(B:B6 mg)(G_beneath_of:BO P w K mg base "beneath_of" k ["tree","place"] HN):BO P w K mg base "letters_beneath" (k+1) ["tree","place"] K0:=by
 refine D.has EY (λ_ _ _ _ _ _ us hl=>match us,hl with|[_,_],_=>rfl) (λvs H Q E h=>by obtain⟨t,ups,lab,p,rfl,_⟩:=h;rfl) (λf cdv A outer s H vs Q E hr h=>?_)
 obtain⟨t,ups,lab,p,rfl,tr,q⟩:=h;refine⟨_,(AI (AS (BI rfl (Br (AH G_beneath_of hr rfl (AA (pv 0) (AA (pv 1) AB)))) (NL:=["lower"]) (ix:=[0]) (J1 (AJ s_letters_beneath) Ce) (λcl C s₃ H₃ fp pins=>⟨(AW (i:=0) (show List.Nodup (["lower","tree"]:List Str)from by decide+kernel) rfl (by first|exact Or.inl rfl|exact Or.inr rfl)),A3,(AU Cn (AU (JC K) (pv 1) AF (λ_ _=>rfl)) (pv 0) (λ_ _=>rfl))⟩)))),?_⟩
 obtain⟨u,ht,hu,ok⟩:=id tr;have m60:=ok.most;have ll:lab.cps.toList.length=ups.length:=ok.len.symm;have lz:lab.length<=sizeLine:=Nat.le_of_lt (AK (by simp only[Str.length];rw[<-Array.length_toList,ll];omega))
 refine⟨_,rfl,_,rfl,t,ups,lab,p,rfl,tr,λr H1 s1 hf1 hr1=>?_⟩
 have bl:=Lp ups p ups.length;have bm:∀j∈Hb ups p ups.length,j < ups.length:=λj hj=>List.mem_range.mp (List.mem_filter.mp hj).1
 generalize Hb ups p ups.length=bs at hr1 bl bm q;refine⟨r,rfl,⟨_,Ah.of hr1⟩,λacc hacc=>?_⟩
 refine CG (K:=K) (xs:=F7 bs) (by rw[F7,List.length_map];omega) (λi ys HX=>HX acc=some (.lst ys)/\AG H1 HX/\ys=BW ((bs.take i).map λj=>lab.cps.toList.getD j 0))
  (λi ys HX h=>Ah.of (h.2.1 _ _ hr1)) (λi ys HX h=>⟨h.1,by rw[h.2.2];unfold BW;rw[List.length_map,List.length_map,List.length_take];omega⟩) ⟨AD,(AG.refl H1).new hacc,rfl⟩ ?_ ?_
 ·rintro ys H2 ⟨g1,g2,rfl⟩
  rw[F7,List.length_map,List.take_length]at g1;exact q acc H2 (s1.trans g2) (s1.free hacc) g1
 ·rintro i x ys HX hx ⟨g1,g2,rfl⟩
  rw[F7,List.getElem?_map]at hx
  cases ex:bs[i]? with
  |none=>rw[ex]at hx;cases hx
  |some j=>
   rw[ex]at hx;cases hx;have jl:=bm j (List.mem_of_getElem? ex);have hc:lab.cps.toList[j]?=some (lab.cps.toList.getD j 0):=by rw[List.getD_eq_getElem?_getD,List.getElem?_eq_getElem (by omega)];rfl
   refine⟨rfl,_,rfl,t,_,_,_,rfl,rfl,BM.of (g2 _ _ (s1 _ _ ht)),rfl,_,rfl,lab,_,_,rfl,rfl,lz,BH hc,g1,AD,g2.write hacc,?_⟩
   rw[List.take_succ,ex,List.map_append];unfold BW;rw[List.map_append];rfl
theorem Pn {cs:List Nat}{i:Nat}(h:i < cs.length):Du (BW cs) (i:Int)=some (.str ⟨#[cs.getD i 0]⟩):=BH (by unfold BW;rw[List.getElem?_map,List.getElem?_eq_getElem h,List.getD_eq_getElem?_getD,List.getElem?_eq_getElem h];rfl)
def Rb (ups:List Int)(lab:List Nat):Prop:=∀k k',k < k'->0 < k->k' < ups.length->ups.getD k 0=ups.getD k' 0->lab.getD k 0 < lab.getD k' 0
theorem Po {ups:List Int}{lab:List Nat}(ok:Al ups lab)(r:Rb ups lab)(p:Nat):∀i,i+1 < (Hb ups (p:Int) ups.length).length->((Hb ups (p:Int) ups.length).map λj=>lab.getD j 0).getD i 0 < ((Hb ups (p:Int) ups.length).map λj=>lab.getD j 0).getD (i+1) 0:=λi hi=>by
 have pw:(Hb ups (p:Int) ups.length).Pairwise (·<·):=List.Pairwise.sublist List.filter_sublist List.pairwise_lt_range
 have mem:∀j∈Hb ups (p:Int) ups.length,j < ups.length/\ups.getD j 0=(p:Int):=λj hj=>by
  have:=List.mem_filter.mp hj;exact⟨List.mem_range.mp this.1,of_decide_eq_true this.2⟩
 generalize Hb ups (p:Int) ups.length=bs at hi pw mem;have l:=List.pairwise_iff_getElem.mp pw i (i+1) (by omega) hi (by omega)
 have m1:=mem _ (List.getElem_mem (show i < bs.length by omega))
 have m2:=mem _ (List.getElem_mem hi)
 have z:0 < bs[i]:=by
  rcases Nat.eq_zero_or_pos bs[i]with z|z
  ·rw[z,ok.root]at m1;omega
  ·exact z
 have:=r _ _ l z m2.1 (by rw[m1.2,m2.2])
 rw[List.getD_eq_getElem?_getD,List.getD_eq_getElem?_getD,List.getElem?_map,List.getElem?_map,List.getElem?_eq_getElem (by omega),List.getElem?_eq_getElem hi]
 exact this
end
end S58
namespace L2
open PySem
theorem mid {t u:TS}{D:Ends}{σ:St}{H:Hp}(P:St->Hp->Prop)(h2:∀σ' H',P σ' H'->u D σ' H')(h1:∀E:Ends,(∀σ' H',P σ' H'->E.nx σ' H')->t E σ H):Tv t u D σ H:=h1 { D with nx:=u D } h2
end L2
namespace HT
open PySem PySem.Spec PyProof.Rows
section
variable {prog:Program}{w:World}{A:Around}{E:Value->Shared->Prop}{s:Shared}
theorem FD {t sl:Addr}{items:Array Value}{vl vu:Value}{lo hi:Option Int}{Q:Value->Shared->Prop}(ht:IsTup s.heap t items)(hs:s.heap.IsSliceOf sl vl vu .none)(pl:IsPart vl lo)(pu:IsPart vu hi)
 (h1:As items.size 0 lo=0)(h2:As items.size items.size hi=items.size)(h:Q (.ref t) s):wpAny (model prog w) A (getItem (.ref t) (.ref sl)) Q E s:=by
 obtain⟨os,hos,hcs,hds⟩:=id hs;have hTs:s.TypeIs (.ref sl) "slice":=⟨os,hos,hcs⟩;unfold getItem
 try with_reducible refine wpAny_holding ?_
 first|refine wpAny_bind (wpAny_pure ?_)|skip
 refine wpAny_bind (wpAny_sequenceKey ht.typeIs (by decide) ?_)
 refine wpAny_bind (wpAny_callSpecial?_slot (name:=Str.ofString "__getitem__") ht.typeIs PyProof.Rows.slot_tuple_getitem
  (wpAny_call_entry PyProof.Rows.slot_tuple_getitem ht.typeIs entry_tuple_getitem ?_ (args_tuple_getitem _ _)))
 show wpAny _ _ (Builtin.Tuple.tupleItemsOf (.ref t) >>= _) _ _ s;refine wpAny_bind (tupleItemsOf_ ht ?_)
 refine wpAny_bind (wpAny_typeOf hTs ?_)
 rw[if_pos (by decide)]
 refine wpAny_bind (Cs hs pl pu ?_)
 have hyes:((((As items.size 0 lo:Nat):Int)==0&&(1:Int)==1&&(As items.size items.size hi - As items.size 0 lo)==items.size)=true):=by
  rw[h1,h2];simp
 show wpAny _ _ (if(((As items.size 0 lo:Nat):Int)==0&&(1:Int)==1&&(As items.size items.size hi - As items.size 0 lo)==items.size)=true then _ else _) _ _ s
 rw[if_pos hyes];unfold Builtin.Tuple.tupleIsExact;refine wpAny_bind (wpAny_bind (wpAny_typeOf ht.typeIs (wpAny_pure ?_)))
 rw[if_pos (by decide)]
 refine wpAny_bind (wpAny_rule ?_)
 first
  |exact wpAny_pure ⟨_,rfl,wpAny_pure h⟩
  |exact wpAny_bind (wpAny_pure (wpAny_pure ⟨_,rfl,wpAny_pure h⟩))
end
end HT
namespace L2
open PySem PySem.Spec PyProof.Rows
section
variable {X:Cx}
def Ug (K:PySem.W.Frag):V->Option Int->Option Int->Hp->VK->Prop:=λx lo hi H Q=>∃a xs,x=.ref a/\BM K H a xs/\
 ((HT.As xs.length 0 lo=0/\HT.As xs.length xs.length hi=xs.length)->Q (.ref a) H)/\(¬(HT.As xs.length 0 lo=0/\HT.As xs.length xs.length hi=xs.length)->∀p,H p=none->Q (.ref p) (upd H p (.tup (CY xs lo hi))))
theorem Qz:Tf X (Ug X.K):=by
 intro pins s σ H x v vl vu lo hi sl Q I rx hs pl pu h;obtain⟨a,xs,rfl,hx,q1,q2⟩:=h
 by_cases hw:HT.As xs.length 0 lo=0/\HT.As xs.length xs.length hi=xs.length
 ·cases rx
  obtain⟨its,r,ht,hz⟩:=I.tuple hx;have hlen:its.toArray.size=xs.length:=by rw[List.size_toArray];exact r.length.symm
  refine⟨"tuple",_,PyProof.Rows.slot_tuple_getitem.lookup,ht.typeIs,?_⟩
  exact HT.FD ht hs pl pu (by rw[hlen];exact hw.1) (by rw[hlen];exact hw.2) ⟨.ref a,H,I,rfl,q1 hw⟩
 ·exact OS pins s σ H _ v vl vu lo hi sl Q I rx hs pl pu ⟨a,xs,rfl,hx,hw,q2 hw⟩
end
end L2
namespace L2
open PySem PySem.Spec PyProof.Rows PySem.W
mutual
inductive Td (H:Hp):V->PyData->Prop
 |BK:Td H .BK .none
 |bl (b:Bool):Td H (.bl b) (.bool b)
 |int (i:Int):Td H (.int i) (.int i)
 |str (z:Str):Td H (.str z) (.str z)
 |lst {a:Addr} {xs:List V} {ds:List PyData}:H a=some (.lst xs)->EN H xs ds->Td H (.ref a) (.list ds)
 |tup {a:Addr} {xs:List V} {ds:List PyData}:H a=some (.tup xs)->EN H xs ds->Td H (.ref a) (.tuple ds)
 |dct {a:Addr} {kvs:List (Key×V)} {ps:List (PyData×PyData)}:H a=some (.dK kvs)->EN H (kvs.map λp=>kV p.1) (ps.map (·.1))->EN H (kvs.map (·.2)) (ps.map (·.2))->Td H (.ref a) (.dict ps)
inductive EN (H:Hp):List V->List PyData->Prop
 |nil:EN H [] []
 |cons {v:V} {d:PyData} {vs:List V} {ds:List PyData}:Td H v d->EN H vs ds->EN H (v::vs) (d::ds)
end
mutual
theorem Td.same {H H':Hp}(s:AG H H'):∀{v:V} {d:PyData},Td H v d->Td H' v d
 |_,_,.BK=>.BK
 |_,_,.bl b=>.bl b
 |_,_,.int i=>.int i
 |_,_,.str z=>.str z
 |_,_,.lst e t=>.lst (s _ _ e) (t.same s)
 |_,_,.tup e t=>.tup (s _ _ e) (t.same s)
 |_,_,.dct e t u=>.dct (s _ _ e) (t.same s) (u.same s)
theorem EN.same {H H':Hp}(s:AG H H'):∀{vs:List V} {ds:List PyData},EN H vs ds->EN H' vs ds
 |_,_,.nil=>.nil
 |_,_,.cons t u=>.cons (t.same s) (u.same s)
end
mutual
def BD:PyData->Bool
 |.none|.bool _|.int _|.str _=>true
 |.list _=>false
 |.tuple xs=>Ap xs
 |.dict kvs=>C1 kvs
def Ap:List PyData->Bool
 |[]=>true
 |x::xs=>BD x&&Ap xs
def C1:List (PyData×PyData)->Bool
 |[]=>true
 |(k,v)::r=>BD k&&BD v&&C1 r
end
theorem EO:∀kvs:List (PyData×PyData),C1 kvs=true->Ap (kvs.map (·.1))=true/\Ap (kvs.map (·.2))=true
 |[],_=>⟨by simp only[List.map_nil,Ap],by simp only[List.map_nil,Ap]⟩
 |(k,v)::r,h=>by
  simp only[C1,Bool.and_eq_true]at h;obtain⟨a,b⟩:=EO r h.2;simp only[List.map_cons,Ap,Bool.and_eq_true];exact⟨⟨h.1.1,a⟩,⟨h.1.2,b⟩⟩
theorem Lq {P:Program}{w:World}{es:List DictEntry}{vs:List (Key×Value)}(h:Pairs (Ac P w) es vs):∀{kvs:List (Key×V)},KV kvs vs->Vals (kvs.map λp=>kV p.1) (es.map (·.key))/\Vals (kvs.map (·.2)) (es.map (·.val)):=by
 induction h with
 |nil=>intro kvs r;cases r;exact⟨.nil,.nil⟩
 |cons hk hv _ ih=>
  intro kvs r;cases r with
  |cons r1 r2=>
   obtain⟨a,b⟩:=ih r2;refine⟨.cons ?_ a,.cons (by show RelV _ _;simp only[hv];exact r1.2) b⟩
   show RelV (kV _) _;simp only[r1.1]
   rcases A1 hk with⟨i,t,e,e'⟩|⟨x,t,e,e'⟩
   ·rw[e,e'];exact⟨t,rfl⟩
   ·rw[e,e'];exact⟨t,rfl⟩
section
variable {X:Cx}{pins:List (Addr×Obj)}{σ:St}{H:Hp}{s:Shared}
mutual
theorem BY (I:Inv X pins σ H s):∀{v:V} {d:PyData},Td H v d->∀{u:Value},RelV v u->∃as,Reads s.heap u d as/\(BD d=true->sysModules∉as)
 |_,_,.BK,_,r=>by cases r;exact⟨[],.none,λ_ h=>by cases h⟩
 |_,_,.bl b,_,r=>by cases r;exact⟨[],.bool b,λ_ h=>by cases h⟩
 |_,_,.int i,_,r=>by obtain⟨t,rfl⟩:=r;exact⟨[],.int i t,λ_ h=>by cases h⟩
 |_,_,.str z,_,r=>by obtain⟨t,rfl⟩:=r;exact⟨[],.str z t,λ_ h=>by cases h⟩
 |_,_,.lst e t,_,r=>by
  cases r;obtain⟨_,its,n,rv,g⟩:=I.hok _ _ e;obtain⟨as,ra,_⟩:=C2 I t rv;exact⟨_,.list g rfl rfl ra,λh=>by simp only[BD]at h;cases h⟩
 |_,_,.tup e t,_,r=>by
  cases r;obtain⟨_,its,rv,o,g,c,n,dd⟩:=I.hok _ _ e;obtain⟨as,ra,na⟩:=C2 I t rv;exact⟨as,.tuple g c dd ra,λh=>na (by simpa only[BD]using h)⟩
 |_,_,.dct e t u,_,r=>by
  cases r;obtain⟨_,hs,vs,kv,o,es,ep,g,ex,dd,_,pr,_⟩:=I.hok _ _ e;obtain⟨v1,v2⟩:=Lq pr kv;obtain⟨as,ra,na⟩:=C2 I t v1;obtain⟨bs,rb,nb⟩:=C2 I u v2;refine⟨_,.dict g ex.1 dd ra rb,λh=>?_⟩
  simp only[BD]at h;obtain⟨h1,h2⟩:=EO _ h;intro m
  rcases List.mem_append.mp m with m|m
  ·rcases List.mem_cons.mp m with m|m
   ·exact beq_eq_false_iff_ne.mp hs m.symm
   ·exact na h1 m
  ·exact nb h2 m
theorem C2 (I:Inv X pins σ H s):∀{vs:List V} {ds:List PyData},EN H vs ds->∀{us:List Value},Vals vs us->∃as,ReadsAll s.heap us ds as/\(Ap ds=true->sysModules∉as)
 |_,_,.nil,_,r=>by cases r;exact⟨[],.nil,λ_ h=>by cases h⟩
 |_,_,.cons t u,_,r=>by
  cases r with
  |cons r1 r2=>
   obtain⟨as,ra,na⟩:=BY I t r1;obtain⟨bs,rb,nb⟩:=C2 I u r2;refine⟨as++bs,.cons ra rb,λh=>?_⟩
   simp only[Ap,Bool.and_eq_true]at h;intro m
   rcases List.mem_append.mp m with m|m
   ·exact na h.1 m
   ·exact nb h.2 m
end
variable {k:Nat}
end
section
variable {H:Hp}
theorem EN.len:∀{vs:List V} {ds:List PyData},EN H vs ds->vs.length=ds.length
 |_,_,.nil=>rfl
 |_,_,.cons _ u=>by rw[List.length_cons,List.length_cons,u.len]
theorem EN.append:∀{vs:List V} {ds:List PyData},EN H vs ds->∀{ws:List V} {es:List PyData},EN H ws es->EN H (vs++ws) (ds++es)
 |_,_,.nil,_,_,t=>t
 |_,_,.cons a u,_,_,t=>.cons a (u.append t)
theorem EN.one {v:V}{d:PyData}(t:Td H v d):EN H [v] [d]:=.cons t .nil
theorem EN.get:∀{vs:List V} {ds:List PyData} {i:Nat} {v:V},EN H vs ds->vs[i]?=some v->∃d,ds[i]?=some d/\Td H v d
 |_,_,_,_,.nil,e=>by simp at e
 |_,_,0,_,.cons a u,e=>by simp at e;subst e;exact⟨_,rfl,a⟩
 |_,_,i+1,_,.cons a u,e=>u.get (i:=i) (by simpa using e)
theorem EN.ints (ns:List Int):EN H (ns.map V.int) (ns.map PyData.int):=by
 induction ns with
 |nil=>exact .nil
 |cons n ns ih=>exact .cons (.int n) ih
end
structure Gd (hd hl:Bool)(c e:Nat)(d:PyData):Prop where
 sh:d.showable=true
 lv:d.leavesShort 61=true
 wt:d.weight<=c
 dp:d.depth<=e
 nd:hd=false->d.hasDict=false
 nl:hl=false->BD d=true
structure Gs (hd hl:Bool)(c e:Nat)(ds:List PyData):Prop where
 sh:PyData.showableAll ds=true
 lv:PyData.leavesShortAll 61 ds=true
 wt:PyData.weightAll ds<=c
 dp:PyData.depthAll ds<=e
 nd:hd=false->PyData.hasDictAll ds=false
 nl:hl=false->Ap ds=true
section
variable {hd hl:Bool}{c c' e e':Nat}{d:PyData}{ds es:List PyData}
theorem Gd.mono (g:Gd hd hl c e d)(hc:c<=c')(he:e<=e'):Gd hd hl c' e' d:=⟨g.sh,g.lv,Nat.le_trans g.wt hc,Nat.le_trans g.dp he,g.nd,g.nl⟩
theorem Gs.mono (g:Gs hd hl c e ds)(hc:c<=c')(he:e<=e'):Gs hd hl c' e' ds:=⟨g.sh,g.lv,Nat.le_trans g.wt hc,Nat.le_trans g.dp he,g.nd,g.nl⟩
theorem Gs.nil:Gs hd hl 0 0 []:=⟨by simp only[PyData.showableAll],by simp only[PyData.leavesShortAll],by simp only[PyData.weightAll];omega,by simp only[PyData.depthAll];omega,λ_=>by simp only[PyData.hasDictAll],λ_=>by simp only[Ap]⟩
theorem Gs.cons (g:Gd hd hl c e d)(h:Gs hd hl c' e ds):Gs hd hl (c+1+c') e (d::ds):=by
 have:=g.wt;have:=h.wt;have:=g.dp;have:=h.dp;refine⟨?_,?_,?_,?_,λz=>?_,λz=>?_⟩
 ·simp only[PyData.showableAll,g.sh,h.sh,Bool.and_self]
 ·simp only[PyData.leavesShortAll,g.lv,h.lv,Bool.and_self]
 ·simp only[PyData.weightAll];omega
 ·simp only[PyData.depthAll];omega
 ·simp only[PyData.hasDictAll,g.nd z,h.nd z,Bool.or_self]
 ·simp only[Ap,g.nl z,h.nl z,Bool.and_self]
theorem Gs.TF (g:Gs hd hl c e (d::ds)):∃c1 c2,Gd hd hl c1 e d/\Gs hd hl c2 e ds/\c1+1+c2<=c:=by
 obtain⟨s,l,w,p,n,m⟩:=g;simp only[PyData.showableAll,Bool.and_eq_true]at s;simp only[PyData.leavesShortAll,Bool.and_eq_true]at l;simp only[PyData.weightAll]at w;simp only[PyData.depthAll]at p;refine⟨d.weight,PyData.weightAll ds,⟨s.1,l.1,Nat.le_refl _,by omega,λz=>?_,λz=>?_⟩,⟨s.2,l.2,Nat.le_refl _,by omega,λz=>?_,λz=>?_⟩,w⟩
 ·have:=n z;simp only[PyData.hasDictAll,Bool.or_eq_false_iff]at this;exact this.1
 ·have:=m z;simp only[Ap,Bool.and_eq_true]at this;exact this.1
 ·have:=n z;simp only[PyData.hasDictAll,Bool.or_eq_false_iff]at this;exact this.2
 ·have:=m z;simp only[Ap,Bool.and_eq_true]at this;exact this.2
theorem Gs.append:∀{ds:List PyData} {c:Nat},Gs hd hl c e ds->Gs hd hl c' e es->Gs hd hl (c+c') e (ds++es)
 |[],c,_,h=>h.mono (by omega) (Nat.le_refl _)
 |d::ds,c,g,h=>by
  obtain⟨c1,c2,g1,g2,l⟩:=g.TF;exact(Gs.cons g1 (g2.append h)).mono (by omega) (Nat.le_refl _)
theorem Gs.one (g:Gd hd hl c e d):Gs hd hl (c+1) e [d]:=(Gs.cons g (Gs.nil.mono (Nat.le_refl 0) (Nat.zero_le e))).mono (by omega) (Nat.le_refl _)
theorem Gs.all:∀{ds:List PyData},(∀d∈ds,Gd hd hl c e d)->Gs hd hl ((c+1)*ds.length) e ds
 |[],_=>Gs.nil.mono (Nat.zero_le _) (Nat.zero_le _)
 |d::ds,h=>by
  refine(Gs.cons (h d List.mem_cons_self) (Gs.all (ds:=ds) λx hx=>h x (List.mem_cons_of_mem _ hx))).mono ?_ (Nat.le_refl _)
  rw[List.length_cons,Nat.mul_succ];omega
theorem Gd.tup (g:Gs hd hl c e ds):Gd hd hl c (e+1) (.tuple ds):=
 ⟨by simp only[PyData.showable];exact g.sh,by simp only[PyData.leavesShort];exact g.lv,by simp only[PyData.weight];exact g.wt,by simp only[PyData.depth];have:=g.dp;omega,λz=>by simp only[PyData.hasDict];exact g.nd z,λz=>by simp only[BD];exact g.nl z⟩
theorem Gd.lst (g:Gs hd true c e ds):Gd hd true c (e+1) (.list ds):=
 ⟨by simp only[PyData.showable];exact g.sh,by simp only[PyData.leavesShort];exact g.lv,by simp only[PyData.weight];exact g.wt,by simp only[PyData.depth];have:=g.dp;omega,λz=>by simp only[PyData.hasDict];exact g.nd z,λz=>by cases z⟩
theorem Gd.Vi:Gd true hl 0 1 (.dict []):=
 ⟨by simp only[PyData.showable,PyData.showableKv],by simp only[PyData.leavesShort,PyData.leavesShortKv],by simp only[PyData.weight,PyData.weightKv];omega,by simp only[PyData.depth,PyData.depthKv];omega,(λz=>by cases z),λz=>by simp only[BD,C1]⟩
theorem Gd.BK:Gd hd hl 0 0 .none:=⟨by simp only[PyData.showable],by simp only[PyData.leavesShort],by simp only[PyData.weight];omega,by simp only[PyData.depth];omega,λ_=>by simp only[PyData.hasDict],λ_=>by simp only[BD]⟩
theorem Gd.bl (b:Bool):Gd hd hl 0 0 (.bool b):=⟨by simp only[PyData.showable],by simp only[PyData.leavesShort],by simp only[PyData.weight];omega,by simp only[PyData.depth];omega,λ_=>by simp only[PyData.hasDict],λ_=>by simp only[BD]⟩
theorem Gd.str {z:Str}(h:∀c∈z.cps.toList,c < 1000):Gd hd hl z.cps.size 0 (.str z):=⟨by simp only[PyData.showable],by
 simp only[PyData.leavesShort,List.all_eq_true,decide_eq_true_eq];intro c hc;have:=h c hc;have e:16 ^ 8=4294967296:=by decide
 omega,by simp only[PyData.weight];omega,by simp only[PyData.depth];omega,λ_=>by simp only[PyData.hasDict],λ_=>by simp only[BD]⟩
end
end L2
namespace L2
open PySem PySem.Spec PyProof.Rows PySem.W
theorem Dq {c:Bool}{A B:Prop}(h:c=false)(q:B):if c=true then A else B:=by rw[h];exact DN q
theorem K1 {c:Bool}{A B:Prop}(h:c=true)(q:A):if c=true then A else B:=by rw[h];exact Ir q
end L2
namespace W56
open PySem
def S:Nat->Nat
 |0=>0
 |m+1=>5*S m+1
def it (x:Nat):Nat->Nat
 |0=>x
 |m+1=>5*it x m+1
theorem K2 (x:Nat):∀m,it x m=x+S m*(4*x+1)
 |0=>by simp[it,S]
 |m+1=>by
  show 5*it x m+1=x+(5*S m+1)*(4*x+1);rw[K2 x m,Nat.add_mul,Nat.mul_assoc];generalize S m*(4*x+1)=q;omega
theorem Lr (x:Nat)(a:Nat):∀b,it x (a+b)=it (it x a) b
 |0=>rfl
 |b+1=>by show 5*it x (a+b)+1=5*it (it x a) b+1;rw[Lr x a b]
theorem Uh (n:Nat):S (2*n)=2*(S n*(2*S n+1)):=by
 have h:=K2 0 (n+n);rw[Lr,K2 (it 0 n) n,K2 0 n]at h;simp only[Nat.mul_zero,Nat.zero_add,Nat.mul_one]at h;rw[show 2*n=n+n by omega,<-h,Nat.mul_add,Nat.mul_one]
 generalize hq:S n*(4*S n)=q;have e1:S n*(2*S n+1)=S n*(2*S n)+S n:=by rw[Nat.mul_add,Nat.mul_one]
 have e2:S n*(4*S n)=2*(S n*(2*S n)):=by rw[show 4*S n=2*(2*S n) by omega,Nat.mul_left_comm]
 rw[e1];omega
theorem Rc:∀m,S m % 2=m % 2
 |0=>rfl
 |m+1=>by show(5*S m+1) % 2=(m+1) % 2;have:=Rc m;omega
theorem Vt (k c:Nat):Nat.Coprime (2 ^ k) (2*c+1):=by
 apply Nat.Coprime.pow_left;show Nat.gcd 2 (2*c+1)=1;rw[Nat.gcd_rec,show(2*c+1) % 2=1 by omega]
 rfl
theorem Rf:∀k m,2 ^ k ∣ S m->2 ^ k ∣ m
 |0,m,_=>⟨m,by simp⟩
 |k+1,m,h=>by
  have h2:2 ∣ S m:=Nat.dvd_trans ⟨2 ^ k,by rw[Nat.pow_succ,Nat.mul_comm]⟩ h
  have pm:=Rc m;obtain⟨n,rfl⟩:∃n,m=2*n:=⟨m / 2,by have:=Nat.mod_eq_zero_of_dvd h2;omega⟩
  rw[Uh,Nat.pow_succ,Nat.mul_comm (2 ^ k) 2]at h;have h3:2 ^ k ∣ S n*(2*S n+1):=Nat.dvd_of_mul_dvd_mul_left (by decide) h
  have h4:=(Vt k (S n)).dvd_of_dvd_mul_right h3;have h5:=Rf k n h4;rw[Nat.pow_succ,Nat.mul_comm (2 ^ k) 2];exact Nat.mul_dvd_mul_left 2 h5
theorem TH {k x a b:Nat}(hab:a < b)(hb:b < 2 ^ k):¬it x a % 2 ^ k=it x b % 2 ^ k:=by
 intro h;obtain⟨d,rfl⟩:∃d,b=a+d:=⟨b - a,by omega⟩
 rw[Lr,K2 (it x a) d]at h;generalize it x a=y at h
 have h1:2 ^ k ∣ S d*(4*y+1):=by
  have:=Nat.sub_mod_eq_zero_of_mod_eq h.symm;rw[Nat.add_sub_cancel_left]at this;exact Nat.dvd_of_mod_eq_zero this
 rw[show 4*y+1=2*(2*y)+1 by omega]at h1
 have h2:=Rf k d ((Vt k (2*y)).dvd_of_dvd_mul_right h1);have:=Nat.le_of_dvd (by omega) h2
 omega
theorem full {l:List Nat}{M:Nat}(nd:l.Nodup)(lt:∀x∈l,x < M)(len:M<=l.length){j:Nat}(hj:j < M):j∈l:=by
 by_cases h:j∈l
 ·exact h
 ·have n2:(j::l).Nodup:=List.nodup_cons.mpr ⟨h,nd⟩
  have:=n2.length_le_of_subset (l₂:=List.range M) λx hx=>by
   rcases List.mem_cons.mp hx with z|z
   ·rw[z];exact List.mem_range.mpr hj
   ·exact List.mem_range.mpr (lt x z)
  rw[List.length_cons,List.length_range]at this;omega
theorem TJ (k x j:Nat)(hj:j < 2 ^ k):∃m,m < 2 ^ k/\it x m % 2 ^ k=j:=by
 have nd:((List.range (2 ^ k)).map λm=>it x m % 2 ^ k).Nodup:=by
  rw[List.nodup_iff_pairwise_ne,List.pairwise_map];refine List.Pairwise.imp_of_mem ?_ (List.pairwise_lt_range (n:=2 ^ k))
  intro a b ha hb ab;exact TH ab (List.mem_range.mp hb)
 have:=full nd (M:=2 ^ k) (λy hy=>by
  obtain⟨m,_,rfl⟩:=List.mem_map.mp hy;exact Nat.mod_lt _ (Nat.pow_pos (by decide))) (by simp) hj
 obtain⟨m,hm,e⟩:=List.mem_map.mp this;exact⟨m,List.mem_range.mp hm,e⟩
def road (mask:Nat)(i p:Nat):Nat->Nat×Nat
 |0=>(i,p)
 |m+1=>SetTable.leap mask (road mask i p m).1 (road mask i p m).2
theorem Pq (mask i p:Nat):∀m,(road mask i p m).2=p / 32 ^ m
 |0=>by simp[road]
 |m+1=>by
  show(road mask i p m).2 / 32=p / 32 ^ (m+1);rw[Pq mask i p m,Nat.div_div_eq_div_mul,Nat.pow_succ]
theorem Mo {mask i p k m:Nat}(hM:mask+1=2 ^ k)(h0:∀n,m<=n->(road mask i p n).2=0):∀n,(road mask i p (m+n)).1 % 2 ^ k=it (road mask i p m).1 n % 2 ^ k
 |0=>rfl
 |n+1=>by
  have ih:=Mo hM h0 n;show((road mask i p (m+n)).1*5+1+(road mask i p (m+n)).2 / 32) % (mask+1) % 2 ^ k=(5*it (road mask i p m).1 n+1) % 2 ^ k;rw[h0 (m+n) (by omega),hM,Nat.mod_mod]
  simp only[Nat.zero_div,Nat.add_zero];rw[Nat.add_mod,Nat.mul_comm,Nat.mul_mod,ih,<-Nat.mul_mod,<-Nat.add_mod]
theorem Q0 {mask i p:Nat}(hi:i < mask+1):∀m,(road mask i p m).1 < mask+1
 |0=>hi
 |m+1=>Nat.mod_lt _ (by omega)
theorem Pt {mask i p k j:Nat}(hM:mask+1=2 ^ k)(hi:i < mask+1)(hp:p < 32 ^ 13)(hj:j < mask+1):∃m,m < mask+15/\(road mask i p m).1=j:=by
 have h0:∀n,13<=n->(road mask i p n).2=0:=λn hn=>by
  rw[Pq];exact Nat.div_eq_of_lt (Nat.lt_of_lt_of_le hp (Nat.pow_le_pow_right (by decide) hn))
 obtain⟨m,hm,e⟩:=TJ k (road mask i p 13).1 j (by omega)
 refine⟨13+m,by omega,?_⟩
 have:=Mo hM h0 m;rw[e,<-hM,Nat.mod_eq_of_lt (Q0 hi _)]at this;exact this
theorem Q1 (h:Int):SetTable.bits h < 32 ^ 13:=by
 unfold SetTable.bits;have h1:=Int.emod_lt_of_pos h (show(0:Int) < 2 ^ 64 by decide)
 have h2:=Int.emod_nonneg h (show(2 ^ 64:Int)≠0 by decide)
 have e:(32:Nat) ^ 13=36893488147419103232:=by decide
 have e2:(2 ^ 64:Int)=18446744073709551616:=by decide
 rw[e];rw[e2]at h1 h2 ⊢;omega
theorem HQ (mask i p:Nat):∀m,road mask i p (m+1)=road mask (SetTable.leap mask i p).1 (SetTable.leap mask i p).2 m
 |0=>rfl
 |m+1=>by
  show SetTable.leap mask (road mask i p (m+1)).1 (road mask i p (m+1)).2=SetTable.leap mask (road mask (SetTable.leap mask i p).1 (SetTable.leap mask i p).2 m).1 (road mask (SetTable.leap mask i p).1 (SetTable.leap mask i p).2 m).2;rw[HQ mask i p m]
theorem Ib {mask:Nat}{owner:Array (Option Nat)}:∀fuel i p,SetTable.layClean.free mask owner fuel i p=none->∀m,m < fuel->(owner.getD (road mask i p m).1 (some 0)).isNone=false
 |0,_,_,_,m,hm=>absurd hm (Nat.not_lt_zero _)
 |fuel+1,i,p,h,m,hm=>by
  unfold SetTable.layClean.free at h;cases e:(List.range (SetTable.runEnd mask i+1 - i)).find? (λk=>(owner.getD (i+k) (some 0)).isNone)with
  |some k=>rw[e]at h;cases h
  |none=>
   rw[e]at h;cases m with
   |zero=>
    have hr:i<=SetTable.runEnd mask i:=by unfold SetTable.runEnd;split<;>omega
    have:=List.find?_eq_none.mp e 0 (List.mem_range.mpr (by omega))
    rw[Nat.add_zero]at this;exact Bool.eq_false_iff.mpr this
   |succ m=>
    rw[HQ];exact Ib fuel _ _ h m (by omega)
theorem Mp {mask:Nat}{owner:Array (Option Nat)}:∀fuel i p j,SetTable.layClean.free mask owner fuel i p=some j->(owner.getD j (some 0)).isNone=true
 |0,_,_,_,h=>by unfold SetTable.layClean.free at h;cases h
 |fuel+1,i,p,j,h=>by
  unfold SetTable.layClean.free at h;cases e:(List.range (SetTable.runEnd mask i+1 - i)).find? (λk=>(owner.getD (i+k) (some 0)).isNone)with
  |some k=>
   rw[e]at h;cases h;exact List.find?_some (p:=λk=>(owner.getD (i+k) (some 0)).isNone) e
  |none=>
   rw[e]at h;exact Mp fuel _ _ j h
theorem N2 {mask k:Nat}{owner:Array (Option Nat)}(hM:mask+1=2 ^ k){j:Nat}(hj:j < mask+1)(hn:(owner.getD j (some 0)).isNone=true)(h:Int):
 ∃j',SetTable.layClean.free mask owner (SetTable.turns mask) (SetTable.bits h % (mask+1)) (SetTable.bits h)=some j'/\(owner.getD j' (some 0)).isNone=true:=by
 cases e:SetTable.layClean.free mask owner (SetTable.turns mask) (SetTable.bits h % (mask+1)) (SetTable.bits h)with
 |some j'=>exact⟨j',rfl,Mp _ _ _ _ e⟩
 |none=>
  obtain⟨m,hm,er⟩:=Pt hM (i:=SetTable.bits h % (mask+1)) (p:=SetTable.bits h) (Nat.mod_lt _ (by omega)) (Q1 h) hj
  have:=Ib _ _ _ e m hm;rw[er,hn]at this;cases this
structure Own (mask:Nat)(owner:Array (Option Nat))(js:List Nat):Prop where
 sz:owner.size=mask+1
 nd:js.Nodup
 lt:∀j∈js,j < mask+1
 at_:∀i j:Nat,js[i]?=some j->owner[j]?=some (some i)
 no:∀j:Nat,j < mask+1->j∉js->owner[j]?=some none
theorem getD_none {owner:Array (Option Nat)}{j:Nat}:(owner.getD j (some 0)).isNone=true↔owner[j]?=some none:=by
 rw[Array.getD_eq_getD_getElem?];cases e:owner[j]? with
 |none=>simp
 |some v=>cases v<;>simp
theorem Own.step {mask k:Nat}{owner:Array (Option Nat)}{js:List Nat}(hM:mask+1=2 ^ k)(o:Own mask owner js)(hl:js.length < mask+1)(h:Int):
 ∃j,SetTable.layClean.free mask owner (SetTable.turns mask) (SetTable.bits h % (mask+1)) (SetTable.bits h)=some j/\Own mask (owner.setIfInBounds j (some js.length)) (js++[j]):=by
 obtain⟨j0,hj0,hn0⟩:∃j,j < mask+1/\j∉js:=by
  refine Classical.byContradiction λhc=>?_
  have sub:∀j∈List.range (mask+1),j∈js:=λj hj=>Classical.byContradiction λz=>hc ⟨j,List.mem_range.mp hj,z⟩
  have:=(List.nodup_range (n:=mask+1)).length_le_of_subset sub;rw[List.length_range]at this;omega
 obtain⟨j,e,hn⟩:=N2 hM hj0 (getD_none.mpr (o.no j0 hj0 hn0)) h;have hj:=getD_none.mp hn
 have jl:j < owner.size:=by
  obtain⟨hh,_⟩:=Array.getElem?_eq_some_iff.mp hj
  exact hh
 have jn:j∉js:=λz=>by
  obtain⟨i,hi,ei⟩:=List.getElem_of_mem z;have:=o.at_ i j (by rw[List.getElem?_eq_getElem hi,ei])
  rw[hj]at this;cases this
 have sz:=o.sz;refine⟨j,e,⟨by rw[Array.size_setIfInBounds];exact sz,?_,?_,?_,?_⟩⟩
 ·rw[List.nodup_append]
  exact⟨o.nd,by simp,λa ha b hb z=>jn (by rw[<-List.mem_singleton.mp hb,<-z];exact ha)⟩
 ·intro i hi
  rcases List.mem_append.mp hi with z|z
  ·exact o.lt i z
  ·rw[List.mem_singleton.mp z];omega
 ·intro i j' hi
  rcases Nat.lt_or_ge i js.length with z|z
  ·rw[List.getElem?_append_left z]at hi
   have ne:j≠j':=λy=>jn (by rw[y];exact List.mem_of_getElem? hi)
   rw[Array.getElem?_setIfInBounds_ne ne]
   exact o.at_ i j' hi
  ·rw[List.getElem?_append_right z]at hi
   have e0:i - js.length=0:=by
    have:=(List.getElem?_eq_some_iff.mp hi).1
    simp at this;omega
   rw[e0]at hi;obtain rfl:j=j':=by simpa using hi
   rw[Array.getElem?_setIfInBounds_self_of_lt jl,show i=js.length by omega]
 ·intro j' h1 h2
  have ne:j≠j':=λy=>h2 (by rw[y];simp)
  rw[Array.getElem?_setIfInBounds_ne ne]
  exact o.no j' h1 λz=>h2 (List.mem_append_left _ z)
theorem Own.start (mask:Nat):Own mask (Array.replicate (mask+1) none) []:=
 ⟨by simp,List.nodup_nil,(λj h=>by cases h),(λi j h=>by cases h),λj h _=>by rw[Array.getElem?_replicate,if_pos h]⟩
theorem Mq {mask k:Nat}(hM:mask+1=2 ^ k):∀(hs:List Int) (owner:Array (Option Nat)) (js:List Nat),Own mask owner js->js.length+hs.length<=mask+1->
 ∃owner' js',(hs.foldl (init:=some (owner,js.length)) λacc h=>do
  let(owner,k)<-acc
  let j<-SetTable.layClean.free mask owner (SetTable.turns mask) (SetTable.bits h % (mask+1)) (SetTable.bits h)
  pure (owner.setIfInBounds j (some k),k+1))=some (owner',js'.length)/\Own mask owner' js'/\js'.length=js.length+hs.length
 |[],owner,js,o,_=>⟨owner,js,rfl,o,rfl⟩
 |h::hs,owner,js,o,hl=>by
  rw[List.length_cons]at hl;obtain⟨j,e,o2⟩:=o.step hM (by omega) h
  obtain⟨owner',js',e2,o3,l3⟩:=Mq hM hs _ _ o2 (by rw[List.length_append,List.length_singleton];omega)
  refine⟨owner',js',?_,o3,by rw[l3,List.length_append,List.length_singleton,List.length_cons];omega⟩
  rw[List.foldl_cons]
  have e3:((do
   let(owner,k)<-some (owner,js.length)
   let j<-SetTable.layClean.free mask owner (SetTable.turns mask) (SetTable.bits h % (mask+1)) (SetTable.bits h)
   pure (owner.setIfInBounds j (some k),k+1)):Option (Array (Option Nat)×Nat))=some (owner.setIfInBounds j (some js.length),(js++[j]).length):=by
   show(do
    let j<-SetTable.layClean.free mask owner (SetTable.turns mask) (SetTable.bits h % (mask+1)) (SetTable.bits h)
    pure (owner.setIfInBounds j (some js.length),js.length+1):Option (Array (Option Nat)×Nat))=_
   rw[e,List.length_append,List.length_singleton];rfl
  rw[e3];exact e2
theorem Pu {mask k:Nat}(hM:mask+1=2 ^ k)(hashes:Array Int)(hl:hashes.size<=mask+1):∃owner js,SetTable.layClean mask hashes=some owner/\Own mask owner js/\js.length=hashes.size:=by
 obtain⟨owner,js,e,o,l⟩:=Mq hM hashes.toList _ _ (Own.start mask) (by simpa using hl)
 refine⟨owner,js,?_,o,by rw[l];simp⟩
 unfold SetTable.layClean;rw[<-Array.foldl_toList];rw[List.length_nil]at e;rw[e];rfl
end W56
namespace W56
open PySem
theorem Pw {mask:Nat}{owner:Array (Option Nat)}{js:List Nat}(o:Own mask owner js)(i:Nat):i∈((List.range (mask+1)).filterMap λj=>(owner.getD j none).map ((j,·))).map (·.2)↔i < js.length:=by
 rw[List.mem_map]
 constructor
 ·rintro⟨⟨j,i'⟩,hm,rfl⟩
  obtain⟨j',hj',e⟩:=List.mem_filterMap.mp hm;have hj:=List.mem_range.mp hj';cases e2:owner.getD j' none with
  |none=>rw[e2]at e;cases e
  |some v=>
   rw[e2]at e;obtain⟨rfl,rfl⟩:=Prod.mk.inj (Option.some.inj e)
   by_cases z:j'∈js
   ·obtain⟨n,hn,en⟩:=List.getElem_of_mem z
    have:=o.at_ n j' (by rw[List.getElem?_eq_getElem hn,en])
    rw[Array.getD_eq_getD_getElem?,this]at e2;have:n=v:=by simpa using e2
    show v < _;omega
   ·rw[Array.getD_eq_getD_getElem?,o.no j' hj z]at e2
    cases e2
 ·intro hi
  have e1:js[i]?=some js[i]:=List.getElem?_eq_getElem hi
  have ha:=o.at_ i _ e1;refine⟨(js[i],i),List.mem_filterMap.mpr ⟨js[i],List.mem_range.mpr (o.lt _ (List.getElem_mem hi)),?_⟩,rfl⟩
  rw[Array.getD_eq_getD_getElem?,ha];rfl
theorem Q2 {mask:Nat}{owner:Array (Option Nat)}{js:List Nat}(o:Own mask owner js):(((List.range (mask+1)).filterMap λj=>(owner.getD j none).map ((j,·))).map (·.2)).Nodup:=by
 have key:∀j v,j < mask+1->owner.getD j none=some v->js[v]?=some j:=λj v hj e=>by
  by_cases z:j∈js
  ·obtain⟨n,hn,en⟩:=List.getElem_of_mem z
   have h1:js[n]?=some j:=by rw[List.getElem?_eq_getElem hn,en]
   have:=o.at_ n j h1;rw[Array.getD_eq_getD_getElem?,this]at e;obtain rfl:n=v:=by simpa using e
   exact h1
  ·rw[Array.getD_eq_getD_getElem?,o.no j hj z]at e
   cases e
 rw[List.nodup_iff_pairwise_ne,List.pairwise_map,List.pairwise_filterMap];refine List.Pairwise.imp_of_mem ?_ (List.pairwise_lt_range (n:=mask+1))
 intro a b ha hb ab x hx y hy z;have ha':=List.mem_range.mp ha;have hb':=List.mem_range.mp hb;cases e1:owner.getD a none with
 |none=>rw[e1]at hx;cases hx
 |some v=>
  cases e2:owner.getD b none with
  |none=>rw[e2]at hy;cases hy
  |some u=>
   rw[e1]at hx;rw[e2]at hy;cases hx;cases hy;have k1:=key a v ha' e1;have k2:=key b u hb' e2;have:v=u:=z;subst this;rw[k1]at k2;have:a=b:=Option.some.inj k2;omega
theorem Ic {mask:Nat}{owner:Array (Option Nat)}{js:List Nat}(o:Own mask owner js):(((List.range (mask+1)).filterMap λj=>(owner.getD j none).map ((j,·))).map (·.2)).Perm (List.range js.length):=
 (List.perm_ext_iff_of_nodup (Q2 o) List.nodup_range).mpr λi=>by rw[Pw o i,List.mem_range]
theorem range_all {α:Type}(l:List α):(List.range l.length).filterMap (l[·]?)=l:=by
 induction l with
 |nil=>rfl
 |cons a l ih=>
  rw[List.length_cons,List.range_succ_eq_map,List.filterMap_cons];show a::((List.range l.length).map Nat.succ).filterMap ((a::l)[·]?)=_
  rw[List.filterMap_map]
  congr 1
theorem Mr {mask k:Nat}(hM:mask+1=2 ^ k)(fg mv:Nat)(led pl:Bool){α:Type}(hash:α->Int)(es:Array α)(hl:es.size<=mask):
 ∃t order,SetTable.laid mask fg mv led pl (es.map hash)=some (t,order)/\(order.filterMap (es[·]?)).toList.Perm es.toList/\t.fits es.size=true/\t.led=led/\t.plain=pl/\t.mask=mask/\t.dummies=#[]:=by
 obtain⟨owner,js,e,o,l⟩:=Pu hM (es.map hash) (by rw[Array.size_map];omega)
 rw[Array.size_map]at l
 have el:SetTable.laid mask fg mv led pl (es.map hash)=some ({ mask,place:=(((List.range (mask+1)).filterMap λj=>(owner.getD j none).map ((j,·))).map (·.1)).toArray,dummies:=#[],finger:=fg,led,moves:=mv,plain:=pl },(((List.range (mask+1)).filterMap λj=>(owner.getD j none).map ((j,·))).map (·.2)).toArray):=by
  unfold SetTable.laid;rw[e];rfl
 refine⟨_,_,el,?_,?_,rfl,rfl,rfl,rfl⟩
 ·have p:=Ic o
  have p2:=p.filterMap (λi=>es.toList[i]?)
  rw[l,<-Array.length_toList,range_all]at p2;rw[Array.toList_filterMap];simpa using p2
 ·have p:=(Ic o).length_eq
  rw[List.length_map,List.length_range,l]at p;unfold SetTable.fits SetTable.fill;simp only[List.size_toArray,List.length_map,p];simp;exact hl
theorem Ms:∀fuel j n,(∃k,j=2 ^ k)->n < j*2 ^ fuel->∃k,SetTable.sizeAbove.go n fuel j=2 ^ k/\n < 2 ^ k/\(2 ^ k=j\/2 ^ k<=2*n)
 |0,j,n,⟨k,hk⟩,h=>⟨k,hk,by rw[<-hk];simpa using h,.inl hk.symm⟩
 |fuel+1,j,n,⟨k,hk⟩,h=>by
  unfold SetTable.sizeAbove.go
  by_cases c:j<=n
  ·rw[if_pos c]
   obtain⟨k',e,l1,l2⟩:=Ms fuel (j*2) n ⟨k+1,by rw[hk,Nat.pow_succ]⟩ (by rw[Nat.pow_succ]at h;rw[Nat.mul_assoc,Nat.mul_comm 2];exact h)
   refine⟨k',e,l1,.inr ?_⟩
   rcases l2 with z|z
   ·omega
   ·exact z
  ·rw[if_neg c]
   exact⟨k,hk,by omega,.inl hk.symm⟩
theorem Q3 (n:Nat)(h:n < 2 ^ 60):∃k,SetTable.sizeAbove n=2 ^ k/\n < 2 ^ k/\(2 ^ k=8\/2 ^ k<=2*n):=
 Ms 64 8 n ⟨3,rfl⟩ (Nat.lt_of_lt_of_le h (by decide))
end W56
namespace L2
open PySem PySem.Spec PyProof.Rows PySem.W
section
variable {prog:Program}{w:World}{A:Around}{E:Value->Shared->Prop}{s:Shared}
theorem CK.perm {led:Bool}{es es':Array (Int×Value)}{t t':SetTable}{S:List Str}(h:CK w led es t S)(p:es'.toList.Perm es.toList)(f:t'.fits es'.size=true)(l:t'.led=led)(q:es'.size=0\/t'.plain=false):CK w led es' t' S where
 ent:=λe he=>h.ent e (p.mem_iff.mp he)
 nd:=by rw[(B2 p).nodup_iff];exact h.nd
 mem:=λy=>by rw[(B2 p).mem_iff];exact h.mem y
 fit:=f
 led:=l
 pl:=q
theorem Px {a:Addr}{led:Bool}{es:Array (Int×Value)}{ep:Nat}{t:SetTable}{S:List Str}{wanted:Nat}{Q:Unit->Shared->Prop}(hget:s.heap.get? a=some { cls:=.type "set",data:=.set es ep t })(hS:CK w led es t S)(h1:es.size<=wanted)(h2:wanted < 100000)
 (h:∀h' es' t',Heap.SameBut a s.heap h'->h'.get? a=some { cls:=.type "set",data:=.set es' (ep+1) t' }->CK w led es' t' S->es'.size=es.size->(∃k,t'.mask+1=2 ^ k/\wanted < 2 ^ k)->t'.dummies=#[]->t'.plain=t.plain->Q () { s with heap:=h' }):wpAny (model prog w) A (setRelay a wanted) Q E s:=by
 obtain⟨k,ek,lk,l2⟩:=W56.Q3 wanted (by omega)
 have hz:sizeLine=268435455\/1000000<=sizeLine:=.inr (by rw[sizeLine_eq];decide)
 unfold setRelay;refine wpAny_bind (wpAny_setState_of hget rfl hS.fit ?_)
 dsimp only
 rw[if_neg (by rw[ek];rcases hz with z|z<;>omega)]
 have kp:0 < 2 ^ k:=Nat.pow_pos (by decide)
 obtain⟨t',order,el,p,f,ld,pl,mk',dm⟩:=W56.Mr (mask:=SetTable.sizeAbove wanted - 1) (k:=k) (by rw[ek];omega) t.finger (t.movedTo (SetTable.sizeAbove wanted - 1)) t.led t.plain (λe:Int×Value=>e.1) es (by rw[ek];omega)
 have er:t.relaid (es.map (·.1)) wanted=some (t',order):=el
 rw[er];have pz:=p.length_eq;rw[Array.length_toList,Array.length_toList]at pz;refine wpAny_bind ?_
 show wpAny _ _ (if((order.filterMap (es[·]?)).size !=es.size)=true then _ else _) _ _ _
 rw[if_neg (by rw[pz];simp)]
 refine wpAny_pure ?_
 dsimp only
 refine Bn hget (by rw[pz];rcases hz with z|z<;>omega) λh' sb hg=>?_
 refine h h' _ t' sb hg (hS.perm p (by rw[pz];exact f) (ld.trans hS.led) ?_) pz ⟨k,by rw[mk',ek];omega,lk⟩ dm pl
 rw[pz,pl];exact hS.pl
theorem Mt {a:Addr}{led:Bool}{es:Array (Int×Value)}{ep:Nat}{t:SetTable}{S:List Str}{more:Nat}{Q:Unit->Shared->Prop}(hget:s.heap.get? a=some { cls:=.type "set",data:=.set es ep t })(hS:CK w led es t S)(h1:es.size < 10000)(h2:more < 10000)(hmk:es.size=0->t.mask=7/\t.dummies=#[])
 (h:∀h' es' ep' t',Heap.SameBut a s.heap h'->h'.get? a=some { cls:=.type "set",data:=.set es' ep' t' }->CK w led es' t' S->es'.size=es.size->(es.size=0->(∃k,t'.mask+1=2 ^ k)/\more<=t'.mask/\t'.dummies=#[])->t'.plain=t.plain->Q () { s with heap:=h' }):wpAny (model prog w) A (setRoomFor a more) Q E s:=by
 unfold setRoomFor;refine wpAny_bind (wpAny_setState_of hget rfl hS.fit ?_)
 dsimp only
 have hf:=hS.fit;unfold SetTable.fits at hf;rw[Bool.and_eq_true]at hf;have pz:t.place.size=es.size:=eq_of_beq hf.1;unfold SetTable.roomFor
 by_cases c:(t.fill+more)*5≥t.mask*3
 ·rw[if_pos c]
  dsimp only
  refine Px hget hS (by rw[pz];omega) (by rw[pz];omega) λh' es' t' sb hg hS' ez mk' dm pl=>?_
  obtain⟨k,e1,e2⟩:=mk';exact h h' es' _ t' sb hg hS' ez (λz=>⟨⟨k,e1⟩,by rw[pz]at e2;omega,dm⟩) pl
 ·rw[if_neg c]
  dsimp only
  refine wpAny_pure (h s.heap es ep t (Heap.SameBut.refl ..) hget hS rfl (λz=>?_) rfl)
  obtain⟨m7,d0⟩:=hmk z;refine⟨⟨3,by rw[m7]⟩,?_,d0⟩
  have:t.fill=0:=by unfold SetTable.fill;rw[pz,z,d0];rfl
  rw[this,m7]at c;rw[m7];omega
theorem K3 {r a:Addr}{S:List Str}{n:Nat}{Q:Unit->Shared->Prop}(hr:s.heap.get? r=some { cls:=.type "set",data:=.set #[] 0 (SetTable.fresh 0 0 (AQ w)) })(ha:Ak w (AQ w) s.heap a S n)(ra:r≠a)(n4:n < 4000)
 (h:∀h',Heap.SameBut r s.heap h'->Ak w (AQ w) h' r S n->Q () { s with heap:=h' }):wpAny (model prog w) A (setMerge r a) Q E s:=by
 obtain⟨es,ep,t,hget,hS,hsz⟩:=id ha;have hz:1000000<=sizeLine:=by rw[sizeLine_eq];decide
 unfold setMerge;rw[if_neg (by simpa using ra)]
 refine wpAny_bind (wpAny_setState_of hget rfl hS.fit ?_)
 dsimp only
 by_cases ce:es.isEmpty=true
 ·rw[if_pos ce]
  have es0:es=#[]:=Array.isEmpty_iff.mp ce;have S0:∀x,x∉S:=λx hx=>by have:=(hS.mem x).mpr hx;rw[es0]at this;simp at this
  have:S=[]:=List.eq_nil_iff_forall_not_mem.mpr S0;subst this;refine wpAny_pure (h s.heap (Heap.SameBut.refl ..) ?_)
  obtain⟨x1,x2,x3,x4,x5,x6⟩:=Ak.start hr;exact⟨x1,x2,x3,x4,x5,by omega⟩
 ·rw[if_neg ce]
  have ep0:0 < es.size:=by
   rcases Nat.eq_zero_or_pos es.size with z|z
   ·exact absurd (by simpa using Array.eq_empty_of_size_eq_zero z) ce
   ·exact z
  have hS0:CK w (AQ w) #[] (SetTable.fresh 0 0 (AQ w)) []:=⟨λx hx=>by simp at hx,by simp,λx=>by simp,by rfl,rfl,.inl rfl⟩
  refine wpAny_bind (Mt hr hS0 (by simp) (by omega) (λ_=>⟨rfl,rfl⟩) λh1 es1 ep1 t1 sb1 hg1 hS1 ez1 mk1 pl1=>?_)
  obtain⟨⟨k,e1⟩,e2,d1⟩:=mk1 rfl;have pl1':t1.plain=true:=pl1;have tp:t.plain=false:=hS.pl.resolve_left (by omega)
  have es10:es1=#[]:=Array.eq_empty_of_size_eq_zero ez1;have hf1:=hS1.fit;unfold SetTable.fits at hf1;rw[Bool.and_eq_true]at hf1;have pz1:t1.place.size=0:=by rw[eq_of_beq hf1.1,ez1];rfl
  refine wpAny_bind (wpAny_setState_of (s:={ s with heap:=h1 }) hg1 rfl hS1.fit ?_)
  dsimp only
  have f0:t1.fill=0:=by unfold SetTable.fill;rw[pz1,d1];rfl
  have er:t1.road t=if t1.mask==t.mask&&t.dummies.isEmpty then .slotForSlot else .clean:=by
   unfold SetTable.road;rw[f0];rfl
  rw[er];have lw:(t1.led&&t.led)=AQ w:=by rw[hS1.led,hS.led,Bool.and_self]
  have pw:(t1.plain&&t.plain)=false:=by rw[tp,Bool.and_false]
  by_cases cc:(t1.mask==t.mask&&t.dummies.isEmpty)=true
  ·rw[if_pos cc]
   dsimp only
   refine Bn (s:={ s with heap:=h1 }) hg1 (by omega) λh2 sb2 hg2=>?_
   refine h h2 (sb1.trans sb2) ⟨es,_,_,hg2,hS.perm (List.Perm.refl _) hS.fit lw (.inr pw),hsz⟩
  ·rw[if_neg cc]
   dsimp only
   obtain⟨t',order,el,p,f,ld,pl,mk',dm⟩:=W56.Mr e1 t1.finger t1.moves (t1.led&&t.led) (t1.plain&&t.plain) (λe:Int×Value=>e.1) es e2
   rw[el];have pz:=p.length_eq;rw[Array.length_toList,Array.length_toList]at pz;refine wpAny_bind ?_
   show wpAny _ _ (if((order.filterMap (es[·]?)).size !=es.size)=true then _ else _) _ _ _
   rw[if_neg (by rw[pz];simp)]
   refine wpAny_pure ?_
   dsimp only
   refine Bn (s:={ s with heap:=h1 }) hg1 (by omega) λh2 sb2 hg2=>?_
   refine h h2 (sb1.trans sb2) ⟨_,_,_,hg2,hS.perm p (by rw[pz];exact f) (ld.trans lw) (.inr (pl.trans pw)),by omega⟩
theorem Q4 {D r:Addr}{es:Array (Int×Value)}{ep:Nat}{t:SetTable}{S T:List Str}{m:Nat}{Q:Array (Int×Value)->Shared->Prop}(hD:s.heap.get? D=some { cls:=.type "set",data:=.set es ep t })(hS:CK w (AQ w) es t S)
 (hr:Ak w (AQ w) s.heap r T m)(ne:T≠[])
 (h:∀(ys:Array (Int×Value)) d,ys.toList.Perm es.toList->Q ys { s with drawn:=d }):wpAny (model prog w) A (setWalkUnseen D [r] (some r)) Q E s:=by
 unfold setWalkUnseen;refine wpAny_bind (wpAny_setState_of hD rfl hS.fit ?_)
 dsimp only
 refine wpAny_bind (Bu ?_)
 split
 ·exact Mk hD hS λys d hp=>h ys d hp
 ·refine wpAny_bind (Ko (D::[r]) default (λa ha=>?_) ?_)
  ·simp only[List.mem_cons,List.not_mem_nil,or_false]at ha
   rcases ha with rfl|rfl
   ·exact⟨S,es.size,_,⟨es,ep,t,hD,hS,Nat.le_refl _⟩⟩
   ·exact⟨T,m,_,hr⟩
  ·rw[if_neg (by decide)]
   refine wpAny_bind (wpAny_rule ?_)
   obtain⟨es2,ep2,t2,hg2,hS2,_⟩:=hr
   have z2:es2.size≠0:=λz=>by
    obtain⟨x,hx⟩:=List.exists_mem_of_ne_nil _ ne;have:=(hS2.mem x).mpr hx;rw[Array.eq_empty_of_size_eq_zero z]at this;simp at this
   have tp:=hS2.pl.resolve_left z2;refine wpAny_bind (wpAny_setState_of hg2 rfl hS2.fit ?_)
   dsimp only
   rw[if_neg (by rw[hS2.led,hS.led,tp];simp)]
   exact wpAny_pure (h es s.drawn (List.Perm.refl _))
theorem Py {nm:String}{r a:Addr}{S T:List Str}{n m ep0:Nat}{es:Array (Int×Value)}{t:SetTable}{Q:Unit->Shared->Prop}(hr:Ak w (AQ w) s.heap r S n)(ne:S≠[])(hget:s.heap.get? a=some { cls:=.type "set",data:=.set es ep0 t })(hS:CK w (AQ w) es t T)(hm:es.size<=m)(ra:r≠a)(n4:n+m < 4000)
 (h:∀h' d U,Heap.SameBut r s.heap h'->Ak w (AQ w) h' r U (n+m)->(∀x,x∈U↔x∈S\/x∈T)->Q () { s with heap:=h',drawn:=d }):wpAny (model prog w) A (setMerge r a (Builtin.Frozenset.unchanged nm a ep0)) Q E s:=by
 have hsc:scanBound=4096:=rfl;obtain⟨es2,ep2,t2,hg2,hS2,hz2⟩:=hr
 have z2:es2.size≠0:=λz=>by
  obtain⟨x,hx⟩:=List.exists_mem_of_ne_nil _ ne;have:=(hS2.mem x).mpr hx;rw[Array.eq_empty_of_size_eq_zero z]at this;simp at this
 unfold setMerge;rw[if_neg (by simpa using ra)]
 refine wpAny_bind (wpAny_setState_of hget rfl hS.fit ?_)
 dsimp only
 by_cases ce:es.isEmpty=true
 ·rw[if_pos ce]
  have es0:es=#[]:=Array.isEmpty_iff.mp ce;have T0:∀x,x∉T:=λx hx=>by have:=(hS.mem x).mpr hx;rw[es0]at this;simp at this
  refine wpAny_pure (h s.heap s.drawn S (Heap.SameBut.refl ..) ⟨es2,ep2,t2,hg2,hS2,by omega⟩ λx=>⟨.inl,λz=>z.resolve_right (T0 x)⟩)
 ·rw[if_neg ce]
  refine wpAny_bind (Mt hg2 hS2 (by omega) (by omega) (λz=>absurd z z2) λh1 es3 ep3 t3 sb1 hg3 hS3 ez3 _ pl3=>?_)
  refine wpAny_bind (wpAny_setState_of (s:={ s with heap:=h1 }) hg3 rfl hS3.fit ?_)
  dsimp only
  have hf3:=hS3.fit;unfold SetTable.fits at hf3;rw[Bool.and_eq_true]at hf3;have pz3:t3.place.size=es3.size:=eq_of_beq hf3.1
  have er:t3.road t=.oneByOne:=by
   unfold SetTable.road;rw[if_pos];have:t3.fill≠0:=by unfold SetTable.fill;omega
   simpa using this
  rw[er]
  dsimp only
  have hget1:h1.get? a=some { cls:=.type "set",data:=.set es ep0 t }:=by rw[sb1.2 _ ra.symm];exact hget
  have hr1:Ak w (AQ w) h1 r S n:=⟨es3,ep3,t3,hg3,hS3,by omega⟩
  refine wpAny_bind (Q4 (s:={ s with heap:=h1 }) hget1 hS hr1 ne λys d hp=>?_)
  have yl:ys.toList.length=es.size:=by rw[hp.length_eq];simp
  refine wpAny_bind (wpAny_mono (PySem.MeetsSeq2.wpAny_forIn_array _ (λrest _ s'=>∃h' U k,s'={ s with heap:=h',drawn:=d }/\Heap.SameBut r s.heap h'/\Ak w (AQ w) h' r U k/\k+rest.length<=n+m/\(∀e∈rest,∃x tk,e=(hashStr w x,Value.str x tk))/\∀x,(x∈U\/x∈rest.map keyOf)↔(x∈S\/x∈T)) (λ_ s'=>∃h' U,s'={ s with heap:=h',drawn:=d }/\Heap.SameBut r s.heap h'/\Ak w (AQ w) h' r U (n+m)/\∀x,x∈U↔x∈S\/x∈T) ?_ ?_ ys _ ⟨h1,S,n,rfl,sb1,hr1,by omega,λe he=>hS.ent e (hp.mem_iff.mp he),λx=>?_⟩) (λ_ s' ⟨h',U,e,sb,hU,hm⟩=>by subst e;exact wpAny_pure (h h' d U sb hU hm)) (λ_ _ z=>z))
  ·rintro e rest b s' ⟨h',U,k,rfl,sb,hU,hk',hent,hmm⟩
   obtain⟨x,tk,rfl⟩:=hent e List.mem_cons_self
   dsimp only
   rw[List.length_cons]at hk';refine wpAny_bind (wpAny_holding (IY (s:={ s with heap:=h',drawn:=d }) hU (by omega) λb' h2 sb2 hU2=>?_))
   have hW3:h2.get? a=some { cls:=.type "set",data:=.set es ep0 t }:=by rw[sb2.2 _ ra.symm,sb.2 _ ra.symm];exact hget
   unfold Builtin.Frozenset.unchanged;refine wpAny_bind (wpAny_bind (wpAny_setEpoch_of (s:={ s with heap:=h2,drawn:=d }) hW3 rfl hS.fit ?_))
   rw[if_neg (by simp)]
   refine wpAny_pure ?_
   refine wpAny_bind (wpAny_setState_of (s:={ s with heap:=h2,drawn:=d }) hW3 rfl hS.fit ?_)
   dsimp only
   rw[if_neg (by simp)]
   refine wpAny_pure ⟨h2,U++[x],k+1,rfl,sb.trans sb2,hU2,by omega,λe he=>hent e (List.mem_cons_of_mem _ he),λy=>?_⟩
   rw[<-hmm y,List.mem_append,List.mem_singleton,List.map_cons,List.mem_cons];show((y∈U\/y=x)\/_)↔(y∈U\/(y=x\/_));exact or_assoc
  ·rintro b s' ⟨h',U,k,rfl,sb,hU,hk',_,hmm⟩
   refine⟨h',U,rfl,sb,?_,λx=>?_⟩
   ·obtain⟨es4,ep4,t4,g,hS4,hz⟩:=hU
    exact⟨es4,ep4,t4,g,hS4,by omega⟩
   ·rw[<-hmm x];simp
  ·rw[(hp.map keyOf).mem_iff,hS.mem x]
theorem Q5 {a:Addr}{S:List Str}{n:Nat}{Q:Value->Shared->Prop}(ha:Ak w (AQ w) s.heap a S n)(n4:n < 4000)
 (h:∀h',(∀c o,s.heap.get? c=some o->h'.get? c=some o)->Ak w (AQ w) h' s.heap.objs.size S n->Q (.ref s.heap.objs.size) { s with heap:=h' }):wpAny (model prog w) A (Builtin.Frozenset.copyOf a) Q E s:=by
 have hTa:=ha.typeIs;obtain⟨es,ep,t,hga,hSa,za⟩:=id ha;have la:a < s.heap.objs.size:=Heap.lt_size hga;unfold Builtin.Frozenset.copyOf Builtin.Frozenset.baseOf;refine wpAny_bind (wpAny_bind (wpAny_isInstance hTa sub_set_self (wpAny_pure ?_)))
 rw[if_pos rfl];unfold newSet;refine wpAny_bind (wpAny_bind (Bu ?_))
 dsimp only
 refine wpAny_newObj_type ?_
 show wpAny (model prog w) A _ _ E { s with heap:=s.heap.push { cls:=.type "set",data:=.set #[] 0 (SetTable.fresh 0 0 (AQ w)) } }
 have hn:(s.heap.push { cls:=.type "set",data:=.set #[] 0 (SetTable.fresh 0 0 (AQ w)) }).get? s.heap.objs.size=some { cls:=.type "set",data:=.set #[] 0 (SetTable.fresh 0 0 (AQ w)) }:=Heap.get?_push_size _ rfl
 have ha1:Ak w (AQ w) (s.heap.push { cls:=.type "set",data:=.set #[] 0 (SetTable.fresh 0 0 (AQ w)) }) a S n:=ha.keeps λo e=>Heap.get?_push_of_some _ e
 have old1:∀c o,s.heap.get? c=some o->(s.heap.push { cls:=.type "set",data:=.set #[] 0 (SetTable.fresh 0 0 (AQ w)) }).get? c=some o:=λc o e=>Heap.get?_push_of_some _ e
 generalize hg:s.heap.push { cls:=.type "set",data:=.set #[] 0 (SetTable.fresh 0 0 (AQ w)) }=g at hn ha1 old1;show wpAny _ _ (pure s.heap.objs.size >>= _) _ _ _;refine wpAny_bind (wpAny_pure ?_)
 refine wpAny_bind (K3 (s:={ s with heap:=g }) hn ha1 (Nat.ne_of_gt la) n4 λh' sb hU=>?_)
 refine wpAny_pure (h h' (λc o e=>?_) hU)
 rw[sb.2 c (Nat.ne_of_lt (Heap.lt_size e))];exact old1 c o e
theorem Ja:entryFor table "set.__or__"=some Builtin.«frozenset.__or__»:=by kernel_rfl
theorem TK {a b:Addr}{S T:List Str}{n m:Nat}{Q:Value->Shared->Prop}(ha:Ak w (AQ w) s.heap a S n)(hb:Ak w (AQ w) s.heap b T m)(ab:a≠b)(ne:S≠[])(n4:n+m < 4000)
 (h:∀(h':Heap) d U,(∀c o,s.heap.get? c=some o->h'.get? c=some o)->Ak w (AQ w) h' s.heap.objs.size U (n+m)->(∀x,x∈U↔x∈S\/x∈T)->Q (.ref s.heap.objs.size) { s with heap:=h',drawn:=d }):
 wpAny (model prog w) A (binaryOp .BitOr (.ref a) (.ref b)) Q E s:=by
 refine wpAny_binaryOp_same (T:="set") (id:="set.__or__") ha.typeIs hb.typeIs F.fills_set_or F.slot_set_or ?_
 refine wpAny_call_entry F.slot_set_or ha.typeIs Ja ?_ (F.args_set_or_2 _ _)
 show wpAny _ _ (Builtin.Frozenset.slot1 "__or__" ⟨[.ref a,.ref b],[]⟩ >>= _) _ _ _;unfold Builtin.Frozenset.slot1;refine wpAny_bind (wpAny_bind ?_)
 show wpAny _ _ (pure (Value.ref a,[Value.ref b])) _ _ _;refine wpAny_pure (wpAny_pure ?_)
 dsimp only
 rw[if_neg (by decide)]
 dsimp only
 unfold Builtin.Frozenset.isAnySet;refine wpAny_bind ?_
 refine wpAny_bind ?_
 refine wpAny_bind (wpAny_isInstance ha.typeIs sub_set_self ?_)
 refine wpAny_pure ?_
 show wpAny _ _ (isInstance (.ref b) (.type "set") <||> _) _ _ _
 refine wpAny_bind (wpAny_isInstance hb.typeIs sub_set_self ?_)
 refine wpAny_pure ?_
 rw[if_neg (by decide)]
 show wpAny _ _ (pure a >>= _) _ _ _;refine wpAny_bind (wpAny_pure ?_)
 obtain⟨es,ep,t,hgb,hSb,zb⟩:=id hb;have lb:b < s.heap.objs.size:=Heap.lt_size hgb;have n0:n < 4000:=by omega
 refine wpAny_bind ?_
 show wpAny _ _ (Builtin.Frozenset.copyOf a >>= _) _ _ _;refine wpAny_bind (Q5 ha n0 λh1 old1 hU1=>?_)
 rw[if_pos (by simpa using ab.symm)]
 have hgb1:=old1 _ _ hgb;show wpAny _ _ (pure s.heap.objs.size >>= _) _ _ _;refine wpAny_bind (wpAny_pure ?_)
 refine wpAny_bind (wpAny_holding ?_)
 unfold Builtin.Frozenset.updateFrom Builtin.Frozenset.isAnySet;have hTb:({ s with heap:=h1 }:Shared).TypeIs (.ref b) "set":=(hb.keeps λo e=>old1 _ _ e).typeIs (s:={ s with heap:=h1 })
 refine wpAny_bind ?_
 refine wpAny_bind (wpAny_isInstance hTb sub_set_self ?_)
 refine wpAny_pure ?_
 rw[if_pos rfl];show wpAny _ _ (pure b >>= _) _ _ _;refine wpAny_bind (wpAny_pure ?_)
 unfold Builtin.Frozenset.merge;refine wpAny_bind (wpAny_setEpoch_of (s:={ s with heap:=h1 }) hgb1 rfl hSb.fit ?_)
 refine Py (s:={ s with heap:=h1 }) hU1 ne hgb1 hSb zb (Nat.ne_of_gt lb) n4 λh2 d U sb hU hm=>?_
 refine wpAny_pure (wpAny_pure ⟨_,rfl,(λz=>by cases z),h h2 d U (λc o e=>?_) hU hm⟩)
 rw[sb.2 c (Nat.ne_of_lt (Heap.lt_size e))];exact old1 c o e
end
section
variable {X:Cx}
theorem N3:C9 X (binaryOp .BitOr) (λx y H Q=>∃(a b:Addr) (S T:List Str) (n m:Nat),x=.ref a/\y=.ref b/\a≠b/\H a=some (Aw X.w a S n)/\H b=some (Aw X.w b T m)/\S≠[]/\n+m < 4000/\
 ∀(r:Addr) (U:List Str),H r=none->(∀x,x∈U↔x∈S\/x∈T)->Q (.ref r) (upd H r (Aw X.w r U (n+m)))):=by
 intro pins s σ H x y v u Q I rx ry h;obtain⟨a,b,S,T,n,m,rfl,rfl,ab,ha,hb,ne,n4,q⟩:=h;cases(show v=Value.ref a from rx)
 cases(show u=Value.ref b from ry)
 refine TK (EB I ha) (EB I hb) ab ne n4 λh' d U old hU hm=>?_
 have I2:=I.laid (t':=s.toks) (h':=h') (a:=s.heap.objs.size) (o:=Aw X.w s.heap.objs.size U (n+m)) old (Nat.le_refl _) (JV hU);exact⟨.ref s.heap.objs.size,_,I2.drawn d,rfl,q _ U (I.hok.fresh (Nat.le_refl _)) hm⟩
theorem Ls (w:World)(hw:X.w=w:=by rfl):C9 X (binaryOp .BitOr) (λx y H Q=>∃(a b:Addr) (S T:List Str) (n m:Nat),x=.ref a/\y=.ref b/\a≠b/\H a=some (Aw w a S n)/\H b=some (Aw w b T m)/\S≠[]/\n+m < 4000/\
 ∀(r:Addr) (U:List Str),H r=none->(∀x,x∈U↔x∈S\/x∈T)->Q (.ref r) (upd H r (Aw w r U (n+m)))):=by
 subst hw;exact N3
end
end L2
namespace L2
open PySem PySem.Spec PyProof.Rows PySem.W
section
variable {X:Cx}
theorem Hr (w:World)(hw:X.w=w:=by rfl):Be X (.builtin "len") (λxs H Q=>∃(a:Addr) (S:List Str) (n:Nat),xs=[.ref a]/\H a=some (Aw w a S n)/\n < 4000/\
 ∀ss:List Str,ss.Nodup->(∀x,x∈ss↔x∈S)->Q (.int ((ss.length:Nat):Int)) H):=by
 subst hw;intro pins s σ H xs us' Q I r h;obtain⟨a,S,n,rfl,ha,n4,q⟩:=h;obtain⟨u,rfl,ru⟩:=vals1 r;cases(show u=Value.ref a from ru)
 obtain⟨es,ep,t,e,hS,hn⟩:=EB I ha;refine call_len_set (s:=s) e ⟨rfl,rfl,rfl⟩ rfl hS.fit (by omega) ⟨.int _,H,I.tok _,⟨_,rfl⟩,?_⟩
 have:=q (es.toList.map keyOf) hS.nd hS.mem;simpa using this
end
theorem Gd.int {hd hl:Bool}{i:Int}(h:i.natAbs < 10 ^ 12):Gd hd hl 41 0 (.int i):=by
 have s1:=He (ns:=[i]) (λn hn=>by rw[List.mem_singleton.mp hn];exact h)
 simp only[PyData.showable,List.map_cons,List.map_nil,PyData.showableAll,Bool.and_true]at s1;refine⟨by simp only[PyData.showable];exact s1,?_,?_,by simp only[PyData.depth];omega,λ_=>by simp only[PyData.hasDict],λ_=>by simp only[BD]⟩
 ·simp only[PyData.leavesShort,decide_eq_true_eq]
  exact Nat.le_trans (PyData.shown_int_le h) (by decide)
 ·have:=Fu [i] (λn hn=>by rw[List.mem_singleton.mp hn];exact h)
  simp only[List.map_cons,List.map_nil,PyData.weightAll,List.length_singleton]at this;omega
end L2
namespace L2
open PySem PySem.Spec PyProof.Rows PySem.W
def Jb:PyData->Bool|.tuple _=>true|_=>false
def Jc:PyData->Bool|.str _=>true|_=>false
def TL:PyData->Bool|.int _=>true|.bool _=>true|_=>false
def Rg:PyData->Bool|.bool _=>true|_=>false
section
variable {K:PySem.W.Frag}{H:Hp}{v:V}{d:PyData}
theorem Pz (h:Td H v d):∃t,DS K H v t/\kitOne K t (.type "tuple")=some (Jb d):=by
 cases h with
 |BK=>exact⟨_,.BK,by rfl⟩
 |bl b=>exact⟨_,.bl b,by rfl⟩
 |int i=>exact⟨_,.int i,by rfl⟩
 |str z=>exact⟨_,.str z,by rfl⟩
 |lst e _=>exact⟨_,.lst e,by rfl⟩
 |tup e _=>exact⟨_,.tup e,by rfl⟩
 |dct e _ _=>exact⟨_,.dK e,by rfl⟩
theorem TM (h:Td H v d):∃t,DS K H v t/\kitOne K t (.type "str")=some (Jc d):=by
 cases h with
 |BK=>exact⟨_,.BK,by rfl⟩
 |bl b=>exact⟨_,.bl b,by rfl⟩
 |int i=>exact⟨_,.int i,by rfl⟩
 |str z=>exact⟨_,.str z,by rfl⟩
 |lst e _=>exact⟨_,.lst e,by rfl⟩
 |tup e _=>exact⟨_,.tup e,by rfl⟩
 |dct e _ _=>exact⟨_,.dK e,by rfl⟩
theorem TN (h:Td H v d):∃t,DS K H v t/\kitOne K t (.type "int")=some (TL d):=by
 cases h with
 |BK=>exact⟨_,.BK,by rfl⟩
 |bl b=>exact⟨_,.bl b,by rfl⟩
 |int i=>exact⟨_,.int i,by rfl⟩
 |str z=>exact⟨_,.str z,by rfl⟩
 |lst e _=>exact⟨_,.lst e,by rfl⟩
 |tup e _=>exact⟨_,.tup e,by rfl⟩
 |dct e _ _=>exact⟨_,.dK e,by rfl⟩
theorem Ui (h:Td H v d):∃t,DS K H v t/\kitOne K t (.type "bool")=some (Rg d):=by
 cases h with
 |BK=>exact⟨_,.BK,by rfl⟩
 |bl b=>exact⟨_,.bl b,by rfl⟩
 |int i=>exact⟨_,.int i,by rfl⟩
 |str z=>exact⟨_,.str z,by rfl⟩
 |lst e _=>exact⟨_,.lst e,by rfl⟩
 |tup e _=>exact⟨_,.tup e,by rfl⟩
 |dct e _ _=>exact⟨_,.dK e,by rfl⟩
end
theorem HR {H:Hp}{v:V}{d:PyData}(h:Td H v d)(b:Jb d=true):∃a xs ds,v=.ref a/\d=.tuple ds/\H a=some (.tup xs)/\EN H xs ds:=by
 cases h with
 |tup e t=>exact⟨_,_,_,rfl,rfl,e,t⟩
 |_=>cases b
theorem HS {H:Hp}{v:V}{d:PyData}(h:Td H v d)(b:Jc d=true):∃z,v=.str z/\d=.str z:=by
 cases h with
 |str z=>exact⟨_,rfl,rfl⟩
 |_=>cases b
def Eh:PyData->Bool|.int _=>true|_=>false
theorem Cj:∀{H:Hp} {xs:List V} {ds:List PyData},EN H xs ds->(∀d∈ds,Eh d=true)->∃us:List Int,ds=us.map .int/\xs=us.map V.int
 |_,_,_,.nil,_=>⟨[],rfl,rfl⟩
 |_,_,_,.cons t u,h=>by
  obtain⟨us,e1,e2⟩:=Cj u λd hd=>h d (List.mem_cons_of_mem _ hd)
  have w:=h _ List.mem_cons_self;cases t with
  |int i=>exact⟨i::us,by rw[e1];rfl,by rw[e2];rfl⟩
  |_=>cases w
def dl (ps:List Addr)(H:Hp):Hp:=λa=>if a∈ps then none else H a
theorem Mu (ps:List Addr)(H:Hp):AG (dl ps H) H:=λb o e=>by
 unfold dl at e
 split at e
 ·cases e
 ·exact e
theorem Rh {ps:List Addr}{H:Hp}{a:Addr}{o:HO}(h:H a=some o)(n:a∉ps):dl ps H a=some o:=by unfold dl;rw[if_neg n];exact h
theorem Q6 {ps:List Addr}{H H':Hp}(h:∀b o,b∉ps->H b=some o->H' b=some o):AG (dl ps H) (dl ps H'):=λb o e=>by
 unfold dl at e ⊢
 split at e
 ·cases e
 ·rename_i n
  rw[if_neg n];exact h b o n e
end L2
namespace L2
open PySem PySem.Spec PyProof.Rows PySem.W
section
variable {X:Cx}
def Vj:V->Option Int->Option Int->Hp->VK->Prop:=λx lo hi H Q=>∃a xs,x=.ref a/\H a=some (.tup xs)/\∀r H',AG H H'->H' r=some (.tup (CY xs lo hi))->Q (.ref r) H'
theorem N4 {xs:List V}{lo hi:Option Int}(h:HT.As xs.length 0 lo=0/\HT.As xs.length xs.length hi=xs.length):CY xs lo hi=xs:=by
 unfold CY;rw[h.1,h.2,List.drop_zero,Nat.sub_zero,List.take_length]
theorem Mv:Tf X Vj:=by
 intro pins s σ H x v vl vu lo hi sl Q I rx hs pl pu h;obtain⟨a,xs,rfl,hx,q⟩:=h;refine Qz pins s σ H _ v vl vu lo hi sl Q I rx hs pl pu ⟨a,xs,rfl,BM.of hx,λw=>?_,λ_ p hp=>?_⟩
 ·exact q a H (AG.refl H) (by rw[N4 w];exact hx)
 ·exact q p _ ((AG.refl H).new hp) AD
def Uj:R2:=λx y H Q=>∃a b xs ys,x=.ref a/\y=.ref b/\H a=some (.tup xs)/\H b=some (.tup ys)/\xs.length+ys.length<=sizeLine/\∀r H',AG H H'->H' r=some (.tup (xs++ys))->Q (.ref r) H'
theorem GH:C9 X (binaryOp .Add) Uj:=by
 intro pins s σ H x y v u Q I rx ry h;obtain⟨a,b,xs,ys,rfl,rfl,ha,hb,hz,q⟩:=h;refine Qp pins s σ H _ _ v u Q I rx ry ⟨a,b,xs,ys,rfl,rfl,BM.of ha,BM.of hb,hz,λe=>?_,λ_ e=>?_,λ_ _ p hp=>?_⟩
 ·exact q b H (AG.refl H) (by rw[e,List.nil_append];exact hb)
 ·exact q a H (AG.refl H) (by rw[e,List.append_nil];exact ha)
 ·exact q p _ ((AG.refl H).new hp) AD
end
end L2
namespace S58
open PySem L2 W7
open S58.R (F7 Fj Eg HM Lo)
def Lu (c:Nat):Bool:=decide (97<=c)&&decide (c < 123)
theorem Mw {c:Nat}:Lu c=true↔Lw c:=by unfold Lu Lw;rw[Bool.and_eq_true,decide_eq_true_eq,decide_eq_true_eq]
theorem TQ {c:Nat}(h:c < 1000):(!(Builtin.Str.occurrences (Str.ofString "abcdefghijklmnopqrstuvwxyz") ⟨#[c]⟩ 0 (Str.ofString "abcdefghijklmnopqrstuvwxyz").length 1).isEmpty)=Lu c:=by
 have all:∀c:Nat,c < 1000->(!(Builtin.Str.occurrences (Str.ofString "abcdefghijklmnopqrstuvwxyz") ⟨#[c]⟩ 0 (Str.ofString "abcdefghijklmnopqrstuvwxyz").length 1).isEmpty)=Lu c:=by decide+kernel
 exact all c h
def TR:PyData->Bool
 |.str z=>z.cps.toList.all Lu
 |_=>false
def TU:PyData->Bool
 |.str z=>z.cps.toList.all Lu&&(decide (1<=z.length)&&decide (z.length<=60))
 |_=>false
def Short (d:PyData):Prop:=∀z,d=.str z->z.length<=900/\∀c∈z.cps.toList,c < 1000
def Q7 (d:PyData)(m:Nat):Prop:=∃us:List Int,d=.tuple (us.map .int)/\us.length=m/\R.BV us
def Fn (d:PyData):Prop:=∃(us:List Int) (z:Str),d=.tuple [.tuple (us.map .int),.str z]/\us.length=z.length/\1<=z.length/\z.length<=60/\(∀c∈z.cps.toList,Lw c)/\R.BV us
theorem Mx (l:List Bool):(l.all id)=true↔∀b∈l,b=true:=by rw[List.all_eq_true];rfl
section
variable {P:Program}{w:World}{K:PySem.W.Frag}{mg:Str->Option Value}{base:Heap}{k:Nat}
def Ie:Sp:=λvs H Q _=>∃(v:V) (d:PyData),vs=[v]/\Td H v d/\Q (.bl (Eh d)) H
theorem Lv (D:Df K mg "is_whole" s_is_whole)(B:B6 mg):BO P w K mg base "is_whole" (k+1) ["thing"] Ie:=by
 refine D.has Fw (λ_ _ _ _ _ _ us hl=>match us,hl with|[_],_=>rfl) (λvs H Q E h=>by obtain⟨x,d,rfl,_⟩:=h;rfl) (λf cdv A outer s H vs Q E hr h=>?_)
 obtain⟨v,d,rfl,td,q⟩:=h;refine⟨_,(AI (AS (FK (AN BE rfl B.isinstance AZ (AA (pv 0) (AA (CN (v:=.ty "int") rfl B.int_ DG rfl) AB))) (FJ (OG (AN BE rfl B.isinstance AZ (AA (pv 0) (AA (CN (v:=.ty "bool") rfl B.bool_ ML rfl) AB)))))))),?_⟩
 obtain⟨t1,a1,a2⟩:=TN (K:=K) td;obtain⟨t2,b1,b2⟩:=Ui (K:=K) td;refine⟨_,rfl,_,t1,"int",_,rfl,a1,a2,_,rfl,CZ (λc=>?_) (λc=>?_)⟩
 ·refine⟨_,rfl,_,t2,"bool",_,rfl,b1,b2,_,rfl,?_⟩
  have e:Eh d=!Rg d:=by cases d<;>first|rfl|cases c
  rw[<-e];exact q
 ·have e:Eh d=false:=by cases d<;>first|rfl|(exact absurd rfl c)
  rw[e]at q;exact q
def F1:Sp:=λvs H Q _=>∃(v:V) (d:PyData),vs=[v]/\Td H v d/\Short d/\∀H',AG H H'->Q (.bl (TR d)) H'
theorem Jd (D:Df K mg "is_letters" s_is_letters)(B:B6 mg):BO P w K mg base "is_letters" (k+1) ["thing"] F1:=by
 refine D.has Hg (λ_ _ _ _ _ _ us hl=>match us,hl with|[_],_=>rfl) (λvs H Q E h=>by obtain⟨x,d,rfl,_⟩:=h;rfl) (λf cdv A outer s H vs Q E hr h=>?_)
 obtain⟨v,d,rfl,td,sh,q⟩:=h;obtain⟨u2,h_LETTERS,r_LETTERS⟩:=B.letters;refine⟨_,(AI (AS (FK (AN BE rfl B.isinstance AZ (AA (pv 0) (AA (CN (v:=.ty "str") rfl B.str_ SD rfl) AB))) (FJ (AN (DZ rfl) rfl B.all GS (AA (BI rfl (Sw (pv 0)) (NL:=["sign"]) (ix:=[]) (J1 (AJ s_is_letters) E1) (λcl C s₃ H₃ fp pins=>⟨(AW (i:=0) (show List.Nodup (["sign"]:List Str)from by decide+kernel) rfl (by first|exact Or.inl rfl|exact Or.inr rfl)),A3,(Ca NF (pv 0) (A0 (v:=.str "abcdefghijklmnopqrstuvwxyz") rfl h_LETTERS r_LETTERS) (by with_unfolding_all rfl))⟩)) AB)))))),?_⟩
 obtain⟨t1,a1,a2⟩:=TM (K:=K) td;refine⟨_,rfl,_,t1,"str",_,rfl,a1,a2,_,rfl,CZ (λc=>?_) (λc=>?_)⟩
 rotate_left
 ·have e:TR d=false:=by cases d<;>first|rfl|(exact absurd rfl c)
  have:=q H (AG.refl H);rw[e]at this;exact this
 obtain⟨z,rfl,rfl⟩:=HS td c;obtain⟨zl,zc⟩:=sh z rfl;have zs:z.cps.size<=900:=zl;refine⟨_,rfl,_,rfl,λa1 ha1=>?_⟩
 refine PU (by omega) (λi ys HX=>HX a1=some (.lst ys)/\AG H HX/\ys=((z.cps.toList.take i).map Lu).map V.bl)
  (λi ys HX h=>⟨h.1,by rw[h.2.2,List.length_map,List.length_map,List.length_take];exact Nat.min_le_left _ _⟩) ⟨AD,(AG.refl H).new ha1,rfl⟩ ?_ ?_
 rotate_left
 ·rintro i ch ys HX hc ⟨g1,g2,rfl⟩
  have hc':z.cps.toList[i]?=some ch:=by rw[<-Array.getElem?_toList]at hc;exact hc
  refine⟨rfl,_,rfl,_,_,rfl,rfl,?_⟩
  rw[TQ (zc ch (List.mem_of_getElem? hc'))];refine⟨g1,AD,g2.write ha1,?_⟩
  rw[List.take_succ,hc',List.map_append,List.map_append];rfl
 rintro ys H1 ⟨g1,s1,rfl⟩;refine⟨a1,_,rfl,Ah.of g1,?_⟩
 have e:(((z.cps.toList.take z.cps.size).map Lu).all id)=TR (.str z):=by
  show _=z.cps.toList.all Lu;rw[<-Array.length_toList,List.take_length,List.all_map];rfl
 rw[e];exact q _ s1
def HU:Sp:=λvs H Q _=>∃(v:V) (d:PyData),vs=[v]/\Td H v d/\Short d/\∀H',AG H H'->Q (.bl (TU d)) H'
theorem K4 (D:Df K mg "is_labels" s_is_labels)(B:B6 mg)(G_is_letters:BO P w K mg base "is_letters" k ["thing"] F1):BO P w K mg base "is_labels" (k+1) ["thing"] HU:=by
 refine D.has JH (λ_ _ _ _ _ _ us hl=>match us,hl with|[_],_=>rfl) (λvs H Q E h=>by obtain⟨x,d,rfl,_⟩:=h;rfl) (λf cdv A outer s H vs Q E hr h=>?_)
 obtain⟨v,d,rfl,td,sh,q⟩:=h;obtain⟨u1,h_MOST_PLACES,r_MOST_PLACES⟩:=B.most;refine⟨_,(AI (AS (FK (AH G_is_letters hr rfl (AA (pv 0) AB)) (FJ (OO OM OM AF (AN Bb rfl B.len A6 (AA (pv 0) AB)) (A0 (v:=.int 60) rfl h_MOST_PLACES r_MOST_PLACES)))))),?_⟩
 refine⟨_,rfl,v,d,rfl,td,sh,λH1 s1=>⟨_,rfl,CZ (λc=>?_) (λc=>?_)⟩⟩
 rotate_left
 ·have e:TU d=false:=by
   cases d with
   |str z=>
    have c':z.cps.toList.all Lu=false:=Bool.eq_false_iff.mpr c;show(z.cps.toList.all Lu&&_)=false;rw[c',Bool.false_and]
   |_=>rfl
  have:=q H1 s1;rw[e]at this;exact this
 have hs:Jc d=true:=by cases d<;>first|rfl|cases c
 obtain⟨z,rfl,rfl⟩:=HS td hs;obtain⟨zl,zc⟩:=sh z rfl;have q1:=q H1 s1;have c':z.cps.toList.all Lu=true:=c;have e:TU (.str z)=(decide (1<=z.length)&&decide (z.length<=60)):=by show(z.cps.toList.all Lu&&_)=_;rw[c',Bool.true_and]
 rw[e]at q1;refine⟨_,rfl,_,rfl,Nat.le_of_lt (AK (by omega)),_,_,rfl,rfl,_,rfl,?_⟩
 have d1:decide ((1:Int)<=(z.length:Int))=decide (1<=z.length):=by rw[Bool.eq_iff_iff,decide_eq_true_eq,decide_eq_true_eq];omega
 have d2:decide ((z.length:Int)<=60)=decide (z.length<=60):=by rw[Bool.eq_iff_iff,decide_eq_true_eq,decide_eq_true_eq];omega
 refine CZ (λx=>?_) (λx=>?_)
 ·have x':decide (1<=z.length)=true:=by rw[<-d1];exact x
  rw[x',Bool.true_and,<-d2]at q1;exact⟨_,_,rfl,rfl,q1⟩
 ·have x':decide (1<=z.length)=false:=by rw[<-d1];exact Bool.eq_false_iff.mpr x
  rw[x',Bool.false_and]at q1;exact q1
def My:Sp:=λvs H Q _=>∃(v:V) (d:PyData) (m:Nat),vs=[v,.int (m:Int)]/\Td H v d/\1<=m/\m<=60/\∀(b:Bool) (H':Hp),AG H H'->(b=true↔Q7 d m)->Q (.bl b) H'
theorem P0 (D:Df K mg "is_ups" s_is_ups)(B:B6 mg)(G1:BO P w K mg base "is_whole" k ["thing"] HM)(G2:BO P w K mg base "is_whole" k ["thing"] Ie)(G_all_above:BO P w K mg base "all_above" k ["ups","place"] Lo):BO P w K mg base "is_ups" (k+1) ["thing","many"] My:=by
 refine D.has C0 (λ_ _ _ _ _ _ us hl=>match us,hl with|[_,_],_=>rfl) (λvs H Q E h=>by obtain⟨x,d,m,rfl,_⟩:=h;rfl) (λf cdv A outer s H vs Q E hr h=>?_)
 obtain⟨v,d,m,rfl,td,m1,m60,q⟩:=h;have no:∀{b:Bool},b=false->¬Q7 d m->(b=true↔Q7 d m):=λ{b} e n=>by rw[e];exact⟨(λz=>by cases z),λz=>absurd z n⟩
 by_cases hi:∃us:List Int,d=.tuple (us.map .int)/\us.length=m
 ·obtain⟨us,rfl,rfl⟩:=hi
  obtain⟨u,xs,ds,rfl,ed,hu,tds⟩:=HR td rfl;obtain rfl:us.map PyData.int=ds:=by injection ed
  obtain⟨us',e1,rfl⟩:=Cj tds (λd hd=>by obtain⟨i,_,rfl⟩:=List.mem_map.mp hd;rfl)
  have inj:∀l l':List Int,l.map PyData.int=l'.map PyData.int->l=l':=λl l' e=>(List.map_inj_right (λa b h=>by injection h)).mp e
  obtain rfl:us=us':=inj _ _ e1;have l1:=m1;have l60:=m60
  have q:∀(b:Bool) (H':Hp),AG H H'->(b=true↔R.BV us)->Q (.bl b) H':=λb H' s g=>q b H' s (g.trans ⟨λg=>⟨us,rfl,rfl,g⟩,λ⟨us2,e,_,g⟩=>by
   have:us=us2:=inj _ _ (by injection e)
   rw[this];exact g⟩)
  have G_is_whole:=G1;refine⟨_,(AE (A9 (PW.pt (GO (DP (Ck (AN BE rfl B.isinstance AZ (AA (pv 0) (AA (CN (v:=.ty "tuple") rfl B.tuple_ CU rfl) AB))))) (FI (Aa Cr (AN AY rfl B.len A6 (AA (pv 0) AB)) (pv 1) (Ae _)))))
 (AI (AS CM))
 Ad)
 (AE (A9 (PW.pt (GO (DP (Ck (AN (DZ rfl) rfl B.all GS (AA (BI rfl (LD (pv 0)) (NL:=["up"]) (ix:=[]) (J1 (AJ s_is_ups) Ge) (λcl C s₃ H₃ fp pins=>⟨(AW (i:=0) (show List.Nodup (["up"]:List Str)from by decide+kernel) rfl (by first|exact Or.inl rfl|exact Or.inr rfl)),A3,(AH G_is_whole hr rfl (AA (pv 0) AB))⟩)) AB)))) (FI (Aa Cr (AU Aj (pv 0) AF (λ_ _=>rfl)) (Cq Bz AF) (Ae _)))))
 (AI (AS CM))
 Ad)
 (AE (Bs PassesOwn.never rfl (Cp rfl B.range (AA AF (AA (pv 1) AB))) (AW (i:=2) C0.nd rfl (by first|exact Or.inl rfl|exact Or.inr rfl))
 (AE (AM (i:=3) C0.nd rfl (by first|exact Or.inl rfl|exact Or.inr rfl) (AR DR (pv 2) AF))
 (AI (A9 (PW.pt (OF (Aa Cr (AU Aj (pv 0) (pv 2) (λ_ _=>rfl)) (pv 3) (Ae _)) (L8 (Aa Es (AU Aj (pv 0) (pv 2) (λ_ _=>rfl)) (AH G_all_above hr rfl (AA (pv 0) (AA (pv 3) AB))) (by with_unfolding_all rfl)))))
 (AI (AS CM))
 Ad))))
 (AI (AS CM))))),?_⟩
  refine⟨_,rfl,_,_,_,true,rfl,.tup hu,J3 _ _,_,rfl,DN ?_⟩
  refine⟨_,rfl,u,_,rfl,.inr (BM.of hu),_,rfl,rfl,_,rfl,R.TB (by rw[List.length_map];simp) ?_⟩
  refine⟨_,rfl,u,rfl,⟨_,BM.of hu⟩,λa1 ha1'=>?_⟩
  refine IZ (K:=K) (a:=u) (xs:=us.map V.int) (by rw[List.length_map];omega) (λi ys HX=>HX a1=some (.lst ys)/\AG H HX/\ys=(List.replicate i true).map V.bl)
   (λi ys HX h=>BM.of (h.2.1 _ _ hu)) (λi ys HX h=>⟨h.1,by rw[h.2.2,List.length_map,List.length_replicate];exact Nat.le_refl _⟩) ⟨AD,(AG.refl H).new ha1',rfl⟩ ?_ ?_
  rotate_left
  ·rintro i x ys HX hx ⟨g1,g2,rfl⟩
   obtain⟨n,hn,rfl⟩:=List.mem_map.mp (List.mem_of_getElem? hx);exact⟨rfl,_,rfl,n,rfl,g1,AD,g2.write ha1',Eg i⟩
  rintro ys H2 ⟨g1,s2,rfl⟩;refine⟨a1,_,rfl,Ah.of g1,_,rfl,?_⟩
  rw[Fj];refine DN ?_
  have hu2:=s2 _ _ hu;refine⟨_,rfl,u,_,_,_,rfl,rfl,BM.of hu2,GD (by decide) (by omega),_,rfl,rfl,_,rfl,?_⟩
  by_cases r0:us.getD 0 0=-1
  ·refine R.TB (by show(!decide (V.int (us.getD 0 0)=V.int (-1)))=false;rw[r0];simp) ?_
   refine⟨_,rfl,_,_,rfl,⟨by decide,by decide,by omega,by omega⟩,?_⟩
   have en:(((us.length:Nat):Int) - 1).toNat=us.length - 1:=by omega
   rw[en];refine Bm (lo:=1) (n:=us.length - 1) (λi σ H'=>∃o2 o3:Option V,σ=[some (.ref u),some (.int (us.length:Int)),o2,o3]/\AG H2 H'/\R.BV (us.take (1+i))) ⟨none,none,rfl,AG.refl H2,?_⟩ ?_ ?_
   ·have:us.take (1+0)=[-1]:=by
     cases us with
     |nil=>simp at l1
     |cons x r=>rw[show x=-1 from r0];simp
    rw[this];exact R.BV.one
   ·rintro i σ H' hi ⟨o2,o3,rfl,sX,g⟩
    have huX:=sX _ _ hu2;have pl:1+i < us.length:=by omega
    have tk:(us.take (1+i)).length=1+i:=by rw[List.length_take];omega
    have ex:us=us.take (1+i)++us.getD (1+i) 0::us.drop (1+i+1):=by
     conv=>lhs;rw[<-List.take_append_drop (1+i) us]
     rw[List.drop_eq_getElem_cons pl,List.getD_eq_getElem?_getD,List.getElem?_eq_getElem pl];rfl
    have nx:us.take (1+(i+1))=us.take (1+i)++[us.getD (1+i) 0]:=by
     rw[show 1+(i+1)=(1+i)+1 by omega,List.take_succ,List.getElem?_eq_getElem pl,List.getD_eq_getElem?_getD,List.getElem?_eq_getElem pl];rfl
    have iff:=R.Qx (v:=us.getD (1+i) 0) g (by omega)
    rw[tk]at iff;have at1:=GD (us:=us) (i:=1+(i:Int)) (by omega) (by omega)
    rw[show(1+(i:Int)).toNat=1+i by omega]at at1
    refine⟨_,rfl,_,_,rfl,rfl,?_⟩
    refine⟨_,rfl,_,rfl,u,_,_,_,rfl,rfl,BM.of huX,at1,_,rfl,rfl,_,rfl,?_⟩
    by_cases c1:us.getD (1+i) 0=1+(i:Int) - 1
    ·refine R.TB (by rw[decide_eq_true (by rw[c1])];rfl) ?_
     refine DN ?_
     refine⟨_,_,rfl,sX,?_⟩
     rw[nx];exact iff.mp (.inl (by omega))
    ·refine R.Dq (by rw[decide_eq_false (λe=>c1 (by injection e))];rfl) ?_
     refine⟨_,rfl,_,rfl,u,_,_,_,rfl,rfl,BM.of huX,at1,_,rfl,_,rfl,u,us.take (1+i),us.drop (1+i),List.replicate (us.take (1+i)).length 97,1+(i:Int) - 1,rfl,by rw[List.take_append_drop];exact huX,R.Pm g (by omega),by omega,by omega,λr H3 s3 hr3=>?_⟩
     refine⟨r,_,rfl,.inl (Ah.of hr3),rfl,NT _,_,rfl,?_⟩
     rw[R.Qy,show(1+(i:Int) - 1).toNat=1+i - 1 by omega]
     by_cases c2:us.getD (1+i) 0∈JW (us.take (1+i)) (1+i - 1)
     ·rw[decide_eq_true c2]
      refine DN ?_
      refine⟨_,_,rfl,sX.trans s3,?_⟩
      rw[nx];exact iff.mp (.inr c2)
     ·rw[decide_eq_false c2]
      refine Ir ?_
      refine q false _ ((s2.trans sX).trans s3) ⟨(λe=>by cases e),λgg=>?_⟩
      rw[ex]at gg
      rcases iff.mpr (R.TC g gg)with z|z
      ·exact absurd (by omega) c1
      ·exact absurd z c2
   ·rintro σ H' ⟨o2,o3,rfl,sX,g⟩
    have:us.take (1+(us.length - 1))=us:=List.take_of_length_le (by omega)
    rw[this]at g;exact q true _ (s2.trans sX) ⟨λ_=>g,λ_=>rfl⟩
  ·refine R.Dq (by show(!decide (V.int (us.getD 0 0)=V.int (-1)))=true;rw[decide_eq_false (λe=>r0 (by injection e))];rfl) ?_
   exact q false _ s2 ⟨(λe=>by cases e),λg=>absurd g.root r0⟩
 ·have nu:¬Q7 d m:=λ⟨us,e,l,_⟩=>hi ⟨us,e,l⟩
  have G_is_whole:=G2;refine⟨_,(AE (A9 (PW.pt (GO (DP (Ck (AN BE rfl B.isinstance AZ (AA (pv 0) (AA (CN (v:=.ty "tuple") rfl B.tuple_ CU rfl) AB))))) (FI (Aa Cr (AN AY rfl B.len A6 (AA (pv 0) AB)) (pv 1) (Ae _)))))
 (AI (AS CM))
 Ad)
 (AE (A9 (PW.pt (GO (DP (Ck (AN (DZ rfl) rfl B.all GS (AA (BI rfl (LD (pv 0)) (NL:=["up"]) (ix:=[]) (J1 (AJ s_is_ups) Ge) (λcl C s₃ H₃ fp pins=>⟨(AW (i:=0) (show List.Nodup (["up"]:List Str)from by decide+kernel) rfl (by first|exact Or.inl rfl|exact Or.inr rfl)),A3,(AH G_is_whole hr rfl (AA (pv 0) AB))⟩)) AB)))) (FI (Aa Cr (AU Aj (pv 0) AF (λ_ _=>rfl)) (Cq Bz AF) (Ae _)))))
 (AI (AS CM))
 Ad)
 (AE (Bs PassesOwn.never rfl (Cp rfl B.range (AA AF (AA (pv 1) AB))) (AW (i:=2) C0.nd rfl (by first|exact Or.inl rfl|exact Or.inr rfl))
 (AE (AM (i:=3) C0.nd rfl (by first|exact Or.inl rfl|exact Or.inr rfl) (AR DR (pv 2) AF))
 (AI (A9 (PW.pt (OF (Aa Cr (AU Aj (pv 0) (pv 2) (λ_ _=>rfl)) (pv 3) (Ae _)) (L8 (Aa Es (AU Aj (pv 0) (pv 2) (λ_ _=>rfl)) (AH G_all_above hr rfl (AA (pv 0) (AA (pv 3) AB))) (by with_unfolding_all rfl)))))
 (AI (AS CM))
 Ad))))
 (AI (AS CM))))),?_⟩
  obtain⟨t1,a1,a2⟩:=Pz (K:=K) td;refine⟨_,rfl,_,t1,"tuple",_,rfl,a1,a2,_,rfl,?_⟩
  by_cases ct:Jb d=true
  rotate_left
  ·refine K1 (by rw[Bool.eq_false_iff.mpr ct];rfl) ?_
   exact q false H (AG.refl H) (no rfl nu)
  refine Dq (by rw[ct];rfl) ?_
  obtain⟨u,xs,ds,rfl,rfl,hu,tds⟩:=HR td ct;have xl:=tds.len;refine⟨_,rfl,u,_,rfl,.inr (BM.of hu),_,rfl,rfl,_,rfl,?_⟩
  by_cases cl:xs.length=m
  rotate_left
  ·refine K1 (by simp;omega) ?_
   exact q false H (AG.refl H) (no rfl nu)
  refine Dq (by rw[cl];simp) ?_
  refine⟨_,rfl,u,rfl,⟨_,BM.of hu⟩,λa1 ha1'=>?_⟩
  refine L2.IZ (K:=K) (a:=u) (xs:=xs) (by omega) (λi ys HX=>HX a1=some (.lst ys)/\AG H HX/\ys=((ds.take i).map Eh).map V.bl)
   (λi ys HX h=>BM.of (h.2.1 _ _ hu)) (λi ys HX h=>⟨h.1,by rw[h.2.2,List.length_map,List.length_map,List.length_take];exact Nat.min_le_left _ _⟩) ⟨AD,(AG.refl H).new ha1',rfl⟩ ?_ ?_
  rotate_left
  ·rintro i x ys HX hx ⟨g1,g2,rfl⟩
   obtain⟨dx,ex,tx⟩:=tds.get hx;refine⟨rfl,_,rfl,x,dx,rfl,tx.same g2,g1,AD,g2.write ha1',?_⟩
   rw[List.take_succ,ex,List.map_append,List.map_append];rfl
  rintro ys H2 ⟨g1,s2,rfl⟩;rw[xl,List.take_length]at g1;refine⟨a1,_,rfl,Ah.of g1,_,rfl,?_⟩
  have ea:((ds.map Eh).all id)=false:=by
   refine Bool.eq_false_iff.mpr λz=>hi ?_
   have al:∀d∈ds,Eh d=true:=λd hd=>(Mx _).mp z _ (List.mem_map.mpr ⟨d,hd,rfl⟩)
   obtain⟨us,e1,e2⟩:=Cj tds al;exact⟨us,by rw[e1],by rw[<-cl,e2,List.length_map]⟩
  rw[ea];refine Ir ?_
  exact q false H2 s2 (no rfl nu)
def Mz:Sp:=λvs H Q _=>∃(v:V) (d:PyData),vs=[v]/\Td H v d/\(∀x y,d=.tuple [x,y]->Short y)/\∀(b:Bool) (H':Hp),AG H H'->(b=true↔Fn d)->Q (.bl b) H'
theorem P4 (D:Df K mg "is_tree" s_is_tree)(B:B6 mg)(G_is_labels:BO P w K mg base "is_labels" k ["thing"] HU)(G_is_ups:BO P w K mg base "is_ups" k ["thing","many"] My):BO P w K mg base "is_tree" (k+1) ["thing"] Mz:=by
 refine D.has LW (λ_ _ _ _ _ _ us hl=>match us,hl with|[_],_=>rfl) (λvs H Q E h=>by obtain⟨x,d,rfl,_⟩:=h;rfl) (λf cdv A outer s H vs Q E hr h=>?_)
 obtain⟨v,d,rfl,td,sh,q⟩:=h;refine⟨_,(AE (A9 (PW.pt (GO (DP (Ck (AN BE rfl B.isinstance AZ (AA (pv 0) (AA (CN (v:=.ty "tuple") rfl B.tuple_ CU rfl) AB))))) (FI (Aa Cr (AN AY rfl B.len A6 (AA (pv 0) AB)) AF (Ae _)))))
 (AI (AS CM))
 Ad)
 (AI (AS (FK (AH G_is_labels hr rfl (AA (AU Aj (pv 0) AF (λ_ _=>rfl)) AB)) (FJ (AH G_is_ups hr rfl (AA (AU Aj (pv 0) AF (λ_ _=>rfl)) (AA (AN Bb rfl B.len A6 (AA (AU Aj (pv 0) AF (λ_ _=>rfl)) AB)) AB)))))))),?_⟩
 have no:¬Fn d->(false=true↔Fn d):=λn=>⟨(λz=>by cases z),λz=>absurd z n⟩
 obtain⟨t1,a1,a2⟩:=Pz (K:=K) td;refine⟨_,rfl,_,t1,"tuple",_,rfl,a1,a2,_,rfl,?_⟩
 by_cases ct:Jb d=true
 rotate_left
 ·refine K1 (by rw[Bool.eq_false_iff.mpr ct];rfl) ?_
  exact q false H (AG.refl H) (no λ⟨us,z,e,_⟩=>ct (by rw[e];rfl))
 refine Dq (by rw[ct];rfl) ?_
 obtain⟨a,xs,ds,rfl,rfl,ha,tds⟩:=HR td ct;have xl:=tds.len;refine⟨_,rfl,a,_,rfl,.inr (BM.of ha),rfl,_,rfl,?_⟩
 by_cases cl:xs.length=2
 rotate_left
 ·refine K1 (by simp;omega) ?_
  exact q false H (AG.refl H) (no λ⟨us,z,e,_⟩=>cl (by rw[xl];injection e with e;rw[e];rfl))
 refine Dq (by rw[cl];simp) ?_
 obtain⟨x,y,rfl⟩:∃x y,xs=[x,y]:=by
  match xs,cl with
  |[x,y],_=>exact⟨x,y,rfl⟩
 cases tds with
 |cons tx t2=>
  rename_i dx ds2
  cases t2 with
  |cons ty t3=>
   rename_i dy ds3
   cases t3;have shy:=sh dx dy rfl;refine⟨_,rfl,a,_,_,_,rfl,rfl,BM.of ha,rfl,y,dy,rfl,ty,shy,λH1 s1=>⟨_,rfl,CZ (λc=>?_) (λc=>?_)⟩⟩
   rotate_left
   ·refine q false H1 s1 (no λ⟨us,z,e,l1,l2,l3,lw,g⟩=>c ?_)
    have e2:dy=.str z:=by injection e with e;injection e with _ e;injection e
    rw[e2];show(z.cps.toList.all Lu&&(decide (1<=z.length)&&decide (z.length<=60)))=true;rw[decide_eq_true l2,decide_eq_true l3,List.all_eq_true.mpr λc hc=>Mw.mpr (lw c hc)];rfl
   have hs:Jc dy=true:=by cases dy<;>first|rfl|cases c
   obtain⟨z,rfl,rfl⟩:=HS ty hs;have c':(z.cps.toList.all Lu&&(decide (1<=z.length)&&decide (z.length<=60)))=true:=c;rw[Bool.and_eq_true,Bool.and_eq_true,decide_eq_true_eq,decide_eq_true_eq]at c';obtain⟨c1,c2,c3⟩:=c';have ha1:=s1 _ _ ha;refine⟨_,rfl,a,_,_,_,rfl,rfl,BM.of ha1,rfl,_,rfl,a,_,_,_,rfl,rfl,BM.of ha1,rfl,z,rfl,Nat.le_of_lt (AK (by omega)),x,dx,z.length,rfl,tx.same s1,c2,c3,λb H2 s2 hb=>?_⟩
   refine q b H2 (s1.trans s2) (hb.trans ⟨λ⟨us,e,l,g⟩=>⟨us,z,by rw[e],l,c2,c3,λc hc=>Mw.mp (List.all_eq_true.mp c1 c hc),g⟩,λ⟨us,z',e,l1,_,_,_,g⟩=>?_⟩)
   injection e with e
   injection e with ea eb
   injection eb with eb _
   injection eb with eb
   exact⟨us,ea,by rw[l1,eb],g⟩
end
end S58
namespace S58
open PySem L2 W7
def OD (d:PyData):Prop:=∀x y,d=.tuple [x,y]->Short y
def Tn (cs:List Nat)(i:Nat):Bool:=decide (cs.getD i 0 < cs.getD (i+1) 0)
def F2 (cs:List Nat):Bool:=(List.range (cs.length - 1)).all (Tn cs)
def To (us:List Int)(lab:List Nat)(p:Nat):List Nat:=(Hb us (p:Int) us.length).map λj=>lab.getD j 0
def ER (d:PyData):Prop:=∃(us:List Int) (z:Str),d=.tuple [.tuple (us.map .int),.str z]/\us.length=z.length/\1<=z.length/\z.length<=60/\(∀c∈z.cps.toList,Lw c)/\R.BV us/\∀p,p < us.length->F2 (To us z.cps.toList p)=true
theorem Fo {H:Hp}{v:V}{d:PyData}(t:Td H v d)(r:Fn d):∃(a u:Addr) (us:List Int) (z:Str),v=.ref a/\d=.tuple [.tuple (us.map .int),.str z]/\H a=some (.tup [.ref u,.str z])/\H u=some (.tup (us.map V.int))/\us.length=z.length/\1<=z.length/\z.length<=60/\(∀c∈z.cps.toList,Lw c)/\R.BV us:=by
 obtain⟨us,z,rfl,e1,l1,l6,lw,g⟩:=r;cases t with
 |tup ha t1=>
  cases t1 with
  |cons tx t2=>
   cases t2 with
   |cons ty t3=>
    cases t3;cases ty;cases tx with
    |tup hu tu=>
     obtain⟨us',f1,rfl⟩:=Cj tu (λd hd=>by obtain⟨x,_,rfl⟩:=List.mem_map.mp hd;rfl)
     obtain rfl:us=us':=(List.map_inj_right (λa b h=>by injection h)).mp f1
     exact⟨_,_,us,z,rfl,rfl,ha,hu,e1,l1,l6,lw,g⟩
theorem DJ {us us':List Int}{z z':Str}(h:PyData.tuple [.tuple (us.map .int),.str z]=.tuple [.tuple (us'.map .int),.str z']):us=us'/\z=z':=by
 injection h with h
 injection h with h1 h2
 injection h2 with h2 _
 injection h1 with h1
 injection h2 with h2
 exact⟨(List.map_inj_right (λa b h=>by injection h)).mp h1,h2⟩
section
variable {P:Program}{w:World}{K:PySem.W.Frag}{mg:Str->Option Value}{base:Heap}{k:Nat}
def Ha:Sp:=λvs H Q _=>∃(l:Addr) (cs:List Nat),vs=[.ref l]/\H l=some (.lst (BW cs))/\cs.length<=60/\∀H',AG H H'->Q (.bl (F2 cs)) H'
theorem K5 (D:Df K mg "is_rising" s_is_rising)(B:B6 mg):BO P w K mg base "is_rising" (k+1) ["things"] Ha:=by
 refine D.has JG (λ_ _ _ _ _ _ us hl=>match us,hl with|[_],_=>rfl) (λvs H Q E h=>by obtain⟨l,cs,rfl,_⟩:=h;rfl) (λf cdv A outer s H vs Q E hr h=>?_)
 obtain⟨l,cs,rfl,hl,c60,q⟩:=h;refine⟨_,(AI (AS (AN (DZ rfl) rfl B.all GS (AA (BI rfl (Cp rfl B.range (AA AF (AA (AN AY rfl B.len A6 (AA (pv 0) AB)) AB))) (NL:=["k"]) (ix:=[0]) (J1 (AJ s_is_rising) Fx) (λcl C s₃ H₃ fp pins=>⟨(AW (i:=0) (show List.Nodup (["k","things"]:List Str)from by decide+kernel) rfl (by first|exact Or.inl rfl|exact Or.inr rfl)),A3,(Ca ND (AU (GU K) (pv 1) (AR DR (pv 0) AF) (λ_ _=>rfl)) (AU (GU K) (pv 1) (pv 0) (λ_ _=>rfl)) (Ae _))⟩)) AB)))),?_⟩
 have ol:(BW cs).length=cs.length:=by unfold BW;exact List.length_map _
 refine⟨_,rfl,l,_,rfl,.inl (Ah.of hl),_,_,rfl,⟨by decide,by decide,by omega,by omega⟩,λacc hacc=>?_⟩
 have eN:((((BW cs).length:Nat):Int) - 1).toNat=cs.length - 1:=by omega
 refine DB ((((BW cs).length:Nat):Int) - 1).toNat (by omega) (λi ys HX=>HX acc=some (.lst ys)/\AG H HX/\ys=((List.range i).map (Tn cs)).map V.bl)
  (λi ys HX h=>⟨h.1,by rw[h.2.2,List.length_map,List.length_map,List.length_range];exact Nat.le_refl _⟩) ⟨AD,(AG.refl H).new hacc,rfl⟩ ?_ ?_
 rotate_left
 ·rintro i ys HX hi ⟨g1,g2,rfl⟩
  refine⟨hi,?_⟩
  rw[eN]at hi;rintro x HX' ⟨rfl,rfl⟩;have a1:Du (BW cs) (1+(i:Int) - 1)=some (.str ⟨#[cs.getD i 0]⟩):=by rw[show(1+(i:Int) - 1)=(i:Int) by omega];exact Pn (by omega)
  have a2:Du (BW cs) (1+(i:Int))=some (.str ⟨#[cs.getD (i+1) 0]⟩):=by rw[show(1+(i:Int))=((i+1:Nat):Int) by omega];exact Pn (by omega)
  refine⟨rfl,_,rfl,_,rfl,_,_,rfl,rfl,l,_,_,_,rfl,rfl,Ah.of (g2 _ _ hl),a1,_,rfl,_,rfl,l,_,_,_,rfl,rfl,Ah.of (g2 _ _ hl),a2,_,_,rfl,rfl,g1,AD,g2.write hacc,?_⟩
  have e:decide ((⟨#[cs.getD i 0]⟩:Str).cps.toList < (⟨#[cs.getD (i+1) 0]⟩:Str).cps.toList)=Tn cs i:=by
   unfold Tn;rw[Bool.eq_iff_iff,decide_eq_true_eq,decide_eq_true_eq];show[cs.getD i 0] < [cs.getD (i+1) 0]↔_;rw[List.cons_lt_cons_iff];simp
  rw[e,List.range_succ,List.map_append,List.map_append];rfl
 rintro ys H1 ⟨g1,s1,rfl⟩;refine⟨Nat.le_refl _,acc,_,rfl,Ah.of g1,?_⟩
 have e:(((List.range ((((BW cs).length:Nat):Int) - 1).toNat).map (Tn cs)).all id)=F2 cs:=by
  unfold F2;rw[eN,List.all_map];rfl
 rw[e];exact q _ s1
def P5:Sp:=λvs H Q _=>∃(v:V) (d:PyData),vs=[v]/\Td H v d/\OD d/\∀(b:Bool) (H':Hp),AG H H'->(b=true↔ER d)->Q (.bl b) H'
theorem Q8 (D:Df K mg "is_trie" s_is_trie)(B:B6 mg)(G_is_tree:BO P w K mg base "is_tree" k ["thing"] Mz)(G_is_rising:BO P w K mg base "is_rising" k ["things"] Ha)(G_letters_beneath:BO P w K mg base "letters_beneath" k ["tree","place"] K0):BO P w K mg base "is_trie" (k+1) ["thing"] P5:=by
 refine D.has LY (λ_ _ _ _ _ _ us hl=>match us,hl with|[_],_=>rfl) (λvs H Q E h=>by obtain⟨v,d,rfl,_⟩:=h;rfl) (λf cdv A outer s H vs Q E hr h=>?_)
 obtain⟨v,d,rfl,td,shy,q⟩:=h;refine⟨_,(AI (AS (FK (AH G_is_tree hr rfl (AA (pv 0) AB)) (FJ (AN (DZ rfl) rfl B.all GS (AA (BI rfl (By rfl B.range (AA (AN Bb rfl B.len A6 (AA (AU Aj (pv 0) AF (λ_ _=>rfl)) AB)) AB)) (NL:=["place"]) (ix:=[0]) (J1 (AJ s_is_trie) IL) (λcl C s₃ H₃ fp pins=>⟨(AW (i:=0) (show List.Nodup (["place","thing"]:List Str)from by decide+kernel) rfl (by first|exact Or.inl rfl|exact Or.inr rfl)),A3,(AH G_is_rising hr rfl (AA (AH G_letters_beneath hr rfl (AA (pv 1) (AA (pv 0) AB))) AB))⟩)) AB)))))),?_⟩
 refine⟨_,rfl,v,d,rfl,td,shy,λb H1 s1 hb=>⟨b,rfl,?_⟩⟩
 by_cases cb:b=true
 rotate_left
 ·refine L2.Dq (Bool.eq_false_iff.mpr cb) ?_
  refine q false H1 s1 ⟨(λz=>by cases z),λ⟨us,z,e,l,l1,l6,lw,g,_⟩=>absurd (hb.mpr ⟨us,z,e,l,l1,l6,lw,g⟩) cb⟩
 refine K1 cb ?_
 obtain⟨t,u,ups,lab,rfl,rfl,ht,hu,e1,l1,l6,lw,g⟩:=Fo td (hb.mp cb);have ll:lab.cps.toList.length=lab.length:=Array.length_toList;have ok:Al ups lab.cps.toList:=⟨by rw[ll];exact e1,g.pos,by omega,g.root,g.up⟩
 have tr:BJ H t ups lab:=⟨u,ht,hu,ok⟩;refine⟨_,rfl,t,_,_,_,rfl,rfl,BM.of (s1 _ _ ht),rfl,lab,rfl,Nat.le_of_lt (AK (by omega)),_,rfl,by omega,by omega,λacc hacc=>?_⟩
 have eN:(((lab.length:Nat):Int)).toNat=ups.length:=by omega
 refine DB (((lab.length:Nat):Int)).toNat (by omega) (λi ys HX=>HX acc=some (.lst ys)/\AG H1 HX/\ys=((List.range i).map λp=>F2 (To ups lab.cps.toList p)).map V.bl)
  (λi ys HX h=>⟨h.1,by rw[h.2.2,List.length_map,List.length_map,List.length_range];exact Nat.le_refl _⟩) ⟨AD,(AG.refl H1).new hacc,rfl⟩ ?_ ?_
 rotate_left
 ·rintro i ys HX hi ⟨g1,g2,rfl⟩
  refine⟨hi,?_⟩
  rintro x HX' ⟨rfl,rfl⟩;refine⟨rfl,_,rfl,_,rfl,t,ups,lab,_,rfl,(tr.same s1).same g2,λr H2 s2 hf2 hr2=>?_⟩
  have e0:(0:Int)+(i:Int)=(i:Int):=Int.zero_add _;rw[e0]at hr2;refine⟨r,_,rfl,hr2,?_,λH3 s3=>?_⟩
  ·rw[List.length_map];have:=Lp ups (i:Int) ups.length;omega
  ·have s23:=s2.trans s3
   refine⟨s23 _ _ g1,AD,(g2.trans s23).write hacc,?_⟩
   rw[List.range_succ,List.map_append,List.map_append];rfl
 rintro ys H2 ⟨g1,s2,rfl⟩;refine⟨Nat.le_refl _,acc,_,rfl,Ah.of g1,?_⟩
 refine q _ _ (s1.trans s2) ?_
 rw[eN,Mx]
 constructor
 ·intro h
  exact⟨ups,lab,rfl,e1,l1,l6,lw,g,λp hp=>h _ (List.mem_map.mpr ⟨p,List.mem_range.mpr hp,rfl⟩)⟩
 ·rintro⟨us',z',e,_,_,_,_,_,h⟩
  obtain⟨rfl,rfl⟩:=DJ e;intro b hb;obtain⟨p,hp,rfl⟩:=List.mem_map.mp hb;exact h p (List.mem_range.mp hp)
end
end S58
namespace S58
open PySem L2 W7 W55
structure Gd (us:List Str):Prop where
 cl:Cl us
 srt:us.Pairwise (λa b=>a.cps.toList < b.cps.toList)
 ne:us≠[]
 le:us.length<=60
 zl:∀z∈us,z.length<=60
 low:∀z∈us,Co z.cps.toList
def BL (H:Hp)(t:Addr)(us:List Str):Prop:=∃u,H t=some (.tup [.ref u,.str (FH us)])/\H u=some (.tup ((Az us).map V.int))
theorem BL.same {H H':Hp}{t:Addr}{us:List Str}(h:BL H t us)(s:AG H H'):BL H' t us:=by
 obtain⟨u,a,b⟩:=h;exact⟨u,s _ _ a,s _ _ b⟩
theorem Gd.nd {us:List Str}(g:Gd us):us.Nodup:=by
 rw[List.nodup_iff_pairwise_ne];exact List.Pairwise.imp (λ{a b} h e=>by rw[e]at h;exact absurd h (List.lt_irrefl _)) g.srt
theorem Gd.ok {us:List Str}(g:Gd us):Al (Az us) (FH us).cps.toList:=by rw[CA];exact E9 g.cl g.srt g.ne g.le
theorem Gd.tree {us:List Str}(g:Gd us){H:Hp}{t:Addr}(h:BL H t us):BJ H t (Az us) (FH us):=by
 obtain⟨u,a,b⟩:=h;exact⟨u,a,b,g.ok⟩
theorem Gd.gr {us:List Str}(g:Gd us):R.BV (Az us):=by
 have ok:=g.ok;refine⟨λk k0 kl=>?_,ok.pos,ok.root,ok.up⟩
 have kl':k < us.length:=by rw[<-W57.EC (us:=us)];exact kl
 rcases W57.road g.cl g.srt g.ne g.le k0 kl' with z|z
 ·exact⟨0,by show(k:Int) - 1=_;rw[z];omega⟩
 ·obtain⟨n,e⟩:=R.Fm ok (k - 1+1) (k - 1) (Nat.lt_succ_self _) (by omega) _ z
  exact⟨n,by rw[<-e];congr 1;omega⟩
theorem Gd.ri {us:List Str}(g:Gd us):Rb (Az us) (FH us).cps.toList:=by
 intro k k' kk k0 kl e;rw[CA];exact W57.rise g.cl g.srt g.ne g.le kk k0 (by rw[<-W57.EC (us:=us)];exact kl) e
theorem Gd.lw {us:List Str}(g:Gd us):∀c∈(FH us).cps.toList,Lw c:=λc hc=>by
 rw[CA]at hc;obtain⟨z,hz,rfl⟩:=List.mem_map.mp hc;have ne:=g.cl.ne z hz
 have l:z.cps.toList.getLastD 0=z.cps.toList.getLast ne:=by
  rw[List.getLastD_eq_getLast?,List.getLast?_eq_some_getLast ne];rfl
 rw[l];exact g.low z hz _ (List.getLast_mem ne)
theorem Gd.JZ {us:List Str}(g:Gd us):Cg (Az us) (FH us) (Az us).length=us:=by
 have ul:=W57.EC (us:=us);apply List.ext_getElem?;intro j;unfold Cg;rw[List.getElem?_map]
 rcases Nat.lt_or_ge j us.length with h|h
 ·rw[List.getElem?_range (by omega),List.getElem?_eq_getElem h]
  show some _=some _
  congr 1
  refine KU ?_
  rw[BQ,CA];exact W57.JZ g.cl g.srt g.ne g.le (j+1) j (Nat.lt_succ_self _) h
 ·rw[List.getElem?_eq_none (by rw[List.length_range];omega),List.getElem?_eq_none h];rfl
section
variable {P:Program}{w:World}{K:PySem.W.Frag}{mg:Str->Option Value}{base:Heap}{k:Nat}
def Uk (H:Hp)(as:List Addr)(xs ys:List V):Prop:=as.length=xs.length/\∀(i:Nat) (a:Addr) (x y:V),as[i]?=some a->xs[i]?=some x->ys[i]?=some y->H a=some (.tup [x,y])
def TV (H0 H:Hp)(r:Addr)(us1 us2 us:List Str):Prop:=∃t l as,H r=some (.tup [.ref t,.ref l])/\BL H t us/\H l=some (.lst (as.map V.ref))/\Uk H as (Gr us1 us) (Gr us2 us)/\H0 l=none
def Fp:Sp:=λvs H Q _=>∃(l t t':Addr) (us us1 us2:List Str),vs=[.ref l,.ref t,.ref t']/\H l=some (.lst (us.map V.str))/\Gd us1/\Gd us2/\BL H t us1/\BL H t' us2/\Gd us/\
 ∀(r:Addr) (H':Hp),AG H H'->TV H H' r us1 us2 us->Q (.ref r) H'
theorem Lx (D:Df K mg "laid_by" s_laid_by)(B:B6 mg)(G_ways_down:BO P w K mg base "ways_down" k ["tree"] FA)(G_places_by:BO P w K mg base "places_by" k ["known_ways","ways"] IT)(G_trie_by:BO P w K mg base "trie_by" k ["ways"] IU):BO P w K mg base "laid_by" (k+1) ["ways","one","other"] Fp:=by
 refine D.has Gf (λ_ _ _ _ _ _ us hl=>match us,hl with|[_,_,_],_=>rfl) (λvs H Q E h=>by obtain⟨l,t,t',us,us1,us2,rfl,_⟩:=h;rfl) (λf cdv A outer s H vs Q E hr h=>?_)
 obtain⟨l,t,t',us,us1,us2,rfl,hl,g1,g2,tt1,tt2,g,q⟩:=h;have le:=g.le;refine⟨_,(AE (AM (i:=3) Gf.nd rfl (by first|exact Or.inl rfl|exact Or.inr rfl) (Pk rfl rfl B.list_ rfl B.zip (AA (AH G_places_by hr rfl (AA (AH G_ways_down hr rfl (AA (pv 1) AB)) (AA (pv 0) AB))) (AA (AH G_places_by hr rfl (AA (AH G_ways_down hr rfl (AA (pv 2) AB)) (AA (pv 0) AB))) AB))))
 (AI (AS (An (AA (AH G_trie_by hr rfl (AA (pv 0) AB)) (AA (pv 3) AB)))))),?_⟩
 refine⟨_,rfl,t,_,_,rfl,g1.tree tt1,λrA HA sA fA hA=>?_⟩
 rw[g1.JZ]at hA;refine⟨_,rfl,rA,l,us1,us,rfl,hA,sA _ _ hl,g1.nd,g1.le,le,λrB HB sB fB hB=>?_⟩
 have s2:=sA.trans sB;refine⟨_,rfl,t',_,_,rfl,g2.tree (tt2.same s2),λrC HC sC fC hC=>?_⟩
 rw[g2.JZ]at hC;have s3:=s2.trans sC;refine⟨_,rfl,rC,l,us2,us,rfl,hC,s3 _ _ hl,g2.nd,g2.le,le,λrD HD sD fD hD=>?_⟩
 have s4:=s3.trans sD;have hB4:=sD _ _ (sC _ _ hB);have il:∀vs:List Str,(Gr vs us).length=us.length:=λvs=>by rw[Gr,List.length_map]
 refine⟨.lst rB,.lst rD,_,_,rfl,.inl hB4,.inl hD,by rw[il,il],by rw[il];omega,λzs HE lz nt zl hl4 hl5=>?_⟩
 have s5:=nt.same;have fl:H lz=none:=(s4.trans s5).free hl5;have s6:AG HE (upd HE lz (.lst (zs.map V.ref))):=(AG.refl HE).new hl5;have h6:upd HE lz (.lst (zs.map V.ref)) lz=some (.lst (zs.map V.ref)):=AD
 have pr:Uk (upd HE lz (.lst (zs.map V.ref))) zs (Gr us1 us) (Gr us2 us):=by
  refine⟨zl,λi a x y e1 e2 e3=>?_⟩
  obtain⟨_,x',y',hx,hy,hz⟩:=nt.2.2 i a e1;rw[e2]at hx;rw[e3]at hy;cases hx;cases hy;exact s6 _ _ hz
 show(λHH=>_) (upd HE lz (.lst (zs.map V.ref)))
 generalize upd HE lz (.lst (zs.map V.ref))=HF at s6 h6 pr;have s7:=(s4.trans s5).trans s6;refine⟨_,rfl,l,us,rfl,s7 _ _ hl,g.nd,le,λz hz=>⟨g.cl.ne z hz,g.zl z hz⟩,λtt u HG sG fG htt hu=>?_⟩
 refine⟨_,rfl,(by show 2<=sizeLine;decide),λr hr'=>?_⟩
 have s8:AG HG (upd HG r (.tup [.ref tt,.ref lz])):=(AG.refl HG).new hr';refine q r _ ((s7.trans sG).trans s8) ⟨tt,lz,zs,AD,⟨u,s8 _ _ htt,s8 _ _ hu⟩,s8 _ _ (sG _ _ h6),⟨pr.1,λi a x y e1 e2 e3=>s8 _ _ (sG _ _ (pr.2 i a x y e1 e2 e3))⟩,fl⟩
theorem Gd.join {us1 us2 us:List Str}{c:Nat}(g1:Gd us1)(g2:Gd us2)(h1:∀z∈us1,z.cps.toList.head?=some c)(h2:∀z∈us2,z.cps.toList.head?=some c)(nd:us.Nodup)(srt:PyProof.Rows.sortedS us=true)(m:∀x,x∈us↔x∈us1\/x∈us2)(le:us.length<=60):Gd us:=by
 have or:∀{p:Str->Prop},(∀x∈us1,p x)->(∀x∈us2,p x)->∀x∈us,p x:=λ{p} a b x hx=>((m x).mp hx).elim (a x) (b x)
 refine⟨⟨or g1.cl.ne g2.cl.ne,or (λz hz l=>(m _).mpr (.inl (g1.cl.fr z hz l))) (λz hz l=>(m _).mpr (.inr (g2.cl.fr z hz l))),c,or h1 h2⟩,strict srt nd,λe=>?_,le,or g1.zl g2.zl,or g1.low g2.low⟩
 obtain⟨x,hx⟩:=List.exists_mem_of_ne_nil _ g1.ne;have:=(m x).mpr (.inl hx);rw[e]at this;cases this
end
end S58
namespace L2
open PySem PySem.Spec PyProof.Rows PySem.W
section
variable {prog:Program}{w:World}{A:Around}{E:Value->Shared->Prop}{s:Shared}
theorem N5 {D:Addr}{es:Array (Int×Value)}{ep:Nat}{t:SetTable}{S:List Str}{Q:Value->Shared->Prop}(hD:setAt D es ep t s.heap)(hS:CK w (AQ w) es t S)(hz:es.size<=4000)
 (h:∀(I:Addr) (fp:List Addr) (St:Nat->Heap->Prop) (vs:List Value) (h1:Heap) (d:Drawn),(∀A':Around,A'.handled=none->Walks prog w A' I fp [I] es.size (λi v=>vs[i]?=some v) St)->St 0 h1->s.heap.objs.size<=I->(∀b∈fp,b < h1.objs.size)->(∀b o,s.heap.get? b=some o->h1.get? b=some o)->vs.Perm (es.toList.map (·.2))->h1.get? I≠none->(∀b∈fp,b=I\/b=D\/s.heap.objs.size<=b)->Q (.ref I) { s with heap:=h1,drawn:=d }):
 wpAny (model prog w) A (pyIter (.ref D)) Q E s:=by
 have hT:s.TypeIs (.ref D) "set":=⟨_,hD,rfl⟩;have Dlt:D < s.heap.objs.size:=Heap.lt_size hD;refine wpAny_pyIter_slot hT F.slot_set_iter (wpAny_call_entry F.slot_set_iter hT Dc ?_ (F.args_set_iter_1 _))
 unfold Builtin.«frozenset.__iter__» Builtin.Frozenset.slot0;refine wpAny_bind (wpAny_bind ?_)
 show wpAny _ _ (pure (Value.ref D,[])) _ _ _;refine wpAny_pure ?_
 show wpAny _ _ (pure D) _ _ _;refine wpAny_pure ?_
 unfold Builtin.Frozenset.sizeOf setEntries;refine wpAny_bind (wpAny_bind (wpAny_bind (wpAny_setState_of hD rfl hS.fit (wpAny_pure (wpAny_pure ?_)))))
 unfold setDrawn;refine wpAny_bind (wpAny_bind (wpAny_setState_of hD rfl hS.fit ?_))
 dsimp only
 refine wpAny_bind (Bu (wpAny_pure ?_))
 have szp:∀(g:Heap) (o:Obj),(g.push o).objs.size=g.objs.size+1:=λg o=>Heap.size_push ..
 by_cases dr:(!w.params.followText "set-order"&&(!t.plain&&decide (es.size > 1)))=true
 ·refine wpAny_ite_true ?_ ?_
  ·exact decide_eq_true dr
  refine wpAny_bind (GB es.size (List.range es.size) _ _ (by simp) λps d hp=>?_)
  have pl:ps.length=es.size:=by have:=hp.length_eq;simpa using this
  unfold newTuple
  refine wpAny_bind (wpAny_newObj_type ?_ (by
   show(ps.map λi:Nat=>rawInt (i:Int)).toArray.size<=sizeLine
   rw[List.size_toArray,List.length_map,sizeLine_eq];omega))
  unfold setEpoch;have hD1:setAt D es ep t (s.heap.push { cls:=.type "tuple",data:=.seq (ps.map λi:Nat=>rawInt (i:Int)).toArray }):=Heap.get?_push_of_some _ hD
  refine wpAny_bind (wpAny_bind (wpAny_setState_of (s:={ s with heap:=s.heap.push { cls:=.type "tuple",data:=.seq (ps.map λi:Nat=>rawInt (i:Int)).toArray },drawn:=d }) hD1 rfl hS.fit (wpAny_pure ?_)))
  dsimp only
  unfold newFields;refine wpAny_bind (wpAny_newObj_type ?_)
  refine wpAny_pure ⟨_,rfl,"set_iterator",_,⟨_,Heap.get?_push_size _ rfl,rfl⟩,A7.lookup,?_⟩
  have TI:s.heap.objs.size≠(s.heap.push { cls:=.type "tuple",data:=.seq (ps.map λi:Nat=>rawInt (i:Int)).toArray }).objs.size:=by rw[szp];omega
  have DI:D≠(s.heap.push { cls:=.type "tuple",data:=.seq (ps.map λi:Nat=>rawInt (i:Int)).toArray }).objs.size:=by rw[szp];exact Nat.ne_of_lt (Nat.lt_succ_of_lt Dlt)
  refine h _ _ _ _ _ d (λA' hA'=>Fv (T:=s.heap.objs.size) hA' DI TI hS.fit hp) ⟨Heap.get?_push_size _ rfl,Heap.get?_push_of_some _ hD1,Heap.get?_push_of_some _ (Heap.get?_push_size _ rfl)⟩ ?_ ?_ (λb o e=>Heap.get?_push_of_some _ (Heap.get?_push_of_some _ e)) ?_ ?_ ?_
  ·rw[szp];omega
  ·intro b hb
   rw[szp,szp];simp only[List.mem_cons,List.not_mem_nil,or_false]at hb
   rcases hb with rfl|rfl|rfl
   ·rw[szp];exact Nat.lt_succ_self _
   ·exact Nat.lt_succ_of_lt (Nat.lt_succ_of_lt Dlt)
   ·exact Nat.lt_succ_of_lt (Nat.lt_succ_self _)
  ·have:=hp.map (λp=>(es.toList.getD p (0,.none)).2)
   have e2:=Dg (λe:Int×Value=>e.2) es.toList (0,.none)
   rw[Array.length_toList]at e2;rw[e2]at this;exact this
  ·rw[Heap.get?_push_size _ rfl];simp
  ·intro b hb
   simp only[List.mem_cons,List.not_mem_nil,or_false]at hb
   rcases hb with rfl|rfl|rfl
   ·exact .inl rfl
   ·exact .inr (.inl rfl)
   ·exact .inr (.inr (Nat.le_refl _))
 ·refine wpAny_ite_false ?_ ?_
  ·exact decide_eq_false dr
  refine wpAny_bind (wpAny_pure ?_)
  unfold setEpoch;refine wpAny_bind (wpAny_bind (wpAny_setState_of hD rfl hS.fit (wpAny_pure ?_)))
  dsimp only
  unfold newFields;refine wpAny_bind (wpAny_newObj_type ?_)
  refine wpAny_pure ⟨_,rfl,"set_iterator",_,⟨_,Heap.get?_push_size _ rfl,rfl⟩,A7.lookup,?_⟩
  have DI:D≠s.heap.objs.size:=Nat.ne_of_lt Dlt
  have fpl:∀b∈[s.heap.objs.size,D],b < (s.heap.push (Cy (rawInt 0) 0 D es.size ep)).objs.size:=λb hb=>by
   rw[szp];simp only[List.mem_cons,List.not_mem_nil,or_false]at hb
   rcases hb with rfl|rfl
   ·exact Nat.lt_succ_self _
   ·exact Nat.lt_succ_of_lt Dlt
  have fpw:∀b∈[s.heap.objs.size,D],b=s.heap.objs.size\/b=D\/s.heap.objs.size<=b:=λb hb=>by
   simp only[List.mem_cons,List.not_mem_nil,or_false]at hb
   rcases hb with rfl|rfl
   ·exact .inl rfl
   ·exact .inr (.inl rfl)
  cases bt:w.params.followText "set-order" with
  |true=>
   refine h _ _ _ _ _ s.drawn (λA' hA'=>GY bt hA' DI hS.fit) ⟨Heap.get?_push_size _ rfl,Heap.get?_push_of_some _ hD⟩ (Nat.le_refl _) fpl (λb o e=>Heap.get?_push_of_some _ e) ((Cw _ es).map _) (by rw[Heap.get?_push_size _ rfl];simp) fpw
  |false=>
   have hl:t.led=true:=by rw[hS.led];unfold AQ;rw[bt];rfl
   have z1:es.size<=1:=by
    rcases hS.pl with z|z
    ·omega
    ·rw[bt,z]at dr
     have:¬es.size > 1:=λc=>dr (by simp[c])
     omega
   refine h _ _ _ _ _ s.drawn (λA' hA'=>IG bt hA' DI hS.fit hl z1) ⟨Heap.get?_push_size _ rfl,Heap.get?_push_of_some _ hD⟩ (Nat.le_refl _) fpl (λb o e=>Heap.get?_push_of_some _ e) (List.Perm.refl _) (by rw[Heap.get?_push_size _ rfl];simp) fpw
theorem Je {D:Addr}{es:Array (Int×Value)}{ep:Nat}{t:SetTable}{S:List Str}{Q:List Value->Shared->Prop}(hD:setAt D es ep t s.heap)(hS:CK w (AQ w) es t S)(hh:A.handled=none)(hz:es.size<=4000)
 (h:∀h' tk d acc,(∀b o,s.heap.get? b=some o->h'.get? b=some o)->s.heap.objs.size<=h'.objs.size->acc.Perm (es.toList.map (·.2))->Q acc { s with heap:=h',toks:=tk,drawn:=d }):
 wpAny (model prog w) A (collect (.ref D)) Q E s:=by
 have Dlt:D < s.heap.objs.size:=Heap.lt_size hD;unfold collect;refine wpAny_bind (wpAny_runValue (codeAny_builtin F.entry_proto_collect ?_))
 rw[Around.under_plainId F.plain_proto_collect _];show wpAny _ A.in1 (newList [] >>= λl=>again (.builtin "list.__iadd__" ⟨[l,.ref D],[]⟩)) _ _ s
 refine wpAny_bind (wpAny_newObj_type ?_)
 refine wpAny_pure ⟨plainId_quiet F.plain_list_iadd _,codeAny_builtin F.entry_list_iadd ?_⟩
 rw[Around.under_plainId F.plain_list_iadd _];show wpAny _ A.in1 (Builtin.List.listExtendWith (.ref s.heap.objs.size) (.ref D) (.ref s.heap.objs.size)) _ _ _;have hS₁:(s.heap.push { cls:=.type "list",data:=.seq ([]:List Value).toArray }).get? s.heap.objs.size=some { cls:=.type "list",data:=.seq #[] 0 }:=Heap.get?_push_size _ rfl
 have hD1:setAt D es ep t (s.heap.push { cls:=.type "list",data:=.seq ([]:List Value).toArray }):=Heap.get?_push_of_some _ hD
 have szp:(s.heap.push { cls:=.type "list",data:=.seq ([]:List Value).toArray }).objs.size=s.heap.objs.size+1:=Heap.size_push ..;have old1:∀b o,s.heap.get? b=some o->(s.heap.push { cls:=.type "list",data:=.seq ([]:List Value).toArray }).get? b=some o:=λb o e=>Heap.get?_push_of_some _ e
 generalize s.heap.push { cls:=.type "list",data:=.seq ([]:List Value).toArray }=g at hS₁ hD1 szp old1;have hT:({ s with heap:=g }:Shared).TypeIs (.ref D) "set":=⟨_,hD1,rfl⟩
 unfold Builtin.List.listExtendWith;refine wpAny_bind (wpAny_typeOf hT ?_)
 rw[if_neg (by
  have:(s.heap.objs.size==D)=false:=by simpa using Nat.ne_of_gt Dlt
  show¬(((s.heap.objs.size==D)||_||_)=true)
  rw[this];decide)]
 refine wpAny_bind (N5 (s:={ s with heap:=g }) hD1 hS hz λI fp St vs h1 d Wk st0 Ige fpl old2 vp hI fpw=>?_)
 have hT2:({ s with heap:=h1,drawn:=d }:Shared).TypeIs (.ref D) "set":=⟨_,old2 _ _ hD1,rfl⟩
 refine wpAny_bind (wpAny_holding (J8 hT2 ?_))
 dsimp only
 have Ige':s.heap.objs.size+1<=I:=by rw[<-szp];exact Ige
 have vl:vs.length=es.size:=by have:=vp.length_eq;simpa using this
 have hS2:=old2 _ _ hS₁
 have nfp:s.heap.objs.size∉fp:=λhm=>by
  rcases fpw _ hm with z|z|z
  ·have z':s.heap.objs.size=I:=z
   rw[<-z']at Ige';exact Nat.not_succ_le_self _ Ige'
  ·have z':s.heap.objs.size=D:=z
   rw[z']at Dlt;exact Nat.lt_irrefl _ Dlt
  ·rw[szp]at z
   have z':s.heap.objs.size+1<=s.heap.objs.size:=z;omega
 have fin:∀(c0:Nat) (h2:Heap),h2.get? s.heap.objs.size=some { cls:=.type "list",data:=.seq #[] c0 }->(∀b o,b≠s.heap.objs.size->h1.get? b=some o->h2.get? b=some o)->
  codeAny (model prog w) A (.builtin "list.extend.loop" ⟨[.ref s.heap.objs.size,.ref I,.ref s.heap.objs.size],[]⟩) (λr s'=>match r with|.ok (.ret v)=>wpAny (model prog w) A (match v with|.ref a=>(do let __do_lift<-load a;match __do_lift.data with|.seq xs _=>pure xs.toList|_=>unsupported "internal:collect")|_=>unsupported "internal:collect") Q E s'|.ok _=>False|.error e=>E e s') { s with heap:=h2,drawn:=d }:=λc0 h2 hg2 k2=>by
  refine codeAny_extend_loopS (Wk A.in1 hh).toS (by rw[sizeLine_eq];omega) s.heap.objs.size nfp (.ref s.heap.objs.size) es.size 0 _ #[] c0 (Nat.sub_zero _) (Nat.zero_le _) ((Wk A.in1 hh).frame 0 _ _ st0 λb hb o e=>k2 b o (λz=>nfp (by rw[<-z];exact hb)) e) hg2 ⟨rfl,λj v hj=>by simp at hj⟩ λs' acc' c' mv hg3 it=>?_
  obtain⟨hp',gn',dr',tk',os'⟩:=s';have e1:gn'=s.gens:=mv.gens;have e2:dr'=d:=mv.drawn;have e3:os'=s.os:=mv.os;subst e1;subst e2;subst e3;refine wpAny_bind (wpAny_load hg3 (wpAny_pure ?_))
  have ea:acc'.toList=vs:=by
   apply List.ext_getElem?;intro i
   rcases Nat.lt_or_ge i es.size with c|c
   ·have hi:i < acc'.size:=by rw[it.1];exact c
    have:=it.2 i acc'[i] (Array.getElem?_eq_getElem hi)
    rw[Array.getElem?_toList,Array.getElem?_eq_getElem hi,this]
   ·rw[Array.getElem?_toList,Array.getElem?_eq_none (by rw[it.1];exact c),List.getElem?_eq_none (by omega)]
  rw[ea];refine h hp' tk' _ vs (λb o e=>?_) ?_ vp
  ·have bl:b≠s.heap.objs.size:=Nat.ne_of_lt (Heap.lt_size e)
   have bI:b≠I:=λz=>by
    have h1:b < s.heap.objs.size:=Heap.lt_size e;have h2:b=I:=z;have h3:I < s.heap.objs.size:=by rw[<-h2];exact h1
    exact absurd (Nat.lt_of_lt_of_le h3 (Nat.le_of_succ_le Ige')) (Nat.lt_irrefl _)
   exact mv.heap b o (by simp[bl,bI]) (k2 b o bl (old2 _ _ (old1 _ _ e)))
  ·exact Nat.le_of_lt (Heap.lt_size hg3)
 rw[if_pos (by decide+kernel)]
 refine wpAny_bind (wpAny_rule (wpAny_bind ?_))
 unfold Builtin.List.listTouch;refine wpAny_bind (listUpdate_at (a:=s.heap.objs.size) (s:={ s with heap:=h1,drawn:=d }) hS2 rfl ?_ (Nat.zero_le _) (by show 1<=sizeLine+1;omega))
 have g1:=get?_update_seq hS2 (λx=>x.push Value.none)
 refine listUpdate_at (a:=s.heap.objs.size) (s:={ s with heap:=h1.update s.heap.objs.size (Obj.mapSeq λx=>x.push Value.none),drawn:=d }) g1 rfl ?_ (by show 1<=sizeLine;rw[sizeLine_eq];decide) (Nat.zero_le _)
 have g2:=get?_update_seq g1 (λx=>x.pop)
 refine wpAny_pure ⟨plainId_quiet (by kernel_rfl) _,?_⟩
 exact fin _ _ g2 λb o n e=>(Heap.get?_update_ne _ _ _ _ n).trans ((Heap.get?_update_ne _ _ _ _ n).trans e)
theorem K6 {D:Addr}{S:List Str}{n:Nat}{Q:Value->Shared->Prop}(hA:Ak w (AQ w) s.heap D S n)(hh:A.handled=none)(hn:n<=4000)
 (h:∀h' tk d l out ss' e,(∀b o,s.heap.get? b=some o->h'.get? b=some o)->s.heap.objs.size<=l->h'.get? l=some (seqObj "list" out e)->StrsAre out.toList ss'->ss'.Nodup->(∀x,x∈ss'↔x∈S)->sortedS ss'=true->ss'.length<=n->Q (.ref l) { s with heap:=h',toks:=tk,drawn:=d }):
 wpAny (model prog w) A (call (.builtin "sorted") [.ref D]) Q E s:=by
 obtain⟨es,ep,t,hD,hS,hsz⟩:=hA;refine Calls.call_function_entry kind_sorted plain_sorted entry_sorted (args_sorted1 _) ?_
 unfold Builtin.«sorted»;refine wpAny_bind (m:=checkCount "sorted" 1 1 _) (wpAny_pure ?_)
 refine wpAny_bind (Je (A:=A.in1) hD hS hh (by omega) λh1 tk d acc old1 sz1 hp=>?_)
 obtain⟨ss,hv,hpk⟩:=IH hS.ent hp;have al:acc.length=es.size:=by have:=hp.length_eq;simpa using this
 have fz:acc.length<=sizeLine:=by rw[sizeLine_eq];omega
 refine wpAny_bind (wpAny_newList ?_ fz)
 have hDL:(h1.push (seqObj "list" acc.toArray 0)).get? h1.objs.size=some (seqObj "list" acc.toArray 0):=Heap.get?_push_size _ rfl
 refine wpAny_bind (wpAny_holding (wpAny_call_entry slot_list_sort ⟨_,hDL,rfl⟩ entry_list_sort (IV (s:={ s with heap:=h1.push (seqObj "list" acc.toArray 0),toks:=tk,drawn:=d }) hDL hv (hpk.nodup_iff.mpr hS.nd) fz λout ss' b1 b2 b3=>⟨_,rfl,?_⟩) (args_list_sort _)))
 obtain⟨e,he⟩:=sortedHeap_at (out:=out) hDL;refine wpAny_pure ⟨_,rfl,h _ tk d h1.objs.size _ ss' e (λb o eb=>?_) sz1 he b1 ?_ (λx=>?_) b3 ?_⟩
 ·have lt:=Heap.lt_size (old1 _ _ eb)
  rw[sortedHeap_old (Nat.ne_of_lt lt) (by rw[show(h1.push (seqObj "list" acc.toArray 0)).objs.size=h1.objs.size+1 from Heap.size_push ..];exact Nat.lt_succ_of_lt lt)]
  exact Heap.get?_push_of_some _ (old1 _ _ eb)
 ·exact(b2.trans hpk).nodup_iff.mpr hS.nd
 ·rw[(b2.trans hpk).mem_iff];exact hS.mem x
 ·have t1:(es.toList.map keyOf).length=es.size:=by rw[List.length_map,Array.length_toList]
  have t2:=(b2.trans hpk).length_eq;exact Nat.le_trans (Nat.le_of_eq (t2.trans t1)) hsz
end
section
variable {X:Cx}
theorem C3 (w:World)(hc:X.calm=true)(hw:X.w=w:=by rfl):Be X (.builtin "sorted") (λxs H Q=>∃(a:Addr) (S:List Str) (n:Nat),xs=[.ref a]/\H a=some (Aw w a S n)/\n<=4000/\
 ∀(ss:List Str) (r:Addr),ss.Nodup->(∀x,x∈ss↔x∈S)->sortedS ss=true->ss.length<=n->H r=none->Q (.ref r) (upd H r (.lst (ss.map V.str)))):=by
 subst hw;intro pins s σ H xs us Q I r h;obtain⟨a,S,n,rfl,ha,n64,q⟩:=h;obtain⟨u,rfl,ru⟩:=vals1 r;cases(show u=Value.ref a from ru)
 have hh:X.A.handled=none:=I.ok.hd hc;refine K6 (EB I ha) hh n64 λh3 tk3 d l3 out ss' e old3 lge hg3 hv3 nd3 mem3 srt3 len3=>?_
 have I3:=I.laid (t':=tk3) (h':=h3) (a:=l3) (o:=.lst (ss'.map V.str)) old3 lge (show Am X.prog X.w _ _ _ (.lst (ss'.map V.str))from⟨by rw[List.length_map,sizeLine_eq];omega,out.toList,e,Cc hv3,hg3⟩)
 exact⟨.ref l3,_,I3.drawn d,rfl,q ss' l3 nd3 mem3 srt3 len3 (I.hok.fresh lge)⟩
end
end L2
namespace S58
open PySem L2 W7 W55
theorem Hs:bootBuiltins "ValueError"=some (.type "ValueError"):=by decide+kernel
structure Exs (K:PySem.W.Frag)(mg:Str->Option Value) where
 c_UpError:Addr
 m_UpError:mg "UpError"=some (.ref c_UpError)
 c_NoPlace:Addr
 m_NoPlace:mg "NoPlace"=some (.ref c_NoPlace)
 c_NoNumber:Addr
 m_NoNumber:mg "NoNumber"=some (.ref c_NoNumber)
 c_NoWord:Addr
 m_NoWord:mg "NoWord"=some (.ref c_NoWord)
 c_NoRows:Addr
 m_NoRows:mg "NoRows"=some (.ref c_NoRows)
 c_NoRuns:Addr
 m_NoRuns:mg "NoRuns"=some (.ref c_NoRuns)
 c_NoCover:Addr
 m_NoCover:mg "NoCover"=some (.ref c_NoCover)
 c_NoText:Addr
 m_NoText:mg "NoText"=some (.ref c_NoText)
 c_TooMany:Addr
 m_TooMany:mg "TooMany"=some (.ref c_TooMany)
 c_NoTries:Addr
 m_NoTries:mg "NoTries"=some (.ref c_NoTries)
 c_NoPattern:Addr
 m_NoPattern:mg "NoPattern"=some (.ref c_NoPattern)
 c_NoLetter:Addr
 m_NoLetter:mg "NoLetter"=some (.ref c_NoLetter)
 c_NoLeaf:Addr
 m_NoLeaf:mg "NoLeaf"=some (.ref c_NoLeaf)
 c_NoChange:Addr
 m_NoChange:mg "NoChange"=some (.ref c_NoChange)
 c_NoLine:Addr
 m_NoLine:mg "NoLine"=some (.ref c_NoLine)
 c_NoTree:Addr
 m_NoTree:mg "NoTree"=some (.ref c_NoTree)
 q_NoTries:PySem.W.excIn K c_NoTries Ue "ValueError.__new__"=true
 z_NoTries:Pa K c_NoTries
 u_NoTries:PySem.W.exmOne K (.ref c_NoTries) (.ref c_UpError)=some true
 n0:PySem.W.kitOne K (.ref c_NoTries) (.ref c_NoTries)=some true
 n1:PySem.W.kitOne K (.ref c_NoTries) (.ref c_TooMany)=some false
 nv:PySem.W.kitOne K (.ref c_NoTries) (.type "ValueError")=some true
 n3:PySem.W.kitAny K (.ref c_NoTries) ([c_NoChange,c_NoCover,c_NoLeaf,c_NoLetter,c_NoLine,c_NoNumber,c_NoPattern].map Value.ref)=some false
 n4:PySem.W.kitAny K (.ref c_NoTries) ([c_NoPlace,c_NoRows,c_NoRuns,c_NoText,c_NoTree,c_NoWord].map Value.ref)=some false
 q_TooMany:PySem.W.excIn K c_TooMany Ue "ValueError.__new__"=true
 z_TooMany:Pa K c_TooMany
 u_TooMany:PySem.W.exmOne K (.ref c_TooMany) (.ref c_UpError)=some true
 w0:PySem.W.kitOne K (.ref c_TooMany) (.ref c_NoTries)=some false
 w1:PySem.W.kitOne K (.ref c_TooMany) (.ref c_TooMany)=some true
 wv:PySem.W.kitOne K (.ref c_TooMany) (.type "ValueError")=some true
 w3:PySem.W.kitAny K (.ref c_TooMany) ([c_NoChange,c_NoCover,c_NoLeaf,c_NoLetter,c_NoLine,c_NoNumber,c_NoPattern].map Value.ref)=some false
 w4:PySem.W.kitAny K (.ref c_TooMany) ([c_NoPlace,c_NoRows,c_NoRuns,c_NoText,c_NoTree,c_NoWord].map Value.ref)=some false
def Fq (d d':PyData):Prop:=ER d/\ER d'/\∀(us us':List Int) (z z':Str),d=.tuple [.tuple (us.map .int),.str z]->d'=.tuple [.tuple (us'.map .int),.str z']->z.cps.toList.getD 0 0=z'.cps.toList.getD 0 0
section
variable {P:Program}{w:World}{K:PySem.W.Frag}{mg:Str->Option Value}{base:Heap}{k:Nat}
def Jf (cT:Addr):Sp:=λvs H Q E=>∃(v v':V) (d d':PyData),vs=[v,v']/\Td H v d/\OD d/\Td H v' d'/\OD d'/\(Fq d d'->∀H',AG H H'->Q .BK H')/\(¬Fq d d'->∀a H',AG H H'->H' a=none->E (.ref a) (some cT) H')
theorem P6 (EX:Exs K mg)(D:Df K mg "refuse_no_tries" s_refuse_no_tries)(B:B6 mg)(G_is_trie:BO P w K mg base "is_trie" k ["thing"] P5):Hn P w K mg base "refuse_no_tries" (k+1) ["one","other"] (Jf EX.c_NoTries):=by
 refine D.S4 Ea (λ_ _ _ _ _ _ us hl=>match us,hl with|[_,_],_=>rfl) (λvs H Q E h=>by obtain⟨v,v',d,d',rfl,_⟩:=h;rfl) (λf cdv A outer s H vs Q E hr h=>?_)
 obtain⟨v,v',d,d',rfl,td,shy,td',shy',q,qe⟩:=h;refine⟨_,(AI (A9 (PW.pt (GO (DP (Ck (AH G_is_trie hr rfl (AA (pv 0) AB)))) (GO (DP (Ck (AH G_is_trie hr rfl (AA (pv 1) AB)))) (FI (Aa Cr (AU Cn (AU Aj (pv 0) AF (λ_ _=>rfl)) AF (λ_ _=>rfl)) (AU Cn (AU Aj (pv 1) AF (λ_ _=>rfl)) AF (λ_ _=>rfl)) (Ae _))))))
 (AI (Ki IW EX.m_NoTries EX.q_NoTries rfl (AA Aq AB)))
 Ad)),?_⟩
 refine⟨_,rfl,v,d,rfl,td,shy,λb H1 s1 hb=>⟨_,rfl,?_⟩⟩
 by_cases cb:b=true
 rotate_left
 ·rw[Bool.eq_false_iff.mpr cb]
  refine Ir ?_
  refine L2.K1 rfl ⟨(by show 1<=sizeLine;decide),λa ha=>qe (λz=>cb (hb.mpr z.1)) a H1 s1 ha⟩
 subst cb;refine DN ?_
 refine⟨_,rfl,v',d',rfl,td'.same s1,shy',λb' H2 s2 hb'=>⟨_,rfl,?_⟩⟩
 have s12:=s1.trans s2
 by_cases cb:b'=true
 rotate_left
 ·rw[Bool.eq_false_iff.mpr cb]
  refine Ir ?_
  refine L2.K1 rfl ⟨(by show 1<=sizeLine;decide),λa ha=>qe (λz=>cb (hb'.mpr z.2.1)) a H2 s12 ha⟩
 subst cb;refine DN ?_
 have t1:=hb.mp rfl;have t2:=hb'.mp rfl;have r1:Fn d:=by obtain⟨us,z,e,l,l1,l6,lw,g,_⟩:=t1;exact⟨us,z,e,l,l1,l6,lw,g⟩
 have r2:Fn d':=by obtain⟨us,z,e,l,l1,l6,lw,g,_⟩:=t2;exact⟨us,z,e,l,l1,l6,lw,g⟩
 obtain⟨t,u,ups,lab,rfl,rfl,ht,hu,e1,l1,l6,lw,g⟩:=Fo td r1;obtain⟨t',u',ups',lab',rfl,rfl,ht',hu',e1',l1',l6',lw',g'⟩:=Fo td' r2
 have z:∀{lab:Str},1<=lab.length->lab.length<=60->lab.length<=sizeLine/\Du lab.cps.toList 0=some (lab.cps.toList.getD 0 0):=λ{lab} l1 l6=>by
  have ll:lab.cps.toList.length=lab.length:=Array.length_toList;refine⟨Nat.le_of_lt (AK (by omega)),?_⟩
  exact BH (j:=0) (by rw[List.getD_eq_getElem?_getD,List.getElem?_eq_getElem (by omega)];rfl)
 refine⟨_,rfl,t,_,_,_,rfl,rfl,BM.of (s12 _ _ ht),rfl,lab,_,_,rfl,rfl,(z l1 l6).1,(z l1 l6).2,_,rfl,t',_,_,_,rfl,rfl,BM.of (s12 _ _ ht'),rfl,lab',_,_,rfl,rfl,(z l1' l6').1,(z l1' l6').2,rfl,_,rfl,CZ (λc=>?_) (λc=>?_)⟩
 ·refine⟨(by show 1<=sizeLine;decide),λa ha=>qe (λh=>?_) a H2 s12 ha⟩
  rw[h.2.2 _ _ _ _ rfl rfl]at c;simp at c
 ·refine q ⟨t1,t2,λus us' z z' e e'=>?_⟩ H2 s12
  obtain⟨rfl,rfl⟩:=DJ e;obtain⟨rfl,rfl⟩:=DJ e';simpa using c
end
end S58
namespace S58
open PySem L2 W7 W55
theorem M0 {us:List Str}{c:Nat}(cl:Cl us)(h:∀z∈us,z.cps.toList.head?=some c):∀(n:Nat) (z:Str),z∈us->z.cps.toList.length<=n->mk [c]∈us
 |0,z,hz,l=>by
  have:=cl.ne z hz;cases e:z.cps.toList with
  |nil=>exact absurd e this
  |cons a b=>rw[e]at l;simp at l
 |n+1,z,hz,l=>by
  rcases Nat.lt_or_ge 1 z.cps.toList.length with g|g
  ·refine M0 cl h n (front z) (cl.fr z hz g) ?_
   have e:(front z).cps.toList=z.cps.toList.dropLast:=by unfold front sm;simp
   rw[e,List.length_dropLast];omega
  ·have:=cl.ne z hz
   have hh:=h z hz
   have e:z=mk [c]:=by
    refine KU ?_
    rw[BQ];cases e:z.cps.toList with
    |nil=>exact absurd e this
    |cons a b=>
     rw[e]at hh g;cases hh;cases b with
     |nil=>rfl
     |cons x y=>simp at g
   rw[<-e];exact hz
def Ul (c:Nat):Str:=mk [c]
theorem Gd.meet {us1 us2 us:List Str}{c:Nat}(g1:Gd us1)(g2:Gd us2)(h1:∀z∈us1,z.cps.toList.head?=some c)(h2:∀z∈us2,z.cps.toList.head?=some c)(nd:us.Nodup)(srt:PyProof.Rows.sortedS us=true)(m:∀x,x∈us↔x∈us1/\x∈us2):Gd us:=by
 have an:∀{p:Str->Prop},(∀x∈us1,p x)->∀x∈us,p x:=λ{p} a x hx=>a x ((m x).mp hx).1
 refine⟨⟨an g1.cl.ne,λz hz l=>(m _).mpr ⟨g1.cl.fr z ((m z).mp hz).1 l,g2.cl.fr z ((m z).mp hz).2 l⟩,c,an h1⟩,strict srt nd,λe=>?_,Nat.le_trans (nd.length_le_of_subset (l₂:=us1) λz hz=>((m z).mp hz).1) g1.le,an g1.zl,an g1.low⟩
 have rt:∀{us:List Str},Gd us->(∀z∈us,z.cps.toList.head?=some c)->Ul c∈us:=λ{us} g h=>by
  obtain⟨x,hx⟩:=List.exists_mem_of_ne_nil _ g.ne;exact M0 g.cl h _ x hx (Nat.le_refl _)
 have:=(m _).mpr ⟨rt g1 h1,rt g2 h2⟩;rw[e]at this;cases this
section
variable {P:Program}{w:World}{K:PySem.W.Frag}{mg:Str->Option Value}{base:Heap}{k:Nat}
structure Good (H:Hp)(v v':V)(us1 us2:List Str)(t t':Addr)(c:Nat):Prop where
 ev:v=.ref t
 ev':v'=.ref t'
 g1:Gd us1
 g2:Gd us2
 t1:BL H t us1
 t2:BL H t' us2
 h1:∀z∈us1,z.cps.toList.head?=some c
 h2:∀z∈us2,z.cps.toList.head?=some c
def K7 (cT cM:Addr):Sp:=λvs H Q E=>∃(v v':V) (d d':PyData),vs=[v,v']/\Td H v d/\OD d/\Td H v' d'/\OD d'/\
 ((¬Fq d d'/\∀a H',AG H H'->H' a=none->E (.ref a) (some cT) H')\/
  (Fq d d'/\∃us1 us2 t t' c,Good H v v' us1 us2 t t' c/\∀us:List Str,us.Nodup->(∀x,x∈us↔x∈us1\/x∈us2)->(us.length<=60->∀r H',AG H H'->Q (.ref r) H')/\(60 < us.length->∀a H',AG H H'->H' a=none->E (.ref a) (some cM) H')))
theorem N6 (EX:Exs K mg)(D:Df K mg "laid_over" s_laid_over)(B:B6 mg)(G_refuse_no_tries:Hn P w K mg base "refuse_no_tries" k ["one","other"] (Jf EX.c_NoTries))(G_ways_down:BO P w K mg base "ways_down" k ["tree"] FA)(G_laid_by:BO P w K mg base "laid_by" k ["ways","one","other"] Fp):Hn P w K mg base "laid_over" (k+1) ["one","other"] (K7 EX.c_NoTries EX.c_TooMany):=by
 obtain⟨u1,h_MOST_PLACES,r_MOST_PLACES⟩:=B.most;refine D.S4 E5 (λ_ _ _ _ _ _ us hl=>match us,hl with|[_,_],_=>rfl) (λvs H Q E h=>by obtain⟨v,v',d,d',rfl,_⟩:=h;rfl) (λf cdv A outer s H vs Q E hr h=>?_)
 obtain⟨v,v',d,d',rfl,td,shy,td',shy',h⟩:=h;refine⟨_,(AE (BZ (Kj G_refuse_no_tries IX hr rfl (AA (pv 0) (AA (pv 1) AB))))
 (AE (AM (i:=2) E5.nd rfl (by first|exact Or.inl rfl|exact Or.inr rfl) (AN (C3 w rfl) rfl B.sorted EW (AA (AR (Ls w) (Af (BP w rfl) rfl B.set_ FW (AA (AH G_ways_down hr rfl (AA (pv 0) AB)) AB)) (Af (BP w rfl) rfl B.set_ FW (AA (AH G_ways_down hr rfl (AA (pv 1) AB)) AB))) AB)))
 (AE (A9 (Aa Hv (AN AY rfl B.len A6 (AA (pv 2) AB)) (A0 (v:=.int 60) rfl h_MOST_PLACES r_MOST_PLACES) (Ae _))
 (AI (Ki IW EX.m_TooMany EX.q_TooMany rfl (AA Aq AB)))
 Ad)
 (AI (AS (AH G_laid_by hr rfl (AA (pv 2) (AA (pv 0) (AA (pv 1) AB))))))))),?_⟩
 refine⟨_,rfl,_,rfl,v,v',d,d',rfl,td,shy,td',shy',λtwo H1 s1=>?_,λntwo a H1 s1 ha=>?_⟩
 rotate_left
 ·rcases h with⟨_,qe⟩|⟨two,_⟩
  ·exact qe a H1 s1 ha
  ·exact absurd two ntwo
 rcases h with⟨ntwo,_⟩|⟨_,us1,us2,t,t',c,⟨rfl,rfl,g1,g2,tt1,tt2,hd1,hd2⟩,q⟩
 ·exact absurd two ntwo
 refine⟨_,rfl,t,_,_,rfl,g1.tree (tt1.same s1),λrA HA sA fA hA=>?_⟩
 rw[g1.JZ]at hA;have le1:=g1.le;have le2:=g2.le;refine⟨rA,us1,rfl,Ah.of hA,by omega,λd1 hd1'=>?_⟩
 have sB:AG HA (upd HA d1 (Aw w d1 us1 us1.length)):=(AG.refl HA).new hd1';have hB:upd HA d1 (Aw w d1 us1 us1.length) d1=some (Aw w d1 us1 us1.length):=AD;show(λHH=>_) (upd HA d1 (Aw w d1 us1 us1.length))
 generalize upd HA d1 (Aw w d1 us1 us1.length)=HB at sB hB;have s2:=(s1.trans sA).trans sB;refine⟨_,rfl,t',_,_,rfl,g2.tree (tt2.same s2),λrC HC sC fC hC=>?_⟩
 rw[g2.JZ]at hC;refine⟨rC,us2,rfl,Ah.of hC,by omega,λd2 hd2'=>?_⟩
 have sD:AG HC (upd HC d2 (Aw w d2 us2 us2.length)):=(AG.refl HC).new hd2';have hD:upd HC d2 (Aw w d2 us2 us2.length) d2=some (Aw w d2 us2 us2.length):=AD;have dne:d1≠d2:=AL (sC _ _ hB) hd2';show(λHH=>_) (upd HC d2 (Aw w d2 us2 us2.length))
 generalize upd HC d2 (Aw w d2 us2 us2.length)=HD at sD hD;have s3:=(s2.trans sC).trans sD;refine⟨d1,d2,us1,us2,_,_,rfl,rfl,dne,sD _ _ (sC _ _ hB),hD,g1.ne,by omega,λd3 U hd3 hU=>?_⟩
 have sE:AG HD (upd HD d3 (Aw w d3 U (us1.length+us2.length))):=(AG.refl HD).new hd3;have hE:upd HD d3 (Aw w d3 U (us1.length+us2.length)) d3=some (Aw w d3 U (us1.length+us2.length)):=AD;show(λHH=>_) (upd HD d3 (Aw w d3 U (us1.length+us2.length)))
 generalize upd HD d3 (Aw w d3 U (us1.length+us2.length))=HE at sE hE;refine⟨d3,U,_,rfl,hE,by omega,λus l nd mem srt len hl=>?_⟩
 have sF:AG HE (upd HE l (.lst (us.map V.str))):=(AG.refl HE).new hl;have hF:upd HE l (.lst (us.map V.str)) l=some (.lst (us.map V.str)):=AD;show(λHH=>_) (upd HE l (.lst (us.map V.str)))
 generalize upd HE l (.lst (us.map V.str))=HF at sF hF;have s4:=(s3.trans sE).trans sF;have m2:∀x,x∈us↔x∈us1\/x∈us2:=λx=>(mem x).trans (hU x)
 obtain⟨q1,q2⟩:=q us nd m2;refine⟨_,rfl,l,_,rfl,.inl (Ah.of hF),_,_,rfl,rfl,_,rfl,?_⟩
 rcases Nat.lt_or_ge 60 us.length with g|ul
 ·refine K1 (decide_eq_true (by rw[List.length_map];omega)) ?_
  exact⟨(by show 1<=sizeLine;decide),λa ha=>q2 g a HF s4 ha⟩
 have gd:=g1.join g2 hd1 hd2 nd srt m2 ul;refine Dq (decide_eq_false (by rw[List.length_map];omega)) ?_
 refine⟨_,rfl,_,rfl,_,rfl,l,t,t',us,us1,us2,rfl,hF,g1,g2,tt1.same s4,tt2.same s4,gd,λr HG sG la=>?_⟩
 exact q1 ul r HG (s4.trans sG)
def Ig (cT:Addr):Sp:=λvs H Q E=>∃(v v':V) (d d':PyData),vs=[v,v']/\Td H v d/\OD d/\Td H v' d'/\OD d'/\
 ((¬Fq d d'/\∀a H',AG H H'->H' a=none->E (.ref a) (some cT) H')\/
  (Fq d d'/\∃us1 us2 t t' c,Good H v v' us1 us2 t t' c/\∀r H',AG H H'->Q (.ref r) H'))
theorem Ly (EX:Exs K mg)(D:Df K mg "laid_under" s_laid_under)(B:B6 mg)(G_refuse_no_tries:Hn P w K mg base "refuse_no_tries" k ["one","other"] (Jf EX.c_NoTries))(G_ways_down:BO P w K mg base "ways_down" k ["tree"] FA)(G_laid_by:BO P w K mg base "laid_by" k ["ways","one","other"] Fp):Hn P w K mg base "laid_under" (k+1) ["one","other"] (Ig EX.c_NoTries):=by
 refine D.S4 Hj (λ_ _ _ _ _ _ us hl=>match us,hl with|[_,_],_=>rfl) (λvs H Q E h=>by obtain⟨v,v',d,d',rfl,_⟩:=h;rfl) (λf cdv A outer s H vs Q E hr h=>?_)
 obtain⟨v,v',d,d',rfl,td,shy,td',shy',h⟩:=h;refine⟨_,(AE (BZ (Kj G_refuse_no_tries IX hr rfl (AA (pv 0) (AA (pv 1) AB))))
 (AI (AS (AH G_laid_by hr rfl (AA (AN (C3 w rfl) rfl B.sorted EW (AA (AR (Kr w) (Af (BP w rfl) rfl B.set_ FW (AA (AH G_ways_down hr rfl (AA (pv 0) AB)) AB)) (Af (BP w rfl) rfl B.set_ FW (AA (AH G_ways_down hr rfl (AA (pv 1) AB)) AB))) AB)) (AA (pv 0) (AA (pv 1) AB))))))),?_⟩
 refine⟨_,rfl,_,rfl,v,v',d,d',rfl,td,shy,td',shy',λtwo H1 s1=>?_,λntwo a H1 s1 ha=>?_⟩
 rotate_left
 ·rcases h with⟨_,qe⟩|⟨two,_⟩
  ·exact qe a H1 s1 ha
  ·exact absurd two ntwo
 rcases h with⟨ntwo,_⟩|⟨_,us1,us2,t,t',c,⟨rfl,rfl,g1,g2,tt1,tt2,hd1,hd2⟩,q⟩
 ·exact absurd two ntwo
 refine⟨_,rfl,t,_,_,rfl,g1.tree (tt1.same s1),λrA HA sA fA hA=>?_⟩
 rw[g1.JZ]at hA;have le1:=g1.le;have le2:=g2.le;refine⟨rA,us1,rfl,Ah.of hA,by omega,λd1 hd1'=>?_⟩
 have sB:AG HA (upd HA d1 (Aw w d1 us1 us1.length)):=(AG.refl HA).new hd1';have hB:upd HA d1 (Aw w d1 us1 us1.length) d1=some (Aw w d1 us1 us1.length):=AD;show(λHH=>_) (upd HA d1 (Aw w d1 us1 us1.length))
 generalize upd HA d1 (Aw w d1 us1 us1.length)=HB at sB hB;have s2:=(s1.trans sA).trans sB;refine⟨_,rfl,t',_,_,rfl,g2.tree (tt2.same s2),λrC HC sC fC hC=>?_⟩
 rw[g2.JZ]at hC;refine⟨rC,us2,rfl,Ah.of hC,by omega,λd2 hd2'=>?_⟩
 have sD:AG HC (upd HC d2 (Aw w d2 us2 us2.length)):=(AG.refl HC).new hd2';have hD:upd HC d2 (Aw w d2 us2 us2.length) d2=some (Aw w d2 us2 us2.length):=AD;have dne:d1≠d2:=AL (sC _ _ hB) hd2';show(λHH=>_) (upd HC d2 (Aw w d2 us2 us2.length))
 generalize upd HC d2 (Aw w d2 us2 us2.length)=HD at sD hD;have s3:=(s2.trans sC).trans sD;refine⟨d1,d2,us1,us2,_,_,rfl,rfl,dne,sD _ _ (sC _ _ hB),hD,by omega,by omega,λd3 U n hd3 hn hU=>?_⟩
 have sE:AG HD (upd HD d3 (Aw w d3 U n)):=(AG.refl HD).new hd3;have hE:upd HD d3 (Aw w d3 U n) d3=some (Aw w d3 U n):=AD;show(λHH=>_) (upd HD d3 (Aw w d3 U n))
 generalize upd HD d3 (Aw w d3 U n)=HE at sE hE;refine⟨d3,U,n,rfl,hE,by omega,λus l nd mem srt len hl=>?_⟩
 have sF:AG HE (upd HE l (.lst (us.map V.str))):=(AG.refl HE).new hl;have hF:upd HE l (.lst (us.map V.str)) l=some (.lst (us.map V.str)):=AD;show(λHH=>_) (upd HE l (.lst (us.map V.str)))
 generalize upd HE l (.lst (us.map V.str))=HF at sF hF;have s4:=(s3.trans sE).trans sF;have m2:∀x,x∈us↔x∈us1/\x∈us2:=λx=>(mem x).trans (hU x)
 have gd:=g1.meet g2 hd1 hd2 nd srt m2;refine⟨_,rfl,_,rfl,l,t,t',us,us1,us2,rfl,hF,g1,g2,tt1.same s4,tt2.same s4,gd,λr HG sG la=>?_⟩
 exact q r HG (s4.trans sG)
end
end S58
namespace W100
open PySem PySem.SetTable
end W100
namespace L2
open PySem PySem.Spec PyProof.Rows PySem.W
mutual
def BG:PyData->Bool
 |.none|.bool _|.int _|.str _=>true
 |.list xs=>mixAll xs
 |.tuple xs=>mixAll xs
 |.dict kvs=>C1 kvs
def mixAll:List PyData->Bool
 |[]=>true
 |x::xs=>BG x&&mixAll xs
end
section
variable {X:Cx}{pins:List (Addr×Obj)}{σ:St}{H:Hp}{s:Shared}{pg:Program}{wd:World}
mutual
theorem P7 (I:Inv X pins σ H s):∀{v:V} {d:PyData},Td H v d->∀{u:Value},RelV v u->d.showable=true->BG d=true->d.shown.length<=sizeLine->∃bs,ReadAtMost s.heap d.depth bs/\ReprK pg wd bs s.heap d.depth u d.shown
 |_,_,.BK,_,r,hs,_,hz=>by obtain⟨as,rd,_⟩:=BY I .BK r;exact ReprK.of_reads rd hs (λz=>by simp only[PyData.hasDict]at z;cases z) hz
 |_,_,.bl b,_,r,hs,_,hz=>by obtain⟨as,rd,_⟩:=BY I (.bl b) r;exact ReprK.of_reads rd hs (λz=>by simp only[PyData.hasDict]at z;cases z) hz
 |_,_,.int i,_,r,hs,_,hz=>by obtain⟨as,rd,_⟩:=BY I (.int i) r;exact ReprK.of_reads rd hs (λz=>by simp only[PyData.hasDict]at z;cases z) hz
 |_,_,.str z,_,r,hs,_,hz=>by obtain⟨as,rd,_⟩:=BY I (.str z) r;exact ReprK.of_reads rd hs (λz=>by simp only[PyData.hasDict]at z;cases z) hz
 |_,_,.lst (a:=a) (ds:=ds) e t,_,r,hs,hm,hz=>by
  obtain⟨as0,rd,_⟩:=BY I (.lst e t) r;cases r;obtain⟨_,its,n,rv,g⟩:=I.hok _ _ e;have hz':(listText (PyData.shownAll ds)).length<=sizeLine:=by simpa only[PyData.shown]using hz
  obtain⟨bs,hb,hk⟩:=C6 I t rv (by simpa only[PyData.showable]using hs) (by simpa only[BG]using hm) (λx hx=>Nat.le_trans (listText_mem_le hx) hz')
  have hna:a∉bs:=not_mem_of_deeper rd (by simp only[PyData.depth];omega) hb
  refine⟨a::bs,ReadAtMost.cons rd (by simp only[PyData.depth];omega) hb,?_⟩
  simp only[PyData.depth,PyData.shown];cases its with
  |nil=>
   have hn:PyData.shownAll ds=[]:=List.length_eq_zero_iff.mp hk.length_eq;rw[hn,listText_nil];exact ReprK.listEmpty g rfl rfl
  |cons x l=>exact ReprK.list g rfl rfl hna (by simpa using hk.length_eq) (λi y e=>hk.item i y (by simpa using e))
 |_,_,.tup (a:=a) (ds:=ds) e t,_,r,hs,hm,hz=>by
  obtain⟨as0,rd,_⟩:=BY I (.tup e t) r;cases r;obtain⟨_,its,rv,o,g,c,n,dd⟩:=I.hok _ _ e;have hz':(tupleText (PyData.shownAll ds)).length<=sizeLine:=by simpa only[PyData.shown]using hz
  obtain⟨bs,hb,hk⟩:=C6 I t rv (by simpa only[PyData.showable]using hs) (by simpa only[BG]using hm) (λx hx=>Nat.le_trans (tupleText_mem_le hx) hz')
  have hna:a∉bs:=not_mem_of_deeper rd (by simp only[PyData.depth];omega) hb
  refine⟨a::bs,ReadAtMost.cons rd (by simp only[PyData.depth];omega) hb,?_⟩
  simp only[PyData.depth,PyData.shown];exact ReprK.tuple g c dd hna hk
 |_,_,.dct e t u,_,r,hs,hm,hz=>by
  obtain⟨as0,rd,na⟩:=BY I (.dct e t u) r;exact ReprK.of_reads rd hs (λ_=>na (by simpa only[BD,BG]using hm)) hz
theorem C6 (I:Inv X pins σ H s):∀{vs:List V} {ds:List PyData},EN H vs ds->∀{us:List Value},Vals vs us->PyData.showableAll ds=true->mixAll ds=true->(∀t∈PyData.shownAll ds,t.length<=sizeLine)->∃bs,ReadAtMost s.heap (PyData.depthAll ds) bs/\ReprAllK pg wd bs s.heap (PyData.depthAll ds) us (PyData.shownAll ds)
 |_,_,.nil,_,r,_,_,_=>by cases r;exact⟨[],(λ_ h=>nomatch h),by simp only[PyData.shownAll];exact .nil⟩
 |_,_,.cons (d:=d) (ds:=ds) t u,_,r,hs,hm,hz=>by
  cases r with
  |cons r1 r2=>
   simp only[PyData.showableAll,Bool.and_eq_true]at hs;simp only[mixAll,Bool.and_eq_true]at hm;simp only[PyData.shownAll]at hz;obtain⟨b1,hb1,k1⟩:=P7 I t r1 hs.1 hm.1 (hz _ List.mem_cons_self);obtain⟨b2,hb2,k2⟩:=C6 I u r2 hs.2 hm.2 (λx hx=>hz x (List.mem_cons_of_mem _ hx))
   have l1:d.depth<=PyData.depthAll (d::ds):=by simp only[PyData.depthAll];omega
   have l2:PyData.depthAll ds<=PyData.depthAll (d::ds):=by simp only[PyData.depthAll];omega
   refine⟨b1++b2,(hb1.mono l1).append (hb2.mono l2),?_⟩
   have k1':ReprAllK pg wd b1 s.heap d.depth [_] [d.shown]:=.cons k1 .nil;have c1:=k1'.more_le (λb hb=>List.mem_append_left b2 hb) l1
   have c2:=k2.more_le (λb hb=>List.mem_append_right b1 hb) l2
   simp only[PyData.shownAll];cases c1 with
   |cons k _=>exact .cons k c2
end
theorem Lz (I:Inv X pins σ H s){a:Addr}{d:PyData}(t:Td H (.ref a) d)(hs:d.showable=true)(hm:BG d=true)(hz:d.shown.length<=sizeLine):∃T idr,ShowsBy pg wd s.heap a d T idr:=by
 cases t with
 |lst e t=>
  rename_i xs ds
  obtain⟨as0,rd,_⟩:=BY I (.lst e t) (u:=.ref a) rfl;obtain⟨_,its,n,rv,g⟩:=I.hok _ _ e;have hz':(listText (PyData.shownAll ds)).length<=sizeLine:=by simpa only[PyData.shown]using hz
  obtain⟨bs,hb,hk⟩:=C6 (pg:=pg) (wd:=wd) I t rv (by simpa only[PyData.showable]using hs) (by simpa only[BG]using hm) (λx hx=>Nat.le_trans (listText_mem_le hx) hz')
  have hna:a∉bs:=not_mem_of_deeper rd (by simp only[PyData.depth];omega) hb
  refine⟨"list","list.__repr__",F.slot_list_repr.toG,F.slot_list_str,F.slot_list_format,λs' hk0=>⟨_,hk0 _ _ g,rfl⟩,λA E s' Q hg hu hk0 hQ=>?_⟩
  simp only[PyData.depth]at hu;simp only[PyData.shown]at hQ;cases its with
  |nil=>
   have hn:PyData.shownAll ds=[]:=List.length_eq_zero_iff.mp hk.length_eq;rw[hn,listText_nil]at hQ;exact call_list_repr_empty ⟨_,hk0 _ _ g,rfl⟩ (hk0 _ _ g) rfl (hQ s'.heap _ _ λ_ _ e=>e)
  |cons x l=>
   exact call_list_reprK g rfl rfl hna (by simpa using hk.length_eq) (λi y e=>hk.item i y (by simpa using e)) hg (λb _=>Clear.nil b) hu hk0 hQ hz'
 |tup e t=>
  rename_i xs ds
  obtain⟨as0,rd,_⟩:=BY I (.tup e t) (u:=.ref a) rfl;obtain⟨_,its,rv,o,g,c,n,dd⟩:=I.hok _ _ e;have hz':(tupleText (PyData.shownAll ds)).length<=sizeLine:=by simpa only[PyData.shown]using hz
  obtain⟨bs,hb,hk⟩:=C6 (pg:=pg) (wd:=wd) I t rv (by simpa only[PyData.showable]using hs) (by simpa only[BG]using hm) (λx hx=>Nat.le_trans (tupleText_mem_le hx) hz')
  have hna:a∉bs:=not_mem_of_deeper rd (by simp only[PyData.depth];omega) hb
  refine⟨"tuple","tuple.__repr__",F.slot_tuple_repr,F.slot_tuple_str,F.slot_tuple_format,λs' hk0=>⟨o,hk0 _ _ g,c⟩,λA E s' Q hg hu hk0 hQ=>?_⟩
  simp only[PyData.depth]at hu;simp only[PyData.shown]at hQ;exact call_tuple_reprK g c dd hna hk hg (λb _=>Clear.nil b) hu hk0 hQ hz'
 |dct e t u=>
  obtain⟨as0,rd,na⟩:=BY I (.dct e t u) (u:=.ref a) rfl;exact showsBy_of_reads rd hs (λ_=>na (by simpa only[BD,BG]using hm)) hz
structure N7 (d:PyData):Prop where
 sh:d.showable=true
 lv:d.leavesShort 61=true
 wt:d.weight<=200000
 dp:d.depth<=20
 md:BG d=true
theorem N7.sz {d:PyData}(f:N7 d):d.shown.length<=sizeLine:=by
 have h:=PyData.shown_le 61 (by decide) d f.lv
 have:=f.wt;rw[sizeLine_eq];omega
variable {k:Nat}
theorem Dr (hr:Bx k X.A):Be X (.builtin "repr") (λxs H Q=>∃v d,xs=[v]/\Td H v d/\N7 d/\Q (.str d.shown) H):=by
 intro pins s σ H xs us Q I r h;obtain⟨v,d,rfl,t,f,q⟩:=h;obtain⟨u,rfl,rx⟩:=vals1 r;have fin:∀(h':Heap) (u:Tok) (tk:Tok),(∀b o,s.heap.get? b=some o->h'.get? b=some o)->EP X pins σ Q (.str d.shown u) { s with heap:=h',toks:=tk }:=λh' u tk hk=>⟨.str d.shown,H,I.kept (t':=tk) hk,⟨u,rfl⟩,q⟩
 have sz:=f.sz
 have ref:∀a:Addr,v=.ref a->u=.ref a->wpAny (model X.prog X.w) X.A (call (.builtin "repr") [u]) (EP X pins σ Q) X.xe s:=λa e1 e=>by
  subst e e1;obtain⟨T,idr,S⟩:=Lz (pg:=X.prog) (wd:=X.w) I t f.sh f.md sz;have un:=hr.un;have dp:=f.dp;exact call_repr_slot (by omega) (S.typeIs s λ_ _ e=>e) S.slotRepr (S.call X.A.in1 _ s _ hr.gd (by show X.A.units+1+d.depth < cLine;omega) (λ_ _ e=>e) λh' u tk hk=>⟨_,_,rfl,fin h' u tk hk⟩)
 cases t with
 |BK=>cases rx;exact P.repr_of_none (fin _ _ _ λ_ _ e=>e)
 |bl b=>cases rx;exact P.repr_of_bool (by cases b<;>exact fin _ _ _ λ_ _ e=>e)
 |int i=>obtain⟨t,rfl⟩:=rx;exact P.repr_of_int (of_decide_eq_true f.sh) (fin _ _ _ λ_ _ e=>e)
 |str z=>obtain⟨t,rfl⟩:=rx;exact P.repr_of_str (fin _ _ _ λ_ _ e=>e) sz
 |lst e t=>cases rx;exact ref _ rfl rfl
 |tup e t=>cases rx;exact ref _ rfl rfl
 |dct e t u=>cases rx;exact ref _ rfl rfl
end
end L2
namespace S58
open PySem L2 W7 W55
theorem Q9 (us1 us2:List Str):∃us:List Str,us.Nodup/\∀x,x∈us↔x∈us1\/x∈us2:=by
 induction us1 with
 |nil=>
  induction us2 with
  |nil=>exact⟨[],List.nodup_nil,λx=>by simp⟩
  |cons a l ih=>
   obtain⟨us,nd,m⟩:=ih
   by_cases h:a∈us
   ·exact⟨us,nd,λx=>by rw[m];simp only[List.not_mem_nil,false_or,List.mem_cons];exact⟨.inr,λz=>z.elim (λe=>by rw[e];simpa using(m a).mp h) id⟩⟩
   ·exact⟨a::us,List.nodup_cons.mpr ⟨h,nd⟩,λx=>by rw[List.mem_cons,m];simp⟩
 |cons a l ih=>
  obtain⟨us,nd,m⟩:=ih
  by_cases h:a∈us
  ·exact⟨us,nd,λx=>by rw[m,List.mem_cons];exact⟨λz=>z.elim (λy=>.inl (.inr y)) .inr,λz=>z.elim (λy=>y.elim (λe=>by rw[e];exact(m a).mp h) .inl) .inr⟩⟩
  ·exact⟨a::us,List.nodup_cons.mpr ⟨h,nd⟩,λx=>by rw[List.mem_cons,m,List.mem_cons,or_assoc]⟩
section
variable {P:Program}{w:World}{K:PySem.W.Frag}{mg:Str->Option Value}{base:Heap}{k:Nat}
def FE:Sp:=λvs H Q _=>∃(n:Int) (v v':V) (d d':PyData),vs=[.int n,v,v']/\Td H v d/\OD d/\Td H v' d'/\OD d'/\N7 (.list [d,d'])/\
 ((¬Fq d d'/\∀H',AG H H'->Q (.str "tries") H')\/
  (Fq d d'/\∃us1 us2 t t' c,Good H v v' us1 us2 t t' c/\∀us:List Str,us.Nodup->(∀x,x∈us↔x∈us1\/x∈us2)->(n≠0\/us.length<=60->∀H',AG H H'->Q (.str "told") H')/\(n=0->60 < us.length->∀H',AG H H'->Q (.str "many") H')))
theorem P8 (EX:Exs K mg)(D:Df K mg "_law_told" s_law_told)(B:B6 mg)(G_laid_over:Hn P w K mg base "laid_over" k ["one","other"] (K7 EX.c_NoTries EX.c_TooMany))(G_laid_under:Hn P w K mg base "laid_under" k ["one","other"] (Ig EX.c_NoTries)):BO P w K mg base "_law_told" (k+1) ["way","one","other"] FE:=by
 refine D.has CH (λ_ _ _ _ _ _ us hl=>match us,hl with|[_,_,_],_=>rfl) (λvs H Q E h=>by obtain⟨n,v,v',d,d',rfl,_⟩:=h;rfl) (λf cdv A outer s H vs Q E hr h=>?_)
 obtain⟨n,v,v',d,d',rfl,td,shy,td',shy',fit,h⟩:=h;refine⟨_,(AE (AM (i:=3) CH.nd rfl (by first|exact Or.inl rfl|exact Or.inr rfl) (AN (Dr hr) rfl B.repr MP (AA (Ar (AA (pv 1) (AA (pv 2) AB))) AB)))
 (AE (AM (i:=4) CH.nd rfl (by first|exact Or.inl rfl|exact Or.inr rfl) LA)
 (AE (Sy (λpn xe E σ0 hx=>(AI (A9 (Aa Fs (pv 0) AF (Ae _))
 (AI (BZ (Kk G_laid_over hx hr rfl (AA (pv 1) (AA (pv 2) AB)))))
 (AI (BZ (Kk G_laid_under hx hr rfl (AA (pv 1) (AA (pv 2) AB))))))))
 (Uc rfl EX.m_UpError CH.nd (i:=5) rfl rfl (λa=>(AI (AM (i:=4) CH.nd rfl (by first|exact Or.inl rfl|exact Or.inr rfl) (pv 5))))))
 (AE (A9 (Aa Cr (AN (Dr hr) rfl B.repr MP (AA (Ar (AA (pv 1) (AA (pv 2) AB))) AB)) (pv 3) (Ae _))
 (AI (AS Aq))
 Ad)
 (AE (A9 (Aa Rz (pv 4) LA (Ae _))
 (AI (AS Aq))
 Ad)
 (AE (A9 (Ck (AN (EL K) rfl B.isinstance AZ (AA (pv 4) (AA (An (AA (A0 (x:="NoChange") (v:=.ref EX.c_NoChange) rfl EX.m_NoChange rfl) (AA (A0 (x:="NoCover") (v:=.ref EX.c_NoCover) rfl EX.m_NoCover rfl) (AA (A0 (x:="NoLeaf") (v:=.ref EX.c_NoLeaf) rfl EX.m_NoLeaf rfl) (AA (A0 (x:="NoLetter") (v:=.ref EX.c_NoLetter) rfl EX.m_NoLetter rfl) (AA (A0 (x:="NoLine") (v:=.ref EX.c_NoLine) rfl EX.m_NoLine rfl) (AA (A0 (x:="NoNumber") (v:=.ref EX.c_NoNumber) rfl EX.m_NoNumber rfl) (AA (A0 (x:="NoPattern") (v:=.ref EX.c_NoPattern) rfl EX.m_NoPattern rfl) AB)))))))) AB))))
 (AI (AS Aq))
 Ad)
 (AE (A9 (Ck (AN (EL K) rfl B.isinstance AZ (AA (pv 4) (AA (An (AA (A0 (x:="NoPlace") (v:=.ref EX.c_NoPlace) rfl EX.m_NoPlace rfl) (AA (A0 (x:="NoRows") (v:=.ref EX.c_NoRows) rfl EX.m_NoRows rfl) (AA (A0 (x:="NoRuns") (v:=.ref EX.c_NoRuns) rfl EX.m_NoRuns rfl) (AA (A0 (x:="NoText") (v:=.ref EX.c_NoText) rfl EX.m_NoText rfl) (AA (A0 (x:="NoTree") (v:=.ref EX.c_NoTree) rfl EX.m_NoTree rfl) (AA (A0 (x:="NoWord") (v:=.ref EX.c_NoWord) rfl EX.m_NoWord rfl) AB))))))) AB))))
 (AI (AS Aq))
 Ad)
 (AE (A9 (DP (Ck (AN (Hm K) rfl B.isinstance AZ (AA (pv 4) (AA (CN (v:=.ty "ValueError") rfl B.ValueError_ Hs rfl) AB)))))
 (AI (AS Aq))
 Ad)
 (AE (A9 (Aa Fs (AN (DH K) rfl B.isinstance AZ (AA (pv 4) (AA (A0 (x:="NoTries") (v:=.ref EX.c_NoTries) rfl EX.m_NoTries rfl) AB))) (AN (DH K) rfl B.isinstance AZ (AA (pv 4) (AA (A0 (x:="TooMany") (v:=.ref EX.c_TooMany) rfl EX.m_TooMany rfl) AB))) (Ae _))
 (AI (AS Aq))
 Ad)
 (AI (AS (AU Av (Ar (AA Aq (AA Aq AB))) (Af B0 rfl B.int_ DG (AA (AN (DH K) rfl B.isinstance AZ (AA (pv 4) (AA (A0 (x:="NoTries") (v:=.ref EX.c_NoTries) rfl EX.m_NoTries rfl) AB))) AB)) (λ_ _=>rfl))))))))))))),?_⟩
 refine⟨_,rfl,_,rfl,(by show 2<=sizeLine;decide),λl hl=>?_⟩
 generalize hJ:upd H l _=H1;have s1:AG H H1:=by rw[<-hJ];exact(AG.refl H).new hl
 have h1:H1 l=some (.lst [v,v']):=by rw[<-hJ];exact AD
 clear hJ;refine⟨.ref l,.list [d,d'],rfl,.lst h1 (.cons (td.same s1) (.cons (td'.same s1) .nil)),fit,?_⟩
 dsimp only[Js]
 generalize hk:(PyData.list [d,d']).shown=kept;refine mid (λσ' H'=>σ'=[some (.int n),some v,some v',some (.str kept),some .BK,none]/\H'=H1) ?_ λE nx=>nx _ _ ⟨rfl,rfl⟩
 rintro σ' H' ⟨e1,e2⟩;rw[e1,e2];clear e1 e2;refine mid (λσ' HX=>AG H HX/\∃o4,σ'=[some (.int n),some v,some v',some (.str kept),some o4,none]/\((o4=.BK/\∀H',AG HX H'->Q (.str "told") H')\/(∃a,o4=.ref a/\HX a=some (Ef a EX.c_NoTries)/\∀H',AG HX H'->Q (.str "tries") H')\/(∃a,o4=.ref a/\HX a=some (Ef a EX.c_TooMany)/\∀H',AG HX H'->Q (.str "many") H'))) ?_ λE nx=>?_
 ·rintro σ' HX ⟨sX,o4,rfl,h4⟩
  refine⟨_,rfl,_,rfl,(by show 2<=sizeLine;decide),λl2 hl2=>?_⟩
  generalize hJ:upd HX l2 _=H2;have s2:AG HX H2:=by rw[<-hJ];exact(AG.refl HX).new hl2
  have h2:H2 l2=some (.lst [v,v']):=by rw[<-hJ];exact AD
  clear hJ;have sH2:=sX.trans s2;refine⟨.ref l2,.list [d,d'],rfl,.lst h2 (.cons (td.same sH2) (.cons (td'.same sH2) .nil)),fit,_,rfl,?_⟩
  rw[hk];refine⟨rfl,_,rfl,L2.Dq (by simp) ?_⟩
  rcases h4 with⟨rfl,q⟩|⟨a,rfl,ha,q⟩|⟨a,rfl,ha,q⟩
  ·refine⟨_,rfl,rfl,_,rfl,Ir ?_⟩
   exact q H2 s2
  ·have ha2:=s2 _ _ ha
   refine⟨_,rfl,rfl,_,rfl,DN ?_⟩
   refine⟨_,rfl,(by show 7<=sizeLine;decide),λt3 ht3=>?_⟩
   generalize hJ:upd H2 t3 _=H3;have s3:AG H2 H3:=by rw[<-hJ];exact(AG.refl H2).new ht3
   have h3:H3 t3=some (.tup ([EX.c_NoChange,EX.c_NoCover,EX.c_NoLeaf,EX.c_NoLetter,EX.c_NoLine,EX.c_NoNumber,EX.c_NoPattern].map V.ref)):=by rw[<-hJ];exact AD
   clear hJ;have ha3:=s3 _ _ ha2;refine⟨a,EX.c_NoTries,t3,_,false,rfl,ha3,h3,EX.z_NoTries,EX.n3,_,rfl,DN ?_⟩
   refine⟨_,rfl,(by show 6<=sizeLine;decide),λt4 ht4=>?_⟩
   generalize hJ:upd H3 t4 _=H4;have s4:AG H3 H4:=by rw[<-hJ];exact(AG.refl H3).new ht4
   have h4:H4 t4=some (.tup ([EX.c_NoPlace,EX.c_NoRows,EX.c_NoRuns,EX.c_NoText,EX.c_NoTree,EX.c_NoWord].map V.ref)):=by rw[<-hJ];exact AD
   clear hJ;have ha4:=s4 _ _ ha3;refine⟨a,EX.c_NoTries,t4,_,false,rfl,ha4,h4,EX.z_NoTries,EX.n4,_,rfl,DN ?_⟩
   refine⟨_,rfl,a,EX.c_NoTries,"ValueError",true,rfl,ha4,EX.z_NoTries,EX.nv,_,rfl,DN ?_⟩
   refine⟨_,rfl,a,EX.c_NoTries,_,true,rfl,ha4,EX.z_NoTries,EX.n0,_,rfl,a,EX.c_NoTries,_,false,rfl,ha4,EX.z_NoTries,EX.n1,?_⟩
   refine⟨rfl,_,rfl,L2.Dq rfl ?_⟩
   refine⟨(by show 2<=sizeLine;decide),λlr hlr=>?_⟩
   generalize hJ:upd H4 lr _=H5;have s5:AG H4 H5:=by rw[<-hJ];exact(AG.refl H4).new hlr
   have h5:H5 lr=some (.lst [.str "many",.str "tries"]):=by rw[<-hJ];exact AD
   clear hJ;refine⟨_,rfl,a,EX.c_NoTries,_,true,rfl,s5 _ _ ha4,EX.z_NoTries,EX.n0,.inr ⟨true,rfl,?_⟩⟩
   refine⟨lr,_,_,.str "tries",rfl,rfl,Ah.of h5,rfl,?_⟩
   exact q H5 (((s2.trans s3).trans s4).trans s5)
  ·have ha2:=s2 _ _ ha
   refine⟨_,rfl,rfl,_,rfl,DN ?_⟩
   refine⟨_,rfl,(by show 7<=sizeLine;decide),λt3 ht3=>?_⟩
   generalize hJ:upd H2 t3 _=H3;have s3:AG H2 H3:=by rw[<-hJ];exact(AG.refl H2).new ht3
   have h3:H3 t3=some (.tup ([EX.c_NoChange,EX.c_NoCover,EX.c_NoLeaf,EX.c_NoLetter,EX.c_NoLine,EX.c_NoNumber,EX.c_NoPattern].map V.ref)):=by rw[<-hJ];exact AD
   clear hJ;have ha3:=s3 _ _ ha2;refine⟨a,EX.c_TooMany,t3,_,false,rfl,ha3,h3,EX.z_TooMany,EX.w3,_,rfl,DN ?_⟩
   refine⟨_,rfl,(by show 6<=sizeLine;decide),λt4 ht4=>?_⟩
   generalize hJ:upd H3 t4 _=H4;have s4:AG H3 H4:=by rw[<-hJ];exact(AG.refl H3).new ht4
   have h4:H4 t4=some (.tup ([EX.c_NoPlace,EX.c_NoRows,EX.c_NoRuns,EX.c_NoText,EX.c_NoTree,EX.c_NoWord].map V.ref)):=by rw[<-hJ];exact AD
   clear hJ;have ha4:=s4 _ _ ha3;refine⟨a,EX.c_TooMany,t4,_,false,rfl,ha4,h4,EX.z_TooMany,EX.w4,_,rfl,DN ?_⟩
   refine⟨_,rfl,a,EX.c_TooMany,"ValueError",true,rfl,ha4,EX.z_TooMany,EX.wv,_,rfl,DN ?_⟩
   refine⟨_,rfl,a,EX.c_TooMany,_,false,rfl,ha4,EX.z_TooMany,EX.w0,_,rfl,a,EX.c_TooMany,_,true,rfl,ha4,EX.z_TooMany,EX.w1,?_⟩
   refine⟨rfl,_,rfl,L2.Dq rfl ?_⟩
   refine⟨(by show 2<=sizeLine;decide),λlr hlr=>?_⟩
   generalize hJ:upd H4 lr _=H5;have s5:AG H4 H5:=by rw[<-hJ];exact(AG.refl H4).new hlr
   have h5:H5 lr=some (.lst [.str "many",.str "tries"]):=by rw[<-hJ];exact AD
   clear hJ;refine⟨_,rfl,a,EX.c_TooMany,_,false,rfl,s5 _ _ ha4,EX.z_TooMany,EX.w0,.inr ⟨false,rfl,?_⟩⟩
   refine⟨lr,_,_,.str "many",rfl,rfl,Ah.of h5,rfl,?_⟩
   exact q H5 (((s2.trans s3).trans s4).trans s5)
 ·by_cases n0:n=0
  ·subst n0
   refine⟨_,rfl,rfl,_,rfl,Ir ?_⟩
   refine⟨rfl,_,rfl,_,rfl,v,v',d,d',rfl,td.same s1,shy,td'.same s1,shy',?_⟩
   rcases h with⟨ntwo,q⟩|⟨two,us1,us2,t,t',c,gd,q⟩
   ·refine .inl ⟨ntwo,λa H' sA ha=>⟨a,EX.c_NoTries,rfl,rfl,EX.u_NoTries,?_⟩⟩
    have sN:AG H (upd H' a (Ef a EX.c_NoTries)):=(s1.trans sA).new ha;refine⟨_,rfl,?_⟩
    exact nx _ _ ⟨sN,.ref a,rfl,.inr (.inl ⟨a,rfl,AD,λH3 s3=>q H3 (sN.trans s3)⟩)⟩
   ·have gd1:Good H1 v v' us1 us2 t t' c:=⟨gd.ev,gd.ev',gd.g1,gd.g2,gd.t1.same s1,gd.t2.same s1,gd.h1,gd.h2⟩
    refine .inr ⟨two,us1,us2,t,t',c,gd1,λus nd m=>⟨λle r H' sA=>?_,λgt a H' sA ha=>⟨a,EX.c_TooMany,rfl,rfl,EX.u_TooMany,?_⟩⟩⟩
    ·exact nx _ _ ⟨s1.trans sA,.BK,rfl,.inl ⟨rfl,λH3 s3=>(q us nd m).1 (.inr le) H3 ((s1.trans sA).trans s3)⟩⟩
    ·have sN:AG H (upd H' a (Ef a EX.c_TooMany)):=(s1.trans sA).new ha
     refine⟨_,rfl,?_⟩
     exact nx _ _ ⟨sN,.ref a,rfl,.inr (.inr ⟨a,rfl,AD,λH3 s3=>(q us nd m).2 rfl gt H3 (sN.trans s3)⟩)⟩
  ·refine⟨_,rfl,rfl,_,rfl,L2.Dq (decide_eq_false λz=>n0 (by injection z)) ?_⟩
   refine⟨rfl,_,rfl,_,rfl,v,v',d,d',rfl,td.same s1,shy,td'.same s1,shy',?_⟩
   rcases h with⟨ntwo,q⟩|⟨two,us1,us2,t,t',c,gd,q⟩
   ·refine .inl ⟨ntwo,λa H' sA ha=>⟨a,EX.c_NoTries,rfl,rfl,EX.u_NoTries,?_⟩⟩
    have sN:AG H (upd H' a (Ef a EX.c_NoTries)):=(s1.trans sA).new ha;refine⟨_,rfl,?_⟩
    exact nx _ _ ⟨sN,.ref a,rfl,.inr (.inl ⟨a,rfl,AD,λH3 s3=>q H3 (sN.trans s3)⟩)⟩
   ·have gd1:Good H1 v v' us1 us2 t t' c:=⟨gd.ev,gd.ev',gd.g1,gd.g2,gd.t1.same s1,gd.t2.same s1,gd.h1,gd.h2⟩
    refine .inr ⟨two,us1,us2,t,t',c,gd1,λr H' sA=>?_⟩
    obtain⟨us,nd,m⟩:=Q9 us1 us2;exact nx _ _ ⟨s1.trans sA,.BK,rfl,.inl ⟨rfl,λH3 s3=>(q us nd m).1 (.inl n0) H3 ((s1.trans sA).trans s3)⟩⟩
end
end S58
namespace S58
open PySem L2 W7 W55
structure Wy (c:Nat)(ws:List Str):Prop where
 cl:Cl ws
 hd:∀z∈ws,z.cps.toList.head?=some c
 ne:ws≠[]
 le:ws.length<=60
 zl:∀z∈ws,z.length<=60
 low:∀z∈ws,Co z.cps.toList
theorem Wy.gd {c:Nat}{ws us:List Str}(g:Wy c ws)(u:Uq us ws)(ul:us.length<=ws.length):Gd us/\∀z∈us,z.cps.toList.head?=some c:=by
 have le:=g.le;refine⟨⟨g.cl.perm u.mem,strict u.srt u.nd,λe=>?_,by omega,λz hz=>g.zl z ((u.mem z).mp hz),λz hz=>g.low z ((u.mem z).mp hz)⟩,λz hz=>g.hd z ((u.mem z).mp hz)⟩
 obtain⟨x,hx⟩:=List.exists_mem_of_ne_nil _ g.ne;have:=(u.mem x).mpr hx;rw[e]at this;cases this
theorem Gd.root {us:List Str}(g:Gd us){c:Nat}(h:∀z∈us,z.cps.toList.head?=some c):∃z∈us,z.cps.toList=[c]/\(EJ us).getD 0 0=c:=by
 have lp:0 < us.length:=List.length_pos_iff.mpr g.ne;have l:=W57.S9 g.cl g.srt g.ne g.le;have hh:=h _ (List.getElem_mem lp)
 have e:(us[0]'lp).cps.toList=[c]:=by
  generalize(us[0]'lp).cps.toList=l0 at l hh
  match l0,l,hh with
  |[x],_,hh=>cases hh;rfl
 exact⟨_,List.getElem_mem lp,e,by rw[W57.JY 0 lp,e];rfl⟩
def ES (us:List Str):PyData:=.tuple [.tuple ((Az us).map .int),.str (FH us)]
end S58
namespace S58
open PySem L2 W7 W55
theorem RA {kvs:List (Key×V)}{k:Key}(v:V)(h:k∈kvs.map (·.1)):(putK kvs k v).map (·.1)=kvs.map (·.1):=by
 have a:(kvs.any λkv=>decide (kv.1=k))=true:=by
  obtain⟨p,hp,e⟩:=List.mem_map.mp h;exact List.any_eq_true.mpr ⟨p,hp,decide_eq_true e⟩
 unfold putK;rw[if_pos a,List.map_map];refine List.map_congr_left λp _=>?_
 show(if p.1=k then(p.1,v)else p).1=p.1
 split<;>rfl
theorem P9 {kvs:List (Key×V)}{k:Key}(v:V)(h:¬k∈kvs.map (·.1)):(putK kvs k v).map (·.1)=kvs.map (·.1)++[k]:=by
 have a:¬(kvs.any λkv=>decide (kv.1=k))=true:=λa=>by
  obtain⟨p,hp,e⟩:=List.any_eq_true.mp a;exact h (List.mem_map.mpr ⟨p,hp,of_decide_eq_true e⟩)
 unfold putK;rw[if_neg a,List.map_append];rfl
structure Kz (c:Nat)(kvs:List (Key×V))(zs:List Str):Prop where
 ks:kvs.map (·.1)=zs.map Sum.inr
 nd:zs.Nodup
 ne:∀z∈zs,z.cps.toList≠[]
 fr:∀z∈zs,1 < z.cps.toList.length->front z∈zs
 hd:∀z∈zs,z.cps.toList.head?=some c
 low:∀z∈zs,Co z.cps.toList
theorem Kz.put {c:Nat}{kvs:List (Key×V)}{zs:List Str}(h:Kz c kvs zs){z:Str}(v:V)(ne:z.cps.toList≠[])(fr:1 < z.cps.toList.length->front z∈zs)(hd:z.cps.toList.head?=some c)(low:Co z.cps.toList):∃zs',Kz c (putK kvs (.inr z) v) zs'/\(∀x∈zs,x∈zs')/\z∈zs'/\zs'.length<=zs.length+1:=by
 by_cases m:z∈zs
 ·refine⟨zs,⟨?_,h.nd,h.ne,h.fr,h.hd,h.low⟩,λx hx=>hx,m,by omega⟩
  rw[RA v (by rw[h.ks];exact List.mem_map.mpr ⟨z,m,rfl⟩)];exact h.ks
 ·have nk:¬(Sum.inr z:Key)∈kvs.map (·.1):=λe=>by
   rw[h.ks]at e;obtain⟨y,hy,ey⟩:=List.mem_map.mp e;injection ey with ey
   subst ey;exact m hy
  have or:∀{p:Str->Prop},(∀x∈zs,p x)->p z->∀x∈zs++[z],p x:=λ{p} a b x hx=>by
   rcases List.mem_append.mp hx with q|q
   ·exact a x q
   ·rw[List.mem_singleton.mp q];exact b
  refine⟨zs++[z],⟨by rw[P9 v nk,h.ks,List.map_append];rfl,?_,or h.ne ne,or (λx hx l=>List.mem_append_left _ (h.fr x hx l)) (λl=>List.mem_append_left _ (fr l)),or h.hd hd,or h.low low⟩,λx hx=>List.mem_append_left _ hx,by simp,by simp⟩
  rw[List.nodup_append];exact⟨h.nd,by simp,λa ha b hb e=>m (by rw[<-List.mem_singleton.mp hb,<-e];exact ha)⟩
theorem Jg {us:List Str}(srt:us.Pairwise (λa b=>a.cps.toList < b.cps.toList))(ne:∀z∈us,z.cps.toList≠[])(fr:∀z∈us,1 < z.cps.toList.length->front z∈us):∀(n i:Nat),i < n->∀hi:i < us.length,us[i].cps.toList.length<=i+1/\(1 < us[i].cps.toList.length->∃(j:Nat) (hj:j < us.length),j < i/\us[j]=front us[i])
 |0,_,h,_=>absurd h (Nat.not_lt_zero _)
 |n+1,i,hn,hi=>by
  have key:1 < us[i].cps.toList.length->∃(j:Nat) (hj:j < us.length),j < i/\us[j]=front us[i]:=λl=>by
   have m:=fr _ (List.getElem_mem hi) l;obtain⟨j,hj,e⟩:=List.getElem_of_mem m;refine⟨j,hj,?_,e⟩
   have fl:=Gm (ne _ (List.getElem_mem hi));rw[<-e]at fl
   rcases Nat.lt_trichotomy j i with z|z|z
   ·exact z
   ·subst z;exact absurd fl (List.lt_irrefl _)
   ·exact absurd (List.lt_trans fl (List.pairwise_iff_getElem.mp srt i j hi hj z)) (List.lt_irrefl _)
  refine⟨?_,key⟩
  rcases Nat.lt_or_ge 1 us[i].cps.toList.length with l|l
  ·obtain⟨j,hj,ji,e⟩:=key l
   have:=(Jg srt ne fr n j (by omega) hj).1
   rw[e]at this;have fl:(front us[i]).cps.toList.length=us[i].cps.toList.length - 1:=by show us[i].cps.toList.dropLast.length=_;rw[List.length_dropLast]
   omega
  ·omega
theorem QA {c:Nat}{us:List Str}(srt:us.Pairwise (λa b=>a.cps.toList < b.cps.toList))(ne:∀z∈us,z.cps.toList≠[])(fr:∀z∈us,1 < z.cps.toList.length->front z∈us)(hd:∀z∈us,z.cps.toList.head?=some c)(low:∀z∈us,Co z.cps.toList)(u0:us≠[]){m0:Nat}(m60:m0<=60)(m1:1<=m0):Wy c (us.take m0):=by
 have sub:∀z∈us.take m0,z∈us:=λz hz=>List.mem_of_mem_take hz
 refine⟨⟨λz hz=>ne z (sub z hz),λz hz l=>?_,c,λz hz=>hd z (sub z hz)⟩,λz hz=>hd z (sub z hz),λe=>?_,by rw[List.length_take];omega,λz hz=>?_,λz hz=>low z (sub z hz)⟩
 ·obtain⟨i,hi,e⟩:=List.getElem_of_mem hz
  rw[List.length_take]at hi;rw[List.getElem_take]at e;subst e;obtain⟨j,hj,ji,ej⟩:=(Jg srt ne fr (i+1) i (Nat.lt_succ_self _) (by omega)).2 l
  rw[<-ej];refine List.mem_of_getElem? (i:=j) ?_
  rw[List.getElem?_take,if_pos (by omega),List.getElem?_eq_getElem hj]
 ·have l:=congrArg List.length e
  rw[List.length_take,List.length_nil]at l;have:=List.length_pos_iff.mpr u0;omega
 ·obtain⟨i,hi,e⟩:=List.getElem_of_mem hz
  rw[List.length_take]at hi;rw[List.getElem_take]at e;subst e;have:=(Jg srt ne fr (i+1) i (Nat.lt_succ_self _) (by omega)).1
  rw[Bj]at this;omega
theorem Um (ss:List Str)(m0:Nat):CY (ss.map V.str) none (some (m0:Int))=(ss.take m0).map V.str:=by
 unfold CY;have e:HT.As (ss.map V.str).length (ss.map V.str).length (some ((m0:Nat):Int))=min m0 ss.length:=by rw[HT.Eo,List.length_map]
 rw[e,HT.DT,List.drop_zero,Nat.sub_zero,<-List.map_take]
 congr 1
 rcases Nat.lt_or_ge m0 ss.length with h|h
 ·rw[Nat.min_eq_left (by omega)]
 ·rw[Nat.min_eq_right h,List.take_length,List.take_of_length_le h]
theorem mo (ch:Nat)(b:Bool):MulOk (⟨#[ch]⟩:Str) (if b then 1 else 0):=by
 cases b
 ·exact PyProof.Rows.mulOk_of 1 60 (Nat.le_refl _) (by decide) (by decide) (by decide) (by decide)
 ·exact PyProof.Rows.mulOk_of 1 60 (Nat.le_refl _) (by decide) (by decide) (by decide) (by decide)
theorem ml (ch:Nat)(b:Bool):(Txt.mul (⟨#[ch]⟩:Str) (if b then 1 else 0)).cps.toList=if b then[ch]else[]:=by cases b<;>rfl
section
variable {P:Program}{w:World}{K:PySem.W.Frag}{mg:Str->Option Value}{base:Heap}{k:Nat}
def M3:Sp:=λvs H Q _=>∃(p l:Addr) (c:Nat) (ws:List Str) (m0:Nat),vs=[.ref p,.ref l,.int (m0:Int)]/\m0<=60/\1<=m0/\DF H p/\H l=some (.lst (ws.map V.str))/\l≠p/\Wy c ws/\ws[0]?=some (mk [c])/\∀(r:Addr) (rs:List Str) (H':Hp),Kp p H H'->H r=none->H' r=some (.lst (rs.map V.str))->Wy c rs->Q (.ref r) H'
theorem QB (D:Df K mg "_law_part" s_law_part)(B:B6 mg)(G_law_take:BO P w K mg base "_law_take" k ["pool","many"] CP):BO P w K mg base "_law_part" (k+1) ["pool","ways","most"] M3:=by
 refine D.has Bq (λ_ _ _ _ _ _ us hl=>match us,hl with|[_,_,_],_=>rfl) (λvs H Q E h=>by obtain⟨p,l,c,ws,m0,rfl,_⟩:=h;rfl) (λf cdv A outer s H vs Q E hr h=>?_)
 obtain⟨p,l,c,ws,m0,rfl,m60,m1,hp,hl,lp,g,hz0,q⟩:=h;refine⟨_,(AE (AM (i:=3) Bq.nd rfl (by first|exact Or.inl rfl|exact Or.inr rfl) (Qe (Ot (AU Av (pv 1) AF (λ_ _=>rfl)) CM Qd) rfl rfl (by simp) (by decide)))
 (AE (Bs PassesOwn.never rfl (Br (GZ K rfl rfl B.sorted rfl B.set_ (AA (pv 1) AB))) (AW (i:=4) Bq.nd rfl (by first|exact Or.inl rfl|exact Or.inr rfl))
 (AE (AM (i:=5) Bq.nd rfl (by first|exact Or.inl rfl|exact Or.inr rfl) (AH G_law_take hr rfl (AA (pv 0) (AA AF AB))))
 (AE (AM (i:=6) Bq.nd rfl (by first|exact Or.inl rfl|exact Or.inr rfl) (AR Ax (pv 4) (AR LP (AU Cn Aq (AH G_law_take hr rfl (AA (pv 0) (AA AF AB))) (λ_ _=>rfl)) (Af B0 rfl B.int_ DG (AA (Ca Fs (pv 5) AF (Ae _)) AB)))))
 (AI (A9 (Aa ME (pv 5) AF (Ae _))
 (AI (Bs PassesOwn.never rfl (Cp rfl B.range (AA AF (AA (AR BB (AN Bb rfl B.len A6 (AA (pv 6) AB)) AF) AB))) (AW (i:=7) Bq.nd rfl (by first|exact Or.inl rfl|exact Or.inr rfl))
 (AI (Qc (OY hr) (pv 3) (BN EV (pv 6) Bg (Ba (pv 7))) CM rfl))))
 Ad)))))
 (AI (AS (BN MJ (AN (JU rfl) rfl B.sorted NS (AA (pv 3) AB)) Bg (Ba (pv 2))))))),?_⟩
 have le:=g.le;have wpos:0 < ws.length:=List.length_pos_iff.mpr g.ne;have hl26:(Str.ofString "abcdefghijklmnopqrstuvwxyz").length=26:=by decide+kernel
 have z0m:=List.mem_of_getElem? hz0;refine λd hd0=>?_
 have kd0:Kp p H (upd H d (.dK [])):=(Kp.refl hp).new hd0;have dp:d≠p:=hp.ne hd0;have ld:l≠d:=AL hl hd0;refine⟨_,rfl,l,_,_,_,rfl,rfl,Ah.of (by rw[AO ld];exact hl),BH (j:=0) (v:=.str (mk [c])) (by rw[List.getElem?_map,hz0];rfl),AD,[(.inr (mk [c]),.bl true)],rfl,by simp,?_⟩
 have hm:FY [] [((Sum.inr (mk [c]):Key),V.bl true)]=[(Sum.inr (mk [c]),V.bl true)]:=rfl;rw[hm,L6];have kd1:Kp p H (upd H d (.dK [(Sum.inr (mk [c]),V.bl true)])):=(Kp.refl hp).new hd0;have hd1:upd H d (.dK [(Sum.inr (mk [c]),V.bl true)]) d=some (.dK [(Sum.inr (mk [c]),V.bl true)]):=AD;have hl1:upd H d (.dK [(Sum.inr (mk [c]),V.bl true)]) l=some (.lst (ws.map V.str)):=by rw[AO ld];exact hl
 show(λHH=>_) (upd H d (.dK [(Sum.inr (mk [c]),V.bl true)]))
 generalize upd H d (.dK [(Sum.inr (mk [c]),V.bl true)])=H1 at kd1 hd1 hl1;have kz0:Kz c [((Sum.inr (mk [c]):Key),V.bl true)] [mk [c]]:=⟨rfl,by simp,λz hz=>by rw[List.mem_singleton.mp hz,BQ];simp,λz hz l=>by rw[List.mem_singleton.mp hz,BQ]at l;simp at l,λz hz=>by rw[List.mem_singleton.mp hz,BQ];rfl,λz hz=>by rw[List.mem_singleton.mp hz];exact g.low _ z0m⟩
 refine⟨_,rfl,l,ws,rfl,Ah.of hl1,by omega,λus r4 nd mem srt len hr4=>?_⟩
 have s2:AG H1 (upd H1 r4 (.lst (us.map V.str))):=(AG.refl H1).new hr4;have h4:upd H1 r4 (.lst (us.map V.str)) r4=some (.lst (us.map V.str)):=AD;have kd2:Kp p H (upd H1 r4 (.lst (us.map V.str))):=kd1.new hr4;have r4p:r4≠p:=kd1.pool.ne hr4;have r4d:r4≠d:=(AL hd1 hr4).symm;show(λHH=>_) (upd H1 r4 (.lst (us.map V.str)))
 generalize upd H1 r4 (.lst (us.map V.str))=H2 at s2 h4 kd2;refine⟨r4,rfl,⟨_,Ah.of h4⟩,?_⟩
 refine GP (K:=K) (xs:=us.map V.str) (λi σ HX=>∃(o4 o5 o6 o7:Option V) (kvs:List (Key×V)) (zs:List Str),σ=[some (.ref p),some (.ref l),some (.int (m0:Int)),some (.ref d),o4,o5,o6,o7]/\Kp p H HX/\HX r4=some (.lst (us.map V.str))/\HX d=some (.dK kvs)/\Kz c kvs zs/\zs≠[]/\zs.length<=1+61*i)
  ⟨none,none,none,none,_,_,rfl,kd2,h4,s2 _ _ hd1,kz0,by simp,by simp⟩ (λi σ HX _ h=>by obtain⟨_,_,_,_,_,_,_,_,h,_⟩:=h;exact Ah.of h) ?_ ?_
 ·rintro i x σ HX hx ⟨o4,o5,o6,o7,kvs,zs,rfl,kX,h4X,hdX,kz,zne,zlen⟩
  rw[List.getElem?_map]at hx
  cases ez:us[i]? with
  |none=>rw[ez]at hx;cases hx
  |some z=>
   rw[ez]at hx;cases hx;have il:i < us.length:=(List.getElem?_eq_some_iff.mp ez).1
   have zm:=(mem z).mp (List.mem_of_getElem? ez);have z60:=g.zl z zm;have zhd:=g.hd z zm;have zlow:=g.low z zm;have zc:=Bj z;refine⟨_,rfl,p,5,rfl,kX.pool,by decide,by decide,λn1 HA a0 a1 kA=>?_⟩
   have k1:=kX.trans kA;refine⟨_,rfl,_,rfl,p,26,rfl,k1.pool,by decide,by decide,λn2 HB b0 b1 kB=>?_⟩
   have k2:=k1.trans kB;obtain⟨ch,hch,chl⟩:=MX (i:=n2) b0 (by omega)
   refine⟨_,_,_,rfl,rfl,by rw[hl26];exact Nat.le_of_lt (AK (by decide)),hch,_,rfl,rfl,.inr ⟨_,rfl,_,_,rfl,rfl,?_,_,_,rfl,rfl,?_,?_⟩⟩
   ·exact mo ch _
   ·have l1:=ml ch (decide (V.int n1=V.int 0))
    have e:(Txt.mul (⟨#[ch]⟩:Str) (if decide (V.int n1=V.int 0)then 1 else 0)).length<=1:=by
     rw[<-Bj,l1];split<;>simp
    exact Nat.le_of_lt (AK (by
     have e':(Txt.mul (⟨#[ch]⟩:Str) (if decide (V.int n1=V.int 0)then 1 else 0)).length<=1:=e
     show z.length+(Txt.mul (⟨#[ch]⟩:Str) (if decide (V.int n1=V.int 0)then 1 else 0)).length<=1000
     omega))
   have tx1:(z++Txt.mul (⟨#[ch]⟩:Str) (if decide (V.int n1=V.int 0)then 1 else 0)).cps.toList=z.cps.toList++(if decide (V.int n1=V.int 0)then[ch]else[]):=by rw[app_list,ml]
   have zne':=g.cl.ne z zm
   have tl:1<=(z++Txt.mul (⟨#[ch]⟩:Str) (if decide (V.int n1=V.int 0)then 1 else 0)).length/\(z++Txt.mul (⟨#[ch]⟩:Str) (if decide (V.int n1=V.int 0)then 1 else 0)).length<=61:=by
    have zp:=List.length_pos_iff.mpr zne';rw[<-Bj,tx1,List.length_append]
    split
    ·show 1<=_+1/\_+1<=61;omega
    ·show 1<=_+0/\_+0<=61;omega
   have th:(z++Txt.mul (⟨#[ch]⟩:Str) (if decide (V.int n1=V.int 0)then 1 else 0)).cps.toList.head?=some c:=by
    rw[tx1];cases e:z.cps.toList with
    |nil=>exact absurd e zne'
    |cons x r=>rw[e]at zhd;exact zhd
   have tlow:Co (z++Txt.mul (⟨#[ch]⟩:Str) (if decide (V.int n1=V.int 0)then 1 else 0)).cps.toList:=by
    rw[tx1];refine Co.app zlow ?_
    split
    ·exact Co.one chl
    ·exact Co.nil
   show(λTX=>_) (z++Txt.mul (⟨#[ch]⟩:Str) (if decide (V.int n1=V.int 0)then 1 else 0))
   generalize z++Txt.mul (⟨#[ch]⟩:Str) (if decide (V.int n1=V.int 0)then 1 else 0)=tx at tl th tlow
   have h4B:=kB.keep _ _ r4p (kA.keep _ _ r4p h4X);have hdB:=kB.keep _ _ dp (kA.keep _ _ dp hdX);refine⟨_,rfl,_,_,rfl,rfl,_,rfl,CZ (λc3=>?_) (λc3=>?_)⟩
   ·have ts:tx.length<=sizeLine:=Nat.le_of_lt (AK (by omega))
    refine⟨_,rfl,tx,rfl,ts,_,_,rfl,rfl,_,_,rfl,⟨by decide,by decide,by omega,by omega⟩,?_⟩
    have eN:((tx.length:Int)+1 - 1).toNat=tx.length:=by omega
    refine Bm (lo:=1) (n:=((tx.length:Int)+1 - 1).toNat) (λj σ HC=>∃(o7:Option V) (kvs:List (Key×V)) (zs:List Str),σ=[some (.ref p),some (.ref l),some (.int (m0:Int)),some (.ref d),some (.str z),some (.int n1),some (.str tx),o7]/\Kp p H HC/\HC r4=some (.lst (us.map V.str))/\HC d=some (.dK kvs)/\Kz c kvs zs/\zs≠[]/\zs.length<=1+61*i+j/\(0 < j->mk (tx.cps.toList.take j)∈zs))
     ⟨o7,kvs,zs,rfl,k2,h4B,hdB,kz,zne,by omega,λh=>absurd h (Nat.lt_irrefl _)⟩ ?_ ?_
    ·rintro j σ HC hj ⟨o7',kvs',zs',rfl,kC,h4C,hdC,kz',zne2,zlen2,inn⟩
     rw[eN]at hj;have tc:=Bj tx
     have ek:CT tx none (some (1+(j:Int)))=mk (tx.cps.toList.take (j+1)):=by
      rw[show(1+(j:Int))=((j+1:Nat):Int) by omega];exact Cf (Qa tx (j+1))
     refine⟨_,rfl,_,rfl,_,rfl,_,rfl,tx,rfl,ts,?_⟩
     rw[ek];have tk:(tx.cps.toList.take (j+1)).length=j+1:=by rw[List.length_take];omega
     obtain⟨zs3,kz3,sub3,in3,len3⟩:=kz'.put (z:=mk (tx.cps.toList.take (j+1))) (.bl true) (by rw[BQ];intro e;rw[e]at tk;cases tk) (by
      intro hl;rw[BQ,tk]at hl;have j0:0 < j:=by omega
      have e:front (mk (tx.cps.toList.take (j+1)))=mk (tx.cps.toList.take j):=by
       refine KU ?_
       show(tx.cps.toList.take (j+1)).dropLast=tx.cps.toList.take j;rw[List.dropLast_eq_take,tk,List.take_take,Nat.add_sub_cancel,Nat.min_eq_left (by omega)]
      rw[e];exact inn j0) (by
      rw[BQ];cases e:tx.cps.toList with
      |nil=>rw[e]at tc;simp at tc;omega
      |cons x r=>rw[e]at th;exact th) (λy hy=>tlow y (List.mem_of_mem_take hy))
     have cap:zs'.length < 10000:=by omega
     have kvl:kvs'.length=zs'.length:=by have:=congrArg List.length kz'.ks;simpa using this
     refine⟨d,_,rfl,Oo.k (k:=Sum.inr (mk (tx.cps.toList.take (j+1)))) hdC (Gb (by omega)),?_⟩
     refine⟨_,_,zs3,rfl,kC.write hd0 dp,by rw[AO r4d];exact h4C,AD,kz3,(λe=>by rw[e]at in3;cases in3),by omega,λ_=>in3⟩
    ·rintro σ HC ⟨o7',kvs',zs',rfl,kC,h4C,hdC,kz',zne2,zlen2,inn⟩
     rw[eN]at zlen2;exact⟨_,_,_,_,kvs',zs',rfl,kC,h4C,hdC,kz',zne2,by omega⟩
   ·exact⟨_,_,_,_,kvs,zs,rfl,k2,h4B,hdB,kz,zne,by omega⟩
 ·rintro σ HX ⟨o4,o5,o6,o7,kvs,zs,rfl,kX,h4X,hdX,kz,zne,zlen⟩
  refine⟨_,rfl,d,kvs,zs,rfl,.inl hdX,kz.ks,kz.nd,λss l5 perm srt5 hl5=>?_⟩
  have k5:Kp p H (upd HX l5 (.lst (ss.map V.str))):=kX.new hl5;have h5:upd HX l5 (.lst (ss.map V.str)) l5=some (.lst (ss.map V.str)):=AD;show(λHH=>_) (upd HX l5 (.lst (ss.map V.str)))
  generalize upd HX l5 (.lst (ss.map V.str))=HY at k5 h5;refine⟨_,rfl,_,rfl,l5,_,rfl,Ah.of h5,λr hr'=>?_⟩
  rw[Um];have snd:ss.Nodup:=perm.nodup_iff.mpr kz.nd;have pm:∀x,x∈ss↔x∈zs:=λx=>perm.mem_iff
  have wy:=QA (c:=c) (us:=ss) (strict srt5 snd) (λz hz=>kz.ne z ((pm z).mp hz)) (λz hz l=>(pm _).mpr (kz.fr z ((pm z).mp hz) l)) (λz hz=>kz.hd z ((pm z).mp hz)) (λz hz=>kz.low z ((pm z).mp hz)) (λe=>by
   obtain⟨x,hx⟩:=List.exists_mem_of_ne_nil _ zne;have:=(pm x).mpr hx;rw[e]at this;cases this) m60 m1
  exact q r (ss.take m0) _ (k5.new hr') (by
   cases e:H r with
   |none=>rfl
   |some u=>
    have rp:r≠p:=k5.pool.ne hr';have:=k5.keep r u rp e;rw[hr']at this;cases this) AD wy
end
end S58
namespace S58
open PySem L2 W7 W55
theorem M4 {ups:List Int}{lab:Str}(ok:Al ups lab.cps.toList)(lw:Co lab.cps.toList):Wy (lab.cps.toList.getD 0 0) (Qj ups lab)/\(Qj ups lab)[0]?=some (mk [lab.cps.toList.getD 0 0]):=by
 have m60:=ok.most;have lp:=ok.pos
 have mem:∀z∈Qj ups lab,∃j,j < ups.length/\z=mk (W ups lab.cps.toList j).reverse:=λz hz=>by
  obtain⟨j,hj,rfl⟩:=List.mem_map.mp hz;exact⟨j,List.mem_range.mp hj,rfl⟩
 refine⟨⟨Qk ok,λz hz=>?_,λe=>?_,by rw[Dw];omega,λz hz=>(Mb ok z hz).2,λz hz=>?_⟩,?_⟩
 ·obtain⟨j,hj,rfl⟩:=mem z hz
  exact Gu ok (j+1) j (Nat.lt_succ_self _) hj
 ·have:=congrArg List.length e
  rw[Dw,List.length_nil]at this;omega
 ·obtain⟨j,hj,rfl⟩:=mem z hz
  intro c hc;rw[BQ,List.mem_reverse]at hc;exact RX ok lw (j+1) j (Nat.lt_succ_self _) hj c hc
 ·show((List.range ups.length).map _)[0]?=_
  rw[List.getElem?_map,List.getElem?_range lp]
  show some (mk (W ups lab.cps.toList 0).reverse)=_;rw[KJ ok lp,ok.root,if_pos (by decide)];rfl
theorem GI {p:Addr}{H H1 H2:Hp}(a:Kp p H H1)(s:AG H1 H2):Kp p H H2:=by
 refine⟨?_,λc u hc e=>s _ _ (a.keep c u hc e)⟩
 obtain⟨x,y,e⟩:=a.pool;exact⟨x,y,s _ _ e⟩
def TY (c:Nat)(z:Str):Str:=mk (c::z.cps.toList.drop 1)
theorem TZ {c d:Nat}{ws:List Str}(g:Wy d ws)(hc:Lw c):Wy c (ws.map (TY c)):=by
 have len:∀z∈ws,(TY c z).cps.toList.length=z.cps.toList.length:=λz hz=>by
  have:=List.length_pos_iff.mpr (g.cl.ne z hz);show(c::z.cps.toList.drop 1).length=_;rw[List.length_cons,List.length_drop];omega
 have im:∀{y},y∈ws.map (TY c)->∃z∈ws,TY c z=y:=λ{y} hy=>List.mem_map.mp hy
 refine⟨⟨λy hy=>?_,λy hy l=>?_,c,λy hy=>?_⟩,λy hy=>?_,λe=>g.ne (List.map_eq_nil_iff.mp e),by rw[List.length_map];exact g.le,λy hy=>?_,λy hy=>?_⟩
 ·obtain⟨z,hz,rfl⟩:=im hy
  show c::_≠[];simp
 ·obtain⟨z,hz,rfl⟩:=im hy
  rw[len z hz]at l;refine List.mem_map.mpr ⟨front z,g.cl.fr z hz l,KU ?_⟩
  show c::(z.cps.toList.dropLast).drop 1=(c::z.cps.toList.drop 1).dropLast;cases e:z.cps.toList with
  |nil=>rw[e]at l;simp at l
  |cons a r=>
   cases r with
   |nil=>rw[e]at l;simp at l
   |cons b r=>rfl
 ·obtain⟨z,hz,rfl⟩:=im hy;rfl
 ·obtain⟨z,hz,rfl⟩:=im hy;rfl
 ·obtain⟨z,hz,rfl⟩:=im hy
  rw[<-Bj,len z hz,Bj];exact g.zl z hz
 ·obtain⟨z,hz,rfl⟩:=im hy
  intro x hx
  rcases List.mem_cons.mp (show x∈c::z.cps.toList.drop 1 from hx)with q|q
  ·rw[q];exact hc
  ·exact g.low z hz x (List.mem_of_mem_drop q)
section
variable {P:Program}{w:World}{K:PySem.W.Frag}{mg:Str->Option Value}{base:Heap}{k:Nat}
def QC:Sp:=λvs H Q _=>∃(p:Addr) (m0:Nat),vs=[.ref p,.int (m0:Int)]/\m0<=60/\1<=m0/\DF H p/\∀(r o o2:Addr) (c:Nat) (ws ws':List Str) (H':Hp),Kp p H H'->H' r=some (.tup [.ref o,.ref o2])->H' o=some (.lst (ws.map V.str))->H' o2=some (.lst (ws'.map V.str))->Wy c ws->Wy c ws'->Q (.ref r) H'
theorem RB (D:Df K mg "_law_two" s_law_two)(B:B6 mg)(G_law_take:BO P w K mg base "_law_take" k ["pool","many"] CP)(G_law_letters:BO P w K mg base "_law_letters" k ["pool"] Gj)(G_law_tree:BO P w K mg base "_law_tree" k ["pool","most","letters"] MY)(G_law_ways:BO P w K mg base "_law_ways" k ["tree"] Kc)(G_law_part:BO P w K mg base "_law_part" k ["pool","ways","most"] M3):BO P w K mg base "_law_two" (k+1) ["pool","most"] QC:=by
 refine D.has Bk (λ_ _ _ _ _ _ us hl=>match us,hl with|[_,_],_=>rfl) (λvs H Q E h=>by obtain⟨p,m0,rfl,_⟩:=h;rfl) (λf cdv A outer s H vs Q E hr h=>?_)
 obtain⟨p,m0,rfl,m60,m1,hp,q⟩:=h;refine⟨_,(AE (AM (i:=2) Bk.nd rfl (by first|exact Or.inl rfl|exact Or.inr rfl) (AH G_law_take hr rfl (AA (pv 0) (AA AF AB))))
 (AE (AM (i:=3) Bk.nd rfl (by first|exact Or.inl rfl|exact Or.inr rfl) (AH G_law_letters hr rfl (AA (pv 0) AB)))
 (AE (AM (i:=4) Bk.nd rfl (by first|exact Or.inl rfl|exact Or.inr rfl) (AH G_law_ways hr rfl (AA (AH G_law_tree hr rfl (AA (pv 0) (AA (pv 1) (AA (pv 3) AB)))) AB)))
 (AE (MK (i:=5) Bk.nd rfl (by first|exact Or.inl rfl|exact Or.inr rfl) rfl (Br (AH G_law_ways hr rfl (AA (AH G_law_tree hr rfl (AA (pv 0) (AA (pv 1) (AA (pv 3) AB)))) AB))) (NL:=["way"]) (ix:=[4]) (J1 (AJ s_law_two) IM) (λcl C s₃ H₃ fp pins=>⟨(AW (i:=0) (show List.Nodup (["way","one"]:List Str)from by decide+kernel) rfl (by first|exact Or.inl rfl|exact Or.inr rfl)),A3,(AR Ax (AU (GU K) (pv 1) AF (λ_ _=>rfl)) (BN EV (pv 0) (Ba AF) Bg))⟩))
 (AE (A9 (Aa NM (pv 2) (An (AA AF (AA AF AB))) (by with_unfolding_all rfl))
 (AI (AM (i:=5) Bk.nd rfl (by first|exact Or.inl rfl|exact Or.inr rfl) (AH G_law_part hr rfl (AA (pv 0) (AA (pv 4) (AA (pv 1) AB))))))
 Ad)
 (AE (A9 (Aa Fs (pv 2) AF (Ae _))
 (AI (AM (i:=5) Bk.nd rfl (by first|exact Or.inl rfl|exact Or.inr rfl) (pv 4)))
 Ad)
 (AI (AS (An (AA (pv 4) (AA (pv 5) AB))))))))))),?_⟩
 refine⟨_,rfl,p,6,rfl,hp,by decide,by decide,λn1 H1 a0 a1 k1=>?_⟩
 refine⟨_,rfl,p,rfl,k1.pool,λql cs H2 kp2 hq cs0 cs26 clw fq=>?_⟩
 have k2:=k1.trans kp2;have qp:ql≠p:=k1.pool.ne fq;refine⟨_,rfl,_,rfl,_,rfl,p,ql,cs,m0,rfl,m60,m1,k2.pool,hq,cs0,cs26,clw,λt ups lab H3 kp3 tr lw=>⟨t,ups,lab,rfl,tr,λr4 H4 s4 f4 h4=>?_⟩⟩
 have k3:=k2.trans kp3;have k4:Kp p H H4:=GI k3 s4;have r4p:r4≠p:=k3.pool.ne f4;obtain⟨_,_,_,ok⟩:=id tr;obtain⟨wy,w0⟩:=M4 ok lw
 have cl0:Lw (lab.cps.toList.getD 0 0):=by
  have l:=ok.len;have lp:=ok.pos;rw[List.getD_eq_getElem?_getD,List.getElem?_eq_getElem (by omega)]
  exact lw _ (List.getElem_mem _)
 have h4':H4 r4=some (.lst ((Qj ups lab).map V.str)):=h4;clear h4;generalize lab.cps.toList.getD 0 0=c at wy w0 cl0;generalize Qj ups lab=ws at wy w0 h4';have hq4:=s4 _ _ (kp3.keep _ _ qp hq);refine⟨_,rfl,_,rfl,_,rfl,p,ql,cs,m0,rfl,m60,m1,k4.pool,hq4,cs0,cs26,clw,λt' ups' lab' H5 kp5 tr' lw'=>⟨t',ups',lab',rfl,tr',λr6 H6 s6 f6 h6=>?_⟩⟩
 have k5:=k4.trans kp5;have k6:Kp p H H6:=GI k5 s6;obtain⟨_,_,_,ok'⟩:=id tr';obtain⟨wy',_⟩:=M4 ok' lw';have h6':H6 r6=some (.lst ((Qj ups' lab').map V.str)):=h6;clear h6;generalize lab'.cps.toList.getD 0 0=c' at wy';generalize Qj ups' lab'=ws2 at wy' h6';have h46:=s6 _ _ (kp5.keep _ _ r4p h4');have le2:=wy'.le;refine⟨r6,rfl,⟨_,Ah.of h6'⟩,λr5 hr5=>?_⟩
 refine CG (K:=K) (xs:=ws2.map V.str) (by rw[List.length_map];omega) (λi ys HX=>HX r5=some (.lst ys)/\AG H6 HX/\ys=((ws2.take i).map (TY c)).map V.str)
  (λi ys HX h=>Ah.of (h.2.1 _ _ h6')) (λi ys HX h=>⟨h.1,by rw[h.2.2,List.length_map,List.length_map,List.length_take];omega⟩) ⟨AD,(AG.refl H6).new hr5,rfl⟩ ?_ ?_
 rotate_left
 ·rintro i x ys HX hx ⟨q1,q2,rfl⟩
  rw[List.getElem?_map]at hx
  cases ez:ws2[i]? with
  |none=>rw[ez]at hx;cases hx
  |some z=>
   rw[ez]at hx;cases hx;have z60:=wy'.zl z (List.mem_of_getElem? ez)
   have ek:mk [c]++CT z (some 1) none=TY c z:=by
    refine Cf ?_
    have:=IC z 1;rw[app_list,show((1:Int))=((1:Nat):Int)from rfl,this];rfl
   refine⟨rfl,_,rfl,r4,_,_,_,rfl,rfl,Ah.of (q2 _ _ h46),BH (j:=0) (v:=.str (mk [c])) (by rw[List.getElem?_map,w0];rfl),_,rfl,_,rfl,z,rfl,Nat.le_of_lt (AK (by omega)),_,_,rfl,rfl,?_,q1,?_⟩
   ·have l1:(CT z (some 1) none).length<=z.length:=by
     have:=IC z 1;rw[<-Bj,<-Bj z,show((1:Int))=((1:Nat):Int)from rfl,this,List.length_drop];omega
    exact Nat.le_of_lt (AK (by show 1+_<=1000;omega))
   ·rw[ek]
    refine⟨AD,q2.write hr5,?_⟩
    rw[List.take_succ,ez,List.map_append,List.map_append];rfl
 rintro ys H7 ⟨h5,s7,rfl⟩;rw[List.length_map,List.take_length]at h5;have wyo:=TZ wy' cl0;generalize ws2.map (TY c)=wo at h5 wyo;have k7:=GI k6 s7;have h47:=s7 _ _ h46;have r5p:r5≠p:=k6.pool.ne hr5;refine⟨_,rfl,(by show 2<=sizeLine;decide),λtt htt=>?_⟩
 have s8:AG H7 (upd H7 tt (.tup [.int 3,.int 4])):=(AG.refl H7).new htt;have h8:upd H7 tt (.tup [.int 3,.int 4]) tt=some (.tup [.int 3,.int 4]):=AD;show(λHH=>_) (upd H7 tt (.tup [.int 3,.int 4]))
 generalize upd H7 tt (.tup [.int 3,.int 4])=H8 at s8 h8;have k8:=GI k7 s8;have h48:=s8 _ _ h47;have h58:=s8 _ _ h5
 have fin:∀{HX:Hp} {r o2:Addr} {wz:List Str},Kp p H HX->HX r4=some (.lst (ws.map V.str))->HX o2=some (.lst (wz.map V.str))->Wy c wz->HX r=none->Q (.ref r) (upd HX r (.tup [.ref r4,.ref o2])):=λ{HX r o2 wz} kx hx ho g hr'=>
  q r r4 o2 c ws wz _ (kx.new hr') AD (by rw[AO (AL hx hr')];exact hx) (by rw[AO (AL ho hr')];exact ho) wy g
 refine⟨tt,_,rfl,.inr (BM.of h8),rfl,rfl,_,rfl,CZ (λ_=>?_) (λ_=>?_)⟩
 ·refine⟨_,rfl,_,rfl,_,rfl,p,r4,c,ws,m0,rfl,m60,m1,k8.pool,h48,r4p,wy,w0,λr9 rs H9 k9 f9 h9 wy9=>?_⟩
  have k89:=k8.trans k9;have h49:=k9.keep _ _ r4p h48;refine⟨_,rfl,rfl,_,rfl,CZ (λ_=>?_) (λ_=>?_)⟩
  ·exact⟨_,rfl,_,rfl,_,rfl,(by show 2<=sizeLine;decide),λr hr'=>fin k89 h49 h49 wy hr'⟩
  ·exact⟨_,rfl,_,rfl,(by show 2<=sizeLine;decide),λr hr'=>fin k89 h49 h9 wy9 hr'⟩
 ·refine⟨_,rfl,rfl,_,rfl,CZ (λ_=>?_) (λ_=>?_)⟩
  ·exact⟨_,rfl,_,rfl,_,rfl,(by show 2<=sizeLine;decide),λr hr'=>fin k8 h48 h48 wy hr'⟩
  ·exact⟨_,rfl,_,rfl,(by show 2<=sizeLine;decide),λr hr'=>fin k8 h48 h58 wyo hr'⟩
end
end S58
namespace S58
open PySem L2 W7
theorem C7 {H:Hp}{p r:Addr}{xs:List V}(h:DF H p)(e:H r=some (.tup xs)):r≠p:=by
 rintro rfl;obtain⟨_,_,e2⟩:=h;rw[e]at e2;cases e2
theorem V3 {H H':Hp}{p:Addr}{ps:List Addr}(h:Kp p H H')(m:p∈ps):AG (dl ps H) (dl ps H'):=Q6 λb o n e=>h.keep b o (λz=>n (z▸m)) e
def Ri (us:List Int):Prop:=∀x∈us,-1<=x/\x<=60
theorem Jh {us:List Int}(h:Ri us)(l:us.length<=125){hd hl:Bool}{e:Nat}:Gs hd hl 5300 e (us.map .int):=by
 refine(Gs.all (c:=41) (e:=e) λd hm=>?_).mono (by rw[List.length_map];omega) (Nat.le_refl _)
 obtain⟨x,hx,rfl⟩:=List.mem_map.mp hm;have:=h x hx;have e12:(10:Nat) ^ 12=1000000000000:=by decide
 exact(L2.Gd.int (by omega)).mono (Nat.le_refl _) (Nat.zero_le _)
def Sh (n:Nat)(z:Str):Prop:=z.length<=n/\∀c∈z.cps.toList,c < 1000
theorem L4 {n:Nat}{z:Str}(h:Sh n z)(lo hi:Option Int):Sh n (CT z lo hi):=by
 refine⟨Nat.le_trans ?_ h.1,λc hc=>h.2 c ?_⟩
 ·have e:(CT z lo hi).length=((z.cps.toList.drop (HT.As z.length 0 lo)).take (HT.As z.length z.length hi - HT.As z.length 0 lo)).length:=by
   show((z.cps.toList.drop (HT.As z.length 0 lo)).take (HT.As z.length z.length hi - HT.As z.length 0 lo)).toArray.size=_;rw[List.size_toArray]
  rw[e,List.length_take,List.length_drop];have:z.cps.toList.length=z.length:=Array.length_toList;omega
 ·exact List.mem_of_mem_drop (List.mem_of_mem_take hc)
theorem Ji {n m:Nat}{x y:Str}(h:Sh n x)(g:Sh m y):Sh (n+m) (x++y):=by
 have e:(x++y).cps=x.cps++y.cps:=rfl;refine⟨?_,λc hc=>?_⟩
 ·show(x++y).cps.size<=n+m
  rw[e,Array.size_append];have a1:x.cps.size<=n:=h.1;have a2:y.cps.size<=m:=g.1;omega
 ·rw[e,Array.toList_append]at hc
  rcases List.mem_append.mp hc with hc|hc
  ·exact h.2 c hc
  ·exact g.2 c hc
theorem RC {n:Nat}{z:Str}(h:Sh n z)(l:n<=900):z.length<=sizeLine:=Nat.le_of_lt (AK (by have:=h.1;omega))
theorem Ta {n m:Nat}{x y:Str}(h:Sh n x)(g:Sh m y)(l:n+m<=900):x.length+y.length<=sizeLine:=Nat.le_of_lt (AK (by have:=h.1;have:=g.1;omega))
theorem FF {n:Nat}{z:Str}(h:Sh n z)(l:n<=900):Short (.str z):=λy e=>by cases e;exact⟨by have:=h.1;omega,h.2⟩
theorem Jj {hd hl:Bool}{n:Nat}{z:Str}(h:Sh n z)(l:n<=900):L2.Gd hd hl 900 0 (.str z):=by
 have a1:z.cps.size<=n:=h.1;exact(L2.Gd.str h.2).mono (by omega) (Nat.le_refl _)
theorem Jk {hd hl:Bool}{us:List Int}(sm:Ri us)(l:us.length<=125){e:Nat}:L2.Gd hd hl 5300 (e+1) (.tuple (us.map .int)):=L2.Gd.tup (Jh sm l)
end S58
namespace S58
open PySem L2 W7 W55
def Bd (H:Hp)(v:V):Prop:=∃d hd hl,Td H v d/\OD d/\L2.Gd hd hl 60000 6 d/\(hd=false\/hl=false)/\¬ER d
theorem Ei {d:PyData}(h:∀x y,d≠.tuple [x,y]):OD d:=λx y e=>absurd e (h x y)
theorem RD {us:List Int}{lab:List Nat}{h x y:Nat}(ll:lab.length=us.length)(hxy:¬x < y):F2 (To (us++[(h:Int),(h:Int)]) (lab++[x,y]) h)≠true:=by
 intro r;have g0:(us++[(h:Int),(h:Int)]).getD us.length 0=(h:Int):=by simp[List.getD_eq_getElem?_getD]
 have g1:(us++[(h:Int),(h:Int)]).getD (us.length+1) 0=(h:Int):=by simp[List.getD_eq_getElem?_getD]
 have l0:(lab++[x,y]).getD us.length 0=x:=by rw[<-ll];simp[List.getD_eq_getElem?_getD]
 have l1:(lab++[x,y]).getD (us.length+1) 0=y:=by rw[<-ll];simp[List.getD_eq_getElem?_getD]
 have e:To (us++[(h:Int),(h:Int)]) (lab++[x,y]) h=((Hb (us++[(h:Int),(h:Int)]) (h:Int) us.length).map λj=>(lab++[x,y]).getD j 0)++[x,y]:=by
  unfold To Hb;rw[show(us++[(h:Int),(h:Int)]).length=us.length+1+1 by simp,List.range_succ,List.range_succ,List.filter_append,List.filter_append,List.map_append,List.map_append]
  rw[List.filter_cons,List.filter_cons,g0,g1,List.filter_nil,if_pos (decide_eq_true rfl),if_pos (decide_eq_true rfl)];simp only[List.map_cons,List.map_nil,l0,l1,List.append_assoc,List.cons_append,List.nil_append]
 rw[e]at r;generalize(Hb (us++[(h:Int),(h:Int)]) (h:Int) us.length).map (λj=>(lab++[x,y]).getD j 0)=A at r
 unfold F2 at r;have t:=List.all_eq_true.mp r A.length (List.mem_range.mpr (by simp))
 unfold Tn at t;have t:=of_decide_eq_true t;have a0:(A++[x,y]).getD A.length 0=x:=by simp[List.getD_eq_getElem?_getD]
 have a1:(A++[x,y]).getD (A.length+1) 0=y:=by simp[List.getD_eq_getElem?_getD]
 rw[a0,a1]at t;exact hxy t
theorem FG {H:Hp}{r u:Addr}{us:List Int}{z:Str}(h:H r=some (.tup [.ref u,.str z]))(hu:H u=some (.tup (us.map V.int)))(sm:Ri us)(l:us.length<=125)(s:Sh 200 z)(no:¬ER (.tuple [.tuple (us.map .int),.str z])):Bd H (.ref r):=
 ⟨_,false,false,.tup h (.cons (.tup hu (EN.ints us)) (.one (.str z))),λx y e=>by cases e;exact FF s (by omega),(L2.Gd.tup (Gs.cons (Jk sm l (e:=2)) (Gs.one ((Jj s (by omega)).mono (Nat.le_refl _) (Nat.zero_le _))))).mono (by omega) (by omega),.inl rfl,no⟩
theorem QD {us:List Int}{z:Str}{h:Nat}{lab:Str}{x y:Nat}(hl:h < us.length)(ll:lab.cps.toList.length=us.length)(hz:z.cps.toList=lab.cps.toList++[x,y])(hxy:¬x < y):¬ER (.tuple [.tuple ((us++[(h:Int),(h:Int)]).map .int),.str z]):=by
 rintro⟨us',z',e,_,_,_,_,_,r⟩;obtain⟨rfl,rfl⟩:=DJ e;have:=r h (by rw[List.length_append];omega)
 rw[hz]at this;exact RD ll hxy this
end S58
namespace S58
open PySem L2 W7 W55
theorem _root_.L2.Kp.same {p:Addr}{H H1 H2:Hp}(a:Kp p H H1)(s:AG H1 H2):Kp p H H2:=by
 obtain⟨⟨x,y,e⟩,k⟩:=a;exact⟨⟨x,y,s _ _ e⟩,λb u hc h=>s _ _ (k b u hc h)⟩
theorem QE {p q:Addr}{H G:Hp}(k:Kp p H G)(n:q≠p)(h:G q=none):H q=none:=by
 cases e:H q with
 |none=>rfl
 |some o=>rw[k.keep _ _ n e]at h;cases h
theorem Vk {n:Int}(h0:0<=n)(h1:n < 14){L:List V}(hl:L.length=14):∃v,Du L n=some v/\v∈L:=by
 obtain⟨k,rfl⟩:∃k:Nat,n=(k:Int):=⟨n.toNat,by omega⟩
 have hk:k < L.length:=by omega
 exact⟨L[k],BH (List.getElem?_eq_getElem hk),List.getElem_mem hk⟩
section
variable {P:Program}{w:World}{K:PySem.W.Frag}{mg:Str->Option Value}{base:Heap}{k:Nat}
def QF:Sp:=λvs H Q _=>∃(p t:Addr) (us:List Int) (lab:Str),vs=[.ref p,.ref t]/\DF H p/\BJ H t us lab/\(∀c∈lab.cps.toList,Lw c)/\∀(v:V) (H':Hp),Kp p H H'->Bd (dl [p] H') v->Q v H'
theorem RE (D:Df K mg "_law_bad" s_law_bad)(B:B6 mg)(G_law_take:BO P w K mg base "_law_take" k ["pool","many"] CP):BO P w K mg base "_law_bad" (k+1) ["pool","tree"] QF:=by
 refine D.has Au (λ_ _ _ _ _ _ us hl=>match us,hl with|[_,_],_=>rfl) (λvs H Q E h=>by obtain⟨p,t,us,lab,rfl,_⟩:=h;rfl) (λf cdv A outer s H vs Q E hr h=>?_)
 obtain⟨p,t,us,lab,rfl,pl,tr,low,q⟩:=h;refine⟨_,(AE (OI (pv 1) (Im rfl (Bc (AW (i:=2) Au.nd rfl (by first|exact Or.inl rfl|exact Or.inr rfl)) (Bc (AW (i:=3) Au.nd rfl (by first|exact Or.inl rfl|exact Or.inr rfl)) Em))))
 (AE (AM (i:=4) Au.nd rfl (by first|exact Or.inl rfl|exact Or.inr rfl) (AH G_law_take hr rfl (AA (pv 0) (AA AF AB))))
 (AE (AM (i:=5) Au.nd rfl (by first|exact Or.inl rfl|exact Or.inr rfl) (AH G_law_take hr rfl (AA (pv 0) (AA (AN Bb rfl B.len A6 (AA (pv 3) AB)) AB))))
 (AE (AM (i:=6) Au.nd rfl (by first|exact Or.inl rfl|exact Or.inr rfl) (AR DR (AN AY rfl B.len A6 (AA (pv 2) AB)) AF))
 (AE (Bs PassesOwn.never rfl (By rfl B.range (AA (AH G_law_take hr rfl (AA (pv 0) (AA AF AB))) AB)) (AW (i:=7) Au.nd rfl (by first|exact Or.inl rfl|exact Or.inr rfl))
 (AI (AM (i:=6) Au.nd rfl (by first|exact Or.inl rfl|exact Or.inr rfl) (AN (Dt rfl) rfl B.max Iz (AA AF (AA (AU Aj (pv 2) (pv 6) (λ_ _=>rfl)) AB))))))
 (AE (AM (i:=8) Au.nd rfl (by first|exact Or.inl rfl|exact Or.inr rfl) (An (AA (AR GH (pv 2) (An (AA (pv 6) (AA (pv 6) AB)))) (AA (AR Ax (pv 3) Aq) AB))))
 (AE (AM (i:=9) Au.nd rfl (by first|exact Or.inl rfl|exact Or.inr rfl) (An (AA (AR GH (pv 2) (An (AA (pv 6) (AA (pv 6) AB)))) (AA (AR Ax (pv 3) Aq) AB))))
 (AE (AM (i:=10) Au.nd rfl (by first|exact Or.inl rfl|exact Or.inr rfl) (AR Ax (AR Ax (BN EV (pv 3) Bg (Ba (pv 5))) Aq) (BN EV (pv 3) (Ba (AR BB (pv 5) AF)) Bg)))
 (AE (AM (i:=11) Au.nd rfl (by first|exact Or.inl rfl|exact Or.inr rfl) (AR GH (AR GH (BN Mv (pv 2) Bg (Ba (pv 5))) (An (AA CM AB))) (BN Mv (pv 2) (Ba (AR BB (pv 5) AF)) Bg)))
 (AE (AM (i:=12) Au.nd rfl (by first|exact Or.inl rfl|exact Or.inr rfl) (Ar (AA LA (AA Aq (AA (pv 3) (AA (An AB) (AA (Ar AB) (AA Oq (AA (Af Et rfl B.list_ JA (AA (pv 1) AB)) (AA (An (AA (Af Et rfl B.list_ JA (AA (pv 2) AB)) (AA (pv 3) AB))) AB))))))))))
 (AE (BZ (Cu PySem.F.plainAttrs_list PySem.F.slot_list_extend PySem.F.type_list_extend FO (pv 12) (AA (Ar (AA (An (AA (An AB) (AA Aq AB))) (AA (pv 8) (AA (pv 9) (AA (An (AA (pv 2) (AA (pv 10) AB))) (AA (An (AA (pv 11) (AA (pv 3) AB))) AB)))))) AB)))
 (AE (BZ (Cu PySem.F.plainAttrs_list PySem.F.slot_list_append PySem.F.type_list_append B1 (pv 12) (AA (An (AA (pv 2) (AA (AR Ax (pv 3) Aq) AB))) AB)))
 (AI (AS (AU Av (pv 12) (pv 4) (λ_ _=>rfl)))))))))))))))),?_⟩
 obtain⟨u,ht,hu,ok⟩:=id tr;have m60:=ok.most;have lpos:=ok.pos;have ll:lab.cps.toList.length=us.length:=ok.len.symm;have ll':lab.length=us.length:=by rw[<-ll];simp[Str.length]
 refine⟨_,rfl,t,_,rfl,BM.of ht,rfl,_,_,rfl,_,_,rfl,rfl,?_⟩
 refine⟨_,rfl,p,14,rfl,pl,by decide,by decide,λpick H1 p0 p1 k1=>?_⟩
 have pl1:=k1.pool;have tp:t≠p:=C7 pl ht;have upn:u≠p:=C7 pl hu;refine⟨_,rfl,_,rfl,lab,rfl,Nat.le_of_lt (AK (by omega)),p,_,rfl,pl1,by omega,by omega,λat' H2 a0 a1 k2=>?_⟩
 have k12:=k1.trans k2;have hu2:=k12.keep _ _ upn hu;refine⟨_,rfl,u,_,rfl,.inr (BM.of hu2),_,_,rfl,rfl,?_⟩
 refine⟨_,rfl,p,4,rfl,k12.pool,by decide,by decide,λtn H3 t0 t3 k3=>?_⟩
 have k13:=k12.trans k3;have hu3:=k13.keep _ _ upn hu;refine⟨_,rfl,by omega,by omega,?_⟩
 rw[List.length_map];refine Bm (lo:=0) (n:=tn.toNat) (λi σ HX=>∃(h:Nat) (o7:Option V),σ=[some (.ref p),some (.ref t),some (.ref u),some (.str lab),some (.int pick),some (.int at'),some (.int (h:Int)),o7,none,none,none,none,none]/\HX=H3/\h < us.length) ⟨us.length - 1,none,by rw[show((us.length - 1:Nat):Int)=(us.length:Int) - 1 by omega];rfl,rfl,by omega⟩ ?_ ?_
 ·rintro i σ HX hi ⟨h,o7,rfl,rfl,hl⟩
  have e1:us[h]?=some (us.getD h 0):=by rw[List.getD_eq_getElem?_getD,List.getElem?_eq_getElem hl];rfl
  have ix:=BH (xs:=us.map V.int) (j:=h) (v:=.int (us.getD h 0)) (by rw[List.getElem?_map,e1];rfl)
  refine⟨_,rfl,_,rfl,u,_,_,_,rfl,rfl,BM.of hu3,ix,_,_,rfl,?_⟩
  have up:=ok.up h;have rt:=ok.root;have lt:(if us.getD h 0 > 0 then us.getD h 0 else 0)=(((us.getD h 0).toNat:Nat):Int):=by split<;>omega
  have b:(us.getD h 0).toNat < us.length:=by
   rcases Nat.eq_zero_or_pos h with z|z
   ·rw[z,rt];exact lpos
   ·have:=up z hl;omega
  refine⟨(us.getD h 0).toNat,some (.int (0+(i:Int))),?_,rfl,b⟩
  rw[<-lt];rfl
 ·rintro σ HX ⟨hg,o7,rfl,e3,hgl⟩
  subst e3;have hu4:=hu3;refine⟨_,rfl,_,rfl,_,rfl,(by show 2<=sizeLine;decide),λx4 hx4=>?_⟩
  generalize hJ:upd HX x4 _=A4;have sA4:AG HX A4:=by rw[<-hJ];exact(AG.refl HX).new hx4
  have hA4:A4 x4=some (.tup [.int (hg:Int),.int (hg:Int)]):=by rw[<-hJ];exact AD
  clear hJ;refine⟨u,x4,us.map V.int,_,rfl,rfl,sA4 _ _ hu4,hA4,by rw[List.length_map];exact Nat.le_of_lt (AK (by show _+2<=1000;omega)),λy4 B4 sB4 hB4=>?_⟩
  refine⟨_,rfl,lab,"zz",rfl,rfl,Nat.le_of_lt (AK (by show _+2<=1000;omega)),(by show 2<=sizeLine;decide),λw4 hw4=>?_⟩
  generalize hJ:upd B4 w4 _=C4;have sC4:AG B4 C4:=by rw[<-hJ];exact(AG.refl B4).new hw4
  have hC4:C4 w4=some (.tup [.ref y4,.str (lab++Str.ofString "zz")]):=by rw[<-hJ];exact AD
  clear hJ;have hBC4:=sC4 _ _ hB4;have sABC4:=(sA4.trans sB4).trans sC4;have hu5:=sABC4 _ _ hu4;refine⟨_,rfl,_,rfl,_,rfl,(by show 2<=sizeLine;decide),λx5 hx5=>?_⟩
  generalize hJ:upd C4 x5 _=A5;have sA5:AG C4 A5:=by rw[<-hJ];exact(AG.refl C4).new hx5
  have hA5:A5 x5=some (.tup [.int (hg:Int),.int (hg:Int)]):=by rw[<-hJ];exact AD
  clear hJ;refine⟨u,x5,us.map V.int,_,rfl,rfl,sA5 _ _ hu5,hA5,by rw[List.length_map];exact Nat.le_of_lt (AK (by show _+2<=1000;omega)),λy5 B5 sB5 hB5=>?_⟩
  refine⟨_,rfl,lab,"zy",rfl,rfl,Nat.le_of_lt (AK (by show _+2<=1000;omega)),(by show 2<=sizeLine;decide),λw5 hw5=>?_⟩
  generalize hJ:upd B5 w5 _=C5;have sC5:AG B5 C5:=by rw[<-hJ];exact(AG.refl B5).new hw5
  have hC5:C5 w5=some (.tup [.ref y5,.str (lab++Str.ofString "zy")]):=by rw[<-hJ];exact AD
  clear hJ;have hBC5:=sC5 _ _ hB5;have sABC5:=(sA5.trans sB5).trans sC5;have hu6:=sABC5 _ _ hu5;have zl:lab.length<=sizeLine:=Nat.le_of_lt (AK (by omega))
  have shl:Sh 60 lab:=⟨by omega,λc hc=>by have:=low c hc;unfold Lw at this;omega⟩
  have sg1:=L4 shl none (some at');have sg2:=L4 shl (some (at'+1)) none;refine⟨_,rfl,_,rfl,_,rfl,lab,rfl,zl,_,_,rfl,rfl,Nat.le_of_lt (AK (by have:=sg1.1;show _+1<=1000;omega)),?_⟩
  refine⟨_,rfl,_,rfl,_,_,rfl,rfl,_,rfl,lab,rfl,zl,_,_,rfl,rfl,?_,?_⟩
  ·have a1:=sg1.1
   have a2:=sg2.1
   have e:(CT lab none (some at')++Str.ofString "A").length=(CT lab none (some at')).length+1:=by
    show(_++_:Array Nat).size=_;rw[Array.size_append];rfl
   rw[e];exact Nat.le_of_lt (AK (by omega))
  generalize hsg:(CT lab none (some at')++Str.ofString "A")++CT lab (some (at'+1)) none=sg
  have cl:∀lo hi,(CY (us.map V.int) lo hi).length<=60:=λlo hi=>by
   unfold CY;rw[List.length_take,List.length_drop,List.length_map];omega
  refine⟨_,rfl,_,rfl,_,rfl,u,_,rfl,hu6,λr6 D6 sD6 hD6=>?_⟩
  refine⟨(by show 1<=sizeLine;decide),λx7 hx7=>?_⟩
  generalize hJ:upd D6 x7 _=D7;have sD7:AG D6 D7:=by rw[<-hJ];exact(AG.refl D6).new hx7
  have hD7:D7 x7=some (.tup [.bl true]):=by rw[<-hJ];exact AD
  clear hJ;refine⟨r6,x7,_,_,rfl,rfl,sD7 _ _ hD6,hD7,Nat.le_of_lt (AK (by have:=cl none (some at');show _+1<=1000;omega)),λr8 D8 sD8 hD8=>?_⟩
  have s68:=(sD6.trans sD7).trans sD8;refine⟨_,rfl,_,rfl,_,_,rfl,rfl,_,rfl,u,_,rfl,s68 _ _ hu6,λr9 D9 sD9 hD9=>?_⟩
  refine⟨r8,r9,_,_,rfl,rfl,sD9 _ _ hD8,hD9,Nat.le_of_lt (AK (by have:=cl none (some at');have:=cl (some (at'+1)) none;rw[List.length_append];show _+1+_<=1000;omega)),λbe E0' sE0 hbe=>?_⟩
  have s6E:=(s68.trans sD9).trans sE0;have htE:E0' t=some (.tup [.ref u,.str lab]):=s6E _ _ (sABC5 _ _ (sABC4 _ _ (k13.keep _ _ tp ht)));have huE:=s6E _ _ hu6;refine⟨_,rfl,(by show 0<=sizeLine;decide),λq1 nq1=>?_⟩
  generalize hJ:upd E0' q1 _=G1;have sG1:AG E0' G1:=by rw[<-hJ];exact(AG.refl E0').new nq1
  have hq1:G1 q1=some (.tup []):=by rw[<-hJ];exact AD
  clear hJ;refine⟨(by show 0<=sizeLine;decide),λq2 nq2=>?_⟩
  generalize hJ:upd G1 q2 _=G2;have sG2:AG G1 G2:=by rw[<-hJ];exact(AG.refl G1).new nq2
  have hq2:G2 q2=some (.lst []):=by rw[<-hJ];exact AD
  clear hJ;refine λq3 nq3=>?_
  generalize hJ:upd G2 q3 _=G3;have sG3:AG G2 G3:=by rw[<-hJ];exact(AG.refl G2).new nq3
  have hq3:G3 q3=some (.dK []):=by rw[<-hJ];exact AD
  clear hJ;have sE3:=(sG1.trans sG2).trans sG3;refine⟨_,rfl,t,_,rfl,.inr (BM.of (sE3 _ _ htE)),λq4 nq4=>?_⟩
  generalize hJ:upd G3 q4 _=G4;have sG4:AG G3 G4:=by rw[<-hJ];exact(AG.refl G3).new nq4
  have hq4:G4 q4=some (.lst [.ref u,.str lab]):=by rw[<-hJ];exact AD
  clear hJ;refine⟨_,rfl,u,_,rfl,.inr (BM.of (sG4 _ _ (sE3 _ _ huE))),λq5 nq5=>?_⟩
  generalize hJ:upd G4 q5 _=G5;have sG5:AG G4 G5:=by rw[<-hJ];exact(AG.refl G4).new nq5
  have hq5:G5 q5=some (.lst (us.map V.int)):=by rw[<-hJ];exact AD
  clear hJ;refine⟨_,rfl,(by show 2<=sizeLine;decide),λq6 nq6=>?_⟩
  generalize hJ:upd G5 q6 _=G6;have sG6:AG G5 G6:=by rw[<-hJ];exact(AG.refl G5).new nq6
  have hq6:G6 q6=some (.tup [.ref q5,.str lab]):=by rw[<-hJ];exact AD
  clear hJ;refine⟨(by show 8<=sizeLine;decide),λod nod=>?_⟩
  generalize hJ:upd G6 od _=G7;have sG7:AG G6 G7:=by rw[<-hJ];exact(AG.refl G6).new nod
  have hod:G7 od=some (.lst [.BK,.str (Str.ofString ""),.str lab,.ref q1,.ref q2,.ref q3,.ref q4,.ref q6]):=by rw[<-hJ];exact AD
  clear hJ;refine⟨_,rfl,.inl ⟨rfl,_,Ah.of hod⟩,?_⟩
  refine⟨(by show 0<=sizeLine;decide),λc1 nc1=>?_⟩
  generalize hJ:upd G7 c1 _=G8;have sG8:AG G7 G8:=by rw[<-hJ];exact(AG.refl G7).new nc1
  have hc1:G8 c1=some (.tup []):=by rw[<-hJ];exact AD
  clear hJ;refine⟨(by show 2<=sizeLine;decide),λc2 nc2=>?_⟩
  generalize hJ:upd G8 c2 _=G9;have sG9:AG G8 G9:=by rw[<-hJ];exact(AG.refl G8).new nc2
  have hc2:G9 c2=some (.tup [.ref c1,.str (Str.ofString "")]):=by rw[<-hJ];exact AD
  clear hJ;refine⟨_,rfl,_,rfl,_,rfl,_,rfl,(by show 2<=sizeLine;decide),λc3 nc3=>?_⟩
  generalize hJ:upd G9 c3 _=G10;have sG10:AG G9 G10:=by rw[<-hJ];exact(AG.refl G9).new nc3
  have hc3:G10 c3=some (.tup [.ref u,.str sg]):=by rw[<-hJ];exact AD
  clear hJ;refine⟨_,rfl,_,rfl,(by show 2<=sizeLine;decide),λc4 nc4=>?_⟩
  generalize hJ:upd G10 c4 _=G11;have sG11:AG G10 G11:=by rw[<-hJ];exact(AG.refl G10).new nc4
  have hc4:G11 c4=some (.tup [.ref be,.str lab]):=by rw[<-hJ];exact AD
  clear hJ;refine⟨(by show 5<=sizeLine;decide),λc5 nc5=>?_⟩
  generalize hJ:upd G11 c5 _=G12;have sG12:AG G11 G12:=by rw[<-hJ];exact(AG.refl G11).new nc5
  have hc5:G12 c5=some (.lst [.ref c2,.ref w4,.ref w5,.ref c3,.ref c4]):=by rw[<-hJ];exact AD
  clear hJ;have sO:=(((sG8.trans sG9).trans sG10).trans sG11).trans sG12;have sE12:AG E0' G12:=(((sE3.trans sG4).trans sG5).trans sG6).trans (sG7.trans sO);have s612:AG G6 G12:=sG7.trans sO;have k12':Kp p H G12:=(((k13.same sABC4).same sABC5).same s6E).same sE12
  have odp:od≠p:=by
   obtain⟨_,_,e⟩:=((((k13.same sABC4).same sABC5).same s6E).same (((sE3.trans sG4).trans sG5).trans sG6)).pool;exact(AL e nod).symm
  have od0:H od=none:=QE ((((k13.same sABC4).same sABC5).same s6E).same (((sE3.trans sG4).trans sG5).trans sG6)) odp nod;refine⟨od,c5,_,_,rfl,rfl,sO _ _ hod,hc5,(by show 13<=sizeLine;decide),?_⟩
  generalize hJ:upd G12 od _=M1;have kM1:∀b o,b≠od->G12 b=some o->M1 b=some o:=λb o n e=>by rw[<-hJ,AO n];exact e
  have hM1:M1 od=some (.lst ([.BK,.str (Str.ofString ""),.str lab,.ref q1,.ref q2,.ref q3,.ref q4,.ref q6]++[.ref c2,.ref w4,.ref w5,.ref c3,.ref c4])):=by rw[<-hJ];exact AD
  have kpM1:Kp p H M1:=by rw[<-hJ];exact k12'.write od0 odp
  clear hJ;refine⟨_,rfl,.inl ⟨rfl,_,Ah.of hM1⟩,_,rfl,_,rfl,lab,"a",rfl,rfl,Nat.le_of_lt (AK (by show _+1<=1000;omega)),(by show 2<=sizeLine;decide),λc6 nc6=>?_⟩
  generalize hJ:upd M1 c6 _=M2;have sM2:AG M1 M2:=by rw[<-hJ];exact(AG.refl M1).new nc6
  have hc6:M2 c6=some (.tup [.ref u,.str (lab++Str.ofString "a")]):=by rw[<-hJ];exact AD
  clear hJ;refine⟨od,_,.ref c6,rfl,rfl,sM2 _ _ hM1,(by show 13 < sizeLine;decide),?_⟩
  generalize hJ:upd M2 od _=Z;have kZ:∀b o,b≠od->G12 b=some o->Z b=some o:=λb o n e=>by rw[<-hJ,AO n];exact sM2 _ _ (kM1 b o n e)
  have hZ:Z od=some (.lst ([.BK,.str (Str.ofString ""),.str lab,.ref q1,.ref q2,.ref q3,.ref q4,.ref q6,.ref c2,.ref w4,.ref w5,.ref c3,.ref c4,.ref c6])):=by rw[<-hJ];exact AD
  have kpZ:Kp p H Z:=by rw[<-hJ];exact(kpM1.same sM2).write od0 odp
  have c6Z:Z c6=some (.tup [.ref u,.str (lab++Str.ofString "a")]):=by
   rw[<-hJ,AO (AL hM1 nc6).symm];exact hc6
  clear hJ;have z6:∀{b:Addr} {o:HO},G6 b=some o->Z b=some o:=λ{b o} e=>kZ b o (AL e nod) (s612 _ _ e)
  have z7:∀{b:Addr} {o:HO},G7 b=none->G12 b=some o->Z b=some o:=λ{b o} n e=>kZ b o (λz=>by rw[z,hod]at n;cases n) e
  have sE6:AG E0' G6:=((sE3.trans sG4).trans sG5).trans sG6;have uZ:=z6 (sE6 _ _ huE);have tZ:=z6 (sE6 _ _ htE);have w4Z:=z6 (sE6 _ _ (s6E _ _ (sABC5 _ _ hC4)));have y4Z:=z6 (sE6 _ _ (s6E _ _ (sABC5 _ _ hBC4)));have w5Z:=z6 (sE6 _ _ (s6E _ _ hC5));have y5Z:=z6 (sE6 _ _ (s6E _ _ hBC5));have beZ:=z6 (sE6 _ _ hbe);have q1Z:=z6 (sG6 _ _ (sG5 _ _ (sG4 _ _ (sG3 _ _ (sG2 _ _ hq1)))));have q2Z:=z6 (sG6 _ _ (sG5 _ _ (sG4 _ _ (sG3 _ _ hq2))));have q3Z:=z6 (sG6 _ _ (sG5 _ _ (sG4 _ _ hq3)));have q4Z:=z6 (sG6 _ _ (sG5 _ _ hq4));have q5Z:=z6 (sG6 _ _ hq5);have q6Z:=z6 hq6;have c1Z:=z7 nc1 (sG12 _ _ (sG11 _ _ (sG10 _ _ (sG9 _ _ hc1))));have c2Z:=z7 (sG8.free nc2) (sG12 _ _ (sG11 _ _ (sG10 _ _ hc2)));have c3Z:=z7 ((sG8.trans sG9).free nc3) (sG12 _ _ (sG11 _ _ hc3));have c4Z:=z7 (((sG8.trans sG9).trans sG10).free nc4) (sG12 _ _ hc4);obtain⟨v,hv,mv⟩:=Vk p0 p1 (L:=[.BK,.str (Str.ofString ""),.str lab,.ref q1,.ref q2,.ref q3,.ref q4,.ref q6,.ref c2,.ref w4,.ref w5,.ref c3,.ref c4,.ref c6]) rfl;refine⟨_,rfl,_,rfl,od,_,_,_,rfl,rfl,Ah.of hZ,hv,q v Z kpZ ?_⟩
  have nT:∀{b:Addr} {xs:List V},Z b=some (.tup xs)->dl [p] Z b=some (.tup xs):=λ{b xs} e=>Rh e (by simp;exact C7 kpZ.pool e)
  have nF:∀{b:Addr} {o:HO},E0' b=none->Z b=some o->dl [p] Z b=some o:=λ{b o} n e=>Rh e (by
   obtain⟨_,_,e2⟩:=(((k13.same sABC4).same sABC5).same s6E).pool;simp;exact(AL e2 n).symm)
  replace uZ:=nT uZ
  replace tZ:=nT tZ
  replace w4Z:=nT w4Z
  replace y4Z:=nT y4Z
  replace w5Z:=nT w5Z
  replace y5Z:=nT y5Z
  replace beZ:=nT beZ
  replace q1Z:=nT q1Z
  replace q2Z:=nF (sG1.free nq2) q2Z
  replace q3Z:=nF ((sG1.trans sG2).free nq3) q3Z
  replace q4Z:=nF (sE3.free nq4) q4Z
  replace q5Z:=nF ((sE3.trans sG4).free nq5) q5Z
  replace q6Z:=nT q6Z
  replace c1Z:=nT c1Z
  replace c2Z:=nT c2Z
  replace c3Z:=nT c3Z
  replace c4Z:=nT c4Z
  replace c6Z:=nT c6Z
  have sml:Ri us:=λx hx=>by
   obtain⟨j,hj,rfl⟩:=List.mem_iff_getElem.mp hx;have e:us[j]=us.getD j 0:=by rw[List.getD_eq_getElem?_getD,List.getElem?_eq_getElem hj];rfl
   rw[e]
   rcases Nat.eq_zero_or_pos j with z|z
   ·rw[z,ok.root];omega
   ·have:=ok.up j z hj;omega
  have sml2:Ri (us++[(hg:Int),(hg:Int)]):=λx hx=>by
   rcases List.mem_append.mp hx with z|z
   ·exact sml x z
   ·simp only[List.mem_cons,List.not_mem_nil,or_false,or_self]at z
    rw[z];omega
  have cps2:∀y:Str,(lab++y).cps.toList=lab.cps.toList++y.cps.toList:=λy=>Array.toList_append
  have shl2:∀{n:Nat} (y:Str),Sh n y->n<=2->Sh 200 (lab++y):=λ{n} y h hn=>by
   have:=Ji shl h;exact⟨Nat.le_trans this.1 (by omega),this.2⟩
  have sgd:∀{hd hl:Bool},L2.Gd hd hl 900 0 (.str lab):=λ{hd hl}=>Jj shl (by omega)
  simp only[List.mem_cons,List.not_mem_nil,or_false]at mv
  rcases mv with rfl|rfl|rfl|rfl|rfl|rfl|rfl|rfl|rfl|rfl|rfl|rfl|rfl|rfl
  ·exact⟨.none,false,false,.BK,Ei (λx y e=>by cases e),L2.Gd.BK.mono (by omega) (by omega),.inl rfl,λ⟨_,_,e,_⟩=>by cases e⟩
  ·exact⟨_,false,false,.str _,Ei (λx y e=>by cases e),(Jj (n:=2) (by unfold Sh;decide+kernel) (by omega)).mono (by omega) (by omega),.inl rfl,λ⟨_,_,e,_⟩=>by cases e⟩
  ·exact⟨_,false,false,.str _,Ei (λx y e=>by cases e),sgd.mono (by omega) (by omega),.inl rfl,λ⟨_,_,e,_⟩=>by cases e⟩
  ·exact⟨_,false,false,.tup q1Z .nil,Ei (λx y e=>by cases e),(L2.Gd.tup Gs.nil).mono (by omega) (by omega),.inl rfl,λ⟨_,_,e,_⟩=>by cases e⟩
  ·exact⟨_,false,true,.lst q2Z .nil,Ei (λx y e=>by cases e),(L2.Gd.lst Gs.nil).mono (by omega) (by omega),.inl rfl,λ⟨_,_,e,_⟩=>by cases e⟩
  ·exact⟨.dict [],true,false,.dct q3Z .nil .nil,Ei (λx y e=>by cases e),L2.Gd.Vi.mono (by omega) (by omega),.inr rfl,λ⟨_,_,e,_⟩=>by cases e⟩
  ·exact⟨_,false,true,.lst q4Z (.cons (.tup uZ (EN.ints us)) (.one (.str lab))),Ei (λx y e=>by cases e),(L2.Gd.lst (Gs.cons (Jk sml (by omega) (e:=2)) (Gs.one (sgd.mono (Nat.le_refl _) (Nat.zero_le _))))).mono (by omega) (by omega),.inl rfl,λ⟨_,_,e,_⟩=>by cases e⟩
  ·refine⟨_,false,true,.tup q6Z (.cons (.lst q5Z (EN.ints us)) (.one (.str lab))),λx y e=>by cases e;exact FF shl (by omega),(L2.Gd.tup (Gs.cons ((L2.Gd.lst (Jh sml (by omega) (e:=1))).mono (Nat.le_refl _) (show 2<=2 by omega)) (Gs.one (sgd.mono (Nat.le_refl _) (Nat.zero_le _))))).mono (by omega) (by omega),.inl rfl,λ⟨_,_,e,_⟩=>by cases e⟩
  ·refine FG (us:=[]) c2Z c1Z (λx hx=>by cases hx) (by show 0<=125;omega) (by unfold Sh;decide+kernel) ?_
   rintro⟨us',z',e,_,l1,_⟩;obtain⟨rfl,rfl⟩:=DJ e;exact absurd l1 (by decide+kernel)
  ·refine FG (us:=us++[(hg:Int),(hg:Int)]) w4Z (by rw[List.map_append];exact y4Z) sml2 (by rw[List.length_append];show _+2<=125;omega) (shl2 (n:=2) _ (by unfold Sh;decide+kernel) (by omega)) ?_
   exact QD (x:=122) (y:=122) hgl ll (by rw[cps2];rfl) (by omega)
  ·refine FG (us:=us++[(hg:Int),(hg:Int)]) w5Z (by rw[List.map_append];exact y5Z) sml2 (by rw[List.length_append];show _+2<=125;omega) (shl2 (n:=2) _ (by unfold Sh;decide+kernel) (by omega)) ?_
   exact QD (x:=122) (y:=121) hgl ll (by rw[cps2];rfl) (by omega)
  ·have sA:Sh 1 (Str.ofString "A"):=by unfold Sh;decide+kernel
   have s3:=Ji (Ji sg1 sA) sg2;rw[hsg]at s3;refine FG c3Z uZ sml (by omega) (z:=sg) ?_ ?_
   ·exact⟨Nat.le_trans s3.1 (by omega),s3.2⟩
   ·rintro⟨us',z',e,_,_,_,lw,_⟩
    obtain⟨rfl,rfl⟩:=DJ e
    have m:(65:Nat)∈sg.cps.toList:=by
     rw[<-hsg];have e2:∀x y:Str,(x++y).cps.toList=x.cps.toList++y.cps.toList:=λx y=>Array.toList_append
     rw[e2,e2];exact List.mem_append_left _ (List.mem_append_right _ (by decide+kernel))
    have:=lw _ m;unfold Lw at this;omega
  ·have cut:∀lo hi,∃vs:List Int,CY (us.map V.int) lo hi=vs.map V.int/\Ri vs/\vs.length<=60:=λlo hi=>by
    refine⟨(us.drop (HT.As (us.map V.int).length 0 lo)).take (HT.As (us.map V.int).length (us.map V.int).length hi - HT.As (us.map V.int).length 0 lo),?_,λx hx=>sml x (List.mem_of_mem_drop (List.mem_of_mem_take hx)),?_⟩
    ·unfold CY
     rw[List.map_take,List.map_drop]
    ·rw[List.length_take,List.length_drop];omega
   obtain⟨vs,ev,sv,lv⟩:=cut none (some at');obtain⟨ws,ew,sw,lw⟩:=cut (some (at'+1)) none;rw[ev,ew]at beZ;refine⟨.tuple [.tuple ((vs.map .int++[.bool true])++ws.map .int),.str lab],false,false,.tup c4Z (.cons (.tup beZ (((EN.ints vs).append (.one (.bl true))).append (EN.ints ws))) (.one (.str lab))),λx y e=>by cases e;exact FF shl (by omega),(L2.Gd.tup (Gs.cons (L2.Gd.tup (((Jh sv (by omega) (e:=1)).append (Gs.one ((L2.Gd.bl true).mono (Nat.le_refl _) (Nat.zero_le _)))).append (Jh sw (by omega) (e:=1)))) (Gs.one (sgd.mono (Nat.le_refl _) (Nat.zero_le _))))).mono (by omega) (by omega),.inl rfl,?_⟩
   rintro⟨us',z',e,_⟩;injection e with e
   injection e with e1 e2
   injection e1 with e1
   have m:PyData.bool true∈us'.map PyData.int:=by rw[<-e1];simp
   obtain⟨_,_,e3⟩:=List.mem_map.mp m;cases e3
  ·refine FG c6Z uZ sml (by omega) (shl2 (n:=1) _ (by unfold Sh;decide+kernel) (by omega)) ?_
   rintro⟨us',z',e,l,_⟩;obtain⟨rfl,rfl⟩:=DJ e
   have e2:(lab++Str.ofString "a").length=lab.length+1:=by
    show(_++_:Array Nat).size=_;rw[Array.size_append];rfl
   omega
end
end S58
namespace S58
open PySem L2 W7 W55
mutual
theorem QG:∀d:PyData,d.hasDict=false->BG d=true
 |.none,_=>by simp only[BG]
 |.bool _,_=>by simp only[BG]
 |.int _,_=>by simp only[BG]
 |.str _,_=>by simp only[BG]
 |.list xs,h=>by simp only[BG];exact Jl xs (by simpa only[PyData.hasDict]using h)
 |.tuple xs,h=>by simp only[BG];exact Jl xs (by simpa only[PyData.hasDict]using h)
 |.dict kvs,h=>by simp only[PyData.hasDict]at h;cases h
theorem Jl:∀ds:List PyData,PyData.hasDictAll ds=false->mixAll ds=true
 |[],_=>by simp only[mixAll]
 |d::ds,h=>by
  simp only[PyData.hasDictAll,Bool.or_eq_false_iff]at h;simp only[mixAll,QG d h.1,Jl ds h.2,Bool.and_self]
end
mutual
theorem QH:∀d:PyData,BD d=true->BG d=true
 |.none,_=>by simp only[BG]
 |.bool _,_=>by simp only[BG]
 |.int _,_=>by simp only[BG]
 |.str _,_=>by simp only[BG]
 |.list xs,h=>by simp only[BD]at h;cases h
 |.tuple xs,h=>by simp only[BG];exact M5 xs (by simpa only[BD]using h)
 |.dict kvs,h=>by simp only[BG];simpa only[BD]using h
theorem M5:∀ds:List PyData,Ap ds=true->mixAll ds=true
 |[],_=>by simp only[mixAll]
 |d::ds,h=>by
  simp only[Ap,Bool.and_eq_true]at h;simp only[mixAll,QH d h.1,M5 ds h.2,Bool.and_self]
end
theorem Vu {hd hl:Bool}{c e:Nat}{d:PyData}(g:L2.Gd hd hl c e d):L2.Gd true true c e d:=⟨g.sh,g.lv,g.wt,g.dp,(λz=>by cases z),(λz=>by cases z)⟩
theorem QI {hd hl:Bool}{c e:Nat}{d:PyData}(g:L2.Gd hd hl c e d)(o:hd=false\/hl=false):BG d=true:=o.elim (λh=>QG d (g.nd h)) λh=>QH d (g.nl h)
theorem Gd.Vv {us:List Str}(g:Gd us):ER (ES us):=by
 have ok:=g.ok;have ll:(FH us).cps.toList.length=(FH us).length:=Array.length_toList;have l:=ok.len;have p:=ok.pos;have m:=ok.most;refine⟨Az us,FH us,rfl,by omega,by omega,by omega,g.lw,g.gr,λq hq=>?_⟩
 unfold F2;refine List.all_eq_true.mpr λi hi=>decide_eq_true ?_
 have hi:=List.mem_range.mp hi;unfold To at hi ⊢;rw[List.length_map]at hi;exact Po ok g.ri q i (by omega)
theorem QJ {us1 us2:List Str}{c:Nat}(g1:Gd us1)(g2:Gd us2)(h1:∀z∈us1,z.cps.toList.head?=some c)(h2:∀z∈us2,z.cps.toList.head?=some c):Fq (ES us1) (ES us2):=by
 refine⟨g1.Vv,g2.Vv,λa b x y e e'=>?_⟩
 obtain⟨rfl,rfl⟩:=DJ e;obtain⟨rfl,rfl⟩:=DJ e';obtain⟨_,_,_,r1⟩:=g1.root h1;obtain⟨_,_,_,r2⟩:=g2.root h2;rw[CA,CA,r1,r2]
theorem RF {us1:List Str}{c:Nat}(g1:Gd us1)(h1:∀z∈us1,z.cps.toList.head?=some c){us:List Int}{z:Str}(n:z.cps.toList.getD 0 0≠c):¬Fq (ES us1) (.tuple [.tuple (us.map .int),.str z])/\¬Fq (.tuple [.tuple (us.map .int),.str z]) (ES us1):=by
 obtain⟨_,_,_,r1⟩:=g1.root h1;refine⟨λt=>n ?_,λt=>n ?_⟩
 ·have e:=t.2.2 _ _ _ _ rfl rfl
  rw[CA,r1]at e;exact e.symm
 ·have e:=t.2.2 _ _ _ _ rfl rfl
  rw[CA,r1]at e;exact e
theorem Jm {d d':PyData}(h:¬ER d\/¬ER d'):¬Fq d d':=λt=>h.elim (λz=>z t.1) λz=>z t.2.1
theorem Uo:∀i:Fin 26,Builtin.Str.occurrences (Str.ofString "abcdefghijklmnopqrstuvwxyz") ⟨#[97+i.val]⟩ 0 (Str.ofString "abcdefghijklmnopqrstuvwxyz").length 1=[i.val]:=by decide+kernel
theorem RG {d d':PyData}{hd hl hd' hl':Bool}(g:L2.Gd hd hl 60000 6 d)(o:hd=false\/hl=false)(g':L2.Gd hd' hl' 60000 6 d')(o':hd'=false\/hl'=false):N7 (.list [d,d']):=by
 have z:=L2.Gd.lst (Gs.cons (Vu g) (Gs.one (Vu g')));exact⟨z.sh,z.lv,Nat.le_trans z.wt (by decide),Nat.le_trans z.dp (by decide),by simp only[BG,mixAll,QI g o,QI g' o',Bool.and_self]⟩
end S58
namespace L2
open PySem PySem.Spec PyProof.Rows
section
variable {X:Cx}
theorem N8:VR X "str.index" (λx vs H Q=>∃(z p:Str) (i:Nat) (rest:List Nat),x=.str z/\vs=[.str p]/\Builtin.Str.occurrences z p 0 z.length 1=i::rest/\Q (.int (i:Int)) H):=by
 intro pins s σ H x xs v us Q I rx rv h;obtain⟨z,p,i,rest,rfl,rfl,ho,q⟩:=h;obtain⟨t,rfl⟩:=rx;obtain⟨u,rfl,t',rfl⟩:=rv.one;exact SC.index ho ⟨.int _,H,I.tok _,⟨_,rfl⟩,q⟩
theorem N9 {o e:Expr}{to te:TE}{apos cpos:Pos}(ho:PE X o to)(he:PE X e te)(hbase:attributeBase o "index" X.env (eval o X.env)=eval o X.env:=by rfl)
 (h1:starEach [e] X.env=[(false,eval e X.env)]:=by rfl)(hl:(apos.endLine==cpos.line)=true:=by rfl):
 PE X (.Call (.Attribute o "index" apos) [e] [] cpos) (VU X.K "str" (λx vs H Q=>∃(z p:Str) (i:Nat) (rest:List Nat),x=.str z/\vs=[.str p]/\Builtin.Str.occurrences z p 0 z.length 1=i::rest/\Q (.int (i:Int)) H) to (OQ te NJ)):=
 Cu PySem.F.plainAttrs_str PySem.F.slot_str_index PySem.F.type_str_index N8 ho (AA he AB h1) hbase (by rw[h1];rfl) hl h1 (by rfl)
end
end L2
namespace S58
open PySem L2 W7 W55
theorem BL.kp {p t:Addr}{us:List Str}{H H':Hp}(h:BL H t us)(pl:DF H p)(k:Kp p H H'):BL H' t us:=by
 obtain⟨u,a,b⟩:=h;exact⟨u,k.keep _ _ (C7 pl a) a,k.keep _ _ (C7 pl b) b⟩
theorem Bd.on {H H':Hp}{v:V}(h:Bd H v)(s:AG H H'):Bd H' v:=let⟨d,hd,hl,t,r⟩:=h;⟨d,hd,hl,t.same s,r⟩
def Tk (H:Hp)(v:V)(d:PyData):Prop:=Td H v d/\OD d/\∃hd hl,L2.Gd hd hl 60000 6 d/\(hd=false\/hl=false)
theorem Tk.on {H H':Hp}{v:V}{d:PyData}(h:Tk H v d)(s:AG H H'):Tk H' v d:=⟨h.1.same s,h.2⟩
def Pr (H:Hp)(v v':V):Prop:=∃d d',Tk H v d/\Tk H v' d'/\¬Fq d d'
theorem Pr.on {H H':Hp}{v v':V}(h:Pr H v v')(s:AG H H'):Pr H' v v':=let⟨d,d',a,b,n⟩:=h;⟨d,d',a.on s,b.on s,n⟩
theorem Bd.tk {H:Hp}{v:V}(h:Bd H v):∃d,Tk H v d/\¬ER d:=let⟨d,hd,hl,t,sh,g,o,n⟩:=h;⟨d,⟨t,sh,hd,hl,g,o⟩,n⟩
theorem M6 {H:Hp}{r u:Addr}{us:List Int}{z:Str}(h:H r=some (.tup [.ref u,.str z]))(hu:H u=some (.tup (us.map V.int)))(sm:Ri us)(l:us.length<=125)(s:Sh 200 z):Tk H (.ref r) (.tuple [.tuple (us.map .int),.str z]):=
 ⟨.tup h (.cons (.tup hu (EN.ints us)) (.one (.str z))),λx y e=>by cases e;exact FF s (by omega),false,false,(L2.Gd.tup (Gs.cons (Jk sm l (e:=2)) (Gs.one ((Jj s (by omega)).mono (Nat.le_refl _) (Nat.zero_le _))))).mono (by omega) (by omega),.inl rfl⟩
theorem QK {us:List Int}{lab:List Nat}(ok:Al us lab):Ri us:=λx hx=>by
 obtain⟨i,hi,rfl⟩:=List.getElem_of_mem hx;have m:=ok.most;have e:us.getD i 0=us[i]:=by rw[List.getD_eq_getElem?_getD,List.getElem?_eq_getElem hi];rfl
 rw[<-e]
 rcases Nat.eq_zero_or_pos i with z|z
 ·rw[z,ok.root];omega
 ·have:=ok.up i z hi;omega
theorem Gd.sh {us:List Str}(g:Gd us):Sh 60 (FH us):=by
 have ll:(FH us).cps.toList.length=(FH us).length:=Array.length_toList;have l:=g.ok.len;have m:=g.ok.most;exact⟨by omega,λc hc=>by have:=g.lw c hc;exact Nat.lt_trans this.2 (by decide)⟩
theorem Gd.tk {us:List Str}(g:Gd us){H:Hp}{t:Addr}(h:BL H t us):Tk H (.ref t) (ES us):=by
 obtain⟨u,a,b⟩:=h;have m:=g.ok.most;exact M6 a b (QK g.ok) (by omega) ⟨Nat.le_trans g.sh.1 (by decide),g.sh.2⟩
theorem QL {H:Hp}{v v':V}{d d':PyData}(h:Tk H v d)(h':Tk H v' d'):N7 (.list [d,d']):=by
 obtain⟨_,_,hd,hl,g,o⟩:=h;obtain⟨_,_,hd',hl',g',o'⟩:=h';exact RG g o g' o'
theorem L5 {H:Hp}{v v':V}{n:Int}{Q:V->Hp->Prop}{E:XK}(h:Pr H v v')(q:∀H',AG H H'->Q (.str "tries") H'):FE [.int n,v,v'] H Q E:=by
 obtain⟨d,d',a,b,nt⟩:=h;exact⟨n,v,v',d,d',rfl,a.1,a.2.1,b.1,b.2.1,QL a b,.inl ⟨nt,q⟩⟩
theorem Ih {H:Hp}{t t':Addr}{n:Int}{us1 us2:List Str}{c:Nat}{Q:V->Hp->Prop}{E:XK}(g1:Gd us1)(g2:Gd us2)(h1:∀z∈us1,z.cps.toList.head?=some c)(h2:∀z∈us2,z.cps.toList.head?=some c)(t1:BL H t us1)(t2:BL H t' us2)
 (q:∀us:List Str,us.Nodup->(∀x,x∈us↔x∈us1\/x∈us2)->(n≠0\/us.length<=60->∀H',AG H H'->Q (.str "told") H')/\(n=0->60 < us.length->∀H',AG H H'->Q (.str "many") H')):FE [.int n,.ref t,.ref t'] H Q E:=by
 have a:=g1.tk t1;have b:=g2.tk t2;exact⟨n,.ref t,.ref t',ES us1,ES us2,rfl,a.1,a.2.1,b.1,b.2.1,QL a b,.inr ⟨QJ g1 g2 h1 h2,us1,us2,t,t',c,⟨rfl,rfl,g1,g2,t1,t2,h1,h2⟩,q⟩⟩
theorem OA {H:Hp}{t t':Addr}{us1 us2:List Str}{c:Nat}{Q:V->Hp->Prop}{E:XK}(g1:Gd us1)(g2:Gd us2)(h1:∀z∈us1,z.cps.toList.head?=some c)(h2:∀z∈us2,z.cps.toList.head?=some c)(t1:BL H t us1)(t2:BL H t' us2)
 (q:∀(x:Str) H',AG H H'->(∀us:List Str,us.Nodup->(∀x,x∈us↔x∈us1\/x∈us2)->(us.length<=60/\x="told")\/(60 < us.length/\x="many"))->Q (.str x) H'):FE [.int 0,.ref t,.ref t'] H Q E:=by
 refine Ih g1 g2 h1 h2 t1 t2 λus nd m=>⟨λh H' s=>q _ H' s λus' nd' m'=>.inl ⟨?_,rfl⟩,λ_ h H' s=>q _ H' s λus' nd' m'=>.inr ⟨?_,rfl⟩⟩
 ·have:=nd'.length_le_of_subset (l₂:=us) λz hz=>(m z).mpr ((m' z).mp hz)
  rcases h with h|h
  ·exact absurd rfl h
  ·omega
 ·have:=nd.length_le_of_subset (l₂:=us') λz hz=>(m' z).mpr ((m z).mp hz)
  omega
theorem K8 {H:Hp}{p r:Addr}{ws:List Str}(h:DF H p)(e:H r=some (.lst (ws.map V.str))):r≠p:=by
 rintro rfl;obtain⟨x,y,e2⟩:=h;rw[e]at e2;cases ws with
 |nil=>cases e2
 |cons a l=>cases e2
theorem Ii (j:Fin 26):Sh 1 ⟨#[97+j.val]⟩:=⟨Nat.le_refl _,λc hc=>by
 have:c=97+j.val:=by simpa using hc
 have:=j.isLt;omega⟩
theorem Tb:∀i:Fin 26,Du (Str.ofString "abcdefghijklmnopqrstuvwxyz").cps.toList (i.val:Int)=some (97+i.val):=by decide+kernel
theorem Tc {c:Nat}{aw:Int}(lo:97<=c)(hi:c<=122)(a0:0<=aw)(a1:aw < 25):∃j:Fin 26,(((c - 97:Nat):Int)+(1+aw)) % 26=(j.val:Int)/\97+j.val≠c:=by
 have m0:0<=(((c - 97:Nat):Int)+(1+aw)) % 26:=Int.emod_nonneg _ (by decide)
 have m1:(((c - 97:Nat):Int)+(1+aw)) % 26 < 26:=Int.emod_lt_of_pos _ (by decide)
 refine⟨⟨((((c - 97:Nat):Int)+(1+aw)) % 26).toNat,by omega⟩,(Int.toNat_of_nonneg m0).symm,?_⟩
 show 97+((((c - 97:Nat):Int)+(1+aw)) % 26).toNat≠c;omega
section
variable {P:Program}{w:World}{K:PySem.W.Frag}{mg:Str->Option Value}{base:Heap}{k:Nat}
def sp_law:PySem.W.Frag->Sp:=λK vs H Q _=>∃(a:Addr) (ns:List Int),vs=[.ref a]/\Ah K H a (ns.map V.int)/\ns.length<=63/\∀H',Q (.bl true) H'
theorem Te {f:Addr}{fd:FuncData}(F:R7 K "law" "law" s_law f fd)(B:B6 mg)(G_law_pool:BO P w K mg base "_law_pool" k ["script","at"] (MV K))(G_law_take:BO P w K mg base "_law_take" k ["pool","many"] CP)(G_law_two:BO P w K mg base "_law_two" k ["pool","most"] QC)(G_law_trie:BO P w K mg base "_law_trie" k ["ways"] Kd)(G_law_bad:BO P w K mg base "_law_bad" k ["pool","tree"] QF)(G_law_told:BO P w K mg base "_law_told" k ["way","one","other"] FE):
 ET P w K mg base CX0 (k+1) f fd ["script"] (sp_law K):=by
 refine F.ok B3 (λvs H Q E h=>by obtain⟨a,ns,rfl,_⟩:=h;rfl) (λcdv A outer s H vs Q E hr h=>?_)
 obtain⟨a,ns,rfl,hS,h63,q⟩:=h;refine⟨_,(AE (Bs PassesOwn.never rfl (By rfl B.range (AA (AN (Dt rfl) rfl B.max Iz (AA AF (AA (AN (NG rfl) rfl B.min SA (AA AF (AA (AN AY rfl B.len A6 (AA (pv 0) AB)) AB))) AB))) AB)) (AW (i:=1) B3.nd rfl (by first|exact Or.inl rfl|exact Or.inr rfl))
 (AE (AM (i:=2) B3.nd rfl (by first|exact Or.inl rfl|exact Or.inr rfl) (AH G_law_pool hr rfl (AA (pv 0) (AA (pv 1) AB))))
 (AE (AM (i:=3) B3.nd rfl (by first|exact Or.inl rfl|exact Or.inr rfl) (AR BB AF (AH G_law_take hr rfl (AA (pv 2) (AA AF AB)))))
 (AE (AM (i:=4) B3.nd rfl (by first|exact Or.inl rfl|exact Or.inr rfl) (AH G_law_two hr rfl (AA (pv 2) (AA AF AB))))
 (AE (AM (i:=5) B3.nd rfl (by first|exact Or.inl rfl|exact Or.inr rfl) (AH G_law_trie hr rfl (AA (AU Aj (pv 4) AF (λ_ _=>rfl)) AB)))
 (AE (AM (i:=6) B3.nd rfl (by first|exact Or.inl rfl|exact Or.inr rfl) (AH G_law_trie hr rfl (AA (AU Aj (pv 4) AF (λ_ _=>rfl)) AB)))
 (AE (AM (i:=7) B3.nd rfl (by first|exact Or.inl rfl|exact Or.inr rfl) (AH G_law_bad hr rfl (AA (pv 2) (AA (pv 5) AB))))
 (AE (AM (i:=8) B3.nd rfl (by first|exact Or.inl rfl|exact Or.inr rfl) (AH G_law_bad hr rfl (AA (pv 2) (AA (pv 6) AB))))
 (AE (AM (i:=9) B3.nd rfl (by first|exact Or.inl rfl|exact Or.inr rfl) (AU Cn Aq (AR CI (AR BB (N9 Aq (AU Cn (AU Aj (pv 5) AF (λ_ _=>rfl)) AF (λ_ _=>rfl))) (pv 3)) AF) (λ_ _=>rfl)))
 (AE (AM (i:=10) B3.nd rfl (by first|exact Or.inl rfl|exact Or.inr rfl) (An (AA (AU Aj (pv 6) AF (λ_ _=>rfl)) (AA (AR Ax (pv 9) (BN EV (AU Aj (pv 6) AF (λ_ _=>rfl)) (Ba AF) Bg)) AB))))
 (AE (A9 (Aa Cr (AH G_law_told hr rfl (AA AF (AA (pv 5) (AA (pv 6) AB)))) (AU Av (Ar (AA Aq (AA Aq AB))) (Af B0 rfl B.int_ DG (AA (Ca Hv (AN (Hr w) rfl B.len A6 (AA (Af (BP w rfl) rfl B.set_ FW (AA (AR LM (AU Aj (pv 4) AF (λ_ _=>rfl)) (AU Aj (pv 4) AF (λ_ _=>rfl))) AB)) AB)) AF (Ae _)) AB)) (λ_ _=>rfl)) (Ae _))
 (AI (AS CM))
 Ad)
 (AE (A9 (Aa Cr (AH G_law_told hr rfl (AA AF (AA (pv 5) (AA (pv 6) AB)))) Aq (Ae _))
 (AI (AS CM))
 Ad)
 (AE (AM (i:=11) B3.nd rfl (by first|exact Or.inl rfl|exact Or.inr rfl) (Ar (AA (An (AA (pv 5) (AA (pv 10) AB))) (AA (An (AA (pv 10) (AA (pv 5) AB))) (AA (An (AA (pv 7) (AA (pv 6) AB))) (AA (An (AA (pv 5) (AA (pv 7) AB))) AB))))))
 (AE (BZ (Cu PySem.F.plainAttrs_list PySem.F.slot_list_extend PySem.F.type_list_extend FO (pv 11) (AA (Ar (AA (An (AA (pv 7) (AA (pv 8) AB))) (AA (An (AA (pv 8) (AA (pv 10) AB))) AB))) AB)))
 (AI (Bs PassesOwn.never rfl (Br (pv 11)) (AW (i:=12) B3.nd rfl (by first|exact Or.inl rfl|exact Or.inr rfl))
 (AI (A9 (Aa (Nx hr.R1) (BI rfl (Br (Ar (AA AF (AA AF (AA AF AB))))) (NL:=["way"]) (ix:=[12]) (J1 (AJ s_law) RW) (λcl C s₃ H₃ fp pins=>⟨(AW (i:=0) (show List.Nodup (["way","pair"]:List Str)from by decide+kernel) rfl (by first|exact Or.inl rfl|exact Or.inr rfl)),(Jx (Aa Cr (AH G_law_told hr rfl (AA (pv 0) (AA (AU (JC K) (pv 1) AF (λ_ _=>rfl)) (AA (AU (JC K) (pv 1) AF (λ_ _=>rfl)) AB)))) Aq (Ae _))),(pv 0)⟩)) (Ar AB) (Ae _))
 (AI (AS CM))
 Ad))))))))))))))))))
 (AI (AS CM))),?_⟩
 have hl:(ns.map V.int).length=ns.length:=List.length_map _;refine⟨_,rfl,a,_,rfl,.inl hS,_,_,rfl,_,_,rfl,_,rfl,?_,?_,?_⟩
 ·split<;>(try split)<;>omega
 ·split<;>(try split)<;>omega
 have hbound:(if(if(((ns.map V.int).length:Nat):Int) < 6 then(((ns.map V.int).length:Nat):Int)else 6) > 1 then(if(((ns.map V.int).length:Nat):Int) < 6 then(((ns.map V.int).length:Nat):Int)else 6)else 1:Int).toNat<=6:=by
  split<;>(try split)<;>omega
 generalize(if(if(((ns.map V.int).length:Nat):Int) < 6 then(((ns.map V.int).length:Nat):Int)else 6) > 1 then(if(((ns.map V.int).length:Nat):Int) < 6 then(((ns.map V.int).length:Nat):Int)else 6)else 1:Int).toNat=n at hbound
 refine Bm (lo:=0) (n:=n) (λi σ H'=>∃o1 o2 o3 o4 o5 o6 o7 o8 o9 o10 o11 o12:Option V,σ=[some (.ref a),o1,o2,o3,o4,o5,o6,o7,o8,o9,o10,o11,o12]/\AG H H') ⟨none,none,none,none,none,none,none,none,none,none,none,none,rfl,AG.refl H⟩ ?_ ?_
 ·rintro i σ H' hi ⟨o1,o2,o3,o4,o5,o6,o7,o8,o9,o10,o11,o12,rfl,s1⟩
  refine⟨_,rfl,_,rfl,a,ns,0+(i:Int),rfl,s1.seq hS,h63,by omega,by omega,λp x y hp=>?_⟩
  have hpool:DF (upd H' p (.lst [.int x,.int y])) p:=⟨x,y,AD⟩;have s1':AG H' (upd H' p (.lst [.int x,.int y])):=(AG.refl H').new hp;show(λHH=>_) (upd H' p (.lst [.int x,.int y]))
  generalize upd H' p (.lst [.int x,.int y])=HP at hpool s1';refine⟨_,rfl,p,25,rfl,hpool,by decide,by decide,λaw H1 w0 w1 k1=>⟨_,_,rfl,rfl,?_⟩⟩
  refine⟨_,rfl,p,60,rfl,by decide,by decide,k1.pool,λr o o' c ws ws' H2 k2 hr2 ho ho2 g g'=>?_⟩
  have k12:=k1.trans k2;refine⟨_,rfl,r,_,_,_,rfl,rfl,BM.of hr2,rfl,o,ws,rfl,ho,g.le,g.cl,g.zl,λus1 t1 u1 H3 uq1 s3 f1 ht1 hu1=>?_⟩
  refine⟨_,rfl,r,_,_,_,rfl,rfl,BM.of (s3 _ _ hr2),rfl,o',ws',rfl,s3 _ _ ho2,g'.le,g'.cl,g'.zl,λus2 t2 u2 H4 uq2 s4 f2 ht2 hu2=>?_⟩
  have gd1:=g.gd uq1 (uq1.nd.length_le_of_subset λz hz=>(uq1.mem z).mp hz)
  have gd2:=g'.gd uq2 (uq2.nd.length_le_of_subset λz hz=>(uq2.mem z).mp hz)
  have s34:=s3.trans s4;have ta1:BL H4 t1 us1:=⟨u1,s4 _ _ ht1,s4 _ _ hu1⟩;have ta2:BL H4 t2 us2:=⟨u2,ht2,hu2⟩;have k4:=(k12.same s3).same s4;refine⟨_,rfl,_,rfl,p,t1,_,_,rfl,k4.pool,gd1.1.tree ta1,gd1.1.lw,λbad H5 k5 bd=>?_⟩
  have ta15:=ta1.kp k4.pool k5;have ta25:=ta2.kp k4.pool k5;refine⟨_,rfl,_,rfl,p,t2,_,_,rfl,k5.pool,gd2.1.tree ta25,gd2.1.lw,λworse H6 k6 bd'=>?_⟩
  have ta16:=ta15.kp k5.pool k6;have ta26:=ta25.kp k5.pool k6;have bd6:Bd (dl [p] H6) bad:=bd.on (V3 k6 (by simp))
  obtain⟨_,_,_,r1⟩:=gd1.1.root gd1.2;obtain⟨v1,hv1,hv1'⟩:=id ta16;have ok1:=gd1.1.ok;have m1:=ok1.most;have p1:=ok1.pos;have l1:=ok1.len;have ll1:(FH us1).cps.toList.length=(FH us1).length:=Array.length_toList
  have lw1:Lw c:=gd1.1.lw c (by
   have e:(FH us1).cps.toList.getD 0 0=c:=by rw[CA];exact r1
   rw[<-e,List.getD_eq_getElem?_getD,List.getElem?_eq_getElem (by omega)]
   exact List.getElem_mem _)
  have at1:Du (FH us1).cps.toList 0=some c:=BH (j:=0) (by
   have e:(FH us1).cps.toList.getD 0 0=c:=by rw[CA];exact r1
   rw[<-e,List.getD_eq_getElem?_getD,List.getElem?_eq_getElem (by omega)];rfl)
  obtain⟨lwa,lwb⟩:=lw1;have oc:=Uo ⟨c - 97,by omega⟩
  rw[show 97+(⟨c - 97,by omega⟩:Fin 26).val=c by show 97+(c - 97)=c;omega]at oc
  refine⟨rfl,_,rfl,t1,_,_,_,rfl,rfl,BM.of hv1,rfl,FH us1,_,_,rfl,rfl,Nat.le_of_lt (AK (by omega)),at1,?_⟩
  refine⟨_,⟨#[c]⟩,_,_,rfl,rfl,oc,_,rfl,_,_,rfl,rfl,_,_,rfl,rfl,(by show(0:Int) < 26;decide),?_⟩
  obtain⟨j,ej,nj⟩:=Tc (c:=c) (aw:=aw) lwa (by omega) w0 w1
  have atj:=Tb j;rw[<-ej]at atj;refine⟨_,_,_,rfl,rfl,(by decide),atj,?_⟩
  obtain⟨v2,hv2,hv2'⟩:=id ta26;have sh2:=gd2.1.sh;have ok2:=gd2.1.ok;refine⟨_,rfl,t2,_,_,_,rfl,rfl,BM.of hv2,rfl,?_⟩
  refine⟨_,rfl,_,rfl,t2,_,_,_,rfl,rfl,BM.of hv2,rfl,?_⟩
  have shc:=L4 sh2 (some 1) none;have shz:=Ji (Ii j) shc;refine⟨1,rfl,FH us2,rfl,RC sh2 (by omega),_,_,rfl,rfl,Ta (Ii j) shc (by omega),(by show 2<=sizeLine;decide),λun hun=>?_⟩
  have zr:((⟨#[97+j.val]⟩:Str)++CT (FH us2) (some 1) none).cps.toList.getD 0 0≠c:=by
   rw[show((⟨#[97+j.val]⟩:Str)++CT (FH us2) (some 1) none).cps=#[97+j.val]++(CT (FH us2) (some 1) none).cps from rfl,Array.toList_append]
   exact nj
  generalize(⟨#[97+j.val]⟩:Str)++CT (FH us2) (some 1) none=uz at shz zr;generalize hJ:upd H6 un _=H7;have s7:AG H6 H7:=by rw[<-hJ];exact(AG.refl H6).new hun
  have h7:H7 un=some (.tup [.ref v2,.str uz]):=by rw[<-hJ];exact AD
  clear hJ;have tku:Tk H7 (.ref un) (.tuple [.tuple ((Az us2).map .int),.str uz]):=M6 h7 (s7 _ _ hv2') (QK ok2) (by have:=ok2.most;omega) ⟨Nat.le_trans shz.1 (by decide),shz.2⟩
  have nu:=RF gd1.1 gd1.2 (us:=Az us2) zr;have k26:=((k4.trans k5).trans k6);have ta17:=ta16.same s7;have ta27:=ta26.same s7;refine⟨_,rfl,_,rfl,?_⟩
  dsimp only[NJ,List.cons_append,List.nil_append]
  refine OA gd1.1 gd2.1 gd1.2 gd2.2 ta17 ta27 λx H8 s8 hx=>?_
  have hr8:H8 r=some _:=s8 _ _ (s7 _ _ ((k5.trans k6).keep _ _ (C7 k4.pool (s34 _ _ hr2)) (s34 _ _ hr2)));have ho8:H8 o=some _:=s8 _ _ (s7 _ _ ((k5.trans k6).keep _ _ (K8 k4.pool (s34 _ _ ho)) (s34 _ _ ho)));have ho28:H8 o'=some _:=s8 _ _ (s7 _ _ ((k5.trans k6).keep _ _ (K8 k4.pool (s34 _ _ ho2)) (s34 _ _ ho2)));have le1:=g.le;have le2:=g'.le;refine⟨(by show 2<=sizeLine;decide),λl9 hl9=>?_⟩
  generalize hJ:upd H8 l9 _=H9;have s9:AG H8 H9:=by rw[<-hJ];exact(AG.refl H8).new hl9
  have h9:H9 l9=some (.lst [.str "told",.str "many"]):=by rw[<-hJ];exact AD
  clear hJ;refine⟨_,rfl,r,_,_,_,rfl,rfl,BM.of (s9 _ _ hr8),rfl,_,rfl,r,_,_,_,rfl,rfl,BM.of (s9 _ _ hr8),rfl,?_⟩
  refine⟨o,o',_,_,rfl,rfl,s9 _ _ ho8,s9 _ _ ho28,Nat.le_of_lt (AK (by rw[List.length_map,List.length_map];omega)),λvA hvA=>?_⟩
  rw[<-List.map_append];generalize hJ:upd H9 vA _=HA;have sA:AG H9 HA:=by rw[<-hJ];exact(AG.refl H9).new hvA
  have hA:HA vA=some (.lst ((ws++ws').map V.str)):=by rw[<-hJ];exact AD
  clear hJ;refine⟨vA,ws++ws',rfl,Ah.of hA,by rw[List.length_append];omega,λvB hvB=>?_⟩
  generalize hJ:upd HA vB _=HB;have sB:AG HA HB:=by rw[<-hJ];exact(AG.refl HA).new hvB
  have hB:HB vB=some (Aw w vB (ws++ws') (ws++ws').length):=by rw[<-hJ];exact AD
  clear hJ;refine⟨vB,ws++ws',_,rfl,hB,by rw[List.length_append];omega,λus0 nd0 mem0=>?_⟩
  have hx0:=hx us0 nd0 (λz=>by rw[mem0,List.mem_append,uq1.mem,uq2.mem])
  have ati:Du [V.str "told",V.str "many"] (if decide ((60:Int) < ((us0.length:Nat):Int))=true then 1 else 0)=some (.str x):=by
   rcases hx0 with⟨e,rfl⟩|⟨e,rfl⟩
   ·rw[decide_eq_false (by omega)];rfl
   ·rw[decide_eq_true (by omega)];rfl
  refine⟨_,_,rfl,rfl,.inr ⟨_,rfl,?_⟩⟩
  refine⟨l9,_,_,_,rfl,rfl,Ah.of (sB _ _ (sA _ _ h9)),ati,?_⟩
  refine⟨rfl,_,rfl,L2.Dq (by simp) ?_⟩
  have s7B:=((s8.trans s9).trans sA).trans sB;refine⟨_,rfl,_,rfl,?_⟩
  dsimp only[NJ,List.cons_append,List.nil_append]
  refine Ih gd1.1 gd2.1 gd1.2 gd2.2 (ta17.same s7B) (ta27.same s7B) λus nd m=>⟨λ_ HC sC=>?_,λz=>absurd z (by decide)⟩
  refine⟨rfl,_,rfl,L2.Dq (by simp) ?_⟩
  have s7C:=s7B.trans sC;refine⟨_,rfl,_,rfl,(by show 2<=sizeLine;decide),λq0 hq0=>?_⟩
  generalize hJ:upd HC q0 _=D0;have sD0:AG HC D0:=by rw[<-hJ];exact(AG.refl HC).new hq0
  have hD0:D0 q0=some (.tup [.ref t1,.ref un]):=by rw[<-hJ];exact AD
  clear hJ;refine⟨_,rfl,_,rfl,(by show 2<=sizeLine;decide),λq1 hq1=>?_⟩
  generalize hJ:upd D0 q1 _=D1;have sD1:AG D0 D1:=by rw[<-hJ];exact(AG.refl D0).new hq1
  have hD1:D1 q1=some (.tup [.ref un,.ref t1]):=by rw[<-hJ];exact AD
  clear hJ;refine⟨_,rfl,_,rfl,(by show 2<=sizeLine;decide),λq2 hq2=>?_⟩
  generalize hJ:upd D1 q2 _=D2;have sD2:AG D1 D2:=by rw[<-hJ];exact(AG.refl D1).new hq2
  have hD2:D2 q2=some (.tup [bad,.ref t2]):=by rw[<-hJ];exact AD
  clear hJ;refine⟨_,rfl,_,rfl,(by show 2<=sizeLine;decide),λq3 hq3=>?_⟩
  generalize hJ:upd D2 q3 _=D3;have sD3:AG D2 D3:=by rw[<-hJ];exact(AG.refl D2).new hq3
  have hD3:D3 q3=some (.tup [.ref t1,bad]):=by rw[<-hJ];exact AD
  clear hJ;refine⟨(by show 4<=sizeLine;decide),λL hL=>?_⟩
  generalize hJ:upd D3 L _=DL;have sDL:AG D3 DL:=by rw[<-hJ];exact(AG.refl D3).new hL
  have hDL:DL L=some (.lst [.ref q0,.ref q1,.ref q2,.ref q3]):=by rw[<-hJ];exact AD
  clear hJ;refine⟨_,rfl,.inl ⟨rfl,_,Ah.of hDL⟩,?_⟩
  refine⟨_,rfl,_,rfl,(by show 2<=sizeLine;decide),λq4 hq4=>?_⟩
  generalize hJ:upd DL q4 _=D4;have sD4:AG DL D4:=by rw[<-hJ];exact(AG.refl DL).new hq4
  have hD4:D4 q4=some (.tup [bad,worse]):=by rw[<-hJ];exact AD
  clear hJ;refine⟨_,rfl,_,rfl,(by show 2<=sizeLine;decide),λq5 hq5=>?_⟩
  generalize hJ:upd D4 q5 _=D5;have sD5:AG D4 D5:=by rw[<-hJ];exact(AG.refl D4).new hq5
  have hD5:D5 q5=some (.tup [worse,.ref un]):=by rw[<-hJ];exact AD
  clear hJ;refine⟨(by show 2<=sizeLine;decide),λM hM=>?_⟩
  generalize hJ:upd D5 M _=DM;have sDM:AG D5 DM:=by rw[<-hJ];exact(AG.refl D5).new hM
  have hDM:DM M=some (.lst [.ref q4,.ref q5]):=by rw[<-hJ];exact AD
  clear hJ;have hLM:=sDM _ _ (sD5 _ _ (sD4 _ _ hDL));refine⟨L,M,_,_,rfl,rfl,hLM,hDM,(by show 4+2<=sizeLine;decide),?_⟩
  have sLM:=((sDL.trans sD4).trans sD5).trans sDM;have n4:q4≠L:=(AL hDL hq4).symm;have n5:q5≠L:=(AL (sD4 _ _ hDL) hq5).symm;generalize hJ:upd DM L _=HF;have sF:AG D3 HF:=by rw[<-hJ];exact sLM.write hL
  have hF:HF L=some (.lst ([.ref q0,.ref q1,.ref q2,.ref q3]++[.ref q4,.ref q5])):=by rw[<-hJ];exact AD
  have f4:HF q4=some (.tup [bad,worse]):=by rw[<-hJ,AO n4];exact sDM _ _ (sD5 _ _ hD4)
  have f5:HF q5=some (.tup [worse,.ref un]):=by rw[<-hJ,AO n5];exact sDM _ _ hD5
  clear hJ;have s7F:AG H7 HF:=((((s7C.trans sD0).trans sD1).trans sD2).trans sD3).trans sF;have f0:HF q0=some (.tup [.ref t1,.ref un]):=sF _ _ (sD3 _ _ (sD2 _ _ (sD1 _ _ hD0)));have f1:HF q1=some (.tup [.ref un,.ref t1]):=sF _ _ (sD3 _ _ (sD2 _ _ hD1));have f2:HF q2=some (.tup [bad,.ref t2]):=sF _ _ (sD3 _ _ hD2);have f3:HF q3=some (.tup [.ref t1,bad]):=sF _ _ hD3;have tk1:Tk HF (.ref t1) (ES us1):=(gd1.1.tk ta17).on s7F;have tk2:Tk HF (.ref t2) (ES us2):=(gd2.1.tk ta27).on s7F;have tkU:=tku.on s7F;obtain⟨db,tb,nb⟩:=((bd6.on (Mu [p] H6)).on (s7.trans s7F)).tk;obtain⟨dw,tw,nw⟩:=((bd'.on (Mu [p] H6)).on (s7.trans s7F)).tk
  have bag:∀x∈([.ref q0,.ref q1,.ref q2,.ref q3]++[.ref q4,.ref q5]:List V),∃q v v',x=.ref q/\HF q=some (.tup [v,v'])/\Pr HF v v':=by
   intro x hx;have hx:x∈[V.ref q0,.ref q1,.ref q2,.ref q3,.ref q4,.ref q5]:=hx;simp only[List.mem_cons,List.not_mem_nil,or_false]at hx
   rcases hx with rfl|rfl|rfl|rfl|rfl|rfl
   ·exact⟨q0,_,_,rfl,f0,_,_,tk1,tkU,nu.1⟩
   ·exact⟨q1,_,_,rfl,f1,_,_,tkU,tk1,nu.2⟩
   ·exact⟨q2,_,_,rfl,f2,_,_,tb,tk2,Jm (.inl nb)⟩
   ·exact⟨q3,_,_,rfl,f3,_,_,tk1,tb,Jm (.inr nb)⟩
   ·exact⟨q4,_,_,rfl,f4,_,_,tb,tw,Jm (.inl nb)⟩
   ·exact⟨q5,_,_,rfl,f5,_,_,tw,tkU,Jm (.inl nw)⟩
  have sHF:AG H HF:=λb o e=>by
   have e1:=s1 b o e;have ne:b≠p:=AL e1 hp;exact s7F _ _ (s7 _ _ (k26.keep b o ne (s1' _ _ e1)))
  generalize hxs:([.ref q0,.ref q1,.ref q2,.ref q3]++[.ref q4,.ref q5]:List V)=xs at hF bag;have lxs:xs.length=6:=by rw[<-hxs];rfl
  refine⟨_,rfl,L,rfl,⟨_,Ah.of hF⟩,?_⟩
  refine GP (K:=K) (xs:=xs) (λj' σ HX=>∃oo:Option V,σ=[some (.ref a),some (.int (0+(i:Int))),some (.ref p),some (.int (1+aw)),some (.ref r),some (.ref t1),some (.ref t2),some bad,some worse,some (.str ⟨#[97+j.val]⟩),some (.ref un),some (.ref L),oo]/\AG HF HX) ⟨_,rfl,AG.refl HF⟩ (λj' σ HX _ h=>by obtain⟨_,_,sX⟩:=h;exact Ah.of (sX _ _ hF)) ?_ ?_
  rotate_left
  ·rintro σ HX ⟨oo,rfl,sX⟩
   exact⟨_,_,_,_,_,_,_,_,_,_,_,_,rfl,sHF.trans sX⟩
  rintro j' x σ HX hx ⟨oo,rfl,sX⟩;obtain⟨qq,v,v',rfl,hqq,pr⟩:=bag x (List.mem_of_getElem? hx);refine⟨(by show 3<=sizeLine;decide),λl3 hl3=>?_⟩
  generalize hJ:upd HX l3 _=HY;have sY:AG HX HY:=by rw[<-hJ];exact(AG.refl HX).new hl3
  have hY:HY l3=some (.lst [.int 0,.int 1,.int 0]):=by rw[<-hJ];exact AD
  clear hJ;have sFY:=sX.trans sY;refine⟨l3,rfl,⟨_,Ah.of hY⟩,λacc hacc=>?_⟩
  refine CG (K:=K) (a:=l3) (xs:=[.int 0,.int 1,.int 0]) (by decide) (λm ys HZ=>HZ acc=some (.lst ys)/\AG HY HZ/\ys=[]) (λm ys HZ h=>Ah.of (h.2.1 _ _ hY)) (λm ys HZ h=>⟨h.1,by rw[h.2.2];exact Nat.zero_le _⟩) ⟨AD,(AG.refl HY).new hacc,rfl⟩ ?_ ?_
  ·rintro ys HZ ⟨g1,g2,rfl⟩
   refine⟨(by show 0<=sizeLine;decide),λle hle=>?_⟩
   generalize hJ:upd HZ le _=HW;have sW:AG HZ HW:=by rw[<-hJ];exact(AG.refl HZ).new hle
   have hW:HW le=some (.lst []):=by rw[<-hJ];exact AD
   clear hJ;refine⟨acc,le,[],rfl,rfl,Ah.of (sW _ _ g1),Ah.of hW,_,rfl,L2.Dq rfl ?_⟩
   exact⟨_,rfl,((sX.trans sY).trans g2).trans sW⟩
  ·rintro m x ys HZ hm ⟨g1,g2,rfl⟩
   obtain⟨nn,rfl⟩:∃nn:Int,x=.int nn:=by
    have:=List.mem_of_getElem? hm;simp only[List.mem_cons,List.not_mem_nil,or_false]at this
    rcases this with h|h|h<;>exact⟨_,h⟩
   have sFZ:=sFY.trans g2;have hqz:=sFZ _ _ hqq;refine⟨rfl,_,rfl,_,rfl,qq,_,_,_,rfl,rfl,BM.of hqz,rfl,_,rfl,qq,_,_,_,rfl,rfl,BM.of hqz,rfl,?_⟩
   dsimp only[NJ,List.cons_append,List.nil_append]
   refine L5 (pr.on sFZ) λHV sV=>?_
   refine⟨rfl,_,rfl,L2.Dq (by simp) ?_⟩
   exact⟨sV _ _ g1,g2.trans sV,rfl⟩
 ·rintro σ H' ⟨o1,o2,o3,o4,o5,o6,o7,o8,o9,o10,o11,o12,rfl,s1⟩
  exact q H'
end
end S58
namespace S58
open PySem L2 W7
theorem df_mk {K:PySem.W.Frag}{h:Heap}{mg:Str->Option Value}{x:Str}{st:Stmt}{f:Addr}{oc:Value}{od an:Option Addr}{osl:Array (Option Value)}{kV doc pm cdv ct:Value}(X:K.In h)(G:h.Ns mainGlobals mg)
 (a:PySem.W.nsIn K mainGlobals x=some (some (.ref f)))(l:K.lookup f=some ⟨oc,od,.func (PySem.W.fnOf x x (DA st) (B9 st) (AJ st) .none kV doc pm an cdv ct),osl⟩)(c:PySem.W.codeIn K cdv x=true)(kk:PySem.W.keepIn K (.ref f)=true):Df K mg x st:=
 ⟨f,_,R8 l c kk,PySem.W.mg_of X G a⟩
def exs_mk {K:PySem.W.Frag}{h:Heap}{mg:Str->Option Value}(X:K.In h)(G:h.Ns mainGlobals mg){UpError NoPlace NoNumber NoWord NoRows NoRuns NoCover NoText TooMany NoTries NoPattern NoLetter NoLeaf NoChange NoLine NoTree:Addr}
 (a_UpError:PySem.W.nsIn K mainGlobals "UpError"=some (some (.ref UpError)))
 (a_NoPlace:PySem.W.nsIn K mainGlobals "NoPlace"=some (some (.ref NoPlace)))
 (a_NoNumber:PySem.W.nsIn K mainGlobals "NoNumber"=some (some (.ref NoNumber)))
 (a_NoWord:PySem.W.nsIn K mainGlobals "NoWord"=some (some (.ref NoWord)))
 (a_NoRows:PySem.W.nsIn K mainGlobals "NoRows"=some (some (.ref NoRows)))
 (a_NoRuns:PySem.W.nsIn K mainGlobals "NoRuns"=some (some (.ref NoRuns)))
 (a_NoCover:PySem.W.nsIn K mainGlobals "NoCover"=some (some (.ref NoCover)))
 (a_NoText:PySem.W.nsIn K mainGlobals "NoText"=some (some (.ref NoText)))
 (a_TooMany:PySem.W.nsIn K mainGlobals "TooMany"=some (some (.ref TooMany)))
 (a_NoTries:PySem.W.nsIn K mainGlobals "NoTries"=some (some (.ref NoTries)))
 (a_NoPattern:PySem.W.nsIn K mainGlobals "NoPattern"=some (some (.ref NoPattern)))
 (a_NoLetter:PySem.W.nsIn K mainGlobals "NoLetter"=some (some (.ref NoLetter)))
 (a_NoLeaf:PySem.W.nsIn K mainGlobals "NoLeaf"=some (some (.ref NoLeaf)))
 (a_NoChange:PySem.W.nsIn K mainGlobals "NoChange"=some (some (.ref NoChange)))
 (a_NoLine:PySem.W.nsIn K mainGlobals "NoLine"=some (some (.ref NoLine)))
 (a_NoTree:PySem.W.nsIn K mainGlobals "NoTree"=some (some (.ref NoTree)))
 (q_NoTries:PySem.W.excIn K NoTries Ue "ValueError.__new__"=true)
 (ga_NoTries:PySem.W.findIn K (.ref NoTries) "__getattribute__"=some (some (.builtin "BaseException.__getattribute__")))
 (gn_NoTries:PySem.W.findIn K (.ref NoTries) "__getattr__"=some none)
 (cl_NoTries:PySem.W.findIn K (.ref NoTries) "__class__"=some (some (.builtin "object.__class__")))
 (ob_NoTries:PySem.W.mroIn K NoTries (.type "object")=some true)
 (be_NoTries:PySem.W.mroIn K NoTries (.type "BaseException")=some true)
 (cd_NoTries:(PySem.W.clsIn K NoTries).isSome=true)
 (u_NoTries:PySem.W.exmOne K (.ref NoTries) (.ref UpError)=some true)
 (q_TooMany:PySem.W.excIn K TooMany Ue "ValueError.__new__"=true)
 (ga_TooMany:PySem.W.findIn K (.ref TooMany) "__getattribute__"=some (some (.builtin "BaseException.__getattribute__")))
 (gn_TooMany:PySem.W.findIn K (.ref TooMany) "__getattr__"=some none)
 (cl_TooMany:PySem.W.findIn K (.ref TooMany) "__class__"=some (some (.builtin "object.__class__")))
 (ob_TooMany:PySem.W.mroIn K TooMany (.type "object")=some true)
 (be_TooMany:PySem.W.mroIn K TooMany (.type "BaseException")=some true)
 (cd_TooMany:(PySem.W.clsIn K TooMany).isSome=true)
 (u_TooMany:PySem.W.exmOne K (.ref TooMany) (.ref UpError)=some true)
 (gt:PySem.W.specialIn K (.builtin "object.__class__") "__get__"=some (some (.builtin "getset_descriptor.__get__")))
 (tk:PySem.W.takesIn K (.builtin "object.__class__")=some true)
 (n0:PySem.W.kitOne K (.ref NoTries) (.ref NoTries)=some true)
 (n1:PySem.W.kitOne K (.ref NoTries) (.ref TooMany)=some false)
 (nv:PySem.W.kitOne K (.ref NoTries) (.type "ValueError")=some true)
 (n3:PySem.W.kitAny K (.ref NoTries) ([NoChange,NoCover,NoLeaf,NoLetter,NoLine,NoNumber,NoPattern].map Value.ref)=some false)
 (n4:PySem.W.kitAny K (.ref NoTries) ([NoPlace,NoRows,NoRuns,NoText,NoTree,NoWord].map Value.ref)=some false)
 (w0:PySem.W.kitOne K (.ref TooMany) (.ref NoTries)=some false)
 (w1:PySem.W.kitOne K (.ref TooMany) (.ref TooMany)=some true)
 (wv:PySem.W.kitOne K (.ref TooMany) (.type "ValueError")=some true)
 (w3:PySem.W.kitAny K (.ref TooMany) ([NoChange,NoCover,NoLeaf,NoLetter,NoLine,NoNumber,NoPattern].map Value.ref)=some false)
 (w4:PySem.W.kitAny K (.ref TooMany) ([NoPlace,NoRows,NoRuns,NoText,NoTree,NoWord].map Value.ref)=some false):Exs K mg where
 c_UpError:=UpError
 m_UpError:=PySem.W.mg_of X G a_UpError
 c_NoPlace:=NoPlace
 m_NoPlace:=PySem.W.mg_of X G a_NoPlace
 c_NoNumber:=NoNumber
 m_NoNumber:=PySem.W.mg_of X G a_NoNumber
 c_NoWord:=NoWord
 m_NoWord:=PySem.W.mg_of X G a_NoWord
 c_NoRows:=NoRows
 m_NoRows:=PySem.W.mg_of X G a_NoRows
 c_NoRuns:=NoRuns
 m_NoRuns:=PySem.W.mg_of X G a_NoRuns
 c_NoCover:=NoCover
 m_NoCover:=PySem.W.mg_of X G a_NoCover
 c_NoText:=NoText
 m_NoText:=PySem.W.mg_of X G a_NoText
 c_TooMany:=TooMany
 m_TooMany:=PySem.W.mg_of X G a_TooMany
 c_NoTries:=NoTries
 m_NoTries:=PySem.W.mg_of X G a_NoTries
 c_NoPattern:=NoPattern
 m_NoPattern:=PySem.W.mg_of X G a_NoPattern
 c_NoLetter:=NoLetter
 m_NoLetter:=PySem.W.mg_of X G a_NoLetter
 c_NoLeaf:=NoLeaf
 m_NoLeaf:=PySem.W.mg_of X G a_NoLeaf
 c_NoChange:=NoChange
 m_NoChange:=PySem.W.mg_of X G a_NoChange
 c_NoLine:=NoLine
 m_NoLine:=PySem.W.mg_of X G a_NoLine
 c_NoTree:=NoTree
 m_NoTree:=PySem.W.mg_of X G a_NoTree
 q_NoTries:=q_NoTries
 z_NoTries:=⟨ga_NoTries,gn_NoTries,cl_NoTries,gt,tk,ob_NoTries,be_NoTries,cd_NoTries⟩
 u_NoTries:=u_NoTries
 q_TooMany:=q_TooMany
 z_TooMany:=⟨ga_TooMany,gn_TooMany,cl_TooMany,gt,tk,ob_TooMany,be_TooMany,cd_TooMany⟩
 u_TooMany:=u_TooMany
 n0:=n0
 n1:=n1
 nv:=nv
 n3:=n3
 n4:=n4
 w0:=w0
 w1:=w1
 wv:=wv
 w3:=w3
 w4:=w4
theorem blt_mk {K:PySem.W.Frag}{h:Heap}{mg:Str->Option Value}(X:K.In h)(G:h.Ns mainGlobals mg)
 (z1:PySem.W.nsIn K mainGlobals "len"=some none)(z2:PySem.W.nsIn K mainGlobals "range"=some none)(z3:PySem.W.nsIn K mainGlobals "zip"=some none)(z4:PySem.W.nsIn K mainGlobals "enumerate"=some none)
 (z5:PySem.W.nsIn K mainGlobals "max"=some none)(z6:PySem.W.nsIn K mainGlobals "min"=some none)(z7:PySem.W.nsIn K mainGlobals "int"=some none)(z8:PySem.W.nsIn K mainGlobals "str"=some none)
 (z9:PySem.W.nsIn K mainGlobals "bool"=some none)(z10:PySem.W.nsIn K mainGlobals "list"=some none)(z11:PySem.W.nsIn K mainGlobals "tuple"=some none)(z12:PySem.W.nsIn K mainGlobals "isinstance"=some none):Blt mg:=
 ⟨PySem.W.mg_none_of X G z1,PySem.W.mg_none_of X G z2,PySem.W.mg_none_of X G z3,PySem.W.mg_none_of X G z4,PySem.W.mg_none_of X G z5,PySem.W.mg_none_of X G z6,PySem.W.mg_none_of X G z7,PySem.W.mg_none_of X G z8,
  PySem.W.mg_none_of X G z9,PySem.W.mg_none_of X G z10,PySem.W.mg_none_of X G z11,PySem.W.mg_none_of X G z12⟩
theorem all_ok {P:Program}{w:World}{K:PySem.W.Frag}{mg:Str->Option Value}{fa:Addr}(hfa:mg "law"=some (.ref fa))(B:B6 mg)
 (d1:Df K mg "is_whole" s_is_whole)(d2:Df K mg "is_letters" s_is_letters)(d3:Df K mg "is_rising" s_is_rising)(d4:Df K mg "is_tree" s_is_tree)(d5:Df K mg "is_labels" s_is_labels)(d6:Df K mg "is_ups" s_is_ups)(d7:Df K mg "all_above" s_all_above)(d8:Df K mg "beneath_of" s_beneath_of)(d9:Df K mg "words_of" s_words_of)(d10:Df K mg "is_trie" s_is_trie)(d11:Df K mg "letters_beneath" s_letters_beneath)(d12:Df K mg "ways_down" s_ways_down)(d13:Df K mg "trie_by" s_trie_by)(d14:Df K mg "places_by" s_places_by)(d15:Df K mg "numbers_by" s_numbers_by)(d16:Df K mg "laid_over" s_laid_over)(d17:Df K mg "laid_under" s_laid_under)(d18:Df K mg "refuse_no_tries" s_refuse_no_tries)(d19:Df K mg "laid_by" s_laid_by)(d20:Df K mg "_law_cell_at" s_law_cell_at)(d21:Df K mg "_law_pool" s_law_pool)(d22:Df K mg "_law_take" s_law_take)(d23:Df K mg "_law_letters" s_law_letters)(d24:Df K mg "_law_grown" s_law_grown)(d25:Df K mg "_law_copies" s_law_copies)(d26:Df K mg "_law_tree" s_law_tree)(d27:Df K mg "_law_ways" s_law_ways)(d28:Df K mg "_law_trie" s_law_trie)(d29:Df K mg "_law_part" s_law_part)(d30:Df K mg "_law_two" s_law_two)(d31:Df K mg "_law_told" s_law_told)(d32:Df K mg "_law_bad" s_law_bad)(d33:Df K mg "law" s_law)(EX:Exs K mg):
 ∃fd:FuncData,(∀(s:Shared) (v:Value),BindsTo s fd ⟨[v],[]⟩ [("script",v)])/\∀base:Heap,ET P w K mg base CX0 12 fa fd ["script"] (sp_law K):=by
 obtain⟨f,fd,F,m⟩:=d33;have e:=hfa.symm.trans m;cases e;refine⟨fd,?_,λbase=>?_⟩
 ·obtain⟨oc,od,kV,doc,pm,an,cdv,ct,osl,rfl,_,_⟩:=F.ex
  exact λs v=>.of_eq rfl
 have g_words:=Ni (P:=P) (w:=w) (base:=base) (k:=0) d9 B.toBlt;have g_cell:=O0 (P:=P) (w:=w) (base:=base) (k:=0) d20 B.toBlt;have g_pool:=O1 (k:=1) d21 B.toBlt g_cell;have g_take:=O2 (P:=P) (w:=w) (base:=base) (k:=0) d22 B.toBlt;have g_letters:=KS (k:=1) d23 B.toBlt g_take;have g_grown:=Nk (k:=1) d24 B.toBlt g_take;have g_copies:=Lf (k:=2) d25 B.toBlt (g_take.mono (by decide)) g_grown
 have g_tree:=O3 (k:=3) d26 B.toBlt (g_take.mono (by decide)) (g_grown.mono (by decide)) g_copies
 have g_ways:=O6 (k:=1) d12 B g_words;have g_numb:=O7 (P:=P) (w:=w) (base:=base) (k:=0) d15 B;have g_places:=Lg (k:=1) d14 B g_numb;have g_trieby:=Lh (k:=1) d13 B g_numb;have g_lways:=Nm (P:=P) (w:=w) (base:=base) (k:=0) d27 B;have g_ltrie:=Nn (P:=P) (w:=w) (base:=base) (k:=0) d28 B;have g_whole:=R.N0 (P:=P) (w:=w) (base:=base) (k:=0) d1 B;have g_all:=R.Qw (P:=P) (w:=w) (base:=base) (k:=0) d7 B;have g_wholeT:=Lv (P:=P) (w:=w) (base:=base) (k:=0) d1 B;have g_lettersT:=Jd (P:=P) (w:=w) (base:=base) (k:=0) d2 B;have g_labelsT:=K4 (k:=1) d5 B g_lettersT;have g_upsT:=P0 (k:=1) d6 B g_whole g_wholeT g_all;have g_istT:=P4 (k:=2) d4 B g_labelsT g_upsT;have g_ben:=Ky (P:=P) (w:=w) (base:=base) (k:=0) d8 B;have g_below:=N1 (k:=1) d11 B g_ben;have g_laidby:=Lx (k:=2) d19 B g_ways g_places g_trieby;have g_part:=QB (k:=1) d29 B g_take;have g_two:=RB (k:=4) d30 B (g_take.mono (by decide)) (g_letters.mono (by decide)) g_tree (g_lways.mono (by decide)) (g_part.mono (by decide))
 have g_risingT:=K5 (P:=P) (w:=w) (base:=base) (k:=0) d3 B;have g_itT:=Q8 (k:=3) d10 B g_istT (g_risingT.mono (by decide)) (g_below.mono (by decide))
 have g_ref:=P6 (k:=4) EX d18 B g_itT;have g_over:=N6 (k:=5) EX d16 B g_ref (g_ways.mono (by decide)) (g_laidby.mono (by decide))
 have g_under:=Ly (k:=5) EX d17 B g_ref (g_ways.mono (by decide)) (g_laidby.mono (by decide))
 have g_told:=P8 (k:=6) EX d31 B g_over g_under;have g_bad:=RE (k:=1) d32 B g_take;exact(Te (k:=7) F B (g_pool.mono (by decide)) (g_take.mono (by decide)) (g_two.mono (by decide)) (g_ltrie.mono (by decide)) (g_bad.mono (by decide)) g_told).mono (by decide)
end S58
def PySem.W.Fast.tw3340494416024286366:Nat:=0
def PySem.W.Fast.tw3389805750528402351:Nat:=0
def PySem.W.Fast.tw11764975137735566412:Nat:=0
def PySem.W.Fast.tw6400772108135617125:Nat:=0
def PySem.W.Fast.tw2746297650205974988:Nat:=0
def PySem.W.Fast.tw8443277816085695264:Nat:=0
def PySem.W.Fast.tw8606870018555626189:Nat:=0
def PySem.W.Fast.tw9268532607331488988:Nat:=0
def PySem.W.Fast.tw15173225930186472525:Nat:=0
def PySem.W.Fast.tw4057330859653138520:Nat:=0
def PySem.W.Fast.tw7298329898994159962:Nat:=0
def PySem.W.Fast.tw705953446180815863:Nat:=0
def PySem.W.Fast.tw15555562086817618133:Nat:=0
def PySem.W.Fast.tw15029105267154233002:Nat:=0
def PySem.W.Fast.tw528900149338092863:Nat:=0
def PySem.W.Fast.tw12562550786454293866:Nat:=0
def PySem.W.Fast.tw10520745943825551894:Nat:=0
def PySem.W.Fast.tw5598109167960164367:Nat:=0
def PySem.W.Fast.tw17264207076402136356:Nat:=0
def PySem.W.Fast.tw18379461962905381315:Nat:=0
def PySem.W.Fast.tw14923876604976806736:Nat:=0
def PySem.W.Fast.tw14644720873160839166:Nat:=0
def PySem.W.Fast.tw17561250727954461555:Nat:=0
def PySem.W.Fast.tw14612729712312120385:Nat:=0
def PySem.W.Fast.tw13533243991770035928:Nat:=0
def PySem.W.Fast.tw17215773678034952497:Nat:=0
def PySem.W.Fast.tw9203758747199121881:Nat:=0
def PySem.W.Fast.tw13339711450157622818:Nat:=0
def PySem.W.Fast.tw6081220680460682449:Nat:=0
def PySem.W.Fast.tw16713395550847355175:Nat:=0
def PySem.W.Fast.tw6557840355588232509:Nat:=0
def PySem.W.Fast.tw1959327472932796379:Nat:=0
def PySem.W.Fast.tw12451177276468601505:Nat:=0
def PySem.W.Fast.tw1899513767158923527:Nat:=0
def PySem.W.Fast.tw12664129254602628592:Nat:=0
def PySem.W.Fast.tw8928950090577603346:Nat:=0
def PySem.W.Fast.tw322376460627283230:Nat:=0
open PySem PySem.W PyProof.Rows
set_option maxRecDepth 100000 in
set_option maxHeartbeats 0 in
theorem PySem.Challenge.cw_upwords_k58_what_is_not_laid_holds : PySem.Challenge.rw_upwords_k58_what_is_not_laid.Holds := by
  w_on; o_law; k_head; (case hw => w_witness2)
  k_fill
  refine L2.walk_ofK (l := PySem.Challenge.rw_upwords_k58_what_is_not_laid) (n := 63) (k := 12) (x := "script") (CX := L2.CX0) (sp := S58.sp_law) rfl (by decide) rfl ⟨rfl, by decide, by decide, rfl⟩ (fun w h Y => PySem.W.kIn_of Y) ?F
    (fun K H a ns hl _ hS => ⟨a, ns, rfl, hS, hl, fun _ => rfl⟩) (fun _ _ _ _ z => z)
  case F =>
    intro w mg fa h KX G hmg
    have B : L2.Blt mg := by
      refine' S58.blt_mk KX G ?z1 ?z2 ?z3 ?z4 ?z5 ?z6 ?z7 ?z8 ?z9 ?z10 ?z11 ?z12
      (case z1 => k_is); (case z2 => k_is); (case z3 => k_is); (case z4 => k_is); (case z5 => k_is); (case z6 => k_is); (case z7 => k_is); (case z8 => k_is); (case z9 => k_is); (case z10 => k_is); (case z11 => k_is); (case z12 => k_is)
    have Bx0 : mg "sorted" = none := by
      refine' PySem.W.mg_none_of KX G ?z
      (case z => k_is)
    have Bx1 : mg "set" = none := by
      refine' PySem.W.mg_none_of KX G ?z
      (case z => k_is)
    have Bx2 : mg "repr" = none := by
      refine' PySem.W.mg_none_of KX G ?z
      (case z => k_is)
    have Bx3 : mg "dict" = none := by
      refine' PySem.W.mg_none_of KX G ?z
      (case z => k_is)
    have Bx4 : mg "all" = none := by
      refine' PySem.W.mg_none_of KX G ?z
      (case z => k_is)
    have Bx5 : mg "ValueError" = none := by
      refine' PySem.W.mg_none_of KX G ?z
      (case z => k_is)
    have Bx6 : ∃ u, mg "MOST_PLACES" = some u ∧ L2.RelV (.int 60) u := by
      refine' ⟨_, PySem.W.mg_of KX G ?z, ?r⟩
      (case z => k_is)
      (case r => exact ⟨_, rfl⟩)
    have Bx7 : ∃ u, mg "LETTERS" = some u ∧ L2.RelV (.str "abcdefghijklmnopqrstuvwxyz") u := by
      refine' ⟨_, PySem.W.mg_of KX G ?z, ?r⟩
      (case z => k_is)
      (case r => exact ⟨_, rfl⟩)
    have d1 : L2.Df (L2.KOf KX) mg "is_whole" S58.s_is_whole := by
      dsimp only [L2.KOf]; refine' S58.df_mk KX G ?a ?l ?c ?k
      (case a => k_is); (case l => k_is); (case c => k_is); (case k => k_is)
    have d2 : L2.Df (L2.KOf KX) mg "is_letters" S58.s_is_letters := by
      dsimp only [L2.KOf]; refine' S58.df_mk KX G ?a ?l ?c ?k
      (case a => k_is); (case l => k_is); (case c => k_is); (case k => k_is)
    have d3 : L2.Df (L2.KOf KX) mg "is_rising" S58.s_is_rising := by
      dsimp only [L2.KOf]; refine' S58.df_mk KX G ?a ?l ?c ?k
      (case a => k_is); (case l => k_is); (case c => k_is); (case k => k_is)
    have d4 : L2.Df (L2.KOf KX) mg "is_tree" S58.s_is_tree := by
      dsimp only [L2.KOf]; refine' S58.df_mk KX G ?a ?l ?c ?k
      (case a => k_is); (case l => k_is); (case c => k_is); (case k => k_is)
    have d5 : L2.Df (L2.KOf KX) mg "is_labels" S58.s_is_labels := by
      dsimp only [L2.KOf]; refine' S58.df_mk KX G ?a ?l ?c ?k
      (case a => k_is); (case l => k_is); (case c => k_is); (case k => k_is)
    have d6 : L2.Df (L2.KOf KX) mg "is_ups" S58.s_is_ups := by
      dsimp only [L2.KOf]; refine' S58.df_mk KX G ?a ?l ?c ?k
      (case a => k_is); (case l => k_is); (case c => k_is); (case k => k_is)
    have d7 : L2.Df (L2.KOf KX) mg "all_above" S58.s_all_above := by
      dsimp only [L2.KOf]; refine' S58.df_mk KX G ?a ?l ?c ?k
      (case a => k_is); (case l => k_is); (case c => k_is); (case k => k_is)
    have d8 : L2.Df (L2.KOf KX) mg "beneath_of" S58.s_beneath_of := by
      dsimp only [L2.KOf]; refine' S58.df_mk KX G ?a ?l ?c ?k
      (case a => k_is); (case l => k_is); (case c => k_is); (case k => k_is)
    have d9 : L2.Df (L2.KOf KX) mg "words_of" S58.s_words_of := by
      dsimp only [L2.KOf]; refine' S58.df_mk KX G ?a ?l ?c ?k
      (case a => k_is); (case l => k_is); (case c => k_is); (case k => k_is)
    have d10 : L2.Df (L2.KOf KX) mg "is_trie" S58.s_is_trie := by
      dsimp only [L2.KOf]; refine' S58.df_mk KX G ?a ?l ?c ?k
      (case a => k_is); (case l => k_is); (case c => k_is); (case k => k_is)
    have d11 : L2.Df (L2.KOf KX) mg "letters_beneath" S58.s_letters_beneath := by
      dsimp only [L2.KOf]; refine' S58.df_mk KX G ?a ?l ?c ?k
      (case a => k_is); (case l => k_is); (case c => k_is); (case k => k_is)
    have d12 : L2.Df (L2.KOf KX) mg "ways_down" S58.s_ways_down := by
      dsimp only [L2.KOf]; refine' S58.df_mk KX G ?a ?l ?c ?k
      (case a => k_is); (case l => k_is); (case c => k_is); (case k => k_is)
    have d13 : L2.Df (L2.KOf KX) mg "trie_by" S58.s_trie_by := by
      dsimp only [L2.KOf]; refine' S58.df_mk KX G ?a ?l ?c ?k
      (case a => k_is); (case l => k_is); (case c => k_is); (case k => k_is)
    have d14 : L2.Df (L2.KOf KX) mg "places_by" S58.s_places_by := by
      dsimp only [L2.KOf]; refine' S58.df_mk KX G ?a ?l ?c ?k
      (case a => k_is); (case l => k_is); (case c => k_is); (case k => k_is)
    have d15 : L2.Df (L2.KOf KX) mg "numbers_by" S58.s_numbers_by := by
      dsimp only [L2.KOf]; refine' S58.df_mk KX G ?a ?l ?c ?k
      (case a => k_is); (case l => k_is); (case c => k_is); (case k => k_is)
    have d16 : L2.Df (L2.KOf KX) mg "laid_over" S58.s_laid_over := by
      dsimp only [L2.KOf]; refine' S58.df_mk KX G ?a ?l ?c ?k
      (case a => k_is); (case l => k_is); (case c => k_is); (case k => k_is)
    have d17 : L2.Df (L2.KOf KX) mg "laid_under" S58.s_laid_under := by
      dsimp only [L2.KOf]; refine' S58.df_mk KX G ?a ?l ?c ?k
      (case a => k_is); (case l => k_is); (case c => k_is); (case k => k_is)
    have d18 : L2.Df (L2.KOf KX) mg "refuse_no_tries" S58.s_refuse_no_tries := by
      dsimp only [L2.KOf]; refine' S58.df_mk KX G ?a ?l ?c ?k
      (case a => k_is); (case l => k_is); (case c => k_is); (case k => k_is)
    have d19 : L2.Df (L2.KOf KX) mg "laid_by" S58.s_laid_by := by
      dsimp only [L2.KOf]; refine' S58.df_mk KX G ?a ?l ?c ?k
      (case a => k_is); (case l => k_is); (case c => k_is); (case k => k_is)
    have d20 : L2.Df (L2.KOf KX) mg "_law_cell_at" S58.s_law_cell_at := by
      dsimp only [L2.KOf]; refine' S58.df_mk KX G ?a ?l ?c ?k
      (case a => k_is); (case l => k_is); (case c => k_is); (case k => k_is)
    have d21 : L2.Df (L2.KOf KX) mg "_law_pool" S58.s_law_pool := by
      dsimp only [L2.KOf]; refine' S58.df_mk KX G ?a ?l ?c ?k
      (case a => k_is); (case l => k_is); (case c => k_is); (case k => k_is)
    have d22 : L2.Df (L2.KOf KX) mg "_law_take" S58.s_law_take := by
      dsimp only [L2.KOf]; refine' S58.df_mk KX G ?a ?l ?c ?k
      (case a => k_is); (case l => k_is); (case c => k_is); (case k => k_is)
    have d23 : L2.Df (L2.KOf KX) mg "_law_letters" S58.s_law_letters := by
      dsimp only [L2.KOf]; refine' S58.df_mk KX G ?a ?l ?c ?k
      (case a => k_is); (case l => k_is); (case c => k_is); (case k => k_is)
    have d24 : L2.Df (L2.KOf KX) mg "_law_grown" S58.s_law_grown := by
      dsimp only [L2.KOf]; refine' S58.df_mk KX G ?a ?l ?c ?k
      (case a => k_is); (case l => k_is); (case c => k_is); (case k => k_is)
    have d25 : L2.Df (L2.KOf KX) mg "_law_copies" S58.s_law_copies := by
      dsimp only [L2.KOf]; refine' S58.df_mk KX G ?a ?l ?c ?k
      (case a => k_is); (case l => k_is); (case c => k_is); (case k => k_is)
    have d26 : L2.Df (L2.KOf KX) mg "_law_tree" S58.s_law_tree := by
      dsimp only [L2.KOf]; refine' S58.df_mk KX G ?a ?l ?c ?k
      (case a => k_is); (case l => k_is); (case c => k_is); (case k => k_is)
    have d27 : L2.Df (L2.KOf KX) mg "_law_ways" S58.s_law_ways := by
      dsimp only [L2.KOf]; refine' S58.df_mk KX G ?a ?l ?c ?k
      (case a => k_is); (case l => k_is); (case c => k_is); (case k => k_is)
    have d28 : L2.Df (L2.KOf KX) mg "_law_trie" S58.s_law_trie := by
      dsimp only [L2.KOf]; refine' S58.df_mk KX G ?a ?l ?c ?k
      (case a => k_is); (case l => k_is); (case c => k_is); (case k => k_is)
    have d29 : L2.Df (L2.KOf KX) mg "_law_part" S58.s_law_part := by
      dsimp only [L2.KOf]; refine' S58.df_mk KX G ?a ?l ?c ?k
      (case a => k_is); (case l => k_is); (case c => k_is); (case k => k_is)
    have d30 : L2.Df (L2.KOf KX) mg "_law_two" S58.s_law_two := by
      dsimp only [L2.KOf]; refine' S58.df_mk KX G ?a ?l ?c ?k
      (case a => k_is); (case l => k_is); (case c => k_is); (case k => k_is)
    have d31 : L2.Df (L2.KOf KX) mg "_law_told" S58.s_law_told := by
      dsimp only [L2.KOf]; refine' S58.df_mk KX G ?a ?l ?c ?k
      (case a => k_is); (case l => k_is); (case c => k_is); (case k => k_is)
    have d32 : L2.Df (L2.KOf KX) mg "_law_bad" S58.s_law_bad := by
      dsimp only [L2.KOf]; refine' S58.df_mk KX G ?a ?l ?c ?k
      (case a => k_is); (case l => k_is); (case c => k_is); (case k => k_is)
    have d33 : L2.Df (L2.KOf KX) mg "law" S58.s_law := by
      dsimp only [L2.KOf]; refine' S58.df_mk KX G ?a ?l ?c ?k
      (case a => k_is); (case l => k_is); (case c => k_is); (case k => k_is)
    have EX : S58.Exs (L2.KOf KX) mg := by
      dsimp only [L2.KOf]; refine' S58.exs_mk KX G ?a_UpError ?a_NoPlace ?a_NoNumber ?a_NoWord ?a_NoRows ?a_NoRuns ?a_NoCover ?a_NoText ?a_TooMany ?a_NoTries ?a_NoPattern ?a_NoLetter ?a_NoLeaf ?a_NoChange ?a_NoLine ?a_NoTree ?q_NoTries ?ga_NoTries ?gn_NoTries ?cl_NoTries ?ob_NoTries ?be_NoTries ?cd_NoTries ?u_NoTries ?q_TooMany ?ga_TooMany ?gn_TooMany ?cl_TooMany ?ob_TooMany ?be_TooMany ?cd_TooMany ?u_TooMany ?gt ?tk ?n0 ?n1 ?nv ?n3 ?n4 ?w0 ?w1 ?wv ?w3 ?w4
      (case a_UpError => k_is); (case a_NoPlace => k_is); (case a_NoNumber => k_is); (case a_NoWord => k_is); (case a_NoRows => k_is); (case a_NoRuns => k_is); (case a_NoCover => k_is); (case a_NoText => k_is); (case a_TooMany => k_is); (case a_NoTries => k_is); (case a_NoPattern => k_is); (case a_NoLetter => k_is); (case a_NoLeaf => k_is); (case a_NoChange => k_is); (case a_NoLine => k_is); (case a_NoTree => k_is); (case q_NoTries => first | k_exc | k_is); (case ga_NoTries => k_is); (case gn_NoTries => k_is); (case cl_NoTries => k_is); (case ob_NoTries => k_is); (case be_NoTries => k_is); (case cd_NoTries => first | k_is | kernel_rfl); (case u_NoTries => first | k_is | kernel_rfl); (case q_TooMany => first | k_exc | k_is); (case ga_TooMany => k_is); (case gn_TooMany => k_is); (case cl_TooMany => k_is); (case ob_TooMany => k_is); (case be_TooMany => k_is); (case cd_TooMany => first | k_is | kernel_rfl); (case u_TooMany => first | k_is | kernel_rfl); (case gt => k_is); (case tk => k_is); (case n0 => first | k_is | kernel_rfl); (case n1 => first | k_is | kernel_rfl); (case nv => first | k_is | kernel_rfl); (case n3 => first | k_is | kernel_rfl); (case n4 => first | k_is | kernel_rfl); (case w0 => first | k_is | kernel_rfl); (case w1 => first | k_is | kernel_rfl); (case wv => first | k_is | kernel_rfl); (case w3 => first | k_is | kernel_rfl); (case w4 => first | k_is | kernel_rfl)
    obtain ⟨fd, h1, h2⟩ := S58.all_ok (P := PySem.Challenge.rw_upwords_k58_what_is_not_laid.prog) (w := w) hmg ⟨B, Bx0, Bx1, Bx2, Bx3, Bx4, Bx5, Bx6, Bx7⟩ d1 d2 d3 d4 d5 d6 d7 d8 d9 d10 d11 d12 d13 d14 d15 d16 d17 d18 d19 d20 d21 d22 d23 d24 d25 d26 d27 d28 d29 d30 d31 d32 d33 EX
    exact ⟨fd, h1, fun base _ _ => h2 base⟩
