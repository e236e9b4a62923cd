import PyProof.Rows.All
import Wide.All
import OpenK.AllK
import Wide.FinOn
import Lean
import PyProof.EqAt
import PyProof.EqKinds
import PyProof.TupleCall
import PyProof.WalkInts
import PyProof.NeKinds
import KE.KDictOf
import PyProof.DictWalks
import KE.KIntText
import PyProof.StrLawsTight
import PyProof.Rows.StrSplitAre
import KE.KTryOn
import PyProof.NsDelKeeps
import PyProof.ExcAttrAll.ValueError
import PyProof.FitsInt
import PyProof.ListStr
import PySem.Challenge.RW_upwords_k83_texts_of_no_net
set_option Elab.async false
set_option linter.all false
set_option maxRecDepth 100000
namespace L2
open PySem PySem.Spec PyProof.Rows
abbrev Key:=Sum Int Str
def keyIs:Key→Value→Bool
  | .inl k,v=>Value.isInt k v
  | .inr x,v=>Value.isStrOf x v
def keyH (w:World):Key→Int
  | .inl k=>hashInt k
  | .inr x=>hashStr w x
theorem keyIs_shape:∀ {k:Key} {v:Value},keyIs k v=true→(∃ i t,k=Sum.inl i∧v=Value.int i t)∨(∃ x t,k=Sum.inr x∧v=Value.str x t)
  | .inl i,v,h=>by
    obtain ⟨t,e⟩:=Value.isInt_shape (k:=i) (v:=v) h
    exact .inl ⟨i,t,rfl,e⟩
  | .inr x,v,h=>by
    obtain ⟨t,e⟩:=Value.isStrOf_shape (x:=x) (v:=v) h
    exact .inr ⟨x,t,rfl,e⟩
theorem key_ll (a b:Int):decide ((Sum.inl a:Key)=Sum.inl b)=(a == b):=by
  by_cases e:a=b
  · subst e;simp
  · have h:¬ (Sum.inl a:Key)=Sum.inl b:=fun q=>e (Sum.inl.inj q)
    rw [decide_eq_false h]
    exact (beq_eq_false_iff_ne.mpr e).symm
theorem key_rr (a b:Str):decide ((Sum.inr a:Key)=Sum.inr b)=decide (a=b):=by
  by_cases e:a=b
  · subst e;simp
  · have h:¬ (Sum.inr a:Key)=Sum.inr b:=fun q=>e (Sum.inr.inj q)
    rw [decide_eq_false h,decide_eq_false e]
theorem key_lr (a:Int) (b:Str):decide ((Sum.inl a:Key)=Sum.inr b)=false:=decide_eq_false (fun q=>nomatch q)
theorem key_rl (a:Str) (b:Int):decide ((Sum.inr a:Key)=Sum.inl b)=false:=decide_eq_false (fun q=>nomatch q)
def mixKind (prog:Program) (w:World):PySem.KeyKind prog w Key where
  is:=keyIs
  hash:=keyH w
  inj:=fun v a b ha hb=>by
    rcases keyIs_shape ha with ⟨i,t,rfl,rfl⟩ | ⟨x,t,rfl,rfl⟩
    · rcases keyIs_shape hb with ⟨j,u,rfl,e⟩ | ⟨y,u,rfl,e⟩
      · injection e with e1 _;rw [e1]
      · exact nomatch e
    · rcases keyIs_shape hb with ⟨j,u,rfl,e⟩ | ⟨y,u,rfl,e⟩
      · exact nomatch e
      · injection e with e1 _;rw [e1]
  byValue:=fun k v h=>by
    rcases keyIs_shape h with ⟨i,t,rfl,rfl⟩ | ⟨x,t,rfl,rfl⟩ <;> rfl
  pyHash:=fun hv h=>by
    rcases keyIs_shape hv with ⟨i,t,rfl,rfl⟩ | ⟨x,t,rfl,rfl⟩
    · exact wpAny_pyHash_int h
    · exact wpAny_pyHash_str h
  eqBool:=fun hu hv h=>by
    rcases keyIs_shape hu with ⟨i,t,rfl,rfl⟩ | ⟨x,t,rfl,rfl⟩
    · rcases keyIs_shape hv with ⟨j,u,rfl,rfl⟩ | ⟨y,u,rfl,rfl⟩
      · rw [key_ll] at h;exact wpAny_eqBool_int h
      · rw [key_lr] at h;exact SeqAt.EqAt.int_str i t y u _ _ _ _ h
    · rcases keyIs_shape hv with ⟨j,u,rfl,rfl⟩ | ⟨y,u,rfl,rfl⟩
      · rw [key_rl] at h;exact SeqAt.EqAt.str_int x t j u _ _ _ _ h
      · rw [key_rr] at h;exact wpAny_eqBool_str h
  «strs»:=fun k x t v h=>by
    rcases keyIs_shape h with ⟨i,u,rfl,e⟩ | ⟨y,u,rfl,e⟩
    · exact nomatch e
    · injection e with e1 _
      subst e1
      cases v <;> rfl
end L2
namespace L2
open PySem PySem.Spec PyProof.Rows
inductive V where
  | non | bl (b:Bool) | int (i:Int) | str (x:Str) | byt (b:Array UInt8) | flt (b:UInt64) | ref (a:Addr) | ty (n:String)
  deriving DecidableEq
def RelV:V→Value→Prop
  | .non,u=>u=Value.none
  | .bl b,u=>u=Value.bool b
  | .int i,u=>∃ t,u=Value.int i t
  | .str x,u=>∃ t,u=Value.str x t
  | .byt b,u=>∃ t,u=Value.bytes b t
  | .flt b,u=>∃ t,u=Value.float b t
  | .ref a,u=>u=Value.ref a
  | .ty n,u=>u=Value.type n
abbrev Vals:List V→List Value→Prop:=Paired RelV
theorem Vals.length {xs:List V} {us:List Value} (r:Vals xs us):xs.length=us.length:=Paired.length r
theorem Vals.get:∀ {xs:List V} {us:List Value} {i:Nat} {x:V},Vals xs us→xs[i]?=some x→∃ u,us[i]?=some u∧RelV x u
  | _,_,_,_,.nil,e=>by simp at e
  | _,_,0,_,.cons r _,e=>by simp at e;subst e;exact ⟨_,rfl,r⟩
  | _,_,i+1,x,.cons _ t,e=>by
    obtain ⟨u,h1,h2⟩:=Vals.get (i:=i) (x:=x) t (by simpa using e)
    exact ⟨u,by simpa using h1,h2⟩
theorem Vals.set {x:V} {u:Value} (r:RelV x u):∀ {xs:List V} {us:List Value} (i:Nat),Vals xs us→Vals (xs.set i x) (us.set i u)
  | _,_,_,.nil=>.nil
  | _,_,0,.cons _ t=>.cons r t
  | _,_,i+1,.cons q t=>.cons q (Vals.set r i t)
theorem Vals.append:∀ {xs ys:List V} {us ws:List Value},Vals xs us→Vals ys ws→Vals (xs++ys) (us++ws)
  | _,_,_,_,.nil,s=>s
  | _,_,_,_,.cons r t,s=>.cons r (Vals.append t s)
theorem Vals.take:∀ {xs:List V} {us:List Value} (n:Nat),Vals xs us→Vals (xs.take n) (us.take n)
  | _,_,0,_=>.nil
  | _,_,_+1,.nil=>.nil
  | _,_,n+1,.cons r t=>.cons r (Vals.take n t)
theorem Vals.drop:∀ {xs:List V} {us:List Value} (n:Nat),Vals xs us→Vals (xs.drop n) (us.drop n)
  | _,_,0,r=>r
  | _,_,_+1,.nil=>.nil
  | _,_,n+1,.cons _ t=>Vals.drop n t
def RelO:Option V→Option Value→Prop
  | some v,some u=>RelV v u
  | none,none=>True
  | _,_=>False
def KV {κ:Type}:List (κ × V)→List (κ × Value)→Prop:=Paired fun (p:κ × V) (q:κ × Value)=>p.1=q.1∧RelV p.2 q.2
def kV:Key→V
  | .inl i=>.int i
  | .inr x=>.str x
inductive HO where
    | lst (xs:List V)
    | tup (xs:List V)
    | dK (kvs:List (Key × V)) | dT (kvs:List (List Key × V))
    | set (S:Int→Bool) (n:Nat)
    | ins (C dx:Addr) (fs:List (Str × V))
    | own (x:Addr)
    | xd (fs:List (Str × V))
    | met (f x:Addr)
    | rng (lo hi:Int)
    | frz (o:Obj) (u:HO)
    | tbl (ps:Array Value)
    | ext (φ:Heap→Prop)
abbrev Hp:=Addr→Option HO
def upd (H:Hp) (a:Addr) (o:HO):Hp:=fun b=>if b=a then some o else H b
theorem upd_same {H:Hp} {a:Addr} {o:HO}:upd H a o a=some o:=by unfold upd;rw [if_pos rfl]
theorem upd_ne {H:Hp} {a b:Addr} {o:HO} (h:b≠a):upd H a o b=H b:=by unfold upd;rw [if_neg h]
theorem ne_of {H:Hp} {a b:Addr} {o u:HO} (h:H a=some o) (h':H b=some u) (d:o≠u):a≠b:=by
  intro e;subst e;rw [h] at h';exact d (Option.some.inj h')
theorem ne_of_none {H:Hp} {a b:Addr} {o:HO} (h:H a=some o) (h':H b=none):a≠b:=by
  intro e;subst e;rw [h] at h';cases h'
section
variable (P:Program) (w:World)
def ObjOk (H:Hp) (h:Heap) (a:Addr):HO→Prop
  | .lst xs=>xs.length≤sizeLine∧∃ (its:List Value) (n:Nat),Vals xs its∧h.get? a=some { cls:=.type "list", data:=.seq its.toArray n }
  | .tup xs=>(xs.length≤sizeLine∧∃ o,h.get? a=some o∧o.dict=none)∧∃ its:List Value,Vals xs its∧IsTup h a its.toArray
  | .dK kvs=>kvs.length≤sizeLine∧(a == sysModules)=false∧∃ vs,KV kvs vs∧h.DictOf (mixKind P w) a vs
  | .dT kvs=>kvs.length≤sizeLine∧(a == sysModules)=false∧∃ xs:List (List Key × Addr × Value),
      Paired (fun (p:List Key × V) (q:List Key × Addr × Value)=>p.1=q.1∧H q.2.1=some (.tup (p.1.map kV))∧RelV p.2 q.2.2) kvs xs ∧
      ∃ o es ep,h.get? a=some o∧o.ExactDict∧o.data=.dict es ep∧es.toList=xs.map (entryOfKey (tupleKind (mixKind P w)))∧(xs.map (·.1)).Nodup
  | .set S n=>h.SetOf (intKind P w) a S n
  | .ins C dx fs=>H dx=some (.own a)∧fs.length≤1000∧dx≠a∧h.get? a=some (PySem.W.instObj C dx) ∧
      ∃ mA,h.Ns1 dx mA∧(∀ f,RelO (fs.lookup f) (mA f))∧PySem.Within mA (fs.map (·.1))
  | .own _=>∃ o,h.get? a=some o
  | .xd fs=>∃ mA,h.Ns1 a mA∧∀ f,RelO (fs.lookup f) (mA f)
  | .rng lo hi=>∃ t u v,h.get? a=some { cls:=.type "range", data:=.fields #[.int lo t,.int hi u,.int 1 v] }
  | .frz o u=>h.get? a=some o∧ObjOk H h a u
  | .tbl ps=>h.get? a=some { cls:=.none,data:=.fields ps }
  | .met f x=>h.get? a=some (PySem.W.methodObj (.ref f) (.ref x))
  | .ext φ=>φ h∧(∃ o,h.get? a=some o)∧∀ h1 h2:Heap,φ h1→(∀ o,h1.get? a=some o→h2.get? a=some o)→φ h2
def HOk (H:Hp) (h:Heap):Prop:=∀ a o,H a=some o→ObjOk P w H h a o
end
section
variable {P:Program} {w:World} {H H':Hp} {h h':Heap} {a:Addr} {o:HO}
theorem ObjOk.lt (x:ObjOk P w H h a o):a < h.objs.size:=by
  cases o with
  | lst xs=>obtain ⟨_,_,_,_,e⟩:=x;exact Heap.lt_size e
  | tup xs=>obtain ⟨_,_,_,p⟩:=x;exact p.lt
  | dK kvs=>obtain ⟨_,_,_,_,o,_,_,e,_⟩:=x;exact Heap.lt_size e
  | dT kvs=>obtain ⟨_,_,_,_,o,_,_,e,_⟩:=x;exact Heap.lt_size e
  | set S n=>obtain ⟨o,_,_,_,e,_⟩:=x;exact Heap.lt_size e
  | ins C dx fs=>obtain ⟨_,_,_,e,_⟩:=x;exact Heap.lt_size e
  | own y=>obtain ⟨_,e⟩:=x;exact Heap.lt_size e
  | xd fs=>obtain ⟨_,⟨_,_,_,e,_⟩,_⟩:=x;exact Heap.lt_size e
  | rng lo hi=>obtain ⟨_,_,_,e⟩:=x;exact Heap.lt_size e
  | frz ob u=>obtain ⟨e,_⟩:=x;exact Heap.lt_size e
  | tbl ps=>exact Heap.lt_size (show h.get? a=some _ from x)
  | met f y=>exact Heap.lt_size (show h.get? a=some _ from x)
  | ext φ=>obtain ⟨_,⟨_,e⟩,_⟩:=x;exact Heap.lt_size e
theorem Paired.mapP {α β:Type} {F G:α→β→Prop}:∀ {l₁:List α} {l₂:List β},Paired F l₁ l₂→(∀ a b,F a b→G a b)→Paired G l₁ l₂
  | _,_,.nil,_=>.nil
  | _,_,.cons r t,f=>.cons (f _ _ r) (Paired.mapP t f)
theorem ObjOk.stay (x:ObjOk P w H h a o) (k:∀ b u,(b=a∨H b=some (.own a))→h.get? b=some u→h'.get? b=some u)
    (ho:∀ b,H b=some (.own a)→H' b=some (.own a)) (ht:∀ b xs,H b=some (.tup xs)→H' b=some (.tup xs)):ObjOk P w H' h' a o:=by
  induction o with
  | lst xs=>obtain ⟨z,its,n,r,e⟩:=x;exact ⟨z,its,n,r,k _ _ (.inl rfl) e⟩
  | tup xs=>obtain ⟨⟨z,o1,e1,c1⟩,its,r,ob,e,c⟩:=x;exact ⟨⟨z,o1,k _ _ (.inl rfl) e1,c1⟩,its,r,ob,k _ _ (.inl rfl) e,c⟩
  | dK kvs=>obtain ⟨z,y,vs,r,ob,es,ep,e,c⟩:=x;exact ⟨z,y,vs,r,ob,es,ep,k _ _ (.inl rfl) e,c⟩
  | dT kvs=>
    obtain ⟨z,y,xs,r,ob,es,ep,e,c⟩:=x
    exact ⟨z,y,xs,Paired.mapP r fun p q z=>⟨z.1,ht _ _ z.2.1,z.2.2⟩,ob,es,ep,k _ _ (.inl rfl) e,c⟩
  | set S n=>obtain ⟨ob,es,ep,t,e,c⟩:=x;exact ⟨ob,es,ep,t,k _ _ (.inl rfl) e,c⟩
  | ins C dx fs=>
    obtain ⟨d,z,ne,e,mA,⟨od,es,ep,e2,c⟩,r⟩:=x
    exact ⟨ho _ d,z,ne,k _ _ (.inl rfl) e,mA,⟨od,es,ep,k _ _ (.inr d) e2,c⟩,r⟩
  | own y=>obtain ⟨ob,e⟩:=x;exact ⟨ob,k _ _ (.inl rfl) e⟩
  | xd fs=>obtain ⟨mA,⟨od,es,ep,e,c⟩,r⟩:=x;exact ⟨mA,⟨od,es,ep,k _ _ (.inl rfl) e,c⟩,r⟩
  | rng lo hi=>obtain ⟨t,u,v,e⟩:=x;exact ⟨t,u,v,k _ _ (.inl rfl) e⟩
  | frz ob u ih=>obtain ⟨e,q⟩:=x;exact ⟨k _ _ (.inl rfl) e,ih q⟩
  | tbl ps=>
    have e:h.get? a=some { cls:=.none,data:=.fields ps }:=x
    show h'.get? a=some { cls:=.none,data:=.fields ps }
    exact k a _ (.inl rfl) e
  | met f y=>
    have e:h.get? a=some (PySem.W.methodObj (.ref f) (.ref y)):=x
    show h'.get? a=some (PySem.W.methodObj (.ref f) (.ref y))
    exact k a _ (.inl rfl) e
  | ext φ=>obtain ⟨p,⟨o,e⟩,st⟩:=x;exact ⟨st _ _ p fun o q=>k _ _ (.inl rfl) q,⟨o,k _ _ (.inl rfl) e⟩,st⟩
theorem HOk.lt (x:HOk P w H h) (e:H a=some o):a < h.objs.size:=(x a o e).lt
theorem HOk.fresh (x:HOk P w H h) (e:h.objs.size≤a):H a=none:=by
  cases q:H a with
  | none=>rfl
  | some u=>exact absurd (Nat.lt_of_lt_of_le (x.lt q) e) (Nat.lt_irrefl _)
theorem HOk.kept (x:HOk P w H h) (k:∀ b u,h.get? b=some u→h'.get? b=some u):HOk P w H h':=fun a o e=>
  (x a o e).stay (fun b u _ q=>k b u q) (fun _ q=>q) fun _ _ q=>q
theorem HOk.laid (x:HOk P w H h) (k:∀ b u,h.get? b=some u→h'.get? b=some u) (hp:h.objs.size≤a) (new:ObjOk P w (upd H a o) h' a o):HOk P w (upd H a o) h':=fun b u e=>by
  have hn:=x.fresh hp
  by_cases hb:b=a
  · subst hb;rw [upd_same] at e;cases e;exact new
  · rw [upd_ne hb] at e
    exact (x b u e).stay (fun c v _ q=>k c v q) (fun c q=>by rw [upd_ne (ne_of_none q hn)];exact q) fun c xs q=>by rw [upd_ne (ne_of_none q hn)];exact q
end
def Rd (H:Hp) (a:Addr) (u:HO):Prop:=H a=some u∨∃ o,H a=some (.frz o u)
theorem Rd.ok {P:Program} {w:World} {H:Hp} {h:Heap} {a:Addr} {u:HO} (r:Rd H a u) (x:HOk P w H h):ObjOk P w H h a u:=by
  rcases r with r | ⟨o,r⟩
  · exact x a u r
  · obtain ⟨_,q⟩:=x a _ r
    exact q
def Mut:Option HO→Prop
  | some (.lst _)=>True
  | some (.dK _)=>True
  | some (.dT _)=>True
  | some (.set _ _)=>True
  | some (.ins _ _ _)=>True
  | some (.ext _)=>True
  | _=>False
section
variable {P:Program} {w:World} {H:Hp} {h h':Heap} {x e:Addr} {o':HO}
theorem HOk.write (ok:HOk P w H h) (mu:Mut (H x)) (he:e=x∨H e=some (.own x)) (k:∀ b u,b≠e→h.get? b=some u→h'.get? b=some u) (heo:∃ u,h'.get? e=some u)
    (new:ObjOk P w (upd H x o') h' x o'):HOk P w (upd H x o') h':=fun b u q=>by
  have nown:∀ c y,H c=some (.own y)→c≠x:=fun c y r z=>by subst z;rw [r] at mu;exact mu
  have ntup:∀ c xs,H c=some (.tup xs)→c≠x:=fun c xs r z=>by subst z;rw [r] at mu;exact mu
  by_cases hb:b=x
  · subst hb;rw [upd_same] at q;cases q;exact new
  · rw [upd_ne hb] at q
    by_cases hbe:b=e
    · have q':H b=some (.own x):=by
        rcases he with z | z
        · exact absurd (hbe.trans z) hb
        · rw [hbe];exact z
      rw [q] at q';cases q'
      obtain ⟨v,hv⟩:=heo
      exact ⟨v,by rw [hbe];exact hv⟩
    · refine (ok b u q).stay (fun c v hc r=>k c v ?_ r) (fun c r=>by rw [upd_ne (nown c b r)];exact r) fun c xs r=>by rw [upd_ne (ntup c xs r)];exact r
      rcases hc with rfl | hc
      · exact hbe
      · rintro rfl
        rcases he with z | z
        · exact nown c b hc z
        · rw [hc] at z;cases z;exact hb rfl
end
structure Un (fs ex:List Addr) (H H':Hp) (h h':Heap):Prop where
  keep:∀ b o,h.get? b=some o→H b=none→b ∉ fs→b ∉ ex→h'.get? b=some o
  slot:∀ b o,h.get? b=some o→H b=none→b∈fs→b ∉ ex→∃ sl,h'.get? b=some { o with slots:=sl }
  free:∀ b o,h.get? b=some o→H b=none→b ∉ ex→H' b=none
  there:∀ b o,h.get? b=some o→b ∉ ex→∃ o',h'.get? b=some o'
  tups:∀ b xs,H b=some (.tup xs)→H' b=some (.tup xs)
  frzs:∀ b o u,H b=some (.frz o u)→H' b=some (.frz o u)
  tbls:∀ b ps,H b=some (.tbl ps)→∃ more,H' b=some (.tbl (ps++more))
section
variable {fs fs' ex ex':List Addr} {H H1 H2:Hp} {h h1 h2 h':Heap} {a x e:Addr} {o:HO}
theorem Un.any (u:Un fs ex H H1 h h1) {b:Addr} {ob:Obj} (q:h.get? b=some ob) (n:H b=none) (hx:b ∉ ex):∃ sl,h1.get? b=some { ob with slots:=sl }:=by
  by_cases hb:b∈fs
  · exact u.slot b ob q n hb hx
  · exact ⟨ob.slots,u.keep b ob q n hb hx⟩
theorem Un.kept (k:∀ b u,h.get? b=some u→h'.get? b=some u):Un fs ex H H h h':=
  ⟨fun b ob q _ _ _=>k b ob q,fun b ob q _ _ _=>⟨ob.slots,k b ob q⟩,fun _ _ _ n _=>n,fun b ob q _=>⟨ob,k b ob q⟩,fun _ _ q=>q,fun _ _ _ q=>q,fun _ ps q=>⟨#[],by rw [q];simp⟩⟩
theorem Un.refl:Un fs ex H H h h:=Un.kept fun _ _ q=>q
theorem Un.laid (k:∀ b u,h.get? b=some u→h'.get? b=some u) (hp:h.objs.size≤a) (hn:H a=none):Un fs ex H (upd H a o) h h' where
  keep:=fun b u q _ _ _=>k b u q
  slot:=fun b u q _ _ _=>⟨u.slots,k b u q⟩
  free:=fun b u q n _=>by rw [upd_ne (Nat.ne_of_lt (Nat.lt_of_lt_of_le (Heap.lt_size q) hp))];exact n
  there:=fun b u q _=>⟨u,k b u q⟩
  tups:=fun b xs q=>by rw [upd_ne (ne_of_none q hn)];exact q
  frzs:=fun b u xs q=>by rw [upd_ne (ne_of_none q hn)];exact q
  tbls:=fun b ps q=>⟨#[],by rw [upd_ne (ne_of_none q hn),q];simp⟩
theorem Un.write (mu:Mut (H x)) (he:e=x∨H e=some (.own x)) (k:∀ b u,b≠e→h.get? b=some u→h'.get? b=some u) (heo:∃ u,h'.get? e=some u):Un fs ex H (upd H x o) h h':=by
  have hx:∀ b,H b=none→b≠x:=fun b n z=>by subst z;rw [n] at mu;exact mu
  have hb:∀ b,H b=none→b≠e:=fun b n z=>by
    subst z
    rcases he with r | r
    · exact hx b n r
    · rw [n] at r;cases r
  have hm:∀ b u,H b=some u→¬ Mut (some u)→b≠x:=fun b u q nm z=>by subst z;rw [q] at mu;exact nm mu
  refine ⟨fun b u q n _ _=>k b u (hb b n) q,fun b u q n _ _=>⟨u.slots,k b u (hb b n) q⟩,fun b u q n _=>by rw [upd_ne (hx b n)];exact n,fun b u q _=>?_,
    fun b xs q=>by rw [upd_ne (hm b _ q fun z=>z)];exact q,fun b u xs q=>by rw [upd_ne (hm b _ q fun z=>z)];exact q,fun b ps q=>⟨#[],by rw [upd_ne (hm b _ q fun z=>z),q];simp⟩⟩
  by_cases hbe:b=e
  · subst hbe;exact heo
  · exact ⟨u,k b u hbe q⟩
end
def trk (h:Heap) (H:Hp):List Addr:=(List.range h.objs.size).filter fun a=>(H a).isSome
def hidT (h:Heap) (H:Hp):Heap:=PySem.W.hideAll h (trk h H)
theorem hidT_size (h:Heap) (H:Hp):(hidT h H).objs.size=h.objs.size:=PySem.W.hideAll_size _ _
theorem hidT_get {h:Heap} {H:Hp} {b:Addr} {o:Obj} (e:h.get? b=some o) (n:H b=none):(hidT h H).get? b=some o:=
  PySem.W.hideAll_get _ e fun hm=>by
    have q:(H b).isSome=true:=(List.mem_filter.mp hm).2
    rw [n] at q;simp at q
theorem of_hidT {h:Heap} {H:Hp} {b:Addr} {o:Obj} (e:(hidT h H).get? b=some o):h.get? b=some o∧H b=none:=by
  have e':h.get? b=some o:=PySem.W.of_hideAll (trk h H) e
  refine ⟨e',?_⟩
  cases q:H b with
  | none=>rfl
  | some x=>
    have hm:b∈trk h H:=List.mem_filter.mpr ⟨List.mem_range.mpr (Heap.lt_size e'),by simp [q]⟩
    have z:(hidT h H).get? b=none:=PySem.W.hideAll_none (trk h H) hm
    rw [z] at e;cases e
end L2
namespace L2
open PySem PySem.Spec PyProof.Rows
structure Mod (K:PySem.W.Frag) (mg:Str→Option Value) (base:Heap):Prop where
  kin:K.In base
  glob:base.Ns mainGlobals mg
  blt:∃ mb,base.Ns builtinsNs mb∧∀ x:Str,x ≠ "__name__" → mb x=bootBuiltins x
  nolimit:base.NoLimit
structure Cx where
  prog:Program
  w:World
  K:PySem.W.Frag
  mg:Str→Option Value
  base:Heap
  A:Around
  N:List Str
  s₀:Shared
  H₀:Hp
  env:Env
  outer:List Env
  stack:List Env
  ex:List Addr
  fn:Str→Bool
  calm:Bool
  pn:List (Addr × Obj)
  xe:Value→Shared→Prop
def frs (l:List Env):List Addr:=l.filterMap (·.frame)
abbrev Cx.fs (X:Cx):List Addr:=frs X.outer
def Vis (sc:Scope) (x:Str):Prop:=sc.names.lookup x=some .local∨sc.names.lookup x=some .cell∨sc.names.lookup x=some .free
def Loc (sc:Scope) (x:Str):Prop:=sc.names.lookup x=some .local∨sc.names.lookup x=some .cell
def Look (env:Env) (h:Heap) (m:Str→Option Value) (x:Str) (u:Value):Prop:=
  (env.kindOf x=some .local∧m x=some u)∨((env.kindOf x=some .cell∨env.kindOf x=some .free)∧∃ c,env.cells.lookup x=some c∧h.IsCell c (some u))
structure Cx.Ok (X:Cx):Prop where
  mod:Mod X.K X.mg X.base
  kind:X.env.scope.kind=.function
  glob:X.env.globals=mainGlobals
  blt:X.env.builtins=builtinsNs
  above:X.s₀.heap.objs.size≤X.env.locals
  inj:∀ x y c,X.env.cells.lookup x=some c→X.env.cells.lookup y=some c→x=y
  has:∀ x,(X.env.kindOf x=some .cell∨X.env.kindOf x=some .free)→∃ c,X.env.cells.lookup x=some c
  cab:∀ x c,X.fn x=true→X.env.cells.lookup x=some c→X.s₀.heap.objs.size≤c
  hd:X.calm=true→X.A.handled=none
  frames:X.A.frames=some X.stack
  stk:X.stack=X.outer∨(X.stack=X.env :: X.outer∧X.env.frame=some X.env.locals)
  exf:∀ b∈X.ex,b≠X.env.locals∧∀ x c,X.env.cells.lookup x=some c→c≠b
  bs:∀ b o,X.base.get? b=some o→X.s₀.heap.get? b=some o∧X.H₀ b=none
  bsz:X.base.objs.size≤X.s₀.heap.objs.size
  noex:∀ b o,X.base.get? b=some o→b ∉ X.ex
  exfs:∀ b∈X.ex,b ∉ X.fs
  funs:X.s₀.heap.FunFrames X.base X.outer
  frf:∀ b∈X.fs,X.H₀ b=none
structure Inv (X:Cx) (pins:List (Addr × Obj)) (σ:List (Option V)) (H:Hp) (s:Shared):Prop where
  ok:X.Ok
  os:s.os=X.s₀.os
  bare:AllBare s.gens
  base:Un X.fs X.ex X.H₀ H X.s₀.heap s.heap
  loc:∃ m,s.heap.Ns X.env.locals m∧∀ (i:Nat) (x:Str) (v:V),X.N[i]?=some x→σ[i]?=some (some v)→Vis X.env.scope x→∃ u,RelV v u∧Look X.env s.heap m x u
  cell:∀ x c,X.env.cells.lookup x=some c→∃ v,s.heap.IsCell c v
  free:H X.env.locals=none
  freeC:∀ x c,X.env.cells.lookup x=some c→H c=none
  pin:∀ p∈X.pn++pins,s.heap.get? p.1=some p.2∧H p.1=none∧p.1≠X.env.locals∧p.1 ∉ X.fs∧∀ v,p.2.data≠.cell v
  hok:HOk X.prog X.w H s.heap
  len:σ.length=X.N.length
section
variable {X:Cx} {pins:List (Addr × Obj)} {σ:List (Option V)} {H H':Hp} {s:Shared} {h':Heap}
theorem Cx.Ok.nofr (ok:X.Ok) {b:Addr} {o:Obj} (e:X.base.get? b=some o):b ∉ X.fs:=fun hb=>by
  have:=(ok.funs.mem hb).1
  rw [e] at this;cases this
theorem Inv.bs (I:Inv X pins σ H s):∀ b o,X.base.get? b=some o→s.heap.get? b=some o∧H b=none:=fun b o e=>
  ⟨I.base.keep b o (I.ok.bs b o e).1 (I.ok.bs b o e).2 (I.ok.nofr e) (I.ok.noex b o e),I.base.free b o (I.ok.bs b o e).1 (I.ok.bs b o e).2 (I.ok.noex b o e)⟩
theorem Inv.bk (I:Inv X pins σ H s):∀ b o,X.base.get? b=some o→s.heap.get? b=some o:=fun b o e=>(I.bs b o e).1
theorem Inv.mod (I:Inv X pins σ H s):Mod X.K X.mg X.base:=I.ok.mod
theorem Inv.kIn (I:Inv X pins σ H s):X.K.In s.heap:=I.ok.mod.kin.keeps I.bk
theorem Inv.fr (I:Inv X pins σ H s):∃ m,Fr X.base X.env.locals s.heap m:=
  let ⟨m,hn,_⟩:=I.loc
  ⟨m,hn,I.bk,Nat.le_trans I.ok.bsz I.ok.above⟩
theorem Inv.lt (I:Inv X pins σ H s):X.env.locals < s.heap.objs.size:=let ⟨_,hn,_⟩:=I.loc;hn.lt
theorem Inv.sz (I:Inv X pins σ H s):X.s₀.heap.objs.size≤s.heap.objs.size:=Nat.le_trans I.ok.above (Nat.le_of_lt I.lt)
theorem Inv.nofs (I:Inv X pins σ H s) {a:Addr} (h:s.heap.objs.size≤a):a ∉ X.fs:=fun hb=>by
  obtain ⟨_,o,ho,_⟩:=I.ok.funs.mem hb
  exact absurd (Nat.lt_of_lt_of_le (Heap.lt_size ho) (Nat.le_trans I.sz h)) (Nat.lt_irrefl _)
theorem Inv.cne (I:Inv X pins σ H s):∀ x c,X.env.cells.lookup x=some c→c≠X.env.locals:=fun x c e z=>by
  obtain ⟨v,o,ho,hd⟩:=I.cell x c e
  obtain ⟨m,⟨o',es,ep,ho',hd',_⟩,_⟩:=I.loc
  rw [z,ho'] at ho;cases ho;rw [hd'] at hd;cases hd
theorem Inv.funs (I:Inv X pins σ H s):s.heap.FunFrames X.base X.outer:=by
  have all:∀ (l:List Env),(∀ b∈frs l,b∈X.fs)→X.s₀.heap.FunFrames X.base l→s.heap.FunFrames X.base l:=by
    intro l
    induction l with
    | nil=>intro _ _;trivial
    | cons env r ih=>
      intro hs hl
      obtain ⟨hk,⟨L,o,hf,hn,ho,hd⟩,hr⟩:=hl
      have hL:L∈X.fs:=hs L (by unfold frs;rw [List.filterMap_cons,hf];exact List.mem_cons_self)
      obtain ⟨sl,e⟩:=I.base.slot L o ho (I.ok.frf L hL) hL fun z=>I.ok.exfs L z hL
      exact ⟨hk,⟨L,_,hf,hn,e,hd⟩,ih (fun b hb=>hs b (by unfold frs;rw [List.filterMap_cons,hf];exact List.mem_cons_of_mem _ hb)) hr⟩
  exact all X.outer (fun _ hb=>hb) I.ok.funs
theorem Inv.stack (I:Inv X pins σ H s):s.heap.FunFrames X.base X.stack:=by
  rcases I.ok.stk with e | ⟨e,hf⟩
  · rw [e];exact I.funs
  · rw [e]
    obtain ⟨m,hn,_⟩:=I.loc
    refine .cons (by rw [I.ok.kind];decide) hf hn ?_ I.funs
    exact Heap.get?_none_of_le (Nat.le_trans I.ok.bsz I.ok.above)
theorem Inv.stkSub (I:Inv X pins σ H s):∀ b∈frs X.stack,b∈X.env.locals :: X.fs:=fun b hb=>by
  rcases I.ok.stk with e | ⟨e,hf⟩
  · rw [e] at hb;exact List.mem_cons_of_mem _ hb
  · rw [e] at hb
    unfold frs at hb
    rw [List.filterMap_cons,hf] at hb
    exact hb
theorem Inv.stkFree (I:Inv X pins σ H s):∀ b∈frs X.stack,H b=none:=fun b hb=>by
  rcases List.mem_cons.mp (I.stkSub b hb) with e | hb
  · rw [e];exact I.free
  · obtain ⟨_,o,ho,_⟩:=I.ok.funs.mem hb
    exact I.base.free b o ho (I.ok.frf b hb) fun z=>I.ok.exfs b z hb
theorem Inv.step {g':Array GenState} {t':Nat} {d':Drawn} {ch:List Addr} (I:Inv X pins σ H s)
    (hch:∀ b∈ch,(b∈X.ex∨X.s₀.heap.objs.size≤b)∧b≠X.env.locals∧(∀ x c,X.env.cells.lookup x=some c→c≠b)∧∀ p∈X.pn++pins,p.1≠b)
    (keep:∀ b o,b≠X.env.locals→b ∉ X.fs→b ∉ ch→s.heap.get? b=some o→H b=none→h'.get? b=some o)
    (slot:∀ b o,b≠X.env.locals→b∈X.fs→b ∉ ch→s.heap.get? b=some o→H b=none→∃ sl,h'.get? b=some { o with slots:=sl }) (free:∀ b o,b ∉ ch→s.heap.get? b=some o→H b=none→H' b=none)
    (there:∀ b o,b ∉ ch→s.heap.get? b=some o→∃ o',h'.get? b=some o')
    (tups:∀ b xs,H b=some (.tup xs)→H' b=some (.tup xs)) (frzs:∀ b o u,H b=some (.frz o u)→H' b=some (.frz o u)) (tbls:∀ b ps,H b=some (.tbl ps)→∃ more,H' b=some (.tbl (ps++more)))
    (ns:∀ m,s.heap.Ns X.env.locals m→h'.Ns X.env.locals m) (hok:HOk X.prog X.w H' h') (hg:AllBare g') :
    Inv X pins σ H' { s with heap:=h',gens:=g',drawn:=d',toks:=t' }:=by
  have neL:∀ b o,X.s₀.heap.get? b=some o→b≠X.env.locals:=fun b o e=>Nat.ne_of_lt (Nat.lt_of_lt_of_le (Heap.lt_size e) I.ok.above)
  have neC:∀ b o,X.s₀.heap.get? b=some o→b ∉ X.ex→b ∉ ch:=fun b o e hx hb=>by
    rcases (hch b hb).1 with z | z
    · exact hx z
    · exact absurd (Nat.lt_of_lt_of_le (Heap.lt_size e) z) (Nat.lt_irrefl _)
  have cellK:∀ x c,X.env.cells.lookup x=some c→∀ v,s.heap.IsCell c v→h'.IsCell c v:=fun x c e v ⟨o,ho,hd⟩=>by
    have nch:c ∉ ch:=fun z=>(hch c z).2.2.1 x c e rfl
    by_cases hc:c∈X.fs
    · obtain ⟨sl,q⟩:=slot c o (I.cne x c e) hc nch ho (I.freeC x c e)
      exact ⟨_,q,hd⟩
    · exact ⟨o,keep c o (I.cne x c e) hc nch ho (I.freeC x c e),hd⟩
  refine ⟨I.ok,I.os,hg,⟨fun b o e n hb hx=>?_,fun b o e n hb hx=>?_,fun b o e n hx=>?_,fun b o e hx=>?_,fun b xs e=>tups b xs (I.base.tups b xs e),fun b o xs e=>frzs b o xs (I.base.frzs b o xs e),fun b ps e=>?_⟩,?_,fun x c e=>?_,?_,fun x c e=>?_,fun p hp=>?_,hok,I.len⟩
  · exact keep b o (neL b o e) hb (neC b o e hx) (I.base.keep b o e n hb hx) (I.base.free b o e n hx)
  · obtain ⟨sl,e1⟩:=I.base.slot b o e n hb hx
    obtain ⟨sl',e2⟩:=slot b _ (neL b o e) hb (neC b o e hx) e1 (I.base.free b o e n hx)
    exact ⟨sl',e2⟩
  · obtain ⟨o',e1⟩:=I.base.there b o e hx
    exact free b o' (neC b o e hx) e1 (I.base.free b o e n hx)
  · obtain ⟨o',e1⟩:=I.base.there b o e hx
    exact there b o' (neC b o e hx) e1
  · obtain ⟨m1,e1⟩:=I.base.tbls b ps e
    obtain ⟨m2,e2⟩:=tbls b _ e1
    exact ⟨m1++m2,by rw [e2,Array.append_assoc]⟩
  · obtain ⟨m,hn,hl⟩:=I.loc
    refine ⟨m,ns m hn,fun i x v e1 e2 e3=>?_⟩
    obtain ⟨u,r,l⟩:=hl i x v e1 e2 e3
    refine ⟨u,r,?_⟩
    rcases l with l | ⟨k,c,e,z⟩
    · exact .inl l
    · exact .inr ⟨k,c,e,cellK x c e _ z⟩
  · obtain ⟨v,z⟩:=I.cell x c e
    exact ⟨v,cellK x c e v z⟩
  · obtain ⟨m,⟨o,_,_,ho,_⟩,_⟩:=I.loc
    exact free _ o (fun z=>(hch _ z).2.1 rfl) ho I.free
  · obtain ⟨v,o,ho,hd⟩:=I.cell x c e
    exact free c o (fun z=>(hch c z).2.2.1 x c e rfl) ho (I.freeC x c e)
  · obtain ⟨e,n,ne,nf,d⟩:=I.pin p hp
    have nch:p.1 ∉ ch:=fun z=>(hch p.1 z).2.2.2 p hp rfl
    exact ⟨keep p.1 p.2 ne nf nch e n,free p.1 p.2 nch e n,ne,nf,d⟩
theorem Inv.un {t':Nat} (I:Inv X pins σ H s) (u:Un X.fs [] H H' s.heap h') (hok:HOk X.prog X.w H' h'):Inv X pins σ H' { s with heap:=h',toks:=t' }:=by
  obtain ⟨m,⟨o,es,ep,ho,r⟩,_⟩:=id I.loc
  obtain ⟨sl,hL⟩:=u.any ho I.free (by simp)
  exact I.step (g':=s.gens) (d':=s.drawn) (ch:=[]) (fun _ z=>nomatch z) (fun b o _ hb _ e n=>u.keep b o e n hb (by simp)) (fun b o _ hb _ e n=>u.slot b o e n hb (by simp)) (fun b o _ e n=>u.free b o e n (by simp)) (fun b o _ e=>u.there b o e (by simp)) u.tups u.frzs u.tbls (fun m' hm=>by
    obtain ⟨o',es',ep',ho',r'⟩:=hm
    rw [ho] at ho';cases ho'
    exact ⟨_,es',ep',hL,r'⟩) hok I.bare
theorem Inv.call {g':Array GenState} {t':Nat} {d':Drawn} {ch:List Addr} (I:Inv X pins σ H s) (u:Un (frs X.stack) ch H H' s.heap h') (hok:HOk X.prog X.w H' h') (hg:AllBare g')
    (hch:∀ b∈ch,(b∈X.ex∨X.s₀.heap.objs.size≤b)∧b≠X.env.locals∧(∀ x c,X.env.cells.lookup x=some c→c≠b)∧∀ p∈X.pn++pins,p.1≠b) :
    Inv X pins σ H' { s with heap:=h',gens:=g',drawn:=d',toks:=t' }:=by
  obtain ⟨m,⟨o,es,ep,ho,r⟩,_⟩:=id I.loc
  obtain ⟨sl,hL⟩:=u.any ho I.free fun z=>(hch _ z).2.1 rfl
  exact I.step (ch:=ch) hch (fun b o hL hb hc e n=>u.keep b o e n (fun z=>(List.mem_cons.mp (I.stkSub b z)).elim hL hb) hc) (fun b o _ _ hc e n=>u.any e n hc) (fun b o hc e n=>u.free b o e n hc) (fun b o hc e=>u.there b o e hc) u.tups u.frzs u.tbls (fun m' hm=>by
    obtain ⟨o',es',ep',ho',r'⟩:=hm
    rw [ho] at ho';cases ho'
    exact ⟨_,es',ep',hL,r'⟩) hok hg
theorem Inv.turned {t':Nat} {it:Addr} (I:Inv X pins σ H s) (k:∀ b o,b≠it→s.heap.get? b=some o→h'.get? b=some o) (hn:H it=none) (hL:it≠X.env.locals)
    (h1:it∈X.ex∨X.s₀.heap.objs.size≤it) (h2:∀ x c,X.env.cells.lookup x=some c→c≠it) (h3:∀ p∈X.pn++pins,p.1≠it):Inv X pins σ H { s with heap:=h',toks:=t' }:=by
  have nit:∀ b u,H b=some u→b≠it:=fun b u e z=>by rw [z,hn] at e;cases e
  refine I.step (g':=s.gens) (d':=s.drawn) (ch:=[it]) (fun b hb=>?_) (fun b o _ _ hc e _=>k b o (fun z=>hc (by simp [z])) e) (fun b o _ _ hc e _=>⟨o.slots,k b o (fun z=>hc (by simp [z])) e⟩) (fun _ _ _ _ n=>n)
    (fun b o hc e=>⟨o,k b o (fun z=>hc (by simp [z])) e⟩) (fun _ _ e=>e) (fun _ _ _ e=>e) (fun b ps e=>⟨#[],by rw [e];simp⟩) (fun m hm=>?_) (fun b u e=>?_) I.bare
  · have e:b=it:=by simpa using hb
    subst e
    exact ⟨h1,hL,h2,h3⟩
  · obtain ⟨o,es,ep,ho,r⟩:=hm
    exact ⟨o,es,ep,k _ o (Ne.symm hL) ho,r⟩
  · refine (I.hok b u e).stay (fun c v hc q=>k c v ?_ q) (fun _ q=>q) fun _ _ q=>q
    rcases hc with z | z
    · rw [z];exact nit b u e
    · exact nit c _ z
theorem Inv.tok (I:Inv X pins σ H s) (t:Nat):Inv X pins σ H { s with toks:=t }:=I.un (h':=s.heap) (t':=t) Un.refl I.hok
theorem Inv.kept {t':Nat} (I:Inv X pins σ H s) (k:∀ b u,s.heap.get? b=some u→h'.get? b=some u):Inv X pins σ H { s with heap:=h',toks:=t' }:=I.un (Un.kept k) (I.hok.kept k)
theorem Inv.laid {a:Addr} {o:HO} {t':Nat} (I:Inv X pins σ H s) (k:∀ b u,s.heap.get? b=some u→h'.get? b=some u) (hp:s.heap.objs.size≤a) (new:ObjOk X.prog X.w (upd H a o) h' a o) :
    Inv X pins σ (upd H a o) { s with heap:=h',toks:=t' }:=I.un (Un.laid k hp (I.hok.fresh hp)) (I.hok.laid k hp new)
theorem Inv.write {x e:Addr} {o:HO} {t':Nat} (I:Inv X pins σ H s) (mu:Mut (H x)) (he:e=x∨H e=some (.own x)) (k:∀ b u,b≠e→s.heap.get? b=some u→h'.get? b=some u) (heo:∃ u,h'.get? e=some u)
    (new:ObjOk X.prog X.w (upd H x o) h' x o):Inv X pins σ (upd H x o) { s with heap:=h',toks:=t' }:=I.un (Un.write mu he k heo) (I.hok.write mu he k heo new)
theorem Inv.weak {σ':List (Option V)} (I:Inv X pins σ H s) (hl:σ'.length=σ.length) (w:∀ (i:Nat) v,σ'[i]?=some (some v)→σ[i]?=some (some v)):Inv X pins σ' H s:=
  ⟨I.ok,I.os,I.bare,I.base,let ⟨m,hn,hl'⟩:=I.loc;⟨m,hn,fun i x v e1 e2 e3=>hl' i x v e1 (w i v e2) e3⟩,I.cell,I.free,I.freeC,I.pin,I.hok,hl.trans I.len⟩
theorem Inv.pins_of {pins':List (Addr × Obj)} (I:Inv X pins σ H s) (h:∀ p∈pins',s.heap.get? p.1=some p.2∧H p.1=none∧p.1≠X.env.locals∧p.1 ∉ X.fs∧∀ v,p.2.data≠.cell v):Inv X pins' σ H s:=
  ⟨I.ok,I.os,I.bare,I.base,I.loc,I.cell,I.free,I.freeC,fun p hp=>(List.mem_append.mp hp).elim (fun z=>I.pin p (List.mem_append_left _ z)) (h p),I.hok,I.len⟩
theorem nodup_ix {N:List Str} (hN:N.Nodup) {i j:Nat} {x:Str} (a:N[i]?=some x) (b:N[j]?=some x):i=j:=by
  obtain ⟨h1,e1⟩:=List.getElem?_eq_some_iff.mp a
  obtain ⟨h2,e2⟩:=List.getElem?_eq_some_iff.mp b
  exact (List.getElem_inj hN).mp (e1.trans e2.symm)
theorem store_ok2 {M:Model} {A:Around} {E:Value→Shared→Prop} {i:Nat} {x:Str} {v:V} {u:Value} {Q:Unit→Shared→Prop} (I:Inv X pins σ H s) (hN:X.N.Nodup) (hi:X.N[i]?=some x) (hx:Loc X.env.scope x) (r:RelV v u)
    (h:∀ s',Inv X pins (σ.set i (some v)) H s'→(∃ a,Heap.SameBut a s.heap s'.heap∧(a=X.env.locals∨X.env.cells.lookup x=some a))→Q () s') (hf:X.fn x=true∨X.env.scope.names.lookup x=some .local:=by first | exact .inl rfl | exact .inr rfl | assumption):wpAny M A (storeName X.env x u) Q E s:=by
  obtain ⟨m,hn,hl⟩:=id I.loc
  have hcls:(X.env.scope.kind == .class || (X.env.scope.kind == .module && X.env.locals != X.env.globals))=false:=by rw [I.ok.kind];rfl
  have hiσ:i < σ.length:=by rw [I.len];exact (List.getElem?_eq_some_iff.mp hi).1
  have cne:=I.cne
  have tracked:∀ {a:Addr} {h':Heap},(∃ o,s.heap.get? a=some o∧H a=none)→Heap.SameBut a s.heap h'→HOk X.prog X.w H h':=fun {a h'} ha hs b ob e=>by
    obtain ⟨_,_,hfree⟩:=ha
    refine (I.hok b ob e).stay (fun c w' hc q=>(hs.2 c ?_).trans q) (fun _ q=>q) fun _ _ q=>q
    rintro rfl
    rcases hc with rfl | hc
    · rw [hfree] at e;cases e
    · rw [hfree] at hc;cases hc
  rcases hx with hk | hk
  · refine wpAny_storeName_local hk hn (fun h' hn' hs=>?_) hcls
    obtain ⟨oL,_,_,hoL,_⟩:=id hn
    refine h _ ⟨I.ok,I.os,I.bare,⟨fun b o e n hb hx=>?_,fun b o e n hb hx=>?_,I.base.free,fun b o e hx=>?_,I.base.tups,I.base.frzs,I.base.tbls⟩,⟨_,hn',fun j y v' e1 e2 e3=>?_⟩,fun y c e=>?_,I.free,I.freeC,fun p hp=>?_,tracked ⟨oL,hoL,I.free⟩ hs,by simpa using I.len⟩ ⟨_,hs,.inl rfl⟩
    · exact (hs.2 b (Nat.ne_of_lt (Nat.lt_of_lt_of_le (Heap.lt_size e) I.ok.above))).trans (I.base.keep b o e n hb hx)
    · obtain ⟨sl,e1⟩:=I.base.slot b o e n hb hx
      exact ⟨sl,(hs.2 b (Nat.ne_of_lt (Nat.lt_of_lt_of_le (Heap.lt_size e) I.ok.above))).trans e1⟩
    · obtain ⟨o',e1⟩:=I.base.there b o e hx
      exact ⟨o',(hs.2 b (Nat.ne_of_lt (Nat.lt_of_lt_of_le (Heap.lt_size e) I.ok.above))).trans e1⟩
    · by_cases hj:j=i
      · subst hj
        rw [hi] at e1;cases e1
        rw [List.getElem?_set_self hiσ] at e2
        cases e2
        exact ⟨u,r,.inl ⟨hk,by simp⟩⟩
      · rw [List.getElem?_set_ne (Ne.symm hj)] at e2
        obtain ⟨u',r',q⟩:=hl j y v' e1 e2 e3
        refine ⟨u',r',?_⟩
        rcases q with ⟨k,e⟩ | ⟨k,c,e,z⟩
        · refine .inl ⟨k,?_⟩
          have:y≠x:=fun e=>hj (nodup_ix hN e1 (e ▸ hi))
          simp [this,e]
        · exact .inr ⟨k,c,e,z.sameBut hs (cne y c e)⟩
    · obtain ⟨w',z⟩:=I.cell y c e
      exact ⟨w',z.sameBut hs (cne y c e)⟩
    · obtain ⟨e,n,ne,nf,d⟩:=I.pin p hp
      exact ⟨(hs.2 p.1 ne).trans e,n,ne,nf,d⟩
  · have hfn:X.fn x=true:=by
      rcases hf with z | z
      · exact z
      · rw [z] at hk;cases hk
    obtain ⟨c,hc⟩:=I.ok.has x (.inl hk)
    obtain ⟨w',z⟩:=I.cell x c hc
    refine wpAny_storeName_cell I.ok.kind hk hc z (fun h' hc' hs=>?_)
    obtain ⟨oc,hoc,hocd⟩:=id z
    refine h { s with heap:=h' } ⟨I.ok,I.os,I.bare,⟨fun b o e n hb hx=>?_,fun b o e n hb hx=>?_,I.base.free,fun b o e hx=>?_,I.base.tups,I.base.frzs,I.base.tbls⟩,⟨m,hn.sameBut hs (Ne.symm (cne x c hc)),fun j y v' e1 e2 e3=>?_⟩,fun y c' e=>?_,I.free,I.freeC,fun p hp=>?_,tracked ⟨oc,hoc,I.freeC x c hc⟩ hs,by simpa using I.len⟩ ⟨c,hs,.inr hc⟩
    · exact (hs.2 b (Nat.ne_of_lt (Nat.lt_of_lt_of_le (Heap.lt_size e) (I.ok.cab x c hfn hc)))).trans (I.base.keep b o e n hb hx)
    · obtain ⟨sl,e1⟩:=I.base.slot b o e n hb hx
      exact ⟨sl,(hs.2 b (Nat.ne_of_lt (Nat.lt_of_lt_of_le (Heap.lt_size e) (I.ok.cab x c hfn hc)))).trans e1⟩
    · obtain ⟨o',e1⟩:=I.base.there b o e hx
      exact ⟨o',(hs.2 b (Nat.ne_of_lt (Nat.lt_of_lt_of_le (Heap.lt_size e) (I.ok.cab x c hfn hc)))).trans e1⟩
    · by_cases hj:j=i
      · subst hj
        rw [hi] at e1;cases e1
        rw [List.getElem?_set_self hiσ] at e2
        cases e2
        exact ⟨u,r,.inr ⟨.inl hk,c,hc,hc'⟩⟩
      · rw [List.getElem?_set_ne (Ne.symm hj)] at e2
        obtain ⟨u',r',q⟩:=hl j y v' e1 e2 e3
        refine ⟨u',r',?_⟩
        rcases q with q | ⟨k,c',e,z'⟩
        · exact .inl q
        · refine .inr ⟨k,c',e,z'.sameBut hs ?_⟩
          rintro rfl
          exact hj (nodup_ix hN e1 (I.ok.inj _ _ _ e hc ▸ hi))
    · by_cases hcc:c'=c
      · subst hcc;exact ⟨_,hc'⟩
      · obtain ⟨w2,z2⟩:=I.cell y c' e
        exact ⟨w2,z2.sameBut hs hcc⟩
    · obtain ⟨e,n,ne,nf,d⟩:=I.pin p hp
      refine ⟨(hs.2 p.1 ?_).trans e,n,ne,nf,d⟩
      intro q
      rw [q,hoc] at e
      have q':oc=p.2:=Option.some.inj e
      exact d w' (by rw [← q'];exact hocd)
theorem store_ok {M:Model} {A:Around} {E:Value→Shared→Prop} {i:Nat} {x:Str} {v:V} {u:Value} {Q:Unit→Shared→Prop} (I:Inv X pins σ H s) (hN:X.N.Nodup) (hi:X.N[i]?=some x) (hx:Loc X.env.scope x) (r:RelV v u)
    (h:∀ s',Inv X pins (σ.set i (some v)) H s'→Q () s') (hf:X.fn x=true∨X.env.scope.names.lookup x=some .local:=by first | exact .inl rfl | exact .inr rfl | assumption):wpAny M A (storeName X.env x u) Q E s:=
  store_ok2 I hN hi hx r (fun s' I' _=>h s' I') hf
theorem Inv.call' {s':Shared} {ch:List Addr} (I:Inv X pins σ H s) (ho:s'.os=s.os) (u:Un (frs X.stack) ch H H' s.heap s'.heap) (hok:HOk X.prog X.w H' s'.heap) (hg:AllBare s'.gens)
    (hch:∀ b∈ch,(b∈X.ex∨X.s₀.heap.objs.size≤b)∧b≠X.env.locals∧(∀ x c,X.env.cells.lookup x=some c→c≠b)∧∀ p∈X.pn++pins,p.1≠b):Inv X pins σ H' s':=by
  obtain ⟨h',g',d',t',o'⟩:=s'
  have e:o'=s.os:=ho
  subst e
  exact I.call (g':=g') (t':=t') (d':=d') u hok hg hch
end
abbrev XK:=Value→Option Addr→Hp→Prop
abbrev St:=List (Option V)
abbrev VK:=V→Hp→Prop
abbrev TE:=St→Hp→VK→Prop
abbrev TT:=St→Hp→(Bool→Hp→Prop)→Prop
abbrev TA:=St→Hp→(List V→Hp→Prop)→Prop
structure Ends where
  nx:St→Hp→Prop
  rt:VK
  bk:St→Hp→Prop:=fun _ _=>False
  ct:St→Hp→Prop:=fun _ _=>False
abbrev TS:=Ends→St→Hp→Prop
def EP (X:Cx) (pins:List (Addr × Obj)) (σ:St) (Q:VK) (u:Value) (s':Shared):Prop:=∃ v H',Inv X pins σ H' s'∧RelV v u∧Q v H'
def TP (X:Cx) (pins:List (Addr × Obj)) (σ:St) (Q:Bool→Hp→Prop) (b:Bool) (s':Shared):Prop:=∃ H',Inv X pins σ H' s'∧Q b H'
def AP (X:Cx) (pins:List (Addr × Obj)) (σ:St) (Q:List V→Hp→Prop) (us:List Value) (s':Shared):Prop:=∃ vs H',Inv X pins σ H' s'∧Vals vs us∧Q vs H'
def SP (X:Cx) (pins:List (Addr × Obj)) (D:Ends) (f:Flow) (s':Shared):Prop:=
  match f with
  | .next=>∃ σ' H',Inv X pins σ' H' s'∧D.nx σ' H'
  | .brk=>∃ σ' H',Inv X pins σ' H' s'∧D.bk σ' H'
  | .cont=>∃ σ' H',Inv X pins σ' H' s'∧D.ct σ' H'
  | .ret u=>∃ v σ' H',Inv X pins σ' H' s'∧RelV v u∧D.rt v H'
def PE (X:Cx) (e:Expr) (t:TE):Prop:=
  ∀ (pins:List (Addr × Obj)) (s:Shared) (σ:St) (H:Hp) (Q:VK),Inv X pins σ H s→t σ H Q→wpAny (model X.prog X.w) X.A (eval e X.env) (EP X pins σ Q) X.xe s
def PT (X:Cx) (e:Expr) (t:TT):Prop:=
  ∀ (pins:List (Addr × Obj)) (s:Shared) (σ:St) (H:Hp) (Q:Bool→Hp→Prop),Inv X pins σ H s→t σ H Q→wpAny (model X.prog X.w) X.A (isTrue e X.env (eval e X.env)) (TP X pins σ Q) X.xe s
def PW (X:Cx) (e:Expr) (t:TT):Prop:=
  ∀ (whole:Sem Value) (pins:List (Addr × Obj)) (s:Shared) (σ:St) (H:Hp) (Q:Bool→Hp→Prop),Inv X pins σ H s→t σ H Q→wpAny (model X.prog X.w) X.A (isTrue e X.env whole) (TP X pins σ Q) X.xe s
theorem PW.pt {X:Cx} {e:Expr} {t:TT} (h:PW X e t):PT X e t:=h _
def PA (X:Cx) (es:List Expr) (t:TA):Prop:=
  ∀ (pos:Pos) (pins:List (Addr × Obj)) (s:Shared) (σ:St) (H:Hp) (Q:List V→Hp→Prop),Inv X pins σ H s→t σ H Q→wpAny (model X.prog X.w) X.A (spliced (backTo pos (starEach es X.env))) (AP X pins σ Q) X.xe s
def PS (X:Cx) (st:Stmt) (t:TS):Prop:=
  ∀ (pins:List (Addr × Obj)) (s:Shared) (σ:St) (H:Hp) (D:Ends),Inv X pins σ H s→t D σ H→wpAny (model X.prog X.w) X.A (exec st X.env) (SP X pins D) X.xe s
def PSs (X:Cx) (st:List Stmt) (t:TS):Prop:=
  ∀ (pins:List (Addr × Obj)) (s:Shared) (σ:St) (H:Hp) (D:Ends),Inv X pins σ H s→t D σ H→wpAny (model X.prog X.w) X.A (execs st X.env) (SP X pins D) X.xe s
theorem thn {α:Type} {t:Sem α} {Q Q':α→Shared→Prop} {M:Model} {A:Around} {E:Value→Shared→Prop} {s:Shared} (h:wpAny M A t Q E s) (hQ:∀ a s,Q a s→Q' a s):wpAny M A t Q' E s:=wpAny_mono h hQ fun _ _ x=>x
end L2
namespace L2
open PySem PySem.Spec PyProof.Rows
section
variable {X:Cx}
def tVar (i:Nat):TE:=fun σ H Q=>∃ v,σ[i]?=some (some v)∧Q v H
def tC (v:V):TE:=fun _ H Q=>Q v H
theorem pe_var {i:Nat} {x:Str} {pos:Pos} (hN:X.N[i]?=some x) (hv:Vis X.env.scope x) (hd:(x == ("__debug__" : Str))=false:=by decide) (hcd:(x == ("__classdict__" : Str))=false:=by decide):PE X (.Name x pos) (tVar i):=by
  intro pins s σ H Q I h
  obtain ⟨v,e,h⟩:=h
  obtain ⟨m,hn,hl⟩:=I.loc
  obtain ⟨u,r,l⟩:=hl i x v hN e hv
  have fin:EP X pins σ Q u s:=⟨v,H,I,r,h⟩
  rcases l with ⟨hk,hm⟩ | ⟨hk,c,hc,hcell⟩
  · exact wpAny_Name (wpAny_loadName_local I.ok.kind hk hn hm fin) hd
  · rcases hk with hk | hk
    · exact wpAny_Name (wpAny_loadName_cell I.ok.kind hk hc hcell fin) hd
    · exact wpAny_Name (wpAny_loadName_free I.ok.kind hk hc hcell fin hcd) hd
theorem pe_int {i j pos}:PE X (.Constant (.int i) j pos) (tC (.int i)):=fun _ _ _ H _ I h=>wpAny_Constant_int ⟨.int i,H,I.tok _,⟨_,rfl⟩,h⟩
theorem pe_bl {b j pos}:PE X (.Constant (.bool b) j pos) (tC (.bl b)):=fun _ _ _ H _ I h=>Constant_bool ⟨.bl b,H,I,rfl,h⟩
theorem pe_non {j pos}:PE X (.Constant .none j pos) (tC .non):=fun _ _ _ H _ I h=>Constant_none ⟨.non,H,I,rfl,h⟩
theorem pe_str {x j pos}:PE X (.Constant (.str x) j pos) (tC (.str x)):=fun _ _ _ H _ I h=>Calls.Constant_str ⟨.str x,H,I.tok _,⟨_,rfl⟩,h⟩
def Gl (X:Cx) (x:Str):Prop:=X.env.kindOf x=some .globalImplicit
theorem ld_glob {E:Value→Shared→Prop} {pins:List (Addr × Obj)} {s:Shared} {σ:St} {H:Hp} {x:Str} {u:Value} {pos:Pos} {Q:Value→Shared→Prop} (I:Inv X pins σ H s) (hg:Gl X x) (hm:X.mg x=some u) (h:Q u s)
    (hd:(x == ("__debug__" : Str))=false:=by decide):wpAny (model X.prog X.w) X.A (eval (.Name x pos) X.env) Q E s:=
  Calls.Name_function_global I.ok.kind hg (Calls.loadGlobal_global (by rw [I.ok.glob];exact I.mod.glob.keeps I.bk) hm h) hd
theorem ld_blt {E:Value→Shared→Prop} {pins:List (Addr × Obj)} {s:Shared} {σ:St} {H:Hp} {x:Str} {u:Value} {pos:Pos} {Q:Value→Shared→Prop} (I:Inv X pins σ H s) (hg:Gl X x) (hm:X.mg x=none) (hv:bootBuiltins x=some u) (h:Q u s)
    (hn:x ≠ "__name__" := by decide) (hd:(x == ("__debug__" : Str))=false:=by decide):wpAny (model X.prog X.w) X.A (eval (.Name x pos) X.env) Q E s:=by
  obtain ⟨mb,h1,h2⟩:=I.mod.blt
  exact Calls.Name_function_global I.ok.kind hg (Calls.loadGlobal_builtin (by rw [I.ok.glob];exact I.mod.glob.keeps I.bk) hm (by rw [I.ok.blt];exact h1.keeps I.bk) ((h2 x hn).trans hv) h) hd
theorem pe_glob {x:Str} {v:V} {u:Value} {pos:Pos} (hg:Gl X x) (hm:X.mg x=some u) (r:RelV v u) (hd:(x == ("__debug__" : Str))=false:=by decide):PE X (.Name x pos) (tC v):=
  fun _ _ _ H _ I h=>ld_glob I hg hm ⟨v,H,I,r,h⟩ hd
theorem pe_bltn {x:Str} {v:V} {u:Value} {pos:Pos} (hg:Gl X x) (hm:X.mg x=none) (hv:bootBuiltins x=some u) (r:RelV v u) (hn:x ≠ "__name__" := by decide) (hd:(x == ("__debug__" : Str))=false:=by decide):PE X (.Name x pos) (tC v):=
  fun _ _ _ H _ I h=>ld_blt I hg hm hv ⟨v,H,I,r,h⟩ hn hd
variable {a b:Expr} {ta tb:TE} {pos:Pos}
def tB (t:TE):TT:=fun σ H Q=>t σ H fun x H1=>∃ c,x=.bl c∧Q c H1
theorem pt_val {e:Expr} {t:TE} (h:PE X e t) (he:∀ whole,isTrue e X.env whole=(do let v ← whole;standAt e.pos;holding [v] (truthy v)):=by intro _;rfl):PT X e (tB t):=by
  intro pins s σ H Q I hw
  refine isTrue_plain (thn (h pins s σ H _ I hw) fun v s1 ⟨x,H1,I1,r1,q1⟩=>?_) (he _)
  obtain ⟨d,rfl,q⟩:=q1
  cases r1
  exact wpAny_truthy_bool ⟨H1,I1,q⟩
variable {tA tB':TT} {rest:List Expr}
def tAnd (t u:TT):TT:=fun σ H Q=>t σ H fun c H1=>if c=true then u σ H1 Q else Q false H1
def tOr (t u:TT):TT:=fun σ H Q=>t σ H fun c H1=>if c=true then Q true H1 else u σ H1 Q
def tNot (t:TT):TT:=fun σ H Q=>t σ H fun c H1=>Q (!c) H1
theorem pw_and1 (ha:PT X a tA):PW X (.BoolOp .And [a] pos) tA:=by
  intro wh pins s σ H Q I h
  refine isTrue_and (thn (ha pins s σ H Q I h) fun c s1 e=>?_)
  cases c with
  | true=>exact isTrue_and_nil e
  | false=>exact e
theorem pw_or1 (ha:PT X a tA):PW X (.BoolOp .Or [a] pos) tA:=by
  intro wh pins s σ H Q I h
  refine isTrue_or (thn (ha pins s σ H Q I h) fun c s1 e=>?_)
  cases c with
  | false=>exact isTrue_or_nil e
  | true=>exact e
theorem pw_and (ha:PT X a tA) (hb:PW X (.BoolOp .And (b :: rest) pos) tB'):PW X (.BoolOp .And (a :: b :: rest) pos) (tAnd tA tB'):=by
  intro wh pins s σ H Q I h
  refine isTrue_and (thn (ha pins s σ H _ I h) fun c s1 ⟨H1,I1,q1⟩=>?_)
  cases c with
  | true=>exact hb wh pins s1 σ H1 Q I1 q1
  | false=>exact ⟨H1,I1,q1⟩
theorem pw_or (ha:PT X a tA) (hb:PW X (.BoolOp .Or (b :: rest) pos) tB'):PW X (.BoolOp .Or (a :: b :: rest) pos) (tOr tA tB'):=by
  intro wh pins s σ H Q I h
  refine isTrue_or (thn (ha pins s σ H _ I h) fun c s1 ⟨H1,I1,q1⟩=>?_)
  cases c with
  | true=>exact ⟨H1,I1,q1⟩
  | false=>exact hb wh pins s1 σ H1 Q I1 q1
theorem pt_not (ha:PT X a tA):PT X (.UnaryOp .Not a pos) (tNot tA):=by
  intro pins s σ H Q I h
  exact isTrue_not (ha pins s σ H (fun c H1=>Q (!c) H1) I h)
def tAndV (ta tb:TE):TE:=fun σ H Q=>ta σ H fun x H1=>∃ c,x=.bl c∧if c=true then tb σ H1 Q else Q (.bl false) H1
def tOrV (ta tb:TE):TE:=fun σ H Q=>ta σ H fun x H1=>∃ c,x=.bl c∧if c=true then Q (.bl true) H1 else tb σ H1 Q
def tNotV (ta:TE):TE:=fun σ H Q=>ta σ H fun x H1=>∃ c,x=.bl c∧Q (.bl (!c)) H1
theorem pe_one {op} {t:TE} (h:PE X a t):PE X (.BoolOp op [a] pos) t:=fun pins s σ H Q I hw=>BoolOp_one (h pins s σ H Q I hw)
theorem pe_and (ha:PE X a ta) (hb:PE X (.BoolOp .And (b :: rest) pos) tb):PE X (.BoolOp .And (a :: b :: rest) pos) (tAndV ta tb):=by
  intro pins s σ H Q I h
  refine BoolOp_and (thn (ha pins s σ H _ I h) fun v s1 ⟨x,H1,I1,r1,q1⟩=>?_)
  obtain ⟨c,rfl,q1⟩:=q1
  cases r1
  refine wpAny_truthy_bool ?_
  cases c with
  | true=>exact hb pins s1 σ H1 Q I1 q1
  | false=>exact ⟨.bl false,H1,I1,rfl,q1⟩
theorem pe_or (ha:PE X a ta) (hb:PE X (.BoolOp .Or (b :: rest) pos) tb):PE X (.BoolOp .Or (a :: b :: rest) pos) (tOrV ta tb):=by
  intro pins s σ H Q I h
  refine BoolOp_or (thn (ha pins s σ H _ I h) fun v s1 ⟨x,H1,I1,r1,q1⟩=>?_)
  obtain ⟨c,rfl,q1⟩:=q1
  cases r1
  refine wpAny_truthy_bool ?_
  cases c with
  | false=>exact hb pins s1 σ H1 Q I1 q1
  | true=>exact ⟨.bl true,H1,I1,rfl,q1⟩
theorem pe_not (ha:PE X a ta):PE X (.UnaryOp .Not a pos) (tNotV ta):=by
  intro pins s σ H Q I h
  refine UnaryOp_ (thn (ha pins s σ H _ I h) fun v s1 ⟨x,H1,I1,r1,q1⟩=>?_)
  obtain ⟨c,rfl,q1⟩:=q1
  cases r1
  exact not_of (wpAny_truthy_bool ⟨.bl (!c),H1,I1,rfl,q1⟩)
def tIf (t:TT) (ta tb:TE):TE:=fun σ H Q=>t σ H fun c H1=>if c=true then ta σ H1 Q else tb σ H1 Q
theorem pe_ifExp {c:Expr} (hc:PT X c tA) (ha:PE X a ta) (hb:PE X b tb):PE X (.IfExp c a b pos) (tIf tA ta tb):=by
  intro pins s σ H Q I h
  refine wpAny_IfExp (thn (hc pins s σ H _ I h) fun d s1 ⟨H1,I1,q1⟩=>?_)
  cases d with
  | true=>exact ha pins s1 σ H1 Q I1 q1
  | false=>exact hb pins s1 σ H1 Q I1 q1
end
end L2
namespace L2
open PySem PySem.Spec PyProof.Rows
def SqL (K:PySem.W.Frag) (H:Hp) (a:Addr) (xs:List V):Prop:=
  Rd H a (.lst xs) ∨
    ∃ (o:Obj) (its:Array Value) (n:Nat),K.lookup a=some o∧o.cls=.type "list" ∧ o.dict=none∧o.data=.seq its n∧its.size≤sizeLine∧Vals xs its.toList
def SqT (K:PySem.W.Frag) (H:Hp) (a:Addr) (xs:List V):Prop:=
  Rd H a (.tup xs) ∨
    ∃ (o:Obj) (its:Array Value) (n:Nat),K.lookup a=some o∧o.cls=.type "tuple" ∧ o.data=.seq its n∧its.size≤sizeLine∧Vals xs its.toList
def absV:Value→Option V
  | .none=>some .non
  | .bool b=>some (.bl b)
  | .int i _=>some (.int i)
  | .str x _=>some (.str x)
  | .bytes b _=>some (.byt b)
  | .float b _=>some (.flt b)
  | .ref a=>some (.ref a)
  | .type n=>some (.ty n)
  | _=>none
theorem RelV.abs {x:V} {u:Value} (r:RelV x u):absV u=some x:=by
  cases x with
  | non=>cases r;rfl
  | bl _=>cases r;rfl
  | int _=>obtain ⟨t,rfl⟩:=r;rfl
  | str _=>obtain ⟨t,rfl⟩:=r;rfl
  | byt _=>obtain ⟨t,rfl⟩:=r;rfl
  | flt _=>obtain ⟨t,rfl⟩:=r;rfl
  | ref _=>cases r;rfl
  | ty _=>cases r;rfl
theorem RelV.inj {x y:V} {u:Value} (r:RelV x u) (q:RelV y u):x=y:=Option.some.inj (r.abs.symm.trans q.abs)
theorem Vals.inj:∀ {xs ys:List V} {us:List Value},Vals xs us→Vals ys us→xs=ys
  | _,_,_,.nil,.nil=>rfl
  | _,_,_,.cons r t,.cons r' t'=>by rw [r.inj r',Vals.inj t t']
section
variable {X:Cx} {pins:List (Addr × Obj)} {σ:St} {H:Hp} {s:Shared} {a:Addr} {xs ys:List V}
theorem SqL.of {K:PySem.W.Frag} (h:H a=some (.lst xs)):SqL K H a xs:=.inl (.inl h)
theorem SqT.of {K:PySem.W.Frag} (h:H a=some (.tup xs)):SqT K H a xs:=.inl (.inl h)
theorem Inv.list (I:Inv X pins σ H s) (h:SqL X.K H a xs):∃ its:List Value,Vals xs its∧PlainL s.heap a its.toArray∧xs.length≤sizeLine:=by
  rcases h with h | ⟨o,its,n,hk,hc,hd,hs,hz,r⟩
  · obtain ⟨z,its,n,r,e⟩:=h.ok I.hok
    exact ⟨its,r,⟨_,n,e,rfl,rfl,rfl⟩,z⟩
  · refine ⟨its.toList,r,⟨o,n,I.kIn a o hk,hc,hd,by simpa using hs⟩,?_⟩
    have e:=r.length
    simp only [Array.length_toList] at e
    omega
theorem Inv.tuple (I:Inv X pins σ H s) (h:SqT X.K H a xs):∃ its:List Value,Vals xs its∧IsTup s.heap a its.toArray∧xs.length≤sizeLine:=by
  rcases h with h | ⟨o,its,n,hk,hc,hs,hz,r⟩
  · obtain ⟨z,its,r,p⟩:=h.ok I.hok
    exact ⟨its,r,p,z.1⟩
  · refine ⟨its.toList,r,⟨o,I.kIn a o hk,hc,n,by simpa using hs⟩,?_⟩
    have e:=r.length
    simp only [Array.length_toList] at e
    omega
theorem Inv.list_inj (I:Inv X pins σ H s) (h:SqL X.K H a xs) (h':SqL X.K H a ys):xs=ys:=by
  obtain ⟨its,r,⟨o,n,e,_,_,d⟩,_⟩:=I.list h
  obtain ⟨its',r',⟨o',n',e',_,_,d'⟩,_⟩:=I.list h'
  rw [e] at e';cases e'
  rw [d] at d'
  injection d' with d1 _
  have:its=its':=by simpa using congrArg Array.toList d1
  subst this
  exact r.inj r'
theorem Inv.tuple_inj (I:Inv X pins σ H s) (h:SqT X.K H a xs) (h':SqT X.K H a ys):xs=ys:=by
  obtain ⟨its,r,⟨o,e,_,n,d⟩,_⟩:=I.tuple h
  obtain ⟨its',r',⟨o',e',_,n',d'⟩,_⟩:=I.tuple h'
  rw [e] at e';cases e'
  rw [d] at d'
  injection d' with d1 _
  have:its=its':=by simpa using congrArg Array.toList d1
  subst this
  exact r.inj r'
end
abbrev Cx.wish (X:Cx) (E:Value→Shared→Prop):Cx:={ X with xe:=E }
abbrev Cx.nox (X:Cx):Cx:=X.wish fun _ _=>False
theorem Cx.Ok.wish {X:Cx} (ok:X.Ok) (E:Value→Shared→Prop):(X.wish E).Ok:=
  ⟨ok.mod,ok.kind,ok.glob,ok.blt,ok.above,ok.inj,ok.has,ok.cab,ok.hd,ok.frames,ok.stk,ok.exf,ok.bs,ok.bsz,ok.noex,ok.exfs,ok.funs,ok.frf⟩
theorem Cx.Ok.unwish {X:Cx} {E:Value→Shared→Prop} (ok:(X.wish E).Ok):X.Ok:=
  ⟨ok.mod,ok.kind,ok.glob,ok.blt,ok.above,ok.inj,ok.has,ok.cab,ok.hd,ok.frames,ok.stk,ok.exf,ok.bs,ok.bsz,ok.noex,ok.exfs,ok.funs,ok.frf⟩
section
variable {X:Cx} {pins:List (Addr × Obj)} {σ:St} {H:Hp} {s:Shared} {E:Value→Shared→Prop}
theorem Inv.wish (I:Inv X pins σ H s) (E:Value→Shared→Prop):Inv (X.wish E) pins σ H s:=⟨I.ok.wish E,I.os,I.bare,I.base,I.loc,I.cell,I.free,I.freeC,I.pin,I.hok,I.len⟩
theorem Inv.unwish (I:Inv (X.wish E) pins σ H s):Inv X pins σ H s:=⟨I.ok.unwish,I.os,I.bare,I.base,I.loc,I.cell,I.free,I.freeC,I.pin,I.hok,I.len⟩
theorem SP.unwish {D:Ends} {f:Flow} {s':Shared} (h:SP (X.wish E) pins D f s'):SP X pins D f s':=by
  cases f with
  | next=>obtain ⟨σ',H',I,q⟩:=h;exact ⟨σ',H',I.unwish,q⟩
  | brk=>obtain ⟨σ',H',I,q⟩:=h;exact ⟨σ',H',I.unwish,q⟩
  | cont=>obtain ⟨σ',H',I,q⟩:=h;exact ⟨σ',H',I.unwish,q⟩
  | ret u=>obtain ⟨v,σ',H',I,r,q⟩:=h;exact ⟨v,σ',H',I.unwish,r,q⟩
theorem PSs.nox {st:List Stmt} {t:TS} (h:PSs X.nox st t):PSs X st t:=fun pins s σ H D I hw=>
  wpAny_mono (h pins s σ H D (I.wish _) hw) (fun _ _ q=>q.unwish) fun _ _ z=>False.elim z
end
section
variable {X:Cx} {st:Stmt} {rest:List Stmt} {t u:TS} {e:Expr} {te:TE} {pos:Pos}
def tNext:TS:=fun D σ H=>D.nx σ H
def tSeq (t u:TS):TS:=fun D σ H=>t { D with nx:=u D } σ H
theorem pss_nil:PSs X [] tNext:=fun _ _ σ H _ I h=>wpAny_execs_nil ⟨σ,H,I,h⟩
theorem pss_cons (h1:PS X st t) (h2:PSs X rest u):PSs X (st :: rest) (tSeq t u):=by
  intro pins s σ H D I h
  refine wpAny_execs_cons (thn (h1 pins s σ H { D with nx:=u D } I h) fun f s1 q=>?_)
  cases f with
  | next=>
    obtain ⟨σ',H',I',q⟩:=q
    exact h2 pins s1 σ' H' D I' q
  | ret v=>exact q
  | brk=>exact q
  | cont=>exact q
theorem pss_one (h1:PS X st t):PSs X [st] t:=by
  intro pins s σ H D I h
  refine wpAny_execs_cons (thn (h1 pins s σ H D I h) fun f s1 q=>?_)
  cases f with
  | next=>exact wpAny_execs_nil q
  | ret v=>exact q
  | brk=>exact q
  | cont=>exact q
theorem Inv.quiet {pins:List (Addr × Obj)} {σ:St} {H:Hp} {s:Shared} (I:Inv X pins σ H s):interactive X.env=false:=by simp [interactive,I.ok.kind]
def tDrop (te:TE):TS:=fun D σ H=>te σ H fun _ H1=>D.nx σ H1
theorem ps_expr (he:PE X e te) (hs:swapsWith e none pos.line X.env=pure false:=by rfl):PS X (.Expr e pos) (tDrop te):=by
  intro pins s σ H D I h
  exact wpAny_Expr_any (thn (he pins s σ H _ I h) fun v s1 ⟨x,H1,I1,r1,q1⟩=>⟨σ,H1,I1,q1⟩) I.quiet hs
def tRet (te:TE):TS:=fun D σ H=>te σ H D.rt
theorem ps_ret (he:PE X e te):PS X (.Return (some e) pos) (tRet te):=by
  intro pins s σ H D I h
  exact wpAny_Return_some (thn (he pins s σ H _ I h) fun v s1 ⟨x,H1,I1,r1,q1⟩=>⟨x,σ,H1,I1,r1,q1⟩)
def tIfS (c:TT) (t u:TS):TS:=fun D σ H=>c σ H fun b H1=>if b=true then t D σ H1 else u D σ H1
theorem ps_if {c:Expr} {a b:List Stmt} {tc:TT} (hc:PT X c tc) (ha:PSs X a t) (hb:PSs X b u):PS X (.If c a b pos) (tIfS tc t u):=by
  intro pins s σ H D I h
  refine wpAny_If (thn (hc pins s σ H _ I h) fun d s1 ⟨H1,I1,q1⟩=>?_)
  cases d with
  | true=>exact ha pins s1 σ H1 D I1 q1
  | false=>exact hb pins s1 σ H1 D I1 q1
end
abbrev TG:=V→St→Hp→(St→Hp→Prop)→Prop
abbrev TGs:=List V→St→Hp→(St→Hp→Prop)→Prop
def PG (X:Cx) (target:Expr) (t:TG):Prop:=
  ∀ (pins:List (Addr × Obj)) (s:Shared) (σ:St) (H:Hp) (v:V) (u:Value) (Q:St→Hp→Prop),Inv X pins σ H s→RelV v u→t v σ H Q →
    wpAny (model X.prog X.w) X.A (assign target X.env u) (fun _ s'=>∃ σ' H',Inv X pins σ' H' s'∧Q σ' H') X.xe s
def PGs (X:Cx) (ts:List Expr) (t:TGs):Prop:=
  ∀ (pins:List (Addr × Obj)) (s:Shared) (σ:St) (H:Hp) (vs:List V) (us:List Value) (Q:St→Hp→Prop),Inv X pins σ H s→Vals vs us→t vs σ H Q →
    wpAny (model X.prog X.w) X.A (assignInOrder ((assignEach ts X.env).map (·.2)) us) (fun _ s'=>∃ σ' H',Inv X pins σ' H' s'∧Q σ' H') X.xe s
abbrev TSet:=V→V→V→Hp→(Hp→Prop)→Prop
def PSet (X:Cx) (t:TSet):Prop:=
  ∀ (pins:List (Addr × Obj)) (s:Shared) (σ:St) (H:Hp) (o i v:V) (ov iv u:Value) (Q:Hp→Prop),Inv X pins σ H s→RelV o ov→RelV i iv→RelV v u→t o i v H Q →
    wpAny (model X.prog X.w) X.A (setItem ov iv u) (fun _ s'=>∃ H',Inv X pins σ H' s'∧Q H') X.xe s
section
variable {X:Cx} {pos:Pos}
def gName (i:Nat):TG:=fun v σ H Q=>Q (σ.set i (some v)) H
theorem pg_name {i:Nat} {x:Str} (hN:X.N.Nodup) (hi:X.N[i]?=some x) (hx:Loc X.env.scope x) (hf:X.fn x=true∨X.env.scope.names.lookup x=some .local:=by first | exact .inl rfl | exact .inr rfl | assumption):PG X (.Name x pos) (gName i):=by
  intro pins s σ H v u Q I r h
  exact wpAny_assign_Name (store_ok I hN hi hx r (fun s' I'=>⟨_,H,I',h⟩) hf)
def gNil:TGs:=fun vs σ H Q=>vs=[]∧Q σ H
def gCons (t:TG) (u:TGs):TGs:=fun vs σ H Q=>∃ v r,vs=v :: r∧t v σ H fun σ' H'=>u r σ' H' Q
theorem pgs_nil:PGs X [] gNil:=by
  intro pins s σ H vs us Q I r h
  obtain ⟨e,h⟩:=h
  subst e
  cases r
  exact assignInOrder_nil ⟨σ,H,I,h⟩
theorem pgs_cons {e:Expr} {es:List Expr} {t:TG} {u:TGs} (h1:PG X e t) (h2:PGs X es u)
    (hs:(assignEach (e :: es) X.env).map (·.2)=assign e X.env :: (assignEach es X.env).map (·.2):=by rfl):PGs X (e :: es) (gCons t u):=by
  intro pins s σ H vs us Q I r h
  obtain ⟨v,vr,e1,h⟩:=h
  subst e1
  cases r with
  | cons r rr=>
    rw [hs]
    refine assignInOrder_cons (thn (h1 pins s σ H _ _ _ I r h) fun _ s1 ⟨σ1,H1,I1,q1⟩=>?_)
    exact h2 pins s1 σ1 H1 _ _ Q I1 rr q1
def gTup (K:PySem.W.Frag) (n:Nat) (t:TGs):TG:=fun v σ H Q=>∃ a xs,v=.ref a∧SqT K H a xs∧xs.length=n∧t xs σ H Q
theorem pg_tup {es:List Expr} {k:Nat} {t:TGs} {n:Nat} (hc:X.calm=true) (h:PGs X es t)
    (hn:(assignEach es X.env).length=n:=by rfl) (hst:(assignEach es X.env).findIdx? (·.1)=none:=by rfl):PG X (.Tuple es k pos) (gTup X.K n t):=by
  intro pins s σ H v u Q I r hw
  obtain ⟨a,xs,e1,hq,hl,hw⟩:=hw
  subst e1
  cases r
  obtain ⟨its,rv,ht,hz⟩:=I.tuple hq
  refine assign_Tuple_tuple (I.ok.hd hc) ht (by simp [hn,← hl,rv.length]) hst fun h' hx=>?_
  have I1:Inv X pins σ H { s with heap:=h' }:=I.kept (t':=s.toks) fun b o e=>hx b o (Nat.ne_of_lt (Heap.lt_size e)) e
  exact h pins _ σ H xs _ Q I1 (by simpa using rv) hw
def gSub (to ti:TE) (t:TSet):TG:=fun v σ H Q=>to σ H fun o H1=>ti σ H1 fun i H2=>t o i v H2 fun H3=>Q σ H3
theorem pg_sub {o i:Expr} {to ti:TE} {t:TSet} (ho:PE X o to) (hi:PE X i ti) (hs:PSet X t)
    (ha:∀ v,assign (.Subscript o i pos) X.env v=(do
      let ov ← holding [v] (eval o X.env)
      let iv ← holding [v,ov] (eval i X.env)
      standAt pos
      holding [v,ov,iv] (setItem ov iv v)
      release [v,ov,iv] []):=by intro _;rfl):PG X (.Subscript o i pos) (gSub to ti t):=by
  intro pins s σ H v u Q I r h
  rw [ha]
  refine wpAny_bind (wpAny_holding (thn (ho pins s σ H _ I h) fun ov s1 ⟨x,H1,I1,r1,q1⟩=>?_))
  refine wpAny_bind (wpAny_holding (thn (hi pins s1 σ H1 _ I1 q1) fun iv s2 ⟨y,H2,I2,r2,q2⟩=>?_))
  refine wpAny_bind (wpAny_standAt (wpAny_bind (wpAny_holding (thn (hs pins s2 σ H2 x y v ov iv u _ I2 r1 r2 r q2) fun _ s3 ⟨H3,I3,q3⟩=>?_))))
  exact wpAny_release ⟨σ,H3,I3,q3⟩
def tAsg (te:TE) (g:TG):TS:=fun D σ H=>te σ H fun x H1=>g x σ H1 D.nx
theorem ps_asg {tg e:Expr} {te:TE} {g:TG} (he:PE X e te) (hg:PG X tg g) (hs:swapsWithSole [tg] e pos.line X.env=pure false:=by rfl) (hw:swappedStores [tg] e X.env=pure none:=by rfl)
    (h1:(assignEach [tg] X.env).map (·.2)=[assign tg X.env]:=by rfl):PS X (.Assign [tg] e pos) (tAsg te g):=by
  intro pins s σ H D I h
  refine wpAny_Assign_stores (thn (he pins s σ H _ I h) fun v s1 ⟨x,H1,I1,r1,q1⟩=>?_) hs hw
  rw [h1]
  exact thn (hg pins s1 σ H1 x v _ I1 r1 q1) fun _ s2 q=>q
theorem ps_set {i:Nat} {x:Str} {e:Expr} {te:TE} {pos':Pos} (hN:X.N.Nodup) (hi:X.N[i]?=some x) (hx:Loc X.env.scope x) (he:PE X e te) (hs:swapsWith e (some (.Name x pos')) pos.line X.env=pure false:=by rfl) (hf:X.fn x=true∨X.env.scope.names.lookup x=some .local:=by first | exact .inl rfl | exact .inr rfl | assumption) :
    PS X (.Assign [.Name x pos'] e pos) (tAsg te (gName i)):=by
  intro pins s σ H D I h
  refine wpAny_Assign_Name (thn (he pins s σ H _ I h) fun v s1 ⟨y,H1,I1,r1,q1⟩=>?_) hs
  exact store_ok I1 hN hi hx r1 (fun s2 I2=>⟨_,H1,I2,q1⟩) hf
end
section
variable {X:Cx} {pos:Pos}
end
structure It where
  go:Nat→Hp→Prop
  yld:Nat→Hp→V→Hp→Prop
  stop:Nat→Hp→Prop
def FpOk (X:Cx) (pins:List (Addr × Obj)) (H:Hp) (b:Addr):Prop:=
  H b=none∧b≠X.env.locals∧b ∉ X.fs∧(b∈X.ex∨X.s₀.heap.objs.size≤b)∧(∀ x c,X.env.cells.lookup x=some c→c≠b)∧∀ p∈X.pn++pins,p.1≠b
theorem Inv.fpOk {X:Cx} {pins:List (Addr × Obj)} {σ:St} {H H':Hp} {s:Shared} {b:Addr} (I:Inv X pins σ H s) (hb:s.heap.objs.size≤b) (hn:H' b=none):FpOk X pins H' b:=by
  refine ⟨hn,Nat.ne_of_gt (Nat.lt_of_lt_of_le I.lt hb),I.nofs hb,.inr (Nat.le_trans I.sz hb),fun x c e z=>?_,fun p hp z=>?_⟩
  · obtain ⟨v,q⟩:=I.cell x c e
    exact absurd (Nat.lt_of_lt_of_le q.lt (by rw [z];exact hb)) (Nat.lt_irrefl _)
  · exact absurd (Nat.lt_of_lt_of_le (Heap.lt_size (I.pin p hp).1) (by rw [z];exact hb)) (Nat.lt_irrefl _)
structure Turn (P:Program) (w:World) (K:PySem.W.Frag) (tg:Expr) (J:It) (fp:List Addr) (it:Addr) (tn:Nat→Heap→Prop):Prop where
  mem:it∈fp
  obj:∀ i h,tn i h→∀ b∈fp,∃ o,h.get? b=some o∧∀ v,o.data≠.cell v
  keep:∀ i h h',tn i h→(∀ b∈fp,∀ o,h.get? b=some o→h'.get? b=some o)→tn i h'
  item:∀ (X:Cx),X.prog=P→X.w=w→X.K=K→X.calm=true→∀ (i:Nat) (pins:List (Addr × Obj)) (s:Shared) (σ:St) (H:Hp) (E:Value→Shared→Prop),Inv X pins σ H s→(∀ b∈fp,FpOk X pins H b)→tn i s.heap→J.go i H →
    wpAny (model P w) X.A (pyNext (.ref it)) (fun r s1=>∃ u,r=some u ∧
      wpAny (model P w) X.A (letOwnedTupleGo tg (.ref it) u) (fun _ s2=>∃ x H',Inv X pins σ H' s2∧RelV x u∧J.yld i H x H'∧tn (i+1) s2.heap∧∀ b∈fp,H' b=none) E s1) E s
  done:∀ (X:Cx),X.prog=P→X.w=w→X.K=K→X.calm=true→∀ (i:Nat) (pins:List (Addr × Obj)) (s:Shared) (σ:St) (H:Hp) (E:Value→Shared→Prop),Inv X pins σ H s→(∀ b∈fp,FpOk X pins H b)→tn i s.heap→J.stop i H →
    wpAny (model P w) X.A (pyNext (.ref it)) (fun r s1=>r=none∧Inv X pins σ H s1) E s
  self:∀ (A:Around) (i:Nat) (s:Shared) (Q:Value→Shared→Prop) (E:Value→Shared→Prop),tn i s.heap→Q (.ref it) s→wpAny (model P w) A (pyIter (.ref it)) Q E s
abbrev TI:=St→Hp→(It→Hp→Prop)→Prop
def PIE (X:Cx) (pins:List (Addr × Obj)) (σ:St) (tg:Expr) (R:It→Hp→Prop) (itv:Value) (s2:Shared):Prop:=
  ∃ (it:Addr) (fp:List Addr) (tn:Nat→Heap→Prop) (J:It) (H':Hp),itv=.ref it∧Inv X pins σ H' s2∧Turn X.prog X.w X.K tg J fp it tn∧tn 0 s2.heap∧(∀ b∈fp,FpOk X pins H' b)∧R J H'
def PI (X:Cx) (tg iter:Expr) (wi:TI):Prop:=
  ∀ (pins:List (Addr × Obj)) (s:Shared) (σ:St) (H:Hp) (R:It→Hp→Prop),Inv X pins σ H s→wi σ H R →
    wpAny (model X.prog X.w) X.A (eval iter X.env) (fun v s1=>wpAny (model X.prog X.w) X.A (pyIter v) (PIE X pins σ tg R) X.xe s1) X.xe s
theorem go_of {M:Model} {A:Around} {E:Value→Shared→Prop} {s:Shared} {tg:Expr} {it:Addr} {u:Value} {o:Obj} {n:String} {vs:Array Value} {Q:Unit→Shared→Prop} (ho:s.heap.get? it=some o) (hc:o.cls=.type n) (hd:o.data=.fields vs)
    (hn:["enumerate", "zip", "dict_itemiterator", "dict_reverseitemiterator", "odict_iterator", "itertools.zip_longest", "itertools.pairwise"].contains n=false) (hQ:Q () s):wpAny M A (letOwnedTupleGo tg (.ref it) u) Q E s:=by
  unfold letOwnedTupleGo
  cases tg <;> first
    | exact wpAny_pure hQ
    | (cases u <;> first
        | exact wpAny_pure hQ
        | (refine wpAny_bind (wpAny_load ho ?_)
           rw [hc,hd]
           show wpAny M A (if (["enumerate", "zip", "dict_itemiterator", "dict_reverseitemiterator", "odict_iterator", "itertools.zip_longest", "itertools.pairwise"].contains n && vs[0]? == some (rawInt _))=true then _ else _) Q E s
           rw [if_neg (by intro h;rw [hn,Bool.false_and] at h;cases h)]
           exact wpAny_pure hQ))
def Itl (K:PySem.W.Frag) (a:Addr):It:=
  ⟨fun i H=>∃ xs x,SqL K H a xs∧xs[i]?=some x,fun i H x H'=>H'=H∧∀ xs,SqL K H a xs→xs[i]?=some x,fun i H=>∃ xs,SqL K H a xs∧xs.length≤i⟩
def Itt (K:PySem.W.Frag) (a:Addr):It:=
  ⟨fun i H=>∃ xs x,SqT K H a xs∧xs[i]?=some x,fun i H x H'=>H'=H∧∀ xs,SqT K H a xs→xs[i]?=some x,fun i H=>∃ xs,SqT K H a xs∧xs.length≤i⟩
def Itr (lo:Int) (n:Nat):It:=⟨fun i _=>i < n,fun i H x H'=>H'=H∧x=.int (lo+i),fun i _=>n≤i⟩
theorem turn_list {P:Program} {w:World} {K:PySem.W.Frag} {tg:Expr} (a it:Addr):Turn P w K tg (Itl K a) [it] it (fun i h=>h.IsListIter it a i) where
  mem:=by simp
  obj:=fun i h st b hb=>by
    have e:b=it:=by simpa using hb
    subst e
    obtain ⟨o,e,c,d⟩:=st
    exact ⟨o,e,fun v z=>by rw [d] at z;cases z⟩
  keep:=fun i h h' st k=>st.at fun o e=>k it (by simp) o e
  item:=by
    intro X hP hw hK hc i pins s σ H E I hf st hg
    subst hP hw hK
    obtain ⟨xs,x,hq,hx⟩:=hg
    obtain ⟨its,rv,p,hz⟩:=I.list hq
    obtain ⟨u,hu,ru⟩:=rv.get hx
    obtain ⟨f0,f1,f2,f3,f4,f5⟩:=hf it (by simp)
    refine wpAny_pyNext_list_item st p.isList (x:=u) (by simpa using hu) fun h' st' sb=>?_
    have I1:Inv X pins σ H { s with heap:=h' }:=I.turned (t':=s.toks) (fun b o hb e=>(sb.2 b hb).trans e) f0 f1 f3 f4 f5
    obtain ⟨o,e,c,d⟩:=id st'
    exact ⟨u,rfl,go_of (s:={ s with heap:=h' }) e c d (by decide) ⟨x,H,I1,ru,⟨rfl,fun ys hy=>by rw [I.list_inj hy hq];exact hx⟩,st',fun b hb=>(hf b hb).1⟩⟩
  done:=by
    intro X hP hw hK hc i pins s σ H E I hf st hg
    subst hP hw hK
    obtain ⟨xs,hq,hx⟩:=hg
    obtain ⟨its,rv,p,hz⟩:=I.list hq
    obtain ⟨f0,f1,f2,f3,f4,f5⟩:=hf it (by simp)
    have hl:=rv.length
    exact wpAny_pyNext_list_end (I.ok.hd hc) st p.isList (by simp;omega) fun h' eb=>⟨rfl,I.turned (t':=s.toks) (fun b o hb e=>eb b o hb e) f0 f1 f3 f4 f5⟩
  self:=fun _ _ _ _ _ st h=>wpAny_pyIter_listiter st h
theorem turn_tuple {P:Program} {w:World} {K:PySem.W.Frag} {tg:Expr} (a it:Addr):Turn P w K tg (Itt K a) [it] it (fun i h=>h.IsTupleIter it a i) where
  mem:=by simp
  obj:=fun i h st b hb=>by
    have e:b=it:=by simpa using hb
    subst e
    obtain ⟨o,e,c,d⟩:=st
    exact ⟨o,e,fun v z=>by rw [d] at z;cases z⟩
  keep:=fun i h h' st k=>st.at fun o e=>k it (by simp) o e
  item:=by
    intro X hP hw hK hc i pins s σ H E I hf st hg
    subst hP hw hK
    obtain ⟨xs,x,hq,hx⟩:=hg
    obtain ⟨its,rv,p,hz⟩:=I.tuple hq
    obtain ⟨u,hu,ru⟩:=rv.get hx
    obtain ⟨f0,f1,f2,f3,f4,f5⟩:=hf it (by simp)
    refine wpAny_pyNext_tuple_item st (show s.heap.IsTuple a its.toArray from p) (x:=u) (by simpa using hu) fun h' st' sb=>?_
    have I1:Inv X pins σ H { s with heap:=h' }:=I.turned (t':=s.toks) (fun b o hb e=>(sb.2 b hb).trans e) f0 f1 f3 f4 f5
    obtain ⟨o,e,c,d⟩:=id st'
    exact ⟨u,rfl,go_of (s:={ s with heap:=h' }) e c d (by decide) ⟨x,H,I1,ru,⟨rfl,fun ys hy=>by rw [I.tuple_inj hy hq];exact hx⟩,st',fun b hb=>(hf b hb).1⟩⟩
  done:=by
    intro X hP hw hK hc i pins s σ H E I hf st hg
    subst hP hw hK
    obtain ⟨xs,hq,hx⟩:=hg
    obtain ⟨its,rv,p,hz⟩:=I.tuple hq
    obtain ⟨f0,f1,f2,f3,f4,f5⟩:=hf it (by simp)
    have hl:=rv.length
    exact wpAny_pyNext_tuple_end (I.ok.hd hc) st (show s.heap.IsTuple a its.toArray from p) (by simp;omega) fun h' eb=>⟨rfl,I.turned (t':=s.toks) (fun b o hb e=>eb b o hb e) f0 f1 f3 f4 f5⟩
  self:=fun _ _ _ _ _ st h=>wpAny_pyIter_tupleiter st h
theorem turn_range {P:Program} {w:World} {K:PySem.W.Frag} {tg:Expr} (it:Addr) (lo:Int) (n:Nat):Turn P w K tg (Itr lo n) [it] it (fun i h=>IsRangeIter h it (lo+(i:Nat) * 1) ((n:Int) - (i:Nat)) 1) where
  mem:=by simp
  obj:=fun i h st b hb=>by
    have e:b=it:=by simpa using hb
    subst e
    exact ⟨_,st,fun v z=>by
      have z':Data.fields _=Data.cell v:=z
      cases z'⟩
  keep:=fun i h h' st k=>k it (by simp) _ st
  item:=by
    intro X hP hw hK hc i pins s σ H E I hf st hg
    subst hP hw hK
    obtain ⟨f0,f1,f2,f3,f4,f5⟩:=hf it (by simp)
    have W:=Walks.range (prog:=X.prog) (w:=X.w) (I.ok.hd hc) it lo 1 n
    refine W.item i s _ _ hg st fun v h' tk hv st' kk=>?_
    obtain ⟨t,rfl⟩:=hv
    have I1:Inv X pins σ H { s with heap:=h',toks:=tk }:=I.turned (fun b o hb e=>kk b o (by simpa using hb) e) f0 f1 f3 f4 f5
    refine ⟨_,rfl,go_of (s:={ s with heap:=h',toks:=tk }) (n := "range_iterator") st' rfl rfl (by decide) ⟨.int (lo+i),H,I1,⟨t,?_⟩,⟨rfl,rfl⟩,st',fun b hb=>(hf b hb).1⟩⟩
    rw [Int.mul_one]
  done:=by
    intro X hP hw hK hc i pins s σ H E I hf st hg
    subst hP hw hK
    obtain ⟨f0,f1,f2,f3,f4,f5⟩:=hf it (by simp)
    exact wpAny_pyNext_range_end (I.ok.hd hc) st (by have:n≤i:=hg;omega) fun h' eb=>⟨rfl,I.turned (t':=s.toks) (fun b o hb e=>eb b o hb e) f0 f1 f3 f4 f5⟩
  self:=fun _ _ _ _ _ st h=>wpAny_pyIter_rangeiter st h
end L2
namespace L2
open PySem PySem.Spec PyProof.Rows
section
variable {X:Cx} {tg:Expr}
def iList (K:PySem.W.Frag) (tl:TE):TI:=fun σ H R=>tl σ H fun x H1=>∃ a,x=.ref a∧(∃ xs,SqL K H1 a xs)∧R (Itl K a) H1
def iTup (K:PySem.W.Frag) (tl:TE):TI:=fun σ H R=>tl σ H fun x H1=>∃ a,x=.ref a∧(∃ xs,SqT K H1 a xs)∧R (Itt K a) H1
theorem pi_list {l:Expr} {tl:TE} (hl:PE X l tl):PI X tg l (iList X.K tl):=by
  intro pins s σ H R I h
  refine thn (hl pins s σ H _ I h) fun v s1 ⟨x,H1,I1,r1,q1⟩=>?_
  obtain ⟨a,e,⟨xs,hq⟩,q⟩:=q1
  subst e
  cases r1
  obtain ⟨its,rv,p,hz⟩:=I1.list hq
  refine wpAny_pyIter_list p.isList ?_
  refine ⟨s1.heap.objs.size,[s1.heap.objs.size],_,_,H1,rfl,I1.kept (t':=s1.toks) fun b o e=>Heap.get?_push_of_some _ e,turn_list a _,⟨_,Heap.get?_push_size _ rfl,rfl,rfl⟩,fun b hb=>?_,q⟩
  have e:b=s1.heap.objs.size:=by simpa using hb
  subst e
  exact I1.fpOk (Nat.le_refl _) (I1.hok.fresh (Nat.le_refl _))
theorem pi_tup {l:Expr} {tl:TE} (hl:PE X l tl):PI X tg l (iTup X.K tl):=by
  intro pins s σ H R I h
  refine thn (hl pins s σ H _ I h) fun v s1 ⟨x,H1,I1,r1,q1⟩=>?_
  obtain ⟨a,e,⟨xs,hq⟩,q⟩:=q1
  subst e
  cases r1
  obtain ⟨its,rv,p,hz⟩:=I1.tuple hq
  refine wpAny_pyIter_tuple (show s1.heap.IsTuple a its.toArray from p) ?_
  refine ⟨s1.heap.objs.size,[s1.heap.objs.size],_,_,H1,rfl,I1.kept (t':=s1.toks) fun b o e=>Heap.get?_push_of_some _ e,turn_tuple a _,⟨_,Heap.get?_push_size _ rfl,rfl,rfl⟩,fun b hb=>?_,q⟩
  have e:b=s1.heap.objs.size:=by simpa using hb
  subst e
  exact I1.fpOk (Nat.le_refl _) (I1.hok.fresh (Nat.le_refl _))
theorem range_it {pins:List (Addr × Obj)} {σ:St} {H:Hp} {s:Shared} {R:It→Hp→Prop} {E:Value→Shared→Prop} {lo hi:Int} {t u v:Tok} {tk:Nat} (I:Inv X pins σ H s) (h1:-(2 ^ 62)≤lo) (h2:lo < 2 ^ 62) (h3:-(2 ^ 62)≤hi) (h4:hi < 2 ^ 62)
    (q:R (Itr lo (hi - lo).toNat) H):wpAny (model X.prog X.w) X.A (pyIter (.ref s.heap.objs.size)) (PIE X pins σ tg R) E { s with heap:=s.heap.push { cls:=.type "range", data:=.fields #[.int lo t,.int hi u,.int 1 v] },toks:=tk }:=by
  refine wpAny_pyIter_range (IsRange.new ..) (small_one h1 h2 h3 h4) ?_
  have I1:Inv X pins σ H { s with heap:=s.heap.push { cls:=.type "range", data:=.fields #[.int lo t,.int hi u,.int 1 v] },toks:=tk }:=I.kept fun b o e=>Heap.get?_push_of_some _ e
  refine ⟨(s.heap.push { cls:=.type "range", data:=.fields #[.int lo t,.int hi u,.int 1 v] }).objs.size,[(s.heap.push { cls:=.type "range", data:=.fields #[.int lo t,.int hi u,.int 1 v] }).objs.size],_,_,H,rfl,
    I1.kept (t':=tk) fun b o e=>Heap.get?_push_of_some _ e,turn_range _ lo (hi - lo).toNat,?_,fun b hb=>?_,q⟩
  · have e1:lo+((0:Nat):Int) * 1=lo:=by simp
    have e2:(((hi - lo).toNat:Nat):Int) - ((0:Nat):Int)=Builtin.Range.rangeSize lo hi 1:=by rw [rangeSize_one];split <;> omega
    show IsRangeIter _ _ (lo+((0:Nat):Int) * 1) ((((hi - lo).toNat:Nat):Int) - ((0:Nat):Int)) 1
    rw [e1,e2]
    exact Heap.get?_push_size _ rfl
  · have e:b=(s.heap.push { cls:=.type "range", data:=.fields #[.int lo t,.int hi u,.int 1 v] }).objs.size:=by simpa using hb
    subst e
    exact I1.fpOk (Nat.le_refl _) (I1.hok.fresh (Nat.le_refl _))
def iRng1 (ta:TA):TI:=fun σ H R=>ta σ H fun vs H1=>∃ j:Int,vs=[.int j]∧-(2 ^ 62)≤j∧j < 2 ^ 62∧R (Itr 0 j.toNat) H1
theorem pi_range1 {a:Expr} {ta:TA} {p pos:Pos} (hg:Gl X "range") (hm:X.mg "range" = none) (ha:PA X [a] ta) (hs:starEach [a] X.env=[(false,eval a X.env)]:=by rfl):PI X tg (.Call (.Name "range" p) [a] [] pos) (iRng1 ta):=by
  intro pins s σ H R I h
  refine Call_ (ld_blt I hg hm boot_range (PyProof.Rows.callWith_type1 (thn (ha pos pins s σ H _ I h) fun us s1 ⟨vs,H1,I1,r1,q1⟩=>?_) hs rfl))
  obtain ⟨j,e,q1,q2,q⟩:=q1
  subst e
  cases r1 with
  | cons r rr=>
    cases rr
    obtain ⟨t,rfl⟩:=r
    exact call_range_1 (range_it I1 (by omega) (by omega) q1 q2 (by simpa using q))
def tFor (wi:TI) (g:TG) (tb:TS):TS:=fun D σ H=>wi σ H fun J H1=>∃ W:Nat→Nat→St→Hp→Prop,(∃ m,W 0 m σ H1)∧∀ i m σ H,W i m σ H →
  (J.stop i H∧D.nx σ H)∨(J.go i H∧∃ N:St→Hp→Prop,(∀ σ' H',N σ' H'→∃ m',m' < m∧W (i+1) m' σ' H')∧∀ x H',J.yld i H x H'→g x σ H' fun σ2 H2=>tb { D with nx:=N,ct:=N,bk:=D.nx } σ2 H2)
def pinsAt (fp:List Addr) (h:Heap):List (Addr × Obj):=fp.filterMap fun b=>(h.get? b).map fun o=>(b,o)
theorem mem_pinsAt {fp:List Addr} {h:Heap} {b:Addr} {o:Obj} (hb:b∈fp) (e:h.get? b=some o):(b,o)∈pinsAt fp h:=List.mem_filterMap.mpr ⟨b,hb,by rw [e];rfl⟩
theorem of_pinsAt {fp:List Addr} {h:Heap} {p:Addr × Obj} (hp:p∈pinsAt fp h):p.1∈fp∧h.get? p.1=some p.2:=by
  obtain ⟨b,hb,e⟩:=List.mem_filterMap.mp hp
  cases q:h.get? b with
  | none=>rw [q] at e;cases e
  | some o=>
    rw [q] at e
    have e':(b,o)=p:=Option.some.inj e
    subst e'
    exact ⟨hb,q⟩
theorem Inv.pinned {pins:List (Addr × Obj)} {σ:St} {H:Hp} {s:Shared} {fp:List Addr} (I:Inv X pins σ H s) (hf:∀ b∈fp,FpOk X pins H b) (ho:∀ b∈fp,∃ o,s.heap.get? b=some o∧∀ v,o.data≠.cell v):Inv X (pins++pinsAt fp s.heap) σ H s:=
  I.pins_of fun p hp=>(List.mem_append.mp hp).elim (fun z=>I.pin p (List.mem_append_right _ z)) fun z=>by
    obtain ⟨hb,e⟩:=of_pinsAt z
    obtain ⟨f0,f1,f2,_⟩:=hf p.1 hb
    obtain ⟨o,e',d⟩:=ho p.1 hb
    rw [e] at e';cases e'
    exact ⟨e,f0,f1,f2,d⟩
theorem Inv.unpinned {pins pl:List (Addr × Obj)} {σ:St} {H:Hp} {s:Shared} (I:Inv X (pins++pl) σ H s):Inv X pins σ H s:=I.pins_of fun p hp=>I.pin p (List.mem_append_right _ (List.mem_append_left _ hp))
theorem ps_for {iter:Expr} {body:List Stmt} {wi:TI} {g:TG} {tb:TS} {pos:Pos} (hp:PassesOwn (model X.prog X.w) X.A X.env X.xe) (hc:X.calm=true) (hi:PI X tg iter wi) (hg:PG X tg g) (hb:PSs X body tb)
    (hs:∀ x,foldedSetIterable iter X.env x=pure x:=by intro _;rfl):PS X (.For tg iter body [] pos) (tFor wi g tb):=by
  intro pins s σ H D I h
  refine wpAny_For (thn (hi pins s σ H _ I h) fun v s1 h1=>thn h1 fun itv s2 h2=>?_) hs
  obtain ⟨it,fp,tn,J,H2,e,I2,T,st2,f2,W,⟨m0,w0⟩,turn⟩:=h2
  subst e
  have stat:∀ {H':Hp},(∀ b∈fp,H' b=none)→∀ b∈fp,FpOk X pins H' b:=fun hn b hb=>⟨hn b hb,(f2 b hb).2⟩
  refine codeAny_forLoop_any (fun n s'=>∃ i σ' H',Inv X pins σ' H' s'∧tn i s'.heap∧(∀ b∈fp,H' b=none)∧W i n σ' H') ?_ m0 ⟨0,σ,H2,I2,st2,fun b hb=>(f2 b hb).1,w0⟩
  rintro n s3 ⟨i,σ3,H3,I3,st3,fr3,w3⟩
  rcases turn i n σ3 H3 w3 with ⟨stop,qn⟩ | ⟨go,N,hN,step⟩
  · refine wpAny_passesOwn hp (thn (T.done X rfl rfl rfl hc i pins s3 σ3 H3 X.xe I3 (stat fr3) st3 stop) fun r s4 ⟨hr,I4⟩=>?_)
    subst hr
    exact wpAny_execs_nil ⟨σ3,H3,I4,qn⟩
  · refine wpAny_passesOwn hp (thn (T.item X rfl rfl rfl hc i pins s3 σ3 H3 X.xe I3 (stat fr3) st3 go) fun r s4 ⟨u,hr,h4⟩=>?_)
    subst hr
    refine wpAny_passesOwn hp (thn h4 fun _ s5 ⟨x,H5,I5,r5,y5,st5,fr5⟩=>?_)
    have I5':=I5.pinned (stat fr5) (T.obj _ _ st5)
    refine wpAny_passesOwn hp (thn (hg _ s5 σ3 H5 x u _ I5' r5 (step x H5 y5)) fun _ s6 ⟨σ6,H6,I6,q6⟩=>?_)
    refine wpAny_passesOwn hp (thn (hb _ s6 σ6 H6 _ I6 q6) fun f s7 q7=>?_)
    have again:∀ {σ7:St} {H7:Hp},Inv X (pins++pinsAt fp s5.heap) σ7 H7 s7→N σ7 H7→∃ m,m < n∧∃ i σ' H',Inv X pins σ' H' s7∧tn i s7.heap∧(∀ b∈fp,H' b=none)∧W i m σ' H':=fun {σ7 H7} I7 n7=>by
      obtain ⟨m',hm,w7⟩:=hN σ7 H7 n7
      refine ⟨m',hm,i+1,σ7,H7,I7.unpinned,T.keep _ _ _ st5 fun b hb o e=>(I7.pin (b,o) (List.mem_append_right _ (List.mem_append_right _ (mem_pinsAt hb e)))).1,fun b hb=>?_,w7⟩
      obtain ⟨o,e,d⟩:=T.obj _ _ st5 b hb
      exact (I7.pin (b,o) (List.mem_append_right _ (List.mem_append_right _ (mem_pinsAt hb e)))).2.1
    cases f with
    | next=>obtain ⟨σ7,H7,I7,n7⟩:=q7;exact again I7 n7
    | cont=>obtain ⟨σ7,H7,I7,n7⟩:=q7;exact again I7 n7
    | brk=>obtain ⟨σ7,H7,I7,q7⟩:=q7;exact ⟨σ7,H7,I7.unpinned,q7⟩
    | ret v=>obtain ⟨x7,σ7,H7,I7,r7,q7⟩:=q7;exact ⟨x7,σ7,H7,I7.unpinned,r7,q7⟩
end
theorem for_list {K:PySem.W.Frag} {a:Addr} {xs:List V} {g:TG} {tb:TS} {D:Ends} {σ:St} {H:Hp} (Pv:Nat→St→Hp→Prop) (h0:Pv 0 σ H) (hl:∀ i σ H,i≤xs.length→Pv i σ H→SqL K H a xs)
    (hs:∀ i x σ H,xs[i]?=some x→Pv i σ H→g x σ H fun σ2 H2=>tb { D with nx:=Pv (i+1),ct:=Pv (i+1),bk:=D.nx } σ2 H2) (hd:∀ σ H,Pv xs.length σ H→D.nx σ H) :
    ∃ W:Nat→Nat→St→Hp→Prop,(∃ m,W 0 m σ H)∧∀ i m σ H,W i m σ H →
      ((Itl K a).stop i H∧D.nx σ H)∨((Itl K a).go i H∧∃ N:St→Hp→Prop,(∀ σ' H',N σ' H'→∃ m',m' < m∧W (i+1) m' σ' H')∧∀ x H',(Itl K a).yld i H x H'→g x σ H' fun σ2 H2=>tb { D with nx:=N,ct:=N,bk:=D.nx } σ2 H2):=by
  refine ⟨fun i m σ H=>m=xs.length - i∧i≤xs.length∧Pv i σ H,⟨xs.length,by simp,Nat.zero_le _,h0⟩,?_⟩
  rintro i m σ H ⟨rfl,hi,p⟩
  have q:=hl i σ H hi p
  by_cases hlt:i < xs.length
  · refine .inr ⟨⟨xs,xs[i],q,by simp [hlt]⟩,Pv (i+1),fun σ' H' p'=>⟨xs.length - (i+1),by omega,rfl,hlt,p'⟩,fun x H' y=>?_⟩
    obtain ⟨e,y⟩:=y
    subst e
    exact hs i x σ _ (y xs q) p
  · have e:i=xs.length:=by omega
    subst e
    exact .inl ⟨⟨xs,q,Nat.le_refl _⟩,hd σ H p⟩
theorem for_range {lo:Int} {n:Nat} {g:TG} {tb:TS} {D:Ends} {σ:St} {H:Hp} (Pv:Nat→St→Hp→Prop) (h0:Pv 0 σ H)
    (hs:∀ i σ H,i < n→Pv i σ H→g (.int (lo+i)) σ H fun σ2 H2=>tb { D with nx:=Pv (i+1),ct:=Pv (i+1),bk:=D.nx } σ2 H2) (hd:∀ σ H,Pv n σ H→D.nx σ H) :
    ∃ W:Nat→Nat→St→Hp→Prop,(∃ m,W 0 m σ H)∧∀ i m σ H,W i m σ H →
      ((Itr lo n).stop i H∧D.nx σ H)∨((Itr lo n).go i H∧∃ N:St→Hp→Prop,(∀ σ' H',N σ' H'→∃ m',m' < m∧W (i+1) m' σ' H')∧∀ x H',(Itr lo n).yld i H x H'→g x σ H' fun σ2 H2=>tb { D with nx:=N,ct:=N,bk:=D.nx } σ2 H2):=by
  refine ⟨fun i m σ H=>m=n - i∧i≤n∧Pv i σ H,⟨n,by simp,Nat.zero_le _,h0⟩,?_⟩
  rintro i m σ H ⟨rfl,hi,p⟩
  by_cases hlt:i < n
  · refine .inr ⟨hlt,Pv (i+1),fun σ' H' p'=>⟨n - (i+1),by omega,rfl,hlt,p'⟩,fun x H' y=>?_⟩
    obtain ⟨e,y⟩:=y
    subst e y
    exact hs i σ _ hlt p
  · have e:i=n:=by omega
    subst e
    exact .inl ⟨Nat.le_refl _,hd σ H p⟩
end L2
namespace L2
open PySem PySem.Spec PyProof.Rows
abbrev R2:=V→V→Hp→VK→Prop
def OpR (X:Cx) (f:Value→Value→Sem Value) (r:R2):Prop:=
  ∀ (pins:List (Addr × Obj)) (s:Shared) (σ:St) (H:Hp) (x y:V) (v u:Value) (Q:VK),Inv X pins σ H s→RelV x v→RelV y u→r x y H Q →
    wpAny (model X.prog X.w) X.A (f v u) (EP X pins σ Q) X.xe s
def CallR (X:Cx) (f:Value) (r:List V→Hp→VK→Prop):Prop:=
  ∀ (pins:List (Addr × Obj)) (s:Shared) (σ:St) (H:Hp) (xs:List V) (us:List Value) (Q:VK),Inv X pins σ H s→Vals xs us→r xs H Q →
    wpAny (model X.prog X.w) X.A (call f us) (EP X pins σ Q) X.xe s
def tOp (r:R2) (ta tb:TE):TE:=fun σ H Q=>ta σ H fun x H1=>tb σ H1 fun y H2=>r x y H2 Q
def rI (C:Int→Int→Prop) (g:Int→Int→V):R2:=fun x y H Q=>∃ i j,x=.int i∧y=.int j∧C i j∧Q (g i j) H
def rI0 (g:Int→Int→V):R2:=fun x y H Q=>∃ i j,x=.int i∧y=.int j∧Q (g i j) H
section
variable {X:Cx} {a b c:Expr} {ta tb tc:TE} {pos:Pos}
theorem binT (ha:PE X a ta) (hb:PE X b tb) {pins:List (Addr × Obj)} {s:Shared} {σ:St} {H:Hp} {R:V→V→Hp→Prop} (I:Inv X pins σ H s)
    (h:ta σ H fun x H1=>tb σ H1 fun y H2=>R x y H2) {Q:Value→Shared→Prop} {f:Value→Value→Sem Value}
    (hf:∀ v u s2 x y H2,Inv X pins σ H2 s2→RelV x v→RelV y u→R x y H2→wpAny (model X.prog X.w) X.A (f v u) Q X.xe s2) :
    wpAny (model X.prog X.w) X.A (eval a X.env) (fun v s₁=>wpAny (model X.prog X.w) X.A (eval b X.env) (fun u s₂=>wpAny (model X.prog X.w) X.A (f v u) Q X.xe s₂) X.xe s₁) X.xe s:=by
  refine thn (ha pins s σ H _ I h) fun v s1 ⟨x,H1,I1,r1,q1⟩=>?_
  refine thn (hb pins s1 σ H1 _ I1 q1) fun u s2 ⟨y,H2,I2,r2,q2⟩=>?_
  exact hf v u s2 x y H2 I2 r1 r2 q2
theorem pe_op {op:Operator} {r:R2} (ho:OpR X (binaryOp op) r) (ha:PE X a ta) (hb:PE X b tb):PE X (.BinOp a op b pos) (tOp r ta tb):=by
  intro pins s σ H Q I h
  exact wpAny_BinOp (binT ha hb I h fun v u s2 x y H2 I2 rx ry q=>ho pins s2 σ H2 x y v u Q I2 rx ry q)
theorem opI {f:Value→Value→Sem Value} {C:Int→Int→Prop} {g:Int→Int→Int}
    (rule:∀ (i j:Int) (t u:Tok) (s:Shared) (Q:Value→Shared→Prop) (E:Value→Shared→Prop),C i j→Q (.int (g i j) s.toks) { s with toks:=s.toks+1 }→wpAny (model X.prog X.w) X.A (f (.int i t) (.int j u)) Q E s) :
    OpR X f (rI C fun i j=>.int (g i j)):=by
  intro pins s σ H x y v u Q I rx ry h
  obtain ⟨i,j,rfl,rfl,hc,q⟩:=h
  obtain ⟨t,rfl⟩:=rx
  obtain ⟨t',rfl⟩:=ry
  exact rule i j t t' s _ _ hc ⟨.int (g i j),H,I.tok _,⟨_,rfl⟩,q⟩
theorem opI0 {f:Value→Value→Sem Value} {g:Int→Int→Int}
    (rule:∀ (i j:Int) (t u:Tok) (s:Shared) (Q:Value→Shared→Prop) (E:Value→Shared→Prop),Q (.int (g i j) s.toks) { s with toks:=s.toks+1 }→wpAny (model X.prog X.w) X.A (f (.int i t) (.int j u)) Q E s) :
    OpR X f (rI0 fun i j=>.int (g i j)):=by
  intro pins s σ H x y v u Q I rx ry h
  obtain ⟨i,j,rfl,rfl,q⟩:=h
  obtain ⟨t,rfl⟩:=rx
  obtain ⟨t',rfl⟩:=ry
  exact rule i j t t' s _ _ ⟨.int (g i j),H,I.tok _,⟨_,rfl⟩,q⟩
theorem opB0 {f:Value→Value→Sem Value} {g:Int→Int→Bool}
    (rule:∀ (i j:Int) (t u:Tok) (s:Shared) (Q:Value→Shared→Prop) (E:Value→Shared→Prop),Q (.bool (g i j)) s→wpAny (model X.prog X.w) X.A (f (.int i t) (.int j u)) Q E s) :
    OpR X f (rI0 fun i j=>.bl (g i j)):=by
  intro pins s σ H x y v u Q I rx ry h
  obtain ⟨i,j,rfl,rfl,q⟩:=h
  obtain ⟨t,rfl⟩:=rx
  obtain ⟨t',rfl⟩:=ry
  exact rule i j t t' s _ _ ⟨.bl (g i j),H,I,rfl,q⟩
def CDiv (i j:Int):Prop:=0 < j∧j < 1073741824
def CPow (i j:Int):Prop:=0≤j∧j≤1000000∧i.natAbs < 2 ^ 64
def CMul (i j:Int):Prop:=(-(2 ^ 64) < i∧i < 2 ^ 64)∨(-(2 ^ 64) < j∧j < 2 ^ 64)
theorem CMul.ok {i j:Int} (h:CMul i j):IntMulOk i j:=by
  rcases h with ⟨h1,h2⟩ | ⟨h1,h2⟩
  · exact .of_left (intBits_le_64 h1 h2)
  · exact .of_right (intBits_le_64 h1 h2)
theorem op_add:OpR X (binaryOp .Add) (rI0 fun i j=>.int (i+j)):=opI0 fun _ _ _ _ _ _ _ q=>add_int q
theorem op_sub:OpR X (binaryOp .Sub) (rI0 fun i j=>.int (i - j)):=opI0 fun _ _ _ _ _ _ _ q=>sub_int q
theorem op_mul:OpR X (binaryOp .Mult) (rI CMul fun i j=>.int (i * j)):=opI fun _ _ _ _ _ _ _ hc q=>mul_int q hc.ok
theorem op_fdiv:OpR X (binaryOp .FloorDiv) (rI CDiv fun i j=>.int (i / j)):=opI fun i j _ _ _ _ _ hc q=>by
  have h1:(0:Int) < j:=hc.1
  have h2:j < 1073741824:=hc.2
  exact floordiv_int (by omega) (by rw [Int.fdiv_eq_ediv_of_nonneg i (by omega)];exact q) (.inl (PyProof.noPylong_small (by omega)))
theorem op_mod:OpR X (binaryOp .Mod) (rI (fun _ j=>0 < j) fun i j=>.int (i % j)):=opI fun i j _ _ _ _ _ hc q=>by
  have h1:(0:Int) < j:=hc
  exact mod_int' (by omega) (by rw [Int.fmod_eq_emod_of_nonneg i (by omega)];exact q)
theorem op_pow:OpR X (binaryOp .Pow) (rI CPow fun i j=>.int (i ^ j.toNat)):=opI fun _ _ _ _ _ _ _ hc q=>pow_int_small hc.1 hc.2.1 hc.2.2 q
end
def scal:V→V→Bool
  | .non,.non=>true | .non,.int _=>true | .int _,.non=>true | .non,.bl _=>true | .bl _,.non=>true | .non,.str _=>true | .str _,.non=>true
  | .int _,.int _=>true | .bl _,.bl _=>true | .str _,.str _=>true | .byt _,.byt _=>true
  | .int _,.str _=>true | .str _,.int _=>true | .bl _,.str _=>true | .str _,.bl _=>true
  | _,_=>false
def rEq:R2:=fun x y H Q=>scal x y=true∧Q (.bl (decide (x=y))) H
def rNe:R2:=fun x y H Q=>scal x y=true∧Q (.bl (!decide (x=y))) H
theorem dec_int {i j:Int}:decide (V.int i=V.int j)=(i == j):=by
  rw [Bool.eq_iff_iff]
  simp
theorem dec_bl {i j:Bool}:decide (V.bl i=V.bl j)=(i == j):=by
  rw [Bool.eq_iff_iff]
  simp
theorem dec_str {i j:Str}:decide (V.str i=V.str j)=(i == j):=by
  rw [Bool.eq_iff_iff]
  simp
theorem dec_byt {i j:Array UInt8}:decide (V.byt i=V.byt j)=(i.toList == j.toList):=by
  rw [Bool.eq_iff_iff]
  cases i
  cases j
  simp
section
variable {X:Cx} {a b c:Expr} {ta tb tc:TE} {pos:Pos}
theorem fin_bl {pins:List (Addr × Obj)} {σ:St} {H:Hp} {s:Shared} {Q:VK} {k k':Bool} (I:Inv X pins σ H s) (q:Q (.bl k) H) (e:k=k'):EP X pins σ Q (.bool k') s:=by
  subst e
  exact ⟨.bl k,H,I,rfl,q⟩
theorem op_eq:OpR X (compareOp .Eq) rEq:=by
  intro pins s σ H x y v u Q I rx ry h
  obtain ⟨hs,q⟩:=h
  cases x with
  | non=>
    cases rx
    cases y with
    | non=>cases ry;exact PySem.EqNone.eq_none_none (fin_bl I q (by simp))
    | bl j=>cases ry;exact PySem.EqNone.eq_none_bool (fin_bl I q (by simp))
    | int j=>obtain ⟨t',rfl⟩:=ry;exact PySem.EqNone.eq_none_int (fin_bl I q (by simp))
    | str j=>obtain ⟨t',rfl⟩:=ry;exact PySem.EqNone.eq_none_str (fin_bl I q (by simp))
    | _=>exact absurd (show false=true from hs) Bool.false_ne_true
  | bl i=>
    cases rx
    cases y with
    | non=>cases ry;exact PySem.EqNone.eq_bool_none (fin_bl I q (by simp))
    | bl j=>cases ry;exact eq_bool (fin_bl I q dec_bl)
    | str j=>obtain ⟨t',rfl⟩:=ry;exact PySem.EqMixed.eq_bool_str (fin_bl I q (by simp))
    | _=>exact absurd (show false=true from hs) Bool.false_ne_true
  | int i=>
    obtain ⟨t,rfl⟩:=rx
    cases y with
    | non=>cases ry;exact PySem.EqNone.eq_int_none (fin_bl I q (by simp))
    | int j=>obtain ⟨t',rfl⟩:=ry;exact eq_int (fin_bl I q dec_int)
    | str j=>obtain ⟨t',rfl⟩:=ry;exact PySem.EqMixed.eq_int_str (fin_bl I q (by simp))
    | _=>exact absurd (show false=true from hs) Bool.false_ne_true
  | str i=>
    obtain ⟨t,rfl⟩:=rx
    cases y with
    | non=>cases ry;exact PySem.EqNone.eq_str_none (fin_bl I q (by simp))
    | bl j=>cases ry;exact PySem.EqMixed.eq_str_bool (fin_bl I q (by simp))
    | int j=>obtain ⟨t',rfl⟩:=ry;exact PySem.EqMixed.eq_str_int (fin_bl I q (by simp))
    | str j=>obtain ⟨t',rfl⟩:=ry;exact eq_str (fin_bl I q dec_str)
    | _=>exact absurd (show false=true from hs) Bool.false_ne_true
  | byt i=>
    obtain ⟨t,rfl⟩:=rx
    cases y with
    | byt j=>obtain ⟨t',rfl⟩:=ry;exact PySem.W.eq_bytes (fin_bl I q dec_byt)
    | _=>exact absurd (show false=true from hs) Bool.false_ne_true
  | _=>cases y <;> exact absurd (show false=true from hs) Bool.false_ne_true
theorem op_ne:OpR X (compareOp .NotEq) rNe:=by
  intro pins s σ H x y v u Q I rx ry h
  obtain ⟨hs,q⟩:=h
  cases x with
  | non=>
    cases rx
    cases y with
    | non=>cases ry;exact PySem.EqNone.ne_none_none (fin_bl I q (by simp))
    | bl j=>cases ry;exact PySem.EqNone.ne_none_bool (fin_bl I q (by simp))
    | int j=>obtain ⟨t',rfl⟩:=ry;exact PySem.EqNone.ne_none_int (fin_bl I q (by simp))
    | str j=>obtain ⟨t',rfl⟩:=ry;exact PySem.EqNone.ne_none_str (fin_bl I q (by simp))
    | _=>exact absurd (show false=true from hs) Bool.false_ne_true
  | bl i=>
    cases rx
    cases y with
    | non=>cases ry;exact PySem.EqNone.ne_bool_none (fin_bl I q (by simp))
    | bl j=>cases ry;exact ne_bool (fin_bl I q (congrArg not dec_bl))
    | str j=>obtain ⟨t',rfl⟩:=ry;exact PySem.EqMixed.ne_bool_str (fin_bl I q (by simp))
    | _=>exact absurd (show false=true from hs) Bool.false_ne_true
  | int i=>
    obtain ⟨t,rfl⟩:=rx
    cases y with
    | non=>cases ry;exact PySem.EqNone.ne_int_none (fin_bl I q (by simp))
    | int j=>obtain ⟨t',rfl⟩:=ry;exact ne_int (fin_bl I q (congrArg not dec_int))
    | str j=>obtain ⟨t',rfl⟩:=ry;exact PySem.EqMixed.ne_int_str (fin_bl I q (by simp))
    | _=>exact absurd (show false=true from hs) Bool.false_ne_true
  | str i=>
    obtain ⟨t,rfl⟩:=rx
    cases y with
    | non=>cases ry;exact PySem.EqNone.ne_str_none (fin_bl I q (by simp))
    | bl j=>cases ry;exact PySem.EqMixed.ne_str_bool (fin_bl I q (by simp))
    | int j=>obtain ⟨t',rfl⟩:=ry;exact PySem.EqMixed.ne_str_int (fin_bl I q (by simp))
    | str j=>obtain ⟨t',rfl⟩:=ry;exact ne_str (fin_bl I q (congrArg not dec_str))
    | _=>exact absurd (show false=true from hs) Bool.false_ne_true
  | byt i=>
    obtain ⟨t,rfl⟩:=rx
    cases y with
    | byt j=>obtain ⟨t',rfl⟩:=ry;exact PySem.W.ne_bytes (fin_bl I q (congrArg not dec_byt))
    | _=>exact absurd (show false=true from hs) Bool.false_ne_true
  | _=>cases y <;> exact absurd (show false=true from hs) Bool.false_ne_true
theorem op_lt:OpR X (compareOp .Lt) (rI0 fun i j=>.bl (decide (i < j))):=opB0 fun _ _ _ _ _ _ _ q=>lt_int q
theorem op_le:OpR X (compareOp .LtE) (rI0 fun i j=>.bl (decide (i≤j))):=opB0 fun _ _ _ _ _ _ _ q=>le_int q
theorem op_gt:OpR X (compareOp .Gt) (rI0 fun i j=>.bl (decide (j < i))):=opB0 fun _ _ _ _ _ _ _ q=>gt_int q
theorem op_ge:OpR X (compareOp .GtE) (rI0 fun i j=>.bl (decide (j≤i))):=opB0 fun _ _ _ _ _ _ _ q=>ge_int q
theorem op_in_str:OpR X (compareOp .In) (fun x y H Q=>∃ i j,x=.str i∧y=.str j∧Q (.bl (!(Builtin.Str.occurrences j i 0 j.length 1).isEmpty)) H):=by
  intro pins s σ H x y v u Q I rx ry h
  obtain ⟨i,j,rfl,rfl,q⟩:=h
  obtain ⟨t,rfl⟩:=rx
  obtain ⟨t',rfl⟩:=ry
  exact in_str (fin_bl I q rfl)
theorem op_isN:OpR X (compareOp .Is) (fun x y H Q=>y=.non∧Q (.bl (decide (x=.non))) H):=by
  intro pins s σ H x y v u Q I rx ry h
  obtain ⟨rfl,q⟩:=h
  cases ry
  refine is_none_gen (fin_bl I q ?_)
  cases x <;> first
    | (cases rx;rfl)
    | (obtain ⟨t,rfl⟩:=rx;rfl)
theorem op_notin_str:OpR X (compareOp .NotIn) (fun x y H Q=>∃ i j,x=.str i∧y=.str j∧Q (.bl (!(!(Builtin.Str.occurrences j i 0 j.length 1).isEmpty))) H):=by
  intro pins s σ H x y v u Q I rx ry h
  obtain ⟨i,j,rfl,rfl,q⟩:=h
  obtain ⟨t,rfl⟩:=rx
  obtain ⟨t',rfl⟩:=ry
  exact notIn_str (fin_bl I q rfl)
theorem nomark (b:Expr) {op:CmpOp} (h:op≠.In:=by decide) (h2:op≠.NotIn:=by decide):behindInMarks op b=false:=by
  have e1:(op == CmpOp.In)=false:=by cases op <;> first | rfl | exact absurd rfl h
  have e2:(op == CmpOp.NotIn)=false:=by cases op <;> first | rfl | exact absurd rfl h2
  cases b <;> simp [behindInMarks,e1,e2]
theorem pe_cmpR {op:CmpOp} {r:R2} (ho:OpR X (compareOp op) r) (ha:PE X a ta) (hb:PE X b tb) (hm:behindInMarks op b=false):PE X (.Compare a [op] [b] pos) (tOp r ta tb):=by
  intro pins s σ H Q I h
  exact wpAny_Compare1 (binT ha hb I h fun v u s2 x y H2 I2 rx ry q=>ho pins s2 σ H2 x y v u Q I2 rx ry q) hm
def tTest (t:TE):TT:=fun σ H Q=>t σ H fun x H'=>∃ k,x=.bl k∧Q k H'
theorem pt_cmpR {op:CmpOp} {r:R2} (ho:OpR X (compareOp op) r) (ha:PE X a ta) (hb:PE X b tb) (hm:behindInMarks op b=false):PT X (.Compare a [op] [b] pos) (tTest (tOp r ta tb)):=by
  intro pins s σ H Q I h
  refine wpAny_isTrue_Compare1 (thn (ha pins s σ H _ I h) fun v s1 ⟨x,H1,I1,r1,q1⟩=>thn (hb pins s1 σ H1 _ I1 q1) fun u s2 ⟨y,H2,I2,r2,q2⟩=>
    thn (ho pins s2 σ H2 x y v u _ I2 r1 r2 q2) fun c s3 ⟨z,H3,I3,r3,k,e,q3⟩=>?_) hm
  subst e
  cases r3
  exact wpAny_truthy_bool ⟨H3,I3,q3⟩
def tChain (r r':R2) (ta tb tc:TE):TE:=fun σ H Q=>ta σ H fun x H1=>tb σ H1 fun y H2=>r x y H2 fun z H3=>∃ k,z=.bl k ∧
  (if k=true then tc σ H3 fun w' H4=>r' y w' H4 Q else Q (.bl false) H3)
theorem pe_chain {op op':CmpOp} {r r':R2} (ho:OpR X (compareOp op) r) (ho':OpR X (compareOp op') r') (ha:PE X a ta) (hb:PE X b tb) (hc:PE X c tc)
    (hm:lastMarks [op,op'] [b,c]=false:=by with_unfolding_all rfl):PE X (.Compare a [op,op'] [b,c] pos) (tChain r r' ta tb tc):=by
  intro pins s σ H Q I h
  refine Compare_chain (thn (ha pins s σ H _ I h) fun v s1 ⟨x,H1,I1,r1,q1⟩=>chain_link (thn (hb pins s1 σ H1 _ I1 q1) fun u s2 ⟨y,H2,I2,r2,q2⟩=>
    thn (ho pins s2 σ H2 x y v u _ I2 r1 r2 q2) fun d s3 ⟨z,H3,I3,r3,k,e,q3⟩=>?_)) hm
  subst e
  cases r3
  refine wpAny_truthy_bool ?_
  cases k with
  | false=>exact ite_ff ⟨.bl false,H3,I3,rfl,q3⟩
  | true=>exact ite_tt (chain_last (thn (hc pins s3 σ H3 _ I3 q3) fun w' s4 ⟨z',H4,I4,r4,q4⟩=>ho' pins s4 σ H4 y z' u w' Q I4 r2 r4 q4))
theorem pt_chain {op op':CmpOp} {r r':R2} (ho:OpR X (compareOp op) r) (ho':OpR X (compareOp op') r') (ha:PE X a ta) (hb:PE X b tb) (hc:PE X c tc)
    (hm:lastMarks [op,op'] [b,c]=false:=by with_unfolding_all rfl):PT X (.Compare a [op,op'] [b,c] pos) (tTest (tChain r r' ta tb tc)):=by
  intro pins s σ H Q I h
  refine isTrue_chain (thn (ha pins s σ H _ I h) fun v s1 ⟨x,H1,I1,r1,q1⟩=>test_link (thn (hb pins s1 σ H1 _ I1 q1) fun u s2 ⟨y,H2,I2,r2,q2⟩=>
    thn (ho pins s2 σ H2 x y v u _ I2 r1 r2 q2) fun d s3 ⟨z,H3,I3,r3,k,e,q3⟩=>?_)) hm
  subst e
  cases r3
  refine wpAny_truthy_bool ?_
  cases k with
  | false=>
    obtain ⟨k',e',q'⟩:=q3
    cases e'
    exact ite_ff ⟨H3,I3,q'⟩
  | true=>
    refine ite_tt (test_last (thn (hc pins s3 σ H3 _ I3 q3) fun w' s4 ⟨z',H4,I4,r4,q4⟩=>thn (ho' pins s4 σ H4 y z' u w' _ I4 r2 r4 q4) fun d' s5 ⟨z2,H5,I5,r5,k2,e2,q5⟩=>?_))
    subst e2
    cases r5
    exact wpAny_truthy_bool ⟨H5,I5,q5⟩
theorem line63:(sizeLine:Nat) < 2 ^ 63:=by rw [sizeLine_eq];decide
theorem op_add_str:OpR X (binaryOp .Add) (fun x y H Q=>∃ i j,x=.str i∧y=.str j∧i.length+j.length≤sizeLine∧Q (.str (i++j)) H):=by
  intro pins s σ H x y v u Q I rx ry h
  obtain ⟨i,j,rfl,rfl,hz,q⟩:=h
  obtain ⟨t,rfl⟩:=rx
  obtain ⟨t',rfl⟩:=ry
  exact add_str (fun t' tk=>⟨.str (i++j),H,I.tok _,⟨_,rfl⟩,q⟩) hz
theorem vals1 {x:V} {us:List Value} (r:Vals [x] us):∃ u,us=[u]∧RelV x u:=by
  cases r with
  | cons r1 r2=>cases r2;exact ⟨_,rfl,r1⟩
theorem vals2 {x y:V} {us:List Value} (r:Vals [x,y] us):∃ u w',us=[u,w']∧RelV x u∧RelV y w':=by
  cases r with
  | cons r1 r2=>
    cases r2 with
    | cons r3 r4=>cases r4;exact ⟨_,_,rfl,r1,r3⟩
theorem call_max2 (hc:X.calm=true):CallR X (.builtin "max") (fun xs H Q=>∃ i j,xs=[.int i,.int j]∧Q (.int (if j > i then j else i)) H):=by
  intro pins s σ H xs us Q I r h
  obtain ⟨i,j,rfl,q⟩:=h
  obtain ⟨u,w',rfl,⟨t,rfl⟩,⟨t',rfl⟩⟩:=vals2 r
  refine max_two_ints (I.ok.hd hc) fun h' tk k=>⟨_,H,I.kept k,?_,q⟩
  by_cases hj:j > i
  · rw [if_pos hj,if_pos hj];exact ⟨_,rfl⟩
  · rw [if_neg hj,if_neg hj];exact ⟨_,rfl⟩
theorem call_min2 (hc:X.calm=true):CallR X (.builtin "min") (fun xs H Q=>∃ i j,xs=[.int i,.int j]∧Q (.int (if j < i then j else i)) H):=by
  intro pins s σ H xs us Q I r h
  obtain ⟨i,j,rfl,q⟩:=h
  obtain ⟨u,w',rfl,⟨t,rfl⟩,⟨t',rfl⟩⟩:=vals2 r
  refine min_two_ints (I.ok.hd hc) fun h' tk k=>⟨_,H,I.kept k,?_,q⟩
  by_cases hj:j < i
  · rw [if_pos hj,if_pos hj];exact ⟨_,rfl⟩
  · rw [if_neg hj,if_neg hj];exact ⟨_,rfl⟩
theorem call_str_int:CallR X (.type "str") (fun xs H Q=>∃ i,xs=[.int i]∧i.natAbs.log2 < 1920∧Q (.str (toString i)) H):=by
  intro pins s σ H xs us Q I r h
  obtain ⟨i,rfl,hz,q⟩:=h
  obtain ⟨u,rfl,t,rfl⟩:=vals1 r
  exact PySem.P.str_of_int hz ⟨.str _,H,I.tok _,⟨_,rfl⟩,q⟩
end
end L2
namespace L2
open PySem PySem.Spec PyProof.Rows
structure ObjM (h:Heap) (x dx C:Addr) (mA:Str→Option Value):Prop where
  obj:h.get? x=some (PySem.W.instObj C dx)
  ns:h.Ns1 dx mA
  ne:dx≠x
theorem lookIn_ns {h:Heap} {dx:Addr} {mA:Str→Option Value} (n:h.Ns1 dx mA):∃ od,h.get? dx=some od∧∀ name,PySem.W.lookIn name od=some (mA name):=by
  obtain ⟨o,es,ep,ho,hd,hk,_,hm⟩:=n
  refine ⟨o,ho,fun name=>?_⟩
  have e:=hm name
  unfold nsFind findBy at e
  rw [← Array.find?_toList] at e
  unfold PySem.W.lookIn
  rw [hd]
  dsimp only
  split
  · rename_i y q
    rw [q] at e
    exact congrArg some e
  · rename_i q
    rw [q] at e
    have a:es.toList.any (·.refKey)=false:=by
      rw [List.any_eq_false]
      intro y hy
      obtain ⟨z,t,hkey⟩:=hk y (Array.mem_toList_iff.mp hy)
      simp [DictEntry.refKey,hkey]
    have a':¬ es.toList.any (·.refKey)=true:=by rw [a];exact Bool.false_ne_true
    rw [if_neg a']
    exact congrArg some e
theorem ObjM.look {h:Heap} {x dx C:Addr} {mA:Str→Option Value} (I:ObjM h x dx C mA):∃ od,PySem.W.InstAt h x (PySem.W.instObj C dx) C (some od)∧∀ name,PySem.W.lookIn name od=some (mA name):=
  let ⟨od,ho,hl⟩:=lookIn_ns I.ns
  ⟨od,⟨I.obj,rfl,rfl,ho⟩,hl⟩
section
variable {prog:Program} {w:World} {A:Around} {E:Value→Shared→Prop} {s:Shared} {K:PySem.W.Frag} {x dx C f:Addr} {mA:Str→Option Value} {name:Str} {v:Value}
end
section
variable {P:Program} {w:World} {H H':Hp} {h h':Heap} {a C dx:Addr} {fs fs':List (Str × V)}
theorem ins_get (hok:HOk P w H h) (e:H a=some (.ins C dx fs)):∃ mA,ObjM h a dx C mA∧(∀ f,RelO (fs.lookup f) (mA f))∧PySem.Within mA (fs.map (·.1))∧fs.length≤1000∧H dx=some (.own a):=by
  obtain ⟨d,z,ne,ob,mA,n,r,q⟩:=(show ObjOk P w H h a (.ins C dx fs) from hok a _ e)
  exact ⟨mA,⟨ob,n,ne⟩,r,q,z,d⟩
end
structure Cls (K:PySem.W.Frag) (C:Addr):Prop where
  pg:PySem.W.plainGet K C Str.empty=true
  hd:PySem.W.hasDictIn K C=true
  po:PySem.W.plainOver K C=true
  sa:PySem.W.findIn K (.ref C) "__setattr__" = some (some (.builtin "object.__setattr__"))
theorem Cls.get {K:PySem.W.Frag} {C:Addr} (c:Cls K C) (f:Str):PySem.W.plainGet K C f=true:=c.pg
section
variable {X:Cx} {pins:List (Addr × Obj)} {σ:St} {H:Hp} {s:Shared} {a C dx:Addr} {fs:List (Str × V)} {f:Str} {v:V} {A:Around} {E:Value→Shared→Prop}
end
section
variable {X:Cx} {o e value:Expr} {f:Str} {pos pos' tpos:Pos} {ta tv:TE}
end
section
variable {X:Cx} {pins:List (Addr × Obj)} {σ:St} {H:Hp} {s:Shared} {A:Around} {E:Value→Shared→Prop} {Q:Value→Shared→Prop} {c:Value} {b:Bool}
inductive TyOf (K:PySem.W.Frag) (H:Hp):V→Value→Prop where
  | non:TyOf K H .non (.type "NoneType")
  | bl (x:Bool):TyOf K H (.bl x) (.type "bool")
  | int (i:Int):TyOf K H (.int i) (.type "int")
  | str (x:Str):TyOf K H (.str x) (.type "str")
  | flt (x:UInt64):TyOf K H (.flt x) (.type "float")
  | lst {a:Addr} {xs:List V} (e:H a=some (.lst xs)):TyOf K H (.ref a) (.type "list")
  | frz {a:Addr} {o:Obj} {xs:List V} (e:H a=some (.frz o (.lst xs))):TyOf K H (.ref a) (.type "list")
  | tup {a:Addr} {xs:List V} (e:H a=some (.tup xs)):TyOf K H (.ref a) (.type "tuple")
  | dK {a:Addr} {kvs:List (Key × V)} (e:H a=some (.dK kvs)):TyOf K H (.ref a) (.type "dict")
  | dT {a:Addr} {kvs:List (List Key × V)} (e:H a=some (.dT kvs)):TyOf K H (.ref a) (.type "dict")
  | ins {a C dx:Addr} {fs:List (Str × V)} (e:H a=some (.ins C dx fs)) (cl:Cls K C) (ha:PySem.W.findIn K (.ref C) "__class__" = some (some (.builtin "object.__class__")))
      (hn:PySem.W.specialIn K (.builtin "object.__class__") "__get__" = some (some (.builtin "getset_descriptor.__get__"))) (htk:PySem.W.takesIn K (.builtin "object.__class__")=some true)
      (hm:PySem.W.mroIn K C (.type "object")=some true):TyOf K H (.ref a) (.ref C)
theorem isinst_ok {x:V} {u t:Value} (I:Inv X pins σ H s) (rx:RelV x u) (ty:TyOf X.K H x t) (e:PySem.W.kitOne X.K t c=some b) (h:∀ tk,Q (.bool b) { s with toks:=tk }) :
    wpAny (model X.prog X.w) A (call (.builtin "isinstance") [u,c]) Q E s:=by
  cases ty with
  | non=>cases (show u=Value.none from rx);exact PySem.W.kia_one PySem.W.kitx_none I.kIn True.intro e (fun z=>nomatch z) h
  | bl y=>cases (show u=Value.bool y from rx);exact PySem.W.kia_one PySem.W.kitx_bool I.kIn True.intro e (fun z=>nomatch z) h
  | int i=>obtain ⟨t,q⟩:=(show ∃ t,u=Value.int i t from rx);cases q;exact PySem.W.kia_one PySem.W.kitx_int I.kIn True.intro e (fun z=>nomatch z) h
  | str y=>obtain ⟨t,q⟩:=(show ∃ t,u=Value.str y t from rx);cases q;exact PySem.W.kia_one PySem.W.kitx_str I.kIn True.intro e (fun z=>nomatch z) h
  | flt y=>obtain ⟨t,q⟩:=(show ∃ t,u=Value.float y t from rx);cases q;exact PySem.W.kia_one PySem.W.kitx_float I.kIn True.intro e (fun z=>nomatch z) h
  | @lst a xs ea=>
    cases (show u=Value.ref a from rx)
    obtain ⟨_,_,n,_,h1⟩:=(show ObjOk X.prog X.w H s.heap a (.lst xs) from I.hok a _ ea)
    exact PySem.W.kia_one PySem.W.kitx_list I.kIn ⟨_,h1,rfl⟩ e (fun z=>nomatch z) h
  | @frz a ob xs ea=>
    cases (show u=Value.ref a from rx)
    obtain ⟨_,_,_,n,_,h1⟩:=(show ObjOk X.prog X.w H s.heap a (.frz ob (.lst xs)) from I.hok a _ ea)
    exact PySem.W.kia_one PySem.W.kitx_list I.kIn ⟨_,h1,rfl⟩ e (fun z=>nomatch z) h
  | @tup a xs ea=>
    cases (show u=Value.ref a from rx)
    obtain ⟨_,_,_,p⟩:=(show ObjOk X.prog X.w H s.heap a (.tup xs) from I.hok a _ ea)
    obtain ⟨o,h1,h2,_⟩:=p
    exact PySem.W.kia_one PySem.W.kitx_tuple I.kIn ⟨o,h1,h2⟩ e (fun z=>nomatch z) h
  | @dK a kvs ea=>
    cases (show u=Value.ref a from rx)
    obtain ⟨_,_,vs,_,p⟩:=(show ObjOk X.prog X.w H s.heap a (.dK kvs) from I.hok a _ ea)
    obtain ⟨o,es,ep,h1,h2,_⟩:=p
    exact PySem.W.kia_one PySem.W.kitx_dict I.kIn ⟨o,h1,h2.1⟩ e (fun z=>nomatch z) h
  | @dT a kvs ea=>
    cases (show u=Value.ref a from rx)
    obtain ⟨_,_,xs,_,o,es,ep,h1,h2,_⟩:=(show ObjOk X.prog X.w H s.heap a (.dT kvs) from I.hok a _ ea)
    exact PySem.W.kia_one PySem.W.kitx_dict I.kIn ⟨o,h1,h2.1⟩ e (fun z=>nomatch z) h
  | @ins a C dx fs ea cl ha hn htk hm=>
    cases (show u=Value.ref a from rx)
    obtain ⟨mA,O,_⟩:=ins_get I.hok ea
    obtain ⟨od,J,_⟩:=O.look
    exact PySem.W.kia_one (PySem.W.kitx_own (cl.get _) cl.hd ha hn htk hm) I.kIn J e (fun z=>nomatch z) h
end
end L2
namespace L2
open PySem PySem.Spec PyProof.Rows
structure Room (k:Nat) (A:Around):Prop where
  hd:A.handled=none
  dp:A.depth+3 * k+5 < recursionLimit
  un:A.units+16 * k+200 < cLine
  gd:A.guards=some []
theorem Room.mono {j k:Nat} {A:Around} (r:Room k A) (h:j≤k):Room j A:=⟨r.hd,by have:=r.dp;omega,by have:=r.un;omega,by first | exact r.gd | (simpa [Around.under,Code.isGuard,guardIds] using r.gd)⟩
theorem Room.deeper {k:Nat} {A:Around} (r:Room (k+1) A) (env:Env):Room k (A.deeper env):=
  ⟨r.hd,by have:=r.dp;show A.depth+1+3 * k+5 < _;omega,by have:=r.un;show A.units+3+16 * k+200 < _;omega,by first | exact r.gd | (simpa [Around.under,Code.isGuard,guardIds] using r.gd)⟩
theorem Room.depth {k:Nat} {A:Around} (r:Room k A):A.depth < recursionLimit:=by have:=r.dp;omega
theorem Room.units0 {k:Nat} {A:Around} (r:Room k A):A.units < cLine:=by have:=r.un;omega
def tNil:TA:=fun _ H Q=>Q [] H
def tCons (ta:TE) (tr:TA):TA:=fun σ H Q=>ta σ H fun x H1=>tr σ H1 fun xs H2=>Q (x :: xs) H2
section
variable {X:Cx} {e:Expr} {es:List Expr} {te:TE} {t:TA} {pos:Pos}
theorem pa_nil:PA X [] tNil:=fun _ _ _ _ H Q I h=>Calls.spliced_nil ⟨[],H,I,.nil,h⟩
theorem pa_cons (ha:PE X e te) (hr:PA X es t) (hs:starEach (e :: es) X.env=(false,eval e X.env) :: starEach es X.env:=by rfl):PA X (e :: es) (tCons te t):=by
  intro pos pins s σ H Q I h
  rw [hs]
  show wpAny _ _ (spliced ((false,eval e X.env) :: backTo pos (starEach es X.env))) _ _ s
  refine Calls.spliced_cons (thn (ha pins s σ H _ I h) fun u s1 ⟨x,H1,I1,r1,q1⟩=>?_)
  exact thn (hr pos pins s1 σ H1 _ I1 q1) fun us s2 ⟨xs,H2,I2,r2,q2⟩=>⟨x :: xs,H2,I2,.cons r1 r2,q2⟩
def tTup (t:TA):TE:=fun σ H Q=>t σ H fun xs H1=>xs.length≤sizeLine∧∀ p,H1 p=none→Q (.ref p) (upd H1 p (.tup xs))
def tLst (t:TA):TE:=fun σ H Q=>t σ H fun xs H1=>xs.length≤sizeLine∧∀ p,H1 p=none→Q (.ref p) (upd H1 p (.lst xs))
theorem pe_tup {x1} (h:PA X es t):PE X (.Tuple es x1 pos) (tTup t):=by
  intro pins s σ H Q I hq
  refine wpAny_Tuple_spliced (thn (h pos pins s σ H _ I hq) fun us s1 ⟨xs,H1,I1,r,z,q⟩=>⟨by rw [← r.length];exact z,?_⟩)
  have hf:H1 s1.heap.objs.size=none:=I1.hok.fresh (Nat.le_refl _)
  refine ⟨.ref s1.heap.objs.size,upd H1 s1.heap.objs.size (.tup xs),I1.laid (t':=s1.toks) (fun b u e=>Heap.get?_push_of_some _ e) (Nat.le_refl _) ?_,rfl,q _ hf⟩
  exact ⟨⟨z,_,Heap.get?_push_size _ rfl,rfl⟩,us,r,⟨_,Heap.get?_push_size _ rfl,rfl,_,rfl⟩⟩
theorem pe_lst (h:PA X es t):PE X (.List es pos) (tLst t):=by
  intro pins s σ H Q I hq
  refine wpAny_List_spliced (thn (h pos pins s σ H _ I hq) fun us s1 ⟨xs,H1,I1,r,z,q⟩=>⟨by rw [← r.length];exact z,?_⟩)
  have hf:H1 s1.heap.objs.size=none:=I1.hok.fresh (Nat.le_refl _)
  refine ⟨.ref s1.heap.objs.size,upd H1 s1.heap.objs.size (.lst xs),I1.laid (t':=s1.toks) (fun b u e=>Heap.get?_push_of_some _ e) (Nat.le_refl _) ?_,rfl,q _ hf⟩
  exact ⟨z,us,0,r,Heap.get?_push_size _ rfl⟩
end
abbrev Sp:=List V→Hp→VK→XK→Prop
abbrev CXT:=List Env→Hp→Shared→XK→Value→Shared→Prop
structure Env0 (P:Program) (w:World) (K:PySem.W.Frag) (mg:Str→Option Value) (base:Heap) (A:Around) (outer:List Env) (s:Shared) (H:Hp):Prop where
  frames:A.frames=some outer
  mod:Mod K mg base
  bs:∀ b o,base.get? b=some o→s.heap.get? b=some o∧H b=none
  bsz:base.objs.size≤s.heap.objs.size
  funs:s.heap.FunFrames base outer
  frf:∀ b∈frs outer,H b=none
  hok:HOk P w H s.heap
  bare:AllBare s.gens
def CE (outer:List Env) (P:Program) (w:World) (H:Hp) (s:Shared) (Q:VK) (u:Value) (s':Shared):Prop:=
  ∃ v H',s'.os=s.os∧AllBare s'.gens∧Un (frs outer) [] H H' s.heap s'.heap∧HOk P w H' s'.heap∧RelV v u∧Q v H'
def CR (CX:CXT) (outer:List Env) (P:Program) (w:World) (H:Hp) (s:Shared) (Q:VK) (E:XK) (r:Result) (s':Shared):Prop:=
  match r with
  | .ok (.ret u)=>CE outer P w H s Q u s'
  | .ok _=>False
  | .error e=>CX outer H s E e s'
structure FnOk (P:Program) (w:World) (K:PySem.W.Frag) (mg:Str→Option Value) (base:Heap) (CX:CXT) (k:Nat) (f:Addr) (fd:FuncData) (ps:List Str) (sp:Sp):Prop where
  len:∀ vs H Q E,sp vs H Q E→vs.length=ps.length
  run:∀ (A:Around) (outer:List Env) (s:Shared) (H:Hp) (args:Args) (us:List Value) (vs:List V) (Q:VK) (E:XK),Room k A→Env0 P w K mg base A outer s H→BindsTo s fd args (ps.zip us)→Vals vs us→sp vs H Q E →
    codeAny (model P w) A (.call (.ref f) args) (CR CX outer P w H s Q E) s
theorem FnOk.mono {P:Program} {w:World} {K:PySem.W.Frag} {mg:Str→Option Value} {base:Heap} {CX:CXT} {j k:Nat} {f:Addr} {fd:FuncData} {ps:List Str} {sp:Sp} (F:FnOk P w K mg base CX j f fd ps sp) (h:j≤k) :
    FnOk P w K mg base CX k f fd ps sp:=⟨F.len,fun A outer s H args us vs Q E hr=>F.run A outer s H args us vs Q E (hr.mono h)⟩
section
variable {X:Cx} {pins:List (Addr × Obj)} {σ:St} {H:Hp} {s s':Shared}
theorem Inv.env0 (I:Inv X pins σ H s):Env0 X.prog X.w X.K X.mg X.base X.A X.stack s H:=
  ⟨I.ok.frames,I.ok.mod,I.bs,Nat.le_trans I.ok.bsz I.sz,I.stack,I.stkFree,I.hok,I.bare⟩
theorem Inv.after {Q:VK} {u:Value} (I:Inv X pins σ H s) (h:CE X.stack X.prog X.w H s Q u s'):EP X pins σ Q u s':=by
  obtain ⟨v,H',os,bare,un,hok,r,q⟩:=h
  obtain ⟨hh,g,d,t,os'⟩:=s'
  obtain rfl:os'=s.os:=os
  exact ⟨v,H',I.call (h':=hh) (g':=g) (d':=d) (t':=t) (ch:=[]) un hok bare (fun b z=>absurd z (by simp)),r,q⟩
end
def tCall (sp:Sp) (dvs:List V) (E:XK) (t:TA):TE:=fun σ H Q=>t σ H fun vs H1=>sp (vs++dvs) H1 Q E
def Binds (K:PySem.W.Frag) (fd:FuncData) (ps:List Str) (ds:List Value):Prop:=
  ∀ (s:Shared) (us:List Value),K.In s.heap→(us++ds).length=ps.length→BindsTo s fd ⟨us,[]⟩ (ps.zip (us++ds))
theorem Binds.all {K:PySem.W.Frag} {fd:FuncData} {ps:List Str} (h:∀ us:List Value,us.length=ps.length→bindArgs fd ⟨us,[]⟩=pure (ps.zip us)):Binds K fd ps []:=fun s us _ hl=>by
  rw [List.append_nil] at hl ⊢
  exact .of_eq (h us hl)
def Passes (CX:CXT) (X:Cx) (E:XK):Prop:=∀ (pins:List (Addr × Obj)) (σ:St) (H:Hp) (s:Shared) (e:Value) (s':Shared),Inv X pins σ H s→CX X.stack H s E e s'→X.xe e s'
section
variable {X:Cx} {CX:CXT} {k:Nat} {f C:Addr} {fd:FuncData} {ps:List Str} {sp:Sp} {dvs:List V} {ds:List Value} {E:XK} {x m:Str} {p pos apos:Pos} {e o:Expr} {es:List Expr} {ta:TE} {t:TA}
theorem run_fn {pins:List (Addr × Obj)} {σ:St} {H:Hp} {s:Shared} {Q:VK} {us:List Value} {vs:List V} (F:FnOk X.prog X.w X.K X.mg X.base CX k f fd ps sp) (hr:Room k X.A) (hb:Binds X.K fd ps ds) (hd:Vals dvs ds) (hx:Passes CX X E)
    (I:Inv X pins σ H s) (r:Vals vs us) (h:sp (vs++dvs) H Q E):wpAny (model X.prog X.w) X.A (call (.ref f) us) (EP X pins σ Q) X.xe s:=by
  have r2:Vals (vs++dvs) (us++ds):=r.append hd
  have hl:(us++ds).length=ps.length:=by rw [← r2.length];exact F.len _ _ _ _ h
  refine wpAny_call (codeAny_mono (F.run X.A X.stack s H ⟨us,[]⟩ (us++ds) (vs++dvs) Q E hr I.env0 (hb s us I.kIn hl) r2 h) fun r s' hq=>?_)
  cases r with
  | error e=>exact hx pins σ H s e s' I hq
  | ok fl=>
    cases fl with
    | ret u=>exact I.after hq
    | next=>exact False.elim hq
    | brk=>exact False.elim hq
    | cont=>exact False.elim hq
theorem pe_call (F:FnOk X.prog X.w X.K X.mg X.base CX k f fd ps sp) (hr:Room k X.A) (hg:Gl X x) (hm:X.mg x=some (.ref f)) (hk:PySem.W.keepIn X.K (.ref f)=true) (hb:Binds X.K fd ps ds) (hd:Vals dvs ds) (hx:Passes CX X E)
    (ha:PA X (e :: es) t) (hdb:(x == ("__debug__" : Str))=false:=by decide) (he:starEach (e :: es) X.env=(false,eval e X.env) :: starEach es X.env:=by rfl) (hpl:(backTo pos (starEach es X.env)).any (·.1)=false:=by rfl) :
    PE X (.Call (.Name x p) (e :: es) [] pos) (tCall sp dvs E t):=by
  intro pins s σ H Q I h
  refine wpAny_Call_Name_kw (ld_glob I hg hm ?_ hdb)
  refine PySem.W.callWith_K (h₀:=X.base) I.ok.mod.kin hk (thn (ha pos pins s σ H _ I h) fun us s1 ⟨vs,H1,I1,r,q⟩=>⟨I1.kIn,?_⟩) he hpl
  exact run_fn F hr hb hd hx I1 r q
end
section
variable {X:Cx} {CX:CXT} {k:Nat} {f C:Addr} {fd:FuncData} {ps ks:List Str} {sp:Sp} {E:XK} {x m:Str} {p pos apos kpos:Pos} {e o:Expr} {es:List Expr} {kws:List Keyword} {te ta:TE} {t tk:TA} {nm:Option Str}
variable {g:List Value→List Value→List Value} {gV:List V→List V→List V}
end
structure FnScope (N P:List Str) (sc:Scope):Prop where
  kind:sc.kind=.function
  co:sc.isCoroutine=false
  gen:sc.isGenerator=false
  nd:N.Nodup
  pre:N.take P.length=P
  par:∀ x∈P,sc.names.lookup x=some .local∨sc.names.lookup x=some .cell
  nofree:∀ y∈sc.names,y.2≠.free
theorem bindL_out {kindOf:Str→Option NameKind} {x:Str}:∀ {binds:List (Str × Value)} {m:Str→Option Value},(∀ v,(x,v) ∉ binds)→bindL kindOf binds m x=m x
  | [],_,_=>rfl
  | (n,v) :: r,m,h=>by
    unfold bindL
    rw [bindL_out fun w hw=>h w (List.mem_cons_of_mem _ hw)]
    split
    · have:x≠n:=by rintro rfl;exact h v List.mem_cons_self
      simp [this]
    · rfl
theorem bindC_out {kindOf:Str→Option NameKind} {x:Str}:∀ {binds:List (Str × Value)} {m:Str→Option Value},(∀ v,(x,v) ∉ binds)→bindC kindOf binds m x=m x
  | [],_,_=>rfl
  | (n,v) :: r,m,h=>by
    unfold bindC
    rw [bindC_out fun w hw=>h w (List.mem_cons_of_mem _ hw)]
    split
    · rfl
    · have:x≠n:=by rintro rfl;exact h v List.mem_cons_self
      simp [this]
theorem bindL_get {kindOf:Str→Option NameKind} {x:Str} {v:Value}:∀ {P:List Str} {vs:List Value} {i:Nat} {m:Str→Option Value},P.Nodup→P[i]?=some x→vs[i]?=some v→kindOf x=some .local →
    bindL kindOf (P.zip vs) m x=some v
  | [],_,_,_,_,h,_,_=>by simp at h
  | _ :: _,[],_,_,_,_,h,_=>by simp at h
  | p :: P,w :: vs,0,m,nd,h1,h2,hk=>by
    simp at h1 h2;subst h1;subst h2
    show bindL kindOf ((p,w) :: P.zip vs) m p=_
    unfold bindL
    rw [bindL_out fun v hv=>(List.nodup_cons.mp nd).1 (List.of_mem_zip hv).1,if_pos hk]
    simp
  | p :: P,w :: vs,i+1,m,nd,h1,h2,hk=>by
    show bindL kindOf ((p,w) :: P.zip vs) m x=_
    unfold bindL
    exact bindL_get (i:=i) (List.nodup_cons.mp nd).2 (by simpa using h1) (by simpa using h2) hk
theorem bindC_get {kindOf:Str→Option NameKind} {x:Str} {v:Value}:∀ {P:List Str} {vs:List Value} {i:Nat} {m:Str→Option Value},P.Nodup→P[i]?=some x→vs[i]?=some v→kindOf x≠some .local →
    bindC kindOf (P.zip vs) m x=some v
  | [],_,_,_,_,h,_,_=>by simp at h
  | _ :: _,[],_,_,_,_,h,_=>by simp at h
  | p :: P,w :: vs,0,m,nd,h1,h2,hk=>by
    simp at h1 h2;subst h1;subst h2
    show bindC kindOf ((p,w) :: P.zip vs) m p=_
    unfold bindC
    rw [bindC_out fun v hv=>(List.nodup_cons.mp nd).1 (List.of_mem_zip hv).1,if_neg hk]
    simp
  | p :: P,w :: vs,i+1,m,nd,h1,h2,hk=>by
    show bindC kindOf ((p,w) :: P.zip vs) m x=_
    unfold bindC
    exact bindC_get (i:=i) (List.nodup_cons.mp nd).2 (by simpa using h1) (by simpa using h2) hk
def start (N:List Str) (vs:List V):St:=vs.map some++List.replicate (N.length - vs.length) none
def cxOf (CX:CXT) (P:Program) (w:World) (K:PySem.W.Frag) (mg:Str→Option Value) (base:Heap) (N:List Str) (qual:Str) (scope:Scope) (f:Addr) (cd:Value) (A:Around) (outer:List Env) (s:Shared) (H:Hp) (E:XK):Cx where
  prog:=P
  w:=w
  K:=K
  mg:=mg
  base:=base
  A:=A.deeper (envOfC qual scope s.heap.objs.size f cd)
  N:=N
  s₀:=s
  H₀:=H
  env:=envOfC qual scope s.heap.objs.size f cd
  outer:=outer
  stack:=envOfC qual scope s.heap.objs.size f cd :: outer
  ex:=[]
  calm:=true
  fn:=fun _=>true
  pn:=[]
  xe:=fun e s'=>wpAny (model P w) (A.deeper (envOfC qual scope s.heap.objs.size f cd)) (leaving (envOfC qual scope s.heap.objs.size f cd) e) (fun _ s''=>CX outer H s E e s'') (fun e' s''=>CX outer H s E e' s'') s'
theorem cell_has {sc:Scope} {n:Nat} {x:Str} (h:sc.names.lookup x=some .cell):∃ c,(cellsFrom n sc.names []).lookup x=some c:=by
  have q:=PySem.W.cellsFrom_some sc.names n [] (.inl h)
  exact Option.isSome_iff_exists.mp q
theorem inv_start {CX:CXT} {P:Program} {w:World} {K:PySem.W.Frag} {mg:Str→Option Value} {base:Heap} {N ps:List Str} {qual:Str} {scope:Scope} {f:Addr} {cd:Value} {A:Around} {outer:List Env} {s s1:Shared} {H:Hp} {E:XK} {us:List Value} {vs:List V}
    (S:FnScope N ps scope) (hd:A.handled=none) (e0:Env0 P w K mg base A outer s H) (hl:vs.length=ps.length) (r:Vals vs us)
    (x:InCallC s s.heap.objs.size (bindL (envOfC qual scope s.heap.objs.size f cd).kindOf (ps.zip us) fun _=>none) (cellsFrom (s.heap.objs.size+1) scope.names []) (bindC (envOfC qual scope s.heap.objs.size f cd).kindOf (ps.zip us) fun _=>none) s1) :
    Inv (cxOf CX P w K mg base N qual scope f cd A outer s H E) [] (start N vs) H s1:=by
  have hpl:ps.length≤N.length:=by have:=congrArg List.length S.pre;rw [List.length_take] at this;omega
  obtain ⟨h1,tk,rfl,hk⟩:=x.done
  have noA:∀ b:Addr,b ∉ (cxOf CX P w K mg base N qual scope f cd A outer s H E).ex:=fun b z=>absurd (show b∈([]:List Addr) from z) (by simp)
  refine ⟨⟨e0.mod,S.kind,rfl,rfl,Nat.le_refl _,fun y z c h1 h2=>?_,fun y hy=>?_,fun y c _ h=>?_,fun _=>hd,Around.frames_deeper e0.frames,.inr ⟨rfl,rfl⟩,fun b z=>absurd z (noA b),e0.bs,e0.bsz,fun b _ _=>noA b,fun b z=>absurd z (noA b),e0.funs,e0.frf⟩,
    rfl,e0.bare,Un.kept hk,⟨_,x.toInCall.ns,fun i y v h1 h2 h3=>?_⟩,fun y c h=>⟨_,x.cell y c h⟩,e0.hok.fresh (Nat.le_refl _),fun y c h=>?_,fun p hp=>absurd (show p∈([]:List (Addr × Obj)) from hp) (by simp),e0.hok.kept hk,?_⟩
  · exact name_of_addr x.apart (PySem.mem_of_lookup h1) (PySem.mem_of_lookup h2)
  · have hy:scope.names.lookup y=some .cell∨scope.names.lookup y=some .free:=hy
    rcases hy with hy | hy
    · exact cell_has hy
    · exact absurd rfl (S.nofree _ (PySem.mem_of_lookup hy))
  · exact Nat.le_of_lt (x.above y c (PySem.mem_of_lookup h))
  · have hi:i < vs.length:=by
      unfold start at h2
      by_cases hi:i < vs.length
      · exact hi
      · rw [List.getElem?_append_right (by simpa using hi)] at h2
        rw [List.getElem?_replicate] at h2
        split at h2 <;> cases h2
    have ha:vs[i]?=some v:=by
      unfold start at h2
      rw [List.getElem?_append_left (by simpa using hi),List.getElem?_map] at h2
      cases e:vs[i]? with
      | none=>rw [e] at h2;cases h2
      | some a=>rw [e] at h2;cases h2;rfl
    obtain ⟨u,hu,rv⟩:=r.get ha
    have hp:ps[i]?=some y:=by
      rw [← S.pre,List.getElem?_take_of_lt (by omega)];exact h1
    have ndP:ps.Nodup:=by rw [← S.pre];exact S.nd.sublist (List.take_sublist _ _)
    refine ⟨u,rv,?_⟩
    rcases S.par y (List.mem_of_getElem? hp) with k | k
    · exact .inl ⟨k,bindL_get ndP hp hu k⟩
    · obtain ⟨c,e⟩:=cell_has (n:=s.heap.objs.size+1) k
      refine .inr ⟨.inl k,c,e,?_⟩
      have q:=x.cell y c e
      rw [bindC_get ndP hp hu (by show scope.names.lookup y≠_;rw [k];decide)] at q
      exact q
  · exact e0.hok.fresh (Nat.le_of_lt (x.above y c (PySem.mem_of_lookup h)))
  · unfold start
    show _=N.length
    rw [List.length_append,List.length_map,List.length_replicate]
    omega
theorem fn_of {CX:CXT} {P:Program} {w:World} {K:PySem.W.Frag} {mg:Str→Option Value} {base:Heap} {k:Nat} {f:Addr} {name qual:Str} {params:Arguments} {body:List Stmt} {scope:Scope} {dV kV doc pm cdv ct oc:Value} {an od:Option Addr}
    {osl:Array (Option Value)} {N ps:List Str} {sp:Sp} (lk:K.lookup f=some ⟨oc,od,.func (PySem.W.fnOf name qual params body scope dV kV doc pm an cdv ct),osl⟩) (hcd:PySem.W.codeIn K cdv qual=true) (S:FnScope N ps scope)
    (len:∀ vs H Q E,sp vs H Q E→vs.length=ps.length)
    (hbody:∀ (A:Around) (outer:List Env) (s:Shared) (H:Hp) (vs:List V) (Q:VK) (E:XK),Room k (A.deeper (envOfC qual scope s.heap.objs.size f cdv))→sp vs H Q E →
      ∃ t,PSs (cxOf CX P w K mg base N qual scope f cdv A outer s H E) body t∧t { nx:=fun _ H'=>Q .non H',rt:=Q } (start N vs) H) :
    FnOk P w K mg base CX (k+1) f (PySem.W.fnOf name qual params body scope dV kV doc pm an cdv ct) ps sp:=by
  refine ⟨len,fun A outer s H args us vs Q E hr e0 hb r hsp=>?_⟩
  have hl:=len _ _ _ _ hsp
  have KX:K.In s.heap:=e0.mod.kin.keeps fun b o e=>(e0.bs b o e).1
  have lim:s.heap.NoLimit:=e0.mod.nolimit.keeps fun b o e=>(e0.bs b o e).1
  have hkind:∀ y∈ps.zip us,scope.names.lookup y.1=some .local∨(scope.names.lookup y.1=some .cell∧((cellsFrom (s.heap.objs.size+1) scope.names []).lookup y.1).isSome=true):=fun ⟨n,v⟩ hy=>by
    rcases S.par n (List.of_mem_zip hy).1 with q | q
    · exact .inl q
    · exact .inr ⟨q,PySem.W.cellsFrom_some _ _ _ (.inl q)⟩
  refine codeAny_call_function hr.depth (KX _ _ lk) rfl S.co S.gen rfl (PySem.W.codeRec_of KX hcd) (hb _ _ _ _ ?_)
  refine wpAny_newFunctionEnv_cells S.kind hkind fun env he s1 x=>?_
  subst he
  refine ⟨lim.keeps x.toInCall.keep,codeAny_func ?_⟩
  obtain ⟨t,ht,hq⟩:=hbody A outer s H vs Q E (hr.deeper _) hsp
  have I:Inv (cxOf CX P w K mg base N qual scope f cdv A outer s H E) [] (start N vs) H s1:=inv_start S hr.hd e0 hl r x
  refine wpAny_mono (ht [] s1 (start N vs) H _ I hq) (fun fl s' hs=>?_) fun e s' hs=>hs
  have fin:∀ {σ':St} {H':Hp} {v:V} {u:Value},Inv (cxOf CX P w K mg base N qual scope f cdv A outer s H E) [] σ' H' s'→RelV v u→Q v H'→CE outer P w H s Q u s':=
    fun {σ' H' v u} J rv q=>⟨v,H',J.os,J.bare,J.base,J.hok,rv,q⟩
  cases fl with
  | ret u=>
    obtain ⟨v,σ',H',J,rv,q⟩:=hs
    exact fin J rv q
  | next=>
    obtain ⟨σ',H',J,q⟩:=hs
    exact fin (v:=V.non) (u:=Value.none) J rfl q
  | brk=>
    obtain ⟨_,_,_,q⟩:=hs
    exact False.elim q
  | cont=>
    obtain ⟨_,_,_,q⟩:=hs
    exact False.elim q
end L2
namespace L2
open PySem PySem.Spec PyProof.Rows
section
variable {X:Cx} {x:Str} {p pos:Pos} {e:Expr} {es:List Expr} {t:TA} {id T:String} {r:List V→Hp→VK→Prop}
def tCB (r:List V→Hp→VK→Prop) (t:TA):TE:=fun σ H Q=>t σ H fun vs H1=>r vs H1 Q
theorem pe_callB (hc:CallR X (.builtin id) r) (hg:Gl X x) (hm:X.mg x=none) (hv:bootBuiltins x=some (.builtin id)) (ha:PA X (e :: es) t) (hn:x ≠ "__name__" := by decide) (hdb:(x == ("__debug__" : Str))=false:=by decide)
    (he:starEach (e :: es) X.env=(false,eval e X.env) :: starEach es X.env:=by rfl) (hpl:(backTo pos (starEach es X.env)).any (·.1)=false:=by rfl):PE X (.Call (.Name x p) (e :: es) [] pos) (tCB r t):=by
  intro pins s σ H Q I h
  refine wpAny_Call_Name_kw (ld_blt I hg hm hv ?_ hn hdb)
  exact PyProof.Rows.callWith_builtin1 (thn (ha pos pins s σ H _ I h) fun us s1 ⟨vs,H1,I1,r1,q1⟩=>hc pins s1 σ H1 vs us Q I1 r1 q1) he hpl
theorem pe_callTy (hc:CallR X (.type T) r) (hg:Gl X x) (hm:X.mg x=none) (hv:bootBuiltins x=some (.type T)) (ha:PA X (e :: es) t) (hn:x ≠ "__name__" := by decide) (hdb:(x == ("__debug__" : Str))=false:=by decide)
    (he:starEach (e :: es) X.env=(false,eval e X.env) :: starEach es X.env:=by rfl) (hpl:(backTo pos (starEach es X.env)).any (·.1)=false:=by rfl):PE X (.Call (.Name x p) (e :: es) [] pos) (tCB r t):=by
  intro pins s σ H Q I h
  refine wpAny_Call_Name_kw (ld_blt I hg hm hv ?_ hn hdb)
  exact PyProof.Rows.callWith_type1 (thn (ha pos pins s σ H _ I h) fun us s1 ⟨vs,H1,I1,r1,q1⟩=>hc pins s1 σ H1 vs us Q I1 r1 q1) he hpl
end
end L2
namespace HT
open PySem PyProof.Rows
section
open PySem.SeqAt
open PySem.AutoSeq1 (wpAny_loadPart')
open PySem.MeetsSeq PySem.MeetsSeq2 PySem.MeetsSeq3
end
section
variable {prog:Program} {w:World} {A:Around} {E:Value→Shared→Prop} {s:Shared}
def sIx (n d:Nat):Option Int→Nat
  | none=>d
  | some v=>if v < 0 then (v+(n:Int)).toNat else min v.toNat n
theorem sIx_none (n d:Nat):sIx n d none=d:=rfl
theorem sIx_nat (n d k:Nat):sIx n d (some (k:Int))=min k n:=by
  show (if (k:Int) < 0 then ((k:Int)+(n:Int)).toNat else min (k:Int).toNat n)=min k n
  rw [if_neg (by omega),Int.toNat_natCast]
theorem sIx_le (n d:Nat) (hd:d≤n) (o:Option Int):sIx n d o≤n:=by
  cases o with
  | none=>exact hd
  | some v=>
    show (if v < 0 then (v+(n:Int)).toNat else min v.toNat n)≤n
    by_cases hv:v < 0
    · rw [if_pos hv];omega
    · rw [if_neg hv];exact Nat.min_le_right _ _
end
end HT
namespace L2
open PySem PySem.Spec PyProof.Rows
abbrev TO:=St→Hp→(Option Int→Hp→Prop)→Prop
def PO (X:Cx) (e:Option Expr) (t:TO):Prop:=
  ∀ (pins:List (Addr × Obj)) (s:Shared) (σ:St) (H:Hp) (Q:Option Int→Hp→Prop),Inv X pins σ H s→t σ H Q →
    wpAny (model X.prog X.w) X.A (evalPart e X.env) (fun u s'=>∃ o H',Inv X pins σ H' s'∧IsPart u o∧Q o H') X.xe s
def tNoPart:TO:=fun _ H Q=>Q none H
def tPart (t:TE):TO:=fun σ H Q=>t σ H fun x H1=>∃ i,x=.int i∧Q (some i) H1
section
variable {X:Cx} {e:Expr} {te:TE} {lo hi:Option Expr} {tl th:TO} {pos p2:Pos}
theorem po_none:PO X none tNoPart:=by
  intro pins s σ H Q I h
  rw [evalPart_none]
  exact wpAny_pure ⟨none,H,I,.none,h⟩
theorem po_some (h:PE X e te):PO X (some e) (tPart te):=by
  intro pins s σ H Q I hw
  rw [evalPart_some]
  refine thn (h pins s σ H _ I hw) fun u s1 ⟨x,H1,I1,r1,q1⟩=>?_
  obtain ⟨i,rfl,q⟩:=q1
  obtain ⟨t,rfl⟩:=r1
  exact ⟨some i,H1,I1,.int i t,q⟩
def SlR (X:Cx) (r:V→Option Int→Option Int→Hp→VK→Prop):Prop:=
  ∀ (pins:List (Addr × Obj)) (s:Shared) (σ:St) (H:Hp) (x:V) (v vl vu:Value) (lo hi:Option Int) (sl:Addr) (Q:VK),Inv X pins σ H s→RelV x v→s.heap.IsSliceOf sl vl vu .none→IsPart vl lo→IsPart vu hi→r x lo hi H Q →
    ∃ T id,typeLookup (.type T) "__getitem__" = pure (some (.builtin id))∧s.TypeIs v T∧wpAny (model X.prog X.w) X.A (getItem v (.ref sl)) (EP X pins σ Q) X.xe s
def tSl (r:V→Option Int→Option Int→Hp→VK→Prop) (te:TE) (tl th:TO):TE:=fun σ H Q=>te σ H fun x H1=>tl σ H1 fun l H2=>th σ H2 fun u H3=>r x l u H3 Q
theorem pe_slice {r:V→Option Int→Option Int→Hp→VK→Prop} (hr:SlR X r) (he:PE X e te) (hl:PO X lo tl) (hu:PO X hi th):PE X (.Subscript e (.Slice lo hi none p2) pos) (tSl r te tl th):=by
  intro pins s σ H Q I h
  refine Subscript_ (thn (he pins s σ H _ I h) fun v s1 ⟨x,H1,I1,r1,q1⟩=>?_)
  refine wpAny_Slice (thn (hl pins s1 σ H1 _ I1 q1) fun vl s2 ⟨l,H2,I2,pl,q2⟩=>thn (hu pins s2 σ H2 _ I2 q2) fun vu s3 ⟨u,H3,I3,pu,q3⟩=>?_)
  rw [evalPart_none]
  refine wpAny_pure ?_
  have I4:Inv X pins σ H3 { s3 with heap:=s3.heap.push { cls:=.type "slice", data:=.fields #[vl,vu,.none] } }:=I3.kept (t':=s3.toks) fun b ob q=>Heap.get?_push_of_some _ q
  obtain ⟨T,id,hT,ht,hg⟩:=hr pins { s3 with heap:=s3.heap.push { cls:=.type "slice", data:=.fields #[vl,vu,.none] } } σ H3 x v vl vu l u s3.heap.objs.size Q I4 r1 (Heap.IsSliceOf.new ..) pl pu q3
  show wpAny (model X.prog X.w) X.A (subscriptTail e (.Slice lo hi none p2) v (.ref s3.heap.objs.size)) (EP X pins σ Q) X.xe { s3 with heap:=s3.heap.push { cls:=.type "slice", data:=.fields #[vl,vu,.none] } }
  exact tail_any (ops:=[.ref s3.heap.objs.size,v]) ht hT hg (by with_unfolding_all rfl)
def cutV (xs:List V) (lo hi:Option Int):List V:=(xs.drop (HT.sIx xs.length 0 lo)).take (HT.sIx xs.length xs.length hi - HT.sIx xs.length 0 lo)
theorem cutV_length (xs:List V) (lo hi:Option Int):(cutV xs lo hi).length≤xs.length:=by
  unfold cutV
  rw [List.length_take,List.length_drop]
  omega
end
end L2
namespace L2
open PySem PySem.Spec PyProof.Rows
def ixN (n:Nat) (i:Int):Option Nat:=if 0≤i then (if i < n then some i.toNat else none) else if -(n:Int)≤i then some (i+n).toNat else none
def atI {α:Type} (xs:List α) (i:Int):Option α:=(ixN xs.length i).bind fun j=>xs[j]?
theorem ixN_seq {n:Nat} {i:Int} {j:Nat} (h:ixN n i=some j):seqIndex? i n=some j∧j < n∧-(n:Int)≤i∧i < n:=by
  unfold ixN at h
  by_cases h0:0≤i
  · rw [if_pos h0] at h
    by_cases h1:i < n
    · rw [if_pos h1] at h
      have e:i.toNat=j:=Option.some.inj h
      exact ⟨by rw [seqIndex_of h0 h1,e],by omega,by omega,h1⟩
    · rw [if_neg h1] at h;cases h
  · rw [if_neg h0] at h
    by_cases h1:-(n:Int)≤i
    · rw [if_pos h1] at h
      have e:(i+n).toNat=j:=Option.some.inj h
      exact ⟨by rw [seqIndex_neg (by omega) h1,e],by omega,h1,by omega⟩
    · rw [if_neg h1] at h;cases h
theorem atI_get {α:Type} {xs:List α} {i:Int} {v:α} (h:atI xs i=some v):∃ j,seqIndex? i xs.length=some j∧xs[j]?=some v∧j < xs.length∧-(xs.length:Int)≤i∧i < xs.length:=by
  unfold atI at h
  cases e:ixN xs.length i with
  | none=>rw [e] at h;cases h
  | some j=>
    rw [e] at h
    obtain ⟨h1,h2,h3,h4⟩:=ixN_seq e
    exact ⟨j,h1,h,h2,h3,h4⟩
theorem atI_nat {α:Type} {xs:List α} {j:Nat} {v:α} (h:xs[j]?=some v):atI xs (j:Int)=some v:=by
  have hj:j < xs.length:=(List.getElem?_eq_some_iff.mp h).1
  have e:ixN xs.length (j:Int)=some j:=by
    unfold ixN
    rw [if_pos (by omega),if_pos (by omega)];simp
  unfold atI;rw [e];exact h
def PlainIx (b:Expr):Prop:=∀ o i,subscripted b false o i=operate [o,i] (getItem o i)
def IxR (X:Cx) (r:R2):Prop:=
  ∀ (value slice:Expr) (pins:List (Addr × Obj)) (s:Shared) (σ:St) (H:Hp) (x y:V) (v u:Value) (Q:VK),Inv X pins σ H s→RelV x v→RelV y u→r x y H Q →
    subscripted slice false v u=operate [v,u] (getItem v u)→wpAny (model X.prog X.w) X.A (subscriptTail value slice v u) (EP X pins σ Q) X.xe s
def MtR (X:Cx) (id:String) (r:V→List V→Hp→VK→Prop):Prop:=
  ∀ (pins:List (Addr × Obj)) (s:Shared) (σ:St) (H:Hp) (x:V) (xs:List V) (v:Value) (us:List Value) (Q:VK),Inv X pins σ H s→RelV x v→Vals xs us→r x xs H Q →
    wpAny (model X.prog X.w) X.A (call (.builtin id) (v :: us)) (EP X pins σ Q) X.xe s
section
variable {X:Cx} {a b:Expr} {ta tb:TE} {pos:Pos}
theorem pe_ix {r:R2} (hr:IxR X r) (ha:PE X a ta) (hb:PE X b tb) (hs:PlainIx b):PE X (.Subscript a b pos) (tOp r ta tb):=by
  intro pins s σ H Q I h
  exact Subscript_ (binT ha hb I h fun v u s2 x y H2 I2 rx ry q=>hr a b pins s2 σ H2 x y v u Q I2 rx ry q (hs _ _))
def rIxL (K:PySem.W.Frag):R2:=fun x y H Q=>∃ p xs i v,x=.ref p∧y=.int i∧SqL K H p xs∧atI xs i=some v∧Q v H
def rIxT (K:PySem.W.Frag):R2:=fun x y H Q=>∃ p xs i v,x=.ref p∧y=.int i∧SqT K H p xs∧atI xs i=some v∧Q v H
def rIxS:R2:=fun x y H Q=>∃ z i c,x=.str z∧y=.int i∧z.length≤sizeLine∧atI z.cps.toList i=some c∧Q (.str ⟨#[c]⟩) H
theorem ix_list:IxR X (rIxL X.K):=by
  intro value slice pins s σ H x y v u Q I rx ry h hs
  obtain ⟨p,xs,i,z,rfl,rfl,hq,he,q⟩:=h
  cases rx
  obtain ⟨t,rfl⟩:=ry
  obtain ⟨its,r,pl,hz⟩:=I.list hq
  obtain ⟨j,h1,h2,h3,h4,h5⟩:=atI_get he
  obtain ⟨w,ew,rw'⟩:=r.get h2
  have hl:=r.length
  have hn:=line63
  have fin:EP X pins σ Q w s:=⟨z,H,I,rw',q⟩
  by_cases h0:0≤i
  · have hj:i.toNat=j:=by
      rw [seqIndex_of h0 h5] at h1
      exact Option.some.inj h1
    exact item_listR pl.isList h0 (by omega) (by rw [hj];simpa using ew) fin hs
  · have hj:(i+(its.toArray.size:Int)).toNat=j:=by
      rw [seqIndex_neg (by omega) h4] at h1
      rw [List.size_toArray,← hl]
      exact Option.some.inj h1
    exact subscriptTail_builtinR (x:=w) pl.isList.typeIs slot_list_getitem.lookup
      (wpAny_getItem_list_neg (Q:=fun r s'=>r=w∧EP X pins σ Q r s') pl.isList (by omega) (by rw [List.size_toArray] <;> omega) (by omega) (by rw [hj];simpa using ew) ⟨rfl,fin⟩) hs
theorem ix_tup:IxR X (rIxT X.K):=by
  intro value slice pins s σ H x y v u Q I rx ry h hs
  obtain ⟨p,xs,i,z,rfl,rfl,hq,he,q⟩:=h
  cases rx
  obtain ⟨t,rfl⟩:=ry
  obtain ⟨its,r,pl,hz⟩:=I.tuple hq
  obtain ⟨j,h1,h2,h3,h4,h5⟩:=atI_get he
  obtain ⟨w,ew,rw'⟩:=r.get h2
  have hl:=r.length
  have hn:=line63
  have fin:EP X pins σ Q w s:=⟨z,H,I,rw',q⟩
  exact subscriptTail_builtinR (x:=w) pl.typeIs slot_tuple_getitem.lookup
    (getItem_tuple (j:=j) (Q:=fun r s'=>r=w∧EP X pins σ Q r s') pl (by omega) (by omega) (by rw [List.size_toArray,← hl];exact h1) (by simpa using ew) ⟨rfl,fin⟩) hs
theorem ix_str:IxR X rIxS:=by
  intro value slice pins s σ H x y v u Q I rx ry h hs
  obtain ⟨z,i,c,rfl,rfl,hz,he,q⟩:=h
  obtain ⟨t,rfl⟩:=rx
  obtain ⟨t',rfl⟩:=ry
  obtain ⟨j,h1,h2,h3,h4,h5⟩:=atI_get he
  have hl:z.cps.toList.length=z.length:=by simp [Str.length]
  rw [hl] at h1 h4 h5
  have hn:=line63
  exact tail_any (typeIs_str s z t) slot_str_getitem.lookup (getItem_str (c:=c) (by
    have e1:decide (i < -(2 ^ 63:Int))=false:=decide_eq_false (by omega)
    have e2:decide (i ≥ 2 ^ 63)=false:=decide_eq_false (by omega)
    rw [e1,e2,Bool.or_false]) (by rw [h1];simpa using h2) ⟨.str ⟨#[c]⟩,H,I.tok _,⟨_,rfl⟩,q⟩) hs
theorem mapSeq_set (its:List Value) (n j:Nat) (u:Value):Obj.mapSeq (·.setIfInBounds j u) { cls:=.type "list", data:=.seq its.toArray n }={ cls:=.type "list", data:=.seq (its.set j u).toArray n }:=by
  simp [Obj.mapSeq]
theorem Inv.lst {pins:List (Addr × Obj)} {σ:St} {H:Hp} {s:Shared} {p:Addr} {xs:List V} (I:Inv X pins σ H s) (h:H p=some (.lst xs)) :
    ∃ (its:List Value) (n:Nat),Vals xs its∧s.heap.get? p=some { cls:=.type "list", data:=.seq its.toArray n }∧xs.length≤sizeLine:=by
  obtain ⟨z,its,n,r,e⟩:=I.hok p _ h
  exact ⟨its,n,r,e,z⟩
theorem Inv.lstUpd {pins:List (Addr × Obj)} {σ:St} {H:Hp} {s:Shared} {p:Addr} {xs ys:List V} {its its':List Value} {n n':Nat} {f:Obj→Obj} (I:Inv X pins σ H s) (h:H p=some (.lst xs))
    (ho:s.heap.get? p=some { cls:=.type "list", data:=.seq its.toArray n }) (hf:f { cls:=.type "list", data:=.seq its.toArray n }={ cls:=.type "list", data:=.seq its'.toArray n' }) (r:Vals ys its') (hz:ys.length≤sizeLine) (t:Nat) :
    Inv X pins σ (upd H p (.lst ys)) { s with heap:=s.heap.update p f,toks:=t }:=by
  have e:(s.heap.update p f).get? p=some { cls:=.type "list", data:=.seq its'.toArray n' }:=by
    rw [Heap.get?_update_self f ho (by rw [hf] <;> rfl),hf]
  refine I.write (x:=p) (e:=p) (by rw [h];trivial) (.inl rfl) (fun b u hb q=>(Heap.get?_update_other _ _ (Ne.symm hb)).trans q) ⟨_,e⟩ ?_
  exact ⟨hz,its',n',r,e⟩
def rSetL:V→V→V→Hp→(Hp→Prop)→Prop:=fun o i v H Q=>∃ p xs k j,o=.ref p∧i=.int k∧H p=some (.lst xs)∧ixN xs.length k=some j∧Q (upd H p (.lst (xs.set j v)))
theorem set_list:PSet X rSetL:=by
  intro pins s σ H o i v ov iv u Q I ro ri rv h
  obtain ⟨p,xs,k,j,rfl,rfl,hp,hj,q⟩:=h
  cases ro
  obtain ⟨t,rfl⟩:=ri
  obtain ⟨its,n,r,ho,hz⟩:=I.lst hp
  obtain ⟨h1,h2,h3,h4⟩:=ixN_seq hj
  have hl:=r.length
  have hn:=line63
  have I':Inv X pins σ (upd H p (.lst (xs.set j v))) { s with heap:=s.heap.update p (Obj.mapSeq (·.setIfInBounds j u)) }:=
    I.lstUpd hp ho (mapSeq_set its n j u) (r.set rv j) (by rw [List.length_set];exact hz) s.toks
  by_cases h0:0≤k
  · have hk:k.toNat=j:=by
      rw [seqIndex_of h0 h4] at h1
      exact Option.some.inj h1
    exact PySem.W.ki_setAt ho h0 (by omega) (by rw [List.size_toArray,← hl];exact h4) (by rw [hk];exact ⟨_,I',q⟩)
  · have hk:(k+(its.toArray.size:Int)).toNat=j:=by
      rw [seqIndex_neg (by omega) h3] at h1
      rw [List.size_toArray,← hl]
      exact Option.some.inj h1
    exact PySem.W.ki_setBack ho (by omega) (by rw [List.size_toArray,← hl];exact h3) (by omega) (by rw [hk];exact ⟨_,I',q⟩)
theorem slice_bounds (lo hi:Option Int) (n:Nat):(sliceBounds lo hi none n).1=((HT.sIx n 0 lo:Nat):Int)∧(sliceBounds lo hi none n).2.1=((HT.sIx n n hi:Nat):Int)∧(sliceBounds lo hi none n).2.2=1:=by
  refine ⟨?_,?_,rfl⟩
  · cases lo with
    | none=>simp [sliceBounds,HT.sIx]
    | some i=>
      simp only [sliceBounds,HT.sIx,Option.getD_none,show (1:Int) > 0 by decide,if_true]
      by_cases h:i < 0
      · simp only [h,if_true] <;> omega
      · simp only [h,if_false] <;> omega
  · cases hi with
    | none=>simp [sliceBounds,HT.sIx]
    | some i=>
      simp only [sliceBounds,HT.sIx,Option.getD_none,show (1:Int) > 0 by decide,if_true]
      by_cases h:i < 0
      · simp only [h,if_true] <;> omega
      · simp only [h,if_false] <;> omega
theorem slicePick_cut (its:List Value) (lo hi:Option Int):slicePick its.toArray lo hi none=((its.drop (HT.sIx its.length 0 lo)).take (HT.sIx its.length its.length hi - HT.sIx its.length 0 lo)).toArray:=by
  obtain ⟨h1,h2,h3⟩:=slice_bounds lo hi its.toArray.size
  unfold slicePick
  rw [h1,h2,h3]
  simp only [sliceRange_one,pick_run,List.size_toArray] <;> rfl
def rSlL (K:PySem.W.Frag):V→Option Int→Option Int→Hp→VK→Prop:=fun x lo hi H Q=>∃ a xs,x=.ref a∧SqL K H a xs∧∀ p,H p=none→Q (.ref p) (upd H p (.lst (cutV xs lo hi)))
theorem sl_list:SlR X (rSlL X.K):=by
  intro pins s σ H x v vl vu lo hi sl Q I rx hs pl pu h
  obtain ⟨a,xs,rfl,hx,q⟩:=h
  cases rx
  obtain ⟨its,r,ht,hz⟩:=I.list hx
  have hlen:=r.length
  refine ⟨"list", _,slot_list_getitem.lookup,ht.isList.typeIs,?_⟩
  refine wpAny_getItem_list_slice ht.isList hs pl pu .none (by simp) ?_ (by rw [List.size_toArray] <;> omega)
  rw [slicePick_cut,← hlen]
  refine ⟨.ref s.heap.objs.size,_,I.laid (t':=s.toks) (o:=.lst (cutV xs lo hi)) (fun b ob q=>Heap.get?_push_of_some _ q) (Nat.le_refl _) ?_,rfl,q _ (I.hok.fresh (Nat.le_refl _))⟩
  exact ⟨Nat.le_trans (cutV_length xs lo hi) hz,_,0,(r.drop (HT.sIx xs.length 0 lo)).take (HT.sIx xs.length xs.length hi - HT.sIx xs.length 0 lo),Heap.get?_push_size _ rfl⟩
def flatV:V→Bool
  | .non=>true
  | .bl _=>true
  | .int _=>true
  | .str _=>true
  | _=>false
def eqV:V→V→Bool
  | .non,.non=>true
  | .bl a,.bl b=>a == b
  | .bl a,.int b=>(if a then 1 else 0) == b
  | .int a,.bl b=>a == (if b then 1 else 0)
  | .int a,.int b=>a == b
  | .str a,.str b=>a == b
  | _,_=>false
theorem eqAt_V {A:Around} {s:Shared} {y x:V} {u v:Value} (ry:RelV y u) (rx:RelV x v) (fy:flatV y=true) (fx:flatV x=true):SeqAt.EqAt A s u v (eqV y x):=by
  cases y with
  | non=>
    cases ry
    cases x with
    | non=>cases rx;exact SeqAt.EqAt.same _
    | bl b=>cases rx;exact SeqAt.EqAt.none_bool b
    | int b=>obtain ⟨t,rfl⟩:=rx;exact SeqAt.EqAt.none_int b t
    | str b=>obtain ⟨t,rfl⟩:=rx;exact SeqAt.EqAt.none_str b t
    | _=>exact absurd (show false=true from fx) Bool.false_ne_true
  | bl a=>
    cases ry
    cases x with
    | non=>cases rx;exact SeqAt.EqAt.bool_none a
    | bl b=>cases rx;exact SeqAt.EqAt.bool_bool a b
    | int b=>obtain ⟨t,rfl⟩:=rx;exact SeqAt.EqAt.bool_int a b t
    | str b=>obtain ⟨t,rfl⟩:=rx;exact SeqAt.EqAt.bool_str a b t
    | _=>exact absurd (show false=true from fx) Bool.false_ne_true
  | int a=>
    obtain ⟨t',rfl⟩:=ry
    cases x with
    | non=>cases rx;exact SeqAt.EqAt.int_none a t'
    | bl b=>cases rx;exact SeqAt.EqAt.int_bool a t' b
    | int b=>obtain ⟨t,rfl⟩:=rx;exact SeqAt.EqAt.int_int a t' b t
    | str b=>obtain ⟨t,rfl⟩:=rx;exact SeqAt.EqAt.int_str a t' b t
    | _=>exact absurd (show false=true from fx) Bool.false_ne_true
  | str a=>
    obtain ⟨t',rfl⟩:=ry
    cases x with
    | non=>cases rx;exact SeqAt.EqAt.str_none a t'
    | bl b=>cases rx;exact SeqAt.EqAt.str_bool a t' b
    | int b=>obtain ⟨t,rfl⟩:=rx;exact SeqAt.EqAt.str_int a t' b t
    | str b=>obtain ⟨t,rfl⟩:=rx;exact SeqAt.EqAt.str_str a t' b t
    | _=>exact absurd (show false=true from fx) Bool.false_ne_true
  | _=>exact absurd (show false=true from fy) Bool.false_ne_true
def eqU (x:V) (u:Value):Bool:=match u with
  | .none=>eqV .non x
  | .bool b=>eqV (.bl b) x
  | .int i _=>eqV (.int i) x
  | .str z _=>eqV (.str z) x
  | _=>false
theorem eqU_of {x y:V} {u:Value} (r:RelV y u) (f:flatV y=true):eqU x u=eqV y x:=by
  cases y with
  | non=>cases r;rfl
  | bl b=>cases r;rfl
  | int i=>obtain ⟨t,rfl⟩:=r;rfl
  | str z=>obtain ⟨t,rfl⟩:=r;rfl
  | _=>exact absurd (show false=true from f) Bool.false_ne_true
theorem any_eqU {x:V}:∀ {xs:List V} {us:List Value},Vals xs us→xs.all flatV=true→us.any (eqU x)=xs.any fun y=>eqV y x
  | _,_,.nil,_=>rfl
  | y :: xs,u :: us,.cons r t,f=>by
    rw [List.all_cons,Bool.and_eq_true] at f
    rw [List.any_cons,List.any_cons,eqU_of r f.1,any_eqU t f.2]
theorem mem_eqAt {A:Around} {s:Shared} {x:V} {v:Value} (rx:RelV x v) (fx:flatV x=true):∀ {xs:List V} {us:List Value},Vals xs us→xs.all flatV=true→∀ u∈us,SeqAt.EqAt A s u v (eqU x u)
  | _,_,.nil,_=>fun u hu=>by cases hu
  | y :: xs,u :: us,.cons r t,f=>fun u' hu=>by
    rw [List.all_cons,Bool.and_eq_true] at f
    rcases List.mem_cons.mp hu with rfl | hu
    · rw [eqU_of r f.1];exact eqAt_V r rx f.1 fx
    · exact mem_eqAt rx fx t f.2 u' hu
def inV (x:V) (xs:List V):Bool:=xs.any fun y=>eqV y x
def rIn (K:PySem.W.Frag) (neg:Bool):R2:=fun x y H Q=>∃ p xs,y=.ref p∧(SqL K H p xs∨SqT K H p xs)∧flatV x=true∧xs.all flatV=true∧Q (.bl (if neg then !inV x xs else inV x xs)) H
theorem op_in_seq:OpR X (compareOp .In) (rIn X.K false):=by
  intro pins s σ H x y v u Q I rx ry h
  obtain ⟨p,xs,rfl,hq,fx,fs,q⟩:=h
  cases ry
  rcases hq with hq | hq
  · obtain ⟨its,r,pl,hz⟩:=I.list hq
    refine SeqAt.in_listAt (eqU x) pl.isList (fun w hw=>mem_eqAt rx fx r fs w (by simpa using hw)) ⟨.bl _,H,I,rfl,?_⟩
    rw [show its.toArray.any (eqU x)=its.any (eqU x) by simp,any_eqU r fs]
    exact q
  · obtain ⟨its,r,pl,hz⟩:=I.tuple hq
    refine SeqAt.in_tupleAt (eqU x) pl (fun w hw=>mem_eqAt rx fx r fs w (by simpa using hw)) ⟨.bl _,H,I,rfl,?_⟩
    rw [show its.toArray.any (eqU x)=its.any (eqU x) by simp,any_eqU r fs]
    exact q
theorem op_notIn_seq:OpR X (compareOp .NotIn) (rIn X.K true):=by
  intro pins s σ H x y v u Q I rx ry h
  obtain ⟨p,xs,rfl,hq,fx,fs,q⟩:=h
  cases ry
  rcases hq with hq | hq
  · obtain ⟨its,r,pl,hz⟩:=I.list hq
    refine SeqAt.notIn_listAt (eqU x) pl.isList (fun w hw=>mem_eqAt rx fx r fs w (by simpa using hw)) ⟨.bl _,H,I,rfl,?_⟩
    rw [show its.toArray.any (eqU x)=its.any (eqU x) by simp,any_eqU r fs]
    exact q
  · obtain ⟨its,r,pl,hz⟩:=I.tuple hq
    refine SeqAt.notIn_tupleAt (eqU x) pl (fun w hw=>mem_eqAt rx fx r fs w (by simpa using hw)) ⟨.bl _,H,I,rfl,?_⟩
    rw [show its.toArray.any (eqU x)=its.any (eqU x) by simp,any_eqU r fs]
    exact q
theorem call_len_seq:CallR X (.builtin "len") (fun xs H Q=>∃ p ys,xs=[.ref p]∧(SqL X.K H p ys∨SqT X.K H p ys)∧Q (.int ys.length) H):=by
  intro pins s σ H xs us Q I r h
  obtain ⟨p,ys,rfl,hq,q⟩:=h
  obtain ⟨u,rfl,rx⟩:=vals1 r
  cases rx
  have hn:=line63
  rcases hq with hq | hq
  · obtain ⟨its,r',pl,hz⟩:=I.list hq
    have hlen:=r'.length
    exact Calls.call_len_list pl.isList (by simp only [List.size_toArray] <;> omega) ⟨.int ys.length,H,I.tok _,⟨s.toks+1,by rw [List.size_toArray,hlen]⟩,q⟩
  · obtain ⟨its,r',pl,hz⟩:=I.tuple hq
    have hlen:=r'.length
    exact len_tuple pl (by simp only [List.size_toArray] <;> omega) ⟨.int ys.length,H,I.tok _,⟨s.toks+1,by rw [List.size_toArray,hlen]⟩,q⟩
theorem call_len_str:CallR X (.builtin "len") (fun xs H Q=>∃ z,xs=[.str z]∧z.length≤sizeLine∧Q (.int z.length) H):=by
  intro pins s σ H xs us Q I r h
  obtain ⟨z,rfl,hz,q⟩:=h
  obtain ⟨u,rfl,t,rfl⟩:=vals1 r
  have hn:=line63
  exact len_str (by omega) ⟨.int z.length,H,I.tok _,⟨_,rfl⟩,q⟩
theorem call_tuple_of:CallR X (.type "tuple") (fun xs H Q=>∃ p ys,xs=[.ref p]∧((SqL X.K H p ys∧∀ l,H l=none→Q (.ref l) (upd H l (.tup ys)))∨(SqT X.K H p ys∧Q (.ref p) H))):=by
  intro pins s σ H xs us Q I r h
  obtain ⟨p,ys,rfl,h⟩:=h
  obtain ⟨u,rfl,rx⟩:=vals1 r
  cases rx
  rcases h with ⟨hq,q⟩ | ⟨hq,q⟩
  · obtain ⟨its,r',pl,hz⟩:=I.list hq
    have hlen:=r'.length
    refine call_tuple_list pl.isList (fun h' kp=>?_) (by simp only [List.size_toArray] <;> omega)
    have I1:Inv X pins σ H { s with heap:=h' }:=I.kept (t':=s.toks) kp
    have I2:Inv X pins σ (upd H h'.objs.size (.tup ys)) { s with heap:=h'.push { cls:=.type "tuple", data:=.seq its.toArray } }:=
      I1.laid (t':=s.toks) (fun b o e=>Heap.get?_push_of_some _ e) (Nat.le_refl _) (show ObjOk X.prog X.w _ _ _ (.tup ys) from ⟨⟨hz,_,Heap.get?_push_size _ rfl,rfl⟩,its,r',IsTup.new _ _⟩)
    exact ⟨.ref h'.objs.size,_,I2,rfl,q _ (I1.hok.fresh (Nat.le_refl _))⟩
  · obtain ⟨its,r',pl,hz⟩:=I.tuple hq
    exact call_tuple_same pl ⟨.ref p,H,I,rfl,q⟩
def tyV (K:PySem.W.Frag) (T:String) (x:V) (H:Hp):Prop:=match x with
  | .str _=>T = "str"
  | .int _=>T = "int"
  | .ref p=>(T = "list" ∧ ∃ xs,SqL K H p xs)∨(T = "tuple" ∧ ∃ o,K.lookup p=some o∧o.cls=.type "tuple" ∧ o.dict=none) ∨
      (T = "dict" ∧ ((∃ kvs,H p=some (.dK kvs))∨∃ kvs,H p=some (.dT kvs)))∨(T = "set" ∧ ∃ S n,H p=some (.set S n))
  | _=>False
theorem tyV_is {pins:List (Addr × Obj)} {σ:St} {H:Hp} {s:Shared} {T:String} {x:V} {v:Value} (I:Inv X pins σ H s) (r:RelV x v) (ty:tyV X.K T x H) :
    s.TypeIs v T∧∀ a,v=.ref a→∃ ob,s.heap.get? a=some ob∧ob.dict=none:=by
  cases x with
  | str z=>
    obtain ⟨t,rfl⟩:=r
    cases (show T = "str" from ty)
    exact ⟨typeIs_str s z t,fun _ e=>nomatch e⟩
  | int i=>
    obtain ⟨t,rfl⟩:=r
    cases (show T = "int" from ty)
    exact ⟨typeIs_int s i t,fun _ e=>nomatch e⟩
  | ref p=>
    cases r
    rcases ty with ⟨rfl,xs,hq⟩ | ⟨rfl,o,hk,hc,hd⟩ | ⟨rfl,hk⟩ | ⟨rfl,S,n,hk⟩
    · obtain ⟨its,_,pl,_⟩:=I.list hq
      refine ⟨pl.isList.typeIs,fun a e=>?_⟩
      cases e
      obtain ⟨o,n,e,c,hd,_⟩:=pl
      exact ⟨o,e,hd⟩
    · refine ⟨⟨o,I.kIn p o hk,hc⟩,fun a e=>?_⟩
      cases e
      exact ⟨o,I.kIn _ o hk,hd⟩
    · have z:∃ o,s.heap.get? p=some o∧o.ExactDict:=by
        rcases hk with ⟨kvs,hk⟩ | ⟨kvs,hk⟩
        · obtain ⟨_,_,_,_,o,_,_,e,ex,_⟩:=I.hok p _ hk
          exact ⟨o,e,ex⟩
        · obtain ⟨_,_,_,_,o,_,_,e,ex,_⟩:=I.hok p _ hk
          exact ⟨o,e,ex⟩
      obtain ⟨o,e,ex⟩:=z
      refine ⟨⟨o,e,ex.1⟩,fun a e2=>?_⟩
      cases e2
      exact ⟨o,e,ex.2.1⟩
    · obtain ⟨o,_,_,_,e,ex,_⟩:=I.hok p _ hk
      refine ⟨⟨o,e,ex.1⟩,fun a e2=>?_⟩
      cases e2
      exact ⟨o,e,ex.2.1⟩
  | _=>exact False.elim ty
def tBM (K:PySem.W.Frag) (T:String) (r:V→List V→Hp→VK→Prop) (to:TE) (t:TA):TE:=fun σ H Q=>to σ H fun x H1=>tyV K T x H1∧t σ H1 fun xs H2=>r x xs H2 Q
variable {o e:Expr} {es:List Expr} {to:TE} {t:TA} {name:Str} {apos cpos:Pos} {T id:String} {r:V→List V→Hp→VK→Prop}
theorem pe_bm (pa:PlainAttrs T) (slot:Slot T name id) (hty:typeOf (.builtin id)=pure (.type "method_descriptor")) (hm:MtR X id r) (ho:PE X o to) (ha:PA X (e :: es) t)
    (hbase:attributeBase o name X.env (eval o X.env)=eval o X.env:=by rfl)
    (hfew:((backTo cpos (starEach (e :: es) X.env)).all (fun x=>!x.1) && (backToKw cpos (keywordEach [] X.env)).all (fun x=>x.1.isSome)
      && decide ((e :: es).length+([]:List Keyword).length+(if ([]:List Keyword).isEmpty then 0 else 1) < 30))=true:=by rfl)
    (hline:(apos.endLine == cpos.line)=true:=by rfl) (hs:starEach (e :: es) X.env=(false,eval e X.env) :: starEach es X.env:=by rfl) (hplain:(backTo cpos (starEach es X.env)).any (·.1)=false:=by rfl) :
    PE X (.Call (.Attribute o name apos) (e :: es) [] cpos) (tBM X.K T r to t):=by
  intro pins s σ H Q I h
  refine wpAny_Call_method_late hbase hfew hline rfl (thn (ho pins s σ H _ I h) fun v s1 ⟨x,H1,I1,r1,ty,q1⟩=>?_)
  obtain ⟨h1,h2⟩:=tyV_is I1 r1 ty
  refine ⟨T,id,pa,slot,hty,h1,h2,?_⟩
  have hA:=ha cpos pins s1 σ H1 _ I1 q1
  rw [hs] at hA ⊢
  refine Calls.callWith_builtin (by show (false || (backTo cpos (starEach es X.env)).any (·.1))=false;rw [hplain] <;> rfl) (Calls.evalArgs_plain ?_)
  exact thn hA fun us s2 ⟨vs,H2,I2,r2,q2⟩=>hm pins s2 σ H2 x vs v us Q I2 r1 r2 q2
/- xs.append(e),list.index on a module's tuple .. are MtR facts of 06m -/
end
end L2
namespace L2
open PySem PySem.Spec PyProof.Rows
def MtM (X:Cx) (id:String) (r:V→List V→Hp→VK→Prop):Prop:=
  ∀ (pins:List (Addr × Obj)) (s:Shared) (σ:St) (H:Hp) (x:V) (xs:List V) (v:Value) (us:List Value) (Q:VK),Inv X pins σ H s→RelV x v→Vals xs us→r x xs H Q →
    wpAny (model X.prog X.w) X.A (call (.builtin id) (v :: us)) (EP X pins σ Q) X.xe s
theorem Vals.one:∀ {x:V} {us:List Value},Vals [x] us→∃ u,us=[u]∧RelV x u
  | _,_,.cons r .nil=>⟨_,rfl,r⟩
section
variable {X:Cx} {pins:List (Addr × Obj)} {σ:St} {H:Hp} {s:Shared} {l b:Addr} {xs ys zs:List V}
theorem Inv.lset {its its':List Value} {n:Nat} {f:Array Value→Array Value} {t':Nat} (I:Inv X pins σ H s) (hH:H l=some (.lst xs))
    (e:s.heap.get? l=some { cls:=.type "list", data:=.seq its.toArray n }) (hf:f its.toArray=its'.toArray) (hv:Vals ys its') (hz:ys.length≤sizeLine) :
    Inv X pins σ (upd H l (.lst ys)) { s with heap:=s.heap.update l (Obj.mapSeq f),toks:=t' }:=by
  have q:=PySem.IsL.update e f
  rw [hf] at q
  refine I.write (x:=l) (e:=l) (by rw [hH];exact trivial) (.inl rfl) (fun b' u hb hu=>(Heap.get?_update_other s.heap (Obj.mapSeq f) (Ne.symm hb)).trans hu) ⟨_,q⟩ ?_
  exact ⟨hz,its',_,hv,q⟩
theorem Inv.lnew {its:List Value} {t':Nat} (I:Inv X pins σ H s) (hv:Vals ys its) (hz:ys.length≤sizeLine) :
    Inv X pins σ (upd H s.heap.objs.size (.lst ys)) { s with heap:=s.heap.push { cls:=.type "list", data:=.seq its.toArray },toks:=t' }:=
  I.laid (fun _ _ q=>Heap.get?_push_of_some _ q) (Nat.le_refl _) ⟨hz,its,0,hv,Heap.get?_push_size _ rfl⟩
theorem Inv.fresh (I:Inv X pins σ H s):H s.heap.objs.size=none:=I.hok.fresh (Nat.le_refl _)
theorem Inv.lstM (I:Inv X pins σ H s) (hH:H l=some (.lst xs)):xs.length≤sizeLine∧∃ (its:List Value) (n:Nat),Vals xs its∧xs.length=its.length∧s.heap.get? l=some { cls:=.type "list", data:=.seq its.toArray n }:=by
  obtain ⟨z,its,n,r,e⟩:=I.hok l _ hH
  exact ⟨z,its,n,r,r.length,e⟩
theorem notLongL {n:Nat} (h:n≤sizeLine):Builtin.List.listTooLong n=false:=by
  unfold Builtin.List.listTooLong
  exact decide_eq_false (by omega)
end
section
variable {X:Cx}
def rAppend:V→List V→Hp→VK→Prop:=fun x vs H Q=>∃ l xs y,x=.ref l∧vs=[y]∧H l=some (.lst xs)∧xs.length < sizeLine∧Q .non (upd H l (.lst (xs++[y])))
theorem mt_append:MtM X "list.append" rAppend:=by
  intro pins s σ H x vs v us Q I rx rv h
  obtain ⟨l,xs,y,rfl,rfl,hH,hz,q⟩:=h
  cases rx
  obtain ⟨u,rfl,ru⟩:=rv.one
  obtain ⟨z,its,n,r,hl,e⟩:=I.lstM hH
  refine call_meets F.slot_list_append ⟨_,e,rfl⟩ F.entry_list_append (F.args_list_append_2 _ _) (PySem.list_append l its.toArray n u (by rw [List.size_toArray];omega)) ⟨e,?_⟩
  refine ⟨.non,_,I.lset (its':=its++[u]) hH e (by simp) (r.append (.cons ru .nil)) ?_,rfl,q⟩
  rw [List.length_append,List.length_singleton]
  omega
def rExtend:V→List V→Hp→VK→Prop:=fun x vs H Q=>∃ l b xs zs,x=.ref l∧vs=[.ref b]∧H l=some (.lst xs)∧H b=some (.lst zs)∧xs.length+zs.length≤sizeLine∧Q .non (upd H l (.lst (xs++zs)))
theorem mt_extend:MtM X "list.extend" rExtend:=by
  intro pins s σ H x vs v us Q I rx rv h
  obtain ⟨l,b,xs,zs,rfl,rfl,hH,hB,hz,q⟩:=h
  cases rx
  obtain ⟨u,rfl,ru⟩:=rv.one
  cases ru
  obtain ⟨z,its,n,r,hl,e⟩:=I.lstM hH
  obtain ⟨z2,its2,n2,r2,hl2,e2⟩:=I.lstM hB
  have hsz:its.toArray.size+its2.toArray.size≤sizeLine:=by rw [List.size_toArray,List.size_toArray];omega
  have hlong:¬ (!its.toArray.isEmpty && Builtin.List.listTooLong (its.toArray.size+its2.toArray.size))=true:=by
    rw [notLongL hsz,Bool.and_false]
    exact Bool.false_ne_true
  refine call_meets F.slot_list_extend ⟨_,e,rfl⟩ F.entry_list_extend (F.args_list_extend_2 _ _)
    (AutoSeq1.list_extend_list_list_0 l its.toArray n b its2.toArray n2 hlong (by rw [List.size_toArray];omega) (by omega)) ⟨e,e2,?_⟩
  refine ⟨.non,_,I.lset (its':=its++its2) hH e (by simp) (r.append r2) ?_,rfl,q⟩
  rw [List.length_append]
  omega
def rCat:R2:=fun x y H Q=>∃ l b xs zs,x=.ref l∧y=.ref b∧H l=some (.lst xs)∧H b=some (.lst zs)∧xs.length+zs.length≤sizeLine∧∀ p,H p=none→Q (.ref p) (upd H p (.lst (xs++zs)))
theorem op_cat:OpR X (binaryOp .Add) rCat:=by
  intro pins s σ H x y v u Q I rx ry h
  obtain ⟨l,b,xs,zs,rfl,rfl,hH,hB,hz,q⟩:=h
  cases rx
  cases ry
  obtain ⟨z,its,n,r,hl,e⟩:=I.lstM hH
  obtain ⟨z2,its2,n2,r2,hl2,e2⟩:=I.lstM hB
  refine PySem.P.add_list e e2 ?_ (by rw [List.size_toArray,List.size_toArray];omega)
  have ea:its.toArray++its2.toArray=(its++its2).toArray:=by simp
  rw [ea]
  exact ⟨.ref _,_,I.lnew (t':=s.toks) (r.append r2) (by rw [List.length_append];omega),rfl,q _ I.fresh⟩
end
section
variable {prog:Program} {w:World} {A:Around} {E:Value→Shared→Prop} {s:Shared}
end
section
variable {X:Cx}
end
end L2
namespace Att
open PySem PySem.W PySem.Calls PyProof.Rows
theorem ints_of_wellAll {P:Params} {h:Heap}:∀ (ns:List Int) (vs:List Value),WellAll P h vs (ns.map WData.int)→IntsAre vs ns:=by
  intro ns
  induction ns with
  | nil=>
    intro vs w
    rw [List.map_nil] at w
    cases w
    exact .nil
  | cons n ns ih=>
    intro vs w
    rw [List.map_cons] at w
    cases w with
    | cons a b=>
      cases a
      exact .cons _ _ (ih _ b)
theorem script_of {l:OpenLaw} {n:Nat} (hn:l.most=some n) {P:Params} {h:Heap} {args:List WData} {vals:List Value}
    (hpre:l.row.toRowW.claim.pre args=true) (hwl:WellAll P h vals args) :
    ∃ a vs ns,vals=[Value.ref a]∧args=[WData.list (ns.map WData.int)]∧h.get? a=some { cls:=.type "list", data:=.seq vs.toArray }∧IntsAre vs ns∧ns.length≤n:=by
  have hsh:WShape.hasAll [] args [.list .int]=true:=(pre_splitW hpre).1
  have hc:l.pre.holds [] { args:=args }=true:=(pre_splitW hpre).2
  obtain ⟨d,r,rfl,h1,h2⟩:=hasAllW_cons hsh
  obtain rfl:=hasAllW_nil h2
  obtain ⟨xs,rfl,h3⟩:=hasW_list h1
  obtain ⟨ns,rfl⟩:=items_int h3
  have hlen:ns.length≤n:=by
    unfold OpenLaw.pre at hc
    have h4:(WTm.not (.lt (.lit (.int (n:Int))) (.len (.arg 0)))).holds [] { args:=[.list (ns.map .int)] }=true:=by
      have h4:=(holds_andW hc).1
      rw [hn] at h4
      exact h4
    have h5:=condW_of h4 (w_not (w_lt w_lit (w_len_list (w_arg rfl))))
    rw [List.length_map] at h5
    refine Nat.le_of_not_lt fun q=>?_
    have q':(n:Int) < ((ns.length:Nat):Int):=by omega
    first
      | (rw [decide_eq_true q'] at h5;exact absurd h5 (by decide))
      | (simp at h5;omega)
  cases hwl with
  | cons w1 w2=>
    cases w2
    cases w1 with
    | list ho hall=>exact ⟨_,_,ns,rfl,rfl,ho,ints_of_wellAll ns _ hall,hlen⟩
theorem post_true (l:OpenLaw) (args:List WData):l.row.toRowW.claim.post args (.bool true) args=true:=
  postW_of (r:=l.row.toRowW) (X:=(true == true))
    (show WShape.has [] (.bool true) .bool=true by first | rfl | decide | simp [WShape.has,WShape.arms,WShape.armsAll])
    (show (WTm.eq .res (.lit (.bool true))).value [] { args:=args,res:=some (.bool true),after:=args }=some (.bool (true == true)) from w_eq_bool (w_res rfl) w_lit) rfl
theorem attach_call {l:OpenLaw} {n:Nat} {q:Program} {loose:List Str} {XP:(Str→Option Value)→Heap→Prop} {YP:World→Heap→Prop} {d:DefRec}
    (hn:l.most=some n) (hdf:d.params.defaults=[])
    (call:∀ (w:World) (s₀ s₁:Shared) (mg mb:Str→Option Value) (fa:Addr) (o:Obj) (pm cd doc:Value) (a:Addr) (vs:List Value) (ns:List Int),
      Ground q loose [] XP w s₀ mg mb s₁.heap→YP w s₁.heap →
      s₁.heap.get? fa=some o→o.data=.func (docDef d.name d.params d.body d.scope pm cd doc)→s₁.heap.CodeRec cd d.name→mg d.name=some (.ref fa) →
      s₁.heap.get? a=some { cls:=.type "list", data:=.seq vs.toArray }→IntsAre vs ns→ns.length≤n→s₁.gens=#[] →
      codeAny (model l.prog w) callerA (.call (.ref fa) ⟨[.ref a],[]⟩) (fun r s'=>r=.ok (.ret (.bool true))∧OldK s₁.heap s'.heap∧s'.os=s₁.os∧AllBare s'.gens) s₁) :
    WalkO q loose XP YP l.row.toRowW d [] (fun f vs=>PySem.call f vs):=by
  intro w s₀ s₁ mg mb G Y fa o pm cd doc dV kV ho hd hcd hD hmg hg args vals as hpre hlay hrd hwl hlo
  obtain rfl:dV=.none:=Dflts.none hD hdf
  obtain rfl:kV=.none:=Dflts.noKw hD
  obtain ⟨a,vs,ns,rfl,rfl,hobj,hints,hlen⟩:=script_of hn hpre hwl
  refine enter_call (codeAny_mono (call w s₀ s₁ mg mb fa o pm cd doc a vs ns G Y ho (fd_plain hd) hcd hmg hobj hints hlen hg) fun r s' hq=>?_)
  obtain ⟨rfl,h2,h3,h4⟩:=hq
  exact ⟨.inl ⟨.bool true,.bool true,[],rfl,fun _=>rfl,.bool true,post_true l _,fun _=>⟨List.Pairwise.nil,fun _ hm=>(nomatch hm)⟩⟩,h2,h3,h4⟩
section
variable {prog:Program} {w:World} {A:Around} {E:Value→Shared→Prop} {s:Shared} {K:Frag}
end
end Att
namespace L2
open PySem PySem.Spec PyProof.Rows
theorem vals_ints:∀ {vs:List Value} {ns:List Int},IntsAre vs ns→Vals (ns.map V.int) vs
  | _,_,.nil=>.nil
  | _,_,.cons n t h=>.cons ⟨t,rfl⟩ (vals_ints h)
def Only (H:Hp):Prop:=∀ b,H b=none∨∃ o xs,H b=some (.frz o (.lst xs))
theorem law_call {P:Program} {w:World} {K:PySem.W.Frag} {mg mb:Str→Option Value} {CX:CXT} {k:Nat} {fa a:Addr} {fd:FuncData} {x:Str} {sp:Sp} {s₁:Shared} {vs:List Value} {ns:List Int}
    (KX:K.In s₁.heap) (hns:s₁.heap.Ns mainGlobals mg) (hb:s₁.heap.Ns builtinsNs mb) (hbb:∀ x:Str,x ≠ "__name__" → mb x=bootBuiltins x) (hlim:s₁.heap.NoLimit) (hg:s₁.gens=#[])
    (ha:s₁.heap.get? a=some { cls:=.type "list", data:=.seq vs.toArray }) (hi:IntsAre vs ns) (hl:ns.length≤sizeLine) (hr:Room k callerA)
    (F:∀ base:Heap,K.In base→base.Ns mainGlobals mg→FnOk P w K mg base CX k fa fd [x] sp) (hbind:∀ (s:Shared) (u:Value),BindsTo s fd ⟨[u],[]⟩ [(x,u)])
    (hsp:∀ H:Hp,Only H→SqL K H a (ns.map V.int)→sp [.ref a] H (fun v _=>v=.bl true) fun _ _ _=>False)
    (hCX:∀ H e s',CX [] H s₁ (fun _ _ _=>False) e s'→False) :
    codeAny (model P w) callerA (.call (.ref fa) ⟨[.ref a],[]⟩) (fun r s'=>r=.ok (.ret (.bool true))∧OldK s₁.heap s'.heap∧s'.os=s₁.os∧AllBare s'.gens) s₁:=by
  have rv:=vals_ints hi
  have lenV:=hi.length
  have core:∀ H:Hp,Only H→SqL K H a (ns.map V.int)→HOk P w H s₁.heap→(∀ b,H b≠none→b=a)→(H a≠none→K.lookup a=none) →
      codeAny (model P w) callerA (.call (.ref fa) ⟨[.ref a],[]⟩) (fun r s'=>r=.ok (.ret (.bool true))∧OldK s₁.heap s'.heap∧s'.os=s₁.os∧AllBare s'.gens) s₁:=by
    intro H hO hS hok hA hK
    have base_of:∀ {b:Addr} {o:Obj},s₁.heap.get? b=some o→H b=none→(hidT s₁.heap H).get? b=some o:=fun e n=>hidT_get e n
    have noA:∀ {b:Addr} {o:Obj} {es:Array DictEntry} {ep:Nat},s₁.heap.get? b=some o→o.data=.dict es ep→H b=none:=fun {b o es ep} e d=>by
      cases q:H b with
      | none=>rfl
      | some u=>
        have e':b=a:=hA b (by rw [q];simp)
        subst e'
        rw [ha] at e;cases e
        have d':Data.seq vs.toArray _=Data.dict es ep:=d
        cases d'
    have nsK:∀ {b:Addr} {m:Str→Option Value},s₁.heap.Ns b m→(hidT s₁.heap H).Ns b m:=fun {b m} ⟨o,es,ep,e,d,r⟩=>⟨o,es,ep,base_of e (noA e d),d,r⟩
    have hKb:K.In (hidT s₁.heap H):=fun b o e=>base_of (KX b o e) (by
      cases q:H b with
      | none=>rfl
      | some u=>
        have e':b=a:=hA b (by rw [q];simp)
        subst e'
        rw [hK (by rw [q];simp)] at e;cases e)
    have hM:Mod K mg (hidT s₁.heap H):=⟨hKb,nsK hns,⟨mb,nsK hb,hbb⟩,let ⟨mc,h1,h2⟩:=hlim;⟨mc,nsK h1,h2⟩⟩
    have e0:Env0 P w K mg (hidT s₁.heap H) callerA [] s₁ H:=⟨rfl,hM,fun b o e=>of_hidT e,Nat.le_of_eq (hidT_size _ _),trivial,fun b hb=>absurd (show b∈([]:List Addr) from hb) (by simp),hok,.of_eq hg⟩
    refine codeAny_mono ((F _ hKb (nsK hns)).run callerA [] s₁ H ⟨[.ref a],[]⟩ [.ref a] [.ref a] _ _ hr e0 (hbind s₁ (.ref a)) (.cons rfl .nil) (hsp H hO hS)) fun r s' h=>?_
    cases r with
    | error e=>exact (hCX H e s' h).elim
    | ok fl=>
      cases fl with
      | next=>exact False.elim h
      | brk=>exact False.elim h
      | cont=>exact False.elim h
      | ret u=>
        obtain ⟨v,H',os,bare,un,hok',r',q⟩:=h
        have q':v=.bl true:=q
        subst q'
        obtain rfl:u=Value.bool true:=r'
        refine ⟨rfl,OldK.of_keep fun b o e=>?_,os,bare⟩
        cases q:H b with
        | none=>exact un.keep b o e q (by intro z;exact absurd (show b∈([]:List Addr) from z) (by simp)) (by simp)
        | some u=>
          rcases hO b with z | ⟨ob,xs,z⟩
          · rw [q] at z;cases z
          · have z2:=un.frzs b ob _ z
            obtain ⟨e1,_⟩:=hok b _ z
            obtain ⟨e2,_⟩:=hok' b _ z2
            rw [e] at e1;cases e1
            exact e2
  cases hk:K.lookup a with
  | some o=>
    have e:=KX a o hk
    rw [ha] at e
    cases e
    refine core (fun _=>none) (fun _=>.inl rfl) (.inr ⟨_,vs.toArray,_,hk,rfl,rfl,rfl,by rw [List.size_toArray,lenV];exact hl,by simpa using rv⟩) (fun b u z=>by have z':(none:Option HO)=some u:=z;cases z') (fun b z=>absurd rfl z) fun z=>absurd rfl z
  | none=>
    refine core (fun b=>if b=a then some (.frz { cls:=.type "list", data:=.seq vs.toArray } (.lst (ns.map V.int))) else none) (fun b=>?_) (.inl (.inr ⟨{ cls:=.type "list", data:=.seq vs.toArray },if_pos rfl⟩)) (fun b u z=>?_) (fun b z=>?_) fun _=>hk
    · by_cases hb:b=a
      · exact .inr ⟨_,_,if_pos hb⟩
      · exact .inl (if_neg hb)
    · by_cases hb:b=a
      · have z':=(if_pos hb).symm.trans z
        cases z'
        subst hb
        exact ⟨ha,by rw [List.length_map];exact hl,vs,_,rv,ha⟩
      · have z':=(if_neg hb).symm.trans z
        cases z'
    · by_cases hb:b=a
      · exact hb
      · exact absurd (if_neg hb) z
end L2
namespace L2
open PySem PySem.Spec PyProof.Rows
abbrev KOf {K:PySem.W.Frag} {h:Heap} (_:K.In h):PySem.W.Frag:=K
theorem walk_of {l:PySem.W.OpenLaw} {n k:Nat} {q:Program} {loose:List Str} {XP:(Str→Option Value)→Heap→Prop} {YP:World→Heap→Prop} {d:DefRec} {K:Params→PySem.W.Frag} {CX:World→CXT} {sp:World→Sp} {x:Str}
    (hn:l.most=some n) (hn2:n≤sizeLine) (hdf:d.params.defaults=[]) (hr:Room k callerA)
    (hY:∀ (w:World) (h:Heap),YP w h→(K w.params).In h)
    (F:∀ (w:World) (mg:Str→Option Value) (fa:Addr) (h:Heap),(K w.params).In h→h.Ns mainGlobals mg→mg d.name=some (.ref fa) →
      ∃ fd:FuncData,(∀ (s:Shared) (u:Value),BindsTo s fd ⟨[u],[]⟩ [(x,u)]) ∧
        ∀ base:Heap,(K w.params).In base→base.Ns mainGlobals mg→FnOk l.prog w (K w.params) mg base (CX w) k fa fd [x] (sp w))
    (hsp:∀ (w:World) (H:Hp) (a:Addr) (ns:List Int),ns.length≤n→Only H→SqL (K w.params) H a (ns.map V.int)→sp w [.ref a] H (fun v _=>v=.bl true) fun _ _ _=>False)
    (hCX:∀ (w:World) (H:Hp) (s:Shared) (e:Value) (s':Shared),CX w [] H s (fun _ _ _=>False) e s'→False) :
    PySem.W.WalkO q loose XP YP l.row.toRowW d [] (fun f vs=>PySem.call f vs):=by
  refine Att.attach_call hn hdf fun w s₀ s₁ mg mb fa o pm cd doc a vs ns G Y ho hd hcd hmg hobj hints hlen hg=>?_
  have KX:=hY w _ Y
  obtain ⟨fd,hb,hF⟩:=F w mg fa _ KX G.T.g hmg
  exact law_call KX G.T.g G.T.b G.T.builtins G.T.nolimit hg hobj hints (Nat.le_trans hlen hn2) hr hF hb (fun H hO hS=>hsp w H a ns hlen hO hS) fun H e s'=>hCX w H s₁ e s'
theorem walk_ofK {l:PySem.W.OpenLaw} {n k:Nat} {q:Program} {loose:List Str} {XP:(Str→Option Value)→Heap→Prop} {YP:World→Heap→Prop} {d:DefRec} {K:Params→PySem.W.Frag} {CX:CXT} {sp:PySem.W.Frag→Sp} {x:Str}
    (hn:l.most=some n) (hn2:n≤sizeLine) (hdf:d.params.defaults=[]) (hr:Room k callerA)
    (hY:∀ (w:World) (h:Heap),YP w h→(K w.params).In h)
    (F:∀ (w:World) (mg:Str→Option Value) (fa:Addr) (h:Heap),(K w.params).In h→h.Ns mainGlobals mg→mg d.name=some (.ref fa) →
      ∃ fd:FuncData,(∀ (s:Shared) (u:Value),BindsTo s fd ⟨[u],[]⟩ [(x,u)]) ∧
        ∀ base:Heap,(K w.params).In base→base.Ns mainGlobals mg→FnOk l.prog w (K w.params) mg base CX k fa fd [x] (sp (K w.params)))
    (hsp:∀ (K:PySem.W.Frag) (H:Hp) (a:Addr) (ns:List Int),ns.length≤n→Only H→SqL K H a (ns.map V.int)→sp K [.ref a] H (fun v _=>v=.bl true) fun _ _ _=>False)
    (hCX:∀ (H:Hp) (s:Shared) (e:Value) (s':Shared),CX [] H s (fun _ _ _=>False) e s'→False) :
    PySem.W.WalkO q loose XP YP l.row.toRowW d [] (fun f vs=>PySem.call f vs):=
  walk_of (K:=K) (CX:=fun _=>CX) (sp:=fun w=>sp (K w.params)) hn hn2 hdf hr hY F (fun w H a ns h1 h2 h3=>hsp (K w.params) H a ns h1 h2 h3) fun _ H s e s'=>hCX H s e s'
end L2
namespace L2
open PySem PySem.Spec PyProof.Rows
def defArgs (s:Stmt):Arguments:=match s with
  | .FunctionDef _ a _ _ _ _ _ _ _ _=>a
  | _=>{ posonlyargs:=[],args:=[],vararg:=none,kwonlyargs:=[],kw_defaults:=[],kwarg:=none,defaults:=[] }
def defBody (s:Stmt):List Stmt:=match s with
  | .FunctionDef _ _ b _ _ _ _ _ _ _=>b
  | _=>[]
def defScope (s:Stmt):Scope:=match s with
  | .FunctionDef _ _ _ _ _ _ sc _ _ _=>sc
  | _=>{ kind:=.function,names:=[],isGenerator:=false,isCoroutine:=false }
abbrev CX0:CXT:=fun _ _ _ _ _ _=>False
abbrev E0:XK:=fun _ _ _=>False
theorem pass0 {X:Cx}:Passes CX0 X E0:=fun _ _ _ _ _ _ _ h=>h.elim
structure Fun (K:PySem.W.Frag) (x qual:Str) (st:Stmt) (f:Addr) (fd:FuncData):Prop where
  ex:∃ (oc:Value) (od:Option Addr) (kV doc pm:Value) (an:Option Addr) (cdv ct:Value) (osl:Array (Option Value)),
    fd=PySem.W.fnOf x qual (defArgs st) (defBody st) (defScope st) .none kV doc pm an cdv ct∧K.lookup f=some ⟨oc,od,.func fd,osl⟩∧PySem.W.codeIn K cdv qual=true
  kp:PySem.W.keepIn K (.ref f)=true
section
variable {P:Program} {w:World} {K:PySem.W.Frag} {mg:Str→Option Value} {base:Heap}
theorem Fun.ok {x qual:Str} {st:Stmt} {f:Addr} {fd:FuncData} {N ps:List Str} {k:Nat} {sp:Sp} (F:Fun K x qual st f fd) (S:FnScope N ps (defScope st)) (len:∀ vs H Q E,sp vs H Q E→vs.length=ps.length)
    (hbody:∀ (cdv:Value) (A:Around) (outer:List Env) (s:Shared) (H:Hp) (vs:List V) (Q:VK) (E:XK),Room k (A.deeper (envOfC qual (defScope st) s.heap.objs.size f cdv))→sp vs H Q E →
      ∃ t,PSs (cxOf CX0 P w K mg base N qual (defScope st) f cdv A outer s H E).nox (defBody st) t∧t { nx:=fun _ H'=>Q .non H',rt:=Q } (start N vs) H):FnOk P w K mg base CX0 (k+1) f fd ps sp:=by
  obtain ⟨oc,od,kV,doc,pm,an,cdv,ct,osl,rfl,lk,hcd⟩:=F.ex
  refine fn_of lk hcd S len fun A outer s H vs Q E hr hsp=>?_
  obtain ⟨t,h,q⟩:=hbody cdv A outer s H vs Q E hr hsp
  exact ⟨t,h.nox,q⟩
theorem Fun.binds {x qual:Str} {st:Stmt} {f:Addr} {fd:FuncData} {ps:List Str} (F:Fun K x qual st f fd)
    (h:∀ (kV doc pm:Value) (an:Option Addr) (cdv ct:Value) (us:List Value),us.length=ps.length→bindArgs (PySem.W.fnOf x qual (defArgs st) (defBody st) (defScope st) .none kV doc pm an cdv ct) ⟨us,[]⟩=pure (ps.zip us)):Binds K fd ps []:=by
  obtain ⟨oc,od,kV,doc,pm,an,cdv,ct,osl,rfl,lk,hcd⟩:=F.ex
  exact .all (h kV doc pm an cdv ct)
theorem fun_mk {x qual:Str} {st:Stmt} {f:Addr} {oc:Value} {od an:Option Addr} {osl:Array (Option Value)} {kV doc pm cdv ct:Value} (l:K.lookup f=some ⟨oc,od,.func (PySem.W.fnOf x qual (defArgs st) (defBody st) (defScope st) .none kV doc pm an cdv ct),osl⟩)
    (c:PySem.W.codeIn K cdv qual=true) (k:PySem.W.keepIn K (.ref f)=true):Fun K x qual st f (PySem.W.fnOf x qual (defArgs st) (defBody st) (defScope st) .none kV doc pm an cdv ct):=⟨⟨oc,od,kV,doc,pm,an,cdv,ct,osl,rfl,l,c⟩,k⟩
end
theorem small1000 {n:Nat} (h:n≤1000):n < sizeLine:=Nat.lt_of_le_of_lt h (by decide)
section
variable {X:Cx}
theorem pv (i:Nat) {x:Str} {pos:Pos} (hN:X.N[i]?=some x:=by rfl) (hv:Vis X.env.scope x:=by first | exact Or.inl rfl | exact Or.inr (Or.inl rfl) | exact Or.inr (Or.inr rfl)) (hd:(x == ("__debug__" : Str))=false:=by decide)
    (hcd:(x == ("__classdict__" : Str))=false:=by decide):PE X (.Name x pos) (tVar i):=pe_var hN hv hd hcd
end
theorem iteF {A B:Prop} (h:B):if false=true then A else B:=by
  rw [if_neg Bool.false_ne_true]
  exact h
theorem iteT {A B:Prop} (h:A):if true=true then A else B:=by
  rw [if_pos rfl]
  exact h
theorem ite2 {c A B:Prop} [Decidable c] (h1:c→A) (h2:¬ c→B):if c then A else B:=by
  by_cases h:c
  · rw [if_pos h]
    exact h1 h
  · rw [if_neg h]
    exact h2 h
def Same (H H':Hp):Prop:=∀ b o,H b=some o→H' b=some o
theorem Same.refl (H:Hp):Same H H:=fun _ _ h=>h
theorem Same.trans {H H1 H2:Hp} (a:Same H H1) (b:Same H1 H2):Same H H2:=fun c o h=>b c o (a c o h)
theorem Same.free {H H':Hp} (e:Same H H') {l:Addr} (h:H' l=Option.none):H l=Option.none:=by
  cases q:H l with
  | none=>rfl
  | some o=>
    rw [e l o q] at h
    cases h
end L2
set_option maxHeartbeats 16000000
namespace L2
open PySem PySem.Spec PyProof.Rows
theorem lookup_mem {α:Type}:∀ {cl:List (Str × α)} {x:Str} {c:α},cl.lookup x=some c→(x,c)∈cl
  | [],_,_,h=>by simp at h
  | (y,d) :: r,x,c,h=>by
    rw [List.lookup_cons] at h
    cases e:x == y with
    | true=>
      rw [e] at h
      have e':x=y:=eq_of_beq e
      cases h
      rw [e'];exact List.mem_cons_self
    | false=>
      rw [e] at h
      exact List.mem_cons_of_mem _ (lookup_mem h)
theorem lookup_of_mem {α:Type}:∀ {cl:List (Str × α)} {x:Str} {c:α},(x,c)∈cl→∃ c',cl.lookup x=some c'
  | [],_,_,h=>nomatch h
  | (y,d) :: r,x,c,h=>by
    rw [List.lookup_cons]
    cases e:x == y with
    | true=>exact ⟨d,rfl⟩
    | false=>
      rcases List.mem_cons.mp h with h | h
      · cases h
        simp at e
      · exact lookup_of_mem h
theorem closure_go {env:Env} {f:(Str × NameKind)→List (Str × Addr)→Sem (ForInStep (List (Str × Addr)))}
    (h1:∀ x k cs,k≠NameKind.free→f (x,k) cs=pure (.yield cs)) (h2:∀ x cs c,env.cells.lookup x=some c→f (x,NameKind.free) cs=pure (.yield ((x,c) :: cs))) :
    ∀ (names:List (Str × NameKind)) (acc:List (Str × Addr)),(∀ x,(x,NameKind.free)∈names→∃ c,env.cells.lookup x=some c) →
      ∃ cl,forIn names acc f=pure cl∧(∀ p∈cl,p∈acc∨env.cells.lookup p.1=some p.2)∧(∀ p∈acc,p∈cl)∧∀ x,(x,NameKind.free)∈names→∃ c,(x,c)∈cl
  | [],acc,_=>⟨acc,rfl,fun _ h=>.inl h,fun _ h=>h,fun _ h=>nomatch h⟩
  | (x,k) :: r,acc,h=>by
    by_cases hk:k=NameKind.free
    · subst hk
      obtain ⟨c,hc⟩:=h x List.mem_cons_self
      obtain ⟨cl,e,a,b,d⟩:=closure_go h1 h2 r ((x,c) :: acc) fun y hy=>h y (List.mem_cons_of_mem _ hy)
      refine ⟨cl,?_,fun p hp=>?_,fun p hp=>b p (List.mem_cons_of_mem _ hp),fun y hy=>?_⟩
      · rw [List.forIn_cons,h2 x acc c hc,pure_bind];exact e
      · rcases a p hp with q | q
        · rcases List.mem_cons.mp q with q | q
          · subst q;exact .inr hc
          · exact .inl q
        · exact .inr q
      · rcases List.mem_cons.mp hy with q | q
        · cases q;exact ⟨c,b _ List.mem_cons_self⟩
        · exact d y q
    · obtain ⟨cl,e,a,b,d⟩:=closure_go h1 h2 r acc fun y hy=>h y (List.mem_cons_of_mem _ hy)
      refine ⟨cl,?_,a,b,fun y hy=>?_⟩
      · rw [List.forIn_cons,h1 x k acc hk,pure_bind];exact e
      · rcases List.mem_cons.mp hy with q | q
        · cases q;exact absurd rfl hk
        · exact d y q
theorem closure_ok {scope:Scope} {env:Env} (h:∀ x,(x,NameKind.free)∈scope.names→∃ c,env.cells.lookup x=some c) :
    ∃ cl,closureFor scope env=pure cl∧(∀ x c,cl.lookup x=some c→env.cells.lookup x=some c)∧∀ x,(x,NameKind.free)∈scope.names→∃ c,cl.lookup x=some c:=by
  have go:=closure_go (env:=env) (f:=fun x cs=>match x with | (name,kind)=>if (kind == NameKind.free)=true then do let a ← cellOf env name;pure (.yield ((name,a) :: cs)) else pure (.yield cs))
    (fun x k cs hk=>by
      have:(k == NameKind.free)=false:=by simpa using hk
      simp only [this,Bool.false_eq_true,if_false])
    (fun x cs c hc=>by
      simp only [beq_self_eq_true,if_true]
      unfold cellOf
      rw [hc,pure_bind])
    scope.names [] h
  obtain ⟨cl,e,a,_,d⟩:=go
  refine ⟨cl,?_,fun x c hx=>?_,fun x hx=>?_⟩
  · unfold closureFor
    simp only [bind_pure]
    exact e
  · rcases a _ (lookup_mem hx) with q | q
    · exact nomatch q
    · exact q
  · obtain ⟨c,hc⟩:=d x hx
    exact lookup_of_mem hc
theorem relabel_lookup {env:Env} {x:Str} {k:NameKind}:∀ {names:List (Str × NameKind)},
    (names.map fun (n,k)=>if (k == NameKind.free && env.scope.kind == .function && env.kindOf n == some .cell) then (n,NameKind.cell) else (n,k)).lookup x=some k →
      names.lookup x=some k∨(k=.cell∧names.lookup x=some .free)
  | [],h=>by simp at h
  | (n,j) :: r,h=>by
    have ih:=@relabel_lookup env x k r
    rw [List.lookup_cons]
    change List.lookup x ((if (j == NameKind.free && env.scope.kind == .function && env.kindOf n == some .cell)=true then (n,NameKind.cell) else (n,j)) :: _)=_ at h
    by_cases hc:(j == NameKind.free && env.scope.kind == .function && env.kindOf n == some .cell)=true
    · rw [if_pos hc,List.lookup_cons] at h
      have hj:j=NameKind.free:=by
        simp only [Bool.and_eq_true] at hc
        exact eq_of_beq hc.1.1
      cases hx:x == n with
      | true=>rw [hx] at h;cases h;exact .inr ⟨rfl,by rw [hj]⟩
      | false=>rw [hx] at h;exact ih h
    · rw [if_neg hc,List.lookup_cons] at h
      cases hx:x == n with
      | true=>rw [hx] at h;exact .inl h
      | false=>rw [hx] at h;exact ih h
def cxComp (X:Cx) (scope:Scope) (NL:List Str) (ix:List Nat) (cl:List (Str × Addr)) (C:Addr) (s₃:Shared) (H₃:Hp) (fp:List Addr) (pins:List (Addr × Obj)):Cx where
  prog:=X.prog
  w:=X.w
  K:=X.K
  mg:=X.mg
  base:=X.base
  A:=X.A
  N:=NL++ix.map fun j=>X.N.getD j ""
  s₀:=s₃
  H₀:=H₃
  env:=compEnvC scope cl C X.env
  outer:=X.stack
  stack:=X.stack
  ex:=fp
  fn:=fun _=>false
  calm:=X.calm
  pn:=X.pn++pins
  xe:=fun _ _=>False
def comp0 (NL:List Str) (ix:List Nat) (σ:St):St:=NL.map (fun _=>none)++ix.map fun j=>σ.getD j none
def PIfs (X:Cx) (ifs:List Expr) (t:TT):Prop:=
  ∀ (pins:List (Addr × Obj)) (s:Shared) (σ:St) (H:Hp) (Q:Bool→Hp→Prop),Inv X pins σ H s→t σ H Q →
    wpAny (model X.prog X.w) X.A (forIn ifs true fun c r=>if r=true then do let ok ← isTrue c X.env (eval c X.env);pure (ForInStep.yield ok) else pure (ForInStep.yield r)) (TP X pins σ Q) X.xe s
def tYes:TT:=fun _ H Q=>Q true H
theorem pifs_nil {X:Cx}:PIfs X [] tYes:=fun _ _ _ H _ I h=>wpAny_tests_nil ⟨H,I,h⟩
theorem pifs_one {X:Cx} {c:Expr} {t:TT} (h:PT X c t):PIfs X [c] t:=fun pins s σ H Q I q=>wpAny_tests_one (h pins s σ H Q I q)
def tComp (NL:List Str) (ix:List Nat) (wi:TI) (g:TG) (tt:TT) (te:TE):TE:=fun σ H Q=>
  wi σ H fun J H1=>∀ acc,H1 acc=none→∃ W:Nat→Nat→List V→Hp→Prop,(∃ m,W 0 m [] (upd H1 acc (.lst []))) ∧
    ∀ i m ys H2,W i m ys H2→H2 acc=some (.lst ys)∧ys.length < sizeLine ∧
      ((J.stop i H2∧Q (.ref acc) H2)∨(J.go i H2∧∃ N:List V→Hp→Prop,(∀ ys' H',N ys' H'→∃ m',m' < m∧W (i+1) m' ys' H') ∧
        ∀ x H3,J.yld i H2 x H3→g x (comp0 NL ix σ) H3 fun σ' H4=>σ'.drop NL.length=ix.map (fun j=>σ.getD j none)∧tt σ' H4 fun b H5=>
          if b=true then te σ' H5 fun v H6=>H6 acc=some (.lst ys)∧N (ys++[v]) (upd H6 acc (.lst (ys++[v]))) else N ys H5))
section
variable {X:Cx} {pins:List (Addr × Obj)} {σ:St} {H:Hp} {s:Shared}
structure CompScope (X:Cx) (scope:Scope) (NL:List Str) (ix:List Nat):Prop where
  kind:scope.kind=.function
  cell:∀ y∈scope.names,y.2≠.cell
  names:∀ y∈scope.names,y.2=.local→scope.names.lookup y.1=some .local
  free:∀ y∈scope.names,y.2=.free→X.env.kindOf y.1=some .cell∨X.env.kindOf y.1=some .free
  cap:∀ j∈ix,∃ x,X.N[j]?=some x∧scope.names.lookup x=some .free
theorem comp_inv {scope:Scope} {NL:List Str} {ix:List Nat} {cl:List (Str × Addr)} {fp:List Addr} {tn:Nat→Heap→Prop} {s₃:Shared} {h₁:Heap} {m:Str→Option Value} {tk:Nat}
    (S:CompScope X scope NL ix) (I:Inv X pins σ H s₃) (c1:∀ x c,cl.lookup x=some c→X.env.cells.lookup x=some c) (c2:∀ x,(x,NameKind.free)∈scope.names→∃ c,cl.lookup x=some c)
    (hf:∀ b∈fp,FpOk X pins H b) (ho:∀ b∈fp,∃ o,s₃.heap.get? b=some o) (hn:h₁.Ns s₃.heap.objs.size m) (old:∀ b o,s₃.heap.get? b=some o→h₁.get? b=some o) :
    Inv (cxComp X scope NL ix cl s₃.heap.objs.size s₃ H fp pins) [] (comp0 NL ix σ) H { s₃ with heap:=h₁,toks:=tk }:=by
  have e0:=I.env0
  have lt:∀ b o,s₃.heap.get? b=some o→b≠s₃.heap.objs.size:=fun b o e=>Nat.ne_of_lt (Heap.lt_size e)
  have nst:∀ b,b≠X.env.locals→b ∉ X.fs→b ∉ frs X.stack:=fun b h1 h2 h3=>(List.mem_cons.mp (I.stkSub b h3)).elim h1 h2
  have ok:(cxComp X scope NL ix cl s₃.heap.objs.size s₃ H fp pins).Ok:=
    { mod:=I.ok.mod
      kind:=S.kind
      glob:=I.ok.glob
      blt:=I.ok.blt
      above:=Nat.le_refl _
      inj:=fun x y c h1 h2=>I.ok.inj x y c (c1 x c h1) (c1 y c h2)
      has:=fun x hx=>by
        have hfree:scope.names.lookup x=some .free:=by
          rcases hx with hx | hx
          · rcases relabel_lookup hx with q | ⟨_,q⟩
            · exact absurd rfl (S.cell _ (lookup_mem q))
            · exact q
          · rcases relabel_lookup hx with q | ⟨z,_⟩
            · exact q
            · cases z
        exact c2 x (lookup_mem hfree)
      cab:=fun _ _ z=>nomatch z
      hd:=I.ok.hd
      frames:=I.ok.frames
      stk:=.inl rfl
      exf:=fun b hb=>⟨let ⟨o,e⟩:=ho b hb;lt b o e,fun x c hx=>(hf b hb).2.2.2.2.1 x c (c1 x c hx)⟩
      bs:=I.bs
      bsz:=e0.bsz
      noex:=fun b o e hb=>by
        rcases (hf b hb).2.2.2.1 with z | z
        · exact I.ok.noex b o e z
        · exact absurd (Nat.lt_of_lt_of_le (Heap.lt_size e) (Nat.le_trans I.ok.bsz z)) (Nat.lt_irrefl _)
      exfs:=fun b hb=>nst b (hf b hb).2.1 (hf b hb).2.2.1
      funs:=e0.funs
      frf:=e0.frf }
  refine ⟨ok,rfl,I.bare,Un.kept old,⟨m,hn,fun i x v e1 e2 e3=>?_⟩,fun x c e=>?_,I.hok.fresh (Nat.le_refl _),fun x c e=>I.freeC x c (c1 x c e),fun p hp=>?_,I.hok.kept old,?_⟩
  · have hl:NL.length≤i:=by
      rcases Nat.lt_or_ge i NL.length with z | z
      · exfalso
        unfold comp0 at e2
        rw [List.getElem?_append_left (by simpa using z),List.getElem?_map] at e2
        cases q:NL[i]? with
        | none=>rw [q] at e2;cases e2
        | some y=>rw [q] at e2;cases e2
      · exact z
    unfold comp0 at e2
    rw [List.getElem?_append_right (by simpa using hl),List.length_map,List.getElem?_map] at e2
    change (NL++ix.map fun j=>X.N.getD j "")[i]?=some x at e1
    rw [List.getElem?_append_right hl,List.getElem?_map] at e1
    cases q:ix[i - NL.length]? with
    | none=>rw [q] at e1;cases e1
    | some j=>
      rw [q] at e1 e2
      have e1':X.N.getD j "" = x:=Option.some.inj e1
      have e2':σ.getD j none=some v:=Option.some.inj e2
      obtain ⟨x',hx',hfr⟩:=S.cap j (List.mem_of_getElem? q)
      have exx:x'=x:=by
        rw [← e1',List.getD_eq_getElem?_getD,hx'];rfl
      subst exx
      have hσ:σ[j]?=some (some v):=by
        rw [List.getD_eq_getElem?_getD] at e2'
        cases z:σ[j]? with
        | none=>rw [z] at e2';cases e2'
        | some o=>rw [z] at e2';exact congrArg some e2'
      have kd:=S.free _ (lookup_mem hfr) rfl
      have vis:Vis X.env.scope x':=by
        rcases kd with z | z
        · exact .inr (.inl z)
        · exact .inr (.inr z)
      obtain ⟨m',hn',hl'⟩:=I.loc
      obtain ⟨u,r,l⟩:=hl' j x' v hx' hσ vis
      refine ⟨u,r,.inr ?_⟩
      have hk':(compEnvC scope cl s₃.heap.objs.size X.env).kindOf x'=some .cell∨(compEnvC scope cl s₃.heap.objs.size X.env).kindOf x'=some .free:=by
        rcases e3 with z | z | z
        · rcases relabel_lookup z with w | ⟨w,_⟩
          · rw [hfr] at w;cases w
          · cases w
        · exact .inl z
        · exact .inr z
      refine ⟨hk',?_⟩
      obtain ⟨c,hc⟩:=c2 x' (lookup_mem hfr)
      rcases l with ⟨k,_⟩ | ⟨k,c',ec,o,ho',hd⟩
      · rcases kd with z | z
        · rw [k] at z;cases z
        · rw [k] at z;cases z
      · have:c'=c:=by
          have:=c1 x' c hc
          rw [ec] at this
          exact Option.some.inj this
        subst this
        exact ⟨c',hc,o,old _ _ ho',hd⟩
  · obtain ⟨v,o,ho',hd⟩:=I.cell x c (c1 x c e)
    exact ⟨v,o,old _ _ ho',hd⟩
  · have hp':p∈X.pn++pins:=by
      rcases List.mem_append.mp hp with z | z
      · exact z
      · exact nomatch z
    obtain ⟨e,n,ne,nf,d⟩:=I.pin p hp'
    exact ⟨old _ _ e,n,lt _ _ e,nst _ ne nf,d⟩
  · show (NL.map (fun _=>(none:Option V))++ix.map fun j=>σ.getD j none).length=(NL++ix.map fun j=>X.N.getD j "").length
    simp
theorem comp_run {scope:Scope} {NL:List Str} {ix:List Nat} {elt tg iter:Expr} {ifs:List Expr} {pos:Pos} {g:TG} {tt:TT} {te:TE} {cl:List (Str × Addr)} {fp:List Addr} {it:Addr} {tn:Nat→Heap→Prop} {J:It} {Q:VK}
    {E:Value→Shared→Prop} {RR:Value→Addr→Result→Shared→Prop}
    (hc:X.calm=true) (S:CompScope X scope NL ix) (c1:∀ x c,cl.lookup x=some c→X.env.cells.lookup x=some c) (c2:∀ x,(x,NameKind.free)∈scope.names→∃ c,cl.lookup x=some c)
    (hb:∀ (cl:List (Str × Addr)) (C:Addr) (s₃:Shared) (H₃:Hp) (fp:List Addr) (pins:List (Addr × Obj)),PG (cxComp X scope NL ix cl C s₃ H₃ fp pins) tg g∧PIfs (cxComp X scope NL ix cl C s₃ H₃ fp pins) ifs tt∧PE (cxComp X scope NL ix cl C s₃ H₃ fp pins) elt te)
    (I:Inv X pins σ H s) (T:Turn X.prog X.w X.K tg J fp it tn) (st:tn 0 s.heap) (hf:∀ b∈fp,FpOk X pins H b)
    (q:∀ acc,H acc=none→∃ W:Nat→Nat→List V→Hp→Prop,(∃ m,W 0 m [] (upd H acc (.lst []))) ∧
      ∀ i m ys H2,W i m ys H2→H2 acc=some (.lst ys)∧ys.length < sizeLine ∧
      ((J.stop i H2∧Q (.ref acc) H2)∨(J.go i H2∧∃ N:List V→Hp→Prop,(∀ ys' H',N ys' H'→∃ m',m' < m∧W (i+1) m' ys' H') ∧
        ∀ x H3,J.yld i H2 x H3→g x (comp0 NL ix σ) H3 fun σ' H4=>σ'.drop NL.length=ix.map (fun j=>σ.getD j none)∧tt σ' H4 fun b H5=>
          if b=true then te σ' H5 fun v H6=>H6 acc=some (.lst ys)∧N (ys++[v]) (upd H6 acc (.lst (ys++[v]))) else N ys H5)))
    (hRR:∀ (acc C:Addr) (H':Hp) (s':Shared) (m':Str→Option Value),Inv X pins σ H' s'→s'.heap.Ns C m'→FpOk X pins H' C→Q (.ref acc) H'→RR (.ref acc) C (.ok .next) s') :
    wpAny (model X.prog X.w) X.A (newList []) (fun acc s₃=>wpAny (model X.prog X.w) X.A (newFunctionEnv scope X.env.globals cl [] X.env.qual none .none (some X.env)) (fun cenv s₄=>
      codeAny (model X.prog X.w) X.A (.compStart (.ListComp elt [⟨tg,iter,ifs,0⟩] scope pos) 0 (.ref it) acc { cenv with scope:=relabel scope X.env }) (RR acc cenv.locals) s₄) E s₃) E s:=by
  refine wpAny_newObj_type (wpAny_newFunctionEnv S.cell (by intro y hy;simp at hy) (fun h₁ hns₁ hsb₁=>?_) S.kind)
  have I3:Inv X pins σ (upd H s.heap.objs.size (.lst [])) { s with heap:=s.heap.push { cls:=.type "list", data:=.seq ([]:List Value).toArray },toks:=s.toks }:=I.lnew (its:=[]) .nil (Nat.zero_le _)
  have hfr:H s.heap.objs.size=none:=I.hok.fresh (Nat.le_refl _)
  generalize hs3:({ s with heap:=s.heap.push { cls:=.type "list", data:=.seq ([]:List Value).toArray },toks:=s.toks }:Shared)=s₃ at I3
  have hsz:s₃.heap.objs.size=s.heap.objs.size+1:=by rw [← hs3];exact Heap.size_push ..
  have old1:∀ b o,s.heap.get? b=some o→s₃.heap.get? b=some o:=fun b o e=>by rw [← hs3];exact Heap.get?_push_of_some _ e
  have key:codeAny (model X.prog X.w) X.A (.compStart (.ListComp elt [⟨tg,iter,ifs,0⟩] scope pos) 0 (.ref it) (.ref s.heap.objs.size) (compEnvC scope cl s₃.heap.objs.size X.env))
      (RR (.ref s.heap.objs.size) s₃.heap.objs.size) { s₃ with heap:=h₁,toks:=s₃.toks+0 }:=by
    have hns:h₁.Ns s₃.heap.objs.size (fun _=>none):=by
      have:=hns₁
      rw [← hs3]
      exact this
    have hsb:Heap.SameBut s₃.heap.objs.size (s₃.heap.push { cls:=.type "dict", data:=.dict #[] }) h₁:=by
      have:=hsb₁
      rw [← hs3]
      exact this
    have old:∀ b o,s₃.heap.get? b=some o→h₁.get? b=some o:=fun b o e=>hsb.extBut b o (Nat.ne_of_lt (Heap.lt_size e)) (Heap.get?_push_of_some _ e)
    have hf3:∀ b∈fp,FpOk X pins (upd H s.heap.objs.size (.lst [])) b:=fun b hb'=>by
      obtain ⟨o,e,_⟩:=T.obj 0 _ st b hb'
      have ne:b≠s.heap.objs.size:=Nat.ne_of_lt (Heap.lt_size e)
      exact ⟨by rw [upd_ne ne];exact (hf b hb').1,(hf b hb').2⟩
    have ho3:∀ b∈fp,∃ o,s₃.heap.get? b=some o:=fun b hb'=>by
      obtain ⟨o,e,_⟩:=T.obj 0 _ st b hb'
      exact ⟨o,old1 b o e⟩
    have st1:tn 0 h₁:=T.keep 0 _ _ st fun b hb' o e=>old b o (old1 b o e)
    have I4:=comp_inv (tn:=tn) (tk:=s₃.toks+0) S I3 c1 c2 hf3 ho3 hns old
    obtain ⟨W,⟨m0,w0⟩,turn⟩:=q s.heap.objs.size hfr
    obtain ⟨hg,ht,he⟩:=hb cl s₃.heap.objs.size s₃ (upd H s.heap.objs.size (.lst [])) fp pins
    generalize hX':cxComp X scope NL ix cl s₃.heap.objs.size s₃ (upd H s.heap.objs.size (.lst [])) fp pins=X' at I4 hg ht he
    have p1:X'.prog=X.prog:=by rw [← hX'];rfl
    have p2:X'.w=X.w:=by rw [← hX'];rfl
    have p3:X'.K=X.K:=by rw [← hX'];rfl
    have p4:X'.A=X.A:=by rw [← hX'];rfl
    have p5:X'.env=compEnvC scope cl s₃.heap.objs.size X.env:=by rw [← hX'];rfl
    have p6:X'.calm=true:=by rw [← hX'];exact hc
    have p7:X'.xe=fun _ _=>False:=by rw [← hX'];rfl
    have stat:∀ {H':Hp},(∀ b∈fp,H' b=none)→∀ b∈fp,FpOk X' [] H' b:=fun {H'} hn b hb'=>by
      have z:=hf3 b hb'
      obtain ⟨o,eo⟩:=ho3 b hb'
      rw [← hX']
      refine ⟨hn b hb',Nat.ne_of_lt (Heap.lt_size eo),fun q=>(List.mem_cons.mp (I3.stkSub b q)).elim z.2.1 z.2.2.1,.inl hb',fun x c hx=>z.2.2.2.2.1 x c (c1 x c hx),fun p hp=>?_⟩
      rcases List.mem_append.mp hp with w | w
      · exact z.2.2.2.2.2 p w
      · exact nomatch w
    have fin:∀ i n ys H' s',Inv X' [] (comp0 NL ix σ) H' s'→W i n ys H'→Q (.ref s.heap.objs.size) H'→RR (.ref s.heap.objs.size) s₃.heap.objs.size (.ok .next) s':=fun i n ys H' s' I' w' q'=>by
      obtain ⟨m',hn',_⟩:=I'.loc
      have hos:s'.os=s₃.os:=by have:=I'.os;rw [← hX'] at this;exact this
      have hu:Un (frs X.stack) fp (upd H s.heap.objs.size (.lst [])) H' s₃.heap s'.heap:=by have:=I'.base;rw [← hX'] at this;exact this
      have hk:HOk X.prog X.w H' s'.heap:=by have:=I'.hok;rw [← hX'] at this;exact this
      have hfC:H' s₃.heap.objs.size=none:=by have:=I'.free;rw [← hX'] at this;exact this
      have hnC:s'.heap.Ns s₃.heap.objs.size m':=by rw [p5] at hn';exact hn'
      exact hRR _ _ H' s' m' (I3.call' hos hu hk I'.bare fun b hb'=>⟨(hf3 b hb').2.2.2.1,(hf3 b hb').2.1,(hf3 b hb').2.2.2.2.1,(hf3 b hb').2.2.2.2.2⟩) hnC (I3.fpOk (Nat.le_refl _) hfC) q'
    have loop:∀ s₄:Shared,Inv X' [] (comp0 NL ix σ) (upd H s.heap.objs.size (.lst [])) s₄→tn 0 s₄.heap→codeAny (model X.prog X.w) X.A (.compLoop (.ListComp elt [⟨tg,iter,ifs,0⟩] scope pos) 0 (.ref it) (.ref s.heap.objs.size) (compEnvC scope cl s₃.heap.objs.size X.env))
        (RR (.ref s.heap.objs.size) s₃.heap.objs.size) s₄:=fun s₄ I4 st1=>by
      refine codeAny_loop rfl (fun n s'=>∃ i ys H',Inv X' [] (comp0 NL ix σ) H' s'∧tn i s'.heap∧(∀ b∈fp,H' b=none)∧W i n ys H') (fun n s' hI=>?_) m0 ⟨0,[],_,I4,st1,fun b hb'=>(hf3 b hb').1,w0⟩
      obtain ⟨i,ys,H',I',st',fr',w'⟩:=hI
      show wpAny _ X.A ((compTurn (.ListComp elt [⟨tg,iter,ifs,0⟩] scope pos) 0 (.ref it) (.ref s.heap.objs.size) (compEnvC scope cl s₃.heap.objs.size X.env)).onRaise (fun x=>do noteFrame x (compEnvC scope cl s₃.heap.objs.size X.env);theTreesLotGoes x)) _ _ s'
      refine wpAny_noted ?_
      rw [compTurn_list]
      obtain ⟨hacc,hz8,alt⟩:=turn i n ys H' w'
      rcases alt with ⟨stop,qn⟩ | ⟨go,N,hN,step⟩
      · have d:=T.done X' p1 p2 p3 p6 i [] s' (comp0 NL ix σ) H' (notedBy (model X.prog X.w) X.A (compEnvC scope cl s₃.heap.objs.size X.env) fun e s'=>RR (.ref s.heap.objs.size) s₃.heap.objs.size (.error e) s') I' (stat fr') st' stop
        rw [p4] at d
        refine wpAny_bind (wpAny_standAt (wpAny_bind (thn d fun r s1 ⟨hr,I1⟩=>?_)))
        subst hr
        exact wpAny_pure (fin i n ys H' s1 I1 w' qn)
      · have d:=T.item X' p1 p2 p3 p6 i [] s' (comp0 NL ix σ) H' (notedBy (model X.prog X.w) X.A (compEnvC scope cl s₃.heap.objs.size X.env) fun e s'=>RR (.ref s.heap.objs.size) s₃.heap.objs.size (.error e) s') I' (stat fr') st' go
        rw [p4] at d
        refine wpAny_bind (wpAny_standAt (wpAny_bind (thn d fun r s1 ⟨u,hr,h4⟩=>?_)))
        subst hr
        refine wpAny_bind (thn h4 fun _ s5 ⟨x,H5,I5,r5,y5,st5,fr5⟩=>?_)
        have I5':=I5.pinned (stat fr5) (T.obj _ _ st5)
        have nofail:∀ {α:Type} {t:Sem α} {R:α→Shared→Prop} {sx:Shared},wpAny (model X'.prog X'.w) X'.A t R X'.xe sx→wpAny (model X.prog X.w) X.A t R (notedBy (model X.prog X.w) X.A (compEnvC scope cl s₃.heap.objs.size X.env) fun e s'=>RR (.ref s.heap.objs.size) s₃.heap.objs.size (.error e) s') sx:=fun {α t R sx} hh=>by
          rw [p1,p2,p4,p7] at hh
          exact wpAny_mono hh (fun _ _ z=>z) fun _ _ z=>z.elim
        have again:∀ {σ7:St} {H7:Hp} {s7:Shared} {ys':List V},σ7.drop NL.length=ix.map (fun j=>σ.getD j none)→Inv X' ([]++pinsAt fp s5.heap) σ7 H7 s7→(∃ m',m' < n∧W (i+1) m' ys' H7)→∃ m,m < n∧∃ i ys H',Inv X' [] (comp0 NL ix σ) H' s7∧tn i s7.heap∧(∀ b∈fp,H' b=none)∧W i m ys H':=fun {σ7 H7 s7 ys'} hσ I7 n7=>by
          obtain ⟨m',hm,w7⟩:=n7
          have Iw:Inv X' ([]++pinsAt fp s5.heap) (comp0 NL ix σ) H7 s7:=I7.weak (by rw [I7.len,I'.len]) fun j v hj=>by
            have hlj:NL.length≤j:=by
              rcases Nat.lt_or_ge j NL.length with z | z
              · exfalso
                unfold comp0 at hj
                rw [List.getElem?_append_left (by simpa using z),List.getElem?_map] at hj
                cases q:NL[j]? with
                | none=>rw [q] at hj;cases hj
                | some y=>rw [q] at hj;cases hj
              · exact z
            unfold comp0 at hj
            rw [List.getElem?_append_right (by simpa using hlj),List.length_map,← hσ,List.getElem?_drop] at hj
            rw [← hj]
            congr 1
            omega
          refine ⟨m',hm,i+1,ys',H7,Iw.unpinned,T.keep _ _ _ st5 fun b hb' o e=>(I7.pin (b,o) (List.mem_append_right _ (List.mem_append_right _ (mem_pinsAt hb' e)))).1,fun b hb'=>?_,w7⟩
          obtain ⟨o,e,d⟩:=T.obj _ _ st5 b hb'
          exact (I7.pin (b,o) (List.mem_append_right _ (List.mem_append_right _ (mem_pinsAt hb' e)))).2.1
        have hg':=nofail (hg _ s5 (comp0 NL ix σ) H5 x u _ I5' r5 (step x H5 y5))
        rw [p5] at hg'
        refine wpAny_bind (thn hg' fun _ s6 ⟨σ6,H6,I6,hσ6,q6⟩=>?_)
        have ht':=nofail (ht _ s6 σ6 H6 _ I6 q6)
        rw [p5] at ht'
        refine wpAny_bind (thn ht' fun ok s7 ⟨H7,I7,q7⟩=>?_)
        cases ok with
        | false=>
          have q7':N ys H7:=by simpa using q7
          exact wpAny_pure ⟨rfl,again hσ6 I7 (hN _ _ q7')⟩
        | true=>
          have q7':=(if_pos rfl).mp q7
          have he':=nofail (he _ s7 σ6 H7 _ I7 q7')
          rw [p5] at he'
          refine wpAny_bind (wpAny_bind (thn he' fun v s8 ⟨y,H8,I8,r8,ha8,q8⟩=>?_))
          have ap:=nofail (mt_append _ s8 σ6 H8 (.ref s.heap.objs.size) [y] (.ref s.heap.objs.size) [v] (fun _ H9=>H9=upd H8 s.heap.objs.size (.lst (ys++[y]))) I8 rfl (.cons r8 .nil) ⟨_,ys,y,rfl,rfl,ha8,hz8,rfl⟩)
          refine wpAny_bind (thn ap fun _ s9 ⟨z,H9,I9,r9,e9⟩=>wpAny_pure (wpAny_pure ⟨rfl,?_⟩))
          subst e9
          exact again hσ6 I9 (hN _ _ q8)
    exact codeAny_compStart_list (loop _ I4 st1) (T.self X.A 0 _ _ _ st1 (loop _ I4 st1))
  exact key
theorem pe_comp {scope:Scope} {NL:List Str} {ix:List Nat} {elt tg iter:Expr} {ifs:List Expr} {pos:Pos} {wi:TI} {g:TG} {tt:TT} {te:TE}
    (hc:X.calm=true) (hi:PI X tg iter wi) (S:CompScope X scope NL ix)
    (hb:∀ (cl:List (Str × Addr)) (C:Addr) (s₃:Shared) (H₃:Hp) (fp:List Addr) (pins:List (Addr × Obj)),PG (cxComp X scope NL ix cl C s₃ H₃ fp pins) tg g∧PIfs (cxComp X scope NL ix cl C s₃ H₃ fp pins) ifs tt∧PE (cxComp X scope NL ix cl C s₃ H₃ fp pins) elt te)
    (hs:∀ x,foldedSetIterable iter X.env x=pure x:=by intro _;rfl):PE X (.ListComp elt [⟨tg,iter,ifs,0⟩] scope pos) (tComp NL ix wi g tt te):=by
  intro pins s σ H Q I h
  obtain ⟨cl,hcl,c1,c2⟩:=closure_ok (scope:=scope) (env:=X.env) fun x hx=>by
    rcases S.free _ hx rfl with z | z
    · exact I.ok.has x (.inl z)
    · exact I.ok.has x (.inr z)
  rw [eval_ListComp]
  refine wpAny_comprehension_free (use:=none) rfl hs hcl S.kind S.names (thn (hi pins s σ H _ I h) fun xv s1 h1=>thn h1 fun itv s2 h2=>?_)
  obtain ⟨it,fp,tn,J,H2,rfl,I2,T,st2,f2,q⟩:=h2
  refine comp_run (RR:=fun acc C=>compPost (model X.prog X.w) X.A X.xe none (EP X pins σ Q) acc C) hc S c1 c2 hb I2 T st2 f2 q ?_
  intro acc C H' s' m' I' hn fC q'
  refine ⟨m',hn,fun h' sb=>⟨.ref acc,H',?_,rfl,q'⟩⟩
  exact I'.turned (t':=s'.toks) (fun b o hb e=>sb.extBut b o hb e) fC.1 fC.2.1 fC.2.2.2.1 fC.2.2.2.2.1 fC.2.2.2.2.2
theorem ps_comp {i:Nat} {y:Str} {py spos:Pos} {scope:Scope} {NL:List Str} {ix:List Nat} {elt tg iter:Expr} {ifs:List Expr} {pos:Pos} {wi:TI} {g:TG} {tt:TT} {te:TE}
    (hN:X.N.Nodup) (hiy:X.N[i]?=some y) (hy:Loc X.env.scope y)
    (hc:X.calm=true) (hi:PI X tg iter wi) (S:CompScope X scope NL ix)
    (hb:∀ (cl:List (Str × Addr)) (C:Addr) (s₃:Shared) (H₃:Hp) (fp:List Addr) (pins:List (Addr × Obj)),PG (cxComp X scope NL ix cl C s₃ H₃ fp pins) tg g∧PIfs (cxComp X scope NL ix cl C s₃ H₃ fp pins) ifs tt∧PE (cxComp X scope NL ix cl C s₃ H₃ fp pins) elt te)
    (hsw:swapsWith (.ListComp elt [⟨tg,iter,ifs,0⟩] scope pos) (some (.Name y py)) spos.line X.env=pure true:=by rfl)
    (hs:∀ x,foldedSetIterable iter X.env x=pure x:=by intro _;rfl)
    (hf:X.fn y=true∨X.env.scope.names.lookup y=some .local:=by first | exact .inl rfl | exact .inr rfl | assumption) :
    PS X (.Assign [.Name y py] (.ListComp elt [⟨tg,iter,ifs,0⟩] scope pos) spos) (tAsg (tComp NL ix wi g tt te) (gName i)):=by
  intro pins s σ H D I h
  obtain ⟨cl,hcl,c1,c2⟩:=closure_ok (scope:=scope) (env:=X.env) fun x hx=>by
    rcases S.free _ hx rfl with z | z
    · exact I.ok.has x (.inl z)
    · exact I.ok.has x (.inr z)
  rw [exec_Assign_Name_used _ _ _ _ hsw]
  refine wpAny_bind (wpAny_standAt (wpAny_bind ?_))
  show wpAny _ X.A (do let _ ← comprehension (.ListComp elt [⟨tg,iter,ifs,0⟩] scope pos) scope X.env _ (newList []) false (eval iter X.env) (some (assign (.Name y py) X.env))) _ _ s
  refine wpAny_bind (thn (wpAny_comprehension_free (use:=some (assign (.Name y py) X.env)) (Q:=fun _ s'=>SP X pins D .next s') rfl hs hcl S.kind S.names
    (thn (hi pins s σ H _ I h) fun xv s1 h1=>thn h1 fun itv s2 h2=>?_)) fun _ s' hq=>wpAny_pure (wpAny_pure hq))
  obtain ⟨it,fp,tn,J,H2,rfl,I2,T,st2,f2,q⟩:=h2
  refine comp_run (RR:=fun acc C=>compPost (model X.prog X.w) X.A X.xe (some (assign (.Name y py) X.env)) (fun _ s'=>SP X pins D .next s') acc C) (Q:=fun x H1=>gName i x σ H1 D.nx) hc S c1 c2 hb I2 T st2 f2 q ?_
  intro acc C H' s' m' I' hn fC q'
  show wpAny _ X.A (assign (.Name y py) X.env (.ref acc)) _ _ _
  refine wpAny_assign_Name (store_ok2 I' hN hiy hy (v:=.ref acc) rfl (fun s'' I'' hsb=>?_) hf)
  obtain ⟨a,sb,ha⟩:=hsb
  have hne:C≠a:=by
    rcases ha with z | z
    · rw [z];exact fC.2.1
    · exact fun w=>fC.2.2.2.2.1 y a z w.symm
  refine ⟨m',hn.sameBut sb hne,fun h' sb'=>⟨_,H',?_,q'⟩⟩
  exact I''.turned (t':=s''.toks) (fun b o hb e=>sb'.extBut b o hb e) fC.1 fC.2.1 fC.2.2.2.1 fC.2.2.2.2.1 fC.2.2.2.2.2
theorem comp_by {J:It} {NL:List Str} {ix:List Nat} {g:TG} {tt:TT} {te:TE} {σ:St} {H1:Hp} {Qs:Hp→Prop} {acc:Addr} (n:Nat) (hn:n < 1000) (Pv:Nat→List V→Hp→Prop)
    (hacc:∀ i ys H2,Pv i ys H2→H2 acc=some (.lst ys)∧ys.length≤i) (h0:Pv 0 [] (upd H1 acc (.lst []))) (hstop:∀ ys H2,Pv n ys H2→J.stop n H2∧Qs H2)
    (hturn:∀ i ys H2,i < n→Pv i ys H2→J.go i H2∧∀ x H3,J.yld i H2 x H3→g x (comp0 NL ix σ) H3 fun σ' H4=>σ'.drop NL.length=ix.map (fun j=>σ.getD j none)∧tt σ' H4 fun b H5=>
      if b=true then te σ' H5 fun v H6=>H6 acc=some (.lst ys)∧Pv (i+1) (ys++[v]) (upd H6 acc (.lst (ys++[v]))) else Pv (i+1) ys H5) :
    ∃ W:Nat→Nat→List V→Hp→Prop,(∃ m,W 0 m [] (upd H1 acc (.lst []))) ∧
    ∀ i m ys H2,W i m ys H2→H2 acc=some (.lst ys)∧ys.length < sizeLine ∧
      ((J.stop i H2∧Qs H2)∨(J.go i H2∧∃ N:List V→Hp→Prop,(∀ ys' H',N ys' H'→∃ m',m' < m∧W (i+1) m' ys' H') ∧
        ∀ x H3,J.yld i H2 x H3→g x (comp0 NL ix σ) H3 fun σ' H4=>σ'.drop NL.length=ix.map (fun j=>σ.getD j none)∧tt σ' H4 fun b H5=>
          if b=true then te σ' H5 fun v H6=>H6 acc=some (.lst ys)∧N (ys++[v]) (upd H6 acc (.lst (ys++[v]))) else N ys H5)):=by
  refine ⟨fun i m ys H2=>i≤n∧m=n - i∧Pv i ys H2,⟨n,Nat.zero_le _,rfl,h0⟩,fun i m ys H2 ⟨hi,hm,hp⟩=>?_⟩
  obtain ⟨a1,a2⟩:=hacc i ys H2 hp
  refine ⟨a1,small1000 (by omega),?_⟩
  rcases Nat.lt_or_ge i n with lt | ge
  · obtain ⟨go,tn⟩:=hturn i ys H2 lt hp
    exact .inr ⟨go,Pv (i+1),fun ys' H' hN=>⟨n - (i+1),by omega,by omega,rfl,hN⟩,tn⟩
  · have e:i=n:=by omega
    subst e
    exact .inl (hstop ys H2 hp)
end
end L2
namespace L2
open PySem PySem.Spec PyProof.Rows
section
variable {prog:Program} {w:World} {A:Around} {E:Value→Shared→Prop} {s:Shared}
theorem nextOf_tuple_item {it t:Addr} {i:Nat} {items:Array Value} {x:Value} {Q:Value→Shared→Prop} (hit:s.heap.IsTupleIter it t i)
    (ht:s.heap.IsTuple t items) (hx:items[i]?=some x)
    (hQ:∀ h',h'.IsTupleIter it t (i+1)→Heap.SameBut it s.heap h'→Q x { s with heap:=h' }) :
    wpAny (model prog w) A (Builtin.SmallTypes.nextOf (.ref it)) Q E s:=by
  obtain ⟨o,ho,hc,hd⟩:=id hit
  obtain ⟨ol,hol,_,nl,hdl⟩:=ht
  unfold Builtin.SmallTypes.nextOf
  refine wpAny_bind (wpAny_callSpecial?_slot (name:=Str.ofString "__next__") hit.typeIs F.slot_tuple_iterator_next
    (wpAny_call_entry F.slot_tuple_iterator_next hit.typeIs F.entry_tuple_iterator_next ?_ (F.args_tuple_iterator_next_1 _)))
  show wpAny _ _ (field (.ref it) 0 >>= _) _ _ s
  refine wpAny_bind (wpAny_field ho hd (x:=.ref t) rfl ?_)
  show wpAny _ _ (if (Value.ref t == Value.none)=true then _ else _) _ _ s
  rw [if_neg (show ¬ ((Value.ref t == Value.none)=true) from Bool.false_ne_true)]
  show wpAny _ _ (field (.ref it) 1 >>= _) _ _ s
  refine wpAny_bind (wpAny_field ho hd (x:=.int i 0) rfl ?_)
  show wpAny _ _ (seqItems? (.ref t) >>= _) _ _ s
  refine wpAny_bind (wpAny_seqItems hol hdl ?_)
  simp only [Int.toNat_natCast,hx]
  refine wpAny_bind (wpAny_setField ho hd (by simp) (wpAny_pure ⟨x,rfl,wpAny_pure (hQ _ ?_ (Heap.SameBut.update ..))⟩))
  exact ⟨_,Heap.get?_update_self _ ho (Obj.isFreed_of_fields (Obj.data_mapFields hd _)),(Obj.cls_mapFields ..).trans hc,by
    rw [Obj.data_mapFields hd];simp [rawInt]⟩
theorem nextOf_tuple_end {it t:Addr} {i:Nat} {items:Array Value} {Q:Value→Shared→Prop} (hh:A.handled=none)
    (hit:s.heap.IsTupleIter it t i) (ht:s.heap.IsTuple t items) (hx:items[i]?=none)
    (hE:∀ h' e,Heap.ExtBut it s.heap h'→(∃ o,h'.get? e=some o∧o.cls=.type "StopIteration")→E (.ref e) { s with heap:=h' }) :
    wpAny (model prog w) A (Builtin.SmallTypes.nextOf (.ref it)) Q E s:=by
  obtain ⟨o,ho,hc,hd⟩:=id hit
  obtain ⟨ol,hol,_,nl,hdl⟩:=ht
  unfold Builtin.SmallTypes.nextOf
  refine wpAny_bind (wpAny_callSpecial?_slot (name:=Str.ofString "__next__") hit.typeIs F.slot_tuple_iterator_next
    (wpAny_call_entry F.slot_tuple_iterator_next hit.typeIs F.entry_tuple_iterator_next ?_ (F.args_tuple_iterator_next_1 _)))
  show wpAny _ _ (field (.ref it) 0 >>= _) _ _ s
  refine wpAny_bind (wpAny_field ho hd (x:=.ref t) rfl ?_)
  show wpAny _ _ (if (Value.ref t == Value.none)=true then _ else _) _ _ s
  rw [if_neg (show ¬ ((Value.ref t == Value.none)=true) from Bool.false_ne_true)]
  show wpAny _ _ (field (.ref it) 1 >>= _) _ _ s
  refine wpAny_bind (wpAny_field ho hd (x:=.int i 0) rfl ?_)
  show wpAny _ _ (seqItems? (.ref t) >>= _) _ _ s
  refine wpAny_bind (wpAny_seqItems hol hdl ?_)
  simp only [Int.toNat_natCast,hx]
  refine wpAny_bind (wpAny_rule (wpAny_bind (wpAny_setField ho hd (by simp) ?_)))
  show wpAny _ _ (newExc (.type "StopIteration") [] >>= _) _ _ _
  refine wpAny_bind ?_
  simp only [newExc,newTuple]
  refine wpAny_bind (wpAny_newObj_type ?_ (by size_fits))
  refine wpAny_bind (m:=firstArgMember _ _) (wpAny_of_eq (a:=Value.none) (by first | rfl | (simp only [firstArgMember];rfl)) ?_)
  refine wpAny_newObj_type ?_ (by size_fits)
  simp only [raiseNew]
  refine wpAny_bind (wpAny_handled ?_)
  first | rw [show A.in1.handled=none from hh] | rw [hh]
  refine wpAny_bind (wpAny_pure (wpAny_throw ?_))
  exact hE _ _ (((Heap.SameBut.update ..).extBut.push _).push _) ⟨_,Heap.get?_push_size _ rfl,rfl⟩
end
theorem draws_tuple {prog:Program} {w:World} {A:Around} (hh:A.handled=none) (it l:Addr) (hne:l≠it) (items:Array Value) :
    Draws prog w A it [it,l] items.size (fun i v=>items[i]?=some v) (fun i h=>h.IsTupleIter it l i∧h.IsTuple l items) where
  live:=fun _ _ st=>let ⟨o,ho,_⟩:=st.1;⟨o,ho⟩
  frame:=fun _ _ _ st hk=>⟨st.1.at fun o e=>hk it (by simp) o e,let ⟨o,ho,r⟩:=st.2;⟨o,hk l (by simp) o ho,r⟩⟩
  item:=fun i s Q E hi st hQ=>by
    refine nextOf_tuple_item st.1 st.2 (x:=items[i]) (by simp [hi]) fun h' hit' hs'=>?_
    exact hQ _ h' s.toks (by simp [hi]) ⟨hit',st.2.extBut hs'.extBut hne⟩ hs'
  done:=fun s Q E st hE=>nextOf_tuple_end hh st.1 st.2 (by simp) hE
theorem draws_str {prog:Program} {w:World} {A:Around} (hh:A.handled=none) (it:Addr) (x:Str) (t:Tok) :
    Draws prog w A it [it] x.cps.size (fun i v=>∃ c u,x.cps[i]?=some c∧v=.str ⟨#[c]⟩ u) (fun i h=>h.IsStrIter it (strIterType x) x t i):=by
  unfold strIterType
  cases x.cps.all (· < 128) with
  | true=>exact Draws.strAscii hh it x t
  | false=>exact Draws.strWide hh it x t
inductive SK where
  | lst (a:Addr) | tup (a:Addr) | str (x:Str)
def SK.val:SK→V
  | .lst a=>.ref a
  | .tup a=>.ref a
  | .str x=>.str x
def signs (x:Str):List V:=x.cps.toList.map fun c=>.str ⟨#[c]⟩
def SK.has (H:Hp):SK→List V→Prop
  | .lst a,xs=>Rd H a (.lst xs)
  | .tup a,xs=>Rd H a (.tup xs)
  | .str x,xs=>xs=signs x
def SK.own (it:Addr) (k:Nat) (h:Heap):SK→Prop
  | .lst a=>h.IsListIter it a k
  | .tup a=>h.IsTupleIter it a k
  | .str x=>∃ t,h.IsStrIter it (strIterType x) x t k
theorem SK.own_at {it:Addr} {k:Nat} {h h':Heap} {κ:SK} (x:κ.own it k h) (e:∀ o,h.get? it=some o→h'.get? it=some o):κ.own it k h':=by
  cases κ with
  | lst a=>exact Heap.IsListIter.at x e
  | tup a=>exact Heap.IsTupleIter.at x e
  | str y=>obtain ⟨t,o,ho,r⟩:=x;exact ⟨t,o,e o ho,r⟩
theorem SK.own_obj {it:Addr} {k:Nat} {h:Heap} {κ:SK} (x:κ.own it k h):∃ o,h.get? it=some o∧(∀ v,o.data≠.cell v)∧o.cls≠.type "tuple" ∧ o.cls≠.type "zip" ∧ o.cls≠.type "enumerate" := by
  cases κ with
  | lst a=>obtain ⟨o,ho,c,d⟩:=x;exact ⟨o,ho,(fun v z=>by rw [d] at z;cases z),(fun z=>by rw [c] at z;simp at z),(fun z=>by rw [c] at z;simp at z),(fun z=>by rw [c] at z;simp at z)⟩
  | tup a=>obtain ⟨o,ho,c,d⟩:=x;exact ⟨o,ho,(fun v z=>by rw [d] at z;cases z),(fun z=>by rw [c] at z;simp at z),(fun z=>by rw [c] at z;simp at z),(fun z=>by rw [c] at z;simp at z)⟩
  | str y=>
    obtain ⟨t,o,ho,c,d⟩:=x
    refine ⟨o,ho,(fun v z=>by rw [d] at z;cases z),?_,?_,?_⟩ <;>
    · intro z
      rw [c] at z
      unfold strIterType at z
      split at z <;> simp at z
theorem Rd.inj {H:Hp} {a:Addr} {u v:HO} (hu:∀ o w,u≠.frz o w) (hv:∀ o w,v≠.frz o w) (x:Rd H a u) (y:Rd H a v):u=v:=by
  rcases x with x | ⟨o,x⟩ <;> rcases y with y | ⟨p,y⟩ <;> rw [x] at y
  · exact Option.some.inj y
  · exact absurd (Option.some.inj y) (hu p v)
  · exact absurd (Option.some.inj y).symm (hv o u)
  · have:=Option.some.inj y
    injection this
theorem SK.inj {H:Hp} {κ:SK} {xs ys:List V} (x:κ.has H xs) (y:κ.has H ys):xs=ys:=by
  cases κ with
  | lst a=>have:=Rd.inj (u:=.lst xs) (v:=.lst ys) (fun _ _ z=>nomatch z) (fun _ _ z=>nomatch z) x y;injection this
  | tup a=>have:=Rd.inj (u:=.tup xs) (v:=.tup ys) (fun _ _ z=>nomatch z) (fun _ _ z=>nomatch z) x y;injection this
  | str z=>exact Eq.trans x (Eq.symm y)
def SK.box:SK→List Addr
  | .lst a=>[a]
  | .tup a=>[a]
  | .str _=>[]
theorem SK.box_some {H:Hp} {κ:SK} {xs:List V} (x:κ.has H xs) {b:Addr} (hb:b∈κ.box):H b≠none:=by
  cases κ with
  | lst a => have e:b=a:=by simpa [SK.box] using hb
             subst e;intro z;rcases x with q | ⟨o,q⟩ <;> (rw [z] at q;cases q)
  | tup a => have e:b=a:=by simpa [SK.box] using hb
             subst e;intro z;rcases x with q | ⟨o,q⟩ <;> (rw [z] at q;cases q)
  | str z=>simp [SK.box] at hb
section
variable {X:Cx} {pins:List (Addr × Obj)} {σ:St} {H:Hp} {s:Shared}
theorem sk_draws {κ:SK} {it:Addr} {k:Nat} {xs:List V} {A:Around} (I:Inv X pins σ H s) (hv:κ.has H xs) (hit:κ.own it k s.heap) (hn:H it=none) (hh:A.handled=none) :
    ∃ (P:Nat→Value→Prop) (St:Nat→Heap→Prop),Draws X.prog X.w A it (it :: κ.box) xs.length P St∧St k s.heap∧(∀ i u,P i u→∃ x,xs[i]?=some x∧RelV x u)∧(∀ i h,St i h→κ.own it i h):=by
  have ne:∀ b∈κ.box,b≠it:=fun b hb z=>SK.box_some hv hb (by rw [z];exact hn)
  cases κ with
  | lst a=>
    obtain ⟨_,its,n,r,e⟩:=Rd.ok hv I.hok
    have hl:s.heap.IsList a its.toArray:=⟨_,e,rfl,n,rfl⟩
    have D:=Draws.list (prog:=X.prog) (w:=X.w) hh it a (ne a (by simp [SK.box])) its.toArray
    rw [List.size_toArray,← r.length] at D
    refine ⟨_,_,D,⟨hit,hl⟩,fun i u hu=>?_,fun i h st=>st.1⟩
    · have hu':its[i]?=some u:=by simpa using hu
      have hlt:i < xs.length:=by rw [r.length];exact (List.getElem?_eq_some_iff.mp hu').1
      obtain ⟨u',e1,e2⟩:=r.get (List.getElem?_eq_getElem hlt)
      rw [hu'] at e1;cases e1
      exact ⟨_,List.getElem?_eq_getElem hlt,e2⟩
  | tup a=>
    obtain ⟨_,its,r,ht⟩:=Rd.ok hv I.hok
    have hl:s.heap.IsTuple a its.toArray:=ht
    have D:=draws_tuple (prog:=X.prog) (w:=X.w) hh it a (ne a (by simp [SK.box])) its.toArray
    rw [List.size_toArray,← r.length] at D
    refine ⟨_,_,D,⟨hit,hl⟩,fun i u hu=>?_,fun i h st=>st.1⟩
    · have hu':its[i]?=some u:=by simpa using hu
      have hlt:i < xs.length:=by rw [r.length];exact (List.getElem?_eq_some_iff.mp hu').1
      obtain ⟨u',e1,e2⟩:=r.get (List.getElem?_eq_getElem hlt)
      rw [hu'] at e1;cases e1
      exact ⟨_,List.getElem?_eq_getElem hlt,e2⟩
  | str z=>
    obtain ⟨t,hit⟩:=hit
    have hv':xs=signs z:=hv
    subst hv'
    have D:=draws_str (prog:=X.prog) (w:=X.w) hh it z t
    have e:(signs z).length=z.cps.size:=by simp [signs]
    rw [← e] at D
    refine ⟨_,_,D,hit,fun i u hu=>?_,fun i h st=>⟨t,st⟩⟩
    · obtain ⟨c,u',hc,rfl⟩:=hu
      refine ⟨.str ⟨#[c]⟩,?_,⟨u',rfl⟩⟩
      simp only [signs,List.getElem?_map,Array.getElem?_toList,hc,Option.map_some]
theorem Inv.turnedNew {ch:List Addr} {p:Addr} {o:HO} {h':Heap} {tk:Nat} (I:Inv X pins σ H s)
    (hch:∀ b∈ch,FpOk X pins H b) (k:∀ b ob,b ∉ ch→s.heap.get? b=some ob→h'.get? b=some ob) (hp:s.heap.objs.size≤p) (new:ObjOk X.prog X.w (upd H p o) h' p o) :
    Inv X pins σ (upd H p o) { s with heap:=h',toks:=tk }:=by
  have hn:H p=none:=I.hok.fresh hp
  refine I.call (g':=s.gens) (d':=s.drawn) (ch:=ch) ⟨fun b u q _ _ hx=>k b u hx q,fun b u q _ _ hx=>⟨u.slots,k b u hx q⟩,fun b u q n _=>?_,fun b u q hx=>⟨u,k b u hx q⟩,fun b xs q=>?_,fun b u xs q=>?_,fun b ps q=>⟨#[],?_⟩⟩ (fun b u e=>?_) I.bare
    fun b hb=>⟨(hch b hb).2.2.2.1,(hch b hb).2.1,(hch b hb).2.2.2.2.1,(hch b hb).2.2.2.2.2⟩
  · rw [upd_ne (Nat.ne_of_lt (Nat.lt_of_lt_of_le (Heap.lt_size q) hp))];exact n
  · rw [upd_ne (ne_of_none q hn)];exact q
  · rw [upd_ne (ne_of_none q hn)];exact q
  · rw [upd_ne (ne_of_none q hn),q];simp
  · by_cases hb:b=p
    · subst hb;rw [upd_same] at e;cases e;exact new
    · rw [upd_ne hb] at e
      refine (I.hok b u e).stay (fun c v hc q=>k c v (fun hm=>?_) q) (fun c q=>by rw [upd_ne (ne_of_none q hn)];exact q) fun c xs q=>by rw [upd_ne (ne_of_none q hn)];exact q
      have z:=(hch c hm).1
      rcases hc with hc | hc
      · rw [hc,e] at z;cases z
      · rw [hc] at z;cases z
end
def Ite (κ:SK):It:=
  ⟨fun i H=>∃ xs x,κ.has H xs∧xs[i]?=some x,fun i H v H'=>∃ p x,v=.ref p∧H p=none∧H'=upd H p (.tup [.int i,x])∧∀ xs,κ.has H xs→xs[i]?=some x,fun i H=>∃ xs,κ.has H xs∧xs.length=i⟩
theorem turn_enum {P:Program} {w:World} {K:PySem.W.Frag} {elts:List Expr} {x1:Nat} {tpos:Pos} (κ:SK) (e it:Addr) (hei:e≠it) :
    Turn P w K (.Tuple elts x1 tpos) (Ite κ) [e,it] e (fun i h=>(∃ old,IsEnum h e it i old)∧κ.own it i h) where
  mem:=by simp
  obj:=fun i h st b hb=>by
    obtain ⟨⟨old,he⟩,ho⟩:=st
    simp only [List.mem_cons,List.not_mem_nil,or_false] at hb
    rcases hb with rfl | rfl
    · exact ⟨_,he,fun v z=>by
        have z':Data.fields _=Data.cell v:=z
        cases z'⟩
    · obtain ⟨o,h1,h2,_⟩:=SK.own_obj ho
      exact ⟨o,h1,h2⟩
  keep:=fun i h h' st k=>by
    obtain ⟨⟨old,he⟩,ho⟩:=st
    exact ⟨⟨old,k e (by simp) _ he⟩,SK.own_at ho fun o q=>k it (by simp) o q⟩
  item:=by
    intro X hP hw hK hc i pins s σ H E I hf st hg
    subst hP hw hK
    obtain ⟨⟨old,he⟩,ho⟩:=st
    obtain ⟨xs,x,hx,hxi⟩:=hg
    have hlt:i < xs.length:=(List.getElem?_eq_some_iff.mp hxi).1
    have hh:X.A.in1.handled=none:=I.ok.hd hc
    obtain ⟨Pp,St,D,hst,hrel,hown⟩:=sk_draws (A:=X.A.in1) I hx ho (hf it (by simp)).1 hh
    have hef:e ∉ it :: κ.box:=fun z=>by
      rcases List.mem_cons.mp z with z | z
      · exact hei z
      · exact SK.box_some hx z (hf e (by simp)).1
    refine wpAny_pyNext_enum_itemD D he hst hlt hei hef fun y h' tk hy ho' hst' hT hsz hk=>⟨_,rfl,?_⟩
    refine wpAny_letOwnedTupleGo_enum ho' fun h'' he'' hs''=>?_
    obtain ⟨x',hx',rx⟩:=hrel i y hy
    have exx:x'=x:=Option.some.inj (hx'.symm.trans hxi)
    subst exx
    have kk:∀ b ob,b ∉ [e,it]→s.heap.get? b=some ob→h''.get? b=some ob:=fun b ob hb q=>
      (hs''.2 b (fun z=>hb (by simp [z]))).trans (hk b ob (fun z=>hb (by simp [z])) (fun z=>hb (by simp [z])) q)
    have ne:s.heap.objs.size≠e:=Nat.ne_of_gt (Heap.lt_size he)
    have hT':h''.get? s.heap.objs.size=some { cls:=.type "tuple", data:=.seq #[.int i tk,y] }:=(hs''.2 _ ne).trans hT
    refine ⟨.ref s.heap.objs.size,upd H s.heap.objs.size (.tup [.int i,x']),I.turnedNew (tk:=tk+1) hf kk (Nat.le_refl _) ⟨⟨(by show 2≤sizeLine;decide),_,hT',rfl⟩,[.int i tk,y],.cons ⟨tk,rfl⟩ (.cons rx .nil),_,hT',rfl,0,rfl⟩,rfl,
      ⟨_,x',rfl,I.hok.fresh (Nat.le_refl _),rfl,fun ys hy'=>by rw [SK.inj hy' hx];exact hxi⟩,⟨⟨y,by simpa using he''⟩,SK.own_at (hown _ _ hst') fun o q=>(hs''.2 it (Ne.symm hei)).trans q⟩,fun b hb=>?_⟩
    obtain ⟨o,hob,_⟩:∃ o,s.heap.get? b=some o∧True:=by
      simp only [List.mem_cons,List.not_mem_nil,or_false] at hb
      rcases hb with rfl | rfl
      · exact ⟨_,he,trivial⟩
      · obtain ⟨o,h1,_⟩:=SK.own_obj ho;exact ⟨o,h1,trivial⟩
    rw [upd_ne (Nat.ne_of_lt (Heap.lt_size hob))]
    exact (hf b hb).1
  done:=by
    intro X hP hw hK hc i pins s σ H E I hf st hg
    subst hP hw hK
    obtain ⟨⟨old,he⟩,ho⟩:=st
    obtain ⟨xs,hx,hlen⟩:=hg
    have hh:X.A.in1.handled=none:=I.ok.hd hc
    obtain ⟨Pp,St,D,hst,hrel,hown⟩:=sk_draws (A:=X.A.in1) I hx ho (hf it (by simp)).1 hh
    have hst':St xs.length s.heap:=by rw [hlen];exact hst
    refine wpAny_pyNext_enum_endD D he hst' fun h' hx'=>⟨rfl,?_⟩
    have f:=hf it (by simp)
    exact I.turned (t':=s.toks) (fun b o hb q=>hx' b o hb q) f.1 f.2.1 f.2.2.2.1 f.2.2.2.2.1 f.2.2.2.2.2
  self:=fun _ _ _ _ _ st h=>let ⟨⟨_,he⟩,_⟩:=st;wpAny_pyIter_enum he h
open AutoSeq1 (wpAny_loadPart') in
set_option maxHeartbeats 4000000 in
theorem meets_enumerate_newT (l:Addr) (items:Array Value) (n:Nat) (dct:Option Addr) (sl:Array (Option Value)) :
    Meets (Builtin.«enumerate.__new__» ⟨[.type "enumerate", .ref l],[]⟩) (fun _ R s=>s.heap.get? l=some { cls:=.type "tuple", dict:=dct,data:=.seq items n,slots:=sl } ∧
      R (.ok (.ret (.ref (s.heap.push { cls:=.type "tuple_iterator", data:=.fields #[.ref l,.int 0 0] }).objs.size)))
        { s with heap:=(s.heap.push { cls:=.type "tuple_iterator", data:=.fields #[.ref l,.int 0 0] }).push { cls:=.type "enumerate", data:=.fields #[.none,.bool false,.ref s.heap.objs.size,rawInt 0,.none,.none] } }):=
  .of_wp fun prog w A R s h=>by
    obtain ⟨hp,g,d,tk,os⟩:=s;obtain ⟨hl,h⟩:=h
    have hsub:=sub_enumerate
    have hL:Heap.IsTuple (Shared.heap ⟨hp,g,d,tk,os⟩) l items:=⟨_,hl,rfl,n,rfl⟩
    wp_walk using wpAny_loadPart' hl
    refine wpAny_stack_any fun st=>wpAny_pure ?_
    split
    · rename_i c _ _ _ _ _
      cases (c == Value.type "enumerate")
      · wp_walk using wpAny_loadPart' hl,wpAny_pyIter_tuple hL
        exact ⟨_,rfl,h⟩
      · wp_walk using wpAny_loadPart' hl,wpAny_pyIter_tuple hL
        exact ⟨_,rfl,h⟩
    · wp_walk using wpAny_loadPart' hl,wpAny_pyIter_tuple hL
      exact ⟨_,rfl,h⟩
theorem call_enumerate_tuple {prog:Program} {w:World} {A:Around} {E:Value→Shared→Prop} {s:Shared} {l:Addr} {items:Array Value} {Q:Value→Shared→Prop} (hL:s.heap.IsTuple l items)
    (h:∀ h',IsEnum h' (s.heap.objs.size+1) s.heap.objs.size 0 .none→h'.IsTupleIter s.heap.objs.size l 0→h'.objs.size=s.heap.objs.size+2 →
      (∀ b o,s.heap.get? b=some o→h'.get? b=some o)→Q (.ref (s.heap.objs.size+1)) { s with heap:=h' }) :
    wpAny (model prog w) A (call (.type "enumerate") [.ref l]) Q E s:=by
  obtain ⟨⟨c,dct,dt,sl⟩,hl,hc,n,hd⟩:=hL
  replace hc:c=.type "tuple" := hc
  replace hd:dt=.seq items n:=hd
  subst hc hd
  refine callType_new F.called_enumerate (by decide) (F.typeCall_enumerate_1 _) (F.newCall_enumerate_1 _) (fun obj=>F.args_object_init_2 obj _) F.entry_enumerate_new
    (meets_enumerate_newT l items n dct sl) ⟨hl,?_⟩
  have hz:(s.heap.push { cls:=.type "tuple_iterator", data:=.fields #[.ref l,.int 0 0] }).objs.size=s.heap.objs.size+1:=Heap.size_push ..
  show _∧_
  rw [hz]
  have he:IsEnum ((s.heap.push { cls:=.type "tuple_iterator", data:=.fields #[.ref l,.int 0 0] }).push
      { cls:=.type "enumerate", data:=.fields #[.none,.bool false,.ref s.heap.objs.size,rawInt 0,.none,.none] }) (s.heap.objs.size+1) s.heap.objs.size 0 .none:=by
    have:=Heap.get?_push_size (s.heap.push { cls:=.type "tuple_iterator", data:=.fields #[.ref l,.int 0 0] })
      (o:={ cls:=.type "enumerate", data:=.fields #[.none,.bool false,.ref s.heap.objs.size,rawInt 0,.none,.none] }) rfl
    rw [hz] at this;exact this
  refine ⟨⟨_,he,rfl⟩,h _ he ⟨_,Heap.get?_push_of_some _ (Heap.get?_push_size _ rfl),rfl,rfl⟩ (by rw [Heap.size_push,hz]) fun b o x=>Heap.get?_push_of_some _ (Heap.get?_push_of_some _ x)⟩
section
variable {X:Cx} {pins:List (Addr × Obj)} {σ:St} {H:Hp} {s:Shared}
theorem call_enum {κ:SK} {xs:List V} {u:Value} {E:Value→Shared→Prop} {Q:Value→Shared→Prop} (I:Inv X pins σ H s) (hv:κ.has H xs) (r:RelV κ.val u)
    (h:∀ h',IsEnum h' (s.heap.objs.size+1) s.heap.objs.size 0 .none→κ.own s.heap.objs.size 0 h'→(∀ b o,s.heap.get? b=some o→h'.get? b=some o)→Q (.ref (s.heap.objs.size+1)) { s with heap:=h' }) :
    wpAny (model X.prog X.w) X.A (call (.type "enumerate") [u]) Q E s:=by
  cases κ with
  | lst a=>
    cases (show u=Value.ref a from r)
    obtain ⟨_,its,n,rr,e⟩:=Rd.ok hv I.hok
    exact call_enumerate_list ⟨_,e,rfl,n,rfl⟩ fun h' a1 a2 _ a4=>h h' a1 a2 a4
  | tup a=>
    cases (show u=Value.ref a from r)
    obtain ⟨_,its,rr,e⟩:=Rd.ok hv I.hok
    exact call_enumerate_tuple e fun h' a1 a2 _ a4=>h h' a1 a2 a4
  | str x=>
    obtain ⟨t,q⟩:=(show ∃ t,u=Value.str x t from r)
    subst q
    exact call_enumerate_str fun h' a1 a2 _ a4=>h h' a1 ⟨t,a2⟩ a4
def iEnum (ta:TA):TI:=fun σ H R=>ta σ H fun vs H1=>∃ κ:SK,vs=[κ.val]∧(∃ xs,κ.has H1 xs)∧R (Ite κ) H1
theorem pi_enum {a:Expr} {ta:TA} {p pos:Pos} {elts:List Expr} {x1:Nat} {tpos:Pos} (hg:Gl X "enumerate") (hm:X.mg "enumerate" = none) (ha:PA X [a] ta)
    (hs:starEach [a] X.env=[(false,eval a X.env)]:=by rfl):PI X (.Tuple elts x1 tpos) (.Call (.Name "enumerate" p) [a] [] pos) (iEnum ta):=by
  intro pins s σ H R I h
  refine Call_ (ld_blt I hg hm boot_enumerate (PyProof.Rows.callWith_type1 (thn (ha pos pins s σ H _ I h) fun us s1 ⟨vs,H1,I1,r1,q1⟩=>?_) hs rfl))
  obtain ⟨κ,e,⟨xs,hx⟩,q⟩:=q1
  subst e
  obtain ⟨u,rfl,ru⟩:=vals1 r1
  refine call_enum I1 hx ru fun h' he hi hk=>?_
  refine wpAny_pyIter_enum he ⟨s1.heap.objs.size+1,[s1.heap.objs.size+1,s1.heap.objs.size],_,_,H1,rfl,I1.kept (t':=s1.toks) hk,turn_enum κ _ _ (Nat.ne_of_gt (Nat.lt_succ_self _)),⟨⟨_,he⟩,hi⟩,fun b hb=>?_,q⟩
  have hge:s1.heap.objs.size≤b:=by
    simp only [List.mem_cons,List.not_mem_nil,or_false] at hb
    rcases hb with rfl | rfl
    · exact Nat.le_succ _
    · exact Nat.le_refl _
  exact I1.fpOk hge (I1.hok.fresh hge)
end
section
variable {prog:Program} {w:World} {A:Around} {E:Value→Shared→Prop} {s:Shared}
end
section
variable {X:Cx}
end
theorem for_enum {κ:SK} {xs:List V} {g:TG} {tb:TS} {D:Ends} {σ:St} {H:Hp} (Pv:Nat→St→Hp→Prop) (h0:Pv 0 σ H) (hl:∀ i σ H,i≤xs.length→Pv i σ H→κ.has H xs)
    (hs:∀ (i:Nat) x σ H p,xs[i]?=some x→Pv i σ H→H p=none→g (.ref p) σ (upd H p (.tup [.int i,x])) fun σ2 H2=>tb { D with nx:=Pv (i+1),ct:=Pv (i+1),bk:=D.nx } σ2 H2) (hd:∀ σ H,Pv xs.length σ H→D.nx σ H) :
    ∃ W:Nat→Nat→St→Hp→Prop,(∃ m,W 0 m σ H)∧∀ i m σ H,W i m σ H →
      ((Ite κ).stop i H∧D.nx σ H)∨((Ite κ).go i H∧∃ N:St→Hp→Prop,(∀ σ' H',N σ' H'→∃ m',m' < m∧W (i+1) m' σ' H')∧∀ x H',(Ite κ).yld i H x H'→g x σ H' fun σ2 H2=>tb { D with nx:=N,ct:=N,bk:=D.nx } σ2 H2):=by
  refine ⟨fun i m σ H=>i≤xs.length∧m=xs.length - i∧Pv i σ H,⟨xs.length,Nat.zero_le _,rfl,h0⟩,fun i m σ H ⟨hi,hm,hp⟩=>?_⟩
  have a1:=hl i σ H hi hp
  rcases Nat.lt_or_ge i xs.length with lt | ge
  · refine .inr ⟨⟨xs,xs[i],a1,List.getElem?_eq_getElem lt⟩,Pv (i+1),fun σ' H' hn=>⟨xs.length - (i+1),by omega,by omega,rfl,hn⟩,fun x H' hy=>?_⟩
    obtain ⟨p,x',rfl,hpn,rfl,e1⟩:=hy
    exact hs i x' σ H p (e1 xs a1) hp hpn
  · have e:i=xs.length:=by omega
    subst e
    exact .inl ⟨⟨xs,a1,rfl⟩,hd σ H hp⟩
def cutS (z:Str) (lo hi:Option Int):Str:=⟨((z.cps.toList.drop (HT.sIx z.length 0 lo)).take (HT.sIx z.length z.length hi - HT.sIx z.length 0 lo)).toArray⟩
theorem clip_s (i:Int) (n d:Nat):max 0 (min (if i < 0 then i+(n:Int) else i) (n:Int))=((HT.sIx n d (some i):Nat):Int):=by
  simp only [HT.sIx]
  split
  · omega
  · omega
theorem range_cut (a b:Nat):sliceRange (a:Int) (b:Int) 1=(List.range (b - a)).map fun k=>a+k:=by
  unfold sliceRange
  simp only [show ((1:Int) > 0)=True from by simp,if_true]
  by_cases hlt:(a:Int) < b
  · have e3:(((b:Int) - a+1 - 1) / 1).toNat=b - a:=by
      rw [Int.ediv_one];omega
    simp only [hlt,if_true,e3]
    refine List.map_congr_left fun k _=>?_
    omega
  · have:b - a=0:=by omega
    simp [hlt,this]
theorem sliceIdx_cut (lo hi:Option Int) (n:Nat):Builtin.Str.strSliceIndices lo hi 1 n=(List.range (HT.sIx n n hi - HT.sIx n 0 lo)).map fun k=>HT.sIx n 0 lo+k:=by
  unfold Builtin.Str.strSliceIndices
  simp only [show ((1:Int) > 0)=True from by simp,if_true]
  cases lo with
  | none=>
    cases hi with
    | none=>exact range_cut 0 n
    | some j=>dsimp only;rw [clip_s j n n];exact range_cut 0 _
  | some i=>
    cases hi with
    | none=>dsimp only;rw [clip_s i n 0];exact range_cut _ n
    | some j=>dsimp only;rw [clip_s i n 0,clip_s j n n];exact range_cut _ _
theorem slice_text (z:Str) (t:Tok) (l u:Option (Int × Tok)):∀ (Q:Value→Shared→Prop) (s:Shared),z.length≤sizeLine→(∀ t' s',s'.heap=s.heap→s'.gens=s.gens→s'.drawn=s.drawn→s'.os=s.os→Q (.str (cutS z (l.map (·.1)) (u.map (·.1))) t') s')→(sliceMade z t l u none).post Q s:=by
  intro Q s hz h
  have hidx:=sliceIdx_cut (l.map (·.1)) (u.map (·.1)) z.length
  have hle:HT.sIx z.length z.length (u.map (·.1))≤z.length:=HT.sIx_le _ _ (Nat.le_refl _) _
  have hlo:HT.sIx z.length 0 (l.map (·.1))≤z.length:=HT.sIx_le _ _ (Nat.zero_le _) _
  have hzl:z.length=z.cps.toList.length:=by simp [Str.length]
  have cut:((slicePicked z l u none).filterMap (z.cps[·]?))=(z.cps.toList.drop (HT.sIx z.length 0 (l.map (·.1)))).take (HT.sIx z.length z.length (u.map (·.1)) - HT.sIx z.length 0 (l.map (·.1))):=by
    have p:=StrLaws.picks z.cps.toList (HT.sIx z.length z.length (u.map (·.1)) - HT.sIx z.length 0 (l.map (·.1))) (HT.sIx z.length 0 (l.map (·.1))) (by omega)
    rw [← p]
    unfold slicePicked
    simp only [Option.map_none,Option.getD_none]
    rw [hidx]
    congr 1
    funext k
    simp
  unfold sliceMade
  split
  · rename_i c
    have whole:cutS z (l.map (·.1)) (u.map (·.1))=z:=by
      unfold cutS
      have e:(slicePicked z l u none).length=z.length:=by
        simp only [Bool.and_eq_true,beq_iff_eq] at c
        exact c.2
      have e':HT.sIx z.length z.length (u.map (·.1)) - HT.sIx z.length 0 (l.map (·.1))=z.length:=by
        unfold slicePicked at e
        simp only [Option.map_none,Option.getD_none] at e
        rw [hidx] at e
        simpa using e
      have e0:HT.sIx z.length 0 (l.map (·.1))=0:=by omega
      rw [e',e0,List.drop_zero,hzl,List.take_length]
    have:=h t s rfl rfl rfl rfl
    rw [whole] at this
    exact this
  · rw [cut]
    have hl':(⟨((z.cps.toList.drop (HT.sIx z.length 0 (l.map (·.1)))).take (HT.sIx z.length z.length (u.map (·.1)) - HT.sIx z.length 0 (l.map (·.1)))).toArray⟩:Str).length≤sizeLine:=by
      have:(⟨((z.cps.toList.drop (HT.sIx z.length 0 (l.map (·.1)))).take (HT.sIx z.length z.length (u.map (·.1)) - HT.sIx z.length 0 (l.map (·.1)))).toArray⟩:Str).length≤z.length:=by
        simp only [Str.length,List.size_toArray,List.length_take,List.length_drop]
        have:z.cps.size=z.length:=rfl
        omega
      omega
    first
      | exact ⟨hl',h _ _ rfl rfl rfl rfl⟩
      | exact h _ _ rfl rfl rfl rfl
def rSlS:V→Option Int→Option Int→Hp→VK→Prop:=fun x lo hi H Q=>∃ z,x=.str z∧z.length≤sizeLine∧Q (.str (cutS z lo hi)) H
theorem sl_str {X:Cx}:SlR X rSlS:=by
  intro pins s σ H x v vl vu lo hi sl Q I rx hs pl pu h
  obtain ⟨z,rfl,hz,q⟩:=h
  obtain ⟨t,rfl⟩:=rx
  refine ⟨"str", _,F.slot_str_getitem.lookup,typeIs_str s z t,?_⟩
  have part:∀ {v:Value} {o:Option Int},IsPart v o→∃ p:Option (Int × Tok),v=partValue p∧p.map (·.1)=o:=fun {v o} p=>by
    cases p with
    | none=>exact ⟨none,rfl,rfl⟩
    | int i t=>exact ⟨some (i,t),rfl,rfl⟩
  obtain ⟨l,rfl,rfl⟩:=part pl
  obtain ⟨u,rfl,rfl⟩:=part pu
  refine wpAny_getItem_str_slice (l:=l) (u:=u) (st:=none) hs rfl (slice_text z t l u _ s hz fun t' s' e1 e2 e3 e4=>⟨.str _,H,?_,⟨t',rfl⟩,q⟩)
  obtain ⟨hp,g,d,tk,os⟩:=s'
  cases e1;cases e2;cases e3;cases e4
  exact I.tok tk
theorem call_isinst {X:Cx}:CallR X (.builtin "isinstance") (fun vs H Q=>∃ x t T b,vs=[x,.ty T]∧TyOf X.K H x t∧PySem.W.kitOne X.K t (.type T)=some b∧Q (.bl b) H):=by
  intro pins s σ H xs us Q I r h
  obtain ⟨x,t,T,b,rfl,ty,e,q⟩:=h
  obtain ⟨u,v,rfl,ru,rv⟩:=vals2 r
  cases (show v=Value.type T from rv)
  exact isinst_ok I ru ty e fun tk=>⟨.bl b,H,I.tok tk,rfl,q⟩
end L2
namespace L2
open PySem PySem.Spec PyProof.Rows
theorem csc {X:Cx} {scope:Scope} {NL:List Str} {ix:List Nat} (esc:Scope) (N:List Str) (h1:X.env.scope=esc:=by rfl) (h2:X.N=N:=by rfl) (c1:scope.kind=.function:=by rfl)
    (c2:∀ y∈scope.names,y.2≠.cell:=by decide +kernel) (c3:∀ y∈scope.names,y.2=.local→scope.names.lookup y.1=some .local:=by decide +kernel)
    (c4:∀ y∈scope.names,y.2=.free→esc.names.lookup y.1=some .cell∨esc.names.lookup y.1=some .free:=by decide +kernel)
    (c5:∀ j∈ix,(N[j]?).bind (fun x=>scope.names.lookup x)=some .free:=by decide +kernel):CompScope X scope NL ix where
  kind:=c1
  cell:=c2
  names:=c3
  free:=fun y hy hf=>by
    have:=c4 y hy hf
    rw [← h1] at this
    exact this
  cap:=fun j hj=>by
    have:=c5 j hj
    rw [h2]
    cases e:N[j]? with
    | none=>rw [e] at this;cases this
    | some x=>rw [e] at this;exact ⟨x,rfl,this⟩
def Has (P:Program) (w:World) (K:PySem.W.Frag) (mg:Str→Option Value) (base:Heap) (x:Str) (k:Nat) (ps:List Str) (sp:Sp):Prop:=
  ∃ f fd,FnOk P w K mg base CX0 k f fd ps sp∧Binds K fd ps []∧PySem.W.keepIn K (.ref f)=true∧mg x=some (.ref f)
section
variable {P:Program} {w:World} {K:PySem.W.Frag} {mg:Str→Option Value} {base:Heap}
theorem Has.mono {x:Str} {j k:Nat} {ps:List Str} {sp:Sp} (G:Has P w K mg base x j ps sp) (h:j≤k):Has P w K mg base x k ps sp:=
  let ⟨f,fd,F,r⟩:=G;⟨f,fd,F.mono h,r⟩
def Df (K:PySem.W.Frag) (mg:Str→Option Value) (x:Str) (st:Stmt):Prop:=∃ f fd,Fun K x x st f fd∧mg x=some (.ref f)
theorem Df.has {x:Str} {st:Stmt} {N ps:List Str} {k:Nat} {sp:Sp} (D:Df K mg x st) (S:FnScope N ps (defScope st))
    (hb:∀ (kV doc pm:Value) (an:Option Addr) (cdv ct:Value) (us:List Value),us.length=ps.length→bindArgs (PySem.W.fnOf x x (defArgs st) (defBody st) (defScope st) .none kV doc pm an cdv ct) ⟨us,[]⟩=pure (ps.zip us))
    (len:∀ vs H Q E,sp vs H Q E→vs.length=ps.length)
    (hbody:∀ (f:Addr) (cdv:Value) (A:Around) (outer:List Env) (s:Shared) (H:Hp) (vs:List V) (Q:VK) (E:XK),Room k (A.deeper (envOfC x (defScope st) s.heap.objs.size f cdv))→sp vs H Q E →
      ∃ t,PSs (cxOf CX0 P w K mg base N x (defScope st) f cdv A outer s H E).nox (defBody st) t∧t { nx:=fun _ H'=>Q .non H',rt:=Q } (start N vs) H):Has P w K mg base x (k+1) ps sp:=by
  obtain ⟨f,fd,F,m⟩:=D
  exact ⟨f,fd,F.ok S len fun cdv A outer s H vs Q E hr h=>hbody f cdv A outer s H vs Q E hr h,F.binds hb,F.kp,m⟩
end
theorem pe_callH {X:Cx} {x:Str} {k:Nat} {ps:List Str} {sp:Sp} {p pos:Pos} {e:Expr} {es:List Expr} {t:TA} (G:Has X.prog X.w X.K X.mg X.base x k ps sp) (hr:Room k X.A) (hg:Gl X x) (ha:PA X (e :: es) t)
    (hdb:(x == ("__debug__" : Str))=false:=by decide) (he:starEach (e :: es) X.env=(false,eval e X.env) :: starEach es X.env:=by rfl) (hpl:(backTo pos (starEach es X.env)).any (·.1)=false:=by rfl) :
    PE X (.Call (.Name x p) (e :: es) [] pos) (tCall sp [] E0 t):=by
  obtain ⟨f,fd,F,b,kp,m⟩:=G
  exact pe_call F hr hg m kp b .nil pass0 ha hdb he hpl
structure Blt (mg:Str→Option Value):Prop where
  len:mg "len" = none
  range:mg "range" = none
  zip:mg "zip" = none
  enumerate:mg "enumerate" = none
  max:mg "max" = none
  min:mg "min" = none
  int_:mg "int" = none
  str_:mg "str" = none
  bool_:mg "bool" = none
  list_:mg "list" = none
  tuple_:mg "tuple" = none
  isinstance:mg "isinstance" = none
section
variable {p q:Addr} {H H1 H2:Hp} {o:HO}
end
theorem bt_len:bootBuiltins "len" = some (.builtin "len"):=by decide +kernel
theorem bt_max:bootBuiltins "max" = some (.builtin "max"):=by decide +kernel
theorem bt_min:bootBuiltins "min" = some (.builtin "min"):=by decide +kernel
theorem bt_all:bootBuiltins "all" = some (.builtin "all"):=by decide +kernel
theorem bt_isinstance:bootBuiltins "isinstance" = some (.builtin "isinstance"):=by decide +kernel
theorem bt_int:bootBuiltins "int" = some (.type "int"):=by decide +kernel
theorem bt_str:bootBuiltins "str" = some (.type "str"):=by decide +kernel
theorem bt_bool:bootBuiltins "bool" = some (.type "bool"):=by decide +kernel
theorem bt_list:bootBuiltins "list" = some (.type "list"):=by decide +kernel
theorem bt_tuple:bootBuiltins "tuple" = some (.type "tuple"):=by decide +kernel
theorem Same.new {H0 H:Hp} {q:Addr} {o:HO} (h:Same H0 H) (hq:H q=none):Same H0 (upd H q o):=fun b u e=>by
  have:=h b u e
  rw [upd_ne (ne_of_none this hq)];exact this
theorem Same.write {H0 H:Hp} {q:Addr} {o:HO} (h:Same H0 H) (hq:H0 q=none):Same H0 (upd H q o):=fun b u e=>by
  rw [upd_ne (ne_of_none e hq)];exact h b u e
end L2
namespace L2
open PySem PySem.Spec PyProof.Rows
section
variable {X:Cx}
theorem pg_tupK (K:PySem.W.Frag) {es:List Expr} {k:Nat} {t:TGs} {n:Nat} {pos:Pos} (hc:X.calm=true) (h:PGs X es t) (hK:X.K=K:=by rfl) (hn:(assignEach es X.env).length=n:=by rfl)
    (hst:(assignEach es X.env).findIdx? (·.1)=none:=by rfl):PG X (.Tuple es k pos) (gTup K n t):=by
  subst hK
  exact pg_tup hc h hn hst
theorem strsAre_of:∀ {ys:List Str} {us:List Value},Vals (ys.map V.str) us→StrsAre us ys
  | [],[],_=>.nil
  | [],_ :: _,h=>nomatch h
  | _ :: _,[],h=>nomatch h
  | y :: r,u :: us,h=>by
    cases h with
    | cons a b=>
      obtain ⟨t,rfl⟩:=a
      exact .cons y t (strsAre_of b)
theorem mt_join:MtR X "str.join" (fun x vs H Q=>∃ z a ys,x=.str z∧vs=[.ref a]∧SqL X.K H a (ys.map V.str)∧(ys.map (·.length)).sum+ys.length * z.length≤16777216∧Q (.str (Txt.join z ys)) H):=by
  intro pins s σ H x xs v us Q I rx rv h
  obtain ⟨z,a,ys,rfl,rfl,hl,hok,q⟩:=h
  obtain ⟨t,rfl⟩:=rx
  obtain ⟨u,rfl,ru⟩:=rv.one
  cases (show u=Value.ref a from ru)
  obtain ⟨its,r,ht,hz⟩:=I.list hl
  exact join_list ht.isList (strsAre_of (by simpa using r)) hok fun t' k=>⟨.str _,H,I.tok k,⟨t',rfl⟩,q⟩
theorem op_mul_str:OpR X (binaryOp .Mult) (fun x y H Q=>∃ z n,x=.str z∧y=.int n∧MulOk z n∧Q (.str (Txt.mul z n)) H):=by
  intro pins s σ H x y v u Q I rx ry h
  obtain ⟨z,n,rfl,rfl,hok,q⟩:=h
  obtain ⟨t,rfl⟩:=rx
  obtain ⟨t',rfl⟩:=ry
  exact SB.mul hok fun t' k=>⟨.str _,H,I.tok k,⟨t',rfl⟩,q⟩
def eqAtJ (xs ys:List V) (j:Nat):Bool:=match xs[j]?,ys[j]? with
  | some x,some y=>eqV x y
  | _,_=>false
def eqVs (xs ys:List V):Bool:=xs.length == ys.length && (List.range xs.length).all (eqAtJ xs ys)
theorem eqAt_items {A:Around} {s:Shared} {xs ys:List V} {us ws:List Value} (r1:Vals xs us) (r2:Vals ys ws) (f1:xs.all flatV=true) (f2:ys.all flatV=true) (j:Nat) (h1:j < us.toArray.size) (h2:j < ws.toArray.size) :
    SeqAt.EqAt A s us.toArray[j] ws.toArray[j] (eqAtJ xs ys j):=by
  have g1:j < xs.length:=by rw [r1.length];simpa using h1
  have g2:j < ys.length:=by rw [r2.length];simpa using h2
  obtain ⟨u,e1,q1⟩:=r1.get (List.getElem?_eq_getElem g1)
  obtain ⟨v,e2,q2⟩:=r2.get (List.getElem?_eq_getElem g2)
  have d1:us.toArray[j]=u:=by
    rw [List.getElem?_eq_getElem (by simpa using h1)] at e1
    simpa using Option.some.inj e1
  have d2:ws.toArray[j]=v:=by
    rw [List.getElem?_eq_getElem (by simpa using h2)] at e2
    simpa using Option.some.inj e2
  rw [d1,d2]
  unfold eqAtJ
  rw [List.getElem?_eq_getElem g1,List.getElem?_eq_getElem g2]
  exact eqAt_V q1 q2 (List.all_eq_true.mp f1 _ (List.getElem_mem g1)) (List.all_eq_true.mp f2 _ (List.getElem_mem g2))
end
section
variable {NL:List Str} {ix:List Nat} {g:TG} {tt:TT} {te:TE} {σ:St} {H1:Hp} {Qs:Hp→Prop} {acc:Addr}
theorem comp_lst {K:PySem.W.Frag} {a:Addr} {xs:List V} (hn:xs.length < 1000) (Pv:Nat→List V→Hp→Prop)
    (hl:∀ i ys H2,Pv i ys H2→SqL K H2 a xs) (hacc:∀ i ys H2,Pv i ys H2→H2 acc=some (.lst ys)∧ys.length≤i) (h0:Pv 0 [] (upd H1 acc (.lst []))) (hstop:∀ ys H2,Pv xs.length ys H2→Qs H2)
    (hturn:∀ i x ys H2,xs[i]?=some x→Pv i ys H2→g x (comp0 NL ix σ) H2 fun σ' H4=>σ'.drop NL.length=ix.map (fun j=>σ.getD j none)∧tt σ' H4 fun b H5=>
      if b=true then te σ' H5 fun v H6=>H6 acc=some (.lst ys)∧Pv (i+1) (ys++[v]) (upd H6 acc (.lst (ys++[v]))) else Pv (i+1) ys H5) :
    ∃ W:Nat→Nat→List V→Hp→Prop,(∃ m,W 0 m [] (upd H1 acc (.lst []))) ∧
    ∀ i m ys H2,W i m ys H2→H2 acc=some (.lst ys)∧ys.length < sizeLine ∧
      (((Itl K a).stop i H2∧Qs H2)∨((Itl K a).go i H2∧∃ N:List V→Hp→Prop,(∀ ys' H',N ys' H'→∃ m',m' < m∧W (i+1) m' ys' H') ∧
        ∀ x H3,(Itl K a).yld i H2 x H3→g x (comp0 NL ix σ) H3 fun σ' H4=>σ'.drop NL.length=ix.map (fun j=>σ.getD j none)∧tt σ' H4 fun b H5=>
          if b=true then te σ' H5 fun v H6=>H6 acc=some (.lst ys)∧N (ys++[v]) (upd H6 acc (.lst (ys++[v]))) else N ys H5)):=by
  refine comp_by xs.length hn Pv hacc h0 (fun ys H2 hp=>⟨⟨xs,hl _ _ _ hp,Nat.le_refl _⟩,hstop ys H2 hp⟩) fun i ys H2 hi hp=>?_
  have hs:=hl _ _ _ hp
  refine ⟨⟨xs,xs[i],hs,List.getElem?_eq_getElem hi⟩,?_⟩
  rintro x H3 ⟨rfl,hx⟩
  exact hturn i x ys H3 (hx xs hs) hp
theorem comp_enum {κ:SK} {xs:List V} (hn:xs.length < 1000) (Pv:Nat→List V→Hp→Prop)
    (hl:∀ i ys H2,Pv i ys H2→κ.has H2 xs) (hacc:∀ i ys H2,Pv i ys H2→H2 acc=some (.lst ys)∧ys.length≤i) (h0:Pv 0 [] (upd H1 acc (.lst []))) (hstop:∀ ys H2,Pv xs.length ys H2→Qs H2)
    (hturn:∀ (i:Nat) x ys H2 p,xs[i]?=some x→Pv i ys H2→H2 p=none→g (.ref p) (comp0 NL ix σ) (upd H2 p (.tup [.int i,x])) fun σ' H4=>σ'.drop NL.length=ix.map (fun j=>σ.getD j none)∧tt σ' H4 fun b H5=>
      if b=true then te σ' H5 fun v H6=>H6 acc=some (.lst ys)∧Pv (i+1) (ys++[v]) (upd H6 acc (.lst (ys++[v]))) else Pv (i+1) ys H5) :
    ∃ W:Nat→Nat→List V→Hp→Prop,(∃ m,W 0 m [] (upd H1 acc (.lst []))) ∧
    ∀ i m ys H2,W i m ys H2→H2 acc=some (.lst ys)∧ys.length < sizeLine ∧
      (((Ite κ).stop i H2∧Qs H2)∨((Ite κ).go i H2∧∃ N:List V→Hp→Prop,(∀ ys' H',N ys' H'→∃ m',m' < m∧W (i+1) m' ys' H') ∧
        ∀ x H3,(Ite κ).yld i H2 x H3→g x (comp0 NL ix σ) H3 fun σ' H4=>σ'.drop NL.length=ix.map (fun j=>σ.getD j none)∧tt σ' H4 fun b H5=>
          if b=true then te σ' H5 fun v H6=>H6 acc=some (.lst ys)∧N (ys++[v]) (upd H6 acc (.lst (ys++[v]))) else N ys H5)):=by
  refine comp_by xs.length hn Pv hacc h0 (fun ys H2 hp=>⟨⟨xs,hl _ _ _ hp,rfl⟩,hstop ys H2 hp⟩) fun i ys H2 hi hp=>?_
  have hs:=hl _ _ _ hp
  refine ⟨⟨xs,xs[i],hs,List.getElem?_eq_getElem hi⟩,?_⟩
  rintro x H3 ⟨p,x',rfl,hpn,rfl,hx⟩
  exact hturn i x' ys H2 p (hx xs hs) hp hpn
end
theorem kit_int_bool (K:PySem.W.Frag):PySem.W.kitOne K (.type "int") (.type "bool")=some false:=by rfl
theorem kit_same (K:PySem.W.Frag) (T:String):PySem.W.kitOne K (.type T) (.type T)=some true:=by
  unfold PySem.W.kitOne
  rw [if_pos (beq_self_eq_true _)]
abbrev Deck (H:Hp) (p:Addr) (c:Int):Prop:=∃ x y z:Int,H p=some (.lst [.int x,.int y,.int z])∧0≤z∧z≤c
structure Kd (p:Addr) (c:Int) (H H':Hp):Prop where
  deck:Deck H' p c
  keep:∀ b o,b≠p→H b=some o→H' b=some o
section
variable {p q:Addr} {H H1 H2:Hp} {o:HO} {c d:Int}
theorem Deck.mono (h:Deck H p c) (e:c≤d):Deck H p d:=let ⟨x,y,z,a,b,f⟩:=h;⟨x,y,z,a,b,Int.le_trans f e⟩
theorem Kd.mono (h:Kd p c H H1) (e:c≤d):Kd p d H H1:=⟨h.deck.mono e,h.keep⟩
theorem Kd.refl (h:Deck H p c):Kd p c H H:=⟨h,fun _ _ _ e=>e⟩
theorem Kd.trans (a:Kd p c H H1) (b:Kd p d H1 H2):Kd p d H H2:=⟨b.deck,fun k u hc e=>b.keep k u hc (a.keep k u hc e)⟩
theorem Kd.new (a:Kd p c H H1) (hq:H1 q=none):Kd p c H (upd H1 q o):=by
  obtain ⟨⟨x,y,z,e,r⟩,k⟩:=a
  refine ⟨⟨x,y,z,by rw [upd_ne (ne_of_none e hq)];exact e,r⟩,fun b u hc h=>?_⟩
  have:=k b u hc h
  rw [upd_ne (ne_of_none this hq)];exact this
theorem Kd.write (a:Kd p c H H1) (hq:H q=none) (hp:q≠p):Kd p c H (upd H1 q o):=by
  obtain ⟨⟨x,y,z,e,r⟩,k⟩:=a
  refine ⟨⟨x,y,z,by rw [upd_ne (Ne.symm hp)];exact e,r⟩,fun b u hc h=>?_⟩
  rw [upd_ne (ne_of_none h hq)];exact k b u hc h
theorem Deck.ne (h:Deck H p c) (hq:H q=none):q≠p:=by
  obtain ⟨x,y,z,e,_⟩:=h
  exact Ne.symm (ne_of_none e hq)
theorem ne_deck {o:HO} (h:Deck H p c) (e:H q=some o) (ho:∀ x y z:Int,o≠.lst [.int x,.int y,.int z]):q≠p:=fun k=>by
  obtain ⟨x,y,z,hp,_⟩:=h
  subst k
  rw [hp] at e
  exact ho x y z (Option.some.inj e).symm
end
end L2
namespace L2
open PySem PySem.Spec PyProof.Rows
section
variable {X:Cx}
theorem op_ne_lst (hu:X.A.units < cLine):OpR X (compareOp .NotEq) (fun x y H Q=>∃ a b xs ys,x=.ref a∧y=.ref b∧SqL X.K H a xs∧SqL X.K H b ys∧xs.all flatV=true∧ys.all flatV=true∧Q (.bl (!eqVs xs ys)) H):=by
  intro pins s σ H x y v u Q I rx ry h
  obtain ⟨a,b,xs,ys,rfl,rfl,h1,h2,f1,f2,q⟩:=h
  cases (show v=Value.ref a from rx)
  cases (show u=Value.ref b from ry)
  obtain ⟨us,r1,l1,_⟩:=I.list h1
  obtain ⟨ws,r2,l2,_⟩:=I.list h2
  have e1:=r1.length
  have e2:=r2.length
  by_cases hl:xs.length=ys.length
  · refine SeqAt.RcNeAt.lists (e:=eqAtJ xs ys) l1.isList l2.isList (by simp;omega) hu (fun j g1 g2=>eqAt_items r1 r2 f1 f2 j g1 g2) _ _ _ _ ⟨.bl _,H,I,rfl,?_⟩
    have:eqVs xs ys=(List.range us.toArray.size).all (eqAtJ xs ys):=by
      unfold eqVs
      rw [List.size_toArray,← e1,beq_iff_eq.mpr hl,Bool.true_and]
    rw [← this];exact q
  · refine SeqAt.RcNeAt.lists_lengths l1.isList l2.isList (by simp;omega) hu _ _ _ _ ⟨.bl _,H,I,rfl,?_⟩
    have:eqVs xs ys=false:=by
      unfold eqVs
      have:(xs.length == ys.length)=false:=by simpa using hl
      rw [this];rfl
    rw [this] at q;exact q
end
end L2
namespace L2
open PySem PySem.Spec PyProof.Rows
section
variable {X:Cx}
theorem range_all (bs:List Bool):(List.range bs.length).all (fun i=>bs.getD i true)=bs.all id:=by
  rw [Bool.eq_iff_iff,List.all_eq_true,List.all_eq_true]
  constructor
  · intro h b hb
    obtain ⟨i,hi,rfl⟩:=List.getElem_of_mem hb
    have:=h i (List.mem_range.mpr hi)
    rw [List.getD_eq_getElem?_getD,List.getElem?_eq_getElem hi] at this
    exact this
  · intro h i hi
    have hi':=List.mem_range.mp hi
    rw [List.getD_eq_getElem?_getD,List.getElem?_eq_getElem hi']
    exact h _ (List.getElem_mem hi')
theorem call_all (hc:X.calm=true):CallR X (.builtin "all") (fun vs H Q=>∃ (a:Addr) (bs:List Bool),vs=[.ref a]∧SqL X.K H a (bs.map V.bl)∧Q (.bl (bs.all id)) H):=by
  intro pins s σ H xs us Q I r h
  obtain ⟨a,bs,rfl,hl,q⟩:=h
  obtain ⟨u,rfl,ru⟩:=vals1 r
  cases (show u=Value.ref a from ru)
  obtain ⟨its,rv,ht,hz⟩:=I.list hl
  have hlen:=rv.length
  rw [List.length_map] at hlen
  have hh:X.A.in1.handled=none:=I.ok.hd hc
  have hlt:a < s.heap.objs.size:=by obtain ⟨o,e,_⟩:=ht.isList;exact Heap.lt_size e
  refine call_all_walk (wpAny_pyIter_list ht.isList ⟨s.heap.objs.size,_,_,_,_,_,fun i=>bs.getD i true,rfl,Walks.list hh s.heap.objs.size a (Nat.ne_of_lt hlt) its.toArray,?_,?_,?_⟩)
  · exact ⟨⟨_,Heap.get?_push_size _ rfl,rfl,rfl⟩,Heap.IsList.push ht.isList _⟩
  · intro i v s' Q' E' hv hQ
    have hv':its[i]?=some v:=by simpa using hv
    have hi:i < (bs.map V.bl).length:=by rw [List.length_map,hlen];exact (List.getElem?_eq_some_iff.mp hv').1
    obtain ⟨u',e1,e2⟩:=rv.get (List.getElem?_eq_getElem hi)
    rw [hv'] at e1
    cases e1
    rw [List.getElem_map] at e2
    cases (show v=Value.bool _ from e2)
    refine wpAny_truthy_bool ?_
    have hb:bs.getD i true=bs[i]'(by simpa using hi):=by rw [List.getD_eq_getElem?_getD,List.getElem?_eq_getElem (by simpa using hi)];rfl
    rw [← hb]
    exact hQ
  · intro h' tk hk
    refine ⟨.bl (bs.all id),H,?_,?_,q⟩
    · exact I.kept (t':=tk) fun b o e=>hk b o (by simp;exact Nat.ne_of_lt (Heap.lt_size e)) (Heap.get?_push_of_some _ e)
    · show Value.bool _=Value.bool _
      rw [← range_all,hlen,List.size_toArray]
end
end L2
namespace L2
open PySem PySem.Spec PyProof.Rows PySem.W
theorem ints_showable {ns:List Int} (h:∀ n∈ns,n.natAbs < 10 ^ 12):PyData.showable (.list (ns.map .int))=true:=by
  simp only [PyData.showable]
  refine PyData.showableAll_ints ns fun n hn=>?_
  rcases Nat.eq_zero_or_pos n.natAbs with z | z
  · rw [z];decide
  · exact (Nat.log2_lt (by omega)).mpr (Nat.lt_of_lt_of_le (Nat.lt_trans (h n hn) (show 10 ^ 12 < 2 ^ 40 by decide)) (Nat.pow_le_pow_right (by decide) (by decide)))
section
variable {X:Cx} {k:Nat}
theorem bt_repr:bootBuiltins "repr" = some (.builtin "repr"):=by kernel_rfl
end
end L2
namespace L2
open PySem PySem.Spec PyProof.Rows PySem.W
theorem SqL.keepS {K:PySem.W.Frag} {H H1:Hp} {q:Addr} {xs:List V} (h:SqL K H q xs) (s:Same H H1):SqL K H1 q xs:=by
  rcases h with (h | ⟨ob,h⟩) | h
  · exact .inl (.inl (s _ _ h))
  · exact .inl (.inr ⟨ob,s _ _ h⟩)
  · exact .inr h
end L2
namespace L2
open PySem PySem.Spec PyProof.Rows PySem.W
theorem weight_ints:∀ ns:List Int,(∀ n∈ns,n.natAbs < 10 ^ 12)→PyData.weightAll (ns.map .int)≤42 * ns.length
  | [],_=>by simp [PyData.weightAll]
  | n :: r,h=>by
    have a:=weight_ints r fun m hm=>h m (List.mem_cons_of_mem _ hm)
    have b:PyData.weight (.int n)≤41:=by
      simp only [PyData.weight]
      split
      · omega
      · rename_i z
        have nz:n.natAbs≠0:=fun e=>z (by rw [Int.natAbs_eq_zero.mp e];rfl)
        have:=(Nat.log2_lt nz (k:=40)).mpr (Nat.lt_trans (h n List.mem_cons_self) (by decide))
        omega
    simp only [List.map_cons,PyData.weightAll,List.length_cons]
    omega
section
variable {X:Cx} {k:Nat}
end
end L2
namespace L2
open PySem PySem.Spec PyProof.Rows
section
variable {κ:Type} [DecidableEq κ]
end
section
variable {P:Program} {w:World} {H:Hp} {h:Heap} {a:Addr}
end
section
variable {X:Cx} {pins:List (Addr × Obj)} {σ:St} {H:Hp} {s:Shared} {a:Addr} {y v:V} {u r:Value} {o:Option V} {A:Around} {E:Value→Shared→Prop}
theorem Inv.big (I:Inv X pins σ H s):sysModules < s.heap.objs.size:=by
  have h:mainGlobals < s.heap.objs.size:=(I.mod.glob.keeps I.bk).lt
  exact Nat.lt_trans (by decide) h
end
section
variable {X:Cx} {pins:List (Addr × Obj)} {σ:St} {H:Hp} {s:Shared} {a:Addr} {kvs:List (Key × V)} {k:Key} {u:Value} {A:Around} {E:Value→Shared→Prop}
end
section
variable {X:Cx} {o i e value:Expr} {pos pos' tpos:Pos} {td ty tv:TE}
end
theorem dk_empty {P:Program} {w:World} {H:Hp} (h:Heap) (hb:sysModules < h.objs.size):ObjOk P w H (h.push { cls:=.type "dict", data:=.dict #[] }) h.objs.size (.dK []):=
  ⟨Nat.zero_le _,beq_eq_false_iff_ne.mpr (Ne.symm (Nat.ne_of_lt hb)),[],.nil,Heap.DictOf.new h⟩
def tDNewK:TE:=fun _ H Q=>∀ p,H p=none→Q (.ref p) (upd H p (.dK []))
section
variable {X:Cx} {pos:Pos}
theorem pe_dnewK:PE X (.Dict [] [] pos) tDNewK:=fun pins s σ H Q I h=>
  wpAny_Dict_empty ⟨.ref s.heap.objs.size,_,I.laid (a:=s.heap.objs.size) (o:=.dK []) (t':=s.toks) (fun _ _ q=>Heap.get?_push_of_some _ q) (Nat.le_refl _) (dk_empty s.heap I.big),rfl,h _ (I.hok.fresh (Nat.le_refl _))⟩
end
section
variable {X:Cx} {pins:List (Addr × Obj)} {σ:St} {H:Hp} {s:Shared} {a:Addr} {y d:V} {u r:Value} {o:Option V} {A:Around} {E:Value→Shared→Prop}
end
section
variable {X:Cx} {o e f:Expr} {apos cpos:Pos} {td ty tx:TE}
end
section
variable {X:Cx} {pins:List (Addr × Obj)} {σ:St} {H:Hp} {s:Shared} {a:Addr} {kvs:List (Key × V)} {A:Around} {E:Value→Shared→Prop}
end
section
variable {X:Cx} {pins:List (Addr × Obj)} {σ:St} {H:Hp} {s:Shared} {a:Addr} {y:V} {u:Value} {A:Around} {E:Value→Shared→Prop}
end
end L2
namespace L2
open PySem PySem.Spec PyProof.Rows PySem.W
open MeetsSeq MeetsSeq2 MeetsSeq3 SeqRoads2 SeqAt
section
variable {X:Cx} {tg:Expr}
end
section
theorem small10000 {n:Nat} (h:n < 10000):n < sizeLine:=by
  rw [sizeLine_eq];omega
theorem comp_big {J:It} {NL:List Str} {ix:List Nat} {g:TG} {tt:TT} {te:TE} {σ:St} {H1:Hp} {Qs:Hp→Prop} {acc:Addr} (n:Nat) (hn:n < 10000) (Pv:Nat→List V→Hp→Prop)
    (hacc:∀ i ys H2,Pv i ys H2→H2 acc=some (.lst ys)∧ys.length≤i) (h0:Pv 0 [] (upd H1 acc (.lst []))) (hstop:∀ ys H2,Pv n ys H2→J.stop n H2∧Qs H2)
    (hturn:∀ i ys H2,i < n→Pv i ys H2→J.go i H2∧∀ x H3,J.yld i H2 x H3→g x (comp0 NL ix σ) H3 fun σ' H4=>σ'.drop NL.length=ix.map (fun j=>σ.getD j none)∧tt σ' H4 fun b H5=>
      if b=true then te σ' H5 fun v H6=>H6 acc=some (.lst ys)∧Pv (i+1) (ys++[v]) (upd H6 acc (.lst (ys++[v]))) else Pv (i+1) ys H5) :
    ∃ W:Nat→Nat→List V→Hp→Prop,(∃ m,W 0 m [] (upd H1 acc (.lst []))) ∧
    ∀ i m ys H2,W i m ys H2→H2 acc=some (.lst ys)∧ys.length < sizeLine ∧
      ((J.stop i H2∧Qs H2)∨(J.go i H2∧∃ N:List V→Hp→Prop,(∀ ys' H',N ys' H'→∃ m',m' < m∧W (i+1) m' ys' H') ∧
        ∀ x H3,J.yld i H2 x H3→g x (comp0 NL ix σ) H3 fun σ' H4=>σ'.drop NL.length=ix.map (fun j=>σ.getD j none)∧tt σ' H4 fun b H5=>
          if b=true then te σ' H5 fun v H6=>H6 acc=some (.lst ys)∧N (ys++[v]) (upd H6 acc (.lst (ys++[v]))) else N ys H5)):=by
  refine ⟨fun i m ys H2=>i≤n∧m=n - i∧Pv i ys H2,⟨n,Nat.zero_le _,rfl,h0⟩,fun i m ys H2 ⟨hi,hm,hp⟩=>?_⟩
  obtain ⟨a1,a2⟩:=hacc i ys H2 hp
  refine ⟨a1,small10000 (by omega),?_⟩
  rcases Nat.lt_or_ge i n with lt | ge
  · obtain ⟨go,tn⟩:=hturn i ys H2 lt hp
    exact .inr ⟨go,Pv (i+1),fun ys' H' hN=>⟨n - (i+1),by omega,by omega,rfl,hN⟩,tn⟩
  · have e:i=n:=by omega
    subst e
    exact .inl (hstop ys H2 hp)
end
section
variable {NL:List Str} {ix:List Nat} {g:TG} {tt:TT} {te:TE} {σ:St} {H1:Hp} {Qs:Hp→Prop} {acc:Addr}
theorem comp_lstB {K:PySem.W.Frag} {a:Addr} {xs:List V} (hn:xs.length < 10000) (Pv:Nat→List V→Hp→Prop)
    (hl:∀ i ys H2,Pv i ys H2→SqL K H2 a xs) (hacc:∀ i ys H2,Pv i ys H2→H2 acc=some (.lst ys)∧ys.length≤i) (h0:Pv 0 [] (upd H1 acc (.lst []))) (hstop:∀ ys H2,Pv xs.length ys H2→Qs H2)
    (hturn:∀ i x ys H2,xs[i]?=some x→Pv i ys H2→g x (comp0 NL ix σ) H2 fun σ' H4=>σ'.drop NL.length=ix.map (fun j=>σ.getD j none)∧tt σ' H4 fun b H5=>
      if b=true then te σ' H5 fun v H6=>H6 acc=some (.lst ys)∧Pv (i+1) (ys++[v]) (upd H6 acc (.lst (ys++[v]))) else Pv (i+1) ys H5) :
    ∃ W:Nat→Nat→List V→Hp→Prop,(∃ m,W 0 m [] (upd H1 acc (.lst []))) ∧
    ∀ i m ys H2,W i m ys H2→H2 acc=some (.lst ys)∧ys.length < sizeLine ∧
      (((Itl K a).stop i H2∧Qs H2)∨((Itl K a).go i H2∧∃ N:List V→Hp→Prop,(∀ ys' H',N ys' H'→∃ m',m' < m∧W (i+1) m' ys' H') ∧
        ∀ x H3,(Itl K a).yld i H2 x H3→g x (comp0 NL ix σ) H3 fun σ' H4=>σ'.drop NL.length=ix.map (fun j=>σ.getD j none)∧tt σ' H4 fun b H5=>
          if b=true then te σ' H5 fun v H6=>H6 acc=some (.lst ys)∧N (ys++[v]) (upd H6 acc (.lst (ys++[v]))) else N ys H5)):=by
  refine comp_big xs.length hn Pv hacc h0 (fun ys H2 hp=>⟨⟨xs,hl _ _ _ hp,Nat.le_refl _⟩,hstop ys H2 hp⟩) fun i ys H2 hi hp=>?_
  have hs:=hl _ _ _ hp
  refine ⟨⟨xs,xs[i],hs,List.getElem?_eq_getElem hi⟩,?_⟩
  rintro x H3 ⟨rfl,hx⟩
  exact hturn i x ys H3 (hx xs hs) hp
end
section
variable {X:Cx}
end
end L2
namespace L2
open PySem PySem.Spec PyProof.Rows PySem.W
end L2
namespace L2
open PySem PySem.Spec PyProof.Rows PySem.W
section
variable {X:Cx}
variable {e st:Expr} {te:TE} {ts:TO} {pos p2:Pos}
end
def Itx (x:Str):It:=⟨fun i _=>i < x.cps.size,fun i H v H'=>H'=H∧∃ c,x.cps[i]?=some c∧v=.str ⟨#[c]⟩,fun i _=>x.cps.size≤i⟩
theorem turn_str {P:Program} {w:World} {K:PySem.W.Frag} {tg:Expr} (x:Str) (t:Tok) (it:Addr):Turn P w K tg (Itx x) [it] it (fun i h=>h.IsStrIter it (strIterType x) x t i) where
  mem:=by simp
  obj:=fun i h st b hb=>by
    have e:b=it:=by simpa using hb
    subst e
    obtain ⟨o,e,c,d⟩:=st
    exact ⟨o,e,fun v z=>by rw [d] at z;cases z⟩
  keep:=fun i h h' st k=>by
    obtain ⟨o,e,c,d⟩:=st
    exact ⟨o,k it (by simp) o e,c,d⟩
  item:=by
    intro X hP hw hK hc i pins s σ H E I hf st hg
    subst hP hw hK
    have hg:i < x.cps.size:=hg
    obtain ⟨f0,f1,f2,f3,f4,f5⟩:=hf it (by simp)
    have hx:x.cps[i]?=some (x.cps[i]'hg):=Array.getElem?_eq_getElem hg
    have go:∀ (h':Heap),h'.IsStrIter it (strIterType x) x t (i+1)→Heap.SameBut it s.heap h'→∃ u,some (Value.str ⟨#[x.cps[i]'hg]⟩ s.toks)=some u ∧
        wpAny (model X.prog X.w) X.A (letOwnedTupleGo tg (.ref it) u) (fun _ s2=>∃ v H',Inv X pins σ H' s2∧RelV v u∧(Itx x).yld i H v H'∧s2.heap.IsStrIter it (strIterType x) x t (i+1)∧∀ b∈[it],H' b=none) E { s with heap:=h',toks:=s.toks+1 }:=fun h' st' sb=>by
      have I1:Inv X pins σ H { s with heap:=h',toks:=s.toks+1 }:=I.turned (t':=s.toks+1) (fun b o hb e=>(sb.2 b hb).trans e) f0 f1 f3 f4 f5
      obtain ⟨o,e,c,d⟩:=id st'
      refine ⟨_,rfl,go_of (s:={ s with heap:=h',toks:=s.toks+1 }) e c d ?_ ⟨.str ⟨#[x.cps[i]'hg]⟩,H,I1,⟨_,rfl⟩,⟨rfl,_,hx,rfl⟩,st',fun b hb=>(hf b hb).1⟩⟩
      unfold strIterType
      split <;> decide
    cases c:x.cps.all (· < 128) with
    | true=>
      have e:strIterType x = "str_ascii_iterator" := by unfold strIterType;rw [c];rfl
      rw [e] at st
      exact wpAny_pyNext_ascii_item st hx fun h' st' sb=>go h' (by rw [e];exact st') sb
    | false=>
      have e:strIterType x = "str_iterator" := by unfold strIterType;rw [c];rfl
      rw [e] at st
      exact wpAny_pyNext_wide_item st hx fun h' st' sb=>go h' (by rw [e];exact st') sb
  done:=by
    intro X hP hw hK hc i pins s σ H E I hf st hg
    subst hP hw hK
    have hg:x.cps.size≤i:=hg
    obtain ⟨f0,f1,f2,f3,f4,f5⟩:=hf it (by simp)
    have hx:x.cps[i]?=none:=Array.getElem?_eq_none hg
    cases c:x.cps.all (· < 128) with
    | true=>
      have e:strIterType x = "str_ascii_iterator" := by unfold strIterType;rw [c];rfl
      rw [e] at st
      exact wpAny_pyNext_ascii_end (I.ok.hd hc) st hx fun h' eb=>⟨rfl,I.turned (t':=s.toks) (fun b o hb e=>eb b o hb e) f0 f1 f3 f4 f5⟩
    | false=>
      have e:strIterType x = "str_iterator" := by unfold strIterType;rw [c];rfl
      rw [e] at st
      exact wpAny_pyNext_wide_end (I.ok.hd hc) st hx fun h' eb=>⟨rfl,I.turned (t':=s.toks) (fun b o hb e=>eb b o hb e) f0 f1 f3 f4 f5⟩
  self:=fun _ _ _ _ _ st h=>by
    cases c:x.cps.all (· < 128) with
    | true=>
      have e:strIterType x = "str_ascii_iterator" := by unfold strIterType;rw [c];rfl
      rw [e] at st
      exact wpAny_pyIter_striter_ascii st h
    | false=>
      have e:strIterType x = "str_iterator" := by unfold strIterType;rw [c];rfl
      rw [e] at st
      exact wpAny_pyIter_striter_wide st h
section
variable {X:Cx} {tg:Expr}
def iStr (tl:TE):TI:=fun σ H R=>tl σ H fun x H1=>∃ z,x=.str z∧R (Itx z) H1
theorem pi_str {l:Expr} {tl:TE} (hl:PE X l tl):PI X tg l (iStr tl):=by
  intro pins s σ H R I h
  refine thn (hl pins s σ H _ I h) fun v s1 ⟨x,H1,I1,r1,q1⟩=>?_
  obtain ⟨z,rfl,q⟩:=q1
  obtain ⟨t,rfl⟩:=r1
  refine wpAny_pyIter_strU ?_
  refine ⟨s1.heap.objs.size,[s1.heap.objs.size],_,_,H1,rfl,I1.kept (t':=s1.toks) fun b o e=>Heap.get?_push_of_some _ e,turn_str z t _,⟨_,Heap.get?_push_size _ rfl,rfl,rfl⟩,fun b hb=>?_,q⟩
  have e:b=s1.heap.objs.size:=by simpa using hb
  subst e
  exact I1.fpOk (Nat.le_refl _) (I1.hok.fresh (Nat.le_refl _))
end
section
variable {NL:List Str} {ix:List Nat} {g:TG} {tt:TT} {te:TE} {σ:St} {H1:Hp} {Qs:Hp→Prop} {acc:Addr}
theorem comp_str {z:Str} (hn:z.cps.size < 10000) (Pv:Nat→List V→Hp→Prop)
    (hacc:∀ i ys H2,Pv i ys H2→H2 acc=some (.lst ys)∧ys.length≤i) (h0:Pv 0 [] (upd H1 acc (.lst []))) (hstop:∀ ys H2,Pv z.cps.size ys H2→Qs H2)
    (hturn:∀ i c ys H2,z.cps[i]?=some c→Pv i ys H2→g (.str ⟨#[c]⟩) (comp0 NL ix σ) H2 fun σ' H4=>σ'.drop NL.length=ix.map (fun j=>σ.getD j none)∧tt σ' H4 fun b H5=>
      if b=true then te σ' H5 fun v H6=>H6 acc=some (.lst ys)∧Pv (i+1) (ys++[v]) (upd H6 acc (.lst (ys++[v]))) else Pv (i+1) ys H5) :
    ∃ W:Nat→Nat→List V→Hp→Prop,(∃ m,W 0 m [] (upd H1 acc (.lst []))) ∧
    ∀ i m ys H2,W i m ys H2→H2 acc=some (.lst ys)∧ys.length < sizeLine ∧
      (((Itx z).stop i H2∧Qs H2)∨((Itx z).go i H2∧∃ N:List V→Hp→Prop,(∀ ys' H',N ys' H'→∃ m',m' < m∧W (i+1) m' ys' H') ∧
        ∀ x H3,(Itx z).yld i H2 x H3→g x (comp0 NL ix σ) H3 fun σ' H4=>σ'.drop NL.length=ix.map (fun j=>σ.getD j none)∧tt σ' H4 fun b H5=>
          if b=true then te σ' H5 fun v H6=>H6 acc=some (.lst ys)∧N (ys++[v]) (upd H6 acc (.lst (ys++[v]))) else N ys H5)):=by
  refine comp_big z.cps.size hn Pv hacc h0 (fun ys H2 hp=>⟨Nat.le_refl _,hstop ys H2 hp⟩) fun i ys H2 hi hp=>⟨hi,?_⟩
  rintro x H3 ⟨rfl,c,hc,rfl⟩
  exact hturn i c ys H3 hc hp
end
section
variable {X:Cx}
end
end L2
namespace L2
open PySem PySem.Spec PyProof.Rows PySem.Builtin PySem.Builtin.Str
section
variable {X:Cx}
theorem vals_of_strs:∀ (l:List (Str × Tok)),Vals ((l.map (·.1)).map V.str) (strValues l)
  | []=>.nil
  | (x,t) :: l=>.cons ⟨t,rfl⟩ (vals_of_strs l)
def rSplit:V→List V→Hp→VK→Prop:=fun x vs H Q=>∃ z y,x=.str z∧vs=[.str y]∧(y.length == 0)=false∧z.length+2≤sizeLine∧∀ l,H l=none→Q (.ref l) (upd H l (.lst ((Txt.split z y).map V.str)))
theorem mt_split:MtR X "str.split" rSplit:=by
  intro pins s σ H x0 xs v us Q I rx rv h
  obtain ⟨x,y,rfl,rfl,hy,hsz,q⟩:=h
  obtain ⟨t,rfl⟩:=rx
  obtain ⟨u0,rfl,ru⟩:=rv.one
  obtain ⟨u,rfl⟩:=ru
  have hn:(partsBetween x (occurrences x y 0 x.length (x.length+1)) y.length).length≤sizeLine:=by
    have e1:=StrLaws.occ_length_le x y 0 x.length (x.length+1)
    rw [length_partsBetween];omega
  have hl:(Txt.split x y).length≤sizeLine:=Nat.le_trans (split_le x y) hsz
  have go:∀ (l:List (Str × Tok)) (k:Nat),l.map (·.1)=Txt.split x y→EP X pins σ Q (.ref s.heap.objs.size) { s with heap:=s.heap.push { cls:=.type "list", data:=.seq (strValues l).toArray },toks:=k }:=fun l k e=>by
    have v:=vals_of_strs l
    rw [e] at v
    exact ⟨.ref s.heap.objs.size,_,I.lnew (t':=k) v (by rw [List.length_map];exact hl),rfl,q _ I.fresh⟩
  cases h1:(decide (x.length < y.length) || decide (strKind x < strKind y))
  · cases hf:(occurrences x y 0 x.length (x.length+1)).isEmpty
    · refine call_meets F.slot_str_split (typeIs_str _ _ _) F.entry_str_split (F.args_str_split_2 _ _) (meets_str_split_sep x y t u h1 hy hf (by omega) hn) ?_
      show wants (EP X pins σ Q) X.xe _ { s with toks:=_,heap:=s.heap.push { cls:=.type "list", data:=.seq (strsFrom s.toks (partsBetween x (occurrences x y 0 x.length (x.length+1)) y.length)).toArray } }
      rw [strsFrom_eq]
      exact go (numbered s.toks _) _ ((numbered_texts _ _).trans ((if_neg (ne_true_of_eq_false h1)).trans (if_neg (ne_true_of_eq_false hf))).symm)
    · exact call_meets F.slot_str_split (typeIs_str _ _ _) F.entry_str_split (F.args_str_split_2 _ _) (meets_str_split_not_found x y t u h1 hy hf) (go [(x,t)] s.toks ((if_neg (ne_true_of_eq_false h1)).trans (if_pos hf)).symm)
  · exact call_meets F.slot_str_split (typeIs_str _ _ _) F.entry_str_split (F.args_str_split_2 _ _) (meets_str_split_cannot_occur x y t u h1) (go [(x,t)] s.toks (if_pos h1).symm)
theorem call_intT:CallR X (.type "int") (fun xs H Q=>∃ x n,xs=[.str x]∧PySem.intText? x=some n∧x.length≤640∧Q (.int n) H):=by
  intro pins s σ H xs us Q I r h
  obtain ⟨x,n,rfl,hn,hl,q⟩:=h
  obtain ⟨u,rfl,t,rfl⟩:=vals1 r
  exact PySem.W.KIN.call_text hn hl ⟨.int n,H,I.tok _,⟨_,rfl⟩,q⟩
def glueN (c:Nat):List (List Nat)→List Nat
  | []=>[]
  | [x]=>x
  | x :: y :: r=>x++c :: glueN c (y :: r)
theorem glue_cpsN (c:Nat):∀ (ss:List Str) (acc:Array Nat),(List.foldl (fun acc (p:Str)=>acc++(⟨#[c]⟩:Str).cps++p.cps) acc ss).toList=acc.toList++(ss.map fun z:Str=>c :: z.cps.toList).flatten
  | [],acc=>by simp
  | x :: r,acc=>by
    rw [List.foldl_cons,glue_cpsN c r,Array.toList_append,Array.toList_append,List.map_cons,List.flatten_cons]
    simp
theorem glueN_cons (c:Nat):∀ (x:List Nat) (r:List (List Nat)),glueN c (x :: r)=x++(r.map fun z=>c :: z).flatten
  | x,[]=>by simp [glueN]
  | x,y :: r=>by
    show x++c :: glueN c (y :: r)=_
    rw [glueN_cons c y r,List.map_cons,List.flatten_cons];simp
theorem join_cpsN (c:Nat) (ss:List Str):(Txt.join ⟨#[c]⟩ ss).cps.toList=glueN c (ss.map fun z:Str=>z.cps.toList):=by
  cases ss with
  | nil=>rfl
  | cons x r=>
    rw [List.map_cons,glueN_cons,List.map_map]
    exact glue_cpsN c r x.cps
end
end L2
namespace L2
open PySem PySem.Spec PyProof.Rows
theorem ObjOk.obj {P:Program} {w:World} {H:Hp} {h:Heap} {a:Addr} {o:HO} (x:ObjOk P w H h a o):∃ u,h.get? a=some u:=by
  cases o with
  | lst xs=>obtain ⟨_,_,_,_,e⟩:=x;exact ⟨_,e⟩
  | tup xs=>obtain ⟨⟨_,o,e,_⟩,_⟩:=x;exact ⟨_,e⟩
  | dK kvs=>obtain ⟨_,_,_,_,o,_,_,e,_⟩:=x;exact ⟨_,e⟩
  | dT kvs=>obtain ⟨_,_,_,_,o,_,_,e,_⟩:=x;exact ⟨_,e⟩
  | set S n=>obtain ⟨o,_,_,_,e,_⟩:=x;exact ⟨_,e⟩
  | ins C dx fs=>obtain ⟨_,_,_,e,_⟩:=x;exact ⟨_,e⟩
  | own y=>exact x
  | xd fs=>obtain ⟨_,⟨_,_,_,e,_⟩,_⟩:=x;exact ⟨_,e⟩
  | rng lo hi=>obtain ⟨_,_,_,e⟩:=x;exact ⟨_,e⟩
  | frz ob u=>exact ⟨_,x.1⟩
  | tbl ps=>exact ⟨_,x⟩
  | met f y=>exact ⟨_,x⟩
  | ext φ=>exact x.2.1
def FlyS (l:List Env) (H₀:Hp) (h₀:Heap) (H':Hp) (a C:Addr) (h:Heap):Prop:=
  ∃ B a0,Heap.FlyingW B l a (.ref C) a0 h∧(∀ b o,h₀.get? b=some o→b ∉ frs l→∃ o',B.get? b=some o'∧(H₀ b=none→o'=o))∧∀ b u,H' b=some u→∃ o,B.get? b=some o
def CXE (P:Program) (w:World):CXT:=fun outer H s E e s'=>∃ a C H',e=.ref a∧s'.os=s.os∧AllBare s'.gens∧Un (frs outer) [] H H' s.heap s'.heap∧HOk P w H' s'.heap∧FlyS outer H s.heap H' a C s'.heap∧H' a=none∧E e (some C) H'
theorem hok_in {P:Program} {w:World} {H:Hp} {h h' B:Heap} (x:HOk P w H h) (hB:∀ b o,B.get? b=some o→h.get? b=some o) (hB':B.StaysIn h') (t:∀ b u,H b=some u→∃ o,B.get? b=some o):HOk P w H h':=fun a o e=>
  (x a o e).stay (fun b u hb q=>by
    have:∃ o,B.get? b=some o:=by
      rcases hb with rfl | hb
      · exact t _ _ e
      · exact t _ _ hb
    obtain ⟨o',e'⟩:=this
    have z:=hB _ _ e'
    rw [q] at z;cases z
    exact hB' _ _ e') (fun _ q=>q) fun _ _ q=>q
theorem fly_out {X:Cx} {pins:List (Addr × Obj)} {σ:St} {H1 H2:Hp} {s1:Shared} {B h2:Heap} (I:Inv X pins σ H1 s1) (hex:X.ex=[])
    (inB:∀ b o,s1.heap.get? b=some o→b ∉ frs X.stack→∃ o',B.get? b=some o'∧(H1 b=none→o'=o)) (st:B.StaysIn h2)
    (fr:∀ b o,s1.heap.get? b=some o→b∈frs X.stack→∃ sl,h2.get? b=some { o with slots:=sl }) (free:∀ b o,s1.heap.get? b=some o→H1 b=none→H2 b=none)
    (tups:∀ b xs,H1 b=some (.tup xs)→H2 b=some (.tup xs)) (frzs:∀ b o u,H1 b=some (.frz o u)→H2 b=some (.frz o u)) (tbls:∀ b ps,H1 b=some (.tbl ps)→∃ more,H2 b=some (.tbl (ps++more))) :
    Un X.fs [] X.H₀ H2 X.s₀.heap h2∧∀ b o,X.s₀.heap.get? b=some o→b ∉ X.fs→∃ o',B.get? b=some o'∧(X.H₀ b=none→o'=o):=by
  have nx:∀ b:Addr,b ∉ X.ex:=fun b=>by rw [hex];simp
  have ns:∀ b o,X.s₀.heap.get? b=some o→b ∉ X.fs→b ∉ frs X.stack:=fun b o e n z=>by
    rcases List.mem_cons.mp (I.stkSub b z) with q | q
    · rw [q] at e
      exact absurd (Nat.lt_of_lt_of_le (Heap.lt_size e) I.ok.above) (Nat.lt_irrefl _)
    · exact n q
  have toB:∀ b o,X.s₀.heap.get? b=some o→b ∉ X.fs→∃ o',B.get? b=some o'∧(X.H₀ b=none→o'=o):=fun b o e n=>by
    obtain ⟨o1,e1⟩:=I.base.there b o e (nx b)
    obtain ⟨o2,e2,k2⟩:=inB b o1 e1 (ns b o e n)
    refine ⟨o2,e2,fun h0=>?_⟩
    have z:=I.base.keep b o e h0 n (nx b)
    rw [e1] at z;cases z
    exact k2 (I.base.free b o e h0 (nx b))
  have inSt:∀ b∈X.fs,∀ o1,s1.heap.get? b=some o1→∃ sl,h2.get? b=some { o1 with slots:=sl }:=fun b hb o1 e1=>by
    by_cases hs:b∈frs X.stack
    · exact fr b o1 e1 hs
    · obtain ⟨o2,e2,k2⟩:=inB b o1 e1 hs
      have h1:H1 b=none:=by
        obtain ⟨_,o,ho,_⟩:=I.ok.funs.mem hb
        exact I.base.free b o ho (I.ok.frf b hb) (nx b)
      rw [k2 h1] at e2
      exact ⟨o1.slots,st _ _ e2⟩
  refine ⟨⟨fun b o e n hb _=>?_,fun b o e n hb _=>?_,fun b o e n _=>?_,fun b o e _=>?_,fun b xs e=>tups _ _ (I.base.tups _ _ e),fun b o u e=>frzs _ _ _ (I.base.frzs _ _ _ e),fun b ps e=>?_⟩,toB⟩
  · obtain ⟨o',e',k⟩:=toB b o e hb
    rw [k n] at e'
    exact st _ _ e'
  · obtain ⟨sl,e1⟩:=I.base.slot b o e n hb (nx b)
    obtain ⟨sl2,e2⟩:=inSt b hb _ e1
    exact ⟨sl2,e2⟩
  · obtain ⟨o1,e1⟩:=I.base.there b o e (nx b)
    exact free b o1 e1 (I.base.free b o e n (nx b))
  · obtain ⟨o1,e1⟩:=I.base.there b o e (nx b)
    by_cases hb:b∈X.fs
    · obtain ⟨sl,q⟩:=inSt b hb o1 e1
      exact ⟨_,q⟩
    · obtain ⟨o',e',_⟩:=toB b o e hb
      exact ⟨o',st _ _ e'⟩
  · obtain ⟨m1,e1⟩:=I.base.tbls b ps e
    obtain ⟨m2,e2⟩:=tbls b _ e1
    exact ⟨m1++m2,by rw [e2,Array.append_assoc]⟩
def Raises (X:Cx) (E:XK):Prop:=∀ (pins:List (Addr × Obj)) (σ:St) (H1:Hp) (s1:Shared) (h':Heap) (a C:Addr) (vs:List Value),Inv X pins σ H1 s1→Heap.MadeExcOf s1.heap h' a (.ref C) vs→E (.ref a) (some C) H1→X.xe (.ref a) { s1 with heap:=h' }
section
variable {P:Program} {w:World} {K:PySem.W.Frag} {mg:Str→Option Value} {base:Heap} {N:List Str} {qual:Str} {scope:Scope} {f:Addr} {cd:Value} {A:Around} {outer:List Env} {s:Shared} {H:Hp} {E:XK}
theorem raises_cx:Raises (cxOf (CXE P w) P w K mg base N qual scope f cd A outer s H E) E:=by
  intro pins σ H1 s1 h' a C vs I mk hE
  have stk:=I.stack
  have nTr:∀ b u,H1 b=some u→b ∉ frs (cxOf (CXE P w) P w K mg base N qual scope f cd A outer s H E).stack:=fun b u e z=>by
    rw [I.stkFree b z] at e;cases e
  have inB:∀ b o,s1.heap.get? b=some o→b ∉ frs (cxOf (CXE P w) P w K mg base N qual scope f cd A outer s H E).stack→(PySem.W.hideAll s1.heap (frs (cxOf (CXE P w) P w K mg base N qual scope f cd A outer s H E).stack)).get? b=some o:=fun b o e n=>PySem.W.hideAll_get _ e n
  show wpAny _ _ (leaving _ _) _ _ _
  refine wpAny_leaves_madeW (base:=PySem.W.hideAll s1.heap (frs (cxOf (CXE P w) P w K mg base N qual scope f cd A outer s H E).stack)) (h:=s1.heap) I.ok.frames rfl (fun b o q=>PySem.W.of_hideAll _ q)
    (PySem.W.funFrames_hide stk fun env he b hb=>List.mem_filterMap.mpr ⟨env,he,hb⟩) mk fun h2 t fl _ _ sm=>?_
  generalize PySem.W.hideAll s1.heap (frs (cxOf (CXE P w) P w K mg base N qual scope f cd A outer s H E).stack)=B at inB fl
  have BS:∀ b o,B.get? b=some o→s1.heap.get? b=some o∨True:=fun _ _ _=>.inr trivial
  obtain ⟨u,k1⟩:=fly_out (H2:=H1) (B:=B) (h2:=h2) I rfl (fun b o e n=>⟨o,inB b o e n,fun _=>rfl⟩) fl.1
    (fun b o e hb=>by
      obtain ⟨_,o',e',nf⟩:=stk.mem hb
      rw [e] at e';cases e'
      exact sm b o (mk.keeps _ _ e) nf)
    (fun _ _ _ z=>z) (fun _ _ z=>z) (fun _ _ _ z=>z) (fun b ps z=>⟨#[],by rw [z];simp⟩)
  have tr:∀ b u,H1 b=some u→∃ o,B.get? b=some o:=fun b u e=>by
    obtain ⟨o,eo⟩:=(I.hok b u e).obj
    exact ⟨o,inB b o eo (nTr b u e)⟩
  refine ⟨a,C,H1,rfl,I.os,I.bare,u,fun b o e=>?_,⟨B,_,fl,k1,tr⟩,?_,hE⟩
  · refine (I.hok b o e).stay (fun c v hc q=>?_) (fun _ q=>q) fun _ _ q=>q
    have nc:c ∉ frs (cxOf (CXE P w) P w K mg base N qual scope f cd A outer s H E).stack:=by
      rcases hc with rfl | hc
      · exact nTr _ _ e
      · exact nTr _ _ hc
    exact fl.1 _ _ (inB c v q nc)
  · cases q:H1 a with
    | none=>rfl
    | some u=>
      obtain ⟨o,eo⟩:=(I.hok a u q).obj
      rw [mk.new] at eo;cases eo
end
end L2
namespace L2
open PySem PySem.Spec PyProof.Rows
def excO (a C:Addr):HO:=.ext fun h=>∃ o vs,h.get? a=some o∧o.cls=.ref C∧o.data=.fields vs
def Up (X:Cx) (pins:List (Addr × Obj)) (σ:St) (a C:Addr) (H2:Hp) (s:Shared):Prop:=
  ∃ H1 s1,Inv X pins σ H1 s1∧s.os=s1.os∧AllBare s.gens∧Un (frs X.stack) [] H1 H2 s1.heap s.heap∧HOk X.prog X.w H2 s.heap∧FlyS X.stack H1 s1.heap H2 a C s.heap∧H2 a=none
section
variable {X:Cx} {pins:List (Addr × Obj)} {σ:St} {a C:Addr} {H1 H2:Hp} {s s1:Shared} {B h h':Heap} {a0:Value}
theorem excO_ok (H:Hp) (e:∃ o vs,h.get? a=some o∧o.cls=.ref C∧o.data=.fields vs):ObjOk X.prog X.w H h a (excO a C):=by
  refine ⟨e,?_,fun h1 h2 ⟨o,vs,x1,x2,x3⟩ k=>⟨o,vs,k _ x1,x2,x3⟩⟩
  obtain ⟨o,_,e,_⟩:=e
  exact ⟨o,e⟩
theorem Up.inv (U:Up X pins σ a C H2 s):Inv X pins σ (upd H2 a (excO a C)) s:=by
  obtain ⟨H1,s1,I,os,bare,un,hok,⟨B,a0,fl,k0,tr⟩,ha⟩:=U
  obtain ⟨oe,vs,e1,e2,e3,_⟩:=fl.first
  have na:∀ b o,s1.heap.get? b=some o→b≠a:=fun b o e z=>by
    subst z
    by_cases hb:b∈frs X.stack
    · obtain ⟨_,o',e',nf⟩:=fl.2.2.1.mem hb
      rw [e1] at e';cases e'
      exact nf vs e3
    · obtain ⟨o',e',_⟩:=k0 b o e hb
      rw [fl.2.1] at e';cases e'
  have up:∀ b u,H2 b=some u→upd H2 a (excO a C) b=some u:=fun b u e=>by rw [upd_ne (ne_of_none e ha)];exact e
  refine I.call' (ch:=[]) os ⟨un.keep,un.slot,fun b o e n hx=>?_,un.there,fun b xs e=>up _ _ (un.tups b xs e),fun b o u e=>up _ _ (un.frzs b o u e),fun b ps e=>?_⟩ (fun b o e=>?_) bare (fun _ z=>nomatch z)
  · rw [upd_ne (na b o e)];exact un.free b o e n hx
  · obtain ⟨more,e2⟩:=un.tbls b ps e
    exact ⟨more,up _ _ e2⟩
  · by_cases hb:b=a
    · subst hb
      rw [upd_same] at e;cases e
      exact excO_ok _ ⟨oe,vs,e1,e2,e3⟩
    · rw [upd_ne hb] at e
      exact (hok b o e).stay (fun _ _ _ q=>q) (fun c q=>up _ _ q) fun c xs q=>up _ _ q
theorem up_on (I:Inv X pins σ H1 s1) (os:s.os=s1.os) (bare:AllBare s.gens) (un:Un (frs X.stack) [] H1 H2 s1.heap s.heap) (hok:HOk X.prog X.w H2 s.heap) (hB:B.StaysIn s.heap) (ffs:s.heap.FunFrames B X.stack)
    (k0:∀ b o,s1.heap.get? b=some o→b ∉ frs X.stack→∃ o',B.get? b=some o'∧(H1 b=none→o'=o)) (tr:∀ b u,H2 b=some u→∃ o,B.get? b=some o) (ha:H2 a=none)
    (fl':Heap.FlyingW B X.stack a (.ref C) a0 h') (sm:s.heap.UpToSlots h'):Up X pins σ a C H2 { s with heap:=h' }:=by
  refine ⟨H1,s1,I,os,bare,⟨fun b o e n hb _=>?_,fun b o e n hb _=>?_,un.free,fun b o e _=>?_,un.tups,un.frzs,un.tbls⟩,hok_in hok hB fl'.1 tr,⟨B,a0,fl',k0,tr⟩,ha⟩
  · obtain ⟨o',e',k⟩:=k0 b o e hb
    rw [k n] at e'
    exact fl'.1 _ _ e'
  · obtain ⟨sl,e2⟩:=un.slot b o e n hb (by simp)
    obtain ⟨_,o',e',nf⟩:=ffs.mem hb
    rw [e2] at e';cases e'
    obtain ⟨sl3,e3⟩:=sm b _ e2 nf
    exact ⟨sl3,e3⟩
  · by_cases hb:b∈frs X.stack
    · obtain ⟨_,o',e',_⟩:=fl'.2.2.1.mem hb
      exact ⟨o',e'⟩
    · obtain ⟨o',e',_⟩:=k0 b o e hb
      exact ⟨o',fl'.1 _ _ e'⟩
theorem up_lands {M:Model} {A:Around} {E:Value→Shared→Prop} {Q:Unit→Shared→Prop} (U:Up X pins σ a C H2 s) (h:∀ h',Up X pins σ a C H2 { s with heap:=h' }→Q () { s with heap:=h' }) :
    wpAny M A (setFlight (.ref a) none) Q E s:=by
  obtain ⟨H1,s1,I,os,bare,un,hok,⟨B,a0,fl,k0,tr⟩,ha⟩:=U
  exact lands_againW fl fun h' fl' sm=>h h' (up_on I os bare un hok fl.1 fl.2.2.1 k0 tr ha fl' sm)
theorem up_looks {M:Model} {A:Around} {E:Value→Shared→Prop} {Q:Unit→Shared→Prop} (hA:A.frames=some X.stack) (hst:X.stack=X.env :: X.outer) (hf:X.env.frame=some X.env.locals) (U:Up X pins σ a C H2 s)
    (h:∀ h',Up X pins σ a C H2 { s with heap:=h' }→Q () { s with heap:=h' }) :
    wpAny M A (noteFrame (.ref a) X.env) (fun _ s2=>wpAny M A (setFlight (.ref a) none) Q E s2) E s:=by
  obtain ⟨H1,s1,I,os,bare,un,hok,⟨B,a0,fl,k0,tr⟩,ha⟩:=U
  have fl0:=fl
  rw [hst] at fl0 hA
  refine wpAny_looks_onW hA hf fl0 fun h1 hh sm=>?_
  refine wpAny_landsW hh fun h2 fl2 sm2=>?_
  rw [← hst] at fl2
  exact h h2 (up_on I os bare un hok fl.1 fl.2.2.1 k0 tr ha fl2 (sm.trans sm2))
abbrev Cx.caught (X:Cx) (a:Addr):Cx:={ X with A:=X.A.mark (some (.ref a)),calm:=false,xe:=fun _ _=>False }
theorem Inv.caught {H:Hp} (I:Inv X pins σ H s) (a:Addr):Inv (X.caught a) pins σ H s:=
  ⟨⟨I.ok.mod,I.ok.kind,I.ok.glob,I.ok.blt,I.ok.above,I.ok.inj,I.ok.has,I.ok.cab,(fun z=>nomatch z),I.ok.frames,I.ok.stk,I.ok.exf,I.ok.bs,I.ok.bsz,I.ok.noex,I.ok.exfs,I.ok.funs,I.ok.frf⟩,I.os,I.bare,I.base,I.loc,I.cell,I.free,I.freeC,I.pin,I.hok,I.len⟩
theorem Inv.uncaught {H:Hp} (ok:X.Ok) (I:Inv (X.caught a) pins σ H s):Inv X pins σ H s:=⟨ok,I.os,I.bare,I.base,I.loc,I.cell,I.free,I.freeC,I.pin,I.hok,I.len⟩
theorem Inv.goes {M:Model} {A:Around} {E:Value→Shared→Prop} {H:Hp} {i:Nat} {n:Str} {pos:Pos} {Q:Unit→Shared→Prop} (I:Inv X pins σ H s) (hN:X.N.Nodup) (hi:X.N[i]?=some n) (hl:X.env.kindOf n=some .local)
    (h:∀ s',Inv X pins (σ.set i none) H s'→Q () s'):wpAny M A (do bindName X.env n .none;unbindBehindTheSuite X.env n pos) Q E s:=by
  obtain ⟨m,hn,hl'⟩:=id I.loc
  have hcls:(X.env.scope.kind == .class || (X.env.scope.kind == .module && X.env.locals != X.env.globals))=false:=by rw [I.ok.kind];rfl
  have hiσ:i < σ.length:=by rw [I.len];exact (List.getElem?_eq_some_iff.mp hi).1
  refine wpAny_nameGoes_keeps hl hn hcls fun h' v hn' hs=>?_
  obtain ⟨oL,_,_,hoL,_⟩:=id hn
  refine h _ ⟨I.ok,I.os,I.bare,⟨fun b o e n hb hx=>?_,fun b o e n hb hx=>?_,I.base.free,fun b o e hx=>?_,I.base.tups,I.base.frzs,I.base.tbls⟩,⟨_,hn',fun j y v' e1 e2 e3=>?_⟩,fun y c e=>?_,I.free,I.freeC,fun p hp=>?_,fun b ob e=>?_,by simpa using I.len⟩
  · exact (hs.2 b (Nat.ne_of_lt (Nat.lt_of_lt_of_le (Heap.lt_size e) I.ok.above))).trans (I.base.keep b o e n hb hx)
  · obtain ⟨sl,e1⟩:=I.base.slot b o e n hb hx
    exact ⟨sl,(hs.2 b (Nat.ne_of_lt (Nat.lt_of_lt_of_le (Heap.lt_size e) I.ok.above))).trans e1⟩
  · obtain ⟨o',e1⟩:=I.base.there b o e hx
    exact ⟨o',(hs.2 b (Nat.ne_of_lt (Nat.lt_of_lt_of_le (Heap.lt_size e) I.ok.above))).trans e1⟩
  · by_cases hj:j=i
    · subst hj
      rw [List.getElem?_set_self hiσ] at e2
      cases e2
    · rw [List.getElem?_set_ne (Ne.symm hj)] at e2
      obtain ⟨u',r',q⟩:=hl' j y v' e1 e2 e3
      refine ⟨u',r',?_⟩
      rcases q with ⟨k,e⟩ | ⟨k,c,e,z⟩
      · refine .inl ⟨k,?_⟩
        have:y≠n:=fun e=>hj (nodup_ix hN e1 (e ▸ hi))
        simp [this,e]
      · exact .inr ⟨k,c,e,z.sameBut hs (I.cne y c e)⟩
  · obtain ⟨w',z⟩:=I.cell y c e
    exact ⟨w',z.sameBut hs (I.cne y c e)⟩
  · obtain ⟨e,n,ne,nf,d⟩:=I.pin p hp
    exact ⟨(hs.2 p.1 ne).trans e,n,ne,nf,d⟩
  · refine (I.hok b ob e).stay (fun c w' hc q=>(hs.2 c ?_).trans q) (fun _ q=>q) fun _ _ q=>q
    rintro rfl
    rcases hc with rfl | hc
    · rw [I.free] at e;cases e
    · rw [I.free] at hc;cases hc
end
def PH (X:Cx) (hs:List ExceptHandler) (th:Addr→Addr→TS):Prop:=
  ∀ (pins:List (Addr × Obj)) (s:Shared) (σ:St) (H2:Hp) (D:Ends) (a C:Addr),Up X pins σ a C H2 s→th a C D σ (upd H2 a (excO a C))→wpAny (model X.prog X.w) X.A (handleBy (.ref a) X.env hs) (SP X pins D) X.xe s
def Ends.goes (D:Ends) (i:Nat):Ends:=⟨fun σ H=>D.nx (σ.set i none) H,D.rt,fun σ H=>D.bk (σ.set i none) H,fun σ H=>D.ct (σ.set i none) H⟩
section
variable {X:Cx} {x n:Str} {i:Nat} {np pos:Pos} {b₀:Stmt} {suite:List Stmt} {rest:List ExceptHandler} {Cl:Addr} {th:Addr→TS} {tr:Addr→Addr→TS}
theorem typ_of {M:Model} {H:Hp} {h:Heap} {a C:Addr} (e:ObjOk X.prog X.w H h a (excO a C)):PySem.W.Looks M h (typeOf (.ref a)) (.ref C):=by
  obtain ⟨⟨o,vs,e1,e2,_⟩,_⟩:=e
  rw [← e2]
  exact (PySem.W.Looks.ld e1).andThen .now
theorem ph_as (hg:Gl X x) (hm:X.mg x=some (.ref Cl)) (hN:X.N.Nodup) (hi:X.N[i]?=some n) (hl:X.env.scope.names.lookup n=some .local) (hb:∀ a,PSs (X.caught a) (b₀ :: suite) (th a)) (hd:(x == ("__debug__" : Str))=false:=by decide) :
    PH X (.ExceptHandler (some (.Name x np)) (some n) (b₀ :: suite) pos :: rest) (fun a C D σ H=>PySem.W.exmOne X.K (.ref C) (.ref Cl)=some true∧th a (D.goes i) (σ.set i (some (.ref a))) H):=by
  intro pins s σ H2 D a C U h
  obtain ⟨hx,h⟩:=h
  have I:=U.inv
  refine wpAny_handleBy_cons (codeAny_handlers_test (ld_glob (I.caught a) hg hm ?_ hd)) (by intro q;cases q)
  refine (PySem.W.exm_one I.kIn (typ_of (I.hok a _ upd_same)) hx).here ?_
  refine codeAny_handlers_suite_as ?_
  refine up_lands U fun h' U'=>?_
  have I':=U'.inv
  refine store_ok I' hN hi (.inl hl) (v:=.ref a) rfl (fun s2 I2=>?_) (.inr hl)
  refine wpAny_mono (hb a pins s2 _ _ (D.goes i) (I2.caught a) h) (fun f s3 q=>?_) fun _ _ z=>False.elim z
  cases f with
  | next=>obtain ⟨σ',H',J,q⟩:=q;exact (J.uncaught I.ok).goes hN hi hl fun s4 J4=>⟨_,H',J4,q⟩
  | brk=>obtain ⟨σ',H',J,q⟩:=q;exact (J.uncaught I.ok).goes hN hi hl fun s4 J4=>⟨_,H',J4,q⟩
  | cont=>obtain ⟨σ',H',J,q⟩:=q;exact (J.uncaught I.ok).goes hN hi hl fun s4 J4=>⟨_,H',J4,q⟩
  | ret u=>obtain ⟨v,σ',H',J,r,q⟩:=q;exact (J.uncaught I.ok).goes hN hi hl fun s4 J4=>⟨v,_,H',J4,r,q⟩
end
def PassesAt (CX:CXT) (X:Cx) (E:XK) (σ:St):Prop:=∀ (pins:List (Addr × Obj)) (H:Hp) (s:Shared) (e:Value) (s':Shared),Inv X pins σ H s→CX X.stack H s E e s'→X.xe e s'
abbrev Cx.tries (X:Cx) (pn:List (Addr × Obj)) (xe:Value→Shared→Prop):Cx:={ X with pn:=pn,xe:=xe }
def eTry (th:Addr→Addr→TS) (D:Ends) (σ:St):XK:=fun v c H'=>∃ a C,v=.ref a∧c=some C∧th a C D σ (upd H' a (excO a C))
def tTry (tb:XK→St→TS) (th:Addr→Addr→TS):TS:=fun D σ H=>tb (eTry th D σ) σ D σ H
theorem ps_try {X:Cx} {body:List Stmt} {h₀:ExceptHandler} {hs:List ExceptHandler} {pos:Pos} {tb:XK→St→TS} {th:Addr→Addr→TS}
    (hb:∀ pn xe E σ0,PassesAt (CXE X.prog X.w) (X.tries pn xe) E σ0→PSs (X.tries pn xe) body (tb E σ0)) (hh:PH X (h₀ :: hs) th)
    (hst:X.stack=X.env :: X.outer:=by rfl) (hf:X.env.frame=some X.env.locals:=by rfl):PS X (.Try body (h₀ :: hs) [] [] pos) (tTry tb th):=by
  intro pins s σ H D I h
  have toX:∀ {xe:Value→Shared→Prop} {pins':List (Addr × Obj)} {σ':St} {H':Hp} {s':Shared},Inv (X.tries (X.pn++pins) xe) pins' σ' H' s'→Inv X pins σ' H' s':=fun {xe pins' σ' H' s'} J=>
    ⟨I.ok,J.os,J.bare,J.base,J.loc,J.cell,J.free,J.freeC,fun p hp=>J.pin p (List.mem_append_left _ hp),J.hok,J.len⟩
  refine wpAny_Try_except ?_
  have J:∀ xe,Inv (X.tries (X.pn++pins) xe) [] σ H s:=fun xe=>
    ⟨⟨I.ok.mod,I.ok.kind,I.ok.glob,I.ok.blt,I.ok.above,I.ok.inj,I.ok.has,I.ok.cab,I.ok.hd,I.ok.frames,I.ok.stk,I.ok.exf,I.ok.bs,I.ok.bsz,I.ok.noex,I.ok.exfs,I.ok.funs,I.ok.frf⟩,I.os,I.bare,I.base,I.loc,I.cell,I.free,I.freeC,fun p hp=>by
      rw [List.append_nil] at hp
      exact I.pin p hp,I.hok,I.len⟩
  refine wpAny_mono (hb (X.pn++pins) (fun e s'=>∃ a C H2,e=.ref a∧Up X pins σ a C H2 s'∧th a C D σ (upd H2 a (excO a C))) (eTry th D σ) σ ?_ [] s σ H D (J _) h) (fun f s1 q=>?_) fun e s1 q=>?_
  · rintro pins' H1 s1 e s2 I1 ⟨a,C,H2,rfl,os,bare,un,hok,fly,ha,a',C',e1,e2,hE⟩
    cases e1;cases e2
    exact ⟨a,C,H2,rfl,⟨H1,s1,toX I1,os,bare,un,hok,fly,ha⟩,hE⟩
  · cases f with
    | next=>obtain ⟨σ',H',J,q⟩:=q;exact wpAny_execs_nil ⟨σ',H',toX J,q⟩
    | brk=>obtain ⟨σ',H',J,q⟩:=q;exact ⟨σ',H',toX J,q⟩
    | cont=>obtain ⟨σ',H',J,q⟩:=q;exact ⟨σ',H',toX J,q⟩
    | ret u=>obtain ⟨v,σ',H',J,r,q⟩:=q;exact ⟨v,σ',H',toX J,r,q⟩
  · obtain ⟨a,C,H2,rfl,U,hE⟩:=q
    exact up_looks I.ok.frames hst hf U fun h' U'=>hh pins _ σ H2 D a C U' hE
end L2
namespace L2
open PySem PySem.Spec PyProof.Rows PySem.W PySem.Calls PySem.Builtin PySem.Builtin.ObjectAttr PySem.Builtin.Getset_descriptor
structure ExK (K:Frag) (C:Addr):Prop where
  ga:findIn K (.ref C) "__getattribute__" = some (some (.builtin "BaseException.__getattribute__"))
  gn:findIn K (.ref C) "__getattr__" = some none
  cl:findIn K (.ref C) "__class__" = some (some (.builtin "object.__class__"))
  gt:specialIn K (.builtin "object.__class__") "__get__" = some (some (.builtin "getset_descriptor.__get__"))
  tk:takesIn K (.builtin "object.__class__")=some true
  ob:mroIn K C (.type "object")=some true
  be:mroIn K C (.type "BaseException")=some true
  cd:(clsIn K C).isSome=true
section
variable {prog:Program} {w:World} {A:Around} {E:Value→Shared→Prop} {s:Shared} {K:Frag} {x C:Addr} {R:Result→Shared→Prop}
theorem exc_class_get {tp:Value} (X:K.In s.heap) (L0:Looks (model prog w) s.heap (typeOf (.ref x)) (.ref C)) (L1:Looks (model prog w) s.heap (isSubtype (.ref C) (.type "object")) true)
    (h:R (.ok (.ret (.ref C))) s):codeAny (model prog w) A (.call (.builtin "getset_descriptor.__get__") ⟨[.builtin "object.__class__", .ref x,tp],[]⟩) R s:=by
  obtain ⟨hh,g,dr,t,os⟩:=s
  refine codeAny_call_builtin KF.slot_gs.plain KF.entry_gs (KF.slot_gs.check _ _ _ _ _ _ _ _ KF.type_class (KF.args_gs _ _ _) ?_)
  unfold Builtin.«getset_descriptor.__get__» descrGet
  rw [dga_obj]
  refine wpAny_bind (wpAny_pure ?_)
  unfold descrGetter descrCheckInstance descrNameAndClass isInstance
  simp only [KF.owner_class]
  repeat lk
  refine ⟨Code.quiet_builtin _ (by decide +kernel),codeAny_builtin KF.entry_class ?_⟩
  unfold Builtin.«object.__class__» shownTypeOf
  repeat lk
  exact h
theorem exc_find {M:Model} {h:Heap} (X:K.In h) (Z:ExK K C):Looks M h (find (.ref x) (.ref C) "__class__") (.bind (.builtin "getset_descriptor.__get__") (.builtin "object.__class__")):=by
  have L1:=looks_findIn (M:=M) X Z.cl
  have L2:Looks M h (getOf (some (.builtin "object.__class__"))) (some (.builtin "getset_descriptor.__get__")):=looks_specialIn X Z.gt
  have L3:=looks_takesIn (M:=M) X Z.tk
  refine L1.andThen (L2.andThen ?_)
  exact (show Looks M h (dataDescriptor? (some (.builtin "object.__class__")) (some (.builtin "getset_descriptor.__get__"))) (some (.builtin "getset_descriptor.__get__", .builtin "object.__class__")) from L3.andThen .now).andThen (Looks.tag .now)
theorem exc_entry {tk:Tok} {Q:Fin→Shared→Prop} (X:K.In s.heap) (Z:ExK K C) (L0:Looks (model prog w) s.heap (typeOf (.ref x)) (.ref C)) (h:Q (.done (.ret (.ref C))) s) :
    wpAny (model prog w) A (Builtin.«object.__getattribute__» ⟨[.ref x,.str "__class__" tk],[]⟩) Q E s:=by
  have L1:=looks_mroIn (M:=model prog w) X Z.ob
  have L2:=exc_find (M:=model prog w) (x:=x) X Z
  obtain ⟨hh,g,dr,t,os⟩:=s
  unfold Builtin.«object.__getattribute__»
  repeat (any_goals (first | assumption | (refine wpAny_bind (L0.at ?_)) | (refine wpAny_bind (L2.at ?_)) | wp_step))
  refine exc_class_get X L0 L1 ?_
  repeat (any_goals (first | assumption | wp_step))
theorem exc_kind:builtinKind "BaseException.__getattribute__" = some .slot:=by decide +kernel
theorem exc_split:splitId "BaseException.__getattribute__" = some ("BaseException", "__getattribute__"):=by decide +kernel
theorem exc_check {M:Model} {nameV:Value} {Q:Unit→Shared→Prop} (LI:Looks M s.heap (isInstance (.ref x) (.type "BaseException")) true) (h:Q () s) :
    wpAny M A (checkBuiltinCall "BaseException.__getattribute__" ⟨[.ref x,nameV],[]⟩) Q E s:=
  check_slot (i := "BaseException.__getattribute__") (owner := "BaseException") (n := "__getattribute__") (self:=.ref x) (rest:=[nameV]) (kw:=[]) exc_kind exc_split LI (F.args_bexc_ga (.ref x) nameV) h
theorem exc_call {tk:Tok} (X:K.In s.heap) (Z:ExK K C) (L0:Looks (model prog w) s.heap (typeOf (.ref x)) (.ref C)) (h:R (.ok (.ret (.ref C))) s) :
    codeAny (model prog w) A (.call (.builtin "BaseException.__getattribute__") ⟨[.ref x,.str "__class__" tk],[]⟩) R s:=
  codeAny_call_builtin F.attrBase_ValueError.ga.plain F.entry_bexc_ga (exc_check (L0.andThen (looks_mroIn (M:=model prog w) X Z.be)) (exc_entry X Z L0 h))
theorem exc_by {hh:Heap} {g:Array GenState} {dr:Drawn} {t:Nat} {os:OsState} {tk:Tok} {fill expr:Bool} {Q:Value→Shared→Prop} (X:K.In hh) (Z:ExK K C) (L0:Looks (model prog w) hh (typeOf (.ref x)) (.ref C)) (h:Q (.ref C) ⟨hh,g,dr,t,os⟩) :
    wpAny (model prog w) A (getAttrBy (.ref x) (.str "__class__" tk) fill expr) Q E ⟨hh,g,dr,t,os⟩:=by
  have f3:=F.attrBase_ValueError.ga.bind (.ref x)
  have hx0:(expr && onTheHeap (Value.builtin "BaseException.__getattribute__"))=false:=by cases expr <;> rfl
  have hx2:(Value.builtin "BaseException.__getattribute__" == Value.builtin "object.__getattribute__")=false:=by decide +kernel
  have hx1:(onTheHeap (Value.ref C) && Value.builtin "BaseException.__getattribute__" == Value.builtin "object.__getattribute__")=false:=by rw [hx2];rfl
  have L1:=looks_findIn (M:=model prog w) X Z.ga
  have L2:=looks_findIn (M:=model prog w) X Z.gn
  repeat (any_goals (first | assumption | (refine wpAny_bind (L0.at ?_)) | (refine wpAny_bind (L1.at ?_)) | (refine wpAny_bind (L2.at ?_)) | wp_step))
  refine exc_call X Z L0 ?_
  repeat (any_goals (first | assumption | wp_step))
theorem exc_class {hh:Heap} {g:Array GenState} {dr:Drawn} {t:Nat} {os:OsState} {Q:Option Value→Shared→Prop} (X:K.In hh) (Z:ExK K C) (L0:Looks (model prog w) hh (typeOf (.ref x)) (.ref C)) (h:Q (some (.ref C)) ⟨hh,g,dr,t+1,os⟩) :
    wpAny (model prog w) A (getAttr? (.ref x) "__class__") Q E ⟨hh,g,dr,t,os⟩:=by
  unfold getAttr? getAttrBy?
  repeat (any_goals (first | assumption | (with_reducible apply exc_by X Z L0) | wp_step))
end
end L2
namespace L2
open PySem PySem.Spec PyProof.Rows PySem.W
theorem kitx_exc {K:Frag} {a C:Addr} (Z:ExK K C):KitX K (.ref a) (.ref C) (fun h=>∃ o vs,h.get? a=some o∧o.cls=.ref C∧o.data=.fields vs) where
  ty:=fun M h _ ⟨o,vs,e1,e2,_⟩=>e2 ▸ (Looks.ld e1).andThen .now
  it:=fun M h X _=>by
    obtain ⟨cd,hcD⟩:=Option.isSome_iff_exists.mp Z.cd
    unfold clsIn at hcD
    split at hcD
    · rename_i c' d' cd' sl' ho
      intro A' Q' E' s' k q
      unfold isType loadHead
      exact wpAny_bind (wpAny_loadPart (k _ _ (X _ _ ho)) (wpAny_pure q))
    · cases hcD
  ne:=fun h tp dd its n sl X htp=>by
    obtain ⟨cd,hcD⟩:=Option.isSome_iff_exists.mp Z.cd
    refine Bool.eq_false_iff.mpr fun q=>?_
    have e:C=tp:=Value.ref.inj (beq_iff_eq.mp q)
    subst e
    unfold clsIn at hcD
    split at hcD
    · rename_i c' d' cd' sl' ho
      have z:=(X _ _ ho).symm.trans htp
      cases z
    · cases hcD
  ca:=fun {prog w A E Q s} X I k=>by
    obtain ⟨hh,g,d,t,os⟩:=s
    obtain ⟨o,vs,e1,e2,_⟩:=I
    exact exc_class (C:=C) X Z (e2 ▸ (Looks.ld e1).andThen .now) k
section
variable {X:Cx}
theorem call_isinstE (K:Frag) (hK:X.K=K:=by rfl):CallR X (.builtin "isinstance") (fun vs H Q=>∃ (a C D:Addr) (b:Bool),vs=[.ref a,.ref D]∧H a=some (excO a C)∧ExK K C∧kitOne K (.ref C) (.ref D)=some b∧Q (.bl b) H):=by
  subst hK
  intro pins s σ H xs us Q I r h
  obtain ⟨a,C,D,b,rfl,ha,Z,e,q⟩:=h
  obtain ⟨u,v,rfl,ru,rv⟩:=vals2 r
  cases (show u=Value.ref a from ru)
  cases (show v=Value.ref D from rv)
  exact kia_one (kitx_exc Z) I.kIn (I.hok a _ ha).1 e (fun z=>nomatch z) fun tk=>⟨.bl b,H,I.tok tk,rfl,q⟩
theorem call_isinstEB (K:Frag) (hK:X.K=K:=by rfl):CallR X (.builtin "isinstance") (fun vs H Q=>∃ (a C:Addr) (T:String) (b:Bool),vs=[.ref a,.ty T]∧H a=some (excO a C)∧ExK K C∧kitOne K (.ref C) (.type T)=some b∧Q (.bl b) H):=by
  subst hK
  intro pins s σ H xs us Q I r h
  obtain ⟨a,C,T,b,rfl,ha,Z,e,q⟩:=h
  obtain ⟨u,v,rfl,ru,rv⟩:=vals2 r
  cases (show u=Value.ref a from ru)
  cases (show v=Value.type T from rv)
  exact kia_one (kitx_exc Z) I.kIn (I.hok a _ ha).1 e (fun z=>nomatch z) fun tk=>⟨.bl b,H,I.tok tk,rfl,q⟩
end
abbrev bmV:List Value:=[.type "ValueError", .type "Exception", .type "BaseException", .type "object"]
theorem exc_obj {K:Frag} {h:Heap} {C:Addr} {bmB:List Value} {newId:String} (X:K.In h) (q:excIn K C bmB newId=true) :
    ∃ bm N nm q bs hdct sn sub ab col dd k0 k1 k2 k3 k5 mN,h.get? C=some (excClassObj nm q C N bs bm hdct sn sub ab col dd k0 k1 k2 k3 k5 newId)∧h.Ns N mN∧mN "__init__" = none∧OwnTail h bmB bm:=by
  unfold excIn at q
  split at q
  · rename_i dd cd sl ho
    split at q
    · rename_i C' bm k0 k1 k2 k3 n k5 hm hs
      simp only [Bool.and_eq_true,beq_iff_eq,Bool.not_eq_true'] at q
      obtain ⟨⟨⟨⟨⟨rfl,rfl⟩,hdel⟩,ht⟩,hok⟩,hni⟩:=q
      obtain ⟨nm,bs,mro,ns,qn,hd,sn,sub,ab,col,del⟩:=cd
      dsimp only at hm hdel hok hni
      subst hm hdel
      have hsl:sl=#[k0,k1,k2,k3,some (.builtin n),k5]:=by
        obtain ⟨l⟩:=sl
        simp only at hs
        rw [hs]
      subst hsl
      exact ⟨bm,ns,nm,qn,bs,hd,sn,sub,ab,col,dd,k0,k1,k2,k3,k5,_,X _ _ ho,.of_isNs (isNs_of_in X hok),nsMap_none_of_in X hok hni,tail_of_in X ht⟩
    · cases q
  · cases q
def tRaise (E:XK) (C:Addr) (ta:TA):TS:=fun _ σ H=>ta σ H fun vs H1=>vs.length≤sizeLine∧∀ a,H1 a=none→E (.ref a) (some C) H1
theorem ps_raise {X:Cx} {E:XK} {x:Str} {C:Addr} {e₀:Expr} {rest:List Expr} {ta:TA} {np cpos pos:Pos} (R:Raises X E) (hm:X.mg x=some (.ref C)) (hq:excIn X.K C bmV "ValueError.__new__" = true) (hg:Gl X x) (ha:PA X (e₀ :: rest) ta)
    (hc:X.calm=true:=by rfl) (he:starEach (e₀ :: rest) X.env=(false,eval e₀ X.env) :: starEach rest X.env:=by rfl) (hplain:(backTo cpos (starEach rest X.env)).any (·.1)=false:=by rfl) (hd:(x == ("__debug__" : Str))=false:=by decide) :
    PS X (.Raise (some (.Call (.Name x np) (e₀ :: rest) [] cpos)) none pos) (tRaise E C ta):=by
  intro pins s σ H D I h
  obtain ⟨tl,N,nm,q,bs,hdct,sn,sub,ab,col,dd,k0,k1,k2,k3,k5,mN,hC,hN,hni,T⟩:=exc_obj I.ok.mod.kin hq
  refine wpAny_Raise_call_subT (C:=C) (nm:=nm) (q:=q) (N:=N) (bs:=bs) (bm:=tl) (hdct:=hdct) (sn:=sn) (sub:=sub) (ab:=ab) (col:=col) (dd:=dd) (k0:=k0) (k1:=k1) (k2:=k2) (k3:=k3) (k5:=k5)
    F.excBase_ValueError (mN:=mN) (T.hasType F.excBase_ValueError.hasBase) (I.ok.hd hc) (by rw [he];show (false || (backTo cpos (starEach rest X.env)).any (·.1))=false;rw [hplain];rfl) hni (ld_glob I hg hm ⟨rfl,?_⟩ hd)
  have hh:=ha cpos pins s σ H _ I h
  rw [he] at hh ⊢
  refine Calls.evalArgs_plain (wpAny_mono hh (fun vs s₂ h₂=>?_) fun _ _ y=>y)
  obtain ⟨us,H1,I1,r,hz,q⟩:=h₂
  refine ⟨rfl,by rw [← r.length];exact hz,I1.bk _ _ hC,hN.keeps I1.bk,T.keeps I1.bk,fun h' e mk=>R pins σ H1 s₂ h' e C vs I1 mk (q e ?_)⟩
  cases z:H1 e with
  | none=>rfl
  | some u=>
    obtain ⟨o,eo⟩:=(I1.hok e u z).obj
    rw [mk.new] at eo;cases eo
def HasX (P:Program) (w:World) (K:Frag) (mg:Str→Option Value) (base:Heap) (x:Str) (k:Nat) (ps:List Str) (sp:Sp):Prop:=
  ∃ f fd,FnOk P w K mg base (CXE P w) k f fd ps sp∧Binds K fd ps []∧keepIn K (.ref f)=true∧mg x=some (.ref f)
section
variable {P:Program} {w:World} {K:Frag} {mg:Str→Option Value} {base:Heap}
theorem HasX.mono {x:Str} {j k:Nat} {ps:List Str} {sp:Sp} (G:HasX P w K mg base x j ps sp) (h:j≤k):HasX P w K mg base x k ps sp:=
  let ⟨f,fd,F,r⟩:=G;⟨f,fd,F.mono h,r⟩
theorem Df.hasX {x:Str} {st:Stmt} {N ps:List Str} {k:Nat} {sp:Sp} (D:Df K mg x st) (S:FnScope N ps (defScope st))
    (hb:∀ (kV doc pm:Value) (an:Option Addr) (cdv ct:Value) (us:List Value),us.length=ps.length→bindArgs (fnOf x x (defArgs st) (defBody st) (defScope st) .none kV doc pm an cdv ct) ⟨us,[]⟩=pure (ps.zip us))
    (len:∀ vs H Q E,sp vs H Q E→vs.length=ps.length)
    (hbody:∀ (f:Addr) (cdv:Value) (A:Around) (outer:List Env) (s:Shared) (H:Hp) (vs:List V) (Q:VK) (E:XK),Room k (A.deeper (envOfC x (defScope st) s.heap.objs.size f cdv))→sp vs H Q E →
      ∃ t,PSs (cxOf (CXE P w) P w K mg base N x (defScope st) f cdv A outer s H E) (defBody st) t∧t { nx:=fun _ H'=>Q .non H',rt:=Q } (start N vs) H):HasX P w K mg base x (k+1) ps sp:=by
  obtain ⟨f,fd,F,m⟩:=D
  refine ⟨f,fd,?_,F.binds hb,F.kp,m⟩
  obtain ⟨oc,od,kV,doc,pm,an,cdv,ct,osl,rfl,lk,hcd⟩:=F.ex
  exact fn_of lk hcd S len fun A outer s H vs Q E hr hsp=>hbody f cdv A outer s H vs Q E hr hsp
end
section
variable {X:Cx} {x:Str} {k:Nat} {ps:List Str} {sp:Sp} {p pos:Pos} {e:Expr} {es:List Expr} {t:TA} {E:XK} {σ0:St}
theorem pe_callE (G:HasX X.prog X.w X.K X.mg X.base x k ps sp) (hx:Passes (CXE X.prog X.w) X E) (hr:Room k X.A) (hg:Gl X x) (ha:PA X (e :: es) t)
    (hdb:(x == ("__debug__" : Str))=false:=by decide) (he:starEach (e :: es) X.env=(false,eval e X.env) :: starEach es X.env:=by rfl) (hpl:(backTo pos (starEach es X.env)).any (·.1)=false:=by rfl) :
    PE X (.Call (.Name x p) (e :: es) [] pos) (tCall sp [] E t):=by
  obtain ⟨f,fd,F,b,kp,m⟩:=G
  exact pe_call F hr hg m kp b .nil hx ha hdb he hpl
theorem run_fnX {f:Addr} {fd:FuncData} {pins:List (Addr × Obj)} {H:Hp} {s:Shared} {Q:VK} {us:List Value} {vs:List V} (F:FnOk X.prog X.w X.K X.mg X.base (CXE X.prog X.w) k f fd ps sp) (hr:Room k X.A) (hb:Binds X.K fd ps []) (hx:PassesAt (CXE X.prog X.w) X E σ0)
    (I:Inv X pins σ0 H s) (r:Vals vs us) (h:sp (vs++[]) H Q E):wpAny (model X.prog X.w) X.A (call (.ref f) us) (EP X pins σ0 Q) X.xe s:=by
  have r2:Vals (vs++[]) (us++[]):=r.append .nil
  have hl:(us++[]).length=ps.length:=by rw [← r2.length];exact F.len _ _ _ _ h
  refine wpAny_call (codeAny_mono (F.run X.A X.stack s H ⟨us,[]⟩ (us++[]) (vs++[]) Q E hr I.env0 (hb s us I.kIn hl) r2 h) fun r s' hq=>?_)
  cases r with
  | error e=>exact hx pins H s e s' I hq
  | ok fl=>
    cases fl with
    | ret u=>exact I.after hq
    | next=>exact False.elim hq
    | brk=>exact False.elim hq
    | cont=>exact False.elim hq
theorem pe_callX (G:HasX X.prog X.w X.K X.mg X.base x k ps sp) (hx:PassesAt (CXE X.prog X.w) X E σ0) (hr:Room k X.A) (hg:Gl X x) (ha:PA X (e :: es) t)
    (hdb:(x == ("__debug__" : Str))=false:=by decide) (he:starEach (e :: es) X.env=(false,eval e X.env) :: starEach es X.env:=by rfl) (hpl:(backTo pos (starEach es X.env)).any (·.1)=false:=by rfl) :
    PE X (.Call (.Name x p) (e :: es) [] pos) (fun σ H Q=>σ=σ0∧tCall sp [] E t σ H Q):=by
  obtain ⟨f,fd,F,b,kp,hm⟩:=G
  rintro pins s σ H Q I ⟨rfl,h⟩
  refine wpAny_Call_Name_kw (ld_glob I hg hm ?_ hdb)
  refine callWith_K (h₀:=X.base) I.ok.mod.kin kp (thn (ha pos pins s σ H _ I h) fun us s1 ⟨vs,H1,I1,r,q⟩=>⟨I1.kIn,?_⟩) he hpl
  exact run_fnX F hr b hx I1 r q
end
end L2
namespace L2
open PySem PySem.Spec PyProof.Rows PySem.W
theorem fly_outX {X:Cx} {pins:List (Addr × Obj)} {σ:St} {H1 H2:Hp} {s1:Shared} {B h2:Heap} {a:Addr} (I:Inv X pins σ H1 s1) (hex:X.ex=[]) (h0:X.s₀.heap.get? a=none)
    (inB:∀ b o,s1.heap.get? b=some o→b ∉ frs X.stack→b≠a→∃ o',B.get? b=some o'∧(H1 b=none→o'=o)) (st:B.StaysIn h2)
    (fr:∀ b o,s1.heap.get? b=some o→b∈frs X.stack→∃ sl,h2.get? b=some { o with slots:=sl }) (free:∀ b o,s1.heap.get? b=some o→H1 b=none→H2 b=none)
    (tups:∀ b xs,H1 b=some (.tup xs)→H2 b=some (.tup xs)) (frzs:∀ b o u,H1 b=some (.frz o u)→H2 b=some (.frz o u)) (tbls:∀ b ps,H1 b=some (.tbl ps)→∃ more,H2 b=some (.tbl (ps++more))) :
    Un X.fs [] X.H₀ H2 X.s₀.heap h2∧∀ b o,X.s₀.heap.get? b=some o→b ∉ X.fs→∃ o',B.get? b=some o'∧(X.H₀ b=none→o'=o):=by
  have nx:∀ b:Addr,b ∉ X.ex:=fun b=>by rw [hex];simp
  have nA:∀ b o,X.s₀.heap.get? b=some o→b≠a:=fun b o e q=>by rw [q,h0] at e;cases e
  have ns:∀ b o,X.s₀.heap.get? b=some o→b ∉ X.fs→b ∉ frs X.stack:=fun b o e n z=>by
    rcases List.mem_cons.mp (I.stkSub b z) with q | q
    · rw [q] at e
      exact absurd (Nat.lt_of_lt_of_le (Heap.lt_size e) I.ok.above) (Nat.lt_irrefl _)
    · exact n q
  have toB:∀ b o,X.s₀.heap.get? b=some o→b ∉ X.fs→∃ o',B.get? b=some o'∧(X.H₀ b=none→o'=o):=fun b o e n=>by
    obtain ⟨o1,e1⟩:=I.base.there b o e (nx b)
    obtain ⟨o2,e2,k2⟩:=inB b o1 e1 (ns b o e n) (nA b o e)
    refine ⟨o2,e2,fun h0=>?_⟩
    have z:=I.base.keep b o e h0 n (nx b)
    rw [e1] at z;cases z
    exact k2 (I.base.free b o e h0 (nx b))
  have inSt:∀ b∈X.fs,∀ o1,s1.heap.get? b=some o1→∃ sl,h2.get? b=some { o1 with slots:=sl }:=fun b hb o1 e1=>by
    obtain ⟨_,o,ho,_⟩:=I.ok.funs.mem hb
    by_cases hs:b∈frs X.stack
    · exact fr b o1 e1 hs
    · obtain ⟨o2,e2,k2⟩:=inB b o1 e1 hs (nA b o ho)
      rw [k2 (I.base.free b o ho (I.ok.frf b hb) (nx b))] at e2
      exact ⟨o1.slots,st _ _ e2⟩
  refine ⟨⟨fun b o e n hb _=>?_,fun b o e n hb _=>?_,fun b o e n _=>?_,fun b o e _=>?_,fun b xs e=>tups _ _ (I.base.tups _ _ e),fun b o u e=>frzs _ _ _ (I.base.frzs _ _ _ e),fun b ps e=>?_⟩,toB⟩
  · obtain ⟨o',e',k⟩:=toB b o e hb
    rw [k n] at e'
    exact st _ _ e'
  · obtain ⟨sl,e1⟩:=I.base.slot b o e n hb (nx b)
    obtain ⟨sl2,e2⟩:=inSt b hb _ e1
    exact ⟨sl2,e2⟩
  · obtain ⟨o1,e1⟩:=I.base.there b o e (nx b)
    exact free b o1 e1 (I.base.free b o e n (nx b))
  · obtain ⟨o1,e1⟩:=I.base.there b o e (nx b)
    by_cases hb:b∈X.fs
    · obtain ⟨sl,q⟩:=inSt b hb o1 e1
      exact ⟨_,q⟩
    · obtain ⟨o',e',_⟩:=toB b o e hb
      exact ⟨o',st _ _ e'⟩
  · obtain ⟨m1,e1⟩:=I.base.tbls b ps e
    obtain ⟨m2,e2⟩:=tbls b _ e1
    exact ⟨m1++m2,by rw [e2,Array.append_assoc]⟩
section
variable {P:Program} {w:World} {K:Frag} {mg:Str→Option Value} {base:Heap} {N:List Str} {qual:Str} {scope:Scope} {f:Addr} {cd:Value} {A:Around} {outer:List Env} {s:Shared} {H:Hp} {E:XK}
end
end L2
namespace L2
open PySem PySem.Spec PyProof.Rows PySem.StrLaws PySem.Builtin PySem.Builtin.Str
theorem occ_cnt (z:Str) (c limit:Nat):∀ (m lo free:Nat) (arr:Array Nat),free≤lo→arr.size+m≤limit→lo+m=z.length+1 →
    (forIn (List.range' lo m) (arr,free) (occBody z ⟨#[c]⟩ z.length limit)).run.fst.size=arr.size+(z.cps.toList.drop lo).count c
  | 0,lo,free,arr,_,_,e=>by
    have hl:z.cps.toList.length=z.length:=by simp [Str.length]
    rw [List.drop_eq_nil_of_le (by omega)]
    rfl
  | m+1,lo,free,arr,h1,h2,e=>by
    have hl:z.cps.toList.length=z.length:=by simp [Str.length]
    rw [List.range'_succ,List.forIn_cons]
    have one:=subAt_one z c lo
    by_cases hc:z.cps.toList[lo]?=some c
    · obtain ⟨k1,k2⟩:=one.mpr hc
      have b:occBody z ⟨#[c]⟩ z.length limit lo (arr,free)=pure (ForInStep.yield (arr.push lo,lo+(⟨#[c]⟩:Str).length)):=by
        unfold occBody
        rw [if_pos ⟨⟨⟨by show arr.size < limit;omega,h1⟩,k1⟩,k2⟩]
      rw [b]
      obtain ⟨hlt,hg⟩:=List.getElem?_eq_some_iff.mp hc
      have:=occ_cnt z c limit m (lo+1) (lo+1) (arr.push lo) (Nat.le_refl _) (by rw [Array.size_push];omega) (by omega)
      rw [Array.size_push] at this
      rw [List.drop_eq_getElem_cons hlt,hg,List.count_cons_self]
      refine Eq.trans this ?_
      omega
    · have b:occBody z ⟨#[c]⟩ z.length limit lo (arr,free)=pure (ForInStep.yield (arr,free)):=by
        unfold occBody
        rw [if_neg fun h=>hc (one.mp ⟨h.1.2,h.2⟩)]
      rw [b]
      have:=occ_cnt z c limit m (lo+1) free arr (by omega) (by omega) (by omega)
      refine Eq.trans this ?_
      by_cases hlt:lo < z.cps.toList.length
      · rw [List.drop_eq_getElem_cons hlt]
        have:z.cps.toList[lo]≠c:=fun q=>hc (by rw [List.getElem?_eq_getElem hlt,q])
        rw [List.count_cons_of_ne this]
      · rw [List.drop_eq_nil_of_le (by omega),List.drop_eq_nil_of_le (by omega)]
theorem count_one (z:Str) (c:Nat):Txt.count z ⟨#[c]⟩=((z.cps.toList.count c:Nat):Int):=by
  unfold Txt.count
  rw [occ_eq]
  have:=occ_cnt z c (z.length+1) (z.length+1) 0 0 #[] (Nat.le_refl _) (by show 0+_≤_;omega) (by omega)
  rw [Array.length_toList]
  show (((forIn (List.range' 0 (z.length+1 - 0)) (#[],0) (occBody z ⟨#[c]⟩ z.length (z.length+1))).run.fst.size:Nat):Int)=_
  rw [Nat.sub_zero,this,List.drop_zero]
  show ((0+_:Nat):Int)=_
  rw [Nat.zero_add]
end L2
namespace L2
open PySem PySem.Spec PyProof.Rows PySem.W
section
variable {M:Model} {A:Around} {E:Value→Shared→Prop} {s:Shared} {base h h':Heap} {l outer:List Env} {env:Env} {e L C:Addr} {cls a0:Value}
theorem funFrames_same:∀ {l:List Env},h.FunFrames base l→(∀ b∈frs l,h'.get? b=h.get? b)→h'.FunFrames base l
  | [],_,_=>trivial
  | env :: l,⟨k,⟨L,o,hf,hn,ho,hd⟩,hr⟩,e=>⟨k,⟨L,o,hf,hn,(e L (List.mem_filterMap.mpr ⟨env,List.mem_cons_self ..,hf⟩)).trans ho,hd⟩,funFrames_same hr fun b hb=>e b (by
      obtain ⟨x,hx,q⟩:=List.mem_filterMap.mp hb
      exact List.mem_filterMap.mpr ⟨x,List.mem_cons_of_mem _ hx,q⟩)⟩
theorem held_same (x:base.HeldW l e cls a0 L h) (sb:Heap.SameBut C h h') (hC:base.get? C=none) (dC:∃ o es ep,h.get? C=some o∧o.data=.dict es ep) (nf:C ∉ frs l):base.HeldW l e cls a0 L h':=by
  obtain ⟨st,hn,ff,oe,vs,T,oT,ts,e1,ec,ed,v1,bT,Te,eT,td,t3⟩:=x
  obtain ⟨o,es,ep,eo,od⟩:=dC
  have n1:e≠C:=by rintro rfl;rw [e1] at eo;cases eo;rw [ed] at od;cases od
  have n2:T≠C:=by rintro rfl;rw [eT] at eo;cases eo;rw [td] at od;cases od
  refine ⟨fun b o q=>(sb.2 b (fun w=>?_)).trans (st b o q),hn,funFrames_same ff fun b hb=>sb.2 b (fun w=>nf (w ▸ hb)),oe,vs,T,oT,ts,(sb.2 _ n1).trans e1,ec,ed,v1,bT,Te,(sb.2 _ n2).trans eT,td,t3⟩
  rw [w,hC] at q;cases q
theorem note_held {Q:Unit→Shared→Prop} (hf:env.frame=some L) (x:base.HeldW l e cls a0 L s.heap) (q:Q () s):wpAny M A (noteFrame (.ref e) env) Q E s:=by
  obtain ⟨st,hn,ff,oe,vs,T,oT,ts,e1,ec,ed,v1,bT,Te,eT,td,t3⟩:=x
  unfold noteFrame
  rw [hf]
  refine wpAny_bind (wpAny_field e1 ed v1 ?_)
  rw [if_pos (by rfl)]
  refine wpAny_bind (wpAny_field eT td t3 ?_)
  rw [if_pos (by simp)]
  exact wpAny_pure q
theorem leaves_held {Q:Unit→Shared→Prop} (hf:env.frame=some L) (x:base.HeldW (env :: outer) e cls a0 L s.heap)
    (q:∀ h',base.FlyingW outer e cls a0 h'→s.heap.UpToSlots h'→Q () { s with heap:=h' }):wpAny M A (leaving env (.ref e)) Q E s:=by
  unfold leaving
  refine wpAny_bind (note_held hf x (wpAny_landsW x fun h1 fl sm=>q h1 ⟨fl.1,fl.2.1,fl.2.2.1.2.2,fl.2.2.2⟩ sm))
theorem pass_heldW {α:Type} {what:String} {Q:α→Shared→Prop} (hf:env.frame=some L) (x:base.HeldW l e cls a0 L s.heap) (q:E (.ref e) s):wpAny M A (PySem.passOn what (.ref e) env) Q E s:=by
  obtain ⟨st,hn,ff,oe,vs,T,oT,ts,e1,ec,ed,v1,bT,Te,eT,td,t3⟩:=id x
  unfold PySem.passOn
  refine wpAny_bind (wpAny_field e1 ed v1 ?_)
  rw [if_neg (by simp)]
  rw [hf]
  unfold setFlight
  refine wpAny_bind (wpAny_bind (wpAny_field e1 ed v1 ?_))
  rw [if_pos (by rfl)]
  have hl:3 < ts.size:=by
    rcases Nat.lt_or_ge 3 ts.size with z | z
    · exact z
    · rw [Array.getElem?_eq_none z] at t3;cases t3
  refine wpAny_setField eT td hl ?_
  refine wpAny_throw ?_
  have:=Heap.update_setField_same s.heap T oT ts 3 _ eT td t3
  show E _ { s with heap:=s.heap.update T (Obj.mapFields fun x=>x.setIfInBounds 3 (rawInt ↑L)) }
  rw [this]
  exact q
end
def cxCompE (X:Cx) (scope:Scope) (NL:List Str) (ix:List Nat) (cl:List (Str × Addr)) (C:Addr) (s₃:Shared) (H₃:Hp) (fp:List Addr) (pins:List (Addr × Obj)) (xe:Value→Shared→Prop):Cx:={ cxComp X scope NL ix cl C s₃ H₃ fp pins with xe:=xe }
def HeldOut (X:Cx) (E:XK):Prop:=∀ (pins:List (Addr × Obj)) (σ:St) (H1 H2:Hp) (s1 s2:Shared) (a C C':Addr) (B:Heap) (a0:Value),Inv X pins σ H1 s1→FpOk X pins H1 C→C ∉ frs X.stack→H2 C=none→s2.os=s1.os→AllBare s2.gens →
  Un (frs X.stack) [C] H1 H2 s1.heap s2.heap→HOk X.prog X.w H2 s2.heap→B.HeldW X.stack a (.ref C') a0 X.env.locals s2.heap →
  (∀ b o,s1.heap.get? b=some o→b ∉ frs X.stack→b≠C→∃ o',B.get? b=some o'∧(H1 b=none→o'=o))→(∀ b u,H2 b=some u→∃ o,B.get? b=some o)→H2 a=none→E (.ref a) (some C') H2→X.xe (.ref a) s2
section
variable {P:Program} {w:World} {K:PySem.W.Frag} {mg:Str→Option Value} {base:Heap} {N:List Str} {qual:Str} {scope:Scope} {f:Addr} {cd:Value} {A:Around} {outer:List Env} {s:Shared} {H:Hp} {E:XK}
theorem held_cx:HeldOut (cxOf (CXE P w) P w K mg base N qual scope f cd A outer s H E) E:=by
  intro pins σ H1 H2 s1 s2 a C C' B a0 I fC nC hC os bare un hok x k0 tr ha hE
  show wpAny _ _ (leaving _ _) _ _ _
  refine leaves_held (outer:=outer) rfl x fun h3 fl3 sm=>?_
  have s0:(cxOf (CXE P w) P w K mg base N qual scope f cd A outer s H E).s₀.heap.get? C=none:=by
    rcases fC.2.2.2.1 with z | z
    · cases z
    · cases q:(cxOf (CXE P w) P w K mg base N qual scope f cd A outer s H E).s₀.heap.get? C with
      | none=>rfl
      | some o=>exact absurd (Nat.lt_of_lt_of_le (Heap.lt_size q) z) (Nat.lt_irrefl _)
  obtain ⟨u,k1⟩:=fly_outX (H2:=H2) (B:=B) (h2:=h3) I rfl s0 k0 fl3.1
    (fun b o e hb=>by
      have nb:b ∉ [C]:=fun z=>nC (by rw [List.mem_singleton] at z;exact z ▸ hb)
      obtain ⟨sl,e2⟩:=un.slot b o e (I.stkFree b hb) hb nb
      obtain ⟨_,o',e',nf⟩:=I.stack.mem hb
      rw [e] at e';cases e'
      obtain ⟨sl3,e3⟩:=sm b _ e2 nf
      exact ⟨sl3,e3⟩)
    (fun b o e n=>by
      by_cases hb:b=C
      · subst hb;exact hC
      · exact un.free b o e n (by simpa using hb)) un.tups un.frzs un.tbls
  exact ⟨a,C',H2,rfl,os.trans I.os,bare,u,hok_in hok x.1 fl3.1 tr,⟨B,a0,fl3,k1,tr⟩,ha,hE⟩
end
theorem relabel_none {scope:Scope} {env:Env} (h:∀ x∈scope.names,x.2≠.free):relabel scope env=scope:=by
  unfold relabel
  have:scope.names.map (fun x=>match x with | (n,k)=>if (k == NameKind.free && env.scope.kind == ScopeKind.function && env.kindOf n == some NameKind.cell)=true then (n,NameKind.cell) else (n,k))=scope.names:=by
    conv=>rhs;rw [← List.map_id scope.names]
    refine List.map_congr_left fun x hx=>?_
    obtain ⟨n,k⟩:=x
    have:(k == NameKind.free)=false:=by
      have:=h _ hx
      revert this
      cases k <;> simp <;> rfl
    simp [this]
  rw [this]
section
variable {X:Cx} {pins:List (Addr × Obj)} {σ:St} {H:Hp} {s:Shared}
theorem comp_runX {scope:Scope} {NL:List Str} {ix:List Nat} {elt tg iter:Expr} {ifs:List Expr} {pos:Pos} {g:TG} {tt:TT} {te:TE} {cl:List (Str × Addr)} {fp:List Addr} {it:Addr} {tn:Nat→Heap→Prop} {J:It} {Q:VK}
    {E:Value→Shared→Prop} {E0:XK} {RR:Value→Env→Result→Shared→Prop}
    (hc:X.calm=true) (S:CompScope X scope NL ix) (c1:∀ x c,cl.lookup x=some c→X.env.cells.lookup x=some c) (c2:∀ x,(x,NameKind.free)∈scope.names→∃ c,cl.lookup x=some c)
    (hb:∀ (cl:List (Str × Addr)) (C:Addr) (s₃:Shared) (H₃:Hp) (fp:List Addr) (pins:List (Addr × Obj)) (xe:Value→Shared→Prop),Passes (CXE X.prog X.w) (cxCompE X scope NL ix cl C s₃ H₃ fp pins xe) E0→PG (cxCompE X scope NL ix cl C s₃ H₃ fp pins xe) tg g∧PIfs (cxCompE X scope NL ix cl C s₃ H₃ fp pins xe) ifs tt∧PE (cxCompE X scope NL ix cl C s₃ H₃ fp pins xe) elt te)
    (I:Inv X pins σ H s) (T:Turn X.prog X.w X.K tg J fp it tn) (st:tn 0 s.heap) (hf:∀ b∈fp,FpOk X pins H b)
    (q:∀ acc,H acc=none→∃ W:Nat→Nat→List V→Hp→Prop,(∃ m,W 0 m [] (upd H acc (.lst []))) ∧
      ∀ i m ys H2,W i m ys H2→H2 acc=some (.lst ys)∧ys.length < sizeLine ∧
      ((J.stop i H2∧Q (.ref acc) H2)∨(J.go i H2∧∃ N:List V→Hp→Prop,(∀ ys' H',N ys' H'→∃ m',m' < m∧W (i+1) m' ys' H') ∧
        ∀ x H3,J.yld i H2 x H3→g x (comp0 NL ix σ) H3 fun σ' H4=>σ'.drop NL.length=ix.map (fun j=>σ.getD j none)∧tt σ' H4 fun b H5=>
          if b=true then te σ' H5 fun v H6=>H6 acc=some (.lst ys)∧N (ys++[v]) (upd H6 acc (.lst (ys++[v]))) else N ys H5)))
    (hst:X.stack=X.env :: X.outer) (hfr:X.env.frame=some X.env.locals) (hRR:∀ (acc C:Addr) (cenv:Env) (H':Hp) (s':Shared) (m':Str→Option Value),cenv.locals=C→Inv X pins σ H' s'→s'.heap.Ns C m'→FpOk X pins H' C→Q (.ref acc) H'→RR (.ref acc) cenv (.ok .next) s')
    (hRE:∀ (acc C:Addr) (cenv:Env) (H1 H2:Hp) (s1 s2:Shared) (m':Str→Option Value) (a C':Addr) (B:Heap) (a0:Value),cenv.locals=C→cenv.frame=some X.env.locals→Inv X pins σ H1 s1→s2.heap.Ns C m'→FpOk X pins H1 C→C ∉ frs X.stack→H2 C=none→s2.os=s1.os→AllBare s2.gens →
      Un (frs X.stack) [] H1 H2 s1.heap s2.heap→HOk X.prog X.w H2 s2.heap→B.HeldW X.stack a (.ref C') a0 X.env.locals s2.heap →
      (∀ b o,s1.heap.get? b=some o→b ∉ frs X.stack→∃ o',B.get? b=some o'∧(H1 b=none→o'=o))→(∀ b u,H2 b=some u→∃ o,B.get? b=some o)→H2 a=none→E0 (.ref a) (some C') H2→RR (.ref acc) cenv (.error (.ref a)) s2) :
    wpAny (model X.prog X.w) X.A (newList []) (fun acc s₃=>wpAny (model X.prog X.w) X.A (newFunctionEnv scope X.env.globals cl [] X.env.qual none .none (some X.env)) (fun cenv s₄=>
      codeAny (model X.prog X.w) X.A (.compStart (.ListComp elt [⟨tg,iter,ifs,0⟩] scope pos) 0 (.ref it) acc { cenv with scope:=relabel scope X.env }) (RR acc cenv) s₄) E s₃) E s:=by
  refine wpAny_newObj_type (wpAny_newFunctionEnv S.cell (by intro y hy;simp at hy) (fun h₁ hns₁ hsb₁=>?_) S.kind)
  have I3:Inv X pins σ (upd H s.heap.objs.size (.lst [])) { s with heap:=s.heap.push { cls:=.type "list", data:=.seq ([]:List Value).toArray },toks:=s.toks }:=I.lnew (its:=[]) .nil (Nat.zero_le _)
  have hfr0:H s.heap.objs.size=none:=I.hok.fresh (Nat.le_refl _)
  generalize hs3:({ s with heap:=s.heap.push { cls:=.type "list", data:=.seq ([]:List Value).toArray },toks:=s.toks }:Shared)=s₃ at I3
  have hsz:s₃.heap.objs.size=s.heap.objs.size+1:=by rw [← hs3];exact Heap.size_push ..
  have old1:∀ b o,s.heap.get? b=some o→s₃.heap.get? b=some o:=fun b o e=>by rw [← hs3];exact Heap.get?_push_of_some _ e
  have key:codeAny (model X.prog X.w) X.A (.compStart (.ListComp elt [⟨tg,iter,ifs,0⟩] scope pos) 0 (.ref it) (.ref s.heap.objs.size) (compEnvC scope cl s₃.heap.objs.size X.env))
      (RR (.ref s.heap.objs.size) (newEnv scope s₃.heap.objs.size X.env.globals cl X.env.qual none .none (some X.env) 0)) { s₃ with heap:=h₁,toks:=s₃.toks+0 }:=by
    have hns:h₁.Ns s₃.heap.objs.size (fun _=>none):=by
      have:=hns₁
      rw [← hs3]
      exact this
    have hsb:Heap.SameBut s₃.heap.objs.size (s₃.heap.push { cls:=.type "dict", data:=.dict #[] }) h₁:=by
      have:=hsb₁
      rw [← hs3]
      exact this
    have old:∀ b o,s₃.heap.get? b=some o→h₁.get? b=some o:=fun b o e=>hsb.extBut b o (Nat.ne_of_lt (Heap.lt_size e)) (Heap.get?_push_of_some _ e)
    have hf3:∀ b∈fp,FpOk X pins (upd H s.heap.objs.size (.lst [])) b:=fun b hb'=>by
      obtain ⟨o,e,_⟩:=T.obj 0 _ st b hb'
      have ne:b≠s.heap.objs.size:=Nat.ne_of_lt (Heap.lt_size e)
      exact ⟨by rw [upd_ne ne];exact (hf b hb').1,(hf b hb').2⟩
    have ho3:∀ b∈fp,∃ o,s₃.heap.get? b=some o:=fun b hb'=>by
      obtain ⟨o,e,_⟩:=T.obj 0 _ st b hb'
      exact ⟨o,old1 b o e⟩
    have st1:tn 0 h₁:=T.keep 0 _ _ st fun b hb' o e=>old b o (old1 b o e)
    have I4:=comp_inv (tn:=tn) (tk:=s₃.toks+0) S I3 c1 c2 hf3 ho3 hns old
    obtain ⟨W,⟨m0,w0⟩,turn⟩:=q s.heap.objs.size hfr0
    let xe0:Value→Shared→Prop:=fun e s'=>∃ a C' H2 Hc sc m,e=.ref a∧Inv X pins σ Hc sc∧FpOk X pins Hc s₃.heap.objs.size∧s₃.heap.objs.size ∉ frs X.stack∧sc.heap.Ns s₃.heap.objs.size m∧s'.os=sc.os∧AllBare s'.gens∧Un (frs X.stack) [] Hc H2 sc.heap s'.heap∧HOk X.prog X.w H2 s'.heap∧FlyS X.stack Hc sc.heap H2 a C' s'.heap∧H2 a=none∧E0 (.ref a) (some C') H2
    have fpC:∀ {H':Hp},H' s₃.heap.objs.size=none→FpOk X pins H' s₃.heap.objs.size:=fun {H'} z=>I3.fpOk (Nat.le_refl _) z
    have nstk:s₃.heap.objs.size ∉ frs X.stack:=fun z=>by
      obtain ⟨_,o,e,_⟩:=I3.stack.mem z
      exact absurd (Heap.lt_size e) (Nat.lt_irrefl _)
    have hpass:Passes (CXE X.prog X.w) (cxCompE X scope NL ix cl s₃.heap.objs.size s₃ (upd H s.heap.objs.size (.lst [])) fp pins xe0) E0:=by
      rintro pins' σ' Hc sc e s' J ⟨a,C',H2,rfl,os,bare,un,hok,fly,ha,hE⟩
      obtain ⟨mC,hnC,_⟩:=J.loc
      exact ⟨a,C',H2,Hc,sc,mC,rfl,I3.call' J.os J.base J.hok J.bare fun b hb'=>⟨(hf3 b hb').2.2.2.1,(hf3 b hb').2.1,(hf3 b hb').2.2.2.2.1,(hf3 b hb').2.2.2.2.2⟩,fpC J.free,nstk,hnC,os,bare,un,hok,fly,ha,hE⟩
    obtain ⟨hg,ht,he⟩:=hb cl s₃.heap.objs.size s₃ (upd H s.heap.objs.size (.lst [])) fp pins xe0 hpass
    replace I4:Inv (cxCompE X scope NL ix cl s₃.heap.objs.size s₃ (upd H s.heap.objs.size (.lst [])) fp pins xe0) [] (comp0 NL ix σ) (upd H s.heap.objs.size (.lst [])) { s₃ with heap:=h₁,toks:=s₃.toks+0 }:=⟨⟨I4.ok.mod,I4.ok.kind,I4.ok.glob,I4.ok.blt,I4.ok.above,I4.ok.inj,I4.ok.has,I4.ok.cab,I4.ok.hd,I4.ok.frames,I4.ok.stk,I4.ok.exf,I4.ok.bs,I4.ok.bsz,I4.ok.noex,I4.ok.exfs,I4.ok.funs,I4.ok.frf⟩,I4.os,I4.bare,I4.base,I4.loc,I4.cell,I4.free,I4.freeC,I4.pin,I4.hok,I4.len⟩
    generalize hX':cxCompE X scope NL ix cl s₃.heap.objs.size s₃ (upd H s.heap.objs.size (.lst [])) fp pins xe0=X' at I4 hg ht he
    have errOut:∀ e s',xe0 e s'→notedBy (model X.prog X.w) X.A (compEnvC scope cl s₃.heap.objs.size X.env) (fun e s'=>RR (.ref s.heap.objs.size) (newEnv scope s₃.heap.objs.size X.env.globals cl X.env.qual none .none (some X.env) 0) (.error e) s') e s':=by
      rintro e s' ⟨a,C',H2,Hc,sc,mC,rfl,Ic,fC,nC,hnC,os,bare,un,hok,⟨B,a0,fl,k0,tr⟩,ha,hE⟩
      show wpAny _ _ (noteFrame (.ref a) X.env) _ _ _
      have hA:X.A.frames=some (X.env :: X.outer):=hst ▸ Ic.ok.frames
      have fl0:=fl
      rw [hst] at fl0
      refine wpAny_looks_onW hA hfr fl0 fun h1 hh sm=>?_
      rw [← hst] at hh
      have eC:∃ o,sc.heap.get? s₃.heap.objs.size=some o:=let ⟨o,_,_,e,_⟩:=hnC;⟨o,e⟩
      obtain ⟨oC,eC⟩:=eC
      have hC2:H2 s₃.heap.objs.size=none:=un.free _ _ eC fC.1 (by simp)
      have inH:∀ b o,s'.heap.get? b=some o→b ∉ frs X.stack→(∃ o',B.get? b=some o')→h1.get? b=some o:=fun b o e nb ⟨o',e'⟩=>by
        have z:=fl.1 _ _ e'
        rw [e] at z;cases z
        exact hh.1 _ _ e'
      refine hRE _ _ _ Hc H2 sc _ mC a C' B a0 rfl hfr Ic ?_ fC nC hC2 os bare ⟨fun b o e n hb hx=>?_,fun b o e n hb hx=>?_,un.free,fun b o e hx=>?_,un.tups,un.frzs,un.tbls⟩ (hok_in hok fl.1 hh.1 tr) hh k0 tr ha hE
      · obtain ⟨o,es,ep,e1,e2⟩:=hnC
        have z:=un.keep _ _ e1 fC.1 nC (by simp)
        exact ⟨o,es,ep,inH _ _ z nC (let ⟨o',e',_⟩:=k0 _ _ e1 nC;⟨o',e'⟩),e2⟩
      · obtain ⟨o',e',k⟩:=k0 b o e hb
        rw [k n] at e'
        exact hh.1 _ _ e'
      · obtain ⟨sl,e2⟩:=un.slot b o e n hb (by simp)
        obtain ⟨_,o',e',nf⟩:=fl.2.2.1.mem hb
        rw [e2] at e';cases e'
        obtain ⟨sl3,e3⟩:=sm b _ e2 nf
        exact ⟨sl3,e3⟩
      · by_cases hb:b∈frs X.stack
        · obtain ⟨_,o',e',_⟩:=hh.2.2.1.mem hb
          exact ⟨o',e'⟩
        · obtain ⟨o',e',_⟩:=k0 b o e hb
          exact ⟨o',hh.1 _ _ e'⟩
    have p1:X'.prog=X.prog:=by rw [← hX'];rfl
    have p2:X'.w=X.w:=by rw [← hX'];rfl
    have p3:X'.K=X.K:=by rw [← hX'];rfl
    have p4:X'.A=X.A:=by rw [← hX'];rfl
    have p5:X'.env=compEnvC scope cl s₃.heap.objs.size X.env:=by rw [← hX'];rfl
    have p6:X'.calm=true:=by rw [← hX'];exact hc
    have p7:X'.xe=xe0:=by rw [← hX'];rfl
    have stat:∀ {H':Hp},(∀ b∈fp,H' b=none)→∀ b∈fp,FpOk X' [] H' b:=fun {H'} hn b hb'=>by
      have z:=hf3 b hb'
      obtain ⟨o,eo⟩:=ho3 b hb'
      rw [← hX']
      refine ⟨hn b hb',Nat.ne_of_lt (Heap.lt_size eo),fun q=>(List.mem_cons.mp (I3.stkSub b q)).elim z.2.1 z.2.2.1,.inl hb',fun x c hx=>z.2.2.2.2.1 x c (c1 x c hx),fun p hp=>?_⟩
      rcases List.mem_append.mp hp with w | w
      · exact z.2.2.2.2.2 p w
      · exact nomatch w
    have fin:∀ i n ys H' s',Inv X' [] (comp0 NL ix σ) H' s'→W i n ys H'→Q (.ref s.heap.objs.size) H'→RR (.ref s.heap.objs.size) (newEnv scope s₃.heap.objs.size X.env.globals cl X.env.qual none .none (some X.env) 0) (.ok .next) s':=fun i n ys H' s' I' w' q'=>by
      obtain ⟨m',hn',_⟩:=I'.loc
      have hos:s'.os=s₃.os:=by have:=I'.os;rw [← hX'] at this;exact this
      have hu:Un (frs X.stack) fp (upd H s.heap.objs.size (.lst [])) H' s₃.heap s'.heap:=by have:=I'.base;rw [← hX'] at this;exact this
      have hk:HOk X.prog X.w H' s'.heap:=by have:=I'.hok;rw [← hX'] at this;exact this
      have hfC:H' s₃.heap.objs.size=none:=by have:=I'.free;rw [← hX'] at this;exact this
      have hnC:s'.heap.Ns s₃.heap.objs.size m':=by rw [p5] at hn';exact hn'
      exact hRR _ _ _ H' s' m' rfl (I3.call' hos hu hk I'.bare fun b hb'=>⟨(hf3 b hb').2.2.2.1,(hf3 b hb').2.1,(hf3 b hb').2.2.2.2.1,(hf3 b hb').2.2.2.2.2⟩) hnC (I3.fpOk (Nat.le_refl _) hfC) q'
    have loop:∀ s₄:Shared,Inv X' [] (comp0 NL ix σ) (upd H s.heap.objs.size (.lst [])) s₄→tn 0 s₄.heap→codeAny (model X.prog X.w) X.A (.compLoop (.ListComp elt [⟨tg,iter,ifs,0⟩] scope pos) 0 (.ref it) (.ref s.heap.objs.size) (compEnvC scope cl s₃.heap.objs.size X.env))
        (RR (.ref s.heap.objs.size) (newEnv scope s₃.heap.objs.size X.env.globals cl X.env.qual none .none (some X.env) 0)) s₄:=fun s₄ I4 st1=>by
      refine codeAny_loop rfl (fun n s'=>∃ i ys H',Inv X' [] (comp0 NL ix σ) H' s'∧tn i s'.heap∧(∀ b∈fp,H' b=none)∧W i n ys H') (fun n s' hI=>?_) m0 ⟨0,[],_,I4,st1,fun b hb'=>(hf3 b hb').1,w0⟩
      obtain ⟨i,ys,H',I',st',fr',w'⟩:=hI
      show wpAny _ X.A ((compTurn (.ListComp elt [⟨tg,iter,ifs,0⟩] scope pos) 0 (.ref it) (.ref s.heap.objs.size) (compEnvC scope cl s₃.heap.objs.size X.env)).onRaise (fun x=>do noteFrame x (compEnvC scope cl s₃.heap.objs.size X.env);theTreesLotGoes x)) _ _ s'
      refine wpAny_noted ?_
      rw [compTurn_list]
      obtain ⟨hacc,hz8,alt⟩:=turn i n ys H' w'
      rcases alt with ⟨stop,qn⟩ | ⟨go,N,hN,step⟩
      · have d:=T.done X' p1 p2 p3 p6 i [] s' (comp0 NL ix σ) H' (notedBy (model X.prog X.w) X.A (compEnvC scope cl s₃.heap.objs.size X.env) fun e s'=>RR (.ref s.heap.objs.size) (newEnv scope s₃.heap.objs.size X.env.globals cl X.env.qual none .none (some X.env) 0) (.error e) s') I' (stat fr') st' stop
        rw [p4] at d
        refine wpAny_bind (wpAny_standAt (wpAny_bind (thn d fun r s1 ⟨hr,I1⟩=>?_)))
        subst hr
        exact wpAny_pure (fin i n ys H' s1 I1 w' qn)
      · have d:=T.item X' p1 p2 p3 p6 i [] s' (comp0 NL ix σ) H' (notedBy (model X.prog X.w) X.A (compEnvC scope cl s₃.heap.objs.size X.env) fun e s'=>RR (.ref s.heap.objs.size) (newEnv scope s₃.heap.objs.size X.env.globals cl X.env.qual none .none (some X.env) 0) (.error e) s') I' (stat fr') st' go
        rw [p4] at d
        refine wpAny_bind (wpAny_standAt (wpAny_bind (thn d fun r s1 ⟨u,hr,h4⟩=>?_)))
        subst hr
        refine wpAny_bind (thn h4 fun _ s5 ⟨x,H5,I5,r5,y5,st5,fr5⟩=>?_)
        have I5':=I5.pinned (stat fr5) (T.obj _ _ st5)
        have nofail:∀ {α:Type} {t:Sem α} {R:α→Shared→Prop} {sx:Shared},wpAny (model X'.prog X'.w) X'.A t R X'.xe sx→wpAny (model X.prog X.w) X.A t R (notedBy (model X.prog X.w) X.A (compEnvC scope cl s₃.heap.objs.size X.env) fun e s'=>RR (.ref s.heap.objs.size) (newEnv scope s₃.heap.objs.size X.env.globals cl X.env.qual none .none (some X.env) 0) (.error e) s') sx:=fun {α t R sx} hh=>by
          rw [p1,p2,p4,p7] at hh
          exact wpAny_mono hh (fun _ _ z=>z) errOut
        have again:∀ {σ7:St} {H7:Hp} {s7:Shared} {ys':List V},σ7.drop NL.length=ix.map (fun j=>σ.getD j none)→Inv X' ([]++pinsAt fp s5.heap) σ7 H7 s7→(∃ m',m' < n∧W (i+1) m' ys' H7)→∃ m,m < n∧∃ i ys H',Inv X' [] (comp0 NL ix σ) H' s7∧tn i s7.heap∧(∀ b∈fp,H' b=none)∧W i m ys H':=fun {σ7 H7 s7 ys'} hσ I7 n7=>by
          obtain ⟨m',hm,w7⟩:=n7
          have Iw:Inv X' ([]++pinsAt fp s5.heap) (comp0 NL ix σ) H7 s7:=I7.weak (by rw [I7.len,I'.len]) fun j v hj=>by
            have hlj:NL.length≤j:=by
              rcases Nat.lt_or_ge j NL.length with z | z
              · exfalso
                unfold comp0 at hj
                rw [List.getElem?_append_left (by simpa using z),List.getElem?_map] at hj
                cases q:NL[j]? with
                | none=>rw [q] at hj;cases hj
                | some y=>rw [q] at hj;cases hj
              · exact z
            unfold comp0 at hj
            rw [List.getElem?_append_right (by simpa using hlj),List.length_map,← hσ,List.getElem?_drop] at hj
            rw [← hj]
            congr 1
            omega
          refine ⟨m',hm,i+1,ys',H7,Iw.unpinned,T.keep _ _ _ st5 fun b hb' o e=>(I7.pin (b,o) (List.mem_append_right _ (List.mem_append_right _ (mem_pinsAt hb' e)))).1,fun b hb'=>?_,w7⟩
          obtain ⟨o,e,d⟩:=T.obj _ _ st5 b hb'
          exact (I7.pin (b,o) (List.mem_append_right _ (List.mem_append_right _ (mem_pinsAt hb' e)))).2.1
        have hg':=nofail (hg _ s5 (comp0 NL ix σ) H5 x u _ I5' r5 (step x H5 y5))
        rw [p5] at hg'
        refine wpAny_bind (thn hg' fun _ s6 ⟨σ6,H6,I6,hσ6,q6⟩=>?_)
        have ht':=nofail (ht _ s6 σ6 H6 _ I6 q6)
        rw [p5] at ht'
        refine wpAny_bind (thn ht' fun ok s7 ⟨H7,I7,q7⟩=>?_)
        cases ok with
        | false=>
          have q7':N ys H7:=by simpa using q7
          exact wpAny_pure ⟨rfl,again hσ6 I7 (hN _ _ q7')⟩
        | true=>
          have q7':=(if_pos rfl).mp q7
          have he':=nofail (he _ s7 σ6 H7 _ I7 q7')
          rw [p5] at he'
          refine wpAny_bind (wpAny_bind (thn he' fun v s8 ⟨y,H8,I8,r8,ha8,q8⟩=>?_))
          have ap:=nofail (mt_append _ s8 σ6 H8 (.ref s.heap.objs.size) [y] (.ref s.heap.objs.size) [v] (fun _ H9=>H9=upd H8 s.heap.objs.size (.lst (ys++[y]))) I8 rfl (.cons r8 .nil) ⟨_,ys,y,rfl,rfl,ha8,hz8,rfl⟩)
          refine wpAny_bind (thn ap fun _ s9 ⟨z,H9,I9,r9,e9⟩=>wpAny_pure (wpAny_pure ⟨rfl,?_⟩))
          subst e9
          exact again hσ6 I9 (hN _ _ q8)
    exact codeAny_compStart_list (loop _ I4 st1) (T.self X.A 0 _ _ _ st1 (loop _ I4 st1))
  exact key
theorem pe_compX {scope:Scope} {NL:List Str} {ix:List Nat} {elt tg iter:Expr} {ifs:List Expr} {pos:Pos} {wi:TI} {g:TG} {tt:TT} {te:TE} {E0:XK}
    (R:HeldOut X E0) (hc:X.calm=true) (hi:PI X tg iter wi) (S:CompScope X scope NL ix) (hnf:∀ x∈scope.names,x.2≠.free)
    (hb:∀ (cl:List (Str × Addr)) (C:Addr) (s₃:Shared) (H₃:Hp) (fp:List Addr) (pins:List (Addr × Obj)) (xe:Value→Shared→Prop),Passes (CXE X.prog X.w) (cxCompE X scope NL ix cl C s₃ H₃ fp pins xe) E0→PG (cxCompE X scope NL ix cl C s₃ H₃ fp pins xe) tg g∧PIfs (cxCompE X scope NL ix cl C s₃ H₃ fp pins xe) ifs tt∧PE (cxCompE X scope NL ix cl C s₃ H₃ fp pins xe) elt te)
    (hs:∀ x,foldedSetIterable iter X.env x=pure x:=by intro _;rfl) (hst:X.stack=X.env :: X.outer:=by rfl) (hfr:X.env.frame=some X.env.locals:=by rfl):PE X (.ListComp elt [⟨tg,iter,ifs,0⟩] scope pos) (tComp NL ix wi g tt te):=by
  intro pins s σ H Q I h
  rw [eval_ListComp]
  refine wpAny_comprehension (e:=.ListComp elt [⟨tg,iter,ifs,0⟩] scope pos) rfl hs hnf S.kind S.names (thn (hi pins s σ H _ I h) fun xv s1 h1=>thn h1 fun itv s2 h2=>?_)
  obtain ⟨it,fp,tn,J,H2,rfl,I2,T,st2,f2,q⟩:=h2
  have key:=comp_runX (iter:=iter) (E:=X.xe) (E0:=E0) (pos:=pos) (cl:=[]) (RR:=fun acc cenv r s'=>∃ m,s'.heap.Ns cenv.locals m∧∀ h',Heap.SameBut cenv.locals s'.heap h'→match r with
      | .ok a=>EP X pins σ Q acc { s' with heap:=h' }
      | .error x=>wpAny (model X.prog X.w) X.A (PySem.passOn "comprehension.variables-let-go" x { cenv with scope:=scope }) (EP X pins σ Q) X.xe { s' with heap:=h' }) hc S (fun _ _ e=>nomatch e) (fun x hx=>absurd rfl (hnf _ hx)) hb I2 T st2 f2 q hst hfr (fun acc C cenv H' s' m' ec I' hn fC q'=>?_) (fun acc C cenv H1 H2 s1 s2 m' a C' B a0 ec ef I1 hn fC nC hC os bare un hok x k0 tr ha hE=>?_)
  · rw [relabel_none hnf] at key
    exact key
  · subst ec
    refine ⟨m',hn,fun h' sb=>⟨.ref acc,H',?_,rfl,q'⟩⟩
    exact I'.turned (t':=s'.toks) (fun b o hb e=>sb.extBut b o hb e) fC.1 fC.2.1 fC.2.2.2.1 fC.2.2.2.2.1 fC.2.2.2.2.2
  · subst ec
    refine ⟨m',hn,fun h' sb=>?_⟩
    have inB:∀ b o,b≠cenv.locals→B.get? b=some o→(hideAll B [cenv.locals]).get? b=some o:=fun b o n e=>hideAll_get _ e (by simpa using n)
    have x':(hideAll B [cenv.locals]).HeldW X.stack a (.ref C') a0 X.env.locals h':=held_same (heldW_base (fun b o q=>of_hideAll _ q) x) sb (hideAll_none _ (List.mem_cons_self ..)) (let ⟨o,es,ep,e1,e2,_⟩:=hn;⟨o,es,ep,e1,e2⟩) nC
    refine pass_heldW (s:={ s2 with heap:=h' }) ef x' (R pins σ H1 H2 s1 { s2 with heap:=h' } a cenv.locals C' (hideAll B [cenv.locals]) a0 I1 fC nC hC os bare ⟨fun b o e n hb hx=>?_,fun b o e n hb hx=>?_,fun b o e n _=>un.free b o e n (by simp),fun b o e hx=>?_,un.tups,un.frzs,un.tbls⟩ ?_ x' (fun b o e nb nc=>?_) (fun b u e=>?_) ha hE)
    · exact (sb.2 b (by simpa using hx)).trans (un.keep b o e n hb (by simp))
    · obtain ⟨sl,e1⟩:=un.slot b o e n hb (by simp)
      exact ⟨sl,(sb.2 b (by simpa using hx)).trans e1⟩
    · obtain ⟨o',e1⟩:=un.there b o e (by simp)
      exact ⟨o',(sb.2 b (by simpa using hx)).trans e1⟩
    · intro b o e
      refine (hok b o e).stay (fun c v hc q=>(sb.2 c (fun w=>?_)).trans q) (fun _ q=>q) fun _ _ q=>q
      subst w
      rcases hc with rfl | hc
      · rw [hC] at e;cases e
      · rw [hC] at hc;cases hc
    · obtain ⟨o',e',k⟩:=k0 b o e nb
      exact ⟨o',inB _ _ nc e',k⟩
    · obtain ⟨o,e'⟩:=tr b u e
      exact ⟨o,inB _ _ (fun w=>by rw [w,hC] at e;cases e) e'⟩
end
end L2
namespace L2
open PySem PySem.Spec PyProof.Rows PySem.StrLaws PySem.Builtin PySem.Builtin.Str
section
variable {X:Cx}
theorem vals3 {x y z:V} {us:List Value} (r:Vals [x,y,z] us):∃ u v w,us=[u,v,w]∧RelV x u∧RelV y v∧RelV z w:=by
  cases r with
  | cons r1 r2=>
    obtain ⟨v,w,rfl,r3,r4⟩:=vals2 r2
    exact ⟨_,_,_,rfl,r1,r3,r4⟩
theorem call_min3 (hc:X.calm=true):CallR X (.builtin "min") (fun xs H Q=>∃ i j l,xs=[.int i,.int j,.int l]∧Q (.int (if j < i then (if l < j then l else j) else if l < i then l else i)) H):=by
  intro pins s σ H xs us Q I r h
  obtain ⟨i,j,l,rfl,q⟩:=h
  obtain ⟨u,v,w,rfl,⟨t,rfl⟩,⟨t',rfl⟩,⟨t2,rfl⟩⟩:=vals3 r
  refine PySem.min_three_ints (I.ok.hd hc) fun h' tk k=>⟨_,H,I.kept k,?_,q⟩
  split <;> split <;> exact ⟨_,rfl⟩
end
theorem occ_no (z:Str) (c limit:Nat) (h:c ∉ z.cps.toList):∀ (m lo free:Nat) (arr:Array Nat),(forIn (List.range' lo m) (arr,free) (occBody z ⟨#[c]⟩ z.length limit)).run.fst=arr
  | 0,lo,free,arr=>rfl
  | m+1,lo,free,arr=>by
    rw [List.range'_succ,List.forIn_cons]
    have one:=subAt_one z c lo
    have hc:z.cps.toList[lo]?≠some c:=fun e=>h (List.mem_of_getElem? e)
    have b:occBody z ⟨#[c]⟩ z.length limit lo (arr,free)=pure (ForInStep.yield (arr,free)):=by
      unfold occBody
      rw [if_neg fun h=>hc (one.mp ⟨h.1.2,h.2⟩)]
    rw [b]
    exact occ_no z c limit h m (lo+1) free arr
theorem occ_none {z:Str} {c:Nat} (h:c ∉ z.cps.toList):occurrences z ⟨#[c]⟩ 0 z.length 1=[]:=by
  rw [occ_eq]
  have:=occ_no z c 1 h (z.length+1) 0 0 #[]
  show ((forIn (List.range' 0 (z.length+1 - 0)) (#[],0) (occBody z ⟨#[c]⟩ z.length 1)).run.fst).toList=_
  rw [Nat.sub_zero,this]
end L2
namespace L2
open PySem PySem.Spec PyProof.Rows PySem.W
section
variable {X:Cx}
theorem mt_scount:MtR X "str.count" (fun x vs H Q=>∃ z p,x=.str z∧vs=[.str p]∧Q (.int (Txt.count z p)) H):=by
  intro pins s σ H x xs v us Q I rx rv h
  obtain ⟨z,p,rfl,rfl,q⟩:=h
  obtain ⟨t,rfl⟩:=rx
  obtain ⟨u,rfl,t',rfl⟩:=rv.one
  exact SC.count ⟨.int _,H,I.tok _,⟨_,rfl⟩,q⟩
end
end L2
namespace L2
open PySem PySem.Spec PyProof.Rows PySem.W
theorem shown_intB {i:Int} (h:i.natAbs < 2 ^ 400):(PyData.shown (.int i)).length≤401:=by
  have l:i.natAbs.log2 < 400:=by
    rcases Nat.eq_zero_or_pos i.natAbs with z | z
    · rw [z];decide
    · exact (Nat.log2_lt (by omega)).mpr h
  have e:=int_text_length_le (k:=400) (by decide) l
  show (Str.ofString (toString i)).length≤401
  rw [PySem.ofString_length];exact e
end L2
namespace L2
open PySem PySem.Spec PyProof.Rows PySem.W
mutual
inductive Td (H:Hp):V→PyData→Prop
  | non:Td H .non .none
  | bl (b:Bool):Td H (.bl b) (.bool b)
  | int (i:Int):Td H (.int i) (.int i)
  | str (z:Str):Td H (.str z) (.str z)
  | lst {a:Addr} {xs:List V} {ds:List PyData}:H a=some (.lst xs)→Tds H xs ds→Td H (.ref a) (.list ds)
  | tup {a:Addr} {xs:List V} {ds:List PyData}:H a=some (.tup xs)→Tds H xs ds→Td H (.ref a) (.tuple ds)
  | dct {a:Addr} {kvs:List (Key × V)} {ps:List (PyData × PyData)}:H a=some (.dK kvs)→Tds H (kvs.map fun p=>kV p.1) (ps.map (·.1))→Tds H (kvs.map (·.2)) (ps.map (·.2))→Td H (.ref a) (.dict ps)
inductive Tds (H:Hp):List V→List PyData→Prop
  | nil:Tds H [] []
  | cons {v:V} {d:PyData} {vs:List V} {ds:List PyData}:Td H v d→Tds H vs ds→Tds H (v :: vs) (d :: ds)
end
mutual
theorem Td.same {H H':Hp} (s:Same H H'):∀ {v:V} {d:PyData},Td H v d→Td H' v d
  | _,_,.non=>.non
  | _,_,.bl b=>.bl b
  | _,_,.int i=>.int i
  | _,_,.str z=>.str z
  | _,_,.lst e t=>.lst (s _ _ e) (t.same s)
  | _,_,.tup e t=>.tup (s _ _ e) (t.same s)
  | _,_,.dct e t u=>.dct (s _ _ e) (t.same s) (u.same s)
theorem Tds.same {H H':Hp} (s:Same H H'):∀ {vs:List V} {ds:List PyData},Tds H vs ds→Tds H' vs ds
  | _,_,.nil=>.nil
  | _,_,.cons t u=>.cons (t.same s) (u.same s)
end
mutual
def noList:PyData→Bool
  | .none | .bool _ | .int _ | .str _=>true
  | .list _=>false
  | .tuple xs=>noListAll xs
  | .dict kvs=>noListKv kvs
def noListAll:List PyData→Bool
  | []=>true
  | x :: xs=>noList x && noListAll xs
def noListKv:List (PyData × PyData)→Bool
  | []=>true
  | (k,v) :: r=>noList k && noList v && noListKv r
end
theorem noListKv_keys:∀ kvs:List (PyData × PyData),noListKv kvs=true→noListAll (kvs.map (·.1))=true∧noListAll (kvs.map (·.2))=true
  | [],_=>⟨by simp only [List.map_nil,noListAll],by simp only [List.map_nil,noListAll]⟩
  | (k,v) :: r,h=>by
    simp only [noListKv,Bool.and_eq_true] at h
    obtain ⟨a,b⟩:=noListKv_keys r h.2
    simp only [List.map_cons,noListAll,Bool.and_eq_true]
    exact ⟨⟨h.1.1,a⟩,⟨h.1.2,b⟩⟩
theorem pairs_vals {P:Program} {w:World} {es:List DictEntry} {vs:List (Key × Value)} (h:Pairs (mixKind P w) es vs):∀ {kvs:List (Key × V)},KV kvs vs→Vals (kvs.map fun p=>kV p.1) (es.map (·.key))∧Vals (kvs.map (·.2)) (es.map (·.val)):=by
  induction h with
  | nil=>intro kvs r;cases r;exact ⟨.nil,.nil⟩
  | cons hk hv _ ih=>
    intro kvs r
    cases r with
    | cons r1 r2=>
      obtain ⟨a,b⟩:=ih r2
      refine ⟨.cons ?_ a,.cons (by show RelV _ _;simp only [hv];exact r1.2) b⟩
      show RelV (kV _) _
      simp only [r1.1]
      rcases keyIs_shape hk with ⟨i,t,e,e'⟩ | ⟨x,t,e,e'⟩
      · rw [e,e'];exact ⟨t,rfl⟩
      · rw [e,e'];exact ⟨t,rfl⟩
section
variable {X:Cx} {pins:List (Addr × Obj)} {σ:St} {H:Hp} {s:Shared}
mutual
theorem reads_td (I:Inv X pins σ H s):∀ {v:V} {d:PyData},Td H v d→∀ {u:Value},RelV v u→∃ as,Reads s.heap u d as∧(noList d=true→sysModules ∉ as)
  | _,_,.non,_,r=>by cases r;exact ⟨[],.none,fun _ h=>by cases h⟩
  | _,_,.bl b,_,r=>by cases r;exact ⟨[],.bool b,fun _ h=>by cases h⟩
  | _,_,.int i,_,r=>by obtain ⟨t,rfl⟩:=r;exact ⟨[],.int i t,fun _ h=>by cases h⟩
  | _,_,.str z,_,r=>by obtain ⟨t,rfl⟩:=r;exact ⟨[],.str z t,fun _ h=>by cases h⟩
  | _,_,.lst e t,_,r=>by
    cases r
    obtain ⟨_,its,n,rv,g⟩:=I.hok _ _ e
    obtain ⟨as,ra,_⟩:=reads_tds I t rv
    exact ⟨_,.list g rfl rfl ra,fun h=>by simp only [noList] at h;cases h⟩
  | _,_,.tup e t,_,r=>by
    cases r
    obtain ⟨_,its,rv,o,g,c,n,dd⟩:=I.hok _ _ e
    obtain ⟨as,ra,na⟩:=reads_tds I t rv
    exact ⟨as,.tuple g c dd ra,fun h=>na (by simpa only [noList] using h)⟩
  | _,_,.dct e t u,_,r=>by
    cases r
    obtain ⟨_,hs,vs,kv,o,es,ep,g,ex,dd,_,pr,_⟩:=I.hok _ _ e
    obtain ⟨v1,v2⟩:=pairs_vals pr kv
    obtain ⟨as,ra,na⟩:=reads_tds I t v1
    obtain ⟨bs,rb,nb⟩:=reads_tds I u v2
    refine ⟨_,.dict g ex.1 dd ra rb,fun h=>?_⟩
    simp only [noList] at h
    obtain ⟨h1,h2⟩:=noListKv_keys _ h
    intro m
    rcases List.mem_append.mp m with m | m
    · rcases List.mem_cons.mp m with m | m
      · exact beq_eq_false_iff_ne.mp hs m.symm
      · exact na h1 m
    · exact nb h2 m
theorem reads_tds (I:Inv X pins σ H s):∀ {vs:List V} {ds:List PyData},Tds H vs ds→∀ {us:List Value},Vals vs us→∃ as,ReadsAll s.heap us ds as∧(noListAll ds=true→sysModules ∉ as)
  | _,_,.nil,_,r=>by cases r;exact ⟨[],.nil,fun _ h=>by cases h⟩
  | _,_,.cons t u,_,r=>by
    cases r with
    | cons r1 r2=>
      obtain ⟨as,ra,na⟩:=reads_td I t r1
      obtain ⟨bs,rb,nb⟩:=reads_tds I u r2
      refine ⟨as++bs,.cons ra rb,fun h=>?_⟩
      simp only [noListAll,Bool.and_eq_true] at h
      intro m
      rcases List.mem_append.mp m with m | m
      · exact na h.1 m
      · exact nb h.2 m
end
structure Fit (d:PyData):Prop where
  sh:d.showable=true
  lv:d.leavesShort 61=true
  wt:d.weight≤200000
  dp:d.depth≤20
  md:d.hasDict=false∨noList d=true
theorem Fit.sz {d:PyData} (f:Fit d):d.shown.length≤sizeLine:=by
  have h:=PyData.shown_le 61 (by decide) d f.lv
  have:=f.wt
  rw [sizeLine_eq]
  omega
variable {k:Nat}
theorem call_repr_any (hr:Room k X.A):CallR X (.builtin "repr") (fun xs H Q=>∃ v d,xs=[v]∧Td H v d∧Fit d∧Q (.str d.shown) H):=by
  intro pins s σ H xs us Q I r h
  obtain ⟨v,d,rfl,t,f,q⟩:=h
  obtain ⟨u,rfl,rx⟩:=vals1 r
  have fin:∀ (h':Heap) (u:Tok) (tk:Tok),(∀ b o,s.heap.get? b=some o→h'.get? b=some o)→EP X pins σ Q (.str d.shown u) { s with heap:=h',toks:=tk }:=fun h' u tk hk=>⟨.str d.shown,H,I.kept (t':=tk) hk,⟨u,rfl⟩,q⟩
  have sz:=f.sz
  have ref:∀ a:Addr,u=.ref a→wpAny (model X.prog X.w) X.A (call (.builtin "repr") [u]) (EP X pins σ Q) X.xe s:=fun a e=>by
    subst e
    obtain ⟨as,rd,na⟩:=reads_td I t rx
    have un:=hr.un
    have dp:=f.dp
    refine repr_of_reads' rd f.sh (fun z=>?_) hr.gd (by omega) (fun _ _ e=>e) (fun h' u tk hk=>fin h' u tk hk) sz
    rcases f.md with m | m
    · rw [m] at z;cases z
    · exact na m
  cases t with
  | non=>cases rx;exact P.repr_of_none (fin _ _ _ fun _ _ e=>e)
  | bl b=>cases rx;exact P.repr_of_bool (by cases b <;> exact fin _ _ _ fun _ _ e=>e)
  | int i=>obtain ⟨t,rfl⟩:=rx;exact P.repr_of_int (of_decide_eq_true f.sh) (fin _ _ _ fun _ _ e=>e)
  | str z=>obtain ⟨t,rfl⟩:=rx;exact P.repr_of_str (fin _ _ _ fun _ _ e=>e) sz
  | lst e t=>cases rx;exact ref _ rfl
  | tup e t=>cases rx;exact ref _ rfl
  | dct e t u=>cases rx;exact ref _ rfl
end
section
variable {H:Hp}
theorem Tds.ints (ns:List Int):Tds H (ns.map V.int) (ns.map PyData.int):=by
  induction ns with
  | nil=>exact .nil
  | cons n ns ih=>exact .cons (.int n) ih
end
structure Gd (hd hl:Bool) (c e:Nat) (d:PyData):Prop where
  sh:d.showable=true
  lv:d.leavesShort 61=true
  wt:d.weight≤c
  dp:d.depth≤e
  nd:hd=false→d.hasDict=false
  nl:hl=false→noList d=true
structure Gs (hd hl:Bool) (c e:Nat) (ds:List PyData):Prop where
  sh:PyData.showableAll ds=true
  lv:PyData.leavesShortAll 61 ds=true
  wt:PyData.weightAll ds≤c
  dp:PyData.depthAll ds≤e
  nd:hd=false→PyData.hasDictAll ds=false
  nl:hl=false→noListAll ds=true
section
variable {hd hl:Bool} {c c' e e':Nat} {d:PyData} {ds es:List PyData}
theorem Gd.fit (g:Gd hd hl c e d) (h:hd=false∨hl=false) (hc:c≤200000) (he:e≤20):Fit d:=
  ⟨g.sh,g.lv,Nat.le_trans g.wt hc,Nat.le_trans g.dp he,h.imp g.nd g.nl⟩
theorem Gd.mono (g:Gd hd hl c e d) (hc:c≤c') (he:e≤e'):Gd hd hl c' e' d:=⟨g.sh,g.lv,Nat.le_trans g.wt hc,Nat.le_trans g.dp he,g.nd,g.nl⟩
theorem Gs.mono (g:Gs hd hl c e ds) (hc:c≤c') (he:e≤e'):Gs hd hl c' e' ds:=⟨g.sh,g.lv,Nat.le_trans g.wt hc,Nat.le_trans g.dp he,g.nd,g.nl⟩
theorem Gs.nil:Gs hd hl 0 0 []:=⟨by simp only [PyData.showableAll],by simp only [PyData.leavesShortAll],by simp only [PyData.weightAll];omega,by simp only [PyData.depthAll];omega,fun _=>by simp only [PyData.hasDictAll],fun _=>by simp only [noListAll]⟩
theorem Gs.cons (g:Gd hd hl c e d) (h:Gs hd hl c' e ds):Gs hd hl (c+1+c') e (d :: ds):=by
  have:=g.wt;have:=h.wt;have:=g.dp;have:=h.dp
  refine ⟨?_,?_,?_,?_,fun z=>?_,fun z=>?_⟩
  · simp only [PyData.showableAll,g.sh,h.sh,Bool.and_self]
  · simp only [PyData.leavesShortAll,g.lv,h.lv,Bool.and_self]
  · simp only [PyData.weightAll];omega
  · simp only [PyData.depthAll];omega
  · simp only [PyData.hasDictAll,g.nd z,h.nd z,Bool.or_self]
  · simp only [noListAll,g.nl z,h.nl z,Bool.and_self]
theorem Gs.one (g:Gd hd hl c e d):Gs hd hl (c+1) e [d]:=(Gs.cons g (Gs.nil.mono (Nat.le_refl 0) (Nat.zero_le e))).mono (by omega) (Nat.le_refl _)
theorem Gs.all:∀ {ds:List PyData},(∀ d∈ds,Gd hd hl c e d)→Gs hd hl ((c+1) * ds.length) e ds
  | [],_=>Gs.nil.mono (Nat.zero_le _) (Nat.zero_le _)
  | d :: ds,h=>by
    refine (Gs.cons (h d List.mem_cons_self) (Gs.all (ds:=ds) fun x hx=>h x (List.mem_cons_of_mem _ hx))).mono ?_ (Nat.le_refl _)
    rw [List.length_cons,Nat.mul_succ];omega
theorem Gd.tup (g:Gs hd hl c e ds):Gd hd hl c (e+1) (.tuple ds):=
  ⟨by simp only [PyData.showable];exact g.sh,by simp only [PyData.leavesShort];exact g.lv,by simp only [PyData.weight];exact g.wt,by simp only [PyData.depth];have:=g.dp;omega,fun z=>by simp only [PyData.hasDict];exact g.nd z,fun z=>by simp only [noList];exact g.nl z⟩
theorem Gd.str {z:Str} (h:∀ c∈z.cps.toList,c < 1000):Gd hd hl z.cps.size 0 (.str z):=⟨by simp only [PyData.showable],by
    simp only [PyData.leavesShort,List.all_eq_true,decide_eq_true_eq]
    intro c hc
    have:=h c hc
    have e:16 ^ 8=4294967296:=by decide
    omega,by simp only [PyData.weight];omega,by simp only [PyData.depth];omega,fun _=>by simp only [PyData.hasDict],fun _=>by simp only [noList]⟩
end
end L2
namespace L2
open PySem PySem.Spec PyProof.Rows PySem.W
theorem iteB {c:Bool} {A B:Prop} (h:c=false) (q:B):if c=true then A else B:=by rw [h];exact iteF q
end L2
namespace W56
open PySem
end W56
namespace W56
open PySem
end W56
namespace L2
open PySem PySem.Spec PyProof.Rows PySem.W
section
variable {X:Cx}
end
theorem Gd.int {hd hl:Bool} {i:Int} (h:i.natAbs < 10 ^ 12):Gd hd hl 41 0 (.int i):=by
  have s1:=ints_showable (ns:=[i]) (fun n hn=>by rw [List.mem_singleton.mp hn];exact h)
  simp only [PyData.showable,List.map_cons,List.map_nil,PyData.showableAll,Bool.and_true] at s1
  refine ⟨by simp only [PyData.showable];exact s1,?_,?_,by simp only [PyData.depth];omega,fun _=>by simp only [PyData.hasDict],fun _=>by simp only [noList]⟩
  · simp only [PyData.leavesShort,decide_eq_true_eq]
    exact Nat.le_trans (PyData.shown_int_le h) (by decide)
  · have:=weight_ints [i] (fun n hn=>by rw [List.mem_singleton.mp hn];exact h)
    simp only [List.map_cons,List.map_nil,PyData.weightAll,List.length_singleton] at this
    omega
end L2
namespace L2
open PySem PySem.Spec PyProof.Rows PySem.W
theorem vals_by:∀ {xs:List V} {us:List Value},xs.length=us.length→(∀ (j:Nat) (x:V) (u:Value),xs[j]?=some x→us[j]?=some u→RelV x u)→Vals xs us
  | [],[],_,_=>.nil
  | [],_ :: _,h,_=>by cases h
  | _ :: _,[],h,_=>by cases h
  | x :: xs,u :: us,h,r=>.cons (r 0 x u rfl rfl) (vals_by (by simpa using h) fun j y v hy hv=>r (j+1) y v (by simpa using hy) (by simpa using hv))
section
variable {X:Cx}
theorem call_list_txt (hc:X.calm=true):CallR X (.type "list") (fun xs H Q=>∃ z,xs=[.str z]∧z.length≤10000∧∀ l,H l=none→Q (.ref l) (upd H l (.lst (signs z)))):=by
  intro pins s σ H xs us Q I r h
  obtain ⟨z,rfl,zl,q⟩:=h
  obtain ⟨u,rfl,t,rfl⟩:=vals1 r
  have hz:z.cps.size≤10000:=zl
  have hs:10000≤sizeLine:=by rw [sizeLine_eq];decide
  refine call_list_str (I.ok.hd hc) z t (fun h' tk acc' c' kp e it=>?_) (by omega)
  have vals:Vals (signs z) acc'.toList:=by
    refine vals_by (by unfold signs;rw [List.length_map,Array.length_toList,Array.length_toList,it.1]) fun j x u hx hu=>?_
    obtain ⟨c,tk',hc',rfl⟩:=it.2 j u (by rw [← Array.getElem?_toList];exact hu)
    unfold signs at hx
    rw [List.getElem?_map,Array.getElem?_toList,hc'] at hx
    cases hx
    exact ⟨tk',rfl⟩
  exact ⟨.ref s.heap.objs.size,_,I.laid (t':=tk) kp (Nat.le_refl _) (show ObjOk X.prog X.w _ h' _ (.lst (signs z)) from ⟨by unfold signs;rw [List.length_map,Array.length_toList];omega,acc'.toList,c',vals,by simpa using e⟩),rfl,q _ (I.hok.fresh (Nat.le_refl _))⟩
end
end L2
namespace L2
open PySem PySem.Spec PyProof.Rows PySem.W
structure PSw (X:Cx) (sts:List Stmt) (t:TS):Prop where
  h:PSs X sts t
structure Pw (X:Cx) (st:Stmt) (t:TS):Prop where
  h:PS X st t
structure PEw (X:Cx) (e:Expr) (t:TE):Prop where
  h:PE X e t
structure PAw (X:Cx) (es:List Expr) (t:TA):Prop where
  h:PA X es t
section
variable {X:Cx}
theorem exw {sts:List Stmt} {R:TS→Prop} (h:∃ t,PSw X sts t∧R t):∃ t,PSs X sts t∧R t:=let ⟨t,a,b⟩:=h;⟨t,a.h,b⟩
theorem w_cons {st:Stmt} {rest:List Stmt} {t u:TS} (h1:Pw X st t) (h2:PSw X rest u):PSw X (st :: rest) (tSeq t u):=⟨pss_cons h1.h h2.h⟩
theorem w_one {st:Stmt} {t:TS} (h:Pw X st t):PSw X [st] t:=⟨pss_one h.h⟩
theorem w_set {i:Nat} {x:Str} {e:Expr} {te:TE} {pos' pos:Pos} (hN:X.N.Nodup) (hi:X.N[i]?=some x) (hx:Loc X.env.scope x) (he:PEw X e te) (hs:swapsWith e (some (.Name x pos')) pos.line X.env=pure false:=by rfl) (hf:X.fn x=true∨X.env.scope.names.lookup x=some .local:=by first | exact .inl rfl | exact .inr rfl | assumption) :
    Pw X (.Assign [.Name x pos'] e pos) (tAsg te (gName i)):=⟨ps_set hN hi hx he.h hs hf⟩
theorem w_ix {a b:Expr} {ta tb:TE} {pos:Pos} {r:R2} (hr:IxR X r) (ha:PEw X a ta) (hb:PEw X b tb) (hs:PlainIx b):PEw X (.Subscript a b pos) (tOp r ta tb):=⟨pe_ix hr ha.h hb.h hs⟩
theorem w_op {a b:Expr} {ta tb:TE} {pos:Pos} {op:Operator} {r:R2} (ho:OpR X (binaryOp op) r) (ha:PEw X a ta) (hb:PEw X b tb):PEw X (.BinOp a op b pos) (tOp r ta tb):=⟨pe_op ho ha.h hb.h⟩
theorem w_lst {es:List Expr} {t:TA} {pos:Pos} (h:PAw X es t):PEw X (.List es pos) (tLst t):=⟨pe_lst h.h⟩
theorem w_tup {es:List Expr} {t:TA} {pos:Pos} {x1} (h:PAw X es t):PEw X (.Tuple es x1 pos) (tTup t):=⟨pe_tup h.h⟩
theorem w_acons {e:Expr} {es:List Expr} {te:TE} {t:TA} (ha:PEw X e te) (hr:PAw X es t) (hs:starEach (e :: es) X.env=(false,eval e X.env) :: starEach es X.env:=by rfl):PAw X (e :: es) (tCons te t):=⟨pa_cons ha.h hr.h hs⟩
theorem w_anil:PAw X [] tNil:=⟨pa_nil⟩
theorem w_str {x:Str} {j} {pos:Pos}:PEw X (.Constant (.str x) j pos) (tC (.str x)):=⟨pe_str⟩
end
end L2
namespace W7
end W7
namespace S83
open PySem L2 W7
def top (i:Nat):Stmt:=PySem.Challenge.pw_upwords_k83_texts_of_no_net.main.body.getD i (.Pass ⟨0,0,0,0⟩)
abbrev s_is_whole:Stmt:=top 20
abbrev N_is_whole:List Str:=["thing"]
theorem sc_is_whole:FnScope N_is_whole ["thing"] (defScope s_is_whole):=⟨rfl,rfl,rfl,by decide +kernel,rfl,by decide +kernel,by decide +kernel⟩
abbrev s_is_number_below:Stmt:=top 21
abbrev N_is_number_below:List Str:=["thing", "behind"]
theorem sc_is_number_below:FnScope N_is_number_below ["thing", "behind"] (defScope s_is_number_below):=⟨rfl,rfl,rfl,by decide +kernel,rfl,by decide +kernel,by decide +kernel⟩
abbrev s_is_letters:Stmt:=top 22
abbrev N_is_letters:List Str:=["thing"]
theorem sc_is_letters:FnScope N_is_letters ["thing"] (defScope s_is_letters):=⟨rfl,rfl,rfl,by decide +kernel,rfl,by decide +kernel,by decide +kernel⟩
abbrev s_is_letter:Stmt:=top 23
abbrev N_is_letter:List Str:=["thing"]
theorem sc_is_letter:FnScope N_is_letter ["thing"] (defScope s_is_letter):=⟨rfl,rfl,rfl,by decide +kernel,rfl,by decide +kernel,by decide +kernel⟩
abbrev s_is_figures:Stmt:=top 24
abbrev N_is_figures:List Str:=["thing"]
theorem sc_is_figures:FnScope N_is_figures ["thing"] (defScope s_is_figures):=⟨rfl,rfl,rfl,by decide +kernel,rfl,by decide +kernel,by decide +kernel⟩
abbrev s_is_written_number:Stmt:=top 25
abbrev N_is_written_number:List Str:=["thing", "most"]
theorem sc_is_written_number:FnScope N_is_written_number ["thing", "most"] (defScope s_is_written_number):=⟨rfl,rfl,rfl,by decide +kernel,rfl,by decide +kernel,by decide +kernel⟩
abbrev s_is_net:Stmt:=top 29
abbrev N_is_net:List Str:=["thing"]
theorem sc_is_net:FnScope N_is_net ["thing"] (defScope s_is_net):=⟨rfl,rfl,rfl,by decide +kernel,rfl,by decide +kernel,by decide +kernel⟩
abbrev s_is_knot:Stmt:=top 30
abbrev N_is_knot:List Str:=["thing", "number"]
theorem sc_is_knot:FnScope N_is_knot ["thing", "number"] (defScope s_is_knot):=⟨rfl,rfl,rfl,by decide +kernel,rfl,by decide +kernel,by decide +kernel⟩
abbrev s_read_net:Stmt:=top 33
abbrev N_read_net:List Str:=["text", "net"]
theorem sc_read_net:FnScope N_read_net ["text"] (defScope s_read_net):=⟨rfl,rfl,rfl,by decide +kernel,rfl,by decide +kernel,by decide +kernel⟩
abbrev s_read_knot:Stmt:=top 34
abbrev N_read_knot:List Str:=["text", "parts"]
theorem sc_read_knot:FnScope N_read_knot ["text"] (defScope s_read_knot):=⟨rfl,rfl,rfl,by decide +kernel,rfl,by decide +kernel,by decide +kernel⟩
abbrev s_law_hand:Stmt:=top 36
abbrev N_law_hand:List Str:=["script", "k", "cell", "prime"]
theorem sc_law_hand:FnScope N_law_hand ["script", "k"] (defScope s_law_hand):=⟨rfl,rfl,rfl,by decide +kernel,rfl,by decide +kernel,by decide +kernel⟩
abbrev s_law_take:Stmt:=top 37
abbrev N_law_take:List Str:=["hand", "many", "found"]
theorem sc_law_take:FnScope N_law_take ["hand", "many"] (defScope s_law_take):=⟨rfl,rfl,rfl,by decide +kernel,rfl,by decide +kernel,by decide +kernel⟩
abbrev s_law_words:Stmt:=top 38
abbrev N_law_words:List Str:=["hand", "found", "room", "sizes", "k", "word", "size", "turn"]
theorem sc_law_words:FnScope N_law_words ["hand"] (defScope s_law_words):=⟨rfl,rfl,rfl,by decide +kernel,rfl,by decide +kernel,by decide +kernel⟩
abbrev s_law_spoilt:Stmt:=top 39
abbrev N_law_spoilt:List Str:=["hand", "words", "way", "at", "signs", "sign", "text", "place", "odd", "word", "some"]
theorem sc_law_spoilt:FnScope N_law_spoilt ["hand", "words"] (defScope s_law_spoilt):=⟨rfl,rfl,rfl,by decide +kernel,rfl,by decide +kernel,by decide +kernel⟩
abbrev s_law_number:Stmt:=top 40
abbrev N_law_number:List Str:=["word"]
theorem sc_law_number:FnScope N_law_number ["word"] (defScope s_law_number):=⟨rfl,rfl,rfl,by decide +kernel,rfl,by decide +kernel,by decide +kernel⟩
abbrev s_law_due:Stmt:=top 41
abbrev N_law_due:List Str:=["text", "words", "found", "k", "word", "numbers"]
theorem sc_law_due:FnScope N_law_due ["text"] (defScope s_law_due):=⟨rfl,rfl,rfl,by decide +kernel,rfl,by decide +kernel,by decide +kernel⟩
abbrev s_law_read:Stmt:=top 42
abbrev N_law_read:List Str:=["thing", "caught", "told", "e", "others"]
theorem sc_law_read:FnScope N_law_read ["thing"] (defScope s_law_read):=⟨rfl,rfl,rfl,by decide +kernel,rfl,by decide +kernel,by decide +kernel⟩
abbrev s_law:Stmt:=top 43
abbrev N_law:List Str:=["script", "k", "hand", "words", "one", "text", "due", "thing", "kept"]
theorem sc_law:FnScope N_law ["script"] (defScope s_law):=⟨rfl,rfl,rfl,by decide +kernel,rfl,by decide +kernel,by decide +kernel⟩
structure Blt7 (mg:Str→Option Value):Prop extends Blt mg where
  ValueError_:mg "ValueError" = none
  repr:mg "repr" = none
  all:mg "all" = none
  letters:∃ u,mg "LETTERS" = some u∧RelV (.str "abcdefghijklmnopqrstuvwxyz") u
  figures:∃ u,mg "FIGURES" = some u∧RelV (.str "0123456789") u
  knots:∃ u,mg "MOST_KNOTS" = some u∧RelV (.int 60) u
  beneath:∃ u,mg "MOST_BENEATH" = some u∧RelV (.int 60) u
  mostf:∃ u,mg "MOST_FIGURES" = some u∧RelV (.int 2) u
abbrev Lw (c:Nat):Prop:=97≤c∧c < 123
section
variable {P:Program} {w:World} {K:PySem.W.Frag} {mg:Str→Option Value} {base:Heap} {k:Nat}
theorem ints_at {us:List Int} {i:Int} (h0:0≤i) (h1:i < (us.length:Int)):atI (us.map V.int) i=some (.int (us.getD i.toNat 0)):=by
  have hk:i.toNat < us.length:=by omega
  have e:=atI_nat (xs:=us.map V.int) (j:=i.toNat) (v:=.int (us.getD i.toNat 0)) (by rw [List.getElem?_map,List.getElem?_eq_getElem hk,List.getD_eq_getElem?_getD,List.getElem?_eq_getElem hk];rfl)
  rw [show ((i.toNat:Nat):Int)=i by omega] at e
  exact e
theorem alph_at {i:Int} (h0:0≤i) (h1:i < 26):∃ c,atI (Str.ofString "abcdefghijklmnopqrstuvwxyz").cps.toList i=some c∧Lw c:=by
  have hl:(Str.ofString "abcdefghijklmnopqrstuvwxyz").cps.toList.length=26:=by decide +kernel
  have hk:i.toNat < (Str.ofString "abcdefghijklmnopqrstuvwxyz").cps.toList.length:=by omega
  have e:=atI_nat (xs:=(Str.ofString "abcdefghijklmnopqrstuvwxyz").cps.toList) (j:=i.toNat) (List.getElem?_eq_getElem hk)
  rw [show ((i.toNat:Nat):Int)=i by omega] at e
  have all:∀ c∈(Str.ofString "abcdefghijklmnopqrstuvwxyz").cps.toList,Lw c:=by decide +kernel
  exact ⟨_,e,all _ (List.getElem_mem hk)⟩
theorem menu {us:List Int} {n lo hi:Int} (h0:0≤n) (h1:n < (us.length:Int)) (hb:∀ v∈us,lo≤v∧v≤hi):∃ v:Int,atI (us.map V.int) n=some (.int v)∧lo≤v∧v≤hi:=by
  refine ⟨_,ints_at h0 h1,?_⟩
  have hk:n.toNat < us.length:=by omega
  rw [List.getD_eq_getElem?_getD,List.getElem?_eq_getElem hk]
  exact hb _ (List.getElem_mem hk)
def sp_hand (K:PySem.W.Frag):Sp:=fun vs H Q _=>∃ (a:Addr) (ns:List Int) (kk:Int),vs=[.ref a,.int kk]∧SqL K H a (ns.map V.int)∧ns.length≤63∧0≤kk∧kk≤63∧∀ (p:Addr) (H':Hp),H p=none→Same H H'→Deck H' p kk→Q (.ref p) H'
theorem has_hand (D:Df K mg "_law_hand" s_law_hand) (B:Blt7 mg):Has P w K mg base "_law_hand" (k+1) ["script", "k"] (sp_hand K):=by
  refine D.has sc_law_hand (fun _ _ _ _ _ _ us hl=>match us,hl with | [_,_],_=>rfl) (fun vs H Q E h=>by obtain ⟨a,ns,kk,rfl,_⟩:=h;rfl) (fun f cdv A outer s H vs Q E hr h=>?_)
  obtain ⟨a,ns,kk,rfl,hS,n63,k0,k63,q⟩:=h
  refine ⟨_,(pss_cons (ps_set (i:=2) sc_law_hand.nd rfl (by first | exact Or.inl rfl | exact Or.inr rfl) pe_int)
  (pss_cons (ps_if (pt_cmpR op_lt (pv 1) (pe_callB call_len_seq rfl B.len bt_len (pa_cons (pv 0) pa_nil)) (nomark _))
  (pss_one (ps_set (i:=2) sc_law_hand.nd rfl (by first | exact Or.inl rfl | exact Or.inr rfl) (pe_ix ix_list (pv 0) (pv 1) (fun _ _=>rfl))))
  pss_nil)
  (pss_cons (ps_set (i:=3) sc_law_hand.nd rfl (by first | exact Or.inl rfl | exact Or.inr rfl) (pe_ix ix_list (pe_lst (pa_cons pe_int (pa_cons pe_int (pa_cons pe_int (pa_cons pe_int (pa_cons pe_int (pa_cons pe_int (pa_cons pe_int pa_nil)))))))) (pe_op op_mod (pv 1) pe_int) (fun _ _=>rfl)))
  (pss_one (ps_ret (pe_lst (pa_cons (pe_callB (call_max2 rfl) rfl B.max bt_max (pa_cons pe_int (pa_cons (pe_op op_sub (pv 2) (pe_op op_pow pe_int pe_int)) pa_nil))) (pa_cons (pe_op op_mod (pe_op op_pow (pe_op op_add (pe_op op_add (pe_op op_mod (pv 2) (pv 3)) (pe_op op_mul pe_int (pv 1))) pe_int) pe_int) pe_int) (pa_cons (pv 1) pa_nil))))))))),?_⟩
  refine ⟨_,rfl,_,rfl,a,_,rfl,.inl hS,_,_,rfl,rfl,_,rfl,ite2 (fun cnd=>?_) (fun cnd=>?_)⟩
  · have cnd:=of_decide_eq_true cnd
    rw [List.length_map] at cnd
    refine ⟨_,rfl,_,rfl,a,_,_,_,rfl,rfl,hS,ints_at k0 cnd,?_⟩
    refine ⟨(by show 7≤sizeLine;decide),fun r1 hr1=>?_⟩
    refine ⟨_,rfl,_,_,rfl,rfl,(by decide:(0:Int) < 7),?_⟩
    obtain ⟨v,hv,v0,v1⟩:=menu (us:=[2147483629,2147483587,2147483579,2147483563,2147483549,2147483543,2147483497]) (n:=kk % 7) (lo:=1) (hi:=2147483647) (Int.emod_nonneg _ (by decide)) (Int.emod_lt_of_pos _ (by decide)) (by decide)
    refine ⟨r1,_,_,_,rfl,rfl,SqL.of upd_same,hv,?_⟩
    have o1:=Int.emod_nonneg (ns.getD kk.toNat 0) (show v≠0 by omega)
    have o2:=Int.emod_lt_of_pos (ns.getD kk.toNat 0) (show 0 < v by omega)
    refine ⟨_,rfl,_,_,rfl,rfl,⟨by decide,by decide,by decide⟩,_,_,rfl,rfl,_,_,rfl,?_⟩
    refine ⟨_,rfl,_,rfl,_,_,rfl,rfl,(show 0 < v by omega),_,rfl,_,_,rfl,rfl,.inl ⟨by decide,by decide⟩,_,_,rfl,rfl,_,_,rfl,rfl,_,_,rfl,rfl,⟨by decide,by decide,by omega⟩,_,_,rfl,rfl,(by decide:(0:Int) < 2147483647),_,rfl,(by show 3≤sizeLine;decide),fun p hp=>?_⟩
    exact q p _ (((Same.refl H).new hr1).free hp) (((Same.refl H).new hr1).new hp) ⟨_,_,kk,upd_same,k0,Int.le_refl _⟩
  · skip
    refine ⟨(by show 7≤sizeLine;decide),fun r1 hr1=>?_⟩
    refine ⟨_,rfl,_,_,rfl,rfl,(by decide:(0:Int) < 7),?_⟩
    obtain ⟨v,hv,v0,v1⟩:=menu (us:=[2147483629,2147483587,2147483579,2147483563,2147483549,2147483543,2147483497]) (n:=kk % 7) (lo:=1) (hi:=2147483647) (Int.emod_nonneg _ (by decide)) (Int.emod_lt_of_pos _ (by decide)) (by decide)
    refine ⟨r1,_,_,_,rfl,rfl,SqL.of upd_same,hv,?_⟩
    have o1:=Int.emod_nonneg 29 (show v≠0 by omega)
    have o2:=Int.emod_lt_of_pos 29 (show 0 < v by omega)
    refine ⟨_,rfl,_,_,rfl,rfl,⟨by decide,by decide,by decide⟩,_,_,rfl,rfl,_,_,rfl,?_⟩
    refine ⟨_,rfl,_,rfl,_,_,rfl,rfl,(show 0 < v by omega),_,rfl,_,_,rfl,rfl,.inl ⟨by decide,by decide⟩,_,_,rfl,rfl,_,_,rfl,rfl,_,_,rfl,rfl,⟨by decide,by decide,by omega⟩,_,_,rfl,rfl,(by decide:(0:Int) < 2147483647),_,rfl,(by show 3≤sizeLine;decide),fun p hp=>?_⟩
    exact q p _ (((Same.refl H).new hr1).free hp) (((Same.refl H).new hr1).new hp) ⟨_,_,kk,upd_same,k0,Int.le_refl _⟩
def sp_take:Sp:=fun vs H Q _=>∃ (p:Addr) (m c:Int),vs=[.ref p,.int m]∧Deck H p c∧c < 1000000∧0 < m∧m < 1073741824∧∀ (n:Int) (H':Hp),0≤n→n < m→Kd p (c+1) H H'→Q (.int n) H'
theorem has_take (D:Df K mg "_law_take" s_law_take) (B:Blt7 mg):Has P w K mg base "_law_take" (k+1) ["hand", "many"] sp_take:=by
  refine D.has sc_law_take (fun _ _ _ _ _ _ us hl=>match us,hl with | [_,_],_=>rfl) (fun vs H Q E h=>by obtain ⟨p,m,c,rfl,_⟩:=h;rfl) (fun f cdv A outer s H vs Q E hr h=>?_)
  obtain ⟨p,m,c,rfl,⟨x,y,z,hp,z0,z1⟩,c6,m0,m1,q⟩:=h
  refine ⟨_,(pss_cons (ps_if (pt_cmpR op_gt (pe_ix ix_list (pv 0) pe_int (fun _ _=>rfl)) pe_int (nomark _))
  (pss_cons (ps_set (i:=2) sc_law_take.nd rfl (by first | exact Or.inl rfl | exact Or.inr rfl) (pe_op op_mod (pe_ix ix_list (pv 0) pe_int (fun _ _=>rfl)) (pv 1)))
  (pss_cons (ps_asg (pe_op op_fdiv (pe_ix ix_list (pv 0) pe_int (fun _ _=>rfl)) (pv 1)) (pg_sub (pv 0) pe_int set_list))
  (pss_one (ps_ret (pv 2)))))
  pss_nil)
  (pss_cons (ps_asg (pe_op op_add (pe_ix ix_list (pv 0) pe_int (fun _ _=>rfl)) pe_int) (pg_sub (pv 0) pe_int set_list))
  (pss_cons (ps_asg (pe_op op_mod (pe_op op_add (pe_op op_add (pe_op op_mul (pe_ix ix_list (pv 0) pe_int (fun _ _=>rfl)) pe_int) (pe_op op_mul pe_int (pe_ix ix_list (pv 0) pe_int (fun _ _=>rfl)))) pe_int) pe_int) (pg_sub (pv 0) pe_int set_list))
  (pss_one (ps_ret (pe_op op_mod (pe_op op_fdiv (pe_op op_mod (pe_op op_pow (pe_ix ix_list (pv 0) pe_int (fun _ _=>rfl)) pe_int) pe_int) pe_int) (pv 1))))))),?_⟩
  refine ⟨_,rfl,p,_,_,_,rfl,rfl,SqL.of hp,rfl,_,_,rfl,rfl,_,rfl,ite2 (fun cnd=>?_) (fun cnd=>?_)⟩
  · refine ⟨_,rfl,p,_,_,_,rfl,rfl,SqL.of hp,rfl,_,rfl,_,_,rfl,rfl,m0,?_⟩
    refine ⟨_,rfl,p,_,_,_,rfl,rfl,SqL.of hp,rfl,_,rfl,_,_,rfl,rfl,⟨m0,m1⟩,?_⟩
    refine ⟨_,rfl,p,_,_,0,rfl,rfl,hp,rfl,_,rfl,?_⟩
    exact q _ _ (Int.emod_nonneg _ (by omega)) (Int.emod_lt_of_pos _ m0) ⟨⟨_,y,z,upd_same,z0,by omega⟩,fun b o hb e=>by rw [upd_ne hb];exact e⟩
  · refine ⟨_,rfl,p,_,_,_,rfl,rfl,SqL.of hp,rfl,_,_,rfl,rfl,?_⟩
    refine ⟨_,rfl,p,_,_,2,rfl,rfl,hp,rfl,?_⟩
    have hp':upd H p (.lst [.int x,.int y,.int (z+1)]) p=some (.lst [.int x,.int y,.int (z+1)]):=upd_same
    refine ⟨_,rfl,p,_,_,_,rfl,rfl,SqL.of hp',rfl,_,_,rfl,rfl,.inr ⟨by decide,by decide⟩,_,rfl,p,_,_,_,rfl,rfl,SqL.of hp',rfl,_,_,rfl,rfl,.inl ⟨by decide,by decide⟩,_,_,rfl,rfl,_,_,rfl,rfl,_,_,rfl,rfl,(by decide:(0:Int) < 2147483647),?_⟩
    refine ⟨_,rfl,p,_,_,1,rfl,rfl,hp',rfl,?_⟩
    have y1:=Int.emod_nonneg (y * 48271+40009 * (z+1)+12820163) (by decide:(2147483647:Int)≠0)
    have y2:=Int.emod_lt_of_pos (y * 48271+40009 * (z+1)+12820163) (by decide:(0:Int) < 2147483647)
    refine ⟨_,rfl,p,_,_,_,rfl,rfl,SqL.of upd_same,rfl,_,_,rfl,rfl,⟨by decide,by decide,by omega⟩,_,_,rfl,rfl,(by decide:(0:Int) < 2147483629),_,_,rfl,rfl,⟨by decide,by decide⟩,_,rfl,_,_,rfl,rfl,m0,?_⟩
    exact q _ _ (Int.emod_nonneg _ (by omega)) (Int.emod_lt_of_pos _ m0) ⟨⟨x,_,z+1,upd_same,by omega,by omega⟩,fun b o hb e=>by rw [upd_ne hb,upd_ne hb];exact e⟩
end
end S83
namespace L2
section
variable {NL:List PySem.Str} {ix:List Nat} {g:TG} {tt:TT} {te:TE} {σ:St} {H1:Hp} {Qs:Hp→Prop} {acc:PySem.Addr}
theorem comp_tupl {K:PySem.W.Frag} {a:PySem.Addr} {xs:List V} (hn:xs.length < 1000) (Pv:Nat→List V→Hp→Prop)
    (hl:∀ i ys H2,Pv i ys H2→SqT K H2 a xs) (hacc:∀ i ys H2,Pv i ys H2→H2 acc=some (.lst ys)∧ys.length≤i) (h0:Pv 0 [] (upd H1 acc (.lst []))) (hstop:∀ ys H2,Pv xs.length ys H2→Qs H2)
    (hturn:∀ i x ys H2,xs[i]?=some x→Pv i ys H2→g x (comp0 NL ix σ) H2 fun σ' H4=>σ'.drop NL.length=ix.map (fun j=>σ.getD j none)∧tt σ' H4 fun b H5=>
      if b=true then te σ' H5 fun v H6=>H6 acc=some (.lst ys)∧Pv (i+1) (ys++[v]) (upd H6 acc (.lst (ys++[v]))) else Pv (i+1) ys H5) :
    ∃ W:Nat→Nat→List V→Hp→Prop,(∃ m,W 0 m [] (upd H1 acc (.lst []))) ∧
    ∀ i m ys H2,W i m ys H2→H2 acc=some (.lst ys)∧ys.length < PySem.sizeLine ∧
      (((Itt K a).stop i H2∧Qs H2)∨((Itt K a).go i H2∧∃ N:List V→Hp→Prop,(∀ ys' H',N ys' H'→∃ m',m' < m∧W (i+1) m' ys' H') ∧
        ∀ x H3,(Itt K a).yld i H2 x H3→g x (comp0 NL ix σ) H3 fun σ' H4=>σ'.drop NL.length=ix.map (fun j=>σ.getD j none)∧tt σ' H4 fun b H5=>
          if b=true then te σ' H5 fun v H6=>H6 acc=some (.lst ys)∧N (ys++[v]) (upd H6 acc (.lst (ys++[v]))) else N ys H5)):=by
  refine comp_by xs.length hn Pv hacc h0 (fun ys H2 hp=>⟨⟨xs,hl _ _ _ hp,Nat.le_refl _⟩,hstop ys H2 hp⟩) fun i ys H2 hi hp=>?_
  have hs:=hl _ _ _ hp
  refine ⟨⟨xs,xs[i],hs,List.getElem?_eq_getElem hi⟩,?_⟩
  rintro x H3 ⟨rfl,hx⟩
  exact hturn i x ys H3 (hx xs hs) hp
end
end L2
namespace S83
open PySem L2 W7
def mk (l:List Nat):Str:=⟨l.toArray⟩
theorem iteB {c:Bool} {A B:Prop} (h:c=true) (q:A):if c=true then A else B:=by rw [if_pos h];exact q
theorem iteN {c:Bool} {A B:Prop} (h:c=false) (q:B):if c=true then A else B:=by rw [h];exact iteF q
theorem bq2 {Q:VK} {b c:Bool} {H:Hp} (h:b=c) (q:Q (.bl c) H):Q (.bl b) H:=by rw [h];exact q
theorem cps_len (z:Str):z.cps.toList.length=z.length:=by simp [Str.length]
theorem str_ext {a b:Str} (h:a.cps.toList=b.cps.toList):a=b:=by
  cases a;cases b
  congr 1
  exact Array.toList_inj.mp h
theorem line_le {n:Nat} (h:n≤1000000):n≤sizeLine:=Nat.le_trans h (by decide)
def lwB (c:Nat):Bool:=decide (97≤c) && decide (c < 123)
def fgB (c:Nat):Bool:=decide (48≤c) && decide (c < 58)
theorem in_abc (c:Nat):(!(Builtin.Str.occurrences (Str.ofString "abcdefghijklmnopqrstuvwxyz") ⟨#[c]⟩ 0 (Str.ofString "abcdefghijklmnopqrstuvwxyz").length 1).isEmpty)=lwB c:=by
  by_cases h:c < 123
  · have all:∀ c:Nat,c < 123→(!(Builtin.Str.occurrences (Str.ofString "abcdefghijklmnopqrstuvwxyz") ⟨#[c]⟩ 0 (Str.ofString "abcdefghijklmnopqrstuvwxyz").length 1).isEmpty)=lwB c:=by decide +kernel
    exact all c h
  · have lt:∀ d∈(Str.ofString "abcdefghijklmnopqrstuvwxyz").cps.toList,d < 123:=by decide +kernel
    rw [occ_none (fun m=>h (lt c m))]
    unfold lwB
    rw [decide_eq_false h];simp
theorem in_fig (c:Nat):(!(Builtin.Str.occurrences (Str.ofString "0123456789") ⟨#[c]⟩ 0 (Str.ofString "0123456789").length 1).isEmpty)=fgB c:=by
  by_cases h:c < 58
  · have all:∀ c:Nat,c < 58→(!(Builtin.Str.occurrences (Str.ofString "0123456789") ⟨#[c]⟩ 0 (Str.ofString "0123456789").length 1).isEmpty)=fgB c:=by decide +kernel
    exact all c h
  · have lt:∀ d∈(Str.ofString "0123456789").cps.toList,d < 58:=by decide +kernel
    rw [occ_none (fun m=>h (lt c m))]
    unfold fgB
    rw [decide_eq_false h];simp
def figN (z:Str):Bool:=decide (V.str z≠V.str (Str.ofString "")) && z.cps.toList.all fgB
def zeroOk (z:Str):Bool:=decide (V.str z=V.str (Str.ofString "0")) || decide (V.str ⟨#[z.cps.toList.getD 0 0]⟩≠V.str (Str.ofString "0"))
def wrB (z:Str):Bool:=figN z && (decide ((z.length:Int)≤2) && zeroOk z)
def wrN (z:Str):Int:=(PySem.intText? z).getD 0
theorem fig_ne {z:Str} (h:figN z=true):z.cps.toList≠[]:=fun e=>by
  unfold figN at h
  rw [Bool.and_eq_true] at h
  exact of_decide_eq_true h.1 (by rw [str_ext (a:=z) (b:=Str.ofString "") e])
theorem fig2:∀ d:Nat,d < 58→48≤d→(PySem.intText? (mk [d])=some ((d:Int) - 48))∧∀ e:Nat,e < 58→48≤e→PySem.intText? (mk [d,e])=some (10 * ((d:Int) - 48)+((e:Int) - 48)):=by decide +kernel
theorem wr_facts {z:Str} (h:figN z=true) (l:(z.length:Int)≤2):PySem.intText? z=some (wrN z)∧0≤wrN z∧wrN z < 100:=by
  have ne:=fig_ne h
  have al:∀ c∈z.cps.toList,48≤c∧c < 58:=fun c hc=>by
    unfold figN at h
    rw [Bool.and_eq_true,List.all_eq_true] at h
    have:=h.2 c hc
    unfold fgB at this
    rw [Bool.and_eq_true] at this
    exact ⟨of_decide_eq_true this.1,of_decide_eq_true this.2⟩
  have hl:=cps_len z
  have key:∃ n,PySem.intText? z=some n∧0≤n∧n < 100:=by
    cases e:z.cps.toList with
    | nil=>exact absurd e ne
    | cons d r=>
      rw [e] at al hl
      have hd:=al d List.mem_cons_self
      cases r with
      | nil=>
        rw [str_ext (a:=z) (b:=mk [d]) e]
        exact ⟨_,(fig2 d hd.2 hd.1).1,by omega,by omega⟩
      | cons e2 r=>
        have he:=al e2 (List.mem_cons_of_mem _ List.mem_cons_self)
        cases r with
        | nil=>
          rw [str_ext (a:=z) (b:=mk [d,e2]) e]
          exact ⟨_,(fig2 d hd.2 hd.1).2 e2 he.2 he.1,by omega,by omega⟩
        | cons x r=>simp only [List.length_cons] at hl;omega
  obtain ⟨n,e1,e2,e3⟩:=key
  have:wrN z=n:=by unfold wrN;rw [e1];rfl
  rw [this]
  exact ⟨e1,e2,e3⟩
def oneL (z:Str):Bool:=z.cps.toList.all lwB && decide (z.length=1)
theorem signs_in (h z:Str):inV (.str h) (signs z)=z.cps.toList.any fun c=>decide (h.cps.toList=[c]):=by
  unfold inV signs
  rw [List.any_map]
  congr 1
  funext c
  show decide (_=_)=_
  by_cases e:h.cps.toList=[c]
  · have:(⟨#[c]⟩:Str)=h:=str_ext (by rw [e])
    rw [decide_eq_true e,← this]
    exact decide_eq_true rfl
  · rw [decide_eq_false e]
    exact decide_eq_false fun q=>e (by rw [← q])
theorem in_abcs (h:Str):inV (.str h) (signs (Str.ofString "abcdefghijklmnopqrstuvwxyz"))=oneL h:=by
  rw [signs_in]
  have hl:=cps_len h
  unfold oneL
  cases e:h.cps.toList with
  | nil=>rw [e] at hl;rw [show decide (h.length=1)=false from decide_eq_false (by rw [← hl];simp),Bool.and_false,List.any_eq_false];intro c _;simp
  | cons d r=>
    rw [e] at hl
    cases r with
    | nil=>
      rw [show decide (h.length=1)=true from decide_eq_true (by rw [← hl];rfl),Bool.and_true,List.all_cons,List.all_nil,Bool.and_true]
      by_cases lt:d < 123
      · have all:∀ d:Nat,d < 123→((Str.ofString "abcdefghijklmnopqrstuvwxyz").cps.toList.any fun c=>decide ([d]=[c]))=lwB d:=by decide +kernel
        exact all d lt
      · have ls:∀ c∈(Str.ofString "abcdefghijklmnopqrstuvwxyz").cps.toList,c < 123:=by decide +kernel
        unfold lwB
        rw [decide_eq_false lt,Bool.and_false,List.any_eq_false]
        intro c hc
        have:=ls c hc
        simp;omega
    | cons x r=>
      rw [show decide (h.length=1)=false from decide_eq_false (by rw [← hl];simp),Bool.and_false,List.any_eq_false]
      intro c _;simp
abbrev GKnot:=Str × List Int
def GK (H:Hp) (a:Addr) (kn:GKnot):Prop:=∃ b,H a=some (.tup [.str kn.1,.ref b])∧H b=some (.tup (kn.2.map V.int))
theorem GK.tups {H H':Hp} {a:Addr} {kn:GKnot} (h:GK H a kn) (s:∀ a xs,H a=some (.tup xs)→H' a=some (.tup xs)):GK H' a kn:=let ⟨b,x,y⟩:=h;⟨b,s _ _ x,s _ _ y⟩
def GKs (H:Hp) (as:List Addr) (net:List GKnot):Prop:=as.length=net.length∧∀ (i:Nat) (a:Addr) (kn:GKnot),as[i]?=some a→net[i]?=some kn→GK H a kn
theorem GKs.tups {H H':Hp} {as:List Addr} {net:List GKnot} (h:GKs H as net) (s:∀ a xs,H a=some (.tup xs)→H' a=some (.tup xs)):GKs H' as net:=⟨h.1,fun i a kn x y=>(h.2 i a kn x y).tups s⟩
theorem GKs.nil {H:Hp}:GKs H [] []:=⟨rfl,fun i a kn x=>by cases x⟩
theorem GKs.snoc {H:Hp} {as:List Addr} {net:List GKnot} {a:Addr} {kn:GKnot} (h:GKs H as net) (k:GK H a kn):GKs H (as++[a]) (net++[kn]):=by
  refine ⟨by rw [List.length_append,List.length_append,h.1];rfl,fun i b m x y=>?_⟩
  rcases Nat.lt_or_ge i as.length with lt | ge
  · rw [List.getElem?_append_left lt] at x
    rw [List.getElem?_append_left (by rw [← h.1];exact lt)] at y
    exact h.2 i b m x y
  · rw [List.getElem?_append_right ge] at x
    rw [List.getElem?_append_right (by rw [← h.1];exact ge),← h.1] at y
    cases e:i - as.length with
    | zero=>
      rw [e] at x y
      cases x;cases y
      exact k
    | succ n=>rw [e] at x;cases x
def NetG (H:Hp) (t:Addr) (net:List GKnot):Prop:=∃ as:List Addr,H t=some (.tup (as.map V.ref))∧GKs H as net
theorem NetG.same {H H':Hp} {t:Addr} {net:List GKnot} (h:NetG H t net) (s:Same H H'):NetG H' t net:=let ⟨as,x,y⟩:=h;⟨as,s _ _ x,y.tups fun a xs e=>s _ _ e⟩
def kB (k:Nat) (kn:GKnot):Bool:=oneL kn.1 && (decide (kn.2.length≤60) && kn.2.all fun n=>decide (0≤n) && decide (n < (k:Int)))
def GoodN (net:List GKnot):Prop:=net.length≤60∧∀ k kn,net[k]?=some kn→kB k kn=true
theorem glue_ge (c:Nat):∀ xs:List (List Nat),xs≠[]→(xs.map (·.length)).sum+xs.length=(glueN c xs).length+1
  | [],h=>absurd rfl h
  | [x],_=>by simp [glueN]
  | x :: y :: r,_=>by
    show _=(x++c :: glueN c (y :: r)).length+1
    have:=glue_ge c (y :: r) (by simp)
    simp only [List.map_cons,List.sum_cons,List.length_cons,List.length_append] at this ⊢
    omega
theorem sum_ge {xs:List Nat} {x:Nat} (h:x∈xs):x≤xs.sum:=by
  induction xs with
  | nil=>cases h
  | cons y r ih=>
    rw [List.sum_cons]
    rcases List.mem_cons.mp h with rfl | h
    · omega
    · have:=ih h;omega
theorem split_glue (z:Str) (c:Nat):Txt.split z ⟨#[c]⟩≠[]∧glueN c ((Txt.split z ⟨#[c]⟩).map fun z:Str=>z.cps.toList)=z.cps.toList:=by
  have e1:=StrLaws.join_split z ⟨#[c]⟩
  have e3:=PyProof.Rows.split_pos z ⟨#[c]⟩
  rw [← StrLaws.glued_eq_join] at e1
  have e1:Txt.join ⟨#[c]⟩ (Txt.split z ⟨#[c]⟩)=z:=e1
  refine ⟨fun e=>by rw [e] at e3;exact absurd e3 (by simp),?_⟩
  rw [← join_cpsN,e1]
theorem split_len (z:Str) (c:Nat):(Txt.split z ⟨#[c]⟩).length≤z.length+1∧∀ p∈Txt.split z ⟨#[c]⟩,p.length≤z.length:=by
  obtain ⟨ne,e⟩:=split_glue z c
  have g:=glue_ge c ((Txt.split z ⟨#[c]⟩).map fun z:Str=>z.cps.toList) (by simpa using ne)
  rw [e,cps_len,List.length_map,List.map_map] at g
  have em:(Txt.split z ⟨#[c]⟩).map ((fun x:List Nat=>x.length) ∘ fun z:Str=>z.cps.toList)=(Txt.split z ⟨#[c]⟩).map (·.length):=List.map_congr_left fun z _=>cps_len z
  rw [em] at g
  refine ⟨by omega,fun p hp=>?_⟩
  have:=sum_ge (List.mem_map.mpr ⟨p,hp,rfl⟩:p.length∈(Txt.split z ⟨#[c]⟩).map (·.length))
  have:0 < (Txt.split z ⟨#[c]⟩).length:=List.length_pos_iff.mpr ne
  omega
def parts (w:Str):List Str:=Txt.split w (Str.ofString ",")
def hd (w:Str):Str:=(parts w).headD (Str.ofString "")
def tl (w:Str):List Str:=(parts w).tail
theorem parts_eq (w:Str):parts w=hd w :: tl w:=by
  have:=(split_glue w 44).1
  unfold hd tl
  cases e:parts w with
  | nil=>exact absurd e this
  | cons x r=>rfl
theorem tl_len (w:Str):(tl w).length≤w.length∧∀ p∈tl w,p.length≤w.length:=by
  obtain ⟨a,b⟩:=split_len w 44
  have e:Txt.split w ⟨#[44]⟩=hd w :: tl w:=parts_eq w
  rw [e] at a b
  rw [List.length_cons] at a
  exact ⟨by omega,fun p hp=>b p (List.mem_cons_of_mem _ hp)⟩
theorem hd_len (w:Str):(hd w).length≤w.length:=by
  obtain ⟨a,b⟩:=split_len w 44
  have e:Txt.split w ⟨#[44]⟩=hd w :: tl w:=parts_eq w
  rw [e] at b
  exact b _ List.mem_cons_self
theorem hd_cut {w:Str} (h:oneL (hd w)=true):(hd w).cps.toList=w.cps.toList.take 1:=by
  have e:=(split_glue w 44).2
  have e2:Txt.split w ⟨#[44]⟩=hd w :: tl w:=parts_eq w
  rw [e2,List.map_cons,glueN_cons] at e
  have l:(hd w).cps.toList.length=1:=by
    unfold oneL at h
    rw [Bool.and_eq_true] at h
    rw [cps_len];exact of_decide_eq_true h.2
  rw [← e,List.take_append_of_le_length (by omega),List.take_of_length_le (by omega)]
def RK (w:Str):Prop:=∀ p∈tl w,wrB p=true
def gk (w:Str):GKnot:=(hd w,(tl w).map wrN)
def words (z:Str):List Str:=Txt.split z (Str.ofString " ")
theorem words_len (z:Str):words z≠[]∧(words z).length≤z.length+1∧∀ p∈words z,p.length≤z.length:=⟨(split_glue z 32).1,split_len z 32⟩
def Good (z:Str):Prop:=(words z).length≤60∧∀ k w,(words z)[k]?=some w→RK w∧kB k (gk w)=true
theorem cutV_from {xs:List V} {j:Nat} (h1:j≤xs.length):cutV xs (some (j:Int)) none=xs.drop j:=by
  unfold cutV
  rw [HT.sIx_none,HT.sIx_nat,Nat.min_eq_left h1]
  exact List.take_of_length_le (by rw [List.length_drop];omega)
theorem cut_parts (w:Str):cutV ((parts w).map V.str) (some 1) none=(tl w).map V.str:=by
  have:=cutV_from (xs:=(parts w).map V.str) (j:=1) (by rw [List.length_map,parts_eq,List.length_cons];omega)
  refine this.trans ?_
  rw [parts_eq];rfl
end S83
namespace S83
open PySem L2 W7
structure Ex1 (K:PySem.W.Frag) (mg:Str→Option Value) where
  c_NoText:Addr
  m_NoText:mg "NoText" = some (.ref c_NoText)
  q_NoText:PySem.W.excIn K c_NoText bmV "ValueError.__new__" = true
theorem map_snoc {α β:Type} {f:α→β} {xs:List α} {i:Nat} {x:α} (h:xs[i]?=some x):(xs.take (i+1)).map f=(xs.take i).map f++[f x]:=by
  rw [List.take_succ,h,List.map_append];rfl
theorem all_map (z:List Nat) (f:Nat→Bool):(z.map f).all id=z.all f:=by rw [List.all_map];rfl
section
variable {P:Program} {w:World} {K:PySem.W.Frag} {mg:Str→Option Value} {base:Heap} {k:Nat}
def sp_whole:Sp:=fun vs H Q _=>∃ i:Int,vs=[.int i]∧Q (.bl true) H
theorem has_whole (D:Df K mg "is_whole" s_is_whole) (B:Blt7 mg):Has P w K mg base "is_whole" (k+1) ["thing"] sp_whole:=by
  refine D.has sc_is_whole (fun _ _ _ _ _ _ us hl=>match us,hl with | [_],_=>rfl) (fun vs H Q E h=>by obtain ⟨x,rfl,_⟩:=h;rfl) (fun f cdv A outer s H vs Q E hr h=>?_)
  obtain ⟨i,rfl,q⟩:=h
  refine ⟨_,(pss_one (ps_ret (pe_and (pe_callB call_isinst rfl B.isinstance bt_isinstance (pa_cons (pv 0) (pa_cons (pe_bltn (v:=.ty "int") rfl B.int_ bt_int rfl) pa_nil))) (pe_one (pe_not (pe_callB call_isinst rfl B.isinstance bt_isinstance (pa_cons (pv 0) (pa_cons (pe_bltn (v:=.ty "bool") rfl B.bool_ bt_bool rfl) pa_nil)))))))),?_⟩
  refine ⟨_,rfl,_,.type "int", "int", true,rfl,.int _,kit_same _ _,_,rfl,iteT ?_⟩
  exact ⟨_,rfl,_,.type "int", "bool", false,rfl,.int _,kit_int_bool _,_,rfl,q⟩
def sp_below:Sp:=fun vs H Q _=>∃ i n:Int,vs=[.int i,.int n]∧Q (.bl (decide (0≤i) && decide (i < n))) H
theorem has_below (D:Df K mg "is_number_below" s_is_number_below) (B:Blt7 mg) (G_is_whole:Has P w K mg base "is_whole" k ["thing"] sp_whole):Has P w K mg base "is_number_below" (k+1) ["thing", "behind"] sp_below:=by
  refine D.has sc_is_number_below (fun _ _ _ _ _ _ us hl=>match us,hl with | [_,_],_=>rfl) (fun vs H Q E h=>by obtain ⟨x,y,rfl,_⟩:=h;rfl) (fun f cdv A outer s H vs Q E hr h=>?_)
  obtain ⟨i,n,rfl,q⟩:=h
  refine ⟨_,(pss_one (ps_ret (pe_and (pe_callH G_is_whole hr rfl (pa_cons (pv 0) pa_nil)) (pe_one (pe_chain op_le op_lt pe_int (pv 0) (pv 1)))))),?_⟩
  refine ⟨_,rfl,i,rfl,_,rfl,iteT ?_⟩
  refine ⟨_,rfl,_,_,rfl,rfl,_,rfl,ite2 (fun c=>?_) (fun c=>?_)⟩
  · refine ⟨_,rfl,_,_,rfl,rfl,?_⟩
    rw [c,Bool.true_and] at q
    exact q
  · rw [Bool.eq_false_iff.mpr c,Bool.false_and] at q
    exact q
def sp_letters:Sp:=fun vs H Q _=>∃ z:Str,vs=[.str z]∧z.length≤9000∧∀ H',Same H H'→Q (.bl (z.cps.toList.all lwB)) H'
theorem has_letters (D:Df K mg "is_letters" s_is_letters) (B:Blt7 mg):Has P w K mg base "is_letters" (k+1) ["thing"] sp_letters:=by
  refine D.has sc_is_letters (fun _ _ _ _ _ _ us hl=>match us,hl with | [_],_=>rfl) (fun vs H Q E h=>by obtain ⟨x,rfl,_⟩:=h;rfl) (fun f cdv A outer s H vs Q E hr h=>?_)
  obtain ⟨z,rfl,zl,q⟩:=h
  obtain ⟨u2,h_LETTERS,r_LETTERS⟩:=B.letters
  refine ⟨_,(pss_one (ps_ret (pe_and (pe_callB call_isinst rfl B.isinstance bt_isinstance (pa_cons (pv 0) (pa_cons (pe_bltn (v:=.ty "str") rfl B.str_ bt_str rfl) pa_nil))) (pe_one (pe_callB (call_all rfl) rfl B.all bt_all (pa_cons (pe_comp rfl (pi_str (pv 0)) (NL:=["sign"]) (ix:=[]) (csc (defScope s_is_letters) N_is_letters) (fun cl C s₃ H₃ fp pins=>⟨(pg_name (i:=0) (show List.Nodup (["sign"]:List Str) from by decide +kernel) rfl (by first | exact Or.inl rfl | exact Or.inr rfl)),pifs_nil,(pe_cmpR op_in_str (pv 0) (pe_glob (v:=.str "abcdefghijklmnopqrstuvwxyz") rfl h_LETTERS r_LETTERS) (by with_unfolding_all rfl))⟩)) pa_nil)))))),?_⟩
  refine ⟨_,rfl,_,_,_,true,rfl,.str _,kit_same _ _,_,rfl,iteT ?_⟩
  have zs:z.cps.size≤9000:=zl
  refine ⟨_,rfl,_,rfl,fun a1 ha1=>?_⟩
  refine comp_str (by omega) (fun i ys HX=>HX a1=some (.lst ys)∧Same H HX∧ys=((z.cps.toList.take i).map lwB).map V.bl)
    (fun i ys HX h=>⟨h.1,by rw [h.2.2,List.length_map,List.length_map,List.length_take];omega⟩) ⟨upd_same,(Same.refl H).new ha1,rfl⟩ ?_ ?_
  rotate_left
  · rintro i c ys HX hc ⟨g1,g2,rfl⟩
    rw [← Array.getElem?_toList] at hc
    refine ⟨rfl,_,rfl,_,_,rfl,rfl,?_⟩
    rw [in_abc c]
    exact ⟨g1,upd_same,g2.write ha1,by rw [map_snoc hc,List.map_append];rfl⟩
  rintro ys H1 ⟨g1,s1,rfl⟩
  refine ⟨a1,_,rfl,SqL.of g1,?_⟩
  rw [show z.cps.toList.take z.cps.size=z.cps.toList from List.take_of_length_le (by simp),all_map]
  exact q _ s1
def sp_figs:Sp:=fun vs H Q _=>∃ z:Str,vs=[.str z]∧z.length≤9000∧∀ H',Same H H'→Q (.bl (figN z)) H'
theorem has_figs (D:Df K mg "is_figures" s_is_figures) (B:Blt7 mg):Has P w K mg base "is_figures" (k+1) ["thing"] sp_figs:=by
  refine D.has sc_is_figures (fun _ _ _ _ _ _ us hl=>match us,hl with | [_],_=>rfl) (fun vs H Q E h=>by obtain ⟨x,rfl,_⟩:=h;rfl) (fun f cdv A outer s H vs Q E hr h=>?_)
  obtain ⟨z,rfl,zl,q⟩:=h
  obtain ⟨u2,h_FIGURES,r_FIGURES⟩:=B.figures
  refine ⟨_,(pss_one (ps_ret (pe_and (pe_callB call_isinst rfl B.isinstance bt_isinstance (pa_cons (pv 0) (pa_cons (pe_bltn (v:=.ty "str") rfl B.str_ bt_str rfl) pa_nil))) (pe_and (pe_cmpR op_ne (pv 0) pe_str (nomark _)) (pe_one (pe_callB (call_all rfl) rfl B.all bt_all (pa_cons (pe_comp rfl (pi_str (pv 0)) (NL:=["sign"]) (ix:=[]) (csc (defScope s_is_figures) N_is_figures) (fun cl C s₃ H₃ fp pins=>⟨(pg_name (i:=0) (show List.Nodup (["sign"]:List Str) from by decide +kernel) rfl (by first | exact Or.inl rfl | exact Or.inr rfl)),pifs_nil,(pe_cmpR op_in_str (pv 0) (pe_glob (v:=.str "0123456789") rfl h_FIGURES r_FIGURES) (by with_unfolding_all rfl))⟩)) pa_nil))))))),?_⟩
  refine ⟨_,rfl,_,_,_,true,rfl,.str _,kit_same _ _,_,rfl,iteT ?_⟩
  have zs:z.cps.size≤9000:=zl
  by_cases zn:V.str z=V.str (Str.ofString "")
  · refine ⟨_,rfl,rfl,_,rfl,?_⟩
    refine iteN (by rw [decide_eq_true zn];rfl) ?_
    have:=q H (Same.refl H)
    unfold figN at this
    rw [decide_eq_false (fun h=>h zn),Bool.false_and] at this
    exact this
  refine ⟨_,rfl,rfl,_,rfl,?_⟩
  rw [decide_eq_false zn]
  refine iteT ?_
  refine ⟨_,rfl,_,rfl,fun a1 ha1=>?_⟩
  refine comp_str (by omega) (fun i ys HX=>HX a1=some (.lst ys)∧Same H HX∧ys=((z.cps.toList.take i).map fgB).map V.bl)
    (fun i ys HX h=>⟨h.1,by rw [h.2.2,List.length_map,List.length_map,List.length_take];omega⟩) ⟨upd_same,(Same.refl H).new ha1,rfl⟩ ?_ ?_
  rotate_left
  · rintro i c ys HX hc ⟨g1,g2,rfl⟩
    rw [← Array.getElem?_toList] at hc
    refine ⟨rfl,_,rfl,_,_,rfl,rfl,?_⟩
    rw [in_fig c]
    exact ⟨g1,upd_same,g2.write ha1,by rw [map_snoc hc,List.map_append];rfl⟩
  rintro ys H1 ⟨g1,s1,rfl⟩
  refine ⟨a1,_,rfl,SqL.of g1,?_⟩
  rw [show z.cps.toList.take z.cps.size=z.cps.toList from List.take_of_length_le (by simp),all_map]
  have:=q H1 s1
  unfold figN at this
  rw [decide_eq_true zn,Bool.true_and] at this
  exact this
def sp_letter:Sp:=fun vs H Q _=>∃ z:Str,vs=[.str z]∧z.length≤9000∧∀ H',Same H H'→Q (.bl (oneL z)) H'
theorem has_letter (D:Df K mg "is_letter" s_is_letter) (B:Blt7 mg) (G_is_letters:Has P w K mg base "is_letters" k ["thing"] sp_letters):Has P w K mg base "is_letter" (k+1) ["thing"] sp_letter:=by
  refine D.has sc_is_letter (fun _ _ _ _ _ _ us hl=>match us,hl with | [_],_=>rfl) (fun vs H Q E h=>by obtain ⟨x,rfl,_⟩:=h;rfl) (fun f cdv A outer s H vs Q E hr h=>?_)
  obtain ⟨z,rfl,zl,q⟩:=h
  refine ⟨_,(pss_one (ps_ret (pe_and (pe_callH G_is_letters hr rfl (pa_cons (pv 0) pa_nil)) (pe_one (pe_cmpR op_eq (pe_callB call_len_str rfl B.len bt_len (pa_cons (pv 0) pa_nil)) pe_int (nomark _)))))),?_⟩
  refine ⟨_,rfl,z,rfl,zl,fun H1 s1=>⟨_,rfl,ite2 (fun c=>?_) (fun c=>?_)⟩⟩
  · refine ⟨_,rfl,_,rfl,line_le (by omega),rfl,?_⟩
    have:=q H1 s1
    unfold oneL at this
    rw [c,Bool.true_and] at this
    refine bq2 ?_ this
    by_cases e:z.length=1
    · rw [decide_eq_true e,e];rfl
    · rw [decide_eq_false e];exact decide_eq_false fun q=>e (by injection q with q;omega)
  · have:=q H1 s1
    unfold oneL at this
    rw [Bool.eq_false_iff.mpr c,Bool.false_and] at this
    exact this
def sp_written:Sp:=fun vs H Q _=>∃ z:Str,vs=[.str z,.int 2]∧z.length≤9000∧∀ H',Same H H'→Q (.bl (wrB z)) H'
theorem has_written (D:Df K mg "is_written_number" s_is_written_number) (B:Blt7 mg) (G_is_figures:Has P w K mg base "is_figures" k ["thing"] sp_figs):Has P w K mg base "is_written_number" (k+1) ["thing", "most"] sp_written:=by
  refine D.has sc_is_written_number (fun _ _ _ _ _ _ us hl=>match us,hl with | [_,_],_=>rfl) (fun vs H Q E h=>by obtain ⟨x,rfl,_⟩:=h;rfl) (fun f cdv A outer s H vs Q E hr h=>?_)
  obtain ⟨z,rfl,zl,q⟩:=h
  refine ⟨_,(pss_one (ps_ret (pe_and (pe_callH G_is_figures hr rfl (pa_cons (pv 0) pa_nil)) (pe_and (pe_cmpR op_le (pe_callB call_len_str rfl B.len bt_len (pa_cons (pv 0) pa_nil)) (pv 1) (nomark _)) (pe_one (pe_or (pe_cmpR op_eq (pv 0) pe_str (nomark _)) (pe_one (pe_cmpR op_ne (pe_ix ix_str (pv 0) pe_int (fun _ _=>rfl)) pe_str (nomark _))))))))),?_⟩
  refine ⟨_,rfl,z,rfl,zl,fun H1 s1=>⟨_,rfl,ite2 (fun c=>?_) (fun c=>?_)⟩⟩
  rotate_left
  · have:=q H1 s1
    unfold wrB at this
    rw [Bool.eq_false_iff.mpr c,Bool.false_and] at this
    exact this
  have q1:=q H1 s1
  unfold wrB at q1
  rw [c,Bool.true_and] at q1
  have ne:=fig_ne c
  have zp:0 < z.cps.toList.length:=List.length_pos_iff.mpr ne
  refine ⟨_,rfl,_,rfl,line_le (by omega),_,rfl,_,_,rfl,rfl,_,rfl,ite2 (fun c2=>?_) (fun c2=>?_)⟩
  rotate_left
  · rw [Bool.eq_false_iff.mpr c2,Bool.false_and] at q1
    exact q1
  rw [c2,Bool.true_and] at q1
  unfold zeroOk at q1
  refine ⟨_,rfl,rfl,_,rfl,ite2 (fun c3=>?_) (fun c3=>?_)⟩
  · rw [c3,Bool.true_or] at q1
    exact q1
  · rw [Bool.eq_false_iff.mpr c3,Bool.false_or] at q1
    refine ⟨_,rfl,_,_,_,rfl,rfl,line_le (by omega),atI_nat (j:=0) (v:=z.cps.toList.getD 0 0) (by rw [List.getD_eq_getElem?_getD,List.getElem?_eq_getElem zp];rfl),rfl,?_⟩
    refine bq2 ?_ q1
    simp
def sp_knot:Sp:=fun vs H Q _=>∃ (a:Addr) (kn:GKnot) (k:Nat),vs=[.ref a,.int (k:Int)]∧GK H a kn∧kn.1.length≤9000∧∀ H',Same H H'→Q (.bl (kB k kn)) H'
theorem has_knot (D:Df K mg "is_knot" s_is_knot) (B:Blt7 mg) (G_is_letter:Has P w K mg base "is_letter" k ["thing"] sp_letter) (G_is_number_below:Has P w K mg base "is_number_below" k ["thing", "behind"] sp_below):Has P w K mg base "is_knot" (k+1) ["thing", "number"] sp_knot:=by
  refine D.has sc_is_knot (fun _ _ _ _ _ _ us hl=>match us,hl with | [_,_],_=>rfl) (fun vs H Q E h=>by obtain ⟨a,kn,k,rfl,_⟩:=h;rfl) (fun f cdv A outer s H vs Q E hr h=>?_)
  obtain ⟨a,⟨c,ns⟩,kk,rfl,⟨b,ha,hb⟩,cl,q⟩:=h
  obtain ⟨u3,h_MOST_BENEATH,r_MOST_BENEATH⟩:=B.beneath
  refine ⟨_,(pss_cons (ps_if (PW.pt (pw_or (pt_not (pt_val (pe_callB call_isinst rfl B.isinstance bt_isinstance (pa_cons (pv 0) (pa_cons (pe_bltn (v:=.ty "tuple") rfl B.tuple_ bt_tuple rfl) pa_nil))))) (pw_or (pt_cmpR op_ne (pe_callB call_len_seq rfl B.len bt_len (pa_cons (pv 0) pa_nil)) pe_int (nomark _)) (pw_or1 (pt_not (pt_val (pe_callH G_is_letter hr rfl (pa_cons (pe_ix ix_tup (pv 0) pe_int (fun _ _=>rfl)) pa_nil))))))))
  (pss_one (ps_ret pe_bl))
  pss_nil)
  (pss_cons (ps_if (PW.pt (pw_or (pt_not (pt_val (pe_callB call_isinst rfl B.isinstance bt_isinstance (pa_cons (pe_ix ix_tup (pv 0) pe_int (fun _ _=>rfl)) (pa_cons (pe_bltn (v:=.ty "tuple") rfl B.tuple_ bt_tuple rfl) pa_nil))))) (pw_or1 (pt_cmpR op_gt (pe_callB call_len_seq rfl B.len bt_len (pa_cons (pe_ix ix_tup (pv 0) pe_int (fun _ _=>rfl)) pa_nil)) (pe_glob (v:=.int 60) rfl h_MOST_BENEATH r_MOST_BENEATH) (nomark _)))))
  (pss_one (ps_ret pe_bl))
  pss_nil)
  (pss_one (ps_ret (pe_callB (call_all rfl) rfl B.all bt_all (pa_cons (pe_comp rfl (pi_tup (pe_ix ix_tup (pv 0) pe_int (fun _ _=>rfl))) (NL:=["part"]) (ix:=[1]) (csc (defScope s_is_knot) N_is_knot) (fun cl C s₃ H₃ fp pins=>⟨(pg_name (i:=0) (show List.Nodup (["part", "number"]:List Str) from by decide +kernel) rfl (by first | exact Or.inl rfl | exact Or.inr rfl)),pifs_nil,(pe_callH G_is_number_below hr rfl (pa_cons (pv 0) (pa_cons (pv 1) pa_nil)))⟩)) pa_nil)))))),?_⟩
  refine ⟨_,rfl,_,_,_,true,rfl,.tup ha,kit_same _ _,_,rfl,iteF ?_⟩
  refine ⟨_,rfl,a,_,rfl,.inr (SqT.of ha),rfl,_,rfl,iteF ?_⟩
  refine ⟨_,rfl,a,_,_,_,rfl,rfl,SqT.of ha,rfl,c,rfl,cl,fun H1 s1=>⟨_,rfl,?_⟩⟩
  have ha1:=s1 _ _ ha
  have hb1:=s1 _ _ hb
  cases o:oneL c with
  | false=>
    refine iteT ?_
    refine bq2 ?_ (q H1 s1)
    unfold kB
    rw [o];rfl
  | true=>
  refine iteF ?_
  refine ⟨_,rfl,a,_,_,_,rfl,rfl,SqT.of ha1,rfl,_,_,_,true,rfl,.tup hb1,kit_same _ _,_,rfl,iteF ?_⟩
  refine ⟨_,rfl,a,_,_,_,rfl,rfl,SqT.of ha1,rfl,b,_,rfl,.inr (SqT.of hb1),_,_,rfl,rfl,_,rfl,?_⟩
  rw [List.length_map]
  dsimp only
  by_cases few:ns.length≤60
  rotate_left
  · refine iteB (decide_eq_true (by show _ > _;omega)) ?_
    refine bq2 ?_ (q H1 s1)
    unfold kB
    rw [decide_eq_false few,Bool.false_and,Bool.and_false]
  refine iteN (decide_eq_false (by show ¬ _;omega)) ?_
  refine ⟨_,rfl,a,_,_,_,rfl,rfl,SqT.of ha1,rfl,b,rfl,⟨_,SqT.of hb1⟩,fun a1 ha1'=>?_⟩
  refine comp_tupl (K:=K) (a:=b) (xs:=ns.map V.int) (by rw [List.length_map];omega) (fun i ys HX=>HX a1=some (.lst ys)∧Same H1 HX∧ys=((ns.take i).map fun n=>decide (0≤n) && decide (n < (kk:Int))).map V.bl)
    (fun i ys HX h=>SqT.of (h.2.1 _ _ hb1)) (fun i ys HX h=>⟨h.1,by rw [h.2.2,List.length_map,List.length_map,List.length_take];omega⟩) ⟨upd_same,(Same.refl H1).new ha1',rfl⟩ ?_ ?_
  rotate_left
  · rintro i x ys HX hx ⟨g1,g2,rfl⟩
    rw [List.getElem?_map] at hx
    cases e1:ns[i]? with
    | none=>rw [e1] at hx;cases hx
    | some n=>
      rw [e1] at hx
      cases hx
      exact ⟨rfl,_,rfl,_,rfl,n,_,rfl,g1,upd_same,g2.write ha1',by rw [map_snoc e1,List.map_append];rfl⟩
  rintro ys H2 ⟨g1,s2,rfl⟩
  refine ⟨a1,_,rfl,SqL.of g1,?_⟩
  rw [List.length_map,List.take_length,List.all_map]
  refine bq2 ?_ (q _ (s1.trans s2))
  unfold kB
  rw [o,decide_eq_true few];rfl
def sp_isnet:Sp:=fun vs H Q _=>∃ (t:Addr) (net:List GKnot),vs=[.ref t]∧NetG H t net∧1≤net.length∧(∀ kn∈net,kn.1.length≤9000)∧∀ (b:Bool) (H':Hp),(b=true ↔ GoodN net)→Same H H'→Q (.bl b) H'
theorem has_isnet (D:Df K mg "is_net" s_is_net) (B:Blt7 mg) (G_is_knot:Has P w K mg base "is_knot" k ["thing", "number"] sp_knot):Has P w K mg base "is_net" (k+1) ["thing"] sp_isnet:=by
  refine D.has sc_is_net (fun _ _ _ _ _ _ us hl=>match us,hl with | [_],_=>rfl) (fun vs H Q E h=>by obtain ⟨a,kn,rfl,_⟩:=h;rfl) (fun f cdv A outer s H vs Q E hr h=>?_)
  obtain ⟨t,net,rfl,⟨as,ht,kns⟩,pos,kl,q⟩:=h
  obtain ⟨u3,h_MOST_KNOTS,r_MOST_KNOTS⟩:=B.knots
  have al:=kns.1
  refine ⟨_,(pss_cons (ps_if (PW.pt (pw_or (pt_not (pt_val (pe_callB call_isinst rfl B.isinstance bt_isinstance (pa_cons (pv 0) (pa_cons (pe_bltn (v:=.ty "tuple") rfl B.tuple_ bt_tuple rfl) pa_nil))))) (pw_or1 (pt_not (pt_chain op_le op_le pe_int (pe_callB call_len_seq rfl B.len bt_len (pa_cons (pv 0) pa_nil)) (pe_glob (v:=.int 60) rfl h_MOST_KNOTS r_MOST_KNOTS))))))
  (pss_one (ps_ret pe_bl))
  pss_nil)
  (pss_one (ps_ret (pe_callB (call_all rfl) rfl B.all bt_all (pa_cons (pe_comp rfl (pi_enum rfl B.enumerate (pa_cons (pv 0) pa_nil)) (NL:=["number", "part"]) (ix:=[]) (csc (defScope s_is_net) N_is_net) (fun cl C s₃ H₃ fp pins=>⟨(pg_tupK K (n:=2) rfl (pgs_cons (pg_name (i:=0) (show List.Nodup (["number", "part"]:List Str) from by decide +kernel) rfl (by first | exact Or.inl rfl | exact Or.inr rfl)) (pgs_cons (pg_name (i:=1) (show List.Nodup (["number", "part"]:List Str) from by decide +kernel) rfl (by first | exact Or.inl rfl | exact Or.inr rfl)) pgs_nil))),pifs_nil,(pe_callH G_is_knot hr rfl (pa_cons (pv 1) (pa_cons (pv 0) pa_nil)))⟩)) pa_nil))))),?_⟩
  refine ⟨_,rfl,_,_,_,true,rfl,.tup ht,kit_same _ _,_,rfl,iteF ?_⟩
  refine ⟨_,rfl,t,_,rfl,.inr (SqT.of ht),_,_,rfl,rfl,_,rfl,?_⟩
  rw [List.length_map]
  refine iteB (decide_eq_true (by show (1:Int)≤(as.length:Int);omega)) ?_
  refine ⟨_,_,rfl,rfl,_,rfl,?_⟩
  by_cases m60:net.length≤60
  rotate_left
  · rw [decide_eq_false (show ¬ (as.length:Int)≤60 by omega)]
    exact iteT (q false H ⟨fun e=>(Bool.false_ne_true e).elim,fun g=>absurd g.1 m60⟩ (Same.refl H))
  rw [decide_eq_true (show (as.length:Int)≤60 by omega)]
  refine iteF ?_
  refine ⟨_,rfl,.tup t,rfl,⟨_,.inl ht⟩,fun acc hacc=>?_⟩
  refine comp_enum (xs:=as.map V.ref) (by rw [List.length_map];omega) (fun i ys HX=>HX acc=some (.lst ys)∧Same H HX∧∃ bs:List Bool,ys=bs.map V.bl∧bs.length=i∧(bs.all id=true ↔ ∀ k kn,k < i→net[k]?=some kn→kB k kn=true))
    (fun i ys HX h=>.inl (h.2.1 _ _ ht)) (fun i ys HX h=>⟨h.1,by obtain ⟨bs,e,l,_⟩:=h.2.2;rw [e,List.length_map];omega⟩) ⟨upd_same,(Same.refl H).new hacc,[],rfl,rfl,⟨fun _ k kn hk=>absurd hk (by omega),fun _=>rfl⟩⟩ ?_ ?_
  · rintro ys H2 ⟨g1,s2,bs,rfl,bl,iff⟩
    refine ⟨acc,_,rfl,SqL.of g1,?_⟩
    refine q _ _ ⟨fun h=>⟨m60,fun k kn e=>iff.mp h k kn ?_ e⟩,fun g=>iff.mpr fun k kn _ e=>g.2 k kn e⟩ s2
    rw [List.length_map,al]
    exact (List.getElem?_eq_some_iff.mp e).1
  · rintro i x ys HX pp hx ⟨g1,g2,bs,rfl,bl,iff⟩ hpp
    rw [List.getElem?_map] at hx
    cases e1:as[i]? with
    | none=>rw [e1] at hx;cases hx
    | some a=>
      rw [e1] at hx
      cases hx
      have il:i < net.length:=by rw [← al];exact (List.getElem?_eq_some_iff.mp e1).1
      have e2:net[i]?=some net[i]:=List.getElem?_eq_getElem il
      have ka:=kns.2 i a _ e1 e2
      have sP:Same HX (upd HX pp (.tup [.int (i:Int),.ref a])):=(Same.refl HX).new hpp
      refine ⟨pp,_,rfl,SqT.of upd_same,rfl,_,_,rfl,_,_,rfl,rfl,?_⟩
      generalize upd HX pp (.tup [.int (i:Int),.ref a])=HP at sP
      refine ⟨rfl,_,rfl,_,rfl,a,net[i],i,rfl,ka.tups (fun a xs e=>(g2.trans sP) _ _ e),kl _ (List.getElem_mem il),fun H3 s3=>?_⟩
      refine ⟨s3 _ _ (sP _ _ g1),upd_same,((g2.trans sP).trans s3).write hacc,bs++[kB i net[i]],by rw [List.map_append];rfl,by rw [List.length_append,bl];rfl,?_⟩
      rw [List.all_append,Bool.and_eq_true,iff]
      constructor
      · rintro ⟨h1,h2⟩ k kn hk e
        rcases Nat.lt_or_ge k i with lt | ge
        · exact h1 k kn lt e
        · obtain rfl:k=i:=by omega
          rw [e2] at e;cases e
          simpa using h2
      · intro h
        exact ⟨fun k kn hk e=>h k kn (by omega) e,by have:=h i _ (by omega) e2;simpa using this⟩
def sp_readk (cT:Addr):Sp:=fun vs H Q E=>∃ z:Str,vs=[.str z]∧z.length≤9000∧(RK z→∀ (a:Addr) (H':Hp),Same H H'→GK H' a (gk z)→Q (.ref a) H')∧(¬ RK z→∀ (a:Addr) (H':Hp),Same H H'→H' a=none→E (.ref a) (some cT) H')
theorem has_readk (EX:Ex1 K mg) (D:Df K mg "read_knot" s_read_knot) (B:Blt7 mg) (G_is_written_number:Has P w K mg base "is_written_number" k ["thing", "most"] sp_written):HasX P w K mg base "read_knot" (k+1) ["text"] (sp_readk EX.c_NoText):=by
  refine D.hasX sc_read_knot (fun _ _ _ _ _ _ us hl=>match us,hl with | [_],_=>rfl) (fun vs H Q E h=>by obtain ⟨kn,rfl,_⟩:=h;rfl) (fun f cdv A outer s H vs Q E hr h=>?_)
  obtain ⟨z,rfl,zl,q1,q2⟩:=h
  obtain ⟨u3,h_MOST_FIGURES,r_MOST_FIGURES⟩:=B.mostf
  refine ⟨_,(pss_cons (ps_set (i:=1) sc_read_knot.nd rfl (by first | exact Or.inl rfl | exact Or.inr rfl) (pe_bm PySem.F.plainAttrs_str PySem.F.slot_str_split PySem.F.type_str_split mt_split (pv 0) (pa_cons pe_str pa_nil)))
  (pss_cons (ps_if (pt_not (pt_val (pe_callB (call_all rfl) rfl B.all bt_all (pa_cons (pe_comp rfl (pi_list (pe_slice sl_list (pv 1) (po_some pe_int) po_none)) (NL:=["part"]) (ix:=[]) (csc (defScope s_read_knot) N_read_knot) (fun cl C s₃ H₃ fp pins=>⟨(pg_name (i:=0) (show List.Nodup (["part"]:List Str) from by decide +kernel) rfl (by first | exact Or.inl rfl | exact Or.inr rfl)),pifs_nil,(pe_callH G_is_written_number hr rfl (pa_cons (pv 0) (pa_cons (pe_glob (v:=.int 2) rfl h_MOST_FIGURES r_MOST_FIGURES) pa_nil)))⟩)) pa_nil))))
  (pss_one (ps_raise raises_cx EX.m_NoText EX.q_NoText rfl (pa_cons pe_str pa_nil)))
  pss_nil)
  (pss_one (ps_ret (pe_tup (pa_cons (pe_ix ix_list (pv 1) pe_int (fun _ _=>rfl)) (pa_cons (pe_callTy call_tuple_of rfl B.tuple_ bt_tuple (pa_cons (pe_comp rfl (pi_list (pe_slice sl_list (pv 1) (po_some pe_int) po_none)) (NL:=["part"]) (ix:=[]) (csc (defScope s_read_knot) N_read_knot) (fun cl C s₃ H₃ fp pins=>⟨(pg_name (i:=0) (show List.Nodup (["part"]:List Str) from by decide +kernel) rfl (by first | exact Or.inl rfl | exact Or.inr rfl)),pifs_nil,(pe_callTy call_intT rfl B.int_ bt_int (pa_cons (pv 0) pa_nil))⟩)) pa_nil)) pa_nil))))))),?_⟩
  obtain ⟨nl,pl⟩:=tl_len z
  refine ⟨_,rfl,rfl,_,_,rfl,rfl,rfl,line_le (by omega),fun l hl=>?_⟩
  have s1:Same H (upd H l (.lst ((parts z).map V.str))):=(Same.refl H).new hl
  have h1:upd H l (.lst ((parts z).map V.str)) l=some (.lst ((parts z).map V.str)):=upd_same
  show (fun HH=>_) (upd H l (.lst ((parts z).map V.str)))
  generalize upd H l (.lst ((parts z).map V.str))=H1 at s1 h1
  refine ⟨_,rfl,_,rfl,l,_,rfl,SqL.of h1,fun r hr0=>?_⟩
  rw [cut_parts]
  have s2:Same H1 (upd H1 r (.lst ((tl z).map V.str))):=(Same.refl H1).new hr0
  have h2:upd H1 r (.lst ((tl z).map V.str)) r=some (.lst ((tl z).map V.str)):=upd_same
  generalize upd H1 r (.lst ((tl z).map V.str))=H2 at s2 h2
  refine ⟨r,rfl,⟨_,SqL.of h2⟩,fun acc hacc=>?_⟩
  refine comp_lstB (K:=K) (a:=r) (xs:=(tl z).map V.str) (by rw [List.length_map];omega) (fun i ys HX=>HX acc=some (.lst ys)∧Same H2 HX∧ys=(((tl z).take i).map wrB).map V.bl)
    (fun i ys HX h=>SqL.of (h.2.1 _ _ h2)) (fun i ys HX h=>⟨h.1,by rw [h.2.2,List.length_map,List.length_map,List.length_take];omega⟩) ⟨upd_same,(Same.refl H2).new hacc,rfl⟩ ?_ ?_
  rotate_left
  · rintro i x ys HX hx ⟨g1,g2,rfl⟩
    rw [List.getElem?_map] at hx
    cases e1:(tl z)[i]? with
    | none=>rw [e1] at hx;cases hx
    | some p=>
      rw [e1] at hx
      cases hx
      refine ⟨rfl,_,rfl,p,rfl,by have:=pl p (List.mem_of_getElem? e1);omega,fun H3 s3=>?_⟩
      exact ⟨s3 _ _ g1,upd_same,(g2.trans s3).write hacc,by rw [map_snoc e1,List.map_append];rfl⟩
  rintro ys H3 ⟨g1,s3,rfl⟩
  rw [List.length_map,List.take_length] at g1
  refine ⟨acc,_,rfl,SqL.of g1,_,rfl,?_⟩
  rw [List.all_map]
  have iff:((tl z).all (id ∘ wrB)=true) ↔ RK z:=List.all_eq_true
  by_cases rk:RK z
  rotate_left
  · have:(tl z).all (id ∘ wrB)=false:=Bool.eq_false_iff.mpr fun h=>rk (iff.mp h)
    rw [this]
    refine iteT ?_
    exact ⟨by show 1≤sizeLine;decide,fun a ha=>q2 rk a H3 ((s1.trans s2).trans s3) ha⟩
  rw [iff.mpr rk]
  refine iteF ?_
  have h13:=s3 _ _ (s2 _ _ h1)
  have hat:atI ((parts z).map V.str) 0=some (.str (hd z)):=atI_nat (xs:=(parts z).map V.str) (j:=0) (by rw [parts_eq];rfl)
  refine ⟨_,rfl,l,_,_,_,rfl,rfl,SqL.of h13,hat,_,rfl,_,rfl,l,_,rfl,SqL.of h13,fun r2 hr2=>?_⟩
  rw [cut_parts]
  have s4:Same H3 (upd H3 r2 (.lst ((tl z).map V.str))):=(Same.refl H3).new hr2
  have h4:upd H3 r2 (.lst ((tl z).map V.str)) r2=some (.lst ((tl z).map V.str)):=upd_same
  generalize upd H3 r2 (.lst ((tl z).map V.str))=H4 at s4 h4
  refine ⟨r2,rfl,⟨_,SqL.of h4⟩,fun ac2 hac2=>?_⟩
  refine comp_lstB (K:=K) (a:=r2) (xs:=(tl z).map V.str) (by rw [List.length_map];omega) (fun i ys HX=>HX ac2=some (.lst ys)∧Same H4 HX∧ys=(((tl z).take i).map wrN).map V.int)
    (fun i ys HX h=>SqL.of (h.2.1 _ _ h4)) (fun i ys HX h=>⟨h.1,by rw [h.2.2,List.length_map,List.length_map,List.length_take];omega⟩) ⟨upd_same,(Same.refl H4).new hac2,rfl⟩ ?_ ?_
  rotate_left
  · rintro i x ys HX hx ⟨g1,g2,rfl⟩
    rw [List.getElem?_map] at hx
    cases e1:(tl z)[i]? with
    | none=>rw [e1] at hx;cases hx
    | some p=>
      rw [e1] at hx
      cases hx
      have wp:=rk p (List.mem_of_getElem? e1)
      unfold wrB at wp
      simp only [Bool.and_eq_true,decide_eq_true_eq] at wp
      have nf:=wr_facts wp.1 wp.2.1
      refine ⟨rfl,_,rfl,p,wrN p,rfl,nf.1,by omega,g1,upd_same,g2.write hac2,?_⟩
      rw [map_snoc e1,List.map_append];rfl
  rintro ys H5 ⟨g1',s5,rfl⟩
  rw [List.length_map,List.take_length] at g1'
  refine ⟨ac2,_,rfl,.inl ⟨SqL.of g1',fun b hb=>?_⟩⟩
  have s6:Same H5 (upd H5 b (.tup (((tl z).map wrN).map V.int))):=(Same.refl H5).new hb
  have h6:upd H5 b (.tup (((tl z).map wrN).map V.int)) b=some (.tup (((tl z).map wrN).map V.int)):=upd_same
  show (fun H6=>_) (upd H5 b (.tup (((tl z).map wrN).map V.int)))
  generalize upd H5 b (.tup (((tl z).map wrN).map V.int))=H6 at s6 h6
  refine ⟨by show 2≤sizeLine;decide,fun a ha=>?_⟩
  have s7:Same H6 (upd H6 a (.tup [.str (hd z),.ref b])):=(Same.refl H6).new ha
  exact q1 rk a _ ((((((s1.trans s2).trans s3).trans s4).trans s5).trans s6).trans s7) ⟨b,upd_same,s7 _ _ h6⟩
inductive NoStr (H:Hp):V→Prop
  | non:NoStr H .non
  | bl (b:Bool):NoStr H (.bl b)
  | int (i:Int):NoStr H (.int i)
  | lst {a:Addr} {xs:List V} (e:H a=some (.lst xs)):NoStr H (.ref a)
  | tup {a:Addr} {xs:List V} (e:H a=some (.tup xs)):NoStr H (.ref a)
  | dct {a:Addr} {kvs:List (Key × V)} (e:H a=some (.dK kvs)):NoStr H (.ref a)
theorem NoStr.same {H H':Hp} {x:V} (h:NoStr H x) (s:Same H H'):NoStr H' x:=by
  cases h with
  | non=>exact .non
  | bl b=>exact .bl b
  | int i=>exact .int i
  | lst e=>exact .lst (s _ _ e)
  | tup e=>exact .tup (s _ _ e)
  | dct e=>exact .dct (s _ _ e)
theorem NoStr.ne {H:Hp} {x:V} (h:NoStr H x) (z:Str):x≠.str z:=by cases h <;> (intro e;cases e)
theorem kit_none_str (K:PySem.W.Frag):PySem.W.kitOne K (.type "NoneType") (.type "str")=some false:=by rfl
theorem kit_bool_str (K:PySem.W.Frag):PySem.W.kitOne K (.type "bool") (.type "str")=some false:=by rfl
theorem kit_int_str (K:PySem.W.Frag):PySem.W.kitOne K (.type "int") (.type "str")=some false:=by rfl
theorem kit_list_str (K:PySem.W.Frag):PySem.W.kitOne K (.type "list") (.type "str")=some false:=by rfl
theorem kit_tuple_str (K:PySem.W.Frag):PySem.W.kitOne K (.type "tuple") (.type "str")=some false:=by rfl
theorem kit_dict_str (K:PySem.W.Frag):PySem.W.kitOne K (.type "dict") (.type "str")=some false:=by rfl
def sp_readn (cT:Addr):Sp:=fun vs H Q E=>∃ x:V,vs=[x]∧((∃ z,x=.str z∧z.length≤9000)∨NoStr H x)∧(∀ z,x=.str z→Good z→∀ (t:Addr) (H':Hp),Same H H'→NetG H' t ((words z).map gk)→Q (.ref t) H')∧((∀ z,x=.str z→¬ Good z)→∀ (a:Addr) (H':Hp),Same H H'→H' a=none→E (.ref a) (some cT) H')
theorem has_readn (EX:Ex1 K mg) (D:Df K mg "read_net" s_read_net) (B:Blt7 mg) (G_read_knot:HasX P w K mg base "read_knot" k ["text"] (sp_readk EX.c_NoText)) (G_is_net:Has P w K mg base "is_net" k ["thing"] sp_isnet):HasX P w K mg base "read_net" (k+1) ["text"] (sp_readn EX.c_NoText):=by
  refine D.hasX sc_read_net (fun _ _ _ _ _ _ us hl=>match us,hl with | [_],_=>rfl) (fun vs H Q E h=>by obtain ⟨kn,rfl,_⟩:=h;rfl) (fun f cdv A outer s H vs Q E hr h=>?_)
  obtain ⟨x,rfl,xx,q1,q2⟩:=h
  refine ⟨_,(pss_cons (ps_if (pt_not (pt_val (pe_callB call_isinst rfl B.isinstance bt_isinstance (pa_cons (pv 0) (pa_cons (pe_bltn (v:=.ty "str") rfl B.str_ bt_str rfl) pa_nil)))))
  (pss_one (ps_raise raises_cx EX.m_NoText EX.q_NoText rfl (pa_cons pe_str pa_nil)))
  pss_nil)
  (pss_cons (ps_set (i:=1) sc_read_net.nd rfl (by first | exact Or.inl rfl | exact Or.inr rfl) (pe_callTy call_tuple_of rfl B.tuple_ bt_tuple (pa_cons (pe_compX held_cx rfl (pi_list (pe_bm PySem.F.plainAttrs_str PySem.F.slot_str_split PySem.F.type_str_split mt_split (pv 0) (pa_cons pe_str pa_nil))) (NL:=["part"]) (ix:=[]) (csc (defScope s_read_net) N_read_net) (by decide +kernel) (fun cl C s₃ H₃ fp pins xe hxc=>⟨(pg_name (i:=0) (show List.Nodup (["part"]:List Str) from by decide +kernel) rfl (by first | exact Or.inl rfl | exact Or.inr rfl)),pifs_nil,(pe_callE G_read_knot hxc hr rfl (pa_cons (pv 0) pa_nil))⟩)) pa_nil)))
  (pss_cons (ps_if (pt_not (pt_val (pe_callH G_is_net hr rfl (pa_cons (pv 1) pa_nil))))
  (pss_one (ps_raise raises_cx EX.m_NoText EX.q_NoText rfl (pa_cons pe_str pa_nil)))
  pss_nil)
  (pss_one (ps_ret (pv 1)))))),?_⟩
  rcases xx with ⟨z,rfl,zl⟩ | ns
  rotate_left
  · have out:=q2 (fun z e=>absurd e (ns.ne z))
    cases ns with
    | non=>exact ⟨_,rfl,_,_, "str", false,rfl,.non,kit_none_str _,_,rfl,iteT ⟨by show 1≤sizeLine;decide,fun a ha=>out a H (Same.refl H) ha⟩⟩
    | bl b=>exact ⟨_,rfl,_,_, "str", false,rfl,.bl _,kit_bool_str _,_,rfl,iteT ⟨by show 1≤sizeLine;decide,fun a ha=>out a H (Same.refl H) ha⟩⟩
    | int i=>exact ⟨_,rfl,_,_, "str", false,rfl,.int _,kit_int_str _,_,rfl,iteT ⟨by show 1≤sizeLine;decide,fun a ha=>out a H (Same.refl H) ha⟩⟩
    | lst e=>exact ⟨_,rfl,_,_, "str", false,rfl,.lst e,kit_list_str _,_,rfl,iteT ⟨by show 1≤sizeLine;decide,fun a ha=>out a H (Same.refl H) ha⟩⟩
    | tup e=>exact ⟨_,rfl,_,_, "str", false,rfl,.tup e,kit_tuple_str _,_,rfl,iteT ⟨by show 1≤sizeLine;decide,fun a ha=>out a H (Same.refl H) ha⟩⟩
    | dct e=>exact ⟨_,rfl,_,_, "str", false,rfl,.dK e,kit_dict_str _,_,rfl,iteT ⟨by show 1≤sizeLine;decide,fun a ha=>out a H (Same.refl H) ha⟩⟩
  replace q1:=q1 z rfl
  replace q2:¬ Good z→∀ (a:Addr) (H':Hp),Same H H'→H' a=none→E (.ref a) (some EX.c_NoText) H':=fun ng=>q2 fun z' e=>by injection e with e;rw [← e];exact ng
  obtain ⟨wne,wl,wp⟩:=words_len z
  refine ⟨_,rfl,_,_,_,true,rfl,.str _,kit_same _ _,_,rfl,iteF ?_⟩
  refine ⟨_,rfl,rfl,_,_,rfl,rfl,rfl,line_le (by omega),fun l hl=>?_⟩
  have s1:Same H (upd H l (.lst ((words z).map V.str))):=(Same.refl H).new hl
  have h1:upd H l (.lst ((words z).map V.str)) l=some (.lst ((words z).map V.str)):=upd_same
  rw [show Txt.split z (Str.ofString " ")=words z from rfl]
  generalize upd H l (.lst ((words z).map V.str))=H1 at s1 h1
  refine ⟨l,rfl,⟨_,SqL.of h1⟩,fun acc hacc=>?_⟩
  refine comp_lstB (K:=K) (a:=l) (xs:=(words z).map V.str) (by rw [List.length_map];omega) (fun i ys HX=>HX acc=some (.lst ys)∧Same H1 HX∧∃ as:List Addr,ys=as.map V.ref∧as.length=i∧GKs HX as (((words z).take i).map gk)∧∀ w∈(words z).take i,RK w)
    (fun i ys HX h=>SqL.of (h.2.1 _ _ h1)) (fun i ys HX h=>⟨h.1,by obtain ⟨_,_,as,e,z,_⟩:=h;rw [e,List.length_map];omega⟩) ⟨upd_same,(Same.refl H1).new hacc,[],rfl,rfl,GKs.nil,fun w h=>by simp at h⟩ ?_ ?_
  rotate_left
  · rintro i x ys HX hx ⟨g1,g2,as,rfl,il,kns,rks⟩
    rw [List.getElem?_map] at hx
    cases e1:(words z)[i]? with
    | none=>rw [e1] at hx;cases hx
    | some wd=>
      rw [e1] at hx
      cases hx
      have hm:=List.mem_of_getElem? e1
      refine ⟨rfl,_,rfl,wd,rfl,by have:=wp wd hm;omega,fun rk a H3 s3 ka=>?_,fun nrk a H3 s3 ha=>q2 (fun g=>nrk (g.2 i wd e1).1) a H3 ((s1.trans g2).trans s3) ha⟩
      have g13:=s3 _ _ g1
      have tU:∀ o b xs,H3 b=some (.tup xs)→upd H3 acc (.lst o) b=some (.tup xs):=fun o b xs e=>by
        rw [upd_ne (ne_of e g13 (by intro z;cases z))];exact e
      refine ⟨g13,upd_same,(g2.trans s3).write hacc,as++[a],by rw [List.map_append];rfl,by rw [List.length_append,il];rfl,?_,fun w hw=>?_⟩
      · rw [map_snoc e1]
        exact ((kns.tups fun b xs e=>s3 _ _ e).snoc ka).tups fun b xs e=>tU _ b xs e
      · rw [List.take_succ,e1] at hw
        rcases List.mem_append.mp hw with hw | hw
        · exact rks w hw
        · rw [List.mem_singleton.mp (show w∈[wd] from hw)];exact rk
  rintro ys H2 ⟨g1,s2,as,rfl,il,kns,rks⟩
  rw [List.length_map] at il kns rks
  rw [List.take_length] at kns rks
  refine ⟨acc,_,rfl,.inl ⟨SqL.of g1,fun t ht=>?_⟩⟩
  have s3:Same H2 (upd H2 t (.tup (as.map V.ref))):=(Same.refl H2).new ht
  have n3:NetG (upd H2 t (.tup (as.map V.ref))) t ((words z).map gk):=⟨as,upd_same,kns.tups fun b xs e=>s3 _ _ e⟩
  show (fun H3=>_) (upd H2 t (.tup (as.map V.ref)))
  generalize upd H2 t (.tup (as.map V.ref))=H3 at s3 n3
  have hlg:GoodN ((words z).map gk) ↔ Good z:=by
    unfold GoodN Good
    rw [List.length_map]
    constructor
    · rintro ⟨a,b⟩
      exact ⟨a,fun k w e=>⟨rks w (List.mem_of_getElem? e),b k _ (by rw [List.getElem?_map,e];rfl)⟩⟩
    · rintro ⟨a,b⟩
      refine ⟨a,fun k kn e=>?_⟩
      rw [List.getElem?_map] at e
      cases e2:(words z)[k]? with
      | none=>rw [e2] at e;cases e
      | some w=>rw [e2] at e;cases e;exact (b k w e2).2
  refine ⟨_,rfl,t,_,rfl,n3,by rw [List.length_map];exact List.length_pos_iff.mpr wne,fun kn hk=>?_,fun b H4 hb s4=>⟨_,rfl,?_⟩⟩
  · obtain ⟨w,hw,rfl⟩:=List.mem_map.mp hk
    have a:=hd_len w
    have b:=wp w hw
    show (hd w).length≤9000
    omega
  have sA:=((s1.trans s2).trans s3).trans s4
  cases b with
  | true=>exact iteF ⟨_,rfl,q1 (hlg.mp (hb.mp rfl)) t H4 sA (n3.same s4)⟩
  | false=>exact iteT ⟨by show 1≤sizeLine;decide,fun a ha=>q2 (fun g=>Bool.false_ne_true (hb.mpr (hlg.mpr g))) a H4 sA ha⟩
end
end S83
namespace S83
open PySem L2 W7
def lnB (p:Str):Bool:=figN p && zeroOk p
def nI (p:Str):Int:=if (p.length:Int) < 3 then wrN p else 99
def nv (p:Str):V:=if lnB p=true then .int (nI p) else .non
theorem wr_ln {p:Str} (h:lnB p=true) (l:(p.length:Int)≤2):wrB p=true:=by
  unfold lnB at h
  unfold wrB
  rw [Bool.and_eq_true] at h
  rw [h.1,h.2,decide_eq_true l];rfl
theorem ln_wr {p:Str} (h:wrB p=true):lnB p=true∧(p.length:Int)≤2:=by
  unfold wrB at h
  simp only [Bool.and_eq_true,decide_eq_true_eq] at h
  exact ⟨by unfold lnB;rw [h.1,h.2.2];rfl,h.2.1⟩
def DueOk (k:Nat) (w:Str):Prop:=oneL (hd w)=true∧(tl w).length≤60∧∀ p∈tl w,lnB p=true∧nI p < (k:Int)
def gk2 (w:Str):GKnot:=(hd w,(tl w).map nI)
theorem due_bad {k:Nat} {w:Str} (h:¬ DueOk k w):¬ (RK w∧kB k (gk w)=true):=by
  rintro ⟨rk,kb⟩
  unfold kB gk at kb
  simp only [Bool.and_eq_true,decide_eq_true_eq,List.length_map] at kb
  refine h ⟨kb.1,kb.2.1,fun p hp=>?_⟩
  have wp:=ln_wr (rk p hp)
  refine ⟨wp.1,?_⟩
  have:=List.all_eq_true.mp kb.2.2 (wrN p) (List.mem_map.mpr ⟨p,hp,rfl⟩)
  simp only [Bool.and_eq_true,decide_eq_true_eq] at this
  unfold nI
  rw [if_pos (by omega)]
  exact this.2
theorem due_good {k:Nat} {w:Str} (h:DueOk k w) (hk:k < 90):(RK w∧kB k (gk w)=true)∧gk2 w=gk w:=by
  obtain ⟨a,b,c⟩:=h
  have each:∀ p∈tl w,wrB p=true∧nI p=wrN p∧0≤wrN p∧wrN p < (k:Int):=fun p hp=>by
    obtain ⟨c1,c2⟩:=c p hp
    have l3:(p.length:Int) < 3:=by
      rcases Int.lt_or_le (p.length:Int) 3 with z | z
      · exact z
      · unfold nI at c2
        rw [if_neg (by omega)] at c2
        omega
    have e:nI p=wrN p:=by unfold nI;rw [if_pos l3]
    have wp:=wr_ln c1 (by omega)
    unfold lnB at c1
    rw [Bool.and_eq_true] at c1
    have f:=wr_facts c1.1 (by omega)
    exact ⟨wp,e,f.2.1,by omega⟩
  refine ⟨⟨fun p hp=>(each p hp).1,?_⟩,?_⟩
  · unfold kB gk
    simp only [Bool.and_eq_true,decide_eq_true_eq,List.length_map]
    refine ⟨a,b,List.all_eq_true.mpr fun n hn=>?_⟩
    obtain ⟨p,hp,rfl⟩:=List.mem_map.mp hn
    simp only [Bool.and_eq_true,decide_eq_true_eq]
    exact ⟨(each p hp).2.2.1,(each p hp).2.2.2⟩
  · unfold gk2 gk
    congr 1
    exact List.map_congr_left fun p hp=>(each p hp).2.1
def badV (k:Int):V→Bool
  | .int n=>decide (n ≥ k)
  | _=>true
theorem cut_one (z:Str):(cutS z none (some 1)).cps.toList=z.cps.toList.take 1:=by
  unfold cutS
  rw [HT.sIx_none]
  have h1:HT.sIx z.length z.length (some 1)=min 1 z.length:=HT.sIx_nat _ _ 1
  rw [h1]
  show (List.drop 0 z.cps.toList).take (min 1 z.length - 0)=_
  rw [List.drop_zero,Nat.sub_zero]
  have hl:=cps_len z
  rcases Nat.lt_or_ge 0 z.length with h | h
  · rw [show min 1 z.length=1 by omega]
  · rw [List.take_of_length_le (by omega),List.take_of_length_le (by omega)]
theorem eqVs_nil (xs:List V):(!eqVs xs [])=decide (xs≠[]):=by
  cases xs with
  | nil=>rfl
  | cons x r=>
    have:eqVs (x :: r) []=false:=by unfold eqVs;rfl
    rw [this];rfl
theorem filter_snoc {α:Type} {f:α→Bool} {xs:List α} {i:Nat} {x:α} (h:xs[i]?=some x):(xs.take (i+1)).filter f=(xs.take i).filter f++(if f x=true then [x] else []):=by
  rw [List.take_succ,h,List.filter_append]
  congr 1
  show List.filter f [x]=_
  rw [List.filter_cons,List.filter_nil]
section
variable {P:Program} {w:World} {K:PySem.W.Frag} {mg:Str→Option Value} {base:Heap} {k:Nat}
def sp_lnum:Sp:=fun vs H Q _=>∃ z:Str,vs=[.str z]∧z.length≤9000∧∀ H',Same H H'→Q (nv z) H'
theorem has_lnum (D:Df K mg "_law_number" s_law_number) (B:Blt7 mg):Has P w K mg base "_law_number" (k+1) ["word"] sp_lnum:=by
  refine D.has sc_law_number (fun _ _ _ _ _ _ us hl=>match us,hl with | [_],_=>rfl) (fun vs H Q E h=>by obtain ⟨x,rfl,_⟩:=h;rfl) (fun f cdv A outer s H vs Q E hr h=>?_)
  obtain ⟨z,rfl,zl,q⟩:=h
  refine ⟨_,(pss_cons (ps_if (PW.pt (pw_or (pt_cmpR op_eq (pv 0) pe_str (nomark _)) (pw_or1 (pt_cmpR (op_ne_lst hr.units0) (pe_comp rfl (pi_str (pv 0)) (NL:=["sign"]) (ix:=[]) (csc (defScope s_law_number) N_law_number) (fun cl C s₃ H₃ fp pins=>⟨(pg_name (i:=0) (show List.Nodup (["sign"]:List Str) from by decide +kernel) rfl (by first | exact Or.inl rfl | exact Or.inr rfl)),(pifs_one (pt_cmpR op_notin_str (pv 0) pe_str (by with_unfolding_all rfl))),(pv 0)⟩)) (pe_lst pa_nil) (nomark _)))))
  (pss_one (ps_ret pe_non))
  pss_nil)
  (pss_cons (ps_if (PW.pt (pw_and (pt_cmpR op_eq (pe_ix ix_str (pv 0) pe_int (fun _ _=>rfl)) pe_str (nomark _)) (pw_and1 (pt_cmpR op_ne (pv 0) pe_str (nomark _)))))
  (pss_one (ps_ret pe_non))
  pss_nil)
  (pss_one (ps_ret (pe_ifExp (pt_cmpR op_lt (pe_callB call_len_str rfl B.len bt_len (pa_cons (pv 0) pa_nil)) pe_int (nomark _)) (pe_callTy call_intT rfl B.int_ bt_int (pa_cons (pv 0) pa_nil)) pe_int))))),?_⟩
  have zs:z.cps.size≤9000:=zl
  have non:∀ H',Same H H'→lnB z=false→Q .non H':=fun H' s h=>by
    have:=q H' s
    unfold nv at this
    rw [h] at this
    exact this
  refine ⟨_,rfl,rfl,_,rfl,?_⟩
  by_cases zn:V.str z=V.str (Str.ofString "")
  · refine iteB (decide_eq_true zn) (non H (Same.refl H) ?_)
    unfold lnB figN
    rw [decide_eq_false (fun h=>h zn)];rfl
  refine iteN (decide_eq_false zn) ?_
  refine ⟨_,rfl,_,rfl,fun acc hacc=>?_⟩
  refine comp_str (by omega) (fun i ys HX=>HX acc=some (.lst ys)∧Same H HX∧ys=((z.cps.toList.take i).filter fun c=>!fgB c).map fun c=>V.str ⟨#[c]⟩)
    (fun i ys HX h=>⟨h.1,by
      rw [h.2.2,List.length_map]
      refine Nat.le_trans (List.length_filter_le _ _) ?_
      rw [List.length_take];omega⟩) ⟨upd_same,(Same.refl H).new hacc,rfl⟩ ?_ ?_
  rotate_left
  · rintro i c ys HX hc ⟨g1,g2,rfl⟩
    rw [← Array.getElem?_toList] at hc
    refine ⟨rfl,_,rfl,_,_,rfl,rfl,_,rfl,?_⟩
    rw [in_fig c]
    rw [filter_snoc hc]
    cases fgB c with
    | true=>exact iteF ⟨g1,g2,by simp⟩
    | false=>exact iteT ⟨_,rfl,g1,upd_same,g2.write hacc,by simp⟩
  rintro ys H1 ⟨g1,s1,rfl⟩
  rw [show z.cps.toList.take z.cps.size=z.cps.toList from List.take_of_length_le (by simp)] at g1
  refine ⟨(by show 0≤sizeLine;decide),fun l hl=>?_⟩
  have s2:Same H1 (upd H1 l (.lst [])):=(Same.refl H1).new hl
  have g2:=s2 _ _ g1
  refine ⟨acc,l,_,_,rfl,rfl,SqL.of g2,SqL.of upd_same,?_,rfl,_,rfl,?_⟩
  · rw [List.all_eq_true];intro y hy
    obtain ⟨c,_,rfl⟩:=List.mem_map.mp hy;rfl
  rw [eqVs_nil]
  have s12:=s1.trans s2
  generalize upd H1 l (.lst [])=H2 at s12
  by_cases fg:z.cps.toList.all fgB=true
  rotate_left
  · refine iteB (decide_eq_true ?_) (non H2 s12 ?_)
    · intro e
      apply fg
      rw [List.map_eq_nil_iff,List.filter_eq_nil_iff] at e
      rw [List.all_eq_true]
      intro c hc
      have:=e c hc
      simpa using this
    · unfold lnB figN
      rw [Bool.eq_false_iff.mpr fg,Bool.and_false];rfl
  refine iteN (decide_eq_false ?_) ?_
  · intro e
    apply e
    rw [List.map_eq_nil_iff,List.filter_eq_nil_iff]
    intro c hc
    have:=List.all_eq_true.mp fg c hc
    simp [this]
  have fn:figN z=true:=by
    unfold figN
    rw [fg,decide_eq_true zn];rfl
  have ne:=fig_ne fn
  have zp:0 < z.cps.toList.length:=List.length_pos_iff.mpr ne
  refine ⟨_,rfl,_,_,_,rfl,rfl,line_le (by omega),atI_nat (j:=0) (v:=z.cps.toList.getD 0 0) (by rw [List.getD_eq_getElem?_getD,List.getElem?_eq_getElem zp];rfl),rfl,_,rfl,?_⟩
  have fin:lnB z=true→∃ H',Same H H'∧H'=H2:=fun _=>⟨H2,s12,rfl⟩
  have last:lnB z=true→Q (.int (nI z)) H2:=fun h=>by
    have:=q H2 s12
    unfold nv at this
    rw [if_pos h] at this
    exact this
  have rest:lnB z=true→∀ (W:Prop),(∀ c:(z.length:Int) < 3,Q (.int (wrN z)) H2→W)→(¬ (z.length:Int) < 3→Q (.int 99) H2→W)→W:=fun h W a b=>by
    have:=last h
    unfold nI at this
    by_cases c:(z.length:Int) < 3
    · rw [if_pos c] at this;exact a c this
    · rw [if_neg c] at this;exact b c this
  by_cases c1:V.str ⟨#[z.cps.toList.getD 0 0]⟩=V.str (Str.ofString "0")
  · refine iteB (decide_eq_true c1) ?_
    refine ⟨_,rfl,rfl,_,rfl,?_⟩
    by_cases c2:V.str z=V.str (Str.ofString "0")
    · refine iteN (by rw [decide_eq_true c2];rfl) ?_
      have lb:lnB z=true:=by unfold lnB zeroOk;rw [fn,decide_eq_true c2];rfl
      refine ⟨_,rfl,_,rfl,line_le (by omega),_,_,rfl,rfl,_,rfl,?_⟩
      refine rest lb _ (fun c x=>iteB (decide_eq_true c) ⟨_,rfl,z,wrN z,rfl,(wr_facts fn (by omega)).1,by omega,x⟩) (fun c x=>iteN (decide_eq_false c) x)
    · refine iteB (by rw [decide_eq_false c2];rfl) (non H2 s12 ?_)
      unfold lnB zeroOk
      rw [decide_eq_false c2,decide_eq_false (fun h=>h c1)];simp
  · refine iteN (decide_eq_false c1) ?_
    have lb:lnB z=true:=by unfold lnB zeroOk;rw [fn,decide_eq_true c1];simp
    refine ⟨_,rfl,_,rfl,line_le (by omega),_,_,rfl,rfl,_,rfl,?_⟩
    refine rest lb _ (fun c x=>iteB (decide_eq_true c) ⟨_,rfl,z,wrN z,rfl,(wr_facts fn (by omega)).1,by omega,x⟩) (fun c x=>iteN (decide_eq_false c) x)
def sp_due:Sp:=fun vs H Q _=>∃ z:Str,vs=[.str z]∧z.length≤9000∧(Good z→∀ (t:Addr) (H':Hp),Same H H'→NetG H' t ((words z).map gk)→Q (.ref t) H')∧(¬ Good z→∀ H',Same H H'→Q .non H')
theorem has_due (D:Df K mg "_law_due" s_law_due) (B:Blt7 mg) (G_law_number:Has P w K mg base "_law_number" k ["word"] sp_lnum):Has P w K mg base "_law_due" (k+1) ["text"] sp_due:=by
  refine D.has sc_law_due (fun _ _ _ _ _ _ us hl=>match us,hl with | [_],_=>rfl) (fun vs H Q E h=>by obtain ⟨x,rfl,_⟩:=h;rfl) (fun f cdv A outer s H vs Q E hr h=>?_)
  obtain ⟨z,rfl,zl,q1,q2⟩:=h
  refine ⟨_,(pss_cons (ps_set (i:=1) sc_law_due.nd rfl (by first | exact Or.inl rfl | exact Or.inr rfl) (pe_bm PySem.F.plainAttrs_str PySem.F.slot_str_split PySem.F.type_str_split mt_split (pv 0) (pa_cons pe_str pa_nil)))
  (pss_cons (ps_set (i:=2) sc_law_due.nd rfl (by first | exact Or.inl rfl | exact Or.inr rfl) (pe_lst pa_nil))
  (pss_cons (ps_for PassesOwn.never rfl (pi_enum rfl B.enumerate (pa_cons (pv 1) pa_nil)) (pg_tup rfl (pgs_cons (pg_name (i:=3) sc_law_due.nd rfl (by first | exact Or.inl rfl | exact Or.inr rfl)) (pgs_cons (pg_name (i:=4) sc_law_due.nd rfl (by first | exact Or.inl rfl | exact Or.inr rfl)) pgs_nil)))
  (pss_cons (ps_comp (i:=5) sc_law_due.nd rfl (by first | exact Or.inl rfl | exact Or.inr rfl) rfl (pi_list (pe_slice sl_list (pe_bm PySem.F.plainAttrs_str PySem.F.slot_str_split PySem.F.type_str_split mt_split (pv 4) (pa_cons pe_str pa_nil)) (po_some pe_int) po_none)) (NL:=["part"]) (ix:=[]) (csc (defScope s_law_due) N_law_due) (fun cl C s₃ H₃ fp pins=>⟨(pg_name (i:=0) (show List.Nodup (["part"]:List Str) from by decide +kernel) rfl (by first | exact Or.inl rfl | exact Or.inr rfl)),pifs_nil,(pe_callH G_law_number hr rfl (pa_cons (pv 0) pa_nil))⟩))
  (pss_cons (ps_if (PW.pt (pw_or (pt_cmpR op_notIn_seq (pe_ix ix_list (pe_bm PySem.F.plainAttrs_str PySem.F.slot_str_split PySem.F.type_str_split mt_split (pv 4) (pa_cons pe_str pa_nil)) pe_int (fun _ _=>rfl)) (pe_callTy (call_list_txt rfl) rfl B.list_ bt_list (pa_cons pe_str pa_nil)) (by with_unfolding_all rfl)) (pw_or1 (pt_cmpR op_gt (pe_callB call_len_seq rfl B.len bt_len (pa_cons (pv 5) pa_nil)) pe_int (nomark _)))))
  (pss_one (ps_ret pe_non))
  pss_nil)
  (pss_cons (ps_if (pt_cmpR (op_ne_lst hr.units0) (pe_comp rfl (pi_list (pv 5)) (NL:=["number"]) (ix:=[3]) (csc (defScope s_law_due) N_law_due) (fun cl C s₃ H₃ fp pins=>⟨(pg_name (i:=0) (show List.Nodup (["number", "k"]:List Str) from by decide +kernel) rfl (by first | exact Or.inl rfl | exact Or.inr rfl)),(pifs_one (PW.pt (pw_or (pt_cmpR op_isN (pv 0) pe_non (nomark _)) (pw_or1 (pt_cmpR op_ge (pv 0) (pv 1) (nomark _)))))),(pv 0)⟩)) (pe_lst pa_nil) (nomark _))
  (pss_one (ps_ret pe_non))
  pss_nil)
  (pss_one (ps_expr (pe_bm PySem.F.plainAttrs_list PySem.F.slot_list_append PySem.F.type_list_append mt_append (pv 2) (pa_cons (pe_tup (pa_cons (pe_slice sl_str (pv 4) po_none (po_some pe_int)) (pa_cons (pe_callTy call_tuple_of rfl B.tuple_ bt_tuple (pa_cons (pv 5) pa_nil)) pa_nil))) pa_nil))))))))
  (pss_one (ps_ret (pe_ifExp (pt_cmpR op_lt (pe_callB call_len_seq rfl B.len bt_len (pa_cons (pv 1) pa_nil)) pe_int (nomark _)) (pe_callTy call_tuple_of rfl B.tuple_ bt_tuple (pa_cons (pv 2) pa_nil)) pe_non)))))),?_⟩
  obtain ⟨wne,wl,wp⟩:=words_len z
  refine ⟨_,rfl,rfl,_,_,rfl,rfl,rfl,line_le (by omega),fun l hl=>?_⟩
  rw [show Txt.split z (Str.ofString " ")=words z from rfl]
  have s1:Same H (upd H l (.lst ((words z).map V.str))):=(Same.refl H).new hl
  have h1:upd H l (.lst ((words z).map V.str)) l=some (.lst ((words z).map V.str)):=upd_same
  generalize upd H l (.lst ((words z).map V.str))=H1 at s1 h1
  refine ⟨(by show 0≤sizeLine;decide),fun fo hfo=>?_⟩
  have lfo:l≠fo:=ne_of_none h1 hfo
  refine ⟨_,rfl,.lst l,rfl,⟨_,.inl (by rw [upd_ne lfo];exact h1)⟩,?_⟩
  refine for_enum (κ:=.lst l) (xs:=(words z).map V.str) (fun i σ HX=>∃ (as:List Addr) (o3 o4 o5:Option V),σ=[some (.str z),some (.ref l),some (.ref fo),o3,o4,o5]∧Same H1 HX∧HX fo=some (.lst (as.map V.ref))∧GKs HX as (((words z).take i).map gk2)∧∀ j w,j < i→(words z)[j]?=some w→DueOk j w)
    ⟨[],none,none,none,rfl,(Same.refl H1).new hfo,upd_same,GKs.nil,fun j w h=>absurd h (by omega)⟩ (fun i σ HX hi h=>by obtain ⟨_,_,_,_,_,sX,_⟩:=h;exact .inl (sX _ _ h1)) ?_ ?_
  · rintro i x σ HX p hx ⟨as,o3,o4,o5,rfl,sX,hf,kns,dok⟩ hp
    rw [List.getElem?_map] at hx
    cases e1:(words z)[i]? with
    | none=>rw [e1] at hx;cases hx
    | some wd=>
    rw [e1] at hx
    cases hx
    have wdl:=wp wd (List.mem_of_getElem? e1)
    obtain ⟨nl,pl⟩:=tl_len wd
    have sP:Same HX (upd HX p (.tup [.int (i:Int),.str wd])):=(Same.refl HX).new hp
    refine ⟨p,_,rfl,SqT.of upd_same,rfl,_,_,rfl,_,_,rfl,rfl,?_⟩
    generalize upd HX p (.tup [.int (i:Int),.str wd])=HP at sP
    have bad:¬ DueOk i wd→¬ Good z:=fun nd g=>due_bad nd (g.2 i wd e1)
    refine ⟨_,rfl,rfl,_,_,rfl,rfl,rfl,line_le (by omega),fun l1 hl1=>?_⟩
    rw [show Txt.split wd (Str.ofString ",")=parts wd from rfl]
    have t1:Same HP (upd HP l1 (.lst ((parts wd).map V.str))):=(Same.refl HP).new hl1
    have k1:upd HP l1 (.lst ((parts wd).map V.str)) l1=some (.lst ((parts wd).map V.str)):=upd_same
    generalize upd HP l1 (.lst ((parts wd).map V.str))=G1 at t1 k1
    refine ⟨_,rfl,l1,_,rfl,SqL.of k1,fun r hr0=>?_⟩
    rw [cut_parts]
    have t2:Same G1 (upd G1 r (.lst ((tl wd).map V.str))):=(Same.refl G1).new hr0
    have k2:upd G1 r (.lst ((tl wd).map V.str)) r=some (.lst ((tl wd).map V.str)):=upd_same
    generalize upd G1 r (.lst ((tl wd).map V.str))=G2 at t2 k2
    refine ⟨r,rfl,⟨_,SqL.of k2⟩,fun acc hacc=>?_⟩
    refine comp_lstB (K:=K) (a:=r) (xs:=(tl wd).map V.str) (by rw [List.length_map];omega) (fun i ys HX=>HX acc=some (.lst ys)∧Same G2 HX∧ys=((tl wd).take i).map nv)
      (fun i ys HX h=>SqL.of (h.2.1 _ _ k2)) (fun i ys HX h=>⟨h.1,by rw [h.2.2,List.length_map,List.length_take];omega⟩) ⟨upd_same,(Same.refl G2).new hacc,rfl⟩ ?_ ?_
    rotate_left
    · rintro j x ys HY hx ⟨g1,g2,rfl⟩
      rw [List.getElem?_map] at hx
      cases e2:(tl wd)[j]? with
      | none=>rw [e2] at hx;cases hx
      | some pt=>
        rw [e2] at hx
        cases hx
        refine ⟨rfl,_,rfl,pt,rfl,by have:=pl pt (List.mem_of_getElem? e2);omega,fun H3 s3=>?_⟩
        exact ⟨s3 _ _ g1,upd_same,(g2.trans s3).write hacc,by rw [map_snoc e2]⟩
    rintro ys G3 ⟨g1,t3,rfl⟩
    rw [List.length_map,List.take_length] at g1
    have tA:=((sP.trans t1).trans t2).trans t3
    have hat:atI ((parts wd).map V.str) 0=some (.str (hd wd)):=atI_nat (xs:=(parts wd).map V.str) (j:=0) (by rw [parts_eq];rfl)
    refine ⟨_,rfl,rfl,_,_,rfl,rfl,rfl,line_le (by omega),fun l2 hl2=>?_⟩
    rw [show Txt.split wd (Str.ofString ",")=parts wd from rfl]
    have t4:Same G3 (upd G3 l2 (.lst ((parts wd).map V.str))):=(Same.refl G3).new hl2
    have k4:upd G3 l2 (.lst ((parts wd).map V.str)) l2=some (.lst ((parts wd).map V.str)):=upd_same
    generalize upd G3 l2 (.lst ((parts wd).map V.str))=G4 at t4 k4
    refine ⟨l2,_,_,_,rfl,rfl,SqL.of k4,hat,_,rfl,by decide +kernel,fun l3 hl3=>?_⟩
    have t5:Same G4 (upd G4 l3 (.lst (signs (Str.ofString "abcdefghijklmnopqrstuvwxyz")))):=(Same.refl G4).new hl3
    have k5:upd G4 l3 (.lst (signs (Str.ofString "abcdefghijklmnopqrstuvwxyz"))) l3=some (.lst (signs (Str.ofString "abcdefghijklmnopqrstuvwxyz"))):=upd_same
    generalize upd G4 l3 (.lst (signs (Str.ofString "abcdefghijklmnopqrstuvwxyz")))=G5 at t5 k5
    have g5:=t5 _ _ (t4 _ _ g1)
    have sA:Same H G5:=(((s1.trans sX).trans tA).trans t4).trans t5
    refine ⟨l3,_,rfl,.inl (SqL.of k5),rfl,by unfold signs;rw [List.all_map];exact List.all_eq_true.mpr fun _ _=>rfl,_,rfl,?_⟩
    have ev:(if true=true then !inV (V.str (hd wd)) (signs (Str.ofString "abcdefghijklmnopqrstuvwxyz")) else inV (V.str (hd wd)) (signs (Str.ofString "abcdefghijklmnopqrstuvwxyz")))=!oneL (hd wd):=by rw [if_pos rfl,in_abcs]
    rw [ev]
    cases ol:oneL (hd wd) with
    | false=>exact iteT (q2 (bad fun d=>by have d:=d.1;rw [ol] at d;exact Bool.false_ne_true d) G5 sA)
    | true=>
    refine iteF ?_
    refine ⟨_,rfl,acc,_,rfl,.inl (SqL.of g5),_,_,rfl,rfl,_,rfl,?_⟩
    rw [List.length_map]
    by_cases few:(tl wd).length≤60
    rotate_left
    · exact iteB (decide_eq_true (by show _ > _;omega)) (q2 (bad fun d=>few d.2.1) G5 sA)
    refine iteN (decide_eq_false (by show ¬ _;omega)) ?_
    refine ⟨_,rfl,acc,rfl,⟨_,SqL.of g5⟩,fun ac2 hac2=>?_⟩
    refine comp_lst (K:=K) (a:=acc) (xs:=(tl wd).map nv) (by rw [List.length_map];omega) (fun i' ys HX=>HX ac2=some (.lst ys)∧Same G5 HX∧ys=(((tl wd).map nv).take i').filter (badV (i:Int)))
      (fun i' ys HX h=>SqL.of (h.2.1 _ _ g5)) (fun i' ys HX h=>⟨h.1,by
        rw [h.2.2]
        refine Nat.le_trans (List.length_filter_le _ _) ?_
        rw [List.length_take];omega⟩) ⟨upd_same,(Same.refl G5).new hac2,rfl⟩ ?_ ?_
    rotate_left
    · rintro j x ys HY hx ⟨g1,g2,rfl⟩
      have hx':=hx
      rw [List.getElem?_map] at hx
      cases e2:(tl wd)[j]? with
      | none=>rw [e2] at hx;cases hx
      | some pt=>
        rw [e2] at hx
        cases hx
        rw [filter_snoc hx']
        refine ⟨rfl,_,rfl,rfl,_,rfl,?_⟩
        unfold nv
        by_cases lb:lnB pt=true
        · rw [if_pos lb]
          refine iteN (decide_eq_false (by intro e;cases e)) ?_
          refine ⟨_,rfl,_,rfl,_,_,rfl,rfl,_,rfl,?_⟩
          by_cases ge:nI pt ≥ (i:Int)
          · refine iteB (decide_eq_true ge) ⟨_,rfl,g1,upd_same,g2.write hac2,?_⟩
            rw [if_pos (show badV (i:Int) (V.int (nI pt))=true from decide_eq_true ge)]
          · refine iteN (decide_eq_false ge) ⟨g1,g2,?_⟩
            rw [if_neg (show ¬ badV (i:Int) (V.int (nI pt))=true from fun h=>ge (of_decide_eq_true h)),List.append_nil]
        · rw [if_neg lb]
          refine iteB (decide_eq_true rfl) ?_
          exact iteT ⟨_,rfl,g1,upd_same,g2.write hac2,rfl⟩
    rintro ys G6 ⟨g6,t6,rfl⟩
    rw [List.take_length] at g6
    refine ⟨(by show 0≤sizeLine;decide),fun l6 hl6=>?_⟩
    have t7:Same G6 (upd G6 l6 (.lst [])):=(Same.refl G6).new hl6
    refine ⟨ac2,l6,_,_,rfl,rfl,SqL.of (t7 _ _ g6),SqL.of upd_same,?_,rfl,_,rfl,?_⟩
    · rw [List.all_eq_true];intro y hy
      obtain ⟨pt,_,rfl⟩:=List.mem_map.mp (List.mem_filter.mp hy).1
      unfold nv
      split <;> rfl
    rw [eqVs_nil]
    have sB:=sA.trans (t6.trans t7)
    have g7:=t7 _ _ (t6 _ _ g5)
    have sC:Same HX (upd G6 l6 (.lst [])):=((tA.trans t4).trans t5).trans (t6.trans t7)
    generalize upd G6 l6 (.lst [])=G7 at sB g7 sC
    by_cases dk:∀ pt∈tl wd,lnB pt=true∧nI pt < (i:Int)
    rotate_left
    · refine iteB (decide_eq_true ?_) (q2 (bad fun d=>dk d.2.2) G7 sB)
      intro e
      apply dk
      rw [List.filter_eq_nil_iff] at e
      intro pt hpt
      have:=e _ (List.mem_map.mpr ⟨pt,hpt,rfl⟩)
      unfold nv at this
      by_cases lb:lnB pt=true
      · rw [if_pos lb] at this
        refine ⟨lb,?_⟩
        have:¬ nI pt ≥ (i:Int):=fun h=>this (decide_eq_true h)
        omega
      · rw [if_neg lb] at this
        exact absurd rfl this
    refine iteN (decide_eq_false ?_) ?_
    · intro e
      apply e
      rw [List.filter_eq_nil_iff]
      intro y hy
      obtain ⟨pt,hpt,rfl⟩:=List.mem_map.mp hy
      obtain ⟨a,b⟩:=dk pt hpt
      unfold nv
      rw [if_pos a]
      intro h
      have:nI pt ≥ (i:Int):=of_decide_eq_true h
      omega
    have dwd:DueOk i wd:=⟨ol,few,dk⟩
    have en:(tl wd).map nv=((tl wd).map nI).map V.int:=by
      rw [List.map_map]
      refine List.map_congr_left fun pt hpt=>?_
      unfold nv
      rw [if_pos (dk pt hpt).1];rfl
    rw [en] at g7
    have ec:cutS wd none (some 1)=hd wd:=str_ext (by rw [cut_one,hd_cut ol])
    have hf7:=sC _ _ hf
    refine ⟨_,rfl,.inl ⟨rfl,_,SqL.of hf7⟩,_,rfl,_,rfl,_,rfl,line_le (by omega),?_⟩
    rw [ec]
    refine ⟨_,rfl,acc,_,rfl,.inl ⟨SqL.of g7,fun b1 hb1=>⟨(by show 2≤sizeLine;decide),fun a1 ha1=>?_⟩⟩⟩
    have sD:Same G7 (upd (upd G7 b1 (.tup (((tl wd).map nI).map V.int))) a1 (.tup [.str (hd wd),.ref b1])):=((Same.refl G7).new hb1).new ha1
    have kD:GK (upd (upd G7 b1 (.tup (((tl wd).map nI).map V.int))) a1 (.tup [.str (hd wd),.ref b1])) a1 (gk2 wd):=⟨b1,upd_same,by rw [upd_ne (ne_of_none upd_same ha1)];exact upd_same⟩
    generalize upd (upd G7 b1 (.tup (((tl wd).map nI).map V.int))) a1 (.tup [.str (hd wd),.ref b1])=G8 at sD kD
    have hf8:=sD _ _ hf7
    have il:i < (words z).length:=(List.getElem?_eq_some_iff.mp e1).1
    have al:as.length=i:=by rw [kns.1,List.length_map,List.length_take];omega
    refine ⟨fo,_,_,rfl,rfl,hf8,by rw [List.length_map];exact Nat.lt_of_lt_of_le (by omega:as.length < 10000) (by decide),?_⟩
    have tU:∀ a xs,G8 a=some (.tup xs)→upd G8 fo (.lst (as.map V.ref++[.ref a1])) a=some (.tup xs):=fun a xs e=>by
      rw [upd_ne (ne_of e hf8 (by intro z;cases z))];exact e
    refine ⟨as++[a1],_,_,_,rfl,(sX.trans (sC.trans sD)).write hfo,by rw [upd_same,List.map_append];rfl,?_,fun j w hj e=>?_⟩
    · rw [map_snoc e1]
      exact ((kns.tups fun b xs e=>sD _ _ (sC _ _ e)).snoc kD).tups tU
    · rcases Nat.lt_or_ge j i with lt | ge
      · exact dok j w lt e
      · obtain rfl:j=i:=by omega
        rw [e1] at e;cases e
        exact dwd
  · rintro σ HX ⟨as,o3,o4,o5,rfl,sX,hf,kns,dok⟩
    rw [List.length_map] at kns dok
    rw [List.take_length] at kns
    have hl9:=sX _ _ h1
    refine ⟨_,rfl,l,_,rfl,.inl (SqL.of hl9),_,_,rfl,rfl,_,rfl,?_⟩
    rw [List.length_map]
    by_cases m:(words z).length≤60
    · refine iteB (decide_eq_true (by show ((_:Nat):Int) < 61;omega)) ?_
      have each:∀ k w,(words z)[k]?=some w→(RK w∧kB k (gk w)=true)∧gk2 w=gk w:=fun k w e=>by
        have hk:=(List.getElem?_eq_some_iff.mp e).1
        exact due_good (dok k w hk e) (by omega)
      have eg:(words z).map gk2=(words z).map gk:=List.map_congr_left fun w hw=>by
        obtain ⟨j,hj⟩:=List.getElem?_of_mem hw
        exact (each j w hj).2
      rw [eg] at kns
      refine ⟨_,rfl,fo,_,rfl,.inl ⟨SqL.of hf,fun t ht=>?_⟩⟩
      have s9:Same HX (upd HX t (.tup (as.map V.ref))):=(Same.refl HX).new ht
      exact q1 ⟨m,fun k w e=>(each k w e).1⟩ t _ ((s1.trans sX).trans s9) ⟨as,upd_same,kns.tups fun b xs e=>s9 _ _ e⟩
    · refine iteN (decide_eq_false (by show ¬ ((_:Nat):Int) < 61;omega)) ?_
      exact q2 (fun g=>m g.1) HX (s1.trans sX)
end
end S83
namespace S83
open PySem L2 W7
def nt (n:Int):Str:=(toString n:String)
theorem nt_few:∀ n:Nat,n < 60→(nt (n:Int)).length≤2:=by decide +kernel
theorem nt_two {n:Int} (h0:-1≤n) (h1:n < 60):(nt n).length≤2:=by
  rcases Int.lt_or_le n 0 with h | h
  · obtain rfl:n=-1:=by omega
    decide +kernel
  · have:=nt_few n.toNat (by omega)
    rwa [show ((n.toNat:Nat):Int)=n by omega] at this
theorem nt_any {n:Int} (h:n.natAbs < 2 ^ 400):(nt n).length≤401:=shown_intB h
theorem log_few {n:Int} (h:n.natAbs < 2 ^ 400):n.natAbs.log2 < 1920:=by
  rcases Nat.eq_zero_or_pos n.natAbs with z | z
  · rw [z];decide
  · exact Nat.lt_trans ((Nat.log2_lt (by omega)).mpr h) (by decide)
theorem len2 (a b:Str):(a++b).length=a.length+b.length:=Array.size_append
theorem glue_len (c:Nat):∀ xs:List (List Nat),(glueN c xs).length≤(xs.map (·.length)).sum+xs.length
  | []=>Nat.le_refl _
  | [x]=>by simp [glueN]
  | x :: y :: r=>by
    show (x++c :: glueN c (y :: r)).length≤_
    have:=glue_len c (y :: r)
    rw [List.length_append,List.length_cons,List.map_cons,List.sum_cons,List.length_cons]
    omega
def tot (ss:List Str):Nat:=(ss.map (·.length)).sum+ss.length
theorem join_len (c:Nat) (ss:List Str):(Txt.join ⟨#[c]⟩ ss).length≤tot ss:=by
  rw [← cps_len,join_cpsN]
  have:=glue_len c (ss.map fun z:Str=>z.cps.toList)
  rw [List.length_map,List.map_map] at this
  have e:(ss.map ((fun x:List Nat=>x.length) ∘ fun z:Str=>z.cps.toList))=ss.map (·.length):=List.map_congr_left fun z _=>cps_len z
  rw [e] at this
  exact this
theorem tot_split (z:Str) (c:Nat):tot (Txt.split z ⟨#[c]⟩)=z.length+1:=by
  obtain ⟨ne,e⟩:=split_glue z c
  have g:=glue_ge c ((Txt.split z ⟨#[c]⟩).map fun z:Str=>z.cps.toList) (by simpa using ne)
  rw [e,cps_len,List.length_map,List.map_map] at g
  have em:(Txt.split z ⟨#[c]⟩).map ((fun x:List Nat=>x.length) ∘ fun z:Str=>z.cps.toList)=(Txt.split z ⟨#[c]⟩).map (·.length):=List.map_congr_left fun z _=>cps_len z
  rw [em] at g
  exact g
theorem tot_app (a b:List Str):tot (a++b)=tot a+tot b:=by unfold tot;rw [List.map_append,List.sum_append,List.length_append];omega
theorem tot_cut {ws:List Str} {a:Nat} {w:Str} (h:ws[a]?=some w):tot (ws.take a)+(w.length+1)+tot (ws.drop (a+1))=tot ws:=by
  obtain ⟨hl,e⟩:=List.getElem?_eq_some_iff.mp h
  have:=congrArg tot (List.take_append_drop a ws)
  rw [tot_app,List.drop_eq_getElem_cons hl,e] at this
  rw [← this]
  have:tot (w :: ws.drop (a+1))=w.length+1+tot (ws.drop (a+1)):=by unfold tot;simp only [List.map_cons,List.sum_cons,List.length_cons];omega
  omega
theorem cutS_lo {z:Str} {a:Int} (h:0≤a):(cutS z none (some a)).length≤a.toNat:=by
  rw [← cps_len]
  unfold cutS
  rw [show (some a)=some ((a.toNat:Nat):Int) from congrArg some (by omega),HT.sIx_nat]
  show (List.take _ _).length≤_
  rw [List.length_take]
  omega
theorem cutS_hi {z:Str} {a:Int} (h:0≤a):(cutS z (some a) none).length≤z.length - a.toNat:=by
  rw [← cps_len]
  unfold cutS
  rw [show (some a)=some ((a.toNat:Nat):Int) from congrArg some (by omega),HT.sIx_nat,HT.sIx_none]
  show (List.take _ _).length≤_
  rw [List.length_take,List.length_drop,cps_len]
  omega
theorem cutV_lo (xs:List V) (j:Nat):cutV xs none (some (j:Int))=xs.take j:=by
  unfold cutV
  rw [HT.sIx_none,HT.sIx_nat]
  show List.take (min j xs.length - 0) (xs.drop 0)=_
  rw [Nat.sub_zero,List.drop_zero]
  rcases Nat.lt_or_ge xs.length j with h | h
  · rw [Nat.min_eq_right (by omega),List.take_of_length_le (Nat.le_refl _),List.take_of_length_le (by omega)]
  · rw [Nat.min_eq_left h]
theorem cutV_hi (xs:List V) (j:Nat):cutV xs (some (j:Int)) none=xs.drop j:=by
  rcases Nat.lt_or_ge xs.length j with h | h
  · unfold cutV
    rw [HT.sIx_none,HT.sIx_nat,Nat.min_eq_right (by omega),List.drop_eq_nil_of_le (Nat.le_refl _),List.drop_eq_nil_of_le (by omega)]
    exact List.take_nil
  · exact cutV_from h
theorem foldl_size (x:Array Nat):∀ (n:Nat) (a:Array Nat),(List.foldl (fun x1 x2=>x1++x2) a (List.replicate n x)).size=a.size+n * x.size
  | 0,a=>by simp
  | n+1,a=>by
    rw [List.replicate_succ,List.foldl_cons,foldl_size x n,Array.size_append,Nat.succ_mul];omega
theorem mul_len (z:Str) (n:Int):(Txt.mul z n).length≤z.length * n.toNat:=by
  unfold Txt.mul
  by_cases h:n < 1
  · rw [if_pos h];exact Nat.zero_le _
  · rw [if_neg h]
    by_cases h2:(n == 1 || z.length == 0)=true
    · rw [if_pos h2]
      rw [Bool.or_eq_true] at h2
      rcases h2 with h2 | h2
      · rw [show n=1 from eq_of_beq h2];simp
      · rw [show z.length=0 from eq_of_beq h2];exact Nat.zero_le _
    · rw [if_neg h2]
      show (List.foldl (fun x1 x2=>x1++x2) #[] (List.replicate n.toNat z.cps)).size≤_
      rw [foldl_size,Nat.mul_comm]
      exact Nat.le_of_eq (by show 0+_=_;rw [Nat.zero_add];rfl)
theorem mul_ok {z:Str} {n:Int} (hz:z.length≤2) (h0:-100000≤n) (h1:n≤61):MulOk z n:=by
  by_cases h:n < 1
  · exact ⟨by rw [decide_eq_false (by omega),decide_eq_false (by omega)];rfl,fun k=>absurd h k,fun k=>absurd h k⟩
  · exact PyProof.Rows.mulOk_of 2 61 hz (by omega) (by omega) (by decide) (by decide)
theorem smenu {ss:List Str} {n:Int} {b:Nat} (h0:0≤n) (h1:n < (ss.length:Int)) (hb:∀ z∈ss,z.length≤b):∃ z:Str,atI (ss.map V.str) n=some (.str z)∧z.length≤b:=by
  have hk:n.toNat < ss.length:=by omega
  have e:=atI_nat (xs:=ss.map V.str) (j:=n.toNat) (v:=.str ss[n.toNat]) (by rw [List.getElem?_map,List.getElem?_eq_getElem hk];rfl)
  rw [show ((n.toNat:Nat):Int)=n by omega] at e
  exact ⟨_,e,hb _ (List.getElem_mem hk)⟩
theorem sign_at {z:Str} {n:Int} (h0:0≤n) (h1:n < (z.length:Int)):∃ c,atI z.cps.toList n=some c:=by
  have hk:n.toNat < z.cps.toList.length:=by rw [cps_len];omega
  have e:=atI_nat (xs:=z.cps.toList) (j:=n.toNat) (List.getElem?_eq_getElem hk)
  rw [show ((n.toNat:Nat):Int)=n by omega] at e
  exact ⟨_,e⟩
section
variable {P:Program} {w:World} {K:PySem.W.Frag} {mg:Str→Option Value} {base:Heap} {k:Nat}
def sp_lwords:Sp:=fun vs H Q _=>∃ (p:Addr) (c:Int),vs=[.ref p]∧Deck H p c∧0≤c∧c < 900000∧∀ (l:Addr) (ws:List Str) (H':Hp),Kd p (c+9000) H H'→H' l=some (.lst (ws.map V.str))→1≤ws.length→tot ws≤2600→(∀ w∈ws,w.length≤181)→Q (.ref l) H'
theorem has_lwords (D:Df K mg "_law_words" s_law_words) (B:Blt7 mg) (G_law_take:Has P w K mg base "_law_take" k ["hand", "many"] sp_take):Has P w K mg base "_law_words" (k+1) ["hand"] sp_lwords:=by
  refine D.has sc_law_words (fun _ _ _ _ _ _ us hl=>match us,hl with | [_],_=>rfl) (fun vs H Q E h=>by obtain ⟨p,c,rfl,_⟩:=h;rfl) (fun f cdv A outer s H vs Q E hr h=>?_)
  obtain ⟨p,c,rfl,hd,cc0,cc1,q⟩:=h
  refine ⟨_,(pss_cons (ps_set (i:=1) sc_law_words.nd rfl (by first | exact Or.inl rfl | exact Or.inr rfl) (pe_lst pa_nil))
  (pss_cons (ps_set (i:=2) sc_law_words.nd rfl (by first | exact Or.inl rfl | exact Or.inr rfl) pe_int)
  (pss_cons (ps_set (i:=3) sc_law_words.nd rfl (by first | exact Or.inl rfl | exact Or.inr rfl) (pe_lst (pa_cons (pe_op op_add pe_int (pe_callH G_law_take hr rfl (pa_cons (pv 0) (pa_cons pe_int pa_nil)))) (pa_cons (pe_op op_add pe_int (pe_callH G_law_take hr rfl (pa_cons (pv 0) (pa_cons pe_int pa_nil)))) (pa_cons (pe_op op_add pe_int (pe_callH G_law_take hr rfl (pa_cons (pv 0) (pa_cons pe_int pa_nil)))) (pa_cons pe_int pa_nil))))))
  (pss_cons (ps_for PassesOwn.never rfl (pi_range1 rfl B.range (pa_cons (pe_ix ix_list (pv 3) (pe_callH G_law_take hr rfl (pa_cons (pv 0) (pa_cons pe_int pa_nil))) (fun _ _=>rfl)) pa_nil)) (pg_name (i:=4) sc_law_words.nd rfl (by first | exact Or.inl rfl | exact Or.inr rfl))
  (pss_cons (ps_set (i:=5) sc_law_words.nd rfl (by first | exact Or.inl rfl | exact Or.inr rfl) (pe_ix ix_str pe_str (pe_callH G_law_take hr rfl (pa_cons (pv 0) (pa_cons pe_int pa_nil))) (fun _ _=>rfl)))
  (pss_cons (ps_set (i:=6) sc_law_words.nd rfl (by first | exact Or.inl rfl | exact Or.inr rfl) (pe_callB (call_min3 rfl) rfl B.min bt_min (pa_cons (pv 4) (pa_cons (pv 2) (pa_cons (pe_ix ix_list (pe_lst (pa_cons (pe_callH G_law_take hr rfl (pa_cons (pv 0) (pa_cons pe_int pa_nil))) (pa_cons pe_int (pa_cons pe_int (pa_cons pe_int (pa_cons pe_int pa_nil)))))) (pe_callH G_law_take hr rfl (pa_cons (pv 0) (pa_cons pe_int pa_nil))) (fun _ _=>rfl)) pa_nil)))))
  (pss_cons (ps_set (i:=2) sc_law_words.nd rfl (by first | exact Or.inl rfl | exact Or.inr rfl) (pe_op op_sub (pv 2) (pv 6)))
  (pss_cons (ps_for PassesOwn.never rfl (pi_range1 rfl B.range (pa_cons (pv 6) pa_nil)) (pg_name (i:=7) sc_law_words.nd rfl (by first | exact Or.inl rfl | exact Or.inr rfl))
  (pss_one (ps_set (i:=5) sc_law_words.nd rfl (by first | exact Or.inl rfl | exact Or.inr rfl) (pe_op op_add_str (pe_op op_add_str (pv 5) pe_str) (pe_callTy call_str_int rfl B.str_ bt_str (pa_cons (pe_ix ix_list (pe_lst (pa_cons (pe_callH G_law_take hr rfl (pa_cons (pv 0) (pa_cons (pv 4) pa_nil))) (pa_cons (pe_op op_sub (pv 4) pe_int) pa_nil))) (pe_callH G_law_take hr rfl (pa_cons (pv 0) (pa_cons pe_int pa_nil))) (fun _ _=>rfl)) pa_nil))))))
  (pss_one (ps_expr (pe_bm PySem.F.plainAttrs_list PySem.F.slot_list_append PySem.F.type_list_append mt_append (pv 1) (pa_cons (pv 5) pa_nil)))))))))
  (pss_one (ps_ret (pv 1))))))),?_⟩
  have hl:(Str.ofString "abcdefghijklmnopqrstuvwxyz").length=26:=by decide +kernel
  refine ⟨(by show 0≤sizeLine;decide),fun u hu0=>?_⟩
  have hup:u≠p:=hd.ne hu0
  have kd0:Kd p c H (upd H u (.lst [])):=(Kd.refl hd).new hu0
  have u0:upd H u (.lst []) u=some (.lst []):=upd_same
  generalize upd H u (.lst [])=HA at kd0 u0
  refine ⟨_,rfl,p,4,c,rfl,kd0.deck,by omega,by decide,by decide,fun n1 H1 a0 a1 kd1=>?_⟩
  refine ⟨_,_,rfl,rfl,_,rfl,p,9,_,rfl,kd1.deck,by omega,by decide,by decide,fun n2 H2 b0 b1 kd2=>?_⟩
  refine ⟨_,_,rfl,rfl,_,rfl,p,60,_,rfl,kd2.deck,by omega,by decide,by decide,fun n3 H3 d0 d1 kd3=>?_⟩
  refine ⟨_,_,rfl,rfl,(by show 4≤sizeLine;decide),fun r1 hr1=>?_⟩
  have kq3:=(((kd1.trans kd2).trans kd3).new (o:=.lst [.int (1+n1),.int (1+n2),.int (1+n3),.int 60]) hr1)
  have r1p:r1≠p:=kd3.deck.ne hr1
  have hr:upd H3 r1 (.lst [.int (1+n1),.int (1+n2),.int (1+n3),.int 60]) r1=some (.lst ([1+n1,1+n2,1+n3,60].map V.int)):=upd_same
  generalize upd H3 r1 (.lst [.int (1+n1),.int (1+n2),.int (1+n3),.int 60])=H4 at kq3 hr
  refine ⟨_,rfl,_,rfl,p,4,_,rfl,kq3.deck,by omega,by decide,by decide,fun n4 H5 e0 e1 kd5=>?_⟩
  obtain ⟨many,hmany,mn1,mn60⟩:=menu (us:=[1+n1,1+n2,1+n3,60]) (n:=n4) (lo:=1) (hi:=60) e0 e1 (by
    intro z hz
    simp only [List.mem_cons,List.not_mem_nil,or_false] at hz
    rcases hz with rfl | rfl | rfl | rfl <;> omega)
  refine ⟨r1,_,_,_,rfl,rfl,SqL.of (kd5.keep _ _ r1p hr),hmany,?_⟩
  have hu5:H5 u=some (.lst []):=kd5.keep _ _ hup (kq3.keep _ _ hup u0)
  have kk5:Kd p (c+4) H H5:=((kd0.trans kq3).trans kd5).mono (by omega)
  refine ⟨_,rfl,by omega,by omega,?_⟩
  refine for_range (lo:=0) (n:=many.toNat) (fun i σ H'=>∃ (ws:List Str) (room:Int) (o4 o5 o6 o7:Option V),
      σ=[some (.ref p),some (.ref u),some (.int room),some (.ref r1),o4,o5,o6,o7]∧Kd p (c+4+130 * i) H H'∧H' u=some (.lst (ws.map V.str))∧ws.length=i∧0≤room∧((tot ws:Nat):Int)≤2 * i+3 * (800 - room)∧∀ w∈ws,w.length≤181)
    ⟨[],800,none,none,none,none,rfl,kk5.mono (by omega),hu5,rfl,by omega,by show ((0:Nat):Int)≤_;omega,by simp⟩ ?_ ?_
  · rintro i σ H' hi ⟨ws,room,o4,o5,o6,o7,rfl,kd,hu,wlen,rm0,tt,wb⟩
    refine ⟨_,rfl,p,26,_,rfl,kd.deck,by omega,by decide,by decide,fun n G1 p0 p1 g1=>?_⟩
    obtain ⟨ch,hch,chl⟩:=alph_at p0 p1
    refine ⟨_,_,_,rfl,rfl,by rw [hl];exact line_le (by decide),hch,?_⟩
    refine ⟨_,rfl,_,rfl,_,rfl,p,4,_,rfl,g1.deck,by omega,by decide,by decide,fun m1 G2 p2 p3 g2=>?_⟩
    refine ⟨(by show 5≤sizeLine;decide),fun l1 hl1=>?_⟩
    have k2:=((kd.trans g1).trans g2).new (o:=.lst [.int m1,.int 1,.int 0,.int 2,.int 60]) hl1
    have l1p:l1≠p:=g2.deck.ne hl1
    have hl1':upd G2 l1 (.lst [.int m1,.int 1,.int 0,.int 2,.int 60]) l1=some (.lst ([m1,1,0,2,60].map V.int)):=upd_same
    have sG:Same G2 (upd G2 l1 (.lst [.int m1,.int 1,.int 0,.int 2,.int 60])):=(Same.refl G2).new hl1
    generalize upd G2 l1 (.lst [.int m1,.int 1,.int 0,.int 2,.int 60])=G3 at k2 hl1' sG
    refine ⟨_,rfl,p,5,_,rfl,k2.deck,by omega,by decide,by decide,fun m2 G4 p4 p5 g4=>?_⟩
    obtain ⟨v,hv,v0,v1⟩:=menu (us:=[m1,1,0,2,60]) (n:=m2) (lo:=0) (hi:=60) p4 p5 (by
      intro z hz
      simp only [List.mem_cons,List.not_mem_nil,or_false] at hz
      rcases hz with rfl | rfl | rfl | rfl | rfl <;> omega)
    refine ⟨l1,_,_,_,rfl,rfl,SqL.of (g4.keep _ _ l1p hl1'),hv,_,_,_,rfl,?_⟩
    obtain ⟨sz,esz,z0,z1,z2,z3⟩:∃ sz:Int,(if room < 0+(i:Int) then (if v < room then v else room) else if v < 0+(i:Int) then v else 0+(i:Int))=sz∧0≤sz∧sz≤(i:Int)∧sz≤room∧sz≤60:=by
      refine ⟨_,rfl,?_,?_,?_,?_⟩ <;> (split <;> split <;> omega)
    rw [esz]
    refine ⟨_,rfl,_,rfl,_,_,rfl,rfl,?_⟩
    have k4:=(k2.trans g4).mono (show _≤c+4+130 * (i:Int)+3 by omega)
    have hu4:G4 u=some (.lst (ws.map V.str)):=g4.keep _ _ hup (sG _ _ (g2.keep _ _ hup (g1.keep _ _ hup hu)))
    refine ⟨_,rfl,_,rfl,by omega,by omega,?_⟩
    refine for_range (lo:=0) (n:=sz.toNat) (fun j σ H''=>∃ (wd:Str) (o7':Option V),σ=[some (.ref p),some (.ref u),some (.int (room - sz)),some (.ref r1),some (.int (0+(i:Int))),some (.str wd),some (.int sz),o7']∧Kd p (c+4+130 * i+3+2 * j) G4 H''∧wd.length≤1+3 * j)
      ⟨_,o7,rfl,(Kd.refl k4.deck).mono (by omega),by show 1≤_;omega⟩ ?_ ?_
    · rintro j σ H'' hj ⟨wd,o7',rfl,kd',wl⟩
      have ip:0 < (i:Int):=by omega
      refine ⟨_,rfl,_,_,rfl,rfl,line_le (by show wd.length+1≤_;omega),?_⟩
      refine ⟨_,rfl,_,rfl,p,_,_,rfl,kd'.deck,by omega,by omega,by omega,fun n G6 n0 n1 e6=>?_⟩
      refine ⟨_,rfl,_,_,rfl,rfl,(by show 2≤sizeLine;decide),fun l3 hl3=>?_⟩
      have k6:=(kd'.trans e6).new (o:=.lst [.int n,.int (0+(i:Int) - 1)]) hl3
      have l3p:l3≠p:=e6.deck.ne hl3
      have h3:upd G6 l3 (.lst [.int n,.int (0+(i:Int) - 1)]) l3=some (.lst ([n,0+(i:Int) - 1].map V.int)):=upd_same
      generalize upd G6 l3 (.lst [.int n,.int (0+(i:Int) - 1)])=G7 at k6 h3
      refine ⟨_,rfl,p,2,_,rfl,k6.deck,by omega,by decide,by decide,fun m G8 r0 r1' e8=>?_⟩
      obtain ⟨vv,hvv,y0,y1⟩:=menu (us:=[n,0+(i:Int) - 1]) (n:=m) (lo:=0) (hi:=59) r0 r1' (by
        intro z hz
        simp only [List.mem_cons,List.not_mem_nil,or_false] at hz
        rcases hz with rfl | rfl <;> omega)
      refine ⟨l3,_,_,_,rfl,rfl,SqL.of (e8.keep _ _ l3p h3),hvv,vv,rfl,log_few (Nat.lt_of_lt_of_le (by omega:vv.natAbs < 60) (by decide)),_,_,rfl,rfl,line_le (by
        have:=nt_two (n:=vv) (by omega) (by omega)
        show (wd++Str.ofString ",").length+(nt vv).length≤_
        rw [len2];show wd.length+1+_≤_;omega),?_⟩
      refine ⟨_,_,rfl,(k6.trans e8).mono (by omega),?_⟩
      have:=nt_two (n:=vv) (by omega) (by omega)
      show ((wd++Str.ofString ",")++nt vv).length≤_
      rw [len2,len2];show wd.length+1+_≤_;omega
    · rintro σ H'' ⟨wd,o7',rfl,kd',wl⟩
      have hu6:=kd'.keep _ _ hup hu4
      refine ⟨_,rfl,.inl ⟨rfl,_,SqL.of hu6⟩,_,rfl,u,_,_,rfl,rfl,hu6,by rw [List.length_map];exact small1000 (by omega),?_⟩
      refine ⟨ws++[wd],room - sz,_,_,_,_,rfl,((k4.trans kd').mono (by omega)).write hu0 hup,by rw [upd_same,List.map_append];rfl,by rw [List.length_append,wlen];rfl,by omega,?_,fun w hw=>?_⟩
      · rw [tot_app]
        have:tot [wd]=wd.length+1:=by simp [tot]
        omega
      · rcases List.mem_append.mp hw with hw | hw
        · exact wb w hw
        · rw [List.mem_singleton.mp hw];omega
  · rintro σ H' ⟨ws,room,o4,o5,o6,o7,rfl,kd,hu,wlen,rm0,tt,wb⟩
    exact ⟨_,rfl,q u ws H' (kd.mono (by omega)) hu (by omega) (by omega) wb⟩
end
end S83
namespace S83
open PySem L2 W7
section
variable {P:Program} {w:World} {K:PySem.W.Frag} {mg:Str→Option Value} {base:Heap} {k:Nat}
def sp_spoilt:Sp:=fun vs H Q _=>∃ (p l:Addr) (c:Int) (ws:List Str) (W:Nat),vs=[.ref p,.ref l]∧Deck H p c∧0≤c∧c < 900000∧H l=some (.lst (ws.map V.str))∧l≠p∧1≤ws.length∧tot ws≤9000∧(∀ x∈ws,x.length≤W)∧W≤9000∧∀ (z:Str) (H':Hp),Kd p (c+10) H H'→z.length≤tot ws+W+410→Q (.str z) H'
theorem has_spoilt (D:Df K mg "_law_spoilt" s_law_spoilt) (B:Blt7 mg) (G_law_take:Has P w K mg base "_law_take" k ["hand", "many"] sp_take):Has P w K mg base "_law_spoilt" (k+1) ["hand", "words"] sp_spoilt:=by
  refine D.has sc_law_spoilt (fun _ _ _ _ _ _ us hl=>match us,hl with | [_,_],_=>rfl) (fun vs H Q E h=>by obtain ⟨p,l,c,ws,W,rfl,_⟩:=h;rfl) (fun f cdv A outer s H vs Q E hr h=>?_)
  obtain ⟨p,l,c,ws,W,rfl,hd,cc0,cc1,hw,lp,w1,w9,wb,W9,q⟩:=h
  refine exw ?_
  refine ⟨_,(w_cons (Pw.mk (ps_set (i:=2) sc_law_spoilt.nd rfl (by first | exact Or.inl rfl | exact Or.inr rfl) (pe_callH G_law_take hr rfl (pa_cons (pv 0) (pa_cons pe_int pa_nil)))))
  (w_cons (Pw.mk (ps_set (i:=3) sc_law_spoilt.nd rfl (by first | exact Or.inl rfl | exact Or.inr rfl) (pe_callH G_law_take hr rfl (pa_cons (pv 0) (pa_cons (pe_callB call_len_seq rfl B.len bt_len (pa_cons (pv 1) pa_nil)) pa_nil)))))
  (w_cons (w_set (i:=4) sc_law_spoilt.nd rfl (by first | exact Or.inl rfl | exact Or.inr rfl) w_str)
  (w_cons (w_set (i:=4) sc_law_spoilt.nd rfl (by first | exact Or.inl rfl | exact Or.inr rfl) (w_op op_add_str (PEw.mk (pv 4)) w_str))
  (w_cons (w_set (i:=5) sc_law_spoilt.nd rfl (by first | exact Or.inl rfl | exact Or.inr rfl) (w_ix ix_list (w_lst (w_acons (PEw.mk (pe_ix ix_str (pv 4) (pe_callH G_law_take hr rfl (pa_cons (pv 0) (pa_cons (pe_callB call_len_str rfl B.len bt_len (pa_cons (pv 4) pa_nil)) pa_nil))) (fun _ _=>rfl))) (w_acons w_str (w_acons w_str (w_acons w_str (w_acons w_str w_anil)))))) (PEw.mk (pe_callH G_law_take hr rfl (pa_cons (pv 0) (pa_cons pe_int pa_nil)))) (fun _ _=>rfl)))
  (w_cons (w_set (i:=6) sc_law_spoilt.nd rfl (by first | exact Or.inl rfl | exact Or.inr rfl) (PEw.mk (pe_bm PySem.F.plainAttrs_str PySem.F.slot_str_join PySem.F.type_str_join mt_join pe_str (pa_cons (pv 1) pa_nil))))
  (w_cons (Pw.mk (ps_set (i:=7) sc_law_spoilt.nd rfl (by first | exact Or.inl rfl | exact Or.inr rfl) (pe_callH G_law_take hr rfl (pa_cons (pv 0) (pa_cons (pe_op op_add (pe_callB call_len_str rfl B.len bt_len (pa_cons (pv 6) pa_nil)) pe_int) pa_nil)))))
  (w_cons (w_set (i:=8) sc_law_spoilt.nd rfl (by first | exact Or.inl rfl | exact Or.inr rfl) (w_lst (w_acons (PEw.mk (pe_callTy call_str_int rfl B.str_ bt_str (pa_cons (pv 3) pa_nil))) (w_acons (PEw.mk (pe_callTy call_str_int rfl B.str_ bt_str (pa_cons (pe_op op_add (pv 3) pe_int) pa_nil))) (w_acons (w_op op_add_str w_str (PEw.mk (pe_callTy call_str_int rfl B.str_ bt_str (pa_cons (pe_callB (call_max2 rfl) rfl B.max bt_max (pa_cons pe_int (pa_cons (pe_op op_sub (pv 3) pe_int) pa_nil))) pa_nil)))) (w_acons w_str (w_acons (PEw.mk (pe_callTy call_str_int rfl B.str_ bt_str (pa_cons (pe_op op_pow pe_int pe_int) pa_nil))) (w_acons w_str (w_acons w_str (w_acons w_str w_anil))))))))))
  (w_cons (Pw.mk (ps_set (i:=8) sc_law_spoilt.nd rfl (by first | exact Or.inl rfl | exact Or.inr rfl) (pe_ix ix_list (pv 8) (pe_callH G_law_take hr rfl (pa_cons (pv 0) (pa_cons pe_int pa_nil))) (fun _ _=>rfl))))
  (w_cons (Pw.mk (ps_if (pt_cmpR op_eq (pv 2) pe_int (nomark _))
  (pss_one (ps_ret (pe_op op_add_str (pe_slice sl_str (pv 6) po_none (po_some (pv 7))) (pe_slice sl_str (pv 6) (po_some (pe_op op_add (pv 7) pe_int)) po_none))))
  pss_nil))
  (w_cons (Pw.mk (ps_if (pt_cmpR op_lt (pv 2) pe_int (nomark _))
  (pss_one (ps_ret (pe_op op_add_str (pe_op op_add_str (pe_slice sl_str (pv 6) po_none (po_some (pv 7))) (pv 5)) (pe_slice sl_str (pv 6) (po_some (pe_op op_sub (pe_op op_add (pv 7) (pv 2)) pe_int)) po_none))))
  pss_nil))
  (w_cons (Pw.mk (ps_set (i:=9) sc_law_spoilt.nd rfl (by first | exact Or.inl rfl | exact Or.inr rfl) (pe_ix ix_list (pv 1) (pv 3) (fun _ _=>rfl))))
  (w_cons (w_set (i:=10) sc_law_spoilt.nd rfl (by first | exact Or.inl rfl | exact Or.inr rfl) (w_lst (w_acons (PEw.mk (pe_lst (pa_cons (pv 9) (pa_cons (pv 9) pa_nil)))) (w_acons (PEw.mk (pe_lst pa_nil)) (w_acons (w_lst (w_acons (w_op op_add_str (w_op op_add_str (PEw.mk (pv 9)) w_str) (PEw.mk (pv 8))) w_anil)) (w_acons (w_lst (w_acons (w_op op_add_str (PEw.mk (pv 9)) (w_op op_mul_str w_str (w_op op_sub (PEw.mk pe_int) (PEw.mk (pe_bm PySem.F.plainAttrs_str PySem.F.slot_str_count PySem.F.type_str_count mt_scount (pv 9) (pa_cons pe_str pa_nil)))))) w_anil)) w_anil))))))
  (w_cons (Pw.mk (ps_if (pt_cmpR op_lt (pv 2) pe_int (nomark _)) (pss_one (ps_ret (pe_bm PySem.F.plainAttrs_str PySem.F.slot_str_join PySem.F.type_str_join mt_join pe_str (pa_cons (pe_op op_cat (pe_op op_cat (pe_slice sl_list (pv 1) po_none (po_some (pv 3))) (pe_ix ix_list (pv 10) (pe_op op_sub (pv 2) pe_int) (fun _ _=>rfl))) (pe_slice sl_list (pv 1) (po_some (pe_op op_add (pv 3) pe_int)) po_none)) pa_nil)))) pss_nil))
  (w_cons (Pw.mk (ps_if (pt_cmpR op_eq (pv 2) pe_int (nomark _)) (pss_one (ps_ret (pe_op op_add_str (pv 6) (pe_op op_mul_str pe_str (pe_op op_sub pe_int (pe_callB call_len_seq rfl B.len bt_len (pa_cons (pv 1) pa_nil))))))) pss_nil))
  (w_one (Pw.mk (ps_ret (pv 6))))))))))))))))))),?_⟩
  have wt:ws.length≤tot ws:=by unfold tot;omega
  refine ⟨_,rfl,p,9,c,rfl,hd,by omega,by decide,by decide,fun way H1 a0 a1 kd1=>?_⟩
  have hw1:=kd1.keep _ _ lp hw
  refine ⟨_,rfl,_,rfl,l,_,rfl,.inl (SqL.of hw1),p,_,_,rfl,kd1.deck,by omega,by rw [List.length_map];omega,by rw [List.length_map];omega,fun at0 H2 b0 b1 kd2=>?_⟩
  rw [List.length_map] at b1
  have hw2:=kd2.keep _ _ lp hw1
  refine ⟨_,rfl,_,_,rfl,rfl,line_le (by decide +kernel),?_⟩
  obtain ⟨S,hS,S1,S2⟩:∃ S:Str,(Str.ofString " !\"#$&'()*+,-./0123456789:;<=>?@ABCDEFGHIJKLMNOPQRSTUVWXYZ[\\]^_`" ++ Str.ofString "abcdefghijklmnopqrstuvwxyz{|}~\n" : Str)=S∧1≤S.length∧S.length≤200:=⟨_,rfl,by decide +kernel,by decide +kernel⟩
  rw [hS]
  refine ⟨_,rfl,_,rfl,_,rfl,_,rfl,line_le (by omega),p,_,_,rfl,kd2.deck,by omega,by omega,by omega,fun s1 H3 c0 c1 kd3=>?_⟩
  obtain ⟨sc,hsc⟩:=sign_at c0 c1
  refine ⟨S,_,_,rfl,rfl,line_le (by omega),hsc,(by show 5≤sizeLine;decide),fun l1 hl1=>?_⟩
  have k3:=((kd1.trans kd2).trans kd3).new (o:=.lst [.str ⟨#[sc]⟩,.str ",", .str "0", .str " ", .str "a"]) hl1
  have l1p:l1≠p:=kd3.deck.ne hl1
  have h1:upd H3 l1 (.lst [.str ⟨#[sc]⟩,.str ",", .str "0", .str " ", .str "a"]) l1=some (.lst (([⟨#[sc]⟩, ",", "0", " ", "a"]:List Str).map V.str)):=upd_same
  have hw3:upd H3 l1 (.lst [.str ⟨#[sc]⟩,.str ",", .str "0", .str " ", .str "a"]) l=some (.lst (ws.map V.str)):=by
    have:=kd3.keep _ _ lp hw2
    rw [upd_ne (ne_of_none this hl1)];exact this
  generalize upd H3 l1 (.lst [.str ⟨#[sc]⟩,.str ",", .str "0", .str " ", .str "a"])=H4 at k3 h1 hw3
  refine ⟨_,rfl,p,5,_,rfl,k3.deck,by omega,by decide,by decide,fun s2 H5 d0 d1 kd5=>?_⟩
  obtain ⟨sg,hsg,sgl⟩:=smenu (ss:=[⟨#[sc]⟩, ",", "0", " ", "a"]) (b:=1) d0 d1 (by
    intro z hz
    simp only [List.mem_cons,List.not_mem_nil,or_false] at hz
    rcases hz with rfl | rfl | rfl | rfl | rfl
    · exact Nat.le_refl 1
    all_goals decide)
  refine ⟨l1,_,_,_,rfl,rfl,SqL.of (kd5.keep _ _ l1p h1),hsg,?_⟩
  have hw5:=kd5.keep _ _ lp hw3
  have k5:=(k3.trans kd5)
  have jl:=join_len 32 ws
  refine ⟨rfl,_,rfl,_,l,ws,rfl,rfl,SqL.of hw5,by
    have e1:(Str.ofString " ").length=1:=rfl
    rw [e1];unfold tot at w9;omega,?_⟩
  rw [show Str.ofString " " = ⟨#[32]⟩ from rfl]
  generalize Txt.join ⟨#[32]⟩ ws=tx at jl
  refine ⟨_,rfl,_,rfl,_,rfl,line_le (by omega),_,_,rfl,rfl,p,_,_,rfl,k5.deck,by omega,by omega,by omega,fun pl H6 e0 e1 kd6=>?_⟩
  have hw6:=kd6.keep _ _ lp hw5
  have k6:=k5.trans kd6
  have small:∀ n:Int,n.natAbs≤10000→n.natAbs < 2 ^ 400:=fun n h=>Nat.lt_of_le_of_lt h (by decide)
  have big:((10:Int) ^ Int.toNat 30).natAbs < 2 ^ 400:=by decide
  have g1:=nt_any (small at0 (by omega))
  have g2:=nt_any (small (at0+1) (by omega))
  have g3:=nt_any (small (if at0 - 1 > 0 then at0 - 1 else 0) (by split <;> omega))
  have g4:=nt_any big
  refine ⟨_,rfl,at0,rfl,log_few (small _ (by omega)),_,rfl,_,_,rfl,rfl,at0+1,rfl,log_few (small _ (by omega)),?_⟩
  refine ⟨_,rfl,_,_,rfl,rfl,_,_,rfl,_,rfl,log_few (small _ (by split <;> omega)),_,_,rfl,rfl,line_le (by
    show 1+(nt (if at0 - 1 > 0 then at0 - 1 else 0)).length≤_;omega),?_⟩
  refine ⟨_,_,rfl,rfl,⟨by decide,by decide,by decide⟩,_,rfl,log_few big,(by show 8≤sizeLine;decide),fun l2 hl2=>?_⟩
  obtain ⟨od,hod,odl⟩:∃ od:List Str,[V.str (Str.ofString (toString at0)),V.str (Str.ofString (toString (at0+1))),V.str (Str.ofString "0" ++ Str.ofString (toString (if at0 - 1 > 0 then at0 - 1 else 0))),V.str (Str.ofString "00"),V.str (Str.ofString (toString ((10:Int) ^ Int.toNat 30))),V.str (Str.ofString "-1"),V.str (Str.ofString "+0"),V.str (Str.ofString "")]=od.map V.str∧od.length=8∧∀ z∈od,z.length≤402:=by
    refine ⟨[nt at0,nt (at0+1),Str.ofString "0" ++ nt (if at0 - 1 > 0 then at0 - 1 else 0),Str.ofString "00", nt ((10:Int) ^ Int.toNat 30),Str.ofString "-1", Str.ofString "+0", Str.ofString ""],rfl,rfl,?_⟩
    intro z hz
    simp only [List.mem_cons,List.not_mem_nil,or_false] at hz
    rcases hz with rfl | rfl | rfl | rfl | rfl | rfl | rfl | rfl
    · omega
    · omega
    · rw [len2];show 1+_≤_;omega
    · decide
    · omega
    · decide
    · decide
    · decide
  have k7:=k6.new (o:=.lst (od.map V.str)) hl2
  have l2p:l2≠p:=kd6.deck.ne hl2
  rw [hod]
  have h2:upd H6 l2 (.lst (od.map V.str)) l2=some (.lst (od.map V.str)):=upd_same
  have hw7:upd H6 l2 (.lst (od.map V.str)) l=some (.lst (ws.map V.str)):=by rw [upd_ne (ne_of_none hw6 hl2)];exact hw6
  generalize upd H6 l2 (.lst (od.map V.str))=H7 at k7 h2 hw7
  refine ⟨_,rfl,_,rfl,p,8,_,rfl,k7.deck,by omega,by decide,by decide,fun o8 H8 f0 f1 kd8=>?_⟩
  obtain ⟨odd,hodd,oddl⟩:=smenu (ss:=od) (b:=402) f0 (by rw [odl.1];exact f1) odl.2
  refine ⟨l2,_,_,_,rfl,rfl,SqL.of (kd8.keep _ _ l2p h2),hodd,?_⟩
  have hw8:=kd8.keep _ _ lp hw7
  have k8:=(k7.trans kd8).mono (show _≤c+10 by omega)
  refine ⟨_,rfl,rfl,_,rfl,ite2 (fun cnd=>?_) (fun cnd=>?_)⟩
  · refine ⟨_,rfl,_,rfl,_,rfl,_,rfl,line_le (by omega),_,rfl,_,rfl,_,_,rfl,rfl,_,rfl,_,rfl,line_le (by omega),?_⟩
    have x1:=cutS_lo (z:=tx) (a:=pl) e0
    have x2:=cutS_hi (z:=tx) (a:=pl+1) (by omega)
    refine ⟨_,_,rfl,rfl,line_le (by omega),q _ _ k8 ?_⟩
    rw [len2];omega
  refine ⟨_,rfl,_,_,rfl,rfl,_,rfl,ite2 (fun cnd2=>?_) (fun cnd2=>?_)⟩
  · have wy:1≤way:=by
      have:¬ way=0:=fun e=>cnd (decide_eq_true (congrArg V.int e))
      omega
    refine ⟨_,rfl,_,rfl,_,rfl,_,rfl,line_le (by omega),_,rfl,?_⟩
    have x1:=cutS_lo (z:=tx) (a:=pl) e0
    have x2:=cutS_hi (z:=tx) (a:=pl+way - 1) (by omega)
    refine ⟨_,_,rfl,rfl,line_le (by omega),_,rfl,_,rfl,_,rfl,_,_,rfl,rfl,_,_,rfl,rfl,_,rfl,_,rfl,line_le (by omega),?_⟩
    refine ⟨_,_,rfl,rfl,line_le (by rw [len2];omega),q _ _ k8 ?_⟩
    rw [len2,len2];omega
  have wy3:3≤way:=by
    have:¬ way < 3:=fun e=>cnd2 (decide_eq_true e)
    omega
  have b2:at0.toNat < ws.length:=by omega
  obtain ⟨wd,hwd⟩:∃ wd,ws[at0.toNat]?=some wd:=⟨_,List.getElem?_eq_getElem b2⟩
  have wdl:=wb wd (List.mem_of_getElem? hwd)
  have hat:atI (ws.map V.str) at0=some (.str wd):=by
    have e:=atI_nat (xs:=ws.map V.str) (j:=at0.toNat) (v:=.str wd) (by rw [List.getElem?_map,hwd];rfl)
    rwa [show ((at0.toNat:Nat):Int)=at0 by omega] at e
  refine ⟨_,rfl,_,rfl,l,_,_,_,rfl,rfl,SqL.of hw8,hat,?_⟩
  refine ⟨_,rfl,_,rfl,(by show 2≤sizeLine;decide),fun m1 hm1=>?_⟩
  have k9:=k8.new (o:=.lst [.str wd,.str wd]) hm1
  have e1:upd H8 m1 (.lst [.str wd,.str wd]) m1=some (.lst ([wd,wd].map V.str)):=upd_same
  have s1:Same H8 (upd H8 m1 (.lst [.str wd,.str wd])):=(Same.refl H8).new hm1
  generalize upd H8 m1 (.lst [.str wd,.str wd])=J1 at k9 e1 s1
  refine ⟨(by show 0≤sizeLine;decide),fun m2 hm2=>?_⟩
  have k10:=k9.new (o:=.lst []) hm2
  have e2:upd J1 m2 (.lst []) m2=some (.lst (([]:List Str).map V.str)):=upd_same
  have s2:Same J1 (upd J1 m2 (.lst [])):=(Same.refl J1).new hm2
  generalize upd J1 m2 (.lst [])=J2 at k10 e2 s2
  refine ⟨_,rfl,_,_,rfl,rfl,line_le (by show wd.length+1≤_;omega),_,rfl,_,_,rfl,rfl,line_le (by rw [len2];show wd.length+1+_≤_;omega),(by show 1≤sizeLine;decide),fun m3 hm3=>?_⟩
  have k11:=k10.new (o:=.lst [.str (wd++Str.ofString "," ++ odd)]) hm3
  have e3:upd J2 m3 (.lst [.str (wd++Str.ofString "," ++ odd)]) m3=some (.lst ([wd++Str.ofString "," ++ odd].map V.str)):=upd_same
  have s3:Same J2 (upd J2 m3 (.lst [.str (wd++Str.ofString "," ++ odd)])):=(Same.refl J2).new hm3
  generalize upd J2 m3 (.lst [.str (wd++Str.ofString "," ++ odd)])=J3 at k11 e3 s3
  have cnt:(0:Int)≤Txt.count wd (Str.ofString ",")∧Txt.count wd (Str.ofString ",")≤9000:=by
    rw [show Str.ofString "," = ⟨#[44]⟩ from rfl,count_one]
    have:=List.count_le_length (a:=44) (l:=wd.cps.toList)
    rw [cps_len] at this
    omega
  refine ⟨_,rfl,_,rfl,rfl,_,_,rfl,rfl,_,_,rfl,rfl,_,_,rfl,rfl,mul_ok (by decide) (by omega) (by omega),?_⟩
  have ml:=mul_len (Str.ofString ",0") (61 - Txt.count wd (Str.ofString ","))
  have ml2:(Txt.mul (Str.ofString ",0") (61 - Txt.count wd (Str.ofString ","))).length≤122:=Nat.le_trans ml (by show 2 * _≤_;omega)
  generalize Txt.mul (Str.ofString ",0") (61 - Txt.count wd (Str.ofString ","))=mu at ml2
  refine ⟨_,_,rfl,rfl,line_le (by omega),(by show 1≤sizeLine;decide),fun m4 hm4=>?_⟩
  have k12:=k11.new (o:=.lst [.str (wd++mu)]) hm4
  have e4:upd J3 m4 (.lst [.str (wd++mu)]) m4=some (.lst ([wd++mu].map V.str)):=upd_same
  have s4:Same J3 (upd J3 m4 (.lst [.str (wd++mu)])):=(Same.refl J3).new hm4
  generalize upd J3 m4 (.lst [.str (wd++mu)])=J4 at k12 e4 s4
  refine ⟨(by show 4≤sizeLine;decide),fun sl hsl=>?_⟩
  have k13:=k12.new (o:=.lst [.ref m1,.ref m2,.ref m3,.ref m4]) hsl
  have e5:upd J4 sl (.lst [.ref m1,.ref m2,.ref m3,.ref m4]) sl=some (.lst [.ref m1,.ref m2,.ref m3,.ref m4]):=upd_same
  have s5:Same J4 (upd J4 sl (.lst [.ref m1,.ref m2,.ref m3,.ref m4])):=(Same.refl J4).new hsl
  generalize upd J4 sl (.lst [.ref m1,.ref m2,.ref m3,.ref m4])=J5 at k13 e5 s5
  have hw13:=s5 _ _ (s4 _ _ (s3 _ _ (s2 _ _ (s1 _ _ hw8))))
  refine ⟨_,rfl,_,_,rfl,rfl,_,rfl,ite2 (fun cnd3=>?_) (fun cnd3=>?_)⟩
  · have wy7:way < 7:=of_decide_eq_true cnd3
    obtain ⟨m,mid,hm,hmid,tm⟩:∃ (m:Addr) (mid:List Str),atI [V.ref m1,V.ref m2,V.ref m3,V.ref m4] (way - 3)=some (.ref m)∧J5 m=some (.lst (mid.map V.str))∧tot mid≤2 * wd.length+405:=by
      have c4:way=3∨way=4∨way=5∨way=6:=by omega
      rcases c4 with rfl | rfl | rfl | rfl
      · exact ⟨m1,_,rfl,s5 _ _ (s4 _ _ (s3 _ _ (s2 _ _ e1))),by simp [tot];omega⟩
      · exact ⟨m2,_,rfl,s5 _ _ (s4 _ _ (s3 _ _ e2)),by simp [tot]⟩
      · refine ⟨m3,_,rfl,s5 _ _ (s4 _ _ e3),?_⟩
        have:(wd++Str.ofString "," ++ odd).length=wd.length+1+odd.length:=by rw [len2,len2];rfl
        simp only [tot,List.map_cons,List.map_nil,List.sum_cons,List.sum_nil,List.length_cons,List.length_nil,this];omega
      · refine ⟨m4,_,rfl,s5 _ _ e4,?_⟩
        have:(wd++mu).length=wd.length+mu.length:=len2 _ _
        simp only [tot,List.map_cons,List.map_nil,List.sum_cons,List.sum_nil,List.length_cons,List.length_nil,this];omega
    have tc:=tot_cut hwd
    have midl:mid.length≤tot mid:=by unfold tot;omega
    refine ⟨rfl,_,rfl,_,rfl,_,rfl,l,_,rfl,SqL.of hw13,fun r1 hr1=>?_⟩
    rw [show (some at0)=some ((at0.toNat:Nat):Int) from congrArg some (by omega),cutV_lo,← List.map_take]
    have k14:=k13.new (o:=.lst ((ws.take at0.toNat).map V.str)) hr1
    have s6:Same J5 (upd J5 r1 (.lst ((ws.take at0.toNat).map V.str))):=(Same.refl J5).new hr1
    have e6:upd J5 r1 (.lst ((ws.take at0.toNat).map V.str)) r1=some (.lst ((ws.take at0.toNat).map V.str)):=upd_same
    generalize upd J5 r1 (.lst ((ws.take at0.toNat).map V.str))=J6 at k14 s6 e6
    refine ⟨_,rfl,_,rfl,_,_,rfl,rfl,sl,_,_,_,rfl,rfl,SqL.of (s6 _ _ e5),hm,?_⟩
    refine ⟨r1,m,_,_,rfl,rfl,e6,s6 _ _ hmid,by rw [List.length_map,List.length_map,List.length_take];exact line_le (by omega),fun r2 hr2=>?_⟩
    rw [← List.map_append]
    have k15:=k14.new (o:=.lst ((ws.take at0.toNat++mid).map V.str)) hr2
    have s7:Same J6 (upd J6 r2 (.lst ((ws.take at0.toNat++mid).map V.str))):=(Same.refl J6).new hr2
    have e7:upd J6 r2 (.lst ((ws.take at0.toNat++mid).map V.str)) r2=some (.lst ((ws.take at0.toNat++mid).map V.str)):=upd_same
    generalize upd J6 r2 (.lst ((ws.take at0.toNat++mid).map V.str))=J7 at k15 s7 e7
    refine ⟨_,rfl,_,rfl,_,_,rfl,rfl,_,rfl,l,_,rfl,SqL.of (s7 _ _ (s6 _ _ hw13)),fun r3 hr3=>?_⟩
    rw [show (some (at0+1))=some ((at0.toNat+1:Nat):Int) from congrArg some (by omega),cutV_hi,← List.map_drop]
    have k16:=k15.new (o:=.lst ((ws.drop (at0.toNat+1)).map V.str)) hr3
    have s8:Same J7 (upd J7 r3 (.lst ((ws.drop (at0.toNat+1)).map V.str))):=(Same.refl J7).new hr3
    have e8:upd J7 r3 (.lst ((ws.drop (at0.toNat+1)).map V.str)) r3=some (.lst ((ws.drop (at0.toNat+1)).map V.str)):=upd_same
    generalize upd J7 r3 (.lst ((ws.drop (at0.toNat+1)).map V.str))=J8 at k16 s8 e8
    refine ⟨r2,r3,_,_,rfl,rfl,s8 _ _ e7,e8,by rw [List.length_map,List.length_map,List.length_append,List.length_take,List.length_drop];exact line_le (by omega),fun r4 hr4=>?_⟩
    rw [← List.map_append]
    have k17:=k16.new (o:=.lst ((ws.take at0.toNat++mid++ws.drop (at0.toNat+1)).map V.str)) hr4
    have tA:tot (ws.take at0.toNat++mid++ws.drop (at0.toNat+1))≤tot ws+W+410:=by rw [tot_app,tot_app];omega
    have jl2:=join_len 32 (ws.take at0.toNat++mid++ws.drop (at0.toNat+1))
    refine ⟨_,r4,_,rfl,rfl,SqL.of upd_same,?_,q _ _ k17 (Nat.le_trans jl2 tA)⟩
    have tB:tot (ws.take at0.toNat++mid++ws.drop (at0.toNat+1))≤20000:=by omega
    unfold tot at tB
    rw [show (⟨#[32]⟩:Str).length=1 from rfl]
    omega
  refine ⟨_,rfl,rfl,_,rfl,ite2 (fun cnd4=>?_) (fun cnd4=>?_)⟩
  · refine ⟨_,rfl,_,rfl,l,_,rfl,.inl (SqL.of hw13),_,_,rfl,rfl,?_⟩
    rw [List.length_map]
    have ml:=mul_len (Str.ofString " z") (61 - (ws.length:Int))
    have ml2:(Txt.mul (Str.ofString " z") (61 - (ws.length:Int))).length≤122:=Nat.le_trans ml (by show 2 * _≤_;omega)
    refine ⟨_,_,rfl,rfl,mul_ok (by decide) (by omega) (by omega),?_⟩
    generalize Txt.mul (Str.ofString " z") (61 - (ws.length:Int))=mu at ml2
    refine ⟨_,_,rfl,rfl,line_le (by omega),q _ _ k13 ?_⟩
    rw [len2];omega
  · exact ⟨_,rfl,q _ _ k13 (by omega)⟩
end
end S83
namespace S83
open PySem L2 W7
theorem bt_ValueError:bootBuiltins "ValueError" = some (.type "ValueError"):=by decide +kernel
structure Exs (K:PySem.W.Frag) (mg:Str→Option Value) extends Ex1 K mg where
  c_UpError:Addr
  m_UpError:mg "UpError" = some (.ref c_UpError)
  c_NoChange:Addr
  m_NoChange:mg "NoChange" = some (.ref c_NoChange)
  c_NoCover:Addr
  m_NoCover:mg "NoCover" = some (.ref c_NoCover)
  c_NoLeaf:Addr
  m_NoLeaf:mg "NoLeaf" = some (.ref c_NoLeaf)
  c_NoLetter:Addr
  m_NoLetter:mg "NoLetter" = some (.ref c_NoLetter)
  c_NoLine:Addr
  m_NoLine:mg "NoLine" = some (.ref c_NoLine)
  c_NoNumber:Addr
  m_NoNumber:mg "NoNumber" = some (.ref c_NoNumber)
  c_NoPattern:Addr
  m_NoPattern:mg "NoPattern" = some (.ref c_NoPattern)
  c_NoPlace:Addr
  m_NoPlace:mg "NoPlace" = some (.ref c_NoPlace)
  c_NoRows:Addr
  m_NoRows:mg "NoRows" = some (.ref c_NoRows)
  c_NoRuns:Addr
  m_NoRuns:mg "NoRuns" = some (.ref c_NoRuns)
  c_NoTree:Addr
  m_NoTree:mg "NoTree" = some (.ref c_NoTree)
  c_NoTries:Addr
  m_NoTries:mg "NoTries" = some (.ref c_NoTries)
  c_NoWord:Addr
  m_NoWord:mg "NoWord" = some (.ref c_NoWord)
  c_TooMany:Addr
  m_TooMany:mg "TooMany" = some (.ref c_TooMany)
  z_NoText:ExK K c_NoText
  u_NoText:PySem.W.exmOne K (.ref c_NoText) (.ref c_UpError)=some true
  n0:PySem.W.kitOne K (.ref c_NoText) (.ref c_NoText)=some true
  nv:PySem.W.kitOne K (.ref c_NoText) (.type "ValueError")=some true
  i0:PySem.W.kitOne K (.ref c_NoText) (.ref c_NoChange)=some false
  i1:PySem.W.kitOne K (.ref c_NoText) (.ref c_NoCover)=some false
  i2:PySem.W.kitOne K (.ref c_NoText) (.ref c_NoLeaf)=some false
  i3:PySem.W.kitOne K (.ref c_NoText) (.ref c_NoLetter)=some false
  i4:PySem.W.kitOne K (.ref c_NoText) (.ref c_NoLine)=some false
  i5:PySem.W.kitOne K (.ref c_NoText) (.ref c_NoNumber)=some false
  i6:PySem.W.kitOne K (.ref c_NoText) (.ref c_NoPattern)=some false
  i7:PySem.W.kitOne K (.ref c_NoText) (.ref c_NoPlace)=some false
  i8:PySem.W.kitOne K (.ref c_NoText) (.ref c_NoRows)=some false
  i9:PySem.W.kitOne K (.ref c_NoText) (.ref c_NoRuns)=some false
  i10:PySem.W.kitOne K (.ref c_NoText) (.ref c_NoTree)=some false
  i11:PySem.W.kitOne K (.ref c_NoText) (.ref c_NoTries)=some false
  i12:PySem.W.kitOne K (.ref c_NoText) (.ref c_NoWord)=some false
  i13:PySem.W.kitOne K (.ref c_NoText) (.ref c_TooMany)=some false
section
variable {P:Program} {w:World} {K:PySem.W.Frag} {mg:Str→Option Value} {base:Heap} {k:Nat}
def sp_lread:Sp:=fun vs H Q _=>∃ x:V,vs=[x]∧((∃ z,x=.str z∧z.length≤9000)∨NoStr H x)∧(∀ z,x=.str z→Good z→∀ (t:Addr) (H':Hp),Same H H'→NetG H' t ((words z).map gk)→Q (.ref t) H')∧((∀ z,x=.str z→¬ Good z)→∀ H',Same H H'→Q (.str "no text") H')
theorem has_lread (EX:Exs K mg) (D:Df K mg "_law_read" s_law_read) (B:Blt7 mg) (G_read_net:HasX P w K mg base "read_net" k ["text"] (sp_readn EX.c_NoText)):Has P w K mg base "_law_read" (k+1) ["thing"] sp_lread:=by
  refine D.has sc_law_read (fun _ _ _ _ _ _ us hl=>match us,hl with | [_],_=>rfl) (fun vs H Q E h=>by obtain ⟨x,rfl,_⟩:=h;rfl) (fun f cdv A outer s H vs Q E hr h=>?_)
  obtain ⟨x,rfl,xx,q1,q2⟩:=h
  refine ⟨_,(pss_cons (ps_set (i:=1) sc_law_read.nd rfl (by first | exact Or.inl rfl | exact Or.inr rfl) pe_non)
  (pss_cons (ps_set (i:=2) sc_law_read.nd rfl (by first | exact Or.inl rfl | exact Or.inr rfl) pe_non)
  (pss_cons (ps_try (fun pn xe E σ0 hx=>(pss_one (ps_set (i:=2) sc_law_read.nd rfl (by first | exact Or.inl rfl | exact Or.inr rfl) (pe_callX G_read_net hx hr rfl (pa_cons (pv 0) pa_nil)))))
  (ph_as rfl EX.m_UpError sc_law_read.nd (i:=3) rfl rfl (fun a=>(pss_one (ps_set (i:=1) sc_law_read.nd rfl (by first | exact Or.inl rfl | exact Or.inr rfl) (pv 3))))))
  (pss_cons (ps_if (pt_cmpR op_isN (pv 1) pe_non (nomark _))
  (pss_one (ps_ret (pv 2)))
  pss_nil)
  (pss_cons (ps_set (i:=4) sc_law_read.nd rfl (by first | exact Or.inl rfl | exact Or.inr rfl) (pe_lst (pa_cons (pe_callB (call_isinstE K) rfl B.isinstance bt_isinstance (pa_cons (pv 1) (pa_cons (pe_glob (x := "NoChange") (v:=.ref EX.c_NoChange) rfl EX.m_NoChange rfl) pa_nil))) (pa_cons (pe_callB (call_isinstE K) rfl B.isinstance bt_isinstance (pa_cons (pv 1) (pa_cons (pe_glob (x := "NoCover") (v:=.ref EX.c_NoCover) rfl EX.m_NoCover rfl) pa_nil))) (pa_cons (pe_callB (call_isinstE K) rfl B.isinstance bt_isinstance (pa_cons (pv 1) (pa_cons (pe_glob (x := "NoLeaf") (v:=.ref EX.c_NoLeaf) rfl EX.m_NoLeaf rfl) pa_nil))) pa_nil)))))
  (pss_cons (ps_expr (pe_bm PySem.F.plainAttrs_list PySem.F.slot_list_extend PySem.F.type_list_extend mt_extend (pv 4) (pa_cons (pe_lst (pa_cons (pe_callB (call_isinstE K) rfl B.isinstance bt_isinstance (pa_cons (pv 1) (pa_cons (pe_glob (x := "NoLetter") (v:=.ref EX.c_NoLetter) rfl EX.m_NoLetter rfl) pa_nil))) (pa_cons (pe_callB (call_isinstE K) rfl B.isinstance bt_isinstance (pa_cons (pv 1) (pa_cons (pe_glob (x := "NoLine") (v:=.ref EX.c_NoLine) rfl EX.m_NoLine rfl) pa_nil))) (pa_cons (pe_callB (call_isinstE K) rfl B.isinstance bt_isinstance (pa_cons (pv 1) (pa_cons (pe_glob (x := "NoNumber") (v:=.ref EX.c_NoNumber) rfl EX.m_NoNumber rfl) pa_nil))) pa_nil)))) pa_nil)))
  (pss_cons (ps_expr (pe_bm PySem.F.plainAttrs_list PySem.F.slot_list_extend PySem.F.type_list_extend mt_extend (pv 4) (pa_cons (pe_lst (pa_cons (pe_callB (call_isinstE K) rfl B.isinstance bt_isinstance (pa_cons (pv 1) (pa_cons (pe_glob (x := "NoPattern") (v:=.ref EX.c_NoPattern) rfl EX.m_NoPattern rfl) pa_nil))) (pa_cons (pe_callB (call_isinstE K) rfl B.isinstance bt_isinstance (pa_cons (pv 1) (pa_cons (pe_glob (x := "NoPlace") (v:=.ref EX.c_NoPlace) rfl EX.m_NoPlace rfl) pa_nil))) (pa_cons (pe_callB (call_isinstE K) rfl B.isinstance bt_isinstance (pa_cons (pv 1) (pa_cons (pe_glob (x := "NoRows") (v:=.ref EX.c_NoRows) rfl EX.m_NoRows rfl) pa_nil))) pa_nil)))) pa_nil)))
  (pss_cons (ps_expr (pe_bm PySem.F.plainAttrs_list PySem.F.slot_list_extend PySem.F.type_list_extend mt_extend (pv 4) (pa_cons (pe_lst (pa_cons (pe_callB (call_isinstE K) rfl B.isinstance bt_isinstance (pa_cons (pv 1) (pa_cons (pe_glob (x := "NoRuns") (v:=.ref EX.c_NoRuns) rfl EX.m_NoRuns rfl) pa_nil))) (pa_cons (pe_callB (call_isinstE K) rfl B.isinstance bt_isinstance (pa_cons (pv 1) (pa_cons (pe_glob (x := "NoTree") (v:=.ref EX.c_NoTree) rfl EX.m_NoTree rfl) pa_nil))) (pa_cons (pe_callB (call_isinstE K) rfl B.isinstance bt_isinstance (pa_cons (pv 1) (pa_cons (pe_glob (x := "NoTries") (v:=.ref EX.c_NoTries) rfl EX.m_NoTries rfl) pa_nil))) pa_nil)))) pa_nil)))
  (pss_cons (ps_expr (pe_bm PySem.F.plainAttrs_list PySem.F.slot_list_extend PySem.F.type_list_extend mt_extend (pv 4) (pa_cons (pe_lst (pa_cons (pe_callB (call_isinstE K) rfl B.isinstance bt_isinstance (pa_cons (pv 1) (pa_cons (pe_glob (x := "NoWord") (v:=.ref EX.c_NoWord) rfl EX.m_NoWord rfl) pa_nil))) (pa_cons (pe_callB (call_isinstE K) rfl B.isinstance bt_isinstance (pa_cons (pv 1) (pa_cons (pe_glob (x := "TooMany") (v:=.ref EX.c_TooMany) rfl EX.m_TooMany rfl) pa_nil))) pa_nil))) pa_nil)))
  (pss_cons (ps_if (PW.pt (pw_or (pt_cmpR op_in_seq pe_bl (pv 4) (by with_unfolding_all rfl)) (pw_or (pt_not (pt_val (pe_callB (call_isinstE K) rfl B.isinstance bt_isinstance (pa_cons (pv 1) (pa_cons (pe_glob (x := "NoText") (v:=.ref EX.c_NoText) rfl EX.m_NoText rfl) pa_nil))))) (pw_or1 (pt_not (pt_val (pe_callB (call_isinstEB K) rfl B.isinstance bt_isinstance (pa_cons (pv 1) (pa_cons (pe_bltn (v:=.ty "ValueError") rfl B.ValueError_ bt_ValueError rfl) pa_nil)))))))))
  (pss_one (ps_ret pe_str))
  pss_nil)
  (pss_one (ps_ret pe_str)))))))))))),?_⟩
  refine ⟨rfl,_,rfl,x,rfl,xx,fun z e g t H1 s1 n1=>?_,fun nb a H1 s1 ha=>?_⟩
  · refine ⟨_,rfl,rfl,_,rfl,iteT ?_⟩
    exact ⟨_,rfl,q1 z e g t H1 s1 n1⟩
  refine ⟨a,EX.c_NoText,rfl,rfl,EX.u_NoText,?_⟩
  have sA:Same H (upd H1 a (excO a EX.c_NoText)):=s1.new ha
  have hA:upd H1 a (excO a EX.c_NoText) a=some (excO a EX.c_NoText):=upd_same
  generalize upd H1 a (excO a EX.c_NoText)=HA at sA hA
  refine ⟨_,rfl,?_⟩
  refine ⟨_,rfl,rfl,_,rfl,L2.iteB (decide_eq_false (by intro e;cases e)) ?_⟩
  refine ⟨_,rfl,a,EX.c_NoText,_,false,rfl,hA,EX.z_NoText,EX.i0,_,rfl,a,EX.c_NoText,_,false,rfl,hA,EX.z_NoText,EX.i1,_,rfl,a,EX.c_NoText,_,false,rfl,hA,EX.z_NoText,EX.i2,(by show 3≤sizeLine;decide),fun l hl=>?_⟩
  have fl:H l=none:=sA.free hl
  have k0:upd HA l (.lst [.bl false,.bl false,.bl false]) l=some (.lst ((List.replicate 3 false).map V.bl)):=upd_same
  have t0:Same HA (upd HA l (.lst [.bl false,.bl false,.bl false])):=(Same.refl HA).new hl
  replace hA:=t0 _ _ hA
  replace sA:=sA.trans t0
  generalize upd HA l (.lst [.bl false,.bl false,.bl false])=G0 at k0 sA hA
  refine ⟨_,rfl,.inl ⟨rfl,_,SqL.of k0⟩,_,rfl,a,EX.c_NoText,_,false,rfl,hA,EX.z_NoText,EX.i3,_,rfl,a,EX.c_NoText,_,false,rfl,hA,EX.z_NoText,EX.i4,_,rfl,a,EX.c_NoText,_,false,rfl,hA,EX.z_NoText,EX.i5,(by show 3≤sizeLine;decide),fun b0 hb0=>?_⟩
  have x0:Same G0 (upd G0 b0 (.lst [.bl false,.bl false,.bl false])):=(Same.refl G0).new hb0
  refine ⟨l,b0,_,_,rfl,rfl,x0 _ _ k0,upd_same,(by show 6≤sizeLine;decide),?_⟩
  replace sA:=(sA.trans x0).write (o:=.lst ((List.replicate 6 false).map V.bl)) fl
  have y0:a≠l:=ne_of hA k0 (by intro z;cases z)
  replace hA:upd (upd G0 b0 (.lst [.bl false,.bl false,.bl false])) l (.lst ((List.replicate 6 false).map V.bl)) a=some (excO a EX.c_NoText):=by rw [upd_ne y0];exact x0 _ _ hA
  have k1:upd (upd G0 b0 (.lst [.bl false,.bl false,.bl false])) l (.lst ((List.replicate 6 false).map V.bl)) l=some (.lst ((List.replicate 6 false).map V.bl)):=upd_same
  show (fun HH=>_) (upd (upd G0 b0 (.lst [.bl false,.bl false,.bl false])) l (.lst ((List.replicate 6 false).map V.bl)))
  generalize upd (upd G0 b0 (.lst [.bl false,.bl false,.bl false])) l (.lst ((List.replicate 6 false).map V.bl))=G1 at sA hA k1
  refine ⟨_,rfl,.inl ⟨rfl,_,SqL.of k1⟩,_,rfl,a,EX.c_NoText,_,false,rfl,hA,EX.z_NoText,EX.i6,_,rfl,a,EX.c_NoText,_,false,rfl,hA,EX.z_NoText,EX.i7,_,rfl,a,EX.c_NoText,_,false,rfl,hA,EX.z_NoText,EX.i8,(by show 3≤sizeLine;decide),fun b1 hb1=>?_⟩
  have x1:Same G1 (upd G1 b1 (.lst [.bl false,.bl false,.bl false])):=(Same.refl G1).new hb1
  refine ⟨l,b1,_,_,rfl,rfl,x1 _ _ k1,upd_same,(by show 9≤sizeLine;decide),?_⟩
  replace sA:=(sA.trans x1).write (o:=.lst ((List.replicate 9 false).map V.bl)) fl
  have y1:a≠l:=ne_of hA k1 (by intro z;cases z)
  replace hA:upd (upd G1 b1 (.lst [.bl false,.bl false,.bl false])) l (.lst ((List.replicate 9 false).map V.bl)) a=some (excO a EX.c_NoText):=by rw [upd_ne y1];exact x1 _ _ hA
  have k2:upd (upd G1 b1 (.lst [.bl false,.bl false,.bl false])) l (.lst ((List.replicate 9 false).map V.bl)) l=some (.lst ((List.replicate 9 false).map V.bl)):=upd_same
  show (fun HH=>_) (upd (upd G1 b1 (.lst [.bl false,.bl false,.bl false])) l (.lst ((List.replicate 9 false).map V.bl)))
  generalize upd (upd G1 b1 (.lst [.bl false,.bl false,.bl false])) l (.lst ((List.replicate 9 false).map V.bl))=G2 at sA hA k2
  refine ⟨_,rfl,.inl ⟨rfl,_,SqL.of k2⟩,_,rfl,a,EX.c_NoText,_,false,rfl,hA,EX.z_NoText,EX.i9,_,rfl,a,EX.c_NoText,_,false,rfl,hA,EX.z_NoText,EX.i10,_,rfl,a,EX.c_NoText,_,false,rfl,hA,EX.z_NoText,EX.i11,(by show 3≤sizeLine;decide),fun b2 hb2=>?_⟩
  have x2:Same G2 (upd G2 b2 (.lst [.bl false,.bl false,.bl false])):=(Same.refl G2).new hb2
  refine ⟨l,b2,_,_,rfl,rfl,x2 _ _ k2,upd_same,(by show 12≤sizeLine;decide),?_⟩
  replace sA:=(sA.trans x2).write (o:=.lst ((List.replicate 12 false).map V.bl)) fl
  have y2:a≠l:=ne_of hA k2 (by intro z;cases z)
  replace hA:upd (upd G2 b2 (.lst [.bl false,.bl false,.bl false])) l (.lst ((List.replicate 12 false).map V.bl)) a=some (excO a EX.c_NoText):=by rw [upd_ne y2];exact x2 _ _ hA
  have k3:upd (upd G2 b2 (.lst [.bl false,.bl false,.bl false])) l (.lst ((List.replicate 12 false).map V.bl)) l=some (.lst ((List.replicate 12 false).map V.bl)):=upd_same
  show (fun HH=>_) (upd (upd G2 b2 (.lst [.bl false,.bl false,.bl false])) l (.lst ((List.replicate 12 false).map V.bl)))
  generalize upd (upd G2 b2 (.lst [.bl false,.bl false,.bl false])) l (.lst ((List.replicate 12 false).map V.bl))=G3 at sA hA k3
  refine ⟨_,rfl,.inl ⟨rfl,_,SqL.of k3⟩,_,rfl,a,EX.c_NoText,_,false,rfl,hA,EX.z_NoText,EX.i12,_,rfl,a,EX.c_NoText,_,false,rfl,hA,EX.z_NoText,EX.i13,(by show 2≤sizeLine;decide),fun b3 hb3=>?_⟩
  have x3:Same G3 (upd G3 b3 (.lst [.bl false,.bl false])):=(Same.refl G3).new hb3
  refine ⟨l,b3,_,_,rfl,rfl,x3 _ _ k3,upd_same,(by show 14≤sizeLine;decide),?_⟩
  replace sA:=(sA.trans x3).write (o:=.lst ((List.replicate 14 false).map V.bl)) fl
  have y3:a≠l:=ne_of hA k3 (by intro z;cases z)
  replace hA:upd (upd G3 b3 (.lst [.bl false,.bl false])) l (.lst ((List.replicate 14 false).map V.bl)) a=some (excO a EX.c_NoText):=by rw [upd_ne y3];exact x3 _ _ hA
  have k4:upd (upd G3 b3 (.lst [.bl false,.bl false])) l (.lst ((List.replicate 14 false).map V.bl)) l=some (.lst ((List.replicate 14 false).map V.bl)):=upd_same
  show (fun HH=>_) (upd (upd G3 b3 (.lst [.bl false,.bl false])) l (.lst ((List.replicate 14 false).map V.bl)))
  generalize upd (upd G3 b3 (.lst [.bl false,.bl false])) l (.lst ((List.replicate 14 false).map V.bl))=G4 at sA hA k4
  refine ⟨_,rfl,l,_,rfl,.inl (SqL.of k4),rfl,rfl,_,rfl,iteF ?_⟩
  refine ⟨_,rfl,a,EX.c_NoText,_,true,rfl,hA,EX.z_NoText,EX.n0,_,rfl,iteF ?_⟩
  refine ⟨_,rfl,a,EX.c_NoText, "ValueError", true,rfl,hA,EX.z_NoText,EX.nv,_,rfl,iteF ?_⟩
  exact q2 nb _ sA
end
end S83
namespace S83
open PySem L2 W7
def knD (kn:GKnot):PyData:=.tuple [.str kn.1,.tuple (kn.2.map .int)]
theorem knots_td {H:Hp}:∀ {as:List Addr} {net:List GKnot},GKs H as net→Tds H (as.map V.ref) (net.map knD)
  | [],[],_=>.nil
  | [],_ :: _,h=>by have:=h.1;cases this
  | _ :: _,[],h=>by have:=h.1;cases this
  | a :: as,kn :: net,h=>by
    obtain ⟨b,e1,e2⟩:=h.2 0 a kn rfl rfl
    exact .cons (.tup e1 (.cons (.str _) (.cons (.tup e2 (Tds.ints _)) .nil))) (knots_td ⟨by have:=h.1;simpa using this,fun i a kn x y=>h.2 (i+1) a kn (by simpa using x) (by simpa using y)⟩)
theorem net_td {H:Hp} {t:Addr} {net:List GKnot} (h:NetG H t net):Td H (.ref t) (.tuple (net.map knD)):=let ⟨_,e,k⟩:=h;.tup e (knots_td k)
theorem net_fit {z:Str} (g:Good z):Fit (.tuple (((words z).map gk).map knD)):=by
  have each:∀ d∈((words z).map gk).map knD,Gd false true 2600 2 d:=fun d hd=>by
    obtain ⟨kn,hk,rfl⟩:=List.mem_map.mp hd
    obtain ⟨w,hw,rfl⟩:=List.mem_map.mp hk
    obtain ⟨j,hj⟩:=List.getElem?_of_mem hw
    have kb:=(g.2 j w hj).2
    have jl:=(List.getElem?_eq_some_iff.mp hj).1
    have g1:=g.1
    unfold kB at kb
    simp only [Bool.and_eq_true,decide_eq_true_eq] at kb
    obtain ⟨ol,few,al⟩:=kb
    unfold oneL at ol
    rw [Bool.and_eq_true] at ol
    have l1:(gk w).1.cps.size=1:=of_decide_eq_true ol.2
    have gs:Gd false true (gk w).1.cps.size 0 (.str (gk w).1):=Gd.str fun c hc=>by
      have:=List.all_eq_true.mp ol.1 c hc
      unfold lwB at this
      rw [Bool.and_eq_true] at this
      have:=of_decide_eq_true this.2
      omega
    have gi:Gs false true ((41+1) * ((gk w).2.map PyData.int).length) 0 ((gk w).2.map PyData.int):=Gs.all fun d hd=>by
      obtain ⟨n,hn,rfl⟩:=List.mem_map.mp hd
      have:=List.all_eq_true.mp al n hn
      simp only [Bool.and_eq_true,decide_eq_true_eq] at this
      exact Gd.int (Nat.lt_of_lt_of_le (by omega:n.natAbs < 100) (by decide))
    rw [List.length_map] at gi
    exact (Gd.tup (Gs.cons (gs.mono (Nat.le_refl _) (Nat.zero_le 1)) (Gs.one (Gd.tup gi)))).mono (by omega) (Nat.le_refl _)
  have:=Gd.tup (Gs.all each)
  rw [List.length_map,List.length_map] at this
  have g1:=g.1
  refine this.fit (.inl rfl) ?_ (by omega)
  omega
theorem ne_txt {H:Hp} {p l:Addr} {c:Int} {ws:List Str} (d:Deck H p c) (h:H l=some (.lst (ws.map V.str))) (w1:1≤ws.length):l≠p:=ne_deck d h fun x y w z=>by
  injection z with z
  cases ws with
  | nil=>cases z
  | cons s r=>cases z
def Odd (H:Hp) (v:V):Prop:=NoStr H v∧∃ d,Td H v d∧Fit d
theorem Odd.same {H H':Hp} {v:V} (h:Odd H v) (s:Same H H'):Odd H' v:=let ⟨a,d,b,c⟩:=h;⟨a.same s,d,b.same s,c⟩
def dA:PyData:=.str (Str.ofString "a")
theorem fit1:Fit .none:=⟨by decide +kernel,by decide +kernel,by decide +kernel,by decide +kernel,.inl (by decide +kernel)⟩
theorem fit2:Fit (.bool true):=⟨by decide +kernel,by decide +kernel,by decide +kernel,by decide +kernel,.inl (by decide +kernel)⟩
theorem fit3:Fit (.int 0):=⟨by decide +kernel,by decide +kernel,by decide +kernel,by decide +kernel,.inl (by decide +kernel)⟩
theorem fit4:Fit (.int 7):=⟨by decide +kernel,by decide +kernel,by decide +kernel,by decide +kernel,.inl (by decide +kernel)⟩
theorem fit5:Fit (.int ((10:Int) ^ Int.toNat 59)):=⟨by decide +kernel,by decide +kernel,by decide +kernel,by decide +kernel,.inl (by decide +kernel)⟩
theorem fit6:Fit (.tuple []):=⟨by decide +kernel,by decide +kernel,by decide +kernel,by decide +kernel,.inl (by decide +kernel)⟩
theorem fit7:Fit (.list []):=⟨by decide +kernel,by decide +kernel,by decide +kernel,by decide +kernel,.inl (by decide +kernel)⟩
theorem fit8:Fit (.list [dA]):=⟨by decide +kernel,by decide +kernel,by decide +kernel,by decide +kernel,.inl (by decide +kernel)⟩
theorem fit9:Fit (.tuple [dA]):=⟨by decide +kernel,by decide +kernel,by decide +kernel,by decide +kernel,.inl (by decide +kernel)⟩
theorem fit10:Fit (.tuple [.tuple [dA,.tuple []]]):=⟨by decide +kernel,by decide +kernel,by decide +kernel,by decide +kernel,.inl (by decide +kernel)⟩
theorem fit11:Fit (.list [.tuple [dA,.tuple []]]):=⟨by decide +kernel,by decide +kernel,by decide +kernel,by decide +kernel,.inl (by decide +kernel)⟩
theorem fit12:Fit (.dict []):=⟨by decide +kernel,by decide +kernel,by decide +kernel,by decide +kernel,.inr (by decide +kernel)⟩
theorem fitN:Fit (.str (Str.ofString "no text")):=⟨by decide +kernel,by decide +kernel,by decide +kernel,by decide +kernel,.inl (by decide +kernel)⟩
section
variable {P:Program} {w:World} {K:PySem.W.Frag} {mg:Str→Option Value} {base:Heap} {k:Nat}
def sp_law:PySem.W.Frag→Sp:=fun K vs H Q _=>∃ (a:Addr) (ns:List Int),vs=[.ref a]∧SqL K H a (ns.map V.int)∧ns.length≤63∧∀ H',Q (.bl true) H'
theorem ok_law {f:Addr} {fd:FuncData} (F:Fun K "law" "law" s_law f fd) (B:Blt7 mg) (G_law_hand:Has P w K mg base "_law_hand" k ["script", "k"] (sp_hand K)) (G_law_words:Has P w K mg base "_law_words" k ["hand"] sp_lwords) (G_law_spoilt:Has P w K mg base "_law_spoilt" k ["hand", "words"] sp_spoilt)
    (G_law_due:Has P w K mg base "_law_due" k ["text"] sp_due) (G_law_read:Has P w K mg base "_law_read" k ["thing"] sp_lread) :
    FnOk P w K mg base CX0 (k+1) f fd ["script"] (sp_law K):=by
  refine F.ok sc_law (fun vs H Q E h=>by obtain ⟨a,ns,rfl,_⟩:=h;rfl) (fun cdv A outer s H vs Q E hr h=>?_)
  obtain ⟨a,ns,rfl,hS,h63,q⟩:=h
  refine exw ?_
  refine ⟨_,(w_cons (Pw.mk (ps_for PassesOwn.never rfl (pi_range1 rfl B.range (pa_cons (pe_callB (call_max2 rfl) rfl B.max bt_max (pa_cons pe_int (pa_cons (pe_callB (call_min2 rfl) rfl B.min bt_min (pa_cons pe_int (pa_cons (pe_callB call_len_seq rfl B.len bt_len (pa_cons (pv 0) pa_nil)) pa_nil))) pa_nil))) pa_nil)) (pg_name (i:=1) sc_law.nd rfl (by first | exact Or.inl rfl | exact Or.inr rfl)) (PSw.h (w_cons (Pw.mk (ps_set (i:=2) sc_law.nd rfl (by first | exact Or.inl rfl | exact Or.inr rfl) (pe_callH G_law_hand hr rfl (pa_cons (pv 0) (pa_cons (pv 1) pa_nil)))))
  (w_cons (Pw.mk (ps_set (i:=3) sc_law.nd rfl (by first | exact Or.inl rfl | exact Or.inr rfl) (pe_callH G_law_words hr rfl (pa_cons (pv 2) pa_nil))))
  (w_cons (Pw.mk (ps_set (i:=4) sc_law.nd rfl (by first | exact Or.inl rfl | exact Or.inr rfl) (pe_callH G_law_spoilt hr rfl (pa_cons (pv 2) (pa_cons (pv 3) pa_nil)))))
  (w_one (Pw.mk (ps_for PassesOwn.never rfl (pi_list (PEw.h (w_lst (w_acons (PEw.mk (pv 4)) (w_acons (PEw.mk (pe_callH G_law_spoilt hr rfl (PAw.h (w_acons (PEw.mk (pv 2)) (w_acons (PEw.mk (pe_bm PySem.F.plainAttrs_str PySem.F.slot_str_split PySem.F.type_str_split mt_split (pv 4) (pa_cons pe_str pa_nil))) w_anil))))) w_anil))))) (pg_name (i:=5) sc_law.nd rfl (by first | exact Or.inl rfl | exact Or.inr rfl)) (PSw.h (w_cons (Pw.mk (ps_set (i:=6) sc_law.nd rfl (by first | exact Or.inl rfl | exact Or.inr rfl) (pe_callH G_law_due hr rfl (pa_cons (pv 5) pa_nil))))
  (w_cons (Pw.mk (ps_if (pt_cmpR op_isN (pv 6) pe_non (nomark _)) (pss_one (ps_set (i:=6) sc_law.nd rfl (by first | exact Or.inl rfl | exact Or.inr rfl) pe_str)) pss_nil))
  (w_one (Pw.mk (ps_if (pt_cmpR op_ne (pe_callB (call_repr_any hr) rfl B.repr bt_repr (pa_cons (pe_callH G_law_read hr rfl (pa_cons (pv 5) pa_nil)) pa_nil)) (pe_callB (call_repr_any hr) rfl B.repr bt_repr (pa_cons (pv 6) pa_nil)) (nomark _))
  (pss_one (ps_ret pe_bl))
  pss_nil)))))))))))))))
  (w_cons (Pw.mk (ps_for PassesOwn.never rfl (pi_list (PEw.h (w_lst (w_acons (PEw.mk pe_non) (w_acons (PEw.mk pe_bl) (w_acons (PEw.mk pe_int) (w_acons (PEw.mk pe_int) (w_acons (PEw.mk (pe_op op_pow pe_int pe_int)) (w_acons (PEw.mk (pe_tup pa_nil)) (w_acons (PEw.mk (pe_lst pa_nil)) (w_acons (w_lst (w_acons w_str w_anil)) (w_acons (w_tup (w_acons w_str w_anil)) (w_acons (w_tup (w_acons (w_tup (w_acons w_str (w_acons (PEw.mk (pe_tup pa_nil)) w_anil))) w_anil)) (w_acons (w_lst (w_acons (w_tup (w_acons w_str (w_acons (PEw.mk (pe_tup pa_nil)) w_anil))) w_anil)) (w_acons (PEw.mk pe_dnewK) w_anil))))))))))))))) (pg_name (i:=7) sc_law.nd rfl (by first | exact Or.inl rfl | exact Or.inr rfl)) (PSw.h (w_cons (Pw.mk (ps_set (i:=8) sc_law.nd rfl (by first | exact Or.inl rfl | exact Or.inr rfl) (pe_callB (call_repr_any hr) rfl B.repr bt_repr (pa_cons (pv 7) pa_nil))))
  (w_one (Pw.mk (ps_if (PW.pt (pw_or (pt_cmpR op_ne (pe_callH G_law_read hr rfl (pa_cons (pv 7) pa_nil)) pe_str (nomark _)) (pw_or1 (pt_cmpR op_ne (pe_callB (call_repr_any hr) rfl B.repr bt_repr (pa_cons (pv 7) pa_nil)) (pv 8) (nomark _))))) (pss_one (ps_ret pe_bl)) pss_nil)))))))
  (w_one (Pw.mk (ps_ret pe_bl))))),?_⟩
  refine ⟨_,rfl,a,_,rfl,.inl hS,_,_,rfl,_,_,rfl,_,rfl,?_,?_,?_⟩
  · split <;> (try split) <;> omega
  · split <;> (try split) <;> omega
  obtain ⟨N,hN,eN⟩:∃ N:Nat,N≤20∧(if (if (((ns.map V.int).length:Nat):Int) < 20 then (((ns.map V.int).length:Nat):Int) else 20) > 2 then (if (((ns.map V.int).length:Nat):Int) < 20 then (((ns.map V.int).length:Nat):Int) else 20) else 2)=(N:Int):=by
    refine ⟨(if (if (((ns.map V.int).length:Nat):Int) < 20 then (((ns.map V.int).length:Nat):Int) else 20) > 2 then (if (((ns.map V.int).length:Nat):Int) < 20 then (((ns.map V.int).length:Nat):Int) else 20) else 2).toNat,?_,?_⟩
    · split <;> (try split) <;> omega
    · split <;> (try split) <;> omega
  rw [eN,Int.toNat_natCast]
  refine for_range (lo:=0) (n:=N) (fun i σ H'=>∃ o1 o2 o3 o4 o5 o6 o7 o8:Option V,σ=[some (.ref a),o1,o2,o3,o4,o5,o6,o7,o8]∧Same H H') ⟨none,none,none,none,none,none,none,none,rfl,Same.refl H⟩ ?_ ?_
  · rintro i σ H' hi ⟨o1,o2,o3,o4,o5,o6,o7,o8,rfl,sX⟩
    refine ⟨_,rfl,_,rfl,a,ns,0+(i:Int),rfl,SqL.keepS hS sX,h63,by omega,by omega,fun p H1 fp s1 dk=>?_⟩
    refine ⟨_,rfl,p,_,rfl,dk,by omega,by omega,fun lw ws H2 kd2 hw w1 wt wb=>?_⟩
    have lp:=ne_txt kd2.deck hw w1
    refine ⟨_,rfl,_,rfl,p,lw,_,ws,181,rfl,kd2.deck,by omega,by omega,hw,lp,w1,by omega,wb,by omega,fun z H3 kd3 zl=>?_⟩
    have zl':z.length≤3200:=by omega
    refine ⟨_,rfl,_,rfl,_,rfl,rfl,_,_,rfl,rfl,rfl,line_le (by omega),fun l2 hl2=>?_⟩
    rw [show Txt.split z (Str.ofString " ")=words z from rfl]
    have k4:=(kd2.trans kd3).new (o:=.lst ((words z).map V.str)) hl2
    have h2:upd H3 l2 (.lst ((words z).map V.str)) l2=some (.lst ((words z).map V.str)):=upd_same
    generalize upd H3 l2 (.lst ((words z).map V.str))=H4 at k4 h2
    obtain ⟨vne,vl,vp⟩:=words_len z
    have v1:1≤(words z).length:=List.length_pos_iff.mpr vne
    have vt:tot (words z)=z.length+1:=tot_split z 32
    refine ⟨p,l2,_,words z,z.length,rfl,k4.deck,by omega,by omega,h2,ne_txt k4.deck h2 v1,v1,by omega,vp,by omega,fun z2 H5 kd5 z2l=>?_⟩
    have z2l':z2.length≤9000:=by omega
    refine ⟨(by show 2≤sizeLine;decide),fun lt hlt=>?_⟩
    have kd6:=(k4.trans kd5).new (o:=.lst [.str z,.str z2]) hlt
    have h6:upd H5 lt (.lst [.str z,.str z2]) lt=some (.lst [.str z,.str z2]):=upd_same
    generalize upd H5 lt (.lst [.str z,.str z2])=H6 at kd6 h6
    have s6:Same H' H6:=fun b o e=>kd6.keep b o (ne_of_none e fp) (s1 b o e)
    refine ⟨lt,rfl,⟨_,SqL.of h6⟩,?_⟩
    refine for_list (K:=K) (xs:=[.str z,.str z2]) (fun j σ HX=>∃ o5 o6:Option V,σ=[some (.ref a),some (.int (0+(i:Int))),some (.ref p),some (.ref lw),some (.str z),o5,o6,o7,o8]∧Same H6 HX) ⟨_,_,rfl,Same.refl H6⟩ (fun j σ HX _ h=>by obtain ⟨_,_,_,s⟩:=h;exact SqL.of (s _ _ h6)) ?_ ?_
    · rintro j x σ HX hx ⟨o5,o6,rfl,sY⟩
      obtain ⟨t,rfl,tl9⟩:∃ t:Str,x=.str t∧t.length≤9000:=by
        match j with
        | 0=>cases hx;exact ⟨z,rfl,by omega⟩
        | 1=>cases hx;exact ⟨z2,rfl,z2l'⟩
        | n+2=>cases hx
      refine ⟨_,rfl,t,rfl,tl9,fun g td HA sA nA=>?_,fun ng HA sA=>?_⟩
      · refine ⟨_,rfl,rfl,_,rfl,L2.iteB (decide_eq_false (by intro e;cases e)) ?_⟩
        refine ⟨_,rfl,.str t,rfl,.inl ⟨t,rfl,tl9⟩,fun z' e g' t2 HB sB nB=>?_,fun nb=>absurd g (nb t rfl)⟩
        obtain rfl:t=z':=by injection e
        refine ⟨_,_,rfl,net_td nB,net_fit g,_,rfl,_,_,rfl,net_td (nA.same sB),net_fit g,rfl,_,rfl,?_⟩
        refine iteN (by rw [decide_eq_true rfl];rfl) ?_
        exact ⟨_,_,rfl,(sY.trans sA).trans sB⟩
      · refine ⟨_,rfl,rfl,_,rfl,iteT ?_⟩
        refine ⟨_,rfl,.str t,rfl,.inl ⟨t,rfl,tl9⟩,fun z' e g'=>?_,fun nb HB sB=>?_⟩
        · injection e with e
          exact absurd (e ▸ g') ng
        refine ⟨_,_,rfl,.str _,fitN,_,rfl,_,_,rfl,.str _,fitN,rfl,_,rfl,?_⟩
        refine iteN (by rw [decide_eq_true rfl];rfl) ?_
        exact ⟨_,_,rfl,(sY.trans sA).trans sB⟩
    · rintro σ HX ⟨o5,o6,rfl,sY⟩
      exact ⟨_,_,_,_,_,_,_,_,rfl,(sX.trans s6).trans sY⟩
  · rintro σ H' ⟨o1,o2,o3,o4,o5,o6,o7,o8,rfl,sX⟩
    refine ⟨_,_,rfl,rfl,⟨by decide,by decide,by decide⟩,(by show 0≤sizeLine;decide),fun t1 ht1=>?_⟩
    have x1:Same H' (upd H' t1 (.tup [])):=(Same.refl H').new ht1
    have e1:upd H' t1 (.tup []) t1=some (.tup []):=upd_same
    generalize upd H' t1 (.tup [])=G1 at x1 e1
    refine ⟨(by show 0≤sizeLine;decide),fun t2 ht2=>?_⟩
    have x2:Same G1 (upd G1 t2 (.lst [])):=(Same.refl G1).new ht2
    have e2:upd G1 t2 (.lst []) t2=some (.lst []):=upd_same
    generalize upd G1 t2 (.lst [])=G2 at x2 e2
    refine ⟨(by show 1≤sizeLine;decide),fun t3 ht3=>?_⟩
    have x3:Same G2 (upd G2 t3 (.lst [.str (Str.ofString "a")])):=(Same.refl G2).new ht3
    have e3:upd G2 t3 (.lst [.str (Str.ofString "a")]) t3=some (.lst [.str (Str.ofString "a")]):=upd_same
    generalize upd G2 t3 (.lst [.str (Str.ofString "a")])=G3 at x3 e3
    refine ⟨(by show 1≤sizeLine;decide),fun t4 ht4=>?_⟩
    have x4:Same G3 (upd G3 t4 (.tup [.str (Str.ofString "a")])):=(Same.refl G3).new ht4
    have e4:upd G3 t4 (.tup [.str (Str.ofString "a")]) t4=some (.tup [.str (Str.ofString "a")]):=upd_same
    generalize upd G3 t4 (.tup [.str (Str.ofString "a")])=G4 at x4 e4
    refine ⟨(by show 0≤sizeLine;decide),fun t5 ht5=>?_⟩
    have x5:Same G4 (upd G4 t5 (.tup [])):=(Same.refl G4).new ht5
    have e5:upd G4 t5 (.tup []) t5=some (.tup []):=upd_same
    generalize upd G4 t5 (.tup [])=G5 at x5 e5
    refine ⟨(by show 2≤sizeLine;decide),fun t6 ht6=>?_⟩
    have x6:Same G5 (upd G5 t6 (.tup [.str (Str.ofString "a"),.ref t5])):=(Same.refl G5).new ht6
    have e6:upd G5 t6 (.tup [.str (Str.ofString "a"),.ref t5]) t6=some (.tup [.str (Str.ofString "a"),.ref t5]):=upd_same
    generalize upd G5 t6 (.tup [.str (Str.ofString "a"),.ref t5])=G6 at x6 e6
    refine ⟨(by show 1≤sizeLine;decide),fun t7 ht7=>?_⟩
    have x7:Same G6 (upd G6 t7 (.tup [.ref t6])):=(Same.refl G6).new ht7
    have e7:upd G6 t7 (.tup [.ref t6]) t7=some (.tup [.ref t6]):=upd_same
    generalize upd G6 t7 (.tup [.ref t6])=G7 at x7 e7
    refine ⟨(by show 0≤sizeLine;decide),fun t8 ht8=>?_⟩
    have x8:Same G7 (upd G7 t8 (.tup [])):=(Same.refl G7).new ht8
    have e8:upd G7 t8 (.tup []) t8=some (.tup []):=upd_same
    generalize upd G7 t8 (.tup [])=G8 at x8 e8
    refine ⟨(by show 2≤sizeLine;decide),fun t9 ht9=>?_⟩
    have x9:Same G8 (upd G8 t9 (.tup [.str (Str.ofString "a"),.ref t8])):=(Same.refl G8).new ht9
    have e9:upd G8 t9 (.tup [.str (Str.ofString "a"),.ref t8]) t9=some (.tup [.str (Str.ofString "a"),.ref t8]):=upd_same
    generalize upd G8 t9 (.tup [.str (Str.ofString "a"),.ref t8])=G9 at x9 e9
    refine ⟨(by show 1≤sizeLine;decide),fun t10 ht10=>?_⟩
    have x10:Same G9 (upd G9 t10 (.lst [.ref t9])):=(Same.refl G9).new ht10
    have e10:upd G9 t10 (.lst [.ref t9]) t10=some (.lst [.ref t9]):=upd_same
    generalize upd G9 t10 (.lst [.ref t9])=G10 at x10 e10
    refine fun t11 ht11=>?_
    have x11:Same G10 (upd G10 t11 (.dK [])):=(Same.refl G10).new ht11
    have e11:upd G10 t11 (.dK []) t11=some (.dK []):=upd_same
    show (fun HH=>_) (upd G10 t11 (.dK []))
    generalize upd G10 t11 (.dK [])=G11 at x11 e11
    have tA:∀ H:Hp,Td H (.str (Str.ofString "a")) dA:=fun H=>.str _
    have odd:∀ x∈[V.non,V.bl true,V.int 0,V.int 7,V.int ((10:Int) ^ Int.toNat 59),V.ref t1,V.ref t2,V.ref t3,V.ref t4,V.ref t7,V.ref t10,V.ref t11],Odd G11 x:=by
      intro x hx
      simp only [List.mem_cons,List.not_mem_nil,or_false] at hx
      have y10:=x11
      have y9:=x10.trans y10
      have y8:=x9.trans y9
      have y7:=x8.trans y8
      have y6:=x7.trans y7
      have y5:=x6.trans y6
      have y4:=x5.trans y5
      have y3:=x4.trans y4
      have y2:=x3.trans y3
      have y1:=x2.trans y2
      rcases hx with rfl | rfl | rfl | rfl | rfl | rfl | rfl | rfl | rfl | rfl | rfl | rfl
      · exact ⟨.non,_,.non,fit1⟩
      · exact ⟨.bl _,_,.bl _,fit2⟩
      · exact ⟨.int _,_,.int _,fit3⟩
      · exact ⟨.int _,_,.int _,fit4⟩
      · exact ⟨.int _,_,.int _,fit5⟩
      · exact ⟨.tup (y1 _ _ e1),_,.tup (y1 _ _ e1) .nil,fit6⟩
      · exact ⟨.lst (y2 _ _ e2),_,.lst (y2 _ _ e2) .nil,fit7⟩
      · exact ⟨.lst (y3 _ _ e3),_,.lst (y3 _ _ e3) (.cons (tA _) .nil),fit8⟩
      · exact ⟨.tup (y4 _ _ e4),_,.tup (y4 _ _ e4) (.cons (tA _) .nil),fit9⟩
      · exact ⟨.tup (y7 _ _ e7),_,.tup (y7 _ _ e7) (.cons (.tup (y6 _ _ e6) (.cons (tA _) (.cons (.tup (y5 _ _ e5) .nil) .nil))) .nil),fit10⟩
      · exact ⟨.lst (y10 _ _ e10),_,.lst (y10 _ _ e10) (.cons (.tup (y9 _ _ e9) (.cons (tA _) (.cons (.tup (y8 _ _ e8) .nil) .nil))) .nil),fit11⟩
      · exact ⟨.dct e11,_,.dct e11 .nil .nil (ps:=[]),fit12⟩
    have len12:12≤sizeLine:=by decide
    generalize hxs:[V.non,V.bl true,V.int 0,V.int 7,V.int ((10:Int) ^ Int.toNat 59),V.ref t1,V.ref t2,V.ref t3,V.ref t4,V.ref t7,V.ref t10,V.ref t11]=xs at odd
    refine ⟨(by show 12≤sizeLine;decide),fun t12 ht12=>?_⟩
    rw [hxs]
    have x12:Same G11 (upd G11 t12 (.lst xs)):=(Same.refl G11).new ht12
    have e12:upd G11 t12 (.lst xs) t12=some (.lst xs):=upd_same
    replace odd:∀ x∈xs,Odd (upd G11 t12 (.lst xs)) x:=fun x hx=>(odd x hx).same x12
    generalize upd G11 t12 (.lst xs)=G12 at x12 e12 odd
    refine ⟨t12,rfl,⟨_,SqL.of e12⟩,?_⟩
    refine for_list (K:=K) (xs:=xs) (fun j σ HX=>∃ o7 o8:Option V,σ=[some (.ref a),o1,o2,o3,o4,o5,o6,o7,o8]∧Same G12 HX) ⟨_,_,rfl,Same.refl G12⟩ (fun j σ HX _ h=>by obtain ⟨_,_,_,s⟩:=h;exact SqL.of (s _ _ e12)) ?_ ?_
    · rintro j x σ HX hx ⟨o7,o8,rfl,sY⟩
      obtain ⟨ns0,d,td,fd⟩:=(odd x (List.mem_of_getElem? hx)).same sY
      refine ⟨_,rfl,x,d,rfl,td,fd,?_⟩
      refine ⟨_,rfl,x,rfl,.inr ns0,fun z e=>absurd e (ns0.ne z),fun _ HA sA=>?_⟩
      refine ⟨rfl,_,rfl,iteN (by rw [decide_eq_true rfl];rfl) ?_⟩
      refine ⟨_,rfl,x,d,rfl,td.same sA,fd,_,rfl,rfl,_,rfl,iteN (by rw [decide_eq_true rfl];rfl) ?_⟩
      exact ⟨_,_,rfl,sY.trans sA⟩
    · rintro σ HX ⟨o7,o8,rfl,sY⟩
      exact q HX
end
end S83
namespace S83
open PySem L2 W7
theorem df_mk {K:PySem.W.Frag} {h:Heap} {mg:Str→Option Value} {x:Str} {st:Stmt} {f:Addr} {oc:Value} {od an:Option Addr} {osl:Array (Option Value)} {kV doc pm cdv ct:Value} (X:K.In h) (G:h.Ns mainGlobals mg)
    (a:PySem.W.nsIn K mainGlobals x=some (some (.ref f))) (l:K.lookup f=some ⟨oc,od,.func (PySem.W.fnOf x x (defArgs st) (defBody st) (defScope st) .none kV doc pm an cdv ct),osl⟩) (c:PySem.W.codeIn K cdv x=true) (kk:PySem.W.keepIn K (.ref f)=true):Df K mg x st:=
  ⟨f,_,fun_mk l c kk,PySem.W.mg_of X G a⟩
def exs_mk {K:PySem.W.Frag} {h:Heap} {mg:Str→Option Value} (X:K.In h) (G:h.Ns mainGlobals mg) {UpError NoText NoChange NoCover NoLeaf NoLetter NoLine NoNumber NoPattern NoPlace NoRows NoRuns NoTree NoTries NoWord TooMany:Addr}
    (a_UpError:PySem.W.nsIn K mainGlobals "UpError" = some (some (.ref UpError)))
    (a_NoText:PySem.W.nsIn K mainGlobals "NoText" = some (some (.ref NoText)))
    (a_NoChange:PySem.W.nsIn K mainGlobals "NoChange" = some (some (.ref NoChange)))
    (a_NoCover:PySem.W.nsIn K mainGlobals "NoCover" = some (some (.ref NoCover)))
    (a_NoLeaf:PySem.W.nsIn K mainGlobals "NoLeaf" = some (some (.ref NoLeaf)))
    (a_NoLetter:PySem.W.nsIn K mainGlobals "NoLetter" = some (some (.ref NoLetter)))
    (a_NoLine:PySem.W.nsIn K mainGlobals "NoLine" = some (some (.ref NoLine)))
    (a_NoNumber:PySem.W.nsIn K mainGlobals "NoNumber" = some (some (.ref NoNumber)))
    (a_NoPattern:PySem.W.nsIn K mainGlobals "NoPattern" = some (some (.ref NoPattern)))
    (a_NoPlace:PySem.W.nsIn K mainGlobals "NoPlace" = some (some (.ref NoPlace)))
    (a_NoRows:PySem.W.nsIn K mainGlobals "NoRows" = some (some (.ref NoRows)))
    (a_NoRuns:PySem.W.nsIn K mainGlobals "NoRuns" = some (some (.ref NoRuns)))
    (a_NoTree:PySem.W.nsIn K mainGlobals "NoTree" = some (some (.ref NoTree)))
    (a_NoTries:PySem.W.nsIn K mainGlobals "NoTries" = some (some (.ref NoTries)))
    (a_NoWord:PySem.W.nsIn K mainGlobals "NoWord" = some (some (.ref NoWord)))
    (a_TooMany:PySem.W.nsIn K mainGlobals "TooMany" = some (some (.ref TooMany)))
    (q_NoText:PySem.W.excIn K NoText bmV "ValueError.__new__" = true)
    (ga_NoText:PySem.W.findIn K (.ref NoText) "__getattribute__" = some (some (.builtin "BaseException.__getattribute__")))
    (gn_NoText:PySem.W.findIn K (.ref NoText) "__getattr__" = some none)
    (cl_NoText:PySem.W.findIn K (.ref NoText) "__class__" = some (some (.builtin "object.__class__")))
    (ob_NoText:PySem.W.mroIn K NoText (.type "object")=some true)
    (be_NoText:PySem.W.mroIn K NoText (.type "BaseException")=some true)
    (cd_NoText:(PySem.W.clsIn K NoText).isSome=true)
    (u_NoText:PySem.W.exmOne K (.ref NoText) (.ref UpError)=some true)
    (gt:PySem.W.specialIn K (.builtin "object.__class__") "__get__" = some (some (.builtin "getset_descriptor.__get__")))
    (tk:PySem.W.takesIn K (.builtin "object.__class__")=some true)
    (n0:PySem.W.kitOne K (.ref NoText) (.ref NoText)=some true)
    (nv:PySem.W.kitOne K (.ref NoText) (.type "ValueError")=some true)
    (i0:PySem.W.kitOne K (.ref NoText) (.ref NoChange)=some false)
    (i1:PySem.W.kitOne K (.ref NoText) (.ref NoCover)=some false)
    (i2:PySem.W.kitOne K (.ref NoText) (.ref NoLeaf)=some false)
    (i3:PySem.W.kitOne K (.ref NoText) (.ref NoLetter)=some false)
    (i4:PySem.W.kitOne K (.ref NoText) (.ref NoLine)=some false)
    (i5:PySem.W.kitOne K (.ref NoText) (.ref NoNumber)=some false)
    (i6:PySem.W.kitOne K (.ref NoText) (.ref NoPattern)=some false)
    (i7:PySem.W.kitOne K (.ref NoText) (.ref NoPlace)=some false)
    (i8:PySem.W.kitOne K (.ref NoText) (.ref NoRows)=some false)
    (i9:PySem.W.kitOne K (.ref NoText) (.ref NoRuns)=some false)
    (i10:PySem.W.kitOne K (.ref NoText) (.ref NoTree)=some false)
    (i11:PySem.W.kitOne K (.ref NoText) (.ref NoTries)=some false)
    (i12:PySem.W.kitOne K (.ref NoText) (.ref NoWord)=some false)
    (i13:PySem.W.kitOne K (.ref NoText) (.ref TooMany)=some false):Exs K mg where
  c_UpError:=UpError
  m_UpError:=PySem.W.mg_of X G a_UpError
  c_NoText:=NoText
  m_NoText:=PySem.W.mg_of X G a_NoText
  c_NoChange:=NoChange
  m_NoChange:=PySem.W.mg_of X G a_NoChange
  c_NoCover:=NoCover
  m_NoCover:=PySem.W.mg_of X G a_NoCover
  c_NoLeaf:=NoLeaf
  m_NoLeaf:=PySem.W.mg_of X G a_NoLeaf
  c_NoLetter:=NoLetter
  m_NoLetter:=PySem.W.mg_of X G a_NoLetter
  c_NoLine:=NoLine
  m_NoLine:=PySem.W.mg_of X G a_NoLine
  c_NoNumber:=NoNumber
  m_NoNumber:=PySem.W.mg_of X G a_NoNumber
  c_NoPattern:=NoPattern
  m_NoPattern:=PySem.W.mg_of X G a_NoPattern
  c_NoPlace:=NoPlace
  m_NoPlace:=PySem.W.mg_of X G a_NoPlace
  c_NoRows:=NoRows
  m_NoRows:=PySem.W.mg_of X G a_NoRows
  c_NoRuns:=NoRuns
  m_NoRuns:=PySem.W.mg_of X G a_NoRuns
  c_NoTree:=NoTree
  m_NoTree:=PySem.W.mg_of X G a_NoTree
  c_NoTries:=NoTries
  m_NoTries:=PySem.W.mg_of X G a_NoTries
  c_NoWord:=NoWord
  m_NoWord:=PySem.W.mg_of X G a_NoWord
  c_TooMany:=TooMany
  m_TooMany:=PySem.W.mg_of X G a_TooMany
  q_NoText:=q_NoText
  z_NoText:=⟨ga_NoText,gn_NoText,cl_NoText,gt,tk,ob_NoText,be_NoText,cd_NoText⟩
  u_NoText:=u_NoText
  n0:=n0
  nv:=nv
  i0:=i0
  i1:=i1
  i2:=i2
  i3:=i3
  i4:=i4
  i5:=i5
  i6:=i6
  i7:=i7
  i8:=i8
  i9:=i9
  i10:=i10
  i11:=i11
  i12:=i12
  i13:=i13
theorem blt_mk {K:PySem.W.Frag} {h:Heap} {mg:Str→Option Value} (X:K.In h) (G:h.Ns mainGlobals mg)
    (z1:PySem.W.nsIn K mainGlobals "len" = some none) (z2:PySem.W.nsIn K mainGlobals "range" = some none) (z3:PySem.W.nsIn K mainGlobals "zip" = some none) (z4:PySem.W.nsIn K mainGlobals "enumerate" = some none)
    (z5:PySem.W.nsIn K mainGlobals "max" = some none) (z6:PySem.W.nsIn K mainGlobals "min" = some none) (z7:PySem.W.nsIn K mainGlobals "int" = some none) (z8:PySem.W.nsIn K mainGlobals "str" = some none)
    (z9:PySem.W.nsIn K mainGlobals "bool" = some none) (z10:PySem.W.nsIn K mainGlobals "list" = some none) (z11:PySem.W.nsIn K mainGlobals "tuple" = some none) (z12:PySem.W.nsIn K mainGlobals "isinstance" = some none):Blt mg:=
  ⟨PySem.W.mg_none_of X G z1,PySem.W.mg_none_of X G z2,PySem.W.mg_none_of X G z3,PySem.W.mg_none_of X G z4,PySem.W.mg_none_of X G z5,PySem.W.mg_none_of X G z6,PySem.W.mg_none_of X G z7,PySem.W.mg_none_of X G z8,
    PySem.W.mg_none_of X G z9,PySem.W.mg_none_of X G z10,PySem.W.mg_none_of X G z11,PySem.W.mg_none_of X G z12⟩
theorem all_ok {P:Program} {w:World} {K:PySem.W.Frag} {mg:Str→Option Value} {fa:Addr} (hfa:mg "law" = some (.ref fa)) (B:Blt7 mg)
    (d1:Df K mg "is_whole" s_is_whole) (d2:Df K mg "is_number_below" s_is_number_below) (d3:Df K mg "is_letters" s_is_letters) (d4:Df K mg "is_letter" s_is_letter) (d5:Df K mg "is_figures" s_is_figures) (d6:Df K mg "is_written_number" s_is_written_number) (d7:Df K mg "is_net" s_is_net) (d8:Df K mg "is_knot" s_is_knot) (d9:Df K mg "read_net" s_read_net) (d10:Df K mg "read_knot" s_read_knot) (d11:Df K mg "_law_hand" s_law_hand) (d12:Df K mg "_law_take" s_law_take) (d13:Df K mg "_law_words" s_law_words) (d14:Df K mg "_law_spoilt" s_law_spoilt) (d15:Df K mg "_law_number" s_law_number) (d16:Df K mg "_law_due" s_law_due) (d17:Df K mg "_law_read" s_law_read) (d18:Df K mg "law" s_law) (EX:Exs K mg) :
    ∃ fd:FuncData,(∀ (s:Shared) (v:Value),BindsTo s fd ⟨[v],[]⟩ [("script", v)])∧∀ base:Heap,FnOk P w K mg base CX0 12 fa fd ["script"] (sp_law K):=by
  obtain ⟨f,fd,F,m⟩:=d18
  have e:=hfa.symm.trans m
  cases e
  refine ⟨fd,?_,fun base=>?_⟩
  · obtain ⟨oc,od,kV,doc,pm,an,cdv,ct,osl,rfl,_,_⟩:=F.ex
    exact fun s v=>.of_eq rfl
  have g_whole:=has_whole (P:=P) (w:=w) (base:=base) (k:=0) d1 B
  have g_below:=has_below (k:=1) d2 B g_whole
  have g_letters:=has_letters (P:=P) (w:=w) (base:=base) (k:=0) d3 B
  have g_letter:=has_letter (k:=1) d4 B g_letters
  have g_figs:=has_figs (P:=P) (w:=w) (base:=base) (k:=0) d5 B
  have g_written:=has_written (k:=1) d6 B g_figs
  have g_knot:=has_knot (k:=2) d8 B g_letter g_below
  have g_isnet:=has_isnet (k:=3) d7 B g_knot
  have g_readk:=has_readk (k:=2) EX.toEx1 d10 B g_written
  have g_readn:=has_readn (k:=4) EX.toEx1 d9 B (g_readk.mono (by decide)) g_isnet
  have g_hand:=has_hand (P:=P) (w:=w) (base:=base) (k:=0) d11 B
  have g_take:=has_take (P:=P) (w:=w) (base:=base) (k:=0) d12 B
  have g_lwords:=has_lwords (k:=1) d13 B g_take
  have g_spoilt:=has_spoilt (k:=1) d14 B g_take
  have g_lnum:=has_lnum (P:=P) (w:=w) (base:=base) (k:=0) d15 B
  have g_due:=has_due (k:=1) d16 B g_lnum
  have g_lread:=has_lread (k:=5) EX d17 B g_readn
  exact (ok_law (k:=6) F B (g_hand.mono (by decide)) (g_lwords.mono (by decide)) (g_spoilt.mono (by decide)) (g_due.mono (by decide)) g_lread).mono (by decide)
end S83
def PySem.W.Fast.tw6399895908526900187 : Nat := 0
def PySem.W.Fast.tw11700229829450482272 : Nat := 0
def PySem.W.Fast.tw4233235581823534261 : Nat := 0
def PySem.W.Fast.tw8378478265215884710 : Nat := 0
def PySem.W.Fast.tw10693529359890209512 : Nat := 0
def PySem.W.Fast.tw7880492601160186064 : Nat := 0
def PySem.W.Fast.tw11733964815673969227 : Nat := 0
def PySem.W.Fast.tw4398070001428221597 : Nat := 0
def PySem.W.Fast.tw635536037218148200 : Nat := 0
def PySem.W.Fast.tw4185627800073133674 : Nat := 0
def PySem.W.Fast.tw16873402088617220167 : Nat := 0
def PySem.W.Fast.tw4946496702107382725 : Nat := 0
def PySem.W.Fast.tw2947690899019358904 : Nat := 0
def PySem.W.Fast.tw518738489936611375 : Nat := 0
def PySem.W.Fast.tw16813773404983388454 : Nat := 0
def PySem.W.Fast.tw5737850071622447199 : Nat := 0
def PySem.W.Fast.tw8133147070628714169 : Nat := 0
def PySem.W.Fast.tw16127812331303467731 : Nat := 0
def PySem.W.Fast.tw12661498728201429283 : Nat := 0
def PySem.W.Fast.tw3772733248139721907 : Nat := 0
def PySem.W.Fast.tw2277176066876899630 : Nat := 0
def PySem.W.Fast.tw16498093979828410081 : Nat := 0
def PySem.W.Fast.tw8077548977283406183 : Nat := 0
def PySem.W.Fast.tw8116775368035411850 : Nat := 0
def PySem.W.Fast.tw174900539079462173 : Nat := 0
def PySem.W.Fast.tw4055065390916816885 : Nat := 0
def PySem.W.Fast.tw1400320114572641837 : Nat := 0
def PySem.W.Fast.tw1826551509726704469 : Nat := 0
def PySem.W.Fast.tw7128695282748448258 : Nat := 0
def PySem.W.Fast.tw15831060205070526176 : Nat := 0
def PySem.W.Fast.tw12588036231543473972 : Nat := 0
def PySem.W.Fast.tw2560425525230719311 : Nat := 0
def PySem.W.Fast.tw4720334746918069454 : Nat := 0
def PySem.W.Fast.tw12346974097904722176 : Nat := 0
def PySem.W.Fast.tw7775005904026688980 : Nat := 0
def PySem.W.Fast.tw3915838122544872871 : Nat := 0
def PySem.W.Fast.tw11275973598862294153 : Nat := 0
def PySem.W.Fast.tw390091986439927273 : Nat := 0
def PySem.W.Fast.tw1046172349943352645 : Nat := 0
open PySem PySem.W PyProof.Rows
set_option maxRecDepth 100000 in
set_option maxHeartbeats 0 in
theorem PySem.Challenge.cw_upwords_k83_texts_of_no_net_holds : PySem.Challenge.rw_upwords_k83_texts_of_no_net.Holds := by
  w_on; o_law; k_head; (case hw => w_witness2)
  k_fill
  refine L2.walk_ofK (l := PySem.Challenge.rw_upwords_k83_texts_of_no_net) (n := 63) (k := 12) (x := "script") (CX := L2.CX0) (sp := S83.sp_law) rfl (by decide) rfl ⟨rfl, by decide, by decide, rfl⟩ (fun w h Y => PySem.W.kIn_of Y) ?F
    (fun K H a ns hl _ hS => ⟨a, ns, rfl, hS, hl, fun _ => rfl⟩) (fun _ _ _ _ z => z)
  case F =>
    intro w mg fa h KX G hmg
    have B : L2.Blt mg := by
      refine' S83.blt_mk KX G ?z1 ?z2 ?z3 ?z4 ?z5 ?z6 ?z7 ?z8 ?z9 ?z10 ?z11 ?z12
      (case z1 => k_is); (case z2 => k_is); (case z3 => k_is); (case z4 => k_is); (case z5 => k_is); (case z6 => k_is); (case z7 => k_is); (case z8 => k_is); (case z9 => k_is); (case z10 => k_is); (case z11 => k_is); (case z12 => k_is)
    have Bx0 : mg "ValueError" = none := by
      refine' PySem.W.mg_none_of KX G ?z
      (case z => k_is)
    have Bx1 : mg "repr" = none := by
      refine' PySem.W.mg_none_of KX G ?z
      (case z => k_is)
    have Bx2 : mg "all" = none := by
      refine' PySem.W.mg_none_of KX G ?z
      (case z => k_is)
    have Bx3 : ∃ u, mg "LETTERS" = some u ∧ L2.RelV (.str "abcdefghijklmnopqrstuvwxyz") u := by
      refine' ⟨_, PySem.W.mg_of KX G ?z, ?r⟩
      (case z => k_is)
      (case r => exact ⟨_, rfl⟩)
    have Bx4 : ∃ u, mg "FIGURES" = some u ∧ L2.RelV (.str "0123456789") u := by
      refine' ⟨_, PySem.W.mg_of KX G ?z, ?r⟩
      (case z => k_is)
      (case r => exact ⟨_, rfl⟩)
    have Bx5 : ∃ u, mg "MOST_KNOTS" = some u ∧ L2.RelV (.int 60) u := by
      refine' ⟨_, PySem.W.mg_of KX G ?z, ?r⟩
      (case z => k_is)
      (case r => exact ⟨_, rfl⟩)
    have Bx6 : ∃ u, mg "MOST_BENEATH" = some u ∧ L2.RelV (.int 60) u := by
      refine' ⟨_, PySem.W.mg_of KX G ?z, ?r⟩
      (case z => k_is)
      (case r => exact ⟨_, rfl⟩)
    have Bx7 : ∃ u, mg "MOST_FIGURES" = some u ∧ L2.RelV (.int 2) u := by
      refine' ⟨_, PySem.W.mg_of KX G ?z, ?r⟩
      (case z => k_is)
      (case r => exact ⟨_, rfl⟩)
    have d1 : L2.Df (L2.KOf KX) mg "is_whole" S83.s_is_whole := by
      dsimp only [L2.KOf]; refine' S83.df_mk KX G ?a ?l ?c ?k
      (case a => k_is); (case l => k_is); (case c => k_is); (case k => k_is)
    have d2 : L2.Df (L2.KOf KX) mg "is_number_below" S83.s_is_number_below := by
      dsimp only [L2.KOf]; refine' S83.df_mk KX G ?a ?l ?c ?k
      (case a => k_is); (case l => k_is); (case c => k_is); (case k => k_is)
    have d3 : L2.Df (L2.KOf KX) mg "is_letters" S83.s_is_letters := by
      dsimp only [L2.KOf]; refine' S83.df_mk KX G ?a ?l ?c ?k
      (case a => k_is); (case l => k_is); (case c => k_is); (case k => k_is)
    have d4 : L2.Df (L2.KOf KX) mg "is_letter" S83.s_is_letter := by
      dsimp only [L2.KOf]; refine' S83.df_mk KX G ?a ?l ?c ?k
      (case a => k_is); (case l => k_is); (case c => k_is); (case k => k_is)
    have d5 : L2.Df (L2.KOf KX) mg "is_figures" S83.s_is_figures := by
      dsimp only [L2.KOf]; refine' S83.df_mk KX G ?a ?l ?c ?k
      (case a => k_is); (case l => k_is); (case c => k_is); (case k => k_is)
    have d6 : L2.Df (L2.KOf KX) mg "is_written_number" S83.s_is_written_number := by
      dsimp only [L2.KOf]; refine' S83.df_mk KX G ?a ?l ?c ?k
      (case a => k_is); (case l => k_is); (case c => k_is); (case k => k_is)
    have d7 : L2.Df (L2.KOf KX) mg "is_net" S83.s_is_net := by
      dsimp only [L2.KOf]; refine' S83.df_mk KX G ?a ?l ?c ?k
      (case a => k_is); (case l => k_is); (case c => k_is); (case k => k_is)
    have d8 : L2.Df (L2.KOf KX) mg "is_knot" S83.s_is_knot := by
      dsimp only [L2.KOf]; refine' S83.df_mk KX G ?a ?l ?c ?k
      (case a => k_is); (case l => k_is); (case c => k_is); (case k => k_is)
    have d9 : L2.Df (L2.KOf KX) mg "read_net" S83.s_read_net := by
      dsimp only [L2.KOf]; refine' S83.df_mk KX G ?a ?l ?c ?k
      (case a => k_is); (case l => k_is); (case c => k_is); (case k => k_is)
    have d10 : L2.Df (L2.KOf KX) mg "read_knot" S83.s_read_knot := by
      dsimp only [L2.KOf]; refine' S83.df_mk KX G ?a ?l ?c ?k
      (case a => k_is); (case l => k_is); (case c => k_is); (case k => k_is)
    have d11 : L2.Df (L2.KOf KX) mg "_law_hand" S83.s_law_hand := by
      dsimp only [L2.KOf]; refine' S83.df_mk KX G ?a ?l ?c ?k
      (case a => k_is); (case l => k_is); (case c => k_is); (case k => k_is)
    have d12 : L2.Df (L2.KOf KX) mg "_law_take" S83.s_law_take := by
      dsimp only [L2.KOf]; refine' S83.df_mk KX G ?a ?l ?c ?k
      (case a => k_is); (case l => k_is); (case c => k_is); (case k => k_is)
    have d13 : L2.Df (L2.KOf KX) mg "_law_words" S83.s_law_words := by
      dsimp only [L2.KOf]; refine' S83.df_mk KX G ?a ?l ?c ?k
      (case a => k_is); (case l => k_is); (case c => k_is); (case k => k_is)
    have d14 : L2.Df (L2.KOf KX) mg "_law_spoilt" S83.s_law_spoilt := by
      dsimp only [L2.KOf]; refine' S83.df_mk KX G ?a ?l ?c ?k
      (case a => k_is); (case l => k_is); (case c => k_is); (case k => k_is)
    have d15 : L2.Df (L2.KOf KX) mg "_law_number" S83.s_law_number := by
      dsimp only [L2.KOf]; refine' S83.df_mk KX G ?a ?l ?c ?k
      (case a => k_is); (case l => k_is); (case c => k_is); (case k => k_is)
    have d16 : L2.Df (L2.KOf KX) mg "_law_due" S83.s_law_due := by
      dsimp only [L2.KOf]; refine' S83.df_mk KX G ?a ?l ?c ?k
      (case a => k_is); (case l => k_is); (case c => k_is); (case k => k_is)
    have d17 : L2.Df (L2.KOf KX) mg "_law_read" S83.s_law_read := by
      dsimp only [L2.KOf]; refine' S83.df_mk KX G ?a ?l ?c ?k
      (case a => k_is); (case l => k_is); (case c => k_is); (case k => k_is)
    have d18 : L2.Df (L2.KOf KX) mg "law" S83.s_law := by
      dsimp only [L2.KOf]; refine' S83.df_mk KX G ?a ?l ?c ?k
      (case a => k_is); (case l => k_is); (case c => k_is); (case k => k_is)
    have EX : S83.Exs (L2.KOf KX) mg := by
      dsimp only [L2.KOf]; refine' S83.exs_mk KX G ?a_UpError ?a_NoText ?a_NoChange ?a_NoCover ?a_NoLeaf ?a_NoLetter ?a_NoLine ?a_NoNumber ?a_NoPattern ?a_NoPlace ?a_NoRows ?a_NoRuns ?a_NoTree ?a_NoTries ?a_NoWord ?a_TooMany ?q_NoText ?ga_NoText ?gn_NoText ?cl_NoText ?ob_NoText ?be_NoText ?cd_NoText ?u_NoText ?gt ?tk ?n0 ?nv ?i0 ?i1 ?i2 ?i3 ?i4 ?i5 ?i6 ?i7 ?i8 ?i9 ?i10 ?i11 ?i12 ?i13
      (case a_UpError => k_is); (case a_NoText => k_is); (case a_NoChange => k_is); (case a_NoCover => k_is); (case a_NoLeaf => k_is); (case a_NoLetter => k_is); (case a_NoLine => k_is); (case a_NoNumber => k_is); (case a_NoPattern => k_is); (case a_NoPlace => k_is); (case a_NoRows => k_is); (case a_NoRuns => k_is); (case a_NoTree => k_is); (case a_NoTries => k_is); (case a_NoWord => k_is); (case a_TooMany => k_is); (case q_NoText => first | k_exc | k_is); (case ga_NoText => k_is); (case gn_NoText => k_is); (case cl_NoText => k_is); (case ob_NoText => k_is); (case be_NoText => k_is); (case cd_NoText => first | k_is | kernel_rfl); (case u_NoText => first | k_is | kernel_rfl); (case gt => k_is); (case tk => k_is); (case n0 => first | k_is | kernel_rfl); (case nv => first | k_is | kernel_rfl); (case i0 => first | k_is | kernel_rfl); (case i1 => first | k_is | kernel_rfl); (case i2 => first | k_is | kernel_rfl); (case i3 => first | k_is | kernel_rfl); (case i4 => first | k_is | kernel_rfl); (case i5 => first | k_is | kernel_rfl); (case i6 => first | k_is | kernel_rfl); (case i7 => first | k_is | kernel_rfl); (case i8 => first | k_is | kernel_rfl); (case i9 => first | k_is | kernel_rfl); (case i10 => first | k_is | kernel_rfl); (case i11 => first | k_is | kernel_rfl); (case i12 => first | k_is | kernel_rfl); (case i13 => first | k_is | kernel_rfl)
    obtain ⟨fd, h1, h2⟩ := S83.all_ok (P := PySem.Challenge.rw_upwords_k83_texts_of_no_net.prog) (w := w) hmg ⟨B, Bx0, Bx1, Bx2, Bx3, Bx4, Bx5, Bx6, Bx7⟩ d1 d2 d3 d4 d5 d6 d7 d8 d9 d10 d11 d12 d13 d14 d15 d16 d17 d18 EX
    exact ⟨fd, h1, fun base _ _ => h2 base⟩
