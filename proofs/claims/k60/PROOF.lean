import PyProof.Rows.All
import Wide.All
import OpenK.AllK
import Wide.FinOn
import Lean
import PyProof.EqAt
import PyProof.EqKinds
import PyProof.TupleCall
import KE.KSortTup
import KE.KDictOf
import PyProof.DictWalks
import KE.KDictSum
import KE.KMinKey
import PyProof.StrBlock
import PyProof.StrLaws
import PySem.Challenge.RW_upwords_k60_common_and_own_words
set_option Elab.async false
set_option linter.all false
set_option maxRecDepth 100000
namespace L2
open PySem PySem.Spec PyProof.Rows
abbrev Key:=Sum Int Str
def keyIs:Key→Value→Bool
  | .inl k,v=>Value.isInt k v
  | .inr x,v=>Value.isStrOf x v
def keyH (w:World):Key→Int
  | .inl k=>hashInt k
  | .inr x=>hashStr w x
theorem keyIs_shape:∀ {k:Key} {v:Value},keyIs k v=true→(∃ i t,k=Sum.inl i∧v=Value.int i t)∨(∃ x t,k=Sum.inr x∧v=Value.str x t)
  | .inl i,v,h=>by
    obtain ⟨t,e⟩:=Value.isInt_shape (k:=i) (v:=v) h
    exact .inl ⟨i,t,rfl,e⟩
  | .inr x,v,h=>by
    obtain ⟨t,e⟩:=Value.isStrOf_shape (x:=x) (v:=v) h
    exact .inr ⟨x,t,rfl,e⟩
theorem keyIs_int (i:Int) (t:Tok):keyIs (.inl i) (.int i t)=true:=by simp [keyIs,Value.isInt]
theorem keyIs_str (x:Str) (t:Tok):keyIs (.inr x) (.str x t)=true:=by simp [keyIs,Value.isStrOf]
theorem key_ll (a b:Int):decide ((Sum.inl a:Key)=Sum.inl b)=(a == b):=by
  by_cases e:a=b
  · subst e;simp
  · have h:¬ (Sum.inl a:Key)=Sum.inl b:=fun q=>e (Sum.inl.inj q)
    rw [decide_eq_false h]
    exact (beq_eq_false_iff_ne.mpr e).symm
theorem key_rr (a b:Str):decide ((Sum.inr a:Key)=Sum.inr b)=decide (a=b):=by
  by_cases e:a=b
  · subst e;simp
  · have h:¬ (Sum.inr a:Key)=Sum.inr b:=fun q=>e (Sum.inr.inj q)
    rw [decide_eq_false h,decide_eq_false e]
theorem key_lr (a:Int) (b:Str):decide ((Sum.inl a:Key)=Sum.inr b)=false:=decide_eq_false (fun q=>nomatch q)
theorem key_rl (a:Str) (b:Int):decide ((Sum.inr a:Key)=Sum.inl b)=false:=decide_eq_false (fun q=>nomatch q)
def mixKind (prog:Program) (w:World):PySem.KeyKind prog w Key where
  is:=keyIs
  hash:=keyH w
  inj:=fun v a b ha hb=>by
    rcases keyIs_shape ha with ⟨i,t,rfl,rfl⟩ | ⟨x,t,rfl,rfl⟩
    · rcases keyIs_shape hb with ⟨j,u,rfl,e⟩ | ⟨y,u,rfl,e⟩
      · injection e with e1 _;rw [e1]
      · exact nomatch e
    · rcases keyIs_shape hb with ⟨j,u,rfl,e⟩ | ⟨y,u,rfl,e⟩
      · exact nomatch e
      · injection e with e1 _;rw [e1]
  byValue:=fun k v h=>by
    rcases keyIs_shape h with ⟨i,t,rfl,rfl⟩ | ⟨x,t,rfl,rfl⟩ <;> rfl
  pyHash:=fun hv h=>by
    rcases keyIs_shape hv with ⟨i,t,rfl,rfl⟩ | ⟨x,t,rfl,rfl⟩
    · exact wpAny_pyHash_int h
    · exact wpAny_pyHash_str h
  eqBool:=fun hu hv h=>by
    rcases keyIs_shape hu with ⟨i,t,rfl,rfl⟩ | ⟨x,t,rfl,rfl⟩
    · rcases keyIs_shape hv with ⟨j,u,rfl,rfl⟩ | ⟨y,u,rfl,rfl⟩
      · rw [key_ll] at h;exact wpAny_eqBool_int h
      · rw [key_lr] at h;exact SeqAt.EqAt.int_str i t y u _ _ _ _ h
    · rcases keyIs_shape hv with ⟨j,u,rfl,rfl⟩ | ⟨y,u,rfl,rfl⟩
      · rw [key_rl] at h;exact SeqAt.EqAt.str_int x t j u _ _ _ _ h
      · rw [key_rr] at h;exact wpAny_eqBool_str h
  «strs»:=fun k x t v h=>by
    rcases keyIs_shape h with ⟨i,u,rfl,e⟩ | ⟨y,u,rfl,e⟩
    · exact nomatch e
    · injection e with e1 _
      subst e1
      cases v <;> rfl
theorem mixKind_int (prog:Program) (w:World) (i:Int) (t:Tok):(mixKind prog w).is (.inl i) (.int i t)=true:=keyIs_int i t
theorem mixKind_str (prog:Program) (w:World) (x:Str) (t:Tok):(mixKind prog w).is (.inr x) (.str x t)=true:=keyIs_str x t
end L2
namespace L2
open PySem PySem.Spec PyProof.Rows
inductive V where
  | non | bl (b:Bool) | int (i:Int) | str (x:Str) | byt (b:Array UInt8) | flt (b:UInt64) | ref (a:Addr) | ty (n:String)
  deriving DecidableEq
def RelV:V→Value→Prop
  | .non,u=>u=Value.none
  | .bl b,u=>u=Value.bool b
  | .int i,u=>∃ t,u=Value.int i t
  | .str x,u=>∃ t,u=Value.str x t
  | .byt b,u=>∃ t,u=Value.bytes b t
  | .flt b,u=>∃ t,u=Value.float b t
  | .ref a,u=>u=Value.ref a
  | .ty n,u=>u=Value.type n
abbrev Vals:List V→List Value→Prop:=Paired RelV
theorem Vals.length {xs:List V} {us:List Value} (r:Vals xs us):xs.length=us.length:=Paired.length r
theorem Vals.get:∀ {xs:List V} {us:List Value} {i:Nat} {x:V},Vals xs us→xs[i]?=some x→∃ u,us[i]?=some u∧RelV x u
  | _,_,_,_,.nil,e=>by simp at e
  | _,_,0,_,.cons r _,e=>by simp at e;subst e;exact ⟨_,rfl,r⟩
  | _,_,i+1,x,.cons _ t,e=>by
    obtain ⟨u,h1,h2⟩:=Vals.get (i:=i) (x:=x) t (by simpa using e)
    exact ⟨u,by simpa using h1,h2⟩
theorem Vals.set {x:V} {u:Value} (r:RelV x u):∀ {xs:List V} {us:List Value} (i:Nat),Vals xs us→Vals (xs.set i x) (us.set i u)
  | _,_,_,.nil=>.nil
  | _,_,0,.cons _ t=>.cons r t
  | _,_,i+1,.cons q t=>.cons q (Vals.set r i t)
theorem Vals.append:∀ {xs ys:List V} {us ws:List Value},Vals xs us→Vals ys ws→Vals (xs++ys) (us++ws)
  | _,_,_,_,.nil,s=>s
  | _,_,_,_,.cons r t,s=>.cons r (Vals.append t s)
theorem Vals.take:∀ {xs:List V} {us:List Value} (n:Nat),Vals xs us→Vals (xs.take n) (us.take n)
  | _,_,0,_=>.nil
  | _,_,_+1,.nil=>.nil
  | _,_,n+1,.cons r t=>.cons r (Vals.take n t)
theorem Vals.drop:∀ {xs:List V} {us:List Value} (n:Nat),Vals xs us→Vals (xs.drop n) (us.drop n)
  | _,_,0,r=>r
  | _,_,_+1,.nil=>.nil
  | _,_,n+1,.cons _ t=>Vals.drop n t
def RelO:Option V→Option Value→Prop
  | some v,some u=>RelV v u
  | none,none=>True
  | _,_=>False
def KV {κ:Type}:List (κ × V)→List (κ × Value)→Prop:=Paired fun (p:κ × V) (q:κ × Value)=>p.1=q.1∧RelV p.2 q.2
def kV:Key→V
  | .inl i=>.int i
  | .inr x=>.str x
inductive HO where
    | lst (xs:List V)
    | tup (xs:List V)
    | dK (kvs:List (Key × V)) | dT (kvs:List (List Key × V))
    | set (S:Int→Bool) (n:Nat)
    | ins (C dx:Addr) (fs:List (Str × V))
    | own (x:Addr)
    | xd (fs:List (Str × V))
    | met (f x:Addr)
    | rng (lo hi:Int)
    | frz (o:Obj) (u:HO)
    | tbl (ps:Array Value)
    | ext (φ:Heap→Prop)
abbrev Hp:=Addr→Option HO
def upd (H:Hp) (a:Addr) (o:HO):Hp:=fun b=>if b=a then some o else H b
theorem upd_same {H:Hp} {a:Addr} {o:HO}:upd H a o a=some o:=by unfold upd;rw [if_pos rfl]
theorem upd_ne {H:Hp} {a b:Addr} {o:HO} (h:b≠a):upd H a o b=H b:=by unfold upd;rw [if_neg h]
theorem ne_of {H:Hp} {a b:Addr} {o u:HO} (h:H a=some o) (h':H b=some u) (d:o≠u):a≠b:=by
  intro e;subst e;rw [h] at h';exact d (Option.some.inj h')
theorem ne_of_none {H:Hp} {a b:Addr} {o:HO} (h:H a=some o) (h':H b=none):a≠b:=by
  intro e;subst e;rw [h] at h';cases h'
section
variable (P:Program) (w:World)
def ObjOk (H:Hp) (h:Heap) (a:Addr):HO→Prop
  | .lst xs=>xs.length≤sizeLine∧∃ (its:List Value) (n:Nat),Vals xs its∧h.get? a=some { cls:=.type "list", data:=.seq its.toArray n }
  | .tup xs=>(xs.length≤sizeLine∧∃ o,h.get? a=some o∧o.dict=none)∧∃ its:List Value,Vals xs its∧IsTup h a its.toArray
  | .dK kvs=>kvs.length≤sizeLine∧(a == sysModules)=false∧∃ vs,KV kvs vs∧h.DictOf (mixKind P w) a vs
  | .dT kvs=>kvs.length≤sizeLine∧(a == sysModules)=false∧∃ xs:List (List Key × Addr × Value),
      Paired (fun (p:List Key × V) (q:List Key × Addr × Value)=>p.1=q.1∧H q.2.1=some (.tup (p.1.map kV))∧RelV p.2 q.2.2) kvs xs ∧
      ∃ o es ep,h.get? a=some o∧o.ExactDict∧o.data=.dict es ep∧es.toList=xs.map (entryOfKey (tupleKind (mixKind P w)))∧(xs.map (·.1)).Nodup
  | .set S n=>h.SetOf (intKind P w) a S n
  | .ins C dx fs=>H dx=some (.own a)∧fs.length≤1000∧dx≠a∧h.get? a=some (PySem.W.instObj C dx) ∧
      ∃ mA,h.Ns1 dx mA∧(∀ f,RelO (fs.lookup f) (mA f))∧PySem.Within mA (fs.map (·.1))
  | .own _=>∃ o,h.get? a=some o
  | .xd fs=>∃ mA,h.Ns1 a mA∧∀ f,RelO (fs.lookup f) (mA f)
  | .rng lo hi=>∃ t u v,h.get? a=some { cls:=.type "range", data:=.fields #[.int lo t,.int hi u,.int 1 v] }
  | .frz o u=>h.get? a=some o∧ObjOk H h a u
  | .tbl ps=>h.get? a=some { cls:=.none,data:=.fields ps }
  | .met f x=>h.get? a=some (PySem.W.methodObj (.ref f) (.ref x))
  | .ext φ=>φ h∧(∃ o,h.get? a=some o)∧∀ h1 h2:Heap,φ h1→(∀ o,h1.get? a=some o→h2.get? a=some o)→φ h2
def HOk (H:Hp) (h:Heap):Prop:=∀ a o,H a=some o→ObjOk P w H h a o
end
section
variable {P:Program} {w:World} {H H':Hp} {h h':Heap} {a:Addr} {o:HO}
theorem ObjOk.lt (x:ObjOk P w H h a o):a < h.objs.size:=by
  cases o with
  | lst xs=>obtain ⟨_,_,_,_,e⟩:=x;exact Heap.lt_size e
  | tup xs=>obtain ⟨_,_,_,p⟩:=x;exact p.lt
  | dK kvs=>obtain ⟨_,_,_,_,o,_,_,e,_⟩:=x;exact Heap.lt_size e
  | dT kvs=>obtain ⟨_,_,_,_,o,_,_,e,_⟩:=x;exact Heap.lt_size e
  | set S n=>obtain ⟨o,_,_,_,e,_⟩:=x;exact Heap.lt_size e
  | ins C dx fs=>obtain ⟨_,_,_,e,_⟩:=x;exact Heap.lt_size e
  | own y=>obtain ⟨_,e⟩:=x;exact Heap.lt_size e
  | xd fs=>obtain ⟨_,⟨_,_,_,e,_⟩,_⟩:=x;exact Heap.lt_size e
  | rng lo hi=>obtain ⟨_,_,_,e⟩:=x;exact Heap.lt_size e
  | frz ob u=>obtain ⟨e,_⟩:=x;exact Heap.lt_size e
  | tbl ps=>exact Heap.lt_size (show h.get? a=some _ from x)
  | met f y=>exact Heap.lt_size (show h.get? a=some _ from x)
  | ext φ=>obtain ⟨_,⟨_,e⟩,_⟩:=x;exact Heap.lt_size e
theorem Paired.mapP {α β:Type} {F G:α→β→Prop}:∀ {l₁:List α} {l₂:List β},Paired F l₁ l₂→(∀ a b,F a b→G a b)→Paired G l₁ l₂
  | _,_,.nil,_=>.nil
  | _,_,.cons r t,f=>.cons (f _ _ r) (Paired.mapP t f)
theorem ObjOk.stay (x:ObjOk P w H h a o) (k:∀ b u,(b=a∨H b=some (.own a))→h.get? b=some u→h'.get? b=some u)
    (ho:∀ b,H b=some (.own a)→H' b=some (.own a)) (ht:∀ b xs,H b=some (.tup xs)→H' b=some (.tup xs)):ObjOk P w H' h' a o:=by
  induction o with
  | lst xs=>obtain ⟨z,its,n,r,e⟩:=x;exact ⟨z,its,n,r,k _ _ (.inl rfl) e⟩
  | tup xs=>obtain ⟨⟨z,o1,e1,c1⟩,its,r,ob,e,c⟩:=x;exact ⟨⟨z,o1,k _ _ (.inl rfl) e1,c1⟩,its,r,ob,k _ _ (.inl rfl) e,c⟩
  | dK kvs=>obtain ⟨z,y,vs,r,ob,es,ep,e,c⟩:=x;exact ⟨z,y,vs,r,ob,es,ep,k _ _ (.inl rfl) e,c⟩
  | dT kvs=>
    obtain ⟨z,y,xs,r,ob,es,ep,e,c⟩:=x
    exact ⟨z,y,xs,Paired.mapP r fun p q z=>⟨z.1,ht _ _ z.2.1,z.2.2⟩,ob,es,ep,k _ _ (.inl rfl) e,c⟩
  | set S n=>obtain ⟨ob,es,ep,t,e,c⟩:=x;exact ⟨ob,es,ep,t,k _ _ (.inl rfl) e,c⟩
  | ins C dx fs=>
    obtain ⟨d,z,ne,e,mA,⟨od,es,ep,e2,c⟩,r⟩:=x
    exact ⟨ho _ d,z,ne,k _ _ (.inl rfl) e,mA,⟨od,es,ep,k _ _ (.inr d) e2,c⟩,r⟩
  | own y=>obtain ⟨ob,e⟩:=x;exact ⟨ob,k _ _ (.inl rfl) e⟩
  | xd fs=>obtain ⟨mA,⟨od,es,ep,e,c⟩,r⟩:=x;exact ⟨mA,⟨od,es,ep,k _ _ (.inl rfl) e,c⟩,r⟩
  | rng lo hi=>obtain ⟨t,u,v,e⟩:=x;exact ⟨t,u,v,k _ _ (.inl rfl) e⟩
  | frz ob u ih=>obtain ⟨e,q⟩:=x;exact ⟨k _ _ (.inl rfl) e,ih q⟩
  | tbl ps=>
    have e:h.get? a=some { cls:=.none,data:=.fields ps }:=x
    show h'.get? a=some { cls:=.none,data:=.fields ps }
    exact k a _ (.inl rfl) e
  | met f y=>
    have e:h.get? a=some (PySem.W.methodObj (.ref f) (.ref y)):=x
    show h'.get? a=some (PySem.W.methodObj (.ref f) (.ref y))
    exact k a _ (.inl rfl) e
  | ext φ=>obtain ⟨p,⟨o,e⟩,st⟩:=x;exact ⟨st _ _ p fun o q=>k _ _ (.inl rfl) q,⟨o,k _ _ (.inl rfl) e⟩,st⟩
theorem HOk.lt (x:HOk P w H h) (e:H a=some o):a < h.objs.size:=(x a o e).lt
theorem HOk.fresh (x:HOk P w H h) (e:h.objs.size≤a):H a=none:=by
  cases q:H a with
  | none=>rfl
  | some u=>exact absurd (Nat.lt_of_lt_of_le (x.lt q) e) (Nat.lt_irrefl _)
theorem HOk.kept (x:HOk P w H h) (k:∀ b u,h.get? b=some u→h'.get? b=some u):HOk P w H h':=fun a o e=>
  (x a o e).stay (fun b u _ q=>k b u q) (fun _ q=>q) fun _ _ q=>q
theorem HOk.laid (x:HOk P w H h) (k:∀ b u,h.get? b=some u→h'.get? b=some u) (hp:h.objs.size≤a) (new:ObjOk P w (upd H a o) h' a o):HOk P w (upd H a o) h':=fun b u e=>by
  have hn:=x.fresh hp
  by_cases hb:b=a
  · subst hb;rw [upd_same] at e;cases e;exact new
  · rw [upd_ne hb] at e
    exact (x b u e).stay (fun c v _ q=>k c v q) (fun c q=>by rw [upd_ne (ne_of_none q hn)];exact q) fun c xs q=>by rw [upd_ne (ne_of_none q hn)];exact q
end
def Rd (H:Hp) (a:Addr) (u:HO):Prop:=H a=some u∨∃ o,H a=some (.frz o u)
theorem Rd.ok {P:Program} {w:World} {H:Hp} {h:Heap} {a:Addr} {u:HO} (r:Rd H a u) (x:HOk P w H h):ObjOk P w H h a u:=by
  rcases r with r | ⟨o,r⟩
  · exact x a u r
  · obtain ⟨_,q⟩:=x a _ r
    exact q
def Mut:Option HO→Prop
  | some (.lst _)=>True
  | some (.dK _)=>True
  | some (.dT _)=>True
  | some (.set _ _)=>True
  | some (.ins _ _ _)=>True
  | some (.ext _)=>True
  | _=>False
section
variable {P:Program} {w:World} {H:Hp} {h h':Heap} {x e:Addr} {o':HO}
theorem HOk.write (ok:HOk P w H h) (mu:Mut (H x)) (he:e=x∨H e=some (.own x)) (k:∀ b u,b≠e→h.get? b=some u→h'.get? b=some u) (heo:∃ u,h'.get? e=some u)
    (new:ObjOk P w (upd H x o') h' x o'):HOk P w (upd H x o') h':=fun b u q=>by
  have nown:∀ c y,H c=some (.own y)→c≠x:=fun c y r z=>by subst z;rw [r] at mu;exact mu
  have ntup:∀ c xs,H c=some (.tup xs)→c≠x:=fun c xs r z=>by subst z;rw [r] at mu;exact mu
  by_cases hb:b=x
  · subst hb;rw [upd_same] at q;cases q;exact new
  · rw [upd_ne hb] at q
    by_cases hbe:b=e
    · have q':H b=some (.own x):=by
        rcases he with z | z
        · exact absurd (hbe.trans z) hb
        · rw [hbe];exact z
      rw [q] at q';cases q'
      obtain ⟨v,hv⟩:=heo
      exact ⟨v,by rw [hbe];exact hv⟩
    · refine (ok b u q).stay (fun c v hc r=>k c v ?_ r) (fun c r=>by rw [upd_ne (nown c b r)];exact r) fun c xs r=>by rw [upd_ne (ntup c xs r)];exact r
      rcases hc with rfl | hc
      · exact hbe
      · rintro rfl
        rcases he with z | z
        · exact nown c b hc z
        · rw [hc] at z;cases z;exact hb rfl
end
structure Un (fs ex:List Addr) (H H':Hp) (h h':Heap):Prop where
  keep:∀ b o,h.get? b=some o→H b=none→b ∉ fs→b ∉ ex→h'.get? b=some o
  slot:∀ b o,h.get? b=some o→H b=none→b∈fs→b ∉ ex→∃ sl,h'.get? b=some { o with slots:=sl }
  free:∀ b o,h.get? b=some o→H b=none→b ∉ ex→H' b=none
  there:∀ b o,h.get? b=some o→b ∉ ex→∃ o',h'.get? b=some o'
  tups:∀ b xs,H b=some (.tup xs)→H' b=some (.tup xs)
  frzs:∀ b o u,H b=some (.frz o u)→H' b=some (.frz o u)
  tbls:∀ b ps,H b=some (.tbl ps)→∃ more,H' b=some (.tbl (ps++more))
section
variable {fs fs' ex ex':List Addr} {H H1 H2:Hp} {h h1 h2 h':Heap} {a x e:Addr} {o:HO}
theorem Un.any (u:Un fs ex H H1 h h1) {b:Addr} {ob:Obj} (q:h.get? b=some ob) (n:H b=none) (hx:b ∉ ex):∃ sl,h1.get? b=some { ob with slots:=sl }:=by
  by_cases hb:b∈fs
  · exact u.slot b ob q n hb hx
  · exact ⟨ob.slots,u.keep b ob q n hb hx⟩
theorem Un.kept (k:∀ b u,h.get? b=some u→h'.get? b=some u):Un fs ex H H h h':=
  ⟨fun b ob q _ _ _=>k b ob q,fun b ob q _ _ _=>⟨ob.slots,k b ob q⟩,fun _ _ _ n _=>n,fun b ob q _=>⟨ob,k b ob q⟩,fun _ _ q=>q,fun _ _ _ q=>q,fun _ ps q=>⟨#[],by rw [q];simp⟩⟩
theorem Un.refl:Un fs ex H H h h:=Un.kept fun _ _ q=>q
theorem Un.laid (k:∀ b u,h.get? b=some u→h'.get? b=some u) (hp:h.objs.size≤a) (hn:H a=none):Un fs ex H (upd H a o) h h' where
  keep:=fun b u q _ _ _=>k b u q
  slot:=fun b u q _ _ _=>⟨u.slots,k b u q⟩
  free:=fun b u q n _=>by rw [upd_ne (Nat.ne_of_lt (Nat.lt_of_lt_of_le (Heap.lt_size q) hp))];exact n
  there:=fun b u q _=>⟨u,k b u q⟩
  tups:=fun b xs q=>by rw [upd_ne (ne_of_none q hn)];exact q
  frzs:=fun b u xs q=>by rw [upd_ne (ne_of_none q hn)];exact q
  tbls:=fun b ps q=>⟨#[],by rw [upd_ne (ne_of_none q hn),q];simp⟩
theorem Un.write (mu:Mut (H x)) (he:e=x∨H e=some (.own x)) (k:∀ b u,b≠e→h.get? b=some u→h'.get? b=some u) (heo:∃ u,h'.get? e=some u):Un fs ex H (upd H x o) h h':=by
  have hx:∀ b,H b=none→b≠x:=fun b n z=>by subst z;rw [n] at mu;exact mu
  have hb:∀ b,H b=none→b≠e:=fun b n z=>by
    subst z
    rcases he with r | r
    · exact hx b n r
    · rw [n] at r;cases r
  have hm:∀ b u,H b=some u→¬ Mut (some u)→b≠x:=fun b u q nm z=>by subst z;rw [q] at mu;exact nm mu
  refine ⟨fun b u q n _ _=>k b u (hb b n) q,fun b u q n _ _=>⟨u.slots,k b u (hb b n) q⟩,fun b u q n _=>by rw [upd_ne (hx b n)];exact n,fun b u q _=>?_,
    fun b xs q=>by rw [upd_ne (hm b _ q fun z=>z)];exact q,fun b u xs q=>by rw [upd_ne (hm b _ q fun z=>z)];exact q,fun b ps q=>⟨#[],by rw [upd_ne (hm b _ q fun z=>z),q];simp⟩⟩
  by_cases hbe:b=e
  · subst hbe;exact heo
  · exact ⟨u,k b u hbe q⟩
end
def trk (h:Heap) (H:Hp):List Addr:=(List.range h.objs.size).filter fun a=>(H a).isSome
def hidT (h:Heap) (H:Hp):Heap:=PySem.W.hideAll h (trk h H)
theorem hidT_size (h:Heap) (H:Hp):(hidT h H).objs.size=h.objs.size:=PySem.W.hideAll_size _ _
theorem hidT_get {h:Heap} {H:Hp} {b:Addr} {o:Obj} (e:h.get? b=some o) (n:H b=none):(hidT h H).get? b=some o:=
  PySem.W.hideAll_get _ e fun hm=>by
    have q:(H b).isSome=true:=(List.mem_filter.mp hm).2
    rw [n] at q;simp at q
theorem of_hidT {h:Heap} {H:Hp} {b:Addr} {o:Obj} (e:(hidT h H).get? b=some o):h.get? b=some o∧H b=none:=by
  have e':h.get? b=some o:=PySem.W.of_hideAll (trk h H) e
  refine ⟨e',?_⟩
  cases q:H b with
  | none=>rfl
  | some x=>
    have hm:b∈trk h H:=List.mem_filter.mpr ⟨List.mem_range.mpr (Heap.lt_size e'),by simp [q]⟩
    have z:(hidT h H).get? b=none:=PySem.W.hideAll_none (trk h H) hm
    rw [z] at e;cases e
def allNews (g h:Heap) (L:Addr):List (Addr × Obj):=(List.range h.objs.size).filterMap fun a=>if a=L∨(g.get? a).isSome=true then none else (h.get? a).map fun o=>(a,o)
def rest (g h:Heap) (L d:Addr):List (Addr × Obj):=(allNews g h L).filter fun p=>decide (p.1≠d)
end L2
namespace L2
open PySem PySem.Spec PyProof.Rows
structure Mod (K:PySem.W.Frag) (mg:Str→Option Value) (base:Heap):Prop where
  kin:K.In base
  glob:base.Ns mainGlobals mg
  blt:∃ mb,base.Ns builtinsNs mb∧∀ x:Str,x ≠ "__name__" → mb x=bootBuiltins x
  nolimit:base.NoLimit
structure Cx where
  prog:Program
  w:World
  K:PySem.W.Frag
  mg:Str→Option Value
  base:Heap
  A:Around
  N:List Str
  s₀:Shared
  H₀:Hp
  env:Env
  outer:List Env
  stack:List Env
  ex:List Addr
  fn:Str→Bool
  calm:Bool
  pn:List (Addr × Obj)
  xe:Value→Shared→Prop
def frs (l:List Env):List Addr:=l.filterMap (·.frame)
abbrev Cx.fs (X:Cx):List Addr:=frs X.outer
def Vis (sc:Scope) (x:Str):Prop:=sc.names.lookup x=some .local∨sc.names.lookup x=some .cell∨sc.names.lookup x=some .free
def Loc (sc:Scope) (x:Str):Prop:=sc.names.lookup x=some .local∨sc.names.lookup x=some .cell
def Look (env:Env) (h:Heap) (m:Str→Option Value) (x:Str) (u:Value):Prop:=
  (env.kindOf x=some .local∧m x=some u)∨((env.kindOf x=some .cell∨env.kindOf x=some .free)∧∃ c,env.cells.lookup x=some c∧h.IsCell c (some u))
structure Cx.Ok (X:Cx):Prop where
  mod:Mod X.K X.mg X.base
  kind:X.env.scope.kind=.function
  glob:X.env.globals=mainGlobals
  blt:X.env.builtins=builtinsNs
  above:X.s₀.heap.objs.size≤X.env.locals
  inj:∀ x y c,X.env.cells.lookup x=some c→X.env.cells.lookup y=some c→x=y
  has:∀ x,(X.env.kindOf x=some .cell∨X.env.kindOf x=some .free)→∃ c,X.env.cells.lookup x=some c
  cab:∀ x c,X.fn x=true→X.env.cells.lookup x=some c→X.s₀.heap.objs.size≤c
  hd:X.calm=true→X.A.handled=none
  frames:X.A.frames=some X.stack
  stk:X.stack=X.outer∨(X.stack=X.env :: X.outer∧X.env.frame=some X.env.locals)
  exf:∀ b∈X.ex,b≠X.env.locals∧∀ x c,X.env.cells.lookup x=some c→c≠b
  bs:∀ b o,X.base.get? b=some o→X.s₀.heap.get? b=some o∧X.H₀ b=none
  bsz:X.base.objs.size≤X.s₀.heap.objs.size
  noex:∀ b o,X.base.get? b=some o→b ∉ X.ex
  exfs:∀ b∈X.ex,b ∉ X.fs
  funs:X.s₀.heap.FunFrames X.base X.outer
  frf:∀ b∈X.fs,X.H₀ b=none
structure Inv (X:Cx) (pins:List (Addr × Obj)) (σ:List (Option V)) (H:Hp) (s:Shared):Prop where
  ok:X.Ok
  os:s.os=X.s₀.os
  bare:AllBare s.gens
  base:Un X.fs X.ex X.H₀ H X.s₀.heap s.heap
  loc:∃ m,s.heap.Ns X.env.locals m∧∀ (i:Nat) (x:Str) (v:V),X.N[i]?=some x→σ[i]?=some (some v)→Vis X.env.scope x→∃ u,RelV v u∧Look X.env s.heap m x u
  cell:∀ x c,X.env.cells.lookup x=some c→∃ v,s.heap.IsCell c v
  free:H X.env.locals=none
  freeC:∀ x c,X.env.cells.lookup x=some c→H c=none
  pin:∀ p∈X.pn++pins,s.heap.get? p.1=some p.2∧H p.1=none∧p.1≠X.env.locals∧p.1 ∉ X.fs∧∀ v,p.2.data≠.cell v
  hok:HOk X.prog X.w H s.heap
  len:σ.length=X.N.length
section
variable {X:Cx} {pins:List (Addr × Obj)} {σ:List (Option V)} {H H':Hp} {s:Shared} {h':Heap}
theorem Cx.Ok.nofr (ok:X.Ok) {b:Addr} {o:Obj} (e:X.base.get? b=some o):b ∉ X.fs:=fun hb=>by
  have:=(ok.funs.mem hb).1
  rw [e] at this;cases this
theorem Inv.bs (I:Inv X pins σ H s):∀ b o,X.base.get? b=some o→s.heap.get? b=some o∧H b=none:=fun b o e=>
  ⟨I.base.keep b o (I.ok.bs b o e).1 (I.ok.bs b o e).2 (I.ok.nofr e) (I.ok.noex b o e),I.base.free b o (I.ok.bs b o e).1 (I.ok.bs b o e).2 (I.ok.noex b o e)⟩
theorem Inv.bk (I:Inv X pins σ H s):∀ b o,X.base.get? b=some o→s.heap.get? b=some o:=fun b o e=>(I.bs b o e).1
theorem Inv.mod (I:Inv X pins σ H s):Mod X.K X.mg X.base:=I.ok.mod
theorem Inv.kIn (I:Inv X pins σ H s):X.K.In s.heap:=I.ok.mod.kin.keeps I.bk
theorem Inv.nolimit (I:Inv X pins σ H s):s.heap.NoLimit:=I.ok.mod.nolimit.keeps I.bk
theorem Inv.lt (I:Inv X pins σ H s):X.env.locals < s.heap.objs.size:=let ⟨_,hn,_⟩:=I.loc;hn.lt
theorem Inv.sz (I:Inv X pins σ H s):X.s₀.heap.objs.size≤s.heap.objs.size:=Nat.le_trans I.ok.above (Nat.le_of_lt I.lt)
theorem Inv.nofs (I:Inv X pins σ H s) {a:Addr} (h:s.heap.objs.size≤a):a ∉ X.fs:=fun hb=>by
  obtain ⟨_,o,ho,_⟩:=I.ok.funs.mem hb
  exact absurd (Nat.lt_of_lt_of_le (Heap.lt_size ho) (Nat.le_trans I.sz h)) (Nat.lt_irrefl _)
theorem Inv.cne (I:Inv X pins σ H s):∀ x c,X.env.cells.lookup x=some c→c≠X.env.locals:=fun x c e z=>by
  obtain ⟨v,o,ho,hd⟩:=I.cell x c e
  obtain ⟨m,⟨o',es,ep,ho',hd',_⟩,_⟩:=I.loc
  rw [z,ho'] at ho;cases ho;rw [hd'] at hd;cases hd
theorem Inv.funs (I:Inv X pins σ H s):s.heap.FunFrames X.base X.outer:=by
  have all:∀ (l:List Env),(∀ b∈frs l,b∈X.fs)→X.s₀.heap.FunFrames X.base l→s.heap.FunFrames X.base l:=by
    intro l
    induction l with
    | nil=>intro _ _;trivial
    | cons env r ih=>
      intro hs hl
      obtain ⟨hk,⟨L,o,hf,hn,ho,hd⟩,hr⟩:=hl
      have hL:L∈X.fs:=hs L (by unfold frs;rw [List.filterMap_cons,hf];exact List.mem_cons_self)
      obtain ⟨sl,e⟩:=I.base.slot L o ho (I.ok.frf L hL) hL fun z=>I.ok.exfs L z hL
      exact ⟨hk,⟨L,_,hf,hn,e,hd⟩,ih (fun b hb=>hs b (by unfold frs;rw [List.filterMap_cons,hf];exact List.mem_cons_of_mem _ hb)) hr⟩
  exact all X.outer (fun _ hb=>hb) I.ok.funs
theorem Inv.stack (I:Inv X pins σ H s):s.heap.FunFrames X.base X.stack:=by
  rcases I.ok.stk with e | ⟨e,hf⟩
  · rw [e];exact I.funs
  · rw [e]
    obtain ⟨m,hn,_⟩:=I.loc
    refine .cons (by rw [I.ok.kind];decide) hf hn ?_ I.funs
    exact Heap.get?_none_of_le (Nat.le_trans I.ok.bsz I.ok.above)
theorem Inv.stkSub (I:Inv X pins σ H s):∀ b∈frs X.stack,b∈X.env.locals :: X.fs:=fun b hb=>by
  rcases I.ok.stk with e | ⟨e,hf⟩
  · rw [e] at hb;exact List.mem_cons_of_mem _ hb
  · rw [e] at hb
    unfold frs at hb
    rw [List.filterMap_cons,hf] at hb
    exact hb
theorem Inv.stkFree (I:Inv X pins σ H s):∀ b∈frs X.stack,H b=none:=fun b hb=>by
  rcases List.mem_cons.mp (I.stkSub b hb) with e | hb
  · rw [e];exact I.free
  · obtain ⟨_,o,ho,_⟩:=I.ok.funs.mem hb
    exact I.base.free b o ho (I.ok.frf b hb) fun z=>I.ok.exfs b z hb
theorem Inv.step {g':Array GenState} {t':Nat} {d':Drawn} {ch:List Addr} (I:Inv X pins σ H s)
    (hch:∀ b∈ch,(b∈X.ex∨X.s₀.heap.objs.size≤b)∧b≠X.env.locals∧(∀ x c,X.env.cells.lookup x=some c→c≠b)∧∀ p∈X.pn++pins,p.1≠b)
    (keep:∀ b o,b≠X.env.locals→b ∉ X.fs→b ∉ ch→s.heap.get? b=some o→H b=none→h'.get? b=some o)
    (slot:∀ b o,b≠X.env.locals→b∈X.fs→b ∉ ch→s.heap.get? b=some o→H b=none→∃ sl,h'.get? b=some { o with slots:=sl }) (free:∀ b o,b ∉ ch→s.heap.get? b=some o→H b=none→H' b=none)
    (there:∀ b o,b ∉ ch→s.heap.get? b=some o→∃ o',h'.get? b=some o')
    (tups:∀ b xs,H b=some (.tup xs)→H' b=some (.tup xs)) (frzs:∀ b o u,H b=some (.frz o u)→H' b=some (.frz o u)) (tbls:∀ b ps,H b=some (.tbl ps)→∃ more,H' b=some (.tbl (ps++more)))
    (ns:∀ m,s.heap.Ns X.env.locals m→h'.Ns X.env.locals m) (hok:HOk X.prog X.w H' h') (hg:AllBare g') :
    Inv X pins σ H' { s with heap:=h',gens:=g',drawn:=d',toks:=t' }:=by
  have neL:∀ b o,X.s₀.heap.get? b=some o→b≠X.env.locals:=fun b o e=>Nat.ne_of_lt (Nat.lt_of_lt_of_le (Heap.lt_size e) I.ok.above)
  have neC:∀ b o,X.s₀.heap.get? b=some o→b ∉ X.ex→b ∉ ch:=fun b o e hx hb=>by
    rcases (hch b hb).1 with z | z
    · exact hx z
    · exact absurd (Nat.lt_of_lt_of_le (Heap.lt_size e) z) (Nat.lt_irrefl _)
  have cellK:∀ x c,X.env.cells.lookup x=some c→∀ v,s.heap.IsCell c v→h'.IsCell c v:=fun x c e v ⟨o,ho,hd⟩=>by
    have nch:c ∉ ch:=fun z=>(hch c z).2.2.1 x c e rfl
    by_cases hc:c∈X.fs
    · obtain ⟨sl,q⟩:=slot c o (I.cne x c e) hc nch ho (I.freeC x c e)
      exact ⟨_,q,hd⟩
    · exact ⟨o,keep c o (I.cne x c e) hc nch ho (I.freeC x c e),hd⟩
  refine ⟨I.ok,I.os,hg,⟨fun b o e n hb hx=>?_,fun b o e n hb hx=>?_,fun b o e n hx=>?_,fun b o e hx=>?_,fun b xs e=>tups b xs (I.base.tups b xs e),fun b o xs e=>frzs b o xs (I.base.frzs b o xs e),fun b ps e=>?_⟩,?_,fun x c e=>?_,?_,fun x c e=>?_,fun p hp=>?_,hok,I.len⟩
  · exact keep b o (neL b o e) hb (neC b o e hx) (I.base.keep b o e n hb hx) (I.base.free b o e n hx)
  · obtain ⟨sl,e1⟩:=I.base.slot b o e n hb hx
    obtain ⟨sl',e2⟩:=slot b _ (neL b o e) hb (neC b o e hx) e1 (I.base.free b o e n hx)
    exact ⟨sl',e2⟩
  · obtain ⟨o',e1⟩:=I.base.there b o e hx
    exact free b o' (neC b o e hx) e1 (I.base.free b o e n hx)
  · obtain ⟨o',e1⟩:=I.base.there b o e hx
    exact there b o' (neC b o e hx) e1
  · obtain ⟨m1,e1⟩:=I.base.tbls b ps e
    obtain ⟨m2,e2⟩:=tbls b _ e1
    exact ⟨m1++m2,by rw [e2,Array.append_assoc]⟩
  · obtain ⟨m,hn,hl⟩:=I.loc
    refine ⟨m,ns m hn,fun i x v e1 e2 e3=>?_⟩
    obtain ⟨u,r,l⟩:=hl i x v e1 e2 e3
    refine ⟨u,r,?_⟩
    rcases l with l | ⟨k,c,e,z⟩
    · exact .inl l
    · exact .inr ⟨k,c,e,cellK x c e _ z⟩
  · obtain ⟨v,z⟩:=I.cell x c e
    exact ⟨v,cellK x c e v z⟩
  · obtain ⟨m,⟨o,_,_,ho,_⟩,_⟩:=I.loc
    exact free _ o (fun z=>(hch _ z).2.1 rfl) ho I.free
  · obtain ⟨v,o,ho,hd⟩:=I.cell x c e
    exact free c o (fun z=>(hch c z).2.2.1 x c e rfl) ho (I.freeC x c e)
  · obtain ⟨e,n,ne,nf,d⟩:=I.pin p hp
    have nch:p.1 ∉ ch:=fun z=>(hch p.1 z).2.2.2 p hp rfl
    exact ⟨keep p.1 p.2 ne nf nch e n,free p.1 p.2 nch e n,ne,nf,d⟩
theorem Inv.un {t':Nat} (I:Inv X pins σ H s) (u:Un X.fs [] H H' s.heap h') (hok:HOk X.prog X.w H' h'):Inv X pins σ H' { s with heap:=h',toks:=t' }:=by
  obtain ⟨m,⟨o,es,ep,ho,r⟩,_⟩:=id I.loc
  obtain ⟨sl,hL⟩:=u.any ho I.free (by simp)
  exact I.step (g':=s.gens) (d':=s.drawn) (ch:=[]) (fun _ z=>nomatch z) (fun b o _ hb _ e n=>u.keep b o e n hb (by simp)) (fun b o _ hb _ e n=>u.slot b o e n hb (by simp)) (fun b o _ e n=>u.free b o e n (by simp)) (fun b o _ e=>u.there b o e (by simp)) u.tups u.frzs u.tbls (fun m' hm=>by
    obtain ⟨o',es',ep',ho',r'⟩:=hm
    rw [ho] at ho';cases ho'
    exact ⟨_,es',ep',hL,r'⟩) hok I.bare
theorem Inv.call {g':Array GenState} {t':Nat} {d':Drawn} {ch:List Addr} (I:Inv X pins σ H s) (u:Un (frs X.stack) ch H H' s.heap h') (hok:HOk X.prog X.w H' h') (hg:AllBare g')
    (hch:∀ b∈ch,(b∈X.ex∨X.s₀.heap.objs.size≤b)∧b≠X.env.locals∧(∀ x c,X.env.cells.lookup x=some c→c≠b)∧∀ p∈X.pn++pins,p.1≠b) :
    Inv X pins σ H' { s with heap:=h',gens:=g',drawn:=d',toks:=t' }:=by
  obtain ⟨m,⟨o,es,ep,ho,r⟩,_⟩:=id I.loc
  obtain ⟨sl,hL⟩:=u.any ho I.free fun z=>(hch _ z).2.1 rfl
  exact I.step (ch:=ch) hch (fun b o hL hb hc e n=>u.keep b o e n (fun z=>(List.mem_cons.mp (I.stkSub b z)).elim hL hb) hc) (fun b o _ _ hc e n=>u.any e n hc) (fun b o hc e n=>u.free b o e n hc) (fun b o hc e=>u.there b o e hc) u.tups u.frzs u.tbls (fun m' hm=>by
    obtain ⟨o',es',ep',ho',r'⟩:=hm
    rw [ho] at ho';cases ho'
    exact ⟨_,es',ep',hL,r'⟩) hok hg
theorem Inv.turned {t':Nat} {it:Addr} (I:Inv X pins σ H s) (k:∀ b o,b≠it→s.heap.get? b=some o→h'.get? b=some o) (hn:H it=none) (hL:it≠X.env.locals)
    (h1:it∈X.ex∨X.s₀.heap.objs.size≤it) (h2:∀ x c,X.env.cells.lookup x=some c→c≠it) (h3:∀ p∈X.pn++pins,p.1≠it):Inv X pins σ H { s with heap:=h',toks:=t' }:=by
  have nit:∀ b u,H b=some u→b≠it:=fun b u e z=>by rw [z,hn] at e;cases e
  refine I.step (g':=s.gens) (d':=s.drawn) (ch:=[it]) (fun b hb=>?_) (fun b o _ _ hc e _=>k b o (fun z=>hc (by simp [z])) e) (fun b o _ _ hc e _=>⟨o.slots,k b o (fun z=>hc (by simp [z])) e⟩) (fun _ _ _ _ n=>n)
    (fun b o hc e=>⟨o,k b o (fun z=>hc (by simp [z])) e⟩) (fun _ _ e=>e) (fun _ _ _ e=>e) (fun b ps e=>⟨#[],by rw [e];simp⟩) (fun m hm=>?_) (fun b u e=>?_) I.bare
  · have e:b=it:=by simpa using hb
    subst e
    exact ⟨h1,hL,h2,h3⟩
  · obtain ⟨o,es,ep,ho,r⟩:=hm
    exact ⟨o,es,ep,k _ o (Ne.symm hL) ho,r⟩
  · refine (I.hok b u e).stay (fun c v hc q=>k c v ?_ q) (fun _ q=>q) fun _ _ q=>q
    rcases hc with z | z
    · rw [z];exact nit b u e
    · exact nit c _ z
theorem Inv.tok (I:Inv X pins σ H s) (t:Nat):Inv X pins σ H { s with toks:=t }:=I.un (h':=s.heap) (t':=t) Un.refl I.hok
theorem Inv.kept {t':Nat} (I:Inv X pins σ H s) (k:∀ b u,s.heap.get? b=some u→h'.get? b=some u):Inv X pins σ H { s with heap:=h',toks:=t' }:=I.un (Un.kept k) (I.hok.kept k)
theorem Inv.laid {a:Addr} {o:HO} {t':Nat} (I:Inv X pins σ H s) (k:∀ b u,s.heap.get? b=some u→h'.get? b=some u) (hp:s.heap.objs.size≤a) (new:ObjOk X.prog X.w (upd H a o) h' a o) :
    Inv X pins σ (upd H a o) { s with heap:=h',toks:=t' }:=I.un (Un.laid k hp (I.hok.fresh hp)) (I.hok.laid k hp new)
theorem Inv.write {x e:Addr} {o:HO} {t':Nat} (I:Inv X pins σ H s) (mu:Mut (H x)) (he:e=x∨H e=some (.own x)) (k:∀ b u,b≠e→s.heap.get? b=some u→h'.get? b=some u) (heo:∃ u,h'.get? e=some u)
    (new:ObjOk X.prog X.w (upd H x o) h' x o):Inv X pins σ (upd H x o) { s with heap:=h',toks:=t' }:=I.un (Un.write mu he k heo) (I.hok.write mu he k heo new)
theorem Inv.weak {σ':List (Option V)} (I:Inv X pins σ H s) (hl:σ'.length=σ.length) (w:∀ (i:Nat) v,σ'[i]?=some (some v)→σ[i]?=some (some v)):Inv X pins σ' H s:=
  ⟨I.ok,I.os,I.bare,I.base,let ⟨m,hn,hl'⟩:=I.loc;⟨m,hn,fun i x v e1 e2 e3=>hl' i x v e1 (w i v e2) e3⟩,I.cell,I.free,I.freeC,I.pin,I.hok,hl.trans I.len⟩
theorem Inv.pins_of {pins':List (Addr × Obj)} (I:Inv X pins σ H s) (h:∀ p∈pins',s.heap.get? p.1=some p.2∧H p.1=none∧p.1≠X.env.locals∧p.1 ∉ X.fs∧∀ v,p.2.data≠.cell v):Inv X pins' σ H s:=
  ⟨I.ok,I.os,I.bare,I.base,I.loc,I.cell,I.free,I.freeC,fun p hp=>(List.mem_append.mp hp).elim (fun z=>I.pin p (List.mem_append_left _ z)) (h p),I.hok,I.len⟩
theorem nodup_ix {N:List Str} (hN:N.Nodup) {i j:Nat} {x:Str} (a:N[i]?=some x) (b:N[j]?=some x):i=j:=by
  obtain ⟨h1,e1⟩:=List.getElem?_eq_some_iff.mp a
  obtain ⟨h2,e2⟩:=List.getElem?_eq_some_iff.mp b
  exact (List.getElem_inj hN).mp (e1.trans e2.symm)
theorem store_ok2 {M:Model} {A:Around} {E:Value→Shared→Prop} {i:Nat} {x:Str} {v:V} {u:Value} {Q:Unit→Shared→Prop} (I:Inv X pins σ H s) (hN:X.N.Nodup) (hi:X.N[i]?=some x) (hx:Loc X.env.scope x) (r:RelV v u)
    (h:∀ s',Inv X pins (σ.set i (some v)) H s'→(∃ a,Heap.SameBut a s.heap s'.heap∧(a=X.env.locals∨X.env.cells.lookup x=some a))→Q () s') (hf:X.fn x=true∨X.env.scope.names.lookup x=some .local:=by first | exact .inl rfl | exact .inr rfl | assumption):wpAny M A (storeName X.env x u) Q E s:=by
  obtain ⟨m,hn,hl⟩:=id I.loc
  have hcls:(X.env.scope.kind == .class || (X.env.scope.kind == .module && X.env.locals != X.env.globals))=false:=by rw [I.ok.kind];rfl
  have hiσ:i < σ.length:=by rw [I.len];exact (List.getElem?_eq_some_iff.mp hi).1
  have cne:=I.cne
  have tracked:∀ {a:Addr} {h':Heap},(∃ o,s.heap.get? a=some o∧H a=none)→Heap.SameBut a s.heap h'→HOk X.prog X.w H h':=fun {a h'} ha hs b ob e=>by
    obtain ⟨_,_,hfree⟩:=ha
    refine (I.hok b ob e).stay (fun c w' hc q=>(hs.2 c ?_).trans q) (fun _ q=>q) fun _ _ q=>q
    rintro rfl
    rcases hc with rfl | hc
    · rw [hfree] at e;cases e
    · rw [hfree] at hc;cases hc
  rcases hx with hk | hk
  · refine wpAny_storeName_local hk hn (fun h' hn' hs=>?_) hcls
    obtain ⟨oL,_,_,hoL,_⟩:=id hn
    refine h _ ⟨I.ok,I.os,I.bare,⟨fun b o e n hb hx=>?_,fun b o e n hb hx=>?_,I.base.free,fun b o e hx=>?_,I.base.tups,I.base.frzs,I.base.tbls⟩,⟨_,hn',fun j y v' e1 e2 e3=>?_⟩,fun y c e=>?_,I.free,I.freeC,fun p hp=>?_,tracked ⟨oL,hoL,I.free⟩ hs,by simpa using I.len⟩ ⟨_,hs,.inl rfl⟩
    · exact (hs.2 b (Nat.ne_of_lt (Nat.lt_of_lt_of_le (Heap.lt_size e) I.ok.above))).trans (I.base.keep b o e n hb hx)
    · obtain ⟨sl,e1⟩:=I.base.slot b o e n hb hx
      exact ⟨sl,(hs.2 b (Nat.ne_of_lt (Nat.lt_of_lt_of_le (Heap.lt_size e) I.ok.above))).trans e1⟩
    · obtain ⟨o',e1⟩:=I.base.there b o e hx
      exact ⟨o',(hs.2 b (Nat.ne_of_lt (Nat.lt_of_lt_of_le (Heap.lt_size e) I.ok.above))).trans e1⟩
    · by_cases hj:j=i
      · subst hj
        rw [hi] at e1;cases e1
        rw [List.getElem?_set_self hiσ] at e2
        cases e2
        exact ⟨u,r,.inl ⟨hk,by simp⟩⟩
      · rw [List.getElem?_set_ne (Ne.symm hj)] at e2
        obtain ⟨u',r',q⟩:=hl j y v' e1 e2 e3
        refine ⟨u',r',?_⟩
        rcases q with ⟨k,e⟩ | ⟨k,c,e,z⟩
        · refine .inl ⟨k,?_⟩
          have:y≠x:=fun e=>hj (nodup_ix hN e1 (e ▸ hi))
          simp [this,e]
        · exact .inr ⟨k,c,e,z.sameBut hs (cne y c e)⟩
    · obtain ⟨w',z⟩:=I.cell y c e
      exact ⟨w',z.sameBut hs (cne y c e)⟩
    · obtain ⟨e,n,ne,nf,d⟩:=I.pin p hp
      exact ⟨(hs.2 p.1 ne).trans e,n,ne,nf,d⟩
  · have hfn:X.fn x=true:=by
      rcases hf with z | z
      · exact z
      · rw [z] at hk;cases hk
    obtain ⟨c,hc⟩:=I.ok.has x (.inl hk)
    obtain ⟨w',z⟩:=I.cell x c hc
    refine wpAny_storeName_cell I.ok.kind hk hc z (fun h' hc' hs=>?_)
    obtain ⟨oc,hoc,hocd⟩:=id z
    refine h { s with heap:=h' } ⟨I.ok,I.os,I.bare,⟨fun b o e n hb hx=>?_,fun b o e n hb hx=>?_,I.base.free,fun b o e hx=>?_,I.base.tups,I.base.frzs,I.base.tbls⟩,⟨m,hn.sameBut hs (Ne.symm (cne x c hc)),fun j y v' e1 e2 e3=>?_⟩,fun y c' e=>?_,I.free,I.freeC,fun p hp=>?_,tracked ⟨oc,hoc,I.freeC x c hc⟩ hs,by simpa using I.len⟩ ⟨c,hs,.inr hc⟩
    · exact (hs.2 b (Nat.ne_of_lt (Nat.lt_of_lt_of_le (Heap.lt_size e) (I.ok.cab x c hfn hc)))).trans (I.base.keep b o e n hb hx)
    · obtain ⟨sl,e1⟩:=I.base.slot b o e n hb hx
      exact ⟨sl,(hs.2 b (Nat.ne_of_lt (Nat.lt_of_lt_of_le (Heap.lt_size e) (I.ok.cab x c hfn hc)))).trans e1⟩
    · obtain ⟨o',e1⟩:=I.base.there b o e hx
      exact ⟨o',(hs.2 b (Nat.ne_of_lt (Nat.lt_of_lt_of_le (Heap.lt_size e) (I.ok.cab x c hfn hc)))).trans e1⟩
    · by_cases hj:j=i
      · subst hj
        rw [hi] at e1;cases e1
        rw [List.getElem?_set_self hiσ] at e2
        cases e2
        exact ⟨u,r,.inr ⟨.inl hk,c,hc,hc'⟩⟩
      · rw [List.getElem?_set_ne (Ne.symm hj)] at e2
        obtain ⟨u',r',q⟩:=hl j y v' e1 e2 e3
        refine ⟨u',r',?_⟩
        rcases q with q | ⟨k,c',e,z'⟩
        · exact .inl q
        · refine .inr ⟨k,c',e,z'.sameBut hs ?_⟩
          rintro rfl
          exact hj (nodup_ix hN e1 (I.ok.inj _ _ _ e hc ▸ hi))
    · by_cases hcc:c'=c
      · subst hcc;exact ⟨_,hc'⟩
      · obtain ⟨w2,z2⟩:=I.cell y c' e
        exact ⟨w2,z2.sameBut hs hcc⟩
    · obtain ⟨e,n,ne,nf,d⟩:=I.pin p hp
      refine ⟨(hs.2 p.1 ?_).trans e,n,ne,nf,d⟩
      intro q
      rw [q,hoc] at e
      have q':oc=p.2:=Option.some.inj e
      exact d w' (by rw [← q'];exact hocd)
theorem store_ok {M:Model} {A:Around} {E:Value→Shared→Prop} {i:Nat} {x:Str} {v:V} {u:Value} {Q:Unit→Shared→Prop} (I:Inv X pins σ H s) (hN:X.N.Nodup) (hi:X.N[i]?=some x) (hx:Loc X.env.scope x) (r:RelV v u)
    (h:∀ s',Inv X pins (σ.set i (some v)) H s'→Q () s') (hf:X.fn x=true∨X.env.scope.names.lookup x=some .local:=by first | exact .inl rfl | exact .inr rfl | assumption):wpAny M A (storeName X.env x u) Q E s:=
  store_ok2 I hN hi hx r (fun s' I' _=>h s' I') hf
theorem Inv.call' {s':Shared} {ch:List Addr} (I:Inv X pins σ H s) (ho:s'.os=s.os) (u:Un (frs X.stack) ch H H' s.heap s'.heap) (hok:HOk X.prog X.w H' s'.heap) (hg:AllBare s'.gens)
    (hch:∀ b∈ch,(b∈X.ex∨X.s₀.heap.objs.size≤b)∧b≠X.env.locals∧(∀ x c,X.env.cells.lookup x=some c→c≠b)∧∀ p∈X.pn++pins,p.1≠b):Inv X pins σ H' s':=by
  obtain ⟨h',g',d',t',o'⟩:=s'
  have e:o'=s.os:=ho
  subst e
  exact I.call (g':=g') (t':=t') (d':=d') u hok hg hch
end
abbrev XK:=Value→Option Addr→Hp→Prop
abbrev St:=List (Option V)
abbrev VK:=V→Hp→Prop
abbrev TE:=St→Hp→VK→Prop
abbrev TT:=St→Hp→(Bool→Hp→Prop)→Prop
abbrev TA:=St→Hp→(List V→Hp→Prop)→Prop
structure Ends where
  nx:St→Hp→Prop
  rt:VK
  bk:St→Hp→Prop:=fun _ _=>False
  ct:St→Hp→Prop:=fun _ _=>False
abbrev TS:=Ends→St→Hp→Prop
def EP (X:Cx) (pins:List (Addr × Obj)) (σ:St) (Q:VK) (u:Value) (s':Shared):Prop:=∃ v H',Inv X pins σ H' s'∧RelV v u∧Q v H'
def TP (X:Cx) (pins:List (Addr × Obj)) (σ:St) (Q:Bool→Hp→Prop) (b:Bool) (s':Shared):Prop:=∃ H',Inv X pins σ H' s'∧Q b H'
def AP (X:Cx) (pins:List (Addr × Obj)) (σ:St) (Q:List V→Hp→Prop) (us:List Value) (s':Shared):Prop:=∃ vs H',Inv X pins σ H' s'∧Vals vs us∧Q vs H'
def SP (X:Cx) (pins:List (Addr × Obj)) (D:Ends) (f:Flow) (s':Shared):Prop:=
  match f with
  | .next=>∃ σ' H',Inv X pins σ' H' s'∧D.nx σ' H'
  | .brk=>∃ σ' H',Inv X pins σ' H' s'∧D.bk σ' H'
  | .cont=>∃ σ' H',Inv X pins σ' H' s'∧D.ct σ' H'
  | .ret u=>∃ v σ' H',Inv X pins σ' H' s'∧RelV v u∧D.rt v H'
def PE (X:Cx) (e:Expr) (t:TE):Prop:=
  ∀ (pins:List (Addr × Obj)) (s:Shared) (σ:St) (H:Hp) (Q:VK),Inv X pins σ H s→t σ H Q→wpAny (model X.prog X.w) X.A (eval e X.env) (EP X pins σ Q) X.xe s
def PT (X:Cx) (e:Expr) (t:TT):Prop:=
  ∀ (pins:List (Addr × Obj)) (s:Shared) (σ:St) (H:Hp) (Q:Bool→Hp→Prop),Inv X pins σ H s→t σ H Q→wpAny (model X.prog X.w) X.A (isTrue e X.env (eval e X.env)) (TP X pins σ Q) X.xe s
def PW (X:Cx) (e:Expr) (t:TT):Prop:=
  ∀ (whole:Sem Value) (pins:List (Addr × Obj)) (s:Shared) (σ:St) (H:Hp) (Q:Bool→Hp→Prop),Inv X pins σ H s→t σ H Q→wpAny (model X.prog X.w) X.A (isTrue e X.env whole) (TP X pins σ Q) X.xe s
theorem PW.pt {X:Cx} {e:Expr} {t:TT} (h:PW X e t):PT X e t:=h _
def PA (X:Cx) (es:List Expr) (t:TA):Prop:=
  ∀ (pos:Pos) (pins:List (Addr × Obj)) (s:Shared) (σ:St) (H:Hp) (Q:List V→Hp→Prop),Inv X pins σ H s→t σ H Q→wpAny (model X.prog X.w) X.A (spliced (backTo pos (starEach es X.env))) (AP X pins σ Q) X.xe s
def PS (X:Cx) (st:Stmt) (t:TS):Prop:=
  ∀ (pins:List (Addr × Obj)) (s:Shared) (σ:St) (H:Hp) (D:Ends),Inv X pins σ H s→t D σ H→wpAny (model X.prog X.w) X.A (exec st X.env) (SP X pins D) X.xe s
def PSs (X:Cx) (st:List Stmt) (t:TS):Prop:=
  ∀ (pins:List (Addr × Obj)) (s:Shared) (σ:St) (H:Hp) (D:Ends),Inv X pins σ H s→t D σ H→wpAny (model X.prog X.w) X.A (execs st X.env) (SP X pins D) X.xe s
theorem thn {α:Type} {t:Sem α} {Q Q':α→Shared→Prop} {M:Model} {A:Around} {E:Value→Shared→Prop} {s:Shared} (h:wpAny M A t Q E s) (hQ:∀ a s,Q a s→Q' a s):wpAny M A t Q' E s:=wpAny_mono h hQ fun _ _ x=>x
end L2
namespace L2
open PySem PySem.Spec PyProof.Rows
section
variable {X:Cx}
def tVar (i:Nat):TE:=fun σ H Q=>∃ v,σ[i]?=some (some v)∧Q v H
def tC (v:V):TE:=fun _ H Q=>Q v H
theorem pe_var {i:Nat} {x:Str} {pos:Pos} (hN:X.N[i]?=some x) (hv:Vis X.env.scope x) (hd:(x == ("__debug__" : Str))=false:=by decide) (hcd:(x == ("__classdict__" : Str))=false:=by decide):PE X (.Name x pos) (tVar i):=by
  intro pins s σ H Q I h
  obtain ⟨v,e,h⟩:=h
  obtain ⟨m,hn,hl⟩:=I.loc
  obtain ⟨u,r,l⟩:=hl i x v hN e hv
  have fin:EP X pins σ Q u s:=⟨v,H,I,r,h⟩
  rcases l with ⟨hk,hm⟩ | ⟨hk,c,hc,hcell⟩
  · exact wpAny_Name (wpAny_loadName_local I.ok.kind hk hn hm fin) hd
  · rcases hk with hk | hk
    · exact wpAny_Name (wpAny_loadName_cell I.ok.kind hk hc hcell fin) hd
    · exact wpAny_Name (wpAny_loadName_free I.ok.kind hk hc hcell fin hcd) hd
theorem pe_int {i j pos}:PE X (.Constant (.int i) j pos) (tC (.int i)):=fun _ _ _ H _ I h=>wpAny_Constant_int ⟨.int i,H,I.tok _,⟨_,rfl⟩,h⟩
theorem pe_bl {b j pos}:PE X (.Constant (.bool b) j pos) (tC (.bl b)):=fun _ _ _ H _ I h=>Constant_bool ⟨.bl b,H,I,rfl,h⟩
theorem pe_non {j pos}:PE X (.Constant .none j pos) (tC .non):=fun _ _ _ H _ I h=>Constant_none ⟨.non,H,I,rfl,h⟩
theorem pe_str {x j pos}:PE X (.Constant (.str x) j pos) (tC (.str x)):=fun _ _ _ H _ I h=>Calls.Constant_str ⟨.str x,H,I.tok _,⟨_,rfl⟩,h⟩
def Gl (X:Cx) (x:Str):Prop:=X.env.kindOf x=some .globalImplicit
theorem ld_glob {E:Value→Shared→Prop} {pins:List (Addr × Obj)} {s:Shared} {σ:St} {H:Hp} {x:Str} {u:Value} {pos:Pos} {Q:Value→Shared→Prop} (I:Inv X pins σ H s) (hg:Gl X x) (hm:X.mg x=some u) (h:Q u s)
    (hd:(x == ("__debug__" : Str))=false:=by decide):wpAny (model X.prog X.w) X.A (eval (.Name x pos) X.env) Q E s:=
  Calls.Name_function_global I.ok.kind hg (Calls.loadGlobal_global (by rw [I.ok.glob];exact I.mod.glob.keeps I.bk) hm h) hd
theorem ld_blt {E:Value→Shared→Prop} {pins:List (Addr × Obj)} {s:Shared} {σ:St} {H:Hp} {x:Str} {u:Value} {pos:Pos} {Q:Value→Shared→Prop} (I:Inv X pins σ H s) (hg:Gl X x) (hm:X.mg x=none) (hv:bootBuiltins x=some u) (h:Q u s)
    (hn:x ≠ "__name__" := by decide) (hd:(x == ("__debug__" : Str))=false:=by decide):wpAny (model X.prog X.w) X.A (eval (.Name x pos) X.env) Q E s:=by
  obtain ⟨mb,h1,h2⟩:=I.mod.blt
  exact Calls.Name_function_global I.ok.kind hg (Calls.loadGlobal_builtin (by rw [I.ok.glob];exact I.mod.glob.keeps I.bk) hm (by rw [I.ok.blt];exact h1.keeps I.bk) ((h2 x hn).trans hv) h) hd
variable {a b:Expr} {ta tb:TE} {pos:Pos}
def PC (X:Cx) (op:CmpOp) (a b:Expr) (t:TE):Prop:=
  ∀ (pins:List (Addr × Obj)) (s:Shared) (σ:St) (H:Hp) (Q:VK),Inv X pins σ H s→t σ H Q →
    wpAny (model X.prog X.w) X.A (eval a X.env) (fun v s₁=>wpAny (model X.prog X.w) X.A (eval b X.env) (fun u s₂=>wpAny (model X.prog X.w) X.A (compareOp op v u) (EP X pins σ Q) X.xe s₂) X.xe s₁) X.xe s
theorem nobehind (b:Expr) {op:CmpOp} (h:op≠.In) (h2:op≠.NotIn):behindInMarks op b=false:=by
  have e1:(op == CmpOp.In)=false:=by cases op <;> first | rfl | exact absurd rfl h
  have e2:(op == CmpOp.NotIn)=false:=by cases op <;> first | rfl | exact absurd rfl h2
  cases b <;> simp [behindInMarks,e1,e2]
def tB (t:TE):TT:=fun σ H Q=>t σ H fun x H1=>∃ c,x=.bl c∧Q c H1
theorem pt_cmp {op:CmpOp} {t:TE} (h:PC X op a b t) (h1:behindInMarks op b=false:=by first | exact nobehind _ (by decide) (by decide) | rfl):PT X (.Compare a [op] [b] pos) (tB t):=by
  intro pins s σ H Q I hw
  refine wpAny_isTrue_Compare1 (thn (h pins s σ H _ I hw) fun v s1 h1=>thn h1 fun u s2 h2=>thn h2 fun c s3 ⟨x,H1,I1,r1,q1⟩=>?_) h1
  obtain ⟨d,rfl,q⟩:=q1
  cases r1
  exact wpAny_truthy_bool ⟨H1,I1,q⟩
theorem pt_val {e:Expr} {t:TE} (h:PE X e t) (he:∀ whole,isTrue e X.env whole=(do let v ← whole;standAt e.pos;holding [v] (truthy v)):=by intro _;rfl):PT X e (tB t):=by
  intro pins s σ H Q I hw
  refine isTrue_plain (thn (h pins s σ H _ I hw) fun v s1 ⟨x,H1,I1,r1,q1⟩=>?_) (he _)
  obtain ⟨d,rfl,q⟩:=q1
  cases r1
  exact wpAny_truthy_bool ⟨H1,I1,q⟩
variable {tA tB':TT} {rest:List Expr}
def tAnd (t u:TT):TT:=fun σ H Q=>t σ H fun c H1=>if c=true then u σ H1 Q else Q false H1
def tOr (t u:TT):TT:=fun σ H Q=>t σ H fun c H1=>if c=true then Q true H1 else u σ H1 Q
def tNot (t:TT):TT:=fun σ H Q=>t σ H fun c H1=>Q (!c) H1
theorem pw_and1 (ha:PT X a tA):PW X (.BoolOp .And [a] pos) tA:=by
  intro wh pins s σ H Q I h
  refine isTrue_and (thn (ha pins s σ H Q I h) fun c s1 e=>?_)
  cases c with
  | true=>exact isTrue_and_nil e
  | false=>exact e
theorem pw_or1 (ha:PT X a tA):PW X (.BoolOp .Or [a] pos) tA:=by
  intro wh pins s σ H Q I h
  refine isTrue_or (thn (ha pins s σ H Q I h) fun c s1 e=>?_)
  cases c with
  | false=>exact isTrue_or_nil e
  | true=>exact e
theorem pw_and (ha:PT X a tA) (hb:PW X (.BoolOp .And (b :: rest) pos) tB'):PW X (.BoolOp .And (a :: b :: rest) pos) (tAnd tA tB'):=by
  intro wh pins s σ H Q I h
  refine isTrue_and (thn (ha pins s σ H _ I h) fun c s1 ⟨H1,I1,q1⟩=>?_)
  cases c with
  | true=>exact hb wh pins s1 σ H1 Q I1 q1
  | false=>exact ⟨H1,I1,q1⟩
theorem pw_or (ha:PT X a tA) (hb:PW X (.BoolOp .Or (b :: rest) pos) tB'):PW X (.BoolOp .Or (a :: b :: rest) pos) (tOr tA tB'):=by
  intro wh pins s σ H Q I h
  refine isTrue_or (thn (ha pins s σ H _ I h) fun c s1 ⟨H1,I1,q1⟩=>?_)
  cases c with
  | true=>exact ⟨H1,I1,q1⟩
  | false=>exact hb wh pins s1 σ H1 Q I1 q1
theorem pt_not (ha:PT X a tA):PT X (.UnaryOp .Not a pos) (tNot tA):=by
  intro pins s σ H Q I h
  exact isTrue_not (ha pins s σ H (fun c H1=>Q (!c) H1) I h)
def tIf (t:TT) (ta tb:TE):TE:=fun σ H Q=>t σ H fun c H1=>if c=true then ta σ H1 Q else tb σ H1 Q
theorem pe_ifExp {c:Expr} (hc:PT X c tA) (ha:PE X a ta) (hb:PE X b tb):PE X (.IfExp c a b pos) (tIf tA ta tb):=by
  intro pins s σ H Q I h
  refine wpAny_IfExp (thn (hc pins s σ H _ I h) fun d s1 ⟨H1,I1,q1⟩=>?_)
  cases d with
  | true=>exact ha pins s1 σ H1 Q I1 q1
  | false=>exact hb pins s1 σ H1 Q I1 q1
end
end L2
namespace L2
open PySem PySem.Spec PyProof.Rows
def SqL (K:PySem.W.Frag) (H:Hp) (a:Addr) (xs:List V):Prop:=
  Rd H a (.lst xs) ∨
    ∃ (o:Obj) (its:Array Value) (n:Nat),K.lookup a=some o∧o.cls=.type "list" ∧ o.dict=none∧o.data=.seq its n∧its.size≤sizeLine∧Vals xs its.toList
def SqT (K:PySem.W.Frag) (H:Hp) (a:Addr) (xs:List V):Prop:=
  Rd H a (.tup xs) ∨
    ∃ (o:Obj) (its:Array Value) (n:Nat),K.lookup a=some o∧o.cls=.type "tuple" ∧ o.data=.seq its n∧its.size≤sizeLine∧Vals xs its.toList
def absV:Value→Option V
  | .none=>some .non
  | .bool b=>some (.bl b)
  | .int i _=>some (.int i)
  | .str x _=>some (.str x)
  | .bytes b _=>some (.byt b)
  | .float b _=>some (.flt b)
  | .ref a=>some (.ref a)
  | .type n=>some (.ty n)
  | _=>none
theorem RelV.abs {x:V} {u:Value} (r:RelV x u):absV u=some x:=by
  cases x with
  | non=>cases r;rfl
  | bl _=>cases r;rfl
  | int _=>obtain ⟨t,rfl⟩:=r;rfl
  | str _=>obtain ⟨t,rfl⟩:=r;rfl
  | byt _=>obtain ⟨t,rfl⟩:=r;rfl
  | flt _=>obtain ⟨t,rfl⟩:=r;rfl
  | ref _=>cases r;rfl
  | ty _=>cases r;rfl
theorem RelV.inj {x y:V} {u:Value} (r:RelV x u) (q:RelV y u):x=y:=Option.some.inj (r.abs.symm.trans q.abs)
theorem Vals.inj:∀ {xs ys:List V} {us:List Value},Vals xs us→Vals ys us→xs=ys
  | _,_,_,.nil,.nil=>rfl
  | _,_,_,.cons r t,.cons r' t'=>by rw [r.inj r',Vals.inj t t']
section
variable {X:Cx} {pins:List (Addr × Obj)} {σ:St} {H:Hp} {s:Shared} {a:Addr} {xs ys:List V}
theorem SqL.of {K:PySem.W.Frag} (h:H a=some (.lst xs)):SqL K H a xs:=.inl (.inl h)
theorem SqT.of {K:PySem.W.Frag} (h:H a=some (.tup xs)):SqT K H a xs:=.inl (.inl h)
theorem Inv.list (I:Inv X pins σ H s) (h:SqL X.K H a xs):∃ its:List Value,Vals xs its∧PlainL s.heap a its.toArray∧xs.length≤sizeLine:=by
  rcases h with h | ⟨o,its,n,hk,hc,hd,hs,hz,r⟩
  · obtain ⟨z,its,n,r,e⟩:=h.ok I.hok
    exact ⟨its,r,⟨_,n,e,rfl,rfl,rfl⟩,z⟩
  · refine ⟨its.toList,r,⟨o,n,I.kIn a o hk,hc,hd,by simpa using hs⟩,?_⟩
    have e:=r.length
    simp only [Array.length_toList] at e
    omega
theorem Inv.tuple (I:Inv X pins σ H s) (h:SqT X.K H a xs):∃ its:List Value,Vals xs its∧IsTup s.heap a its.toArray∧xs.length≤sizeLine:=by
  rcases h with h | ⟨o,its,n,hk,hc,hs,hz,r⟩
  · obtain ⟨z,its,r,p⟩:=h.ok I.hok
    exact ⟨its,r,p,z.1⟩
  · refine ⟨its.toList,r,⟨o,I.kIn a o hk,hc,n,by simpa using hs⟩,?_⟩
    have e:=r.length
    simp only [Array.length_toList] at e
    omega
theorem Inv.list_inj (I:Inv X pins σ H s) (h:SqL X.K H a xs) (h':SqL X.K H a ys):xs=ys:=by
  obtain ⟨its,r,⟨o,n,e,_,_,d⟩,_⟩:=I.list h
  obtain ⟨its',r',⟨o',n',e',_,_,d'⟩,_⟩:=I.list h'
  rw [e] at e';cases e'
  rw [d] at d'
  injection d' with d1 _
  have:its=its':=by simpa using congrArg Array.toList d1
  subst this
  exact r.inj r'
theorem Inv.tuple_inj (I:Inv X pins σ H s) (h:SqT X.K H a xs) (h':SqT X.K H a ys):xs=ys:=by
  obtain ⟨its,r,⟨o,e,_,n,d⟩,_⟩:=I.tuple h
  obtain ⟨its',r',⟨o',e',_,n',d'⟩,_⟩:=I.tuple h'
  rw [e] at e';cases e'
  rw [d] at d'
  injection d' with d1 _
  have:its=its':=by simpa using congrArg Array.toList d1
  subst this
  exact r.inj r'
end
abbrev Cx.wish (X:Cx) (E:Value→Shared→Prop):Cx:={ X with xe:=E }
abbrev Cx.nox (X:Cx):Cx:=X.wish fun _ _=>False
theorem Cx.Ok.wish {X:Cx} (ok:X.Ok) (E:Value→Shared→Prop):(X.wish E).Ok:=
  ⟨ok.mod,ok.kind,ok.glob,ok.blt,ok.above,ok.inj,ok.has,ok.cab,ok.hd,ok.frames,ok.stk,ok.exf,ok.bs,ok.bsz,ok.noex,ok.exfs,ok.funs,ok.frf⟩
theorem Cx.Ok.unwish {X:Cx} {E:Value→Shared→Prop} (ok:(X.wish E).Ok):X.Ok:=
  ⟨ok.mod,ok.kind,ok.glob,ok.blt,ok.above,ok.inj,ok.has,ok.cab,ok.hd,ok.frames,ok.stk,ok.exf,ok.bs,ok.bsz,ok.noex,ok.exfs,ok.funs,ok.frf⟩
section
variable {X:Cx} {pins:List (Addr × Obj)} {σ:St} {H:Hp} {s:Shared} {E:Value→Shared→Prop}
theorem Inv.wish (I:Inv X pins σ H s) (E:Value→Shared→Prop):Inv (X.wish E) pins σ H s:=⟨I.ok.wish E,I.os,I.bare,I.base,I.loc,I.cell,I.free,I.freeC,I.pin,I.hok,I.len⟩
theorem Inv.unwish (I:Inv (X.wish E) pins σ H s):Inv X pins σ H s:=⟨I.ok.unwish,I.os,I.bare,I.base,I.loc,I.cell,I.free,I.freeC,I.pin,I.hok,I.len⟩
theorem SP.unwish {D:Ends} {f:Flow} {s':Shared} (h:SP (X.wish E) pins D f s'):SP X pins D f s':=by
  cases f with
  | next=>obtain ⟨σ',H',I,q⟩:=h;exact ⟨σ',H',I.unwish,q⟩
  | brk=>obtain ⟨σ',H',I,q⟩:=h;exact ⟨σ',H',I.unwish,q⟩
  | cont=>obtain ⟨σ',H',I,q⟩:=h;exact ⟨σ',H',I.unwish,q⟩
  | ret u=>obtain ⟨v,σ',H',I,r,q⟩:=h;exact ⟨v,σ',H',I.unwish,r,q⟩
theorem PSs.nox {st:List Stmt} {t:TS} (h:PSs X.nox st t):PSs X st t:=fun pins s σ H D I hw=>
  wpAny_mono (h pins s σ H D (I.wish _) hw) (fun _ _ q=>q.unwish) fun _ _ z=>False.elim z
end
section
variable {X:Cx} {st:Stmt} {rest:List Stmt} {t u:TS} {e:Expr} {te:TE} {pos:Pos}
def tNext:TS:=fun D σ H=>D.nx σ H
def tSeq (t u:TS):TS:=fun D σ H=>t { D with nx:=u D } σ H
theorem pss_nil:PSs X [] tNext:=fun _ _ σ H _ I h=>wpAny_execs_nil ⟨σ,H,I,h⟩
theorem pss_cons (h1:PS X st t) (h2:PSs X rest u):PSs X (st :: rest) (tSeq t u):=by
  intro pins s σ H D I h
  refine wpAny_execs_cons (thn (h1 pins s σ H { D with nx:=u D } I h) fun f s1 q=>?_)
  cases f with
  | next=>
    obtain ⟨σ',H',I',q⟩:=q
    exact h2 pins s1 σ' H' D I' q
  | ret v=>exact q
  | brk=>exact q
  | cont=>exact q
theorem pss_one (h1:PS X st t):PSs X [st] t:=by
  intro pins s σ H D I h
  refine wpAny_execs_cons (thn (h1 pins s σ H D I h) fun f s1 q=>?_)
  cases f with
  | next=>exact wpAny_execs_nil q
  | ret v=>exact q
  | brk=>exact q
  | cont=>exact q
theorem Inv.quiet {pins:List (Addr × Obj)} {σ:St} {H:Hp} {s:Shared} (I:Inv X pins σ H s):interactive X.env=false:=by simp [interactive,I.ok.kind]
def tDrop (te:TE):TS:=fun D σ H=>te σ H fun _ H1=>D.nx σ H1
theorem ps_expr (he:PE X e te) (hs:swapsWith e none pos.line X.env=pure false:=by rfl):PS X (.Expr e pos) (tDrop te):=by
  intro pins s σ H D I h
  exact wpAny_Expr_any (thn (he pins s σ H _ I h) fun v s1 ⟨x,H1,I1,r1,q1⟩=>⟨σ,H1,I1,q1⟩) I.quiet hs
def tRet (te:TE):TS:=fun D σ H=>te σ H D.rt
theorem ps_ret (he:PE X e te):PS X (.Return (some e) pos) (tRet te):=by
  intro pins s σ H D I h
  exact wpAny_Return_some (thn (he pins s σ H _ I h) fun v s1 ⟨x,H1,I1,r1,q1⟩=>⟨x,σ,H1,I1,r1,q1⟩)
def tIfS (c:TT) (t u:TS):TS:=fun D σ H=>c σ H fun b H1=>if b=true then t D σ H1 else u D σ H1
theorem ps_if {c:Expr} {a b:List Stmt} {tc:TT} (hc:PT X c tc) (ha:PSs X a t) (hb:PSs X b u):PS X (.If c a b pos) (tIfS tc t u):=by
  intro pins s σ H D I h
  refine wpAny_If (thn (hc pins s σ H _ I h) fun d s1 ⟨H1,I1,q1⟩=>?_)
  cases d with
  | true=>exact ha pins s1 σ H1 D I1 q1
  | false=>exact hb pins s1 σ H1 D I1 q1
end
abbrev TG:=V→St→Hp→(St→Hp→Prop)→Prop
abbrev TGs:=List V→St→Hp→(St→Hp→Prop)→Prop
def PG (X:Cx) (target:Expr) (t:TG):Prop:=
  ∀ (pins:List (Addr × Obj)) (s:Shared) (σ:St) (H:Hp) (v:V) (u:Value) (Q:St→Hp→Prop),Inv X pins σ H s→RelV v u→t v σ H Q →
    wpAny (model X.prog X.w) X.A (assign target X.env u) (fun _ s'=>∃ σ' H',Inv X pins σ' H' s'∧Q σ' H') X.xe s
def PGs (X:Cx) (ts:List Expr) (t:TGs):Prop:=
  ∀ (pins:List (Addr × Obj)) (s:Shared) (σ:St) (H:Hp) (vs:List V) (us:List Value) (Q:St→Hp→Prop),Inv X pins σ H s→Vals vs us→t vs σ H Q →
    wpAny (model X.prog X.w) X.A (assignInOrder ((assignEach ts X.env).map (·.2)) us) (fun _ s'=>∃ σ' H',Inv X pins σ' H' s'∧Q σ' H') X.xe s
abbrev TSet:=V→V→V→Hp→(Hp→Prop)→Prop
def PSet (X:Cx) (t:TSet):Prop:=
  ∀ (pins:List (Addr × Obj)) (s:Shared) (σ:St) (H:Hp) (o i v:V) (ov iv u:Value) (Q:Hp→Prop),Inv X pins σ H s→RelV o ov→RelV i iv→RelV v u→t o i v H Q →
    wpAny (model X.prog X.w) X.A (setItem ov iv u) (fun _ s'=>∃ H',Inv X pins σ H' s'∧Q H') X.xe s
abbrev TIp:=V→V→Hp→VK→Prop
def PIp (X:Cx) (op:Operator) (t:TIp):Prop:=
  ∀ (pins:List (Addr × Obj)) (s:Shared) (σ:St) (H:Hp) (x y:V) (v u:Value) (Q:VK),Inv X pins σ H s→RelV x v→RelV y u→t x y H Q →
    wpAny (model X.prog X.w) X.A (inplaceOp op v u) (EP X pins σ Q) X.xe s
section
variable {X:Cx} {pos:Pos}
def gName (i:Nat):TG:=fun v σ H Q=>Q (σ.set i (some v)) H
theorem pg_name {i:Nat} {x:Str} (hN:X.N.Nodup) (hi:X.N[i]?=some x) (hx:Loc X.env.scope x) (hf:X.fn x=true∨X.env.scope.names.lookup x=some .local:=by first | exact .inl rfl | exact .inr rfl | assumption):PG X (.Name x pos) (gName i):=by
  intro pins s σ H v u Q I r h
  exact wpAny_assign_Name (store_ok I hN hi hx r (fun s' I'=>⟨_,H,I',h⟩) hf)
def gNil:TGs:=fun vs σ H Q=>vs=[]∧Q σ H
def gCons (t:TG) (u:TGs):TGs:=fun vs σ H Q=>∃ v r,vs=v :: r∧t v σ H fun σ' H'=>u r σ' H' Q
theorem pgs_nil:PGs X [] gNil:=by
  intro pins s σ H vs us Q I r h
  obtain ⟨e,h⟩:=h
  subst e
  cases r
  exact assignInOrder_nil ⟨σ,H,I,h⟩
theorem pgs_cons {e:Expr} {es:List Expr} {t:TG} {u:TGs} (h1:PG X e t) (h2:PGs X es u)
    (hs:(assignEach (e :: es) X.env).map (·.2)=assign e X.env :: (assignEach es X.env).map (·.2):=by rfl):PGs X (e :: es) (gCons t u):=by
  intro pins s σ H vs us Q I r h
  obtain ⟨v,vr,e1,h⟩:=h
  subst e1
  cases r with
  | cons r rr=>
    rw [hs]
    refine assignInOrder_cons (thn (h1 pins s σ H _ _ _ I r h) fun _ s1 ⟨σ1,H1,I1,q1⟩=>?_)
    exact h2 pins s1 σ1 H1 _ _ Q I1 rr q1
def gTup (K:PySem.W.Frag) (n:Nat) (t:TGs):TG:=fun v σ H Q=>∃ a xs,v=.ref a∧SqT K H a xs∧xs.length=n∧t xs σ H Q
theorem pg_tup {es:List Expr} {k:Nat} {t:TGs} {n:Nat} (hc:X.calm=true) (h:PGs X es t)
    (hn:(assignEach es X.env).length=n:=by rfl) (hst:(assignEach es X.env).findIdx? (·.1)=none:=by rfl):PG X (.Tuple es k pos) (gTup X.K n t):=by
  intro pins s σ H v u Q I r hw
  obtain ⟨a,xs,e1,hq,hl,hw⟩:=hw
  subst e1
  cases r
  obtain ⟨its,rv,ht,hz⟩:=I.tuple hq
  refine assign_Tuple_tuple (I.ok.hd hc) ht (by simp [hn,← hl,rv.length]) hst fun h' hx=>?_
  have I1:Inv X pins σ H { s with heap:=h' }:=I.kept (t':=s.toks) fun b o e=>hx b o (Nat.ne_of_lt (Heap.lt_size e)) e
  exact h pins _ σ H xs _ Q I1 (by simpa using rv) hw
def gSub (to ti:TE) (t:TSet):TG:=fun v σ H Q=>to σ H fun o H1=>ti σ H1 fun i H2=>t o i v H2 fun H3=>Q σ H3
theorem pg_sub {o i:Expr} {to ti:TE} {t:TSet} (ho:PE X o to) (hi:PE X i ti) (hs:PSet X t)
    (ha:∀ v,assign (.Subscript o i pos) X.env v=(do
      let ov ← holding [v] (eval o X.env)
      let iv ← holding [v,ov] (eval i X.env)
      standAt pos
      holding [v,ov,iv] (setItem ov iv v)
      release [v,ov,iv] []):=by intro _;rfl):PG X (.Subscript o i pos) (gSub to ti t):=by
  intro pins s σ H v u Q I r h
  rw [ha]
  refine wpAny_bind (wpAny_holding (thn (ho pins s σ H _ I h) fun ov s1 ⟨x,H1,I1,r1,q1⟩=>?_))
  refine wpAny_bind (wpAny_holding (thn (hi pins s1 σ H1 _ I1 q1) fun iv s2 ⟨y,H2,I2,r2,q2⟩=>?_))
  refine wpAny_bind (wpAny_standAt (wpAny_bind (wpAny_holding (thn (hs pins s2 σ H2 x y v ov iv u _ I2 r1 r2 r q2) fun _ s3 ⟨H3,I3,q3⟩=>?_))))
  exact wpAny_release ⟨σ,H3,I3,q3⟩
def tAsg (te:TE) (g:TG):TS:=fun D σ H=>te σ H fun x H1=>g x σ H1 D.nx
theorem ps_asg {tg e:Expr} {te:TE} {g:TG} (he:PE X e te) (hg:PG X tg g) (hs:swapsWithSole [tg] e pos.line X.env=pure false:=by rfl) (hw:swappedStores [tg] e X.env=pure none:=by rfl)
    (h1:(assignEach [tg] X.env).map (·.2)=[assign tg X.env]:=by rfl):PS X (.Assign [tg] e pos) (tAsg te g):=by
  intro pins s σ H D I h
  refine wpAny_Assign_stores (thn (he pins s σ H _ I h) fun v s1 ⟨x,H1,I1,r1,q1⟩=>?_) hs hw
  rw [h1]
  exact thn (hg pins s1 σ H1 x v _ I1 r1 q1) fun _ s2 q=>q
theorem ps_set {i:Nat} {x:Str} {e:Expr} {te:TE} {pos':Pos} (hN:X.N.Nodup) (hi:X.N[i]?=some x) (hx:Loc X.env.scope x) (he:PE X e te) (hs:swapsWith e (some (.Name x pos')) pos.line X.env=pure false:=by rfl) (hf:X.fn x=true∨X.env.scope.names.lookup x=some .local:=by first | exact .inl rfl | exact .inr rfl | assumption) :
    PS X (.Assign [.Name x pos'] e pos) (tAsg te (gName i)):=by
  intro pins s σ H D I h
  refine wpAny_Assign_Name (thn (he pins s σ H _ I h) fun v s1 ⟨y,H1,I1,r1,q1⟩=>?_) hs
  exact store_ok I1 hN hi hx r1 (fun s2 I2=>⟨_,H1,I2,q1⟩) hf
def tAug (i:Nat) (te:TE) (ti:TIp):TS:=fun D σ H=>∃ x,σ[i]?=some (some x)∧te σ H fun y H1=>ti x y H1 fun z H2=>D.nx (σ.set i (some z)) H2
theorem ps_aug {i:Nat} {x:Str} {e:Expr} {te:TE} {op:Operator} {ti:TIp} {pos':Pos} (hN:X.N.Nodup) (hi:X.N[i]?=some x) (hx:Loc X.env.scope x) (he:PE X e te) (ho:PIp X op ti) (hf:X.fn x=true∨X.env.scope.names.lookup x=some .local:=by first | exact .inl rfl | exact .inr rfl | assumption) :
    PS X (.AugAssign (.Name x pos') op e pos) (tAug i te ti):=by
  intro pins s σ H D I h
  obtain ⟨v,e1,h⟩:=h
  obtain ⟨m,hn,hl⟩:=I.loc
  have vis:Vis X.env.scope x:=by rcases hx with k | k;exact .inl k;exact .inr (.inl k)
  obtain ⟨u,r,l⟩:=hl i x v hi e1 vis
  refine wpAny_AugAssign_Name ?_
  have go:wpAny (model X.prog X.w) X.A (eval e X.env) (fun w s₂=>wpAny (model X.prog X.w) X.A (inplaceOp op u w) (fun r s₃=>wpAny (model X.prog X.w) X.A (storeName X.env x r) (fun _=>SP X pins D .next) X.xe s₃) X.xe s₂) X.xe s:=by
    refine thn (he pins s σ H _ I h) fun w s1 ⟨y,H1,I1,r1,q1⟩=>?_
    refine thn (ho pins s1 σ H1 v y u w _ I1 r r1 q1) fun z s2 ⟨zv,H2,I2,r2,q2⟩=>?_
    exact store_ok I2 hN hi hx r2 (fun s3 I3=>⟨_,H2,I3,q2⟩) hf
  rcases l with ⟨hk,hm⟩ | ⟨hk,c,hc,hcell⟩
  · exact wpAny_loadName_local I.ok.kind hk hn hm go
  · rcases hk with hk | hk
    · exact wpAny_loadName_cell I.ok.kind hk hc hcell go
    · rcases hx with k | k
      · have:X.env.scope.names.lookup x=some .free:=hk
        rw [k] at this;cases this
      · have:X.env.scope.names.lookup x=some .free:=hk
        rw [k] at this;cases this
def ipI (f:Int→Int→Int):TIp:=fun x y H Q=>∃ i j,x=.int i∧y=.int j∧Q (.int (f i j)) H
theorem ip_add:PIp X .Add (ipI fun i j=>i+j):=by
  intro pins s σ H x y v u Q I r1 r2 h
  obtain ⟨i,j,e1,e2,q⟩:=h
  subst e1;subst e2
  obtain ⟨t,rfl⟩:=r1
  obtain ⟨t',rfl⟩:=r2
  exact iadd_int ⟨.int _,H,I.tok _,⟨_,rfl⟩,q⟩
end
section
variable {X:Cx} {pos:Pos}
def tWhile (c:TT) (tb:TS):TS:=fun D σ H=>∃ W:Nat→St→Hp→Prop,(∃ m,W m σ H)∧∀ m σ H,W m σ H →
  c σ H fun b H1=>if b=true then ∃ N:St→Hp→Prop,(∀ σ' H',N σ' H'→∃ m',m' < m∧W m' σ' H')∧tb { D with nx:=N,ct:=N,bk:=D.nx } σ H1 else D.nx σ H1
theorem ps_while {c:Expr} {body:List Stmt} {tc:TT} {tb:TS} (hp:PassesOwn (model X.prog X.w) X.A X.env X.xe) (hc:PT X c tc) (hb:PSs X body tb):PS X (.While c body [] pos) (tWhile tc tb):=by
  intro pins s σ H D I h
  obtain ⟨W,⟨m0,w0⟩,turn⟩:=h
  refine wpAny_While (codeAny_whileLoop (fun n s'=>∃ σ' H',Inv X pins σ' H' s'∧W n σ' H') ?_ m0 ⟨σ,H,I,w0⟩)
  rintro n s1 ⟨σ1,H1,I1,w1⟩
  refine wpAny_passesOwn hp (thn (hc pins s1 σ1 H1 _ I1 (turn n σ1 H1 w1)) fun b s2 ⟨H2,I2,q2⟩=>?_)
  cases b with
  | true=>
    obtain ⟨N,hN,q2⟩:=q2
    rw [if_pos rfl]
    refine wpAny_passesOwn hp (thn (hb pins s2 σ1 H2 _ I2 q2) fun f s3 q3=>?_)
    cases f with
    | next=>
      obtain ⟨σ3,H3,I3,n3⟩:=q3
      obtain ⟨m',hm,w3⟩:=hN σ3 H3 n3
      exact ⟨m',hm,σ3,H3,I3,w3⟩
    | cont=>
      obtain ⟨σ3,H3,I3,n3⟩:=q3
      obtain ⟨m',hm,w3⟩:=hN σ3 H3 n3
      exact ⟨m',hm,σ3,H3,I3,w3⟩
    | brk=>exact q3
    | ret v=>exact q3
  | false=>
    rw [if_neg Bool.false_ne_true]
    exact wpAny_execs_nil ⟨σ1,H2,I2,q2⟩
end
structure It where
  go:Nat→Hp→Prop
  yld:Nat→Hp→V→Hp→Prop
  stop:Nat→Hp→Prop
def FpOk (X:Cx) (pins:List (Addr × Obj)) (H:Hp) (b:Addr):Prop:=
  H b=none∧b≠X.env.locals∧b ∉ X.fs∧(b∈X.ex∨X.s₀.heap.objs.size≤b)∧(∀ x c,X.env.cells.lookup x=some c→c≠b)∧∀ p∈X.pn++pins,p.1≠b
theorem Inv.fpOk {X:Cx} {pins:List (Addr × Obj)} {σ:St} {H H':Hp} {s:Shared} {b:Addr} (I:Inv X pins σ H s) (hb:s.heap.objs.size≤b) (hn:H' b=none):FpOk X pins H' b:=by
  refine ⟨hn,Nat.ne_of_gt (Nat.lt_of_lt_of_le I.lt hb),I.nofs hb,.inr (Nat.le_trans I.sz hb),fun x c e z=>?_,fun p hp z=>?_⟩
  · obtain ⟨v,q⟩:=I.cell x c e
    exact absurd (Nat.lt_of_lt_of_le q.lt (by rw [z];exact hb)) (Nat.lt_irrefl _)
  · exact absurd (Nat.lt_of_lt_of_le (Heap.lt_size (I.pin p hp).1) (by rw [z];exact hb)) (Nat.lt_irrefl _)
structure Turn (P:Program) (w:World) (K:PySem.W.Frag) (tg:Expr) (J:It) (fp:List Addr) (it:Addr) (tn:Nat→Heap→Prop):Prop where
  mem:it∈fp
  obj:∀ i h,tn i h→∀ b∈fp,∃ o,h.get? b=some o∧∀ v,o.data≠.cell v
  keep:∀ i h h',tn i h→(∀ b∈fp,∀ o,h.get? b=some o→h'.get? b=some o)→tn i h'
  item:∀ (X:Cx),X.prog=P→X.w=w→X.K=K→X.calm=true→∀ (i:Nat) (pins:List (Addr × Obj)) (s:Shared) (σ:St) (H:Hp) (E:Value→Shared→Prop),Inv X pins σ H s→(∀ b∈fp,FpOk X pins H b)→tn i s.heap→J.go i H →
    wpAny (model P w) X.A (pyNext (.ref it)) (fun r s1=>∃ u,r=some u ∧
      wpAny (model P w) X.A (letOwnedTupleGo tg (.ref it) u) (fun _ s2=>∃ x H',Inv X pins σ H' s2∧RelV x u∧J.yld i H x H'∧tn (i+1) s2.heap∧∀ b∈fp,H' b=none) E s1) E s
  done:∀ (X:Cx),X.prog=P→X.w=w→X.K=K→X.calm=true→∀ (i:Nat) (pins:List (Addr × Obj)) (s:Shared) (σ:St) (H:Hp) (E:Value→Shared→Prop),Inv X pins σ H s→(∀ b∈fp,FpOk X pins H b)→tn i s.heap→J.stop i H →
    wpAny (model P w) X.A (pyNext (.ref it)) (fun r s1=>r=none∧Inv X pins σ H s1) E s
  self:∀ (A:Around) (i:Nat) (s:Shared) (Q:Value→Shared→Prop) (E:Value→Shared→Prop),tn i s.heap→Q (.ref it) s→wpAny (model P w) A (pyIter (.ref it)) Q E s
abbrev TI:=St→Hp→(It→Hp→Prop)→Prop
def PIE (X:Cx) (pins:List (Addr × Obj)) (σ:St) (tg:Expr) (R:It→Hp→Prop) (itv:Value) (s2:Shared):Prop:=
  ∃ (it:Addr) (fp:List Addr) (tn:Nat→Heap→Prop) (J:It) (H':Hp),itv=.ref it∧Inv X pins σ H' s2∧Turn X.prog X.w X.K tg J fp it tn∧tn 0 s2.heap∧(∀ b∈fp,FpOk X pins H' b)∧R J H'
def PI (X:Cx) (tg iter:Expr) (wi:TI):Prop:=
  ∀ (pins:List (Addr × Obj)) (s:Shared) (σ:St) (H:Hp) (R:It→Hp→Prop),Inv X pins σ H s→wi σ H R →
    wpAny (model X.prog X.w) X.A (eval iter X.env) (fun v s1=>wpAny (model X.prog X.w) X.A (pyIter v) (PIE X pins σ tg R) X.xe s1) X.xe s
theorem go_of {M:Model} {A:Around} {E:Value→Shared→Prop} {s:Shared} {tg:Expr} {it:Addr} {u:Value} {o:Obj} {n:String} {vs:Array Value} {Q:Unit→Shared→Prop} (ho:s.heap.get? it=some o) (hc:o.cls=.type n) (hd:o.data=.fields vs)
    (hn:["enumerate", "zip", "dict_itemiterator", "dict_reverseitemiterator", "odict_iterator", "itertools.zip_longest", "itertools.pairwise"].contains n=false) (hQ:Q () s):wpAny M A (letOwnedTupleGo tg (.ref it) u) Q E s:=by
  unfold letOwnedTupleGo
  cases tg <;> first
    | exact wpAny_pure hQ
    | (cases u <;> first
        | exact wpAny_pure hQ
        | (refine wpAny_bind (wpAny_load ho ?_)
           rw [hc,hd]
           show wpAny M A (if (["enumerate", "zip", "dict_itemiterator", "dict_reverseitemiterator", "odict_iterator", "itertools.zip_longest", "itertools.pairwise"].contains n && vs[0]? == some (rawInt _))=true then _ else _) Q E s
           rw [if_neg (by intro h;rw [hn,Bool.false_and] at h;cases h)]
           exact wpAny_pure hQ))
def Itl (K:PySem.W.Frag) (a:Addr):It:=
  ⟨fun i H=>∃ xs x,SqL K H a xs∧xs[i]?=some x,fun i H x H'=>H'=H∧∀ xs,SqL K H a xs→xs[i]?=some x,fun i H=>∃ xs,SqL K H a xs∧xs.length≤i⟩
def Itt (K:PySem.W.Frag) (a:Addr):It:=
  ⟨fun i H=>∃ xs x,SqT K H a xs∧xs[i]?=some x,fun i H x H'=>H'=H∧∀ xs,SqT K H a xs→xs[i]?=some x,fun i H=>∃ xs,SqT K H a xs∧xs.length≤i⟩
def Itr (lo:Int) (n:Nat):It:=⟨fun i _=>i < n,fun i H x H'=>H'=H∧x=.int (lo+i),fun i _=>n≤i⟩
theorem turn_list {P:Program} {w:World} {K:PySem.W.Frag} {tg:Expr} (a it:Addr):Turn P w K tg (Itl K a) [it] it (fun i h=>h.IsListIter it a i) where
  mem:=by simp
  obj:=fun i h st b hb=>by
    have e:b=it:=by simpa using hb
    subst e
    obtain ⟨o,e,c,d⟩:=st
    exact ⟨o,e,fun v z=>by rw [d] at z;cases z⟩
  keep:=fun i h h' st k=>st.at fun o e=>k it (by simp) o e
  item:=by
    intro X hP hw hK hc i pins s σ H E I hf st hg
    subst hP hw hK
    obtain ⟨xs,x,hq,hx⟩:=hg
    obtain ⟨its,rv,p,hz⟩:=I.list hq
    obtain ⟨u,hu,ru⟩:=rv.get hx
    obtain ⟨f0,f1,f2,f3,f4,f5⟩:=hf it (by simp)
    refine wpAny_pyNext_list_item st p.isList (x:=u) (by simpa using hu) fun h' st' sb=>?_
    have I1:Inv X pins σ H { s with heap:=h' }:=I.turned (t':=s.toks) (fun b o hb e=>(sb.2 b hb).trans e) f0 f1 f3 f4 f5
    obtain ⟨o,e,c,d⟩:=id st'
    exact ⟨u,rfl,go_of (s:={ s with heap:=h' }) e c d (by decide) ⟨x,H,I1,ru,⟨rfl,fun ys hy=>by rw [I.list_inj hy hq];exact hx⟩,st',fun b hb=>(hf b hb).1⟩⟩
  done:=by
    intro X hP hw hK hc i pins s σ H E I hf st hg
    subst hP hw hK
    obtain ⟨xs,hq,hx⟩:=hg
    obtain ⟨its,rv,p,hz⟩:=I.list hq
    obtain ⟨f0,f1,f2,f3,f4,f5⟩:=hf it (by simp)
    have hl:=rv.length
    exact wpAny_pyNext_list_end (I.ok.hd hc) st p.isList (by simp;omega) fun h' eb=>⟨rfl,I.turned (t':=s.toks) (fun b o hb e=>eb b o hb e) f0 f1 f3 f4 f5⟩
  self:=fun _ _ _ _ _ st h=>wpAny_pyIter_listiter st h
theorem turn_tuple {P:Program} {w:World} {K:PySem.W.Frag} {tg:Expr} (a it:Addr):Turn P w K tg (Itt K a) [it] it (fun i h=>h.IsTupleIter it a i) where
  mem:=by simp
  obj:=fun i h st b hb=>by
    have e:b=it:=by simpa using hb
    subst e
    obtain ⟨o,e,c,d⟩:=st
    exact ⟨o,e,fun v z=>by rw [d] at z;cases z⟩
  keep:=fun i h h' st k=>st.at fun o e=>k it (by simp) o e
  item:=by
    intro X hP hw hK hc i pins s σ H E I hf st hg
    subst hP hw hK
    obtain ⟨xs,x,hq,hx⟩:=hg
    obtain ⟨its,rv,p,hz⟩:=I.tuple hq
    obtain ⟨u,hu,ru⟩:=rv.get hx
    obtain ⟨f0,f1,f2,f3,f4,f5⟩:=hf it (by simp)
    refine wpAny_pyNext_tuple_item st (show s.heap.IsTuple a its.toArray from p) (x:=u) (by simpa using hu) fun h' st' sb=>?_
    have I1:Inv X pins σ H { s with heap:=h' }:=I.turned (t':=s.toks) (fun b o hb e=>(sb.2 b hb).trans e) f0 f1 f3 f4 f5
    obtain ⟨o,e,c,d⟩:=id st'
    exact ⟨u,rfl,go_of (s:={ s with heap:=h' }) e c d (by decide) ⟨x,H,I1,ru,⟨rfl,fun ys hy=>by rw [I.tuple_inj hy hq];exact hx⟩,st',fun b hb=>(hf b hb).1⟩⟩
  done:=by
    intro X hP hw hK hc i pins s σ H E I hf st hg
    subst hP hw hK
    obtain ⟨xs,hq,hx⟩:=hg
    obtain ⟨its,rv,p,hz⟩:=I.tuple hq
    obtain ⟨f0,f1,f2,f3,f4,f5⟩:=hf it (by simp)
    have hl:=rv.length
    exact wpAny_pyNext_tuple_end (I.ok.hd hc) st (show s.heap.IsTuple a its.toArray from p) (by simp;omega) fun h' eb=>⟨rfl,I.turned (t':=s.toks) (fun b o hb e=>eb b o hb e) f0 f1 f3 f4 f5⟩
  self:=fun _ _ _ _ _ st h=>wpAny_pyIter_tupleiter st h
theorem turn_range {P:Program} {w:World} {K:PySem.W.Frag} {tg:Expr} (it:Addr) (lo:Int) (n:Nat):Turn P w K tg (Itr lo n) [it] it (fun i h=>IsRangeIter h it (lo+(i:Nat) * 1) ((n:Int) - (i:Nat)) 1) where
  mem:=by simp
  obj:=fun i h st b hb=>by
    have e:b=it:=by simpa using hb
    subst e
    exact ⟨_,st,fun v z=>by
      have z':Data.fields _=Data.cell v:=z
      cases z'⟩
  keep:=fun i h h' st k=>k it (by simp) _ st
  item:=by
    intro X hP hw hK hc i pins s σ H E I hf st hg
    subst hP hw hK
    obtain ⟨f0,f1,f2,f3,f4,f5⟩:=hf it (by simp)
    have W:=Walks.range (prog:=X.prog) (w:=X.w) (I.ok.hd hc) it lo 1 n
    refine W.item i s _ _ hg st fun v h' tk hv st' kk=>?_
    obtain ⟨t,rfl⟩:=hv
    have I1:Inv X pins σ H { s with heap:=h',toks:=tk }:=I.turned (fun b o hb e=>kk b o (by simpa using hb) e) f0 f1 f3 f4 f5
    refine ⟨_,rfl,go_of (s:={ s with heap:=h',toks:=tk }) (n := "range_iterator") st' rfl rfl (by decide) ⟨.int (lo+i),H,I1,⟨t,?_⟩,⟨rfl,rfl⟩,st',fun b hb=>(hf b hb).1⟩⟩
    rw [Int.mul_one]
  done:=by
    intro X hP hw hK hc i pins s σ H E I hf st hg
    subst hP hw hK
    obtain ⟨f0,f1,f2,f3,f4,f5⟩:=hf it (by simp)
    exact wpAny_pyNext_range_end (I.ok.hd hc) st (by have:n≤i:=hg;omega) fun h' eb=>⟨rfl,I.turned (t':=s.toks) (fun b o hb e=>eb b o hb e) f0 f1 f3 f4 f5⟩
  self:=fun _ _ _ _ _ st h=>wpAny_pyIter_rangeiter st h
end L2
namespace L2
open PySem PySem.Spec PyProof.Rows
section
variable {X:Cx} {tg:Expr}
def iList (K:PySem.W.Frag) (tl:TE):TI:=fun σ H R=>tl σ H fun x H1=>∃ a,x=.ref a∧(∃ xs,SqL K H1 a xs)∧R (Itl K a) H1
def iTup (K:PySem.W.Frag) (tl:TE):TI:=fun σ H R=>tl σ H fun x H1=>∃ a,x=.ref a∧(∃ xs,SqT K H1 a xs)∧R (Itt K a) H1
theorem pi_list {l:Expr} {tl:TE} (hl:PE X l tl):PI X tg l (iList X.K tl):=by
  intro pins s σ H R I h
  refine thn (hl pins s σ H _ I h) fun v s1 ⟨x,H1,I1,r1,q1⟩=>?_
  obtain ⟨a,e,⟨xs,hq⟩,q⟩:=q1
  subst e
  cases r1
  obtain ⟨its,rv,p,hz⟩:=I1.list hq
  refine wpAny_pyIter_list p.isList ?_
  refine ⟨s1.heap.objs.size,[s1.heap.objs.size],_,_,H1,rfl,I1.kept (t':=s1.toks) fun b o e=>Heap.get?_push_of_some _ e,turn_list a _,⟨_,Heap.get?_push_size _ rfl,rfl,rfl⟩,fun b hb=>?_,q⟩
  have e:b=s1.heap.objs.size:=by simpa using hb
  subst e
  exact I1.fpOk (Nat.le_refl _) (I1.hok.fresh (Nat.le_refl _))
theorem pi_tup {l:Expr} {tl:TE} (hl:PE X l tl):PI X tg l (iTup X.K tl):=by
  intro pins s σ H R I h
  refine thn (hl pins s σ H _ I h) fun v s1 ⟨x,H1,I1,r1,q1⟩=>?_
  obtain ⟨a,e,⟨xs,hq⟩,q⟩:=q1
  subst e
  cases r1
  obtain ⟨its,rv,p,hz⟩:=I1.tuple hq
  refine wpAny_pyIter_tuple (show s1.heap.IsTuple a its.toArray from p) ?_
  refine ⟨s1.heap.objs.size,[s1.heap.objs.size],_,_,H1,rfl,I1.kept (t':=s1.toks) fun b o e=>Heap.get?_push_of_some _ e,turn_tuple a _,⟨_,Heap.get?_push_size _ rfl,rfl,rfl⟩,fun b hb=>?_,q⟩
  have e:b=s1.heap.objs.size:=by simpa using hb
  subst e
  exact I1.fpOk (Nat.le_refl _) (I1.hok.fresh (Nat.le_refl _))
theorem range_it {pins:List (Addr × Obj)} {σ:St} {H:Hp} {s:Shared} {R:It→Hp→Prop} {E:Value→Shared→Prop} {lo hi:Int} {t u v:Tok} {tk:Nat} (I:Inv X pins σ H s) (h1:-(2 ^ 62)≤lo) (h2:lo < 2 ^ 62) (h3:-(2 ^ 62)≤hi) (h4:hi < 2 ^ 62)
    (q:R (Itr lo (hi - lo).toNat) H):wpAny (model X.prog X.w) X.A (pyIter (.ref s.heap.objs.size)) (PIE X pins σ tg R) E { s with heap:=s.heap.push { cls:=.type "range", data:=.fields #[.int lo t,.int hi u,.int 1 v] },toks:=tk }:=by
  refine wpAny_pyIter_range (IsRange.new ..) (small_one h1 h2 h3 h4) ?_
  have I1:Inv X pins σ H { s with heap:=s.heap.push { cls:=.type "range", data:=.fields #[.int lo t,.int hi u,.int 1 v] },toks:=tk }:=I.kept fun b o e=>Heap.get?_push_of_some _ e
  refine ⟨(s.heap.push { cls:=.type "range", data:=.fields #[.int lo t,.int hi u,.int 1 v] }).objs.size,[(s.heap.push { cls:=.type "range", data:=.fields #[.int lo t,.int hi u,.int 1 v] }).objs.size],_,_,H,rfl,
    I1.kept (t':=tk) fun b o e=>Heap.get?_push_of_some _ e,turn_range _ lo (hi - lo).toNat,?_,fun b hb=>?_,q⟩
  · have e1:lo+((0:Nat):Int) * 1=lo:=by simp
    have e2:(((hi - lo).toNat:Nat):Int) - ((0:Nat):Int)=Builtin.Range.rangeSize lo hi 1:=by rw [rangeSize_one];split <;> omega
    show IsRangeIter _ _ (lo+((0:Nat):Int) * 1) ((((hi - lo).toNat:Nat):Int) - ((0:Nat):Int)) 1
    rw [e1,e2]
    exact Heap.get?_push_size _ rfl
  · have e:b=(s.heap.push { cls:=.type "range", data:=.fields #[.int lo t,.int hi u,.int 1 v] }).objs.size:=by simpa using hb
    subst e
    exact I1.fpOk (Nat.le_refl _) (I1.hok.fresh (Nat.le_refl _))
def iRng1 (ta:TA):TI:=fun σ H R=>ta σ H fun vs H1=>∃ j:Int,vs=[.int j]∧-(2 ^ 62)≤j∧j < 2 ^ 62∧R (Itr 0 j.toNat) H1
def iRng2 (ta:TA):TI:=fun σ H R=>ta σ H fun vs H1=>∃ i j:Int,vs=[.int i,.int j]∧(-(2 ^ 62)≤i∧i < 2 ^ 62∧-(2 ^ 62)≤j∧j < 2 ^ 62)∧R (Itr i (j - i).toNat) H1
theorem pi_range1 {a:Expr} {ta:TA} {p pos:Pos} (hg:Gl X "range") (hm:X.mg "range" = none) (ha:PA X [a] ta) (hs:starEach [a] X.env=[(false,eval a X.env)]:=by rfl):PI X tg (.Call (.Name "range" p) [a] [] pos) (iRng1 ta):=by
  intro pins s σ H R I h
  refine Call_ (ld_blt I hg hm boot_range (PyProof.Rows.callWith_type1 (thn (ha pos pins s σ H _ I h) fun us s1 ⟨vs,H1,I1,r1,q1⟩=>?_) hs rfl))
  obtain ⟨j,e,q1,q2,q⟩:=q1
  subst e
  cases r1 with
  | cons r rr=>
    cases rr
    obtain ⟨t,rfl⟩:=r
    exact call_range_1 (range_it I1 (by omega) (by omega) q1 q2 (by simpa using q))
theorem pi_range2 {a b:Expr} {ta:TA} {p pos:Pos} (hg:Gl X "range") (hm:X.mg "range" = none) (ha:PA X [a,b] ta) (hs:starEach [a,b] X.env=[(false,eval a X.env),(false,eval b X.env)]:=by rfl) (hs2:starEach [b] X.env=[(false,eval b X.env)]:=by rfl) :
    PI X tg (.Call (.Name "range" p) [a,b] [] pos) (iRng2 ta):=by
  intro pins s σ H R I h
  refine Call_ (ld_blt I hg hm boot_range (PyProof.Rows.callWith_type1 (thn (ha pos pins s σ H _ I h) fun us s1 ⟨vs,H1,I1,r1,q1⟩=>?_) (by rw [hs,hs2]) (by rw [hs2];rfl)))
  obtain ⟨i,j,e,⟨q1,q2,q3,q4⟩,q⟩:=q1
  subst e
  cases r1 with
  | cons r rr=>
    cases rr with
    | cons r' rr=>
      cases rr
      obtain ⟨t,rfl⟩:=r
      obtain ⟨t',rfl⟩:=r'
      exact call_range_2 (range_it I1 q1 q2 q3 q4 q)
def tFor (wi:TI) (g:TG) (tb:TS):TS:=fun D σ H=>wi σ H fun J H1=>∃ W:Nat→Nat→St→Hp→Prop,(∃ m,W 0 m σ H1)∧∀ i m σ H,W i m σ H →
  (J.stop i H∧D.nx σ H)∨(J.go i H∧∃ N:St→Hp→Prop,(∀ σ' H',N σ' H'→∃ m',m' < m∧W (i+1) m' σ' H')∧∀ x H',J.yld i H x H'→g x σ H' fun σ2 H2=>tb { D with nx:=N,ct:=N,bk:=D.nx } σ2 H2)
def pinsAt (fp:List Addr) (h:Heap):List (Addr × Obj):=fp.filterMap fun b=>(h.get? b).map fun o=>(b,o)
theorem mem_pinsAt {fp:List Addr} {h:Heap} {b:Addr} {o:Obj} (hb:b∈fp) (e:h.get? b=some o):(b,o)∈pinsAt fp h:=List.mem_filterMap.mpr ⟨b,hb,by rw [e];rfl⟩
theorem of_pinsAt {fp:List Addr} {h:Heap} {p:Addr × Obj} (hp:p∈pinsAt fp h):p.1∈fp∧h.get? p.1=some p.2:=by
  obtain ⟨b,hb,e⟩:=List.mem_filterMap.mp hp
  cases q:h.get? b with
  | none=>rw [q] at e;cases e
  | some o=>
    rw [q] at e
    have e':(b,o)=p:=Option.some.inj e
    subst e'
    exact ⟨hb,q⟩
theorem Inv.pinned {pins:List (Addr × Obj)} {σ:St} {H:Hp} {s:Shared} {fp:List Addr} (I:Inv X pins σ H s) (hf:∀ b∈fp,FpOk X pins H b) (ho:∀ b∈fp,∃ o,s.heap.get? b=some o∧∀ v,o.data≠.cell v):Inv X (pins++pinsAt fp s.heap) σ H s:=
  I.pins_of fun p hp=>(List.mem_append.mp hp).elim (fun z=>I.pin p (List.mem_append_right _ z)) fun z=>by
    obtain ⟨hb,e⟩:=of_pinsAt z
    obtain ⟨f0,f1,f2,_⟩:=hf p.1 hb
    obtain ⟨o,e',d⟩:=ho p.1 hb
    rw [e] at e';cases e'
    exact ⟨e,f0,f1,f2,d⟩
theorem Inv.unpinned {pins pl:List (Addr × Obj)} {σ:St} {H:Hp} {s:Shared} (I:Inv X (pins++pl) σ H s):Inv X pins σ H s:=I.pins_of fun p hp=>I.pin p (List.mem_append_right _ (List.mem_append_left _ hp))
theorem ps_for {iter:Expr} {body:List Stmt} {wi:TI} {g:TG} {tb:TS} {pos:Pos} (hp:PassesOwn (model X.prog X.w) X.A X.env X.xe) (hc:X.calm=true) (hi:PI X tg iter wi) (hg:PG X tg g) (hb:PSs X body tb)
    (hs:∀ x,foldedSetIterable iter X.env x=pure x:=by intro _;rfl):PS X (.For tg iter body [] pos) (tFor wi g tb):=by
  intro pins s σ H D I h
  refine wpAny_For (thn (hi pins s σ H _ I h) fun v s1 h1=>thn h1 fun itv s2 h2=>?_) hs
  obtain ⟨it,fp,tn,J,H2,e,I2,T,st2,f2,W,⟨m0,w0⟩,turn⟩:=h2
  subst e
  have stat:∀ {H':Hp},(∀ b∈fp,H' b=none)→∀ b∈fp,FpOk X pins H' b:=fun hn b hb=>⟨hn b hb,(f2 b hb).2⟩
  refine codeAny_forLoop_any (fun n s'=>∃ i σ' H',Inv X pins σ' H' s'∧tn i s'.heap∧(∀ b∈fp,H' b=none)∧W i n σ' H') ?_ m0 ⟨0,σ,H2,I2,st2,fun b hb=>(f2 b hb).1,w0⟩
  rintro n s3 ⟨i,σ3,H3,I3,st3,fr3,w3⟩
  rcases turn i n σ3 H3 w3 with ⟨stop,qn⟩ | ⟨go,N,hN,step⟩
  · refine wpAny_passesOwn hp (thn (T.done X rfl rfl rfl hc i pins s3 σ3 H3 X.xe I3 (stat fr3) st3 stop) fun r s4 ⟨hr,I4⟩=>?_)
    subst hr
    exact wpAny_execs_nil ⟨σ3,H3,I4,qn⟩
  · refine wpAny_passesOwn hp (thn (T.item X rfl rfl rfl hc i pins s3 σ3 H3 X.xe I3 (stat fr3) st3 go) fun r s4 ⟨u,hr,h4⟩=>?_)
    subst hr
    refine wpAny_passesOwn hp (thn h4 fun _ s5 ⟨x,H5,I5,r5,y5,st5,fr5⟩=>?_)
    have I5':=I5.pinned (stat fr5) (T.obj _ _ st5)
    refine wpAny_passesOwn hp (thn (hg _ s5 σ3 H5 x u _ I5' r5 (step x H5 y5)) fun _ s6 ⟨σ6,H6,I6,q6⟩=>?_)
    refine wpAny_passesOwn hp (thn (hb _ s6 σ6 H6 _ I6 q6) fun f s7 q7=>?_)
    have again:∀ {σ7:St} {H7:Hp},Inv X (pins++pinsAt fp s5.heap) σ7 H7 s7→N σ7 H7→∃ m,m < n∧∃ i σ' H',Inv X pins σ' H' s7∧tn i s7.heap∧(∀ b∈fp,H' b=none)∧W i m σ' H':=fun {σ7 H7} I7 n7=>by
      obtain ⟨m',hm,w7⟩:=hN σ7 H7 n7
      refine ⟨m',hm,i+1,σ7,H7,I7.unpinned,T.keep _ _ _ st5 fun b hb o e=>(I7.pin (b,o) (List.mem_append_right _ (List.mem_append_right _ (mem_pinsAt hb e)))).1,fun b hb=>?_,w7⟩
      obtain ⟨o,e,d⟩:=T.obj _ _ st5 b hb
      exact (I7.pin (b,o) (List.mem_append_right _ (List.mem_append_right _ (mem_pinsAt hb e)))).2.1
    cases f with
    | next=>obtain ⟨σ7,H7,I7,n7⟩:=q7;exact again I7 n7
    | cont=>obtain ⟨σ7,H7,I7,n7⟩:=q7;exact again I7 n7
    | brk=>obtain ⟨σ7,H7,I7,q7⟩:=q7;exact ⟨σ7,H7,I7.unpinned,q7⟩
    | ret v=>obtain ⟨x7,σ7,H7,I7,r7,q7⟩:=q7;exact ⟨x7,σ7,H7,I7.unpinned,r7,q7⟩
end
theorem for_list {K:PySem.W.Frag} {a:Addr} {xs:List V} {g:TG} {tb:TS} {D:Ends} {σ:St} {H:Hp} (Pv:Nat→St→Hp→Prop) (h0:Pv 0 σ H) (hl:∀ i σ H,i≤xs.length→Pv i σ H→SqL K H a xs)
    (hs:∀ i x σ H,xs[i]?=some x→Pv i σ H→g x σ H fun σ2 H2=>tb { D with nx:=Pv (i+1),ct:=Pv (i+1),bk:=D.nx } σ2 H2) (hd:∀ σ H,Pv xs.length σ H→D.nx σ H) :
    ∃ W:Nat→Nat→St→Hp→Prop,(∃ m,W 0 m σ H)∧∀ i m σ H,W i m σ H →
      ((Itl K a).stop i H∧D.nx σ H)∨((Itl K a).go i H∧∃ N:St→Hp→Prop,(∀ σ' H',N σ' H'→∃ m',m' < m∧W (i+1) m' σ' H')∧∀ x H',(Itl K a).yld i H x H'→g x σ H' fun σ2 H2=>tb { D with nx:=N,ct:=N,bk:=D.nx } σ2 H2):=by
  refine ⟨fun i m σ H=>m=xs.length - i∧i≤xs.length∧Pv i σ H,⟨xs.length,by simp,Nat.zero_le _,h0⟩,?_⟩
  rintro i m σ H ⟨rfl,hi,p⟩
  have q:=hl i σ H hi p
  by_cases hlt:i < xs.length
  · refine .inr ⟨⟨xs,xs[i],q,by simp [hlt]⟩,Pv (i+1),fun σ' H' p'=>⟨xs.length - (i+1),by omega,rfl,hlt,p'⟩,fun x H' y=>?_⟩
    obtain ⟨e,y⟩:=y
    subst e
    exact hs i x σ _ (y xs q) p
  · have e:i=xs.length:=by omega
    subst e
    exact .inl ⟨⟨xs,q,Nat.le_refl _⟩,hd σ H p⟩
theorem for_range {lo:Int} {n:Nat} {g:TG} {tb:TS} {D:Ends} {σ:St} {H:Hp} (Pv:Nat→St→Hp→Prop) (h0:Pv 0 σ H)
    (hs:∀ i σ H,i < n→Pv i σ H→g (.int (lo+i)) σ H fun σ2 H2=>tb { D with nx:=Pv (i+1),ct:=Pv (i+1),bk:=D.nx } σ2 H2) (hd:∀ σ H,Pv n σ H→D.nx σ H) :
    ∃ W:Nat→Nat→St→Hp→Prop,(∃ m,W 0 m σ H)∧∀ i m σ H,W i m σ H →
      ((Itr lo n).stop i H∧D.nx σ H)∨((Itr lo n).go i H∧∃ N:St→Hp→Prop,(∀ σ' H',N σ' H'→∃ m',m' < m∧W (i+1) m' σ' H')∧∀ x H',(Itr lo n).yld i H x H'→g x σ H' fun σ2 H2=>tb { D with nx:=N,ct:=N,bk:=D.nx } σ2 H2):=by
  refine ⟨fun i m σ H=>m=n - i∧i≤n∧Pv i σ H,⟨n,by simp,Nat.zero_le _,h0⟩,?_⟩
  rintro i m σ H ⟨rfl,hi,p⟩
  by_cases hlt:i < n
  · refine .inr ⟨hlt,Pv (i+1),fun σ' H' p'=>⟨n - (i+1),by omega,rfl,hlt,p'⟩,fun x H' y=>?_⟩
    obtain ⟨e,y⟩:=y
    subst e y
    exact hs i σ _ hlt p
  · have e:i=n:=by omega
    subst e
    exact .inl ⟨Nat.le_refl _,hd σ H p⟩
theorem while_by {c:TT} {tb:TS} {D:Ends} {σ:St} {H:Hp} (Pv:St→Hp→Prop) (μ:St→Hp→Nat) (h0:Pv σ H)
    (hs:∀ σ H,Pv σ H→c σ H fun b H1=>if b=true then tb { D with nx:=fun σ' H'=>Pv σ' H'∧μ σ' H' < μ σ H,ct:=fun σ' H'=>Pv σ' H'∧μ σ' H' < μ σ H,bk:=D.nx } σ H1 else D.nx σ H1)
    (mono:∀ σ H Q Q',(∀ b H1,Q b H1→Q' b H1)→c σ H Q→c σ H Q'):tWhile c tb D σ H:=by
  refine ⟨fun m σ H=>m=μ σ H∧Pv σ H,⟨_,rfl,h0⟩,?_⟩
  rintro m σ H ⟨rfl,p⟩
  refine mono σ H _ _ (fun b H1 q=>?_) (hs σ H p)
  cases b with
  | true=>exact ⟨_,fun σ' H' ⟨p',l⟩=>⟨_,l,rfl,p'⟩,q⟩
  | false=>exact q
end L2
namespace L2
open PySem PySem.Spec PyProof.Rows
abbrev R2:=V→V→Hp→VK→Prop
def OpR (X:Cx) (f:Value→Value→Sem Value) (r:R2):Prop:=
  ∀ (pins:List (Addr × Obj)) (s:Shared) (σ:St) (H:Hp) (x y:V) (v u:Value) (Q:VK),Inv X pins σ H s→RelV x v→RelV y u→r x y H Q →
    wpAny (model X.prog X.w) X.A (f v u) (EP X pins σ Q) X.xe s
def UnR (X:Cx) (f:Value→Sem Value) (r:V→Hp→VK→Prop):Prop:=
  ∀ (pins:List (Addr × Obj)) (s:Shared) (σ:St) (H:Hp) (x:V) (v:Value) (Q:VK),Inv X pins σ H s→RelV x v→r x H Q →
    wpAny (model X.prog X.w) X.A (f v) (EP X pins σ Q) X.xe s
def CallR (X:Cx) (f:Value) (r:List V→Hp→VK→Prop):Prop:=
  ∀ (pins:List (Addr × Obj)) (s:Shared) (σ:St) (H:Hp) (xs:List V) (us:List Value) (Q:VK),Inv X pins σ H s→Vals xs us→r xs H Q →
    wpAny (model X.prog X.w) X.A (call f us) (EP X pins σ Q) X.xe s
def tOp (r:R2) (ta tb:TE):TE:=fun σ H Q=>ta σ H fun x H1=>tb σ H1 fun y H2=>r x y H2 Q
def tUn (r:V→Hp→VK→Prop) (ta:TE):TE:=fun σ H Q=>ta σ H fun x H1=>r x H1 Q
def rI (C:Int→Int→Prop) (g:Int→Int→V):R2:=fun x y H Q=>∃ i j,x=.int i∧y=.int j∧C i j∧Q (g i j) H
def rI0 (g:Int→Int→V):R2:=fun x y H Q=>∃ i j,x=.int i∧y=.int j∧Q (g i j) H
def rU (g:Int→V):V→Hp→VK→Prop:=fun x H Q=>∃ i,x=.int i∧Q (g i) H
section
variable {X:Cx} {a b c:Expr} {ta tb tc:TE} {pos:Pos}
theorem binT (ha:PE X a ta) (hb:PE X b tb) {pins:List (Addr × Obj)} {s:Shared} {σ:St} {H:Hp} {R:V→V→Hp→Prop} (I:Inv X pins σ H s)
    (h:ta σ H fun x H1=>tb σ H1 fun y H2=>R x y H2) {Q:Value→Shared→Prop} {f:Value→Value→Sem Value}
    (hf:∀ v u s2 x y H2,Inv X pins σ H2 s2→RelV x v→RelV y u→R x y H2→wpAny (model X.prog X.w) X.A (f v u) Q X.xe s2) :
    wpAny (model X.prog X.w) X.A (eval a X.env) (fun v s₁=>wpAny (model X.prog X.w) X.A (eval b X.env) (fun u s₂=>wpAny (model X.prog X.w) X.A (f v u) Q X.xe s₂) X.xe s₁) X.xe s:=by
  refine thn (ha pins s σ H _ I h) fun v s1 ⟨x,H1,I1,r1,q1⟩=>?_
  refine thn (hb pins s1 σ H1 _ I1 q1) fun u s2 ⟨y,H2,I2,r2,q2⟩=>?_
  exact hf v u s2 x y H2 I2 r1 r2 q2
theorem pe_op {op:Operator} {r:R2} (ho:OpR X (binaryOp op) r) (ha:PE X a ta) (hb:PE X b tb):PE X (.BinOp a op b pos) (tOp r ta tb):=by
  intro pins s σ H Q I h
  exact wpAny_BinOp (binT ha hb I h fun v u s2 x y H2 I2 rx ry q=>ho pins s2 σ H2 x y v u Q I2 rx ry q)
theorem pe_un {op:UnaryOp} {r:V→Hp→VK→Prop} (ho:UnR X (unaryOp op) r) (ha:PE X a ta):PE X (.UnaryOp op a pos) (tUn r ta):=by
  intro pins s σ H Q I h
  exact UnaryOp_ (thn (ha pins s σ H _ I h) fun v s1 ⟨x,H1,I1,r1,q1⟩=>ho pins s1 σ H1 x v Q I1 r1 q1)
theorem opI {f:Value→Value→Sem Value} {C:Int→Int→Prop} {g:Int→Int→Int}
    (rule:∀ (i j:Int) (t u:Tok) (s:Shared) (Q:Value→Shared→Prop) (E:Value→Shared→Prop),C i j→Q (.int (g i j) s.toks) { s with toks:=s.toks+1 }→wpAny (model X.prog X.w) X.A (f (.int i t) (.int j u)) Q E s) :
    OpR X f (rI C fun i j=>.int (g i j)):=by
  intro pins s σ H x y v u Q I rx ry h
  obtain ⟨i,j,rfl,rfl,hc,q⟩:=h
  obtain ⟨t,rfl⟩:=rx
  obtain ⟨t',rfl⟩:=ry
  exact rule i j t t' s _ _ hc ⟨.int (g i j),H,I.tok _,⟨_,rfl⟩,q⟩
theorem opI0 {f:Value→Value→Sem Value} {g:Int→Int→Int}
    (rule:∀ (i j:Int) (t u:Tok) (s:Shared) (Q:Value→Shared→Prop) (E:Value→Shared→Prop),Q (.int (g i j) s.toks) { s with toks:=s.toks+1 }→wpAny (model X.prog X.w) X.A (f (.int i t) (.int j u)) Q E s) :
    OpR X f (rI0 fun i j=>.int (g i j)):=by
  intro pins s σ H x y v u Q I rx ry h
  obtain ⟨i,j,rfl,rfl,q⟩:=h
  obtain ⟨t,rfl⟩:=rx
  obtain ⟨t',rfl⟩:=ry
  exact rule i j t t' s _ _ ⟨.int (g i j),H,I.tok _,⟨_,rfl⟩,q⟩
theorem opB0 {f:Value→Value→Sem Value} {g:Int→Int→Bool}
    (rule:∀ (i j:Int) (t u:Tok) (s:Shared) (Q:Value→Shared→Prop) (E:Value→Shared→Prop),Q (.bool (g i j)) s→wpAny (model X.prog X.w) X.A (f (.int i t) (.int j u)) Q E s) :
    OpR X f (rI0 fun i j=>.bl (g i j)):=by
  intro pins s σ H x y v u Q I rx ry h
  obtain ⟨i,j,rfl,rfl,q⟩:=h
  obtain ⟨t,rfl⟩:=rx
  obtain ⟨t',rfl⟩:=ry
  exact rule i j t t' s _ _ ⟨.bl (g i j),H,I,rfl,q⟩
def CDiv (i j:Int):Prop:=0 < j∧j < 1073741824
def CPow (i j:Int):Prop:=0≤j∧j≤1000000∧i.natAbs < 2 ^ 64
def CMul (i j:Int):Prop:=(-(2 ^ 64) < i∧i < 2 ^ 64)∨(-(2 ^ 64) < j∧j < 2 ^ 64)
theorem CMul.ok {i j:Int} (h:CMul i j):IntMulOk i j:=by
  rcases h with ⟨h1,h2⟩ | ⟨h1,h2⟩
  · exact .of_left (intBits_le_64 h1 h2)
  · exact .of_right (intBits_le_64 h1 h2)
theorem op_add:OpR X (binaryOp .Add) (rI0 fun i j=>.int (i+j)):=opI0 fun _ _ _ _ _ _ _ q=>add_int q
theorem op_sub:OpR X (binaryOp .Sub) (rI0 fun i j=>.int (i - j)):=opI0 fun _ _ _ _ _ _ _ q=>sub_int q
theorem op_mul:OpR X (binaryOp .Mult) (rI CMul fun i j=>.int (i * j)):=opI fun _ _ _ _ _ _ _ hc q=>mul_int q hc.ok
theorem op_fdiv:OpR X (binaryOp .FloorDiv) (rI CDiv fun i j=>.int (i / j)):=opI fun i j _ _ _ _ _ hc q=>by
  have h1:(0:Int) < j:=hc.1
  have h2:j < 1073741824:=hc.2
  exact floordiv_int (by omega) (by rw [Int.fdiv_eq_ediv_of_nonneg i (by omega)];exact q) (.inl (PyProof.noPylong_small (by omega)))
theorem op_mod:OpR X (binaryOp .Mod) (rI (fun _ j=>0 < j) fun i j=>.int (i % j)):=opI fun i j _ _ _ _ _ hc q=>by
  have h1:(0:Int) < j:=hc
  exact mod_int' (by omega) (by rw [Int.fmod_eq_emod_of_nonneg i (by omega)];exact q)
theorem op_pow:OpR X (binaryOp .Pow) (rI CPow fun i j=>.int (i ^ j.toNat)):=opI fun _ _ _ _ _ _ _ hc q=>pow_int_small hc.1 hc.2.1 hc.2.2 q
theorem unI {f:Value→Sem Value} {g:Int→Int}
    (rule:∀ (i:Int) (t:Tok) (s:Shared) (Q:Value→Shared→Prop) (E:Value→Shared→Prop),Q (.int (g i) s.toks) { s with toks:=s.toks+1 }→wpAny (model X.prog X.w) X.A (f (.int i t)) Q E s) :
    UnR X f (rU fun i=>.int (g i)):=by
  intro pins s σ H x v Q I rx h
  obtain ⟨i,rfl,q⟩:=h
  obtain ⟨t,rfl⟩:=rx
  exact rule i t s _ _ ⟨.int (g i),H,I.tok _,⟨_,rfl⟩,q⟩
theorem un_neg:UnR X (unaryOp .USub) (rU fun i=>.int (-i)):=unI fun _ _ _ _ _ q=>neg_int q
end
def scal:V→V→Bool
  | .non,.non=>true | .non,.int _=>true | .int _,.non=>true | .non,.bl _=>true | .bl _,.non=>true | .non,.str _=>true | .str _,.non=>true
  | .int _,.int _=>true | .bl _,.bl _=>true | .str _,.str _=>true | .byt _,.byt _=>true
  | .int _,.str _=>true | .str _,.int _=>true | .bl _,.str _=>true | .str _,.bl _=>true
  | _,_=>false
def rEq:R2:=fun x y H Q=>scal x y=true∧Q (.bl (decide (x=y))) H
def rNe:R2:=fun x y H Q=>scal x y=true∧Q (.bl (!decide (x=y))) H
theorem dec_int {i j:Int}:decide (V.int i=V.int j)=(i == j):=by
  rw [Bool.eq_iff_iff]
  simp
theorem dec_bl {i j:Bool}:decide (V.bl i=V.bl j)=(i == j):=by
  rw [Bool.eq_iff_iff]
  simp
theorem dec_str {i j:Str}:decide (V.str i=V.str j)=(i == j):=by
  rw [Bool.eq_iff_iff]
  simp
theorem dec_byt {i j:Array UInt8}:decide (V.byt i=V.byt j)=(i.toList == j.toList):=by
  rw [Bool.eq_iff_iff]
  cases i
  cases j
  simp
section
variable {X:Cx} {a b c:Expr} {ta tb tc:TE} {pos:Pos}
theorem fin_bl {pins:List (Addr × Obj)} {σ:St} {H:Hp} {s:Shared} {Q:VK} {k k':Bool} (I:Inv X pins σ H s) (q:Q (.bl k) H) (e:k=k'):EP X pins σ Q (.bool k') s:=by
  subst e
  exact ⟨.bl k,H,I,rfl,q⟩
theorem op_eq:OpR X (compareOp .Eq) rEq:=by
  intro pins s σ H x y v u Q I rx ry h
  obtain ⟨hs,q⟩:=h
  cases x with
  | non=>
    cases rx
    cases y with
    | non=>cases ry;exact PySem.EqNone.eq_none_none (fin_bl I q (by simp))
    | bl j=>cases ry;exact PySem.EqNone.eq_none_bool (fin_bl I q (by simp))
    | int j=>obtain ⟨t',rfl⟩:=ry;exact PySem.EqNone.eq_none_int (fin_bl I q (by simp))
    | str j=>obtain ⟨t',rfl⟩:=ry;exact PySem.EqNone.eq_none_str (fin_bl I q (by simp))
    | _=>exact absurd (show false=true from hs) Bool.false_ne_true
  | bl i=>
    cases rx
    cases y with
    | non=>cases ry;exact PySem.EqNone.eq_bool_none (fin_bl I q (by simp))
    | bl j=>cases ry;exact eq_bool (fin_bl I q dec_bl)
    | str j=>obtain ⟨t',rfl⟩:=ry;exact PySem.EqMixed.eq_bool_str (fin_bl I q (by simp))
    | _=>exact absurd (show false=true from hs) Bool.false_ne_true
  | int i=>
    obtain ⟨t,rfl⟩:=rx
    cases y with
    | non=>cases ry;exact PySem.EqNone.eq_int_none (fin_bl I q (by simp))
    | int j=>obtain ⟨t',rfl⟩:=ry;exact eq_int (fin_bl I q dec_int)
    | str j=>obtain ⟨t',rfl⟩:=ry;exact PySem.EqMixed.eq_int_str (fin_bl I q (by simp))
    | _=>exact absurd (show false=true from hs) Bool.false_ne_true
  | str i=>
    obtain ⟨t,rfl⟩:=rx
    cases y with
    | non=>cases ry;exact PySem.EqNone.eq_str_none (fin_bl I q (by simp))
    | bl j=>cases ry;exact PySem.EqMixed.eq_str_bool (fin_bl I q (by simp))
    | int j=>obtain ⟨t',rfl⟩:=ry;exact PySem.EqMixed.eq_str_int (fin_bl I q (by simp))
    | str j=>obtain ⟨t',rfl⟩:=ry;exact eq_str (fin_bl I q dec_str)
    | _=>exact absurd (show false=true from hs) Bool.false_ne_true
  | byt i=>
    obtain ⟨t,rfl⟩:=rx
    cases y with
    | byt j=>obtain ⟨t',rfl⟩:=ry;exact PySem.W.eq_bytes (fin_bl I q dec_byt)
    | _=>exact absurd (show false=true from hs) Bool.false_ne_true
  | _=>cases y <;> exact absurd (show false=true from hs) Bool.false_ne_true
theorem op_ne:OpR X (compareOp .NotEq) rNe:=by
  intro pins s σ H x y v u Q I rx ry h
  obtain ⟨hs,q⟩:=h
  cases x with
  | non=>
    cases rx
    cases y with
    | non=>cases ry;exact PySem.EqNone.ne_none_none (fin_bl I q (by simp))
    | bl j=>cases ry;exact PySem.EqNone.ne_none_bool (fin_bl I q (by simp))
    | int j=>obtain ⟨t',rfl⟩:=ry;exact PySem.EqNone.ne_none_int (fin_bl I q (by simp))
    | str j=>obtain ⟨t',rfl⟩:=ry;exact PySem.EqNone.ne_none_str (fin_bl I q (by simp))
    | _=>exact absurd (show false=true from hs) Bool.false_ne_true
  | bl i=>
    cases rx
    cases y with
    | non=>cases ry;exact PySem.EqNone.ne_bool_none (fin_bl I q (by simp))
    | bl j=>cases ry;exact ne_bool (fin_bl I q (congrArg not dec_bl))
    | str j=>obtain ⟨t',rfl⟩:=ry;exact PySem.EqMixed.ne_bool_str (fin_bl I q (by simp))
    | _=>exact absurd (show false=true from hs) Bool.false_ne_true
  | int i=>
    obtain ⟨t,rfl⟩:=rx
    cases y with
    | non=>cases ry;exact PySem.EqNone.ne_int_none (fin_bl I q (by simp))
    | int j=>obtain ⟨t',rfl⟩:=ry;exact ne_int (fin_bl I q (congrArg not dec_int))
    | str j=>obtain ⟨t',rfl⟩:=ry;exact PySem.EqMixed.ne_int_str (fin_bl I q (by simp))
    | _=>exact absurd (show false=true from hs) Bool.false_ne_true
  | str i=>
    obtain ⟨t,rfl⟩:=rx
    cases y with
    | non=>cases ry;exact PySem.EqNone.ne_str_none (fin_bl I q (by simp))
    | bl j=>cases ry;exact PySem.EqMixed.ne_str_bool (fin_bl I q (by simp))
    | int j=>obtain ⟨t',rfl⟩:=ry;exact PySem.EqMixed.ne_str_int (fin_bl I q (by simp))
    | str j=>obtain ⟨t',rfl⟩:=ry;exact ne_str (fin_bl I q (congrArg not dec_str))
    | _=>exact absurd (show false=true from hs) Bool.false_ne_true
  | byt i=>
    obtain ⟨t,rfl⟩:=rx
    cases y with
    | byt j=>obtain ⟨t',rfl⟩:=ry;exact PySem.W.ne_bytes (fin_bl I q (congrArg not dec_byt))
    | _=>exact absurd (show false=true from hs) Bool.false_ne_true
  | _=>cases y <;> exact absurd (show false=true from hs) Bool.false_ne_true
theorem op_lt:OpR X (compareOp .Lt) (rI0 fun i j=>.bl (decide (i < j))):=opB0 fun _ _ _ _ _ _ _ q=>lt_int q
theorem op_le:OpR X (compareOp .LtE) (rI0 fun i j=>.bl (decide (i≤j))):=opB0 fun _ _ _ _ _ _ _ q=>le_int q
theorem op_gt:OpR X (compareOp .Gt) (rI0 fun i j=>.bl (decide (j < i))):=opB0 fun _ _ _ _ _ _ _ q=>gt_int q
theorem op_ge:OpR X (compareOp .GtE) (rI0 fun i j=>.bl (decide (j≤i))):=opB0 fun _ _ _ _ _ _ _ q=>ge_int q
theorem op_isN:OpR X (compareOp .Is) (fun x y H Q=>y=.non∧Q (.bl (decide (x=.non))) H):=by
  intro pins s σ H x y v u Q I rx ry h
  obtain ⟨rfl,q⟩:=h
  cases ry
  refine is_none_gen (fin_bl I q ?_)
  cases x <;> first
    | (cases rx;rfl)
    | (obtain ⟨t,rfl⟩:=rx;rfl)
theorem OpR.or {f:Value→Value→Sem Value} {r r':R2} (h:OpR X f r) (h':OpR X f r'):OpR X f (fun x y H Q=>r x y H Q∨r' x y H Q):=by
  intro pins s σ H x y v u Q I rx ry q
  rcases q with q | q
  · exact h pins s σ H x y v u Q I rx ry q
  · exact h' pins s σ H x y v u Q I rx ry q
theorem nomark (b:Expr) {op:CmpOp} (h:op≠.In:=by decide) (h2:op≠.NotIn:=by decide):behindInMarks op b=false:=by
  have e1:(op == CmpOp.In)=false:=by cases op <;> first | rfl | exact absurd rfl h
  have e2:(op == CmpOp.NotIn)=false:=by cases op <;> first | rfl | exact absurd rfl h2
  cases b <;> simp [behindInMarks,e1,e2]
theorem pe_cmpR {op:CmpOp} {r:R2} (ho:OpR X (compareOp op) r) (ha:PE X a ta) (hb:PE X b tb) (hm:behindInMarks op b=false):PE X (.Compare a [op] [b] pos) (tOp r ta tb):=by
  intro pins s σ H Q I h
  exact wpAny_Compare1 (binT ha hb I h fun v u s2 x y H2 I2 rx ry q=>ho pins s2 σ H2 x y v u Q I2 rx ry q) hm
def tTest (t:TE):TT:=fun σ H Q=>t σ H fun x H'=>∃ k,x=.bl k∧Q k H'
theorem pt_cmpR {op:CmpOp} {r:R2} (ho:OpR X (compareOp op) r) (ha:PE X a ta) (hb:PE X b tb) (hm:behindInMarks op b=false):PT X (.Compare a [op] [b] pos) (tTest (tOp r ta tb)):=by
  intro pins s σ H Q I h
  refine wpAny_isTrue_Compare1 (thn (ha pins s σ H _ I h) fun v s1 ⟨x,H1,I1,r1,q1⟩=>thn (hb pins s1 σ H1 _ I1 q1) fun u s2 ⟨y,H2,I2,r2,q2⟩=>
    thn (ho pins s2 σ H2 x y v u _ I2 r1 r2 q2) fun c s3 ⟨z,H3,I3,r3,k,e,q3⟩=>?_) hm
  subst e
  cases r3
  exact wpAny_truthy_bool ⟨H3,I3,q3⟩
def tChain (r r':R2) (ta tb tc:TE):TE:=fun σ H Q=>ta σ H fun x H1=>tb σ H1 fun y H2=>r x y H2 fun z H3=>∃ k,z=.bl k ∧
  (if k=true then tc σ H3 fun w' H4=>r' y w' H4 Q else Q (.bl false) H3)
theorem pt_chain {op op':CmpOp} {r r':R2} (ho:OpR X (compareOp op) r) (ho':OpR X (compareOp op') r') (ha:PE X a ta) (hb:PE X b tb) (hc:PE X c tc)
    (hm:lastMarks [op,op'] [b,c]=false:=by with_unfolding_all rfl):PT X (.Compare a [op,op'] [b,c] pos) (tTest (tChain r r' ta tb tc)):=by
  intro pins s σ H Q I h
  refine isTrue_chain (thn (ha pins s σ H _ I h) fun v s1 ⟨x,H1,I1,r1,q1⟩=>test_link (thn (hb pins s1 σ H1 _ I1 q1) fun u s2 ⟨y,H2,I2,r2,q2⟩=>
    thn (ho pins s2 σ H2 x y v u _ I2 r1 r2 q2) fun d s3 ⟨z,H3,I3,r3,k,e,q3⟩=>?_)) hm
  subst e
  cases r3
  refine wpAny_truthy_bool ?_
  cases k with
  | false=>
    obtain ⟨k',e',q'⟩:=q3
    cases e'
    exact ite_ff ⟨H3,I3,q'⟩
  | true=>
    refine ite_tt (test_last (thn (hc pins s3 σ H3 _ I3 q3) fun w' s4 ⟨z',H4,I4,r4,q4⟩=>thn (ho' pins s4 σ H4 y z' u w' _ I4 r2 r4 q4) fun d' s5 ⟨z2,H5,I5,r5,k2,e2,q5⟩=>?_))
    subst e2
    cases r5
    exact wpAny_truthy_bool ⟨H5,I5,q5⟩
theorem line63:(sizeLine:Nat) < 2 ^ 63:=by rw [sizeLine_eq];decide
theorem op_add_str:OpR X (binaryOp .Add) (fun x y H Q=>∃ i j,x=.str i∧y=.str j∧i.length+j.length≤sizeLine∧Q (.str (i++j)) H):=by
  intro pins s σ H x y v u Q I rx ry h
  obtain ⟨i,j,rfl,rfl,hz,q⟩:=h
  obtain ⟨t,rfl⟩:=rx
  obtain ⟨t',rfl⟩:=ry
  exact add_str (fun t' tk=>⟨.str (i++j),H,I.tok _,⟨_,rfl⟩,q⟩) hz
theorem vals1 {x:V} {us:List Value} (r:Vals [x] us):∃ u,us=[u]∧RelV x u:=by
  cases r with
  | cons r1 r2=>cases r2;exact ⟨_,rfl,r1⟩
theorem vals2 {x y:V} {us:List Value} (r:Vals [x,y] us):∃ u w',us=[u,w']∧RelV x u∧RelV y w':=by
  cases r with
  | cons r1 r2=>
    cases r2 with
    | cons r3 r4=>cases r4;exact ⟨_,_,rfl,r1,r3⟩
theorem call_max2 (hc:X.calm=true):CallR X (.builtin "max") (fun xs H Q=>∃ i j,xs=[.int i,.int j]∧Q (.int (if j > i then j else i)) H):=by
  intro pins s σ H xs us Q I r h
  obtain ⟨i,j,rfl,q⟩:=h
  obtain ⟨u,w',rfl,⟨t,rfl⟩,⟨t',rfl⟩⟩:=vals2 r
  refine max_two_ints (I.ok.hd hc) fun h' tk k=>⟨_,H,I.kept k,?_,q⟩
  by_cases hj:j > i
  · rw [if_pos hj,if_pos hj];exact ⟨_,rfl⟩
  · rw [if_neg hj,if_neg hj];exact ⟨_,rfl⟩
theorem call_min2 (hc:X.calm=true):CallR X (.builtin "min") (fun xs H Q=>∃ i j,xs=[.int i,.int j]∧Q (.int (if j < i then j else i)) H):=by
  intro pins s σ H xs us Q I r h
  obtain ⟨i,j,rfl,q⟩:=h
  obtain ⟨u,w',rfl,⟨t,rfl⟩,⟨t',rfl⟩⟩:=vals2 r
  refine min_two_ints (I.ok.hd hc) fun h' tk k=>⟨_,H,I.kept k,?_,q⟩
  by_cases hj:j < i
  · rw [if_pos hj,if_pos hj];exact ⟨_,rfl⟩
  · rw [if_neg hj,if_neg hj];exact ⟨_,rfl⟩
theorem call_int1:CallR X (.type "int") (fun xs H Q=>(∃ i,xs=[.int i]∧Q (.int i) H)∨∃ k,xs=[.bl k]∧Q (.int (if k then 1 else 0)) H):=by
  intro pins s σ H xs us Q I r h
  rcases h with ⟨i,rfl,q⟩ | ⟨k,rfl,q⟩
  · obtain ⟨u,rfl,t,rfl⟩:=vals1 r
    exact call_int_int ⟨.int i,H,I,⟨_,rfl⟩,q⟩
  · obtain ⟨u,rfl,r1⟩:=vals1 r
    cases r1
    exact call_int_bool ⟨.int (if k then 1 else 0),H,I.tok _,⟨_,rfl⟩,q⟩
end
end L2
namespace L2
open PySem PySem.Spec PyProof.Rows
section
variable {prog:Program} {w:World} {A:Around} {E:Value→Shared→Prop} {s:Shared} {K:PySem.W.Frag} {x dx C f:Addr} {mA:Str→Option Value} {name:Str} {v:Value}
end
section
variable {P:Program} {w:World} {H H':Hp} {h h':Heap} {a C dx:Addr} {fs fs':List (Str × V)}
end
section
variable {X:Cx} {pins:List (Addr × Obj)} {σ:St} {H:Hp} {s:Shared} {a C dx:Addr} {fs:List (Str × V)} {f:Str} {v:V} {A:Around} {E:Value→Shared→Prop}
theorem Inv.made (I:Inv X pins σ H s):Inv X pins σ (upd (upd H s.heap.objs.size (.own (s.heap.objs.size+1))) (s.heap.objs.size+1) (.ins C s.heap.objs.size []))
    { s with heap:=(s.heap.push PySem.W.emptyDict).push (PySem.W.instObj C s.heap.objs.size) }:=by
  have e1:(s.heap.push PySem.W.emptyDict).get? s.heap.objs.size=some PySem.W.emptyDict:=Heap.get?_push_size s.heap rfl
  have e2:((s.heap.push PySem.W.emptyDict).push (PySem.W.instObj C s.heap.objs.size)).get? (s.heap.objs.size+1)=some (PySem.W.instObj C s.heap.objs.size):=by
    have:=Heap.get?_push_size (s.heap.push PySem.W.emptyDict) (o:=PySem.W.instObj C s.heap.objs.size) rfl
    rwa [Heap.size_push] at this
  have e3:(s.heap.push PySem.W.emptyDict).Ns s.heap.objs.size (fun _=>none):=⟨PySem.W.emptyDict,#[],_,e1,rfl,(fun e he=>absurd he (by simp)),fun _=>rfl⟩
  have I1:=I.laid (a:=s.heap.objs.size) (o:=.own (s.heap.objs.size+1)) (h':=s.heap.push PySem.W.emptyDict) (t':=s.toks) (fun b u q=>Heap.get?_push_of_some _ q) (Nat.le_refl _) ⟨_,e1⟩
  refine I1.laid (a:=s.heap.objs.size+1) (o:=.ins C s.heap.objs.size []) (t':=s.toks) (fun b u q=>Heap.get?_push_of_some _ q) (Nat.le_of_eq (Heap.size_push _ _)) ?_
  have ne:s.heap.objs.size≠s.heap.objs.size+1:=Nat.ne_of_lt (Nat.lt_succ_self _)
  refine ⟨by rw [upd_ne ne,upd_same],Nat.zero_le _,ne,e2,fun _=>none,(Heap.Ns1.of_empty e3).at fun o q=>Heap.get?_push_of_some _ q,fun _=>True.intro,fun y hy=>absurd rfl hy⟩
end
section
variable {X:Cx} {o e value:Expr} {f:Str} {pos pos' tpos:Pos} {ta tv:TE}
end
section
variable {X:Cx} {pins:List (Addr × Obj)} {σ:St} {H:Hp} {s:Shared} {A:Around} {E:Value→Shared→Prop} {Q:Value→Shared→Prop} {c:Value} {b:Bool}
end
end L2
namespace L2
open PySem PySem.Spec PyProof.Rows
structure Room (k:Nat) (A:Around):Prop where
  hd:A.handled=none
  dp:A.depth+3 * k+5 < recursionLimit
  un:A.units+16 * k+200 < cLine
  gd:A.guards=some []
theorem Room.mono {j k:Nat} {A:Around} (r:Room k A) (h:j≤k):Room j A:=⟨r.hd,by have:=r.dp;omega,by have:=r.un;omega,by first | exact r.gd | (simpa [Around.under,Code.isGuard,guardIds] using r.gd)⟩
theorem Room.deeper {k:Nat} {A:Around} (r:Room (k+1) A) (env:Env):Room k (A.deeper env):=
  ⟨r.hd,by have:=r.dp;show A.depth+1+3 * k+5 < _;omega,by have:=r.un;show A.units+3+16 * k+200 < _;omega,by first | exact r.gd | (simpa [Around.under,Code.isGuard,guardIds] using r.gd)⟩
theorem Room.in1 {k:Nat} {A:Around} (r:Room (k+1) A):Room k A.in1:=
  ⟨r.hd,by have:=r.dp;show A.depth+3 * k+5 < _;omega,by have:=r.un;show A.units+1+16 * k+200 < _;omega,by first | exact r.gd | (simpa [Around.under,Code.isGuard,guardIds] using r.gd)⟩
theorem Room.depth {k:Nat} {A:Around} (r:Room k A):A.depth < recursionLimit:=by have:=r.dp;omega
theorem Room.units {k:Nat} {A:Around} (r:Room k A):A.units+64 < cLine:=by have:=r.un;omega
def tNil:TA:=fun _ H Q=>Q [] H
def tCons (ta:TE) (tr:TA):TA:=fun σ H Q=>ta σ H fun x H1=>tr σ H1 fun xs H2=>Q (x :: xs) H2
section
variable {X:Cx} {e:Expr} {es:List Expr} {te:TE} {t:TA} {pos:Pos}
theorem pa_nil:PA X [] tNil:=fun _ _ _ _ H Q I h=>Calls.spliced_nil ⟨[],H,I,.nil,h⟩
theorem pa_cons (ha:PE X e te) (hr:PA X es t) (hs:starEach (e :: es) X.env=(false,eval e X.env) :: starEach es X.env:=by rfl):PA X (e :: es) (tCons te t):=by
  intro pos pins s σ H Q I h
  rw [hs]
  show wpAny _ _ (spliced ((false,eval e X.env) :: backTo pos (starEach es X.env))) _ _ s
  refine Calls.spliced_cons (thn (ha pins s σ H _ I h) fun u s1 ⟨x,H1,I1,r1,q1⟩=>?_)
  exact thn (hr pos pins s1 σ H1 _ I1 q1) fun us s2 ⟨xs,H2,I2,r2,q2⟩=>⟨x :: xs,H2,I2,.cons r1 r2,q2⟩
def tTup (t:TA):TE:=fun σ H Q=>t σ H fun xs H1=>xs.length≤sizeLine∧∀ p,H1 p=none→Q (.ref p) (upd H1 p (.tup xs))
def tLst (t:TA):TE:=fun σ H Q=>t σ H fun xs H1=>xs.length≤sizeLine∧∀ p,H1 p=none→Q (.ref p) (upd H1 p (.lst xs))
theorem pe_tup {x1} (h:PA X es t):PE X (.Tuple es x1 pos) (tTup t):=by
  intro pins s σ H Q I hq
  refine wpAny_Tuple_spliced (thn (h pos pins s σ H _ I hq) fun us s1 ⟨xs,H1,I1,r,z,q⟩=>⟨by rw [← r.length];exact z,?_⟩)
  have hf:H1 s1.heap.objs.size=none:=I1.hok.fresh (Nat.le_refl _)
  refine ⟨.ref s1.heap.objs.size,upd H1 s1.heap.objs.size (.tup xs),I1.laid (t':=s1.toks) (fun b u e=>Heap.get?_push_of_some _ e) (Nat.le_refl _) ?_,rfl,q _ hf⟩
  exact ⟨⟨z,_,Heap.get?_push_size _ rfl,rfl⟩,us,r,⟨_,Heap.get?_push_size _ rfl,rfl,_,rfl⟩⟩
theorem pe_lst (h:PA X es t):PE X (.List es pos) (tLst t):=by
  intro pins s σ H Q I hq
  refine wpAny_List_spliced (thn (h pos pins s σ H _ I hq) fun us s1 ⟨xs,H1,I1,r,z,q⟩=>⟨by rw [← r.length];exact z,?_⟩)
  have hf:H1 s1.heap.objs.size=none:=I1.hok.fresh (Nat.le_refl _)
  refine ⟨.ref s1.heap.objs.size,upd H1 s1.heap.objs.size (.lst xs),I1.laid (t':=s1.toks) (fun b u e=>Heap.get?_push_of_some _ e) (Nat.le_refl _) ?_,rfl,q _ hf⟩
  exact ⟨z,us,0,r,Heap.get?_push_size _ rfl⟩
end
abbrev Sp:=List V→Hp→VK→XK→Prop
abbrev CXT:=List Env→Hp→Shared→XK→Value→Shared→Prop
structure Env0 (P:Program) (w:World) (K:PySem.W.Frag) (mg:Str→Option Value) (base:Heap) (A:Around) (outer:List Env) (s:Shared) (H:Hp):Prop where
  frames:A.frames=some outer
  mod:Mod K mg base
  bs:∀ b o,base.get? b=some o→s.heap.get? b=some o∧H b=none
  bsz:base.objs.size≤s.heap.objs.size
  funs:s.heap.FunFrames base outer
  frf:∀ b∈frs outer,H b=none
  hok:HOk P w H s.heap
  bare:AllBare s.gens
def CE (outer:List Env) (P:Program) (w:World) (H:Hp) (s:Shared) (Q:VK) (u:Value) (s':Shared):Prop:=
  ∃ v H',s'.os=s.os∧AllBare s'.gens∧Un (frs outer) [] H H' s.heap s'.heap∧HOk P w H' s'.heap∧RelV v u∧Q v H'
def CR (CX:CXT) (outer:List Env) (P:Program) (w:World) (H:Hp) (s:Shared) (Q:VK) (E:XK) (r:Result) (s':Shared):Prop:=
  match r with
  | .ok (.ret u)=>CE outer P w H s Q u s'
  | .ok _=>False
  | .error e=>CX outer H s E e s'
structure FnOk (P:Program) (w:World) (K:PySem.W.Frag) (mg:Str→Option Value) (base:Heap) (CX:CXT) (k:Nat) (f:Addr) (fd:FuncData) (ps:List Str) (sp:Sp):Prop where
  len:∀ vs H Q E,sp vs H Q E→vs.length=ps.length
  run:∀ (A:Around) (outer:List Env) (s:Shared) (H:Hp) (args:Args) (us:List Value) (vs:List V) (Q:VK) (E:XK),Room k A→Env0 P w K mg base A outer s H→BindsTo s fd args (ps.zip us)→Vals vs us→sp vs H Q E →
    codeAny (model P w) A (.call (.ref f) args) (CR CX outer P w H s Q E) s
theorem FnOk.mono {P:Program} {w:World} {K:PySem.W.Frag} {mg:Str→Option Value} {base:Heap} {CX:CXT} {j k:Nat} {f:Addr} {fd:FuncData} {ps:List Str} {sp:Sp} (F:FnOk P w K mg base CX j f fd ps sp) (h:j≤k) :
    FnOk P w K mg base CX k f fd ps sp:=⟨F.len,fun A outer s H args us vs Q E hr=>F.run A outer s H args us vs Q E (hr.mono h)⟩
theorem FnOk.imp {P:Program} {w:World} {K:PySem.W.Frag} {mg:Str→Option Value} {base:Heap} {CX:CXT} {k:Nat} {f:Addr} {fd:FuncData} {ps:List Str} {sp sp':Sp} (F:FnOk P w K mg base CX k f fd ps sp)
    (h:∀ vs H Q E,sp' vs H Q E→sp vs H Q E):FnOk P w K mg base CX k f fd ps sp':=
  ⟨fun vs H Q E q=>F.len vs H Q E (h _ _ _ _ q),fun A outer s H args us vs Q E hr he hb hv hs=>F.run A outer s H args us vs Q E hr he hb hv (h _ _ _ _ hs)⟩
theorem Env0.in1 {P:Program} {w:World} {K:PySem.W.Frag} {mg:Str→Option Value} {base:Heap} {A:Around} {outer:List Env} {s:Shared} {H:Hp} (e:Env0 P w K mg base A outer s H) :
    Env0 P w K mg base A.in1 outer s H:=⟨e.frames,e.mod,e.bs,e.bsz,e.funs,e.frf,e.hok,e.bare⟩
section
variable {X:Cx} {pins:List (Addr × Obj)} {σ:St} {H:Hp} {s s':Shared}
theorem Inv.env0 (I:Inv X pins σ H s):Env0 X.prog X.w X.K X.mg X.base X.A X.stack s H:=
  ⟨I.ok.frames,I.ok.mod,I.bs,Nat.le_trans I.ok.bsz I.sz,I.stack,I.stkFree,I.hok,I.bare⟩
theorem Inv.after {Q:VK} {u:Value} (I:Inv X pins σ H s) (h:CE X.stack X.prog X.w H s Q u s'):EP X pins σ Q u s':=by
  obtain ⟨v,H',os,bare,un,hok,r,q⟩:=h
  obtain ⟨hh,g,d,t,os'⟩:=s'
  obtain rfl:os'=s.os:=os
  exact ⟨v,H',I.call (h':=hh) (g':=g) (d':=d) (t':=t) (ch:=[]) un hok bare (fun b z=>absurd z (by simp)),r,q⟩
end
def tCall (sp:Sp) (dvs:List V) (E:XK) (t:TA):TE:=fun σ H Q=>t σ H fun vs H1=>sp (vs++dvs) H1 Q E
def Binds (K:PySem.W.Frag) (fd:FuncData) (ps:List Str) (ds:List Value):Prop:=
  ∀ (s:Shared) (us:List Value),K.In s.heap→(us++ds).length=ps.length→BindsTo s fd ⟨us,[]⟩ (ps.zip (us++ds))
theorem Binds.all {K:PySem.W.Frag} {fd:FuncData} {ps:List Str} (h:∀ us:List Value,us.length=ps.length→bindArgs fd ⟨us,[]⟩=pure (ps.zip us)):Binds K fd ps []:=fun s us _ hl=>by
  rw [List.append_nil] at hl ⊢
  exact .of_eq (h us hl)
def Passes (CX:CXT) (X:Cx) (E:XK):Prop:=∀ (pins:List (Addr × Obj)) (σ:St) (H:Hp) (s:Shared) (e:Value) (s':Shared),Inv X pins σ H s→CX X.stack H s E e s'→X.xe e s'
section
variable {X:Cx} {CX:CXT} {k:Nat} {f C:Addr} {fd:FuncData} {ps:List Str} {sp:Sp} {dvs:List V} {ds:List Value} {E:XK} {x m:Str} {p pos apos:Pos} {e o:Expr} {es:List Expr} {ta:TE} {t:TA}
theorem run_fn {pins:List (Addr × Obj)} {σ:St} {H:Hp} {s:Shared} {Q:VK} {us:List Value} {vs:List V} (F:FnOk X.prog X.w X.K X.mg X.base CX k f fd ps sp) (hr:Room k X.A) (hb:Binds X.K fd ps ds) (hd:Vals dvs ds) (hx:Passes CX X E)
    (I:Inv X pins σ H s) (r:Vals vs us) (h:sp (vs++dvs) H Q E):wpAny (model X.prog X.w) X.A (call (.ref f) us) (EP X pins σ Q) X.xe s:=by
  have r2:Vals (vs++dvs) (us++ds):=r.append hd
  have hl:(us++ds).length=ps.length:=by rw [← r2.length];exact F.len _ _ _ _ h
  refine wpAny_call (codeAny_mono (F.run X.A X.stack s H ⟨us,[]⟩ (us++ds) (vs++dvs) Q E hr I.env0 (hb s us I.kIn hl) r2 h) fun r s' hq=>?_)
  cases r with
  | error e=>exact hx pins σ H s e s' I hq
  | ok fl=>
    cases fl with
    | ret u=>exact I.after hq
    | next=>exact False.elim hq
    | brk=>exact False.elim hq
    | cont=>exact False.elim hq
theorem pe_call (F:FnOk X.prog X.w X.K X.mg X.base CX k f fd ps sp) (hr:Room k X.A) (hg:Gl X x) (hm:X.mg x=some (.ref f)) (hk:PySem.W.keepIn X.K (.ref f)=true) (hb:Binds X.K fd ps ds) (hd:Vals dvs ds) (hx:Passes CX X E)
    (ha:PA X (e :: es) t) (hdb:(x == ("__debug__" : Str))=false:=by decide) (he:starEach (e :: es) X.env=(false,eval e X.env) :: starEach es X.env:=by rfl) (hpl:(backTo pos (starEach es X.env)).any (·.1)=false:=by rfl) :
    PE X (.Call (.Name x p) (e :: es) [] pos) (tCall sp dvs E t):=by
  intro pins s σ H Q I h
  refine wpAny_Call_Name_kw (ld_glob I hg hm ?_ hdb)
  refine PySem.W.callWith_K (h₀:=X.base) I.ok.mod.kin hk (thn (ha pos pins s σ H _ I h) fun us s1 ⟨vs,H1,I1,r,q⟩=>⟨I1.kIn,?_⟩) he hpl
  exact run_fn F hr hb hd hx I1 r q
end
section
variable {X:Cx} {CX:CXT} {k:Nat} {f C:Addr} {fd:FuncData} {ps ks:List Str} {sp:Sp} {E:XK} {x m:Str} {p pos apos kpos:Pos} {e o:Expr} {es:List Expr} {kws:List Keyword} {te ta:TE} {t tk:TA} {nm:Option Str}
variable {g:List Value→List Value→List Value} {gV:List V→List V→List V}
end
structure FnScope (N P:List Str) (sc:Scope):Prop where
  kind:sc.kind=.function
  co:sc.isCoroutine=false
  gen:sc.isGenerator=false
  nd:N.Nodup
  pre:N.take P.length=P
  par:∀ x∈P,sc.names.lookup x=some .local∨sc.names.lookup x=some .cell
  nofree:∀ y∈sc.names,y.2≠.free
theorem bindL_out {kindOf:Str→Option NameKind} {x:Str}:∀ {binds:List (Str × Value)} {m:Str→Option Value},(∀ v,(x,v) ∉ binds)→bindL kindOf binds m x=m x
  | [],_,_=>rfl
  | (n,v) :: r,m,h=>by
    unfold bindL
    rw [bindL_out fun w hw=>h w (List.mem_cons_of_mem _ hw)]
    split
    · have:x≠n:=by rintro rfl;exact h v List.mem_cons_self
      simp [this]
    · rfl
theorem bindC_out {kindOf:Str→Option NameKind} {x:Str}:∀ {binds:List (Str × Value)} {m:Str→Option Value},(∀ v,(x,v) ∉ binds)→bindC kindOf binds m x=m x
  | [],_,_=>rfl
  | (n,v) :: r,m,h=>by
    unfold bindC
    rw [bindC_out fun w hw=>h w (List.mem_cons_of_mem _ hw)]
    split
    · rfl
    · have:x≠n:=by rintro rfl;exact h v List.mem_cons_self
      simp [this]
theorem bindL_get {kindOf:Str→Option NameKind} {x:Str} {v:Value}:∀ {P:List Str} {vs:List Value} {i:Nat} {m:Str→Option Value},P.Nodup→P[i]?=some x→vs[i]?=some v→kindOf x=some .local →
    bindL kindOf (P.zip vs) m x=some v
  | [],_,_,_,_,h,_,_=>by simp at h
  | _ :: _,[],_,_,_,_,h,_=>by simp at h
  | p :: P,w :: vs,0,m,nd,h1,h2,hk=>by
    simp at h1 h2;subst h1;subst h2
    show bindL kindOf ((p,w) :: P.zip vs) m p=_
    unfold bindL
    rw [bindL_out fun v hv=>(List.nodup_cons.mp nd).1 (List.of_mem_zip hv).1,if_pos hk]
    simp
  | p :: P,w :: vs,i+1,m,nd,h1,h2,hk=>by
    show bindL kindOf ((p,w) :: P.zip vs) m x=_
    unfold bindL
    exact bindL_get (i:=i) (List.nodup_cons.mp nd).2 (by simpa using h1) (by simpa using h2) hk
theorem bindC_get {kindOf:Str→Option NameKind} {x:Str} {v:Value}:∀ {P:List Str} {vs:List Value} {i:Nat} {m:Str→Option Value},P.Nodup→P[i]?=some x→vs[i]?=some v→kindOf x≠some .local →
    bindC kindOf (P.zip vs) m x=some v
  | [],_,_,_,_,h,_,_=>by simp at h
  | _ :: _,[],_,_,_,_,h,_=>by simp at h
  | p :: P,w :: vs,0,m,nd,h1,h2,hk=>by
    simp at h1 h2;subst h1;subst h2
    show bindC kindOf ((p,w) :: P.zip vs) m p=_
    unfold bindC
    rw [bindC_out fun v hv=>(List.nodup_cons.mp nd).1 (List.of_mem_zip hv).1,if_neg hk]
    simp
  | p :: P,w :: vs,i+1,m,nd,h1,h2,hk=>by
    show bindC kindOf ((p,w) :: P.zip vs) m x=_
    unfold bindC
    exact bindC_get (i:=i) (List.nodup_cons.mp nd).2 (by simpa using h1) (by simpa using h2) hk
def start (N:List Str) (vs:List V):St:=vs.map some++List.replicate (N.length - vs.length) none
def cxOf (CX:CXT) (P:Program) (w:World) (K:PySem.W.Frag) (mg:Str→Option Value) (base:Heap) (N:List Str) (qual:Str) (scope:Scope) (f:Addr) (cd:Value) (A:Around) (outer:List Env) (s:Shared) (H:Hp) (E:XK):Cx where
  prog:=P
  w:=w
  K:=K
  mg:=mg
  base:=base
  A:=A.deeper (envOfC qual scope s.heap.objs.size f cd)
  N:=N
  s₀:=s
  H₀:=H
  env:=envOfC qual scope s.heap.objs.size f cd
  outer:=outer
  stack:=envOfC qual scope s.heap.objs.size f cd :: outer
  ex:=[]
  calm:=true
  fn:=fun _=>true
  pn:=[]
  xe:=fun e s'=>wpAny (model P w) (A.deeper (envOfC qual scope s.heap.objs.size f cd)) (leaving (envOfC qual scope s.heap.objs.size f cd) e) (fun _ s''=>CX outer H s E e s'') (fun e' s''=>CX outer H s E e' s'') s'
theorem cell_has {sc:Scope} {n:Nat} {x:Str} (h:sc.names.lookup x=some .cell):∃ c,(cellsFrom n sc.names []).lookup x=some c:=by
  have q:=PySem.W.cellsFrom_some sc.names n [] (.inl h)
  exact Option.isSome_iff_exists.mp q
theorem inv_start {CX:CXT} {P:Program} {w:World} {K:PySem.W.Frag} {mg:Str→Option Value} {base:Heap} {N ps:List Str} {qual:Str} {scope:Scope} {f:Addr} {cd:Value} {A:Around} {outer:List Env} {s s1:Shared} {H:Hp} {E:XK} {us:List Value} {vs:List V}
    (S:FnScope N ps scope) (hd:A.handled=none) (e0:Env0 P w K mg base A outer s H) (hl:vs.length=ps.length) (r:Vals vs us)
    (x:InCallC s s.heap.objs.size (bindL (envOfC qual scope s.heap.objs.size f cd).kindOf (ps.zip us) fun _=>none) (cellsFrom (s.heap.objs.size+1) scope.names []) (bindC (envOfC qual scope s.heap.objs.size f cd).kindOf (ps.zip us) fun _=>none) s1) :
    Inv (cxOf CX P w K mg base N qual scope f cd A outer s H E) [] (start N vs) H s1:=by
  have hpl:ps.length≤N.length:=by have:=congrArg List.length S.pre;rw [List.length_take] at this;omega
  obtain ⟨h1,tk,rfl,hk⟩:=x.done
  have noA:∀ b:Addr,b ∉ (cxOf CX P w K mg base N qual scope f cd A outer s H E).ex:=fun b z=>absurd (show b∈([]:List Addr) from z) (by simp)
  refine ⟨⟨e0.mod,S.kind,rfl,rfl,Nat.le_refl _,fun y z c h1 h2=>?_,fun y hy=>?_,fun y c _ h=>?_,fun _=>hd,Around.frames_deeper e0.frames,.inr ⟨rfl,rfl⟩,fun b z=>absurd z (noA b),e0.bs,e0.bsz,fun b _ _=>noA b,fun b z=>absurd z (noA b),e0.funs,e0.frf⟩,
    rfl,e0.bare,Un.kept hk,⟨_,x.toInCall.ns,fun i y v h1 h2 h3=>?_⟩,fun y c h=>⟨_,x.cell y c h⟩,e0.hok.fresh (Nat.le_refl _),fun y c h=>?_,fun p hp=>absurd (show p∈([]:List (Addr × Obj)) from hp) (by simp),e0.hok.kept hk,?_⟩
  · exact name_of_addr x.apart (PySem.mem_of_lookup h1) (PySem.mem_of_lookup h2)
  · have hy:scope.names.lookup y=some .cell∨scope.names.lookup y=some .free:=hy
    rcases hy with hy | hy
    · exact cell_has hy
    · exact absurd rfl (S.nofree _ (PySem.mem_of_lookup hy))
  · exact Nat.le_of_lt (x.above y c (PySem.mem_of_lookup h))
  · have hi:i < vs.length:=by
      unfold start at h2
      by_cases hi:i < vs.length
      · exact hi
      · rw [List.getElem?_append_right (by simpa using hi)] at h2
        rw [List.getElem?_replicate] at h2
        split at h2 <;> cases h2
    have ha:vs[i]?=some v:=by
      unfold start at h2
      rw [List.getElem?_append_left (by simpa using hi),List.getElem?_map] at h2
      cases e:vs[i]? with
      | none=>rw [e] at h2;cases h2
      | some a=>rw [e] at h2;cases h2;rfl
    obtain ⟨u,hu,rv⟩:=r.get ha
    have hp:ps[i]?=some y:=by
      rw [← S.pre,List.getElem?_take_of_lt (by omega)];exact h1
    have ndP:ps.Nodup:=by rw [← S.pre];exact S.nd.sublist (List.take_sublist _ _)
    refine ⟨u,rv,?_⟩
    rcases S.par y (List.mem_of_getElem? hp) with k | k
    · exact .inl ⟨k,bindL_get ndP hp hu k⟩
    · obtain ⟨c,e⟩:=cell_has (n:=s.heap.objs.size+1) k
      refine .inr ⟨.inl k,c,e,?_⟩
      have q:=x.cell y c e
      rw [bindC_get ndP hp hu (by show scope.names.lookup y≠_;rw [k];decide)] at q
      exact q
  · exact e0.hok.fresh (Nat.le_of_lt (x.above y c (PySem.mem_of_lookup h)))
  · unfold start
    show _=N.length
    rw [List.length_append,List.length_map,List.length_replicate]
    omega
theorem fn_of {CX:CXT} {P:Program} {w:World} {K:PySem.W.Frag} {mg:Str→Option Value} {base:Heap} {k:Nat} {f:Addr} {name qual:Str} {params:Arguments} {body:List Stmt} {scope:Scope} {dV kV doc pm cdv ct oc:Value} {an od:Option Addr}
    {osl:Array (Option Value)} {N ps:List Str} {sp:Sp} (lk:K.lookup f=some ⟨oc,od,.func (PySem.W.fnOf name qual params body scope dV kV doc pm an cdv ct),osl⟩) (hcd:PySem.W.codeIn K cdv qual=true) (S:FnScope N ps scope)
    (len:∀ vs H Q E,sp vs H Q E→vs.length=ps.length)
    (hbody:∀ (A:Around) (outer:List Env) (s:Shared) (H:Hp) (vs:List V) (Q:VK) (E:XK),Room k (A.deeper (envOfC qual scope s.heap.objs.size f cdv))→sp vs H Q E →
      ∃ t,PSs (cxOf CX P w K mg base N qual scope f cdv A outer s H E) body t∧t { nx:=fun _ H'=>Q .non H',rt:=Q } (start N vs) H) :
    FnOk P w K mg base CX (k+1) f (PySem.W.fnOf name qual params body scope dV kV doc pm an cdv ct) ps sp:=by
  refine ⟨len,fun A outer s H args us vs Q E hr e0 hb r hsp=>?_⟩
  have hl:=len _ _ _ _ hsp
  have KX:K.In s.heap:=e0.mod.kin.keeps fun b o e=>(e0.bs b o e).1
  have lim:s.heap.NoLimit:=e0.mod.nolimit.keeps fun b o e=>(e0.bs b o e).1
  have hkind:∀ y∈ps.zip us,scope.names.lookup y.1=some .local∨(scope.names.lookup y.1=some .cell∧((cellsFrom (s.heap.objs.size+1) scope.names []).lookup y.1).isSome=true):=fun ⟨n,v⟩ hy=>by
    rcases S.par n (List.of_mem_zip hy).1 with q | q
    · exact .inl q
    · exact .inr ⟨q,PySem.W.cellsFrom_some _ _ _ (.inl q)⟩
  refine codeAny_call_function hr.depth (KX _ _ lk) rfl S.co S.gen rfl (PySem.W.codeRec_of KX hcd) (hb _ _ _ _ ?_)
  refine wpAny_newFunctionEnv_cells S.kind hkind fun env he s1 x=>?_
  subst he
  refine ⟨lim.keeps x.toInCall.keep,codeAny_func ?_⟩
  obtain ⟨t,ht,hq⟩:=hbody A outer s H vs Q E (hr.deeper _) hsp
  have I:Inv (cxOf CX P w K mg base N qual scope f cdv A outer s H E) [] (start N vs) H s1:=inv_start S hr.hd e0 hl r x
  refine wpAny_mono (ht [] s1 (start N vs) H _ I hq) (fun fl s' hs=>?_) fun e s' hs=>hs
  have fin:∀ {σ':St} {H':Hp} {v:V} {u:Value},Inv (cxOf CX P w K mg base N qual scope f cdv A outer s H E) [] σ' H' s'→RelV v u→Q v H'→CE outer P w H s Q u s':=
    fun {σ' H' v u} J rv q=>⟨v,H',J.os,J.bare,J.base,J.hok,rv,q⟩
  cases fl with
  | ret u=>
    obtain ⟨v,σ',H',J,rv,q⟩:=hs
    exact fin J rv q
  | next=>
    obtain ⟨σ',H',J,q⟩:=hs
    exact fin (v:=V.non) (u:=Value.none) J rfl q
  | brk=>
    obtain ⟨_,_,_,q⟩:=hs
    exact False.elim q
  | cont=>
    obtain ⟨_,_,_,q⟩:=hs
    exact False.elim q
end L2
namespace L2
open PySem PySem.Spec PyProof.Rows
section
variable {X:Cx} {x:Str} {p pos:Pos} {e:Expr} {es:List Expr} {t:TA} {id T:String} {r:List V→Hp→VK→Prop}
def tCB (r:List V→Hp→VK→Prop) (t:TA):TE:=fun σ H Q=>t σ H fun vs H1=>r vs H1 Q
theorem pe_callB (hc:CallR X (.builtin id) r) (hg:Gl X x) (hm:X.mg x=none) (hv:bootBuiltins x=some (.builtin id)) (ha:PA X (e :: es) t) (hn:x ≠ "__name__" := by decide) (hdb:(x == ("__debug__" : Str))=false:=by decide)
    (he:starEach (e :: es) X.env=(false,eval e X.env) :: starEach es X.env:=by rfl) (hpl:(backTo pos (starEach es X.env)).any (·.1)=false:=by rfl):PE X (.Call (.Name x p) (e :: es) [] pos) (tCB r t):=by
  intro pins s σ H Q I h
  refine wpAny_Call_Name_kw (ld_blt I hg hm hv ?_ hn hdb)
  exact PyProof.Rows.callWith_builtin1 (thn (ha pos pins s σ H _ I h) fun us s1 ⟨vs,H1,I1,r1,q1⟩=>hc pins s1 σ H1 vs us Q I1 r1 q1) he hpl
theorem pe_callTy (hc:CallR X (.type T) r) (hg:Gl X x) (hm:X.mg x=none) (hv:bootBuiltins x=some (.type T)) (ha:PA X (e :: es) t) (hn:x ≠ "__name__" := by decide) (hdb:(x == ("__debug__" : Str))=false:=by decide)
    (he:starEach (e :: es) X.env=(false,eval e X.env) :: starEach es X.env:=by rfl) (hpl:(backTo pos (starEach es X.env)).any (·.1)=false:=by rfl):PE X (.Call (.Name x p) (e :: es) [] pos) (tCB r t):=by
  intro pins s σ H Q I h
  refine wpAny_Call_Name_kw (ld_blt I hg hm hv ?_ hn hdb)
  exact PyProof.Rows.callWith_type1 (thn (ha pos pins s σ H _ I h) fun us s1 ⟨vs,H1,I1,r1,q1⟩=>hc pins s1 σ H1 vs us Q I1 r1 q1) he hpl
end
end L2
namespace HT
open PySem PyProof.Rows
section
open PySem.SeqAt
open PySem.AutoSeq1 (wpAny_loadPart')
open PySem.MeetsSeq PySem.MeetsSeq2 PySem.MeetsSeq3
end
section
variable {prog:Program} {w:World} {A:Around} {E:Value→Shared→Prop} {s:Shared}
def sIx (n d:Nat):Option Int→Nat
  | none=>d
  | some v=>if v < 0 then (v+(n:Int)).toNat else min v.toNat n
theorem sIx_none (n d:Nat):sIx n d none=d:=rfl
theorem sIx_nat (n d k:Nat):sIx n d (some (k:Int))=min k n:=by
  show (if (k:Int) < 0 then ((k:Int)+(n:Int)).toNat else min (k:Int).toNat n)=min k n
  rw [if_neg (by omega),Int.toNat_natCast]
theorem sIx_le (n d:Nat) (hd:d≤n) (o:Option Int):sIx n d o≤n:=by
  cases o with
  | none=>exact hd
  | some v=>
    show (if v < 0 then (v+(n:Int)).toNat else min v.toNat n)≤n
    by_cases hv:v < 0
    · rw [if_pos hv];omega
    · rw [if_neg hv];exact Nat.min_le_right _ _
theorem clip_eq (v:Int) (n d:Nat):(if v < 0 then max (v+(n:Int)) 0 else min v (n:Int))=((sIx n d (some v):Nat):Int):=by
  show (if v < 0 then max (v+(n:Int)) 0 else min v (n:Int))=(((if v < 0 then (v+(n:Int)).toNat else min v.toNat n):Nat):Int)
  by_cases hv:v < 0
  · simp only [if_pos hv];omega
  · simp only [if_neg hv];omega
theorem adjust_gen (lo hi:Option Int) (n:Nat):Builtin.Slice.sliceAdjust lo hi 1 (n:Int)=(((sIx n 0 lo:Nat):Int),((sIx n n hi:Nat):Int)):=by
  have h1:¬ ((1:Int) < 0):=by omega
  unfold Builtin.Slice.sliceAdjust
  simp only [h1,if_false]
  refine Prod.ext ?_ ?_
  · cases lo with
    | none=>rfl
    | some v=>exact clip_eq v n 0
  · cases hi with
    | none=>rfl
    | some v=>exact clip_eq v n n
theorem places_gen (i j:Nat):Builtin.Slice.slicePlaces (i:Int) (j:Int) 1=j - i:=by
  unfold Builtin.Slice.slicePlaces
  have h1:(1:Int) > 0:=by omega
  simp only [h1,if_true,Int.ediv_one]
  split <;> omega
theorem slicePart_ {v:Value} {o:Option Int} {Q:Option Int→Shared→Prop} (p:IsPart v o) (h:Q o s):wpAny (model prog w) A (Builtin.Slice.slicePartIndex v) Q E s:=by
  cases p with
  | none=>exact slicePart_none h
  | int i t=>exact slicePart_int h
theorem sliceApplied_gen {sl:Addr} {vl vu:Value} {lo hi:Option Int} {n:Nat} {Q:Int × Int × Nat→Shared→Prop} (hs:s.heap.IsSliceOf sl vl vu .none) (pl:IsPart vl lo) (pu:IsPart vu hi)
    (h:Q (((sIx n 0 lo:Nat):Int),1,sIx n n hi - sIx n 0 lo) s):wpAny (model prog w) A (Builtin.Slice.sliceApplied (.ref sl) (pure (n:Int))) Q E s:=by
  obtain ⟨os,hos,hcs,hds⟩:=id hs
  unfold Builtin.Slice.sliceApplied Builtin.Slice.sliceFields
  refine wpAny_bind (wpAny_bind (wpAny_field hos hds (x:=vl) rfl (wpAny_bind (wpAny_field hos hds (x:=vu) rfl (wpAny_bind (wpAny_field hos hds (x:=.none) rfl (wpAny_pure ?_)))))))
  refine wpAny_bind (slicePart_none ?_)
  show wpAny _ _ (if ((1:Int) == 0)=true then _ else _) _ _ s
  rw [if_neg (by decide)]
  refine wpAny_bind (slicePart_ pl (wpAny_bind (slicePart_ pu (wpAny_bind (wpAny_pure ?_)))))
  show wpAny _ _ (match Builtin.Slice.sliceAdjust lo hi 1 (n:Int) with | (lo,hi)=>pure (lo,(1:Int),Builtin.Slice.slicePlaces lo hi 1)) _ _ s
  rw [adjust_gen lo hi n]
  show wpAny _ _ (pure (((sIx n 0 lo:Nat):Int),(1:Int),Builtin.Slice.slicePlaces ((sIx n 0 lo:Nat):Int) ((sIx n n hi:Nat):Int) 1)) _ _ s
  rw [places_gen]
  exact wpAny_pure h
theorem pick_gen (xs:Array Value) (i k:Nat):((List.range k).filterMap fun (m:Nat)=>xs[((i:Int)+(m:Int) * 1).toNat]?).toArray=((xs.toList.drop i).take k).toArray:=by
  have e:(fun (m:Nat)=>xs[((i:Int)+(m:Int) * 1).toNat]?)=fun m=>xs[i+m]?:=by
    funext m
    have:((i:Int)+(m:Int) * 1).toNat=i+m:=by omega
    rw [this]
  rw [e]
  have:=pick_run xs i k
  rw [List.filterMap_map] at this
  have e2:((fun x=>xs[x]?) ∘ fun x=>i+x)=fun m=>xs[i+m]?:=rfl
  rw [e2] at this
  rw [this]
theorem getItem_tuple_cut {t sl:Addr} {items:Array Value} {vl vu:Value} {lo hi:Option Int} {Q:Value→Shared→Prop} (ht:IsTup s.heap t items) (hs:s.heap.IsSliceOf sl vl vu .none) (pl:IsPart vl lo) (pu:IsPart vu hi)
    (hw:¬ (sIx items.size 0 lo=0∧sIx items.size items.size hi=items.size))
    (h:Q (.ref s.heap.objs.size) { s with heap:=s.heap.push { cls:=.type "tuple", data:=.seq ((items.toList.drop (sIx items.size 0 lo)).take (sIx items.size items.size hi - sIx items.size 0 lo)).toArray } })
    (hsz:items.size≤sizeLine):wpAny (model prog w) A (getItem (.ref t) (.ref sl)) Q E s:=by
  have htake:sizeOk (.seq ((items.toList.drop (sIx items.size 0 lo)).take (sIx items.size items.size hi - sIx items.size 0 lo)).toArray):=by
    show ((items.toList.drop (sIx items.size 0 lo)).take (sIx items.size items.size hi - sIx items.size 0 lo)).toArray.size≤sizeLine
    rw [List.size_toArray,List.length_take,List.length_drop,Array.length_toList]
    omega
  have hj:sIx items.size items.size hi≤items.size:=sIx_le _ _ (Nat.le_refl _) hi
  obtain ⟨os,hos,hcs,hds⟩:=id hs
  have hTs:s.TypeIs (.ref sl) "slice" := ⟨os,hos,hcs⟩
  unfold getItem
  try with_reducible refine wpAny_holding ?_
  first | refine wpAny_bind (wpAny_pure ?_) | skip
  refine wpAny_bind (wpAny_sequenceKey ht.typeIs (by decide) ?_)
  refine wpAny_bind (wpAny_callSpecial?_slot (name:=Str.ofString "__getitem__") ht.typeIs PyProof.Rows.slot_tuple_getitem
    (wpAny_call_entry PyProof.Rows.slot_tuple_getitem ht.typeIs entry_tuple_getitem ?_ (args_tuple_getitem _ _)))
  show wpAny _ _ (Builtin.Tuple.tupleItemsOf (.ref t) >>= _) _ _ s
  refine wpAny_bind (tupleItemsOf_ ht ?_)
  refine wpAny_bind (wpAny_typeOf hTs ?_)
  rw [if_pos (by decide)]
  refine wpAny_bind (sliceApplied_gen hs pl pu ?_)
  have hno:¬ ((((sIx items.size 0 lo:Nat):Int) == 0 && (1:Int) == 1 && (sIx items.size items.size hi - sIx items.size 0 lo) == items.size)=true):=by
    intro q
    rw [Bool.and_eq_true,Bool.and_eq_true] at q
    have q1:((sIx items.size 0 lo:Nat):Int)=0:=eq_of_beq q.1.1
    have q2:sIx items.size items.size hi - sIx items.size 0 lo=items.size:=eq_of_beq q.2
    exact hw ⟨by omega,by omega⟩
  show wpAny _ _ (if (((sIx items.size 0 lo:Nat):Int) == 0 && (1:Int) == 1 && (sIx items.size items.size hi - sIx items.size 0 lo) == items.size)=true then _ else _) _ _ s
  rw [if_neg hno,pick_gen]
  first
    | exact wpAny_bind (m:=Builtin.Tuple.tupleExact _) (wpAny_newObj_type (wpAny_pure ⟨_,rfl,wpAny_pure h⟩) htake)
    | exact wpAny_bind (m:=Builtin.Tuple.tupleExact _) (wpAny_newObj_type (wpAny_bind (wpAny_pure (wpAny_pure ⟨_,rfl,wpAny_pure h⟩))) htake)
    | exact wpAny_bind (wpAny_bind (m:=Builtin.Tuple.tupleExact _) (wpAny_newObj_type (wpAny_pure (wpAny_pure ⟨_,rfl,wpAny_pure h⟩)) htake))
    | exact wpAny_bind (wpAny_bind (m:=Builtin.Tuple.tupleExact _) (wpAny_newObj_type (wpAny_pure ⟨_,rfl,wpAny_pure h⟩) htake))
end
end HT
namespace L2
open PySem PySem.Spec PyProof.Rows
abbrev TO:=St→Hp→(Option Int→Hp→Prop)→Prop
def PO (X:Cx) (e:Option Expr) (t:TO):Prop:=
  ∀ (pins:List (Addr × Obj)) (s:Shared) (σ:St) (H:Hp) (Q:Option Int→Hp→Prop),Inv X pins σ H s→t σ H Q →
    wpAny (model X.prog X.w) X.A (evalPart e X.env) (fun u s'=>∃ o H',Inv X pins σ H' s'∧IsPart u o∧Q o H') X.xe s
def tNoPart:TO:=fun _ H Q=>Q none H
def tPart (t:TE):TO:=fun σ H Q=>t σ H fun x H1=>∃ i,x=.int i∧Q (some i) H1
section
variable {X:Cx} {e:Expr} {te:TE} {lo hi:Option Expr} {tl th:TO} {pos p2:Pos}
theorem po_none:PO X none tNoPart:=by
  intro pins s σ H Q I h
  rw [evalPart_none]
  exact wpAny_pure ⟨none,H,I,.none,h⟩
theorem po_some (h:PE X e te):PO X (some e) (tPart te):=by
  intro pins s σ H Q I hw
  rw [evalPart_some]
  refine thn (h pins s σ H _ I hw) fun u s1 ⟨x,H1,I1,r1,q1⟩=>?_
  obtain ⟨i,rfl,q⟩:=q1
  obtain ⟨t,rfl⟩:=r1
  exact ⟨some i,H1,I1,.int i t,q⟩
def SlR (X:Cx) (r:V→Option Int→Option Int→Hp→VK→Prop):Prop:=
  ∀ (pins:List (Addr × Obj)) (s:Shared) (σ:St) (H:Hp) (x:V) (v vl vu:Value) (lo hi:Option Int) (sl:Addr) (Q:VK),Inv X pins σ H s→RelV x v→s.heap.IsSliceOf sl vl vu .none→IsPart vl lo→IsPart vu hi→r x lo hi H Q →
    ∃ T id,typeLookup (.type T) "__getitem__" = pure (some (.builtin id))∧s.TypeIs v T∧wpAny (model X.prog X.w) X.A (getItem v (.ref sl)) (EP X pins σ Q) X.xe s
theorem SlR.or {r r':V→Option Int→Option Int→Hp→VK→Prop} (h:SlR X r) (h':SlR X r'):SlR X (fun x lo hi H Q=>r x lo hi H Q∨r' x lo hi H Q):=by
  intro pins s σ H x v vl vu lo hi sl Q I rx hs pl pu q
  rcases q with q | q
  · exact h pins s σ H x v vl vu lo hi sl Q I rx hs pl pu q
  · exact h' pins s σ H x v vl vu lo hi sl Q I rx hs pl pu q
def tSl (r:V→Option Int→Option Int→Hp→VK→Prop) (te:TE) (tl th:TO):TE:=fun σ H Q=>te σ H fun x H1=>tl σ H1 fun l H2=>th σ H2 fun u H3=>r x l u H3 Q
theorem pe_slice {r:V→Option Int→Option Int→Hp→VK→Prop} (hr:SlR X r) (he:PE X e te) (hl:PO X lo tl) (hu:PO X hi th):PE X (.Subscript e (.Slice lo hi none p2) pos) (tSl r te tl th):=by
  intro pins s σ H Q I h
  refine Subscript_ (thn (he pins s σ H _ I h) fun v s1 ⟨x,H1,I1,r1,q1⟩=>?_)
  refine wpAny_Slice (thn (hl pins s1 σ H1 _ I1 q1) fun vl s2 ⟨l,H2,I2,pl,q2⟩=>thn (hu pins s2 σ H2 _ I2 q2) fun vu s3 ⟨u,H3,I3,pu,q3⟩=>?_)
  rw [evalPart_none]
  refine wpAny_pure ?_
  have I4:Inv X pins σ H3 { s3 with heap:=s3.heap.push { cls:=.type "slice", data:=.fields #[vl,vu,.none] } }:=I3.kept (t':=s3.toks) fun b ob q=>Heap.get?_push_of_some _ q
  obtain ⟨T,id,hT,ht,hg⟩:=hr pins { s3 with heap:=s3.heap.push { cls:=.type "slice", data:=.fields #[vl,vu,.none] } } σ H3 x v vl vu l u s3.heap.objs.size Q I4 r1 (Heap.IsSliceOf.new ..) pl pu q3
  show wpAny (model X.prog X.w) X.A (subscriptTail e (.Slice lo hi none p2) v (.ref s3.heap.objs.size)) (EP X pins σ Q) X.xe { s3 with heap:=s3.heap.push { cls:=.type "slice", data:=.fields #[vl,vu,.none] } }
  exact tail_any (ops:=[.ref s3.heap.objs.size,v]) ht hT hg (by with_unfolding_all rfl)
def cutV (xs:List V) (lo hi:Option Int):List V:=(xs.drop (HT.sIx xs.length 0 lo)).take (HT.sIx xs.length xs.length hi - HT.sIx xs.length 0 lo)
theorem cutV_length (xs:List V) (lo hi:Option Int):(cutV xs lo hi).length≤xs.length:=by
  unfold cutV
  rw [List.length_take,List.length_drop]
  omega
def rSlT (K:PySem.W.Frag):V→Option Int→Option Int→Hp→VK→Prop:=fun x lo hi H Q=>∃ a xs,x=.ref a∧SqT K H a xs ∧
  ¬ (HT.sIx xs.length 0 lo=0∧HT.sIx xs.length xs.length hi=xs.length)∧∀ p,H p=none→Q (.ref p) (upd H p (.tup (cutV xs lo hi)))
theorem sl_tup:SlR X (rSlT X.K):=by
  intro pins s σ H x v vl vu lo hi sl Q I rx hs pl pu h
  obtain ⟨a,xs,rfl,hx,hw,q⟩:=h
  cases rx
  obtain ⟨its,r,ht,hz⟩:=I.tuple hx
  have hlen:its.toArray.size=xs.length:=by rw [List.size_toArray];exact r.length.symm
  refine ⟨"tuple", _,PyProof.Rows.slot_tuple_getitem.lookup,ht.typeIs,?_⟩
  refine HT.getItem_tuple_cut ht hs pl pu (by rw [hlen];exact hw) ?_ (by rw [hlen];exact hz)
  rw [hlen]
  refine ⟨.ref s.heap.objs.size,_,I.laid (t':=s.toks) (o:=.tup (cutV xs lo hi)) (fun b ob q=>Heap.get?_push_of_some _ q) (Nat.le_refl _) ?_,rfl,q _ (I.hok.fresh (Nat.le_refl _))⟩
  exact ⟨⟨Nat.le_trans (cutV_length xs lo hi) hz,_,Heap.get?_push_size _ rfl,rfl⟩,_,(r.drop (HT.sIx xs.length 0 lo)).take (HT.sIx xs.length xs.length hi - HT.sIx xs.length 0 lo),IsTup.new _ _⟩
end
end L2
namespace L2
open PySem PySem.Spec PyProof.Rows
def ixN (n:Nat) (i:Int):Option Nat:=if 0≤i then (if i < n then some i.toNat else none) else if -(n:Int)≤i then some (i+n).toNat else none
def atI {α:Type} (xs:List α) (i:Int):Option α:=(ixN xs.length i).bind fun j=>xs[j]?
theorem ixN_seq {n:Nat} {i:Int} {j:Nat} (h:ixN n i=some j):seqIndex? i n=some j∧j < n∧-(n:Int)≤i∧i < n:=by
  unfold ixN at h
  by_cases h0:0≤i
  · rw [if_pos h0] at h
    by_cases h1:i < n
    · rw [if_pos h1] at h
      have e:i.toNat=j:=Option.some.inj h
      exact ⟨by rw [seqIndex_of h0 h1,e],by omega,by omega,h1⟩
    · rw [if_neg h1] at h;cases h
  · rw [if_neg h0] at h
    by_cases h1:-(n:Int)≤i
    · rw [if_pos h1] at h
      have e:(i+n).toNat=j:=Option.some.inj h
      exact ⟨by rw [seqIndex_neg (by omega) h1,e],by omega,h1,by omega⟩
    · rw [if_neg h1] at h;cases h
theorem atI_get {α:Type} {xs:List α} {i:Int} {v:α} (h:atI xs i=some v):∃ j,seqIndex? i xs.length=some j∧xs[j]?=some v∧j < xs.length∧-(xs.length:Int)≤i∧i < xs.length:=by
  unfold atI at h
  cases e:ixN xs.length i with
  | none=>rw [e] at h;cases h
  | some j=>
    rw [e] at h
    obtain ⟨h1,h2,h3,h4⟩:=ixN_seq e
    exact ⟨j,h1,h,h2,h3,h4⟩
theorem atI_nat {α:Type} {xs:List α} {j:Nat} {v:α} (h:xs[j]?=some v):atI xs (j:Int)=some v:=by
  have hj:j < xs.length:=(List.getElem?_eq_some_iff.mp h).1
  have e:ixN xs.length (j:Int)=some j:=by
    unfold ixN
    rw [if_pos (by omega),if_pos (by omega)];simp
  unfold atI;rw [e];exact h
def PlainIx (b:Expr):Prop:=∀ o i,subscripted b false o i=operate [o,i] (getItem o i)
def IxR (X:Cx) (r:R2):Prop:=
  ∀ (value slice:Expr) (pins:List (Addr × Obj)) (s:Shared) (σ:St) (H:Hp) (x y:V) (v u:Value) (Q:VK),Inv X pins σ H s→RelV x v→RelV y u→r x y H Q →
    subscripted slice false v u=operate [v,u] (getItem v u)→wpAny (model X.prog X.w) X.A (subscriptTail value slice v u) (EP X pins σ Q) X.xe s
def MtR (X:Cx) (id:String) (r:V→List V→Hp→VK→Prop):Prop:=
  ∀ (pins:List (Addr × Obj)) (s:Shared) (σ:St) (H:Hp) (x:V) (xs:List V) (v:Value) (us:List Value) (Q:VK),Inv X pins σ H s→RelV x v→Vals xs us→r x xs H Q →
    wpAny (model X.prog X.w) X.A (call (.builtin id) (v :: us)) (EP X pins σ Q) X.xe s
section
variable {X:Cx} {a b:Expr} {ta tb:TE} {pos:Pos}
theorem IxR.or {r r':R2} (h:IxR X r) (h':IxR X r'):IxR X (fun x y H Q=>r x y H Q∨r' x y H Q):=by
  intro value slice pins s σ H x y v u Q I rx ry q hs
  rcases q with q | q
  · exact h value slice pins s σ H x y v u Q I rx ry q hs
  · exact h' value slice pins s σ H x y v u Q I rx ry q hs
theorem MtR.or {id:String} {r r':V→List V→Hp→VK→Prop} (h:MtR X id r) (h':MtR X id r'):MtR X id (fun x xs H Q=>r x xs H Q∨r' x xs H Q):=by
  intro pins s σ H x xs v us Q I rx rs q
  rcases q with q | q
  · exact h pins s σ H x xs v us Q I rx rs q
  · exact h' pins s σ H x xs v us Q I rx rs q
theorem pe_ix {r:R2} (hr:IxR X r) (ha:PE X a ta) (hb:PE X b tb) (hs:PlainIx b):PE X (.Subscript a b pos) (tOp r ta tb):=by
  intro pins s σ H Q I h
  exact Subscript_ (binT ha hb I h fun v u s2 x y H2 I2 rx ry q=>hr a b pins s2 σ H2 x y v u Q I2 rx ry q (hs _ _))
def rIxL (K:PySem.W.Frag):R2:=fun x y H Q=>∃ p xs i v,x=.ref p∧y=.int i∧SqL K H p xs∧atI xs i=some v∧Q v H
def rIxT (K:PySem.W.Frag):R2:=fun x y H Q=>∃ p xs i v,x=.ref p∧y=.int i∧SqT K H p xs∧atI xs i=some v∧Q v H
def rIxS:R2:=fun x y H Q=>∃ z i c,x=.str z∧y=.int i∧z.length≤sizeLine∧atI z.cps.toList i=some c∧Q (.str ⟨#[c]⟩) H
theorem ix_list:IxR X (rIxL X.K):=by
  intro value slice pins s σ H x y v u Q I rx ry h hs
  obtain ⟨p,xs,i,z,rfl,rfl,hq,he,q⟩:=h
  cases rx
  obtain ⟨t,rfl⟩:=ry
  obtain ⟨its,r,pl,hz⟩:=I.list hq
  obtain ⟨j,h1,h2,h3,h4,h5⟩:=atI_get he
  obtain ⟨w,ew,rw'⟩:=r.get h2
  have hl:=r.length
  have hn:=line63
  have fin:EP X pins σ Q w s:=⟨z,H,I,rw',q⟩
  by_cases h0:0≤i
  · have hj:i.toNat=j:=by
      rw [seqIndex_of h0 h5] at h1
      exact Option.some.inj h1
    exact item_listR pl.isList h0 (by omega) (by rw [hj];simpa using ew) fin hs
  · have hj:(i+(its.toArray.size:Int)).toNat=j:=by
      rw [seqIndex_neg (by omega) h4] at h1
      rw [List.size_toArray,← hl]
      exact Option.some.inj h1
    exact subscriptTail_builtinR (x:=w) pl.isList.typeIs slot_list_getitem.lookup
      (wpAny_getItem_list_neg (Q:=fun r s'=>r=w∧EP X pins σ Q r s') pl.isList (by omega) (by rw [List.size_toArray] <;> omega) (by omega) (by rw [hj];simpa using ew) ⟨rfl,fin⟩) hs
theorem ix_tup:IxR X (rIxT X.K):=by
  intro value slice pins s σ H x y v u Q I rx ry h hs
  obtain ⟨p,xs,i,z,rfl,rfl,hq,he,q⟩:=h
  cases rx
  obtain ⟨t,rfl⟩:=ry
  obtain ⟨its,r,pl,hz⟩:=I.tuple hq
  obtain ⟨j,h1,h2,h3,h4,h5⟩:=atI_get he
  obtain ⟨w,ew,rw'⟩:=r.get h2
  have hl:=r.length
  have hn:=line63
  have fin:EP X pins σ Q w s:=⟨z,H,I,rw',q⟩
  exact subscriptTail_builtinR (x:=w) pl.typeIs slot_tuple_getitem.lookup
    (getItem_tuple (j:=j) (Q:=fun r s'=>r=w∧EP X pins σ Q r s') pl (by omega) (by omega) (by rw [List.size_toArray,← hl];exact h1) (by simpa using ew) ⟨rfl,fin⟩) hs
theorem ix_str:IxR X rIxS:=by
  intro value slice pins s σ H x y v u Q I rx ry h hs
  obtain ⟨z,i,c,rfl,rfl,hz,he,q⟩:=h
  obtain ⟨t,rfl⟩:=rx
  obtain ⟨t',rfl⟩:=ry
  obtain ⟨j,h1,h2,h3,h4,h5⟩:=atI_get he
  have hl:z.cps.toList.length=z.length:=by simp [Str.length]
  rw [hl] at h1 h4 h5
  have hn:=line63
  exact tail_any (typeIs_str s z t) slot_str_getitem.lookup (getItem_str (c:=c) (by
    have e1:decide (i < -(2 ^ 63:Int))=false:=decide_eq_false (by omega)
    have e2:decide (i ≥ 2 ^ 63)=false:=decide_eq_false (by omega)
    rw [e1,e2,Bool.or_false]) (by rw [h1];simpa using h2) ⟨.str ⟨#[c]⟩,H,I.tok _,⟨_,rfl⟩,q⟩) hs
theorem mapSeq_set (its:List Value) (n j:Nat) (u:Value):Obj.mapSeq (·.setIfInBounds j u) { cls:=.type "list", data:=.seq its.toArray n }={ cls:=.type "list", data:=.seq (its.set j u).toArray n }:=by
  simp [Obj.mapSeq]
theorem Inv.lst {pins:List (Addr × Obj)} {σ:St} {H:Hp} {s:Shared} {p:Addr} {xs:List V} (I:Inv X pins σ H s) (h:H p=some (.lst xs)) :
    ∃ (its:List Value) (n:Nat),Vals xs its∧s.heap.get? p=some { cls:=.type "list", data:=.seq its.toArray n }∧xs.length≤sizeLine:=by
  obtain ⟨z,its,n,r,e⟩:=I.hok p _ h
  exact ⟨its,n,r,e,z⟩
theorem Inv.lstUpd {pins:List (Addr × Obj)} {σ:St} {H:Hp} {s:Shared} {p:Addr} {xs ys:List V} {its its':List Value} {n n':Nat} {f:Obj→Obj} (I:Inv X pins σ H s) (h:H p=some (.lst xs))
    (ho:s.heap.get? p=some { cls:=.type "list", data:=.seq its.toArray n }) (hf:f { cls:=.type "list", data:=.seq its.toArray n }={ cls:=.type "list", data:=.seq its'.toArray n' }) (r:Vals ys its') (hz:ys.length≤sizeLine) (t:Nat) :
    Inv X pins σ (upd H p (.lst ys)) { s with heap:=s.heap.update p f,toks:=t }:=by
  have e:(s.heap.update p f).get? p=some { cls:=.type "list", data:=.seq its'.toArray n' }:=by
    rw [Heap.get?_update_self f ho (by rw [hf] <;> rfl),hf]
  refine I.write (x:=p) (e:=p) (by rw [h];trivial) (.inl rfl) (fun b u hb q=>(Heap.get?_update_other _ _ (Ne.symm hb)).trans q) ⟨_,e⟩ ?_
  exact ⟨hz,its',n',r,e⟩
def rSetL:V→V→V→Hp→(Hp→Prop)→Prop:=fun o i v H Q=>∃ p xs k j,o=.ref p∧i=.int k∧H p=some (.lst xs)∧ixN xs.length k=some j∧Q (upd H p (.lst (xs.set j v)))
theorem set_list:PSet X rSetL:=by
  intro pins s σ H o i v ov iv u Q I ro ri rv h
  obtain ⟨p,xs,k,j,rfl,rfl,hp,hj,q⟩:=h
  cases ro
  obtain ⟨t,rfl⟩:=ri
  obtain ⟨its,n,r,ho,hz⟩:=I.lst hp
  obtain ⟨h1,h2,h3,h4⟩:=ixN_seq hj
  have hl:=r.length
  have hn:=line63
  have I':Inv X pins σ (upd H p (.lst (xs.set j v))) { s with heap:=s.heap.update p (Obj.mapSeq (·.setIfInBounds j u)) }:=
    I.lstUpd hp ho (mapSeq_set its n j u) (r.set rv j) (by rw [List.length_set];exact hz) s.toks
  by_cases h0:0≤k
  · have hk:k.toNat=j:=by
      rw [seqIndex_of h0 h4] at h1
      exact Option.some.inj h1
    exact PySem.W.ki_setAt ho h0 (by omega) (by rw [List.size_toArray,← hl];exact h4) (by rw [hk];exact ⟨_,I',q⟩)
  · have hk:(k+(its.toArray.size:Int)).toNat=j:=by
      rw [seqIndex_neg (by omega) h3] at h1
      rw [List.size_toArray,← hl]
      exact Option.some.inj h1
    exact PySem.W.ki_setBack ho (by omega) (by rw [List.size_toArray,← hl];exact h3) (by omega) (by rw [hk];exact ⟨_,I',q⟩)
theorem slice_bounds (lo hi:Option Int) (n:Nat):(sliceBounds lo hi none n).1=((HT.sIx n 0 lo:Nat):Int)∧(sliceBounds lo hi none n).2.1=((HT.sIx n n hi:Nat):Int)∧(sliceBounds lo hi none n).2.2=1:=by
  refine ⟨?_,?_,rfl⟩
  · cases lo with
    | none=>simp [sliceBounds,HT.sIx]
    | some i=>
      simp only [sliceBounds,HT.sIx,Option.getD_none,show (1:Int) > 0 by decide,if_true]
      by_cases h:i < 0
      · simp only [h,if_true] <;> omega
      · simp only [h,if_false] <;> omega
  · cases hi with
    | none=>simp [sliceBounds,HT.sIx]
    | some i=>
      simp only [sliceBounds,HT.sIx,Option.getD_none,show (1:Int) > 0 by decide,if_true]
      by_cases h:i < 0
      · simp only [h,if_true] <;> omega
      · simp only [h,if_false] <;> omega
theorem slicePick_cut (its:List Value) (lo hi:Option Int):slicePick its.toArray lo hi none=((its.drop (HT.sIx its.length 0 lo)).take (HT.sIx its.length its.length hi - HT.sIx its.length 0 lo)).toArray:=by
  obtain ⟨h1,h2,h3⟩:=slice_bounds lo hi its.toArray.size
  unfold slicePick
  rw [h1,h2,h3]
  simp only [sliceRange_one,pick_run,List.size_toArray] <;> rfl
def rSlL (K:PySem.W.Frag):V→Option Int→Option Int→Hp→VK→Prop:=fun x lo hi H Q=>∃ a xs,x=.ref a∧SqL K H a xs∧∀ p,H p=none→Q (.ref p) (upd H p (.lst (cutV xs lo hi)))
theorem sl_list:SlR X (rSlL X.K):=by
  intro pins s σ H x v vl vu lo hi sl Q I rx hs pl pu h
  obtain ⟨a,xs,rfl,hx,q⟩:=h
  cases rx
  obtain ⟨its,r,ht,hz⟩:=I.list hx
  have hlen:=r.length
  refine ⟨"list", _,slot_list_getitem.lookup,ht.isList.typeIs,?_⟩
  refine wpAny_getItem_list_slice ht.isList hs pl pu .none (by simp) ?_ (by rw [List.size_toArray] <;> omega)
  rw [slicePick_cut,← hlen]
  refine ⟨.ref s.heap.objs.size,_,I.laid (t':=s.toks) (o:=.lst (cutV xs lo hi)) (fun b ob q=>Heap.get?_push_of_some _ q) (Nat.le_refl _) ?_,rfl,q _ (I.hok.fresh (Nat.le_refl _))⟩
  exact ⟨Nat.le_trans (cutV_length xs lo hi) hz,_,0,(r.drop (HT.sIx xs.length 0 lo)).take (HT.sIx xs.length xs.length hi - HT.sIx xs.length 0 lo),Heap.get?_push_size _ rfl⟩
theorem call_len_seq:CallR X (.builtin "len") (fun xs H Q=>∃ p ys,xs=[.ref p]∧(SqL X.K H p ys∨SqT X.K H p ys)∧Q (.int ys.length) H):=by
  intro pins s σ H xs us Q I r h
  obtain ⟨p,ys,rfl,hq,q⟩:=h
  obtain ⟨u,rfl,rx⟩:=vals1 r
  cases rx
  have hn:=line63
  rcases hq with hq | hq
  · obtain ⟨its,r',pl,hz⟩:=I.list hq
    have hlen:=r'.length
    exact Calls.call_len_list pl.isList (by simp only [List.size_toArray] <;> omega) ⟨.int ys.length,H,I.tok _,⟨s.toks+1,by rw [List.size_toArray,hlen]⟩,q⟩
  · obtain ⟨its,r',pl,hz⟩:=I.tuple hq
    have hlen:=r'.length
    exact len_tuple pl (by simp only [List.size_toArray] <;> omega) ⟨.int ys.length,H,I.tok _,⟨s.toks+1,by rw [List.size_toArray,hlen]⟩,q⟩
theorem call_len_str:CallR X (.builtin "len") (fun xs H Q=>∃ z,xs=[.str z]∧z.length≤sizeLine∧Q (.int z.length) H):=by
  intro pins s σ H xs us Q I r h
  obtain ⟨z,rfl,hz,q⟩:=h
  obtain ⟨u,rfl,t,rfl⟩:=vals1 r
  have hn:=line63
  exact len_str (by omega) ⟨.int z.length,H,I.tok _,⟨_,rfl⟩,q⟩
theorem CallR.or {f:Value} {r r':List V→Hp→VK→Prop} (h:CallR X f r) (h':CallR X f r'):CallR X f (fun xs H Q=>r xs H Q∨r' xs H Q):=by
  intro pins s σ H xs us Q I rs q
  rcases q with q | q
  · exact h pins s σ H xs us Q I rs q
  · exact h' pins s σ H xs us Q I rs q
theorem call_tuple_of:CallR X (.type "tuple") (fun xs H Q=>∃ p ys,xs=[.ref p]∧((SqL X.K H p ys∧∀ l,H l=none→Q (.ref l) (upd H l (.tup ys)))∨(SqT X.K H p ys∧Q (.ref p) H))):=by
  intro pins s σ H xs us Q I r h
  obtain ⟨p,ys,rfl,h⟩:=h
  obtain ⟨u,rfl,rx⟩:=vals1 r
  cases rx
  rcases h with ⟨hq,q⟩ | ⟨hq,q⟩
  · obtain ⟨its,r',pl,hz⟩:=I.list hq
    have hlen:=r'.length
    refine call_tuple_list pl.isList (fun h' kp=>?_) (by simp only [List.size_toArray] <;> omega)
    have I1:Inv X pins σ H { s with heap:=h' }:=I.kept (t':=s.toks) kp
    have I2:Inv X pins σ (upd H h'.objs.size (.tup ys)) { s with heap:=h'.push { cls:=.type "tuple", data:=.seq its.toArray } }:=
      I1.laid (t':=s.toks) (fun b o e=>Heap.get?_push_of_some _ e) (Nat.le_refl _) (show ObjOk X.prog X.w _ _ _ (.tup ys) from ⟨⟨hz,_,Heap.get?_push_size _ rfl,rfl⟩,its,r',IsTup.new _ _⟩)
    exact ⟨.ref h'.objs.size,_,I2,rfl,q _ (I1.hok.fresh (Nat.le_refl _))⟩
  · obtain ⟨its,r',pl,hz⟩:=I.tuple hq
    exact call_tuple_same pl ⟨.ref p,H,I,rfl,q⟩
def tyV (K:PySem.W.Frag) (T:String) (x:V) (H:Hp):Prop:=match x with
  | .str _=>T = "str"
  | .int _=>T = "int"
  | .ref p=>(T = "list" ∧ ∃ xs,SqL K H p xs)∨(T = "tuple" ∧ ∃ o,K.lookup p=some o∧o.cls=.type "tuple" ∧ o.dict=none) ∨
      (T = "dict" ∧ ((∃ kvs,H p=some (.dK kvs))∨∃ kvs,H p=some (.dT kvs)))∨(T = "set" ∧ ∃ S n,H p=some (.set S n))
  | _=>False
theorem tyV_is {pins:List (Addr × Obj)} {σ:St} {H:Hp} {s:Shared} {T:String} {x:V} {v:Value} (I:Inv X pins σ H s) (r:RelV x v) (ty:tyV X.K T x H) :
    s.TypeIs v T∧∀ a,v=.ref a→∃ ob,s.heap.get? a=some ob∧ob.dict=none:=by
  cases x with
  | str z=>
    obtain ⟨t,rfl⟩:=r
    cases (show T = "str" from ty)
    exact ⟨typeIs_str s z t,fun _ e=>nomatch e⟩
  | int i=>
    obtain ⟨t,rfl⟩:=r
    cases (show T = "int" from ty)
    exact ⟨typeIs_int s i t,fun _ e=>nomatch e⟩
  | ref p=>
    cases r
    rcases ty with ⟨rfl,xs,hq⟩ | ⟨rfl,o,hk,hc,hd⟩ | ⟨rfl,hk⟩ | ⟨rfl,S,n,hk⟩
    · obtain ⟨its,_,pl,_⟩:=I.list hq
      refine ⟨pl.isList.typeIs,fun a e=>?_⟩
      cases e
      obtain ⟨o,n,e,c,hd,_⟩:=pl
      exact ⟨o,e,hd⟩
    · refine ⟨⟨o,I.kIn p o hk,hc⟩,fun a e=>?_⟩
      cases e
      exact ⟨o,I.kIn _ o hk,hd⟩
    · have z:∃ o,s.heap.get? p=some o∧o.ExactDict:=by
        rcases hk with ⟨kvs,hk⟩ | ⟨kvs,hk⟩
        · obtain ⟨_,_,_,_,o,_,_,e,ex,_⟩:=I.hok p _ hk
          exact ⟨o,e,ex⟩
        · obtain ⟨_,_,_,_,o,_,_,e,ex,_⟩:=I.hok p _ hk
          exact ⟨o,e,ex⟩
      obtain ⟨o,e,ex⟩:=z
      refine ⟨⟨o,e,ex.1⟩,fun a e2=>?_⟩
      cases e2
      exact ⟨o,e,ex.2.1⟩
    · obtain ⟨o,_,_,_,e,ex,_⟩:=I.hok p _ hk
      refine ⟨⟨o,e,ex.1⟩,fun a e2=>?_⟩
      cases e2
      exact ⟨o,e,ex.2.1⟩
  | _=>exact False.elim ty
def tBM (K:PySem.W.Frag) (T:String) (r:V→List V→Hp→VK→Prop) (to:TE) (t:TA):TE:=fun σ H Q=>to σ H fun x H1=>tyV K T x H1∧t σ H1 fun xs H2=>r x xs H2 Q
variable {o e:Expr} {es:List Expr} {to:TE} {t:TA} {name:Str} {apos cpos:Pos} {T id:String} {r:V→List V→Hp→VK→Prop}
theorem pe_bm (pa:PlainAttrs T) (slot:Slot T name id) (hty:typeOf (.builtin id)=pure (.type "method_descriptor")) (hm:MtR X id r) (ho:PE X o to) (ha:PA X (e :: es) t)
    (hbase:attributeBase o name X.env (eval o X.env)=eval o X.env:=by rfl)
    (hfew:((backTo cpos (starEach (e :: es) X.env)).all (fun x=>!x.1) && (backToKw cpos (keywordEach [] X.env)).all (fun x=>x.1.isSome)
      && decide ((e :: es).length+([]:List Keyword).length+(if ([]:List Keyword).isEmpty then 0 else 1) < 30))=true:=by rfl)
    (hline:(apos.endLine == cpos.line)=true:=by rfl) (hs:starEach (e :: es) X.env=(false,eval e X.env) :: starEach es X.env:=by rfl) (hplain:(backTo cpos (starEach es X.env)).any (·.1)=false:=by rfl) :
    PE X (.Call (.Attribute o name apos) (e :: es) [] cpos) (tBM X.K T r to t):=by
  intro pins s σ H Q I h
  refine wpAny_Call_method_late hbase hfew hline rfl (thn (ho pins s σ H _ I h) fun v s1 ⟨x,H1,I1,r1,ty,q1⟩=>?_)
  obtain ⟨h1,h2⟩:=tyV_is I1 r1 ty
  refine ⟨T,id,pa,slot,hty,h1,h2,?_⟩
  have hA:=ha cpos pins s1 σ H1 _ I1 q1
  rw [hs] at hA ⊢
  refine Calls.callWith_builtin (by show (false || (backTo cpos (starEach es X.env)).any (·.1))=false;rw [hplain] <;> rfl) (Calls.evalArgs_plain ?_)
  exact thn hA fun us s2 ⟨vs,H2,I2,r2,q2⟩=>hm pins s2 σ H2 x vs v us Q I2 r1 r2 q2
/- xs.append(e),list.index on a module's tuple .. are MtR facts of 06m -/
end
end L2
namespace L2
open PySem PySem.Spec PyProof.Rows
def MtM (X:Cx) (id:String) (r:V→List V→Hp→VK→Prop):Prop:=
  ∀ (pins:List (Addr × Obj)) (s:Shared) (σ:St) (H:Hp) (x:V) (xs:List V) (v:Value) (us:List Value) (Q:VK),Inv X pins σ H s→RelV x v→Vals xs us→r x xs H Q →
    wpAny (model X.prog X.w) X.A (call (.builtin id) (v :: us)) (EP X pins σ Q) X.xe s
theorem Vals.one:∀ {x:V} {us:List Value},Vals [x] us→∃ u,us=[u]∧RelV x u
  | _,_,.cons r .nil=>⟨_,rfl,r⟩
theorem Vals.two:∀ {x y:V} {us:List Value},Vals [x,y] us→∃ u v,us=[u,v]∧RelV x u∧RelV y v
  | _,_,_,.cons r (.cons q .nil)=>⟨_,_,rfl,r,q⟩
theorem Vals.zero:∀ {us:List Value},Vals [] us→us=[]
  | _,.nil=>rfl
theorem Vals.eraseIdx:∀ {xs:List V} {us:List Value} (i:Nat),Vals xs us→Vals (xs.eraseIdx i) (us.eraseIdx i)
  | _,_,_,.nil=>.nil
  | _,_,0,.cons _ t=>t
  | _,_,i+1,.cons r t=>.cons r (Vals.eraseIdx i t)
theorem Vals.reverse {xs:List V} {us:List Value} (h:Vals xs us):Vals xs.reverse us.reverse:=by
  induction h with
  | nil=>exact .nil
  | cons r t ih=>rw [List.reverse_cons,List.reverse_cons];exact Vals.append ih (.cons r .nil)
section
variable {X:Cx} {pins:List (Addr × Obj)} {σ:St} {H:Hp} {s:Shared} {l b:Addr} {xs ys zs:List V}
theorem Inv.lset {its its':List Value} {n:Nat} {f:Array Value→Array Value} {t':Nat} (I:Inv X pins σ H s) (hH:H l=some (.lst xs))
    (e:s.heap.get? l=some { cls:=.type "list", data:=.seq its.toArray n }) (hf:f its.toArray=its'.toArray) (hv:Vals ys its') (hz:ys.length≤sizeLine) :
    Inv X pins σ (upd H l (.lst ys)) { s with heap:=s.heap.update l (Obj.mapSeq f),toks:=t' }:=by
  have q:=PySem.IsL.update e f
  rw [hf] at q
  refine I.write (x:=l) (e:=l) (by rw [hH];exact trivial) (.inl rfl) (fun b' u hb hu=>(Heap.get?_update_other s.heap (Obj.mapSeq f) (Ne.symm hb)).trans hu) ⟨_,q⟩ ?_
  exact ⟨hz,its',_,hv,q⟩
theorem Inv.lnew {its:List Value} {t':Nat} (I:Inv X pins σ H s) (hv:Vals ys its) (hz:ys.length≤sizeLine) :
    Inv X pins σ (upd H s.heap.objs.size (.lst ys)) { s with heap:=s.heap.push { cls:=.type "list", data:=.seq its.toArray },toks:=t' }:=
  I.laid (fun _ _ q=>Heap.get?_push_of_some _ q) (Nat.le_refl _) ⟨hz,its,0,hv,Heap.get?_push_size _ rfl⟩
theorem Inv.fresh (I:Inv X pins σ H s):H s.heap.objs.size=none:=I.hok.fresh (Nat.le_refl _)
theorem Inv.lstM (I:Inv X pins σ H s) (hH:H l=some (.lst xs)):xs.length≤sizeLine∧∃ (its:List Value) (n:Nat),Vals xs its∧xs.length=its.length∧s.heap.get? l=some { cls:=.type "list", data:=.seq its.toArray n }:=by
  obtain ⟨z,its,n,r,e⟩:=I.hok l _ hH
  exact ⟨z,its,n,r,r.length,e⟩
theorem notLongL {n:Nat} (h:n≤sizeLine):Builtin.List.listTooLong n=false:=by
  unfold Builtin.List.listTooLong
  exact decide_eq_false (by omega)
end
section
variable {X:Cx}
def rAppend:V→List V→Hp→VK→Prop:=fun x vs H Q=>∃ l xs y,x=.ref l∧vs=[y]∧H l=some (.lst xs)∧xs.length < sizeLine∧Q .non (upd H l (.lst (xs++[y])))
theorem mt_append:MtM X "list.append" rAppend:=by
  intro pins s σ H x vs v us Q I rx rv h
  obtain ⟨l,xs,y,rfl,rfl,hH,hz,q⟩:=h
  cases rx
  obtain ⟨u,rfl,ru⟩:=rv.one
  obtain ⟨z,its,n,r,hl,e⟩:=I.lstM hH
  refine call_meets F.slot_list_append ⟨_,e,rfl⟩ F.entry_list_append (F.args_list_append_2 _ _) (PySem.list_append l its.toArray n u (by rw [List.size_toArray];omega)) ⟨e,?_⟩
  refine ⟨.non,_,I.lset (its':=its++[u]) hH e (by simp) (r.append (.cons ru .nil)) ?_,rfl,q⟩
  rw [List.length_append,List.length_singleton]
  omega
def rExtend:V→List V→Hp→VK→Prop:=fun x vs H Q=>∃ l b xs zs,x=.ref l∧vs=[.ref b]∧H l=some (.lst xs)∧H b=some (.lst zs)∧xs.length+zs.length≤sizeLine∧Q .non (upd H l (.lst (xs++zs)))
theorem mt_extend:MtM X "list.extend" rExtend:=by
  intro pins s σ H x vs v us Q I rx rv h
  obtain ⟨l,b,xs,zs,rfl,rfl,hH,hB,hz,q⟩:=h
  cases rx
  obtain ⟨u,rfl,ru⟩:=rv.one
  cases ru
  obtain ⟨z,its,n,r,hl,e⟩:=I.lstM hH
  obtain ⟨z2,its2,n2,r2,hl2,e2⟩:=I.lstM hB
  have hsz:its.toArray.size+its2.toArray.size≤sizeLine:=by rw [List.size_toArray,List.size_toArray];omega
  have hlong:¬ (!its.toArray.isEmpty && Builtin.List.listTooLong (its.toArray.size+its2.toArray.size))=true:=by
    rw [notLongL hsz,Bool.and_false]
    exact Bool.false_ne_true
  refine call_meets F.slot_list_extend ⟨_,e,rfl⟩ F.entry_list_extend (F.args_list_extend_2 _ _)
    (AutoSeq1.list_extend_list_list_0 l its.toArray n b its2.toArray n2 hlong (by rw [List.size_toArray];omega) (by omega)) ⟨e,e2,?_⟩
  refine ⟨.non,_,I.lset (its':=its++its2) hH e (by simp) (r.append r2) ?_,rfl,q⟩
  rw [List.length_append]
  omega
def rCat:R2:=fun x y H Q=>∃ l b xs zs,x=.ref l∧y=.ref b∧H l=some (.lst xs)∧H b=some (.lst zs)∧xs.length+zs.length≤sizeLine∧∀ p,H p=none→Q (.ref p) (upd H p (.lst (xs++zs)))
theorem op_cat:OpR X (binaryOp .Add) rCat:=by
  intro pins s σ H x y v u Q I rx ry h
  obtain ⟨l,b,xs,zs,rfl,rfl,hH,hB,hz,q⟩:=h
  cases rx
  cases ry
  obtain ⟨z,its,n,r,hl,e⟩:=I.lstM hH
  obtain ⟨z2,its2,n2,r2,hl2,e2⟩:=I.lstM hB
  refine PySem.P.add_list e e2 ?_ (by rw [List.size_toArray,List.size_toArray];omega)
  have ea:its.toArray++its2.toArray=(its++its2).toArray:=by simp
  rw [ea]
  exact ⟨.ref _,_,I.lnew (t':=s.toks) (r.append r2) (by rw [List.length_append];omega),rfl,q _ I.fresh⟩
end
section
variable {prog:Program} {w:World} {A:Around} {E:Value→Shared→Prop} {s:Shared}
end
section
variable {X:Cx}
end
end L2
namespace Att
open PySem PySem.W PySem.Calls PyProof.Rows
theorem ints_of_wellAll {P:Params} {h:Heap}:∀ (ns:List Int) (vs:List Value),WellAll P h vs (ns.map WData.int)→IntsAre vs ns:=by
  intro ns
  induction ns with
  | nil=>
    intro vs w
    rw [List.map_nil] at w
    cases w
    exact .nil
  | cons n ns ih=>
    intro vs w
    rw [List.map_cons] at w
    cases w with
    | cons a b=>
      cases a
      exact .cons _ _ (ih _ b)
theorem script_of {l:OpenLaw} {n:Nat} (hn:l.most=some n) {P:Params} {h:Heap} {args:List WData} {vals:List Value}
    (hpre:l.row.toRowW.claim.pre args=true) (hwl:WellAll P h vals args) :
    ∃ a vs ns,vals=[Value.ref a]∧args=[WData.list (ns.map WData.int)]∧h.get? a=some { cls:=.type "list", data:=.seq vs.toArray }∧IntsAre vs ns∧ns.length≤n:=by
  have hsh:WShape.hasAll [] args [.list .int]=true:=(pre_splitW hpre).1
  have hc:l.pre.holds [] { args:=args }=true:=(pre_splitW hpre).2
  obtain ⟨d,r,rfl,h1,h2⟩:=hasAllW_cons hsh
  obtain rfl:=hasAllW_nil h2
  obtain ⟨xs,rfl,h3⟩:=hasW_list h1
  obtain ⟨ns,rfl⟩:=items_int h3
  have hlen:ns.length≤n:=by
    unfold OpenLaw.pre at hc
    have h4:(WTm.not (.lt (.lit (.int (n:Int))) (.len (.arg 0)))).holds [] { args:=[.list (ns.map .int)] }=true:=by
      have h4:=(holds_andW hc).1
      rw [hn] at h4
      exact h4
    have h5:=condW_of h4 (w_not (w_lt w_lit (w_len_list (w_arg rfl))))
    rw [List.length_map] at h5
    refine Nat.le_of_not_lt fun q=>?_
    have q':(n:Int) < ((ns.length:Nat):Int):=by omega
    first
      | (rw [decide_eq_true q'] at h5;exact absurd h5 (by decide))
      | (simp at h5;omega)
  cases hwl with
  | cons w1 w2=>
    cases w2
    cases w1 with
    | list ho hall=>exact ⟨_,_,ns,rfl,rfl,ho,ints_of_wellAll ns _ hall,hlen⟩
theorem post_true (l:OpenLaw) (args:List WData):l.row.toRowW.claim.post args (.bool true) args=true:=
  postW_of (r:=l.row.toRowW) (X:=(true == true))
    (show WShape.has [] (.bool true) .bool=true by first | rfl | decide | simp [WShape.has,WShape.arms,WShape.armsAll])
    (show (WTm.eq .res (.lit (.bool true))).value [] { args:=args,res:=some (.bool true),after:=args }=some (.bool (true == true)) from w_eq_bool (w_res rfl) w_lit) rfl
theorem attach_call {l:OpenLaw} {n:Nat} {q:Program} {loose:List Str} {XP:(Str→Option Value)→Heap→Prop} {YP:World→Heap→Prop} {d:DefRec}
    (hn:l.most=some n) (hdf:d.params.defaults=[])
    (call:∀ (w:World) (s₀ s₁:Shared) (mg mb:Str→Option Value) (fa:Addr) (o:Obj) (pm cd doc:Value) (a:Addr) (vs:List Value) (ns:List Int),
      Ground q loose [] XP w s₀ mg mb s₁.heap→YP w s₁.heap →
      s₁.heap.get? fa=some o→o.data=.func (docDef d.name d.params d.body d.scope pm cd doc)→s₁.heap.CodeRec cd d.name→mg d.name=some (.ref fa) →
      s₁.heap.get? a=some { cls:=.type "list", data:=.seq vs.toArray }→IntsAre vs ns→ns.length≤n→s₁.gens=#[] →
      codeAny (model l.prog w) callerA (.call (.ref fa) ⟨[.ref a],[]⟩) (fun r s'=>r=.ok (.ret (.bool true))∧OldK s₁.heap s'.heap∧s'.os=s₁.os∧AllBare s'.gens) s₁) :
    WalkO q loose XP YP l.row.toRowW d [] (fun f vs=>PySem.call f vs):=by
  intro w s₀ s₁ mg mb G Y fa o pm cd doc dV kV ho hd hcd hD hmg hg args vals as hpre hlay hrd hwl hlo
  obtain rfl:dV=.none:=Dflts.none hD hdf
  obtain rfl:kV=.none:=Dflts.noKw hD
  obtain ⟨a,vs,ns,rfl,rfl,hobj,hints,hlen⟩:=script_of hn hpre hwl
  refine enter_call (codeAny_mono (call w s₀ s₁ mg mb fa o pm cd doc a vs ns G Y ho (fd_plain hd) hcd hmg hobj hints hlen hg) fun r s' hq=>?_)
  obtain ⟨rfl,h2,h3,h4⟩:=hq
  exact ⟨.inl ⟨.bool true,.bool true,[],rfl,fun _=>rfl,.bool true,post_true l _,fun _=>⟨List.Pairwise.nil,fun _ hm=>(nomatch hm)⟩⟩,h2,h3,h4⟩
section
variable {prog:Program} {w:World} {A:Around} {E:Value→Shared→Prop} {s:Shared} {K:Frag}
def ledger (h:Heap) (L d:Addr):List (Addr × Obj):=(List.range h.objs.size).filterMap fun a=>if a=L∨a=d then none else (h.get? a).map fun o=>(a,o)
end
end Att
namespace L2
open PySem PySem.Spec PyProof.Rows
theorem vals_ints:∀ {vs:List Value} {ns:List Int},IntsAre vs ns→Vals (ns.map V.int) vs
  | _,_,.nil=>.nil
  | _,_,.cons n t h=>.cons ⟨t,rfl⟩ (vals_ints h)
def Only (H:Hp):Prop:=∀ b,H b=none∨∃ o xs,H b=some (.frz o (.lst xs))
theorem law_call {P:Program} {w:World} {K:PySem.W.Frag} {mg mb:Str→Option Value} {CX:CXT} {k:Nat} {fa a:Addr} {fd:FuncData} {x:Str} {sp:Sp} {s₁:Shared} {vs:List Value} {ns:List Int}
    (KX:K.In s₁.heap) (hns:s₁.heap.Ns mainGlobals mg) (hb:s₁.heap.Ns builtinsNs mb) (hbb:∀ x:Str,x ≠ "__name__" → mb x=bootBuiltins x) (hlim:s₁.heap.NoLimit) (hg:s₁.gens=#[])
    (ha:s₁.heap.get? a=some { cls:=.type "list", data:=.seq vs.toArray }) (hi:IntsAre vs ns) (hl:ns.length≤sizeLine) (hr:Room k callerA)
    (F:∀ base:Heap,K.In base→base.Ns mainGlobals mg→FnOk P w K mg base CX k fa fd [x] sp) (hbind:∀ (s:Shared) (u:Value),BindsTo s fd ⟨[u],[]⟩ [(x,u)])
    (hsp:∀ H:Hp,Only H→SqL K H a (ns.map V.int)→sp [.ref a] H (fun v _=>v=.bl true) fun _ _ _=>False)
    (hCX:∀ H e s',CX [] H s₁ (fun _ _ _=>False) e s'→False) :
    codeAny (model P w) callerA (.call (.ref fa) ⟨[.ref a],[]⟩) (fun r s'=>r=.ok (.ret (.bool true))∧OldK s₁.heap s'.heap∧s'.os=s₁.os∧AllBare s'.gens) s₁:=by
  have rv:=vals_ints hi
  have lenV:=hi.length
  have core:∀ H:Hp,Only H→SqL K H a (ns.map V.int)→HOk P w H s₁.heap→(∀ b,H b≠none→b=a)→(H a≠none→K.lookup a=none) →
      codeAny (model P w) callerA (.call (.ref fa) ⟨[.ref a],[]⟩) (fun r s'=>r=.ok (.ret (.bool true))∧OldK s₁.heap s'.heap∧s'.os=s₁.os∧AllBare s'.gens) s₁:=by
    intro H hO hS hok hA hK
    have base_of:∀ {b:Addr} {o:Obj},s₁.heap.get? b=some o→H b=none→(hidT s₁.heap H).get? b=some o:=fun e n=>hidT_get e n
    have noA:∀ {b:Addr} {o:Obj} {es:Array DictEntry} {ep:Nat},s₁.heap.get? b=some o→o.data=.dict es ep→H b=none:=fun {b o es ep} e d=>by
      cases q:H b with
      | none=>rfl
      | some u=>
        have e':b=a:=hA b (by rw [q];simp)
        subst e'
        rw [ha] at e;cases e
        have d':Data.seq vs.toArray _=Data.dict es ep:=d
        cases d'
    have nsK:∀ {b:Addr} {m:Str→Option Value},s₁.heap.Ns b m→(hidT s₁.heap H).Ns b m:=fun {b m} ⟨o,es,ep,e,d,r⟩=>⟨o,es,ep,base_of e (noA e d),d,r⟩
    have hKb:K.In (hidT s₁.heap H):=fun b o e=>base_of (KX b o e) (by
      cases q:H b with
      | none=>rfl
      | some u=>
        have e':b=a:=hA b (by rw [q];simp)
        subst e'
        rw [hK (by rw [q];simp)] at e;cases e)
    have hM:Mod K mg (hidT s₁.heap H):=⟨hKb,nsK hns,⟨mb,nsK hb,hbb⟩,let ⟨mc,h1,h2⟩:=hlim;⟨mc,nsK h1,h2⟩⟩
    have e0:Env0 P w K mg (hidT s₁.heap H) callerA [] s₁ H:=⟨rfl,hM,fun b o e=>of_hidT e,Nat.le_of_eq (hidT_size _ _),trivial,fun b hb=>absurd (show b∈([]:List Addr) from hb) (by simp),hok,.of_eq hg⟩
    refine codeAny_mono ((F _ hKb (nsK hns)).run callerA [] s₁ H ⟨[.ref a],[]⟩ [.ref a] [.ref a] _ _ hr e0 (hbind s₁ (.ref a)) (.cons rfl .nil) (hsp H hO hS)) fun r s' h=>?_
    cases r with
    | error e=>exact (hCX H e s' h).elim
    | ok fl=>
      cases fl with
      | next=>exact False.elim h
      | brk=>exact False.elim h
      | cont=>exact False.elim h
      | ret u=>
        obtain ⟨v,H',os,bare,un,hok',r',q⟩:=h
        have q':v=.bl true:=q
        subst q'
        obtain rfl:u=Value.bool true:=r'
        refine ⟨rfl,OldK.of_keep fun b o e=>?_,os,bare⟩
        cases q:H b with
        | none=>exact un.keep b o e q (by intro z;exact absurd (show b∈([]:List Addr) from z) (by simp)) (by simp)
        | some u=>
          rcases hO b with z | ⟨ob,xs,z⟩
          · rw [q] at z;cases z
          · have z2:=un.frzs b ob _ z
            obtain ⟨e1,_⟩:=hok b _ z
            obtain ⟨e2,_⟩:=hok' b _ z2
            rw [e] at e1;cases e1
            exact e2
  cases hk:K.lookup a with
  | some o=>
    have e:=KX a o hk
    rw [ha] at e
    cases e
    refine core (fun _=>none) (fun _=>.inl rfl) (.inr ⟨_,vs.toArray,_,hk,rfl,rfl,rfl,by rw [List.size_toArray,lenV];exact hl,by simpa using rv⟩) (fun b u z=>by have z':(none:Option HO)=some u:=z;cases z') (fun b z=>absurd rfl z) fun z=>absurd rfl z
  | none=>
    refine core (fun b=>if b=a then some (.frz { cls:=.type "list", data:=.seq vs.toArray } (.lst (ns.map V.int))) else none) (fun b=>?_) (.inl (.inr ⟨{ cls:=.type "list", data:=.seq vs.toArray },if_pos rfl⟩)) (fun b u z=>?_) (fun b z=>?_) fun _=>hk
    · by_cases hb:b=a
      · exact .inr ⟨_,_,if_pos hb⟩
      · exact .inl (if_neg hb)
    · by_cases hb:b=a
      · have z':=(if_pos hb).symm.trans z
        cases z'
        subst hb
        exact ⟨ha,by rw [List.length_map];exact hl,vs,_,rv,ha⟩
      · have z':=(if_neg hb).symm.trans z
        cases z'
    · by_cases hb:b=a
      · exact hb
      · exact absurd (if_neg hb) z
end L2
namespace L2
open PySem PySem.Spec PyProof.Rows
abbrev KOf {K:PySem.W.Frag} {h:Heap} (_:K.In h):PySem.W.Frag:=K
theorem walk_of {l:PySem.W.OpenLaw} {n k:Nat} {q:Program} {loose:List Str} {XP:(Str→Option Value)→Heap→Prop} {YP:World→Heap→Prop} {d:DefRec} {K:Params→PySem.W.Frag} {CX:World→CXT} {sp:World→Sp} {x:Str}
    (hn:l.most=some n) (hn2:n≤sizeLine) (hdf:d.params.defaults=[]) (hr:Room k callerA)
    (hY:∀ (w:World) (h:Heap),YP w h→(K w.params).In h)
    (F:∀ (w:World) (mg:Str→Option Value) (fa:Addr) (h:Heap),(K w.params).In h→h.Ns mainGlobals mg→mg d.name=some (.ref fa) →
      ∃ fd:FuncData,(∀ (s:Shared) (u:Value),BindsTo s fd ⟨[u],[]⟩ [(x,u)]) ∧
        ∀ base:Heap,(K w.params).In base→base.Ns mainGlobals mg→FnOk l.prog w (K w.params) mg base (CX w) k fa fd [x] (sp w))
    (hsp:∀ (w:World) (H:Hp) (a:Addr) (ns:List Int),ns.length≤n→Only H→SqL (K w.params) H a (ns.map V.int)→sp w [.ref a] H (fun v _=>v=.bl true) fun _ _ _=>False)
    (hCX:∀ (w:World) (H:Hp) (s:Shared) (e:Value) (s':Shared),CX w [] H s (fun _ _ _=>False) e s'→False) :
    PySem.W.WalkO q loose XP YP l.row.toRowW d [] (fun f vs=>PySem.call f vs):=by
  refine Att.attach_call hn hdf fun w s₀ s₁ mg mb fa o pm cd doc a vs ns G Y ho hd hcd hmg hobj hints hlen hg=>?_
  have KX:=hY w _ Y
  obtain ⟨fd,hb,hF⟩:=F w mg fa _ KX G.T.g hmg
  exact law_call KX G.T.g G.T.b G.T.builtins G.T.nolimit hg hobj hints (Nat.le_trans hlen hn2) hr hF hb (fun H hO hS=>hsp w H a ns hlen hO hS) fun H e s'=>hCX w H s₁ e s'
theorem walk_ofK {l:PySem.W.OpenLaw} {n k:Nat} {q:Program} {loose:List Str} {XP:(Str→Option Value)→Heap→Prop} {YP:World→Heap→Prop} {d:DefRec} {K:Params→PySem.W.Frag} {CX:CXT} {sp:PySem.W.Frag→Sp} {x:Str}
    (hn:l.most=some n) (hn2:n≤sizeLine) (hdf:d.params.defaults=[]) (hr:Room k callerA)
    (hY:∀ (w:World) (h:Heap),YP w h→(K w.params).In h)
    (F:∀ (w:World) (mg:Str→Option Value) (fa:Addr) (h:Heap),(K w.params).In h→h.Ns mainGlobals mg→mg d.name=some (.ref fa) →
      ∃ fd:FuncData,(∀ (s:Shared) (u:Value),BindsTo s fd ⟨[u],[]⟩ [(x,u)]) ∧
        ∀ base:Heap,(K w.params).In base→base.Ns mainGlobals mg→FnOk l.prog w (K w.params) mg base CX k fa fd [x] (sp (K w.params)))
    (hsp:∀ (K:PySem.W.Frag) (H:Hp) (a:Addr) (ns:List Int),ns.length≤n→Only H→SqL K H a (ns.map V.int)→sp K [.ref a] H (fun v _=>v=.bl true) fun _ _ _=>False)
    (hCX:∀ (H:Hp) (s:Shared) (e:Value) (s':Shared),CX [] H s (fun _ _ _=>False) e s'→False) :
    PySem.W.WalkO q loose XP YP l.row.toRowW d [] (fun f vs=>PySem.call f vs):=
  walk_of (K:=K) (CX:=fun _=>CX) (sp:=fun w=>sp (K w.params)) hn hn2 hdf hr hY F (fun w H a ns h1 h2 h3=>hsp (K w.params) H a ns h1 h2 h3) fun _ H s e s'=>hCX H s e s'
end L2
namespace L2
open PySem PySem.Spec PyProof.Rows
def defArgs (s:Stmt):Arguments:=match s with
  | .FunctionDef _ a _ _ _ _ _ _ _ _=>a
  | _=>{ posonlyargs:=[],args:=[],vararg:=none,kwonlyargs:=[],kw_defaults:=[],kwarg:=none,defaults:=[] }
def defBody (s:Stmt):List Stmt:=match s with
  | .FunctionDef _ _ b _ _ _ _ _ _ _=>b
  | _=>[]
def defScope (s:Stmt):Scope:=match s with
  | .FunctionDef _ _ _ _ _ _ sc _ _ _=>sc
  | _=>{ kind:=.function,names:=[],isGenerator:=false,isCoroutine:=false }
abbrev CX0:CXT:=fun _ _ _ _ _ _=>False
abbrev E0:XK:=fun _ _ _=>False
theorem pass0 {X:Cx}:Passes CX0 X E0:=fun _ _ _ _ _ _ _ h=>h.elim
structure Fun (K:PySem.W.Frag) (x qual:Str) (st:Stmt) (f:Addr) (fd:FuncData):Prop where
  ex:∃ (oc:Value) (od:Option Addr) (kV doc pm:Value) (an:Option Addr) (cdv ct:Value) (osl:Array (Option Value)),
    fd=PySem.W.fnOf x qual (defArgs st) (defBody st) (defScope st) .none kV doc pm an cdv ct∧K.lookup f=some ⟨oc,od,.func fd,osl⟩∧PySem.W.codeIn K cdv qual=true
  kp:PySem.W.keepIn K (.ref f)=true
section
variable {P:Program} {w:World} {K:PySem.W.Frag} {mg:Str→Option Value} {base:Heap}
theorem Fun.ok {x qual:Str} {st:Stmt} {f:Addr} {fd:FuncData} {N ps:List Str} {k:Nat} {sp:Sp} (F:Fun K x qual st f fd) (S:FnScope N ps (defScope st)) (len:∀ vs H Q E,sp vs H Q E→vs.length=ps.length)
    (hbody:∀ (cdv:Value) (A:Around) (outer:List Env) (s:Shared) (H:Hp) (vs:List V) (Q:VK) (E:XK),Room k (A.deeper (envOfC qual (defScope st) s.heap.objs.size f cdv))→sp vs H Q E →
      ∃ t,PSs (cxOf CX0 P w K mg base N qual (defScope st) f cdv A outer s H E).nox (defBody st) t∧t { nx:=fun _ H'=>Q .non H',rt:=Q } (start N vs) H):FnOk P w K mg base CX0 (k+1) f fd ps sp:=by
  obtain ⟨oc,od,kV,doc,pm,an,cdv,ct,osl,rfl,lk,hcd⟩:=F.ex
  refine fn_of lk hcd S len fun A outer s H vs Q E hr hsp=>?_
  obtain ⟨t,h,q⟩:=hbody cdv A outer s H vs Q E hr hsp
  exact ⟨t,h.nox,q⟩
theorem Fun.binds {x qual:Str} {st:Stmt} {f:Addr} {fd:FuncData} {ps:List Str} (F:Fun K x qual st f fd)
    (h:∀ (kV doc pm:Value) (an:Option Addr) (cdv ct:Value) (us:List Value),us.length=ps.length→bindArgs (PySem.W.fnOf x qual (defArgs st) (defBody st) (defScope st) .none kV doc pm an cdv ct) ⟨us,[]⟩=pure (ps.zip us)):Binds K fd ps []:=by
  obtain ⟨oc,od,kV,doc,pm,an,cdv,ct,osl,rfl,lk,hcd⟩:=F.ex
  exact .all (h kV doc pm an cdv ct)
theorem fun_mk {x qual:Str} {st:Stmt} {f:Addr} {oc:Value} {od an:Option Addr} {osl:Array (Option Value)} {kV doc pm cdv ct:Value} (l:K.lookup f=some ⟨oc,od,.func (PySem.W.fnOf x qual (defArgs st) (defBody st) (defScope st) .none kV doc pm an cdv ct),osl⟩)
    (c:PySem.W.codeIn K cdv qual=true) (k:PySem.W.keepIn K (.ref f)=true):Fun K x qual st f (PySem.W.fnOf x qual (defArgs st) (defBody st) (defScope st) .none kV doc pm an cdv ct):=⟨⟨oc,od,kV,doc,pm,an,cdv,ct,osl,rfl,l,c⟩,k⟩
end
theorem hu_of {A:Around} {k:Nat} (hr:Room k A):A.units+1 < cLine:=Nat.lt_of_le_of_lt (Nat.add_le_add_left (by decide:1≤64) _) hr.units
theorem small1000 {n:Nat} (h:n≤1000):n < sizeLine:=Nat.lt_of_le_of_lt h (by decide)
section
variable {X:Cx}
theorem pv (i:Nat) {x:Str} {pos:Pos} (hN:X.N[i]?=some x:=by rfl) (hv:Vis X.env.scope x:=by first | exact Or.inl rfl | exact Or.inr (Or.inl rfl) | exact Or.inr (Or.inr rfl)) (hd:(x == ("__debug__" : Str))=false:=by decide)
    (hcd:(x == ("__classdict__" : Str))=false:=by decide):PE X (.Name x pos) (tVar i):=pe_var hN hv hd hcd
end
theorem iteF {A B:Prop} (h:B):if false=true then A else B:=by
  rw [if_neg Bool.false_ne_true]
  exact h
theorem iteT {A B:Prop} (h:A):if true=true then A else B:=by
  rw [if_pos rfl]
  exact h
theorem ite2 {c A B:Prop} [Decidable c] (h1:c→A) (h2:¬ c→B):if c then A else B:=by
  by_cases h:c
  · rw [if_pos h]
    exact h1 h
  · rw [if_neg h]
    exact h2 h
def Same (H H':Hp):Prop:=∀ b o,H b=some o→H' b=some o
theorem Same.refl (H:Hp):Same H H:=fun _ _ h=>h
theorem Same.trans {H H1 H2:Hp} (a:Same H H1) (b:Same H1 H2):Same H H2:=fun c o h=>b c o (a c o h)
theorem Same.free {H H':Hp} (e:Same H H') {l:Addr} (h:H' l=Option.none):H l=Option.none:=by
  cases q:H l with
  | none=>rfl
  | some o=>
    rw [e l o q] at h
    cases h
theorem Same.seq {K:PySem.W.Frag} {H H':Hp} {a:Addr} {xs:List V} (e:Same H H') (h:SqL K H a xs):SqL K H' a xs:=by
  rcases h with (h | ⟨o,h⟩) | h
  · exact .inl (.inl (e _ _ h))
  · exact .inl (.inr ⟨o,e _ _ h⟩)
  · exact .inr h
end L2
set_option maxHeartbeats 16000000
namespace L2
open PySem PySem.Spec PyProof.Rows
theorem lookup_mem {α:Type}:∀ {cl:List (Str × α)} {x:Str} {c:α},cl.lookup x=some c→(x,c)∈cl
  | [],_,_,h=>by simp at h
  | (y,d) :: r,x,c,h=>by
    rw [List.lookup_cons] at h
    cases e:x == y with
    | true=>
      rw [e] at h
      have e':x=y:=eq_of_beq e
      cases h
      rw [e'];exact List.mem_cons_self
    | false=>
      rw [e] at h
      exact List.mem_cons_of_mem _ (lookup_mem h)
theorem lookup_of_mem {α:Type}:∀ {cl:List (Str × α)} {x:Str} {c:α},(x,c)∈cl→∃ c',cl.lookup x=some c'
  | [],_,_,h=>nomatch h
  | (y,d) :: r,x,c,h=>by
    rw [List.lookup_cons]
    cases e:x == y with
    | true=>exact ⟨d,rfl⟩
    | false=>
      rcases List.mem_cons.mp h with h | h
      · cases h
        simp at e
      · exact lookup_of_mem h
theorem closure_go {env:Env} {f:(Str × NameKind)→List (Str × Addr)→Sem (ForInStep (List (Str × Addr)))}
    (h1:∀ x k cs,k≠NameKind.free→f (x,k) cs=pure (.yield cs)) (h2:∀ x cs c,env.cells.lookup x=some c→f (x,NameKind.free) cs=pure (.yield ((x,c) :: cs))) :
    ∀ (names:List (Str × NameKind)) (acc:List (Str × Addr)),(∀ x,(x,NameKind.free)∈names→∃ c,env.cells.lookup x=some c) →
      ∃ cl,forIn names acc f=pure cl∧(∀ p∈cl,p∈acc∨env.cells.lookup p.1=some p.2)∧(∀ p∈acc,p∈cl)∧∀ x,(x,NameKind.free)∈names→∃ c,(x,c)∈cl
  | [],acc,_=>⟨acc,rfl,fun _ h=>.inl h,fun _ h=>h,fun _ h=>nomatch h⟩
  | (x,k) :: r,acc,h=>by
    by_cases hk:k=NameKind.free
    · subst hk
      obtain ⟨c,hc⟩:=h x List.mem_cons_self
      obtain ⟨cl,e,a,b,d⟩:=closure_go h1 h2 r ((x,c) :: acc) fun y hy=>h y (List.mem_cons_of_mem _ hy)
      refine ⟨cl,?_,fun p hp=>?_,fun p hp=>b p (List.mem_cons_of_mem _ hp),fun y hy=>?_⟩
      · rw [List.forIn_cons,h2 x acc c hc,pure_bind];exact e
      · rcases a p hp with q | q
        · rcases List.mem_cons.mp q with q | q
          · subst q;exact .inr hc
          · exact .inl q
        · exact .inr q
      · rcases List.mem_cons.mp hy with q | q
        · cases q;exact ⟨c,b _ List.mem_cons_self⟩
        · exact d y q
    · obtain ⟨cl,e,a,b,d⟩:=closure_go h1 h2 r acc fun y hy=>h y (List.mem_cons_of_mem _ hy)
      refine ⟨cl,?_,a,b,fun y hy=>?_⟩
      · rw [List.forIn_cons,h1 x k acc hk,pure_bind];exact e
      · rcases List.mem_cons.mp hy with q | q
        · cases q;exact absurd rfl hk
        · exact d y q
theorem closure_ok {scope:Scope} {env:Env} (h:∀ x,(x,NameKind.free)∈scope.names→∃ c,env.cells.lookup x=some c) :
    ∃ cl,closureFor scope env=pure cl∧(∀ x c,cl.lookup x=some c→env.cells.lookup x=some c)∧∀ x,(x,NameKind.free)∈scope.names→∃ c,cl.lookup x=some c:=by
  have go:=closure_go (env:=env) (f:=fun x cs=>match x with | (name,kind)=>if (kind == NameKind.free)=true then do let a ← cellOf env name;pure (.yield ((name,a) :: cs)) else pure (.yield cs))
    (fun x k cs hk=>by
      have:(k == NameKind.free)=false:=by simpa using hk
      simp only [this,Bool.false_eq_true,if_false])
    (fun x cs c hc=>by
      simp only [beq_self_eq_true,if_true]
      unfold cellOf
      rw [hc,pure_bind])
    scope.names [] h
  obtain ⟨cl,e,a,_,d⟩:=go
  refine ⟨cl,?_,fun x c hx=>?_,fun x hx=>?_⟩
  · unfold closureFor
    simp only [bind_pure]
    exact e
  · rcases a _ (lookup_mem hx) with q | q
    · exact nomatch q
    · exact q
  · obtain ⟨c,hc⟩:=d x hx
    exact lookup_of_mem hc
theorem relabel_lookup {env:Env} {x:Str} {k:NameKind}:∀ {names:List (Str × NameKind)},
    (names.map fun (n,k)=>if (k == NameKind.free && env.scope.kind == .function && env.kindOf n == some .cell) then (n,NameKind.cell) else (n,k)).lookup x=some k →
      names.lookup x=some k∨(k=.cell∧names.lookup x=some .free)
  | [],h=>by simp at h
  | (n,j) :: r,h=>by
    have ih:=@relabel_lookup env x k r
    rw [List.lookup_cons]
    change List.lookup x ((if (j == NameKind.free && env.scope.kind == .function && env.kindOf n == some .cell)=true then (n,NameKind.cell) else (n,j)) :: _)=_ at h
    by_cases hc:(j == NameKind.free && env.scope.kind == .function && env.kindOf n == some .cell)=true
    · rw [if_pos hc,List.lookup_cons] at h
      have hj:j=NameKind.free:=by
        simp only [Bool.and_eq_true] at hc
        exact eq_of_beq hc.1.1
      cases hx:x == n with
      | true=>rw [hx] at h;cases h;exact .inr ⟨rfl,by rw [hj]⟩
      | false=>rw [hx] at h;exact ih h
    · rw [if_neg hc,List.lookup_cons] at h
      cases hx:x == n with
      | true=>rw [hx] at h;exact .inl h
      | false=>rw [hx] at h;exact ih h
def cxComp (X:Cx) (scope:Scope) (NL:List Str) (ix:List Nat) (cl:List (Str × Addr)) (C:Addr) (s₃:Shared) (H₃:Hp) (fp:List Addr) (pins:List (Addr × Obj)):Cx where
  prog:=X.prog
  w:=X.w
  K:=X.K
  mg:=X.mg
  base:=X.base
  A:=X.A
  N:=NL++ix.map fun j=>X.N.getD j ""
  s₀:=s₃
  H₀:=H₃
  env:=compEnvC scope cl C X.env
  outer:=X.stack
  stack:=X.stack
  ex:=fp
  fn:=fun _=>false
  calm:=X.calm
  pn:=X.pn++pins
  xe:=fun _ _=>False
def comp0 (NL:List Str) (ix:List Nat) (σ:St):St:=NL.map (fun _=>none)++ix.map fun j=>σ.getD j none
def PIfs (X:Cx) (ifs:List Expr) (t:TT):Prop:=
  ∀ (pins:List (Addr × Obj)) (s:Shared) (σ:St) (H:Hp) (Q:Bool→Hp→Prop),Inv X pins σ H s→t σ H Q →
    wpAny (model X.prog X.w) X.A (forIn ifs true fun c r=>if r=true then do let ok ← isTrue c X.env (eval c X.env);pure (ForInStep.yield ok) else pure (ForInStep.yield r)) (TP X pins σ Q) X.xe s
def tYes:TT:=fun _ H Q=>Q true H
theorem pifs_nil {X:Cx}:PIfs X [] tYes:=fun _ _ _ H _ I h=>wpAny_tests_nil ⟨H,I,h⟩
def tComp (NL:List Str) (ix:List Nat) (wi:TI) (g:TG) (tt:TT) (te:TE):TE:=fun σ H Q=>
  wi σ H fun J H1=>∀ acc,H1 acc=none→∃ W:Nat→Nat→List V→Hp→Prop,(∃ m,W 0 m [] (upd H1 acc (.lst []))) ∧
    ∀ i m ys H2,W i m ys H2→H2 acc=some (.lst ys)∧ys.length < sizeLine ∧
      ((J.stop i H2∧Q (.ref acc) H2)∨(J.go i H2∧∃ N:List V→Hp→Prop,(∀ ys' H',N ys' H'→∃ m',m' < m∧W (i+1) m' ys' H') ∧
        ∀ x H3,J.yld i H2 x H3→g x (comp0 NL ix σ) H3 fun σ' H4=>σ'.drop NL.length=ix.map (fun j=>σ.getD j none)∧tt σ' H4 fun b H5=>
          if b=true then te σ' H5 fun v H6=>H6 acc=some (.lst ys)∧N (ys++[v]) (upd H6 acc (.lst (ys++[v]))) else N ys H5))
section
variable {X:Cx} {pins:List (Addr × Obj)} {σ:St} {H:Hp} {s:Shared}
structure CompScope (X:Cx) (scope:Scope) (NL:List Str) (ix:List Nat):Prop where
  kind:scope.kind=.function
  cell:∀ y∈scope.names,y.2≠.cell
  names:∀ y∈scope.names,y.2=.local→scope.names.lookup y.1=some .local
  free:∀ y∈scope.names,y.2=.free→X.env.kindOf y.1=some .cell∨X.env.kindOf y.1=some .free
  cap:∀ j∈ix,∃ x,X.N[j]?=some x∧scope.names.lookup x=some .free
theorem comp_inv {scope:Scope} {NL:List Str} {ix:List Nat} {cl:List (Str × Addr)} {fp:List Addr} {tn:Nat→Heap→Prop} {s₃:Shared} {h₁:Heap} {m:Str→Option Value} {tk:Nat}
    (S:CompScope X scope NL ix) (I:Inv X pins σ H s₃) (c1:∀ x c,cl.lookup x=some c→X.env.cells.lookup x=some c) (c2:∀ x,(x,NameKind.free)∈scope.names→∃ c,cl.lookup x=some c)
    (hf:∀ b∈fp,FpOk X pins H b) (ho:∀ b∈fp,∃ o,s₃.heap.get? b=some o) (hn:h₁.Ns s₃.heap.objs.size m) (old:∀ b o,s₃.heap.get? b=some o→h₁.get? b=some o) :
    Inv (cxComp X scope NL ix cl s₃.heap.objs.size s₃ H fp pins) [] (comp0 NL ix σ) H { s₃ with heap:=h₁,toks:=tk }:=by
  have e0:=I.env0
  have lt:∀ b o,s₃.heap.get? b=some o→b≠s₃.heap.objs.size:=fun b o e=>Nat.ne_of_lt (Heap.lt_size e)
  have nst:∀ b,b≠X.env.locals→b ∉ X.fs→b ∉ frs X.stack:=fun b h1 h2 h3=>(List.mem_cons.mp (I.stkSub b h3)).elim h1 h2
  have ok:(cxComp X scope NL ix cl s₃.heap.objs.size s₃ H fp pins).Ok:=
    { mod:=I.ok.mod
      kind:=S.kind
      glob:=I.ok.glob
      blt:=I.ok.blt
      above:=Nat.le_refl _
      inj:=fun x y c h1 h2=>I.ok.inj x y c (c1 x c h1) (c1 y c h2)
      has:=fun x hx=>by
        have hfree:scope.names.lookup x=some .free:=by
          rcases hx with hx | hx
          · rcases relabel_lookup hx with q | ⟨_,q⟩
            · exact absurd rfl (S.cell _ (lookup_mem q))
            · exact q
          · rcases relabel_lookup hx with q | ⟨z,_⟩
            · exact q
            · cases z
        exact c2 x (lookup_mem hfree)
      cab:=fun _ _ z=>nomatch z
      hd:=I.ok.hd
      frames:=I.ok.frames
      stk:=.inl rfl
      exf:=fun b hb=>⟨let ⟨o,e⟩:=ho b hb;lt b o e,fun x c hx=>(hf b hb).2.2.2.2.1 x c (c1 x c hx)⟩
      bs:=I.bs
      bsz:=e0.bsz
      noex:=fun b o e hb=>by
        rcases (hf b hb).2.2.2.1 with z | z
        · exact I.ok.noex b o e z
        · exact absurd (Nat.lt_of_lt_of_le (Heap.lt_size e) (Nat.le_trans I.ok.bsz z)) (Nat.lt_irrefl _)
      exfs:=fun b hb=>nst b (hf b hb).2.1 (hf b hb).2.2.1
      funs:=e0.funs
      frf:=e0.frf }
  refine ⟨ok,rfl,I.bare,Un.kept old,⟨m,hn,fun i x v e1 e2 e3=>?_⟩,fun x c e=>?_,I.hok.fresh (Nat.le_refl _),fun x c e=>I.freeC x c (c1 x c e),fun p hp=>?_,I.hok.kept old,?_⟩
  · have hl:NL.length≤i:=by
      rcases Nat.lt_or_ge i NL.length with z | z
      · exfalso
        unfold comp0 at e2
        rw [List.getElem?_append_left (by simpa using z),List.getElem?_map] at e2
        cases q:NL[i]? with
        | none=>rw [q] at e2;cases e2
        | some y=>rw [q] at e2;cases e2
      · exact z
    unfold comp0 at e2
    rw [List.getElem?_append_right (by simpa using hl),List.length_map,List.getElem?_map] at e2
    change (NL++ix.map fun j=>X.N.getD j "")[i]?=some x at e1
    rw [List.getElem?_append_right hl,List.getElem?_map] at e1
    cases q:ix[i - NL.length]? with
    | none=>rw [q] at e1;cases e1
    | some j=>
      rw [q] at e1 e2
      have e1':X.N.getD j "" = x:=Option.some.inj e1
      have e2':σ.getD j none=some v:=Option.some.inj e2
      obtain ⟨x',hx',hfr⟩:=S.cap j (List.mem_of_getElem? q)
      have exx:x'=x:=by
        rw [← e1',List.getD_eq_getElem?_getD,hx'];rfl
      subst exx
      have hσ:σ[j]?=some (some v):=by
        rw [List.getD_eq_getElem?_getD] at e2'
        cases z:σ[j]? with
        | none=>rw [z] at e2';cases e2'
        | some o=>rw [z] at e2';exact congrArg some e2'
      have kd:=S.free _ (lookup_mem hfr) rfl
      have vis:Vis X.env.scope x':=by
        rcases kd with z | z
        · exact .inr (.inl z)
        · exact .inr (.inr z)
      obtain ⟨m',hn',hl'⟩:=I.loc
      obtain ⟨u,r,l⟩:=hl' j x' v hx' hσ vis
      refine ⟨u,r,.inr ?_⟩
      have hk':(compEnvC scope cl s₃.heap.objs.size X.env).kindOf x'=some .cell∨(compEnvC scope cl s₃.heap.objs.size X.env).kindOf x'=some .free:=by
        rcases e3 with z | z | z
        · rcases relabel_lookup z with w | ⟨w,_⟩
          · rw [hfr] at w;cases w
          · cases w
        · exact .inl z
        · exact .inr z
      refine ⟨hk',?_⟩
      obtain ⟨c,hc⟩:=c2 x' (lookup_mem hfr)
      rcases l with ⟨k,_⟩ | ⟨k,c',ec,o,ho',hd⟩
      · rcases kd with z | z
        · rw [k] at z;cases z
        · rw [k] at z;cases z
      · have:c'=c:=by
          have:=c1 x' c hc
          rw [ec] at this
          exact Option.some.inj this
        subst this
        exact ⟨c',hc,o,old _ _ ho',hd⟩
  · obtain ⟨v,o,ho',hd⟩:=I.cell x c (c1 x c e)
    exact ⟨v,o,old _ _ ho',hd⟩
  · have hp':p∈X.pn++pins:=by
      rcases List.mem_append.mp hp with z | z
      · exact z
      · exact nomatch z
    obtain ⟨e,n,ne,nf,d⟩:=I.pin p hp'
    exact ⟨old _ _ e,n,lt _ _ e,nst _ ne nf,d⟩
  · show (NL.map (fun _=>(none:Option V))++ix.map fun j=>σ.getD j none).length=(NL++ix.map fun j=>X.N.getD j "").length
    simp
theorem comp_run {scope:Scope} {NL:List Str} {ix:List Nat} {elt tg iter:Expr} {ifs:List Expr} {pos:Pos} {g:TG} {tt:TT} {te:TE} {cl:List (Str × Addr)} {fp:List Addr} {it:Addr} {tn:Nat→Heap→Prop} {J:It} {Q:VK}
    {E:Value→Shared→Prop} {RR:Value→Addr→Result→Shared→Prop}
    (hc:X.calm=true) (S:CompScope X scope NL ix) (c1:∀ x c,cl.lookup x=some c→X.env.cells.lookup x=some c) (c2:∀ x,(x,NameKind.free)∈scope.names→∃ c,cl.lookup x=some c)
    (hb:∀ (cl:List (Str × Addr)) (C:Addr) (s₃:Shared) (H₃:Hp) (fp:List Addr) (pins:List (Addr × Obj)),PG (cxComp X scope NL ix cl C s₃ H₃ fp pins) tg g∧PIfs (cxComp X scope NL ix cl C s₃ H₃ fp pins) ifs tt∧PE (cxComp X scope NL ix cl C s₃ H₃ fp pins) elt te)
    (I:Inv X pins σ H s) (T:Turn X.prog X.w X.K tg J fp it tn) (st:tn 0 s.heap) (hf:∀ b∈fp,FpOk X pins H b)
    (q:∀ acc,H acc=none→∃ W:Nat→Nat→List V→Hp→Prop,(∃ m,W 0 m [] (upd H acc (.lst []))) ∧
      ∀ i m ys H2,W i m ys H2→H2 acc=some (.lst ys)∧ys.length < sizeLine ∧
      ((J.stop i H2∧Q (.ref acc) H2)∨(J.go i H2∧∃ N:List V→Hp→Prop,(∀ ys' H',N ys' H'→∃ m',m' < m∧W (i+1) m' ys' H') ∧
        ∀ x H3,J.yld i H2 x H3→g x (comp0 NL ix σ) H3 fun σ' H4=>σ'.drop NL.length=ix.map (fun j=>σ.getD j none)∧tt σ' H4 fun b H5=>
          if b=true then te σ' H5 fun v H6=>H6 acc=some (.lst ys)∧N (ys++[v]) (upd H6 acc (.lst (ys++[v]))) else N ys H5)))
    (hRR:∀ (acc C:Addr) (H':Hp) (s':Shared) (m':Str→Option Value),Inv X pins σ H' s'→s'.heap.Ns C m'→FpOk X pins H' C→Q (.ref acc) H'→RR (.ref acc) C (.ok .next) s') :
    wpAny (model X.prog X.w) X.A (newList []) (fun acc s₃=>wpAny (model X.prog X.w) X.A (newFunctionEnv scope X.env.globals cl [] X.env.qual none .none (some X.env)) (fun cenv s₄=>
      codeAny (model X.prog X.w) X.A (.compStart (.ListComp elt [⟨tg,iter,ifs,0⟩] scope pos) 0 (.ref it) acc { cenv with scope:=relabel scope X.env }) (RR acc cenv.locals) s₄) E s₃) E s:=by
  refine wpAny_newObj_type (wpAny_newFunctionEnv S.cell (by intro y hy;simp at hy) (fun h₁ hns₁ hsb₁=>?_) S.kind)
  have I3:Inv X pins σ (upd H s.heap.objs.size (.lst [])) { s with heap:=s.heap.push { cls:=.type "list", data:=.seq ([]:List Value).toArray },toks:=s.toks }:=I.lnew (its:=[]) .nil (Nat.zero_le _)
  have hfr:H s.heap.objs.size=none:=I.hok.fresh (Nat.le_refl _)
  generalize hs3:({ s with heap:=s.heap.push { cls:=.type "list", data:=.seq ([]:List Value).toArray },toks:=s.toks }:Shared)=s₃ at I3
  have hsz:s₃.heap.objs.size=s.heap.objs.size+1:=by rw [← hs3];exact Heap.size_push ..
  have old1:∀ b o,s.heap.get? b=some o→s₃.heap.get? b=some o:=fun b o e=>by rw [← hs3];exact Heap.get?_push_of_some _ e
  have key:codeAny (model X.prog X.w) X.A (.compStart (.ListComp elt [⟨tg,iter,ifs,0⟩] scope pos) 0 (.ref it) (.ref s.heap.objs.size) (compEnvC scope cl s₃.heap.objs.size X.env))
      (RR (.ref s.heap.objs.size) s₃.heap.objs.size) { s₃ with heap:=h₁,toks:=s₃.toks+0 }:=by
    have hns:h₁.Ns s₃.heap.objs.size (fun _=>none):=by
      have:=hns₁
      rw [← hs3]
      exact this
    have hsb:Heap.SameBut s₃.heap.objs.size (s₃.heap.push { cls:=.type "dict", data:=.dict #[] }) h₁:=by
      have:=hsb₁
      rw [← hs3]
      exact this
    have old:∀ b o,s₃.heap.get? b=some o→h₁.get? b=some o:=fun b o e=>hsb.extBut b o (Nat.ne_of_lt (Heap.lt_size e)) (Heap.get?_push_of_some _ e)
    have hf3:∀ b∈fp,FpOk X pins (upd H s.heap.objs.size (.lst [])) b:=fun b hb'=>by
      obtain ⟨o,e,_⟩:=T.obj 0 _ st b hb'
      have ne:b≠s.heap.objs.size:=Nat.ne_of_lt (Heap.lt_size e)
      exact ⟨by rw [upd_ne ne];exact (hf b hb').1,(hf b hb').2⟩
    have ho3:∀ b∈fp,∃ o,s₃.heap.get? b=some o:=fun b hb'=>by
      obtain ⟨o,e,_⟩:=T.obj 0 _ st b hb'
      exact ⟨o,old1 b o e⟩
    have st1:tn 0 h₁:=T.keep 0 _ _ st fun b hb' o e=>old b o (old1 b o e)
    have I4:=comp_inv (tn:=tn) (tk:=s₃.toks+0) S I3 c1 c2 hf3 ho3 hns old
    obtain ⟨W,⟨m0,w0⟩,turn⟩:=q s.heap.objs.size hfr
    obtain ⟨hg,ht,he⟩:=hb cl s₃.heap.objs.size s₃ (upd H s.heap.objs.size (.lst [])) fp pins
    generalize hX':cxComp X scope NL ix cl s₃.heap.objs.size s₃ (upd H s.heap.objs.size (.lst [])) fp pins=X' at I4 hg ht he
    have p1:X'.prog=X.prog:=by rw [← hX'];rfl
    have p2:X'.w=X.w:=by rw [← hX'];rfl
    have p3:X'.K=X.K:=by rw [← hX'];rfl
    have p4:X'.A=X.A:=by rw [← hX'];rfl
    have p5:X'.env=compEnvC scope cl s₃.heap.objs.size X.env:=by rw [← hX'];rfl
    have p6:X'.calm=true:=by rw [← hX'];exact hc
    have p7:X'.xe=fun _ _=>False:=by rw [← hX'];rfl
    have stat:∀ {H':Hp},(∀ b∈fp,H' b=none)→∀ b∈fp,FpOk X' [] H' b:=fun {H'} hn b hb'=>by
      have z:=hf3 b hb'
      obtain ⟨o,eo⟩:=ho3 b hb'
      rw [← hX']
      refine ⟨hn b hb',Nat.ne_of_lt (Heap.lt_size eo),fun q=>(List.mem_cons.mp (I3.stkSub b q)).elim z.2.1 z.2.2.1,.inl hb',fun x c hx=>z.2.2.2.2.1 x c (c1 x c hx),fun p hp=>?_⟩
      rcases List.mem_append.mp hp with w | w
      · exact z.2.2.2.2.2 p w
      · exact nomatch w
    have fin:∀ i n ys H' s',Inv X' [] (comp0 NL ix σ) H' s'→W i n ys H'→Q (.ref s.heap.objs.size) H'→RR (.ref s.heap.objs.size) s₃.heap.objs.size (.ok .next) s':=fun i n ys H' s' I' w' q'=>by
      obtain ⟨m',hn',_⟩:=I'.loc
      have hos:s'.os=s₃.os:=by have:=I'.os;rw [← hX'] at this;exact this
      have hu:Un (frs X.stack) fp (upd H s.heap.objs.size (.lst [])) H' s₃.heap s'.heap:=by have:=I'.base;rw [← hX'] at this;exact this
      have hk:HOk X.prog X.w H' s'.heap:=by have:=I'.hok;rw [← hX'] at this;exact this
      have hfC:H' s₃.heap.objs.size=none:=by have:=I'.free;rw [← hX'] at this;exact this
      have hnC:s'.heap.Ns s₃.heap.objs.size m':=by rw [p5] at hn';exact hn'
      exact hRR _ _ H' s' m' (I3.call' hos hu hk I'.bare fun b hb'=>⟨(hf3 b hb').2.2.2.1,(hf3 b hb').2.1,(hf3 b hb').2.2.2.2.1,(hf3 b hb').2.2.2.2.2⟩) hnC (I3.fpOk (Nat.le_refl _) hfC) q'
    have loop:∀ s₄:Shared,Inv X' [] (comp0 NL ix σ) (upd H s.heap.objs.size (.lst [])) s₄→tn 0 s₄.heap→codeAny (model X.prog X.w) X.A (.compLoop (.ListComp elt [⟨tg,iter,ifs,0⟩] scope pos) 0 (.ref it) (.ref s.heap.objs.size) (compEnvC scope cl s₃.heap.objs.size X.env))
        (RR (.ref s.heap.objs.size) s₃.heap.objs.size) s₄:=fun s₄ I4 st1=>by
      refine codeAny_loop rfl (fun n s'=>∃ i ys H',Inv X' [] (comp0 NL ix σ) H' s'∧tn i s'.heap∧(∀ b∈fp,H' b=none)∧W i n ys H') (fun n s' hI=>?_) m0 ⟨0,[],_,I4,st1,fun b hb'=>(hf3 b hb').1,w0⟩
      obtain ⟨i,ys,H',I',st',fr',w'⟩:=hI
      show wpAny _ X.A ((compTurn (.ListComp elt [⟨tg,iter,ifs,0⟩] scope pos) 0 (.ref it) (.ref s.heap.objs.size) (compEnvC scope cl s₃.heap.objs.size X.env)).onRaise (fun x=>do noteFrame x (compEnvC scope cl s₃.heap.objs.size X.env);theTreesLotGoes x)) _ _ s'
      refine wpAny_noted ?_
      rw [compTurn_list]
      obtain ⟨hacc,hz8,alt⟩:=turn i n ys H' w'
      rcases alt with ⟨stop,qn⟩ | ⟨go,N,hN,step⟩
      · have d:=T.done X' p1 p2 p3 p6 i [] s' (comp0 NL ix σ) H' (notedBy (model X.prog X.w) X.A (compEnvC scope cl s₃.heap.objs.size X.env) fun e s'=>RR (.ref s.heap.objs.size) s₃.heap.objs.size (.error e) s') I' (stat fr') st' stop
        rw [p4] at d
        refine wpAny_bind (wpAny_standAt (wpAny_bind (thn d fun r s1 ⟨hr,I1⟩=>?_)))
        subst hr
        exact wpAny_pure (fin i n ys H' s1 I1 w' qn)
      · have d:=T.item X' p1 p2 p3 p6 i [] s' (comp0 NL ix σ) H' (notedBy (model X.prog X.w) X.A (compEnvC scope cl s₃.heap.objs.size X.env) fun e s'=>RR (.ref s.heap.objs.size) s₃.heap.objs.size (.error e) s') I' (stat fr') st' go
        rw [p4] at d
        refine wpAny_bind (wpAny_standAt (wpAny_bind (thn d fun r s1 ⟨u,hr,h4⟩=>?_)))
        subst hr
        refine wpAny_bind (thn h4 fun _ s5 ⟨x,H5,I5,r5,y5,st5,fr5⟩=>?_)
        have I5':=I5.pinned (stat fr5) (T.obj _ _ st5)
        have nofail:∀ {α:Type} {t:Sem α} {R:α→Shared→Prop} {sx:Shared},wpAny (model X'.prog X'.w) X'.A t R X'.xe sx→wpAny (model X.prog X.w) X.A t R (notedBy (model X.prog X.w) X.A (compEnvC scope cl s₃.heap.objs.size X.env) fun e s'=>RR (.ref s.heap.objs.size) s₃.heap.objs.size (.error e) s') sx:=fun {α t R sx} hh=>by
          rw [p1,p2,p4,p7] at hh
          exact wpAny_mono hh (fun _ _ z=>z) fun _ _ z=>z.elim
        have again:∀ {σ7:St} {H7:Hp} {s7:Shared} {ys':List V},σ7.drop NL.length=ix.map (fun j=>σ.getD j none)→Inv X' ([]++pinsAt fp s5.heap) σ7 H7 s7→(∃ m',m' < n∧W (i+1) m' ys' H7)→∃ m,m < n∧∃ i ys H',Inv X' [] (comp0 NL ix σ) H' s7∧tn i s7.heap∧(∀ b∈fp,H' b=none)∧W i m ys H':=fun {σ7 H7 s7 ys'} hσ I7 n7=>by
          obtain ⟨m',hm,w7⟩:=n7
          have Iw:Inv X' ([]++pinsAt fp s5.heap) (comp0 NL ix σ) H7 s7:=I7.weak (by rw [I7.len,I'.len]) fun j v hj=>by
            have hlj:NL.length≤j:=by
              rcases Nat.lt_or_ge j NL.length with z | z
              · exfalso
                unfold comp0 at hj
                rw [List.getElem?_append_left (by simpa using z),List.getElem?_map] at hj
                cases q:NL[j]? with
                | none=>rw [q] at hj;cases hj
                | some y=>rw [q] at hj;cases hj
              · exact z
            unfold comp0 at hj
            rw [List.getElem?_append_right (by simpa using hlj),List.length_map,← hσ,List.getElem?_drop] at hj
            rw [← hj]
            congr 1
            omega
          refine ⟨m',hm,i+1,ys',H7,Iw.unpinned,T.keep _ _ _ st5 fun b hb' o e=>(I7.pin (b,o) (List.mem_append_right _ (List.mem_append_right _ (mem_pinsAt hb' e)))).1,fun b hb'=>?_,w7⟩
          obtain ⟨o,e,d⟩:=T.obj _ _ st5 b hb'
          exact (I7.pin (b,o) (List.mem_append_right _ (List.mem_append_right _ (mem_pinsAt hb' e)))).2.1
        have hg':=nofail (hg _ s5 (comp0 NL ix σ) H5 x u _ I5' r5 (step x H5 y5))
        rw [p5] at hg'
        refine wpAny_bind (thn hg' fun _ s6 ⟨σ6,H6,I6,hσ6,q6⟩=>?_)
        have ht':=nofail (ht _ s6 σ6 H6 _ I6 q6)
        rw [p5] at ht'
        refine wpAny_bind (thn ht' fun ok s7 ⟨H7,I7,q7⟩=>?_)
        cases ok with
        | false=>
          have q7':N ys H7:=by simpa using q7
          exact wpAny_pure ⟨rfl,again hσ6 I7 (hN _ _ q7')⟩
        | true=>
          have q7':=(if_pos rfl).mp q7
          have he':=nofail (he _ s7 σ6 H7 _ I7 q7')
          rw [p5] at he'
          refine wpAny_bind (wpAny_bind (thn he' fun v s8 ⟨y,H8,I8,r8,ha8,q8⟩=>?_))
          have ap:=nofail (mt_append _ s8 σ6 H8 (.ref s.heap.objs.size) [y] (.ref s.heap.objs.size) [v] (fun _ H9=>H9=upd H8 s.heap.objs.size (.lst (ys++[y]))) I8 rfl (.cons r8 .nil) ⟨_,ys,y,rfl,rfl,ha8,hz8,rfl⟩)
          refine wpAny_bind (thn ap fun _ s9 ⟨z,H9,I9,r9,e9⟩=>wpAny_pure (wpAny_pure ⟨rfl,?_⟩))
          subst e9
          exact again hσ6 I9 (hN _ _ q8)
    exact codeAny_compStart_list (loop _ I4 st1) (T.self X.A 0 _ _ _ st1 (loop _ I4 st1))
  exact key
theorem pe_comp {scope:Scope} {NL:List Str} {ix:List Nat} {elt tg iter:Expr} {ifs:List Expr} {pos:Pos} {wi:TI} {g:TG} {tt:TT} {te:TE}
    (hc:X.calm=true) (hi:PI X tg iter wi) (S:CompScope X scope NL ix)
    (hb:∀ (cl:List (Str × Addr)) (C:Addr) (s₃:Shared) (H₃:Hp) (fp:List Addr) (pins:List (Addr × Obj)),PG (cxComp X scope NL ix cl C s₃ H₃ fp pins) tg g∧PIfs (cxComp X scope NL ix cl C s₃ H₃ fp pins) ifs tt∧PE (cxComp X scope NL ix cl C s₃ H₃ fp pins) elt te)
    (hs:∀ x,foldedSetIterable iter X.env x=pure x:=by intro _;rfl):PE X (.ListComp elt [⟨tg,iter,ifs,0⟩] scope pos) (tComp NL ix wi g tt te):=by
  intro pins s σ H Q I h
  obtain ⟨cl,hcl,c1,c2⟩:=closure_ok (scope:=scope) (env:=X.env) fun x hx=>by
    rcases S.free _ hx rfl with z | z
    · exact I.ok.has x (.inl z)
    · exact I.ok.has x (.inr z)
  rw [eval_ListComp]
  refine wpAny_comprehension_free (use:=none) rfl hs hcl S.kind S.names (thn (hi pins s σ H _ I h) fun xv s1 h1=>thn h1 fun itv s2 h2=>?_)
  obtain ⟨it,fp,tn,J,H2,rfl,I2,T,st2,f2,q⟩:=h2
  refine comp_run (RR:=fun acc C=>compPost (model X.prog X.w) X.A X.xe none (EP X pins σ Q) acc C) hc S c1 c2 hb I2 T st2 f2 q ?_
  intro acc C H' s' m' I' hn fC q'
  refine ⟨m',hn,fun h' sb=>⟨.ref acc,H',?_,rfl,q'⟩⟩
  exact I'.turned (t':=s'.toks) (fun b o hb e=>sb.extBut b o hb e) fC.1 fC.2.1 fC.2.2.2.1 fC.2.2.2.2.1 fC.2.2.2.2.2
theorem comp_by {J:It} {NL:List Str} {ix:List Nat} {g:TG} {tt:TT} {te:TE} {σ:St} {H1:Hp} {Qs:Hp→Prop} {acc:Addr} (n:Nat) (hn:n < 1000) (Pv:Nat→List V→Hp→Prop)
    (hacc:∀ i ys H2,Pv i ys H2→H2 acc=some (.lst ys)∧ys.length≤i) (h0:Pv 0 [] (upd H1 acc (.lst []))) (hstop:∀ ys H2,Pv n ys H2→J.stop n H2∧Qs H2)
    (hturn:∀ i ys H2,i < n→Pv i ys H2→J.go i H2∧∀ x H3,J.yld i H2 x H3→g x (comp0 NL ix σ) H3 fun σ' H4=>σ'.drop NL.length=ix.map (fun j=>σ.getD j none)∧tt σ' H4 fun b H5=>
      if b=true then te σ' H5 fun v H6=>H6 acc=some (.lst ys)∧Pv (i+1) (ys++[v]) (upd H6 acc (.lst (ys++[v]))) else Pv (i+1) ys H5) :
    ∃ W:Nat→Nat→List V→Hp→Prop,(∃ m,W 0 m [] (upd H1 acc (.lst []))) ∧
    ∀ i m ys H2,W i m ys H2→H2 acc=some (.lst ys)∧ys.length < sizeLine ∧
      ((J.stop i H2∧Qs H2)∨(J.go i H2∧∃ N:List V→Hp→Prop,(∀ ys' H',N ys' H'→∃ m',m' < m∧W (i+1) m' ys' H') ∧
        ∀ x H3,J.yld i H2 x H3→g x (comp0 NL ix σ) H3 fun σ' H4=>σ'.drop NL.length=ix.map (fun j=>σ.getD j none)∧tt σ' H4 fun b H5=>
          if b=true then te σ' H5 fun v H6=>H6 acc=some (.lst ys)∧N (ys++[v]) (upd H6 acc (.lst (ys++[v]))) else N ys H5)):=by
  refine ⟨fun i m ys H2=>i≤n∧m=n - i∧Pv i ys H2,⟨n,Nat.zero_le _,rfl,h0⟩,fun i m ys H2 ⟨hi,hm,hp⟩=>?_⟩
  obtain ⟨a1,a2⟩:=hacc i ys H2 hp
  refine ⟨a1,small1000 (by omega),?_⟩
  rcases Nat.lt_or_ge i n with lt | ge
  · obtain ⟨go,tn⟩:=hturn i ys H2 lt hp
    exact .inr ⟨go,Pv (i+1),fun ys' H' hN=>⟨n - (i+1),by omega,by omega,rfl,hN⟩,tn⟩
  · have e:i=n:=by omega
    subst e
    exact .inl (hstop ys H2 hp)
end
end L2
namespace L2
open PySem PySem.Spec PyProof.Rows
section
variable {prog:Program} {w:World} {A:Around} {E:Value→Shared→Prop} {s:Shared}
theorem nextOf_tuple_item {it t:Addr} {i:Nat} {items:Array Value} {x:Value} {Q:Value→Shared→Prop} (hit:s.heap.IsTupleIter it t i)
    (ht:s.heap.IsTuple t items) (hx:items[i]?=some x)
    (hQ:∀ h',h'.IsTupleIter it t (i+1)→Heap.SameBut it s.heap h'→Q x { s with heap:=h' }) :
    wpAny (model prog w) A (Builtin.SmallTypes.nextOf (.ref it)) Q E s:=by
  obtain ⟨o,ho,hc,hd⟩:=id hit
  obtain ⟨ol,hol,_,nl,hdl⟩:=ht
  unfold Builtin.SmallTypes.nextOf
  refine wpAny_bind (wpAny_callSpecial?_slot (name:=Str.ofString "__next__") hit.typeIs F.slot_tuple_iterator_next
    (wpAny_call_entry F.slot_tuple_iterator_next hit.typeIs F.entry_tuple_iterator_next ?_ (F.args_tuple_iterator_next_1 _)))
  show wpAny _ _ (field (.ref it) 0 >>= _) _ _ s
  refine wpAny_bind (wpAny_field ho hd (x:=.ref t) rfl ?_)
  show wpAny _ _ (if (Value.ref t == Value.none)=true then _ else _) _ _ s
  rw [if_neg (show ¬ ((Value.ref t == Value.none)=true) from Bool.false_ne_true)]
  show wpAny _ _ (field (.ref it) 1 >>= _) _ _ s
  refine wpAny_bind (wpAny_field ho hd (x:=.int i 0) rfl ?_)
  show wpAny _ _ (seqItems? (.ref t) >>= _) _ _ s
  refine wpAny_bind (wpAny_seqItems hol hdl ?_)
  simp only [Int.toNat_natCast,hx]
  refine wpAny_bind (wpAny_setField ho hd (by simp) (wpAny_pure ⟨x,rfl,wpAny_pure (hQ _ ?_ (Heap.SameBut.update ..))⟩))
  exact ⟨_,Heap.get?_update_self _ ho (Obj.isFreed_of_fields (Obj.data_mapFields hd _)),(Obj.cls_mapFields ..).trans hc,by
    rw [Obj.data_mapFields hd];simp [rawInt]⟩
theorem nextOf_tuple_end {it t:Addr} {i:Nat} {items:Array Value} {Q:Value→Shared→Prop} (hh:A.handled=none)
    (hit:s.heap.IsTupleIter it t i) (ht:s.heap.IsTuple t items) (hx:items[i]?=none)
    (hE:∀ h' e,Heap.ExtBut it s.heap h'→(∃ o,h'.get? e=some o∧o.cls=.type "StopIteration")→E (.ref e) { s with heap:=h' }) :
    wpAny (model prog w) A (Builtin.SmallTypes.nextOf (.ref it)) Q E s:=by
  obtain ⟨o,ho,hc,hd⟩:=id hit
  obtain ⟨ol,hol,_,nl,hdl⟩:=ht
  unfold Builtin.SmallTypes.nextOf
  refine wpAny_bind (wpAny_callSpecial?_slot (name:=Str.ofString "__next__") hit.typeIs F.slot_tuple_iterator_next
    (wpAny_call_entry F.slot_tuple_iterator_next hit.typeIs F.entry_tuple_iterator_next ?_ (F.args_tuple_iterator_next_1 _)))
  show wpAny _ _ (field (.ref it) 0 >>= _) _ _ s
  refine wpAny_bind (wpAny_field ho hd (x:=.ref t) rfl ?_)
  show wpAny _ _ (if (Value.ref t == Value.none)=true then _ else _) _ _ s
  rw [if_neg (show ¬ ((Value.ref t == Value.none)=true) from Bool.false_ne_true)]
  show wpAny _ _ (field (.ref it) 1 >>= _) _ _ s
  refine wpAny_bind (wpAny_field ho hd (x:=.int i 0) rfl ?_)
  show wpAny _ _ (seqItems? (.ref t) >>= _) _ _ s
  refine wpAny_bind (wpAny_seqItems hol hdl ?_)
  simp only [Int.toNat_natCast,hx]
  refine wpAny_bind (wpAny_rule (wpAny_bind (wpAny_setField ho hd (by simp) ?_)))
  show wpAny _ _ (newExc (.type "StopIteration") [] >>= _) _ _ _
  refine wpAny_bind ?_
  simp only [newExc,newTuple]
  refine wpAny_bind (wpAny_newObj_type ?_ (by size_fits))
  refine wpAny_bind (m:=firstArgMember _ _) (wpAny_of_eq (a:=Value.none) (by first | rfl | (simp only [firstArgMember];rfl)) ?_)
  refine wpAny_newObj_type ?_ (by size_fits)
  simp only [raiseNew]
  refine wpAny_bind (wpAny_handled ?_)
  first | rw [show A.in1.handled=none from hh] | rw [hh]
  refine wpAny_bind (wpAny_pure (wpAny_throw ?_))
  exact hE _ _ (((Heap.SameBut.update ..).extBut.push _).push _) ⟨_,Heap.get?_push_size _ rfl,rfl⟩
end
theorem draws_tuple {prog:Program} {w:World} {A:Around} (hh:A.handled=none) (it l:Addr) (hne:l≠it) (items:Array Value) :
    Draws prog w A it [it,l] items.size (fun i v=>items[i]?=some v) (fun i h=>h.IsTupleIter it l i∧h.IsTuple l items) where
  live:=fun _ _ st=>let ⟨o,ho,_⟩:=st.1;⟨o,ho⟩
  frame:=fun _ _ _ st hk=>⟨st.1.at fun o e=>hk it (by simp) o e,let ⟨o,ho,r⟩:=st.2;⟨o,hk l (by simp) o ho,r⟩⟩
  item:=fun i s Q E hi st hQ=>by
    refine nextOf_tuple_item st.1 st.2 (x:=items[i]) (by simp [hi]) fun h' hit' hs'=>?_
    exact hQ _ h' s.toks (by simp [hi]) ⟨hit',st.2.extBut hs'.extBut hne⟩ hs'
  done:=fun s Q E st hE=>nextOf_tuple_end hh st.1 st.2 (by simp) hE
theorem draws_str {prog:Program} {w:World} {A:Around} (hh:A.handled=none) (it:Addr) (x:Str) (t:Tok) :
    Draws prog w A it [it] x.cps.size (fun i v=>∃ c u,x.cps[i]?=some c∧v=.str ⟨#[c]⟩ u) (fun i h=>h.IsStrIter it (strIterType x) x t i):=by
  unfold strIterType
  cases x.cps.all (· < 128) with
  | true=>exact Draws.strAscii hh it x t
  | false=>exact Draws.strWide hh it x t
inductive SK where
  | lst (a:Addr) | tup (a:Addr) | str (x:Str)
def SK.val:SK→V
  | .lst a=>.ref a
  | .tup a=>.ref a
  | .str x=>.str x
def signs (x:Str):List V:=x.cps.toList.map fun c=>.str ⟨#[c]⟩
def SK.has (H:Hp):SK→List V→Prop
  | .lst a,xs=>Rd H a (.lst xs)
  | .tup a,xs=>Rd H a (.tup xs)
  | .str x,xs=>xs=signs x
def SK.own (it:Addr) (k:Nat) (h:Heap):SK→Prop
  | .lst a=>h.IsListIter it a k
  | .tup a=>h.IsTupleIter it a k
  | .str x=>∃ t,h.IsStrIter it (strIterType x) x t k
theorem SK.own_at {it:Addr} {k:Nat} {h h':Heap} {κ:SK} (x:κ.own it k h) (e:∀ o,h.get? it=some o→h'.get? it=some o):κ.own it k h':=by
  cases κ with
  | lst a=>exact Heap.IsListIter.at x e
  | tup a=>exact Heap.IsTupleIter.at x e
  | str y=>obtain ⟨t,o,ho,r⟩:=x;exact ⟨t,o,e o ho,r⟩
theorem SK.own_obj {it:Addr} {k:Nat} {h:Heap} {κ:SK} (x:κ.own it k h):∃ o,h.get? it=some o∧(∀ v,o.data≠.cell v)∧o.cls≠.type "tuple" ∧ o.cls≠.type "zip" ∧ o.cls≠.type "enumerate" := by
  cases κ with
  | lst a=>obtain ⟨o,ho,c,d⟩:=x;exact ⟨o,ho,(fun v z=>by rw [d] at z;cases z),(fun z=>by rw [c] at z;simp at z),(fun z=>by rw [c] at z;simp at z),(fun z=>by rw [c] at z;simp at z)⟩
  | tup a=>obtain ⟨o,ho,c,d⟩:=x;exact ⟨o,ho,(fun v z=>by rw [d] at z;cases z),(fun z=>by rw [c] at z;simp at z),(fun z=>by rw [c] at z;simp at z),(fun z=>by rw [c] at z;simp at z)⟩
  | str y=>
    obtain ⟨t,o,ho,c,d⟩:=x
    refine ⟨o,ho,(fun v z=>by rw [d] at z;cases z),?_,?_,?_⟩ <;>
    · intro z
      rw [c] at z
      unfold strIterType at z
      split at z <;> simp at z
theorem Rd.inj {H:Hp} {a:Addr} {u v:HO} (hu:∀ o w,u≠.frz o w) (hv:∀ o w,v≠.frz o w) (x:Rd H a u) (y:Rd H a v):u=v:=by
  rcases x with x | ⟨o,x⟩ <;> rcases y with y | ⟨p,y⟩ <;> rw [x] at y
  · exact Option.some.inj y
  · exact absurd (Option.some.inj y) (hu p v)
  · exact absurd (Option.some.inj y).symm (hv o u)
  · have:=Option.some.inj y
    injection this
theorem SK.inj {H:Hp} {κ:SK} {xs ys:List V} (x:κ.has H xs) (y:κ.has H ys):xs=ys:=by
  cases κ with
  | lst a=>have:=Rd.inj (u:=.lst xs) (v:=.lst ys) (fun _ _ z=>nomatch z) (fun _ _ z=>nomatch z) x y;injection this
  | tup a=>have:=Rd.inj (u:=.tup xs) (v:=.tup ys) (fun _ _ z=>nomatch z) (fun _ _ z=>nomatch z) x y;injection this
  | str z=>exact Eq.trans x (Eq.symm y)
def SK.box:SK→List Addr
  | .lst a=>[a]
  | .tup a=>[a]
  | .str _=>[]
theorem SK.box_some {H:Hp} {κ:SK} {xs:List V} (x:κ.has H xs) {b:Addr} (hb:b∈κ.box):H b≠none:=by
  cases κ with
  | lst a => have e:b=a:=by simpa [SK.box] using hb
             subst e;intro z;rcases x with q | ⟨o,q⟩ <;> (rw [z] at q;cases q)
  | tup a => have e:b=a:=by simpa [SK.box] using hb
             subst e;intro z;rcases x with q | ⟨o,q⟩ <;> (rw [z] at q;cases q)
  | str z=>simp [SK.box] at hb
section
variable {X:Cx} {pins:List (Addr × Obj)} {σ:St} {H:Hp} {s:Shared}
theorem sk_draws {κ:SK} {it:Addr} {k:Nat} {xs:List V} {A:Around} (I:Inv X pins σ H s) (hv:κ.has H xs) (hit:κ.own it k s.heap) (hn:H it=none) (hh:A.handled=none) :
    ∃ (P:Nat→Value→Prop) (St:Nat→Heap→Prop),Draws X.prog X.w A it (it :: κ.box) xs.length P St∧St k s.heap∧(∀ i u,P i u→∃ x,xs[i]?=some x∧RelV x u)∧(∀ i h,St i h→κ.own it i h):=by
  have ne:∀ b∈κ.box,b≠it:=fun b hb z=>SK.box_some hv hb (by rw [z];exact hn)
  cases κ with
  | lst a=>
    obtain ⟨_,its,n,r,e⟩:=Rd.ok hv I.hok
    have hl:s.heap.IsList a its.toArray:=⟨_,e,rfl,n,rfl⟩
    have D:=Draws.list (prog:=X.prog) (w:=X.w) hh it a (ne a (by simp [SK.box])) its.toArray
    rw [List.size_toArray,← r.length] at D
    refine ⟨_,_,D,⟨hit,hl⟩,fun i u hu=>?_,fun i h st=>st.1⟩
    · have hu':its[i]?=some u:=by simpa using hu
      have hlt:i < xs.length:=by rw [r.length];exact (List.getElem?_eq_some_iff.mp hu').1
      obtain ⟨u',e1,e2⟩:=r.get (List.getElem?_eq_getElem hlt)
      rw [hu'] at e1;cases e1
      exact ⟨_,List.getElem?_eq_getElem hlt,e2⟩
  | tup a=>
    obtain ⟨_,its,r,ht⟩:=Rd.ok hv I.hok
    have hl:s.heap.IsTuple a its.toArray:=ht
    have D:=draws_tuple (prog:=X.prog) (w:=X.w) hh it a (ne a (by simp [SK.box])) its.toArray
    rw [List.size_toArray,← r.length] at D
    refine ⟨_,_,D,⟨hit,hl⟩,fun i u hu=>?_,fun i h st=>st.1⟩
    · have hu':its[i]?=some u:=by simpa using hu
      have hlt:i < xs.length:=by rw [r.length];exact (List.getElem?_eq_some_iff.mp hu').1
      obtain ⟨u',e1,e2⟩:=r.get (List.getElem?_eq_getElem hlt)
      rw [hu'] at e1;cases e1
      exact ⟨_,List.getElem?_eq_getElem hlt,e2⟩
  | str z=>
    obtain ⟨t,hit⟩:=hit
    have hv':xs=signs z:=hv
    subst hv'
    have D:=draws_str (prog:=X.prog) (w:=X.w) hh it z t
    have e:(signs z).length=z.cps.size:=by simp [signs]
    rw [← e] at D
    refine ⟨_,_,D,hit,fun i u hu=>?_,fun i h st=>⟨t,st⟩⟩
    · obtain ⟨c,u',hc,rfl⟩:=hu
      refine ⟨.str ⟨#[c]⟩,?_,⟨u',rfl⟩⟩
      simp only [signs,List.getElem?_map,Array.getElem?_toList,hc,Option.map_some]
theorem Inv.turnedNew {ch:List Addr} {p:Addr} {o:HO} {h':Heap} {tk:Nat} (I:Inv X pins σ H s)
    (hch:∀ b∈ch,FpOk X pins H b) (k:∀ b ob,b ∉ ch→s.heap.get? b=some ob→h'.get? b=some ob) (hp:s.heap.objs.size≤p) (new:ObjOk X.prog X.w (upd H p o) h' p o) :
    Inv X pins σ (upd H p o) { s with heap:=h',toks:=tk }:=by
  have hn:H p=none:=I.hok.fresh hp
  refine I.call (g':=s.gens) (d':=s.drawn) (ch:=ch) ⟨fun b u q _ _ hx=>k b u hx q,fun b u q _ _ hx=>⟨u.slots,k b u hx q⟩,fun b u q n _=>?_,fun b u q hx=>⟨u,k b u hx q⟩,fun b xs q=>?_,fun b u xs q=>?_,fun b ps q=>⟨#[],?_⟩⟩ (fun b u e=>?_) I.bare
    fun b hb=>⟨(hch b hb).2.2.2.1,(hch b hb).2.1,(hch b hb).2.2.2.2.1,(hch b hb).2.2.2.2.2⟩
  · rw [upd_ne (Nat.ne_of_lt (Nat.lt_of_lt_of_le (Heap.lt_size q) hp))];exact n
  · rw [upd_ne (ne_of_none q hn)];exact q
  · rw [upd_ne (ne_of_none q hn)];exact q
  · rw [upd_ne (ne_of_none q hn),q];simp
  · by_cases hb:b=p
    · subst hb;rw [upd_same] at e;cases e;exact new
    · rw [upd_ne hb] at e
      refine (I.hok b u e).stay (fun c v hc q=>k c v (fun hm=>?_) q) (fun c q=>by rw [upd_ne (ne_of_none q hn)];exact q) fun c xs q=>by rw [upd_ne (ne_of_none q hn)];exact q
      have z:=(hch c hm).1
      rcases hc with hc | hc
      · rw [hc,e] at z;cases z
      · rw [hc] at z;cases z
theorem Inv.turnedMany {ch:List Addr} {h':Heap} {tk:Nat} (I:Inv X pins σ H s)
    (hch:∀ b∈ch,FpOk X pins H b) (k:∀ b ob,b ∉ ch→s.heap.get? b=some ob→h'.get? b=some ob):Inv X pins σ H { s with heap:=h',toks:=tk }:=by
  refine I.call (g':=s.gens) (d':=s.drawn) (ch:=ch) ⟨fun b u q _ _ hx=>k b u hx q,fun b u q _ _ hx=>⟨u.slots,k b u hx q⟩,fun b u q n _=>n,fun b u q hx=>⟨u,k b u hx q⟩,fun b xs q=>q,fun b u xs q=>q,fun b ps q=>⟨#[],by rw [q];simp⟩⟩ (fun b u e=>?_) I.bare
    fun b hb=>⟨(hch b hb).2.2.2.1,(hch b hb).2.1,(hch b hb).2.2.2.2.1,(hch b hb).2.2.2.2.2⟩
  refine (I.hok b u e).stay (fun c v hc q=>k c v (fun hm=>?_) q) (fun _ q=>q) fun _ _ q=>q
  have z:=(hch c hm).1
  rcases hc with hc | hc
  · rw [hc,e] at z;cases z
  · rw [hc] at z;cases z
end
open AutoSeq1 (wpAny_loadPart') in
section
variable {X:Cx} {pins:List (Addr × Obj)} {σ:St} {H:Hp} {s:Shared}
end
structure ZA (z TI TO i1 i2:Addr) (fp1 fp2:List Addr):Prop where
  TIz:TI≠z
  TOz:TO≠z
  i1z:i1≠z
  i2z:i2≠z
  TITO:TI≠TO
  TIi1:TI≠i1
  TIi2:TI≠i2
  TOi1:TO≠i1
  TOi2:TO≠i2
  i12:i1≠i2
  z1:z ∉ fp1
  z2:z ∉ fp2
  o1:TO ∉ fp1
  o2:TO ∉ fp2
  a1:i2 ∉ fp1
  a2:i1 ∉ fp2
section
variable {prog:Program} {w:World} {A:Around} {E:Value→Shared→Prop} {s:Shared}
theorem zip_next_itemD {z TI TO i1 i2:Addr} {fp1 fp2:List Addr} {n1 n2 k:Nat} {P1 P2:Nat→Value→Prop} {S1 S2:Nat→Heap→Prop} {a b:Value} {Q:Value→Shared→Prop} (Z:ZA z TI TO i1 i2 fp1 fp2)
    (D1:Draws prog w A i1 fp1 n1 P1 S1) (D2:Draws prog w A i2 fp2 n2 P2 S2)
    (hz:IsZip s.heap z TI TO .none) (hTI:IsPair s.heap TI (.ref i1) (.ref i2)) (hTO:IsPair s.heap TO a b) (h1:S1 k s.heap) (h2:S2 k s.heap) (l1:k < n1) (l2:k < n2)
    (hQ:∀ x y h' tk,P1 k x→P2 k y→IsZip h' z TI TO (rawInt s.heap.objs.size)→IsPair h' TO x y→S1 (k+1) h'→S2 (k+1) h'→IsPair h' s.heap.objs.size x y→h'.objs.size=s.heap.objs.size+1 →
      (∀ c o,c≠z→c≠TO→c≠i1→c≠i2→s.heap.get? c=some o→h'.get? c=some o)→Q (.ref s.heap.objs.size) { s with heap:=h',toks:=tk }) :
    wpAny (model prog w) A (Builtin.«zip.__next__» ⟨[.ref z],[]⟩) (fun fin s'=>∃ v,fin=.done (.ret v)∧Q v s') E s:=by
  obtain ⟨hp,g,d,tk₀,os⟩:=s
  show wpAny _ _ (field (.ref z) 2 >>= _) _ _ _
  refine wpAny_bind (wpAny_field hz rfl (x:=.bool false) rfl ?_)
  show wpAny _ _ (field (.ref z) 3 >>= _) _ _ _
  refine wpAny_bind (wpAny_field hz rfl (x:=.ref TI) rfl ?_)
  refine wpAny_bind (wpAny_seqItems hTI rfl ?_)
  show wpAny _ _ (Builtin.SmallTypes.ownedTupleIsFree (.ref z) >>= _) _ _ _
  refine wpAny_bind ?_
  unfold Builtin.SmallTypes.ownedTupleIsFree
  refine wpAny_bind (wpAny_field hz rfl (x:=.none) rfl (wpAny_pure ?_))
  simp only [if_true]
  refine wpAny_bind (wpAny_rule ?_)
  refine wpAny_bind (wpAny_field hz rfl (x:=.ref TO) rfl ?_)
  refine wpAny_bind (wpAny_setField_rec hz (by simp) fun h₁ hz₁ hs₁=>?_)
  replace hz₁:IsZip h₁ z TI TO .ellipsis:=hz₁
  replace hs₁:Heap.SameBut z hp h₁:=hs₁
  refine wpAny_bind ?_
  simp only [List.zipIdx_cons,List.zipIdx_nil,List.forIn_cons,List.forIn_nil]
  refine wpAny_bind (wpAny_bind (wpAny_onRaise ?_))
  show wpAny _ _ (Builtin.SmallTypes.nextOf (.ref i1) >>= _) _ _ _
  have h1₁:S1 k h₁:=D1.frame _ _ _ h1 fun c hc o e=>hs₁.extBut _ _ (fun q=>Z.z1 (q ▸ hc)) e
  refine wpAny_bind (D1.item k _ _ _ l1 h1₁ fun x h₂ tk₂ hx h1₂ hs₂=>wpAny_pure ?_)
  replace hs₂:Heap.SameBut i1 h₁ h₂:=hs₂
  have hTO₂:IsPair h₂ TO a b:=hs₂.extBut _ _ Z.TOi1 (hs₁.extBut _ _ Z.TOz hTO)
  refine wpAny_bind (wpAny_seqItems (s:=⟨h₂,g,d,tk₂,os⟩) hTO₂ rfl ?_)
  refine wpAny_bind (wpAny_updateSeq_pair (s:=⟨h₂,g,d,tk₂,os⟩) hTO₂ fun h₃ hTO₃ hs₃=>?_)
  replace hTO₃:IsPair h₃ TO x b:=hTO₃
  replace hs₃:Heap.SameBut TO h₂ h₃:=hs₃
  refine wpAny_bind (wpAny_letGo (wpAny_pure ?_))
  refine wpAny_bind (wpAny_bind (wpAny_onRaise ?_))
  show wpAny _ _ (Builtin.SmallTypes.nextOf (.ref i2) >>= _) _ _ _
  have h2₃:S2 k h₃:=D2.frame _ _ _ h2 fun c hc o e=>hs₃.extBut _ _ (fun q=>Z.o2 (q ▸ hc)) (hs₂.extBut _ _ (fun q=>Z.a2 (q ▸ hc)) (hs₁.extBut _ _ (fun q=>Z.z2 (q ▸ hc)) e))
  refine wpAny_bind (D2.item k _ _ _ l2 h2₃ fun y h₄ tk₄ hy h2₄ hs₄=>wpAny_pure ?_)
  replace hs₄:Heap.SameBut i2 h₃ h₄:=hs₄
  have hTO₄:IsPair h₄ TO x b:=hs₄.extBut _ _ Z.TOi2 hTO₃
  refine wpAny_bind (wpAny_seqItems (s:=⟨h₄,g,d,tk₄,os⟩) hTO₄ rfl ?_)
  refine wpAny_bind (wpAny_updateSeq_pair (s:=⟨h₄,g,d,tk₄,os⟩) hTO₄ fun h₅ hTO₅ hs₅=>?_)
  replace hTO₅:IsPair h₅ TO x y:=hTO₅
  replace hs₅:Heap.SameBut TO h₄ h₅:=hs₅
  refine wpAny_bind (wpAny_letGo (wpAny_pure (wpAny_pure ?_)))
  refine wpAny_bind (wpAny_seqItems (s:=⟨h₅,g,d,tk₄,os⟩) hTO₅ rfl ?_)
  refine wpAny_bind (wpAny_newTuple ?_)
  have hsz:h₅.objs.size=hp.objs.size:=by rw [hs₅.1,hs₄.1,hs₃.1,hs₂.1,hs₁.1]
  have hz₅:IsZip h₅ z TI TO .ellipsis:=hs₅.extBut _ _ Z.TOz.symm (hs₄.extBut _ _ Z.i2z.symm (hs₃.extBut _ _ Z.TOz.symm (hs₂.extBut _ _ Z.i1z.symm hz₁)))
  have hk₅:∀ c o,c≠z→c≠TO→c≠i1→c≠i2→hp.get? c=some o→h₅.get? c=some o:=fun c o c1 c2 c3 c4 e=>
    hs₅.extBut _ _ c2 (hs₄.extBut _ _ c4 (hs₃.extBut _ _ c2 (hs₂.extBut _ _ c3 (hs₁.extBut _ _ c1 e))))
  have h1₅:S1 (k+1) h₅:=D1.frame _ _ _ h1₂ fun c hc o e=>hs₅.extBut _ _ (fun q=>Z.o1 (q ▸ hc)) (hs₄.extBut _ _ (fun q=>Z.a1 (q ▸ hc)) (hs₃.extBut _ _ (fun q=>Z.o1 (q ▸ hc)) e))
  have h2₅:S2 (k+1) h₅:=D2.frame _ _ _ h2₄ fun c hc o e=>hs₅.extBut _ _ (fun q=>Z.o2 (q ▸ hc)) e
  have hzlt:z < h₅.objs.size:=Heap.lt_size hz₅
  show wpAny _ _ (Builtin.SmallTypes.ownedTupleHandOut (.ref z) (.ref h₅.objs.size) >>= _) _ _ _
  refine wpAny_bind ?_
  unfold Builtin.SmallTypes.ownedTupleHandOut
  have hz₆:IsZip (h₅.push { cls:=.type "tuple", data:=.seq #[x,y] }) z TI TO .ellipsis:=Heap.get?_push_of_some _ hz₅
  refine wpAny_bind (wpAny_setField_rec hz₆ (by simp) fun h₇ hz₇ hs₇=>?_)
  replace hz₇:IsZip h₇ z TI TO (rawInt h₅.objs.size):=hz₇
  replace hs₇:Heap.SameBut z (h₅.push { cls:=.type "tuple", data:=.seq #[x,y] }) h₇:=hs₇
  refine wpAny_setField_rec hz₇ (by simp) fun h₈ hz₈ hs₈=>?_
  replace hz₈:IsZip h₈ z TI TO (rawInt h₅.objs.size):=hz₈
  replace hs₈:Heap.SameBut z h₇ h₈:=hs₈
  have up:∀ c o,c≠z→h₅.get? c=some o→h₈.get? c=some o:=fun c o c1 e=>hs₈.extBut _ _ c1 (hs₇.extBut _ _ c1 (Heap.get?_push_of_some _ e))
  have hT₈:IsPair h₈ h₅.objs.size x y:=hs₈.extBut _ _ (Nat.ne_of_gt hzlt) (hs₇.extBut _ _ (Nat.ne_of_gt hzlt) (Heap.get?_push_size _ rfl))
  have hz8:h₈.objs.size=h₅.objs.size+1:=by rw [hs₈.1,hs₇.1,Heap.size_push]
  rw [hsz] at hz₈ hT₈ hz8
  refine wpAny_pure ⟨_,rfl,?_⟩
  show Q (.ref h₅.objs.size) _
  rw [hsz]
  exact hQ x y h₈ tk₄ hx hy hz₈ (up _ _ Z.TOz hTO₅) (D1.frame _ _ _ h1₅ fun c hc o e=>up c o (fun q=>Z.z1 (q ▸ hc)) e) (D2.frame _ _ _ h2₅ fun c hc o e=>up c o (fun q=>Z.z2 (q ▸ hc)) e) hT₈ hz8 fun c o c1 c2 c3 c4 e=>up c o c1 (hk₅ c o c1 c2 c3 c4 e)
theorem zip_next_endD {z TI TO i1 i2:Addr} {fp1 fp2:List Addr} {n1 n2 k:Nat} {P1 P2:Nat→Value→Prop} {S1 S2:Nat→Heap→Prop} {a b:Value} {Q:Fin→Shared→Prop} (Z:ZA z TI TO i1 i2 fp1 fp2)
    (D1:Draws prog w A i1 fp1 n1 P1 S1) (D2:Draws prog w A i2 fp2 n2 P2 S2)
    (hz:IsZip s.heap z TI TO .none) (hTI:IsPair s.heap TI (.ref i1) (.ref i2)) (hTO:IsPair s.heap TO a b) (h1:S1 k s.heap) (h2:S2 k s.heap) (hend:n1=k∨(k < n1∧n2=k))
    (hE:∀ h' e tk,(∀ c o,c≠z→c≠TO→c≠i1→c≠i2→s.heap.get? c=some o→h'.get? c=some o)→(∃ o,h'.get? e=some o∧o.cls=.type "StopIteration")→E (.ref e) { s with heap:=h',toks:=tk }) :
    wpAny (model prog w) A (Builtin.«zip.__next__» ⟨[.ref z],[]⟩) Q E s:=by
  obtain ⟨hp,g,d,tk₀,os⟩:=s
  show wpAny _ _ (field (.ref z) 2 >>= _) _ _ _
  refine wpAny_bind (wpAny_field hz rfl (x:=.bool false) rfl ?_)
  show wpAny _ _ (field (.ref z) 3 >>= _) _ _ _
  refine wpAny_bind (wpAny_field hz rfl (x:=.ref TI) rfl ?_)
  refine wpAny_bind (wpAny_seqItems hTI rfl ?_)
  show wpAny _ _ (Builtin.SmallTypes.ownedTupleIsFree (.ref z) >>= _) _ _ _
  refine wpAny_bind ?_
  unfold Builtin.SmallTypes.ownedTupleIsFree
  refine wpAny_bind (wpAny_field hz rfl (x:=.none) rfl (wpAny_pure ?_))
  simp only [if_true]
  refine wpAny_bind (wpAny_rule ?_)
  refine wpAny_bind (wpAny_field hz rfl (x:=.ref TO) rfl ?_)
  refine wpAny_bind (wpAny_setField_rec hz (by simp) fun h₁ hz₁ hs₁=>?_)
  replace hz₁:IsZip h₁ z TI TO .ellipsis:=hz₁
  replace hs₁:Heap.SameBut z hp h₁:=hs₁
  refine wpAny_bind ?_
  simp only [List.zipIdx_cons,List.zipIdx_nil,List.forIn_cons,List.forIn_nil]
  refine wpAny_bind (wpAny_bind (wpAny_onRaise ?_))
  show wpAny _ _ (Builtin.SmallTypes.nextOf (.ref i1) >>= _) _ _ _
  have h1₁:S1 k h₁:=D1.frame _ _ _ h1 fun c hc o e=>hs₁.extBut _ _ (fun q=>Z.z1 (q ▸ hc)) e
  rcases hend with hn | ⟨l1,hn⟩
  · subst hn
    refine wpAny_bind (D1.done _ _ _ h1₁ fun h₂ e hs₂ he=>?_)
    obtain ⟨oe,hoe,hce⟩:=he
    replace hs₂:Heap.ExtBut i1 h₁ h₂:=hs₂
    have hz₂:IsZip h₂ z TI TO .ellipsis:=hs₂ _ _ Z.i1z.symm hz₁
    have hez:e≠z:=fun x=>by subst x;rw [hz₂] at hoe;cases hoe;simp at hce
    exact wpAny_setField_rec hz₂ (by simp) fun h₃ _ hs₃=>hE h₃ e _ (fun c o c1 _ c3 _ x=>hs₃.extBut _ _ c1 (hs₂ _ _ c3 (hs₁.extBut _ _ c1 x))) ⟨oe,hs₃.extBut _ _ hez hoe,hce⟩
  · subst hn
    refine wpAny_bind (D1.item _ _ _ _ l1 h1₁ fun x h₂ tk₂ hx h1₂ hs₂=>wpAny_pure ?_)
    replace hs₂:Heap.SameBut i1 h₁ h₂:=hs₂
    have hTO₂:IsPair h₂ TO a b:=hs₂.extBut _ _ Z.TOi1 (hs₁.extBut _ _ Z.TOz hTO)
    refine wpAny_bind (wpAny_seqItems (s:=⟨h₂,g,d,tk₂,os⟩) hTO₂ rfl ?_)
    refine wpAny_bind (wpAny_updateSeq_pair (s:=⟨h₂,g,d,tk₂,os⟩) hTO₂ fun h₃ hTO₃ hs₃=>?_)
    replace hs₃:Heap.SameBut TO h₂ h₃:=hs₃
    refine wpAny_bind (wpAny_letGo (wpAny_pure ?_))
    refine wpAny_bind (wpAny_bind (wpAny_onRaise ?_))
    show wpAny _ _ (Builtin.SmallTypes.nextOf (.ref i2) >>= _) _ _ _
    have h2₃:=D2.frame _ _ h₃ h2 fun c hc o e=>hs₃.extBut _ _ (fun q=>Z.o2 (q ▸ hc)) (hs₂.extBut _ _ (fun q=>Z.a2 (q ▸ hc)) (hs₁.extBut _ _ (fun q=>Z.z2 (q ▸ hc)) e))
    refine wpAny_bind (D2.done _ _ _ h2₃ fun h₄ e hs₄ he=>?_)
    obtain ⟨oe,hoe,hce⟩:=he
    replace hs₄:Heap.ExtBut i2 h₃ h₄:=hs₄
    have hz₄:IsZip h₄ z TI TO .ellipsis:=hs₄ _ _ Z.i2z.symm (hs₃.extBut _ _ Z.TOz.symm (hs₂.extBut _ _ Z.i1z.symm hz₁))
    have hez:e≠z:=fun x=>by subst x;rw [hz₄] at hoe;cases hoe;simp at hce
    exact wpAny_setField_rec hz₄ (by simp) fun h₅ _ hs₅=>hE h₅ e _ (fun c o c1 c2 c3 c4 x=>hs₅.extBut _ _ c1 (hs₄ _ _ c4 (hs₃.extBut _ _ c2 (hs₂.extBut _ _ c3 (hs₁.extBut _ _ c1 x))))) ⟨oe,hs₅.extBut _ _ hez hoe,hce⟩
end
def Itz (κ1 κ2:SK):It:=
  ⟨fun i H=>∃ xs ys x y,κ1.has H xs∧κ2.has H ys∧xs[i]?=some x∧ys[i]?=some y,
   fun i H v H'=>∃ p x y,v=.ref p∧H p=none∧H'=upd H p (.tup [x,y])∧(∀ xs,κ1.has H xs→xs[i]?=some x)∧∀ ys,κ2.has H ys→ys[i]?=some y,
   fun i H=>∃ xs ys,κ1.has H xs∧κ2.has H ys∧(xs.length=i∨(i < xs.length∧ys.length=i))⟩
theorem turn_zip {P:Program} {w:World} {K:PySem.W.Frag} {elts:List Expr} {x1:Nat} {tpos:Pos} (κ1 κ2:SK) (z TI TO i1 i2:Addr) (hnd:[z,TI,TO,i1,i2].Nodup) :
    Turn P w K (.Tuple elts x1 tpos) (Itz κ1 κ2) [z,TI,TO,i1,i2] z (fun i h=>IsZip h z TI TO .none∧IsPair h TI (.ref i1) (.ref i2)∧(∃ a b,IsPair h TO a b)∧κ1.own i1 i h∧κ2.own i2 i h) where
  mem:=by simp
  obj:=fun i h st b hb=>by
    obtain ⟨hz,hTI,⟨a,c,hTO⟩,h1,h2⟩:=st
    simp only [List.mem_cons,List.not_mem_nil,or_false] at hb
    rcases hb with rfl | rfl | rfl | rfl | rfl
    · exact ⟨_,hz,fun v y=>by have y':Data.fields _=Data.cell v:=y;cases y'⟩
    · exact ⟨_,hTI,fun v y=>by have y':Data.seq _ _=Data.cell v:=y;cases y'⟩
    · exact ⟨_,hTO,fun v y=>by have y':Data.seq _ _=Data.cell v:=y;cases y'⟩
    · obtain ⟨o,e1,e2,_⟩:=SK.own_obj h1;exact ⟨o,e1,e2⟩
    · obtain ⟨o,e1,e2,_⟩:=SK.own_obj h2;exact ⟨o,e1,e2⟩
  keep:=fun i h h' st k=>by
    obtain ⟨hz,hTI,⟨a,c,hTO⟩,h1,h2⟩:=st
    exact ⟨k z (by simp) _ hz,k TI (by simp) _ hTI,⟨a,c,k TO (by simp) _ hTO⟩,SK.own_at h1 fun o q=>k i1 (by simp) o q,SK.own_at h2 fun o q=>k i2 (by simp) o q⟩
  item:=by
    intro X hP hw hK hc i pins s σ H E I hf st hg
    subst hP hw hK
    obtain ⟨hz,hTI,⟨a,c,hTO⟩,h1,h2⟩:=st
    obtain ⟨xs,ys,x,y,hx,hy,hxi,hyi⟩:=hg
    have l1:i < xs.length:=(List.getElem?_eq_some_iff.mp hxi).1
    have l2:i < ys.length:=(List.getElem?_eq_some_iff.mp hyi).1
    have hh:X.A.in1.handled=none:=I.ok.hd hc
    obtain ⟨P1,S1,D1,s1,r1,w1⟩:=sk_draws (A:=X.A.in1) I hx h1 (hf i1 (by simp)).1 hh
    obtain ⟨P2,S2,D2,s2,r2,w2⟩:=sk_draws (A:=X.A.in1) I hy h2 (hf i2 (by simp)).1 hh
    simp only [List.nodup_cons,List.mem_cons,List.not_mem_nil,or_false,not_or] at hnd
    obtain ⟨⟨n1,n2,n3,n4⟩,⟨n5,n6,n7⟩,⟨n8,n9⟩,n10,_⟩:=hnd
    have nb:∀ {κ:SK} {zs:List V} {b it:Addr},κ.has H zs→H b=none→b≠it→b ∉ it :: κ.box:=fun {κ zs b it} hκ hb hne q=>by
      rcases List.mem_cons.mp q with q | q
      · exact hne q
      · exact SK.box_some hκ q hb
    have Z:ZA z TI TO i1 i2 (i1 :: κ1.box) (i2 :: κ2.box):=
      { TIz:=Ne.symm n1,TOz:=Ne.symm n2,i1z:=Ne.symm n3,i2z:=Ne.symm n4,TITO:=n5,TIi1:=n6,TIi2:=n7,TOi1:=n8,TOi2:=n9,i12:=n10
        z1:=nb hx (hf z (by simp)).1 n3,z2:=nb hy (hf z (by simp)).1 n4,o1:=nb hx (hf TO (by simp)).1 n8,o2:=nb hy (hf TO (by simp)).1 n9,a1:=nb hx (hf i2 (by simp)).1 (Ne.symm n10),a2:=nb hy (hf i1 (by simp)).1 n10 }
    have hT:s.TypeIs (.ref z) "zip" := ⟨_,hz,rfl⟩
    unfold pyNext
    refine wpAny_bind (wpAny_attempt (wpAny_callSpecial?_slot (name:=Str.ofString "__next__") hT F.slot_zip_next
      (wpAny_call_entry F.slot_zip_next hT F.entry_zip_next
        (zip_next_itemD Z D1 D2 hz hTI hTO s1 s2 l1 l2 fun u v h' tk hu hv hz' hTO' s1' s2' hT' hsz hk=>wpAny_pure ⟨_,rfl,?_⟩) (F.args_zip_next_1 _))))
    refine wpAny_letOwnedTupleGo_zip hz' fun h'' hz'' hs''=>?_
    obtain ⟨x',hx',rx⟩:=r1 i u hu
    obtain ⟨y',hy',ry⟩:=r2 i v hv
    have ex:x'=x:=Option.some.inj (hx'.symm.trans hxi)
    have ey:y'=y:=Option.some.inj (hy'.symm.trans hyi)
    subst ex ey
    have kk:∀ b ob,b ∉ [z,TI,TO,i1,i2]→s.heap.get? b=some ob→h''.get? b=some ob:=fun b ob hb q=>
      (hs''.2 b (fun e=>hb (by simp [e]))).trans (hk b ob (fun e=>hb (by simp [e])) (fun e=>hb (by simp [e])) (fun e=>hb (by simp [e])) (fun e=>hb (by simp [e])) q)
    have ne:s.heap.objs.size≠z:=Nat.ne_of_gt (Heap.lt_size hz)
    have hT'':h''.get? s.heap.objs.size=some { cls:=.type "tuple", data:=.seq #[u,v] }:=(hs''.2 _ ne).trans hT'
    refine ⟨.ref s.heap.objs.size,upd H s.heap.objs.size (.tup [x',y']),I.turnedNew (tk:=tk) hf kk (Nat.le_refl _) ⟨⟨(by show 2≤sizeLine;decide),_,hT'',rfl⟩,[u,v],.cons rx (.cons ry .nil),_,hT'',rfl,0,rfl⟩,rfl,
      ⟨_,x',y',rfl,I.hok.fresh (Nat.le_refl _),rfl,fun zs hzs=>by rw [SK.inj hzs hx];exact hxi,fun zs hzs=>by rw [SK.inj hzs hy];exact hyi⟩,
      ⟨hz'',hs''.extBut _ _ (Ne.symm n1) (hk _ _ (Ne.symm n1) n5 n6 n7 hTI),⟨_,_,hs''.extBut _ _ (Ne.symm n2) hTO'⟩,SK.own_at (w1 _ _ s1') fun o q=>(hs''.2 i1 (Ne.symm n3)).trans q,SK.own_at (w2 _ _ s2') fun o q=>(hs''.2 i2 (Ne.symm n4)).trans q⟩,fun b hb=>?_⟩
    have hob:∃ o,s.heap.get? b=some o:=by
      simp only [List.mem_cons,List.not_mem_nil,or_false] at hb
      rcases hb with rfl | rfl | rfl | rfl | rfl
      · exact ⟨_,hz⟩
      · exact ⟨_,hTI⟩
      · exact ⟨_,hTO⟩
      · obtain ⟨o,e1,_⟩:=SK.own_obj h1;exact ⟨o,e1⟩
      · obtain ⟨o,e1,_⟩:=SK.own_obj h2;exact ⟨o,e1⟩
    obtain ⟨o,hob⟩:=hob
    rw [upd_ne (Nat.ne_of_lt (Heap.lt_size hob))]
    exact (hf b hb).1
  done:=by
    intro X hP hw hK hc i pins s σ H E I hf st hg
    subst hP hw hK
    obtain ⟨hz,hTI,⟨a,c,hTO⟩,h1,h2⟩:=st
    obtain ⟨xs,ys,hx,hy,hend⟩:=hg
    have hh:X.A.in1.handled=none:=I.ok.hd hc
    obtain ⟨P1,S1,D1,s1,r1,w1⟩:=sk_draws (A:=X.A.in1) I hx h1 (hf i1 (by simp)).1 hh
    obtain ⟨P2,S2,D2,s2,r2,w2⟩:=sk_draws (A:=X.A.in1) I hy h2 (hf i2 (by simp)).1 hh
    simp only [List.nodup_cons,List.mem_cons,List.not_mem_nil,or_false,not_or] at hnd
    obtain ⟨⟨n1,n2,n3,n4⟩,⟨n5,n6,n7⟩,⟨n8,n9⟩,n10,_⟩:=hnd
    have nb:∀ {κ:SK} {zs:List V} {b it:Addr},κ.has H zs→H b=none→b≠it→b ∉ it :: κ.box:=fun {κ zs b it} hκ hb hne q=>by
      rcases List.mem_cons.mp q with q | q
      · exact hne q
      · exact SK.box_some hκ q hb
    have Z:ZA z TI TO i1 i2 (i1 :: κ1.box) (i2 :: κ2.box):=
      { TIz:=Ne.symm n1,TOz:=Ne.symm n2,i1z:=Ne.symm n3,i2z:=Ne.symm n4,TITO:=n5,TIi1:=n6,TIi2:=n7,TOi1:=n8,TOi2:=n9,i12:=n10
        z1:=nb hx (hf z (by simp)).1 n3,z2:=nb hy (hf z (by simp)).1 n4,o1:=nb hx (hf TO (by simp)).1 n8,o2:=nb hy (hf TO (by simp)).1 n9,a1:=nb hx (hf i2 (by simp)).1 (Ne.symm n10),a2:=nb hy (hf i1 (by simp)).1 n10 }
    have hT:s.TypeIs (.ref z) "zip" := ⟨_,hz,rfl⟩
    unfold pyNext
    refine wpAny_bind (wpAny_attempt (wpAny_callSpecial?_slot (name:=Str.ofString "__next__") hT F.slot_zip_next
      (wpAny_call_entry F.slot_zip_next hT F.entry_zip_next (zip_next_endD Z D1 D2 hz hTI hTO s1 s2 hend fun h' e tk hk he=>?_) (F.args_zip_next_1 _))))
    obtain ⟨o,ho,hcl⟩:=he
    refine wpAny_bind (wpAny_isInstance (T := "StopIteration") (b:=true) ⟨o,ho,hcl⟩ isSubtype_stop ?_)
    exact wpAny_pure ⟨rfl,I.turnedMany hf fun b ob hb q=>hk b ob (fun e=>hb (by simp [e])) (fun e=>hb (by simp [e])) (fun e=>hb (by simp [e])) (fun e=>hb (by simp [e])) q⟩
  self:=fun _ _ _ _ _ st h=>wpAny_pyIter_zip st.1 h
def itObj (v:Value):SK→Obj
  | .lst _=>{ cls:=.type "list_iterator", data:=.fields #[v,.int 0 0] }
  | .tup _=>{ cls:=.type "tuple_iterator", data:=.fields #[v,.int 0 0] }
  | .str x=>{ cls:=.type (strIterType x),data:=.fields #[v,.int 0 0] }
theorem itObj_live (v:Value) (κ:SK):(itObj v κ).isFreed=false:=by cases κ <;> rfl
def Iters (h:Heap) (v:Value) (o:Obj):Prop:=∀ (prog:Program) (w:World) (A:Around) (E:Value→Shared→Prop) (s:Shared) (Q:Value→Shared→Prop),(∀ b ob,h.get? b=some ob→s.heap.get? b=some ob)→Q (.ref s.heap.objs.size) { s with heap:=s.heap.push o }→wpAny (model prog w) A (pyIter v) Q E s
theorem sk_iters {X:Cx} {pins:List (Addr × Obj)} {σ:St} {H:Hp} {s:Shared} {κ:SK} {xs:List V} {u:Value} (I:Inv X pins σ H s) (hv:κ.has H xs) (r:RelV κ.val u):Iters s.heap u (itObj u κ):=by
  intro prog w A E s' Q k h
  cases κ with
  | lst a=>
    cases (show u=Value.ref a from r)
    obtain ⟨_,its,n,rr,e⟩:=Rd.ok hv I.hok
    exact wpAny_pyIter_list (items:=its.toArray) ⟨_,k _ _ e,rfl,n,rfl⟩ h
  | tup a=>
    cases (show u=Value.ref a from r)
    obtain ⟨_,its,rr,o,e,c⟩:=Rd.ok hv I.hok
    exact wpAny_pyIter_tuple (items:=its.toArray) ⟨o,k _ _ e,c⟩ h
  | str x=>
    obtain ⟨t,q⟩:=(show ∃ t,u=Value.str x t from r)
    subst q
    exact wpAny_pyIter_strU h
theorem sk_own0 {κ:SK} {u:Value} {h h':Heap} {it:Addr} (r:RelV κ.val u) (e:h.get? it=some (itObj u κ)):κ.own it 0 h:=by
  cases κ with
  | lst a=>cases (show u=Value.ref a from r);exact ⟨_,e,rfl,rfl⟩
  | tup a=>cases (show u=Value.ref a from r);exact ⟨_,e,rfl,rfl⟩
  | str x=>obtain ⟨t,q⟩:=(show ∃ t,u=Value.str x t from r);subst q;exact ⟨t,_,e,rfl,rfl⟩
abbrev zH1 (h:Heap) (o1:Obj):Heap:=h.push o1
abbrev zH2 (h:Heap) (o1 o2:Obj):Heap:=(zH1 h o1).push o2
abbrev zH3 (h:Heap) (o1 o2:Obj):Heap:=(zH2 h o1 o2).push { cls:=.type "tuple", data:=.seq #[.ref h.objs.size,.ref (zH1 h o1).objs.size] }
abbrev zH4 (h:Heap) (o1 o2:Obj):Heap:=(zH3 h o1 o2).push { cls:=.type "tuple", data:=.seq #[.none,.none] }
abbrev zH5 (h:Heap) (o1 o2:Obj):Heap:=(zH4 h o1 o2).push { cls:=.type "zip", data:=.fields #[.none,.bool false,.bool false,.ref (zH2 h o1 o2).objs.size,.ref (zH3 h o1 o2).objs.size] }
set_option maxHeartbeats 4000000 in
theorem meets_zipG (v1 v2:Value) (o1 o2:Obj) :
    Meets (Builtin.«zip.__new__» ⟨[.type "zip", v1,v2],[]⟩) (fun _ R s=>Iters s.heap v1 o1∧Iters s.heap v2 o2 ∧
      R (.ok (.ret (.ref (zH4 s.heap o1 o2).objs.size))) { s with heap:=zH5 s.heap o1 o2 }):=
  .of_wp fun prog w A R s h=>by
    obtain ⟨hp,g,d,tk,os⟩:=s;obtain ⟨hl1,hl2,h⟩:=h
    have hsub:=sub_zip
    have g1:∀ (A:Around) (E:Value→Shared→Prop) (Q:Value→Shared→Prop),Q (.ref hp.objs.size) ⟨hp.push o1,g,d,tk,os⟩→wpAny (model prog w) A (pyIter v1) Q E ⟨hp,g,d,tk,os⟩:=fun A E Q q=>hl1 prog w A E ⟨hp,g,d,tk,os⟩ Q (fun _ _ e=>e) q
    have g2:∀ (A:Around) (E:Value→Shared→Prop) (Q:Value→Shared→Prop),Q (.ref (hp.push o1).objs.size) ⟨(hp.push o1).push o2,g,d,tk,os⟩→wpAny (model prog w) A (pyIter v2) Q E ⟨hp.push o1,g,d,tk,os⟩:=fun A E Q q=>hl2 prog w A E ⟨hp.push o1,g,d,tk,os⟩ Q (fun _ _ e=>Heap.get?_push_of_some _ e) q
    wp_walk using g1 _ _ _,g2 _ _ _
    exact ⟨_,rfl,h⟩
theorem call_zipG {prog:Program} {w:World} {A:Around} {E:Value→Shared→Prop} {s:Shared} {v1 v2:Value} {o1 o2:Obj} {Q:Value→Shared→Prop} (f1:o1.isFreed=false) (f2:o2.isFreed=false) (hl1:Iters s.heap v1 o1) (hl2:Iters s.heap v2 o2)
    (h:∀ h',IsZip h' (s.heap.objs.size+4) (s.heap.objs.size+2) (s.heap.objs.size+3) .none→IsPair h' (s.heap.objs.size+2) (.ref s.heap.objs.size) (.ref (s.heap.objs.size+1)) →
      IsPair h' (s.heap.objs.size+3) .none .none→h'.get? s.heap.objs.size=some o1→h'.get? (s.heap.objs.size+1)=some o2 →
      (∀ c o,s.heap.get? c=some o→h'.get? c=some o)→Q (.ref (s.heap.objs.size+4)) { s with heap:=h' }) :
    wpAny (model prog w) A (call (.type "zip") [v1,v2]) Q E s:=by
  refine callType_new F.called_zip (by decide) (F.typeCall_zip_2 _ _) (F.newCall_zip_2 _ _) (fun obj=>F.args_object_init_3 obj _ _) F.entry_zip_new
    (meets_zipG v1 v2 o1 o2) ⟨hl1,hl2,?_⟩
  have z1:(zH1 s.heap o1).objs.size=s.heap.objs.size+1:=Heap.size_push ..
  have z2:(zH2 s.heap o1 o2).objs.size=s.heap.objs.size+2:=by rw [Heap.size_push,z1]
  have z3:(zH3 s.heap o1 o2).objs.size=s.heap.objs.size+3:=by rw [Heap.size_push,z2]
  have z4:(zH4 s.heap o1 o2).objs.size=s.heap.objs.size+4:=by rw [Heap.size_push,z3]
  have g5:(zH5 s.heap o1 o2).get? (zH4 s.heap o1 o2).objs.size=some _:=Heap.get?_push_size _ rfl
  have g4:(zH5 s.heap o1 o2).get? (zH3 s.heap o1 o2).objs.size=some _:=Heap.get?_push_of_some _ (Heap.get?_push_size _ rfl)
  have g3:(zH5 s.heap o1 o2).get? (zH2 s.heap o1 o2).objs.size=some _:=Heap.get?_push_of_some _ (Heap.get?_push_of_some _ (Heap.get?_push_size _ rfl))
  have g2:(zH5 s.heap o1 o2).get? (zH1 s.heap o1).objs.size=some _:=Heap.get?_push_of_some _ (Heap.get?_push_of_some _ (Heap.get?_push_of_some _ (Heap.get?_push_size _ f2)))
  have g1:(zH5 s.heap o1 o2).get? s.heap.objs.size=some _:=Heap.get?_push_of_some _ (Heap.get?_push_of_some _ (Heap.get?_push_of_some _ (Heap.get?_push_of_some _ (Heap.get?_push_size _ f1))))
  show _∧_
  rw [z2,z3,z4] at g5
  rw [z1,z2] at g3
  rw [z3] at g4
  rw [z1] at g2
  rw [z4]
  exact ⟨⟨_,g5,rfl⟩,h _ g5 g3 g4 g1 g2 fun c o x=>
    Heap.get?_push_of_some _ (Heap.get?_push_of_some _ (Heap.get?_push_of_some _ (Heap.get?_push_of_some _ (Heap.get?_push_of_some _ x))))⟩
section
variable {X:Cx}
def iZip (ta:TA):TI:=fun σ H R=>ta σ H fun vs H1=>∃ κ1 κ2:SK,vs=[κ1.val,κ2.val]∧(∃ xs,κ1.has H1 xs)∧(∃ ys,κ2.has H1 ys)∧R (Itz κ1 κ2) H1
theorem pi_zip {a b:Expr} {ta:TA} {p pos:Pos} {elts:List Expr} {x1:Nat} {tpos:Pos} (hg:Gl X "zip") (hm:X.mg "zip" = none) (ha:PA X [a,b] ta)
    (hs:starEach [a,b] X.env=[(false,eval a X.env),(false,eval b X.env)]:=by rfl) (hs2:starEach [b] X.env=[(false,eval b X.env)]:=by rfl):PI X (.Tuple elts x1 tpos) (.Call (.Name "zip" p) [a,b] [] pos) (iZip ta):=by
  intro pins s σ H R I h
  refine Call_ (ld_blt I hg hm boot_zip (PyProof.Rows.callWith_type1 (thn (ha pos pins s σ H _ I h) fun us s1 ⟨vs,H1,I1,r1,q1⟩=>?_) (by rw [hs,hs2]) (by rw [hs2];rfl)))
  obtain ⟨κ1,κ2,e,⟨xs,hx⟩,⟨ys,hy⟩,q⟩:=q1
  subst e
  obtain ⟨u,v,rfl,ru,rv⟩:=vals2 r1
  refine call_zipG (itObj_live u κ1) (itObj_live v κ2) (sk_iters I1 hx ru) (sk_iters I1 hy rv) fun h' hz hTI hTO h1 h2 hk=>?_
  refine wpAny_pyIter_zip hz ⟨s1.heap.objs.size+4,[s1.heap.objs.size+4,s1.heap.objs.size+2,s1.heap.objs.size+3,s1.heap.objs.size,s1.heap.objs.size+1],_,_,H1,rfl,I1.kept (t':=s1.toks) hk,
    turn_zip κ1 κ2 _ _ _ _ _ (by simp),⟨hz,hTI,⟨_,_,hTO⟩,sk_own0 (h':=h') ru h1,sk_own0 (h':=h') rv h2⟩,fun b hb=>?_,q⟩
  have hge:s1.heap.objs.size≤b:=by
    simp only [List.mem_cons,List.not_mem_nil,or_false] at hb
    rcases hb with rfl | rfl | rfl | rfl | rfl <;> first | exact Nat.le_add_right _ _ | exact Nat.le_refl _
  exact I1.fpOk hge (I1.hok.fresh hge)
end
theorem for_zip {κ1 κ2:SK} {xs ys:List V} {g:TG} {tb:TS} {D:Ends} {σ:St} {H:Hp} (Pv:Nat→St→Hp→Prop) (h0:Pv 0 σ H) (hlen:xs.length=ys.length) (hl:∀ i σ H,i≤xs.length→Pv i σ H→κ1.has H xs∧κ2.has H ys)
    (hs:∀ i x y σ H p,xs[i]?=some x→ys[i]?=some y→Pv i σ H→H p=none→g (.ref p) σ (upd H p (.tup [x,y])) fun σ2 H2=>tb { D with nx:=Pv (i+1),ct:=Pv (i+1),bk:=D.nx } σ2 H2) (hd:∀ σ H,Pv xs.length σ H→D.nx σ H) :
    ∃ W:Nat→Nat→St→Hp→Prop,(∃ m,W 0 m σ H)∧∀ i m σ H,W i m σ H →
      ((Itz κ1 κ2).stop i H∧D.nx σ H)∨((Itz κ1 κ2).go i H∧∃ N:St→Hp→Prop,(∀ σ' H',N σ' H'→∃ m',m' < m∧W (i+1) m' σ' H')∧∀ x H',(Itz κ1 κ2).yld i H x H'→g x σ H' fun σ2 H2=>tb { D with nx:=N,ct:=N,bk:=D.nx } σ2 H2):=by
  refine ⟨fun i m σ H=>i≤xs.length∧m=xs.length - i∧Pv i σ H,⟨xs.length,Nat.zero_le _,rfl,h0⟩,fun i m σ H ⟨hi,hm,hp⟩=>?_⟩
  obtain ⟨a1,a2⟩:=hl i σ H hi hp
  rcases Nat.lt_or_ge i xs.length with lt | ge
  · have lt2:i < ys.length:=by omega
    refine .inr ⟨⟨xs,ys,xs[i],ys[i],a1,a2,List.getElem?_eq_getElem lt,List.getElem?_eq_getElem lt2⟩,Pv (i+1),fun σ' H' hn=>⟨xs.length - (i+1),by omega,by omega,rfl,hn⟩,fun x H' hy=>?_⟩
    obtain ⟨p,x',y',rfl,hpn,rfl,e1,e2⟩:=hy
    exact hs i x' y' σ H p (e1 xs a1) (e2 ys a2) hp hpn
  · have e:i=xs.length:=by omega
    subst e
    exact .inl ⟨⟨xs,ys,a1,a2,.inl rfl⟩,hd σ H hp⟩
def cutS (z:Str) (lo hi:Option Int):Str:=⟨((z.cps.toList.drop (HT.sIx z.length 0 lo)).take (HT.sIx z.length z.length hi - HT.sIx z.length 0 lo)).toArray⟩
theorem clip_s (i:Int) (n d:Nat):max 0 (min (if i < 0 then i+(n:Int) else i) (n:Int))=((HT.sIx n d (some i):Nat):Int):=by
  simp only [HT.sIx]
  split
  · omega
  · omega
theorem range_cut (a b:Nat):sliceRange (a:Int) (b:Int) 1=(List.range (b - a)).map fun k=>a+k:=by
  unfold sliceRange
  simp only [show ((1:Int) > 0)=True from by simp,if_true]
  by_cases hlt:(a:Int) < b
  · have e3:(((b:Int) - a+1 - 1) / 1).toNat=b - a:=by
      rw [Int.ediv_one];omega
    simp only [hlt,if_true,e3]
    refine List.map_congr_left fun k _=>?_
    omega
  · have:b - a=0:=by omega
    simp [hlt,this]
theorem sliceIdx_cut (lo hi:Option Int) (n:Nat):Builtin.Str.strSliceIndices lo hi 1 n=(List.range (HT.sIx n n hi - HT.sIx n 0 lo)).map fun k=>HT.sIx n 0 lo+k:=by
  unfold Builtin.Str.strSliceIndices
  simp only [show ((1:Int) > 0)=True from by simp,if_true]
  cases lo with
  | none=>
    cases hi with
    | none=>exact range_cut 0 n
    | some j=>dsimp only;rw [clip_s j n n];exact range_cut 0 _
  | some i=>
    cases hi with
    | none=>dsimp only;rw [clip_s i n 0];exact range_cut _ n
    | some j=>dsimp only;rw [clip_s i n 0,clip_s j n n];exact range_cut _ _
theorem slice_text (z:Str) (t:Tok) (l u:Option (Int × Tok)):∀ (Q:Value→Shared→Prop) (s:Shared),z.length≤sizeLine→(∀ t' s',s'.heap=s.heap→s'.gens=s.gens→s'.drawn=s.drawn→s'.os=s.os→Q (.str (cutS z (l.map (·.1)) (u.map (·.1))) t') s')→(sliceMade z t l u none).post Q s:=by
  intro Q s hz h
  have hidx:=sliceIdx_cut (l.map (·.1)) (u.map (·.1)) z.length
  have hle:HT.sIx z.length z.length (u.map (·.1))≤z.length:=HT.sIx_le _ _ (Nat.le_refl _) _
  have hlo:HT.sIx z.length 0 (l.map (·.1))≤z.length:=HT.sIx_le _ _ (Nat.zero_le _) _
  have hzl:z.length=z.cps.toList.length:=by simp [Str.length]
  have cut:((slicePicked z l u none).filterMap (z.cps[·]?))=(z.cps.toList.drop (HT.sIx z.length 0 (l.map (·.1)))).take (HT.sIx z.length z.length (u.map (·.1)) - HT.sIx z.length 0 (l.map (·.1))):=by
    have p:=StrLaws.picks z.cps.toList (HT.sIx z.length z.length (u.map (·.1)) - HT.sIx z.length 0 (l.map (·.1))) (HT.sIx z.length 0 (l.map (·.1))) (by omega)
    rw [← p]
    unfold slicePicked
    simp only [Option.map_none,Option.getD_none]
    rw [hidx]
    congr 1
    funext k
    simp
  unfold sliceMade
  split
  · rename_i c
    have whole:cutS z (l.map (·.1)) (u.map (·.1))=z:=by
      unfold cutS
      have e:(slicePicked z l u none).length=z.length:=by
        simp only [Bool.and_eq_true,beq_iff_eq] at c
        exact c.2
      have e':HT.sIx z.length z.length (u.map (·.1)) - HT.sIx z.length 0 (l.map (·.1))=z.length:=by
        unfold slicePicked at e
        simp only [Option.map_none,Option.getD_none] at e
        rw [hidx] at e
        simpa using e
      have e0:HT.sIx z.length 0 (l.map (·.1))=0:=by omega
      rw [e',e0,List.drop_zero,hzl,List.take_length]
    have:=h t s rfl rfl rfl rfl
    rw [whole] at this
    exact this
  · rw [cut]
    have hl':(⟨((z.cps.toList.drop (HT.sIx z.length 0 (l.map (·.1)))).take (HT.sIx z.length z.length (u.map (·.1)) - HT.sIx z.length 0 (l.map (·.1)))).toArray⟩:Str).length≤sizeLine:=by
      have:(⟨((z.cps.toList.drop (HT.sIx z.length 0 (l.map (·.1)))).take (HT.sIx z.length z.length (u.map (·.1)) - HT.sIx z.length 0 (l.map (·.1)))).toArray⟩:Str).length≤z.length:=by
        simp only [Str.length,List.size_toArray,List.length_take,List.length_drop]
        have:z.cps.size=z.length:=rfl
        omega
      omega
    first
      | exact ⟨hl',h _ _ rfl rfl rfl rfl⟩
      | exact h _ _ rfl rfl rfl rfl
def rSlS:V→Option Int→Option Int→Hp→VK→Prop:=fun x lo hi H Q=>∃ z,x=.str z∧z.length≤sizeLine∧Q (.str (cutS z lo hi)) H
theorem sl_str {X:Cx}:SlR X rSlS:=by
  intro pins s σ H x v vl vu lo hi sl Q I rx hs pl pu h
  obtain ⟨z,rfl,hz,q⟩:=h
  obtain ⟨t,rfl⟩:=rx
  refine ⟨"str", _,F.slot_str_getitem.lookup,typeIs_str s z t,?_⟩
  have part:∀ {v:Value} {o:Option Int},IsPart v o→∃ p:Option (Int × Tok),v=partValue p∧p.map (·.1)=o:=fun {v o} p=>by
    cases p with
    | none=>exact ⟨none,rfl,rfl⟩
    | int i t=>exact ⟨some (i,t),rfl,rfl⟩
  obtain ⟨l,rfl,rfl⟩:=part pl
  obtain ⟨u,rfl,rfl⟩:=part pu
  refine wpAny_getItem_str_slice (l:=l) (u:=u) (st:=none) hs rfl (slice_text z t l u _ s hz fun t' s' e1 e2 e3 e4=>⟨.str _,H,?_,⟨t',rfl⟩,q⟩)
  obtain ⟨hp,g,d,tk,os⟩:=s'
  cases e1;cases e2;cases e3;cases e4
  exact I.tok tk
theorem cutS_from (z:Str) (k:Nat):(cutS z (some (k:Int)) none).cps.toList=z.cps.toList.drop k:=by
  unfold cutS
  have hzl:z.length=z.cps.toList.length:=by simp [Str.length]
  simp only [HT.sIx_nat,HT.sIx_none]
  rcases Nat.le_total k z.length with h | h
  · rw [Nat.min_eq_left h]
    exact List.take_of_length_le (by rw [List.length_drop];omega)
  · rw [Nat.min_eq_right h,Nat.sub_self,List.take_zero]
    exact (List.drop_eq_nil_of_le (by omega)).symm
theorem cutS_to (z:Str) (k:Nat):(cutS z none (some (k:Int))).cps.toList=z.cps.toList.take k:=by
  unfold cutS
  have hzl:z.length=z.cps.toList.length:=by simp [Str.length]
  simp only [HT.sIx_nat,HT.sIx_none,List.drop_zero,Nat.sub_zero]
  rcases Nat.le_total k z.length with h | h
  · rw [Nat.min_eq_left h]
  · rw [Nat.min_eq_right h,hzl,List.take_length]
    exact (List.take_of_length_le (by omega)).symm
end L2
namespace L2
open PySem PySem.Spec PyProof.Rows
theorem csc {X:Cx} {scope:Scope} {NL:List Str} {ix:List Nat} (esc:Scope) (N:List Str) (h1:X.env.scope=esc:=by rfl) (h2:X.N=N:=by rfl) (c1:scope.kind=.function:=by rfl)
    (c2:∀ y∈scope.names,y.2≠.cell:=by decide +kernel) (c3:∀ y∈scope.names,y.2=.local→scope.names.lookup y.1=some .local:=by decide +kernel)
    (c4:∀ y∈scope.names,y.2=.free→esc.names.lookup y.1=some .cell∨esc.names.lookup y.1=some .free:=by decide +kernel)
    (c5:∀ j∈ix,(N[j]?).bind (fun x=>scope.names.lookup x)=some .free:=by decide +kernel):CompScope X scope NL ix where
  kind:=c1
  cell:=c2
  names:=c3
  free:=fun y hy hf=>by
    have:=c4 y hy hf
    rw [← h1] at this
    exact this
  cap:=fun j hj=>by
    have:=c5 j hj
    rw [h2]
    cases e:N[j]? with
    | none=>rw [e] at this;cases this
    | some x=>rw [e] at this;exact ⟨x,rfl,this⟩
def Has (P:Program) (w:World) (K:PySem.W.Frag) (mg:Str→Option Value) (base:Heap) (x:Str) (k:Nat) (ps:List Str) (sp:Sp):Prop:=
  ∃ f fd,FnOk P w K mg base CX0 k f fd ps sp∧Binds K fd ps []∧PySem.W.keepIn K (.ref f)=true∧mg x=some (.ref f)
section
variable {P:Program} {w:World} {K:PySem.W.Frag} {mg:Str→Option Value} {base:Heap}
theorem Has.mono {x:Str} {j k:Nat} {ps:List Str} {sp:Sp} (G:Has P w K mg base x j ps sp) (h:j≤k):Has P w K mg base x k ps sp:=
  let ⟨f,fd,F,r⟩:=G;⟨f,fd,F.mono h,r⟩
def Df (K:PySem.W.Frag) (mg:Str→Option Value) (x:Str) (st:Stmt):Prop:=∃ f fd,Fun K x x st f fd∧mg x=some (.ref f)
theorem Df.has {x:Str} {st:Stmt} {N ps:List Str} {k:Nat} {sp:Sp} (D:Df K mg x st) (S:FnScope N ps (defScope st))
    (hb:∀ (kV doc pm:Value) (an:Option Addr) (cdv ct:Value) (us:List Value),us.length=ps.length→bindArgs (PySem.W.fnOf x x (defArgs st) (defBody st) (defScope st) .none kV doc pm an cdv ct) ⟨us,[]⟩=pure (ps.zip us))
    (len:∀ vs H Q E,sp vs H Q E→vs.length=ps.length)
    (hbody:∀ (f:Addr) (cdv:Value) (A:Around) (outer:List Env) (s:Shared) (H:Hp) (vs:List V) (Q:VK) (E:XK),Room k (A.deeper (envOfC x (defScope st) s.heap.objs.size f cdv))→sp vs H Q E →
      ∃ t,PSs (cxOf CX0 P w K mg base N x (defScope st) f cdv A outer s H E).nox (defBody st) t∧t { nx:=fun _ H'=>Q .non H',rt:=Q } (start N vs) H):Has P w K mg base x (k+1) ps sp:=by
  obtain ⟨f,fd,F,m⟩:=D
  exact ⟨f,fd,F.ok S len fun cdv A outer s H vs Q E hr h=>hbody f cdv A outer s H vs Q E hr h,F.binds hb,F.kp,m⟩
end
theorem pe_callH {X:Cx} {x:Str} {k:Nat} {ps:List Str} {sp:Sp} {p pos:Pos} {e:Expr} {es:List Expr} {t:TA} (G:Has X.prog X.w X.K X.mg X.base x k ps sp) (hr:Room k X.A) (hg:Gl X x) (ha:PA X (e :: es) t)
    (hdb:(x == ("__debug__" : Str))=false:=by decide) (he:starEach (e :: es) X.env=(false,eval e X.env) :: starEach es X.env:=by rfl) (hpl:(backTo pos (starEach es X.env)).any (·.1)=false:=by rfl) :
    PE X (.Call (.Name x p) (e :: es) [] pos) (tCall sp [] E0 t):=by
  obtain ⟨f,fd,F,b,kp,m⟩:=G
  exact pe_call F hr hg m kp b .nil pass0 ha hdb he hpl
structure Blt (mg:Str→Option Value):Prop where
  len:mg "len" = none
  range:mg "range" = none
  zip:mg "zip" = none
  enumerate:mg "enumerate" = none
  max:mg "max" = none
  min:mg "min" = none
  int_:mg "int" = none
  str_:mg "str" = none
  bool_:mg "bool" = none
  list_:mg "list" = none
  tuple_:mg "tuple" = none
  isinstance:mg "isinstance" = none
abbrev Pool (H:Hp) (p:Addr):Prop:=∃ x y:Int,H p=some (.lst [.int x,.int y])
structure Kp (p:Addr) (H H':Hp):Prop where
  pool:Pool H' p
  keep:∀ b o,b≠p→H b=some o→H' b=some o
section
variable {p q:Addr} {H H1 H2:Hp} {o:HO}
theorem Kp.refl (h:Pool H p):Kp p H H:=⟨h,fun _ _ _ e=>e⟩
theorem Kp.trans (a:Kp p H H1) (b:Kp p H1 H2):Kp p H H2:=⟨b.pool,fun c u hc e=>b.keep c u hc (a.keep c u hc e)⟩
theorem Kp.new (a:Kp p H H1) (hq:H1 q=none):Kp p H (upd H1 q o):=by
  obtain ⟨⟨x,y,e⟩,k⟩:=a
  refine ⟨⟨x,y,by rw [upd_ne (ne_of_none e hq)];exact e⟩,fun c u hc h=>?_⟩
  have:=k c u hc h
  rw [upd_ne (ne_of_none this hq)];exact this
theorem Kp.write (a:Kp p H H1) (hq:H q=none) (hp:q≠p):Kp p H (upd H1 q o):=by
  obtain ⟨⟨x,y,e⟩,k⟩:=a
  refine ⟨⟨x,y,by rw [upd_ne (Ne.symm hp)];exact e⟩,fun c u hc h=>?_⟩
  rw [upd_ne (ne_of_none h hq)];exact k c u hc h
theorem Pool.ne (h:Pool H p) (hq:H q=none):q≠p:=by
  obtain ⟨x,y,e⟩:=h
  exact Ne.symm (ne_of_none e hq)
end
theorem bt_len:bootBuiltins "len" = some (.builtin "len"):=by decide +kernel
theorem bt_max:bootBuiltins "max" = some (.builtin "max"):=by decide +kernel
theorem bt_min:bootBuiltins "min" = some (.builtin "min"):=by decide +kernel
theorem bt_sorted:bootBuiltins "sorted" = some (.builtin "sorted"):=by decide +kernel
theorem bt_int:bootBuiltins "int" = some (.type "int"):=by decide +kernel
theorem bt_tuple:bootBuiltins "tuple" = some (.type "tuple"):=by decide +kernel
theorem Same.new {H0 H:Hp} {q:Addr} {o:HO} (h:Same H0 H) (hq:H q=none):Same H0 (upd H q o):=fun b u e=>by
  have:=h b u e
  rw [upd_ne (ne_of_none this hq)];exact this
theorem Same.write {H0 H:Hp} {q:Addr} {o:HO} (h:Same H0 H) (hq:H0 q=none):Same H0 (upd H q o):=fun b u e=>by
  rw [upd_ne (ne_of_none e hq)];exact h b u e
theorem app_list (a y:Str):(a++y).cps.toList=a.cps.toList++y.cps.toList:=by
  show (a.cps++y.cps).toList=_
  simp
end L2
namespace L2
open PySem PySem.Spec PyProof.Rows
section
variable {X:Cx}
theorem strsAre_of:∀ {ys:List Str} {us:List Value},Vals (ys.map V.str) us→StrsAre us ys
  | [],[],_=>.nil
  | [],_ :: _,h=>nomatch h
  | _ :: _,[],h=>nomatch h
  | y :: r,u :: us,h=>by
    cases h with
    | cons a b=>
      obtain ⟨t,rfl⟩:=a
      exact .cons y t (strsAre_of b)
end
section
variable {NL:List Str} {ix:List Nat} {g:TG} {tt:TT} {te:TE} {σ:St} {H1:Hp} {Qs:Hp→Prop} {acc:Addr}
end
section
variable {p q:Addr} {H H1 H2:Hp} {o:HO} {c d:Int}
end
end L2
namespace L2
open PySem PySem.Spec PyProof.Rows
section
variable {X:Cx}
theorem strsAre_get {vs:List Value} {ss:List Str} (h:StrsAre vs ss):Vals (ss.map V.str) vs:=by
  induction h with
  | nil=>exact .nil
  | cons y t _ ih=>exact .cons ⟨t,rfl⟩ ih
theorem call_sorted_strs:CallR X (.builtin "sorted") (fun vs H Q=>∃ (a:Addr) (ss:List Str),vs=[.ref a]∧SqL X.K H a (ss.map V.str)∧ss.length < 64 ∧
    ∀ (ss':List Str) (l:Addr),ss'.Perm ss→sortedS ss'=true→H l=none→Q (.ref l) (upd H l (.lst (ss'.map V.str)))):=by
  intro pins s σ H xs us Q I r h
  obtain ⟨a,ss,rfl,hl,h64,q⟩:=h
  obtain ⟨u,rfl,ru⟩:=vals1 r
  cases (show u=Value.ref a from ru)
  obtain ⟨its,rv,ht,hz⟩:=I.list hl
  have hlen:=rv.length
  rw [List.length_map] at hlen
  refine sorted_strs ht.isList (strsAre_of rv) (by omega) fun out ss' a1 a2 a3=>?_
  obtain ⟨e,he⟩:=sortedAll_at s.heap its out
  have l2:=a2.length_eq
  refine ⟨.ref (s.heap.objs.size+1),_,I.laid (t':=s.toks) (fun _ _=>sortedAll_old) (Nat.le_succ _) (show ObjOk X.prog X.w _ _ _ (.lst (ss'.map V.str)) from ⟨?_,out.toList,e,strsAre_get a1,he⟩),rfl,q ss' _ a2 a3 (I.hok.fresh (Nat.le_succ _))⟩
  rw [List.length_map]
  exact Nat.le_of_lt (small1000 (by omega))
end
end L2
namespace L2
open PySem.W PyProof.Rows
section
variable {α β:Type} {n:Nat} {lt:Nat→Nat→Bool}
structure TotB (n:Nat) (lt:Nat→Nat→Bool):Prop where
  asym:∀ i j,lt i j=true→lt j i=false
  tr:∀ i j k,lt j i=false→lt k j=false→lt k i=false
  tot:∀ i j,i < n→j < n→lt i j=false→lt j i=false→i=j
def PermN (n:Nat) (p:Array Nat):Prop:=p.toList.Perm (List.range n)
theorem PermN.below {p:Array Nat} (h:PermN n p) (h0:0 < n) (k:Nat):p.getD k 0 < n:=by
  rw [Array.getD_eq_getD_getElem?]
  cases e:p[k]? with
  | none=>exact h0
  | some x=>
    have:x∈p.toList:=by
      have:=Array.mem_of_getElem? e
      exact Array.mem_toList_iff.mpr this
    exact List.mem_range.mp ((List.Perm.mem_iff h).mp this)
variable (o:TotB n lt)
include o
end
open PySem PySem.Spec
def shV:V→Nat
  | .int _=>1
  | .str _=>2
  | _=>0
def ltV:V→V→Bool
  | .int i,.int j=>decide (i < j)
  | .str a,.str b=>decide (a.cps.toList < b.cps.toList)
  | _,_=>false
def lexV:List V→List V→Bool
  | x :: xs,y :: ys=>if x=y then lexV xs ys else ltV x y
  | [],_ :: _=>true
  | _,_=>false
theorem str_eq {a b:Str} (h:a.cps.toList=b.cps.toList):a=b:=by
  obtain ⟨x⟩:=a;obtain ⟨y⟩:=b
  have:x=y:=Array.toList_inj.mp h
  rw [this]
theorem two_kinds {x y:V} (hs:shV x=shV y) (h0:shV x≠0):(∃ i j,x=.int i∧y=.int j)∨∃ a b,x=.str a∧y=.str b:=by
  cases x <;> cases y <;> simp [shV] at hs h0 ⊢
theorem ltV_asym {x y:V} (h:ltV x y=true):ltV y x=false:=by
  cases x <;> cases y <;> simp [ltV] at h ⊢
  · omega
  · exact List.not_lt.mp (List.lt_asymm h)
theorem ltV_tot {x y:V} (hs:shV x=shV y) (h0:shV x≠0) (h1:ltV x y=false) (h2:ltV y x=false):x=y:=by
  rcases two_kinds hs h0 with ⟨i,j,rfl,rfl⟩ | ⟨a,b,rfl,rfl⟩
  · have h1':¬ i < j:=of_decide_eq_false h1
    have h2':¬ j < i:=of_decide_eq_false h2
    rw [show i=j by omega]
  · have h1':¬ a.cps.toList < b.cps.toList:=of_decide_eq_false h1
    have h2':¬ b.cps.toList < a.cps.toList:=of_decide_eq_false h2
    rw [str_eq (List.le_antisymm (List.not_lt.mp h2') (List.not_lt.mp h1'))]
theorem ltV_tr {x y z:V} (hs:shV x=shV y) (ht:shV y=shV z) (h0:shV x≠0) (h1:ltV y x=false) (h2:ltV z y=false):ltV z x=false:=by
  rcases two_kinds hs h0 with ⟨i,j,rfl,rfl⟩ | ⟨a,b,rfl,rfl⟩
  · rcases two_kinds ht (by simp [shV]) with ⟨_,k,e,rfl⟩ | ⟨_,_,e,_⟩
    · have h1':¬ j < i:=of_decide_eq_false h1
      cases e
      have h2':¬ k < j:=of_decide_eq_false h2
      exact decide_eq_false (by omega)
    · cases e
  · rcases two_kinds ht (by simp [shV]) with ⟨_,_,e,_⟩ | ⟨_,c,e,rfl⟩
    · cases e
    · cases e
      have h1':¬ b.cps.toList < a.cps.toList:=of_decide_eq_false h1
      have h2':¬ c.cps.toList < b.cps.toList:=of_decide_eq_false h2
      exact decide_eq_false (List.not_lt.mpr (List.le_trans (List.not_lt.mp h1') (List.not_lt.mp h2')))
theorem lexV_asym:∀ (xs ys:List V),lexV xs ys=true→lexV ys xs=false
  | x :: xs,y :: ys,h=>by
    unfold lexV at h ⊢
    by_cases e:x=y
    · rw [if_pos e] at h;rw [if_pos e.symm];exact lexV_asym xs ys h
    · rw [if_neg e] at h;rw [if_neg (Ne.symm e)];exact ltV_asym h
  | [],_ :: _,_=>rfl
  | [],[],h=>by cases h
  | _ :: _,[],h=>by cases h
theorem lexV_tot:∀ (xs ys:List V),xs.map shV=ys.map shV→0 ∉ xs.map shV→lexV xs ys=false→lexV ys xs=false→xs=ys
  | x :: xs,y :: ys,hs,h0,h1,h2=>by
    simp only [List.map_cons,List.cons.injEq] at hs
    simp only [List.map_cons,List.mem_cons,not_or] at h0
    unfold lexV at h1 h2
    by_cases e:x=y
    · rw [if_pos e] at h1;rw [if_pos e.symm] at h2
      rw [e,lexV_tot xs ys hs.2 h0.2 h1 h2]
    · rw [if_neg e] at h1;rw [if_neg (Ne.symm e)] at h2
      exact absurd (ltV_tot hs.1 (Ne.symm h0.1) h1 h2) e
  | [],[],_,_,_,_=>rfl
  | [],_ :: _,hs,_,_,_=>by cases hs
  | _ :: _,[],hs,_,_,_=>by cases hs
theorem lexV_tr:∀ (xs ys zs:List V),xs.map shV=ys.map shV→ys.map shV=zs.map shV→0 ∉ xs.map shV→lexV ys xs=false→lexV zs ys=false→lexV zs xs=false
  | x :: xs,y :: ys,z :: zs,hs,ht,h0,h1,h2=>by
    simp only [List.map_cons,List.cons.injEq] at hs ht
    simp only [List.map_cons,List.mem_cons,not_or] at h0
    unfold lexV at h1 h2 ⊢
    by_cases e:y=x
    · rw [if_pos e] at h1
      by_cases f:z=y
      · rw [if_pos f] at h2;rw [if_pos (f.trans e)];exact lexV_tr xs ys zs hs.2 ht.2 h0.2 h1 h2
      · rw [if_neg f] at h2;rw [if_neg (fun q=>f (q.trans e.symm)),← e];exact h2
    · rw [if_neg e] at h1
      by_cases f:z=y
      · rw [if_pos f] at h2;rw [if_neg (fun q=>e (f.symm.trans q)),f];exact h1
      · rw [if_neg f] at h2
        by_cases g:z=x
        · exact absurd (ltV_tot hs.1.symm (by rw [← hs.1];exact Ne.symm h0.1) h1 (by rw [← g];exact h2)) e
        · rw [if_neg g];exact ltV_tr hs.1 ht.1 (Ne.symm h0.1) h1 h2
  | [],[],[],_,_,_,_,_=>rfl
  | [],_ :: _,_,hs,_,_,_,_=>by cases hs
  | _ :: _,[],_,hs,_,_,_,_=>by cases hs
  | [],[],_ :: _,_,ht,_,_,_=>by cases ht
  | _ :: _,_ :: _,[],_,ht,_,_,_=>by cases ht
structure Keys (n:Nat) (K:Nat→List V) (sh:List Nat):Prop where
  shp:∀ i,(K i).map shV=sh
  ne:sh≠[]
  z:0 ∉ sh
  inj:∀ i j,i < n→j < n→K i=K j→i=j
theorem Keys.tot {n:Nat} {K:Nat→List V} {sh:List Nat} (k:Keys n K sh):TotB n (fun i j=>lexV (K i) (K j)) where
  asym:=fun i j h=>lexV_asym _ _ h
  tr:=fun i j l h1 h2=>lexV_tr _ _ _ ((k.shp i).trans (k.shp j).symm) ((k.shp j).trans (k.shp l).symm) (by rw [k.shp];exact k.z) h1 h2
  tot:=fun i j hi hj h1 h2=>k.inj i j hi hj (lexV_tot _ _ ((k.shp i).trans (k.shp j).symm) (by rw [k.shp];exact k.z) h1 h2)
section
variable {prog:Program} {w:World} {A:Around} {E:Value→Shared→Prop} {s:Shared} {Q:Bool→Shared→Prop}
variable {n:Nat} {K:Nat→List V} {sh:List Nat} {ks:List Value}
end
end L2
namespace L2
open PySem PySem.Spec PyProof.Rows PySem.W
section
variable {prog:Program} {w:World} {A:Around} {E:Value→Shared→Prop} {s:Shared}
end
theorem vals_at:∀ {xs:List V} {us:List Value},xs.length=us.length→(∀ (i:Nat) (x:V) (u:Value),xs[i]?=some x→us[i]?=some u→RelV x u)→Vals xs us
  | [],[],_,_=>.nil
  | [],_ :: _,h,_=>by cases h
  | _ :: _,[],h,_=>by cases h
  | x :: xs,u :: us,h,k=>.cons (k 0 x u rfl rfl) (vals_at (by simpa using h) fun i y v a b=>k (i+1) y v (by simpa using a) (by simpa using b))
section
variable {X:Cx}
end
end L2
namespace L2
open PySem PySem.Spec PyProof.Rows PySem.W
end L2
namespace L2
open PySem PySem.Spec PyProof.Rows PySem.W
theorem ix_listK {X:Cx} (K:PySem.W.Frag) (hK:X.K=K:=by rfl):IxR X (rIxL K):=by
  subst hK;exact ix_list
end L2
namespace L2
open PySem PySem.Spec PyProof.Rows PySem.W
theorem ints_showable {ns:List Int} (h:∀ n∈ns,n.natAbs < 10 ^ 12):PyData.showable (.list (ns.map .int))=true:=by
  simp only [PyData.showable]
  refine PyData.showableAll_ints ns fun n hn=>?_
  rcases Nat.eq_zero_or_pos n.natAbs with z | z
  · rw [z];decide
  · exact (Nat.log2_lt (by omega)).mpr (Nat.lt_of_lt_of_le (Nat.lt_trans (h n hn) (show 10 ^ 12 < 2 ^ 40 by decide)) (Nat.pow_le_pow_right (by decide) (by decide)))
section
variable {X:Cx} {k:Nat}
theorem bt_repr:bootBuiltins "repr" = some (.builtin "repr"):=by kernel_rfl
end
end L2
namespace L2
open PySem PySem.Spec PyProof.Rows PySem.W
end L2
namespace L2
open PySem PySem.Spec PyProof.Rows PySem.W
theorem weight_ints:∀ ns:List Int,(∀ n∈ns,n.natAbs < 10 ^ 12)→PyData.weightAll (ns.map .int)≤42 * ns.length
  | [],_=>by simp [PyData.weightAll]
  | n :: r,h=>by
    have a:=weight_ints r fun m hm=>h m (List.mem_cons_of_mem _ hm)
    have b:PyData.weight (.int n)≤41:=by
      simp only [PyData.weight]
      split
      · omega
      · rename_i z
        have nz:n.natAbs≠0:=fun e=>z (by rw [Int.natAbs_eq_zero.mp e];rfl)
        have:=(Nat.log2_lt nz (k:=40)).mpr (Nat.lt_trans (h n List.mem_cons_self) (by decide))
        omega
    simp only [List.map_cons,PyData.weightAll,List.length_cons]
    omega
section
variable {X:Cx} {k:Nat}
end
end L2
namespace L2
open PySem PySem.Spec PyProof.Rows PySem.W
def keyOf (e:Int × Value):Str:=match e.2 with | .str x _=>x | _=>Str.empty
structure SetS (w:World) (led:Bool) (es:Array (Int × Value)) (t:SetTable) (S:List Str):Prop where
  ent:∀ e∈es.toList,∃ x tk,e=(hashStr w x,Value.str x tk)
  nd:(es.toList.map keyOf).Nodup
  mem:∀ x,x∈es.toList.map keyOf ↔ x∈S
  fit:t.fits es.size=true
  led:t.led=led
  pl:es.size=0∨t.plain=false
theorem relay_led (t:SetTable) (es:Array (Int × Value)) (n:Nat):(relayAll t es n).2.1.led=t.led∧(t.plain=false→(relayAll t es n).2.1.plain=false):=by
  unfold relayAll
  cases e:t.relaid (es.map (·.1)) n with
  | none=>exact ⟨rfl,fun _=>rfl⟩
  | some p=>
    obtain ⟨t',order⟩:=p
    dsimp only
    have hl:t'.led=t.led∧t'.plain=t.plain:=by
      unfold SetTable.relaid SetTable.laid at e
      cases e2:SetTable.layClean (SetTable.sizeAbove n - 1) (es.map (·.1)) with
      | none=>rw [e2] at e;cases e
      | some o=>
        rw [e2] at e
        injection e with e
        injection e with e1 e3
        rw [← e1]
        exact ⟨rfl,rfl⟩
    split
    · exact ⟨hl.1,fun h=>by rw [hl.2];exact h⟩
    · exact ⟨rfl,fun _=>rfl⟩
theorem or_led (t:SetTable) (n:Nat):(t.orStandIn n).led=t.led:=by
  unfold SetTable.orStandIn
  split <;> rfl
theorem lay_led (t:SetTable) (es:Array (Int × Value)) (h:Int) (x:Value):(layNew t es h x).2.1.led=t.led:=by
  unfold layNew
  cases e:t.freeSlot h with
  | none=>rfl
  | some p=>
    obtain ⟨slot,wd⟩:=p
    exact or_led _ _
theorem keyOf_perm {a b:List (Int × Value)} (p:a.Perm b):(a.map keyOf).Perm (b.map keyOf):=p.map _
theorem SetS.grow {w:World} {led:Bool} {es es':Array (Int × Value)} {t t':SetTable} {S:List Str} {x:Str} {tk:Tok} (h:SetS w led es t S) (nx:x ∉ S) (p:es'.toList.Perm (es.push (hashStr w x,.str x tk)).toList) (f:t'.fits es'.size=true) (l:t'.led=led) (q:t'.plain=false):SetS w led es' t' (S++[x]) where
  ent:=fun e he=>by
    have:=p.mem_iff.mp he
    rw [Array.toList_push] at this
    rcases List.mem_append.mp this with z | z
    · exact h.ent e z
    · exact ⟨x,tk,List.mem_singleton.mp z⟩
  nd:=by
    rw [(keyOf_perm p).nodup_iff,Array.toList_push,List.map_append,List.nodup_append]
    refine ⟨h.nd,by simp,fun a ha b hb=>?_⟩
    have hb':b=x:=by simpa [keyOf] using hb
    subst hb'
    exact fun e=>nx (by rw [← e];exact (h.mem a).mp ha)
  mem:=fun y=>by
    rw [(keyOf_perm p).mem_iff,Array.toList_push,List.map_append,List.mem_append,List.mem_append,h.mem y]
    simp [keyOf]
  fit:=f
  led:=l
  pl:=.inr q
theorem SetS.relay {w:World} {led:Bool} {es:Array (Int × Value)} {t:SetTable} {S:List Str} (h:SetS w led es t S) (q:t.plain=false) (n:Nat):SetS w led (relayAll t es n).1 (relayAll t es n).2.1 S where
  ent:=fun e he=>h.ent e ((relayAll_perm t es n).mem_iff.mp he)
  nd:=by rw [(keyOf_perm (relayAll_perm t es n)).nodup_iff];exact h.nd
  mem:=fun y=>by rw [(keyOf_perm (relayAll_perm t es n)).mem_iff];exact h.mem y
  fit:=relayAll_fits t es n
  led:=(relay_led t es n).1.trans h.led
  pl:=.inr ((relay_led t es n).2 q)
structure SetA (w:World) (led:Bool) (h:Heap) (a:Addr) (S:List Str) (n:Nat):Prop where
  ex:∃ es ep t,h.get? a=some { cls:=.type "set", data:=.set es ep t }∧SetS w led es t S∧es.size≤n
section
variable {prog:Program} {w:World} {A:Around} {E:Value→Shared→Prop} {s:Shared}
theorem store_set {a:Addr} {es es':Array (Int × Value)} {ep:Nat} {t t':SetTable} {Q:Unit→Shared→Prop} (ha:s.heap.get? a=some { cls:=.type "set", data:=.set es ep t }) (hz:es'.size≤sizeLine)
    (h:∀ h',Heap.SameBut a s.heap h'→h'.get? a=some { cls:=.type "set", data:=.set es' (ep+1) t' }→Q () { s with heap:=h' }):wpAny (model prog w) A (storeSet a es' t') Q E s:=by
  unfold storeSet
  refine wpAny_bind (wpAny_load ha ?_)
  dsimp only
  rw [if_neg (by omega)]
  refine wpAny_update ha (h _ (Heap.SameBut.update ..) ?_)
  rw [Heap.get?_update_self _ ha rfl]
  rfl
theorem gave_ok {b:Bool} {Q:Unit→Shared→Prop} (h:Q () s):wpAny (model prog w) A (match b with | true=>rule "set.scan.the-table-gave-way" | false=>pure ()) Q E s:=by
  cases b with
  | true=>exact wpAny_rule h
  | false=>exact wpAny_pure h
theorem add_text {a:Addr} {S:List Str} {n:Nat} {led:Bool} {x:Str} {tk:Tok} {Q:Bool→Shared→Prop} (ha:SetA w led s.heap a S n) (hn:n+1 < scanBound)
    (h:∀ b h',Heap.SameBut a s.heap h'→SetA w led h' a (S++[x]) (n+1)→Q b { s with heap:=h',toks:=s.toks+1 }):wpAny (model prog w) A (setAdd a (.str x tk)) Q E s:=by
  obtain ⟨es,ep,t,hget,hS,hsz⟩:=ha
  have hsc:scanBound=4096:=rfl
  have is:(strKind prog w).is x (.str x tk)=true:=by show (x == x)=true;exact beq_self_eq_true x
  have elems:ElemsOf (strKind prog w) es.toList:=fun e he=>by
    obtain ⟨y,tk',rfl⟩:=hS.ent e he
    exact ⟨⟨y,by show (y == y)=true;exact beq_self_eq_true y,rfl⟩,rfl⟩
  unfold setAdd
  refine wpAny_holding (wpAny_bind ((strKind prog w).pyHash is ?_))
  unfold setAddHashed
  refine wpAny_holding ?_
  rw [setAddHashedIn.eq_def]
  show wpAny _ _ (setState a >>= _) _ _ _
  refine wpAny_bind (wpAny_setState_of (s:={ s with toks:=s.toks+1 }) hget rfl hS.fit ?_)
  have bs:byScan (.str x tk) es=true:=by
    unfold byScan
    have h1:(Value.str x tk).scannable=true:=rfl
    have h2:(es.all fun e=>e.2.scannable)=true:=by
      rw [Array.all_eq_true_iff_forall_mem]
      intro e he
      exact (elems e (Array.mem_toList_iff.mpr he)).2
    rw [h1,h2,decide_eq_true (by omega)];rfl
  dsimp only
  rw [if_pos bs]
  refine wpAny_bind ?_
  unfold setAddByScan
  refine wpAny_bind (wpAny_rule (wpAny_bind (wpAny_setScan_of (s:={ s with toks:=s.toks+1 }) is hget rfl hS.fit elems ?_)))
  cases ef:List.findIdx? (fun e=>(strKind prog w).is x e.2) es.toList with
  | some j=>
    dsimp only
    refine wpAny_pure (wpAny_pure ?_)
    have xin:x∈S:=by
      rw [← hS.mem x]
      obtain ⟨hj,hp,_⟩:=List.findIdx?_eq_some_iff_getElem.mp ef
      have hm:=List.getElem_mem hj
      obtain ⟨y,tk',e⟩:=hS.ent _ hm
      rw [e] at hp
      have:y=x:=eq_of_beq (show (y == x)=true from hp)
      subst this
      exact List.mem_map.mpr ⟨_,hm,by rw [e];rfl⟩
    refine h false s.heap (Heap.SameBut.refl ..) ⟨es,ep,t,hget,⟨hS.ent,hS.nd,fun y=>?_,hS.fit,hS.led,hS.pl⟩,by omega⟩
    rw [hS.mem y,List.mem_append]
    constructor
    · exact .inl
    · rintro (z | z)
      · exact z
      · rw [List.mem_singleton.mp z];exact xin
  | none=>
    dsimp only
    have xout:x ∉ S:=fun hin=>by
      rw [← hS.mem x] at hin
      obtain ⟨e,he,ek⟩:=List.mem_map.mp hin
      have:=List.findIdx?_eq_none_iff.mp ef e he
      obtain ⟨y,tk',rfl⟩:=hS.ent e he
      have ey:y=x:=ek
      subst ey
      exact absurd (show (strKind prog w).is y (.str y tk')=true from (by show (y == y)=true;exact beq_self_eq_true y)) (by rw [this];simp)
    have lp:=layNew_perm t es ((strKind prog w).hash x) (.str x tk)
    have lf:=layNew_fits t es ((strKind prog w).hash x) (.str x tk)
    have ll:=lay_led t es ((strKind prog w).hash x) (.str x tk)
    have lz:=lp.length_eq
    rw [Array.length_toList,Array.length_toList,Array.size_push] at lz
    generalize layNew t es ((strKind prog w).hash x) (.str x tk)=L at lp lf ll lz
    obtain ⟨es1,t1,wd,gv⟩:=L
    dsimp only at lp lf ll lz ⊢
    have zl:sizeLine=268435455∨4096≤sizeLine:=.inr (by rw [sizeLine_eq];decide)
    have zz:es1.size≤sizeLine:=by rcases zl with z | z <;> omega
    refine wpAny_bind (gave_ok ?_)
    have fin:∀ t2:SetTable,t2.fits es1.size=true→t2.led=led→t2.plain=false →
        wpAny (model prog w) A (do
          storeSet a es1 t2
          have __do_jp:Unit→Sem (Option Bool):=fun __r=>pure (some true)
          if (!wd && t2.tooFull)=true then
            match relayAll t2 es1 (SetTable.grown es1.size) with
            | (es,t,gave)=>do
              (match gave with | true=>rule "set.scan.the-table-gave-way" | false=>pure ())
              let __r ← storeSet a es t
              __do_jp __r
          else __do_jp ()) (fun r s'=>wpAny (model prog w) A (match r with | some added=>pure added | none=>setAddHashedIn a (.str x tk) ((strKind prog w).hash x) 99999) Q E s') E { s with toks:=s.toks+1 }:=fun t2 f2 l2 p2=>by
      have g:=hS.grow (es':=es1) (t':=t2) (tk:=tk) xout lp f2 l2 p2
      refine wpAny_bind (store_set (s:={ s with toks:=s.toks+1 }) hget zz fun h1 sb1 hg1=>?_)
      dsimp only
      split
      · have gr:=g.relay p2 (SetTable.grown es1.size)
        have rz:=(relayAll_perm t2 es1 (SetTable.grown es1.size)).length_eq
        rw [Array.length_toList,Array.length_toList] at rz
        generalize relayAll t2 es1 (SetTable.grown es1.size)=Rr at gr rz
        obtain ⟨es3,t3,gv3⟩:=Rr
        dsimp only at gr rz ⊢
        refine wpAny_bind (gave_ok ?_)
        refine wpAny_bind (store_set (s:={ s with heap:=h1,toks:=s.toks+1 }) hg1 (by omega) fun h2 sb2 hg2=>?_)
        refine wpAny_pure (wpAny_pure ?_)
        exact h true h2 (sb1.trans sb2) ⟨es3,_,t3,hg2,gr,by omega⟩
      · refine wpAny_pure (wpAny_pure ?_)
        exact h true h1 sb1 ⟨es1,_,t2,hg1,g,by omega⟩
    by_cases hp:t1.plain=true
    · rw [if_pos hp,hashByValue.eq_5]
      refine wpAny_bind (wpAny_pure ?_)
      have ff:=fin { mask:=t1.mask,place:=t1.place,dummies:=t1.dummies,finger:=t1.finger,led:=t1.led,moves:=t1.moves,plain:=false } lf (ll.trans hS.led) rfl
      exact ff
    · rw [if_neg hp]
      refine wpAny_bind (wpAny_pure ?_)
      have ff:=fin t1 lf (ll.trans hS.led) (by simpa using hp)
      exact ff
end
end L2
namespace L2
open PySem PySem.Spec PyProof.Rows PySem.W
def ledOf (w:World):Bool:=!w.params.followText "set-order"
section
variable {prog:Program} {w:World} {A:Around} {E:Value→Shared→Prop} {s:Shared}
theorem by_text {Q:Bool→Shared→Prop} (h:Q (w.params.followText "set-order") s):wpAny (model prog w) A setsByText Q E s:=by
  unfold setsByText
  exact wpAny_bind (wpAny_askSetting (wpAny_pure h))
theorem code_set_new_led (a:Value) {Q₁:Value→Shared→Prop} (h:Q₁ (.ref s.heap.objs.size) { s with heap:=s.heap.push { cls:=.type "set", data:=.set #[] 0 (SetTable.fresh 0 0 (ledOf w)) } }) :
    codeAny (model prog w) A (.call (.builtin "set.__new__") ⟨[.type "set", a],[]⟩) (wants Q₁ E) s:=by
  refine codeAny_call_builtin F.plain_set_new F.entry_set_new ?_
  rw [F.newCall_set_1]
  refine wpAny_pure ?_
  unfold Builtin.«set.__new__» Builtin.Frozenset.newClass
  dsimp only
  refine wpAny_bind (wpAny_bind ?_)
  show wpAny _ _ (pure true) _ _ _
  refine wpAny_pure ?_
  rw [if_neg (by decide)]
  refine wpAny_bind ?_
  rw [F.sub_set_set]
  refine wpAny_pure ?_
  rw [if_neg (by decide)]
  refine wpAny_pure ?_
  unfold newSet
  refine wpAny_bind (wpAny_bind (by_text ?_))
  dsimp only
  refine wpAny_newObj_type ?_
  exact wpAny_pure h
theorem SetA.keeps {led:Bool} {h h':Heap} {a:Addr} {S:List Str} {n:Nat} (x:SetA w led h a S n) (k:∀ o,h.get? a=some o→h'.get? a=some o):SetA w led h' a S n:=by
  obtain ⟨es,ep,t,e,r⟩:=x
  exact ⟨es,ep,t,k _ e,r⟩
theorem SetA.start {h:Heap} {a:Addr} {led:Bool} (e:h.get? a=some { cls:=.type "set", data:=.set #[] 0 (SetTable.fresh 0 0 led) }):SetA w led h a [] 0:=
  ⟨#[],0,_,e,⟨fun x hx=>by simp at hx,by simp,fun x=>by simp,by rfl,rfl,.inl rfl⟩,Nat.le_refl _⟩
theorem SetA.typeIs {led:Bool} {a:Addr} {S:List Str} {n:Nat} (x:SetA w led s.heap a S n):s.TypeIs (.ref a) "set" := by
  obtain ⟨es,ep,t,e,r⟩:=x
  exact ⟨_,e,rfl⟩
theorem set_loop {led:Bool} {l I S:Addr} {items:Array Value} {ss:List Str} {R:Result→Shared→Prop} (hv:StrsAre items.toList ss) (hh:A.handled=none) (lI:l≠I) (SI:S≠I) (Sl:S≠l) (hn:items.size+1 < scanBound) :
    ∀ (k i:Nat) (s:Shared),items.size - i=k→i≤items.size→s.heap.IsListIter I l i→s.heap.IsList l items→SetA w led s.heap S (ss.take i) i →
      (∀ h' tk,(∀ b o,b≠I→b≠S→s.heap.get? b=some o→h'.get? b=some o)→SetA w led h' S ss items.size→R (.ok (.ret .none)) { s with heap:=h',toks:=tk }) →
      codeAny (model prog w) A (.builtin "set.update.loop" ⟨[.ref S,.ref I],[]⟩) R s
  | 0,i,s,hk,hi,h1,h2,h3,h=>by
    have ei:i=items.size:=by omega
    subst ei
    refine codeAny_builtin F.entry_set_update_loop ?_
    rw [Around.under_plainId F.plain_set_update_loop _]
    show wpAny _ A.in1 (pyNext (.ref I) >>= _) _ _ s
    have Wk:=Walks.list (prog:=prog) (w:=w) (A:=A.in1) hh I l lI items
    have sl:ss.length=items.size:=by have:=hv.length;simpa using this.symm
    refine wpAny_bind (Wk.done s _ _ ⟨h1,h2⟩ fun h' tk kp=>wpAny_pure ?_)
    refine h h' tk (fun b o n1 _ e=>kp b o (by simpa using n1) e) ?_
    have:=h3.keeps (h':=h') fun o e=>kp S o (by simpa using SI) e
    rw [List.take_of_length_le (by omega)] at this
    exact this
  | k+1,i,s,hk,hi,h1,h2,h3,h=>by
    have il:i < items.size:=by omega
    refine codeAny_builtin F.entry_set_update_loop ?_
    rw [Around.under_plainId F.plain_set_update_loop _]
    show wpAny _ A.in1 (pyNext (.ref I) >>= _) _ _ s
    have Wk:=Walks.list (prog:=prog) (w:=w) (A:=A.in1) hh I l lI items
    have sl:ss.length=items.size:=by have:=hv.length;simpa using this.symm
    refine wpAny_bind (Wk.item i s _ _ il ⟨h1,h2⟩ fun v h' tk hP hSt kp=>?_)
    obtain ⟨x,tkx,rfl,hx⟩:∃ x tkx,v=.str x tkx∧ss[i]?=some x:=by
      have hx:ss[i]?=some (ss[i]'(by omega)):=List.getElem?_eq_getElem _
      obtain ⟨u,e1,e2⟩:=(strsAre_get hv).get (i:=i) (x:=V.str (ss[i]'(by omega))) (by rw [List.getElem?_map,hx];rfl)
      rw [Array.getElem?_toList,hP] at e1
      cases e1
      obtain ⟨tkx,e3⟩:=e2
      exact ⟨_,tkx,e3,hx⟩
    have h3':=h3.keeps (h':=h') fun o e=>kp S o (by simpa using SI) e
    dsimp only
    refine wpAny_bind (wpAny_holding (add_text (s:={ s with heap:=h',toks:=tk }) h3' (by omega) fun b h2' sb hA=>?_))
    refine wpAny_pure ⟨plainId_quiet F.plain_set_update_loop _,?_⟩
    have et:ss.take i++[x]=ss.take (i+1):=by rw [List.take_succ,hx];rfl
    rw [et] at hA
    refine set_loop hv hh lI SI Sl hn k (i+1) { s with heap:=h2',toks:=tk+1 } (by omega) (by omega) ?_ ?_ hA fun h4 tk4 k4 hA4=>?_
    · exact hSt.1.at fun o e=>sb.extBut _ _ (Ne.symm SI) e
    · obtain ⟨o,e,r⟩:=hSt.2
      exact ⟨o,sb.extBut _ _ (Ne.symm Sl) e,r⟩
    · exact h h4 tk4 (fun b o n1 n2 e=>k4 b o n1 n2 (sb.extBut _ _ n2 (kp b o (by simpa using n1) e))) hA4
end
end L2
namespace L2
open PySem PySem.Spec PyProof.Rows PySem.W
section
variable {prog:Program} {w:World} {A:Around} {E:Value→Shared→Prop} {s:Shared}
theorem name_set:typeNameCut 200 (Value.type "set")=pure "set" := by kernel_rfl
theorem set_init {D l:Addr} {items:Array Value} {ss:List Str} {Pf:PySem.Fin→Shared→Prop} (hget:s.heap.get? D=some { cls:=.type "set", data:=.set #[] 0 (SetTable.fresh 0 0 (ledOf w)) }) (hl:s.heap.IsList l items) (Dl:D≠l) (hv:StrsAre items.toList ss) (hh:A.handled=none) (hn:items.size+1 < scanBound)
    (h:∀ h' tk,(∀ b o,b≠D→s.heap.get? b=some o→h'.get? b=some o)→SetA w (ledOf w) h' D ss items.size→Pf (.done (.ret .none)) { s with heap:=h',toks:=tk }) :
    wpAny (model prog w) A (Builtin.«set.__init__» ⟨[.ref D,.ref l],[]⟩) Pf E s:=by
  have hT:s.TypeIs (.ref D) "set" := ⟨_,hget,rfl⟩
  have hTl:s.TypeIs (.ref l) "list" := by obtain ⟨o,e,r,_⟩:=hl;exact ⟨o,e,r⟩
  unfold Builtin.«set.__init__»
  refine wpAny_bind ?_
  unfold noKeywords
  show wpAny _ _ (pure ()) _ _ _
  refine wpAny_pure ?_
  dsimp only
  unfold typeNameOfCut shownTypeOf
  refine wpAny_bind (wpAny_bind (wpAny_bind (wpAny_typeOf hT ?_)))
  rw [if_neg (by decide)]
  refine wpAny_pure ?_
  rw [name_set]
  refine wpAny_pure ?_
  refine wpAny_bind ?_
  unfold checkCount
  show wpAny _ _ (pure ()) _ _ _
  refine wpAny_pure ?_
  refine wpAny_bind ?_
  show wpAny _ _ (pure D) _ _ _
  refine wpAny_pure ?_
  refine wpAny_bind ?_
  unfold setUsed
  refine wpAny_bind (wpAny_setState_of hget rfl rfl (wpAny_pure ?_))
  have hfill:(((#[],0,SetTable.fresh 0 0 (ledOf w)):Array (Int × Value) × Nat × SetTable).2.2.fill != 0)=false:=rfl
  rw [hfill,if_neg (by decide)]
  refine wpAny_bind ?_
  unfold Builtin.Frozenset.updateFrom
  refine wpAny_bind ?_
  unfold Builtin.Frozenset.isAnySet
  refine wpAny_bind (wpAny_isInstance hTl F.sub_list_set ?_)
  refine wpAny_isInstance hTl F.sub_list_frozenset ?_
  rw [if_neg (by decide)]
  refine wpAny_bind (wpAny_typeOf hTl ?_)
  rw [if_neg (by decide)]
  have lD:l < s.heap.objs.size:=by obtain ⟨o,e,_⟩:=hl;exact Heap.lt_size e
  have DD:D < s.heap.objs.size:=Heap.lt_size hget
  refine wpAny_bind (wpAny_pyIter_list hl ?_)
  refine wpAny_bind (wpAny_runValue ?_)
  refine set_loop (led:=ledOf w) (l:=l) hv (show A.handled=none from hh) (Nat.ne_of_lt lD) (Nat.ne_of_lt DD) Dl hn items.size 0 { s with heap:=s.heap.push { cls:=.type "list_iterator", data:=.fields #[.ref l,.int 0 0] } } (Nat.sub_zero _) (Nat.zero_le _) ⟨_,Heap.get?_push_size _ rfl,rfl,rfl⟩ (Heap.IsList.push hl _) (SetA.start (Heap.get?_push_of_some _ hget)) fun h' tk kp hA=>?_
  refine wpAny_pure (wpAny_pure ?_)
  exact h h' tk (fun b o n e=>kp b o (Nat.ne_of_lt (Heap.lt_size e)) n (Heap.get?_push_of_some _ e)) hA
theorem set_call {l:Addr} {items:Array Value} {ss:List Str} {Q:Value→Shared→Prop} (hl:s.heap.IsList l items) (hv:StrsAre items.toList ss) (hh:A.handled=none) (hn:items.size+1 < scanBound)
    (h:∀ h' tk,(∀ b o,s.heap.get? b=some o→h'.get? b=some o)→SetA w (ledOf w) h' s.heap.objs.size ss items.size→Q (.ref s.heap.objs.size) { s with heap:=h',toks:=tk }) :
    wpAny (model prog w) A (call (.type "set") [.ref l]) Q E s:=by
  have hlt:l < s.heap.objs.size:=by obtain ⟨o,e,_⟩:=hl;exact Heap.lt_size e
  obtain ⟨c,tl,hmro⟩:=F.called_set.mro
  refine wpAny_call (codeAny_of_tree ?_)
  show wpAny _ _ (pure (Fin.again (.builtin "type.__call__" ⟨[.type "set", .ref l],[]⟩))) _ _ _
  refine wpAny_pure ⟨Code.quiet_builtin _ (by decide +kernel),codeAny_builtin F.entry_type_call ?_⟩
  rw [Around.under_plain (weight_type_call_type "set" [.ref l] []) rfl]
  unfold Builtin.«type.__call__»
  dsimp only
  rw [if_neg (by decide),if_neg (by rw [F.called_set.canCreate];decide)]
  refine wpAny_bind ?_
  rw [F.typeCall_set_1]
  refine wpAny_pure ?_
  refine wpAny_bind ?_
  rw [hmro]
  refine wpAny_pure ?_
  rw [if_neg (by simp)]
  refine wpAny_bind ?_
  rw [F.called_set.made]
  refine wpAny_pure ?_
  dsimp only
  refine wpAny_bind (wpAny_pure ?_)
  refine wpAny_bind (wpAny_holding (wpAny_call ?_))
  refine code_set_new_led _ ?_
  have hget:(s.heap.push { cls:=.type "set", data:=.set #[] 0 (SetTable.fresh 0 0 (ledOf w)) }).get? s.heap.objs.size=some { cls:=.type "set", data:=.set #[] 0 (SetTable.fresh 0 0 (ledOf w)) }:=Heap.get?_push_size _ rfl
  have hT:({ s with heap:=s.heap.push { cls:=.type "set", data:=.set #[] 0 (SetTable.fresh 0 0 (ledOf w)) } }:Shared).TypeIs (.ref s.heap.objs.size) "set" := ⟨_,hget,rfl⟩
  refine wpAny_bind (wpAny_isInstance hT F.called_set.sub ?_)
  rw [if_neg (by decide)]
  refine wpAny_bind (wpAny_holding ?_)
  refine wpAny_callSpecial?_slot hT F.called_set.init (wpAny_call (codeAny_call_builtin F.called_set.init.plain F.entry_set_init (check_set_init_1 hT ?_)))
  refine set_init (s:={ s with heap:=s.heap.push { cls:=.type "set", data:=.set #[] 0 (SetTable.fresh 0 0 (ledOf w)) } }) hget (Heap.IsList.push hl _) (Ne.symm (Nat.ne_of_lt hlt)) hv hh hn fun h' tk kp hA=>?_
  dsimp only
  rw [if_neg (by decide)]
  refine wpAny_pure ?_
  exact h h' tk (fun b o e=>kp b o (Nat.ne_of_lt (Heap.lt_size e)) (Heap.get?_push_of_some _ e)) hA
end
end L2
namespace L2
open PySem PySem.Spec PyProof.Rows PySem.W
theorem slot_seti_next:Slot "set_iterator" (Str.ofString "__next__") "set_iterator.__next__" := Slot.of (owner := "set_iterator") (n := "__next__") (by kernel_rfl) (by kernel_rfl) (by kernel_rfl) (by kernel_rfl) (.inl (by kernel_rfl)) (by kernel_rfl)
theorem entry_seti_next:entryFor table "set_iterator.__next__" = some Builtin.«set_iterator.__next__»:=by kernel_rfl
theorem entry_set_iter:entryFor table "set.__iter__" = some Builtin.«frozenset.__iter__»:=by kernel_rfl
theorem own_seti:List.lookup (String.ofList ['r','o','t','a','r','e','t','i','_','t','e','s'].reverse) Manifest.owners=some Manifest.sig_set_iterator:=by kernel_rfl
theorem args_seti_next (a:Value):argsOk "set_iterator.__next__" { pos:=[a] }:=by
  show (match Manifest.signature? "set_iterator.__next__" with | some sig=>Bind.checkArgs "set_iterator.__next__" sig { pos:=[a] } | none=>pure ())=pure ()
  rw [signature?_of (id := "set_iterator.__next__") (n:=['_','_','t','x','e','n','_','_']) (o:=['r','o','t','a','r','e','t','i','_','t','e','s']) (by kernel_rfl) own_seti]
  kernel_rfl
theorem perm_pick {α:Type}:∀ {xs:List α} {i:Nat} {x:α},xs[i]?=some x→(x :: xs.eraseIdx i).Perm xs
  | [],i,x,h=>by simp at h
  | y :: ys,0,x,h=>by
    have:y=x:=by simpa using h
    subst this
    exact List.Perm.refl _
  | y :: ys,i+1,x,h=>by
    have ih:=perm_pick (xs:=ys) (i:=i) (x:=x) (by simpa using h)
    rw [List.eraseIdx_cons_succ]
    exact (List.Perm.swap y x _).trans (ih.cons y)
theorem pick_go {α:Type} (next:Nat→Nat):∀ (fuel k:Nat) (left:List α) (out:Array α),left.length=fuel→(pickOrder.go next fuel k left out).toList.Perm (out.toList++left)
  | 0,k,left,out,h=>by
    rw [pickOrder.go.eq_1]
    have:left=[]:=List.length_eq_zero_iff.mp h
    rw [this,List.append_nil]
  | fuel+1,k,left,out,h=>by
    have lt:next k % left.length < left.length:=Nat.mod_lt _ (by omega)
    have e:left[next k % left.length]?=some left[next k % left.length]:=List.getElem?_eq_getElem lt
    rw [pickOrder.go.eq_2,e]
    dsimp only
    refine (pick_go next fuel (k+1) _ _ (by rw [List.length_eraseIdx_of_lt lt];omega)).trans ?_
    rw [Array.toList_push,List.append_assoc]
    exact List.Perm.append_left _ (perm_pick e)
theorem pick_perm {α:Type} (next:Nat→Nat) (xs:Array α):(pickOrder next xs).toList.Perm xs.toList:=by
  unfold pickOrder
  have:=pick_go next xs.size 0 xs.toList #[] (by simp)
  simpa using this
section
variable {prog:Program} {w:World} {A:Around} {E:Value→Shared→Prop}
theorem choose_ok {s:Shared} {src:Source} {n:Nat} {Q:Nat→Shared→Prop} (hn:n≠0) (h:∀ i d,i < n→Q i { s with drawn:=d }):wpAny (model prog w) A (choose src n) Q E s:=by
  intro Γ p hΓ
  unfold choose
  rw [Sem.wp_choose]
  refine ⟨hn,?_⟩
  rw [Sem.wp_pure]
  exact h _ _ (Nat.mod_lt _ (by omega))
theorem draw_ok {α:Type}:∀ (n:Nat) (xs:List α) (s:Shared) (Q:List α→Shared→Prop),xs.length=n→(∀ ys d,ys.Perm xs→Q ys { s with drawn:=d })→wpAny (model prog w) A (drawOrder n xs) Q E s
  | 0,xs,s,Q,h,q=>by
    rw [drawOrder.eq_1]
    have:xs=[]:=List.length_eq_zero_iff.mp h
    subst this
    exact wpAny_pure (q [] s.drawn (List.Perm.refl _))
  | n+1,xs,s,Q,h,q=>by
    rw [drawOrder.eq_3 _ _ (fun e=>by rw [e] at h;cases h)]
    refine wpAny_bind (choose_ok (by omega) fun i d hi=>?_)
    have e:xs[i]?=some xs[i]:=List.getElem?_eq_getElem hi
    rw [e]
    dsimp only
    refine wpAny_bind (draw_ok n (xs.eraseIdx i) _ _ (by rw [List.length_eraseIdx_of_lt hi];omega) fun ys d' hp=>?_)
    exact wpAny_pure (q _ _ ((hp.cons _).trans (perm_pick e)))
theorem below_one (p:Nat):SetTable.below #[p] 0=0∧SetTable.below #[p] (p+1)=1:=by
  constructor
  · simp [SetTable.below,SetTable.below.go]
  · simp [SetTable.below,SetTable.below.go]
abbrev setIt (f:Value) (i:Nat) (D:Addr) (n ep:Nat):Obj:={ cls:=.type "set_iterator", data:=.fields #[f,rawInt (i:Int),.ref D,rawInt (n:Int),rawInt (ep:Int)] }
theorem seti_get {h:Heap} {I:Addr} {f g:Value} {i j:Nat} {D:Addr} {n ep:Nat} (e:h.get? I=some (setIt f i D n ep)):(h.update I (Obj.mapFields fun vs=>vs.setIfInBounds 1 (rawInt ((i:Int)+1)))).get? I=some (setIt f (i+1) D n ep):=by
  rw [Heap.get?_update_self _ e rfl]
  rfl
variable {s:Shared}
theorem seti_stop {I:Addr} {o:Obj} {vs:Array Value} {Pf:PySem.Fin→Shared→Prop} (hh:A.handled=none) (ho:s.heap.get? I=some o) (hd:o.data=.fields vs) (h2:2 < vs.size)
    (hE:∀ h' e,Heap.ExtBut I s.heap h'→(∃ o,h'.get? e=some o∧o.cls=.type "StopIteration")→E (.ref e) { s with heap:=h' }) :
    wpAny (model prog w) A (do setField (.ref I) 2 .none;let __do_lift ← newExc (.type "StopIteration") [];raiseNew __do_lift) Pf E s:=by
  refine wpAny_bind (wpAny_setField ho hd h2 ?_)
  refine wpAny_bind ?_
  simp only [newExc,newTuple]
  refine wpAny_bind (wpAny_newObj_type ?_ (by size_fits))
  refine wpAny_bind (m:=firstArgMember _ _) (wpAny_of_eq (a:=Value.none) (by first | rfl | (simp only [firstArgMember];rfl)) ?_)
  refine wpAny_newObj_type ?_ (by size_fits)
  simp only [raiseNew]
  refine wpAny_bind (wpAny_handled ?_)
  rw [hh]
  refine wpAny_bind (wpAny_pure (wpAny_throw ?_))
  exact hE _ _ (((Heap.SameBut.update ..).extBut.push _).push _) ⟨_,Heap.get?_push_size _ rfl,rfl⟩
theorem seti_pre {I D:Addr} {f:Value} {i ep:Nat} {es:Array (Int × Value)} {t:SetTable} {Pf:PySem.Fin→Shared→Prop} (hI:s.heap.get? I=some (setIt f i D es.size ep)) (hD:s.heap.get? D=some { cls:=.type "set", data:=.set es ep t }) (hf:t.fits es.size=true)
    (h:wpAny (model prog w) A (match f with
          | .int slot tok=>do
            let __do_lift ← setNext D slot.toNat i ep
            match __do_lift with
              | some (x,next)=>do
                setField (.ref I) 0 (rawInt next)
                setField (.ref I) 1 (rawInt ((i:Int)+1))
                ret x
              | none=>do
                setField (.ref I) 2 .none
                let __do_lift ← newExc (.type "StopIteration") []
                raiseNew __do_lift
          | x=>do
            let __x ← seqItems? f
            match __x with
              | some places=>
                match places[i]? with
                | some (.int place tok)=>do
                  let x ← setNextDrawn D place.toNat ep
                  setField (.ref I) 1 (rawInt ((i:Int)+1))
                  ret x
                | some val=>unsupported "internal:set_iterator"
                | none=>do
                  setField (.ref I) 0 (rawInt 0)
                  setField (.ref I) 2 .none
                  let __do_lift ← newExc (.type "StopIteration") []
                  raiseNew __do_lift
              | x=>unsupported "internal:set_iterator") Pf E s) :
    wpAny (model prog w) A (Builtin.«set_iterator.__next__» ⟨[.ref I],[]⟩) Pf E s:=by
  unfold Builtin.«set_iterator.__next__»
  refine wpAny_bind ?_
  show wpAny _ _ (pure (Value.ref I,[])) _ _ _
  refine wpAny_pure ?_
  dsimp only
  refine wpAny_bind (wpAny_fieldsOf hI rfl ?_)
  show wpAny _ _ (setEntries D >>= _) _ _ s
  unfold setEntries
  refine wpAny_bind (wpAny_bind (wpAny_setState_of hD rfl hf (wpAny_pure ?_)))
  dsimp only
  rw [if_neg (by simp)]
  simp only [Int.toNat_natCast]
  exact h
theorem setNext_text {D:Addr} {slot i ep:Nat} {es:Array (Int × Value)} {t:SetTable} {Q:Option (Value × Nat)→Shared→Prop} (bt:w.params.followText "set-order" = true) (hD:s.heap.get? D=some { cls:=.type "set", data:=.set es ep t }) (hf:t.fits es.size=true)
    (h:Q (((pickOrder (w.params.setOrder D ep) es)[i]?).map fun e=>(e.2,slot)) s):wpAny (model prog w) A (setNext D slot i ep) Q E s:=by
  unfold setNext
  refine wpAny_bind (wpAny_setState_of hD rfl hf ?_)
  dsimp only
  refine wpAny_bind (by_text ?_)
  rw [bt,if_pos rfl,if_neg (by simp)]
  unfold setWalk
  refine wpAny_bind (wpAny_bind (wpAny_setState_of hD rfl hf ?_))
  dsimp only
  refine wpAny_bind (by_text ?_)
  rw [bt,if_pos rfl]
  refine wpAny_bind (wpAny_askSetting (wpAny_pure (wpAny_pure h)))
theorem setNext_led {D:Addr} {slot i ep:Nat} {es:Array (Int × Value)} {t:SetTable} {Q:Option (Value × Nat)→Shared→Prop} (bt:w.params.followText "set-order" = false) (hD:s.heap.get? D=some { cls:=.type "set", data:=.set es ep t }) (hf:t.fits es.size=true) (hl:t.led=true) (hz:es.size≤1)
    (h:Q (match es[SetTable.below t.place slot]?,t.place[SetTable.below t.place slot]? with | some (_,x),some j=>some (x,j+1) | _,_=>none) s):wpAny (model prog w) A (setNext D slot i ep) Q E s:=by
  unfold setNext
  refine wpAny_bind (wpAny_setState_of hD rfl hf ?_)
  dsimp only
  refine wpAny_bind (by_text ?_)
  rw [bt,if_neg (by decide)]
  rw [if_neg (by
    show ¬ ((!t.plain && decide (es.size > 1))=true)
    rw [decide_eq_false (by omega)]
    simp)]
  refine wpAny_bind ?_
  show wpAny _ _ (if (!t.led && !es.isEmpty)=true then _ else pure ()) _ _ _
  rw [if_neg (by rw [hl];simp)]
  exact wpAny_pure (wpAny_pure h)
end
end L2
namespace L2
open PySem PySem.Spec PyProof.Rows PySem.W
theorem slot_seti_iter:Slot "set_iterator" (Str.ofString "__iter__") "set_iterator.__iter__" := Slot.of (owner := "set_iterator") (n := "__iter__") (by kernel_rfl) (by kernel_rfl) (by kernel_rfl) (by kernel_rfl) (.inl (by kernel_rfl)) (by kernel_rfl)
theorem entry_seti_iter:entryFor table "set_iterator.__iter__" = some Builtin.«dict_keyiterator.__iter__»:=by kernel_rfl
theorem args_seti_iter (a:Value):argsOk "set_iterator.__iter__" { pos:=[a] }:=by
  show (match Manifest.signature? "set_iterator.__iter__" with | some sig=>Bind.checkArgs "set_iterator.__iter__" sig { pos:=[a] } | none=>pure ())=pure ()
  rw [signature?_of (id := "set_iterator.__iter__") (n:=['_','_','r','e','t','i','_','_']) (o:=['r','o','t','a','r','e','t','i','_','t','e','s']) (by kernel_rfl) own_seti]
  kernel_rfl
section
variable {prog:Program} {w:World} {A:Around}
theorem seti_self {E:Value→Shared→Prop} {s:Shared} {I D:Addr} {f:Value} {i n ep:Nat} {Q:Value→Shared→Prop} (hI:s.heap.get? I=some (setIt f i D n ep)) (q:Q (.ref I) s):wpAny (model prog w) A (pyIter (.ref I)) Q E s:=by
  have hT:s.TypeIs (.ref I) "set_iterator" := ⟨_,hI,rfl⟩
  refine wpAny_pyIter_slot hT slot_seti_iter (wpAny_call_entry slot_seti_iter hT entry_seti_iter ?_ (args_seti_iter _))
  exact wpAny_pure ⟨.ref I,rfl, "set_iterator", _,hT,slot_seti_next.lookup,q⟩
theorem seti_next {E:Value→Shared→Prop} {s:Shared} {I D:Addr} {f:Value} {i n ep:Nat} {Q:Option Value→Shared→Prop} (hI:s.heap.get? I=some (setIt f i D n ep))
    (h:wpAny (model prog w) A.in1 (Builtin.«set_iterator.__next__» ⟨[.ref I],[]⟩) (fun fin s'=>∃ v,fin=Fin.done (Flow.ret v)∧Q (some v) s') (fun e s'=>(∃ o,s'.heap.get? (match e with | .ref a=>a | _=>0)=some o∧o.cls=.type "StopIteration")∧(∃ a,e=.ref a)∧Q none s') s) :
    wpAny (model prog w) A (pyNext (.ref I)) Q E s:=by
  have hT:s.TypeIs (.ref I) "set_iterator" := ⟨_,hI,rfl⟩
  unfold pyNext
  refine wpAny_bind (wpAny_attempt (wpAny_callSpecial?_slot (name:=Str.ofString "__next__") hT slot_seti_next (wpAny_call_entry slot_seti_next hT entry_seti_next ?_ (args_seti_next _))))
  refine wpAny_mono h (fun fin s' hf=>?_) (fun e s' he=>?_)
  · obtain ⟨v,e1,q⟩:=hf
    exact ⟨v,e1,wpAny_pure q⟩
  · obtain ⟨⟨o,ho,hc⟩,⟨a,rfl⟩,q⟩:=he
    refine wpAny_bind (wpAny_isInstance (T := "StopIteration") (b:=true) ⟨o,ho,hc⟩ isSubtype_stop ?_)
    exact wpAny_pure q
abbrev setAt (D:Addr) (es:Array (Int × Value)) (ep:Nat) (t:SetTable) (h:Heap):Prop:=h.get? D=some { cls:=.type "set", data:=.set es ep t }
theorem walks_text (bt:w.params.followText "set-order" = true) (hh:A.handled=none) {I D:Addr} (DI:D≠I) {es:Array (Int × Value)} {ep:Nat} {t:SetTable} (hf:t.fits es.size=true) :
    Walks prog w A I [I,D] [I] es.size (fun i v=>((pickOrder (w.params.setOrder D ep) es).toList.map (·.2))[i]?=some v) (fun i h=>h.get? I=some (setIt (rawInt 0) i D es.size ep)∧setAt D es ep t h) where
  sub:=fun b hb=>by simp at hb;simp [hb]
  frame:=fun i h h' st k=>⟨k I (by simp) _ st.1,k D (by simp) _ st.2⟩
  item:=fun i s Q E hi st hQ=>by
    have pz:(pickOrder (w.params.setOrder D ep) es).size=es.size:=by
      have:=(pick_perm (w.params.setOrder D ep) es).length_eq
      simpa using this
    have e:(pickOrder (w.params.setOrder D ep) es)[i]?=some ((pickOrder (w.params.setOrder D ep) es)[i]'(by omega)):=Array.getElem?_eq_getElem _
    refine seti_next st.1 (seti_pre st.1 st.2 hf ?_)
    show wpAny _ _ (setNext D 0 i ep >>= _) _ _ s
    refine wpAny_bind (setNext_text bt st.2 hf ?_)
    rw [e]
    dsimp only [Option.map_some]
    refine wpAny_bind (wpAny_setField st.1 rfl (by simp) ?_)
    have e1:(s.heap.update I (Obj.mapFields fun vs=>vs.setIfInBounds 0 (rawInt ((0:Nat):Int)))).get? I=some (setIt (rawInt 0) i D es.size ep):=by
      rw [Heap.get?_update_self _ st.1 rfl];rfl
    refine wpAny_bind (wpAny_setField (s:={ s with heap:=s.heap.update I (Obj.mapFields fun vs=>vs.setIfInBounds 0 (rawInt ((0:Nat):Int))) }) e1 rfl (by simp) (wpAny_pure ⟨_,rfl,?_⟩))
    refine hQ _ _ s.toks ?_ ⟨seti_get (g:=rawInt 0) (j:=0) e1,?_⟩ (fun b o hb eb=>?_)
    · rw [List.getElem?_map,Array.getElem?_toList,e];rfl
    · exact (Heap.get?_update_ne _ _ _ _ DI).trans ((Heap.get?_update_ne _ _ _ _ DI).trans st.2)
    · have nb:b≠I:=by simpa using hb
      rw [Heap.get?_update_ne _ _ _ _ nb,Heap.get?_update_ne _ _ _ _ nb];exact eb
  done:=fun s Q E st hQ=>by
    have pz:(pickOrder (w.params.setOrder D ep) es).size=es.size:=by
      have:=(pick_perm (w.params.setOrder D ep) es).length_eq
      simpa using this
    refine seti_next st.1 (seti_pre st.1 st.2 hf ?_)
    show wpAny _ _ (setNext D 0 es.size ep >>= _) _ _ s
    refine wpAny_bind (setNext_text bt st.2 hf ?_)
    rw [Array.getElem?_eq_none (by omega)]
    dsimp only [Option.map_none]
    refine seti_stop (show A.in1.handled=none from hh) st.1 rfl (by simp) fun h' e x ho=>⟨ho,⟨e,rfl⟩,hQ h' s.toks fun b o hb eb=>x b o (by simpa using hb) eb⟩
  self:=fun i s Q E st q=>seti_self st.1 q
theorem walks_led (bt:w.params.followText "set-order" = false) (hh:A.handled=none) {I D:Addr} (DI:D≠I) {es:Array (Int × Value)} {ep:Nat} {t:SetTable} (hf:t.fits es.size=true) (hl:t.led=true) (hz:es.size≤1) :
    Walks prog w A I [I,D] [I] es.size (fun i v=>(es.toList.map (·.2))[i]?=some v) (fun i h=>h.get? I=some (setIt (rawInt (if i=0 then 0 else ((t.place.getD 0 0:Nat):Int)+1)) i D es.size ep)∧setAt D es ep t h) where
  sub:=fun b hb=>by simp at hb;simp [hb]
  frame:=fun i h h' st k=>⟨k I (by simp) _ st.1,k D (by simp) _ st.2⟩
  item:=fun i s Q E hi st hQ=>by
    have i0:i=0:=by omega
    subst i0
    have pz:t.place.size=es.size:=by
      unfold SetTable.fits at hf
      simp only [Bool.and_eq_true,beq_iff_eq] at hf
      exact hf.1
    obtain ⟨p,hp⟩:∃ p,t.place=#[p]:=Array.size_eq_one_iff.mp (by omega)
    obtain ⟨en,hen⟩:∃ en,es=#[en]:=Array.size_eq_one_iff.mp (by omega)
    refine seti_next st.1 (seti_pre st.1 st.2 hf ?_)
    show wpAny _ _ (setNext D 0 0 ep >>= _) _ _ s
    refine wpAny_bind (setNext_led bt st.2 hf hl hz ?_)
    rw [hp,(below_one p).1,hen]
    show wpAny _ _ (do setField (.ref I) 0 (rawInt ((p+1:Nat):Int));setField (.ref I) 1 (rawInt (((0:Nat):Int)+1));ret en.2) _ _ s
    refine wpAny_bind (wpAny_setField st.1 rfl (by simp) ?_)
    have e1:(s.heap.update I (Obj.mapFields fun vs=>vs.setIfInBounds 0 (rawInt ((p+1:Nat):Int)))).get? I=some (setIt (rawInt ((p+1:Nat):Int)) 0 D es.size ep):=by
      rw [Heap.get?_update_self _ st.1 rfl];rfl
    refine wpAny_bind (wpAny_setField (s:={ s with heap:=s.heap.update I (Obj.mapFields fun vs=>vs.setIfInBounds 0 (rawInt ((p+1:Nat):Int))) }) e1 rfl (by simp) (wpAny_pure ⟨_,rfl,?_⟩))
    refine hQ _ _ s.toks ?_ ⟨?_,?_⟩ (fun b o hb eb=>?_)
    · rw [hen];rfl
    · have:=seti_get (g:=rawInt 0) (j:=0) e1
      rw [hp]
      exact this
    · exact (Heap.get?_update_ne _ _ _ _ DI).trans ((Heap.get?_update_ne _ _ _ _ DI).trans st.2)
    · have nb:b≠I:=by simpa using hb
      rw [Heap.get?_update_ne _ _ _ _ nb,Heap.get?_update_ne _ _ _ _ nb];exact eb
  done:=fun s Q E st hQ=>by
    have pz:t.place.size=es.size:=by
      unfold SetTable.fits at hf
      simp only [Bool.and_eq_true,beq_iff_eq] at hf
      exact hf.1
    refine seti_next st.1 (seti_pre st.1 st.2 hf ?_)
    have fin:wpAny (model prog w) A.in1 (do setField (.ref I) 2 .none;let __do_lift ← newExc (.type "StopIteration") [];raiseNew __do_lift) (fun fin s'=>∃ v,fin=Fin.done (Flow.ret v)∧Q (some v) s') (fun e s'=>(∃ o,s'.heap.get? (match e with | .ref a=>a | _=>0)=some o∧o.cls=.type "StopIteration")∧(∃ a,e=.ref a)∧Q none s') s:=
      seti_stop (show A.in1.handled=none from hh) st.1 rfl (by simp) fun h' e x ho=>⟨ho,⟨e,rfl⟩,hQ h' s.toks fun b o hb eb=>x b o (by simpa using hb) eb⟩
    rcases Nat.eq_zero_or_pos es.size with z | z
    · rw [if_pos z]
      show wpAny _ _ (setNext D 0 es.size ep >>= _) _ _ s
      refine wpAny_bind (setNext_led bt st.2 hf hl hz ?_)
      have:es=#[]:=Array.eq_empty_of_size_eq_zero z
      rw [this]
      exact fin
    · rw [if_neg (by omega)]
      obtain ⟨p,hp⟩:∃ p,t.place=#[p]:=Array.size_eq_one_iff.mp (by omega)
      obtain ⟨en,hen⟩:∃ en,es=#[en]:=Array.size_eq_one_iff.mp (by omega)
      have e0:((t.place.getD 0 0:Nat):Int)+1=((p+1:Nat):Int):=by rw [hp];rfl
      rw [e0]
      show wpAny _ _ (setNext D (p+1) es.size ep >>= _) _ _ s
      refine wpAny_bind (setNext_led bt st.2 hf hl hz ?_)
      rw [hp,(below_one p).2,hen]
      exact fin
  self:=fun i s Q E st q=>seti_self st.1 q
theorem walks_drawn (hh:A.handled=none) {I D T:Addr} (DI:D≠I) (TI:T≠I) {es:Array (Int × Value)} {ep:Nat} {t:SetTable} (hf:t.fits es.size=true) {ps:List Nat} (hp:ps.Perm (List.range es.size)) :
    Walks prog w A I [I,D,T] [I] es.size (fun i v=>(ps.map fun p=>(es.toList.getD p (0,.none)).2)[i]?=some v) (fun i h=>h.get? I=some (setIt (.ref T) i D es.size ep)∧setAt D es ep t h∧h.get? T=some { cls:=.type "tuple", data:=.seq (ps.map fun p:Nat=>rawInt (p:Int)).toArray }) where
  sub:=fun b hb=>by simp at hb;simp [hb]
  frame:=fun i h h' st k=>⟨k I (by simp) _ st.1,k D (by simp) _ st.2.1,k T (by simp) _ st.2.2⟩
  item:=fun i s Q E hi st hQ=>by
    have pl:ps.length=es.size:=by have:=hp.length_eq;simpa using this
    have ei:ps[i]?=some (ps[i]'(by omega)):=List.getElem?_eq_getElem _
    have pil:ps[i]'(by omega) < es.size:=List.mem_range.mp (hp.mem_iff.mp (List.getElem_mem _))
    refine seti_next st.1 (seti_pre st.1 st.2.1 hf ?_)
    show wpAny _ _ (seqItems? (.ref T) >>= _) _ _ s
    refine wpAny_bind (wpAny_seqItems st.2.2 rfl ?_)
    dsimp only
    have eg:(ps.map fun p:Nat=>rawInt (p:Int)).toArray[i]?=some (.int ((ps[i]'(by omega):Nat):Int) 0):=by
      rw [List.getElem?_toArray,List.getElem?_map,ei];rfl
    rw [eg]
    dsimp only
    unfold setNextDrawn
    refine wpAny_bind (wpAny_bind (wpAny_setState_of st.2.1 rfl hf ?_))
    dsimp only
    rw [if_neg (by simp),Int.toNat_natCast,Array.getElem?_eq_getElem pil]
    dsimp only
    refine wpAny_pure ?_
    refine wpAny_bind (wpAny_setField st.1 rfl (by simp) (wpAny_pure ⟨_,rfl,?_⟩))
    refine hQ _ _ s.toks ?_ ⟨seti_get (g:=rawInt 0) (j:=0) st.1,?_,?_⟩ (fun b o hb eb=>?_)
    · rw [List.getElem?_map,ei]
      show some ((es.toList.getD (ps[i]'(by omega)) (0,.none)).2)=_
      rw [List.getD_eq_getElem?_getD,Array.getElem?_toList,Array.getElem?_eq_getElem pil];rfl
    · exact (Heap.get?_update_ne _ _ _ _ DI).trans st.2.1
    · rw [Heap.get?_update_ne _ _ _ _ TI];exact st.2.2
    · have nb:b≠I:=by simpa using hb
      rw [Heap.get?_update_ne _ _ _ _ nb];exact eb
  done:=fun s Q E st hQ=>by
    have pl:ps.length=es.size:=by have:=hp.length_eq;simpa using this
    refine seti_next st.1 (seti_pre st.1 st.2.1 hf ?_)
    show wpAny _ _ (seqItems? (.ref T) >>= _) _ _ s
    refine wpAny_bind (wpAny_seqItems st.2.2 rfl ?_)
    dsimp only
    rw [show (ps.map fun p:Nat=>rawInt (p:Int)).toArray[es.size]?=none by rw [List.getElem?_toArray,List.getElem?_map,List.getElem?_eq_none (by omega)];rfl]
    dsimp only
    refine wpAny_bind (wpAny_setField st.1 rfl (by simp) ?_)
    have e1:(s.heap.update I (Obj.mapFields fun vs=>vs.setIfInBounds 0 (rawInt 0))).get? I=some (setIt (rawInt 0) es.size D es.size ep):=by
      rw [Heap.get?_update_self _ st.1 rfl];rfl
    refine seti_stop (s:={ s with heap:=s.heap.update I (Obj.mapFields fun vs=>vs.setIfInBounds 0 (rawInt 0)) }) (show A.in1.handled=none from hh) e1 rfl (by simp) fun h' e x ho=>⟨ho,⟨e,rfl⟩,hQ h' s.toks fun b o hb eb=>x b o (by simpa using hb) (by
      have nb:b≠I:=by simpa using hb
      rw [Heap.get?_update_ne _ _ _ _ nb];exact eb)⟩
  self:=fun i s Q E st q=>seti_self st.1 q
end
end L2
namespace L2
open PySem PySem.Spec PyProof.Rows PySem.W
section
variable {prog:Program} {w:World} {A:Around} {E:Value→Shared→Prop} {s:Shared}
theorem range_map_getD {α β:Type} (f:α→β) (l:List α) (d:α):((List.range l.length).map fun p=>f (l.getD p d))=l.map f:=by
  apply List.ext_getElem
  · simp
  · intro i h1 h2
    simp only [List.length_map] at h2
    rw [List.getElem_map,List.getElem_range,List.getElem_map,List.getD_eq_getElem?_getD,List.getElem?_eq_getElem h2];rfl
theorem hint_set {r:Addr} {Q:Bool→Shared→Prop} (hT:s.TypeIs (.ref r) "set") (h:Q false s):wpAny (model prog w) A (Builtin.List.listLengthHint (.ref r)) Q E s:=by
  unfold Builtin.List.listLengthHint
  refine wpAny_bind (wpAny_specialOf hT F.slot_set_len.lookup ?_)
  dsimp only
  rw [show splitId "set.__len__" = some ("set", "__len__") by kernel_rfl]
  dsimp only
  refine wpAny_bind (wpAny_isInstance hT F.sub_set_set ?_)
  rw [if_neg (by decide)]
  refine wpAny_ite_true (by kernel_rfl) ?_
  refine wpAny_bind (wpAny_typeOf hT ?_)
  exact wpAny_pure h
end
end L2
namespace L2
open PySem PySem.Spec PyProof.Rows PySem.W
section
variable {prog:Program} {w:World} {A:Around} {E:Value→Shared→Prop} {s:Shared}
theorem perm_strs:∀ {es:List (Int × Value)} {acc:List Value},(∀ e∈es,∃ x tk,e=(hashStr w x,Value.str x tk))→acc.Perm (es.map (·.2))→∃ ss,StrsAre acc ss∧ss.Perm (es.map keyOf):=fun {es acc} he hp=>by
  let f:Value→Str:=fun v=>match v with | .str x _=>x | _=>Str.empty
  have hall:∀ v∈acc,∃ x tk,v=Value.str x tk:=fun v hv=>by
    obtain ⟨e,hm,rfl⟩:=List.mem_map.mp (hp.mem_iff.mp hv)
    obtain ⟨x,tk,rfl⟩:=he e hm
    exact ⟨x,tk,rfl⟩
  have go:∀ (l:List Value),(∀ v∈l,∃ x tk,v=Value.str x tk)→StrsAre l (l.map f):=fun l=>by
    induction l with
    | nil=>intro _;exact .nil
    | cons v r ih=>
      intro hl
      obtain ⟨x,tk,rfl⟩:=hl v List.mem_cons_self
      exact .cons x tk (ih fun u hu=>hl u (List.mem_cons_of_mem _ hu))
  refine ⟨acc.map f,go acc hall,?_⟩
  have:=hp.map f
  rw [List.map_map] at this
  have e2:es.map (f ∘ fun e=>e.2)=es.map keyOf:=List.map_congr_left fun e _=>rfl
  rw [e2] at this
  exact this
end
end L2
namespace L2
open PySem PySem.Spec PyProof.Rows PySem.W
theorem Inv.drawn {X:Cx} {pins:List (Addr × Obj)} {σ:St} {H:Hp} {s:Shared} (I:Inv X pins σ H s) (d:Drawn):Inv X pins σ H { s with drawn:=d }:=
  ⟨I.ok,I.os,I.bare,I.base,I.loc,I.cell,I.free,I.freeC,I.pin,I.hok,I.len⟩
theorem bt_set:bootBuiltins "set" = some (.type "set"):=by kernel_rfl
theorem bt_sorted':bootBuiltins "sorted" = some (.builtin "sorted"):=by kernel_rfl
section
variable {X:Cx} {a:Expr} {ta:TA} {p p2 pos pos2:Pos}
end
end L2
namespace L2
open PySem PySem.Spec PyProof.Rows
section
variable {κ:Type} [DecidableEq κ]
def valV (kvs:List (κ × V)) (k:κ):Option V:=(kvs.find? fun kv=>decide (kv.1=k)).map (·.2)
def putK (kvs:List (κ × V)) (k:κ) (v:V):List (κ × V):=
  if (kvs.any fun kv=>decide (kv.1=k))=true then kvs.map (fun kv=>if kv.1=k then (kv.1,v) else kv) else kvs++[(k,v)]
theorem valV_pos {p:κ × V} {r:List (κ × V)} {k:κ} (e:p.1=k):valV (p :: r) k=some p.2:=by simp [valV,List.find?_cons,e]
theorem valV_neg {p:κ × V} {r:List (κ × V)} {k:κ} (e:¬ p.1=k):valV (p :: r) k=valV r k:=by simp [valV,List.find?_cons,e]
theorem valV_any (k:κ):∀ kvs:List (κ × V),(kvs.any fun kv=>decide (kv.1=k))=(valV kvs k).isSome
  | []=>rfl
  | p :: r=>by
    rw [List.any_cons]
    by_cases e:p.1=k
    · simp only [valV_pos e,decide_eq_true e,Bool.true_or,Option.isSome_some]
    · rw [valV_neg e,decide_eq_false e,Bool.false_or];exact valV_any k r
theorem length_putK (kvs:List (κ × V)) (k:κ) (v:V):(putK kvs k v).length≤kvs.length+1:=by
  unfold putK
  split
  · rw [List.length_map];omega
  · rw [List.length_append,List.length_cons,List.length_nil];omega
theorem RelO.isSome_eq {o:Option V} {u:Option Value} (r:RelO o u):o.isSome=u.isSome:=by
  cases o with
  | none=>cases u with
    | none=>rfl
    | some _=>exact (show False from r).elim
  | some _=>cases u with
    | none=>exact (show False from r).elim
    | some _=>rfl
theorem RelO.getD {o:Option V} {u:Option Value} {d:V} {d':Value} (r:RelO o u) (rd:RelV d d'):RelV (o.getD d) (u.getD d'):=by
  cases o with
  | none=>cases u with
    | none=>exact rd
    | some _=>exact (show False from r).elim
  | some _=>cases u with
    | none=>exact (show False from r).elim
    | some _=>exact r
theorem KV.val {kvs:List (κ × V)} {vs:List (κ × Value)} (r:KV kvs vs) (k:κ):RelO (valV kvs k) (valueAt vs k):=by
  unfold KV at r
  induction r with
  | nil=>exact True.intro
  | @cons p q ps qs h t ih=>
    obtain ⟨h1,h2⟩:=h
    by_cases e:p.1=k
    · have e':q.1=k:=h1.symm.trans e
      have b:valueAt (q :: qs) k=some q.2:=by simp [valueAt,List.find?_cons,e']
      rw [valV_pos e,b];exact h2
    · have e':¬ q.1=k:=fun z=>e (h1.trans z)
      have b:valueAt (q :: qs) k=valueAt qs k:=by simp [valueAt,List.find?_cons,e']
      rw [valV_neg e,b];exact ih
theorem KV.any {kvs:List (κ × V)} {vs:List (κ × Value)} (r:KV kvs vs) (k:κ):(kvs.any fun kv=>decide (kv.1=k))=vs.any fun kv=>decide (kv.1=k):=by
  unfold KV at r
  induction r with
  | nil=>rfl
  | cons h t ih=>rw [List.any_cons,List.any_cons,ih,h.1]
theorem KV.repl {kvs:List (κ × V)} {vs:List (κ × Value)} (r:KV kvs vs) (k:κ) {y:V} {u:Value} (ry:RelV y u) :
    KV (kvs.map fun kv=>if kv.1=k then (kv.1,y) else kv) (vs.map fun kv=>if kv.1=k then (kv.1,u) else kv):=by
  unfold KV at r ⊢
  induction r with
  | nil=>exact .nil
  | @cons p q ps qs h t ih=>
    rw [List.map_cons,List.map_cons]
    refine .cons ?_ ih
    obtain ⟨h1,h2⟩:=h
    by_cases e:p.1=k
    · rw [if_pos e,if_pos (h1.symm.trans e)];exact ⟨h1,ry⟩
    · rw [if_neg e,if_neg (fun z=>e (h1.trans z))];exact ⟨h1,h2⟩
theorem KV.put {kvs:List (κ × V)} {vs:List (κ × Value)} (r:KV kvs vs) (k:κ) {y:V} {u:Value} (ry:RelV y u):KV (putK kvs k y) (stored vs k u):=by
  unfold putK stored
  rw [r.any k]
  by_cases e:(vs.any fun kv=>decide (kv.1=k))=true
  · rw [if_pos e,if_pos e];exact r.repl k ry
  · rw [if_neg e,if_neg e];exact Paired.snoc r ⟨rfl,ry⟩
theorem KV.keys {kvs:List (κ × V)} {vs:List (κ × Value)} (r:KV kvs vs):kvs.map (·.1)=vs.map (·.1):=by
  unfold KV at r
  induction r with
  | nil=>rfl
  | cons h t ih=>rw [List.map_cons,List.map_cons,ih,h.1]
theorem KV.length {kvs:List (κ × V)} {vs:List (κ × Value)} (r:KV kvs vs):kvs.length=vs.length:=Paired.length r
end
theorem kV_is {P:Program} {w:World} {k:Key} {u:Value} (r:RelV (kV k) u):(mixKind P w).is k u=true:=by
  cases k with
  | inl i=>obtain ⟨t,e⟩:=(show ∃ t,u=Value.int i t from r);subst e;exact mixKind_int P w i t
  | inr x=>obtain ⟨t,e⟩:=(show ∃ t,u=Value.str x t from r);subst e;exact mixKind_str P w x t
theorem items_are {P:Program} {w:World}:∀ {ks:List Key} {us:List Value},Vals (ks.map kV) us→ItemsAre (mixKind P w) ks us
  | [],_,r=>by rw [List.map_nil] at r;cases r;exact .nil
  | k :: ks,_,r=>by
    rw [List.map_cons] at r
    cases r with
    | cons h t=>exact .cons (kV_is h) (items_are t)
abbrev KT (H:Hp):List (List Key × V)→List (List Key × Addr × Value)→Prop:=Paired fun p q=>p.1=q.1∧H q.2.1=some (.tup (p.1.map kV))∧RelV p.2 q.2.2
theorem KT.val {H:Hp} {kvs:List (List Key × V)} {xs:List (List Key × Addr × Value)} (r:KT H kvs xs) (k:List Key):RelO (valV kvs k) ((atKey xs k).map (·.2)):=by
  induction r with
  | nil=>exact True.intro
  | @cons p q ps qs h t ih=>
    obtain ⟨h1,_,h2⟩:=h
    by_cases e:p.1=k
    · have e':q.1=k:=h1.symm.trans e
      have b:atKey (q :: qs) k=some q.2:=by simp [atKey,List.find?_cons,e']
      rw [valV_pos e,b];exact h2
    · have e':¬ q.1=k:=fun z=>e (h1.trans z)
      have b:atKey (q :: qs) k=atKey qs k:=by simp [atKey,List.find?_cons,e']
      rw [valV_neg e,b];exact ih
theorem KT.repl {H:Hp} {kvs:List (List Key × V)} {xs:List (List Key × Addr × Value)} (r:KT H kvs xs) (k:List Key) {y:V} {u:Value} (ry:RelV y u) :
    KT H (kvs.map fun kv=>if kv.1=k then (kv.1,y) else kv) (xs.map (putAt k u)):=by
  induction r with
  | nil=>exact .nil
  | @cons p q ps qs h t ih=>
    rw [List.map_cons,List.map_cons]
    refine .cons ?_ ih
    obtain ⟨h1,h2,h3⟩:=h
    unfold putAt
    by_cases e:p.1=k
    · rw [if_pos e,if_pos (h1.symm.trans e)];exact ⟨h1,h2,ry⟩
    · rw [if_neg e,if_neg (fun z=>e (h1.trans z))];exact ⟨h1,h2,h3⟩
theorem KT.put {H:Hp} {kvs:List (List Key × V)} {xs:List (List Key × Addr × Value)} (r:KT H kvs xs) (k:List Key) {b:Addr} {y:V} {u:Value} (hb:H b=some (.tup (k.map kV))) (ry:RelV y u) :
    KT H (putK kvs k y) (storedH xs k b u):=by
  have e:(kvs.any fun kv=>decide (kv.1=k))=(atKey xs k).isSome:=by
    rw [valV_any,(r.val k).isSome_eq,Option.isSome_map]
  unfold putK storedH
  rw [e]
  by_cases q:(atKey xs k).isSome=true
  · rw [if_pos q,if_pos q];exact r.repl k ry
  · rw [if_neg q,if_neg q];exact Paired.snoc r ⟨rfl,hb,ry⟩
theorem KT.keeps {H H':Hp} {kvs:List (List Key × V)} {xs:List (List Key × Addr × Value)} (r:KT H kvs xs) (ht:∀ b ys,H b=some (.tup ys)→H' b=some (.tup ys)):KT H' kvs xs:=
  Paired.mapP r fun _ _ z=>⟨z.1,ht _ _ z.2.1,z.2.2⟩
section
variable {P:Program} {w:World} {H:Hp} {h:Heap} {a:Addr}
theorem rd_of {u:HO} (ok:HOk P w H h) (e:Rd H a u):ObjOk P w H h a u:=e.ok ok
theorem dk_rd {kvs:List (Key × V)} (ok:HOk P w H h) (e:Rd H a (.dK kvs)):kvs.length≤sizeLine∧(a == sysModules)=false∧∃ vs,KV kvs vs∧h.DictOf (mixKind P w) a vs:=
  show ObjOk P w H h a (.dK kvs) from rd_of ok e
theorem dk_of {kvs:List (Key × V)} (ok:HOk P w H h) (e:H a=some (.dK kvs)):kvs.length≤sizeLine∧(a == sysModules)=false∧∃ vs,KV kvs vs∧h.DictOf (mixKind P w) a vs:=dk_rd ok (.inl e)
theorem key_of {ks:List Key} (ok:HOk P w H h) (e:H a=some (.tup (ks.map kV))):(tupleKind (mixKind P w)).is h ks a:=by
  obtain ⟨_,its,r,o,h1,h2,n,h3⟩:=(show ObjOk P w H h a (.tup (ks.map kV)) from ok a _ e)
  exact ⟨o,its.toArray,n,h1,h2,h3,by simpa using items_are r⟩
theorem dt_rd {kvs:List (List Key × V)} (ok:HOk P w H h) (e:Rd H a (.dT kvs)):kvs.length≤sizeLine∧(a == sysModules)=false ∧
    ∃ xs,KT H kvs xs∧h.DictOfH (tupleKind (mixKind P w)) a xs:=by
  obtain ⟨z,y,xs,r,o,es,ep,h1,h2,h3,h4,h5⟩:=(show ObjOk P w H h a (.dT kvs) from rd_of ok e)
  refine ⟨z,y,xs,r,o,es,ep,h1,h2,h3,h4,fun x hx=>?_,h5⟩
  have all:∀ {l:List (List Key × V)} {m:List (List Key × Addr × Value)},KT H l m→∀ x∈m,(tupleKind (mixKind P w)).is h x.1 x.2.1:=by
    intro l m q
    induction q with
    | nil=>intro x hx;exact nomatch hx
    | @cons p q ps qs hq t ih=>
      intro x hx
      rcases List.mem_cons.mp hx with e | hx
      · subst e
        exact key_of ok (by rw [← hq.1];exact hq.2.1)
      · exact ih x hx
  exact all r x hx
theorem dt_of {kvs:List (List Key × V)} (ok:HOk P w H h) (e:H a=some (.dT kvs)):kvs.length≤sizeLine∧(a == sysModules)=false ∧
    ∃ xs,KT H kvs xs∧h.DictOfH (tupleKind (mixKind P w)) a xs:=dt_rd ok (.inl e)
end
def DGet (H:Hp) (a:Addr) (y:V) (r:Option V):Prop:=
  (∃ kvs k,Rd H a (.dK kvs)∧y=kV k∧r=valV kvs k)∨∃ kvs k b,Rd H a (.dT kvs)∧y=.ref b∧H b=some (.tup (k.map kV))∧r=valV kvs k
def DPut (H:Hp) (a:Addr) (y v:V) (H':Hp):Prop:=
  (∃ kvs k,H a=some (.dK kvs)∧y=kV k∧kvs.length < sizeLine∧H'=upd H a (.dK (putK kvs k v))) ∨
  ∃ kvs k b,H a=some (.dT kvs)∧y=.ref b∧H b=some (.tup (k.map kV))∧kvs.length < sizeLine∧H'=upd H a (.dT (putK kvs k v))
theorem DGet.k {H:Hp} {a:Addr} {kvs:List (Key × V)} {k:Key} (e:H a=some (.dK kvs)):DGet H a (kV k) (valV kvs k):=.inl ⟨kvs,k,.inl e,rfl,rfl⟩
theorem DGet.t {H:Hp} {a b:Addr} {kvs:List (List Key × V)} {k:List Key} (e:H a=some (.dT kvs)) (eb:H b=some (.tup (k.map kV))):DGet H a (.ref b) (valV kvs k):=.inr ⟨kvs,k,b,.inl e,rfl,eb,rfl⟩
theorem DPut.k {H:Hp} {a:Addr} {kvs:List (Key × V)} {k:Key} {v:V} (e:H a=some (.dK kvs)) (hl:kvs.length < sizeLine):DPut H a (kV k) v (upd H a (.dK (putK kvs k v))):=.inl ⟨kvs,k,e,rfl,hl,rfl⟩
theorem DPut.t {H:Hp} {a b:Addr} {kvs:List (List Key × V)} {k:List Key} {v:V} (e:H a=some (.dT kvs)) (eb:H b=some (.tup (k.map kV))) (hl:kvs.length < sizeLine) :
    DPut H a (.ref b) v (upd H a (.dT (putK kvs k v))):=.inr ⟨kvs,k,b,e,rfl,eb,hl,rfl⟩
section
variable {X:Cx} {pins:List (Addr × Obj)} {σ:St} {H:Hp} {s:Shared} {a:Addr} {y v:V} {u r:Value} {o:Option V} {A:Around} {E:Value→Shared→Prop}
theorem Inv.big (I:Inv X pins σ H s):sysModules < s.heap.objs.size:=by
  have h:mainGlobals < s.heap.objs.size:=(I.mod.glob.keeps I.bk).lt
  exact Nat.lt_trans (by decide) h
theorem d_in {Q:Value→Shared→Prop} (hu:A.units+1 < cLine) (I:Inv X pins σ H s) (g:DGet H a y o) (ry:RelV y u) (h:∀ s',Inv X pins σ H s'→Q (.bool o.isSome) s') :
    wpAny (model X.prog X.w) A (compareOp .In u (.ref a)) Q E s:=by
  rcases g with ⟨kvs,k,e,ey,l⟩ | ⟨kvs,k,b,e,ey,eb,l⟩
  · subst ey
    obtain ⟨z,hd,vs,rel,dd⟩:=dk_rd I.hok e
    refine wpAny_in_of (kV_is ry) hd dd.mapOf ?_
    rw [← (rel.val k).isSome_eq,← l]
    exact h _ (I.tok _)
  · subst ey
    cases (show u=Value.ref b from ry)
    obtain ⟨z,hd,xs,rel,dd⟩:=dt_rd I.hok e
    refine wpAny_in_heap (tupleKind_room_in1 hu) (key_of I.hok eb) hd dd ?_
    have q:=(rel.val k).isSome_eq
    rw [Option.isSome_map] at q
    rw [← q,← l]
    exact h _ (I.tok _)
theorem d_write {h':Heap} {t':Nat} {ob:HO} (I:Inv X pins σ H s) (mu:Mut (H a)) (hs:Heap.SameBut a s.heap h') (he:∃ q,h'.get? a=some q) (new:ObjOk X.prog X.w (upd H a ob) h' a ob) :
    Inv X pins σ (upd H a ob) { s with heap:=h',toks:=t' }:=
  I.write (x:=a) (e:=a) mu (.inl rfl) (fun b q hb z=>(hs.2 b hb).trans z) he new
theorem dk_new {P:Program} {w:World} {H':Hp} {h':Heap} {kvs:List (Key × V)} {vs:List (Key × Value)} (z:kvs.length≤sizeLine) (hd:(a == sysModules)=false) (rel:KV kvs vs) (dd:h'.DictOf (mixKind P w) a vs) :
    ObjOk P w H' h' a (.dK kvs):=⟨z,hd,vs,rel,dd⟩
theorem d_setItem {H':Hp} {Q:Unit→Shared→Prop} (hu:A.units+1 < cLine) (I:Inv X pins σ H s) (g:DPut H a y v H') (ry:RelV y u) (rv:RelV v r) (h:∀ s',Inv X pins σ H' s'→Q () s') :
    wpAny (model X.prog X.w) A (setItem (.ref a) u r) Q E s:=by
  rcases g with ⟨kvs,k,e,ey,l,eH⟩ | ⟨kvs,k,b,e,ey,eb,l,eH⟩
  · subst ey eH
    obtain ⟨z,hd,vs,rel,dd⟩:=dk_of I.hok e
    have hz:vs.length≤sizeLine:=by rw [← rel.length];exact z
    have hl:(putK kvs k v).length≤sizeLine:=by have:=length_putK kvs k v;omega
    refine wpAny_setItem_pairs (hsz:=hz) (kV_is ry) dd fun h' dd' hs=>h _ ?_
    have he:∃ q,h'.get? a=some q:=let ⟨q,_,_,hq,_⟩:=dd';⟨q,hq⟩
    exact d_write I (by rw [e];exact True.intro) hs he (dk_new hl hd (rel.put k rv) dd')
  · subst ey eH
    cases (show u=Value.ref b from ry)
    obtain ⟨z,hd,xs,rel,dd⟩:=dt_of I.hok e
    have hz:xs.length≤sizeLine:=by rw [← Paired.length rel];exact z
    have hl:(putK kvs k v).length≤sizeLine:=by have:=length_putK kvs k v;omega
    refine wpAny_setItem_heap (hsz:=hz) (tupleKind_room_in1 hu) (key_of I.hok eb) dd fun h' dd' hs=>h _ ?_
    obtain ⟨q,es,ep,hq,h2,h3,h4,_,h5⟩:=dd'
    refine d_write I (by rw [e];exact True.intro) hs ⟨q,hq⟩ ⟨hl,hd,_,(rel.put k eb rv).keeps fun c ys ec=>?_,q,es,ep,hq,h2,h3,h4,h5⟩
    rw [upd_ne (ne_of ec e (fun z=>nomatch z))]
    exact ec
end
section
variable {X:Cx} {pins:List (Addr × Obj)} {σ:St} {H:Hp} {s:Shared} {a:Addr} {kvs:List (Key × V)} {k:Key} {u:Value} {A:Around} {E:Value→Shared→Prop}
end
def tDIn (ty td:TE):TE:=fun σ H Q=>ty σ H fun y H1=>td σ H1 fun x H2=>∃ a o,x=.ref a∧DGet H2 a y o∧Q (.bl o.isSome) H2
def sDPut (td ty tv:TE):TS:=fun D σ H=>tv σ H fun v H1=>td σ H1 fun x H2=>ty σ H2 fun y H3=>∃ a H4,x=.ref a∧DPut H3 a y v H4∧D.nx σ H4
section
variable {X:Cx} {o i e value:Expr} {pos pos' tpos:Pos} {td ty tv:TE}
theorem pc_din (hu:X.A.units+1 < cLine) (hi:PE X i ty) (ho:PE X o td):PC X .In i o (tDIn ty td):=by
  intro pins s σ H Q I h
  refine thn (hi pins s σ H _ I h) fun iv s1 ⟨y,H1,I1,ry,q1⟩=>thn (ho pins s1 σ H1 _ I1 q1) fun u s2 ⟨x,H2,I2,rx,a,ov,ex,g,q2⟩=>?_
  subst ex
  obtain rfl:u=Value.ref a:=rx
  exact d_in hu I2 g ry fun s3 I3=>⟨.bl ov.isSome,H2,I3,rfl,q2⟩
theorem ps_dput (hu:X.A.units+1 < cLine) (ho:PE X o td) (hi:PE X i ty) (hv:PE X value tv) (hs:swapsWith value (some (.Subscript o i pos')) pos.line X.env=pure false) :
    PS X (.Assign [.Subscript o i pos'] value pos) (sDPut td ty tv):=by
  intro pins s σ H D I h
  refine wpAny_Assign_Subscript (thn (hv pins s σ H _ I h) fun r s1 ⟨v,H1,I1,rv,q1⟩=>thn (ho pins s1 σ H1 _ I1 q1) fun u s2 ⟨x,H2,I2,rx,q2⟩=>thn (hi pins s2 σ H2 _ I2 q2) fun iv s3 ⟨y,H3,I3,ry,a,H4,ex,g,q3⟩=>?_) hs
  subst ex
  obtain rfl:u=Value.ref a:=rx
  exact d_setItem hu I3 g ry rv fun s4 I4=>⟨σ,H4,I4,q3⟩
end
theorem dk_empty {P:Program} {w:World} {H:Hp} (h:Heap) (hb:sysModules < h.objs.size):ObjOk P w H (h.push { cls:=.type "dict", data:=.dict #[] }) h.objs.size (.dK []):=
  ⟨Nat.zero_le _,beq_eq_false_iff_ne.mpr (Ne.symm (Nat.ne_of_lt hb)),[],.nil,Heap.DictOf.new h⟩
def tDNewK:TE:=fun _ H Q=>∀ p,H p=none→Q (.ref p) (upd H p (.dK []))
section
variable {X:Cx} {pos:Pos}
theorem pe_dnewK:PE X (.Dict [] [] pos) tDNewK:=fun pins s σ H Q I h=>
  wpAny_Dict_empty ⟨.ref s.heap.objs.size,_,I.laid (a:=s.heap.objs.size) (o:=.dK []) (t':=s.toks) (fun _ _ q=>Heap.get?_push_of_some _ q) (Nat.le_refl _) (dk_empty s.heap I.big),rfl,h _ (I.hok.fresh (Nat.le_refl _))⟩
end
def mergeK (kvs more:List (Key × V)):List (Key × V):=more.foldl (fun acc kv=>putK acc kv.1 kv.2) kvs
theorem KV.merge:∀ {more:List (Key × V)} {rs:List (Key × Value)} {kvs:List (Key × V)} {vs:List (Key × Value)},KV more rs→KV kvs vs→KV (mergeK kvs more) (merged vs rs):=by
  intro more rs kvs vs r
  unfold KV at r
  induction r generalizing kvs vs with
  | nil=>intro q;exact q
  | @cons p q ps qs h t ih=>
    intro r0
    have e:KV (putK kvs p.1 p.2) (stored vs q.1 q.2):=by
      have:=r0.put p.1 h.2
      rw [← h.1];exact this
    exact ih e
section
variable {X:Cx} {pins:List (Addr × Obj)} {σ:St} {H:Hp} {s:Shared} {a:Addr} {y d:V} {u r:Value} {o:Option V} {A:Around} {E:Value→Shared→Prop}
end
section
variable {X:Cx} {o e f:Expr} {apos cpos:Pos} {td ty tx:TE}
end
section
variable {X:Cx} {pins:List (Addr × Obj)} {σ:St} {H:Hp} {s:Shared} {a:Addr} {kvs:List (Key × V)} {A:Around} {E:Value→Shared→Prop}
end
section
variable {X:Cx} {pins:List (Addr × Obj)} {σ:St} {H:Hp} {s:Shared} {a:Addr} {y:V} {u:Value} {A:Around} {E:Value→Shared→Prop}
end
end L2
namespace L2
open PySem PySem.Spec PyProof.Rows PySem.W
open MeetsSeq MeetsSeq2 MeetsSeq3 SeqRoads2 SeqAt
theorem is_kV {P:Program} {w:World} {k:Key} {u:Value} (h:(mixKind P w).is k u=true):RelV (kV k) u:=by
  cases k with
  | inl i=>obtain ⟨t,e⟩:=PySem.Value.isInt_shape (show Value.isInt i u=true from h);exact ⟨t,e⟩
  | inr x=>obtain ⟨t,e⟩:=PySem.Value.isStrOf_shape (show Value.isStrOf x u=true from h);exact ⟨t,e⟩
theorem kv_get {kvs:List (Key × V)} {vs:List (Key × Value)} (r:KV kvs vs):∀ {i:Nat} {k:Key} {v:V},kvs[i]?=some (k,v)→∃ x,vs[i]?=some (k,x)∧RelV v x:=by
  unfold KV at r
  induction r with
  | nil=>intro i k v h;simp at h
  | @cons p q _ _ h t ih=>
    intro i k v e
    cases i with
    | zero=>
      have e':p=(k,v):=by simpa using e
      subst e'
      obtain ⟨k',x⟩:=q
      obtain ⟨rfl,h2⟩:=h
      exact ⟨x,rfl,h2⟩
    | succ i=>exact ih (by simpa using e)
section
variable {X:Cx} {tg:Expr}
end
section
theorem small10000 {n:Nat} (h:n < 10000):n < sizeLine:=by
  rw [sizeLine_eq];omega
end
section
variable {NL:List Str} {ix:List Nat} {g:TG} {tt:TT} {te:TE} {σ:St} {H1:Hp} {Qs:Hp→Prop} {acc:Addr}
end
section
variable {X:Cx}
end
end L2
namespace L2
open PySem PySem.Spec PyProof.Rows PySem.W
end L2
namespace Tim
open PySem PyProof.Rows
abbrev SM:=StateT SortSt Sem
def gal:Bool→Keyed→Array Keyed→Nat→Nat→Nat→SM (Option Nat):=sortPriv% PySem.Builtin.gallop
def mLo:Array Keyed→Array Keyed→SM (Array Keyed):=sortPriv% PySem.Builtin.mergeLo
def mHi:Array Keyed→Array Keyed→SM (Array Keyed):=sortPriv% PySem.Builtin.mergeHi
abbrev setG (st:SortSt) (g:Nat):SortSt:=SortSt.mk' (kindOf st) (arrOf st) (pendingOf st) g (failedOf st)
def bey (left:Bool) (x:Keyed) (xs:Array Keyed) (b:Nat) (i:Nat):SM (Option Bool):=do
  let p ← elem' xs (b+i)
  if left then lt' p x else return (← lt' x p).map (!·)
theorem gal_eq (left:Bool) (x:Keyed) (xs:Array Keyed) (b n h:Nat):gal left x xs b n h=(do
  let mut la:=0
  let mut o:=1
  let mut l:=0
  let mut r:=0
  let some right ← bey left x xs b h | return none
  if right then
    let mo:=n - h
    for _ in [0:n] do
      if o ≥ mo then break
      let some more ← bey left x xs b (h+o) | return none
      if !more then break
      la:=o
      o:=2 * o+1
    l:=h+la+1
    r:=h+min o mo
  else
    let mo:=h+1
    for _ in [0:n] do
      if o ≥ mo then break
      let some f ← bey left x xs b (h - o) | return none
      if f then break
      la:=o
      o:=2 * o+1
    l:=h+1 - min o mo
    r:=h - la
  for _ in [0:n] do
    if l ≥ r then break
    let m:=l+(r - l) / 2
    let some more ← bey left x xs b m | return none
    if more then l:=m+1 else r:=m
  return some r):=rfl
def putG (g:Nat):SM Unit:=modify fun s=>setG s g
theorem mLo_eq (a b:Array Keyed):mLo a b=(do
  rule "list.sort.merge-lo"
  let tt:=a.size+b.size
  let dn (o:Array Keyed) (p q:Nat):=o++a.extract p a.size++b.extract q b.size
  let la (o:Array Keyed) (p q:Nat):=o++b.extract q b.size++a.extract p a.size
  let mut o:Array Keyed:=#[← elem' b 0]
  let mut p:=0
  let mut q:=1
  if q == b.size then return dn o p q
  if p+1 == a.size then return la o p q
  let mut g:=gallopOf (← get)
  for _ in [0:tt] do
    let mut c:=0
    let mut d:=0
    for _ in [0:tt] do
      let some w ← lt' (← elem' b q) (← elem' a p) | return dn o p q
      if w then
        o:=o.push (← elem' b q);q:=q+1;d:=d+1;c:=0
        if q == b.size then return dn o p q
        if d ≥ g then break
      else
        o:=o.push (← elem' a p);p:=p+1;c:=c+1;d:=0
        if p+1 == a.size then return la o p q
        if c ≥ g then break
    rule "list.sort.gallop"
    g:=g+1
    for _ in [0:tt] do
      if g > 1 then g:=g - 1
      putG g
      let some k ← gal false (← elem' b q) a p (a.size - p) 0 | return dn o p q
      c:=k
      if k > 0 then
        o:=o++a.extract p (p+k);p:=p+k
        if p+1 == a.size then return la o p q
        if p == a.size then return dn o p q
      o:=o.push (← elem' b q);q:=q+1
      if q == b.size then return dn o p q
      let some k ← gal true (← elem' a p) b q (b.size - q) 0 | return dn o p q
      d:=k
      if k > 0 then
        o:=o++b.extract q (q+k);q:=q+k
        if q == b.size then return dn o p q
      o:=o.push (← elem' a p);p:=p+1
      if p+1 == a.size then return la o p q
      if c < 7 && d < 7 then break
    g:=g+1
    putG g
  unsupported "internal:list.sort.merge-bound"):=rfl
theorem mHi_eq (a b:Array Keyed):mHi a b=(do
  rule "list.sort.merge-hi"
  let tt:=a.size+b.size
  let dn (o:Array Keyed) (p q:Nat):=a.extract 0 p++b.extract 0 q++o.reverse
  let fb (o:Array Keyed) (p q:Nat):=b.extract 0 q++a.extract 0 p++o.reverse
  let mut p:=a.size - 1
  let mut q:=b.size
  let mut o:Array Keyed:=#[← elem' a p]
  if p == 0 then return dn o p q
  if q == 1 then return fb o p q
  let mut g:=gallopOf (← get)
  for _ in [0:tt] do
    let mut c:=0
    let mut d:=0
    for _ in [0:tt] do
      let some w ← lt' (← elem' b (q - 1)) (← elem' a (p - 1)) | return dn o p q
      if w then
        p:=p - 1;o:=o.push (← elem' a p);c:=c+1;d:=0
        if p == 0 then return dn o p q
        if c ≥ g then break
      else
        q:=q - 1;o:=o.push (← elem' b q);d:=d+1;c:=0
        if q == 1 then return fb o p q
        if d ≥ g then break
    rule "list.sort.gallop"
    g:=g+1
    for _ in [0:tt] do
      if g > 1 then g:=g - 1
      putG g
      let some f ← gal false (← elem' b (q - 1)) a 0 p (p - 1) | return dn o p q
      let k:=p - f
      c:=k
      if k > 0 then
        o:=o++(a.extract f p).reverse;p:=f
        if p == 0 then return dn o p q
      q:=q - 1;o:=o.push (← elem' b q)
      if q == 1 then return fb o p q
      let some f ← gal true (← elem' a (p - 1)) b 0 q (q - 1) | return dn o p q
      let k:=q - f
      d:=k
      if k > 0 then
        o:=o++(b.extract f q).reverse;q:=f
        if q == 1 then return fb o p q
        if q == 0 then return dn o p q
      p:=p - 1;o:=o.push (← elem' a p)
      if p == 0 then return dn o p q
      if c < 7 && d < 7 then break
    g:=g+1
    putG g
  unsupported "internal:list.sort.merge-bound"):=rfl
theorem mAt_eq (i:Nat):mergeAt' i=(do
  let s ← get
  let (some (u,n,w),some (v,m,_)):=((pendingOf s)[i]?,(pendingOf s)[i+1]?) | unsupported "internal:list.sort.pending"
  set (setPending s (((pendingOf s).setIfInBounds i (u,n+m,w)).eraseIdxIfInBounds (i+1)))
  let some k ← gal false (← elem' (arrOf s) v) (arrOf s) u n 0 | return false
  let (u,n):=(u+k,n - k)
  if n == 0 then return true
  let some m ← gal true (← elem' (arrOf s) (u+n - 1)) (arrOf s) v m (m - 1) | return false
  if m == 0 then return true
  let x:=(arrOf s).extract u v
  let y:=(arrOf s).extract v (v+m)
  let r ← if n≤m then mLo x y else mHi x y
  modify fun s=>setArr s (r.toList.zipIdx.foldl (fun a (p,j)=>a.setIfInBounds (u+j) p) (arrOf s))
  return (failedOf (← get)).isNone):=rfl
end Tim
namespace Tim
open PySem PyProof.Rows
section
variable {prog:Program} {w:World} {A:Around} {E:Value→Shared→Prop} {s:Shared} {a₀:Array Keyed} {κ:SortKind} {O:KeyOrd} {key:Keyed→O.α}
def Cmp (prog:Program) (w:World) (A:Around) (E:Value→Shared→Prop) (s:Shared) (a₀:Array Keyed) (κ:SortKind) (O:KeyOrd) (key:Keyed→O.α):Prop:=
  ∀ (x y:Keyed) (st:SortSt) (Q:Option Bool→SortSt→Prop),x∈a₀→y∈a₀→kindOf st=κ→Q (some (O.blt (key x) (key y))) st→wpS (model prog w) A E s (lt' x y) Q st
theorem wp_elem {xs:Array Keyed} {i:Nat} {p:Keyed} {st:SortSt} {Q:Keyed→SortSt→Prop} (e:xs[i]?=some p) (h:Q p st):wpS (model prog w) A E s (elem' xs i) Q st:=by
  rw [elem'_eq,e]
  exact wpS_pure h
abbrev isB (key:Keyed→O.α) (left:Bool) (x p:Keyed):Bool:=if left then O.blt (key p) (key x) else !O.blt (key x) (key p)
theorem wp_bey (C:Cmp prog w A E s a₀ κ O key) {left:Bool} {x p:Keyed} {xs:Array Keyed} {b i:Nat} {st:SortSt} {Q:Option Bool→SortSt→Prop} (hx:x∈a₀) (hp:p∈a₀) (e:xs[b+i]?=some p) (hk:kindOf st=κ)
    (h:Q (some (isB key left x p)) st):wpS (model prog w) A E s (bey left x xs b i) Q st:=by
  unfold bey
  refine wpS_bind (wp_elem e ?_)
  cases left with
  | true=>exact C p x st Q hp hx hk h
  | false=>exact wpS_bind (C x p st _ hx hp hk (wpS_pure h))
def binL (left:Bool) (x:Keyed) (xs:Array Keyed) (b n l0 r0:Nat):SM (Option Nat):=do
  let mut l:=l0
  let mut r:=r0
  for _ in [0:n] do
    if l ≥ r then break
    let m:=l+(r - l) / 2
    let some more ← bey left x xs b m | return none
    if more then l:=m+1 else r:=m
  return some r
theorem wp_binL {left:Bool} {x:Keyed} {xs:Array Keyed} {b n l0 r0:Nat} {st:SortSt} {Q:Option Nat→SortSt→Prop} (B:Nat→Bool)
    (ask:∀ (i:Nat) (Q':Option Bool→SortSt→Prop),i < n→Q' (some (B i)) st→wpS (model prog w) A E s (bey left x xs b i) Q' st)
    (mono:∀ i j,i≤j→j < n→B j=true→B i=true) (h1:l0≤r0) (h2:r0≤n) (h3:∀ i,i < l0→B i=true) (h4:∀ i,r0≤i→i < n→B i=false)
    (h:∀ k,k≤n→(∀ i,i < k→B i=true)→(∀ i,k≤i→i < n→B i=false)→Q (some k) st):wpS (model prog w) A E s (binL left x xs b n l0 r0) Q st:=by
  unfold binL
  refine wpS_bind (wpS_mono (wpS_forRange (I:=fun t c st'=>st'=st∧∃ l r,c=(none,l,r)∧l≤r∧r≤n∧r - l≤n - t∧(∀ i,i < l→B i=true)∧(∀ i,r≤i→i < n→B i=false))
    (Q:=fun c st'=>st'=st∧∃ l,c=(none,l,l)∧l≤n∧(∀ i,i < l→B i=true)∧(∀ i,l≤i→i < n→B i=false)) ?step ?fin ⟨rfl,l0,r0,rfl,h1,h2,by omega,h3,h4⟩) ?post)
  case post=>
    rintro c st' ⟨rfl,l,rfl,a,b,c⟩
    exact wpS_pure (h l a b c)
  case fin=>
    rintro c st' ⟨rfl,l,r,rfl,a1,a2,a3,a4,a5⟩
    have:r=l:=by omega
    subst this
    exact ⟨rfl,r,rfl,a2,a4,a5⟩
  case step=>
    rintro t c st' _ ht ⟨rfl,l,r,rfl,a1,a2,a3,a4,a5⟩
    dsimp only
    by_cases g:l ≥ r
    · rw [if_pos g]
      have:r=l:=by omega
      subst this
      exact wpS_pure ⟨rfl,r,rfl,a2,a4,a5⟩
    · rw [if_neg g]
      refine wpS_bind (ask _ _ (by omega) ?_)
      dsimp only
      cases e:B (l+(r - l) / 2) with
      | true=>
        rw [if_pos rfl]
        exact wpS_pure ⟨rfl,_,r,rfl,by omega,a2,by omega,fun i hi=>mono i _ (by omega) (by omega) e,a5⟩
      | false=>
        rw [if_neg (by simp)]
        refine wpS_pure ⟨rfl,l,_,rfl,by omega,by omega,by omega,a4,fun i hi hn=>?_⟩
        cases e':B i with
        | false=>rfl
        | true=>rw [mono _ i hi hn e'] at e;cases e
theorem wp_gal (C:Cmp prog w A E s a₀ κ O key) {left:Bool} {x:Keyed} {xs:Array Keyed} {b n hn:Nat} {st:SortSt} {Q:Option Nat→SortSt→Prop} (B:Nat→Bool) (hx:x∈a₀) (hk:kindOf st=κ)
    (hB:∀ i,i < n→∃ p,xs[b+i]?=some p∧p∈a₀∧B i=isB key left x p) (mono:∀ i j,i≤j→j < n→B j=true→B i=true) (hh:hn < n)
    (h:∀ k,k≤n→(∀ i,i < k→B i=true)→(∀ i,k≤i→i < n→B i=false)→Q (some k) st):wpS (model prog w) A E s (gal left x xs b n hn) Q st:=by
  have ask:∀ (i:Nat) (Q':Option Bool→SortSt→Prop),i < n→Q' (some (B i)) st→wpS (model prog w) A E s (bey left x xs b i) Q' st:=fun i Q' hi hq=>by
    obtain ⟨p,e1,e2,e3⟩:=hB i hi
    rw [e3] at hq
    exact wp_bey C hx e2 e1 hk hq
  have off:∀ i j,i≤j→j < n→B i=false→B j=false:=fun i j hij hj e=>by
    cases e':B j with
    | false=>rfl
    | true=>rw [mono i j hij hj e'] at e;cases e
  rw [gal_eq]
  refine wpS_bind (ask hn _ hh ?_)
  dsimp only
  cases e:B hn with
  | true=>
    rw [if_pos rfl]
    refine wpS_bind (wpS_mono (wpS_forRange (I:=fun t c st'=>st'=st∧∃ la o,c=(none,la,o)∧la < o∧t < o∧hn+la < n∧B (hn+la)=true)
      (Q:=fun c st'=>st'=st∧∃ la o,c=(none,la,o)∧la < o∧hn+la < n∧B (hn+la)=true∧(n - hn≤o∨(hn+o < n∧B (hn+o)=false))) ?step ?fin ⟨rfl,0,1,rfl,by omega,by omega,hh,e⟩) ?post)
    case post=>
      rintro c st' ⟨rfl,la,o,rfl,a1,a2,a3,a4⟩
      exact wp_binL (l0:=hn+la+1) (r0:=hn+min o (n - hn)) B ask mono (by omega) (by omega) (fun i hi=>mono i _ (by omega) a2 a3) (fun i hi hn'=>by
        rcases a4 with a4 | a4
        · omega
        · exact off _ i (by omega) hn' a4.2) h
    case fin=>
      rintro c st' ⟨rfl,la,o,rfl,a1,a2,a3,a4⟩
      exact ⟨rfl,la,o,rfl,a1,a3,a4,.inl (by omega)⟩
    case step=>
      rintro t c st' _ ht ⟨rfl,la,o,rfl,a1,a2,a3,a4⟩
      dsimp only
      by_cases g:o ≥ n - hn
      · rw [if_pos g]
        exact wpS_pure ⟨rfl,la,o,rfl,a1,a3,a4,.inl g⟩
      · rw [if_neg g]
        refine wpS_bind (ask _ _ (by omega) ?_)
        dsimp only
        cases e':B (hn+o) with
        | true=>
          rw [if_neg (by simp)]
          exact wpS_pure ⟨rfl,o,_,rfl,by omega,by omega,by omega,e'⟩
        | false=>
          rw [if_pos (by simp)]
          exact wpS_pure ⟨rfl,la,o,rfl,a1,a3,a4,.inr ⟨by omega,e'⟩⟩
  | false=>
    rw [if_neg (by simp)]
    refine wpS_bind (wpS_mono (wpS_forRange (I:=fun t c st'=>st'=st∧∃ la o,c=(none,la,o)∧la < o∧t < o∧la≤hn∧B (hn - la)=false)
      (Q:=fun c st'=>st'=st∧∃ la o,c=(none,la,o)∧la < o∧la≤hn∧B (hn - la)=false∧(hn+1≤o∨(o≤hn∧B (hn - o)=true))) ?step ?fin ⟨rfl,0,1,rfl,by omega,by omega,by omega,e⟩) ?post)
    case post=>
      rintro c st' ⟨rfl,la,o,rfl,a1,a2,a3,a4⟩
      exact wp_binL (l0:=hn+1 - min o (hn+1)) (r0:=hn - la) B ask mono (by omega) (by omega) (fun i hi=>by
        rcases a4 with a4 | a4
        · omega
        · exact mono i _ (by omega) (by omega) a4.2) (fun i hi hn'=>off _ i (by omega) hn' a3) h
    case fin=>
      rintro c st' ⟨rfl,la,o,rfl,a1,a2,a3,a4⟩
      exact ⟨rfl,la,o,rfl,a1,a3,a4,.inl (by omega)⟩
    case step=>
      rintro t c st' _ ht ⟨rfl,la,o,rfl,a1,a2,a3,a4⟩
      dsimp only
      by_cases g:o ≥ hn+1
      · rw [if_pos g]
        exact wpS_pure ⟨rfl,la,o,rfl,a1,a3,a4,.inl g⟩
      · rw [if_neg g]
        refine wpS_bind (ask _ _ (by omega) ?_)
        dsimp only
        cases e':B (hn - o) with
        | false=>
          rw [if_neg (by simp)]
          exact wpS_pure ⟨rfl,o,_,rfl,by omega,by omega,by omega,e'⟩
        | true=>
          rw [if_pos rfl]
          exact wpS_pure ⟨rfl,la,o,rfl,a1,a3,a4,.inr ⟨by omega,e'⟩⟩
def mrg (key:Keyed→O.α):List Keyed→List Keyed→List Keyed
  | [],ys=>ys
  | x :: xs,[]=>x :: xs
  | x :: xs,y :: ys=>if O.blt (key y) (key x)=true then y :: mrg key (x :: xs) ys else x :: mrg key xs (y :: ys)
termination_by xs ys=>xs.length+ys.length
abbrev Srt (key:Keyed→O.α) (l:List Keyed):Prop:=l.Pairwise fun x y=>O.blt (key y) (key x)=false
theorem mrg_nil (ys:List Keyed):mrg key [] ys=ys:=by unfold mrg;rfl
theorem mrg_nil':∀ (xs:List Keyed),mrg key xs []=xs
  | []=>mrg_nil _
  | x :: xs=>by unfold mrg;rfl
theorem mrg_cons (x y:Keyed) (xs ys:List Keyed):mrg key (x :: xs) (y :: ys)=if O.blt (key y) (key x)=true then y :: mrg key (x :: xs) ys else x :: mrg key xs (y :: ys):=by
  rw [mrg]
theorem mrg_lefts (y:Keyed) (ys xs:List Keyed):∀ us:List Keyed,(∀ x∈us,O.blt (key y) (key x)=false)→mrg key (us++xs) (y :: ys)=us++mrg key xs (y :: ys)
  | [],_=>rfl
  | u :: us,h=>by
    rw [List.cons_append,mrg_cons,if_neg (by rw [h u List.mem_cons_self];simp),mrg_lefts y ys xs us fun x hx=>h x (List.mem_cons_of_mem _ hx)]
    rfl
theorem mrg_rights (x:Keyed) (xs ys:List Keyed):∀ us:List Keyed,(∀ y∈us,O.blt (key y) (key x)=true)→mrg key (x :: xs) (us++ys)=us++mrg key (x :: xs) ys
  | [],_=>rfl
  | u :: us,h=>by
    rw [List.cons_append,mrg_cons,if_pos (h u List.mem_cons_self),mrg_rights x xs ys us fun x hx=>h x (List.mem_cons_of_mem _ hx)]
    rfl
theorem mrg_one (x:Keyed) (ys:List Keyed) (h:∀ y∈ys,O.blt (key y) (key x)=true):mrg key [x] ys=ys++[x]:=by
  have:=mrg_rights (O:=O) x [] [] ys h
  rw [List.append_nil,mrg_nil'] at this
  exact this
theorem mrg_first (y:Keyed) (xs:List Keyed) (h:∀ x∈xs,O.blt (key y) (key x)=true):mrg key xs [y]=y :: xs:=by
  cases xs with
  | nil=>exact mrg_nil _
  | cons x xs=>rw [mrg_cons,if_pos (h x List.mem_cons_self),mrg_nil']
theorem mrg_snocL (x:Keyed):∀ (xs zs:List Keyed),(∀ z∈zs,O.blt (key z) (key x)=true)→mrg key (xs++[x]) zs=mrg key xs zs++[x]
  | [],zs,h=>by rw [List.nil_append,mrg_one x zs h,mrg_nil]
  | u :: us,[],h=>by rw [mrg_nil',mrg_nil']
  | u :: us,z :: zs,h=>by
    rw [List.cons_append,mrg_cons,mrg_cons]
    split
    · have:=mrg_snocL x (u :: us) zs fun z hz=>h z (List.mem_cons_of_mem _ hz)
      rw [← List.cons_append,this];rfl
    · rw [mrg_snocL x us (z :: zs) h];rfl
termination_by xs zs=>xs.length+zs.length
theorem mrg_snocR (y:Keyed):∀ (xs zs:List Keyed),(∀ x∈xs,O.blt (key y) (key x)=false)→mrg key xs (zs++[y])=mrg key xs zs++[y]
  | [],zs,h=>by rw [mrg_nil,mrg_nil]
  | u :: us,[],h=>by
    have:=mrg_lefts (O:=O) y [] [] (u :: us) h
    rw [List.append_nil,mrg_nil] at this
    rw [List.nil_append,mrg_nil']
    exact this
  | u :: us,z :: zs,h=>by
    rw [List.cons_append,mrg_cons,mrg_cons]
    split
    · rw [mrg_snocR y (u :: us) zs h];rfl
    · have:=mrg_snocR y us (z :: zs) fun x hx=>h x (List.mem_cons_of_mem _ hx)
      rw [← List.cons_append,this];rfl
termination_by xs zs=>xs.length+zs.length
theorem mrg_snocLs (zs:List Keyed):∀ (us xs:List Keyed),(∀ u∈us,∀ z∈zs,O.blt (key z) (key u)=true)→mrg key (xs++us) zs=mrg key xs zs++us
  | [],xs,_=>by rw [List.append_nil,List.append_nil]
  | u :: us,xs,h=>by
    have e:=mrg_snocLs zs us (xs++[u]) fun v hv=>h v (List.mem_cons_of_mem _ hv)
    rw [mrg_snocL u _ _ (h u List.mem_cons_self),List.append_assoc,List.append_assoc] at e
    exact e
theorem mrg_snocRs (xs:List Keyed):∀ (us zs:List Keyed),(∀ u∈us,∀ x∈xs,O.blt (key u) (key x)=false)→mrg key xs (zs++us)=mrg key xs zs++us
  | [],zs,_=>by rw [List.append_nil,List.append_nil]
  | u :: us,zs,h=>by
    have e:=mrg_snocRs xs us (zs++[u]) fun v hv=>h v (List.mem_cons_of_mem _ hv)
    rw [mrg_snocR u _ _ (h u List.mem_cons_self),List.append_assoc,List.append_assoc] at e
    exact e
theorem mrg_perm:∀ (xs ys:List Keyed),(mrg key xs ys).Perm (xs++ys)
  | [],ys=>by rw [mrg_nil];exact .refl _
  | x :: xs,[]=>by rw [mrg_nil',List.append_nil]
  | x :: xs,y :: ys=>by
    rw [mrg_cons]
    split
    · exact ((mrg_perm (x :: xs) ys).cons y).trans List.perm_middle.symm
    · exact (mrg_perm xs (y :: ys)).cons x
termination_by xs ys=>xs.length+ys.length
theorem kle_tr {x y z:Keyed} (h1:O.blt (key y) (key x)=false) (h2:O.blt (key z) (key y)=false):O.blt (key z) (key x)=false:=KeyOrd.kle_trans (O:=O) (a:=key x) (b:=key y) (c:=key z) h1 h2
theorem kle_lt {x y:Keyed} (h:O.blt (key x) (key y)=true):O.blt (key y) (key x)=false:=KeyOrd.klt_asymm (O:=O) (a:=key x) (b:=key y) h
theorem mrg_srt:∀ (xs ys:List Keyed),Srt key xs→Srt key ys→Srt key (mrg key xs ys)
  | [],ys,_,h=>by rw [mrg_nil];exact h
  | x :: xs,[],h,_=>by rw [mrg_nil'];exact h
  | x :: xs,y :: ys,h1,h2=>by
    have k1:=List.pairwise_cons.mp h1
    have k2:=List.pairwise_cons.mp h2
    rw [mrg_cons]
    split
    · rename_i e
      refine List.pairwise_cons.mpr ⟨fun z hz=>?_,mrg_srt (x :: xs) ys h1 k2.2⟩
      rcases List.mem_append.mp ((mrg_perm _ _).mem_iff.mp hz) with hz | hz
      · rcases List.mem_cons.mp hz with rfl | hz
        · exact kle_lt e
        · exact kle_tr (kle_lt e) (k1.1 z hz)
      · exact k2.1 z hz
    · rename_i e
      have e':O.blt (key y) (key x)=false:=by simpa using e
      refine List.pairwise_cons.mpr ⟨fun z hz=>?_,mrg_srt xs (y :: ys) k1.2 h2⟩
      rcases List.mem_append.mp ((mrg_perm _ _).mem_iff.mp hz) with hz | hz
      · exact k1.1 z hz
      · rcases List.mem_cons.mp hz with rfl | hz
        · exact e'
        · exact kle_tr e' (k2.1 z hz)
termination_by xs ys=>xs.length+ys.length
end
end Tim
namespace Tim
open PySem PyProof.Rows
section
variable {prog:Program} {w:World} {A:Around} {E:Value→Shared→Prop} {s:Shared} {a₀:Array Keyed} {κ:SortKind} {O:KeyOrd} {key:Keyed→O.α}
structure Two (key:Keyed→O.α) (a₀ a b:Array Keyed):Prop where
  ma:∀ x∈a,x∈a₀
  mb:∀ x∈b,x∈a₀
  na:1≤a.size
  nb:1≤b.size
  sa:Srt key a.toList
  sb:Srt key b.toList
  fst:∀ x∈a,∀ y,b[0]?=some y→O.blt (key y) (key x)=true
  lst:∀ y∈b,∀ x,a[a.size - 1]?=some x→O.blt (key y) (key x)=true
theorem drop_at {a:Array Keyed} {p:Nat} {x:Keyed} (e:a[p]?=some x):a.toList.drop p=x :: a.toList.drop (p+1):=by
  obtain ⟨h,rfl⟩:=Array.getElem?_eq_some_iff.mp e
  rw [List.drop_eq_getElem_cons (by simpa using h)]
  simp
theorem ext_all (a:Array Keyed) (p:Nat):(a.extract p a.size).toList=a.toList.drop p:=by
  rw [Array.toList_extract,List.extract_eq_drop_take]
  exact List.take_of_length_le (by simp)
theorem ext_mid (a:Array Keyed) (p k:Nat):(a.extract p (p+k)).toList=(a.toList.drop p).take k:=by
  rw [Array.toList_extract,List.extract_eq_drop_take,Nat.add_sub_cancel_left]
theorem mem_mid {a:Array Keyed} {p k:Nat} {z:Keyed} (hz:z∈(a.toList.drop p).take k):∃ i,i < k∧a[p+i]?=some z:=by
  obtain ⟨i,hi,rfl⟩:=List.getElem_of_mem hz
  have hi':i < min k (a.size - p):=by simpa using hi
  refine ⟨i,by omega,?_⟩
  rw [List.getElem_take,List.getElem_drop,Array.getElem_toList,Array.getElem?_eq_getElem]
theorem mem_at {a:Array Keyed} {i:Nat} {x:Keyed} (e:a[i]?=some x):x∈a:=Array.mem_of_getElem? e
theorem at_lt {a:Array Keyed} {i:Nat} (h:i < a.size):∃ x,a[i]?=some x:=⟨_,Array.getElem?_eq_getElem h⟩
def LoI (key:Keyed→O.α) (a b o:Array Keyed) (p q:Nat):Prop:=o.toList++mrg key (a.toList.drop p) (b.toList.drop q)=mrg key a.toList b.toList
section
variable {a b o:Array Keyed} {p q k:Nat} {x y:Keyed}
theorem lo_b (I:LoI key a b o p q) (ex:a[p]?=some x) (ey:b[q]?=some y) (h:O.blt (key y) (key x)=true):LoI key a b (o.push y) p (q+1):=by
  unfold LoI at I ⊢
  rw [drop_at ex,drop_at ey,mrg_cons,if_pos h] at I
  rw [drop_at ex,Array.toList_push,List.append_assoc]
  exact I
theorem lo_a (I:LoI key a b o p q) (ex:a[p]?=some x) (ey:b[q]?=some y) (h:O.blt (key y) (key x)=false):LoI key a b (o.push x) (p+1) q:=by
  unfold LoI at I ⊢
  rw [drop_at ex,drop_at ey,mrg_cons,if_neg (by rw [h];simp)] at I
  rw [drop_at ey,Array.toList_push,List.append_assoc]
  exact I
theorem lo_as (I:LoI key a b o p q) (ey:b[q]?=some y) (h:∀ i x,i < k→a[p+i]?=some x→O.blt (key y) (key x)=false):LoI key a b (o++a.extract p (p+k)) (p+k) q:=by
  unfold LoI at I ⊢
  rw [drop_at ey] at I ⊢
  rw [Array.toList_append,ext_mid,List.append_assoc,← I]
  conv=>rhs;rw [← List.take_append_drop k (a.toList.drop p)]
  rw [mrg_lefts y _ _ _ fun z hz=>by obtain ⟨i,hi,e⟩:=mem_mid hz;exact h i z hi e,List.drop_drop]
theorem lo_bs (I:LoI key a b o p q) (ex:a[p]?=some x) (h:∀ i y,i < k→b[q+i]?=some y→O.blt (key y) (key x)=true):LoI key a b (o++b.extract q (q+k)) p (q+k):=by
  unfold LoI at I ⊢
  rw [drop_at ex] at I ⊢
  rw [Array.toList_append,ext_mid,List.append_assoc,← I]
  conv=>rhs;rw [← List.take_append_drop k (b.toList.drop q)]
  rw [mrg_rights x _ _ _ fun z hz=>by obtain ⟨i,hi,e⟩:=mem_mid hz;exact h i z hi e,List.drop_drop]
theorem lo_dnB (I:LoI key a b o p q) (h:q=b.size):(o++a.extract p a.size++b.extract q b.size).toList=mrg key a.toList b.toList:=by
  unfold LoI at I
  rw [Array.toList_append,Array.toList_append,ext_all,ext_all,← I,List.drop_of_length_le (l:=b.toList) (by simp [h]),mrg_nil',List.append_nil]
theorem lo_dnA (I:LoI key a b o p q) (h:p=a.size):(o++a.extract p a.size++b.extract q b.size).toList=mrg key a.toList b.toList:=by
  unfold LoI at I
  rw [Array.toList_append,Array.toList_append,ext_all,ext_all,← I,List.drop_of_length_le (l:=a.toList) (by simp [h]),mrg_nil,List.append_nil]
theorem lo_la (T:Two key a₀ a b) (I:LoI key a b o p q) (h:p+1=a.size):(o++b.extract q b.size++a.extract p a.size).toList=mrg key a.toList b.toList:=by
  obtain ⟨x,ex⟩:=at_lt (a:=a) (i:=p) (by omega)
  unfold LoI at I
  rw [drop_at ex,List.drop_of_length_le (l:=a.toList) (i:=p+1) (by simp [h]),mrg_one x _ fun y hy=>T.lst y (Array.mem_toList_iff.mp (List.mem_of_mem_drop hy)) x (by rw [← ex];congr 1;omega)] at I
  rw [Array.toList_append,Array.toList_append,ext_all,ext_all,← I,drop_at ex,List.drop_of_length_le (l:=a.toList) (i:=p+1) (by simp [h]),List.append_assoc]
end
abbrev LSt:=Option (Array Keyed) × Array Keyed × Nat × Nat × Nat × Nat × Nat
def loD (a b o:Array Keyed) (p q g c d:Nat):SM (ForInStep LSt):=do
  let x ← elem' a p
  if p+1+1 == a.size then return .done (some (o.push x++b.extract q b.size++a.extract (p+1) a.size),o.push x,p+1,q,g,c,d)
  else if c < 7 && d < 7 then return .done (none,o.push x,p+1,q,g,c,d)
  else return .yield (none,o.push x,p+1,q,g,c,d)
def loC (a b o:Array Keyed) (p q g c d:Nat):SM (ForInStep LSt):=do
  let y ← elem' b q
  if q+1 == b.size then return .done (some (o.push y++a.extract p a.size++b.extract (q+1) b.size),o.push y,p,q+1,g,c,d)
  else
    let x ← elem' a p
    let some k ← gal true x b (q+1) (b.size - (q+1)) 0 | return .done (some (o.push y++a.extract p a.size++b.extract (q+1) b.size),o.push y,p,q+1,g,c,d)
    if k > 0 then
      if q+1+k == b.size then return .done (some (o.push y++b.extract (q+1) (q+1+k)++a.extract p a.size++b.extract (q+1+k) b.size),o.push y++b.extract (q+1) (q+1+k),p,q+1+k,g,c,k)
      else loD a b (o.push y++b.extract (q+1) (q+1+k)) p (q+1+k) g c k
    else loD a b (o.push y) p (q+1) g c k
def loB (a b o:Array Keyed) (p q g c d:Nat):SM (ForInStep LSt):=do
  putG g
  let y ← elem' b q
  let some k ← gal false y a p (a.size - p) 0 | return .done (some (o++a.extract p a.size++b.extract q b.size),o,p,q,g,c,d)
  if k > 0 then
    if p+k+1 == a.size then return .done (some (o++a.extract p (p+k)++b.extract q b.size++a.extract (p+k) a.size),o++a.extract p (p+k),p+k,q,g,k,d)
    else if p+k == a.size then return .done (some (o++a.extract p (p+k)++a.extract (p+k) a.size++b.extract q b.size),o++a.extract p (p+k),p+k,q,g,k,d)
    else loC a b (o++a.extract p (p+k)) (p+k) q g k d
  else loC a b o p q g k d
def loA (a b:Array Keyed) (c:LSt):SM (ForInStep LSt):=
  if c.2.2.2.2.1 > 1 then loB a b c.2.1 c.2.2.1 c.2.2.2.1 (c.2.2.2.2.1 - 1) c.2.2.2.2.2.1 c.2.2.2.2.2.2
  else loB a b c.2.1 c.2.2.1 c.2.2.2.1 c.2.2.2.2.1 c.2.2.2.2.2.1 c.2.2.2.2.2.2
structure GoesOn (key:Keyed→O.α) (a b:Array Keyed) (st:SortSt) (m:Nat) (R:ForInStep LSt→SortSt→Prop):Prop where
  fin:∀ (out:Array Keyed) c g,out.toList=mrg key a.toList b.toList→R (.done (some out,c)) (setG st g)
  brk:∀ o p q g c d g',LoI key a b o p q→p+1 < a.size→q < b.size→m≤p+q→R (.done (none,o,p,q,g,c,d)) (setG st g')
  yld:∀ o p q g c d g',LoI key a b o p q→p+1 < a.size→q < b.size→m≤p+q→R (.yield (none,o,p,q,g,c,d)) (setG st g')
section
variable {a b o:Array Keyed} {p q k g c d m g':Nat} {x y:Keyed} {st:SortSt} {R:ForInStep LSt→SortSt→Prop}
theorem wp_loD (T:Two key a₀ a b) (G:GoesOn key a b st m R) (I:LoI key a b o p q) (hp:p+1 < a.size) (hq:q < b.size) (hm:m≤p+1+q) (h:∀ x y,a[p]?=some x→b[q]?=some y→O.blt (key y) (key x)=false) :
    wpS (model prog w) A E s (loD a b o p q g c d) R (setG st g'):=by
  obtain ⟨x,ex⟩:=at_lt (a:=a) (i:=p) (by omega)
  obtain ⟨y,ey⟩:=at_lt hq
  unfold loD
  refine wpS_bind (wp_elem ex ?_)
  have I':=lo_a I ex ey (h x y ex ey)
  by_cases e:p+1+1=a.size
  · rw [if_pos (by simpa using e)]
    exact wpS_pure (G.fin _ _ _ (lo_la T I' e))
  · rw [if_neg (by simpa using e)]
    split
    · exact wpS_pure (G.brk _ _ _ _ _ _ _ I' (by omega) hq hm)
    · exact wpS_pure (G.yld _ _ _ _ _ _ _ I' (by omega) hq hm)
theorem wp_loC (C:Cmp prog w A E s a₀ κ O key) (T:Two key a₀ a b) (hk:kindOf st=κ) (G:GoesOn key a b st m R) (I:LoI key a b o p q) (hp:p+1 < a.size) (hq:q < b.size) (hm:m≤p+1+(q+1)) (h:∀ x y,a[p]?=some x→b[q]?=some y→O.blt (key y) (key x)=true) :
    wpS (model prog w) A E s (loC a b o p q g c d) R (setG st g'):=by
  obtain ⟨x,ex⟩:=at_lt (a:=a) (i:=p) (by omega)
  obtain ⟨y,ey⟩:=at_lt hq
  unfold loC
  refine wpS_bind (wp_elem ey ?_)
  have I':=lo_b I ex ey (h x y ex ey)
  by_cases e:q+1=b.size
  · rw [if_pos (by simpa using e)]
    exact wpS_pure (G.fin _ _ _ (lo_dnB I' e))
  · rw [if_neg (by simpa using e)]
    refine wpS_bind (wp_elem ex ?_)
    refine wpS_bind (wp_gal C (fun i=>match b[q+1+i]? with | some y=>O.blt (key y) (key x) | none=>false) (T.ma x (mem_at ex)) hk (fun i hi=>?_) (fun i j hij hj=>?_) (by omega) fun k hk' ht hf=>?_)
    · obtain ⟨z,ez⟩:=at_lt (a:=b) (i:=q+1+i) (by omega)
      refine ⟨z,ez,T.mb z (mem_at ez),?_⟩
      rw [ez];rfl
    · obtain ⟨z,ez⟩:=at_lt (a:=b) (i:=q+1+i) (by omega)
      obtain ⟨v,ev⟩:=at_lt (a:=b) (i:=q+1+j) (by omega)
      rw [ez,ev]
      dsimp only
      intro hv
      rcases Nat.lt_or_ge i j with l | l
      · have:=List.pairwise_iff_getElem.mp T.sb (q+1+i) (q+1+j) (by simp;omega) (by simp;omega) (by omega)
        rw [Array.getElem_toList,Array.getElem_toList,(Array.getElem?_eq_some_iff.mp ez).2,(Array.getElem?_eq_some_iff.mp ev).2] at this
        exact KeyOrd.klt_of_kle_of_klt (O:=O) (a:=key z) (b:=key v) (c:=key x) this hv
      · have:i=j:=by omega
        subst this
        rw [ez] at ev;cases ev;exact hv
    · have fs:∀ i y,i < k→b[q+1+i]?=some y→O.blt (key y) (key x)=true:=fun i y hi e=>by
        have:=ht i hi
        rw [e] at this
        exact this
      have nx:q+1+k < b.size→∀ x' y',a[p]?=some x'→b[q+1+k]?=some y'→O.blt (key y') (key x')=false:=fun hlt x' y' e1 e2=>by
        have:=hf k (Nat.le_refl _) (by omega)
        rw [e2] at this
        rw [ex] at e1;cases e1
        exact this
      dsimp only
      by_cases k0:k > 0
      · rw [if_pos k0]
        have I2:=lo_bs I' ex fs
        by_cases e2:q+1+k=b.size
        · rw [if_pos (by simpa using e2)]
          exact wpS_pure (G.fin _ _ _ (lo_dnB I2 e2))
        · rw [if_neg (by simpa using e2)]
          exact wp_loD T G I2 hp (by omega) (by omega) (nx (by omega))
      · rw [if_neg k0]
        have:k=0:=by omega
        subst this
        exact wp_loD T G I' hp (by omega) (by omega) (nx (by omega))
theorem wp_loB (C:Cmp prog w A E s a₀ κ O key) (T:Two key a₀ a b) (hk:kindOf st=κ) (G:GoesOn key a b st m R) (I:LoI key a b o p q) (hp:p+1 < a.size) (hq:q < b.size) (hm:m≤p+1+(q+1)) :
    wpS (model prog w) A E s (loB a b o p q g c d) R (setG st g'):=by
  obtain ⟨y,ey⟩:=at_lt hq
  unfold loB
  refine wpS_bind (wpS_modify ?_)
  refine wpS_bind (wp_elem ey ?_)
  refine wpS_bind (wp_gal C (fun i=>match a[p+i]? with | some x=>!O.blt (key y) (key x) | none=>false) (T.mb y (mem_at ey)) hk (fun i hi=>?_) (fun i j hij hj=>?_) (by omega) fun k hk' ht hf=>?_)
  · obtain ⟨z,ez⟩:=at_lt (a:=a) (i:=p+i) (by omega)
    refine ⟨z,ez,T.ma z (mem_at ez),?_⟩
    rw [ez];rfl
  · obtain ⟨z,ez⟩:=at_lt (a:=a) (i:=p+i) (by omega)
    obtain ⟨v,ev⟩:=at_lt (a:=a) (i:=p+j) (by omega)
    rw [ez,ev]
    dsimp only
    intro hv
    have hv:O.blt (key y) (key v)=false:=by simpa using hv
    rcases Nat.lt_or_ge i j with l | l
    · have:=List.pairwise_iff_getElem.mp T.sa (p+i) (p+j) (by simp;omega) (by simp;omega) (by omega)
      rw [Array.getElem_toList,Array.getElem_toList,(Array.getElem?_eq_some_iff.mp ez).2,(Array.getElem?_eq_some_iff.mp ev).2] at this
      rw [kle_tr this hv];rfl
    · have:i=j:=by omega
      subst this
      rw [ez] at ev;cases ev;rw [hv];rfl
  · have fs:∀ i x,i < k→a[p+i]?=some x→O.blt (key y) (key x)=false:=fun i x hi e=>by
      have:=ht i hi
      rw [e] at this
      simpa using this
    have nx:p+k < a.size→∀ x' y',a[p+k]?=some x'→b[q]?=some y'→O.blt (key y') (key x')=true:=fun hlt x' y' e1 e2=>by
      have:=hf k (Nat.le_refl _) (by omega)
      rw [e1] at this
      rw [ey] at e2;cases e2
      simpa using this
    dsimp only
    by_cases k0:k > 0
    · rw [if_pos k0]
      have I2:=lo_as I ey fs
      by_cases e1:p+k+1=a.size
      · rw [if_pos (by simpa using e1)]
        exact wpS_pure (G.fin _ _ _ (lo_la T I2 e1))
      · rw [if_neg (by simpa using e1)]
        by_cases e2:p+k=a.size
        · rw [if_pos (by simpa using e2)]
          exact wpS_pure (G.fin _ _ _ (lo_dnA I2 e2))
        · rw [if_neg (by simpa using e2)]
          exact wp_loC (st:=st) C T hk G I2 (by omega) hq (by omega) (nx (by omega))
    · rw [if_neg k0]
      have:k=0:=by omega
      subst this
      exact wp_loC (st:=st) C T hk G I hp hq hm (nx (by omega))
theorem wp_loA (C:Cmp prog w A E s a₀ κ O key) (T:Two key a₀ a b) (hk:kindOf st=κ) (G:GoesOn key a b st m R) (I:LoI key a b o p q) (hp:p+1 < a.size) (hq:q < b.size) (hm:m≤p+1+(q+1)) :
    wpS (model prog w) A E s (loA a b (none,o,p,q,g,c,d)) R (setG st g'):=by
  unfold loA
  split
  · exact wp_loB C T hk G I hp hq hm
  · exact wp_loB C T hk G I hp hq hm
end
theorem wp_mLo (C:Cmp prog w A E s a₀ κ O key) {a b:Array Keyed} (T:Two key a₀ a b) {st:SortSt} (hk:kindOf st=κ) {Q:Array Keyed→SortSt→Prop} (h:∀ (o:Array Keyed) (g:Nat),o.toList=mrg key a.toList b.toList→Q o (setG st g)) :
    wpS (model prog w) A E s (mLo a b) Q st:=by
  have na:=T.na
  have nb:=T.nb
  obtain ⟨y0,ey⟩:=at_lt (a:=b) (i:=0) (by omega)
  obtain ⟨x0,ex⟩:=at_lt (a:=a) (i:=0) (by omega)
  rw [mLo_eq]
  refine wpS_bind (wpS_lift (wpAny_rule ⟨rfl,?_⟩))
  dsimp only
  refine wpS_bind (wp_elem ey ?_)
  have I0:LoI key a b #[y0] 0 1:=lo_b (o:=#[]) (by unfold LoI;rfl) ex ey (T.fst x0 (mem_at ex) y0 ey)
  have e0:st=setG st (gallopOf st):=rfl
  by_cases e1:1=b.size
  · rw [if_pos (by simpa using e1)]
    exact wpS_pure (h _ (gallopOf st) (lo_dnB I0 e1))
  rw [if_neg (by simpa using e1)]
  by_cases e2:0+1=a.size
  · rw [if_pos (by simpa using e2)]
    exact wpS_pure (h _ (gallopOf st) (lo_la T I0 e2))
  rw [if_neg (by simpa using e2)]
  refine wpS_bind (wpS_get ?_)
  refine wpS_bind (wpS_mono (wpS_forRange (I:=fun t c st'=>∃ o p q g g',c=(none,o,p,q,g)∧st'=setG st g'∧LoI key a b o p q∧p+1 < a.size∧q < b.size∧t+1≤p+q)
    (Q:=fun c st'=>∃ out c' g',c=(some out,c')∧st'=setG st g'∧out.toList=mrg key a.toList b.toList) ?step ?fin ⟨_,_,_,_,_,rfl,e0,I0,by omega,by omega,by omega⟩) ?post)
  case post=>
    rintro c st' ⟨out,c',g',rfl,rfl,e⟩
    exact wpS_pure (h _ _ e)
  case fin=>
    rintro c st' ⟨o,p,q,g,g',rfl,rfl,I,a1,a2,a3⟩
    omega
  case step=>
    rintro t c st' _ ht ⟨o,p,q,g,g',rfl,rfl,I,a1,a2,a3⟩
    dsimp only
    refine wpS_bind (wpS_mono (wpS_forRange (I:=fun t' c st'=>∃ o' p' q' c' d',c=(none,o',p',q',c',d')∧st'=setG st g'∧LoI key a b o' p' q'∧p'+1 < a.size∧q' < b.size∧p+q+t'≤p'+q')
      (Q:=fun c st'=>st'=setG st g'∧((∃ out c',c=(some out,c')∧out.toList=mrg key a.toList b.toList)∨∃ o' p' q' c' d',c=(none,o',p',q',c',d')∧LoI key a b o' p' q'∧p'+1 < a.size∧q' < b.size∧p+q+1≤p'+q')) ?s1 ?f1 ⟨_,_,_,_,_,rfl,rfl,I,a1,a2,by omega⟩) ?p1)
    case f1=>
      rintro c st' ⟨o',p',q',c',d',rfl,rfl,I',b1,b2,b3⟩
      omega
    case s1=>
      rintro t' c st' _ ht' ⟨o',p',q',c',d',rfl,rfl,I',b1,b2,b3⟩
      dsimp only
      obtain ⟨x,ex'⟩:=at_lt (a:=a) (i:=p') (by omega)
      obtain ⟨y,ey'⟩:=at_lt b2
      refine wpS_bind (wp_elem ey' (wpS_bind (wp_elem ex' (wpS_bind (C y x _ _ (T.mb y (mem_at ey')) (T.ma x (mem_at ex')) hk ?_)))))
      dsimp only
      cases e:O.blt (key y) (key x) with
      | true=>
        rw [if_pos rfl]
        refine wpS_bind (wp_elem ey' ?_)
        have I2:=lo_b I' ex' ey' e
        by_cases f1:q'+1=b.size
        · rw [if_pos (by simpa using f1)]
          exact wpS_pure ⟨rfl,.inl ⟨_,_,rfl,lo_dnB I2 f1⟩⟩
        · rw [if_neg (by simpa using f1)]
          split
          · exact wpS_pure ⟨rfl,.inr ⟨_,_,_,_,_,rfl,I2,b1,by omega,by omega⟩⟩
          · exact wpS_pure ⟨_,_,_,_,_,rfl,rfl,I2,b1,by omega,by omega⟩
      | false=>
        rw [if_neg (by simp)]
        refine wpS_bind (wp_elem ex' ?_)
        have I2:=lo_a I' ex' ey' e
        by_cases f1:p'+1+1=a.size
        · rw [if_pos (by simpa using f1)]
          exact wpS_pure ⟨rfl,.inl ⟨_,_,rfl,lo_la T I2 f1⟩⟩
        · rw [if_neg (by simpa using f1)]
          split
          · exact wpS_pure ⟨rfl,.inr ⟨_,_,_,_,_,rfl,I2,by omega,b2,by omega⟩⟩
          · exact wpS_pure ⟨_,_,_,_,_,rfl,rfl,I2,by omega,b2,by omega⟩
    case p1=>
      rintro c st' ⟨rfl,⟨out,c',rfl,e⟩ | ⟨o',p',q',c',d',rfl,I',b1,b2,b3⟩⟩
      · exact wpS_pure ⟨_,_,_,rfl,rfl,e⟩
      · dsimp only
        refine wpS_bind (wpS_lift (wpAny_rule ⟨rfl,?_⟩))
        refine wpS_bind (wpS_mono (wpS_forRange (I:=fun t' c st'=>∃ o' p' q' g c' d' g',c=(none,o',p',q',g,c',d')∧st'=setG st g'∧LoI key a b o' p' q'∧p'+1 < a.size∧q' < b.size∧p+q+1+t'≤p'+q')
          (Q:=fun c st'=>(∃ out c' g',c=(some out,c')∧st'=setG st g'∧out.toList=mrg key a.toList b.toList)∨∃ o' p' q' g c' d' g',c=(none,o',p',q',g,c',d')∧st'=setG st g'∧LoI key a b o' p' q'∧p'+1 < a.size∧q' < b.size∧p+q+1≤p'+q') ?s2 ?f2 ⟨_,_,_,_,_,_,_,rfl,rfl,I',b1,b2,by omega⟩) ?p2)
        case f2=>
          rintro c st' ⟨o',p',q',g,c',d',g',rfl,rfl,I',b1,b2,b3⟩
          omega
        case s2=>
          rintro t' c st' _ ht' ⟨o',p',q',g,c',d',g',rfl,rfl,I',b1,b2,b3⟩
          exact wp_loA (m:=p'+q'+2) C T hk ⟨fun out c g e=>.inl ⟨_,_,_,rfl,rfl,e⟩,fun o p q g c d g' I h1 h2 h3=>.inr ⟨_,_,_,_,_,_,_,rfl,rfl,I,h1,h2,by omega⟩,fun o p q g c d g' I h1 h2 h3=>⟨_,_,_,_,_,_,_,rfl,rfl,I,h1,h2,by omega⟩⟩ I' b1 b2 (by omega)
        case p2=>
          rintro c st' (⟨out,c',g',rfl,rfl,e⟩ | ⟨o',p',q',g,c',d',g',rfl,rfl,I',b1,b2,b3⟩)
          · exact wpS_pure ⟨_,_,_,rfl,rfl,e⟩
          · exact wpS_bind (wpS_modify (wpS_pure ⟨o',p',q',_,_,rfl,rfl,I',b1,b2,by omega⟩))
end
end Tim
namespace Tim
open PySem PyProof.Rows
section
variable {prog:Program} {w:World} {A:Around} {E:Value→Shared→Prop} {s:Shared} {a₀:Array Keyed} {κ:SortKind} {O:KeyOrd} {key:Keyed→O.α}
theorem ext_to (a:Array Keyed) (p:Nat):(a.extract 0 p).toList=a.toList.take p:=by
  rw [Array.toList_extract,List.extract_eq_drop_take,List.drop_zero,Nat.sub_zero]
theorem take_at {a:Array Keyed} {p:Nat} {x:Keyed} (e:a[p]?=some x):a.toList.take (p+1)=a.toList.take p++[x]:=by
  obtain ⟨h,rfl⟩:=Array.getElem?_eq_some_iff.mp e
  rw [List.take_succ_eq_append_getElem (by simpa using h)]
  simp
theorem take_mid (a:Array Keyed) {f p:Nat} (h:f≤p):a.toList.take p=a.toList.take f++(a.extract f p).toList:=by
  rw [Array.toList_extract,List.extract_eq_drop_take]
  have e:p=f+(p - f):=by omega
  conv=>lhs;rw [e]
  rw [List.take_add]
theorem mem_to {a:Array Keyed} {p:Nat} {z:Keyed} (hz:z∈a.toList.take p):∃ i,i < p∧a[i]?=some z:=by
  obtain ⟨i,hi,rfl⟩:=List.getElem_of_mem hz
  have hi':i < min p a.size:=by simpa using hi
  refine ⟨i,by omega,?_⟩
  rw [List.getElem_take,Array.getElem_toList,Array.getElem?_eq_getElem]
theorem mem_ext {a:Array Keyed} {f p:Nat} {z:Keyed} (hz:z∈(a.extract f p).toList):∃ i,f≤i∧i < p∧a[i]?=some z:=by
  rw [Array.toList_extract,List.extract_eq_drop_take] at hz
  obtain ⟨i,hi,e⟩:=mem_mid hz
  exact ⟨f+i,by omega,by omega,e⟩
theorem srt_at {a:Array Keyed} (h:Srt key a.toList) {i j:Nat} {x y:Keyed} (ex:a[i]?=some x) (ey:a[j]?=some y) (hij:i≤j):O.blt (key y) (key x)=false:=by
  obtain ⟨h1,rfl⟩:=Array.getElem?_eq_some_iff.mp ex
  obtain ⟨h2,rfl⟩:=Array.getElem?_eq_some_iff.mp ey
  rcases Nat.lt_or_ge i j with l | l
  · have:=List.pairwise_iff_getElem.mp h i j (by simpa using h1) (by simpa using h2) l
    simpa using this
  · have:i=j:=by omega
    subst this
    exact O.irrefl _
def HiI (key:Keyed→O.α) (a b o:Array Keyed) (p q:Nat):Prop:=mrg key (a.toList.take p) (b.toList.take q)++o.toList.reverse=mrg key a.toList b.toList
section
variable {a b o:Array Keyed} {p q f:Nat} {x y:Keyed}
theorem hi_a (I:HiI key a b o (p+1) q) (ex:a[p]?=some x) (h:∀ i z,i < q→b[i]?=some z→O.blt (key z) (key x)=true):HiI key a b (o.push x) p q:=by
  unfold HiI at I ⊢
  rw [take_at ex,mrg_snocL x _ _ fun z hz=>by obtain ⟨i,hi,e⟩:=mem_to hz;exact h i z hi e,List.append_assoc] at I
  rw [Array.toList_push,List.reverse_append]
  exact I
theorem hi_b (I:HiI key a b o p (q+1)) (ey:b[q]?=some y) (h:∀ i z,i < p→a[i]?=some z→O.blt (key y) (key z)=false):HiI key a b (o.push y) p q:=by
  unfold HiI at I ⊢
  rw [take_at ey,mrg_snocR y _ _ fun z hz=>by obtain ⟨i,hi,e⟩:=mem_to hz;exact h i z hi e,List.append_assoc] at I
  rw [Array.toList_push,List.reverse_append]
  exact I
theorem hi_as (I:HiI key a b o p q) (hf:f≤p) (h:∀ i u j z,f≤i→i < p→a[i]?=some u→j < q→b[j]?=some z→O.blt (key z) (key u)=true):HiI key a b (o++(a.extract f p).reverse) f q:=by
  unfold HiI at I ⊢
  rw [take_mid a hf,mrg_snocLs _ _ _ fun u hu z hz=>by
    obtain ⟨i,h1,h2,e⟩:=mem_ext hu
    obtain ⟨j,hj,e'⟩:=mem_to hz
    exact h i u j z h1 h2 e hj e',List.append_assoc] at I
  rw [Array.toList_append,List.reverse_append,Array.toList_reverse,List.reverse_reverse]
  exact I
theorem hi_bs (I:HiI key a b o p q) (hf:f≤q) (h:∀ i u j z,f≤i→i < q→b[i]?=some u→j < p→a[j]?=some z→O.blt (key u) (key z)=false):HiI key a b (o++(b.extract f q).reverse) p f:=by
  unfold HiI at I ⊢
  rw [take_mid b hf,mrg_snocRs _ _ _ fun u hu z hz=>by
    obtain ⟨i,h1,h2,e⟩:=mem_ext hu
    obtain ⟨j,hj,e'⟩:=mem_to hz
    exact h i u j z h1 h2 e hj e',List.append_assoc] at I
  rw [Array.toList_append,List.reverse_append,Array.toList_reverse,List.reverse_reverse]
  exact I
theorem hi_dnA (I:HiI key a b o p q) (h:p=0):(a.extract 0 p++b.extract 0 q++o.reverse).toList=mrg key a.toList b.toList:=by
  subst h
  unfold HiI at I
  rw [Array.toList_append,Array.toList_append,ext_to,ext_to,← I,List.take_zero,mrg_nil,Array.toList_reverse,List.nil_append]
theorem hi_dnB (I:HiI key a b o p q) (h:q=0):(a.extract 0 p++b.extract 0 q++o.reverse).toList=mrg key a.toList b.toList:=by
  subst h
  unfold HiI at I
  rw [Array.toList_append,Array.toList_append,ext_to,ext_to,← I,List.take_zero,mrg_nil',Array.toList_reverse,List.append_nil]
theorem hi_fb (T:Two key a₀ a b) (I:HiI key a b o p q) (h:q=1):(b.extract 0 q++a.extract 0 p++o.reverse).toList=mrg key a.toList b.toList:=by
  subst h
  obtain ⟨y,ey⟩:=at_lt (a:=b) (i:=0) T.nb
  have e:b.toList.take 1=[y]:=take_at ey
  unfold HiI at I
  rw [e,mrg_first y _ fun z hz=>by obtain ⟨i,hi,e'⟩:=mem_to hz;exact T.fst z (mem_at e') y ey] at I
  rw [Array.toList_append,Array.toList_append,ext_to,ext_to,← I,e,Array.toList_reverse]
  rfl
end
abbrev HSt:=Option (Array Keyed) × Nat × Nat × Array Keyed × Nat × Nat × Nat
def hiD (a b o:Array Keyed) (p q g c d:Nat):SM (ForInStep HSt):=do
  let x ← elem' a (p - 1)
  if p - 1 == 0 then return .done (some (a.extract 0 (p - 1)++b.extract 0 q++(o.push x).reverse),p - 1,q,o.push x,g,c,d)
  else if c < 7 && d < 7 then return .done (none,p - 1,q,o.push x,g,c,d)
  else return .yield (none,p - 1,q,o.push x,g,c,d)
def hiC (a b o:Array Keyed) (p q g c d:Nat):SM (ForInStep HSt):=do
  let y ← elem' b (q - 1)
  if q - 1 == 1 then return .done (some (b.extract 0 (q - 1)++a.extract 0 p++(o.push y).reverse),p,q - 1,o.push y,g,c,d)
  else
    let x ← elem' a (p - 1)
    let some f ← gal true x b 0 (q - 1) (q - 1 - 1) | return .done (some (a.extract 0 p++b.extract 0 (q - 1)++(o.push y).reverse),p,q - 1,o.push y,g,c,d)
    if q - 1 - f > 0 then
      if f == 1 then return .done (some (b.extract 0 f++a.extract 0 p++(o.push y++(b.extract f (q - 1)).reverse).reverse),p,f,o.push y++(b.extract f (q - 1)).reverse,g,c,q - 1 - f)
      else if f == 0 then return .done (some (a.extract 0 p++b.extract 0 f++(o.push y++(b.extract f (q - 1)).reverse).reverse),p,f,o.push y++(b.extract f (q - 1)).reverse,g,c,q - 1 - f)
      else hiD a b (o.push y++(b.extract f (q - 1)).reverse) p f g c (q - 1 - f)
    else hiD a b (o.push y) p (q - 1) g c (q - 1 - f)
def hiB (a b o:Array Keyed) (p q g c d:Nat):SM (ForInStep HSt):=do
  putG g
  let y ← elem' b (q - 1)
  let some f ← gal false y a 0 p (p - 1) | return .done (some (a.extract 0 p++b.extract 0 q++o.reverse),p,q,o,g,c,d)
  if p - f > 0 then
    if f == 0 then return .done (some (a.extract 0 f++b.extract 0 q++(o++(a.extract f p).reverse).reverse),f,q,o++(a.extract f p).reverse,g,p - f,d)
    else hiC a b (o++(a.extract f p).reverse) f q g (p - f) d
  else hiC a b o p q g (p - f) d
def hiA (a b:Array Keyed) (c:HSt):SM (ForInStep HSt):=
  if c.2.2.2.2.1 > 1 then hiB a b c.2.2.2.1 c.2.1 c.2.2.1 (c.2.2.2.2.1 - 1) c.2.2.2.2.2.1 c.2.2.2.2.2.2
  else hiB a b c.2.2.2.1 c.2.1 c.2.2.1 c.2.2.2.2.1 c.2.2.2.2.2.1 c.2.2.2.2.2.2
structure GoesHi (key:Keyed→O.α) (a b:Array Keyed) (st:SortSt) (m:Nat) (R:ForInStep HSt→SortSt→Prop):Prop where
  fin:∀ (out:Array Keyed) c g,out.toList=mrg key a.toList b.toList→R (.done (some out,c)) (setG st g)
  brk:∀ o p q g c d g',HiI key a b o p q→0 < p→p≤a.size→1 < q→q≤b.size→p+q≤m→R (.done (none,p,q,o,g,c,d)) (setG st g')
  yld:∀ o p q g c d g',HiI key a b o p q→0 < p→p≤a.size→1 < q→q≤b.size→p+q≤m→R (.yield (none,p,q,o,g,c,d)) (setG st g')
section
variable {a b o:Array Keyed} {p q k g c d m g':Nat} {x y:Keyed} {st:SortSt} {R:ForInStep HSt→SortSt→Prop}
theorem wp_hiD (G:GoesHi key a b st m R) (I:HiI key a b o (p+1) q) (hp:p+1≤a.size) (hq:1 < q) (hq':q≤b.size) (hm:p+q≤m) (h:∀ x i z,a[p]?=some x→i < q→b[i]?=some z→O.blt (key z) (key x)=true) :
    wpS (model prog w) A E s (hiD a b o (p+1) q g c d) R (setG st g'):=by
  obtain ⟨x,ex⟩:=at_lt (a:=a) (i:=p) (by omega)
  unfold hiD
  rw [Nat.add_sub_cancel]
  refine wpS_bind (wp_elem ex ?_)
  have I':=hi_a I ex fun i z=>h x i z ex
  by_cases e:p=0
  · rw [if_pos (by simpa using e)]
    exact wpS_pure (G.fin _ _ _ (hi_dnA I' e))
  · rw [if_neg (by simpa using e)]
    split
    · exact wpS_pure (G.brk _ _ _ _ _ _ _ I' (by omega) (by omega) hq hq' hm)
    · exact wpS_pure (G.yld _ _ _ _ _ _ _ I' (by omega) (by omega) hq hq' hm)
theorem wp_hiC (C:Cmp prog w A E s a₀ κ O key) (T:Two key a₀ a b) (hk:kindOf st=κ) (G:GoesHi key a b st m R) (I:HiI key a b o (p+1) (q+1)) (hp:p+1≤a.size) (hq:1 < q+1) (hq':q+1≤b.size) (hm:p+q≤m)
    (h:∀ y i z,b[q]?=some y→i < p+1→a[i]?=some z→O.blt (key y) (key z)=false) :
    wpS (model prog w) A E s (hiC a b o (p+1) (q+1) g c d) R (setG st g'):=by
  obtain ⟨x,ex⟩:=at_lt (a:=a) (i:=p) (by omega)
  obtain ⟨y,ey⟩:=at_lt (a:=b) (i:=q) (by omega)
  unfold hiC
  rw [Nat.add_sub_cancel,Nat.add_sub_cancel]
  refine wpS_bind (wp_elem ey ?_)
  have I':=hi_b I ey fun i z=>h y i z ey
  by_cases e:q=1
  · rw [if_pos (by simpa using e)]
    exact wpS_pure (G.fin _ _ _ (hi_fb T I' e))
  · rw [if_neg (by simpa using e)]
    refine wpS_bind (wp_elem ex ?_)
    refine wpS_bind (wp_gal C (fun i=>match b[0+i]? with | some y=>O.blt (key y) (key x) | none=>false) (T.ma x (mem_at ex)) hk (fun i hi=>?_) (fun i j hij hj=>?_) (by omega) fun f hf' ht hf=>?_)
    · obtain ⟨z,ez⟩:=at_lt (a:=b) (i:=0+i) (by omega)
      refine ⟨z,ez,T.mb z (mem_at ez),?_⟩
      rw [ez];rfl
    · obtain ⟨z,ez⟩:=at_lt (a:=b) (i:=0+i) (by omega)
      obtain ⟨v,ev⟩:=at_lt (a:=b) (i:=0+j) (by omega)
      rw [ez,ev]
      exact fun hv=>KeyOrd.klt_of_kle_of_klt (O:=O) (a:=key z) (b:=key v) (c:=key x) (srt_at T.sb ez ev (by omega)) hv
    · have fs:∀ i y,i < f→b[i]?=some y→O.blt (key y) (key x)=true:=fun i y hi e=>by
        have:=ht i hi
        rw [Nat.zero_add,e] at this
        exact this
      have nx:∀ i u,f≤i→i < q→b[i]?=some u→O.blt (key u) (key x)=false:=fun i u h1 h2 e=>by
        have:=hf i h1 h2
        rw [Nat.zero_add,e] at this
        exact this
      have go:∀ x' i z,a[p]?=some x'→i < f→b[i]?=some z→O.blt (key z) (key x')=true:=fun x' i z e1 hi e=>by
        rw [ex] at e1;cases e1
        exact fs i z hi e
      dsimp only
      by_cases k0:q - f > 0
      · rw [if_pos k0]
        have I2:=hi_bs I' hf' fun i u j z h1 h2 e1 hj e2=>kle_tr (srt_at T.sa e2 ex (by omega)) (nx i u h1 h2 e1)
        by_cases e1:f=1
        · rw [if_pos (by simpa using e1)]
          exact wpS_pure (G.fin _ _ _ (hi_fb T I2 e1))
        · rw [if_neg (by simpa using e1)]
          by_cases e2:f=0
          · rw [if_pos (by simpa using e2)]
            exact wpS_pure (G.fin _ _ _ (hi_dnB I2 e2))
          · rw [if_neg (by simpa using e2)]
            exact wp_hiD G I2 hp (by omega) (by omega) (by omega) go
      · rw [if_neg k0]
        have:f=q:=by omega
        subst this
        exact wp_hiD G I' hp (by omega) (by omega) (by omega) go
theorem wp_hiB (C:Cmp prog w A E s a₀ κ O key) (T:Two key a₀ a b) (hk:kindOf st=κ) (G:GoesHi key a b st m R) (I:HiI key a b o p (q+1)) (hp:0 < p) (hp':p≤a.size) (hq:1 < q+1) (hq':q+1≤b.size) (hm:p+q≤m+1) :
    wpS (model prog w) A E s (hiB a b o p (q+1) g c d) R (setG st g'):=by
  obtain ⟨y,ey⟩:=at_lt (a:=b) (i:=q) (by omega)
  unfold hiB
  rw [Nat.add_sub_cancel]
  refine wpS_bind (wpS_modify ?_)
  refine wpS_bind (wp_elem ey ?_)
  refine wpS_bind (wp_gal C (fun i=>match a[0+i]? with | some x=>!O.blt (key y) (key x) | none=>false) (T.mb y (mem_at ey)) hk (fun i hi=>?_) (fun i j hij hj=>?_) (by omega) fun f hf' ht hf=>?_)
  · obtain ⟨z,ez⟩:=at_lt (a:=a) (i:=0+i) (by omega)
    refine ⟨z,ez,T.ma z (mem_at ez),?_⟩
    rw [ez];rfl
  · obtain ⟨z,ez⟩:=at_lt (a:=a) (i:=0+i) (by omega)
    obtain ⟨v,ev⟩:=at_lt (a:=a) (i:=0+j) (by omega)
    rw [ez,ev]
    dsimp only
    intro hv
    have hv:O.blt (key y) (key v)=false:=by simpa using hv
    rw [kle_tr (srt_at T.sa ez ev (by omega)) hv];rfl
  · have fs:∀ i x,i < f→a[i]?=some x→O.blt (key y) (key x)=false:=fun i x hi e=>by
      have:=ht i hi
      rw [Nat.zero_add,e] at this
      simpa using this
    have nx:∀ i u,f≤i→i < p→a[i]?=some u→O.blt (key y) (key u)=true:=fun i u h1 h2 e=>by
      have:=hf i h1 h2
      rw [Nat.zero_add,e] at this
      simpa using this
    have go:∀ y' i z,b[q]?=some y'→i < f→a[i]?=some z→O.blt (key y') (key z)=false:=fun y' i z e1 hi e=>by
      rw [ey] at e1;cases e1
      exact fs i z hi e
    dsimp only
    by_cases k0:p - f > 0
    · rw [if_pos k0]
      have I2:=hi_as I hf' fun i u j z h1 h2 e1 hj e2=>KeyOrd.klt_of_kle_of_klt (O:=O) (a:=key z) (b:=key y) (c:=key u) (srt_at T.sb e2 ey (by omega)) (nx i u h1 h2 e1)
      by_cases e2:f=0
      · rw [if_pos (by simpa using e2)]
        exact wpS_pure (G.fin _ _ _ (hi_dnA I2 e2))
      · rw [if_neg (by simpa using e2)]
        obtain ⟨f',rfl⟩:∃ f',f=f'+1:=⟨f - 1,by omega⟩
        exact wp_hiC (st:=st) C T hk G I2 (by omega) hq hq' (by omega) go
    · rw [if_neg k0]
      have:f=p:=by omega
      subst this
      obtain ⟨f',rfl⟩:∃ f',f=f'+1:=⟨f - 1,by omega⟩
      exact wp_hiC (st:=st) C T hk G I (by omega) hq hq' (by omega) go
theorem wp_hiA (C:Cmp prog w A E s a₀ κ O key) (T:Two key a₀ a b) (hk:kindOf st=κ) (G:GoesHi key a b st m R) (I:HiI key a b o p q) (hp:0 < p) (hp':p≤a.size) (hq:1 < q) (hq':q≤b.size) (hm:p+q≤m+2) :
    wpS (model prog w) A E s (hiA a b (none,p,q,o,g,c,d)) R (setG st g'):=by
  obtain ⟨q,rfl⟩:∃ q',q=q'+1:=⟨q - 1,by omega⟩
  unfold hiA
  split
  · exact wp_hiB (p:=p) (q:=q) C T hk G I hp hp' hq hq' (by omega)
  · exact wp_hiB (p:=p) (q:=q) C T hk G I hp hp' hq hq' (by omega)
end
theorem wp_mHi (C:Cmp prog w A E s a₀ κ O key) {a b:Array Keyed} (T:Two key a₀ a b) {st:SortSt} (hk:kindOf st=κ) {Q:Array Keyed→SortSt→Prop} (h:∀ (o:Array Keyed) (g:Nat),o.toList=mrg key a.toList b.toList→Q o (setG st g)) :
    wpS (model prog w) A E s (mHi a b) Q st:=by
  have na:=T.na
  have nb:=T.nb
  obtain ⟨x0,ex⟩:=at_lt (a:=a) (i:=a.size - 1) (by omega)
  rw [mHi_eq]
  refine wpS_bind (wpS_lift (wpAny_rule ⟨rfl,?_⟩))
  dsimp only
  refine wpS_bind (wp_elem ex ?_)
  have I0:HiI key a b #[x0] (a.size - 1) b.size:=hi_a (o:=#[]) (by
    unfold HiI
    rw [show a.size - 1+1=a.size by omega,List.take_of_length_le (l:=a.toList) (by simp),List.take_of_length_le (l:=b.toList) (by simp)]
    simp) ex fun i z hi e=>T.lst z (mem_at e) x0 ex
  have e0:st=setG st (gallopOf st):=rfl
  by_cases e1:a.size - 1=0
  · rw [if_pos (by simpa using e1)]
    exact wpS_pure (h _ (gallopOf st) (hi_dnA I0 e1))
  rw [if_neg (by simpa using e1)]
  by_cases e2:b.size=1
  · rw [if_pos (by simpa using e2)]
    exact wpS_pure (h _ (gallopOf st) (hi_fb T I0 e2))
  rw [if_neg (by simpa using e2)]
  refine wpS_bind (wpS_get ?_)
  refine wpS_bind (wpS_mono (wpS_forRange (I:=fun t c st'=>∃ o p q g g',c=(none,p,q,o,g)∧st'=setG st g'∧HiI key a b o p q∧0 < p∧p≤a.size∧1 < q∧q≤b.size∧t+1+p+q≤a.size+b.size)
    (Q:=fun c st'=>∃ out c' g',c=(some out,c')∧st'=setG st g'∧out.toList=mrg key a.toList b.toList) ?step ?fin ⟨_,_,_,_,_,rfl,e0,I0,by omega,by omega,by omega,by omega,by omega⟩) ?post)
  case post=>
    rintro c st' ⟨out,c',g',rfl,rfl,e⟩
    exact wpS_pure (h _ _ e)
  case fin=>
    rintro c st' ⟨o,p,q,g,g',rfl,rfl,I,a1,a2,a3,a4,a5⟩
    omega
  case step=>
    rintro t c st' _ ht ⟨o,p,q,g,g',rfl,rfl,I,a1,a2,a3,a4,a5⟩
    dsimp only
    refine wpS_bind (wpS_mono (wpS_forRange (I:=fun t' c st'=>∃ o' p' q' c' d',c=(none,p',q',o',c',d')∧st'=setG st g'∧HiI key a b o' p' q'∧0 < p'∧p'≤a.size∧1 < q'∧q'≤b.size∧p'+q'+t'≤p+q)
      (Q:=fun c st'=>st'=setG st g'∧((∃ out c',c=(some out,c')∧out.toList=mrg key a.toList b.toList)∨∃ o' p' q' c' d',c=(none,p',q',o',c',d')∧HiI key a b o' p' q'∧0 < p'∧p'≤a.size∧1 < q'∧q'≤b.size∧p'+q'+1≤p+q)) ?s1 ?f1 ⟨_,_,_,_,_,rfl,rfl,I,a1,a2,a3,a4,by omega⟩) ?p1)
    case f1=>
      rintro c st' ⟨o',p',q',c',d',rfl,rfl,I',b1,b2,b3,b4,b5⟩
      omega
    case s1=>
      rintro t' c st' _ ht' ⟨o',p',q',c',d',rfl,rfl,I',b1,b2,b3,b4,b5⟩
      obtain ⟨p',rfl⟩:∃ z,p'=z+1:=⟨p' - 1,by omega⟩
      obtain ⟨q',rfl⟩:∃ z,q'=z+1:=⟨q' - 1,by omega⟩
      simp only [Nat.add_sub_cancel]
      obtain ⟨x,ex'⟩:=at_lt (a:=a) (i:=p') (by omega)
      obtain ⟨y,ey'⟩:=at_lt (a:=b) (i:=q') (by omega)
      refine wpS_bind (wp_elem ey' (wpS_bind (wp_elem ex' (wpS_bind (C y x _ _ (T.mb y (mem_at ey')) (T.ma x (mem_at ex')) hk ?_)))))
      dsimp only
      cases e:O.blt (key y) (key x) with
      | true=>
        rw [if_pos rfl]
        refine wpS_bind (wp_elem ex' ?_)
        have I2:=hi_a I' ex' fun i z hi ez=>KeyOrd.klt_of_kle_of_klt (O:=O) (a:=key z) (b:=key y) (c:=key x) (srt_at T.sb ez ey' (by omega)) e
        by_cases f1:p'=0
        · rw [if_pos (by simpa using f1)]
          exact wpS_pure ⟨rfl,.inl ⟨_,_,rfl,hi_dnA I2 f1⟩⟩
        · rw [if_neg (by simpa using f1)]
          split
          · exact wpS_pure ⟨rfl,.inr ⟨_,_,_,_,_,rfl,I2,by omega,by omega,by omega,by omega,by omega⟩⟩
          · exact wpS_pure ⟨_,_,_,_,_,rfl,rfl,I2,by omega,by omega,by omega,by omega,by omega⟩
      | false=>
        rw [if_neg (by simp)]
        refine wpS_bind (wp_elem ey' ?_)
        have I2:=hi_b I' ey' fun i z hi ez=>kle_tr (srt_at T.sa ez ex' (by omega)) e
        by_cases f1:q'=1
        · rw [if_pos (by simpa using f1)]
          exact wpS_pure ⟨rfl,.inl ⟨_,_,rfl,hi_fb T I2 f1⟩⟩
        · rw [if_neg (by simpa using f1)]
          split
          · exact wpS_pure ⟨rfl,.inr ⟨_,_,_,_,_,rfl,I2,by omega,by omega,by omega,by omega,by omega⟩⟩
          · exact wpS_pure ⟨_,_,_,_,_,rfl,rfl,I2,by omega,by omega,by omega,by omega,by omega⟩
    case p1=>
      rintro c st' ⟨rfl,⟨out,c',rfl,e⟩ | ⟨o',p',q',c',d',rfl,I',b1,b2,b3,b4,b5⟩⟩
      · exact wpS_pure ⟨_,_,_,rfl,rfl,e⟩
      · dsimp only
        refine wpS_bind (wpS_lift (wpAny_rule ⟨rfl,?_⟩))
        refine wpS_bind (wpS_mono (wpS_forRange (I:=fun t' c st'=>∃ o' p' q' g c' d' g',c=(none,p',q',o',g,c',d')∧st'=setG st g'∧HiI key a b o' p' q'∧0 < p'∧p'≤a.size∧1 < q'∧q'≤b.size∧p'+q'+1+t'≤p+q)
          (Q:=fun c st'=>(∃ out c' g',c=(some out,c')∧st'=setG st g'∧out.toList=mrg key a.toList b.toList)∨∃ o' p' q' g c' d' g',c=(none,p',q',o',g,c',d')∧st'=setG st g'∧HiI key a b o' p' q'∧0 < p'∧p'≤a.size∧1 < q'∧q'≤b.size∧p'+q'+1≤p+q) ?s2 ?f2 ⟨_,_,_,_,_,_,_,rfl,rfl,I',b1,b2,b3,b4,by omega⟩) ?p2)
        case f2=>
          rintro c st' ⟨o',p',q',g,c',d',g',rfl,rfl,I',b1,b2,b3,b4,b5⟩
          omega
        case s2=>
          rintro t' c st' _ ht' ⟨o',p',q',g,c',d',g',rfl,rfl,I',b1,b2,b3,b4,b5⟩
          exact wp_hiA (m:=p'+q' - 2) C T hk ⟨fun out c g e=>.inl ⟨_,_,_,rfl,rfl,e⟩,fun o p q g c d g' I h1 h2 h3 h4 h5=>.inr ⟨_,_,_,_,_,_,_,rfl,rfl,I,h1,h2,h3,h4,by omega⟩,fun o p q g c d g' I h1 h2 h3 h4 h5=>⟨_,_,_,_,_,_,_,rfl,rfl,I,h1,h2,h3,h4,by omega⟩⟩ I' b1 b2 b3 b4 (by omega)
        case p2=>
          rintro c st' (⟨out,c',g',rfl,rfl,e⟩ | ⟨o',p',q',g,c',d',g',rfl,rfl,I',b1,b2,b3,b4,b5⟩)
          · exact wpS_pure ⟨_,_,_,rfl,rfl,e⟩
          · exact wpS_bind (wpS_modify (wpS_pure ⟨o',p',q',_,_,rfl,rfl,I',b1,b2,b3,b4,by omega⟩))
end
end Tim
namespace Tim
open PySem PyProof.Rows
section
variable {prog:Program} {w:World} {A:Around} {E:Value→Shared→Prop} {s:Shared} {a₀:Array Keyed} {κ:SortKind} {O:KeyOrd} {key:Keyed→O.α}
theorem wr_list:∀ (l:List Keyed) (b m:Nat) (xs:Array Keyed),b+m+l.length≤xs.size →
    ((l.zipIdx m).foldl (fun a (p,j)=>a.setIfInBounds (b+j) p) xs).toList=xs.toList.take (b+m)++l++xs.toList.drop (b+m+l.length)
  | [],b,m,xs,h=>by simp
  | x :: l,b,m,xs,h=>by
    rw [List.length_cons] at h
    rw [List.zipIdx_cons,List.foldl_cons]
    have:=wr_list l b (m+1) (xs.setIfInBounds (b+m) x) (by rw [Array.size_setIfInBounds];omega)
    rw [this,Array.toList_setIfInBounds,List.length_cons,← Nat.add_assoc b m 1]
    have hl:b+m < xs.toList.length:=by simp;omega
    have e1:(xs.toList.set (b+m) x).take (b+m+1)=xs.toList.take (b+m)++[x]:=by
      rw [List.take_succ_eq_append_getElem (by simpa using hl),List.take_set_of_le (Nat.le_refl _),List.getElem_set_self]
    have e2:(xs.toList.set (b+m) x).drop (b+m+1+l.length)=xs.toList.drop (b+m+(l.length+1)):=by
      rw [List.drop_set_of_lt (by omega)]
      congr 1
      omega
    rw [e1,e2,List.append_assoc,List.append_assoc,List.append_assoc]
    rfl
abbrev Seg (key:Keyed→O.α) (xs:Array Keyed) (i j:Nat):Prop:=∀ p q x y,i≤p→p≤q→q < j→xs[p]?=some x→xs[q]?=some y→O.blt (key y) (key x)=false
theorem seg_srt {xs:Array Keyed} {i j:Nat} (h:Seg key xs i j):Srt key (xs.extract i j).toList:=by
  refine List.pairwise_iff_getElem.mpr fun p q hp hq hpq=>?_
  rw [Array.getElem_toList,Array.getElem_toList,Array.getElem_extract,Array.getElem_extract]
  have hq':q < min (j - i) (xs.size - i):=by simpa using hq
  exact h (i+p) (i+q) _ _ (by omega) (by omega) (by omega) (Array.getElem?_eq_getElem _) (Array.getElem?_eq_getElem _)
theorem seg_sub {xs:Array Keyed} {i j i' j':Nat} (h:Seg key xs i j) (h1:i≤i') (h2:j'≤j):Seg key xs i' j':=fun p q x y a b c=>h p q x y (by omega) b (by omega)
theorem seg_eq {xs ys:Array Keyed} {i j:Nat} (h:Seg key xs i j) (e:∀ t,i≤t→t < j→ys[t]?=xs[t]?):Seg key ys i j:=fun p q x y a b c ex ey=>h p q x y a b c (by rw [← e p a (by omega)];exact ex) (by rw [← e q (by omega) c];exact ey)
theorem perm_mem {xs ys:Array Keyed} (h:xs.Perm ys) {x:Keyed} (hx:x∈xs):x∈ys:=(Array.perm_iff_toList_perm.mp h).mem_iff.mp (Array.mem_toList_iff.mpr hx) |> Array.mem_toList_iff.mp
theorem three (L:List Keyed) {u v:Nat} (h:u≤v):L=L.take u++(L.drop u).take (v - u)++L.drop v:=by
  have e:L.drop v=(L.drop u).drop (v - u):=by rw [List.drop_drop];congr 1;omega
  rw [e,List.append_assoc,List.take_append_drop,List.take_append_drop]
abbrev pendM (p:Array (Nat × Nat × Nat)) (i sa n pw:Nat):Array (Nat × Nat × Nat):=(p.setIfInBounds i (sa,n,pw)).eraseIdxIfInBounds (i+1)
theorem wp_mAt (C:Cmp prog w A E s a₀ κ O key) {st:SortSt} {i sa na pw sb nb pw':Nat} {Q:Bool→SortSt→Prop} (hk:kindOf st=κ) (hf:failedOf st=none) (hp:(arrOf st).Perm a₀)
    (e1:(pendingOf st)[i]?=some (sa,na,pw)) (e2:(pendingOf st)[i+1]?=some (sb,nb,pw')) (hsb:sb=sa+na) (n1:1≤na) (n2:1≤nb) (hz:sb+nb≤(arrOf st).size)
    (s1:Seg key (arrOf st) sa sb) (s2:Seg key (arrOf st) sb (sb+nb))
    (h:∀ (arr':Array Keyed) (g:Nat),arr'.Perm a₀→(∀ t,t < sa∨sb+nb≤t→arr'[t]?=(arrOf st)[t]?)→Seg key arr' sa (sb+nb)→Q true (SortSt.mk' κ arr' (pendM (pendingOf st) i sa (na+nb) pw) g none)) :
    wpS (model prog w) A E s (mergeAt' i) Q st:=by
  subst hk
  rw [mAt_eq]
  refine wpS_bind (wpS_get ?_)
  rw [e1,e2]
  dsimp only
  generalize hL:arrOf st=xs at *
  refine wpS_bind (show wpS _ _ _ _ (modify fun _=>setPending st (pendM (pendingOf st) i sa (na+nb) pw)) _ _ from wpS_modify ?_)
  have stay:Q true (setPending st (pendM (pendingOf st) i sa (na+nb) pw)) ↔ Q true (SortSt.mk' (kindOf st) xs (pendM (pendingOf st) i sa (na+nb) pw) (gallopOf st) none):=by
    show Q true (SortSt.mk' (kindOf st) (arrOf st) _ (gallopOf st) (failedOf st)) ↔ _
    rw [hL,hf]
  obtain ⟨y0,ey⟩:=at_lt (a:=xs) (i:=sb) (by omega)
  refine wpS_bind (wp_elem ey ?_)
  have mem:∀ {t z},xs[t]?=some z→z∈a₀:=fun e=>perm_mem hp (mem_at e)
  refine wpS_bind (wp_gal C (fun t=>match xs[sa+t]? with | some x=>!O.blt (key y0) (key x) | none=>false) (mem ey) rfl (fun t ht=>?_) (fun t u htu hu=>?_) (by omega) fun k hk' ht hf'=>?_)
  · obtain ⟨z,ez⟩:=at_lt (a:=xs) (i:=sa+t) (by omega)
    refine ⟨z,ez,mem ez,?_⟩
    rw [ez];rfl
  · obtain ⟨z,ez⟩:=at_lt (a:=xs) (i:=sa+t) (by omega)
    obtain ⟨v,ev⟩:=at_lt (a:=xs) (i:=sa+u) (by omega)
    rw [ez,ev]
    dsimp only
    intro hv
    have hv:O.blt (key y0) (key v)=false:=by simpa using hv
    rw [kle_tr (s1 _ _ _ _ (by omega) (by omega) (by omega) ez ev) hv];rfl
  have lowA:∀ t x,sa≤t→t < sa+k→xs[t]?=some x→O.blt (key y0) (key x)=false:=fun t x h1 h2 e=>by
    have:=ht (t - sa) (by omega)
    rw [show sa+(t - sa)=t by omega,e] at this
    simpa using this
  have highA:∀ t x,sa+k≤t→t < sb→xs[t]?=some x→O.blt (key y0) (key x)=true:=fun t x h1 h2 e=>by
    have:=hf' (t - sa) (by omega) (by omega)
    rw [show sa+(t - sa)=t by omega,e] at this
    simpa using this
  dsimp only
  by_cases c1:na - k=0
  · rw [if_pos (by simpa using c1)]
    refine wpS_pure (stay.mpr (h xs _ hp (fun _ _=>rfl) fun p q x y a b c ex ey'=>?_))
    rcases Nat.lt_or_ge q sb with l | l
    · exact s1 p q x y a b l ex ey'
    · rcases Nat.lt_or_ge p sb with l' | l'
      · exact kle_tr (lowA p x a (by omega) ex) (s2 sb q y0 y (Nat.le_refl _) l c ey ey')
      · exact s2 p q x y l' b c ex ey'
  rw [if_neg (by simpa using c1)]
  obtain ⟨x1,ex⟩:=at_lt (a:=xs) (i:=sa+k+(na - k) - 1) (by omega)
  have ex1:xs[sb - 1]?=some x1:=by rw [← ex];congr 1;omega
  refine wpS_bind (wp_elem ex ?_)
  refine wpS_bind (wp_gal C (fun t=>match xs[sb+t]? with | some y=>O.blt (key y) (key x1) | none=>false) (mem ex) rfl (fun t ht=>?_) (fun t u htu hu=>?_) (by omega) fun m hm' gt gf=>?_)
  · obtain ⟨z,ez⟩:=at_lt (a:=xs) (i:=sb+t) (by omega)
    refine ⟨z,ez,mem ez,?_⟩
    rw [ez];rfl
  · obtain ⟨z,ez⟩:=at_lt (a:=xs) (i:=sb+t) (by omega)
    obtain ⟨v,ev⟩:=at_lt (a:=xs) (i:=sb+u) (by omega)
    rw [ez,ev]
    exact fun hv=>KeyOrd.klt_of_kle_of_klt (O:=O) (a:=key z) (b:=key v) (c:=key x1) (s2 _ _ _ _ (by omega) (by omega) (by omega) ez ev) hv
  have lowB:∀ t y,sb≤t→t < sb+m→xs[t]?=some y→O.blt (key y) (key x1)=true:=fun t y h1 h2 e=>by
    have:=gt (t - sb) (by omega)
    rw [show sb+(t - sb)=t by omega,e] at this
    exact this
  have highB:∀ t y,sb+m≤t→t < sb+nb→xs[t]?=some y→O.blt (key y) (key x1)=false:=fun t y h1 h2 e=>by
    have:=gf (t - sb) (by omega) (by omega)
    rw [show sb+(t - sb)=t by omega,e] at this
    exact this
  dsimp only
  by_cases c2:m=0
  · exfalso
    have a1:=highB sb y0 (by omega) (by omega) ey
    have a2:=highA (sb - 1) x1 (by omega) (by omega) ex1
    rw [a1] at a2;cases a2
  rw [if_neg (by simpa using c2)]
  have T:Two key a₀ (xs.extract (sa+k) sb) (xs.extract sb (sb+m)):=by
    have za:(xs.extract (sa+k) sb).size=sb - (sa+k):=by simp;omega
    refine ⟨fun x hx=>?_,fun x hx=>?_,by omega,by simp;omega,seg_srt (seg_sub s1 (by omega) (Nat.le_refl _)),seg_srt (seg_sub s2 (Nat.le_refl _) (by omega)),fun x hx y e=>?_,fun y hy x e=>?_⟩
    · obtain ⟨t,_,_,e⟩:=mem_ext (Array.mem_toList_iff.mpr hx);exact mem e
    · obtain ⟨t,_,_,e⟩:=mem_ext (Array.mem_toList_iff.mpr hx);exact mem e
    · obtain ⟨t,b1,b2,et⟩:=mem_ext (Array.mem_toList_iff.mpr hx)
      rw [Array.getElem?_extract,if_pos (by omega),Nat.add_zero,ey] at e
      cases e
      exact highA t x b1 b2 et
    · obtain ⟨t,b1,b2,et⟩:=mem_ext (Array.mem_toList_iff.mpr hy)
      rw [za,Array.getElem?_extract,if_pos (by omega),show sa+k+(sb - (sa+k) - 1)=sb - 1 by omega,ex1] at e
      cases e
      exact lowB t y b1 b2 et
  have fin:∀ (o:Array Keyed) (g:Nat),o.toList=mrg key (xs.extract (sa+k) sb).toList (xs.extract sb (sb+m)).toList →
      wpS (model prog w) A E s (do
        modify fun s=>setArr s (o.toList.zipIdx.foldl (fun a (p,j)=>a.setIfInBounds (sa+k+j) p) (arrOf s))
        return (failedOf (← get)).isNone) Q (setG (setPending st (pendM (pendingOf st) i sa (na+nb) pw)) g):=fun o g ho=>by
    refine wpS_bind (wpS_modify (wpS_bind (wpS_get (wpS_pure ?_))))
    show Q (failedOf st).isNone (SortSt.mk' (kindOf st) (o.toList.zipIdx.foldl (fun a (p,j)=>a.setIfInBounds (sa+k+j) p) (arrOf st)) _ g (failedOf st))
    rw [hL,hf]
    have pm:o.toList.Perm ((xs.extract (sa+k) sb).toList++(xs.extract sb (sb+m)).toList):=by rw [ho];exact mrg_perm _ _
    have ln:o.toList.length=sb+m - (sa+k):=by
      rw [pm.length_eq];simp;omega
    have wl:=wr_list o.toList (sa+k) 0 xs (by rw [ln];omega)
    rw [Nat.add_zero,ln,show sa+k+(sb+m - (sa+k))=sb+m by omega] at wl
    generalize List.foldl (fun a (x:Keyed × Nat)=>a.setIfInBounds (sa+k+x.snd) x.fst) xs o.toList.zipIdx=arr' at wl
    have z1:∀ t,t < sa+k→arr'[t]?=xs[t]?:=fun t h1=>by
      rw [← Array.getElem?_toList,wl,List.append_assoc,List.getElem?_append_left (by simp;omega),List.getElem?_take_of_lt h1,Array.getElem?_toList]
    have tk:(xs.toList.take (sa+k)).length=sa+k:=by simp;omega
    have z2:∀ t,sa+k≤t→t < sb+m→arr'[t]?=o.toList[t - (sa+k)]?:=fun t h1 h2=>by
      rw [← Array.getElem?_toList,wl,List.append_assoc,List.getElem?_append_right (by rw [tk];exact h1),tk,List.getElem?_append_left (by rw [ln];omega)]
    have z3:∀ t,sb+m≤t→arr'[t]?=xs[t]?:=fun t h1=>by
      rw [← Array.getElem?_toList,wl,List.getElem?_append_right (by rw [List.length_append,tk,ln];omega),List.length_append,tk,ln,List.getElem?_drop,← Array.getElem?_toList]
      congr 1
      omega
    have at2:∀ t z,sa+k≤t→t < sb+m→arr'[t]?=some z→∃ t',xs[t']?=some z∧sa+k≤t'∧t' < sb+m:=fun t z h1 h2 e=>by
      rw [z2 t h1 h2] at e
      rcases List.mem_append.mp (pm.mem_iff.mp (List.mem_of_getElem? e)) with hz' | hz'
      · obtain ⟨t',b1,b2,e'⟩:=mem_ext hz';exact ⟨t',e',b1,by omega⟩
      · obtain ⟨t',b1,b2,e'⟩:=mem_ext hz';exact ⟨t',e',by omega,b2⟩
    refine h arr' g ?_ (fun t ht=>?_) fun p q x y a b c ex' ey'=>?_
    · refine Array.Perm.trans (Array.perm_iff_toList_perm.mpr ?_) hp
      rw [wl,three xs.toList (u:=sa+k) (v:=sb+m) (by omega)]
      have e3:(xs.toList.drop (sa+k)).take (sb+m - (sa+k))=(xs.extract (sa+k) sb).toList++(xs.extract sb (sb+m)).toList:=by
        have q1:=take_mid xs (f:=sb) (p:=sb+m) (by omega)
        have q2:=take_mid xs (f:=sa+k) (p:=sb) (by omega)
        have q3:=take_mid xs (f:=sa+k) (p:=sb+m) (by omega)
        rw [q1,q2,List.append_assoc] at q3
        have:=List.append_cancel_left q3
        rw [this,Array.toList_extract,List.extract_eq_drop_take]
      have len:(List.take (sa+k) xs.toList++List.take (sb+m - (sa+k)) (List.drop (sa+k) xs.toList)++List.drop (sb+m) xs.toList)=xs.toList:=(three xs.toList (by omega)).symm
      rw [len]
      conv=>rhs;rw [three xs.toList (u:=sa+k) (v:=sb+m) (by omega),e3]
      exact ((List.Perm.refl _).append pm).append (.refl _)
    · rcases ht with ht | ht
      · exact z1 t (by omega)
      · exact z3 t (by omega)
    · have y0le:∀ t z,sb≤t→t < sb+nb→xs[t]?=some z→O.blt (key z) (key y0)=false:=fun t z h1 h2 e=>s2 sb t y0 z (Nat.le_refl _) h1 h2 ey e
      have lex1:∀ t z,sa≤t→t < sb→xs[t]?=some z→O.blt (key x1) (key z)=false:=fun t z h1 h2 e=>s1 t (sb - 1) z x1 h1 (by omega) (by omega) e ex1
      rcases Nat.lt_or_ge p (sa+k) with p1 | p1
      · rw [z1 p p1] at ex'
        have lo1:=lowA p x a p1 ex'
        have low:∀ t z,p≤t→t < sb+nb→xs[t]?=some z→O.blt (key z) (key x)=false:=fun t z h1 h2 e=>by
          rcases Nat.lt_or_ge t sb with l | l
          · exact s1 p t x z a h1 l ex' e
          · exact kle_tr lo1 (y0le t z l h2 e)
        rcases Nat.lt_or_ge q (sa+k) with q1 | q1
        · rw [z1 q q1] at ey';exact low q y b c ey'
        · rcases Nat.lt_or_ge q (sb+m) with q2 | q2
          · obtain ⟨t,e,b1,b2⟩:=at2 q y q1 q2 ey'
            exact low t y (by omega) (by omega) e
          · rw [z3 q q2] at ey';exact low q y b c ey'
      · rcases Nat.lt_or_ge p (sb+m) with p2 | p2
        · rcases Nat.lt_or_ge q (sb+m) with q2 | q2
          · rw [z2 p p1 p2] at ex'
            rw [z2 q (by omega) q2] at ey'
            rcases Nat.lt_or_ge p q with l | l
            · obtain ⟨g1,rfl⟩:=List.getElem?_eq_some_iff.mp ex'
              obtain ⟨g2,rfl⟩:=List.getElem?_eq_some_iff.mp ey'
              have so:Srt key o.toList:=by rw [ho];exact mrg_srt _ _ T.sa T.sb
              exact List.pairwise_iff_getElem.mp so _ _ g1 g2 (by omega)
            · have:p=q:=by omega
              subst this
              rw [ex'] at ey';cases ey'
              exact O.irrefl _
          · obtain ⟨t,e,b1,b2⟩:=at2 p x p1 p2 ex'
            rw [z3 q q2] at ey'
            rcases Nat.lt_or_ge t sb with l | l
            · exact kle_tr (lex1 t x (by omega) l e) (highB q y q2 c ey')
            · exact s2 t q x y l (by omega) c e ey'
        · rw [z3 p p2] at ex'
          rw [z3 q (by omega)] at ey'
          exact s2 p q x y (by omega) b c ex' ey'
  split
  · exact wpS_bind (wp_mLo (st:=setPending st (pendM (pendingOf st) i sa (na+nb) pw)) C T rfl fun o g ho=>fin o g ho)
  · exact wpS_bind (wp_mHi (st:=setPending st (pendM (pendingOf st) i sa (na+nb) pw)) C T rfl fun o g ho=>fin o g ho)
end
end Tim
namespace Tim
open PySem PyProof.Rows
section
variable {prog:Program} {w:World} {A:Around} {E:Value→Shared→Prop} {s:Shared} {a₀:Array Keyed} {κ:SortKind} {O:KeyOrd} {key:Keyed→O.α}
def Dist (key:Keyed→O.α) (a₀:Array Keyed):Prop:=(a₀.toList.map key).Nodup
theorem Dist.inj (D:Dist key a₀) {xs:Array Keyed} (h:xs.Perm a₀) {i j:Nat} {x y:Keyed} (ex:xs[i]?=some x) (ey:xs[j]?=some y) (h1:O.blt (key x) (key y)=false) (h2:O.blt (key y) (key x)=false):i=j:=by
  have nd:(xs.toList.map key).Nodup:=(List.Perm.nodup_iff ((Array.perm_iff_toList_perm.mp h).map key)).mpr D
  obtain ⟨g1,rfl⟩:=Array.getElem?_eq_some_iff.mp ex
  obtain ⟨g2,rfl⟩:=Array.getElem?_eq_some_iff.mp ey
  refine (List.getElem_inj (h₀:=by simpa using g1) (h₁:=by simpa using g2) nd).mp ?_
  rw [List.getElem_map,List.getElem_map,Array.getElem_toList,Array.getElem_toList]
  exact O.total _ _ h1 h2
theorem wp_ltAt (C:Cmp prog w A E s a₀ κ O key) {st:SortSt} {i j:Nat} {x y:Keyed} {Q:Option Bool→SortSt→Prop} (hk:kindOf st=κ) (hp:(arrOf st).Perm a₀) (ex:(arrOf st)[i]?=some x) (ey:(arrOf st)[j]?=some y)
    (h:Q (some (O.blt (key x) (key y))) st):wpS (model prog w) A E s (ltAt' i j) Q st:=by
  rw [ltAt'_eq]
  exact wpS_bind (wpS_get (wpS_bind (wp_elem ex (wpS_bind (wp_elem ey (C x y st Q (perm_mem hp (mem_at ex)) (perm_mem hp (mem_at ey)) hk h))))))
abbrev Fal (key:Keyed→O.α) (xs:Array Keyed) (i j:Nat):Prop:=∀ p q x y,i≤p→p≤q→q < j→xs[p]?=some x→xs[q]?=some y→O.blt (key x) (key y)=false
theorem seg_up {xs:Array Keyed} {lo n:Nat} {x y:Keyed} (h:Seg key xs lo (lo+n)) (h1:1≤n) (ex:xs[lo+n]?=some x) (ey:xs[lo+n - 1]?=some y) (hl:O.blt (key x) (key y)=false):Seg key xs lo (lo+(n+1)):=fun p q u v a b c eu ev=>by
  rcases Nat.lt_or_ge q (lo+n) with l | l
  · exact h p q u v a b l eu ev
  · have:q=lo+n:=by omega
    subst this
    rw [ex] at ev;cases ev
    rcases Nat.lt_or_ge p (lo+n) with l' | l'
    · exact kle_tr (h p (lo+n - 1) u y a (by omega) (by omega) eu ey) hl
    · have:p=lo+n:=by omega
      subst this
      rw [ex] at eu;cases eu
      exact O.irrefl _
theorem fal_up {xs:Array Keyed} {lo n:Nat} {x y:Keyed} (h:Fal key xs lo (lo+n)) (h1:1≤n) (ex:xs[lo+n]?=some x) (ey:xs[lo+n - 1]?=some y) (hl:O.blt (key y) (key x)=false):Fal key xs lo (lo+(n+1)):=fun p q u v a b c eu ev=>by
  rcases Nat.lt_or_ge q (lo+n) with l | l
  · exact h p q u v a b l eu ev
  · have:q=lo+n:=by omega
    subst this
    rw [ex] at ev;cases ev
    rcases Nat.lt_or_ge p (lo+n) with l' | l'
    · exact kle_tr hl (h p (lo+n - 1) u y a (by omega) (by omega) eu ey)
    · have:p=lo+n:=by omega
      subst this
      rw [ex] at eu;cases eu
      exact O.irrefl _
theorem seg_one (xs:Array Keyed) (lo:Nat):Seg key xs lo (lo+1):=fun p q x y a b c ex ey=>by
  have:p=q:=by omega
  subst this
  rw [ex] at ey;cases ey
  exact O.irrefl _
theorem wp_cnt (C:Cmp prog w A E s a₀ κ O key) (D:Dist key a₀) {st:SortSt} {lo nrem:Nat} {Q:Option Nat→SortSt→Prop} (hk:kindOf st=κ) (hp:(arrOf st).Perm a₀) (hn:lo+nrem≤(arrOf st).size) (h1:1≤nrem)
    (h:∀ (m:Nat) (arr':Array Keyed),arr'.Perm a₀→(∀ t,t < lo→arr'[t]?=(arrOf st)[t]?)→1≤m→m≤nrem→Seg key arr' lo (lo+m)→Q (some m) (setArr st arr')) :
    wpS (model prog w) A E s (countRun' lo nrem) Q st:=by
  have own:st=setArr st (arrOf st):=rfl
  rw [countRun'_eq]
  refine wpS_bind (wpS_mono (wpS_forRange (I:=fun t c st'=>st'=st∧c=(none,t)∧Seg key (arrOf st) lo (lo+t))
    (Q:=fun c st'=>st'=st∧∃ n,c=(none,n)∧1≤n∧n≤nrem∧Seg key (arrOf st) lo (lo+n)∧(n=nrem∨∀ x y,(arrOf st)[lo+n]?=some x→(arrOf st)[lo+n - 1]?=some y→O.blt (key x) (key y)=true)) ?step ?fin ⟨rfl,rfl,seg_one _ _⟩) ?post)
  case fin=>
    rintro c st' ⟨rfl,rfl,g⟩
    rw [show max 1 nrem=nrem by omega] at g ⊢
    exact ⟨rfl,nrem,rfl,h1,Nat.le_refl _,g,.inl rfl⟩
  case step=>
    rintro t c st' ht1 ht2 ⟨rfl,rfl,g⟩
    dsimp only
    obtain ⟨x,ex⟩:=at_lt (a:=arrOf st') (i:=lo+t) (by omega)
    obtain ⟨y,ey⟩:=at_lt (a:=arrOf st') (i:=lo+t - 1) (by omega)
    refine wpS_bind (wp_ltAt C hk hp ex ey ?_)
    dsimp only
    cases e:O.blt (key x) (key y) with
    | true=>
      rw [if_pos rfl]
      refine wpS_pure ⟨rfl,t,rfl,ht1,by omega,g,.inr fun x' y' a b=>?_⟩
      rw [ex] at a;cases a
      rw [ey] at b;cases b
      exact e
    | false=>
      rw [if_neg (by simp)]
      exact wpS_pure ⟨rfl,rfl,seg_up g ht1 ex ey e⟩
  case post=>
    rintro c st' ⟨rfl,n,rfl,n1,n2,g,g2⟩
    dsimp only
    by_cases e1:n=nrem
    · rw [if_pos (by simpa using e1)]
      exact wpS_pure (h n (arrOf st') hp (fun _ _=>rfl) n1 n2 g)
    rw [if_neg (by simpa using e1)]
    have g2:=g2.resolve_left e1
    by_cases e2:n > 1
    · rw [if_pos e2]
      obtain ⟨x,ex⟩:=at_lt (a:=arrOf st') (i:=lo) (by omega)
      obtain ⟨y,ey⟩:=at_lt (a:=arrOf st') (i:=lo+n - 1) (by omega)
      refine wpS_bind (wp_ltAt C hk hp ex ey ?_)
      dsimp only
      cases e:O.blt (key x) (key y) with
      | true=>
        rw [if_pos rfl]
        exact wpS_pure (h n (arrOf st') hp (fun _ _=>rfl) n1 n2 g)
      | false=>
        have:=D.inj hp ex ey e (g lo (lo+n - 1) x y (Nat.le_refl _) (by omega) (by omega) ex ey)
        omega
    · rw [if_neg e2]
      have:n=1:=by omega
      subst this
      refine wpS_bind (wpS_lift (wpAny_rule ⟨rfl,?_⟩))
      have f2:Fal key (arrOf st') lo (lo+(1+1)):=by
        obtain ⟨x,ex⟩:=at_lt (a:=arrOf st') (i:=lo+1) (by omega)
        obtain ⟨y,ey⟩:=at_lt (a:=arrOf st') (i:=lo+1 - 1) (by omega)
        refine fal_up (n:=1) (fun p q u v a b c eu ev=>?_) (Nat.le_refl _) ex ey (kle_lt (g2 x y ex ey))
        have:p=q:=by omega
        subst this
        rw [eu] at ev;cases ev
        exact O.irrefl _
      refine wpS_bind (wpS_mono (wpS_forRange (I:=fun t c st''=>st''=st'∧c=(none,t,0)∧Fal key (arrOf st') lo (lo+t))
        (Q:=fun c st''=>st''=st'∧∃ n,c=(none,n,0)∧2≤n∧n≤nrem∧Fal key (arrOf st') lo (lo+n)) ?s1 ?f1 ⟨rfl,rfl,f2⟩) ?p1)
      case f1=>
        rintro c st'' ⟨rfl,rfl,g⟩
        rw [show max (1+1) nrem=nrem by omega] at g ⊢
        exact ⟨rfl,nrem,rfl,by omega,Nat.le_refl _,g⟩
      case s1=>
        rintro t c st'' ht1 ht2 ⟨rfl,rfl,g⟩
        dsimp only
        obtain ⟨x,ex⟩:=at_lt (a:=arrOf st'') (i:=lo+t) (by omega)
        obtain ⟨y,ey⟩:=at_lt (a:=arrOf st'') (i:=lo+t - 1) (by omega)
        refine wpS_bind (wp_ltAt C hk hp ex ey ?_)
        dsimp only
        cases e:O.blt (key x) (key y) with
        | true=>
          rw [if_pos rfl,if_neg (by omega)]
          exact wpS_pure ⟨rfl,rfl,fal_up g (by omega) ex ey (kle_lt e)⟩
        | false=>
          rw [if_neg (by simp)]
          refine wpS_bind (wp_ltAt C hk hp ey ex ?_)
          dsimp only
          cases e':O.blt (key y) (key x) with
          | true=>
            rw [if_pos rfl]
            exact wpS_pure ⟨rfl,t,rfl,by omega,by omega,g⟩
          | false=>
            have:=D.inj hp ex ey e e'
            omega
      case p1=>
        rintro c st'' ⟨rfl,m,rfl,m1,m2,g⟩
        dsimp only
        rw [if_neg (by omega)]
        refine wpS_bind (wpS_reverse ?_)
        have mg:∀ t,(mirror (arrOf st'') lo (lo+m) ((lo+m - lo) / 2))[t]?=if lo≤t∧t < lo+m then (arrOf st'')[lo+(lo+m) - 1 - t]? else (arrOf st'')[t]?:=fun t=>getElem?_mirror_all (by omega) t
        have mp:=mirror_perm (arrOf st'') lo (lo+m) ((lo+m - lo) / 2)
        generalize mirror (arrOf st'') lo (lo+m) ((lo+m - lo) / 2)=xs at mg mp
        have hz:xs.size=(arrOf st'').size:=mp.size_eq
        have g3:Seg key xs lo (lo+m):=fun p q u v a b c eu ev=>by
          rw [mg,if_pos (by omega)] at eu ev
          exact g _ _ v u (by omega) (by omega) (by omega) ev eu
        have hp':xs.Perm a₀:=mp.trans hp
        have out:∀ t,t < lo→xs[t]?=(arrOf st'')[t]?:=fun t ht=>by rw [mg,if_neg (by omega)]
        refine wpS_bind (wpS_mono (wpS_forRange (I:=fun t c st3=>st3=setArr st'' xs∧c=(none,t)∧Seg key xs lo (lo+t))
          (Q:=fun c st3=>st3=setArr st'' xs∧∃ n,c=(none,n)∧1≤n∧n≤nrem∧Seg key xs lo (lo+n)) ?s2 ?f2 ⟨rfl,rfl,g3⟩) ?p2)
        case f2=>
          rintro c st3 ⟨rfl,rfl,g⟩
          rw [show max m nrem=nrem by omega] at g ⊢
          exact ⟨rfl,nrem,rfl,h1,Nat.le_refl _,g⟩
        case s2=>
          rintro t c st3 ht1 ht2 ⟨rfl,rfl,g⟩
          dsimp only
          obtain ⟨x,ex⟩:=at_lt (a:=xs) (i:=lo+t) (by omega)
          obtain ⟨y,ey⟩:=at_lt (a:=xs) (i:=lo+t - 1) (by omega)
          refine wpS_bind (wp_ltAt (st:=setArr st'' xs) C hk hp' ex ey ?_)
          dsimp only
          cases e:O.blt (key x) (key y) with
          | true=>
            rw [if_pos rfl]
            exact wpS_pure ⟨rfl,t,rfl,by omega,by omega,g⟩
          | false=>
            rw [if_neg (by simp)]
            exact wpS_pure ⟨rfl,rfl,seg_up g (by omega) ex ey e⟩
        case p2=>
          rintro c st3 ⟨rfl,n,rfl,n1,n2,g⟩
          exact wpS_pure (h n xs hp' out n1 n2 g)
theorem wp_bin (C:Cmp prog w A E s a₀ κ O key) {st:SortSt} {lo n ok:Nat} {Q:Bool→SortSt→Prop} (hk:kindOf st=κ) (hp:(arrOf st).Perm a₀) (hn:lo+n≤(arrOf st).size) (h1:1≤ok) (h2:ok≤n) (hs:Seg key (arrOf st) lo (lo+ok))
    (h:∀ (arr':Array Keyed),arr'.Perm a₀→(∀ t,t < lo→arr'[t]?=(arrOf st)[t]?)→Seg key arr' lo (lo+n)→Q true (setArr st arr')) :
    wpS (model prog w) A E s (binarySort' lo n ok) Q st:=by
  rw [binarySort'_eq]
  refine wpS_bind (wpS_mono (wpS_forRange (I:=fun t c st'=>c=(none,())∧∃ xs,st'=setArr st xs∧xs.Perm a₀∧(∀ t,t < lo→xs[t]?=(arrOf st)[t]?)∧Seg key xs lo (lo+t))
    (Q:=fun c st'=>c=(none,())∧∃ xs,st'=setArr st xs∧xs.Perm a₀∧(∀ t,t < lo→xs[t]?=(arrOf st)[t]?)∧Seg key xs lo (lo+n)) ?step ?fin ?init) ?post)
  case init=>
    rw [show max ok 1=ok by omega]
    exact ⟨rfl,_,rfl,hp,fun _ _=>rfl,hs⟩
  case fin=>
    rintro c st' ⟨rfl,xs,rfl,a1,a2,a3⟩
    rw [show max (max ok 1) n=n by omega] at a3
    exact ⟨rfl,xs,rfl,a1,a2,a3⟩
  case post=>
    rintro c st' ⟨rfl,xs,rfl,a1,a2,a3⟩
    exact wpS_pure (h xs a1 a2 a3)
  case step=>
    rintro k c st' hk1 hk2 ⟨rfl,xs,rfl,a1,a2,a3⟩
    have hz:xs.size=(arrOf st).size:=(a1.trans hp.symm).size_eq
    obtain ⟨x,ex⟩:=at_lt (a:=xs) (i:=lo+k) (by omega)
    refine wpS_bind (wpS_mono (wpS_forRange (I:=fun t c st''=>st''=setArr st xs∧∃ l r,c=(none,l,r)∧l≤r∧r≤k∧r - l≤k - t ∧
        (∀ i y,i < l→xs[lo+i]?=some y→O.blt (key x) (key y)=false)∧(∀ i y,r≤i→i < k→xs[lo+i]?=some y→O.blt (key x) (key y)=true))
      (Q:=fun c st''=>st''=setArr st xs∧∃ l r,c=(none,l,r)∧l≤k ∧
        (∀ i y,i < l→xs[lo+i]?=some y→O.blt (key x) (key y)=false)∧(∀ i y,l≤i→i < k→xs[lo+i]?=some y→O.blt (key x) (key y)=true)) ?s1 ?f1 ⟨rfl,0,k,rfl,by omega,by omega,by omega,fun i y hi=>by omega,fun i y b1 b2=>by omega⟩) ?p1)
    case f1=>
      rintro c st'' ⟨rfl,l,r,rfl,b1,b2,b3,b4,b5⟩
      have:l=r:=by omega
      subst this
      exact ⟨rfl,l,l,rfl,b2,b4,b5⟩
    case s1=>
      rintro t c st'' _ ht ⟨rfl,l,r,rfl,b1,b2,b3,b4,b5⟩
      dsimp only
      by_cases g:l ≥ r
      · rw [if_pos g]
        have:l=r:=by omega
        subst this
        exact wpS_pure ⟨rfl,l,l,rfl,b2,b4,b5⟩
      · rw [if_neg g]
        obtain ⟨y,ey⟩:=at_lt (a:=xs) (i:=lo+(l+r) / 2) (by omega)
        refine wpS_bind (wp_ltAt (st:=setArr st xs) C hk a1 ex ey ?_)
        dsimp only
        cases e:O.blt (key x) (key y) with
        | true=>
          rw [if_pos rfl]
          exact wpS_pure ⟨rfl,l,(l+r) / 2,rfl,by omega,by omega,by omega,b4,fun i z q1 q2 ez=>KeyOrd.klt_of_klt_of_kle (O:=O) (a:=key x) (b:=key y) (c:=key z) e (a3 _ _ y z (by omega) (by omega) (by omega) ey ez)⟩
        | false=>
          rw [if_neg (by simp)]
          exact wpS_pure ⟨rfl,(l+r) / 2+1,r,rfl,by omega,by omega,by omega,fun i z q1 ez=>kle_tr (a3 _ _ z y (by omega) (by omega) (by omega) ez ey) e,b5⟩
    case p1=>
      rintro c st'' ⟨rfl,l,r,rfl,b1,b2,b3⟩
      dsimp only
      rw [moveDown'_eq]
      have bg:∀ t,(bubble xs (lo+k) (lo+k - (lo+l)))[t]?=if t=lo+l then xs[lo+k]? else if lo+l < t∧t≤lo+k then xs[t - 1]? else xs[t]?:=fun t=>by
        rw [getElem?_bubble (by omega) _ (by omega),show lo+k - (lo+k - (lo+l))=lo+l by omega]
      have bp:=bubble_perm xs (lo+k) (lo+k - (lo+l))
      refine wpS_bind (wpS_modify (wpS_pure ⟨rfl,bubble xs (lo+k) (lo+k - (lo+l)),rfl,bp.trans a1,fun t ht=>?_,fun p q u v a b c eu ev=>?_⟩))
      · rw [bg,if_neg (by omega),if_neg (by omega)]
        exact a2 t ht
      · rw [bg] at eu ev
        by_cases p1:p=lo+l
        · rw [if_pos p1,ex] at eu
          cases eu
          by_cases q1:q=lo+l
          · rw [if_pos q1,ex] at ev
            cases ev
            exact O.irrefl _
          · rw [if_neg q1,if_pos (by omega)] at ev
            exact kle_lt (b3 (q - 1 - lo) v (by omega) (by omega) (by rw [← ev];congr 1;omega))
        · rw [if_neg p1] at eu
          by_cases q1:q=lo+l
          · rw [if_pos q1,ex] at ev
            cases ev
            rw [if_neg (by omega)] at eu
            exact b2 (p - lo) u (by omega) (by rw [← eu];congr 1;omega)
          · rw [if_neg q1] at ev
            split at eu <;> split at ev
            · exact a3 _ _ u v (by omega) (by omega) (by omega) eu ev
            · omega
            · exact a3 _ _ u v (by omega) (by omega) (by omega) eu ev
            · exact a3 _ _ u v (by omega) (by omega) (by omega) eu ev
end
end Tim
namespace Tim
open PySem PyProof.Rows
section
variable {prog:Program} {w:World} {A:Around} {E:Value→Shared→Prop} {s:Shared} {a₀:Array Keyed} {κ:SortKind} {O:KeyOrd} {key:Keyed→O.α}
abbrev Run3:=Nat × Nat × Nat
def Runs (key:Keyed→O.α) (xs:Array Keyed):List Run3→Nat→Nat→Prop
  | [],i,j=>i=j
  | r :: rs,i,j=>r.1=i∧1≤r.2.1∧Seg key xs i (i+r.2.1)∧Runs key xs rs (i+r.2.1) j
theorem runs_len {xs:Array Keyed}:∀ (l:List Run3) (i j:Nat),Runs key xs l i j→i+l.length≤j
  | [],i,j,h=>Nat.le_of_eq h
  | r :: rs,i,j,h=>by
    have:=runs_len rs _ j h.2.2.2
    have:=h.2.1
    rw [List.length_cons]
    omega
theorem runs_eq {xs ys:Array Keyed}:∀ (l:List Run3) (i j:Nat),Runs key xs l i j→(∀ t,i≤t→t < j→ys[t]?=xs[t]?)→Runs key ys l i j
  | [],i,j,h,_=>h
  | r :: rs,i,j,h,e=>by
    have:=runs_len rs _ j h.2.2.2
    exact ⟨h.1,h.2.1,seg_eq h.2.2.1 fun t t1 t2=>e t t1 (by omega),runs_eq rs _ j h.2.2.2 fun t t1 t2=>e t (by omega) t2⟩
theorem runs_snoc {xs:Array Keyed} {lo n:Nat}:∀ {l:List Run3} {i:Nat},Runs key xs l i lo→1≤n→Seg key xs lo (lo+n)→Runs key xs (l++[(lo,n,0)]) i (lo+n)
  | [],i,h,h1,h2=>by
    cases (show i=lo from h)
    exact ⟨rfl,h1,h2,rfl⟩
  | r :: rs,i,h,h1,h2=>⟨h.1,h.2.1,h.2.2.1,runs_snoc h.2.2.2 h1 h2⟩
theorem runs_modify {xs:Array Keyed} (f:Run3→Run3) (f1:∀ r,(f r).1=r.1) (f2:∀ r,(f r).2.1=r.2.1):∀ (l:List Run3) (k i j:Nat),Runs key xs l i j→Runs key xs (l.modify k f) i j
  | [],k,i,j,h=>by cases k <;> exact h
  | r :: rs,0,i,j,h=>by
    rw [List.modify_zero_cons]
    unfold Runs
    rw [f1,f2]
    exact h
  | r :: rs,k+1,i,j,h=>by
    rw [List.modify_succ_cons]
    exact ⟨h.1,h.2.1,h.2.2.1,runs_modify f f1 f2 rs k _ j h.2.2.2⟩
theorem runs_two {xs:Array Keyed}:∀ (k:Nat) (l:List Run3) (i j:Nat),Runs key xs l i j→k+1 < l.length→∃ sa na pw sb nb pw',l[k]?=some (sa,na,pw)∧l[k+1]?=some (sb,nb,pw')∧sb=sa+na∧1≤na∧1≤nb∧i≤sa∧sb+nb≤j ∧
    Seg key xs sa sb∧Seg key xs sb (sb+nb)∧∀ ys:Array Keyed,(∀ t,t < sa∨sb+nb≤t→ys[t]?=xs[t]?)→Seg key ys sa (sb+nb)→Runs key ys ((l.set k (sa,na+nb,pw)).eraseIdx (k+1)) i j
  | 0,(sa,na,pw) :: (sb,nb,pw') :: rs,i,j,h,_=>by
    obtain ⟨h1,h2,h3,h4,h5,h6,h7⟩:=h
    cases (show sa=i from h1)
    cases (show sb=sa+na from h4)
    have l:sa+na+nb+rs.length≤j:=runs_len rs _ j h7
    refine ⟨sa,na,pw,sa+na,nb,pw',rfl,rfl,rfl,h2,h5,Nat.le_refl _,by omega,h3,h6,fun ys e sg=>?_⟩
    show Runs key ys ((sa,na+nb,pw) :: rs) sa j
    refine ⟨rfl,by show 1≤na+nb;exact Nat.le_trans h2 (Nat.le_add_right _ _),?_,?_⟩
    · show Seg key ys sa (sa+(na+nb))
      rw [← Nat.add_assoc];exact sg
    · show Runs key ys rs (sa+(na+nb)) j
      rw [← Nat.add_assoc]
      exact runs_eq rs _ j h7 fun t t1 t2=>e t (.inr t1)
  | k+1,r :: rs,i,j,h,hl=>by
    rw [List.length_cons] at hl
    obtain ⟨sa,na,pw,sb,nb,pw',e1,e2,e3,e4,e5,e6,e7,e8,e9,e10⟩:=runs_two k rs _ j h.2.2.2 (by omega)
    have hr:=h.2.1
    refine ⟨sa,na,pw,sb,nb,pw',e1,e2,e3,e4,e5,by omega,e7,e8,e9,fun ys e sg=>?_⟩
    exact ⟨h.1,h.2.1,seg_eq h.2.2.1 fun t t1 t2=>e t (.inl (by omega)),e10 ys e sg⟩
  | 0,[_],_,_,_,hl=>by simp at hl
  | 0,[],_,_,_,hl=>by simp at hl
  | _+1,[],_,_,_,hl=>by simp at hl
theorem pendM_list (p:Array Run3) (i sa n pw:Nat):(pendM p i sa n pw).toList=(p.toList.set i (sa,n,pw)).eraseIdx (i+1):=by
  unfold pendM
  rw [Array.toList_eraseIdxIfInBounds,Array.toList_setIfInBounds]
theorem pendM_size (p:Array Run3) (i sa n pw:Nat) (h:i+1 < p.size):(pendM p i sa n pw).size=p.size - 1:=by
  rw [← Array.length_toList,pendM_list,List.length_eraseIdx,if_pos (by simpa using h),List.length_set,Array.length_toList]
theorem wp_mAt2 (C:Cmp prog w A E s a₀ κ O key) {st:SortSt} {i j:Nat} {Q:Bool→SortSt→Prop} (hk:kindOf st=κ) (hf:failedOf st=none) (hp:(arrOf st).Perm a₀) (hi:i+1 < (pendingOf st).size) (hr:Runs key (arrOf st) (pendingOf st).toList 0 j) (hj:j≤(arrOf st).size)
    (h:∀ (arr':Array Keyed) (pd':Array Run3) (g:Nat),arr'.Perm a₀→(∀ t,j≤t→arr'[t]?=(arrOf st)[t]?)→Runs key arr' pd'.toList 0 j→pd'.size+1=(pendingOf st).size→Q true (SortSt.mk' κ arr' pd' g none)) :
    wpS (model prog w) A E s (mergeAt' i) Q st:=by
  obtain ⟨sa,na,pw,sb,nb,pw',e1,e2,e3,e4,e5,e6,e7,e8,e9,e10⟩:=runs_two i _ 0 j hr (by simpa using hi)
  rw [Array.getElem?_toList] at e1 e2
  refine wp_mAt C hk hf hp e1 e2 e3 e4 e5 (by omega) e8 e9 fun arr' g c1 c2 c3=>h arr' _ g c1 (fun t ht=>c2 t (.inr (by omega))) ?_ ?_
  · rw [pendM_list];exact e10 arr' c2 c3
  · rw [pendM_size _ _ _ _ _ hi];omega
def RI (key:Keyed→O.α) (a₀:Array Keyed) (κ:SortKind) (lo:Nat) (st:SortSt):Prop:=∃ ys pd g,st=SortSt.mk' κ ys pd g none∧ys.Perm a₀∧Runs key ys pd.toList 0 lo∧lo≤a₀.size
theorem wp_runs (C:Cmp prog w A E s a₀ κ O key) (D:Dist key a₀) {g:Nat} {Q:Unit→SortSt→Prop}
    (h:∀ (arr':Array Keyed) (pd:Array Run3) (g:Nat),arr'.Perm a₀→Srt key arr'.toList→Q () (SortSt.mk' κ arr' pd g none)) :
    wpS (model prog w) A E s sortRuns' Q (SortSt.mk' κ a₀ #[] g none):=by
  rw [sortRuns'_eq]
  refine wpS_bind (wpS_get ?_)
  dsimp only
  show wpS _ _ _ _ (forIn [:a₀.size] _ _ >>= _) Q _
  refine wpS_bind (wpS_mono (wpS_forRange (I:=fun t c st'=>∃ lo,c=(none,lo)∧RI key a₀ κ lo st'∧t≤lo)
    (Q:=fun c st'=>∃ lo,c=(none,lo)∧RI key a₀ κ lo st'∧a₀.size≤lo) ?step ?fin ⟨0,rfl,⟨a₀,#[],g,rfl,.refl _,rfl,Nat.zero_le _⟩,Nat.le_refl _⟩) ?post)
  case fin=>
    rintro c st' ⟨lo,rfl,r,hl⟩
    exact ⟨lo,rfl,r,by omega⟩
  case step=>
    rintro t c st' _ ht ⟨lo,rfl,⟨xs,pd,g,rfl,p1,p2,p3⟩,hl⟩
    dsimp only
    by_cases c1:lo ≥ a₀.size
    · rw [if_pos c1]
      exact wpS_pure ⟨lo,rfl,⟨xs,pd,g,rfl,p1,p2,p3⟩,c1⟩
    rw [if_neg c1]
    have hz:xs.size=a₀.size:=p1.size_eq
    refine wpS_bind (wp_cnt (st:=SortSt.mk' κ xs pd g none) C D rfl p1 (by show lo+(a₀.size - lo)≤xs.size;omega) (by show 1≤a₀.size - lo;omega) fun found xs1 f1 f2 f3 f4 f5=>?_)
    have f4:found≤a₀.size - lo:=f4
    have r1:Runs key xs1 pd.toList 0 lo:=runs_eq _ 0 lo p2 fun t _ t2=>f2 t t2
    dsimp only
    generalize hmr:minRun' (arrOf (SortSt.mk' κ a₀ #[] _ none)).size (arrOf (SortSt.mk' κ a₀ #[] _ none)).size 0=mr
    by_cases c2:found < mr
    · rw [if_pos c2]
      refine wpS_bind (wpS_lift (wpAny_rule ⟨rfl,?_⟩))
      have hn:min (a₀.size - lo) mr≤a₀.size - lo:=Nat.min_le_left _ _
      have hn2:found≤min (a₀.size - lo) mr:=by omega
      show wpS _ _ _ _ (binarySort' lo (min (a₀.size - lo) mr) found >>= _) _ _
      generalize hnn:min ((arrOf (SortSt.mk' κ a₀ #[] _ none)).size - lo) mr=n
      have hnn:min (a₀.size - lo) mr=n:=hnn
      rw [hnn] at hn hn2
      have zz:xs1.size=a₀.size:=f1.size_eq
      refine wpS_bind (wp_bin (st:=setArr (SortSt.mk' κ xs pd g none) xs1) C rfl f1 (by show lo+n≤xs1.size;omega) f3 hn2 f5 fun xs2 q1 out q3=>?_)
      have q2:Runs key xs2 pd.toList 0 lo:=runs_eq _ 0 lo r1 fun t _ t2=>out t t2
      have n1:1≤n:=by omega
      rw [if_neg (by simp)]
      refine wpS_bind (wpS_get ?_)
      have push:∀ (ys:Array Keyed) (pd:Array (Nat × Nat × Nat)) (g':Nat),ys.Perm a₀→Runs key ys pd.toList 0 lo→Seg key ys lo (lo+n)→RI key a₀ κ (lo+n) (SortSt.mk' κ ys (pd.push (lo,n,0)) g' none):=fun ys pd g' b1 b2 b3=>
        ⟨ys,_,g',rfl,b1,by rw [Array.toList_push];exact runs_snoc b2 n1 b3,by omega⟩
      split
      · rename_i s1 m1 pw1 eb
        refine wpS_bind (wpS_mono (wpS_forRange (I:=fun t c st'=>c=(none,())∧∃ ys pd g',st'=SortSt.mk' κ ys pd g' none∧ys.Perm a₀∧Runs key ys pd.toList 0 lo∧Seg key ys lo (lo+n))
          (Q:=fun c st'=>c=(none,())∧∃ ys pd g',st'=SortSt.mk' κ ys pd g' none∧ys.Perm a₀∧Runs key ys pd.toList 0 lo∧Seg key ys lo (lo+n)) ?sA ?fA ⟨rfl,_,_,_,rfl,q1,q2,q3⟩) ?pA)
        case fA=>
          rintro c st' hh
          exact hh
        case sA=>
          rintro t c st' _ _ ⟨rfl,ys,pd,g',rfl,b1,b2,b3⟩
          refine wpS_bind (wpS_get ?_)
          split
          · rename_i x1 x2 older eo
            have big:pd.size > 1:=by
              rcases Nat.lt_or_ge 1 pd.size with l | l
              · exact l
              · have l':¬ (pendingOf (SortSt.mk' κ ys pd g' none)).size > 1:=by show ¬ pd.size > 1;omega
                rw [if_neg l'] at eo;cases eo
            split
            · exact wpS_pure ⟨rfl,ys,pd,g',rfl,b1,b2,b3⟩
            · have hz':ys.size=a₀.size:=b1.size_eq
              refine wpS_bind (wp_mAt2 C (st:=SortSt.mk' κ ys pd g' none) (i:=pd.size - 2) (j:=lo) rfl rfl b1 (by show pd.size - 2+1 < pd.size;omega) b2 (by show lo≤ys.size;omega) fun ys' pd' g2 c1 c2 c3 c4=>?_)
              rw [if_neg (by simp)]
              exact wpS_pure ⟨rfl,ys',pd',g2,rfl,c1,c3,seg_eq b3 fun t t1 t2=>c2 t t1⟩
          · exact wpS_pure ⟨rfl,ys,pd,g',rfl,b1,b2,b3⟩
        case pA=>
          rintro c st' ⟨rfl,ys,pd,g',rfl,b1,b2,b3⟩
          refine wpS_bind (wpS_modify (wpS_bind (wpS_modify (wpS_pure ⟨lo+n,rfl,push ys _ g' b1 ?_ b3,by omega⟩))))
          rw [Array.toList_modify]
          apply runs_modify
          · intro _;rfl
          · intro _;rfl
          · exact b2
      · exact wpS_bind (wpS_modify (wpS_pure ⟨lo+n,rfl,push _ _ _ q1 q2 q3,by omega⟩))
    · rw [if_neg c2]
      have q1:=f1
      have q2:=r1
      have q3:=f5
      have n1:=f3
      have hn:=f4
      generalize found=n at *
      refine wpS_bind (wpS_get ?_)
      have push:∀ (ys:Array Keyed) (pd:Array (Nat × Nat × Nat)) (g':Nat),ys.Perm a₀→Runs key ys pd.toList 0 lo→Seg key ys lo (lo+n)→RI key a₀ κ (lo+n) (SortSt.mk' κ ys (pd.push (lo,n,0)) g' none):=fun ys pd g' b1 b2 b3=>
        ⟨ys,_,g',rfl,b1,by rw [Array.toList_push];exact runs_snoc b2 n1 b3,by omega⟩
      split
      · rename_i s1 m1 pw1 eb
        refine wpS_bind (wpS_mono (wpS_forRange (I:=fun t c st'=>c=(none,())∧∃ ys pd g',st'=SortSt.mk' κ ys pd g' none∧ys.Perm a₀∧Runs key ys pd.toList 0 lo∧Seg key ys lo (lo+n))
          (Q:=fun c st'=>c=(none,())∧∃ ys pd g',st'=SortSt.mk' κ ys pd g' none∧ys.Perm a₀∧Runs key ys pd.toList 0 lo∧Seg key ys lo (lo+n)) ?sB ?fB ⟨rfl,_,_,_,rfl,q1,q2,q3⟩) ?pB)
        case fB=>
          rintro c st' hh
          exact hh
        case sB=>
          rintro t c st' _ _ ⟨rfl,ys,pd,g',rfl,b1,b2,b3⟩
          refine wpS_bind (wpS_get ?_)
          split
          · rename_i x1 x2 older eo
            have big:pd.size > 1:=by
              rcases Nat.lt_or_ge 1 pd.size with l | l
              · exact l
              · have l':¬ (pendingOf (SortSt.mk' κ ys pd g' none)).size > 1:=by show ¬ pd.size > 1;omega
                rw [if_neg l'] at eo;cases eo
            split
            · exact wpS_pure ⟨rfl,ys,pd,g',rfl,b1,b2,b3⟩
            · have hz':ys.size=a₀.size:=b1.size_eq
              refine wpS_bind (wp_mAt2 C (st:=SortSt.mk' κ ys pd g' none) (i:=pd.size - 2) (j:=lo) rfl rfl b1 (by show pd.size - 2+1 < pd.size;omega) b2 (by show lo≤ys.size;omega) fun ys' pd' g2 c1 c2 c3 c4=>?_)
              rw [if_neg (by simp)]
              exact wpS_pure ⟨rfl,ys',pd',g2,rfl,c1,c3,seg_eq b3 fun t t1 t2=>c2 t t1⟩
          · exact wpS_pure ⟨rfl,ys,pd,g',rfl,b1,b2,b3⟩
        case pB=>
          rintro c st' ⟨rfl,ys,pd,g',rfl,b1,b2,b3⟩
          refine wpS_bind (wpS_modify (wpS_bind (wpS_modify (wpS_pure ⟨lo+n,rfl,push ys _ g' b1 ?_ b3,by omega⟩))))
          rw [Array.toList_modify]
          apply runs_modify
          · intro _;rfl
          · intro _;rfl
          · exact b2
      · exact wpS_bind (wpS_modify (wpS_pure ⟨lo+n,rfl,push _ _ _ q1 q2 q3,by omega⟩))
  case post=>
    rintro c st' ⟨lo,rfl,⟨xs,pd,g,rfl,p1,p2,p3⟩,hl⟩
    have:lo=a₀.size:=by omega
    subst this
    dsimp only
    have l0:=runs_len _ _ _ p2
    rw [Array.length_toList] at l0
    refine wpS_bind (wpS_mono (wpS_forRange (I:=fun t c st'=>c=(none,())∧∃ ys pd g',st'=SortSt.mk' κ ys pd g' none∧ys.Perm a₀∧Runs key ys pd.toList 0 a₀.size∧pd.size+t≤a₀.size)
      (Q:=fun c st'=>c=(none,())∧∃ ys pd g',st'=SortSt.mk' κ ys pd g' none∧ys.Perm a₀∧Runs key ys pd.toList 0 a₀.size∧pd.size≤1) ?s3 ?f3 ⟨rfl,xs,pd,g,rfl,p1,p2,by omega⟩) ?p3)
    case f3=>
      rintro c st' ⟨rfl,ys,pd,g',rfl,b1,b2,b3⟩
      refine ⟨rfl,ys,pd,g',rfl,b1,b2,?_⟩
      have b3:pd.size+max 0 a₀.size≤a₀.size:=b3
      omega
    case s3=>
      rintro t c st' _ _ ⟨rfl,ys,pd,g',rfl,b1,b2,b3⟩
      refine wpS_bind (wpS_get ?_)
      by_cases c3:pd.size≤1
      · rw [if_pos (show (pendingOf (SortSt.mk' κ ys pd g' none)).size≤1 from c3)]
        exact wpS_pure ⟨rfl,ys,pd,g',rfl,b1,b2,c3⟩
      · rw [if_neg (show ¬ (pendingOf (SortSt.mk' κ ys pd g' none)).size≤1 from c3)]
        have hz':ys.size=a₀.size:=b1.size_eq
        refine wpS_bind (wp_mAt2 C (st:=SortSt.mk' κ ys pd g' none) (j:=a₀.size) rfl rfl b1 ?_ b2 (by show a₀.size≤ys.size;omega) fun ys' pd' g2 c1 c2 c3 c4=>?_)
        · have ix:∀ (P:Prop) [Decidable P],(if P then pd.size - 2 - 1 else pd.size - 2)+1 < pd.size:=fun P _=>by split <;> omega
          exact ix _
        · rw [if_neg (by simp)]
          have c4:pd'.size+1=pd.size:=c4
          exact wpS_pure ⟨rfl,ys',pd',g2,rfl,c1,c3,by omega⟩
    case p3=>
      rintro c st' ⟨rfl,ys,pd,g',rfl,b1,b2,b3⟩
      refine wpS_pure (h ys pd g' b1 ?_)
      have hz':ys.size=a₀.size:=b1.size_eq
      have sg:Seg key ys 0 a₀.size:=by
        rw [← Array.length_toList] at b3
        match e:pd.toList,b2,b3 with
        | [],b2,_=>exact fun p q x y a b c=>by have:0=a₀.size:=b2;omega
        | [r],b2,_=>
          have e2:0+r.2.1=a₀.size:=b2.2.2.2
          rw [← e2]
          exact b2.2.2.1
        | _ :: _ :: _,_,b3=>simp at b3
      have:=seg_srt sg
      rw [← hz',ext_to,List.take_of_length_le (by simp)] at this
      exact this
end
end Tim
namespace L2
open PySem PySem.Spec PyProof.Rows PySem.W Tim
section
variable {prog:Program} {w:World} {A:Around} {E:Value→Shared→Prop} {s:Shared}
theorem sort_big {a:Addr} {vs:List Value} {n:Nat} {P:PySem.Fin→Shared→Prop} (ho:s.heap.get? a=some (seqObj "list" vs.toArray n)) (h2:2≤vs.length) (hz:vs.length≤sizeLine) {κ:SortKind} {O:KeyOrd} {key:Keyed→O.α} (D:Dist key (pairsOf vs))
    (hk:∀ g:Heap,(∀ b o,b≠a→s.heap.get? b=some o→g.get? b=some o)→(∀ R:SortKind→Shared→Prop,R κ { s with heap:=g }→wpAny (model prog w) A (keyKind' vs.toArray) R E { s with heap:=g })∧Cmp prog w A E { s with heap:=g } (pairsOf vs) κ O key)
    (h:∀ xs:Array Keyed,xs.Perm (pairsOf vs)→Srt key xs.toList→P (.done (.ret .none)) { s with heap:=sortedHeap s.heap a vs (xs.map (·.2)) }) :
    wpAny (model prog w) A (Builtin.«list.sort» ⟨[.ref a],[]⟩) P E s:=by
  have al:a < s.heap.objs.size:=Heap.lt_size ho
  have nb:¬ vs.toArray.size < 2:=by rw [List.size_toArray];omega
  rw [list_sort_plain]
  refine wpAny_bind (listItems_at ho rfl (wpAny_bind (listUpdate_at ho rfl ?_ (by rw [List.size_toArray];exact hz) (Nat.zero_le _))))
  obtain ⟨e1,g1⟩:∃ e1,(s.heap.update a (Obj.mapSeq fun _=>(#[]:Array Value))).get? a=some (seqObj "list" #[] e1):=⟨_,get?_update_seq ho fun _=>#[]⟩
  refine wpAny_bind (seqEpoch_at g1 rfl (wpAny_bind (wpAny_newTuple ?_ (by show vs.length≤_;exact hz))))
  refine wpAny_bind (wpAny_newList (wpAny_holding ?_))
  have sz1:(s.heap.update a (Obj.mapSeq fun _=>(#[]:Array Value))).objs.size=s.heap.objs.size:=Heap.size_update ..
  have g2:=Heap.get?_push_of_some (seqObj "list" #[] 0) (Heap.get?_push_of_some (seqObj "tuple" vs.toArray 0) g1)
  have old:∀ b o,b≠a→s.heap.get? b=some o→(((s.heap.update a (Obj.mapSeq fun _=>(#[]:Array Value))).push (seqObj "tuple" vs.toArray 0)).push (seqObj "list" #[] 0)).get? b=some o:=fun b o hb e=>
    Heap.get?_push_of_some _ (Heap.get?_push_of_some _ ((Heap.get?_update_ne _ _ _ _ hb).trans e))
  obtain ⟨hkind,C⟩:=hk _ old
  show wpAny (model prog w) A _ P E { s with heap:=((s.heap.update a (Obj.mapSeq fun _=>(#[]:Array Value))).push (seqObj "tuple" vs.toArray 0)).push (seqObj "list" #[] 0) }
  have hfin:=h
  unfold sortedHeap at hfin
  generalize ((s.heap.update a (Obj.mapSeq fun _=>(#[]:Array Value))).push (seqObj "tuple" vs.toArray 0)).push (seqObj "list" #[] 0)=g at g2 hkind C hfin
  rw [if_neg nb,if_neg nb]
  refine wpAny_bind (hkind _ ?_)
  refine wpAny_bind (wpAny_mono (wp_runs (s:={ s with heap:=g }) (E:=E) C D (g:=7) (Q:=fun _ st'=>∃ xs pd g',st'=SortSt.mk' κ xs pd g' none∧xs.Perm (pairsOf vs)∧Srt key xs.toList) fun xs pd g' a1 a2=>⟨xs,pd,g',rfl,a1,a2⟩) ?_ fun _ _ e=>e)
  rintro ⟨⟨⟩,st'⟩ s' ⟨rfl,xs,pd,g',rfl,a1,a2⟩
  refine wpAny_bind (seqEpoch_at g2 rfl (wpAny_bind (listUpdate_at g2 rfl ?_ (Nat.zero_le _) ?_)))
  · show wpAny _ _ (if (e1 != e1)=true then _ else _) _ _ _
    rw [if_neg (by simp)]
    exact wpAny_pure (hfin xs a1 a2)
  · show (xs.map _).size≤_
    rw [Array.size_map,a1.size_eq,pairsOf_size]
    exact Nat.le_succ_of_le hz
abbrev keyS (p:Keyed):strKind.α:=(strOf p.1).cps.toList
theorem cmp_strs {vs:List Value} {ss:List Str} (hS:StrsAre vs ss):Cmp prog w A E s (pairsOf vs) oneType' strKind.toKeyOrd keyS:=by
  have is:∀ x:Keyed,x∈pairsOf vs→∃ z t,x.1=.str z t:=fun x hx=>by
    have:=Array.mem_toList_iff.mpr hx
    rw [pairsOf_toList] at this
    exact hS.all _ (mem_zip_self this).2
  intro x y st Q hx hy hk h
  obtain ⟨x1,t1,e1⟩:=is x hx
  obtain ⟨y1,u1,e2⟩:=is y hy
  rw [lt'_eq]
  refine wpS_bind (wpS_get ?_)
  rw [hk,keyLt'_oneType,e1,e2]
  refine wpS_bind (wpS_lift (wpAny_attempt (oneLt_str ⟨rfl,wpS_pure ?_⟩)))
  unfold keyS at h
  rw [e1,e2] at h
  exact h
theorem dist_strs {vs:List Value} {ss:List Str} (hS:StrsAre vs ss) (nd:ss.Nodup):Dist (O:=strKind.toKeyOrd) keyS (pairsOf vs):=by
  unfold Dist
  rw [pairsOf_toList]
  have e:(vs.zip vs).map keyS=ss.map fun z=>z.cps.toList:=by
    rw [← hS.strs,List.map_map]
    have:(vs.zip vs).map keyS=((vs.zip vs).map Prod.fst).map fun v=>(strOf v).cps.toList:=by rw [List.map_map];rfl
    rw [this,List.map_fst_zip (Nat.le_refl _)];rfl
  rw [e]
  unfold List.Nodup at nd ⊢
  rw [List.pairwise_map]
  exact nd.imp fun h e=>h (str_eq e)
theorem sort_strs {a:Addr} {vs:List Value} {ss:List Str} {n:Nat} {P:PySem.Fin→Shared→Prop} (ho:s.heap.get? a=some (seqObj "list" vs.toArray n)) (hS:StrsAre vs ss) (nd:ss.Nodup) (hz:vs.length≤sizeLine)
    (h:∀ (out:Array Value) (ss':List Str),StrsAre out.toList ss'→ss'.Perm ss→sortedS ss'=true→P (.done (.ret .none)) { s with heap:=sortedHeap s.heap a vs out }) :
    wpAny (model prog w) A (Builtin.«list.sort» ⟨[.ref a],[]⟩) P E s:=by
  rcases Nat.lt_or_ge vs.length 64 with l | l
  · refine list_sort_treeK strKind_oneLt ho hS.keysOf (fun v₁ v₂ rest e=>keyKind_strs (by rw [← e];exact hS)) l fun st' a1 a2=>?_
    obtain ⟨ss',b1,b2,b3⟩:=sorted_out_str hS a1 a2
    exact h _ ss' b1 b2 b3
  · obtain ⟨v₁,v₂,rest,rfl⟩:∃ v₁ v₂ rest,vs=v₁ :: v₂ :: rest:=by
      match vs,l with
      | v₁ :: v₂ :: rest,_=>exact ⟨v₁,v₂,rest,rfl⟩
    refine sort_big ho (by simp) hz (κ:=oneType') (O:=strKind.toKeyOrd) (key:=keyS) (dist_strs hS nd) (fun g _=>⟨fun R hR=>?_,cmp_strs hS⟩) fun xs a1 a2=>?_
    · rw [keyKind_strs hS];exact wpAny_pure hR
    · have mem:∀ i (hi:i < xs.size),∃ z t,xs[i].1=.str z t:=fun i hi=>by
        have m:xs[i]∈(pairsOf (v₁ :: v₂ :: rest)).toList:=(Array.perm_iff_toList_perm.mp a1).mem_iff.mp (by simp)
        rw [pairsOf_toList] at m
        exact hS.all _ (mem_zip_self m).2
      have kk:∀ i (hi:i < xs.size),KK strKind xs i=keyS xs[i]:=fun i hi=>by
        obtain ⟨z,t,e⟩:=mem i hi
        rw [KK_str hi (x:=z) (t:=t) (q:=xs[i].2) (Prod.ext e rfl)]
        unfold keyS;rw [e];rfl
      obtain ⟨ss',b1,b2,b3⟩:=sorted_out_str hS a1 (fun i j hij hj=>by
        rw [← a1.size_eq] at hj
        rw [kk i (by omega),kk j hj]
        rcases Nat.lt_or_ge i j with l | l
        · have:=List.pairwise_iff_getElem.mp a2 i j (by simp;omega) (by simpa using hj) l
          rw [Array.getElem_toList,Array.getElem_toList] at this
          exact this
        · have:i=j:=by omega
          subst this
          exact KeyOrd.kle_refl _)
      exact h _ ss' b1 b2 b3
end
section
variable {prog:Program} {w:World} {A:Around} {E:Value→Shared→Prop} {s:Shared} {T:String} {r d:Addr} {n:Nat} {P:Nat→Value→Prop} {OK:Heap→Prop}
theorem collect_src {R:List Value→Shared→Prop} (K:KdlSrc prog w T r d n P OK) (hh:A.handled=none) (hok:OK s.heap) (hn:n≤sizeLine)
    (h:∀ (g:Heap) (tk:Nat) (acc:Array Value),s.heap.objs.size≤g.objs.size→(∀ b o,s.heap.get? b=some o→g.get? b=some o)→ItemsOf P acc n→R acc.toList { s with heap:=g,toks:=tk }) :
    wpAny (model prog w) A (collect (.ref r)) R E s:=by
  obtain ⟨l1,l2⟩:=K.there _ hok
  unfold collect
  refine wpAny_bind (wpAny_runValue (codeAny_builtin F.entry_proto_collect ?_))
  rw [Around.under_plainId F.plain_proto_collect _]
  refine wpAny_bind (wpAny_newObj_type (wpAny_pure ⟨plainId_quiet F.plain_list_iadd _,codeAny_builtin F.entry_list_iadd ?_⟩))
  rw [Around.under_plainId F.plain_list_iadd _]
  have g0:(s.heap.push { cls:=.type "list", data:=.seq ([]:List Value).toArray }).get? s.heap.objs.size=some { cls:=.type "list", data:=.seq #[] }:=Heap.get?_push_size _ rfl
  refine wpAny_mono (kdl_extend (A:=A) (s:={ s with heap:=s.heap.push { cls:=.type "list", data:=.seq ([]:List Value).toArray } })
    (R:=fun (q:Result) (s':Shared)=>∃ (g:Heap) (tk:Nat) (xs:Array Value) (c':Nat),q=.ok (.ret (.ref s.heap.objs.size))∧s'={ s with heap:=g,toks:=tk }∧(∀ b o,s.heap.get? b=some o→g.get? b=some o) ∧
      g.get? s.heap.objs.size=some { cls:=.type "list", dict:=none,data:=.seq xs c',slots:=#[] }∧ItemsOf P xs n)
    K hh (K.keep _ _ hok fun b _ o e=>Heap.get?_push_of_some _ e) s.heap.objs.size (Nat.ne_of_gt l1) (Nat.ne_of_gt l2) (.ref s.heap.objs.size) 0 g0
    (fun g tk xs c' k1 k2 k3=>⟨g,tk,xs,c',rfl,rfl,fun b o e=>k1 b o (Nat.ne_of_lt (Heap.lt_size e)) (Heap.get?_push_of_some _ e),k2,k3⟩) hn) (fun f s' x=>?_) fun e s' x=>?_
  · cases f with
    | done f=>
      obtain ⟨g,tk,xs,c',e,rfl,k1,k2,k3⟩:=x
      cases e
      exact wpAny_bind (wpAny_load k2 (wpAny_pure (h g tk xs (Nat.le_of_lt (Heap.lt_size k2)) k1 k3)))
    | again c₁=>
      refine ⟨x.1,codeAny_mono x.2 fun q s₂ y=>?_⟩
      obtain ⟨g,tk,xs,c',rfl,rfl,k1,k2,k3⟩:=y
      exact wpAny_bind (wpAny_load k2 (wpAny_pure (h g tk xs (Nat.le_of_lt (Heap.lt_size k2)) k1 k3)))
  · obtain ⟨_,_,_,_,z,_⟩:=x
    cases z
end
section
variable {X:Cx}
theorem call_sortedD (hc:X.calm=true):CallR X (.builtin "sorted") (fun vs H Q=>∃ (a:Addr) (kvs:List (Key × V)) (zs:List Str),vs=[.ref a]∧Rd H a (.dK kvs)∧kvs.map (·.1)=zs.map Sum.inr∧zs.Nodup ∧
    ∀ (ss':List Str) (l:Addr),ss'.Perm zs→sortedS ss'=true→H l=none→Q (.ref l) (upd H l (.lst (ss'.map V.str)))):=by
  intro pins s σ H xs us Q I r h
  obtain ⟨a,kvs,zs,rfl,hq,hk,nd,q⟩:=h
  obtain ⟨u,rfl,ru⟩:=vals1 r
  cases (show u=Value.ref a from ru)
  have hh:X.A.in1.handled=none:=I.ok.hd hc
  obtain ⟨z,hy,vs,rv,dd⟩:=dk_rd I.hok hq
  obtain ⟨o,es,ep,ho,hrest⟩:=id dd
  have da:s.heap.DictAt (mixKind X.prog X.w) a vs ep:=⟨o,es,ho,hrest⟩
  have vl:=rv.length
  refine Calls.call_function_entry kind_sorted plain_sorted entry_sorted (args_sorted1 _) ?_
  unfold Builtin.«sorted»
  refine wpAny_bind (m:=checkCount "sorted" 1 1 _) (wpAny_pure ?_)
  have K:=kdl_dict (prog:=X.prog) (w:=X.w) (knd:=mixKind X.prog X.w) (kvs:=vs) (ep:=ep) hy
  refine wpAny_bind (collect_src (A:=X.A.in1) K hh da (by rw [← vl];exact z) fun h1 tk acc sz old1 hacc=>?_)
  have zl:zs.length=vs.length:=by
    have:=congrArg List.length hk
    rw [List.length_map,List.length_map] at this
    omega
  have hS:StrsAre acc.toList zs:=by
    refine strsAre_of (vals_at ?_ fun i x u hx hu=>?_)
    · simp [hacc.1,zl]
    · rw [List.getElem?_map] at hx
      rw [Array.getElem?_toList] at hu
      have il:i < zs.length:=by
        rw [zl,← hacc.1];exact (Array.getElem?_eq_some_iff.mp hu).1
      obtain ⟨kk,xx,e1,e2⟩:=hacc.2 i u hu
      have ki:(kvs.map (·.1))[i]?=some kk:=by
        have il':i < kvs.length:=by omega
        rw [List.getElem?_map,List.getElem?_eq_getElem il']
        obtain ⟨y,ey,_⟩:=kv_get rv (k:=kvs[i].1) (v:=kvs[i].2) (List.getElem?_eq_getElem il')
        rw [ey] at e1
        cases e1;rfl
      rw [hk,List.getElem?_map,List.getElem?_eq_getElem il] at ki
      rw [List.getElem?_eq_getElem il] at hx
      cases hx
      cases ki
      exact is_kV e2
  have al:acc.toList.length≤sizeLine:=by rw [Array.length_toList,hacc.1,← vl];exact z
  refine wpAny_bind (wpAny_newList ?_ al)
  have hL:(h1.push (seqObj "list" acc.toList.toArray 0)).get? h1.objs.size=some (seqObj "list" acc.toList.toArray 0):=Heap.get?_push_size _ rfl
  refine wpAny_bind (wpAny_holding (wpAny_call_entry slot_list_sort ⟨_,hL,rfl⟩ entry_list_sort (sort_strs (s:={ s with heap:=h1.push (seqObj "list" acc.toList.toArray 0),toks:=tk }) hL hS nd al fun out ss' b1 b2 b3=>⟨_,rfl,?_⟩) (args_list_sort _)))
  obtain ⟨e,he⟩:=sortedHeap_at (out:=out) hL
  have old:∀ b o,s.heap.get? b=some o→(sortedHeap (h1.push (seqObj "list" acc.toList.toArray 0)) h1.objs.size acc.toList out).get? b=some o:=fun b o eb=>by
    have lt:=Heap.lt_size (old1 _ _ eb)
    rw [sortedHeap_old (Nat.ne_of_lt lt) (by rw [show (h1.push (seqObj "list" acc.toList.toArray 0)).objs.size=h1.objs.size+1 from Heap.size_push ..];exact Nat.lt_succ_of_lt lt)]
    exact Heap.get?_push_of_some _ (old1 _ _ eb)
  have I2:=I.laid (t':=tk) old sz (show ObjOk X.prog X.w _ _ _ (.lst (ss'.map V.str)) from ⟨by rw [List.length_map,b2.length_eq,zl,← vl];exact z,out.toList,e,strsAre_get b1,he⟩)
  exact wpAny_pure ⟨_,rfl,.ref h1.objs.size,_,I2,rfl,q ss' _ b2 b3 (I.hok.fresh sz)⟩
end
end L2
namespace L2
open PySem PySem.Spec PyProof.Rows PySem.W
theorem entry_maxLoop:entryFor table "max.loop" = some Builtin.«max.loop»:=by kernel_rfl
theorem plain_maxLoop:plainId "max.loop" = true:=by kernel_rfl
theorem kind_max:builtinKind "max" = none:=by kernel_rfl
theorem plain_max:plainId "max" = true:=by kernel_rfl
theorem entry_max:entryFor table "max" = some Builtin.«max»:=by kernel_rfl
def Best (kf:Nat→Int) (b j:Nat):Prop:=b < j∧∀ i,i < j→kf i≤kf b∧(i < b→kf i < kf b)
theorem Best.one (kf:Nat→Int):Best kf 0 1:=⟨by omega,fun i hi=>⟨by rw [show i=0 by omega];exact Int.le_refl _,fun h=>by omega⟩⟩
theorem Best.stay {kf:Nat→Int} {b j:Nat} (h:Best kf b j) (hn:¬ kf b < kf j):Best kf b (j+1):=⟨by have:=h.1;omega,fun i hi=>by
  rcases Nat.lt_or_ge i j with q | q
  · exact h.2 i q
  · have:i=j:=by omega
    subst this
    exact ⟨by omega,fun z=>by have:=h.1;omega⟩⟩
theorem Best.new {kf:Nat→Int} {b j:Nat} (h:Best kf b j) (hn:kf b < kf j):Best kf j (j+1):=⟨by omega,fun i hi=>by
  rcases Nat.lt_or_ge i j with q | q
  · have:=(h.2 i q).1
    exact ⟨by omega,fun _=>by omega⟩
  · have:i=j:=by omega
    subst this
    exact ⟨Int.le_refl _,fun z=>by omega⟩⟩
section
variable {X:Cx} {pins:List (Addr × Obj)} {σ:St}
def KeyI (X:Cx) (A1:Around) (pins0:List (Addr × Obj)) (σ:St) (H0:Hp) (fv:Value) (xs:List V) (kf:Nat→Int):Prop:=
  ∀ (i:Nat) (x:V) (v:Value) (pins:List (Addr × Obj)) (H:Hp) (s:Shared),xs[i]?=some x→RelV x v→(∀ p∈pins0,p∈pins)→Inv X pins σ H s→Same H0 H →
    wpAny (model X.prog X.w) A1 (call fv [v]) (EP X pins σ fun k H'=>k=.int (kf i)∧Same H H') (fun _ _=>False) s
variable {A:Around} {R:Result→Shared→Prop} {H0:Hp} {a fa S It:Addr} {xs:List V} {kf:Nat→Int}
theorem Inv.rePin {pl:List (Addr × Obj)} {H:Hp} {s:Shared} (I:Inv X pins σ H s) (h:∀ p∈pl,s.heap.get? p.1=some p.2∧FpOk X pins H p.1∧∀ v,p.2.data≠Data.cell v):Inv X (pins++pl) σ H s:=I.pins_of fun p hp=>by
  rcases List.mem_append.mp hp with q | q
  · exact I.pin p (List.mem_append_right _ q)
  · obtain ⟨h1,h2,h3⟩:=h p q
    exact ⟨h1,h2.1,h2.2.1,h2.2.2.1,h3⟩
theorem sq_ne {H:Hp} {s:Shared} {j:Nat} (I:Inv X pins σ H s) (sl:SqL X.K H a xs) (fI:FpOk X pins H It) (hit:s.heap.IsListIter It a j):a≠It:=fun e=>by
  rcases sl with q | q
  · rcases q with q | ⟨o,q⟩ <;> (rw [e,fI.1] at q;cases q)
  · obtain ⟨o,_,_,q,hc,_⟩:=q
    have e1:=I.kIn a o q
    obtain ⟨o2,e2,hc2,_⟩:=hit
    rw [e,e2] at e1
    cases e1
    rw [hc2] at hc
    exact absurd (Value.type.inj hc) (by decide)
theorem mm_next {H:Hp} {s:Shared} {j:Nat} {x:V} {sv:Array Value} {c:Nat} {Q:Option Value→Shared→Prop} {E:Value→Shared→Prop} {g0:Value→Sem (Option Value)} (I:Inv X pins σ H s) (fI:FpOk X pins H It) (SI:S≠It) (sl:SqL X.K H a xs) (hh:A.handled=none)
    (hit:s.heap.IsListIter It a j) (hS:s.heap.get? S=some (seqObj "list" sv c)) (hx:xs[j]?=some x)
    (h:∀ (v:Value) (s':Shared),RelV x v→Inv X pins σ H s'→s'.heap.IsListIter It a (j+1)→s'.heap.get? S=some (seqObj "list" sv c)→Q (some v) s') :
    wpAny (model X.prog X.w) A ((pyNext (.ref It)).tryCatch g0) Q E s:=by
  obtain ⟨its,rv,ht,hz⟩:=I.list sl
  have aI:=sq_ne I sl fI hit
  have jl:j < xs.length:=(List.getElem?_eq_some_iff.mp hx).1
  have il:j < its.toArray.size:=by rw [List.size_toArray,← rv.length];exact jl
  refine wpAny_tryCatch ((Walks.list (prog:=X.prog) (w:=X.w) hh It a aI its.toArray).item j s _ _ il ⟨hit,ht.isList⟩ fun v h' tk hv st' kp=>?_)
  have I1:Inv X pins σ H { s with heap:=h',toks:=tk }:=I.turnedMany (tk:=tk) (ch:=[It]) (fun b hb=>by rw [List.mem_singleton.mp hb];exact fI) fun b ob hb q=>kp b ob hb q
  refine h v _ ?_ I1 st'.1 (kp S _ (by simpa using SI) hS)
  obtain ⟨u',e1,e2⟩:=rv.get hx
  have hv':its[j]?=some v:=by simpa using hv
  rw [hv'] at e1
  cases e1
  exact e2
end
section
variable {X:Cx}
theorem bt_max':bootBuiltins "max" = some (.builtin "max"):=by kernel_rfl
end
end L2
namespace W56
open PySem
def S:Nat→Nat
  | 0=>0
  | m+1=>5 * S m+1
def it (x:Nat):Nat→Nat
  | 0=>x
  | m+1=>5 * it x m+1
theorem it_eq (x:Nat):∀ m,it x m=x+S m * (4 * x+1)
  | 0=>by simp [it,S]
  | m+1=>by
    show 5 * it x m+1=x+(5 * S m+1) * (4 * x+1)
    rw [it_eq x m,Nat.add_mul,Nat.mul_assoc]
    generalize S m * (4 * x+1)=q
    omega
theorem it_add (x:Nat) (a:Nat):∀ b,it x (a+b)=it (it x a) b
  | 0=>rfl
  | b+1=>by show 5 * it x (a+b)+1=5 * it (it x a) b+1;rw [it_add x a b]
theorem S_two (n:Nat):S (2 * n)=2 * (S n * (2 * S n+1)):=by
  have h:=it_eq 0 (n+n)
  rw [it_add,it_eq (it 0 n) n,it_eq 0 n] at h
  simp only [Nat.mul_zero,Nat.zero_add,Nat.mul_one] at h
  rw [show 2 * n=n+n by omega,← h,Nat.mul_add,Nat.mul_one]
  generalize hq:S n * (4 * S n)=q
  have e1:S n * (2 * S n+1)=S n * (2 * S n)+S n:=by rw [Nat.mul_add,Nat.mul_one]
  have e2:S n * (4 * S n)=2 * (S n * (2 * S n)):=by rw [show 4 * S n=2 * (2 * S n) by omega,Nat.mul_left_comm]
  rw [e1]
  omega
theorem S_par:∀ m,S m % 2=m % 2
  | 0=>rfl
  | m+1=>by show (5 * S m+1) % 2=(m+1) % 2;have:=S_par m;omega
theorem cop (k c:Nat):Nat.Coprime (2 ^ k) (2 * c+1):=by
  apply Nat.Coprime.pow_left
  show Nat.gcd 2 (2 * c+1)=1
  rw [Nat.gcd_rec,show (2 * c+1) % 2=1 by omega]
  rfl
theorem S_dvd:∀ k m,2 ^ k ∣ S m→2 ^ k ∣ m
  | 0,m,_=>⟨m,by simp⟩
  | k+1,m,h=>by
    have h2:2 ∣ S m:=Nat.dvd_trans ⟨2 ^ k,by rw [Nat.pow_succ,Nat.mul_comm]⟩ h
    have pm:=S_par m
    obtain ⟨n,rfl⟩:∃ n,m=2 * n:=⟨m / 2,by have:=Nat.mod_eq_zero_of_dvd h2;omega⟩
    rw [S_two,Nat.pow_succ,Nat.mul_comm (2 ^ k) 2] at h
    have h3:2 ^ k ∣ S n * (2 * S n+1):=Nat.dvd_of_mul_dvd_mul_left (by decide) h
    have h4:=(cop k (S n)).dvd_of_dvd_mul_right h3
    have h5:=S_dvd k n h4
    rw [Nat.pow_succ,Nat.mul_comm (2 ^ k) 2]
    exact Nat.mul_dvd_mul_left 2 h5
theorem it_inj {k x a b:Nat} (hab:a < b) (hb:b < 2 ^ k):¬ it x a % 2 ^ k=it x b % 2 ^ k:=by
  intro h
  obtain ⟨d,rfl⟩:∃ d,b=a+d:=⟨b - a,by omega⟩
  rw [it_add,it_eq (it x a) d] at h
  generalize it x a=y at h
  have h1:2 ^ k ∣ S d * (4 * y+1):=by
    have:=Nat.sub_mod_eq_zero_of_mod_eq h.symm
    rw [Nat.add_sub_cancel_left] at this
    exact Nat.dvd_of_mod_eq_zero this
  rw [show 4 * y+1=2 * (2 * y)+1 by omega] at h1
  have h2:=S_dvd k d ((cop k (2 * y)).dvd_of_dvd_mul_right h1)
  have:=Nat.le_of_dvd (by omega) h2
  omega
theorem full {l:List Nat} {M:Nat} (nd:l.Nodup) (lt:∀ x∈l,x < M) (len:M≤l.length) {j:Nat} (hj:j < M):j∈l:=by
  by_cases h:j∈l
  · exact h
  · have n2:(j :: l).Nodup:=List.nodup_cons.mpr ⟨h,nd⟩
    have:=n2.length_le_of_subset (l₂:=List.range M) fun x hx=>by
      rcases List.mem_cons.mp hx with z | z
      · rw [z];exact List.mem_range.mpr hj
      · exact List.mem_range.mpr (lt x z)
    rw [List.length_cons,List.length_range] at this
    omega
theorem it_all (k x j:Nat) (hj:j < 2 ^ k):∃ m,m < 2 ^ k∧it x m % 2 ^ k=j:=by
  have nd:((List.range (2 ^ k)).map fun m=>it x m % 2 ^ k).Nodup:=by
    rw [List.nodup_iff_pairwise_ne,List.pairwise_map]
    refine List.Pairwise.imp_of_mem ?_ (List.pairwise_lt_range (n:=2 ^ k))
    intro a b ha hb ab
    exact it_inj ab (List.mem_range.mp hb)
  have:=full nd (M:=2 ^ k) (fun y hy=>by
    obtain ⟨m,_,rfl⟩:=List.mem_map.mp hy
    exact Nat.mod_lt _ (Nat.pow_pos (by decide))) (by simp) hj
  obtain ⟨m,hm,e⟩:=List.mem_map.mp this
  exact ⟨m,List.mem_range.mp hm,e⟩
def road (mask:Nat) (i p:Nat):Nat→Nat × Nat
  | 0=>(i,p)
  | m+1=>SetTable.leap mask (road mask i p m).1 (road mask i p m).2
theorem road_p (mask i p:Nat):∀ m,(road mask i p m).2=p / 32 ^ m
  | 0=>by simp [road]
  | m+1=>by
    show (road mask i p m).2 / 32=p / 32 ^ (m+1)
    rw [road_p mask i p m,Nat.div_div_eq_div_mul,Nat.pow_succ]
theorem road_it {mask i p k m:Nat} (hM:mask+1=2 ^ k) (h0:∀ n,m≤n→(road mask i p n).2=0):∀ n,(road mask i p (m+n)).1 % 2 ^ k=it (road mask i p m).1 n % 2 ^ k
  | 0=>rfl
  | n+1=>by
    have ih:=road_it hM h0 n
    show ((road mask i p (m+n)).1 * 5+1+(road mask i p (m+n)).2 / 32) % (mask+1) % 2 ^ k=(5 * it (road mask i p m).1 n+1) % 2 ^ k
    rw [h0 (m+n) (by omega),hM,Nat.mod_mod]
    simp only [Nat.zero_div,Nat.add_zero]
    rw [Nat.add_mod,Nat.mul_comm,Nat.mul_mod,ih,← Nat.mul_mod,← Nat.add_mod]
theorem road_lt {mask i p:Nat} (hi:i < mask+1):∀ m,(road mask i p m).1 < mask+1
  | 0=>hi
  | m+1=>Nat.mod_lt _ (by omega)
theorem road_all {mask i p k j:Nat} (hM:mask+1=2 ^ k) (hi:i < mask+1) (hp:p < 32 ^ 13) (hj:j < mask+1):∃ m,m < mask+15∧(road mask i p m).1=j:=by
  have h0:∀ n,13≤n→(road mask i p n).2=0:=fun n hn=>by
    rw [road_p]
    exact Nat.div_eq_of_lt (Nat.lt_of_lt_of_le hp (Nat.pow_le_pow_right (by decide) hn))
  obtain ⟨m,hm,e⟩:=it_all k (road mask i p 13).1 j (by omega)
  refine ⟨13+m,by omega,?_⟩
  have:=road_it hM h0 m
  rw [e,← hM,Nat.mod_eq_of_lt (road_lt hi _)] at this
  exact this
theorem bits_lt (h:Int):SetTable.bits h < 32 ^ 13:=by
  unfold SetTable.bits
  have h1:=Int.emod_lt_of_pos h (show (0:Int) < 2 ^ 64 by decide)
  have h2:=Int.emod_nonneg h (show (2 ^ 64:Int)≠0 by decide)
  have e:(32:Nat) ^ 13=36893488147419103232:=by decide
  have e2:(2 ^ 64:Int)=18446744073709551616:=by decide
  rw [e]
  rw [e2] at h1 h2 ⊢
  omega
theorem road_shift (mask i p:Nat):∀ m,road mask i p (m+1)=road mask (SetTable.leap mask i p).1 (SetTable.leap mask i p).2 m
  | 0=>rfl
  | m+1=>by
    show SetTable.leap mask (road mask i p (m+1)).1 (road mask i p (m+1)).2=SetTable.leap mask (road mask (SetTable.leap mask i p).1 (SetTable.leap mask i p).2 m).1 (road mask (SetTable.leap mask i p).1 (SetTable.leap mask i p).2 m).2
    rw [road_shift mask i p m]
theorem free_none {mask:Nat} {owner:Array (Option Nat)}:∀ fuel i p,SetTable.layClean.free mask owner fuel i p=none→∀ m,m < fuel→(owner.getD (road mask i p m).1 (some 0)).isNone=false
  | 0,_,_,_,m,hm=>absurd hm (Nat.not_lt_zero _)
  | fuel+1,i,p,h,m,hm=>by
    unfold SetTable.layClean.free at h
    cases e:(List.range (SetTable.runEnd mask i+1 - i)).find? (fun k=>(owner.getD (i+k) (some 0)).isNone) with
    | some k=>rw [e] at h;cases h
    | none=>
      rw [e] at h
      cases m with
      | zero=>
        have hr:i≤SetTable.runEnd mask i:=by unfold SetTable.runEnd;split <;> omega
        have:=List.find?_eq_none.mp e 0 (List.mem_range.mpr (by omega))
        rw [Nat.add_zero] at this
        exact Bool.eq_false_iff.mpr this
      | succ m=>
        rw [road_shift]
        exact free_none fuel _ _ h m (by omega)
theorem free_ok {mask:Nat} {owner:Array (Option Nat)}:∀ fuel i p j,SetTable.layClean.free mask owner fuel i p=some j→(owner.getD j (some 0)).isNone=true
  | 0,_,_,_,h=>by unfold SetTable.layClean.free at h;cases h
  | fuel+1,i,p,j,h=>by
    unfold SetTable.layClean.free at h
    cases e:(List.range (SetTable.runEnd mask i+1 - i)).find? (fun k=>(owner.getD (i+k) (some 0)).isNone) with
    | some k=>
      rw [e] at h
      cases h
      exact List.find?_some (p:=fun k=>(owner.getD (i+k) (some 0)).isNone) e
    | none=>
      rw [e] at h
      exact free_ok fuel _ _ j h
theorem free_some {mask k:Nat} {owner:Array (Option Nat)} (hM:mask+1=2 ^ k) {j:Nat} (hj:j < mask+1) (hn:(owner.getD j (some 0)).isNone=true) (h:Int) :
    ∃ j',SetTable.layClean.free mask owner (SetTable.turns mask) (SetTable.bits h % (mask+1)) (SetTable.bits h)=some j'∧(owner.getD j' (some 0)).isNone=true:=by
  cases e:SetTable.layClean.free mask owner (SetTable.turns mask) (SetTable.bits h % (mask+1)) (SetTable.bits h) with
  | some j'=>exact ⟨j',rfl,free_ok _ _ _ _ e⟩
  | none=>
    obtain ⟨m,hm,er⟩:=road_all hM (i:=SetTable.bits h % (mask+1)) (p:=SetTable.bits h) (Nat.mod_lt _ (by omega)) (bits_lt h) hj
    have:=free_none _ _ _ e m hm
    rw [er,hn] at this
    cases this
structure Own (mask:Nat) (owner:Array (Option Nat)) (js:List Nat):Prop where
  sz:owner.size=mask+1
  nd:js.Nodup
  lt:∀ j∈js,j < mask+1
  at_:∀ i j:Nat,js[i]?=some j→owner[j]?=some (some i)
  no:∀ j:Nat,j < mask+1→j ∉ js→owner[j]?=some none
theorem getD_none {owner:Array (Option Nat)} {j:Nat}:(owner.getD j (some 0)).isNone=true ↔ owner[j]?=some none:=by
  rw [Array.getD_eq_getD_getElem?]
  cases e:owner[j]? with
  | none=>simp
  | some v=>cases v <;> simp
theorem Own.step {mask k:Nat} {owner:Array (Option Nat)} {js:List Nat} (hM:mask+1=2 ^ k) (o:Own mask owner js) (hl:js.length < mask+1) (h:Int) :
    ∃ j,SetTable.layClean.free mask owner (SetTable.turns mask) (SetTable.bits h % (mask+1)) (SetTable.bits h)=some j∧Own mask (owner.setIfInBounds j (some js.length)) (js++[j]):=by
  obtain ⟨j0,hj0,hn0⟩:∃ j,j < mask+1∧j ∉ js:=by
    refine Classical.byContradiction fun hc=>?_
    have sub:∀ j∈List.range (mask+1),j∈js:=fun j hj=>Classical.byContradiction fun z=>hc ⟨j,List.mem_range.mp hj,z⟩
    have:=(List.nodup_range (n:=mask+1)).length_le_of_subset sub
    rw [List.length_range] at this
    omega
  obtain ⟨j,e,hn⟩:=free_some hM hj0 (getD_none.mpr (o.no j0 hj0 hn0)) h
  have hj:=getD_none.mp hn
  have jl:j < owner.size:=by
    obtain ⟨hh,_⟩:=Array.getElem?_eq_some_iff.mp hj
    exact hh
  have jn:j ∉ js:=fun z=>by
    obtain ⟨i,hi,ei⟩:=List.getElem_of_mem z
    have:=o.at_ i j (by rw [List.getElem?_eq_getElem hi,ei])
    rw [hj] at this
    cases this
  have sz:=o.sz
  refine ⟨j,e,⟨by rw [Array.size_setIfInBounds];exact sz,?_,?_,?_,?_⟩⟩
  · rw [List.nodup_append]
    exact ⟨o.nd,by simp,fun a ha b hb z=>jn (by rw [← List.mem_singleton.mp hb,← z];exact ha)⟩
  · intro i hi
    rcases List.mem_append.mp hi with z | z
    · exact o.lt i z
    · rw [List.mem_singleton.mp z];omega
  · intro i j' hi
    rcases Nat.lt_or_ge i js.length with z | z
    · rw [List.getElem?_append_left z] at hi
      have ne:j≠j':=fun y=>jn (by rw [y];exact List.mem_of_getElem? hi)
      rw [Array.getElem?_setIfInBounds_ne ne]
      exact o.at_ i j' hi
    · rw [List.getElem?_append_right z] at hi
      have e0:i - js.length=0:=by
        have:=(List.getElem?_eq_some_iff.mp hi).1
        simp at this;omega
      rw [e0] at hi
      obtain rfl:j=j':=by simpa using hi
      rw [Array.getElem?_setIfInBounds_self_of_lt jl,show i=js.length by omega]
  · intro j' h1 h2
    have ne:j≠j':=fun y=>h2 (by rw [y];simp)
    rw [Array.getElem?_setIfInBounds_ne ne]
    exact o.no j' h1 fun z=>h2 (List.mem_append_left _ z)
theorem Own.start (mask:Nat):Own mask (Array.replicate (mask+1) none) []:=
  ⟨by simp,List.nodup_nil,(fun j h=>by cases h),(fun i j h=>by cases h),fun j h _=>by rw [Array.getElem?_replicate,if_pos h]⟩
theorem fold_ok {mask k:Nat} (hM:mask+1=2 ^ k):∀ (hs:List Int) (owner:Array (Option Nat)) (js:List Nat),Own mask owner js→js.length+hs.length≤mask+1 →
    ∃ owner' js',(hs.foldl (init:=some (owner,js.length)) fun acc h=>do
      let (owner,k) ← acc
      let j ← SetTable.layClean.free mask owner (SetTable.turns mask) (SetTable.bits h % (mask+1)) (SetTable.bits h)
      pure (owner.setIfInBounds j (some k),k+1))=some (owner',js'.length)∧Own mask owner' js'∧js'.length=js.length+hs.length
  | [],owner,js,o,_=>⟨owner,js,rfl,o,rfl⟩
  | h :: hs,owner,js,o,hl=>by
    rw [List.length_cons] at hl
    obtain ⟨j,e,o2⟩:=o.step hM (by omega) h
    obtain ⟨owner',js',e2,o3,l3⟩:=fold_ok hM hs _ _ o2 (by rw [List.length_append,List.length_singleton];omega)
    refine ⟨owner',js',?_,o3,by rw [l3,List.length_append,List.length_singleton,List.length_cons];omega⟩
    rw [List.foldl_cons]
    have e3:((do
      let (owner,k) ← some (owner,js.length)
      let j ← SetTable.layClean.free mask owner (SetTable.turns mask) (SetTable.bits h % (mask+1)) (SetTable.bits h)
      pure (owner.setIfInBounds j (some k),k+1)):Option (Array (Option Nat) × Nat))=some (owner.setIfInBounds j (some js.length),(js++[j]).length):=by
      show (do
        let j ← SetTable.layClean.free mask owner (SetTable.turns mask) (SetTable.bits h % (mask+1)) (SetTable.bits h)
        pure (owner.setIfInBounds j (some js.length),js.length+1):Option (Array (Option Nat) × Nat))=_
      rw [e,List.length_append,List.length_singleton]
      rfl
    rw [e3]
    exact e2
theorem clean_ok {mask k:Nat} (hM:mask+1=2 ^ k) (hashes:Array Int) (hl:hashes.size≤mask+1):∃ owner js,SetTable.layClean mask hashes=some owner∧Own mask owner js∧js.length=hashes.size:=by
  obtain ⟨owner,js,e,o,l⟩:=fold_ok hM hashes.toList _ _ (Own.start mask) (by simpa using hl)
  refine ⟨owner,js,?_,o,by rw [l];simp⟩
  unfold SetTable.layClean
  rw [← Array.foldl_toList]
  rw [List.length_nil] at e
  rw [e]
  rfl
end W56
namespace W56
open PySem
theorem live_mem {mask:Nat} {owner:Array (Option Nat)} {js:List Nat} (o:Own mask owner js) (i:Nat):i∈((List.range (mask+1)).filterMap fun j=>(owner.getD j none).map ((j,·))).map (·.2) ↔ i < js.length:=by
  rw [List.mem_map]
  constructor
  · rintro ⟨⟨j,i'⟩,hm,rfl⟩
    obtain ⟨j',hj',e⟩:=List.mem_filterMap.mp hm
    have hj:=List.mem_range.mp hj'
    cases e2:owner.getD j' none with
    | none=>rw [e2] at e;cases e
    | some v=>
      rw [e2] at e
      obtain ⟨rfl,rfl⟩:=Prod.mk.inj (Option.some.inj e)
      by_cases z:j'∈js
      · obtain ⟨n,hn,en⟩:=List.getElem_of_mem z
        have:=o.at_ n j' (by rw [List.getElem?_eq_getElem hn,en])
        rw [Array.getD_eq_getD_getElem?,this] at e2
        have:n=v:=by simpa using e2
        show v < _
        omega
      · rw [Array.getD_eq_getD_getElem?,o.no j' hj z] at e2
        cases e2
  · intro hi
    have e1:js[i]?=some js[i]:=List.getElem?_eq_getElem hi
    have ha:=o.at_ i _ e1
    refine ⟨(js[i],i),List.mem_filterMap.mpr ⟨js[i],List.mem_range.mpr (o.lt _ (List.getElem_mem hi)),?_⟩,rfl⟩
    rw [Array.getD_eq_getD_getElem?,ha]
    rfl
theorem live_nd {mask:Nat} {owner:Array (Option Nat)} {js:List Nat} (o:Own mask owner js):(((List.range (mask+1)).filterMap fun j=>(owner.getD j none).map ((j,·))).map (·.2)).Nodup:=by
  have key:∀ j v,j < mask+1→owner.getD j none=some v→js[v]?=some j:=fun j v hj e=>by
    by_cases z:j∈js
    · obtain ⟨n,hn,en⟩:=List.getElem_of_mem z
      have h1:js[n]?=some j:=by rw [List.getElem?_eq_getElem hn,en]
      have:=o.at_ n j h1
      rw [Array.getD_eq_getD_getElem?,this] at e
      obtain rfl:n=v:=by simpa using e
      exact h1
    · rw [Array.getD_eq_getD_getElem?,o.no j hj z] at e
      cases e
  rw [List.nodup_iff_pairwise_ne,List.pairwise_map,List.pairwise_filterMap]
  refine List.Pairwise.imp_of_mem ?_ (List.pairwise_lt_range (n:=mask+1))
  intro a b ha hb ab x hx y hy z
  have ha':=List.mem_range.mp ha
  have hb':=List.mem_range.mp hb
  cases e1:owner.getD a none with
  | none=>rw [e1] at hx;cases hx
  | some v=>
    cases e2:owner.getD b none with
    | none=>rw [e2] at hy;cases hy
    | some u=>
      rw [e1] at hx
      rw [e2] at hy
      cases hx
      cases hy
      have k1:=key a v ha' e1
      have k2:=key b u hb' e2
      have:v=u:=z
      subst this
      rw [k1] at k2
      have:a=b:=Option.some.inj k2
      omega
theorem live_perm {mask:Nat} {owner:Array (Option Nat)} {js:List Nat} (o:Own mask owner js):(((List.range (mask+1)).filterMap fun j=>(owner.getD j none).map ((j,·))).map (·.2)).Perm (List.range js.length):=
  (List.perm_ext_iff_of_nodup (live_nd o) List.nodup_range).mpr fun i=>by rw [live_mem o i,List.mem_range]
theorem range_all {α:Type} (l:List α):(List.range l.length).filterMap (l[·]?)=l:=by
  induction l with
  | nil=>rfl
  | cons a l ih=>
    rw [List.length_cons,List.range_succ_eq_map,List.filterMap_cons]
    show a :: ((List.range l.length).map Nat.succ).filterMap ((a :: l)[·]?)=_
    rw [List.filterMap_map]
    congr 1
theorem laid_ok {mask k:Nat} (hM:mask+1=2 ^ k) (fg mv:Nat) (led pl:Bool) {α:Type} (hash:α→Int) (es:Array α) (hl:es.size≤mask) :
    ∃ t order,SetTable.laid mask fg mv led pl (es.map hash)=some (t,order)∧(order.filterMap (es[·]?)).toList.Perm es.toList∧t.fits es.size=true∧t.led=led∧t.plain=pl∧t.mask=mask∧t.dummies=#[]:=by
  obtain ⟨owner,js,e,o,l⟩:=clean_ok hM (es.map hash) (by rw [Array.size_map];omega)
  rw [Array.size_map] at l
  have el:SetTable.laid mask fg mv led pl (es.map hash)=some ({ mask,place:=(((List.range (mask+1)).filterMap fun j=>(owner.getD j none).map ((j,·))).map (·.1)).toArray,dummies:=#[],finger:=fg,led,moves:=mv,plain:=pl },(((List.range (mask+1)).filterMap fun j=>(owner.getD j none).map ((j,·))).map (·.2)).toArray):=by
    unfold SetTable.laid
    rw [e]
    rfl
  refine ⟨_,_,el,?_,?_,rfl,rfl,rfl,rfl⟩
  · have p:=live_perm o
    have p2:=p.filterMap (fun i=>es.toList[i]?)
    rw [l,← Array.length_toList,range_all] at p2
    rw [Array.toList_filterMap]
    simpa using p2
  · have p:=(live_perm o).length_eq
    rw [List.length_map,List.length_range,l] at p
    unfold SetTable.fits SetTable.fill
    simp only [List.size_toArray,List.length_map,p]
    simp
    exact hl
theorem size_go:∀ fuel j n,(∃ k,j=2 ^ k)→n < j * 2 ^ fuel→∃ k,SetTable.sizeAbove.go n fuel j=2 ^ k∧n < 2 ^ k∧(2 ^ k=j∨2 ^ k≤2 * n)
  | 0,j,n,⟨k,hk⟩,h=>⟨k,hk,by rw [← hk];simpa using h,.inl hk.symm⟩
  | fuel+1,j,n,⟨k,hk⟩,h=>by
    unfold SetTable.sizeAbove.go
    by_cases c:j≤n
    · rw [if_pos c]
      obtain ⟨k',e,l1,l2⟩:=size_go fuel (j * 2) n ⟨k+1,by rw [hk,Nat.pow_succ]⟩ (by rw [Nat.pow_succ] at h;rw [Nat.mul_assoc,Nat.mul_comm 2];exact h)
      refine ⟨k',e,l1,.inr ?_⟩
      rcases l2 with z | z
      · omega
      · exact z
    · rw [if_neg c]
      exact ⟨k,hk,by omega,.inl hk.symm⟩
theorem size_ok (n:Nat) (h:n < 2 ^ 60):∃ k,SetTable.sizeAbove n=2 ^ k∧n < 2 ^ k∧(2 ^ k=8∨2 ^ k≤2 * n):=
  size_go 64 8 n ⟨3,rfl⟩ (Nat.lt_of_lt_of_le h (by decide))
end W56
namespace L2
open PySem PySem.Spec PyProof.Rows PySem.W
theorem entry_minLoop:entryFor table "min.loop" = some Builtin.«min.loop»:=by kernel_rfl
theorem plain_minLoop:plainId "min.loop" = true:=by kernel_rfl
theorem kind_min:builtinKind "min" = none:=by kernel_rfl
theorem plain_min:plainId "min" = true:=by kernel_rfl
theorem entry_min:entryFor table "min" = some Builtin.«min»:=by kernel_rfl
section
variable {X:Cx} {pins:List (Addr × Obj)} {σ:St} {A:Around} {R:Result→Shared→Prop} {H:Hp} {a S It:Addr} {as:List Addr} {K:Nat→List V} {sh:List Nat}
end
section
variable {X:Cx}
end
end L2
namespace L2
open PySem PySem.Spec PyProof.Rows PySem.W
section
variable {prog:Program} {w:World} {A:Around} {E:Value→Shared→Prop} {s:Shared}
theorem addH_text {a:Addr} {S:List Str} {n:Nat} {led:Bool} {x:Str} {tk:Tok} {Q:Bool→Shared→Prop} (ha:SetA w led s.heap a S n) (hn:n+1 < scanBound)
    (h:∀ b h',Heap.SameBut a s.heap h'→SetA w led h' a (S++[x]) (n+1)→Q b { s with heap:=h' }):wpAny (model prog w) A (setAddHashed a (.str x tk) (hashStr w x)) Q E s:=by
  obtain ⟨es,ep,t,hget,hS,hsz⟩:=ha
  have hsc:scanBound=4096:=rfl
  have is:(strKind prog w).is x (.str x tk)=true:=by show (x == x)=true;exact beq_self_eq_true x
  have elems:ElemsOf (strKind prog w) es.toList:=fun e he=>by
    obtain ⟨y,tk',rfl⟩:=hS.ent e he
    exact ⟨⟨y,by show (y == y)=true;exact beq_self_eq_true y,rfl⟩,rfl⟩
  show wpAny _ _ (setAddHashed a (.str x tk) ((strKind prog w).hash x)) _ _ _
  unfold setAddHashed
  refine wpAny_holding ?_
  rw [setAddHashedIn.eq_def]
  show wpAny _ _ (setState a >>= _) _ _ _
  refine wpAny_bind (wpAny_setState_of (s:=s) hget rfl hS.fit ?_)
  have bs:byScan (.str x tk) es=true:=by
    unfold byScan
    have h1:(Value.str x tk).scannable=true:=rfl
    have h2:(es.all fun e=>e.2.scannable)=true:=by
      rw [Array.all_eq_true_iff_forall_mem]
      intro e he
      exact (elems e (Array.mem_toList_iff.mpr he)).2
    rw [h1,h2,decide_eq_true (by omega)];rfl
  dsimp only
  rw [if_pos bs]
  refine wpAny_bind ?_
  unfold setAddByScan
  refine wpAny_bind (wpAny_rule (wpAny_bind (wpAny_setScan_of (s:=s) is hget rfl hS.fit elems ?_)))
  cases ef:List.findIdx? (fun e=>(strKind prog w).is x e.2) es.toList with
  | some j=>
    dsimp only
    refine wpAny_pure (wpAny_pure ?_)
    have xin:x∈S:=by
      rw [← hS.mem x]
      obtain ⟨hj,hp,_⟩:=List.findIdx?_eq_some_iff_getElem.mp ef
      have hm:=List.getElem_mem hj
      obtain ⟨y,tk',e⟩:=hS.ent _ hm
      rw [e] at hp
      have:y=x:=eq_of_beq (show (y == x)=true from hp)
      subst this
      exact List.mem_map.mpr ⟨_,hm,by rw [e];rfl⟩
    refine h false s.heap (Heap.SameBut.refl ..) ⟨es,ep,t,hget,⟨hS.ent,hS.nd,fun y=>?_,hS.fit,hS.led,hS.pl⟩,by omega⟩
    rw [hS.mem y,List.mem_append]
    constructor
    · exact .inl
    · rintro (z | z)
      · exact z
      · rw [List.mem_singleton.mp z];exact xin
  | none=>
    dsimp only
    have xout:x ∉ S:=fun hin=>by
      rw [← hS.mem x] at hin
      obtain ⟨e,he,ek⟩:=List.mem_map.mp hin
      have:=List.findIdx?_eq_none_iff.mp ef e he
      obtain ⟨y,tk',rfl⟩:=hS.ent e he
      have ey:y=x:=ek
      subst ey
      exact absurd (show (strKind prog w).is y (.str y tk')=true from (by show (y == y)=true;exact beq_self_eq_true y)) (by rw [this];simp)
    have lp:=layNew_perm t es ((strKind prog w).hash x) (.str x tk)
    have lf:=layNew_fits t es ((strKind prog w).hash x) (.str x tk)
    have ll:=lay_led t es ((strKind prog w).hash x) (.str x tk)
    have lz:=lp.length_eq
    rw [Array.length_toList,Array.length_toList,Array.size_push] at lz
    generalize layNew t es ((strKind prog w).hash x) (.str x tk)=L at lp lf ll lz
    obtain ⟨es1,t1,wd,gv⟩:=L
    dsimp only at lp lf ll lz ⊢
    have zl:sizeLine=268435455∨4096≤sizeLine:=.inr (by rw [sizeLine_eq];decide)
    have zz:es1.size≤sizeLine:=by rcases zl with z | z <;> omega
    refine wpAny_bind (gave_ok ?_)
    have fin:∀ t2:SetTable,t2.fits es1.size=true→t2.led=led→t2.plain=false →
        wpAny (model prog w) A (do
          storeSet a es1 t2
          have __do_jp:Unit→Sem (Option Bool):=fun __r=>pure (some true)
          if (!wd && t2.tooFull)=true then
            match relayAll t2 es1 (SetTable.grown es1.size) with
            | (es,t,gave)=>do
              (match gave with | true=>rule "set.scan.the-table-gave-way" | false=>pure ())
              let __r ← storeSet a es t
              __do_jp __r
          else __do_jp ()) (fun r s'=>wpAny (model prog w) A (match r with | some added=>pure added | none=>setAddHashedIn a (.str x tk) ((strKind prog w).hash x) 99999) Q E s') E s:=fun t2 f2 l2 p2=>by
      have g:=hS.grow (es':=es1) (t':=t2) (tk:=tk) xout lp f2 l2 p2
      refine wpAny_bind (store_set (s:=s) hget zz fun h1 sb1 hg1=>?_)
      dsimp only
      split
      · have gr:=g.relay p2 (SetTable.grown es1.size)
        have rz:=(relayAll_perm t2 es1 (SetTable.grown es1.size)).length_eq
        rw [Array.length_toList,Array.length_toList] at rz
        generalize relayAll t2 es1 (SetTable.grown es1.size)=Rr at gr rz
        obtain ⟨es3,t3,gv3⟩:=Rr
        dsimp only at gr rz ⊢
        refine wpAny_bind (gave_ok ?_)
        refine wpAny_bind (store_set (s:={ s with heap:=h1 }) hg1 (by omega) fun h2 sb2 hg2=>?_)
        refine wpAny_pure (wpAny_pure ?_)
        exact h true h2 (sb1.trans sb2) ⟨es3,_,t3,hg2,gr,by omega⟩
      · refine wpAny_pure (wpAny_pure ?_)
        exact h true h1 sb1 ⟨es1,_,t2,hg1,g,by omega⟩
    by_cases hp:t1.plain=true
    · rw [if_pos hp,hashByValue.eq_5]
      refine wpAny_bind (wpAny_pure ?_)
      have ff:=fin { mask:=t1.mask,place:=t1.place,dummies:=t1.dummies,finger:=t1.finger,led:=t1.led,moves:=t1.moves,plain:=false } lf (ll.trans hS.led) rfl
      exact ff
    · rw [if_neg hp]
      refine wpAny_bind (wpAny_pure ?_)
      have ff:=fin t1 lf (ll.trans hS.led) (by simpa using hp)
      exact ff
theorem find_text {a:Addr} {S:List Str} {n:Nat} {led:Bool} {x:Str} {tk:Tok} {Q:Option Nat→Shared→Prop} (ha:SetA w led s.heap a S n) (hn:n < scanBound)
    (h:∀ r:Option Nat,(r.isSome=true ↔ x∈S)→Q r s):wpAny (model prog w) A (setFind a (.str x tk) (hashStr w x)) Q E s:=by
  obtain ⟨es,ep,t,hget,hS,hsz⟩:=ha
  have hsc:scanBound=4096:=rfl
  have is:(strKind prog w).is x (.str x tk)=true:=by show (x == x)=true;exact beq_self_eq_true x
  have elems:ElemsOf (strKind prog w) es.toList:=fun e he=>by
    obtain ⟨y,tk',rfl⟩:=hS.ent e he
    exact ⟨⟨y,by show (y == y)=true;exact beq_self_eq_true y,rfl⟩,rfl⟩
  show wpAny _ _ (setFind a (.str x tk) ((strKind prog w).hash x)) _ _ _
  unfold setFind setFindIn
  refine wpAny_bind (wpAny_setState_of hget rfl hS.fit ?_)
  dsimp only
  rw [byScan_of (knd:=strKind prog w) (x:=.str x tk) rfl (by omega) elems]
  simp only [↓reduceIte]
  refine wpAny_bind (wpAny_rule ?_)
  refine wpAny_bind (wpAny_setScan_of is hget rfl hS.fit elems ?_)
  cases ef:List.findIdx? (fun e=>(strKind prog w).is x e.2) es.toList with
  | some j=>
    dsimp only
    refine wpAny_pure (h _ ⟨fun _=>?_,fun _=>rfl⟩)
    rw [← hS.mem x]
    obtain ⟨hj,hp,_⟩:=List.findIdx?_eq_some_iff_getElem.mp ef
    have hm:=List.getElem_mem hj
    obtain ⟨y,tk',e⟩:=hS.ent _ hm
    rw [e] at hp
    have:y=x:=eq_of_beq (show (y == x)=true from hp)
    subst this
    exact List.mem_map.mpr ⟨_,hm,by rw [e];rfl⟩
  | none=>
    dsimp only
    refine wpAny_pure (h _ ⟨(fun z=>by cases z),fun hin=>?_⟩)
    exfalso
    rw [← hS.mem x] at hin
    obtain ⟨e,he,ek⟩:=List.mem_map.mp hin
    have:=List.findIdx?_eq_none_iff.mp ef e he
    obtain ⟨y,tk',rfl⟩:=hS.ent e he
    have ey:y=x:=ek
    subst ey
    exact absurd (show (strKind prog w).is y (.str y tk')=true from (by show (y == y)=true;exact beq_self_eq_true y)) (by rw [this];simp)
theorem walk_ok {D:Addr} {es:Array (Int × Value)} {ep:Nat} {t:SetTable} {S:List Str} {Q:Array (Int × Value)→Shared→Prop} (hD:s.heap.get? D=some { cls:=.type "set", data:=.set es ep t }) (hS:SetS w (ledOf w) es t S)
    (h:∀ (ys:Array (Int × Value)) d,ys.toList.Perm es.toList→Q ys { s with drawn:=d }):wpAny (model prog w) A (setWalk D) Q E s:=by
  unfold setWalk
  refine wpAny_bind (wpAny_setState_of hD rfl hS.fit ?_)
  dsimp only
  refine wpAny_bind (by_text ?_)
  by_cases bt:w.params.followText "set-order" = true
  · rw [if_pos bt]
    refine wpAny_bind (wpAny_askSetting (wpAny_pure ?_))
    exact h _ s.drawn (pick_perm _ _)
  · rw [if_neg bt]
    by_cases dr:(!t.plain && decide (es.size > 1))=true
    · refine wpAny_ite_true (decide_eq_true dr) ?_
      refine wpAny_bind (draw_ok es.size es.toList _ _ (by simp) fun ps d hp=>?_)
      exact wpAny_pure (h _ d (by simpa using hp))
    · split
      · rename_i c
        exact absurd c dr
      refine wpAny_bind ?_
      show wpAny _ _ (if (!t.led && decide (es.size > 1))=true then _ else pure ()) _ _ _
      have hl:t.led=true:=by
        rw [hS.led];unfold ledOf
        simpa using bt
      rw [if_neg (by rw [hl];simp)]
      exact wpAny_pure (wpAny_pure (h es s.drawn (List.Perm.refl _)))
theorem quiet_ok {Q:Bool→Shared→Prop}:∀ (as:List Addr) (b:MProd (Option Bool) PUnit),(∀ a∈as,∃ S n led,SetA w led s.heap a S n)→Q true s→wpAny (model prog w) A (setsQuiet as) Q E s:=fun as _ hs q=>by
  unfold setsQuiet
  refine wpAny_bind (wpAny_forIn_list _ (fun rest b s'=>b.1=none∧s'=s∧∀ a∈rest,∃ S n led,SetA w led s.heap a S n) _ ?_ ?_ as _ ⟨rfl,rfl,hs⟩)
  · rintro a rest b s' ⟨hb,rfl,hr⟩
    obtain ⟨S,n,led,es,ep,t,hget,hS,_⟩:=hr a List.mem_cons_self
    unfold setEntries
    refine wpAny_bind (wpAny_bind (wpAny_setState_of hget rfl hS.fit (wpAny_pure ?_)))
    refine wpAny_bind (PySem.MeetsSeq2.wpAny_forIn_array _ (fun rest2 b2 s2=>b2.1=none∧s2=s'∧∀ e∈rest2,∃ x tk,e=(hashStr w x,Value.str x tk)) _ ?_ ?_ es _ ⟨rfl,rfl,hS.ent⟩)
    · rintro e rest2 b2 s2 ⟨hb2,rfl,he⟩
      obtain ⟨x,tk,rfl⟩:=he e List.mem_cons_self
      dsimp only
      exact wpAny_pure ⟨rfl,rfl,fun e h=>he e (List.mem_cons_of_mem _ h)⟩
    · rintro b2 s2 ⟨hb2,rfl,_⟩
      obtain ⟨b21,b22⟩:=b2
      cases (show b21=none from hb2)
      dsimp only
      exact wpAny_pure ⟨rfl,rfl,fun a h=>hr a (List.mem_cons_of_mem _ h)⟩
  · rintro b s' ⟨hb,rfl,_⟩
    obtain ⟨b1,b2⟩:=b
    cases (show b1=none from hb)
    dsimp only
    exact wpAny_pure q
theorem SetA.empty {led:Bool} {h:Heap} {r:Addr} {n:Nat} (x:SetA w led h r [] n):∃ ep t,h.get? r=some { cls:=.type "set", data:=.set #[] ep t }∧SetS w led #[] t []:=by
  obtain ⟨es,ep,t,hg,hS,_⟩:=x
  have:es=#[]:=by
    have e:es.toList=[]:=by
      refine List.eq_nil_iff_forall_not_mem.mpr fun e he=>?_
      have:=(hS.mem (keyOf e)).mp (List.mem_map.mpr ⟨e,he,rfl⟩)
      cases this
    simpa using e
  subst this
  exact ⟨ep,t,hg,hS⟩
theorem unseen_ok {D r asked:Addr} {es:Array (Int × Value)} {ep:Nat} {t:SetTable} {S T:List Str} {m:Nat} {Q:Array (Int × Value)→Shared→Prop} (hD:s.heap.get? D=some { cls:=.type "set", data:=.set es ep t }) (hS:SetS w (ledOf w) es t S)
    (hk:SetA w (ledOf w) s.heap asked T m) (hr:SetA w (ledOf w) s.heap r [] 0)
    (h:∀ (ys:Array (Int × Value)) (h':Heap) d,ys.toList.Perm es.toList→Heap.SameBut r s.heap h'→SetA w (ledOf w) h' r [] 0→Q ys { s with heap:=h',drawn:=d }):wpAny (model prog w) A (setWalkUnseen D [asked,r] (some r)) Q E s:=by
  unfold setWalkUnseen
  refine wpAny_bind (wpAny_setState_of hD rfl hS.fit ?_)
  dsimp only
  refine wpAny_bind (by_text ?_)
  split
  · refine walk_ok hD hS fun ys d hp=>?_
    exact h ys s.heap d hp (Heap.SameBut.refl ..) hr
  · refine wpAny_bind (quiet_ok (D :: [asked,r]) default (fun a ha=>?_) ?_)
    · simp only [List.mem_cons,List.not_mem_nil,or_false] at ha
      rcases ha with rfl | rfl | rfl
      · exact ⟨S,es.size,_,⟨es,ep,t,hD,hS,Nat.le_refl _⟩⟩
      · exact ⟨T,m,_,hk⟩
      · exact ⟨[],0,_,hr⟩
    · rw [if_neg (by decide)]
      refine wpAny_bind (wpAny_rule ?_)
      obtain ⟨ep2,t2,hg2,hS2⟩:=hr.empty
      refine wpAny_bind (wpAny_setState_of hg2 rfl hS2.fit ?_)
      dsimp only
      split
      · refine wpAny_bind (store_set hg2 (by rw [sizeLine_eq];decide) fun h' sb hg=>?_)
        refine wpAny_pure (h es h' s.drawn (List.Perm.refl _) sb ⟨#[],_,_,hg,⟨hS2.ent,hS2.nd,hS2.mem,hS2.fit,?_,.inl rfl⟩,Nat.le_refl _⟩)
        show (t2.led && t.led)=ledOf w
        rw [hS2.led,hS.led,Bool.and_self]
      · exact wpAny_pure (h es s.heap s.drawn (List.Perm.refl _) (Heap.SameBut.refl ..) hr)
theorem and_loop {id:String} {W r asked:Addr} {es:Array (Int × Value)} {ep:Nat} {t:SetTable} {S T:List Str} {n m:Nat} {Q:PUnit→Shared→Prop} (hW:s.heap.get? W=some { cls:=.type "set", data:=.set es ep t }) (hS:SetS w (ledOf w) es t S)
    (hk:SetA w (ledOf w) s.heap asked T m) (hr:SetA w (ledOf w) s.heap r [] 0) (Wr:W≠r) (kr:asked≠r) (n1:es.size≤n) (n4:n < 4000) (m4:m < 4000)
    (h:∀ (h':Heap) d U,Heap.SameBut r s.heap h'→SetA w (ledOf w) h' r U n→(∀ x,x∈U ↔ x∈S∧x∈T)→Q ⟨⟩ { s with heap:=h',drawn:=d }) :
    wpAny (model prog w) A (do
      let was ← setEpoch W
      for (h,x) in ← setWalkUnseen W [asked,r] (some r) do
        holding [x] do
          if (← setFind asked x h).isSome then
            let _ ← setAddHashed r x h
        Builtin.Frozenset.unchanged id W was) Q E s:=by
  have hsc:scanBound=4096:=rfl
  refine wpAny_bind (wpAny_setEpoch_of hW rfl hS.fit ?_)
  refine wpAny_bind (unseen_ok hW hS hk hr fun ys h1 d hp sb1 hr1=>?_)
  have yl:ys.toList.length=es.size:=by rw [hp.length_eq];simp
  refine wpAny_bind (wpAny_mono (PySem.MeetsSeq2.wpAny_forIn_array _ (fun rest _ s'=>∃ h' U k,s'={ s with heap:=h',drawn:=d }∧Heap.SameBut r s.heap h'∧SetA w (ledOf w) h' r U k∧k+rest.length≤n∧(∀ e∈rest,∃ x tk,e=(hashStr w x,Value.str x tk))∧∀ x,(x∈U∨(x∈rest.map keyOf∧x∈T)) ↔ (x∈S∧x∈T)) (fun _ s'=>∃ h' U,s'={ s with heap:=h',drawn:=d }∧Heap.SameBut r s.heap h'∧SetA w (ledOf w) h' r U n∧∀ x,x∈U ↔ x∈S∧x∈T) ?_ ?_ ys _ ⟨h1,[],0,rfl,sb1,hr1,by omega,fun e he=>hS.ent e (hp.mem_iff.mp he),fun x=>?_⟩) (fun _ s' ⟨h',U,e,sb,hU,hm⟩=>by subst e;exact wpAny_pure (h h' d U sb hU hm)) (fun _ _ z=>z))
  · rintro e rest b s' ⟨h',U,k,rfl,sb,hU,hk',hent,hm⟩
    obtain ⟨x,tk,rfl⟩:=hent e List.mem_cons_self
    dsimp only
    have hk2:SetA w (ledOf w) h' asked T m:=hk.keeps fun o e=>by rw [sb.2 _ kr];exact e
    have hW2:h'.get? W=some { cls:=.type "set", data:=.set es ep t }:=by rw [sb.2 _ Wr];exact hW
    rw [List.length_cons] at hk'
    refine wpAny_bind (wpAny_holding (wpAny_bind (find_text (s:={ s with heap:=h',drawn:=d }) hk2 (by omega) fun o ho=>?_)))
    by_cases xt:x∈T
    · rw [if_pos (ho.mpr xt)]
      refine wpAny_bind (addH_text (s:={ s with heap:=h',drawn:=d }) hU (by omega) fun b' h2 sb2 hU2=>wpAny_pure ?_)
      unfold Builtin.Frozenset.unchanged
      have hW3:h2.get? W=some { cls:=.type "set", data:=.set es ep t }:=by rw [sb2.2 _ Wr];exact hW2
      refine wpAny_bind (wpAny_bind (wpAny_setEpoch_of (s:={ s with heap:=h2,drawn:=d }) hW3 rfl hS.fit ?_))
      rw [if_neg (by simp)]
      refine wpAny_pure (wpAny_pure ⟨h2,U++[x],k+1,rfl,sb.trans sb2,hU2,by omega,fun e he=>hent e (List.mem_cons_of_mem _ he),fun y=>?_⟩)
      rw [← hm y,List.mem_append,List.mem_singleton,List.map_cons,List.mem_cons]
      show ((y∈U∨y=x)∨_) ↔ (y∈U∨((y=x∨_)∧_))
      constructor
      · rintro ((z | z) | z)
        · exact .inl z
        · exact .inr ⟨.inl z,by rw [z];exact xt⟩
        · exact .inr ⟨.inr z.1,z.2⟩
      · rintro (z | ⟨z | z,z2⟩)
        · exact .inl (.inl z)
        · exact .inl (.inr z)
        · exact .inr ⟨z,z2⟩
    · rw [if_neg (fun z=>xt (ho.mp z))]
      refine wpAny_pure ?_
      unfold Builtin.Frozenset.unchanged
      refine wpAny_bind (wpAny_bind (wpAny_setEpoch_of (s:={ s with heap:=h',drawn:=d }) hW2 rfl hS.fit ?_))
      rw [if_neg (by simp)]
      refine wpAny_pure (wpAny_pure ⟨h',U,k,rfl,sb,hU,by omega,fun e he=>hent e (List.mem_cons_of_mem _ he),fun y=>?_⟩)
      rw [← hm y,List.map_cons,List.mem_cons]
      show (y∈U∨_) ↔ (y∈U∨((y=x∨_)∧_))
      constructor
      · rintro (z | z)
        · exact .inl z
        · exact .inr ⟨.inr z.1,z.2⟩
      · rintro (z | ⟨z | z,z2⟩)
        · exact .inl z
        · rw [z] at z2;exact absurd z2 xt
        · exact .inr ⟨z,z2⟩
  · rintro b s' ⟨h',U,k,rfl,sb,hU,hk',_,hm⟩
    refine ⟨h',U,rfl,sb,?_,fun x=>?_⟩
    · obtain ⟨es2,ep2,t2,g,hS2,hz⟩:=hU
      exact ⟨es2,ep2,t2,g,hS2,by omega⟩
    · rw [← hm x];simp
  · rw [(hp.map keyOf).mem_iff,hS.mem x];simp
theorem sub_set_self:isSubtype (.type "set") (.type "set")=pure true:=F.sub_set_set
theorem and_ok {nm:String} {a b:Addr} {S T:List Str} {n m:Nat} {Q:Value→Shared→Prop} (ha:SetA w (ledOf w) s.heap a S n) (hb:SetA w (ledOf w) s.heap b T m) (ab:a≠b) (n4:n < 4000) (m4:m < 4000)
    (h:∀ (h':Heap) d U k,(∀ c o,s.heap.get? c=some o→h'.get? c=some o)→SetA w (ledOf w) h' s.heap.objs.size U k→(k=n∨k=m)→(∀ x,x∈U ↔ x∈S∧x∈T)→Q (.ref s.heap.objs.size) { s with heap:=h',drawn:=d }) :
    wpAny (model prog w) A (Builtin.Frozenset.intersection nm a (.ref b)) Q E s:=by
  have hTa:=ha.typeIs
  obtain ⟨es,ep,t,hga,hSa,za⟩:=id ha
  obtain ⟨es2,ep2,t2,hgb,hSb,zb⟩:=id hb
  have la:a < s.heap.objs.size:=Heap.lt_size hga
  have lb:b < s.heap.objs.size:=Heap.lt_size hgb
  unfold Builtin.Frozenset.intersection
  rw [if_neg (by intro z;exact ab (by simpa using (eq_of_beq z).symm))]
  unfold Builtin.Frozenset.baseOf
  refine wpAny_bind (wpAny_bind (wpAny_isInstance hTa sub_set_self (wpAny_pure ?_)))
  rw [if_pos rfl]
  unfold newSet
  refine wpAny_bind (wpAny_bind (by_text ?_))
  dsimp only
  refine wpAny_newObj_type ?_
  show wpAny (model prog w) A _ _ E { s with heap:=s.heap.push { cls:=.type "set", data:=.set #[] 0 (SetTable.fresh 0 0 (ledOf w)) } }
  have hn:(s.heap.push { cls:=.type "set", data:=.set #[] 0 (SetTable.fresh 0 0 (ledOf w)) }).get? s.heap.objs.size=some { cls:=.type "set", data:=.set #[] 0 (SetTable.fresh 0 0 (ledOf w)) }:=Heap.get?_push_size _ rfl
  have ha1:SetA w (ledOf w) (s.heap.push { cls:=.type "set", data:=.set #[] 0 (SetTable.fresh 0 0 (ledOf w)) }) a S n:=ha.keeps fun o e=>Heap.get?_push_of_some _ e
  have hb1:SetA w (ledOf w) (s.heap.push { cls:=.type "set", data:=.set #[] 0 (SetTable.fresh 0 0 (ledOf w)) }) b T m:=hb.keeps fun o e=>Heap.get?_push_of_some _ e
  have hga1:=Heap.get?_push_of_some { cls:=.type "set", data:=.set #[] 0 (SetTable.fresh 0 0 (ledOf w)) } hga
  have hgb1:=Heap.get?_push_of_some { cls:=.type "set", data:=.set #[] 0 (SetTable.fresh 0 0 (ledOf w)) } hgb
  have hr1:SetA w (ledOf w) (s.heap.push { cls:=.type "set", data:=.set #[] 0 (SetTable.fresh 0 0 (ledOf w)) }) s.heap.objs.size [] 0:=SetA.start hn
  have old1:∀ c o,s.heap.get? c=some o→(s.heap.push { cls:=.type "set", data:=.set #[] 0 (SetTable.fresh 0 0 (ledOf w)) }).get? c=some o:=fun c o e=>Heap.get?_push_of_some _ e
  generalize hg:s.heap.push { cls:=.type "set", data:=.set #[] 0 (SetTable.fresh 0 0 (ledOf w)) }=g at hn ha1 hb1 hga1 hgb1 hr1 old1
  show wpAny _ _ (pure s.heap.objs.size >>= _) _ _ _
  refine wpAny_bind (wpAny_pure ?_)
  refine wpAny_bind (wpAny_holding ?_)
  unfold Builtin.Frozenset.isAnySet
  have hTb:({ s with heap:=g }:Shared).TypeIs (.ref b) "set" := hb1.typeIs (s:={ s with heap:=g })
  refine wpAny_bind ?_
  refine wpAny_bind (wpAny_isInstance hTb sub_set_self ?_)
  refine wpAny_pure ?_
  rw [if_pos rfl]
  show wpAny _ _ (pure b >>= _) _ _ _
  refine wpAny_bind (wpAny_pure ?_)
  unfold Builtin.Frozenset.sizeOf setEntries
  refine wpAny_bind (wpAny_bind (wpAny_bind (wpAny_setState_of (s:={ s with heap:=g }) hgb1 rfl hSb.fit (wpAny_pure (wpAny_pure ?_)))))
  refine wpAny_bind (wpAny_bind (wpAny_bind (wpAny_setState_of (s:={ s with heap:=g }) hga1 rfl hSa.fit (wpAny_pure (wpAny_pure ?_)))))
  have ar:a≠s.heap.objs.size:=Nat.ne_of_lt la
  have br:b≠s.heap.objs.size:=Nat.ne_of_lt lb
  have fin:∀ (h':Heap) d U k,Heap.SameBut s.heap.objs.size g h'→SetA w (ledOf w) h' s.heap.objs.size U k→(k=n∨k=m)→(∀ x,x∈U ↔ x∈S∧x∈T)→Q (.ref s.heap.objs.size) { s with heap:=h',drawn:=d }:=fun h' d U k sb hU hk hm=>h h' d U k (fun c o e=>by
    rw [sb.2 c (Nat.ne_of_lt (Heap.lt_size e))];exact old1 c o e) hU hk hm
  by_cases hc:es2.size > es.size
  · have:=and_loop (prog:=prog) (A:=A) (E:=E) (id:=nm) (s:={ s with heap:=g }) (Q:=fun _ s'=>wpAny (model prog w) A (pure (Value.ref s.heap.objs.size)) Q E s') hga1 hSa hb1 hr1 ar br za n4 m4 fun h' d U sb hU hm=>wpAny_pure (fin h' d U n sb hU (.inl rfl) hm)
    simp only [if_pos hc]
    exact this
  · have:=and_loop (prog:=prog) (A:=A) (E:=E) (id:=nm) (s:={ s with heap:=g }) (Q:=fun _ s'=>wpAny (model prog w) A (pure (Value.ref s.heap.objs.size)) Q E s') hgb1 hSb ha1 hr1 br ar zb m4 n4 fun h' d U sb hU hm=>wpAny_pure (fin h' d U m sb hU (.inr rfl) fun x=>by rw [hm x];exact And.comm)
    simp only [if_neg hc]
    exact this
theorem entry_set_and:entryFor table "set.__and__" = some Builtin.«frozenset.__and__»:=by kernel_rfl
theorem set_and {a b:Addr} {S T:List Str} {n m:Nat} {Q:Value→Shared→Prop} (ha:SetA w (ledOf w) s.heap a S n) (hb:SetA w (ledOf w) s.heap b T m) (ab:a≠b) (n4:n < 4000) (m4:m < 4000)
    (h:∀ (h':Heap) d U k,(∀ c o,s.heap.get? c=some o→h'.get? c=some o)→SetA w (ledOf w) h' s.heap.objs.size U k→(k=n∨k=m)→(∀ x,x∈U ↔ x∈S∧x∈T)→Q (.ref s.heap.objs.size) { s with heap:=h',drawn:=d }) :
    wpAny (model prog w) A (binaryOp .BitAnd (.ref a) (.ref b)) Q E s:=by
  refine wpAny_binaryOp_same (T := "set") (id := "set.__and__") ha.typeIs hb.typeIs F.fills_set_and F.slot_set_and ?_
  refine wpAny_call_entry F.slot_set_and ha.typeIs entry_set_and ?_ (F.args_set_and_2 _ _)
  show wpAny _ _ (Builtin.Frozenset.slot1 "__and__" ⟨[.ref a,.ref b],[]⟩ >>= _) _ _ _
  unfold Builtin.Frozenset.slot1
  refine wpAny_bind (wpAny_bind ?_)
  show wpAny _ _ (pure (Value.ref a,[Value.ref b])) _ _ _
  refine wpAny_pure (wpAny_pure ?_)
  dsimp only
  rw [if_neg (by decide)]
  dsimp only
  unfold Builtin.Frozenset.isAnySet
  refine wpAny_bind ?_
  refine wpAny_bind ?_
  refine wpAny_bind (wpAny_isInstance ha.typeIs sub_set_self ?_)
  refine wpAny_pure ?_
  show wpAny _ _ (isInstance (.ref b) (.type "set") <||> _) _ _ _
  refine wpAny_bind (wpAny_isInstance hb.typeIs sub_set_self ?_)
  refine wpAny_pure ?_
  rw [if_neg (by decide)]
  show wpAny _ _ (pure a >>= _) _ _ _
  refine wpAny_bind (wpAny_pure ?_)
  refine wpAny_bind (and_ok ha hb ab n4 m4 fun h' d U k old hU hk hm=>?_)
  exact wpAny_pure ⟨_,rfl,(fun z=>by cases z),h h' d U k old hU hk hm⟩
end
def setO (w:World) (a:Addr) (S:List Str) (n:Nat):HO:=.ext fun h=>SetA w (ledOf w) h a S n
theorem setO_ok {P:Program} {w:World} {H:Hp} {h:Heap} {a:Addr} {S:List Str} {n:Nat} (x:SetA w (ledOf w) h a S n):ObjOk P w H h a (setO w a S n):=by
  refine ⟨x,?_,fun h1 h2 p k=>SetA.keeps p k⟩
  obtain ⟨es,ep,t,e,_⟩:=x
  exact ⟨_,e⟩
section
variable {X:Cx}
theorem setO_at {pins:List (Addr × Obj)} {σ:St} {H:Hp} {s:Shared} (I:Inv X pins σ H s) {a:Addr} {S:List Str} {n:Nat} (h:H a=some (setO X.w a S n)):SetA X.w (ledOf X.w) s.heap a S n:=(I.hok a _ h).1
theorem call_set_texts (hc:X.calm=true):CallR X (.type "set") (fun xs H Q=>∃ (l:Addr) (ss:List Str),xs=[.ref l]∧SqL X.K H l (ss.map V.str)∧ss.length < 4000∧∀ r,H r=none→Q (.ref r) (upd H r (setO X.w r ss ss.length))):=by
  intro pins s σ H xs us Q I r h
  obtain ⟨l,ss,rfl,hq,h4,q⟩:=h
  obtain ⟨u,rfl,ru⟩:=vals1 r
  cases (show u=Value.ref l from ru)
  obtain ⟨its,rv,ht,hz⟩:=I.list hq
  have hlen:=rv.length
  rw [List.length_map] at hlen
  have hh:X.A.handled=none:=I.ok.hd hc
  have hsz:its.toArray.size=its.length:=List.size_toArray ..
  refine set_call ht.isList (strsAre_of rv) hh (by show its.toArray.size+1 < 4096;omega) fun h2 tk2 old2 hA=>?_
  rw [hsz,← hlen] at hA
  exact ⟨.ref s.heap.objs.size,_,I.laid (t':=tk2) (h':=h2) (a:=s.heap.objs.size) (o:=setO X.w s.heap.objs.size ss ss.length) old2 (Nat.le_refl _) (setO_ok hA),rfl,q _ (I.hok.fresh (Nat.le_refl _))⟩
theorem op_and_set:OpR X (binaryOp .BitAnd) (fun x y H Q=>∃ (a b:Addr) (S T:List Str) (n m:Nat),x=.ref a∧y=.ref b∧a≠b∧H a=some (setO X.w a S n)∧H b=some (setO X.w b T m)∧n < 4000∧m < 4000 ∧
    ∀ (r:Addr) (U:List Str) (k:Nat),H r=none→(k=n∨k=m)→(∀ x,x∈U ↔ x∈S∧x∈T)→Q (.ref r) (upd H r (setO X.w r U k))):=by
  intro pins s σ H x y v u Q I rx ry h
  obtain ⟨a,b,S,T,n,m,rfl,rfl,ab,ha,hb,n4,m4,q⟩:=h
  cases (show v=Value.ref a from rx)
  cases (show u=Value.ref b from ry)
  refine set_and (setO_at I ha) (setO_at I hb) ab n4 m4 fun h' d U k old hU hk hm=>?_
  have I2:=I.laid (t':=s.toks) (h':=h') (a:=s.heap.objs.size) (o:=setO X.w s.heap.objs.size U k) old (Nat.le_refl _) (setO_ok hU)
  exact ⟨.ref s.heap.objs.size,_,I2.drawn d,rfl,q _ U k (I.hok.fresh (Nat.le_refl _)) hk hm⟩
theorem call_set_textsW (w:World) (hc:X.calm=true) (hw:X.w=w:=by rfl):CallR X (.type "set") (fun xs H Q=>∃ (l:Addr) (ss:List Str),xs=[.ref l]∧SqL X.K H l (ss.map V.str)∧ss.length < 4000∧∀ r,H r=none→Q (.ref r) (upd H r (setO w r ss ss.length))):=by
  subst hw;exact call_set_texts hc
theorem op_and_setW (w:World) (hw:X.w=w:=by rfl):OpR X (binaryOp .BitAnd) (fun x y H Q=>∃ (a b:Addr) (S T:List Str) (n m:Nat),x=.ref a∧y=.ref b∧a≠b∧H a=some (setO w a S n)∧H b=some (setO w b T m)∧n < 4000∧m < 4000 ∧
    ∀ (r:Addr) (U:List Str) (k:Nat),H r=none→(k=n∨k=m)→(∀ x,x∈U ↔ x∈S∧x∈T)→Q (.ref r) (upd H r (setO w r U k))):=by
  subst hw;exact op_and_set
end
end L2
namespace L2
open PySem PySem.Spec PyProof.Rows PySem.W
mutual
inductive Td (H:Hp):V→PyData→Prop
  | non:Td H .non .none
  | bl (b:Bool):Td H (.bl b) (.bool b)
  | int (i:Int):Td H (.int i) (.int i)
  | str (z:Str):Td H (.str z) (.str z)
  | lst {a:Addr} {xs:List V} {ds:List PyData}:H a=some (.lst xs)→Tds H xs ds→Td H (.ref a) (.list ds)
  | tup {a:Addr} {xs:List V} {ds:List PyData}:H a=some (.tup xs)→Tds H xs ds→Td H (.ref a) (.tuple ds)
  | dct {a:Addr} {kvs:List (Key × V)} {ps:List (PyData × PyData)}:H a=some (.dK kvs)→Tds H (kvs.map fun p=>kV p.1) (ps.map (·.1))→Tds H (kvs.map (·.2)) (ps.map (·.2))→Td H (.ref a) (.dict ps)
inductive Tds (H:Hp):List V→List PyData→Prop
  | nil:Tds H [] []
  | cons {v:V} {d:PyData} {vs:List V} {ds:List PyData}:Td H v d→Tds H vs ds→Tds H (v :: vs) (d :: ds)
end
mutual
theorem Td.same {H H':Hp} (s:Same H H'):∀ {v:V} {d:PyData},Td H v d→Td H' v d
  | _,_,.non=>.non
  | _,_,.bl b=>.bl b
  | _,_,.int i=>.int i
  | _,_,.str z=>.str z
  | _,_,.lst e t=>.lst (s _ _ e) (t.same s)
  | _,_,.tup e t=>.tup (s _ _ e) (t.same s)
  | _,_,.dct e t u=>.dct (s _ _ e) (t.same s) (u.same s)
theorem Tds.same {H H':Hp} (s:Same H H'):∀ {vs:List V} {ds:List PyData},Tds H vs ds→Tds H' vs ds
  | _,_,.nil=>.nil
  | _,_,.cons t u=>.cons (t.same s) (u.same s)
end
mutual
def noList:PyData→Bool
  | .none | .bool _ | .int _ | .str _=>true
  | .list _=>false
  | .tuple xs=>noListAll xs
  | .dict kvs=>noListKv kvs
def noListAll:List PyData→Bool
  | []=>true
  | x :: xs=>noList x && noListAll xs
def noListKv:List (PyData × PyData)→Bool
  | []=>true
  | (k,v) :: r=>noList k && noList v && noListKv r
end
theorem noListKv_keys:∀ kvs:List (PyData × PyData),noListKv kvs=true→noListAll (kvs.map (·.1))=true∧noListAll (kvs.map (·.2))=true
  | [],_=>⟨by simp only [List.map_nil,noListAll],by simp only [List.map_nil,noListAll]⟩
  | (k,v) :: r,h=>by
    simp only [noListKv,Bool.and_eq_true] at h
    obtain ⟨a,b⟩:=noListKv_keys r h.2
    simp only [List.map_cons,noListAll,Bool.and_eq_true]
    exact ⟨⟨h.1.1,a⟩,⟨h.1.2,b⟩⟩
theorem pairs_vals {P:Program} {w:World} {es:List DictEntry} {vs:List (Key × Value)} (h:Pairs (mixKind P w) es vs):∀ {kvs:List (Key × V)},KV kvs vs→Vals (kvs.map fun p=>kV p.1) (es.map (·.key))∧Vals (kvs.map (·.2)) (es.map (·.val)):=by
  induction h with
  | nil=>intro kvs r;cases r;exact ⟨.nil,.nil⟩
  | cons hk hv _ ih=>
    intro kvs r
    cases r with
    | cons r1 r2=>
      obtain ⟨a,b⟩:=ih r2
      refine ⟨.cons ?_ a,.cons (by show RelV _ _;simp only [hv];exact r1.2) b⟩
      show RelV (kV _) _
      simp only [r1.1]
      rcases keyIs_shape hk with ⟨i,t,e,e'⟩ | ⟨x,t,e,e'⟩
      · rw [e,e'];exact ⟨t,rfl⟩
      · rw [e,e'];exact ⟨t,rfl⟩
section
variable {X:Cx} {pins:List (Addr × Obj)} {σ:St} {H:Hp} {s:Shared}
mutual
theorem reads_td (I:Inv X pins σ H s):∀ {v:V} {d:PyData},Td H v d→∀ {u:Value},RelV v u→∃ as,Reads s.heap u d as∧(noList d=true→sysModules ∉ as)
  | _,_,.non,_,r=>by cases r;exact ⟨[],.none,fun _ h=>by cases h⟩
  | _,_,.bl b,_,r=>by cases r;exact ⟨[],.bool b,fun _ h=>by cases h⟩
  | _,_,.int i,_,r=>by obtain ⟨t,rfl⟩:=r;exact ⟨[],.int i t,fun _ h=>by cases h⟩
  | _,_,.str z,_,r=>by obtain ⟨t,rfl⟩:=r;exact ⟨[],.str z t,fun _ h=>by cases h⟩
  | _,_,.lst e t,_,r=>by
    cases r
    obtain ⟨_,its,n,rv,g⟩:=I.hok _ _ e
    obtain ⟨as,ra,_⟩:=reads_tds I t rv
    exact ⟨_,.list g rfl rfl ra,fun h=>by simp only [noList] at h;cases h⟩
  | _,_,.tup e t,_,r=>by
    cases r
    obtain ⟨_,its,rv,o,g,c,n,dd⟩:=I.hok _ _ e
    obtain ⟨as,ra,na⟩:=reads_tds I t rv
    exact ⟨as,.tuple g c dd ra,fun h=>na (by simpa only [noList] using h)⟩
  | _,_,.dct e t u,_,r=>by
    cases r
    obtain ⟨_,hs,vs,kv,o,es,ep,g,ex,dd,_,pr,_⟩:=I.hok _ _ e
    obtain ⟨v1,v2⟩:=pairs_vals pr kv
    obtain ⟨as,ra,na⟩:=reads_tds I t v1
    obtain ⟨bs,rb,nb⟩:=reads_tds I u v2
    refine ⟨_,.dict g ex.1 dd ra rb,fun h=>?_⟩
    simp only [noList] at h
    obtain ⟨h1,h2⟩:=noListKv_keys _ h
    intro m
    rcases List.mem_append.mp m with m | m
    · rcases List.mem_cons.mp m with m | m
      · exact beq_eq_false_iff_ne.mp hs m.symm
      · exact na h1 m
    · exact nb h2 m
theorem reads_tds (I:Inv X pins σ H s):∀ {vs:List V} {ds:List PyData},Tds H vs ds→∀ {us:List Value},Vals vs us→∃ as,ReadsAll s.heap us ds as∧(noListAll ds=true→sysModules ∉ as)
  | _,_,.nil,_,r=>by cases r;exact ⟨[],.nil,fun _ h=>by cases h⟩
  | _,_,.cons t u,_,r=>by
    cases r with
    | cons r1 r2=>
      obtain ⟨as,ra,na⟩:=reads_td I t r1
      obtain ⟨bs,rb,nb⟩:=reads_tds I u r2
      refine ⟨as++bs,.cons ra rb,fun h=>?_⟩
      simp only [noListAll,Bool.and_eq_true] at h
      intro m
      rcases List.mem_append.mp m with m | m
      · exact na h.1 m
      · exact nb h.2 m
end
structure Fit (d:PyData):Prop where
  sh:d.showable=true
  lv:d.leavesShort 61=true
  wt:d.weight≤200000
  dp:d.depth≤20
  md:d.hasDict=false∨noList d=true
theorem Fit.sz {d:PyData} (f:Fit d):d.shown.length≤sizeLine:=by
  have h:=PyData.shown_le 61 (by decide) d f.lv
  have:=f.wt
  rw [sizeLine_eq]
  omega
variable {k:Nat}
theorem call_repr_any (hr:Room k X.A):CallR X (.builtin "repr") (fun xs H Q=>∃ v d,xs=[v]∧Td H v d∧Fit d∧Q (.str d.shown) H):=by
  intro pins s σ H xs us Q I r h
  obtain ⟨v,d,rfl,t,f,q⟩:=h
  obtain ⟨u,rfl,rx⟩:=vals1 r
  have fin:∀ (h':Heap) (u:Tok) (tk:Tok),(∀ b o,s.heap.get? b=some o→h'.get? b=some o)→EP X pins σ Q (.str d.shown u) { s with heap:=h',toks:=tk }:=fun h' u tk hk=>⟨.str d.shown,H,I.kept (t':=tk) hk,⟨u,rfl⟩,q⟩
  have sz:=f.sz
  have ref:∀ a:Addr,u=.ref a→wpAny (model X.prog X.w) X.A (call (.builtin "repr") [u]) (EP X pins σ Q) X.xe s:=fun a e=>by
    subst e
    obtain ⟨as,rd,na⟩:=reads_td I t rx
    have un:=hr.un
    have dp:=f.dp
    refine repr_of_reads' rd f.sh (fun z=>?_) hr.gd (by omega) (fun _ _ e=>e) (fun h' u tk hk=>fin h' u tk hk) sz
    rcases f.md with m | m
    · rw [m] at z;cases z
    · exact na m
  cases t with
  | non=>cases rx;exact P.repr_of_none (fin _ _ _ fun _ _ e=>e)
  | bl b=>cases rx;exact P.repr_of_bool (by cases b <;> exact fin _ _ _ fun _ _ e=>e)
  | int i=>obtain ⟨t,rfl⟩:=rx;exact P.repr_of_int (of_decide_eq_true f.sh) (fin _ _ _ fun _ _ e=>e)
  | str z=>obtain ⟨t,rfl⟩:=rx;exact P.repr_of_str (fin _ _ _ fun _ _ e=>e) sz
  | lst e t=>cases rx;exact ref _ rfl
  | tup e t=>cases rx;exact ref _ rfl
  | dct e t u=>cases rx;exact ref _ rfl
end
section
variable {H:Hp}
theorem Tds.ints (ns:List Int):Tds H (ns.map V.int) (ns.map PyData.int):=by
  induction ns with
  | nil=>exact .nil
  | cons n ns ih=>exact .cons (.int n) ih
end
structure Gd (hd hl:Bool) (c e:Nat) (d:PyData):Prop where
  sh:d.showable=true
  lv:d.leavesShort 61=true
  wt:d.weight≤c
  dp:d.depth≤e
  nd:hd=false→d.hasDict=false
  nl:hl=false→noList d=true
structure Gs (hd hl:Bool) (c e:Nat) (ds:List PyData):Prop where
  sh:PyData.showableAll ds=true
  lv:PyData.leavesShortAll 61 ds=true
  wt:PyData.weightAll ds≤c
  dp:PyData.depthAll ds≤e
  nd:hd=false→PyData.hasDictAll ds=false
  nl:hl=false→noListAll ds=true
section
variable {hd hl:Bool} {c c' e e':Nat} {d:PyData} {ds es:List PyData}
theorem Gd.fit (g:Gd hd hl c e d) (h:hd=false∨hl=false) (hc:c≤200000) (he:e≤20):Fit d:=
  ⟨g.sh,g.lv,Nat.le_trans g.wt hc,Nat.le_trans g.dp he,h.imp g.nd g.nl⟩
theorem Gd.up (g:Gd false false c e d):Gd hd hl c e d:=⟨g.sh,g.lv,g.wt,g.dp,fun _=>g.nd rfl,fun _=>g.nl rfl⟩
theorem Gs.up (g:Gs false false c e ds):Gs hd hl c e ds:=⟨g.sh,g.lv,g.wt,g.dp,fun _=>g.nd rfl,fun _=>g.nl rfl⟩
theorem Gs.nil:Gs hd hl 0 0 []:=⟨by simp only [PyData.showableAll],by simp only [PyData.leavesShortAll],by simp only [PyData.weightAll];omega,by simp only [PyData.depthAll];omega,fun _=>by simp only [PyData.hasDictAll],fun _=>by simp only [noListAll]⟩
theorem Gs.cons (g:Gd hd hl c e d) (h:Gs hd hl c' e ds):Gs hd hl (c+1+c') e (d :: ds):=by
  have:=g.wt;have:=h.wt;have:=g.dp;have:=h.dp
  refine ⟨?_,?_,?_,?_,fun z=>?_,fun z=>?_⟩
  · simp only [PyData.showableAll,g.sh,h.sh,Bool.and_self]
  · simp only [PyData.leavesShortAll,g.lv,h.lv,Bool.and_self]
  · simp only [PyData.weightAll];omega
  · simp only [PyData.depthAll];omega
  · simp only [PyData.hasDictAll,g.nd z,h.nd z,Bool.or_self]
  · simp only [noListAll,g.nl z,h.nl z,Bool.and_self]
theorem Gd.tup (g:Gs hd hl c e ds):Gd hd hl c (e+1) (.tuple ds):=
  ⟨by simp only [PyData.showable];exact g.sh,by simp only [PyData.leavesShort];exact g.lv,by simp only [PyData.weight];exact g.wt,by simp only [PyData.depth];have:=g.dp;omega,fun z=>by simp only [PyData.hasDict];exact g.nd z,fun z=>by simp only [noList];exact g.nl z⟩
theorem Gd.lst (g:Gs hd true c e ds):Gd hd true c (e+1) (.list ds):=
  ⟨by simp only [PyData.showable];exact g.sh,by simp only [PyData.leavesShort];exact g.lv,by simp only [PyData.weight];exact g.wt,by simp only [PyData.depth];have:=g.dp;omega,fun z=>by simp only [PyData.hasDict];exact g.nd z,fun z=>by cases z⟩
theorem Gd.non:Gd hd hl 0 0 .none:=⟨by simp only [PyData.showable],by simp only [PyData.leavesShort],by simp only [PyData.weight];omega,by simp only [PyData.depth];omega,fun _=>by simp only [PyData.hasDict],fun _=>by simp only [noList]⟩
theorem Gd.bl (b:Bool):Gd hd hl 0 0 (.bool b):=⟨by simp only [PyData.showable],by simp only [PyData.leavesShort],by simp only [PyData.weight];omega,by simp only [PyData.depth];omega,fun _=>by simp only [PyData.hasDict],fun _=>by simp only [noList]⟩
theorem Gd.str {z:Str} (h:∀ c∈z.cps.toList,c < 1000):Gd hd hl z.cps.size 0 (.str z):=⟨by simp only [PyData.showable],by
    simp only [PyData.leavesShort,List.all_eq_true,decide_eq_true_eq]
    intro c hc
    have:=h c hc
    have e:16 ^ 8=4294967296:=by decide
    omega,by simp only [PyData.weight];omega,by simp only [PyData.depth];omega,fun _=>by simp only [PyData.hasDict],fun _=>by simp only [noList]⟩
end
end L2
namespace L2
open PySem PySem.Spec PyProof.Rows PySem.W
theorem iteB {c:Bool} {A B:Prop} (h:c=false) (q:B):if c=true then A else B:=by rw [h];exact iteF q
theorem iteA {c:Bool} {A B:Prop} (h:c=true) (q:A):if c=true then A else B:=by rw [h];exact iteT q
end L2
namespace L2
open PySem PySem.Spec PyProof.Rows PySem.W
section
variable {prog:Program} {w:World} {A:Around} {E:Value→Shared→Prop} {s:Shared}
theorem SetS.perm {led:Bool} {es es':Array (Int × Value)} {t t':SetTable} {S:List Str} (h:SetS w led es t S) (p:es'.toList.Perm es.toList) (f:t'.fits es'.size=true) (l:t'.led=led) (q:es'.size=0∨t'.plain=false):SetS w led es' t' S where
  ent:=fun e he=>h.ent e (p.mem_iff.mp he)
  nd:=by rw [(keyOf_perm p).nodup_iff];exact h.nd
  mem:=fun y=>by rw [(keyOf_perm p).mem_iff];exact h.mem y
  fit:=f
  led:=l
  pl:=q
theorem relay_es {a:Addr} {led:Bool} {es:Array (Int × Value)} {ep:Nat} {t:SetTable} {S:List Str} {wanted:Nat} {Q:Unit→Shared→Prop} (hget:s.heap.get? a=some { cls:=.type "set", data:=.set es ep t }) (hS:SetS w led es t S) (h1:es.size≤wanted) (h2:wanted < 100000)
    (h:∀ h' es' t',Heap.SameBut a s.heap h'→h'.get? a=some { cls:=.type "set", data:=.set es' (ep+1) t' }→SetS w led es' t' S→es'.size=es.size→(∃ k,t'.mask+1=2 ^ k∧wanted < 2 ^ k)→t'.dummies=#[]→t'.plain=t.plain→Q () { s with heap:=h' }):wpAny (model prog w) A (setRelay a wanted) Q E s:=by
  obtain ⟨k,ek,lk,l2⟩:=W56.size_ok wanted (by omega)
  have hz:sizeLine=268435455∨1000000≤sizeLine:=.inr (by rw [sizeLine_eq];decide)
  unfold setRelay
  refine wpAny_bind (wpAny_setState_of hget rfl hS.fit ?_)
  dsimp only
  rw [if_neg (by rw [ek];rcases hz with z | z <;> omega)]
  have kp:0 < 2 ^ k:=Nat.pow_pos (by decide)
  obtain ⟨t',order,el,p,f,ld,pl,mk',dm⟩:=W56.laid_ok (mask:=SetTable.sizeAbove wanted - 1) (k:=k) (by rw [ek];omega) t.finger (t.movedTo (SetTable.sizeAbove wanted - 1)) t.led t.plain (fun e:Int × Value=>e.1) es (by rw [ek];omega)
  have er:t.relaid (es.map (·.1)) wanted=some (t',order):=el
  rw [er]
  have pz:=p.length_eq
  rw [Array.length_toList,Array.length_toList] at pz
  refine wpAny_bind ?_
  show wpAny _ _ (if ((order.filterMap (es[·]?)).size != es.size)=true then _ else _) _ _ _
  rw [if_neg (by rw [pz];simp)]
  refine wpAny_pure ?_
  dsimp only
  refine store_set hget (by rw [pz];rcases hz with z | z <;> omega) fun h' sb hg=>?_
  refine h h' _ t' sb hg (hS.perm p (by rw [pz];exact f) (ld.trans hS.led) ?_) pz ⟨k,by rw [mk',ek];omega,lk⟩ dm pl
  rw [pz,pl];exact hS.pl
theorem room_es {a:Addr} {led:Bool} {es:Array (Int × Value)} {ep:Nat} {t:SetTable} {S:List Str} {more:Nat} {Q:Unit→Shared→Prop} (hget:s.heap.get? a=some { cls:=.type "set", data:=.set es ep t }) (hS:SetS w led es t S) (h1:es.size < 10000) (h2:more < 10000) (hmk:es.size=0→t.mask=7∧t.dummies=#[])
    (h:∀ h' es' ep' t',Heap.SameBut a s.heap h'→h'.get? a=some { cls:=.type "set", data:=.set es' ep' t' }→SetS w led es' t' S→es'.size=es.size→(es.size=0→(∃ k,t'.mask+1=2 ^ k)∧more≤t'.mask∧t'.dummies=#[])→t'.plain=t.plain→Q () { s with heap:=h' }):wpAny (model prog w) A (setRoomFor a more) Q E s:=by
  unfold setRoomFor
  refine wpAny_bind (wpAny_setState_of hget rfl hS.fit ?_)
  dsimp only
  have hf:=hS.fit
  unfold SetTable.fits at hf
  rw [Bool.and_eq_true] at hf
  have pz:t.place.size=es.size:=eq_of_beq hf.1
  unfold SetTable.roomFor
  by_cases c:(t.fill+more) * 5 ≥ t.mask * 3
  · rw [if_pos c]
    dsimp only
    refine relay_es hget hS (by rw [pz];omega) (by rw [pz];omega) fun h' es' t' sb hg hS' ez mk' dm pl=>?_
    obtain ⟨k,e1,e2⟩:=mk'
    exact h h' es' _ t' sb hg hS' ez (fun z=>⟨⟨k,e1⟩,by rw [pz] at e2;omega,dm⟩) pl
  · rw [if_neg c]
    dsimp only
    refine wpAny_pure (h s.heap es ep t (Heap.SameBut.refl ..) hget hS rfl (fun z=>?_) rfl)
    obtain ⟨m7,d0⟩:=hmk z
    refine ⟨⟨3,by rw [m7]⟩,?_,d0⟩
    have:t.fill=0:=by unfold SetTable.fill;rw [pz,z,d0];rfl
    rw [this,m7] at c
    rw [m7]
    omega
theorem merge_fresh {r a:Addr} {S:List Str} {n:Nat} {Q:Unit→Shared→Prop} (hr:s.heap.get? r=some { cls:=.type "set", data:=.set #[] 0 (SetTable.fresh 0 0 (ledOf w)) }) (ha:SetA w (ledOf w) s.heap a S n) (ra:r≠a) (n4:n < 4000)
    (h:∀ h',Heap.SameBut r s.heap h'→SetA w (ledOf w) h' r S n→Q () { s with heap:=h' }):wpAny (model prog w) A (setMerge r a) Q E s:=by
  obtain ⟨es,ep,t,hget,hS,hsz⟩:=id ha
  have hz:1000000≤sizeLine:=by rw [sizeLine_eq];decide
  unfold setMerge
  rw [if_neg (by simpa using ra)]
  refine wpAny_bind (wpAny_setState_of hget rfl hS.fit ?_)
  dsimp only
  by_cases ce:es.isEmpty=true
  · rw [if_pos ce]
    have es0:es=#[]:=Array.isEmpty_iff.mp ce
    have S0:∀ x,x ∉ S:=fun x hx=>by have:=(hS.mem x).mpr hx;rw [es0] at this;simp at this
    have:S=[]:=List.eq_nil_iff_forall_not_mem.mpr S0
    subst this
    refine wpAny_pure (h s.heap (Heap.SameBut.refl ..) ?_)
    obtain ⟨x1,x2,x3,x4,x5,x6⟩:=SetA.start hr
    exact ⟨x1,x2,x3,x4,x5,by omega⟩
  · rw [if_neg ce]
    have ep0:0 < es.size:=by
      rcases Nat.eq_zero_or_pos es.size with z | z
      · exact absurd (by simpa using Array.eq_empty_of_size_eq_zero z) ce
      · exact z
    have hS0:SetS w (ledOf w) #[] (SetTable.fresh 0 0 (ledOf w)) []:=⟨fun x hx=>by simp at hx,by simp,fun x=>by simp,by rfl,rfl,.inl rfl⟩
    refine wpAny_bind (room_es hr hS0 (by simp) (by omega) (fun _=>⟨rfl,rfl⟩) fun h1 es1 ep1 t1 sb1 hg1 hS1 ez1 mk1 pl1=>?_)
    obtain ⟨⟨k,e1⟩,e2,d1⟩:=mk1 rfl
    have pl1':t1.plain=true:=pl1
    have tp:t.plain=false:=hS.pl.resolve_left (by omega)
    have es10:es1=#[]:=Array.eq_empty_of_size_eq_zero ez1
    have hf1:=hS1.fit
    unfold SetTable.fits at hf1
    rw [Bool.and_eq_true] at hf1
    have pz1:t1.place.size=0:=by rw [eq_of_beq hf1.1,ez1];rfl
    refine wpAny_bind (wpAny_setState_of (s:={ s with heap:=h1 }) hg1 rfl hS1.fit ?_)
    dsimp only
    have f0:t1.fill=0:=by unfold SetTable.fill;rw [pz1,d1];rfl
    have er:t1.road t=if t1.mask == t.mask && t.dummies.isEmpty then .slotForSlot else .clean:=by
      unfold SetTable.road
      rw [f0];rfl
    rw [er]
    have lw:(t1.led && t.led)=ledOf w:=by rw [hS1.led,hS.led,Bool.and_self]
    have pw:(t1.plain && t.plain)=false:=by rw [tp,Bool.and_false]
    by_cases cc:(t1.mask == t.mask && t.dummies.isEmpty)=true
    · rw [if_pos cc]
      dsimp only
      refine store_set (s:={ s with heap:=h1 }) hg1 (by omega) fun h2 sb2 hg2=>?_
      refine h h2 (sb1.trans sb2) ⟨es,_,_,hg2,hS.perm (List.Perm.refl _) hS.fit lw (.inr pw),hsz⟩
    · rw [if_neg cc]
      dsimp only
      obtain ⟨t',order,el,p,f,ld,pl,mk',dm⟩:=W56.laid_ok e1 t1.finger t1.moves (t1.led && t.led) (t1.plain && t.plain) (fun e:Int × Value=>e.1) es e2
      rw [el]
      have pz:=p.length_eq
      rw [Array.length_toList,Array.length_toList] at pz
      refine wpAny_bind ?_
      show wpAny _ _ (if ((order.filterMap (es[·]?)).size != es.size)=true then _ else _) _ _ _
      rw [if_neg (by rw [pz];simp)]
      refine wpAny_pure ?_
      dsimp only
      refine store_set (s:={ s with heap:=h1 }) hg1 (by omega) fun h2 sb2 hg2=>?_
      refine h h2 (sb1.trans sb2) ⟨_,_,_,hg2,hS.perm p (by rw [pz];exact f) (ld.trans lw) (.inr (pl.trans pw)),by omega⟩
theorem copy_ok {a:Addr} {S:List Str} {n:Nat} {Q:Value→Shared→Prop} (ha:SetA w (ledOf w) s.heap a S n) (n4:n < 4000)
    (h:∀ h',(∀ c o,s.heap.get? c=some o→h'.get? c=some o)→SetA w (ledOf w) h' s.heap.objs.size S n→Q (.ref s.heap.objs.size) { s with heap:=h' }):wpAny (model prog w) A (Builtin.Frozenset.copyOf a) Q E s:=by
  have hTa:=ha.typeIs
  obtain ⟨es,ep,t,hga,hSa,za⟩:=id ha
  have la:a < s.heap.objs.size:=Heap.lt_size hga
  unfold Builtin.Frozenset.copyOf Builtin.Frozenset.baseOf
  refine wpAny_bind (wpAny_bind (wpAny_isInstance hTa sub_set_self (wpAny_pure ?_)))
  rw [if_pos rfl]
  unfold newSet
  refine wpAny_bind (wpAny_bind (by_text ?_))
  dsimp only
  refine wpAny_newObj_type ?_
  show wpAny (model prog w) A _ _ E { s with heap:=s.heap.push { cls:=.type "set", data:=.set #[] 0 (SetTable.fresh 0 0 (ledOf w)) } }
  have hn:(s.heap.push { cls:=.type "set", data:=.set #[] 0 (SetTable.fresh 0 0 (ledOf w)) }).get? s.heap.objs.size=some { cls:=.type "set", data:=.set #[] 0 (SetTable.fresh 0 0 (ledOf w)) }:=Heap.get?_push_size _ rfl
  have ha1:SetA w (ledOf w) (s.heap.push { cls:=.type "set", data:=.set #[] 0 (SetTable.fresh 0 0 (ledOf w)) }) a S n:=ha.keeps fun o e=>Heap.get?_push_of_some _ e
  have old1:∀ c o,s.heap.get? c=some o→(s.heap.push { cls:=.type "set", data:=.set #[] 0 (SetTable.fresh 0 0 (ledOf w)) }).get? c=some o:=fun c o e=>Heap.get?_push_of_some _ e
  generalize hg:s.heap.push { cls:=.type "set", data:=.set #[] 0 (SetTable.fresh 0 0 (ledOf w)) }=g at hn ha1 old1
  show wpAny _ _ (pure s.heap.objs.size >>= _) _ _ _
  refine wpAny_bind (wpAny_pure ?_)
  refine wpAny_bind (merge_fresh (s:={ s with heap:=g }) hn ha1 (Nat.ne_of_gt la) n4 fun h' sb hU=>?_)
  refine wpAny_pure (h h' (fun c o e=>?_) hU)
  rw [sb.2 c (Nat.ne_of_lt (Heap.lt_size e))];exact old1 c o e
end
section
variable {X:Cx}
end
end L2
namespace L2
open PySem PySem.Spec PyProof.Rows PySem.W
section
variable {X:Cx}
end
theorem Gd.int {hd hl:Bool} {i:Int} (h:i.natAbs < 10 ^ 12):Gd hd hl 41 0 (.int i):=by
  have s1:=ints_showable (ns:=[i]) (fun n hn=>by rw [List.mem_singleton.mp hn];exact h)
  simp only [PyData.showable,List.map_cons,List.map_nil,PyData.showableAll,Bool.and_true] at s1
  refine ⟨by simp only [PyData.showable];exact s1,?_,?_,by simp only [PyData.depth];omega,fun _=>by simp only [PyData.hasDict],fun _=>by simp only [noList]⟩
  · simp only [PyData.leavesShort,decide_eq_true_eq]
    exact Nat.le_trans (PyData.shown_int_le h) (by decide)
  · have:=weight_ints [i] (fun n hn=>by rw [List.mem_singleton.mp hn];exact h)
    simp only [List.map_cons,List.map_nil,PyData.weightAll,List.length_singleton] at this
    omega
end L2
namespace W100
open PySem PySem.SetTable
def adv (mask:Nat) (p:Probe):Probe:=
  if p.more > 0 then { p with j:=p.j+1,more:=p.more - 1 } else
  { p with j:=(leap mask p.i p.perturb).1,more:=runEnd mask (leap mask p.i p.perturb).1 - (leap mask p.i p.perturb).1,i:=(leap mask p.i p.perturb).1,perturb:=(leap mask p.i p.perturb).2 }
def sq (mask i p:Nat):Nat→Probe
  | 0=>{ j:=i,more:=runEnd mask i - i,i,perturb:=p,dummy:=none }
  | n+1=>adv mask (sq mask i p n)
def ps (mask:Nat) (h:Int) (n:Nat):Probe:=sq mask (bits h % (mask+1)) (bits h) n
end W100
namespace L2
open PySem PySem.Spec PyProof.Rows PySem.W
theorem args_maxl (a v d:Value):argsOk "max" ⟨[a],[(Str.ofString "key", v),(Str.ofString "default", d)]⟩:=by unfold argsOk;kernel_rfl
theorem args_minl (a v d:Value):argsOk "min" ⟨[a],[(Str.ofString "key", v),(Str.ofString "default", d)]⟩:=by unfold argsOk;kernel_rfl
section
variable {X:Cx} {pins:List (Addr × Obj)} {σ:St}
variable {A:Around} {R:Result→Shared→Prop} {H0:Hp} {a S It:Addr} {xs:List V} {kf:Nat→Int} {dv:Value}
theorem mml_key {H:Hp} {s:Shared} {j j':Nat} {x:V} {v:Value} {sv:Array Value} {c:Nat} {Q:Value→Shared→Prop} {E:Value→Shared→Prop} {g0:Value→Sem Value} (I:Inv X pins σ H s) (s0:Same H0 H) (fS:FpOk X pins H S) (fI:FpOk X pins H It)
    (F:KeyI X A pins σ H0 (.builtin "len") xs kf) (hit:s.heap.IsListIter It a j') (hS:s.heap.get? S=some (seqObj "list" sv c)) (hx:xs[j]?=some x) (rx:RelV x v)
    (h:∀ (t:Tok) (H':Hp) (s':Shared),Inv X pins σ H' s'→Same H0 H'→FpOk X pins H' S→FpOk X pins H' It→s'.heap.IsListIter It a j'→s'.heap.get? S=some (seqObj "list" sv c)→Q (.int (kf j) t) s') :
    wpAny (model X.prog X.w) A ((holding [v] (call (.builtin "len") [v])).tryCatch g0) Q E s:=by
  obtain ⟨oI,hoI,cI,dI⟩:=id hit
  have I2:Inv X (pins++[(S,seqObj "list" sv c),(It,oI)]) σ H s:=I.rePin fun p hp=>by
    simp only [List.mem_cons,List.not_mem_nil,or_false] at hp
    rcases hp with rfl | rfl
    · exact ⟨hS,fS,fun v z=>by cases z⟩
    · exact ⟨hoI,fI,fun v z=>by rw [dI] at z;cases z⟩
  refine wpAny_tryCatch (wpAny_holding (wpAny_mono (F j x v _ H _ hx rx (fun p hp=>List.mem_append_left _ hp) I2 s0) (fun u s'' hu=>?_) fun _ _ z=>z.elim))
  obtain ⟨kv,H',I',ru,rfl,S'⟩:=hu
  obtain ⟨t,rfl⟩:=ru
  have p1:=I'.pin (S,seqObj "list" sv c) (List.mem_append_right _ (List.mem_append_right _ (by simp)))
  have p2:=I'.pin (It,oI) (List.mem_append_right _ (List.mem_append_right _ (by simp)))
  exact h t H' s'' I'.unpinned (s0.trans S') ⟨p1.2.1,fS.2⟩ ⟨p2.2.1,fI.2⟩ ⟨oI,p2.1,cI,dI⟩ p1.1
theorem maxl_loop (SI:S≠It) (hl:SqL X.K H0 a xs) (hh:A.in1.handled=none) (F:KeyI X A.in1 pins σ H0 (.builtin "len") xs kf)
    (fin:∀ (H':Hp) (s':Shared) (b:Nat) (x:V) (v:Value),Inv X pins σ H' s'→Same H0 H'→xs[b]?=some x→RelV x v→Best kf b xs.length→R (.ok (.ret v)) s') :
    ∀ (m j b:Nat) (H:Hp) (s:Shared) (x:V) (vb:Value) (tb:Tok) (c:Nat),xs.length - j=m→1≤j→j≤xs.length→Inv X pins σ H s→Same H0 H→FpOk X pins H S→FpOk X pins H It→s.heap.IsListIter It a j→s.heap.get? S=some (seqObj "list" #[vb,.int (kf b) tb] c) →
      xs[b]?=some x→RelV x vb→Best kf b j→codeAny (model X.prog X.w) A (.builtin "max.loop" ⟨[.ref It,.builtin "len", .ref S],[(Str.ofString "default", dv)]⟩) R s
  | 0,j,b,H,s,x,vb,tb,c,hm,h1,hj,I,s0,fS,fI,hit,hS,hb,rb,best=>by
    have ej:j=xs.length:=by omega
    subst ej
    refine codeAny_builtin entry_maxLoop ?_
    rw [Around.under_plainId plain_maxLoop _]
    show wpAny _ _ (seqItems? (.ref S) >>= _) _ _ _
    refine wpAny_bind (wpAny_seqItems hS rfl ?_)
    have sl:=s0.seq hl
    obtain ⟨its,rv,ht,hz⟩:=I.list sl
    have aI:=sq_ne I sl fI hit
    have il:xs.length=its.toArray.size:=by rw [List.size_toArray,← rv.length]
    refine wpAny_bind (wpAny_tryCatch ((Walks.list (prog:=X.prog) (w:=X.w) hh It a aI its.toArray).done s _ _ ⟨by rw [← il];exact hit,ht.isList⟩ fun h' tk kp=>?_))
    have I1:Inv X pins σ H { s with heap:=h',toks:=tk }:=I.turnedMany (tk:=tk) (ch:=[It]) (fun b hb=>by rw [List.mem_singleton.mp hb];exact fI) fun b ob hb q=>kp b ob hb q
    have hS1:h'.get? S=some (seqObj "list" #[vb,.int (kf b) tb] c):=kp S _ (by simpa using SI) hS
    show wpAny _ _ (updateSeq S (fun _=>#[]) >>= _) _ _ _
    refine wpAny_bind (wpAny_updateSeq (s:={ s with heap:=h',toks:=tk }) hS1 rfl ?_ (by show 2≤_;decide) (Nat.zero_le _))
    refine wpAny_bind (wpAny_letGo (wpAny_pure ?_))
    exact fin H _ b x vb (I1.turnedMany (tk:=tk) (ch:=[S]) (fun b hb=>by rw [List.mem_singleton.mp hb];exact fS) fun b ob hb q=>(Heap.get?_update_ne _ _ _ _ (by simpa using hb)).trans q) s0 hb rb best
  | m+1,j,b,H,s,x,vb,tb,c,hm,h1,hj,I,s0,fS,fI,hit,hS,hb,rb,best=>by
    have lj:j < xs.length:=by omega
    refine codeAny_builtin entry_maxLoop ?_
    rw [Around.under_plainId plain_maxLoop _]
    show wpAny _ _ (seqItems? (.ref S) >>= _) _ _ _
    refine wpAny_bind (wpAny_seqItems hS rfl ?_)
    refine wpAny_bind (mm_next (A:=A.in1) I fI SI (s0.seq hl) hh hit hS (List.getElem?_eq_getElem lj) fun v s1 rv I1 hit1 hS1=>?_)
    show wpAny _ _ (Sem.tryCatch (holding [v] (call (.builtin "len") [v])) _ >>= _) _ _ _
    refine wpAny_bind (mml_key I1 s0 fS fI F hit1 hS1 (List.getElem?_eq_getElem lj) rv fun t H' s' I' s0' fS' fI' hit' hS'=>?_)
    refine wpAny_bind (wpAny_tryCatch (wpAny_holding ?_))
    refine wpAny_bind ((CmpOf.ints_gt (prog:=X.prog) (w:=X.w) (A:=A.in1) (P:=fun i v=>∃ t,v=Value.int (kf i) t) kf fun i v h=>h) j b _ _ s' _ _ ⟨t,rfl⟩ ⟨tb,rfl⟩ ?_)
    refine wpAny_bind (wpAny_holding (wpAny_truthy_bool ?_))
    refine wpAny_bind (wpAny_letGo (wpAny_pure ?_))
    by_cases cnd:kf j > kf b
    · simp only [decide_eq_true cnd,if_true]
      refine wpAny_bind (wpAny_updateSeq hS' rfl ?_ (by show 2≤_;decide) (by show 2≤_;decide))
      refine wpAny_bind (wpAny_letGo (wpAny_pure ⟨plainId_quiet plain_maxLoop _,?_⟩))
      obtain ⟨c',hS2⟩:∃ c',(s'.heap.update S (Obj.mapSeq fun _=>#[v,.int (kf j) t])).get? S=some (seqObj "list" #[v,.int (kf j) t] c'):=⟨_,get?_update_seq hS' fun _=>#[v,.int (kf j) t]⟩
      have ku:∀ b o,b≠S→s'.heap.get? b=some o→(s'.heap.update S (Obj.mapSeq fun _=>#[v,.int (kf j) t])).get? b=some o:=fun b o hb e=>(Heap.get?_update_ne _ _ _ _ hb).trans e
      exact maxl_loop SI hl hh F fin m (j+1) j H' { s' with heap:=s'.heap.update S (Obj.mapSeq fun _=>#[v,.int (kf j) t]),toks:=s'.toks } _ v t c' (by omega) (by omega) lj (I'.turnedMany (tk:=s'.toks) (ch:=[S]) (fun b hb=>by rw [List.mem_singleton.mp hb];exact fS') fun b ob hb q=>ku b ob (by simpa using hb) q) s0' fS' fI'
        (Heap.IsListIter.at hit' fun o e=>ku _ o (Ne.symm SI) e) hS2 (List.getElem?_eq_getElem lj) rv (best.new cnd)
    · simp only [decide_eq_false cnd,Bool.false_eq_true,if_false]
      refine wpAny_bind (wpAny_letGo (wpAny_pure ⟨plainId_quiet plain_maxLoop _,?_⟩))
      exact maxl_loop SI hl hh F fin m (j+1) b H' s' x vb tb c (by omega) (by omega) lj I' s0' fS' fI' hit' hS' hb rb (best.stay cnd)
theorem maxl_call {E:Value→Shared→Prop} {H:Hp} {s:Shared} {Q:Value→Shared→Prop} (I:Inv X pins σ H s) (hl:SqL X.K H a xs) (ne:xs≠[]) (hh:A.in1.handled=none) (F:KeyI X A.in1 pins σ H (.builtin "len") xs kf)
    (fin:∀ (H':Hp) (s':Shared) (b:Nat) (x:V) (v:Value),Inv X pins σ H' s'→Same H H'→xs[b]?=some x→RelV x v→Best kf b xs.length→Q v s') :
    wpAny (model X.prog X.w) A (call (.builtin "max") [.ref a] [(Str.ofString "key", .builtin "len"),(Str.ofString "default", dv)]) Q E s:=by
  have l0:0 < xs.length:=List.length_pos_iff.mpr ne
  obtain ⟨its,rv,ht,hz⟩:=I.list hl
  refine kmk_tree kind_max plain_max entry_max (args_maxl _ _ _) ?_
  show wpAny _ _ (pyIter (.ref a) >>= _) _ _ _
  refine wpAny_bind (wpAny_pyIter_list ht.isList ?_)
  refine wpAny_bind (wpAny_newList ?_ (Nat.zero_le _))
  refine wpAny_pure ⟨plainId_quiet plain_maxLoop _,?_⟩
  generalize hg:(s.heap.push { cls:=.type "list_iterator", data:=.fields #[.ref a,.int 0 0] })=g
  have zg:g.objs.size=s.heap.objs.size+1:=by rw [← hg];exact Heap.size_push ..
  have kg:∀ b o,s.heap.get? b=some o→g.get? b=some o:=fun b o e=>by rw [← hg];exact Heap.get?_push_of_some _ e
  have hi:g.IsListIter s.heap.objs.size a 0:=⟨_,by rw [← hg];exact Heap.get?_push_size _ rfl,rfl,rfl⟩
  have hS:(g.push (seqObj "list" #[] 0)).get? g.objs.size=some (seqObj "list" #[] 0):=Heap.get?_push_size _ rfl
  have k1:∀ b o,g.get? b=some o→(g.push (seqObj "list" #[] 0)).get? b=some o:=fun b o e=>Heap.get?_push_of_some _ e
  have I1:Inv X pins σ H { s with heap:=g.push (seqObj "list" #[] 0),toks:=s.toks }:=I.kept (t':=s.toks) fun b o e=>k1 b o (kg b o e)
  have fI:FpOk X pins H s.heap.objs.size:=I.fpOk (Nat.le_refl _) (I.hok.fresh (Nat.le_refl _))
  have fS:FpOk X pins H g.objs.size:=I.fpOk (by omega) (I.hok.fresh (by omega))
  have SI:g.objs.size≠s.heap.objs.size:=by omega
  show codeAny _ A (.builtin "max.loop" ⟨[.ref s.heap.objs.size,.builtin "len", .ref g.objs.size],[(Str.ofString "default", dv)]⟩) _ { s with heap:=g.push (seqObj "list" #[] 0),toks:=s.toks }
  refine codeAny_builtin entry_maxLoop ?_
  rw [Around.under_plainId plain_maxLoop _]
  show wpAny _ _ (seqItems? (.ref g.objs.size) >>= _) _ _ { s with heap:=g.push (seqObj "list" #[] 0),toks:=s.toks }
  refine wpAny_bind (wpAny_seqItems hS rfl ?_)
  refine wpAny_bind (mm_next (A:=A.in1) I1 fI SI hl hh (Heap.IsListIter.at hi fun o e=>k1 _ o e) hS (List.getElem?_eq_getElem l0) fun v s1 rv I1 hit1 hS1=>?_)
  show wpAny _ _ (Sem.tryCatch (holding [v] (call (.builtin "len") [v])) _ >>= _) _ _ _
  refine wpAny_bind (mml_key I1 (Same.refl H) fS fI F hit1 hS1 (List.getElem?_eq_getElem l0) rv fun t H' s' I' s0' fS' fI' hit' hS'=>?_)
  show wpAny _ _ (updateSeq g.objs.size _ >>= _) _ _ _
  refine wpAny_bind (wpAny_updateSeq hS' rfl ?_ (Nat.zero_le _) (by show 2≤_;decide))
  refine wpAny_pure ⟨plainId_quiet plain_maxLoop _,?_⟩
  obtain ⟨c',hS2⟩:∃ c',(s'.heap.update g.objs.size (Obj.mapSeq fun _=>#[v,.int (kf 0) t])).get? g.objs.size=some (seqObj "list" #[v,.int (kf 0) t] c'):=⟨_,get?_update_seq hS' fun _=>#[v,.int (kf 0) t]⟩
  have ku:∀ b o,b≠g.objs.size→s'.heap.get? b=some o→(s'.heap.update g.objs.size (Obj.mapSeq fun _=>#[v,.int (kf 0) t])).get? b=some o:=fun b o hb e=>(Heap.get?_update_ne _ _ _ _ hb).trans e
  exact maxl_loop SI hl hh F (fun H' s' b x v a1 a2 a3 a4 a5=>fin H' s' b x v a1 a2 a3 a4 a5) (xs.length - 1) 1 0 H' { s' with heap:=s'.heap.update g.objs.size (Obj.mapSeq fun _=>#[v,.int (kf 0) t]),toks:=s'.toks } _ v t c' rfl (Nat.le_refl _) l0
    (I'.turnedMany (tk:=s'.toks) (ch:=[g.objs.size]) (fun b hb=>by rw [List.mem_singleton.mp hb];exact fS') fun b ob hb q=>ku b ob (by simpa using hb) q) s0' fS' fI' (Heap.IsListIter.at hit' fun o e=>ku _ o (Ne.symm SI) e) hS2 (List.getElem?_eq_getElem l0) rv (Best.one kf)
theorem maxl_nil {E:Value→Shared→Prop} {H:Hp} {s:Shared} {Q:Value→Shared→Prop} (I:Inv X pins σ H s) (hl:SqL X.K H a xs) (ne:xs=[]) (hh:A.in1.handled=none)
    (fin:∀ (s':Shared),Inv X pins σ H s'→Q dv s') :
    wpAny (model X.prog X.w) A (call (.builtin "max") [.ref a] [(Str.ofString "key", .builtin "len"),(Str.ofString "default", dv)]) Q E s:=by
  obtain ⟨its,rv,ht,hz⟩:=I.list hl
  refine kmk_tree kind_max plain_max entry_max (args_maxl _ _ _) ?_
  show wpAny _ _ (pyIter (.ref a) >>= _) _ _ _
  refine wpAny_bind (wpAny_pyIter_list ht.isList ?_)
  refine wpAny_bind (wpAny_newList ?_ (Nat.zero_le _))
  refine wpAny_pure ⟨plainId_quiet plain_maxLoop _,?_⟩
  generalize hg:(s.heap.push { cls:=.type "list_iterator", data:=.fields #[.ref a,.int 0 0] })=g
  have zg:g.objs.size=s.heap.objs.size+1:=by rw [← hg];exact Heap.size_push ..
  have kg:∀ b o,s.heap.get? b=some o→g.get? b=some o:=fun b o e=>by rw [← hg];exact Heap.get?_push_of_some _ e
  have hi:g.IsListIter s.heap.objs.size a 0:=⟨_,by rw [← hg];exact Heap.get?_push_size _ rfl,rfl,rfl⟩
  have hS:(g.push (seqObj "list" #[] 0)).get? g.objs.size=some (seqObj "list" #[] 0):=Heap.get?_push_size _ rfl
  have k1:∀ b o,g.get? b=some o→(g.push (seqObj "list" #[] 0)).get? b=some o:=fun b o e=>Heap.get?_push_of_some _ e
  have I1:Inv X pins σ H { s with heap:=g.push (seqObj "list" #[] 0),toks:=s.toks }:=I.kept (t':=s.toks) fun b o e=>k1 b o (kg b o e)
  have fI:FpOk X pins H s.heap.objs.size:=I.fpOk (Nat.le_refl _) (I.hok.fresh (Nat.le_refl _))
  have fS:FpOk X pins H g.objs.size:=I.fpOk (by omega) (I.hok.fresh (by omega))
  have SI:g.objs.size≠s.heap.objs.size:=by omega
  show codeAny _ A (.builtin "max.loop" ⟨[.ref s.heap.objs.size,.builtin "len", .ref g.objs.size],[(Str.ofString "default", dv)]⟩) _ { s with heap:=g.push (seqObj "list" #[] 0),toks:=s.toks }
  refine codeAny_builtin entry_maxLoop ?_
  rw [Around.under_plainId plain_maxLoop _]
  show wpAny _ _ (seqItems? (.ref g.objs.size) >>= _) _ _ { s with heap:=g.push (seqObj "list" #[] 0),toks:=s.toks }
  refine wpAny_bind (wpAny_seqItems hS rfl ?_)
  subst ne
  have it0:its.toArray=#[]:=by have:=rv.length;cases its with | nil=>rfl | cons _ _=>cases this
  have aI:=sq_ne I1 hl fI (Heap.IsListIter.at hi fun o e=>k1 _ o e)
  have ht1:(g.push (seqObj "list" #[] 0)).IsList a its.toArray:=by obtain ⟨o,e,r⟩:=ht.isList;exact ⟨o,k1 _ _ (kg _ _ e),r⟩
  refine wpAny_bind (wpAny_tryCatch ((Walks.list (prog:=X.prog) (w:=X.w) hh s.heap.objs.size a aI its.toArray).done { s with heap:=g.push (seqObj "list" #[] 0),toks:=s.toks } _ _ ⟨by rw [it0];exact Heap.IsListIter.at hi fun o e=>k1 _ o e,ht1⟩ fun h' tk kp=>?_))
  have I2:Inv X pins σ H { s with heap:=h',toks:=tk }:=I1.turnedMany (tk:=tk) (ch:=[s.heap.objs.size]) (fun b hb=>by rw [List.mem_singleton.mp hb];exact fI) fun b ob hb q=>kp b ob hb q
  refine wpAny_bind (wpAny_rule (wpAny_pure ?_))
  exact fin _ I2
theorem minl_loop (SI:S≠It) (hl:SqL X.K H0 a xs) (hh:A.in1.handled=none) (F:KeyI X A.in1 pins σ H0 (.builtin "len") xs kf)
    (fin:∀ (H':Hp) (s':Shared) (b:Nat) (x:V) (v:Value),Inv X pins σ H' s'→Same H0 H'→xs[b]?=some x→RelV x v→Best (fun i=>- kf i) b xs.length→R (.ok (.ret v)) s') :
    ∀ (m j b:Nat) (H:Hp) (s:Shared) (x:V) (vb:Value) (tb:Tok) (c:Nat),xs.length - j=m→1≤j→j≤xs.length→Inv X pins σ H s→Same H0 H→FpOk X pins H S→FpOk X pins H It→s.heap.IsListIter It a j→s.heap.get? S=some (seqObj "list" #[vb,.int (kf b) tb] c) →
      xs[b]?=some x→RelV x vb→Best (fun i=>- kf i) b j→codeAny (model X.prog X.w) A (.builtin "min.loop" ⟨[.ref It,.builtin "len", .ref S],[(Str.ofString "default", dv)]⟩) R s
  | 0,j,b,H,s,x,vb,tb,c,hm,h1,hj,I,s0,fS,fI,hit,hS,hb,rb,best=>by
    have ej:j=xs.length:=by omega
    subst ej
    refine codeAny_builtin entry_minLoop ?_
    rw [Around.under_plainId plain_minLoop _]
    show wpAny _ _ (seqItems? (.ref S) >>= _) _ _ _
    refine wpAny_bind (wpAny_seqItems hS rfl ?_)
    have sl:=s0.seq hl
    obtain ⟨its,rv,ht,hz⟩:=I.list sl
    have aI:=sq_ne I sl fI hit
    have il:xs.length=its.toArray.size:=by rw [List.size_toArray,← rv.length]
    refine wpAny_bind (wpAny_tryCatch ((Walks.list (prog:=X.prog) (w:=X.w) hh It a aI its.toArray).done s _ _ ⟨by rw [← il];exact hit,ht.isList⟩ fun h' tk kp=>?_))
    have I1:Inv X pins σ H { s with heap:=h',toks:=tk }:=I.turnedMany (tk:=tk) (ch:=[It]) (fun b hb=>by rw [List.mem_singleton.mp hb];exact fI) fun b ob hb q=>kp b ob hb q
    have hS1:h'.get? S=some (seqObj "list" #[vb,.int (kf b) tb] c):=kp S _ (by simpa using SI) hS
    show wpAny _ _ (updateSeq S (fun _=>#[]) >>= _) _ _ _
    refine wpAny_bind (wpAny_updateSeq (s:={ s with heap:=h',toks:=tk }) hS1 rfl ?_ (by show 2≤_;decide) (Nat.zero_le _))
    refine wpAny_bind (wpAny_letGo (wpAny_pure ?_))
    exact fin H _ b x vb (I1.turnedMany (tk:=tk) (ch:=[S]) (fun b hb=>by rw [List.mem_singleton.mp hb];exact fS) fun b ob hb q=>(Heap.get?_update_ne _ _ _ _ (by simpa using hb)).trans q) s0 hb rb best
  | m+1,j,b,H,s,x,vb,tb,c,hm,h1,hj,I,s0,fS,fI,hit,hS,hb,rb,best=>by
    have lj:j < xs.length:=by omega
    refine codeAny_builtin entry_minLoop ?_
    rw [Around.under_plainId plain_minLoop _]
    show wpAny _ _ (seqItems? (.ref S) >>= _) _ _ _
    refine wpAny_bind (wpAny_seqItems hS rfl ?_)
    refine wpAny_bind (mm_next (A:=A.in1) I fI SI (s0.seq hl) hh hit hS (List.getElem?_eq_getElem lj) fun v s1 rv I1 hit1 hS1=>?_)
    show wpAny _ _ (Sem.tryCatch (holding [v] (call (.builtin "len") [v])) _ >>= _) _ _ _
    refine wpAny_bind (mml_key I1 s0 fS fI F hit1 hS1 (List.getElem?_eq_getElem lj) rv fun t H' s' I' s0' fS' fI' hit' hS'=>?_)
    refine wpAny_bind (wpAny_tryCatch (wpAny_holding ?_))
    refine wpAny_bind ((CmpOf.ints_lt (prog:=X.prog) (w:=X.w) (A:=A.in1) (P:=fun i v=>∃ t,v=Value.int (kf i) t) kf fun i v h=>h) j b _ _ s' _ _ ⟨t,rfl⟩ ⟨tb,rfl⟩ ?_)
    refine wpAny_bind (wpAny_holding (wpAny_truthy_bool ?_))
    refine wpAny_bind (wpAny_letGo (wpAny_pure ?_))
    by_cases cnd:kf j < kf b
    · simp only [decide_eq_true cnd,if_true]
      refine wpAny_bind (wpAny_updateSeq hS' rfl ?_ (by show 2≤_;decide) (by show 2≤_;decide))
      refine wpAny_bind (wpAny_letGo (wpAny_pure ⟨plainId_quiet plain_minLoop _,?_⟩))
      obtain ⟨c',hS2⟩:∃ c',(s'.heap.update S (Obj.mapSeq fun _=>#[v,.int (kf j) t])).get? S=some (seqObj "list" #[v,.int (kf j) t] c'):=⟨_,get?_update_seq hS' fun _=>#[v,.int (kf j) t]⟩
      have ku:∀ b o,b≠S→s'.heap.get? b=some o→(s'.heap.update S (Obj.mapSeq fun _=>#[v,.int (kf j) t])).get? b=some o:=fun b o hb e=>(Heap.get?_update_ne _ _ _ _ hb).trans e
      exact minl_loop SI hl hh F fin m (j+1) j H' { s' with heap:=s'.heap.update S (Obj.mapSeq fun _=>#[v,.int (kf j) t]),toks:=s'.toks } _ v t c' (by omega) (by omega) lj (I'.turnedMany (tk:=s'.toks) (ch:=[S]) (fun b hb=>by rw [List.mem_singleton.mp hb];exact fS') fun b ob hb q=>ku b ob (by simpa using hb) q) s0' fS' fI'
        (Heap.IsListIter.at hit' fun o e=>ku _ o (Ne.symm SI) e) hS2 (List.getElem?_eq_getElem lj) rv (best.new (by show - kf b < - kf j;omega))
    · simp only [decide_eq_false cnd,Bool.false_eq_true,if_false]
      refine wpAny_bind (wpAny_letGo (wpAny_pure ⟨plainId_quiet plain_minLoop _,?_⟩))
      exact minl_loop SI hl hh F fin m (j+1) b H' s' x vb tb c (by omega) (by omega) lj I' s0' fS' fI' hit' hS' hb rb (best.stay (by show ¬ - kf b < - kf j;omega))
theorem minl_call {E:Value→Shared→Prop} {H:Hp} {s:Shared} {Q:Value→Shared→Prop} (I:Inv X pins σ H s) (hl:SqL X.K H a xs) (ne:xs≠[]) (hh:A.in1.handled=none) (F:KeyI X A.in1 pins σ H (.builtin "len") xs kf)
    (fin:∀ (H':Hp) (s':Shared) (b:Nat) (x:V) (v:Value),Inv X pins σ H' s'→Same H H'→xs[b]?=some x→RelV x v→Best (fun i=>- kf i) b xs.length→Q v s') :
    wpAny (model X.prog X.w) A (call (.builtin "min") [.ref a] [(Str.ofString "key", .builtin "len"),(Str.ofString "default", dv)]) Q E s:=by
  have l0:0 < xs.length:=List.length_pos_iff.mpr ne
  obtain ⟨its,rv,ht,hz⟩:=I.list hl
  refine kmk_tree kind_min plain_min entry_min (args_minl _ _ _) ?_
  show wpAny _ _ (pyIter (.ref a) >>= _) _ _ _
  refine wpAny_bind (wpAny_pyIter_list ht.isList ?_)
  refine wpAny_bind (wpAny_newList ?_ (Nat.zero_le _))
  refine wpAny_pure ⟨plainId_quiet plain_minLoop _,?_⟩
  generalize hg:(s.heap.push { cls:=.type "list_iterator", data:=.fields #[.ref a,.int 0 0] })=g
  have zg:g.objs.size=s.heap.objs.size+1:=by rw [← hg];exact Heap.size_push ..
  have kg:∀ b o,s.heap.get? b=some o→g.get? b=some o:=fun b o e=>by rw [← hg];exact Heap.get?_push_of_some _ e
  have hi:g.IsListIter s.heap.objs.size a 0:=⟨_,by rw [← hg];exact Heap.get?_push_size _ rfl,rfl,rfl⟩
  have hS:(g.push (seqObj "list" #[] 0)).get? g.objs.size=some (seqObj "list" #[] 0):=Heap.get?_push_size _ rfl
  have k1:∀ b o,g.get? b=some o→(g.push (seqObj "list" #[] 0)).get? b=some o:=fun b o e=>Heap.get?_push_of_some _ e
  have I1:Inv X pins σ H { s with heap:=g.push (seqObj "list" #[] 0),toks:=s.toks }:=I.kept (t':=s.toks) fun b o e=>k1 b o (kg b o e)
  have fI:FpOk X pins H s.heap.objs.size:=I.fpOk (Nat.le_refl _) (I.hok.fresh (Nat.le_refl _))
  have fS:FpOk X pins H g.objs.size:=I.fpOk (by omega) (I.hok.fresh (by omega))
  have SI:g.objs.size≠s.heap.objs.size:=by omega
  show codeAny _ A (.builtin "min.loop" ⟨[.ref s.heap.objs.size,.builtin "len", .ref g.objs.size],[(Str.ofString "default", dv)]⟩) _ { s with heap:=g.push (seqObj "list" #[] 0),toks:=s.toks }
  refine codeAny_builtin entry_minLoop ?_
  rw [Around.under_plainId plain_minLoop _]
  show wpAny _ _ (seqItems? (.ref g.objs.size) >>= _) _ _ { s with heap:=g.push (seqObj "list" #[] 0),toks:=s.toks }
  refine wpAny_bind (wpAny_seqItems hS rfl ?_)
  refine wpAny_bind (mm_next (A:=A.in1) I1 fI SI hl hh (Heap.IsListIter.at hi fun o e=>k1 _ o e) hS (List.getElem?_eq_getElem l0) fun v s1 rv I1 hit1 hS1=>?_)
  show wpAny _ _ (Sem.tryCatch (holding [v] (call (.builtin "len") [v])) _ >>= _) _ _ _
  refine wpAny_bind (mml_key I1 (Same.refl H) fS fI F hit1 hS1 (List.getElem?_eq_getElem l0) rv fun t H' s' I' s0' fS' fI' hit' hS'=>?_)
  show wpAny _ _ (updateSeq g.objs.size _ >>= _) _ _ _
  refine wpAny_bind (wpAny_updateSeq hS' rfl ?_ (Nat.zero_le _) (by show 2≤_;decide))
  refine wpAny_pure ⟨plainId_quiet plain_minLoop _,?_⟩
  obtain ⟨c',hS2⟩:∃ c',(s'.heap.update g.objs.size (Obj.mapSeq fun _=>#[v,.int (kf 0) t])).get? g.objs.size=some (seqObj "list" #[v,.int (kf 0) t] c'):=⟨_,get?_update_seq hS' fun _=>#[v,.int (kf 0) t]⟩
  have ku:∀ b o,b≠g.objs.size→s'.heap.get? b=some o→(s'.heap.update g.objs.size (Obj.mapSeq fun _=>#[v,.int (kf 0) t])).get? b=some o:=fun b o hb e=>(Heap.get?_update_ne _ _ _ _ hb).trans e
  exact minl_loop SI hl hh F (fun H' s' b x v a1 a2 a3 a4 a5=>fin H' s' b x v a1 a2 a3 a4 a5) (xs.length - 1) 1 0 H' { s' with heap:=s'.heap.update g.objs.size (Obj.mapSeq fun _=>#[v,.int (kf 0) t]),toks:=s'.toks } _ v t c' rfl (Nat.le_refl _) l0
    (I'.turnedMany (tk:=s'.toks) (ch:=[g.objs.size]) (fun b hb=>by rw [List.mem_singleton.mp hb];exact fS') fun b ob hb q=>ku b ob (by simpa using hb) q) s0' fS' fI' (Heap.IsListIter.at hit' fun o e=>ku _ o (Ne.symm SI) e) hS2 (List.getElem?_eq_getElem l0) rv (Best.one _)
theorem minl_nil {E:Value→Shared→Prop} {H:Hp} {s:Shared} {Q:Value→Shared→Prop} (I:Inv X pins σ H s) (hl:SqL X.K H a xs) (ne:xs=[]) (hh:A.in1.handled=none)
    (fin:∀ (s':Shared),Inv X pins σ H s'→Q dv s') :
    wpAny (model X.prog X.w) A (call (.builtin "min") [.ref a] [(Str.ofString "key", .builtin "len"),(Str.ofString "default", dv)]) Q E s:=by
  obtain ⟨its,rv,ht,hz⟩:=I.list hl
  refine kmk_tree kind_min plain_min entry_min (args_minl _ _ _) ?_
  show wpAny _ _ (pyIter (.ref a) >>= _) _ _ _
  refine wpAny_bind (wpAny_pyIter_list ht.isList ?_)
  refine wpAny_bind (wpAny_newList ?_ (Nat.zero_le _))
  refine wpAny_pure ⟨plainId_quiet plain_minLoop _,?_⟩
  generalize hg:(s.heap.push { cls:=.type "list_iterator", data:=.fields #[.ref a,.int 0 0] })=g
  have zg:g.objs.size=s.heap.objs.size+1:=by rw [← hg];exact Heap.size_push ..
  have kg:∀ b o,s.heap.get? b=some o→g.get? b=some o:=fun b o e=>by rw [← hg];exact Heap.get?_push_of_some _ e
  have hi:g.IsListIter s.heap.objs.size a 0:=⟨_,by rw [← hg];exact Heap.get?_push_size _ rfl,rfl,rfl⟩
  have hS:(g.push (seqObj "list" #[] 0)).get? g.objs.size=some (seqObj "list" #[] 0):=Heap.get?_push_size _ rfl
  have k1:∀ b o,g.get? b=some o→(g.push (seqObj "list" #[] 0)).get? b=some o:=fun b o e=>Heap.get?_push_of_some _ e
  have I1:Inv X pins σ H { s with heap:=g.push (seqObj "list" #[] 0),toks:=s.toks }:=I.kept (t':=s.toks) fun b o e=>k1 b o (kg b o e)
  have fI:FpOk X pins H s.heap.objs.size:=I.fpOk (Nat.le_refl _) (I.hok.fresh (Nat.le_refl _))
  have fS:FpOk X pins H g.objs.size:=I.fpOk (by omega) (I.hok.fresh (by omega))
  have SI:g.objs.size≠s.heap.objs.size:=by omega
  show codeAny _ A (.builtin "min.loop" ⟨[.ref s.heap.objs.size,.builtin "len", .ref g.objs.size],[(Str.ofString "default", dv)]⟩) _ { s with heap:=g.push (seqObj "list" #[] 0),toks:=s.toks }
  refine codeAny_builtin entry_minLoop ?_
  rw [Around.under_plainId plain_minLoop _]
  show wpAny _ _ (seqItems? (.ref g.objs.size) >>= _) _ _ { s with heap:=g.push (seqObj "list" #[] 0),toks:=s.toks }
  refine wpAny_bind (wpAny_seqItems hS rfl ?_)
  subst ne
  have it0:its.toArray=#[]:=by have:=rv.length;cases its with | nil=>rfl | cons _ _=>cases this
  have aI:=sq_ne I1 hl fI (Heap.IsListIter.at hi fun o e=>k1 _ o e)
  have ht1:(g.push (seqObj "list" #[] 0)).IsList a its.toArray:=by obtain ⟨o,e,r⟩:=ht.isList;exact ⟨o,k1 _ _ (kg _ _ e),r⟩
  refine wpAny_bind (wpAny_tryCatch ((Walks.list (prog:=X.prog) (w:=X.w) hh s.heap.objs.size a aI its.toArray).done { s with heap:=g.push (seqObj "list" #[] 0),toks:=s.toks } _ _ ⟨by rw [it0];exact Heap.IsListIter.at hi fun o e=>k1 _ o e,ht1⟩ fun h' tk kp=>?_))
  have I2:Inv X pins σ H { s with heap:=h',toks:=tk }:=I1.turnedMany (tk:=tk) (ch:=[s.heap.objs.size]) (fun b hb=>by rw [List.mem_singleton.mp hb];exact fI) fun b ob hb q=>kp b ob hb q
  refine wpAny_bind (wpAny_rule (wpAny_pure ?_))
  exact fin _ I2
end
section
variable {X:Cx}
theorem key_len {A1:Around} {pins:List (Addr × Obj)} {σ:St} {H:Hp} {ss:List Str} (hs:∀ z∈ss,z.length≤1000):KeyI X A1 pins σ H (.builtin "len") (ss.map V.str) (fun i=>(((ss.getD i Str.empty).length:Nat):Int)):=by
  intro i x v pins' H' s' hx rv _ I _
  obtain ⟨z,hz,rfl⟩:=List.mem_map.mp (List.mem_of_getElem? hx)
  have ez:ss.getD i Str.empty=z:=by
    rw [List.getElem?_map] at hx
    rw [List.getD_eq_getElem?_getD]
    cases e:ss[i]? with
    | none=>rw [e] at hx;cases hx
    | some y=>rw [e] at hx;injection hx with hx;injection hx
  obtain ⟨t,rfl⟩:=rv
  have l:=hs z hz
  refine PyProof.Rows.len_str (by omega) ⟨.int (z.length:Nat),H',I.tok _,⟨_,rfl⟩,by show V.int _=V.int (((ss.getD i Str.empty).length:Nat):Int);rw [ez],Same.refl _⟩
def tMM (K:PySem.W.Frag) (sg:Int) (te td:TE):TE:=fun σ H Q=>te σ H fun x H1=>td σ H1 fun d H2=>∃ (a:Addr) (ss:List Str),x=.ref a∧SqL K H2 a (ss.map V.str)∧(∀ z∈ss,z.length≤1000)∧(ss=[]→Q d H2)∧∀ (b:Nat) (z:Str) (H3:Hp),ss[b]?=some z→Best (fun i=>sg * (((ss.getD i Str.empty).length:Nat):Int)) b ss.length→Same H2 H3→Q (.str z) H3
theorem bt_min':bootBuiltins "min" = some (.builtin "min"):=by kernel_rfl
theorem bt_len':bootBuiltins "len" = some (.builtin "len"):=by kernel_rfl
theorem pe_maxLen (K:PySem.W.Frag) {e d:Expr} {te td:TE} {lp kpos dpos p pos:Pos} (hcalm:X.calm=true) (hg:Gl X "max") (hm:X.mg "max" = none) (hg2:Gl X "len") (hm2:X.mg "len" = none) (he:PE X e te) (hd:PE X d td)
    (hs:starEach [e] X.env=[(false,eval e X.env)]:=by rfl) (hK:X.K=K:=by rfl) :
    PE X (.Call (.Name "max" p) [e] [⟨some "key", .Name "len" lp,kpos⟩,⟨some "default", d,dpos⟩] pos) (tMM K 1 te td):=by
  subst hK
  intro pins s σ H Q I h
  refine wpAny_Call_Name_kw (ld_blt I hg hm bt_max' ?_)
  refine callWith_kw (thn ((pa_cons he pa_nil hs) pos pins s σ H (fun xs H1=>match xs with | [x]=>(td σ H1 fun d H2=>∃ (a:Addr) (ss:List Str),x=.ref a∧SqL X.K H2 a (ss.map V.str)∧(∀ z∈ss,z.length≤1000)∧(ss=[]→Q d H2)∧∀ (b:Nat) (z:Str) (H3:Hp),ss[b]?=some z→Best (fun i=>1 * (((ss.getD i Str.empty).length:Nat):Int)) b ss.length→Same H2 H3→Q (.str z) H3) | _=>False) I h) fun us s1 ⟨xs,H1,I1,r1,q1⟩=>?_) (by rw [hs];rfl) (by rw [hs];rfl)
  obtain ⟨x0,ex0,q1⟩:∃ x0,xs=[x0]∧(td σ H1 fun d H2=>∃ (a:Addr) (ss:List Str),x0=.ref a∧SqL X.K H2 a (ss.map V.str)∧(∀ z∈ss,z.length≤1000)∧(ss=[]→Q d H2)∧∀ (b:Nat) (z:Str) (H3:Hp),ss[b]?=some z→Best (fun i=>1 * (((ss.getD i Str.empty).length:Nat):Int)) b ss.length→Same H2 H3→Q (.str z) H3):=by
    cases xs with
    | nil=>exact False.elim q1
    | cons x0 rest=>
      cases rest with
      | nil=>exact ⟨x0,rfl,q1⟩
      | cons _ _=>exact False.elim q1
  subst ex0
  show wpAny _ _ (evalAll [do let v ← eval (.Name "len" lp) X.env;standAt pos;pure v,do let v ← eval d X.env;standAt pos;pure v]) _ _ s1
  refine wpAny_evalAll_cons (wpAny_bind (ld_blt I1 hg2 hm2 bt_len' (wpAny_bind (wpAny_standAt (wpAny_pure ?_)))))
  refine wpAny_evalAll_cons (wpAny_bind (thn (hd pins s1 σ H1 _ I1 q1) fun dv s2 ⟨dV,H2,I2,rd,q2⟩=>wpAny_bind (wpAny_standAt (wpAny_pure (wpAny_evalAll_nil ?_)))))
  obtain ⟨a,ss,rfl,hl,hsl,q0,q⟩:=q2
  obtain ⟨u,rfl,ru⟩:=vals1 r1
  cases (show u=Value.ref a from ru)
  show wpAny _ _ (call (.builtin "max") [.ref a] [(Str.ofString "key", .builtin "len"),(Str.ofString "default", dv)]) _ _ s2
  have hA:X.A.handled=none:=I.ok.hd hcalm
  by_cases c:ss=[]
  · exact maxl_nil I2 hl (by rw [c];rfl) hA fun s' I'=>⟨dV,H2,I',rd,q0 c⟩
  · refine maxl_call I2 hl (by intro z;exact c (by simpa using z)) hA (key_len hsl) fun H' s' b x v I' S' hb rx best=>?_
    rw [List.getElem?_map] at hb
    cases e:ss[b]? with
    | none=>rw [e] at hb;cases hb
    | some z=>
      rw [e] at hb
      cases hb
      refine ⟨_,H',I',rx,q b z H' e ?_ S'⟩
      rw [List.length_map] at best
      have ef:(fun i=>1 * (((ss.getD i Str.empty).length:Nat):Int))=(fun i=>(((ss.getD i Str.empty).length:Nat):Int)):=funext fun i=>by omega
      rw [ef];exact best
theorem pe_minLen (K:PySem.W.Frag) {e d:Expr} {te td:TE} {lp kpos dpos p pos:Pos} (hcalm:X.calm=true) (hg:Gl X "min") (hm:X.mg "min" = none) (hg2:Gl X "len") (hm2:X.mg "len" = none) (he:PE X e te) (hd:PE X d td)
    (hs:starEach [e] X.env=[(false,eval e X.env)]:=by rfl) (hK:X.K=K:=by rfl) :
    PE X (.Call (.Name "min" p) [e] [⟨some "key", .Name "len" lp,kpos⟩,⟨some "default", d,dpos⟩] pos) (tMM K (-1) te td):=by
  subst hK
  intro pins s σ H Q I h
  refine wpAny_Call_Name_kw (ld_blt I hg hm bt_min' ?_)
  refine callWith_kw (thn ((pa_cons he pa_nil hs) pos pins s σ H (fun xs H1=>match xs with | [x]=>(td σ H1 fun d H2=>∃ (a:Addr) (ss:List Str),x=.ref a∧SqL X.K H2 a (ss.map V.str)∧(∀ z∈ss,z.length≤1000)∧(ss=[]→Q d H2)∧∀ (b:Nat) (z:Str) (H3:Hp),ss[b]?=some z→Best (fun i=>(-1) * (((ss.getD i Str.empty).length:Nat):Int)) b ss.length→Same H2 H3→Q (.str z) H3) | _=>False) I h) fun us s1 ⟨xs,H1,I1,r1,q1⟩=>?_) (by rw [hs];rfl) (by rw [hs];rfl)
  obtain ⟨x0,ex0,q1⟩:∃ x0,xs=[x0]∧(td σ H1 fun d H2=>∃ (a:Addr) (ss:List Str),x0=.ref a∧SqL X.K H2 a (ss.map V.str)∧(∀ z∈ss,z.length≤1000)∧(ss=[]→Q d H2)∧∀ (b:Nat) (z:Str) (H3:Hp),ss[b]?=some z→Best (fun i=>(-1) * (((ss.getD i Str.empty).length:Nat):Int)) b ss.length→Same H2 H3→Q (.str z) H3):=by
    cases xs with
    | nil=>exact False.elim q1
    | cons x0 rest=>
      cases rest with
      | nil=>exact ⟨x0,rfl,q1⟩
      | cons _ _=>exact False.elim q1
  subst ex0
  show wpAny _ _ (evalAll [do let v ← eval (.Name "len" lp) X.env;standAt pos;pure v,do let v ← eval d X.env;standAt pos;pure v]) _ _ s1
  refine wpAny_evalAll_cons (wpAny_bind (ld_blt I1 hg2 hm2 bt_len' (wpAny_bind (wpAny_standAt (wpAny_pure ?_)))))
  refine wpAny_evalAll_cons (wpAny_bind (thn (hd pins s1 σ H1 _ I1 q1) fun dv s2 ⟨dV,H2,I2,rd,q2⟩=>wpAny_bind (wpAny_standAt (wpAny_pure (wpAny_evalAll_nil ?_)))))
  obtain ⟨a,ss,rfl,hl,hsl,q0,q⟩:=q2
  obtain ⟨u,rfl,ru⟩:=vals1 r1
  cases (show u=Value.ref a from ru)
  show wpAny _ _ (call (.builtin "min") [.ref a] [(Str.ofString "key", .builtin "len"),(Str.ofString "default", dv)]) _ _ s2
  have hA:X.A.handled=none:=I.ok.hd hcalm
  by_cases c:ss=[]
  · exact minl_nil I2 hl (by rw [c];rfl) hA fun s' I'=>⟨dV,H2,I',rd,q0 c⟩
  · refine minl_call I2 hl (by intro z;exact c (by simpa using z)) hA (key_len hsl) fun H' s' b x v I' S' hb rx best=>?_
    rw [List.getElem?_map] at hb
    cases e:ss[b]? with
    | none=>rw [e] at hb;cases hb
    | some z=>
      rw [e] at hb
      cases hb
      refine ⟨_,H',I',rx,q b z H' e ?_ S'⟩
      rw [List.length_map] at best
      have ef:(fun i=>(-1) * (((ss.getD i Str.empty).length:Nat):Int))=(fun i=>- (((ss.getD i Str.empty).length:Nat):Int)):=funext fun i=>by omega
      rw [ef];exact best
end
end L2
namespace L2
open PySem PySem.Spec PyProof.Rows PySem.W
section
variable {prog:Program} {w:World} {A:Around} {E:Value→Shared→Prop} {s:Shared}
theorem set_iterQ {D:Addr} {es:Array (Int × Value)} {ep:Nat} {t:SetTable} {S:List Str} {Q:Value→Shared→Prop} (hD:setAt D es ep t s.heap) (hS:SetS w (ledOf w) es t S) (hz:es.size≤4000)
    (h:∀ (I:Addr) (fp:List Addr) (St:Nat→Heap→Prop) (vs:List Value) (h1:Heap) (d:Drawn),(∀ A':Around,A'.handled=none→Walks prog w A' I fp [I] es.size (fun i v=>vs[i]?=some v) St)→St 0 h1→s.heap.objs.size≤I→(∀ b∈fp,b < h1.objs.size)→(∀ b o,s.heap.get? b=some o→h1.get? b=some o)→vs.Perm (es.toList.map (·.2))→h1.get? I≠none→(∀ b∈fp,b=I∨b=D∨s.heap.objs.size≤b)→Q (.ref I) { s with heap:=h1,drawn:=d }) :
    wpAny (model prog w) A (pyIter (.ref D)) Q E s:=by
  have hT:s.TypeIs (.ref D) "set" := ⟨_,hD,rfl⟩
  have Dlt:D < s.heap.objs.size:=Heap.lt_size hD
  refine wpAny_pyIter_slot hT F.slot_set_iter (wpAny_call_entry F.slot_set_iter hT entry_set_iter ?_ (F.args_set_iter_1 _))
  unfold Builtin.«frozenset.__iter__» Builtin.Frozenset.slot0
  refine wpAny_bind (wpAny_bind ?_)
  show wpAny _ _ (pure (Value.ref D,[])) _ _ _
  refine wpAny_pure ?_
  show wpAny _ _ (pure D) _ _ _
  refine wpAny_pure ?_
  unfold Builtin.Frozenset.sizeOf setEntries
  refine wpAny_bind (wpAny_bind (wpAny_bind (wpAny_setState_of hD rfl hS.fit (wpAny_pure (wpAny_pure ?_)))))
  unfold setDrawn
  refine wpAny_bind (wpAny_bind (wpAny_setState_of hD rfl hS.fit ?_))
  dsimp only
  refine wpAny_bind (by_text (wpAny_pure ?_))
  have szp:∀ (g:Heap) (o:Obj),(g.push o).objs.size=g.objs.size+1:=fun g o=>Heap.size_push ..
  by_cases dr:(!w.params.followText "set-order" && (!t.plain && decide (es.size > 1)))=true
  · refine wpAny_ite_true ?_ ?_
    · exact decide_eq_true dr
    refine wpAny_bind (draw_ok es.size (List.range es.size) _ _ (by simp) fun ps d hp=>?_)
    have pl:ps.length=es.size:=by have:=hp.length_eq;simpa using this
    unfold newTuple
    refine wpAny_bind (wpAny_newObj_type ?_ (by
      show (ps.map fun i:Nat=>rawInt (i:Int)).toArray.size≤sizeLine
      rw [List.size_toArray,List.length_map,sizeLine_eq];omega))
    unfold setEpoch
    have hD1:setAt D es ep t (s.heap.push { cls:=.type "tuple", data:=.seq (ps.map fun i:Nat=>rawInt (i:Int)).toArray }):=Heap.get?_push_of_some _ hD
    refine wpAny_bind (wpAny_bind (wpAny_setState_of (s:={ s with heap:=s.heap.push { cls:=.type "tuple", data:=.seq (ps.map fun i:Nat=>rawInt (i:Int)).toArray },drawn:=d }) hD1 rfl hS.fit (wpAny_pure ?_)))
    dsimp only
    unfold newFields
    refine wpAny_bind (wpAny_newObj_type ?_)
    refine wpAny_pure ⟨_,rfl, "set_iterator", _,⟨_,Heap.get?_push_size _ rfl,rfl⟩,slot_seti_next.lookup,?_⟩
    have TI:s.heap.objs.size≠(s.heap.push { cls:=.type "tuple", data:=.seq (ps.map fun i:Nat=>rawInt (i:Int)).toArray }).objs.size:=by rw [szp];omega
    have DI:D≠(s.heap.push { cls:=.type "tuple", data:=.seq (ps.map fun i:Nat=>rawInt (i:Int)).toArray }).objs.size:=by rw [szp];exact Nat.ne_of_lt (Nat.lt_succ_of_lt Dlt)
    refine h _ _ _ _ _ d (fun A' hA'=>walks_drawn (T:=s.heap.objs.size) hA' DI TI hS.fit hp) ⟨Heap.get?_push_size _ rfl,Heap.get?_push_of_some _ hD1,Heap.get?_push_of_some _ (Heap.get?_push_size _ rfl)⟩ ?_ ?_ (fun b o e=>Heap.get?_push_of_some _ (Heap.get?_push_of_some _ e)) ?_ ?_ ?_
    · rw [szp];omega
    · intro b hb
      rw [szp,szp]
      simp only [List.mem_cons,List.not_mem_nil,or_false] at hb
      rcases hb with rfl | rfl | rfl
      · rw [szp];exact Nat.lt_succ_self _
      · exact Nat.lt_succ_of_lt (Nat.lt_succ_of_lt Dlt)
      · exact Nat.lt_succ_of_lt (Nat.lt_succ_self _)
    · have:=hp.map (fun p=>(es.toList.getD p (0,.none)).2)
      have e2:=range_map_getD (fun e:Int × Value=>e.2) es.toList (0,.none)
      rw [Array.length_toList] at e2
      rw [e2] at this
      exact this
    · rw [Heap.get?_push_size _ rfl];simp
    · intro b hb
      simp only [List.mem_cons,List.not_mem_nil,or_false] at hb
      rcases hb with rfl | rfl | rfl
      · exact .inl rfl
      · exact .inr (.inl rfl)
      · exact .inr (.inr (Nat.le_refl _))
  · refine wpAny_ite_false ?_ ?_
    · exact decide_eq_false dr
    refine wpAny_bind (wpAny_pure ?_)
    unfold setEpoch
    refine wpAny_bind (wpAny_bind (wpAny_setState_of hD rfl hS.fit (wpAny_pure ?_)))
    dsimp only
    unfold newFields
    refine wpAny_bind (wpAny_newObj_type ?_)
    refine wpAny_pure ⟨_,rfl, "set_iterator", _,⟨_,Heap.get?_push_size _ rfl,rfl⟩,slot_seti_next.lookup,?_⟩
    have DI:D≠s.heap.objs.size:=Nat.ne_of_lt Dlt
    have fpl:∀ b∈[s.heap.objs.size,D],b < (s.heap.push (setIt (rawInt 0) 0 D es.size ep)).objs.size:=fun b hb=>by
      rw [szp]
      simp only [List.mem_cons,List.not_mem_nil,or_false] at hb
      rcases hb with rfl | rfl
      · exact Nat.lt_succ_self _
      · exact Nat.lt_succ_of_lt Dlt
    have fpw:∀ b∈[s.heap.objs.size,D],b=s.heap.objs.size∨b=D∨s.heap.objs.size≤b:=fun b hb=>by
      simp only [List.mem_cons,List.not_mem_nil,or_false] at hb
      rcases hb with rfl | rfl
      · exact .inl rfl
      · exact .inr (.inl rfl)
    cases bt:w.params.followText "set-order" with
    | true=>
      refine h _ _ _ _ _ s.drawn (fun A' hA'=>walks_text bt hA' DI hS.fit) ⟨Heap.get?_push_size _ rfl,Heap.get?_push_of_some _ hD⟩ (Nat.le_refl _) fpl (fun b o e=>Heap.get?_push_of_some _ e) ((pick_perm _ es).map _) (by rw [Heap.get?_push_size _ rfl];simp) fpw
    | false=>
      have hl:t.led=true:=by rw [hS.led];unfold ledOf;rw [bt];rfl
      have z1:es.size≤1:=by
        rcases hS.pl with z | z
        · omega
        · rw [bt,z] at dr
          have:¬ es.size > 1:=fun c=>dr (by simp [c])
          omega
      refine h _ _ _ _ _ s.drawn (fun A' hA'=>walks_led bt hA' DI hS.fit hl z1) ⟨Heap.get?_push_size _ rfl,Heap.get?_push_of_some _ hD⟩ (Nat.le_refl _) fpl (fun b o e=>Heap.get?_push_of_some _ e) (List.Perm.refl _) (by rw [Heap.get?_push_size _ rfl];simp) fpw
theorem set_collectQ {D:Addr} {es:Array (Int × Value)} {ep:Nat} {t:SetTable} {S:List Str} {Q:List Value→Shared→Prop} (hD:setAt D es ep t s.heap) (hS:SetS w (ledOf w) es t S) (hh:A.handled=none) (hz:es.size≤4000)
    (h:∀ h' tk d acc,(∀ b o,s.heap.get? b=some o→h'.get? b=some o)→s.heap.objs.size≤h'.objs.size→acc.Perm (es.toList.map (·.2))→Q acc { s with heap:=h',toks:=tk,drawn:=d }) :
    wpAny (model prog w) A (collect (.ref D)) Q E s:=by
  have Dlt:D < s.heap.objs.size:=Heap.lt_size hD
  unfold collect
  refine wpAny_bind (wpAny_runValue (codeAny_builtin F.entry_proto_collect ?_))
  rw [Around.under_plainId F.plain_proto_collect _]
  show wpAny _ A.in1 (newList [] >>= fun l=>again (.builtin "list.__iadd__" ⟨[l,.ref D],[]⟩)) _ _ s
  refine wpAny_bind (wpAny_newObj_type ?_)
  refine wpAny_pure ⟨plainId_quiet F.plain_list_iadd _,codeAny_builtin F.entry_list_iadd ?_⟩
  rw [Around.under_plainId F.plain_list_iadd _]
  show wpAny _ A.in1 (Builtin.List.listExtendWith (.ref s.heap.objs.size) (.ref D) (.ref s.heap.objs.size)) _ _ _
  have hS₁:(s.heap.push { cls:=.type "list", data:=.seq ([]:List Value).toArray }).get? s.heap.objs.size=some { cls:=.type "list", data:=.seq #[] 0 }:=Heap.get?_push_size _ rfl
  have hD1:setAt D es ep t (s.heap.push { cls:=.type "list", data:=.seq ([]:List Value).toArray }):=Heap.get?_push_of_some _ hD
  have szp:(s.heap.push { cls:=.type "list", data:=.seq ([]:List Value).toArray }).objs.size=s.heap.objs.size+1:=Heap.size_push ..
  have old1:∀ b o,s.heap.get? b=some o→(s.heap.push { cls:=.type "list", data:=.seq ([]:List Value).toArray }).get? b=some o:=fun b o e=>Heap.get?_push_of_some _ e
  generalize s.heap.push { cls:=.type "list", data:=.seq ([]:List Value).toArray }=g at hS₁ hD1 szp old1
  have hT:({ s with heap:=g }:Shared).TypeIs (.ref D) "set" := ⟨_,hD1,rfl⟩
  unfold Builtin.List.listExtendWith
  refine wpAny_bind (wpAny_typeOf hT ?_)
  rw [if_neg (by
    have:(s.heap.objs.size == D)=false:=by simpa using Nat.ne_of_gt Dlt
    show ¬ (((s.heap.objs.size == D) || _ || _)=true)
    rw [this];decide)]
  refine wpAny_bind (set_iterQ (s:={ s with heap:=g }) hD1 hS hz fun I fp St vs h1 d Wk st0 Ige fpl old2 vp hI fpw=>?_)
  have hT2:({ s with heap:=h1,drawn:=d }:Shared).TypeIs (.ref D) "set" := ⟨_,old2 _ _ hD1,rfl⟩
  refine wpAny_bind (wpAny_holding (hint_set hT2 ?_))
  dsimp only
  have Ige':s.heap.objs.size+1≤I:=by rw [← szp];exact Ige
  have vl:vs.length=es.size:=by have:=vp.length_eq;simpa using this
  have hS2:=old2 _ _ hS₁
  have nfp:s.heap.objs.size ∉ fp:=fun hm=>by
    rcases fpw _ hm with z | z | z
    · have z':s.heap.objs.size=I:=z
      rw [← z'] at Ige'
      exact Nat.not_succ_le_self _ Ige'
    · have z':s.heap.objs.size=D:=z
      rw [z'] at Dlt
      exact Nat.lt_irrefl _ Dlt
    · rw [szp] at z
      have z':s.heap.objs.size+1≤s.heap.objs.size:=z
      omega
  have fin:∀ (c0:Nat) (h2:Heap),h2.get? s.heap.objs.size=some { cls:=.type "list", data:=.seq #[] c0 }→(∀ b o,b≠s.heap.objs.size→h1.get? b=some o→h2.get? b=some o) →
      codeAny (model prog w) A (.builtin "list.extend.loop" ⟨[.ref s.heap.objs.size,.ref I,.ref s.heap.objs.size],[]⟩) (fun r s'=>match r with | .ok (.ret v)=>wpAny (model prog w) A (match v with | .ref a=>(do let __do_lift ← load a;match __do_lift.data with | .seq xs _=>pure xs.toList | _=>unsupported "internal:collect") | _=>unsupported "internal:collect") Q E s' | .ok _=>False | .error e=>E e s') { s with heap:=h2,drawn:=d }:=fun c0 h2 hg2 k2=>by
    refine codeAny_extend_loopS (Wk A.in1 hh).toS (by rw [sizeLine_eq];omega) s.heap.objs.size nfp (.ref s.heap.objs.size) es.size 0 _ #[] c0 (Nat.sub_zero _) (Nat.zero_le _) ((Wk A.in1 hh).frame 0 _ _ st0 fun b hb o e=>k2 b o (fun z=>nfp (by rw [← z];exact hb)) e) hg2 ⟨rfl,fun j v hj=>by simp at hj⟩ fun s' acc' c' mv hg3 it=>?_
    obtain ⟨hp',gn',dr',tk',os'⟩:=s'
    have e1:gn'=s.gens:=mv.gens
    have e2:dr'=d:=mv.drawn
    have e3:os'=s.os:=mv.os
    subst e1;subst e2;subst e3
    refine wpAny_bind (wpAny_load hg3 (wpAny_pure ?_))
    have ea:acc'.toList=vs:=by
      apply List.ext_getElem?
      intro i
      rcases Nat.lt_or_ge i es.size with c | c
      · have hi:i < acc'.size:=by rw [it.1];exact c
        have:=it.2 i acc'[i] (Array.getElem?_eq_getElem hi)
        rw [Array.getElem?_toList,Array.getElem?_eq_getElem hi,this]
      · rw [Array.getElem?_toList,Array.getElem?_eq_none (by rw [it.1];exact c),List.getElem?_eq_none (by omega)]
    rw [ea]
    refine h hp' tk' _ vs (fun b o e=>?_) ?_ vp
    · have bl:b≠s.heap.objs.size:=Nat.ne_of_lt (Heap.lt_size e)
      have bI:b≠I:=fun z=>by
        have h1:b < s.heap.objs.size:=Heap.lt_size e
        have h2:b=I:=z
        have h3:I < s.heap.objs.size:=by rw [← h2];exact h1
        exact absurd (Nat.lt_of_lt_of_le h3 (Nat.le_of_succ_le Ige')) (Nat.lt_irrefl _)
      exact mv.heap b o (by simp [bl,bI]) (k2 b o bl (old2 _ _ (old1 _ _ e)))
    · exact Nat.le_of_lt (Heap.lt_size hg3)
  rw [if_pos (by decide +kernel)]
  refine wpAny_bind (wpAny_rule (wpAny_bind ?_))
  unfold Builtin.List.listTouch
  refine wpAny_bind (listUpdate_at (a:=s.heap.objs.size) (s:={ s with heap:=h1,drawn:=d }) hS2 rfl ?_ (Nat.zero_le _) (by show 1≤sizeLine+1;omega))
  have g1:=get?_update_seq hS2 (fun x=>x.push Value.none)
  refine listUpdate_at (a:=s.heap.objs.size) (s:={ s with heap:=h1.update s.heap.objs.size (Obj.mapSeq fun x=>x.push Value.none),drawn:=d }) g1 rfl ?_ (by show 1≤sizeLine;rw [sizeLine_eq];decide) (Nat.zero_le _)
  have g2:=get?_update_seq g1 (fun x=>x.pop)
  refine wpAny_pure ⟨plainId_quiet (by kernel_rfl) _,?_⟩
  exact fin _ _ g2 fun b o n e=>(Heap.get?_update_ne _ _ _ _ n).trans ((Heap.get?_update_ne _ _ _ _ n).trans e)
theorem set_sortedQ {D:Addr} {S:List Str} {n:Nat} {Q:Value→Shared→Prop} (hA:SetA w (ledOf w) s.heap D S n) (hh:A.handled=none) (hn:n≤4000)
    (h:∀ h' tk d l out ss' e,(∀ b o,s.heap.get? b=some o→h'.get? b=some o)→s.heap.objs.size≤l→h'.get? l=some (seqObj "list" out e)→StrsAre out.toList ss'→ss'.Nodup→(∀ x,x∈ss' ↔ x∈S)→sortedS ss'=true→ss'.length≤n→Q (.ref l) { s with heap:=h',toks:=tk,drawn:=d }) :
    wpAny (model prog w) A (call (.builtin "sorted") [.ref D]) Q E s:=by
  obtain ⟨es,ep,t,hD,hS,hsz⟩:=hA
  refine Calls.call_function_entry kind_sorted plain_sorted entry_sorted (args_sorted1 _) ?_
  unfold Builtin.«sorted»
  refine wpAny_bind (m:=checkCount "sorted" 1 1 _) (wpAny_pure ?_)
  refine wpAny_bind (set_collectQ (A:=A.in1) hD hS hh (by omega) fun h1 tk d acc old1 sz1 hp=>?_)
  obtain ⟨ss,hv,hpk⟩:=perm_strs hS.ent hp
  have al:acc.length=es.size:=by have:=hp.length_eq;simpa using this
  have fz:acc.length≤sizeLine:=by rw [sizeLine_eq];omega
  refine wpAny_bind (wpAny_newList ?_ fz)
  have hDL:(h1.push (seqObj "list" acc.toArray 0)).get? h1.objs.size=some (seqObj "list" acc.toArray 0):=Heap.get?_push_size _ rfl
  refine wpAny_bind (wpAny_holding (wpAny_call_entry slot_list_sort ⟨_,hDL,rfl⟩ entry_list_sort (sort_strs (s:={ s with heap:=h1.push (seqObj "list" acc.toArray 0),toks:=tk,drawn:=d }) hDL hv (hpk.nodup_iff.mpr hS.nd) fz fun out ss' b1 b2 b3=>⟨_,rfl,?_⟩) (args_list_sort _)))
  obtain ⟨e,he⟩:=sortedHeap_at (out:=out) hDL
  refine wpAny_pure ⟨_,rfl,h _ tk d h1.objs.size _ ss' e (fun b o eb=>?_) sz1 he b1 ?_ (fun x=>?_) b3 ?_⟩
  · have lt:=Heap.lt_size (old1 _ _ eb)
    rw [sortedHeap_old (Nat.ne_of_lt lt) (by rw [show (h1.push (seqObj "list" acc.toArray 0)).objs.size=h1.objs.size+1 from Heap.size_push ..];exact Nat.lt_succ_of_lt lt)]
    exact Heap.get?_push_of_some _ (old1 _ _ eb)
  · exact (b2.trans hpk).nodup_iff.mpr hS.nd
  · rw [(b2.trans hpk).mem_iff];exact hS.mem x
  · have t1:(es.toList.map keyOf).length=es.size:=by rw [List.length_map,Array.length_toList]
    have t2:=(b2.trans hpk).length_eq
    exact Nat.le_trans (Nat.le_of_eq (t2.trans t1)) hsz
end
section
variable {X:Cx}
theorem call_sorted_setQ (w:World) (hc:X.calm=true) (hw:X.w=w:=by rfl):CallR X (.builtin "sorted") (fun xs H Q=>∃ (a:Addr) (S:List Str) (n:Nat),xs=[.ref a]∧H a=some (setO w a S n)∧n≤4000 ∧
    ∀ (ss:List Str) (r:Addr),ss.Nodup→(∀ x,x∈ss ↔ x∈S)→sortedS ss=true→ss.length≤n→H r=none→Q (.ref r) (upd H r (.lst (ss.map V.str)))):=by
  subst hw
  intro pins s σ H xs us Q I r h
  obtain ⟨a,S,n,rfl,ha,n64,q⟩:=h
  obtain ⟨u,rfl,ru⟩:=vals1 r
  cases (show u=Value.ref a from ru)
  have hh:X.A.handled=none:=I.ok.hd hc
  refine set_sortedQ (setO_at I ha) hh n64 fun h3 tk3 d l3 out ss' e old3 lge hg3 hv3 nd3 mem3 srt3 len3=>?_
  have I3:=I.laid (t':=tk3) (h':=h3) (a:=l3) (o:=.lst (ss'.map V.str)) old3 lge (show ObjOk X.prog X.w _ _ _ (.lst (ss'.map V.str)) from ⟨by rw [List.length_map,sizeLine_eq];omega,out.toList,e,strsAre_get hv3,hg3⟩)
  exact ⟨.ref l3,_,I3.drawn d,rfl,q ss' l3 nd3 mem3 srt3 len3 (I.hok.fresh lge)⟩
end
end L2
namespace L2
open PySem PySem.Spec PyProof.Rows PySem.W
section
variable {prog:Program} {w:World} {A:Around} {E:Value→Shared→Prop} {s:Shared}
theorem erase_list {α:Type} (xs:Array α) {j:Nat}:(SetTable.eraseAt xs j).toList=xs.toList.eraseIdx j:=by
  unfold SetTable.eraseAt
  rw [Array.toList_append,Array.toList_extract,Array.toList_extract,List.eraseIdx_eq_take_drop_succ]
  simp [List.extract_eq_drop_take]
  rw [List.take_of_length_le (by simp)]
theorem erase_size {α:Type} (xs:Array α) {j:Nat} (h:j < xs.size):(SetTable.eraseAt xs j).size=xs.size - 1:=by
  rw [← Array.length_toList,erase_list,List.length_eraseIdx_of_lt (by simpa using h),Array.length_toList]
theorem insert_size {α:Type} (xs:Array α) (p:Nat) (x:α):(SetTable.insertAt xs p x).size=xs.size+1:=by
  unfold SetTable.insertAt
  simp
  omega
theorem drop_fits {t:SetTable} {n j:Nat} (h:t.fits n=true) (hj:j < n):(t.drop j).fits (n - 1)=true∧(t.drop j).led=t.led∧(t.drop j).plain=t.plain:=by
  unfold SetTable.fits at h ⊢
  rw [Bool.and_eq_true] at h
  have hz:t.place.size=n:=eq_of_beq h.1
  have hf:=of_decide_eq_true h.2
  unfold SetTable.drop
  rw [Array.getElem?_eq_getElem (by omega)]
  dsimp only
  refine ⟨?_,rfl,rfl⟩
  unfold SetTable.fill at hf ⊢
  dsimp only at hf ⊢
  rw [erase_size _ (by omega),insert_size,Bool.and_eq_true]
  refine ⟨by rw [hz];exact beq_self_eq_true _,decide_eq_true ?_⟩
  omega
theorem SetS.drop {led:Bool} {es:Array (Int × Value)} {t:SetTable} {S:List Str} (hS:SetS w led es t S) {j:Nat} (hj:j < es.size) {x:Str} (ex:keyOf es[j]=x):SetS w led (SetTable.eraseAt es j) (t.drop j) (S.filter fun y=>decide (y≠x)):=by
  obtain ⟨f1,f2,f3⟩:=drop_fits hS.fit hj
  have hl:(SetTable.eraseAt es j).toList.map keyOf=(es.toList.map keyOf).erase x:=by
    rw [erase_list,List.eraseIdx_eq_take_drop_succ,List.map_append,List.map_take,List.map_drop,← List.eraseIdx_eq_take_drop_succ]
    have hj':j < (es.toList.map keyOf).length:=by rw [List.length_map,Array.length_toList];exact hj
    refine (List.erase_eq_eraseIdx_of_idxOf ?_).symm
    have:=hS.nd.idxOf_getElem j hj'
    rw [List.getElem_map,Array.getElem_toList,ex] at this
    exact this
  refine ⟨fun e he=>?_,?_,fun y=>?_,?_,f2.trans hS.led,?_⟩
  · rw [erase_list] at he
    exact hS.ent e (List.mem_of_mem_eraseIdx he)
  · rw [hl];exact hS.nd.erase _
  · rw [hl,hS.nd.mem_erase_iff,hS.mem,List.mem_filter,decide_eq_true_eq]
    exact And.comm
  · rw [erase_size _ hj];exact f1
  · rw [erase_size _ hj,f3]
    rcases hS.pl with z | z
    · omega
    · exact .inr z
theorem discard_text {a:Addr} {S:List Str} {n:Nat} {led:Bool} {x:Str} {tk:Tok} {Q:Bool→Shared→Prop} (ha:SetA w led s.heap a S n) (hn:n < scanBound)
    (h:∀ b h',Heap.SameBut a s.heap h'→SetA w led h' a (S.filter fun y=>decide (y≠x)) n→Q b { s with heap:=h' }):wpAny (model prog w) A (setDiscardHashed a (.str x tk) (hashStr w x)) Q E s:=by
  obtain ⟨es,ep,t,hget,hS,hsz⟩:=ha
  have hsc:scanBound=4096:=rfl
  have is:(strKind prog w).is x (.str x tk)=true:=by show (x == x)=true;exact beq_self_eq_true x
  have elems:ElemsOf (strKind prog w) es.toList:=fun e he=>by
    obtain ⟨y,tk',rfl⟩:=hS.ent e he
    exact ⟨⟨y,by show (y == y)=true;exact beq_self_eq_true y,rfl⟩,rfl⟩
  show wpAny _ _ (setDiscardHashed a (.str x tk) ((strKind prog w).hash x)) _ _ _
  unfold setDiscardHashed setFind setFindIn
  refine wpAny_bind (wpAny_bind (wpAny_setState_of hget rfl hS.fit ?_))
  dsimp only
  rw [byScan_of (knd:=strKind prog w) (x:=.str x tk) rfl (by omega) elems]
  simp only [↓reduceIte]
  refine wpAny_bind (wpAny_rule ?_)
  refine wpAny_bind (wpAny_setScan_of is hget rfl hS.fit elems ?_)
  cases ef:List.findIdx? (fun e=>(strKind prog w).is x e.2) es.toList with
  | some j=>
    dsimp only
    refine wpAny_pure ?_
    rw [Nat.zero_add]
    dsimp only
    obtain ⟨hj,hp,_⟩:=List.findIdx?_eq_some_iff_getElem.mp ef
    have hj':j < es.size:=by simpa using hj
    have ek:keyOf es[j]=x:=by
      obtain ⟨y,tk',e⟩:=hS.ent _ (List.getElem_mem hj)
      rw [e] at hp
      have:y=x:=eq_of_beq (show (y == x)=true from hp)
      subst this
      rw [← Array.getElem_toList,e];rfl
    refine wpAny_bind (wpAny_setState_of hget rfl hS.fit ?_)
    dsimp only
    have zl:1000000≤sizeLine:=by rw [sizeLine_eq];decide
    have ez:=erase_size es hj'
    refine wpAny_bind (store_set hget (by omega) fun h' sb hg=>?_)
    refine wpAny_bind (wpAny_point (wpAny_pure ?_))
    exact h true h' sb ⟨_,_,_,hg,hS.drop hj' ek,by omega⟩
  | none=>
    dsimp only
    refine wpAny_pure ?_
    dsimp only
    have xout:x ∉ S:=fun hin=>by
      rw [← hS.mem x] at hin
      obtain ⟨e,he,ek⟩:=List.mem_map.mp hin
      have:=List.findIdx?_eq_none_iff.mp ef e he
      obtain ⟨y,tk',rfl⟩:=hS.ent e he
      have ey:y=x:=ek
      subst ey
      exact absurd (show (strKind prog w).is y (.str y tk')=true from (by show (y == y)=true;exact beq_self_eq_true y)) (by rw [this];simp)
    have e:(S.filter fun y=>decide (y≠x))=S:=List.filter_eq_self.mpr fun y hy=>decide_eq_true fun z=>xout (by rw [← z];exact hy)
    refine wpAny_pure (h false s.heap (Heap.SameBut.refl ..) ?_)
    rw [e]
    exact ⟨es,ep,t,hget,hS,hsz⟩
theorem unseen0 {D r:Addr} {es:Array (Int × Value)} {ep:Nat} {t:SetTable} {S T:List Str} {m:Nat} {Q:Array (Int × Value)→Shared→Prop} (hD:s.heap.get? D=some { cls:=.type "set", data:=.set es ep t }) (hS:SetS w (ledOf w) es t S)
    (hr:SetA w (ledOf w) s.heap r T m)
    (h:∀ (ys:Array (Int × Value)) d,ys.toList.Perm es.toList→Q ys { s with drawn:=d }):wpAny (model prog w) A (setWalkUnseen D [r] none) Q E s:=by
  unfold setWalkUnseen
  refine wpAny_bind (wpAny_setState_of hD rfl hS.fit ?_)
  dsimp only
  refine wpAny_bind (by_text ?_)
  split
  · exact walk_ok hD hS fun ys d hp=>h ys d hp
  · refine wpAny_bind (quiet_ok (D :: [r]) default (fun a ha=>?_) ?_)
    · simp only [List.mem_cons,List.not_mem_nil,or_false] at ha
      rcases ha with rfl | rfl
      · exact ⟨S,es.size,_,⟨es,ep,t,hD,hS,Nat.le_refl _⟩⟩
      · exact ⟨T,m,_,hr⟩
    · rw [if_neg (by decide)]
      refine wpAny_bind (wpAny_rule ?_)
      exact wpAny_pure (h es s.drawn (List.Perm.refl _))
theorem sub_upd {id:String} {r o:Addr} {es es2:Array (Int × Value)} {ep ep2:Nat} {t t2:SetTable} {S T:List Str} {n:Nat} {Q:Unit→Shared→Prop} (hgr:s.heap.get? r=some { cls:=.type "set", data:=.set es ep t }) (hSr:SetS w (ledOf w) es t S)
    (hgo:s.heap.get? o=some { cls:=.type "set", data:=.set es2 ep2 t2 }) (hSo:SetS w (ledOf w) es2 t2 T) (ro:r≠o) (n1:es.size≤n) (n4:n < 4000) (hle:¬ es2.size / 8 > es.size)
    (h:∀ h' d U,Heap.SameBut r s.heap h'→SetA w (ledOf w) h' r U n→(∀ x,x∈U ↔ x∈S∧x ∉ T)→Q () { s with heap:=h',drawn:=d }) :
    wpAny (model prog w) A (Builtin.Frozenset.differenceUpdate id r (.ref o)) Q E s:=by
  have hsc:scanBound=4096:=rfl
  unfold Builtin.Frozenset.differenceUpdate
  rw [if_neg (by intro z;exact ro (by simpa using (eq_of_beq z).symm))]
  unfold Builtin.Frozenset.isAnySet
  have hTo:s.TypeIs (.ref o) "set" := ⟨_,hgo,rfl⟩
  refine wpAny_bind (wpAny_bind (wpAny_isInstance hTo sub_set_self (wpAny_pure ?_)))
  rw [if_pos rfl]
  show wpAny _ _ (pure o >>= _) _ _ _
  refine wpAny_bind (wpAny_pure ?_)
  unfold Builtin.Frozenset.sizeOf setEntries
  refine wpAny_bind (wpAny_bind (wpAny_bind (wpAny_setState_of hgo rfl hSo.fit (wpAny_pure (wpAny_pure ?_)))))
  refine wpAny_bind (wpAny_bind (wpAny_bind (wpAny_setState_of hgr rfl hSr.fit (wpAny_pure (wpAny_pure ?_)))))
  rw [if_neg hle]
  show wpAny _ _ (setEpoch o >>= _) _ _ _
  refine wpAny_bind (wpAny_setEpoch_of hgo rfl hSo.fit ?_)
  have hr0:SetA w (ledOf w) s.heap r S n:=⟨es,ep,t,hgr,hSr,n1⟩
  refine wpAny_bind (wpAny_holding ?_)
  refine wpAny_bind (unseen0 hgo hSo hr0 fun ys d hp=>?_)
  refine wpAny_bind (wpAny_mono (PySem.MeetsSeq2.wpAny_forIn_array _ (fun rest _ s'=>∃ h' U,s'={ s with heap:=h',drawn:=d }∧Heap.SameBut r s.heap h'∧SetA w (ledOf w) h' r U n∧(∀ e∈rest,∃ x tk,e=(hashStr w x,Value.str x tk))∧∀ x,(x∈U∧x ∉ rest.map keyOf) ↔ (x∈S∧x ∉ T)) (fun _ s'=>∃ h' U,s'={ s with heap:=h',drawn:=d }∧Heap.SameBut r s.heap h'∧SetA w (ledOf w) h' r U n∧∀ x,x∈U ↔ (x∈S∧x ∉ T)) ?_ ?_ ys _ ⟨s.heap,S,rfl,Heap.SameBut.refl ..,hr0,fun e he=>hSo.ent e (hp.mem_iff.mp he),fun x=>?_⟩) (fun b s' h0=>?_) fun _ _ z=>z)
  · rintro e rest b s' ⟨h',U,rfl,sb,hU,hent,hm⟩
    obtain ⟨x,tk,rfl⟩:=hent e List.mem_cons_self
    dsimp only
    have hgo2:h'.get? o=some { cls:=.type "set", data:=.set es2 ep2 t2 }:=by rw [sb.2 _ ro.symm];exact hgo
    refine wpAny_bind (wpAny_holding (discard_text (s:={ s with heap:=h',drawn:=d }) hU (by omega) fun b' h2 sb2 hU2=>?_))
    have hgo3:h2.get? o=some { cls:=.type "set", data:=.set es2 ep2 t2 }:=by rw [sb2.2 _ ro.symm];exact hgo2
    unfold Builtin.Frozenset.unchanged
    refine wpAny_bind (wpAny_bind (wpAny_setEpoch_of (s:={ s with heap:=h2,drawn:=d }) hgo3 rfl hSo.fit ?_))
    rw [if_neg (by simp)]
    refine wpAny_pure (wpAny_pure ⟨h2,_,rfl,sb.trans sb2,hU2,fun e he=>hent e (List.mem_cons_of_mem _ he),fun y=>?_⟩)
    rw [← hm y,List.mem_filter,decide_eq_true_eq,List.map_cons,List.mem_cons]
    show ((y∈U∧y≠x)∧_) ↔ (y∈U∧¬ (y=x∨_))
    rw [not_or,and_assoc]
  · rintro b s' ⟨h',U,rfl,sb,hU,_,hm⟩
    refine ⟨h',U,rfl,sb,hU,fun x=>?_⟩
    rw [← hm x];simp
  · rw [(hp.map keyOf).mem_iff,hSo.mem x]
  · obtain ⟨h',U,rfl,sb,hU,hm⟩:=h0
    refine wpAny_pure ?_
    show wpAny _ _ (setTidy r) _ _ _
    have hU0:=hU
    obtain ⟨es3,ep3,t3,hg3,hS3,z3⟩:=hU0
    unfold setTidy
    refine wpAny_bind (wpAny_setState_of (s:={ s with heap:=h',drawn:=d }) hg3 rfl hS3.fit ?_)
    dsimp only
    have gz:es3.size≤SetTable.grown es3.size∧SetTable.grown es3.size < 100000:=by
      unfold SetTable.grown
      rw [if_neg (by omega)];omega
    split
    · refine relay_es (s:={ s with heap:=h',drawn:=d }) hg3 hS3 gz.1 gz.2 fun h2 es4 t4 sb2 hg4 hS4 ez _ _ _=>?_
      exact h h2 d U (sb.trans sb2) ⟨es4,_,t4,hg4,hS4,by omega⟩ hm
    · exact wpAny_pure (h h' d U sb hU hm)
theorem sub_loop {id:String} {W r o:Addr} {es:Array (Int × Value)} {ep:Nat} {t:SetTable} {S T:List Str} {n m:Nat} {Q:PUnit→Shared→Prop} (hW:s.heap.get? W=some { cls:=.type "set", data:=.set es ep t }) (hS:SetS w (ledOf w) es t S)
    (hk:SetA w (ledOf w) s.heap o T m) (hr:SetA w (ledOf w) s.heap r [] 0) (Wr:W≠r) (kr:o≠r) (n1:es.size≤n) (n4:n < 4000) (m4:m < 4000)
    (h:∀ (h':Heap) d U,Heap.SameBut r s.heap h'→SetA w (ledOf w) h' r U n→(∀ x,x∈U ↔ x∈S∧x ∉ T)→Q ⟨⟩ { s with heap:=h',drawn:=d }) :
    wpAny (model prog w) A (do
      let l ← if true=true then setWalkUnseen W [o,r] (some r) else setWalk W
      forIn l PUnit.unit fun x __s=>do
        holding [x.snd] (if true=true then (do
            let f ← setFind o x.snd x.fst
            let there ← pure f.isSome
            if (!there)=true then do
              let _ ← setAddHashed r x.snd x.fst
              pure ()
            else pure ()) else (do
            let f ← dictFind o x.snd x.fst
            let there ← pure f.isSome
            if (!there)=true then do
              let _ ← setAddHashed r x.snd x.fst
              pure ()
            else pure ()))
        Builtin.Frozenset.unchanged id W ep
        pure (ForInStep.yield PUnit.unit)
      pure ()) Q E s:=by
  have hsc:scanBound=4096:=rfl
  rw [if_pos rfl]
  refine wpAny_bind (unseen_ok hW hS hk hr fun ys h1 d hp sb1 hr1=>?_)
  have yl:ys.toList.length=es.size:=by rw [hp.length_eq];simp
  refine wpAny_bind (wpAny_mono (PySem.MeetsSeq2.wpAny_forIn_array _ (fun rest _ s'=>∃ h' U k,s'={ s with heap:=h',drawn:=d }∧Heap.SameBut r s.heap h'∧SetA w (ledOf w) h' r U k∧k+rest.length≤n∧(∀ e∈rest,∃ x tk,e=(hashStr w x,Value.str x tk))∧∀ x,(x∈U∨(x∈rest.map keyOf∧x ∉ T)) ↔ (x∈S∧x ∉ T)) (fun _ s'=>∃ h' U,s'={ s with heap:=h',drawn:=d }∧Heap.SameBut r s.heap h'∧SetA w (ledOf w) h' r U n∧∀ x,x∈U ↔ (x∈S∧x ∉ T)) ?_ ?_ ys _ ⟨h1,[],0,rfl,sb1,hr1,by omega,fun e he=>hS.ent e (hp.mem_iff.mp he),fun x=>?_⟩) (fun b s' ⟨h',U,e,sb,hU,hm⟩=>by rw [e];exact wpAny_pure (h h' d U sb hU hm)) fun _ _ z=>z)
  · rintro e rest b s' ⟨h',U,k,rfl,sb,hU,hk',hent,hm⟩
    obtain ⟨x,tk,rfl⟩:=hent e List.mem_cons_self
    dsimp only
    have hk2:SetA w (ledOf w) h' o T m:=hk.keeps fun o e=>by rw [sb.2 _ kr];exact e
    have hW2:h'.get? W=some { cls:=.type "set", data:=.set es ep t }:=by rw [sb.2 _ Wr];exact hW
    rw [List.length_cons] at hk'
    refine wpAny_bind (wpAny_holding ?_)
    rw [if_pos rfl]
    refine wpAny_bind (find_text (s:={ s with heap:=h',drawn:=d }) hk2 (by omega) fun f ho=>?_)
    refine wpAny_bind (wpAny_pure ?_)
    by_cases xt:x∈T
    · rw [if_neg (by rw [ho.mpr xt];decide)]
      refine wpAny_pure ?_
      unfold Builtin.Frozenset.unchanged
      refine wpAny_bind (wpAny_bind (wpAny_setEpoch_of (s:={ s with heap:=h',drawn:=d }) hW2 rfl hS.fit ?_))
      rw [if_neg (by simp)]
      refine wpAny_pure (wpAny_pure ⟨h',U,k,rfl,sb,hU,by omega,fun e he=>hent e (List.mem_cons_of_mem _ he),fun y=>?_⟩)
      rw [← hm y,List.map_cons,List.mem_cons]
      show (y∈U∨_) ↔ (y∈U∨((y=x∨_)∧_))
      constructor
      · rintro (z | z)
        · exact .inl z
        · exact .inr ⟨.inr z.1,z.2⟩
      · rintro (z | ⟨z | z,z2⟩)
        · exact .inl z
        · rw [z] at z2;exact absurd xt z2
        · exact .inr ⟨z,z2⟩
    · rw [if_pos (by rw [Bool.eq_false_iff.mpr (fun z=>xt (ho.mp z))];rfl)]
      refine wpAny_bind (addH_text (s:={ s with heap:=h',drawn:=d }) hU (by omega) fun b' h2 sb2 hU2=>wpAny_pure ?_)
      unfold Builtin.Frozenset.unchanged
      have hW3:h2.get? W=some { cls:=.type "set", data:=.set es ep t }:=by rw [sb2.2 _ Wr];exact hW2
      refine wpAny_bind (wpAny_bind (wpAny_setEpoch_of (s:={ s with heap:=h2,drawn:=d }) hW3 rfl hS.fit ?_))
      rw [if_neg (by simp)]
      refine wpAny_pure (wpAny_pure ⟨h2,U++[x],k+1,rfl,sb.trans sb2,hU2,by omega,fun e he=>hent e (List.mem_cons_of_mem _ he),fun y=>?_⟩)
      rw [← hm y,List.mem_append,List.mem_singleton,List.map_cons,List.mem_cons]
      show ((y∈U∨y=x)∨_) ↔ (y∈U∨((y=x∨_)∧_))
      constructor
      · rintro ((z | z) | z)
        · exact .inl z
        · exact .inr ⟨.inl z,by rw [z];exact xt⟩
        · exact .inr ⟨.inr z.1,z.2⟩
      · rintro (z | ⟨z | z,z2⟩)
        · exact .inl (.inl z)
        · exact .inl (.inr z)
        · exact .inr ⟨z,z2⟩
  · rintro b s' ⟨h',U,k,rfl,sb,hU,hk',_,hm⟩
    refine ⟨h',U,rfl,sb,?_,fun x=>?_⟩
    · obtain ⟨es2,ep2,t2,g,hS2,hz⟩:=hU
      exact ⟨es2,ep2,t2,g,hS2,by omega⟩
    · rw [← hm x];simp
  · rw [(hp.map keyOf).mem_iff,hS.mem x];simp
theorem same_size {led:Bool} {es es':Array (Int × Value)} {t t':SetTable} {S:List Str} (h:SetS w led es t S) (h':SetS w led es' t' S):es.size=es'.size:=by
  have:=((List.perm_ext_iff_of_nodup h.nd h'.nd).mpr fun x=>by rw [h.mem,h'.mem]).length_eq
  simpa using this
theorem sub_ok {nm:String} {a b:Addr} {S T:List Str} {n m:Nat} {Q:Value→Shared→Prop} (ha:SetA w (ledOf w) s.heap a S n) (hb:SetA w (ledOf w) s.heap b T m) (n4:n < 4000) (m4:m < 4000)
    (h:∀ (h':Heap) d U,(∀ c o,s.heap.get? c=some o→h'.get? c=some o)→SetA w (ledOf w) h' s.heap.objs.size U n→(∀ x,x∈U ↔ x∈S∧x ∉ T)→Q (.ref s.heap.objs.size) { s with heap:=h',drawn:=d }) :
    wpAny (model prog w) A (Builtin.Frozenset.difference nm a (.ref b)) Q E s:=by
  have hTa:=ha.typeIs
  have hTb:=hb.typeIs
  obtain ⟨es,ep,t,hga,hSa,za⟩:=id ha
  obtain ⟨es2,ep2,t2,hgb,hSb,zb⟩:=id hb
  have la:a < s.heap.objs.size:=Heap.lt_size hga
  have lb:b < s.heap.objs.size:=Heap.lt_size hgb
  unfold Builtin.Frozenset.difference
  dsimp only
  unfold Builtin.Frozenset.isAnySet
  refine wpAny_bind (wpAny_bind (wpAny_isInstance hTb sub_set_self (wpAny_pure ?_)))
  rw [if_neg (by decide)]
  show wpAny _ _ (pure b >>= _) _ _ _
  refine wpAny_bind (wpAny_pure ?_)
  rw [if_neg (by simp)]
  rw [if_pos rfl]
  unfold Builtin.Frozenset.sizeOf setEntries
  refine wpAny_bind (wpAny_bind (wpAny_bind (wpAny_setState_of hgb rfl hSb.fit (wpAny_pure (wpAny_pure ?_)))))
  refine wpAny_bind (wpAny_bind (wpAny_bind (wpAny_setState_of hga rfl hSa.fit (wpAny_pure (wpAny_pure ?_)))))
  show wpAny (model prog w) A (if es.size / 4 > es2.size then _ else _) _ _ _
  by_cases c:es.size / 4 > es2.size
  · rw [if_pos c]
    refine wpAny_bind (wpAny_rule ?_)
    refine wpAny_bind (copy_ok ha n4 fun h1 old1 hU1=>?_)
    show wpAny _ _ (pure s.heap.objs.size >>= _) _ _ _
    refine wpAny_bind (wpAny_pure ?_)
    obtain ⟨es3,ep3,t3,hg3,hS3,z3⟩:=hU1
    have ez:=same_size hS3 hSa
    refine wpAny_bind (wpAny_holding (sub_upd (s:={ s with heap:=h1 }) hg3 hS3 (old1 _ _ hgb) hSb (Nat.ne_of_gt lb) z3 n4 (by omega) fun h2 d U sb hU hm=>?_))
    refine wpAny_pure (h h2 d U (fun c o e=>?_) hU hm)
    rw [sb.2 c (Nat.ne_of_lt (Heap.lt_size e))];exact old1 c o e
  · rw [if_neg c]
    unfold Builtin.Frozenset.baseOf
    refine wpAny_bind (wpAny_bind (wpAny_isInstance hTa sub_set_self (wpAny_pure ?_)))
    rw [if_pos rfl]
    unfold newSet
    refine wpAny_bind (wpAny_bind (by_text ?_))
    dsimp only
    refine wpAny_newObj_type ?_
    show wpAny (model prog w) A _ _ E { s with heap:=s.heap.push { cls:=.type "set", data:=.set #[] 0 (SetTable.fresh 0 0 (ledOf w)) } }
    have hn:(s.heap.push { cls:=.type "set", data:=.set #[] 0 (SetTable.fresh 0 0 (ledOf w)) }).get? s.heap.objs.size=some { cls:=.type "set", data:=.set #[] 0 (SetTable.fresh 0 0 (ledOf w)) }:=Heap.get?_push_size _ rfl
    have hb1:SetA w (ledOf w) (s.heap.push { cls:=.type "set", data:=.set #[] 0 (SetTable.fresh 0 0 (ledOf w)) }) b T m:=hb.keeps fun o e=>Heap.get?_push_of_some _ e
    have hga1:=Heap.get?_push_of_some { cls:=.type "set", data:=.set #[] 0 (SetTable.fresh 0 0 (ledOf w)) } hga
    have hr1:SetA w (ledOf w) (s.heap.push { cls:=.type "set", data:=.set #[] 0 (SetTable.fresh 0 0 (ledOf w)) }) s.heap.objs.size [] 0:=SetA.start hn
    have old1:∀ c o,s.heap.get? c=some o→(s.heap.push { cls:=.type "set", data:=.set #[] 0 (SetTable.fresh 0 0 (ledOf w)) }).get? c=some o:=fun c o e=>Heap.get?_push_of_some _ e
    generalize hg:s.heap.push { cls:=.type "set", data:=.set #[] 0 (SetTable.fresh 0 0 (ledOf w)) }=g at hn hb1 hga1 hr1 old1
    show wpAny _ _ (pure s.heap.objs.size >>= _) _ _ _
    refine wpAny_bind (wpAny_pure ?_)
    refine wpAny_bind (wpAny_setEpoch_of (s:={ s with heap:=g }) hga1 rfl hSa.fit ?_)
    refine wpAny_bind (wpAny_holding ?_)
    have ar:a≠s.heap.objs.size:=Nat.ne_of_lt la
    have br:b≠s.heap.objs.size:=Nat.ne_of_lt lb
    exact sub_loop (prog:=prog) (A:=A) (E:=E) (id:=nm) (s:={ s with heap:=g }) hga1 hSa hb1 hr1 ar br za n4 m4 fun h' d U sb hU hm=>wpAny_pure (h h' d U (fun c o e=>by
      rw [sb.2 c (Nat.ne_of_lt (Heap.lt_size e))];exact old1 c o e) hU hm)
theorem entry_set_sub:entryFor table "set.__sub__" = some Builtin.«frozenset.__sub__»:=by kernel_rfl
theorem set_sub {a b:Addr} {S T:List Str} {n m:Nat} {Q:Value→Shared→Prop} (ha:SetA w (ledOf w) s.heap a S n) (hb:SetA w (ledOf w) s.heap b T m) (n4:n < 4000) (m4:m < 4000)
    (h:∀ (h':Heap) d U,(∀ c o,s.heap.get? c=some o→h'.get? c=some o)→SetA w (ledOf w) h' s.heap.objs.size U n→(∀ x,x∈U ↔ x∈S∧x ∉ T)→Q (.ref s.heap.objs.size) { s with heap:=h',drawn:=d }) :
    wpAny (model prog w) A (binaryOp .Sub (.ref a) (.ref b)) Q E s:=by
  refine wpAny_binaryOp_same (T := "set") (id := "set.__sub__") ha.typeIs hb.typeIs F.fills_set_sub F.slot_set_sub ?_
  refine wpAny_call_entry F.slot_set_sub ha.typeIs entry_set_sub ?_ (F.args_set_sub_2 _ _)
  show wpAny _ _ (Builtin.Frozenset.slot1 "__sub__" ⟨[.ref a,.ref b],[]⟩ >>= _) _ _ _
  unfold Builtin.Frozenset.slot1
  refine wpAny_bind (wpAny_bind ?_)
  show wpAny _ _ (pure (Value.ref a,[Value.ref b])) _ _ _
  refine wpAny_pure (wpAny_pure ?_)
  dsimp only
  rw [if_neg (by decide)]
  dsimp only
  unfold Builtin.Frozenset.isAnySet
  refine wpAny_bind ?_
  refine wpAny_bind ?_
  refine wpAny_bind (wpAny_isInstance ha.typeIs sub_set_self ?_)
  refine wpAny_pure ?_
  show wpAny _ _ (isInstance (.ref b) (.type "set") <||> _) _ _ _
  refine wpAny_bind (wpAny_isInstance hb.typeIs sub_set_self ?_)
  refine wpAny_pure ?_
  rw [if_neg (by decide)]
  show wpAny _ _ (pure a >>= _) _ _ _
  refine wpAny_bind (wpAny_pure ?_)
  refine wpAny_bind (sub_ok ha hb n4 m4 fun h' d U old hU hm=>?_)
  exact wpAny_pure ⟨_,rfl,(fun z=>by cases z),h h' d U old hU hm⟩
end
section
variable {X:Cx}
theorem op_sub_setW (w:World) (hw:X.w=w:=by rfl):OpR X (binaryOp .Sub) (fun x y H Q=>∃ (a b:Addr) (S T:List Str) (n m:Nat),x=.ref a∧y=.ref b∧H a=some (setO w a S n)∧H b=some (setO w b T m)∧n < 4000∧m < 4000 ∧
    ∀ (r:Addr) (U:List Str),H r=none→(∀ x,x∈U ↔ x∈S∧x ∉ T)→Q (.ref r) (upd H r (setO w r U n))):=by
  subst hw
  intro pins s σ H x y v u Q I rx ry h
  obtain ⟨a,b,S,T,n,m,rfl,rfl,ha,hb,n4,m4,q⟩:=h
  cases (show v=Value.ref a from rx)
  cases (show u=Value.ref b from ry)
  refine set_sub (setO_at I ha) (setO_at I hb) n4 m4 fun h' d U old hU hm=>?_
  have I2:=I.laid (t':=s.toks) (h':=h') (a:=s.heap.objs.size) (o:=setO X.w s.heap.objs.size U n) old (Nat.le_refl _) (setO_ok hU)
  exact ⟨.ref s.heap.objs.size,_,I2.drawn d,rfl,q _ U (I.hok.fresh (Nat.le_refl _)) hm⟩
end
end L2
namespace W16
open PySem
def lcp:List Nat→List Nat→Nat
  | a :: x,b :: y=>if a=b then lcp x y+1 else 0
  | _,_=>0
theorem lcp_cons (a b:Nat) (x y:List Nat):lcp (a :: x) (b :: y)=if a=b then lcp x y+1 else 0:=rfl
theorem lcp_nil (x:List Nat):lcp x []=0:=by cases x <;> rfl
theorem lcp_le:∀ x y:List Nat,lcp x y≤x.length∧lcp x y≤y.length
  | [],y=>⟨Nat.zero_le _,Nat.zero_le _⟩
  | a :: x,[]=>⟨Nat.zero_le _,Nat.zero_le _⟩
  | a :: x,b :: y=>by
    have h:=lcp_le x y
    unfold lcp
    by_cases e:a=b
    · rw [if_pos e,List.length_cons,List.length_cons];omega
    · rw [if_neg e];exact ⟨Nat.zero_le _,Nat.zero_le _⟩
theorem take_pre:∀ (x y:List Nat) (n:Nat),n≤x.length→(x.take n <+: y ↔ n≤lcp x y)
  | x,y,0,_=>⟨fun _=>Nat.zero_le _,fun _=>by rw [List.take_zero];exact List.nil_prefix⟩
  | [],y,n+1,h=>by cases h
  | a :: x,[],n+1,h=>by
    rw [lcp_nil,List.take_succ_cons]
    exact ⟨fun p=>absurd (List.prefix_nil.mp p) (List.cons_ne_nil _ _),fun p=>by omega⟩
  | a :: x,b :: y,n+1,h=>by
    have ih:=take_pre x y n (by rw [List.length_cons] at h;omega)
    rw [List.take_succ_cons,List.cons_prefix_cons,ih,lcp_cons]
    by_cases e:a=b
    · rw [if_pos e];exact ⟨fun p=>by omega,fun p=>⟨e,by omega⟩⟩
    · rw [if_neg e];exact ⟨fun p=>absurd p.1 e,fun p=>by omega⟩
theorem lcp_stop:∀ (x y:List Nat) (n:Nat),n≤x.length→n≤y.length→(∀ j,j < n→x[j]?=y[j]?)→(n < x.length→n < y.length→x[n]?≠y[n]?)→lcp x y=n
  | [], y, n, h, _, _, _ => by have:n=0:=by simpa using h
                               subst this;rfl
  | a :: x, [], n, _, h, _, _ => by have:n=0:=by simpa using h
                                    subst this;rfl
  | a :: x,b :: y,0,_,_,_,s=>by
    have:=s (by rw [List.length_cons];omega) (by rw [List.length_cons];omega)
    unfold lcp
    rw [if_neg (fun e=>this (by rw [e];rfl))]
  | a :: x,b :: y,n+1,h1,h2,h,s=>by
    have e:a=b:=by simpa using h 0 (by omega)
    unfold lcp
    rw [if_pos e,lcp_stop x y n (by rw [List.length_cons] at h1;omega) (by rw [List.length_cons] at h2;omega) (fun j hj=>by simpa using h (j+1) (by omega))
      (fun k1 k2=>by simpa using s (by rw [List.length_cons];omega) (by rw [List.length_cons];omega))]
end W16
namespace W18
open W16
def lc (ss:List (List Nat)) (i:Nat):Nat:=if i=0 then 0 else lcp (ss.getD (i - 1) []) (ss.getD i [])
def blk (z:List Nat) (a:Nat):List (List Nat):=(List.range (z.length - a)).map fun j=>z.take (a+1+j)
def unl (ss:List (List Nat)) (n:Nat):List (List Nat):=(List.range n).flatMap fun i=>blk (ss.getD i []) (lc ss i)
theorem unl_succ (ss:List (List Nat)) (n:Nat):unl ss (n+1)=unl ss n++blk (ss.getD n []) (lc ss n):=by
  unfold unl;rw [List.range_succ,List.flatMap_append];simp
theorem mem_blk {p z:List Nat} {a:Nat}:p∈blk z a ↔ p <+: z∧a < p.length:=by
  unfold blk
  rw [List.mem_map]
  constructor
  · rintro ⟨j,hj,rfl⟩
    have hj:=List.mem_range.mp hj
    refine ⟨List.take_prefix _ _,?_⟩
    rw [List.length_take];omega
  · rintro ⟨hp,hl⟩
    have e:=List.prefix_iff_eq_take.mp hp
    have le:=hp.length_le
    refine ⟨p.length - a - 1,List.mem_range.mpr (by omega),?_⟩
    rw [show a+1+(p.length - a - 1)=p.length by omega,← e]
theorem mem_unl {ss:List (List Nat)} {p:List Nat} {n:Nat}:p∈unl ss n ↔ ∃ i,i < n∧p <+: ss.getD i []∧lc ss i < p.length:=by
  unfold unl
  rw [List.mem_flatMap]
  constructor
  · rintro ⟨i,hi,hp⟩
    obtain ⟨a,b⟩:=mem_blk.mp hp
    exact ⟨i,List.mem_range.mp hi,a,b⟩
  · rintro ⟨i,hi,a,b⟩
    exact ⟨i,List.mem_range.mpr hi,mem_blk.mpr ⟨a,b⟩⟩
theorem all_in {ss:List (List Nat)} {n:Nat} {p:List Nat} (hp:p≠[]):∀ i,i < n→p <+: ss.getD i []→p∈unl ss n
  | 0,hi,h=>mem_unl.mpr ⟨0,hi,h,by unfold lc;rw [if_pos rfl];exact List.length_pos_iff.mpr hp⟩
  | i+1,hi,h=>by
    by_cases c:lc ss (i+1) < p.length
    · exact mem_unl.mpr ⟨i+1,hi,h,c⟩
    · unfold lc at c
      rw [if_neg (by omega),Nat.add_sub_cancel] at c
      have le:=lcp_le (ss.getD i []) (ss.getD (i+1) [])
      have t:=(take_pre (ss.getD i []) (ss.getD (i+1) []) p.length (by omega)).mpr (by omega)
      have e:p=(ss.getD i []).take p.length:=by
        have l1:((ss.getD i []).take p.length).length=p.length:=by rw [List.length_take];omega
        exact (List.prefix_of_prefix_length_le h t (by omega)).eq_of_length l1.symm
      exact all_in hp i (by omega) (by rw [e];exact List.take_prefix _ _)
end W18
namespace W7
def wd (ups:List Int) (lab:List Nat):Nat→Nat→List Nat
  | 0,_=>[]
  | f+1,k=>lab.getD k 0 :: (if ups.getD k 0 < 0 then [] else wd ups lab f (ups.getD k 0).toNat)
structure TreeOk (ups:List Int) (lab:List Nat):Prop where
  len:ups.length=lab.length
  pos:0 < ups.length
  most:ups.length≤60
  root:ups.getD 0 0=-1
  up:∀ k,0 < k→k < ups.length→0≤ups.getD k 0∧ups.getD k 0 < (k:Int)
theorem TreeOk.lt {ups:List Int} {lab:List Nat} (t:TreeOk ups lab) {k:Nat} (h:k < ups.length) (h0:¬ ups.getD k 0 < 0):(ups.getD k 0).toNat < k:=by
  rcases Nat.eq_zero_or_pos k with e | e
  · subst e;have:=t.root;omega
  · have:=t.up k e h;omega
theorem TreeOk.neg {ups:List Int} {lab:List Nat} (t:TreeOk ups lab) {k:Nat} (h:k < ups.length):ups.getD k 0 < 0 ↔ ups.getD k 0=-1:=by
  rcases Nat.eq_zero_or_pos k with e | e
  · subst e;have:=t.root;omega
  · have:=t.up k e h;omega
theorem wd_fuel {ups:List Int} {lab:List Nat} (t:TreeOk ups lab):∀ (f g k:Nat),k < ups.length→k < f→k < g→wd ups lab f k=wd ups lab g k
  | 0,_,_,_,h,_=>absurd h (Nat.not_lt_zero _)
  | _+1,0,_,_,_,h=>absurd h (Nat.not_lt_zero _)
  | f+1,g+1,k,hk,hf,hg=>by
    simp only [wd]
    congr 1
    split
    · rfl
    · rename_i h0
      have:=t.lt hk h0
      exact wd_fuel t f g _ (by omega) (by omega) (by omega)
def W (ups:List Int) (lab:List Nat) (k:Nat):List Nat:=wd ups lab (k+1) k
theorem W_eq {ups:List Int} {lab:List Nat} (t:TreeOk ups lab) {k:Nat} (hk:k < ups.length):W ups lab k=lab.getD k 0 :: (if ups.getD k 0 < 0 then [] else W ups lab (ups.getD k 0).toNat):=by
  unfold W
  rw [wd]
  congr 1
  split
  · rfl
  · rename_i h0
    have:=t.lt hk h0
    exact wd_fuel t _ _ _ (by omega) (by omega) (by omega)
theorem W_len {ups:List Int} {lab:List Nat} (t:TreeOk ups lab):∀ (n k:Nat),k < n→k < ups.length→(W ups lab k).length≤k+1
  | 0,_,h,_=>absurd h (Nat.not_lt_zero _)
  | n+1,k,hn,hk=>by
    rw [W_eq t hk]
    split
    · simp
    · rename_i h0
      have:=t.lt hk h0
      have ih:=W_len t n (ups.getD k 0).toNat (by omega) (by omega)
      simp only [List.length_cons]
      omega
def R (ups:List Int) (lab:List Nat) (k:Int):List Nat:=if k < 0 then [] else W ups lab k.toNat
theorem R_step {ups:List Int} {lab:List Nat} (t:TreeOk ups lab) {k:Int} (h0:0≤k) (hk:k < (ups.length:Int)):R ups lab k=lab.getD k.toNat 0 :: R ups lab (ups.getD k.toNat 0):=by
  unfold R
  rw [if_neg (by omega),W_eq t (by omega)]
end W7
namespace W7
end W7
namespace S60
open PySem L2 W7
def top (i:Nat):Stmt:=PySem.Challenge.pw_upwords_k60_common_and_own_words.main.body.getD i (.Pass ⟨0,0,0,0⟩)
abbrev s_words_of:Stmt:=top 1
abbrev N_words_of:List Str:=["tree", "words", "letter", "up"]
theorem sc_words_of:FnScope N_words_of ["tree"] (defScope s_words_of):=⟨rfl,rfl,rfl,by decide +kernel,rfl,by decide +kernel,by decide +kernel⟩
abbrev s_alike_of:Stmt:=top 3
abbrev N_alike_of:List Str:=["tree", "words"]
theorem sc_alike_of:FnScope N_alike_of ["tree"] (defScope s_alike_of):=⟨rfl,rfl,rfl,by decide +kernel,rfl,by decide +kernel,by decide +kernel⟩
abbrev s_many_alike:Stmt:=top 4
abbrev N_many_alike:List Str:=["one", "other", "many"]
theorem sc_many_alike:FnScope N_many_alike ["one", "other"] (defScope s_many_alike):=⟨rfl,rfl,rfl,by decide +kernel,rfl,by decide +kernel,by decide +kernel⟩
abbrev s_unlike_words:Stmt:=top 6
abbrev N_unlike_words:List Str:=["tree", "found", "word", "alike"]
theorem sc_unlike_words:FnScope N_unlike_words ["tree"] (defScope s_unlike_words):=⟨rfl,rfl,rfl,by decide +kernel,rfl,by decide +kernel,by decide +kernel⟩
abbrev s_common_words:Stmt:=top 8
abbrev N_common_words:List Str:=["one", "other"]
theorem sc_common_words:FnScope N_common_words ["one", "other"] (defScope s_common_words):=⟨rfl,rfl,rfl,by decide +kernel,rfl,by decide +kernel,by decide +kernel⟩
abbrev s_count_common:Stmt:=top 9
abbrev N_count_common:List Str:=["one", "other"]
theorem sc_count_common:FnScope N_count_common ["one", "other"] (defScope s_count_common):=⟨rfl,rfl,rfl,by decide +kernel,rfl,by decide +kernel,by decide +kernel⟩
abbrev s_longest_common:Stmt:=top 10
abbrev N_longest_common:List Str:=["one", "other"]
theorem sc_longest_common:FnScope N_longest_common ["one", "other"] (defScope s_longest_common):=⟨rfl,rfl,rfl,by decide +kernel,rfl,by decide +kernel,by decide +kernel⟩
abbrev s_shortest_own:Stmt:=top 11
abbrev N_shortest_own:List Str:=["one", "other"]
theorem sc_shortest_own:FnScope N_shortest_own ["one", "other"] (defScope s_shortest_own):=⟨rfl,rfl,rfl,by decide +kernel,rfl,by decide +kernel,by decide +kernel⟩
abbrev s_law_cell_at:Stmt:=top 13
abbrev N_law_cell_at:List Str:=["script", "k"]
theorem sc_law_cell_at:FnScope N_law_cell_at ["script", "k"] (defScope s_law_cell_at):=⟨rfl,rfl,rfl,by decide +kernel,rfl,by decide +kernel,by decide +kernel⟩
abbrev s_law_pool:Stmt:=top 14
abbrev N_law_pool:List Str:=["script", "at", "cell", "big", "turn", "one"]
theorem sc_law_pool:FnScope N_law_pool ["script", "at"] (defScope s_law_pool):=⟨rfl,rfl,rfl,by decide +kernel,rfl,by decide +kernel,by decide +kernel⟩
abbrev s_law_take:Stmt:=top 15
abbrev N_law_take:List Str:=["pool", "many", "at", "number"]
theorem sc_law_take:FnScope N_law_take ["pool", "many"] (defScope s_law_take):=⟨rfl,rfl,rfl,by decide +kernel,rfl,by decide +kernel,by decide +kernel⟩
abbrev s_law_letters:Stmt:=top 16
abbrev N_law_letters:List Str:=["pool", "many", "first", "by"]
theorem sc_law_letters:FnScope N_law_letters ["pool"] (defScope s_law_letters):=⟨rfl,rfl,rfl,by decide +kernel,rfl,by decide +kernel,by decide +kernel⟩
abbrev s_law_grown:Stmt:=top 17
abbrev N_law_grown:List Str:=["pool", "many", "kind", "letters", "ups", "line", "k", "deep", "low", "near", "comb", "cut", "way", "other", "labels", "at"]
theorem sc_law_grown:FnScope N_law_grown ["pool", "many", "kind", "letters"] (defScope s_law_grown):=⟨rfl,rfl,rfl,by decide +kernel,rfl,by decide +kernel,by decide +kernel⟩
abbrev s_law_copies:Stmt:=top 18
abbrev N_law_copies:List Str:=["pool", "most", "letters", "one", "chain", "ups", "labels", "turn", "here"]
theorem sc_law_copies:FnScope N_law_copies ["pool", "most", "letters"] (defScope s_law_copies):=⟨rfl,rfl,rfl,by decide +kernel,rfl,by decide +kernel,by decide +kernel⟩
abbrev s_law_tree:Stmt:=top 19
abbrev N_law_tree:List Str:=["pool", "most", "letters", "kind", "many"]
theorem sc_law_tree:FnScope N_law_tree ["pool", "most", "letters"] (defScope s_law_tree):=⟨rfl,rfl,rfl,by decide +kernel,rfl,by decide +kernel,by decide +kernel⟩
abbrev s_law_both:Stmt:=top 20
abbrev N_law_both:List Str:=["pool", "kind", "letters", "one", "other", "at", "letter"]
theorem sc_law_both:FnScope N_law_both ["pool"] (defScope s_law_both):=⟨rfl,rfl,rfl,by decide +kernel,rfl,by decide +kernel,by decide +kernel⟩
abbrev s_law_read:Stmt:=top 21
abbrev N_law_read:List Str:=["tree", "found", "place", "word", "here"]
theorem sc_law_read:FnScope N_law_read ["tree"] (defScope s_law_read):=⟨rfl,rfl,rfl,by decide +kernel,rfl,by decide +kernel,by decide +kernel⟩
abbrev s_law_right:Stmt:=top 22
abbrev N_law_right:List Str:=["one", "other", "there", "many", "longest", "shortest", "word", "found"]
theorem sc_law_right:FnScope N_law_right ["one", "other"] (defScope s_law_right):=⟨rfl,rfl,rfl,by decide +kernel,rfl,by decide +kernel,by decide +kernel⟩
abbrev s_law:Stmt:=top 23
abbrev N_law:List Str:=["script", "at", "one", "other"]
theorem sc_law:FnScope N_law ["script"] (defScope s_law):=⟨rfl,rfl,rfl,by decide +kernel,rfl,by decide +kernel,by decide +kernel⟩
section
variable {P:Program} {w:World} {K:PySem.W.Frag} {mg:Str→Option Value} {base:Heap} {k:Nat}
def Low (l:List Nat):Prop:=∀ c∈l,c < 1000
theorem Low.app {a b:List Nat} (h:Low a) (g:Low b):Low (a++b):=fun c hc=>(List.mem_append.mp hc).elim (h c) (g c)
theorem Low.one {c:Nat} (h:c < 1000):Low [c]:=fun d hd=>by rw [List.mem_singleton.mp hd];exact h
theorem Low.nil:Low []:=fun c hc=>nomatch hc
def mk (l:List Nat):Str:=⟨l.toArray⟩
theorem mk_cps (l:List Nat):(mk l).cps.toList=l:=rfl
theorem mk_len (l:List Nat):(mk l).length=l.length:=by simp [mk,Str.length]
theorem str_ext {a b:Str} (h:a.cps.toList=b.cps.toList):a=b:=by
  obtain ⟨x⟩:=a;obtain ⟨y⟩:=b
  have:x=y:=Array.toList_inj.mp h
  rw [this]
theorem mk_app (c:Nat) (l:List Nat):(⟨#[c]⟩:Str)++mk l=mk (c :: l):=by
  apply str_ext
  rw [app_list]
  rfl
def TreeAt (H:Hp) (t:Addr) (ups:List Int) (lab:Str):Prop:=∃ u,H t=some (.tup [.ref u,.str lab])∧H u=some (.tup (ups.map V.int))∧TreeOk ups lab.cps.toList
theorem TreeAt.same {H H':Hp} {t:Addr} {ups:List Int} {lab:Str} (h:TreeAt H t ups lab) (s:Same H H'):TreeAt H' t ups lab:=by
  obtain ⟨u,a,b,c⟩:=h
  exact ⟨u,s _ _ a,s _ _ b,c⟩
def sp_cell:PySem.W.Frag→Sp:=fun K vs H Q _=>∃ (a:Addr) (ns:List Int) (i:Int),vs=[.ref a,.int i]∧SqL K H a (ns.map V.int)∧ns.length≤63∧0≤i∧∀ n:Int,Q (.int n) H
theorem has_cell (D:Df K mg "_law_cell_at" s_law_cell_at) (B:Blt mg):Has P w K mg base "_law_cell_at" (k+1) ["script", "k"] (sp_cell K):=by
  refine D.has sc_law_cell_at (fun _ _ _ _ _ _ us hl=>match us,hl with | [_,_],_=>rfl) (fun vs H Q E h=>by obtain ⟨a,ns,i,rfl,_⟩:=h;rfl) (fun f cdv A outer s H vs Q E hr h=>?_)
  obtain ⟨a,ns,i,rfl,hS,h63,h0,q⟩:=h
  refine ⟨_,(pss_cons (ps_if (pt_cmpR op_lt (pv 1) (pe_callB call_len_seq rfl B.len bt_len (pa_cons (pv 0) pa_nil)) (nomark _))
  (pss_one (ps_ret (pe_ix ix_list (pv 0) (pv 1) (fun _ _=>rfl))))
  pss_nil)
  (pss_one (ps_ret pe_int))),?_⟩
  have hl:(ns.map V.int).length=ns.length:=List.length_map _
  refine ⟨_,rfl,_,rfl,a,_,rfl,.inl hS,_,_,rfl,rfl,_,rfl,ite2 (fun c=>?_) (fun c=>?_)⟩
  · have c':i < (((ns.map V.int).length:Nat):Int):=of_decide_eq_true c
    rw [hl] at c'
    have hk:i.toNat < ns.length:=by omega
    have e:atI (ns.map V.int) ((i.toNat:Nat):Int)=some (.int ns[i.toNat]):=atI_nat (by rw [List.getElem?_map,List.getElem?_eq_getElem hk] <;> rfl)
    rw [show ((i.toNat:Nat):Int)=i by omega] at e
    exact ⟨_,rfl,_,rfl,a,_,_,_,rfl,rfl,hS,e,q _⟩
  · exact q 0
def sp_pool:PySem.W.Frag→Sp:=fun K vs H Q _=>∃ (a:Addr) (ns:List Int) (i:Int),vs=[.ref a,.int i]∧SqL K H a (ns.map V.int)∧ns.length≤63∧0≤i∧i≤63∧∀ (p:Addr) (x y:Int),H p=none→Q (.ref p) (upd H p (.lst [.int x,.int y]))
theorem has_pool (D:Df K mg "_law_pool" s_law_pool) (B:Blt mg) (G_law_cell_at:Has P w K mg base "_law_cell_at" k ["script", "k"] (sp_cell K)):Has P w K mg base "_law_pool" (k+1) ["script", "at"] (sp_pool K):=by
  refine D.has sc_law_pool (fun _ _ _ _ _ _ us hl=>match us,hl with | [_,_],_=>rfl) (fun vs H Q E h=>by obtain ⟨a,ns,i,rfl,_⟩:=h;rfl) (fun f cdv A outer s H vs Q E hr h=>?_)
  obtain ⟨a,ns,i,rfl,hS,h63,h0,h1,q⟩:=h
  refine ⟨_,(pss_cons (ps_set (i:=2) sc_law_pool.nd rfl (by first | exact Or.inl rfl | exact Or.inr rfl) (pe_callH G_law_cell_at hr rfl (pa_cons (pv 0) (pa_cons (pv 1) pa_nil))))
  (pss_cons (ps_set (i:=3) sc_law_pool.nd rfl (by first | exact Or.inl rfl | exact Or.inr rfl) pe_int)
  (pss_cons (ps_for PassesOwn.never rfl (pi_range1 rfl B.range (pa_cons pe_int pa_nil)) (pg_name (i:=4) sc_law_pool.nd rfl (by first | exact Or.inl rfl | exact Or.inr rfl))
  (pss_cons (ps_set (i:=5) sc_law_pool.nd rfl (by first | exact Or.inl rfl | exact Or.inr rfl) (pe_op op_mod (pe_op op_mul (pe_op op_add (pe_op op_add (pe_op op_add (pe_op op_mod (pv 2) pe_int) (pe_op op_mul (pe_op op_mul pe_int (pv 4)) (pv 4))) (pe_op op_mul pe_int (pv 1))) pe_int) pe_int) pe_int))
  (pss_cons (ps_set (i:=5) sc_law_pool.nd rfl (by first | exact Or.inl rfl | exact Or.inr rfl) (pe_op op_mod (pe_op op_mul (pv 5) (pv 5)) pe_int))
  (pss_cons (ps_set (i:=5) sc_law_pool.nd rfl (by first | exact Or.inl rfl | exact Or.inr rfl) (pe_op op_mod (pe_op op_mul (pe_op op_add (pv 5) (pe_op op_mul pe_int (pv 4))) pe_int) pe_int))
  (pss_one (ps_set (i:=3) sc_law_pool.nd rfl (by first | exact Or.inl rfl | exact Or.inr rfl) (pe_op op_add (pe_op op_mul (pv 3) pe_int) (pe_op op_mod (pe_op op_fdiv (pv 5) pe_int) pe_int))))))))
  (pss_one (ps_ret (pe_lst (pa_cons (pe_op op_mul (pv 2) (pe_callTy call_int1 rfl B.int_ bt_int (pa_cons (pe_cmpR op_ge (pv 2) (pe_op op_pow pe_int pe_int) (nomark _)) pa_nil))) (pa_cons (pv 3) pa_nil)))))))),?_⟩
  refine ⟨_,rfl,_,rfl,a,ns,i,rfl,hS,h63,h0,fun cell=>?_⟩
  refine ⟨99,rfl,by decide,by decide,for_range (n:=99) (fun _ σ H'=>∃ (big:Int) (o1 o2:Option V),σ=[some (.ref a),some (.int i),some (.int cell),some (.int big),o1,o2]∧H'=H) ⟨0,none,none,rfl,rfl⟩ ?_ ?_⟩
  · rintro j σ H' hj ⟨big,o1,o2,rfl,rfl⟩
    have hj':(j:Int) < 99:=by omega
    refine ⟨_,rfl,_,_,rfl,rfl,(by decide:(0:Int) < 998244353),_,rfl,_,_,rfl,rfl,.inl ⟨by decide,by decide⟩,_,rfl,_,_,rfl,rfl,.inl ⟨by omega,by omega⟩,_,_,rfl,rfl,_,rfl,_,_,rfl,rfl,.inl ⟨by decide,by decide⟩,_,_,rfl,rfl,_,_,rfl,rfl,_,_,rfl,rfl,.inr ⟨by decide,by decide⟩,_,_,rfl,rfl,(by decide:(0:Int) < 2147483647),?_⟩
    generalize hone:(cell % 998244353+89 * (0+(j:Int)) * (0+(j:Int))+7 * i+1) * 48271 % 2147483647=one
    have b1:0≤one∧one < 2147483647:=by rw [← hone];exact ⟨Int.emod_nonneg _ (by decide),Int.emod_lt_of_pos _ (by decide)⟩
    refine ⟨_,rfl,_,rfl,_,_,rfl,rfl,.inl ⟨by omega,by omega⟩,_,_,rfl,rfl,(by decide:(0:Int) < 1000000007),?_⟩
    refine ⟨_,rfl,_,rfl,_,_,rfl,rfl,.inl ⟨by decide,by decide⟩,_,_,rfl,rfl,_,_,rfl,rfl,.inr ⟨by decide,by decide⟩,_,_,rfl,rfl,(by decide:(0:Int) < 2147483587),?_⟩
    refine ⟨_,rfl,_,_,rfl,rfl,.inr ⟨by decide,by decide⟩,_,rfl,_,_,rfl,rfl,⟨by decide,by decide⟩,_,_,rfl,rfl,(by decide:(0:Int) < 1000003),_,_,rfl,rfl,?_⟩
    exact ⟨_,_,_,rfl,rfl⟩
  · rintro σ H' ⟨big,o1,o2,rfl,rfl⟩
    refine ⟨_,rfl,_,rfl,_,_,rfl,rfl,⟨by decide,by decide,by decide⟩,_,_,rfl,rfl,.inr ⟨_,rfl,?_⟩⟩
    refine ⟨_,_,rfl,rfl,.inr ⟨?_,?_⟩,_,rfl,(by show 2≤sizeLine;decide),fun p hp=>q p _ _ hp⟩
    · split <;> decide
    · split <;> decide
def sp_take:Sp:=fun vs H Q _=>∃ (p:Addr) (m:Int),vs=[.ref p,.int m]∧Pool H p∧0 < m∧m < 1073741824∧∀ (n:Int) (H':Hp),0≤n→n < m→Kp p H H'→Q (.int n) H'
theorem has_take (D:Df K mg "_law_take" s_law_take) (B:Blt mg):Has P w K mg base "_law_take" (k+1) ["pool", "many"] sp_take:=by
  refine D.has sc_law_take (fun _ _ _ _ _ _ us hl=>match us,hl with | [_,_],_=>rfl) (fun vs H Q E h=>by obtain ⟨p,m,rfl,_⟩:=h;rfl) (fun f cdv A outer s H vs Q E hr h=>?_)
  obtain ⟨p,m,rfl,⟨x,y,hp⟩,m0,m1,q⟩:=h
  refine ⟨_,(pss_cons (ps_set (i:=2) sc_law_take.nd rfl (by first | exact Or.inl rfl | exact Or.inr rfl) (pe_callTy call_int1 rfl B.int_ bt_int (pa_cons (pe_cmpR op_eq (pe_ix ix_list (pv 0) pe_int (fun _ _=>rfl)) pe_int (nomark _)) pa_nil)))
  (pss_cons (ps_set (i:=3) sc_law_take.nd rfl (by first | exact Or.inl rfl | exact Or.inr rfl) (pe_op op_mod (pe_ix ix_list (pv 0) (pv 2) (fun _ _=>rfl)) (pv 1)))
  (pss_cons (ps_asg (pe_op op_fdiv (pe_ix ix_list (pv 0) (pv 2) (fun _ _=>rfl)) (pv 1)) (pg_sub (pv 0) (pv 2) set_list))
  (pss_one (ps_ret (pv 3)))))),?_⟩
  have fin:∀ z x' y':Int,Q (.int (z % m)) (upd H p (.lst [.int x',.int y'])):=fun z x' y'=>
    q _ _ (Int.emod_nonneg _ (by omega)) (Int.emod_lt_of_pos _ m0) ⟨⟨x',y',upd_same⟩,fun b o hb e=>by rw [upd_ne hb];exact e⟩
  refine ⟨_,rfl,p,_,_,_,rfl,rfl,SqL.of hp,rfl,rfl,.inr ⟨_,rfl,?_⟩⟩
  generalize decide (V.int x=V.int 0)=b
  cases b
  · refine ⟨_,rfl,_,rfl,p,_,_,_,rfl,rfl,SqL.of hp,rfl,_,rfl,_,_,rfl,rfl,m0,?_⟩
    refine ⟨_,rfl,_,rfl,p,_,_,_,rfl,rfl,SqL.of hp,rfl,_,rfl,_,_,rfl,rfl,⟨m0,m1⟩,?_⟩
    refine ⟨_,rfl,_,rfl,p,_,_,0,rfl,rfl,hp,rfl,_,rfl,fin x _ y⟩
  · refine ⟨_,rfl,_,rfl,p,_,_,_,rfl,rfl,SqL.of hp,rfl,_,rfl,_,_,rfl,rfl,m0,?_⟩
    refine ⟨_,rfl,_,rfl,p,_,_,_,rfl,rfl,SqL.of hp,rfl,_,rfl,_,_,rfl,rfl,⟨m0,m1⟩,?_⟩
    refine ⟨_,rfl,_,rfl,p,_,_,1,rfl,rfl,hp,rfl,_,rfl,fin y x _⟩
def wordsV (ups:List Int) (lab:Str) (n:Nat):List V:=(List.range n).map fun j=>.str (mk (W ups lab.cps.toList j))
def sp_words:Sp:=fun vs H Q _=>∃ (t:Addr) (ups:List Int) (lab:Str),vs=[.ref t]∧TreeAt H t ups lab∧∀ (q:Addr) (H':Hp),Same H H'→H' q=some (.lst (wordsV ups lab ups.length))→Q (.ref q) H'
theorem has_words (D:Df K mg "words_of" s_words_of) (B:Blt mg):Has P w K mg base "words_of" (k+1) ["tree"] sp_words:=by
  refine D.has sc_words_of (fun _ _ _ _ _ _ us hl=>match us,hl with | [_],_=>rfl) (fun vs H Q E h=>by obtain ⟨t,ups,lab,rfl,_⟩:=h;rfl) (fun f cdv A outer s H vs Q E hr h=>?_)
  obtain ⟨t,ups,lab,rfl,⟨u,ht,hu,ok⟩,q⟩:=h
  refine ⟨_,(pss_cons (ps_set (i:=1) sc_words_of.nd rfl (by first | exact Or.inl rfl | exact Or.inr rfl) (pe_lst pa_nil))
  (pss_cons (ps_for PassesOwn.never rfl (pi_zip rfl B.zip (pa_cons (pe_ix ix_tup (pv 0) pe_int (fun _ _=>rfl)) (pa_cons (pe_ix ix_tup (pv 0) pe_int (fun _ _=>rfl)) pa_nil))) (pg_tup rfl (pgs_cons (pg_name (i:=2) sc_words_of.nd rfl (by first | exact Or.inl rfl | exact Or.inr rfl)) (pgs_cons (pg_name (i:=3) sc_words_of.nd rfl (by first | exact Or.inl rfl | exact Or.inr rfl)) pgs_nil)))
  (pss_one (ps_expr (pe_bm PySem.F.plainAttrs_list PySem.F.slot_list_append PySem.F.type_list_append mt_append (pv 1) (pa_cons (pe_ifExp (pt_cmpR op_eq (pv 3) (pe_un un_neg pe_int) (nomark _)) (pv 2) (pe_op op_add_str (pv 2) (pe_ix ix_list (pv 1) (pv 3) (fun _ _=>rfl)))) pa_nil)))))
  (pss_one (ps_ret (pv 1))))),?_⟩
  have hlen:(signs lab).length=(ups.map V.int).length:=by rw [List.length_map,ok.len];simp [signs]
  refine ⟨(by show 0≤sizeLine;decide),fun r hr0=>?_⟩
  have s0:Same H (upd H r (.lst [])):=(Same.refl H).new hr0
  refine ⟨_,rfl,t,_,_,_,rfl,rfl,SqT.of (s0 _ _ ht),rfl,_,rfl,t,_,_,_,rfl,rfl,SqT.of (s0 _ _ ht),rfl,.str lab,.tup u,rfl,⟨_,rfl⟩,⟨_,.inl (s0 _ _ hu)⟩,?_⟩
  refine for_zip (xs:=signs lab) (ys:=ups.map V.int) (fun i σ H'=>∃ o1 o2:Option V,σ=[some (.ref t),some (.ref r),o1,o2]∧Same H H'∧H' r=some (.lst (wordsV ups lab i))) ⟨none,none,rfl,s0,upd_same⟩ hlen
    (fun i σ H' hi h=>by obtain ⟨o1,o2,_,s1,_⟩:=h;exact ⟨rfl,.inl (s1 _ _ hu)⟩) ?_ ?_
  · rintro i x y σ H' p hx hy ⟨o1,o2,rfl,s1,hr1⟩ hp
    obtain ⟨c,hc,rfl⟩:∃ c,lab.cps.toList[i]?=some c∧x=.str ⟨#[c]⟩:=by
      simp only [signs,List.getElem?_map] at hx
      cases e:lab.cps.toList[i]? with
      | none=>rw [e] at hx;cases hx
      | some c=>rw [e] at hx;exact ⟨c,rfl,(Option.some.inj hx).symm⟩
    obtain ⟨v,hv,rfl⟩:∃ v,ups[i]?=some v∧y=.int v:=by
      simp only [List.getElem?_map] at hy
      cases e:ups[i]? with
      | none=>rw [e] at hy;cases hy
      | some v=>rw [e] at hy;exact ⟨v,rfl,(Option.some.inj hy).symm⟩
    have hi:i < ups.length:=(List.getElem?_eq_some_iff.mp hv).1
    have ev:ups.getD i 0=v:=by rw [List.getD_eq_getElem?_getD,hv];rfl
    have ec:lab.cps.toList.getD i 0=c:=by rw [List.getD_eq_getElem?_getD,hc];rfl
    have hm:=ok.most
    have s2:Same H (upd H' p (.tup [.str ⟨#[c]⟩,.int v])):=s1.new hp
    have hr2:upd H' p (.tup [.str ⟨#[c]⟩,.int v]) r=some (.lst (wordsV ups lab i)):=by rw [upd_ne (ne_of_none hr1 hp)];exact hr1
    have wl:(wordsV ups lab i).length=i:=by simp [wordsV]
    have step:wordsV ups lab (i+1)=wordsV ups lab i++[.str (mk (W ups lab.cps.toList i))]:=by
      unfold wordsV
      rw [List.range_succ,List.map_append];rfl
    refine ⟨p,_,rfl,SqT.of upd_same,rfl,_,_,rfl,_,_,rfl,rfl,?_⟩
    refine ⟨_,rfl,.inl ⟨rfl,_,SqL.of hr2⟩,_,rfl,_,rfl,rfl,_,rfl,ite2 (fun cnd=>?_) (fun cnd=>?_)⟩
    · have e1:V.int v=V.int (-1):=of_decide_eq_true cnd
      have e2:v=-1:=by injection e1
      have ew:W ups lab.cps.toList i=[c]:=by rw [W_eq ok hi,ev,ec,if_pos (by omega)]
      refine ⟨_,rfl,r,_,_,rfl,rfl,hr2,by rw [wl];exact small1000 (by omega),⟨_,_,rfl,s2.write hr0,?_⟩⟩
      rw [upd_same,step,ew]
      rfl
    · have e1:¬ V.int v=V.int (-1):=of_decide_eq_false (Bool.eq_false_iff.mpr cnd)
      have e2:v≠-1:=fun z=>e1 (by rw [z])
      have e3:¬ v < 0:=by
        have:=ok.neg hi
        rw [ev] at this
        omega
      have lt:=ok.lt hi (by rw [ev];exact e3)
      rw [ev] at lt
      have hat:atI (wordsV ups lab i) v=some (.str (mk (W ups lab.cps.toList v.toNat))):=by
        have e:atI (wordsV ups lab i) ((v.toNat:Nat):Int)=some (.str (mk (W ups lab.cps.toList v.toNat))):=atI_nat (by
          unfold wordsV
          rw [List.getElem?_map,List.getElem?_range lt];rfl)
        rw [show ((v.toNat:Nat):Int)=v by omega] at e
        exact e
      have wle:=W_len ok (v.toNat+1) v.toNat (by omega) (by omega)
      have ew:W ups lab.cps.toList i=c :: W ups lab.cps.toList v.toNat:=by rw [W_eq ok hi,ev,ec,if_neg e3]
      refine ⟨_,rfl,_,rfl,_,rfl,r,_,_,_,rfl,rfl,SqL.of hr2,hat,_,_,rfl,rfl,?_,r,_,_,rfl,rfl,hr2,by rw [wl];exact small1000 (by omega),⟨_,_,rfl,s2.write hr0,?_⟩⟩
      · rw [mk_len]
        have:(⟨#[c]⟩:Str).length=1:=rfl
        rw [this]
        exact Nat.le_of_lt (small1000 (by omega))
      · rw [upd_same,step,ew,mk_app]
  · rintro σ H' ⟨o1,o2,rfl,s1,hr1⟩
    refine ⟨_,rfl,q r H' s1 ?_⟩
    rw [hr1]
    congr 2
    simp [signs,ok.len]
end
end S60
namespace S60
open PySem L2 W7
section
variable {P:Program} {w:World} {K:PySem.W.Frag} {mg:Str→Option Value} {base:Heap} {k:Nat}
theorem ne_pool {H:Hp} {p q:Addr} {o:HO} (h:Pool H p) (e:H q=some o) (ho:∀ x y:Int,o≠.lst [.int x,.int y]):q≠p:=fun z=>by
  obtain ⟨x,y,hp⟩:=h
  subst z
  rw [hp] at e
  exact ho x y (Option.some.inj e).symm
theorem TreeAt.kp {H H':Hp} {p t:Addr} {ups:List Int} {lab:Str} (h:TreeAt H t ups lab) (hp:Pool H p) (s:Kp p H H'):TreeAt H' t ups lab:=by
  obtain ⟨u,a,b,c⟩:=h
  exact ⟨u,s.keep _ _ (ne_pool hp a (fun _ _ z=>nomatch z)) a,s.keep _ _ (ne_pool hp b (fun _ _ z=>nomatch z)) b,c⟩
theorem _root_.L2.Kp.free' {H H':Hp} {p a:Addr} (k:Kp p H H') (hp:Pool H p) (h:H' a=none):H a=none:=by
  have ap:a≠p:=k.pool.ne h
  cases e:H a with
  | none=>rfl
  | some o=>have:=k.keep a o ap e;rw [h] at this;cases this
def oneV (cs:List Nat):List V:=cs.map fun c=>.str ⟨#[c]⟩
theorem oneV_len (cs:List Nat):(oneV cs).length=cs.length:=List.length_map _
theorem oneV_at {cs:List Nat} {i:Int} (h0:0≤i) (h1:i < (cs.length:Int)):∃ c,atI (oneV cs) i=some (.str ⟨#[c]⟩)∧c∈cs:=by
  have hk:i.toNat < cs.length:=by omega
  refine ⟨cs[i.toNat],?_,List.getElem_mem hk⟩
  have e:=atI_nat (xs:=oneV cs) (j:=i.toNat) (v:=.str ⟨#[cs[i.toNat]]⟩) (by unfold oneV;rw [List.getElem?_map,List.getElem?_eq_getElem hk];rfl)
  rw [show ((i.toNat:Nat):Int)=i by omega] at e
  exact e
theorem oneV_ne {cs:List Nat} (h:0 < cs.length):∀ x y:Int,HO.lst (oneV cs)≠.lst [.int x,.int y]:=by
  intro x y z
  cases cs with
  | nil=>simp at h
  | cons c r=>
    injection z with z
    unfold oneV at z
    rw [List.map_cons] at z
    injection z with z1 z2
    cases z1
theorem ints_at {us:List Int} {i:Int} (h0:0≤i) (h1:i < (us.length:Int)):atI (us.map V.int) i=some (.int (us.getD i.toNat 0)):=by
  have hk:i.toNat < us.length:=by omega
  have e:=atI_nat (xs:=us.map V.int) (j:=i.toNat) (v:=.int (us.getD i.toNat 0)) (by rw [List.getElem?_map,List.getElem?_eq_getElem hk,List.getD_eq_getElem?_getD,List.getElem?_eq_getElem hk];rfl)
  rw [show ((i.toNat:Nat):Int)=i by omega] at e
  exact e
theorem cutV_to {xs:List V} {i:Int} (h0:0≤i) (h1:i≤(xs.length:Int)):cutV xs none (some i)=xs.take i.toNat:=by
  unfold cutV
  have e:HT.sIx xs.length xs.length (some i)=i.toNat:=by
    simp only [HT.sIx];rw [if_neg (by omega)];omega
  rw [e];simp [HT.sIx]
theorem cutV_from {xs:List V} {j:Nat} (h1:j≤xs.length):cutV xs (some (j:Int)) none=xs.drop j:=by
  unfold cutV
  rw [HT.sIx_nat,HT.sIx_none,Nat.min_eq_left h1]
  exact List.take_of_length_le (by rw [List.length_drop];omega)
def sp_letters:Sp:=fun vs H Q _=>∃ p:Addr,vs=[.ref p]∧Pool H p∧∀ (q:Addr) (cs:List Nat) (H':Hp),Kp p H H'→H' q=some (.lst (oneV cs))→0 < cs.length→cs.length≤26→Low cs→H q=none→Q (.ref q) H'
theorem menu6 {n:Int} (h0:0≤n) (h1:n < 6):∃ v:Int,atI [V.int 1,.int 2,.int 2,.int 3,.int 5,.int 26] n=some (.int v)∧1≤v∧v≤26:=by
  have:n=0∨n=1∨n=2∨n=3∨n=4∨n=5:=by omega
  rcases this with rfl | rfl | rfl | rfl | rfl | rfl <;> exact ⟨_,rfl,by decide,by decide⟩
theorem menu3 {n:Int} (h0:0≤n) (h1:n < 3):∃ v:Int,atI [V.int 1,.int 3,.int 25] n=some (.int v)∧1≤v∧v≤25:=by
  have:n=0∨n=1∨n=2:=by omega
  rcases this with rfl | rfl | rfl <;> exact ⟨_,rfl,by decide,by decide⟩
theorem alph_at {i:Int} (h0:0≤i) (h1:i < 26):∃ c,atI (Str.ofString "abcdefghijklmnopqrstuvwxyz").cps.toList i=some c∧c < 1000:=by
  have hl:(Str.ofString "abcdefghijklmnopqrstuvwxyz").cps.toList.length=26:=by decide +kernel
  have hk:i.toNat < (Str.ofString "abcdefghijklmnopqrstuvwxyz").cps.toList.length:=by omega
  have e:=atI_nat (xs:=(Str.ofString "abcdefghijklmnopqrstuvwxyz").cps.toList) (j:=i.toNat) (List.getElem?_eq_getElem hk)
  rw [show ((i.toNat:Nat):Int)=i by omega] at e
  have al:∀ c∈(Str.ofString "abcdefghijklmnopqrstuvwxyz").cps.toList,c < 1000:=by decide +kernel
  exact ⟨_,e,al _ (List.getElem_mem hk)⟩
theorem has_letters (D:Df K mg "_law_letters" s_law_letters) (B:Blt mg) (G_law_take:Has P w K mg base "_law_take" k ["pool", "many"] sp_take):Has P w K mg base "_law_letters" (k+1) ["pool"] sp_letters:=by
  refine D.has sc_law_letters (fun _ _ _ _ _ _ us hl=>match us,hl with | [_],_=>rfl) (fun vs H Q E h=>by obtain ⟨p,rfl,_⟩:=h;rfl) (fun f cdv A outer s H vs Q E hr h=>?_)
  obtain ⟨p,rfl,hp,q⟩:=h
  refine ⟨_,(pss_cons (ps_set (i:=1) sc_law_letters.nd rfl (by first | exact Or.inl rfl | exact Or.inr rfl) (pe_ix ix_list (pe_lst (pa_cons pe_int (pa_cons pe_int (pa_cons pe_int (pa_cons pe_int (pa_cons pe_int (pa_cons pe_int pa_nil))))))) (pe_callH G_law_take hr rfl (pa_cons (pv 0) (pa_cons pe_int pa_nil))) (fun _ _=>rfl)))
  (pss_cons (ps_set (i:=2) sc_law_letters.nd rfl (by first | exact Or.inl rfl | exact Or.inr rfl) (pe_callH G_law_take hr rfl (pa_cons (pv 0) (pa_cons pe_int pa_nil))))
  (pss_cons (ps_set (i:=3) sc_law_letters.nd rfl (by first | exact Or.inl rfl | exact Or.inr rfl) (pe_ix ix_list (pe_lst (pa_cons pe_int (pa_cons pe_int (pa_cons pe_int pa_nil)))) (pe_callH G_law_take hr rfl (pa_cons (pv 0) (pa_cons pe_int pa_nil))) (fun _ _=>rfl)))
  (pss_one (ps_ret (pe_comp rfl (pi_range1 rfl B.range (pa_cons (pv 1) pa_nil)) (NL:=["k"]) (ix:=[2,3]) (csc (defScope s_law_letters) N_law_letters) (fun cl C s₃ H₃ fp pins=>⟨(pg_name (i:=0) (show List.Nodup (["k", "first", "by"]:List Str) from by decide +kernel) rfl (by first | exact Or.inl rfl | exact Or.inr rfl)),pifs_nil,(pe_ix ix_str pe_str (pe_op op_mod (pe_op op_add (pv 1) (pe_op op_mul (pv 2) (pv 0))) pe_int) (fun _ _=>rfl))⟩))))))),?_⟩
  have k0:=Kp.refl hp
  refine ⟨(by show 6≤sizeLine;decide),fun r1 hr1=>?_⟩
  have k1:Kp p H (upd H r1 (.lst [.int 1,.int 2,.int 2,.int 3,.int 5,.int 26])):=k0.new hr1
  refine ⟨_,rfl,p,6,rfl,k1.pool,by decide,by decide,fun n1 H1 a0 a1 kp1=>?_⟩
  obtain ⟨many,hv,b0,b1⟩:=menu6 a0 a1
  refine ⟨r1,_,_,_,rfl,rfl,SqL.of (kp1.keep _ _ (hp.ne hr1) upd_same),hv,?_⟩
  refine ⟨_,rfl,p,26,rfl,kp1.pool,by decide,by decide,fun first H2 c0 c1 kp2=>?_⟩
  refine ⟨(by show 3≤sizeLine;decide),fun r2 hr2=>?_⟩
  have k3:Kp p H (upd H2 r2 (.lst [.int 1,.int 3,.int 25])):=((k1.trans kp1).trans kp2).new hr2
  refine ⟨_,rfl,p,3,rfl,k3.pool,by decide,by decide,fun n3 H3 d0 d1 kp3=>?_⟩
  obtain ⟨by',hv3,e0,e1⟩:=menu3 d0 d1
  refine ⟨r2,_,_,_,rfl,rfl,SqL.of (kp3.keep _ _ (kp2.pool.ne hr2) upd_same),hv3,?_⟩
  have k4:Kp p H H3:=k3.trans kp3
  refine ⟨_,rfl,many,rfl,by omega,by omega,fun acc hacc=>?_⟩
  refine comp_by many.toNat (by omega) (fun i ys H'=>H' acc=some (.lst ys)∧ys.length=i∧(∃ cs,ys=oneV cs∧Low cs)∧Kp p H H') (fun i ys H' h=>⟨h.1,by omega⟩) ⟨upd_same,rfl,⟨[],rfl,Low.nil⟩,k4.new hacc⟩ ?_ ?_
  · rintro ys H' ⟨h1,h2,⟨cs,rfl,lw⟩,h3⟩
    rw [oneV_len] at h2
    exact ⟨Nat.le_refl _,q acc cs H' h3 h1 (by omega) (by omega) lw (k4.free' hp hacc)⟩
  · rintro i ys H' hi ⟨h1,h2,⟨cs,rfl,lw⟩,h3⟩
    refine ⟨hi,?_⟩
    rintro x H'' ⟨rfl,rfl⟩
    refine ⟨rfl,?_⟩
    have hb:((first+by' * (0+(i:Int))) % 26:Int) < 26:=Int.emod_lt_of_pos _ (by decide)
    have hb0:0≤((first+by' * (0+(i:Int))) % 26:Int):=Int.emod_nonneg _ (by decide)
    obtain ⟨c,hc,hcl⟩:=alph_at hb0 hb
    refine ⟨_,rfl,_,rfl,_,rfl,_,_,rfl,rfl,.inl ⟨by omega,by omega⟩,_,_,rfl,rfl,_,_,rfl,rfl,(by decide:(0:Int) < 26),_,_,c,rfl,rfl,?_,hc,h1,?_⟩
    · show (Str.ofString "abcdefghijklmnopqrstuvwxyz").length≤sizeLine
      have:(Str.ofString "abcdefghijklmnopqrstuvwxyz").length=26:=by decide +kernel
      rw [this];decide
    · refine ⟨upd_same,by rw [List.length_append,h2];rfl,⟨cs++[c],by unfold oneV;rw [List.map_append];rfl,lw.app (Low.one hcl)⟩,?_⟩
      have hacc0:H acc=none∨True:=.inr trivial
      exact ⟨by obtain ⟨x,y,e⟩:=h3.pool;exact ⟨x,y,by rw [upd_ne (ne_of e h1 (Ne.symm (fun z=>by
          rcases cs with _ | ⟨c',r⟩
          · injection z with z;cases z
          · exact oneV_ne (cs:=c' :: r) (by simp) x y z)))];exact e⟩,
        fun b o hb e=>by
          have:=h3.keep b o hb e
          have ne:b≠acc:=fun z=>by
            subst z
            have q1:=k4.keep b o hb e
            rw [hacc] at q1;cases q1
          rw [upd_ne ne];exact this⟩
end
end S60
namespace S60
open PySem L2 W7
section
variable {P:Program} {w:World} {K:PySem.W.Frag} {mg:Str→Option Value} {base:Heap} {k:Nat}
structure GrOk (us:List Int):Prop where
  pos:0 < us.length
  root:us.getD 0 0=-1
  up:∀ k,0 < k→k < us.length→0≤us.getD k 0∧us.getD k 0 < (k:Int)
theorem getD_app {us vs:List Int} {j:Nat}:(us++vs).getD j 0=if j < us.length then us.getD j 0 else vs.getD (j - us.length) 0:=by
  simp only [List.getD_eq_getElem?_getD]
  split
  · rename_i h;rw [List.getElem?_append_left h]
  · rename_i h;rw [List.getElem?_append_right (by omega)]
theorem GrOk.snoc {us:List Int} (g:GrOk us) {v:Int} (h0:0≤v) (h1:v < (us.length:Int)):GrOk (us++[v]) where
  pos:=by rw [List.length_append];have:=g.pos;omega
  root:=by rw [getD_app,if_pos g.pos];exact g.root
  up:=fun j hj hl=>by
    rw [List.length_append,List.length_singleton] at hl
    rw [getD_app]
    split
    · rename_i h;exact g.up j hj h
    · rename_i h
      have e:j=us.length:=by omega
      subst e
      rw [Nat.sub_self]
      exact ⟨h0,h1⟩
theorem GrOk.one:GrOk [-1]:=⟨by decide,rfl,fun j h0 h1=>by
  have:j < 1:=h1
  omega⟩
theorem mem_getD {us:List Int} {j:Nat} (h:j < us.length):us.getD j 0∈us:=by
  rw [List.getD_eq_getElem?_getD,List.getElem?_eq_getElem h]
  exact List.getElem_mem h
def sp_grown:Sp:=fun vs H Q _=>∃ (p ℓ:Addr) (many kind:Int) (cs:List Nat),vs=[.ref p,.int many,.int kind,.ref ℓ]∧Pool H p∧1≤many∧many≤60∧0≤kind∧kind < 6∧H ℓ=some (.lst (oneV cs))∧0 < cs.length∧cs.length≤26∧Low cs ∧
  ∀ (t:Addr) (ups:List Int) (lab:Str) (H':Hp),Kp p H H'→TreeAt H' t ups lab→Low lab.cps.toList→Q (.ref t) H'
theorem has_grown (D:Df K mg "_law_grown" s_law_grown) (B:Blt mg) (G_law_take:Has P w K mg base "_law_take" k ["pool", "many"] sp_take):Has P w K mg base "_law_grown" (k+1) ["pool", "many", "kind", "letters"] sp_grown:=by
  refine D.has sc_law_grown (fun _ _ _ _ _ _ us hl=>match us,hl with | [_,_,_,_],_=>rfl) (fun vs H Q E h=>by obtain ⟨p,ℓ,many,kind,cs,rfl,_⟩:=h;rfl) (fun f cdv A outer s H vs Q E hr h=>?_)
  obtain ⟨p,ℓ,many,kind,cs,rfl,hp,m1,m60,kd0,kd6,hℓ,cs0,cs26,clw,q⟩:=h
  refine ⟨_,(pss_cons (ps_set (i:=4) sc_law_grown.nd rfl (by first | exact Or.inl rfl | exact Or.inr rfl) (pe_lst (pa_cons (pe_un un_neg pe_int) pa_nil)))
  (pss_cons (ps_set (i:=5) sc_law_grown.nd rfl (by first | exact Or.inl rfl | exact Or.inr rfl) (pe_lst (pa_cons pe_int pa_nil)))
  (pss_cons (ps_for PassesOwn.never rfl (pi_range2 rfl B.range (pa_cons pe_int (pa_cons (pv 1) pa_nil))) (pg_name (i:=6) sc_law_grown.nd rfl (by first | exact Or.inl rfl | exact Or.inr rfl))
  (pss_cons (ps_set (i:=7) sc_law_grown.nd rfl (by first | exact Or.inl rfl | exact Or.inr rfl) (pe_callB call_len_seq rfl B.len bt_len (pa_cons (pv 5) pa_nil)))
  (pss_cons (ps_set (i:=8) sc_law_grown.nd rfl (by first | exact Or.inl rfl | exact Or.inr rfl) (pe_ix ix_list (pe_lst (pa_cons (pv 7) (pa_cons (pe_op op_add pe_int (pe_callH G_law_take hr rfl (pa_cons (pv 0) (pa_cons pe_int pa_nil)))) pa_nil))) (pe_callTy call_int1 rfl B.int_ bt_int (pa_cons (pe_cmpR op_gt (pv 7) pe_int (nomark _)) pa_nil)) (fun _ _=>rfl)))
  (pss_cons (ps_set (i:=9) sc_law_grown.nd rfl (by first | exact Or.inl rfl | exact Or.inr rfl) (pe_callB (call_max2 rfl) rfl B.max bt_max (pa_cons pe_int (pa_cons (pe_op op_sub (pv 7) (pe_callH G_law_take hr rfl (pa_cons (pv 0) (pa_cons pe_int pa_nil)))) pa_nil))))
  (pss_cons (ps_set (i:=10) sc_law_grown.nd rfl (by first | exact Or.inl rfl | exact Or.inr rfl) (pe_callB (call_max2 rfl) rfl B.max bt_max (pa_cons pe_int (pa_cons (pe_op op_add (pe_op op_sub (pv 7) pe_int) (pe_op op_mod (pv 6) pe_int)) pa_nil))))
  (pss_cons (ps_set (i:=11) sc_law_grown.nd rfl (by first | exact Or.inl rfl | exact Or.inr rfl) (pe_ix ix_list (pe_lst (pa_cons (pv 7) (pa_cons pe_int (pa_cons (pe_op op_add pe_int (pe_callH G_law_take hr rfl (pa_cons (pv 0) (pa_cons (pv 7) pa_nil)))) (pa_cons (pv 9) (pa_cons (pv 10) (pa_cons (pv 8) pa_nil))))))) (pv 2) (fun _ _=>rfl)))
  (pss_cons (ps_expr (pe_bm PySem.F.plainAttrs_list PySem.F.slot_list_append PySem.F.type_list_append mt_append (pv 4) (pa_cons (pe_ix ix_list (pv 5) (pe_op op_sub (pv 11) pe_int) (fun _ _=>rfl)) pa_nil)))
  (pss_one (ps_set (i:=5) sc_law_grown.nd rfl (by first | exact Or.inl rfl | exact Or.inr rfl) (pe_op op_cat (pe_slice sl_list (pv 5) po_none (po_some (pv 11))) (pe_lst (pa_cons (pv 6) pa_nil))))))))))))
  (pss_cons (ps_set (i:=12) sc_law_grown.nd rfl (by first | exact Or.inl rfl | exact Or.inr rfl) (pe_callH G_law_take hr rfl (pa_cons (pv 0) (pa_cons pe_int pa_nil))))
  (pss_cons (ps_set (i:=13) sc_law_grown.nd rfl (by first | exact Or.inl rfl | exact Or.inr rfl) (pe_ix ix_list (pe_lst (pa_cons (pe_callH G_law_take hr rfl (pa_cons (pv 0) (pa_cons (pv 1) pa_nil))) (pa_cons pe_int pa_nil))) (pe_callH G_law_take hr rfl (pa_cons (pv 0) (pa_cons pe_int pa_nil))) (fun _ _=>rfl)))
  (pss_cons (ps_set (i:=14) sc_law_grown.nd rfl (by first | exact Or.inl rfl | exact Or.inr rfl) pe_str)
  (pss_cons (ps_for PassesOwn.never rfl (pi_range1 rfl B.range (pa_cons (pv 1) pa_nil)) (pg_name (i:=6) sc_law_grown.nd rfl (by first | exact Or.inl rfl | exact Or.inr rfl))
  (pss_cons (ps_set (i:=15) sc_law_grown.nd rfl (by first | exact Or.inl rfl | exact Or.inr rfl) (pe_callH G_law_take hr rfl (pa_cons (pv 0) (pa_cons (pe_callB call_len_seq rfl B.len bt_len (pa_cons (pv 3) pa_nil)) pa_nil))))
  (pss_cons (ps_if (pt_chain op_lt op_lt pe_int (pv 12) pe_int)
  (pss_one (ps_set (i:=15) sc_law_grown.nd rfl (by first | exact Or.inl rfl | exact Or.inr rfl) (pe_op op_mod (pe_op op_mod (pv 6) (pv 12)) (pe_callB call_len_seq rfl B.len bt_len (pa_cons (pv 3) pa_nil)))))
  pss_nil)
  (pss_cons (ps_if (pt_cmpR op_gt (pv 12) pe_int (nomark _))
  (pss_one (ps_set (i:=15) sc_law_grown.nd rfl (by first | exact Or.inl rfl | exact Or.inr rfl) (pe_op op_mod (pe_callTy call_int1 rfl B.int_ bt_int (pa_cons (pe_cmpR op_eq (pv 6) (pv 13) (nomark _)) pa_nil)) (pe_callB call_len_seq rfl B.len bt_len (pa_cons (pv 3) pa_nil)))))
  pss_nil)
  (pss_one (ps_set (i:=14) sc_law_grown.nd rfl (by first | exact Or.inl rfl | exact Or.inr rfl) (pe_op op_add_str (pv 14) (pe_ix ix_list (pv 3) (pv 15) (fun _ _=>rfl)))))))))
  (pss_one (ps_ret (pe_tup (pa_cons (pe_callTy call_tuple_of rfl B.tuple_ bt_tuple (pa_cons (pv 4) pa_nil)) (pa_cons (pv 14) pa_nil)))))))))))),?_⟩
  have hℓp:ℓ≠p:=ne_pool hp hℓ (oneV_ne cs0)
  have ocl:(oneV cs).length=cs.length:=oneV_len cs
  refine ⟨_,rfl,(by show 1≤sizeLine;decide),fun u hu0=>?_⟩
  have k1:Kp p H (upd H u (.lst [.int (-1)])):=(Kp.refl hp).new hu0
  refine ⟨(by show 1≤sizeLine;decide),fun l0 hl0=>?_⟩
  have k2:Kp p H (upd (upd H u (.lst [.int (-1)])) l0 (.lst [.int 0])):=k1.new hl0
  have hup:u≠p:=hp.ne hu0
  have ne0:u≠l0:=ne_of_none upd_same hl0
  refine ⟨_,rfl,1,many,rfl,⟨by decide,by decide,by omega,by omega⟩,?_⟩
  refine for_range (lo:=1) (n:=(many - 1).toNat) (fun i σ H'=>∃ (l:Addr) (us line:List Int) (o6 o7 o8 o9 o10 o11:Option V),
      σ=[some (.ref p),some (.int many),some (.int kind),some (.ref ℓ),some (.ref u),some (.ref l),o6,o7,o8,o9,o10,o11,none,none,none,none]∧Kp p H H'∧H' u=some (.lst (us.map V.int))∧H' l=some (.lst (line.map V.int))∧l≠u∧l≠p ∧
      us.length=i+1∧GrOk us∧1≤line.length∧line.length≤i+1∧∀ v∈line,0≤v∧v < (i:Int)+1)
    ⟨l0,[-1],[0],none,none,none,none,none,none,rfl,k2,by rw [upd_ne ne0];exact upd_same,upd_same,Ne.symm ne0,k1.pool.ne hl0,rfl,GrOk.one,by decide,by decide,by simp⟩ ?_ ?_
  · rintro i σ H' hi ⟨l,us,line,o6,o7,o8,o9,o10,o11,rfl,kp,hu,hl,lu,lp,hlen,gr,ln1,ln2,lmem⟩
    have hd:(line.map V.int).length=line.length:=List.length_map _
    have hul:(us.map V.int).length=us.length:=List.length_map _
    refine ⟨_,rfl,l,_,rfl,.inl (SqL.of hl),?_⟩
    generalize hD:(((line.map V.int).length:Nat):Int)=d
    have d1:1≤d:=by omega
    have d2:d≤60:=by omega
    have d3:d=(line.length:Int):=by omega
    refine ⟨_,rfl,_,rfl,p,4,rfl,kp.pool,by decide,by decide,fun n1 H1 a0 a1 kp1=>?_⟩
    refine ⟨_,_,rfl,rfl,(by show 2≤sizeLine;decide),fun r1 hr1=>?_⟩
    refine ⟨_,rfl,_,_,rfl,rfl,.inr ⟨_,rfl,?_⟩⟩
    have hlow:∃ v:Int,atI [V.int d,.int (1+n1)] (if decide (4 < d)=true then 1 else 0)=some (.int v)∧1≤v∧v≤d:=by
      by_cases c:4 < d
      · rw [decide_eq_true c];exact ⟨1+n1,rfl,by omega,by omega⟩
      · rw [decide_eq_false c];exact ⟨d,rfl,by omega,by omega⟩
    obtain ⟨low,hlow,l1,l2⟩:=hlow
    refine ⟨r1,_,_,_,rfl,rfl,SqL.of upd_same,hlow,?_⟩
    have kq1:=kp1.new (o:=.lst [.int d,.int (1+n1)]) hr1
    refine ⟨_,rfl,_,rfl,p,3,rfl,kq1.pool,by decide,by decide,fun n2 H2 b0 b1 kp2=>?_⟩
    refine ⟨_,_,rfl,rfl,_,_,rfl,?_⟩
    have hnear:1≤(if d - n2 > 1 then d - n2 else 1)∧(if d - n2 > 1 then d - n2 else 1)≤d:=by split <;> omega
    generalize (if d - n2 > 1 then d - n2 else 1)=near at hnear
    have kq2:=kq1.trans kp2
    refine ⟨_,rfl,_,_,rfl,rfl,_,rfl,_,_,rfl,rfl,(by decide:(0:Int) < 2),_,_,rfl,rfl,_,_,rfl,?_⟩
    have hcomb:1≤(if d - 1+(1+(i:Int)) % 2 > 1 then d - 1+(1+(i:Int)) % 2 else 1)∧(if d - 1+(1+(i:Int)) % 2 > 1 then d - 1+(1+(i:Int)) % 2 else 1)≤d:=by split <;> omega
    generalize (if d - 1+(1+(i:Int)) % 2 > 1 then d - 1+(1+(i:Int)) % 2 else 1)=comb at hcomb
    refine ⟨_,rfl,_,rfl,_,rfl,p,d,rfl,kq2.pool,by omega,by omega,fun n3 H3 c0 c1 kp3=>?_⟩
    refine ⟨_,_,rfl,rfl,_,rfl,_,rfl,_,rfl,(by show 6≤sizeLine;decide),fun r3 hr3=>?_⟩
    have hcut:∃ v:Int,atI [V.int d,.int 1,.int (1+n3),.int near,.int comb,.int low] kind=some (.int v)∧1≤v∧v≤d:=by
      have:kind=0∨kind=1∨kind=2∨kind=3∨kind=4∨kind=5:=by omega
      rcases this with rfl | rfl | rfl | rfl | rfl | rfl
      · exact ⟨_,rfl,by omega,by omega⟩
      · exact ⟨_,rfl,by omega,by omega⟩
      · exact ⟨_,rfl,by omega,by omega⟩
      · exact ⟨_,rfl,by omega,by omega⟩
      · exact ⟨_,rfl,by omega,by omega⟩
      · exact ⟨_,rfl,by omega,by omega⟩
    obtain ⟨cut,hcut,u1,u2⟩:=hcut
    refine ⟨_,rfl,r3,_,_,_,rfl,rfl,SqL.of upd_same,hcut,?_⟩
    have kq3:=(kq2.trans kp3).new (o:=.lst [V.int d,.int 1,.int (1+n3),.int near,.int comb,.int low]) hr3
    have hu3:=kq3.keep _ _ hup hu
    have hl3:=kq3.keep _ _ lp hl
    have hat:=ints_at (us:=line) (i:=cut - 1) (by omega) (by omega)
    have hvm:=lmem _ (mem_getD (us:=line) (j:=(cut - 1).toNat) (by omega))
    generalize line.getD (cut - 1).toNat 0=v at hat hvm
    refine ⟨_,rfl,.inl ⟨rfl,_,SqL.of hu3⟩,_,rfl,_,rfl,_,_,rfl,rfl,l,_,_,_,rfl,rfl,SqL.of hl3,hat,u,_,_,rfl,rfl,hu3,by rw [hul];exact small1000 (by omega),?_⟩
    have ku4:Kp p H (upd (upd H3 r3 (.lst [V.int d,.int 1,.int (1+n3),.int near,.int comb,.int low])) u (.lst (us.map V.int++[.int v]))):=(kp.trans kq3).write hu0 hup
    generalize hH4:upd (upd H3 r3 (.lst [V.int d,.int 1,.int (1+n3),.int near,.int comb,.int low])) u (.lst (us.map V.int++[.int v]))=H4 at ku4
    have hu4:H4 u=some (.lst (us.map V.int++[.int v])):=by rw [← hH4];exact upd_same
    have hl4:H4 l=some (.lst (line.map V.int)):=by rw [← hH4,upd_ne lu];exact hl3
    refine ⟨_,rfl,_,rfl,_,rfl,l,_,rfl,SqL.of hl4,fun r4 hr4=>?_⟩
    refine ⟨_,rfl,(by show 1≤sizeLine;decide),fun r5 hr5=>?_⟩
    have ec:cutV (line.map V.int) none (some cut)=(line.take cut.toNat).map V.int:=by rw [cutV_to (by omega) (by omega),List.map_take]
    rw [ec]
    rw [ec] at hr5
    have ne45:r4≠r5:=ne_of_none upd_same hr5
    refine ⟨r4,r5,_,_,rfl,rfl,by rw [upd_ne ne45];exact upd_same,upd_same,?_,fun r6 hr6=>?_⟩
    · rw [List.length_map,List.length_take]
      have:([V.int (1+(i:Int))]:List V).length=1:=rfl
      rw [this]
      exact Nat.le_of_lt (small1000 (by omega))
    have ku5:=((ku4.new (o:=.lst ((line.take cut.toNat).map V.int)) hr4).new (o:=.lst [V.int (1+(i:Int))]) hr5)
    have hu5:(upd (upd H4 r4 (.lst ((line.take cut.toNat).map V.int))) r5 (.lst [V.int (1+(i:Int))])) u=some (.lst (us.map V.int++[.int v])):=by
      have e4:upd H4 r4 (.lst ((line.take cut.toNat).map V.int)) u=some (.lst (us.map V.int++[.int v])):=by rw [upd_ne (ne_of_none hu4 hr4)];exact hu4
      rw [upd_ne (ne_of_none e4 hr5)];exact e4
    refine ⟨r6,us++[v],line.take cut.toNat++[1+(i:Int)],_,_,_,_,_,_,rfl,ku5.new hr6,?_,?_,Ne.symm (ne_of_none hu5 hr6),ku5.pool.ne hr6,?_,gr.snoc hvm.1 (by omega),?_,?_,?_⟩
    · rw [upd_ne (ne_of_none hu5 hr6),hu5,List.map_append];rfl
    · rw [upd_same,List.map_append];rfl
    · rw [List.length_append,hlen];rfl
    · rw [List.length_append,List.length_singleton];omega
    · rw [List.length_append,List.length_singleton,List.length_take];omega
    · intro x hx
      rcases List.mem_append.mp hx with hx | hx
      · have:=lmem x (List.mem_of_mem_take hx)
        omega
      · have:x=1+(i:Int):=by simpa using hx
        omega
  · rintro σ H' ⟨l,us,line,o6,o7,o8,o9,o10,o11,rfl,kp,hu,hl,lu,lp,hlen,gr,ln1,ln2,lmem⟩
    have hlen':(us.length:Int)=many:=by omega
    refine ⟨_,rfl,p,6,rfl,kp.pool,by decide,by decide,fun way H1 a0 a1 kp1=>?_⟩
    refine ⟨_,rfl,_,rfl,p,many,rfl,kp1.pool,by omega,by omega,fun n2 H2 b0 b1 kp2=>?_⟩
    refine ⟨(by show 2≤sizeLine;decide),fun r1 hr1=>?_⟩
    have kq2:=(kp1.trans kp2).new (o:=.lst [.int n2,.int 0]) hr1
    refine ⟨_,rfl,p,2,rfl,kq2.pool,by decide,by decide,fun n3 H3 c0 c1 kp3=>?_⟩
    have hother:∃ v:Int,atI [V.int n2,.int 0] n3=some (.int v):=by
      have:n3=0∨n3=1:=by omega
      rcases this with rfl | rfl
      · exact ⟨_,rfl⟩
      · exact ⟨_,rfl⟩
    obtain ⟨other,hother⟩:=hother
    refine ⟨r1,_,_,_,rfl,rfl,SqL.of (kp3.keep _ _ ((kp1.trans kp2).pool.ne hr1) upd_same),hother,?_⟩
    have kq3:=kq2.trans kp3
    have ku3:=kp.trans kq3
    have hu3:=kq3.keep _ _ hup hu
    refine ⟨_,rfl,many,rfl,by omega,by omega,?_⟩
    refine for_range (lo:=0) (n:=many.toNat) (fun i σ H'=>∃ (ls:List Nat) (tx:Str) (o6 o15:Option V),
      σ=[some (.ref p),some (.int many),some (.int kind),some (.ref ℓ),some (.ref u),some (.ref l),o6,o7,o8,o9,o10,o11,some (.int way),some (.int other),some (.str tx),o15]∧tx=mk ls∧Kp p H H'∧H' u=some (.lst (us.map V.int))∧ls.length=i∧Low ls)
      ⟨[],_,_,_,rfl,rfl,ku3,hu3,rfl,Low.nil⟩ ?_ ?_
    · rintro i σ H4 hi ⟨ls,tx,o6',o15,rfl,rfl,kp4,hu4,hls,llw⟩
      have hℓ4:=kp4.keep _ _ hℓp hℓ
      refine ⟨_,rfl,_,rfl,ℓ,_,rfl,.inl (SqL.of hℓ4),p,_,rfl,kp4.pool,by omega,by omega,fun at0 H5 d0 d1 kp5=>?_⟩
      have ku5:=kp4.trans kp5
      have hu5:=kp5.keep _ _ hup hu4
      have hℓ5:=ku5.keep _ _ hℓp hℓ
      have fin:∀ (a:Int),0≤a→a < (cs.length:Int)→∃ c,atI (oneV cs) a=some (.str ⟨#[c]⟩)∧c∈cs:=fun a h0 h1=>oneV_at h0 h1
      have hln:∀ c:Nat,(mk ls).length+(⟨#[c]⟩:Str).length≤sizeLine:=fun c=>by
        rw [mk_len]
        have:(⟨#[c]⟩:Str).length=1:=rfl
        rw [this]
        exact Nat.le_of_lt (small1000 (by omega))
      have happ:∀ c:Nat,mk ls++(⟨#[c]⟩:Str)=mk (ls++[c]):=fun c=>by
        apply str_ext;rw [app_list];rfl
      refine ⟨_,rfl,_,_,rfl,rfl,_,rfl,ite2 (fun c1=>?_) (fun c1=>?_)⟩
      · have c1':0 < way:=of_decide_eq_true c1
        refine ⟨_,_,rfl,rfl,_,rfl,ite2 (fun c2=>?_) (fun c2=>?_)⟩
        · have c2':way < 4:=of_decide_eq_true c2
          refine ⟨_,rfl,_,rfl,_,_,rfl,rfl,c1',_,rfl,ℓ,_,rfl,.inl (SqL.of hℓ5),_,_,rfl,rfl,by omega,?_⟩
          refine ⟨_,rfl,_,_,rfl,rfl,_,rfl,ite2 (fun c3=>?_) (fun c3=>?_)⟩
          · have c3':4 < way:=of_decide_eq_true c3
            omega
          · obtain ⟨c,hc,hcm⟩:=fin ((0+(i:Int)) % way % ((oneV cs).length:Int)) (Int.emod_nonneg _ (by omega)) (by have:=Int.emod_lt_of_pos ((0+(i:Int)) % way) (show (0:Int) < ((oneV cs).length:Int) by omega);omega)
            refine ⟨_,rfl,_,rfl,_,rfl,ℓ,_,_,_,rfl,rfl,SqL.of hℓ5,hc,_,_,rfl,rfl,hln c,⟨ls++[c],_,_,_,rfl,happ c,ku5,hu5,by rw [List.length_append,hls];rfl,llw.app (Low.one (clw c hcm))⟩⟩
        · refine ⟨_,rfl,_,_,rfl,rfl,_,rfl,ite2 (fun c3=>?_) (fun c3=>?_)⟩
          · obtain ⟨c,hc,hcm⟩:=fin ((if decide (V.int (0+(i:Int))=V.int other)=true then 1 else 0) % ((oneV cs).length:Int)) (Int.emod_nonneg _ (by omega)) (by have:=Int.emod_lt_of_pos (if decide (V.int (0+(i:Int))=V.int other)=true then 1 else 0) (show (0:Int) < ((oneV cs).length:Int) by omega);omega)
            refine ⟨_,rfl,_,rfl,rfl,.inr ⟨_,rfl,_,rfl,ℓ,_,rfl,.inl (SqL.of hℓ5),_,_,rfl,rfl,by omega,?_⟩⟩
            refine ⟨_,rfl,_,rfl,_,rfl,ℓ,_,_,_,rfl,rfl,SqL.of hℓ5,hc,_,_,rfl,rfl,hln c,⟨ls++[c],_,_,_,rfl,happ c,ku5,hu5,by rw [List.length_append,hls];rfl,llw.app (Low.one (clw c hcm))⟩⟩
          · obtain ⟨c,hc,hcm⟩:=fin at0 d0 (by omega)
            refine ⟨_,rfl,_,rfl,_,rfl,ℓ,_,_,_,rfl,rfl,SqL.of hℓ5,hc,_,_,rfl,rfl,hln c,⟨ls++[c],_,_,_,rfl,happ c,ku5,hu5,by rw [List.length_append,hls];rfl,llw.app (Low.one (clw c hcm))⟩⟩
      · refine ⟨_,rfl,?_⟩
        refine iteF ?_
        refine ⟨_,rfl,_,_,rfl,rfl,_,rfl,ite2 (fun c3=>?_) (fun c3=>?_)⟩
        · obtain ⟨c,hc,hcm⟩:=fin ((if decide (V.int (0+(i:Int))=V.int other)=true then 1 else 0) % ((oneV cs).length:Int)) (Int.emod_nonneg _ (by omega)) (by have:=Int.emod_lt_of_pos (if decide (V.int (0+(i:Int))=V.int other)=true then 1 else 0) (show (0:Int) < ((oneV cs).length:Int) by omega);omega)
          refine ⟨_,rfl,_,rfl,rfl,.inr ⟨_,rfl,_,rfl,ℓ,_,rfl,.inl (SqL.of hℓ5),_,_,rfl,rfl,by omega,?_⟩⟩
          refine ⟨_,rfl,_,rfl,_,rfl,ℓ,_,_,_,rfl,rfl,SqL.of hℓ5,hc,_,_,rfl,rfl,hln c,⟨ls++[c],_,_,_,rfl,happ c,ku5,hu5,by rw [List.length_append,hls];rfl,llw.app (Low.one (clw c hcm))⟩⟩
        · obtain ⟨c,hc,hcm⟩:=fin at0 d0 (by omega)
          refine ⟨_,rfl,_,rfl,_,rfl,ℓ,_,_,_,rfl,rfl,SqL.of hℓ5,hc,_,_,rfl,rfl,hln c,⟨ls++[c],_,_,_,rfl,happ c,ku5,hu5,by rw [List.length_append,hls];rfl,llw.app (Low.one (clw c hcm))⟩⟩
    · rintro σ H4 ⟨ls,tx,o6',o15,rfl,rfl,kp4,hu4,hls,llw⟩
      refine ⟨_,rfl,u,_,rfl,.inl ⟨SqL.of hu4,fun r7 hr7=>?_⟩⟩
      refine ⟨_,rfl,(by show 2≤sizeLine;decide),fun t ht=>?_⟩
      refine q t us (mk ls) _ ((kp4.new hr7).new ht) ⟨r7,upd_same,?_,?_⟩ (by rw [mk_cps];exact llw)
      · rw [upd_ne (ne_of_none upd_same ht)];exact upd_same
      · exact ⟨by rw [mk_cps];omega,gr.pos,by omega,gr.root,gr.up⟩
end
end S60
namespace S60
open PySem L2 W7
section
variable {P:Program} {w:World} {K:PySem.W.Frag} {mg:Str→Option Value} {base:Heap} {k:Nat}
theorem GrOk.app {us vs:List Int} (g:GrOk us) {v0:Int} (h0:0≤v0) (h1:v0 < (us.length:Int)) (hv:∀ j,j < vs.length→0≤vs.getD j 0∧vs.getD j 0≤(us.length:Int)+j):GrOk (us++v0 :: vs) where
  pos:=by rw [List.length_append];have:=g.pos;omega
  root:=by rw [getD_app,if_pos g.pos];exact g.root
  up := fun j hj hl=>by
    rw [List.length_append,List.length_cons] at hl
    rw [getD_app]
    split
    · rename_i h;exact g.up j hj h
    · rename_i h
      rcases Nat.eq_or_lt_of_le (Nat.le_of_not_lt h) with e | e
      · subst e
        rw [Nat.sub_self]
        exact ⟨h0,h1⟩
      · obtain ⟨m,hm⟩:∃ m,j - us.length=m+1:=⟨j - us.length - 1,by omega⟩
        rw [hm]
        have:=hv m (by omega)
        show 0≤vs.getD m 0∧vs.getD m 0 < (j:Int)
        omega
def sp_copies:Sp:=fun vs H Q _=>∃ (p ℓ:Addr) (cs:List Nat),vs=[.ref p,.int 60,.ref ℓ]∧Pool H p∧H ℓ=some (.lst (oneV cs))∧0 < cs.length∧cs.length≤26∧Low cs ∧
  ∀ (t:Addr) (ups:List Int) (lab:Str) (H':Hp),Kp p H H'→TreeAt H' t ups lab→Low lab.cps.toList→Q (.ref t) H'
theorem has_copies (D:Df K mg "_law_copies" s_law_copies) (B:Blt mg) (G_law_take:Has P w K mg base "_law_take" k ["pool", "many"] sp_take) (G_law_grown:Has P w K mg base "_law_grown" k ["pool", "many", "kind", "letters"] sp_grown) :
    Has P w K mg base "_law_copies" (k+1) ["pool", "most", "letters"] sp_copies:=by
  refine D.has sc_law_copies (fun _ _ _ _ _ _ us hl=>match us,hl with | [_,_,_],_=>rfl) (fun vs H Q E h=>by obtain ⟨p,ℓ,cs,rfl,_⟩:=h;rfl) (fun f cdv A outer s H vs Q E hr h=>?_)
  obtain ⟨p,ℓ,cs,rfl,hp,hℓ,cs0,cs26,clw,q⟩:=h
  refine ⟨_,(pss_cons (ps_set (i:=3) sc_law_copies.nd rfl (by first | exact Or.inl rfl | exact Or.inr rfl) (pe_callH G_law_grown hr rfl (pa_cons (pv 0) (pa_cons (pe_op op_add pe_int (pe_callH G_law_take hr rfl (pa_cons (pv 0) (pa_cons pe_int pa_nil)))) (pa_cons pe_int (pa_cons (pv 2) pa_nil))))))
  (pss_cons (ps_set (i:=4) sc_law_copies.nd rfl (by first | exact Or.inl rfl | exact Or.inr rfl) (pe_callH G_law_take hr rfl (pa_cons (pv 0) (pa_cons pe_int pa_nil))))
  (pss_cons (ps_set (i:=5) sc_law_copies.nd rfl (by first | exact Or.inl rfl | exact Or.inr rfl) (pe_lst (pa_cons (pe_un un_neg pe_int) pa_nil)))
  (pss_cons (ps_set (i:=6) sc_law_copies.nd rfl (by first | exact Or.inl rfl | exact Or.inr rfl) (pe_ix ix_list (pv 2) (pe_callH G_law_take hr rfl (pa_cons (pv 0) (pa_cons (pe_callB call_len_seq rfl B.len bt_len (pa_cons (pv 2) pa_nil)) pa_nil))) (fun _ _=>rfl)))
  (pss_cons (ps_for PassesOwn.never rfl (pi_range1 rfl B.range (pa_cons (pe_op op_add pe_int (pe_callH G_law_take hr rfl (pa_cons (pv 0) (pa_cons pe_int pa_nil)))) pa_nil)) (pg_name (i:=7) sc_law_copies.nd rfl (by first | exact Or.inl rfl | exact Or.inr rfl))
  (pss_one (ps_if (pt_cmpR op_le (pe_op op_add (pe_callB call_len_seq rfl B.len bt_len (pa_cons (pv 5) pa_nil)) (pe_callB call_len_seq rfl B.len bt_len (pa_cons (pe_ix ix_tup (pv 3) pe_int (fun _ _=>rfl)) pa_nil))) (pv 1) (nomark _))
  (pss_cons (ps_set (i:=8) sc_law_copies.nd rfl (by first | exact Or.inl rfl | exact Or.inr rfl) (pe_callB call_len_seq rfl B.len bt_len (pa_cons (pv 5) pa_nil)))
  (pss_cons (ps_expr (pe_bm PySem.F.plainAttrs_list PySem.F.slot_list_extend PySem.F.type_list_extend mt_extend (pv 5) (pa_cons (pe_op op_cat (pe_lst (pa_cons (pe_ix ix_list (pe_lst (pa_cons pe_int (pa_cons (pe_op op_sub (pv 8) pe_int) pa_nil))) (pv 4) (fun _ _=>rfl)) pa_nil)) (pe_comp rfl (pi_tup (pe_slice sl_tup (pe_ix ix_tup (pv 3) pe_int (fun _ _=>rfl)) (po_some pe_int) po_none)) (NL:=["up"]) (ix:=[8]) (csc (defScope s_law_copies) N_law_copies) (fun cl C s₃ H₃ fp pins=>⟨(pg_name (i:=0) (show List.Nodup (["up", "here"]:List Str) from by decide +kernel) rfl (by first | exact Or.inl rfl | exact Or.inr rfl)),pifs_nil,(pe_op op_add (pv 0) (pv 1))⟩))) pa_nil)))
  (pss_one (ps_set (i:=6) sc_law_copies.nd rfl (by first | exact Or.inl rfl | exact Or.inr rfl) (pe_op op_add_str (pv 6) (pe_ix ix_tup (pv 3) pe_int (fun _ _=>rfl)))))))
  pss_nil)))
  (pss_one (ps_ret (pe_tup (pa_cons (pe_callTy call_tuple_of rfl B.tuple_ bt_tuple (pa_cons (pv 5) pa_nil)) (pa_cons (pv 6) pa_nil)))))))))),?_⟩
  have hℓp:ℓ≠p:=ne_pool hp hℓ (oneV_ne cs0)
  have ocl:(oneV cs).length=cs.length:=oneV_len cs
  refine ⟨_,rfl,_,rfl,p,6,rfl,hp,by decide,by decide,fun n1 H1 a0 a1 kp1=>?_⟩
  refine ⟨_,_,rfl,rfl,_,rfl,p,ℓ,1+n1,2,cs,rfl,kp1.pool,by omega,by omega,by decide,by decide,kp1.keep _ _ hℓp hℓ,cs0,cs26,clw,fun t1 ups1 lab1 H2 kp2 tr2 lw1=>?_⟩
  have ku2:=kp1.trans kp2
  refine ⟨_,rfl,p,2,rfl,kp2.pool,by decide,by decide,fun ch H3 b0 b1 kp3=>?_⟩
  have ku3:=ku2.trans kp3
  have tr3:=tr2.kp kp2.pool kp3
  refine ⟨_,rfl,(by show 1≤sizeLine;decide),fun u hu0=>?_⟩
  have ku4:=ku3.new (o:=.lst [.int (-1)]) hu0
  have hup:u≠p:=kp3.pool.ne hu0
  have hH0:H u=none:=by
    cases e:H u with
    | none=>rfl
    | some o=>have:=ku3.keep u o hup e;rw [hu0] at this;cases this
  have tr4:TreeAt (upd H3 u (.lst [.int (-1)])) t1 ups1 lab1:=tr3.kp kp3.pool ((Kp.refl kp3.pool).new hu0)
  refine ⟨_,rfl,_,rfl,_,rfl,ℓ,_,rfl,.inl (SqL.of (ku4.keep _ _ hℓp hℓ)),p,_,rfl,ku4.pool,by omega,by omega,fun n5 H5 c0 c1 kp5=>?_⟩
  have ku5:=ku4.trans kp5
  obtain ⟨c5,hc5,hcm5⟩:=oneV_at (cs:=cs) (i:=n5) c0 (by omega)
  refine ⟨ℓ,_,_,_,rfl,rfl,SqL.of (ku5.keep _ _ hℓp hℓ),hc5,?_⟩
  have tr5:=tr4.kp ku4.pool kp5
  have hu5:H5 u=some (.lst [.int (-1)]):=kp5.keep _ _ hup upd_same
  refine ⟨_,rfl,p,12,rfl,kp5.pool,by decide,by decide,fun n6 H6 d0 d1 kp6=>?_⟩
  refine ⟨_,_,rfl,rfl,_,rfl,by omega,by omega,?_⟩
  obtain ⟨_,_,_,okk⟩:=id tr5
  have l60:=okk.most
  have lpos:=okk.pos
  refine for_range (lo:=0) (n:=(1+n6).toNat) (fun i σ H'=>∃ (us:List Int) (ls:List Nat) (tx:Str) (o7 o8:Option V),
      σ=[some (.ref p),some (.int 60),some (.ref ℓ),some (.ref t1),some (.int ch),some (.ref u),some (.str tx),o7,o8]∧tx=mk ls∧Kp p H H'∧H' u=some (.lst (us.map V.int))∧TreeAt H' t1 ups1 lab1∧us.length=ls.length∧us.length≤60∧GrOk us∧Low ls)
    ⟨[-1],[c5],_,none,none,rfl,rfl,ku5.trans kp6,kp6.keep _ _ hup hu5,tr5.kp kp5.pool kp6,rfl,by decide,GrOk.one,Low.one (clw _ hcm5)⟩ ?_ ?_
  · rintro i σ H' hi ⟨us,ls,tx,o7,o8,rfl,rfl,kp,hu,⟨v1,ht1,hv1,ok⟩,hlen,h60,gr,llw⟩
    have hul:(us.map V.int).length=us.length:=List.length_map _
    have hul1:(ups1.map V.int).length=ups1.length:=List.length_map _
    refine ⟨_,rfl,u,_,rfl,.inl (SqL.of hu),_,rfl,t1,_,_,_,rfl,rfl,SqT.of ht1,rfl,v1,_,rfl,.inr (SqT.of hv1),_,_,rfl,rfl,_,rfl,_,_,rfl,rfl,_,rfl,ite2 (fun cnd=>?_) (fun cnd=>?_)⟩
    · have cnd':(((us.map V.int).length:Nat):Int)+(((ups1.map V.int).length:Nat):Int)≤60:=of_decide_eq_true cnd
      refine ⟨_,rfl,u,_,rfl,.inl (SqL.of hu),?_⟩
      generalize hh:(((us.map V.int).length:Nat):Int)=here
      have gp:=gr.pos
      refine ⟨_,rfl,.inl ⟨rfl,_,SqL.of hu⟩,_,rfl,_,_,rfl,rfl,(by show 2≤sizeLine;decide),fun r1 hr1=>?_⟩
      have hch:∃ v:Int,atI [V.int 0,.int (here - 1)] ch=some (.int v)∧0≤v∧v < here:=by
        have:ch=0∨ch=1:=by omega
        rcases this with rfl | rfl
        · exact ⟨_,rfl,by omega,by omega⟩
        · exact ⟨_,rfl,by omega,by omega⟩
      obtain ⟨v0,hv0,e0,e1⟩:=hch
      refine ⟨_,rfl,r1,_,_,_,rfl,rfl,SqL.of upd_same,hv0,(by show 1≤sizeLine;decide),fun r2 hr2=>?_⟩
      have kq2:Kp p H (upd (upd H' r1 (.lst [.int 0,.int (here - 1)])) r2 (.lst [.int v0])):=(kp.new hr1).new hr2
      have s2:Same H' (upd (upd H' r1 (.lst [.int 0,.int (here - 1)])) r2 (.lst [.int v0])):=((Same.refl H').new hr1).new hr2
      have h2:(upd (upd H' r1 (.lst [.int 0,.int (here - 1)])) r2 (.lst [.int v0])) r2=some (.lst [.int v0]):=upd_same
      generalize hH2:upd (upd H' r1 (.lst [.int 0,.int (here - 1)])) r2 (.lst [.int v0])=HH2 at kq2 s2 h2
      refine ⟨_,rfl,t1,_,_,_,rfl,rfl,SqT.of (s2 _ _ ht1),rfl,_,rfl,v1,_,rfl,SqT.of (s2 _ _ hv1),?_,fun r3 hr3=>?_⟩
      · intro z
        have:=z.1
        rw [show (some (1:Int))=some ((1:Nat):Int) from rfl,HT.sIx_nat] at this
        omega
      have ecut:cutV (ups1.map V.int) (some 1) none=(ups1.drop 1).map V.int:=by
        rw [show (some (1:Int))=some ((1:Nat):Int) from rfl,cutV_from (by omega),List.map_drop]
      rw [ecut]
      have kq3:=kq2.new (o:=.tup ((ups1.drop 1).map V.int)) hr3
      have s3:Same H' (upd HH2 r3 (.tup ((ups1.drop 1).map V.int))):=s2.new hr3
      have h23:(upd HH2 r3 (.tup ((ups1.drop 1).map V.int))) r2=some (.lst [.int v0]):=by rw [upd_ne (ne_of_none h2 hr3)];exact h2
      have h33:(upd HH2 r3 (.tup ((ups1.drop 1).map V.int))) r3=some (.tup ((ups1.drop 1).map V.int)):=upd_same
      generalize hH3:upd HH2 r3 (.tup ((ups1.drop 1).map V.int))=HH3 at kq3 s3 h23 h33
      have hdl:((ups1.drop 1).map V.int).length=ups1.length - 1:=by rw [List.length_map,List.length_drop]
      refine ⟨r3,rfl,⟨_,SqT.of h33⟩,fun acc hacc=>?_⟩
      refine comp_by (ups1.length - 1) (by omega) (fun j ys HH=>HH acc=some (.lst ys)∧ys=((ups1.drop 1).take j).map (fun v=>V.int (v+here))∧Same HH3 HH) (fun j ys HH h=>⟨h.1,by rw [h.2.1,List.length_map,List.length_take];omega⟩)
        ⟨upd_same,by simp,(Same.refl HH3).new hacc⟩ ?_ ?_
      · rintro ys HH ⟨g1,rfl,g3⟩
        refine ⟨⟨_,SqT.of (g3 _ _ h33),by omega⟩,?_⟩
        have full:(ups1.drop 1).take (ups1.length - 1)=ups1.drop 1:=List.take_of_length_le (by rw [List.length_drop];omega)
        rw [full] at g1
        refine ⟨r2,acc,_,_,rfl,rfl,g3 _ _ h23,g1,?_,fun r4 hr4=>?_⟩
        · rw [List.length_map,List.length_drop]
          have:([V.int v0]:List V).length=1:=rfl
          rw [this]
          exact Nat.le_of_lt (small1000 (by omega))
        have s4:Same H' (upd HH r4 (.lst ([V.int v0]++(ups1.drop 1).map (fun v=>V.int (v+here))))):=((s3.trans g3).new hr4)
        have huu:=s4 _ _ hu
        refine ⟨u,r4,_,_,rfl,rfl,huu,upd_same,?_,?_⟩
        · have z:(us.map V.int).length+([V.int v0]++(ups1.drop 1).map (fun v=>V.int (v+here))).length=us.length+(1+(ups1.length - 1)):=by
            simp only [List.length_append,List.length_map,List.length_drop,List.length_singleton]
          rw [z]
          exact Nat.le_of_lt (small1000 (by omega))
        have eapp:us.map V.int++([V.int v0]++(ups1.drop 1).map (fun v=>V.int (v+here)))=(us++v0 :: (ups1.drop 1).map (·+here)).map V.int:=by
          rw [List.map_append,List.map_cons,List.map_map];rfl
        have kfin:Kp p H (upd (upd HH r4 (.lst ([V.int v0]++(ups1.drop 1).map (fun v=>V.int (v+here))))) u (.lst (us.map V.int++([V.int v0]++(ups1.drop 1).map (fun v=>V.int (v+here)))))):=by
          refine Kp.write ?_ hH0 hup
          refine ⟨?_,fun b o hb e=>s4 _ _ (kp.keep b o hb e)⟩
          obtain ⟨x,y,e⟩:=kp.pool
          exact ⟨x,y,s4 _ _ e⟩
        have tfin:TreeAt (upd (upd HH r4 (.lst ([V.int v0]++(ups1.drop 1).map (fun v=>V.int (v+here))))) u (.lst (us.map V.int++([V.int v0]++(ups1.drop 1).map (fun v=>V.int (v+here)))))) t1 ups1 lab1:=by
          refine ⟨v1,?_,?_,ok⟩
          · rw [upd_ne (ne_of (s4 _ _ ht1) huu (fun z=>nomatch z))];exact s4 _ _ ht1
          · rw [upd_ne (ne_of (s4 _ _ hv1) huu (fun z=>nomatch z))];exact s4 _ _ hv1
        obtain ⟨v1',ht1',hv1',_⟩:=id tfin
        have hlab:lab1.length=ups1.length:=by rw [ok.len];simp [Str.length]
        refine ⟨_,rfl,_,rfl,t1,_,_,_,rfl,rfl,SqT.of ht1',rfl,_,_,rfl,rfl,?_,?_⟩
        · rw [mk_len,hlab];exact Nat.le_of_lt (small1000 (by omega))
        refine ⟨us++v0 :: (ups1.drop 1).map (·+here),ls++lab1.cps.toList,_,_,_,rfl,?_,kfin,by rw [upd_same,eapp],tfin,?_,?_,?_,llw.app lw1⟩
        · have:mk ls++lab1=mk (ls++lab1.cps.toList):=by
            apply str_ext;rw [app_list];rfl
          exact this
        · rw [List.length_append,List.length_append,List.length_cons,List.length_map,List.length_drop,← ok.len];omega
        · rw [List.length_append,List.length_cons,List.length_map,List.length_drop];omega
        · refine gr.app e0 (by omega) fun j hj=>?_
          rw [List.length_map,List.length_drop] at hj
          have hj1:j+1 < ups1.length:=by omega
          have e:((ups1.drop 1).map (·+here)).getD j 0=ups1.getD (j+1) 0+here:=by
            rw [List.getD_eq_getElem?_getD,List.getElem?_map,List.getElem?_drop,List.getD_eq_getElem?_getD,Nat.add_comm 1 j,List.getElem?_eq_getElem hj1];rfl
          rw [e]
          have:=ok.up (j+1) (by omega) hj1
          omega
      · rintro j ys HH hj ⟨g1,rfl,g3⟩
        have h33':=g3 _ _ h33
        have hj1:j < (ups1.drop 1).length:=by rw [List.length_drop];omega
        have hget:((ups1.drop 1).map V.int)[j]?=some (.int (ups1.drop 1)[j]):=by rw [List.getElem?_map,List.getElem?_eq_getElem hj1];rfl
        refine ⟨⟨_,_,SqT.of h33',hget⟩,?_⟩
        rintro x H'' ⟨rfl,hx⟩
        have ex:x=.int (ups1.drop 1)[j]:=by
          have:=hx _ (SqT.of h33')
          rw [hget] at this
          exact (Option.some.inj this).symm
        subst ex
        refine ⟨rfl,?_⟩
        refine ⟨_,rfl,_,rfl,_,_,rfl,rfl,g1,upd_same,?_,?_⟩
        · rw [List.take_add_one,List.getElem?_eq_getElem hj1,List.map_append];rfl
        · exact (g3.write (by
            cases e:HH3 acc with
            | none=>rfl
            | some o=>rw [hacc] at e;cases e))
    · exact ⟨us,ls,_,_,_,rfl,rfl,kp,hu,⟨v1,ht1,hv1,ok⟩,hlen,h60,gr,llw⟩
  · rintro σ H' ⟨us,ls,tx,o7,o8,rfl,rfl,kp,hu,tr,hlen,h60,gr,llw⟩
    refine ⟨_,rfl,u,_,rfl,.inl ⟨SqL.of hu,fun r7 hr7=>?_⟩⟩
    refine ⟨_,rfl,(by show 2≤sizeLine;decide),fun t ht=>?_⟩
    refine q t us (mk ls) _ ((kp.new hr7).new ht) ⟨r7,upd_same,?_,?_⟩ (by rw [mk_cps];exact llw)
    · rw [upd_ne (ne_of_none upd_same ht)];exact upd_same
    · exact ⟨by rw [mk_cps];exact hlen,gr.pos,h60,gr.root,gr.up⟩
def sp_tree:Sp:=fun vs H Q _=>∃ (p ℓ:Addr) (cs:List Nat),vs=[.ref p,.int 60,.ref ℓ]∧Pool H p∧H ℓ=some (.lst (oneV cs))∧0 < cs.length∧cs.length≤26∧Low cs∧∀ (t:Addr) (ups:List Int) (lab:Str) (H':Hp),Kp p H H'→TreeAt H' t ups lab→Low lab.cps.toList→Q (.ref t) H'
theorem has_tree (D:Df K mg "_law_tree" s_law_tree) (B:Blt mg) (G_law_take:Has P w K mg base "_law_take" k ["pool", "many"] sp_take)
    (G_law_grown:Has P w K mg base "_law_grown" k ["pool", "many", "kind", "letters"] sp_grown) (G_law_copies:Has P w K mg base "_law_copies" k ["pool", "most", "letters"] sp_copies):Has P w K mg base "_law_tree" (k+1) ["pool", "most", "letters"] sp_tree:=by
  refine D.has sc_law_tree (fun _ _ _ _ _ _ us hl=>match us,hl with | [_,_,_],_=>rfl) (fun vs H Q E h=>by obtain ⟨p,ℓ,cs,rfl,_⟩:=h;rfl) (fun f cdv A outer s H vs Q E hr h=>?_)
  obtain ⟨p,ℓ,cs,rfl,hp,hℓ0,cs0,cs26,clw,q⟩:=h
  refine ⟨_,(pss_cons (ps_set (i:=3) sc_law_tree.nd rfl (by first | exact Or.inl rfl | exact Or.inr rfl) (pe_callH G_law_take hr rfl (pa_cons (pv 0) (pa_cons pe_int pa_nil))))
  (pss_cons (ps_set (i:=4) sc_law_tree.nd rfl (by first | exact Or.inl rfl | exact Or.inr rfl) (pe_ix ix_list (pe_lst (pa_cons (pe_op op_add pe_int (pe_callH G_law_take hr rfl (pa_cons (pv 0) (pa_cons pe_int pa_nil)))) (pa_cons (pe_op op_add pe_int (pe_callH G_law_take hr rfl (pa_cons (pv 0) (pa_cons (pv 1) pa_nil)))) (pa_cons (pv 1) pa_nil)))) (pe_callH G_law_take hr rfl (pa_cons (pv 0) (pa_cons pe_int pa_nil))) (fun _ _=>rfl)))
  (pss_cons (ps_if (pt_cmpR op_gt (pv 3) pe_int (nomark _))
  (pss_one (ps_ret (pe_callH G_law_copies hr rfl (pa_cons (pv 0) (pa_cons (pv 1) (pa_cons (pv 2) pa_nil))))))
  pss_nil)
  (pss_one (ps_ret (pe_callH G_law_grown hr rfl (pa_cons (pv 0) (pa_cons (pv 4) (pa_cons (pv 3) (pa_cons (pv 2) pa_nil)))))))))),?_⟩
  refine ⟨_,rfl,p,8,rfl,hp,by decide,by decide,fun kind H1 a0 a1 kp1=>?_⟩
  refine ⟨_,rfl,p,9,rfl,kp1.pool,by decide,by decide,fun n2 H2 b0 b1 kp2=>?_⟩
  refine ⟨_,_,rfl,rfl,_,rfl,_,rfl,p,60,rfl,kp2.pool,by decide,by decide,fun n3 H3 c0 c1 kp3=>?_⟩
  refine ⟨_,_,rfl,rfl,_,rfl,(by show 3≤sizeLine;decide),fun r hr0=>?_⟩
  have ku:=((kp1.trans kp2).trans kp3).new (o:=.lst [.int (1+n2),.int (1+n3),.int 60]) hr0
  refine ⟨_,rfl,p,3,rfl,ku.pool,by decide,by decide,fun n4 H4 d0 d1 kp4=>?_⟩
  have hm:∃ v:Int,atI [V.int (1+n2),.int (1+n3),.int 60] n4=some (.int v)∧1≤v∧v≤60:=by
    have:n4=0∨n4=1∨n4=2:=by omega
    rcases this with rfl | rfl | rfl
    · exact ⟨_,rfl,by omega,by omega⟩
    · exact ⟨_,rfl,by omega,by omega⟩
    · exact ⟨_,rfl,by omega,by omega⟩
  obtain ⟨many,hm,e0,e1⟩:=hm
  refine ⟨r,_,_,_,rfl,rfl,SqL.of (kp4.keep _ _ (kp3.pool.ne hr0) upd_same),hm,?_⟩
  have ku4:=ku.trans kp4
  have hℓp:ℓ≠p:=ne_pool hp hℓ0 (oneV_ne cs0)
  have hℓ:=ku4.keep _ _ hℓp hℓ0
  refine ⟨_,rfl,_,_,rfl,rfl,_,rfl,ite2 (fun c=>?_) (fun c=>?_)⟩
  · exact ⟨_,rfl,_,rfl,_,rfl,p,ℓ,cs,rfl,kp4.pool,hℓ,cs0,cs26,clw,fun t ups lab H6 kp6 tr lw=>q t ups lab H6 (ku4.trans kp6) tr lw⟩
  · have c':¬ 5 < kind:=of_decide_eq_false (Bool.eq_false_iff.mpr c)
    exact ⟨_,rfl,_,rfl,_,rfl,_,rfl,p,ℓ,many,kind,cs,rfl,kp4.pool,e0,e1,a0,by omega,hℓ,cs0,cs26,clw,fun t ups lab H6 kp6 tr lw=>q t ups lab H6 (ku4.trans kp6) tr lw⟩
end
end S60
namespace S60
open PySem L2 W7
structure Blt7 (mg:Str→Option Value):Prop extends Blt mg where
  sorted:mg "sorted" = none
  set_:mg "set" = none
  repr:mg "repr" = none
theorem lt_asymm':∀ x y:List Nat,¬ y < x→¬ x < y→x=y:=fun x y h1 h2=>List.le_antisymm (List.not_lt.mp h1) (List.not_lt.mp h2)
theorem rising_pair:∀ (l:List Str) (p:Str),PyProof.Rows.risingS p l=true→(p :: l).Pairwise (fun a b=>¬ b.cps.toList < a.cps.toList)
  | [],p,_=>List.pairwise_singleton _ _
  | x :: r,p,h=>by
    have h':(!PySem.Spec.ltCps x.cps.toList p.cps.toList && PyProof.Rows.risingS x r)=true:=h
    obtain ⟨h1,h2⟩:=(Bool.and_eq_true _ _).mp h'
    have ih:=rising_pair r x h2
    have px:¬ x.cps.toList < p.cps.toList:=by
      rw [PyProof.Rows.ltCps_eq] at h1
      simpa using h1
    refine List.pairwise_cons.mpr ⟨fun y hy=>?_,ih⟩
    rcases List.mem_cons.mp hy with rfl | hy
    · exact px
    · have xy:=List.rel_of_pairwise_cons ih hy
      exact List.not_lt.mpr (List.le_trans (List.not_lt.mp px) (List.not_lt.mp xy))
theorem sorted_pair:∀ ss:List Str,PyProof.Rows.sortedS ss=true→ss.Pairwise (fun a b=>¬ b.cps.toList < a.cps.toList)
  | [],_=>List.Pairwise.nil
  | x :: r,h=>rising_pair r x h
theorem sorted_one {a b:List Str} (h1:PyProof.Rows.sortedS a=true) (h2:PyProof.Rows.sortedS b=true) (p:a.Perm b):a=b:=
  p.eq_of_pairwise (fun x y _ _ l1 l2=>by
    have:=lt_asymm' x.cps.toList y.cps.toList l1 l2
    exact str_ext this) (sorted_pair a h1) (sorted_pair b h2)
section
variable {P:Program} {w:World} {K:PySem.W.Frag} {mg:Str→Option Value} {base:Heap} {k:Nat}
def wordsS (ups:List Int) (lab:Str):List Str:=(List.range ups.length).map fun j=>mk (W ups lab.cps.toList j)
theorem wordsV_eq (ups:List Int) (lab:Str):wordsV ups lab ups.length=(wordsS ups lab).map V.str:=by
  unfold wordsV wordsS
  rw [List.map_map];rfl
theorem wordsS_len (ups:List Int) (lab:Str):(wordsS ups lab).length=ups.length:=by simp [wordsS]
theorem wordsS_le {ups:List Int} {lab:Str} (ok:TreeOk ups lab.cps.toList):∀ z∈wordsS ups lab,z.length≤60:=by
  intro z hz
  obtain ⟨j,hj,rfl⟩:=List.mem_map.mp hz
  have hj':=List.mem_range.mp hj
  have:=W_len ok (j+1) j (by omega) hj'
  have:=ok.most
  rw [mk_len];omega
theorem cps_len (z:Str):z.cps.toList.length=z.length:=by simp [Str.length]
def sp_malike:Sp:=fun vs H Q _=>∃ one other:Str,vs=[.str one,.str other]∧one.length≤60∧other.length≤60∧Q (.int ((W16.lcp one.cps.toList other.cps.toList:Nat):Int)) H
theorem has_malike (D:Df K mg "many_alike" s_many_alike) (B:Blt7 mg):Has P w K mg base "many_alike" (k+1) ["one", "other"] sp_malike:=by
  refine D.has sc_many_alike (fun _ _ _ _ _ _ us hl=>match us,hl with | [_,_],_=>rfl) (fun vs H Q E h=>by obtain ⟨one,other,rfl,_⟩:=h;rfl) (fun f cdv A outer s H vs Q E hr h=>?_)
  obtain ⟨one,other,rfl,l1,l2,q⟩:=h
  refine ⟨_,(pss_cons (ps_set (i:=2) sc_many_alike.nd rfl (by first | exact Or.inl rfl | exact Or.inr rfl) pe_int)
  (pss_cons (ps_while PassesOwn.never (PW.pt (pw_and (pt_cmpR op_lt (pv 2) (pe_callB (call_min2 rfl) rfl B.min bt_min (pa_cons (pe_callB call_len_str rfl B.len bt_len (pa_cons (pv 0) pa_nil)) (pa_cons (pe_callB call_len_str rfl B.len bt_len (pa_cons (pv 1) pa_nil)) pa_nil))) (nomark _)) (pw_and1 (pt_cmpR op_eq (pe_ix ix_str (pv 0) (pv 2) (fun _ _=>rfl)) (pe_ix ix_str (pv 1) (pv 2) (fun _ _=>rfl)) (nomark _)))))
  (pss_one (ps_aug (i:=2) sc_many_alike.nd rfl (by first | exact Or.inl rfl | exact Or.inr rfl) pe_int ip_add)))
  (pss_one (ps_ret (pv 2))))),?_⟩
  have z1:one.length≤sizeLine:=Nat.le_of_lt (small1000 (by omega))
  have z2:other.length≤sizeLine:=Nat.le_of_lt (small1000 (by omega))
  have c1:=cps_len one
  have c2:=cps_len other
  refine ⟨fun m σ H'=>H'=H∧∃ n:Nat,σ=[some (.str one),some (.str other),some (.int n)]∧m=60 - n∧n≤one.length∧n≤other.length∧∀ j,j < n→one.cps.toList[j]?=other.cps.toList[j]?,⟨_,rfl,0,rfl,rfl,Nat.zero_le _,Nat.zero_le _,fun j hj=>absurd hj (Nat.not_lt_zero _)⟩,?_⟩
  rintro m σ H' ⟨rfl,n,rfl,rfl,n1,n2,ne⟩
  refine ⟨_,rfl,_,rfl,_,rfl,z1,_,rfl,_,rfl,z2,_,_,rfl,_,_,rfl,rfl,_,rfl,ite2 (fun c=>?_) (fun c=>?_)⟩
  · have c':=of_decide_eq_true c
    have lt1:n < one.length:=by split at c' <;> omega
    have lt2:n < other.length:=by split at c' <;> omega
    have g1:one.cps.toList[n]?=some (one.cps.toList[n]'(by omega)):=List.getElem?_eq_getElem _
    have g2:other.cps.toList[n]?=some (other.cps.toList[n]'(by omega)):=List.getElem?_eq_getElem _
    refine ⟨_,rfl,_,rfl,_,_,_,rfl,rfl,z1,atI_nat g1,_,rfl,_,rfl,_,_,_,rfl,rfl,z2,atI_nat g2,rfl,_,rfl,?_⟩
    by_cases hc:V.str ⟨#[one.cps.toList[n]'(by omega)]⟩=V.str ⟨#[other.cps.toList[n]'(by omega)]⟩
    · rw [decide_eq_true hc]
      refine iteT ?_
      refine ⟨_,fun σ' H3 h=>h,?_⟩
      refine ⟨_,rfl,_,_,rfl,rfl,?_⟩
      have e:one.cps.toList[n]'(by omega)=other.cps.toList[n]'(by omega):=by
        injection hc with hc;injection hc with hc;injection hc with hc;injection hc
      refine ⟨60 - (n+1),by omega,rfl,n+1,rfl,rfl,by omega,by omega,fun j hj=>?_⟩
      rcases Nat.lt_or_ge j n with h | h
      · exact ne j h
      · have:j=n:=by omega
        subst this
        rw [g1,g2,e]
    · rw [decide_eq_false hc]
      refine iteF ?_
      have e:W16.lcp one.cps.toList other.cps.toList=n:=W16.lcp_stop _ _ n (by omega) (by omega) ne (fun _ _ he=>hc (by rw [g1,g2] at he;rw [Option.some.inj he]))
      rw [e] at q
      exact ⟨_,rfl,q⟩
  · have c':=of_decide_eq_false (Bool.eq_false_iff.mpr c)
    have e:W16.lcp one.cps.toList other.cps.toList=n:=W16.lcp_stop _ _ n (by omega) (by omega) ne (fun h1 h2=>by split at c' <;> omega)
    rw [e] at q
    exact ⟨_,rfl,q⟩
def alk (ss:List Str) (i:Nat):Int:=if i=0 then 0 else ((W16.lcp (ss.getD (i - 1) Str.empty).cps.toList (ss.getD i Str.empty).cps.toList:Nat):Int)
def als (ss:List Str) (n:Nat):List Int:=(List.range n).map (alk ss)
theorem als_len (ss:List Str) (n:Nat):((als ss n).map V.int).length=n:=by simp [als]
theorem strs_at {ss:List Str} {i:Nat} (h:i < ss.length):atI (ss.map V.str) (i:Int)=some (.str (ss.getD i Str.empty)):=atI_nat (by rw [List.getElem?_map,List.getElem?_eq_getElem h,List.getD_eq_getElem?_getD,List.getElem?_eq_getElem h];rfl)
def sp_alikes:Sp:=fun vs H Q _=>∃ (t:Addr) (ups:List Int) (lab:Str),vs=[.ref t]∧TreeAt H t ups lab ∧
  ∀ (ss:List Str) (r:Addr) (H':Hp),ss.Perm (wordsS ups lab)→PyProof.Rows.sortedS ss=true→Same H H'→H r=none→H' r=some (.lst ((als ss ss.length).map V.int))→Q (.ref r) H'
theorem has_alikes (D:Df K mg "alike_of" s_alike_of) (B:Blt7 mg) (G_words_of:Has P w K mg base "words_of" k ["tree"] sp_words) (G_many_alike:Has P w K mg base "many_alike" k ["one", "other"] sp_malike):Has P w K mg base "alike_of" (k+1) ["tree"] sp_alikes:=by
  refine D.has sc_alike_of (fun _ _ _ _ _ _ us hl=>match us,hl with | [_],_=>rfl) (fun vs H Q E h=>by obtain ⟨t,ups,lab,rfl,_⟩:=h;rfl) (fun f cdv A outer s H vs Q E hr h=>?_)
  obtain ⟨t,ups,lab,rfl,tr,q⟩:=h
  refine ⟨_,(pss_cons (ps_set (i:=1) sc_alike_of.nd rfl (by first | exact Or.inl rfl | exact Or.inr rfl) (pe_callB call_sorted_strs rfl B.sorted bt_sorted (pa_cons (pe_callH G_words_of hr rfl (pa_cons (pv 0) pa_nil)) pa_nil)))
  (pss_one (ps_ret (pe_op op_cat (pe_lst (pa_cons pe_int pa_nil)) (pe_comp rfl (pi_range2 rfl B.range (pa_cons pe_int (pa_cons (pe_callB call_len_seq rfl B.len bt_len (pa_cons (pv 1) pa_nil)) pa_nil))) (NL:=["rank"]) (ix:=[1]) (csc (defScope s_alike_of) N_alike_of) (fun cl C s₃ H₃ fp pins=>⟨(pg_name (i:=0) (show List.Nodup (["rank", "words"]:List Str) from by decide +kernel) rfl (by first | exact Or.inl rfl | exact Or.inr rfl)),pifs_nil,(pe_callH G_many_alike hr rfl (pa_cons (pe_ix (ix_listK K) (pv 1) (pe_op op_sub (pv 0) pe_int) (fun _ _=>rfl)) (pa_cons (pe_ix (ix_listK K) (pv 1) (pv 0) (fun _ _=>rfl)) pa_nil)))⟩)))))),?_⟩
  obtain ⟨_,_,_,ok⟩:=id tr
  have m60:=ok.most
  have lpos:=ok.pos
  have wl:=wordsS_len ups lab
  have wle:=wordsS_le ok
  refine ⟨_,rfl,t,ups,lab,rfl,tr,fun r H1 s1 hr1=>?_⟩
  rw [wordsV_eq] at hr1
  refine ⟨r,_,rfl,SqL.of hr1,by omega,fun ss r2 hp hs hr2=>?_⟩
  have sl:=hp.length_eq
  have s2:Same H (upd H1 r2 (.lst (ss.map V.str))):=s1.new hr2
  have h22:upd H1 r2 (.lst (ss.map V.str)) r2=some (.lst (ss.map V.str)):=upd_same
  generalize upd H1 r2 (.lst (ss.map V.str))=H2 at s2 h22
  have sle:∀ i,(ss.getD i Str.empty).length≤60:=fun i=>by
    rw [List.getD_eq_getElem?_getD]
    cases e:ss[i]? with
    | none=>show Str.empty.length≤60;decide
    | some z=>exact wle z (hp.mem_iff.mp (List.mem_of_getElem? e))
  refine ⟨(by show 1≤sizeLine;decide),fun r3 hr3=>?_⟩
  have s3:Same H2 (upd H2 r3 (.lst [.int 0])):=(Same.refl H2).new hr3
  have h33:upd H2 r3 (.lst [.int 0]) r3=some (.lst [.int 0]):=upd_same
  generalize upd H2 r3 (.lst [.int 0])=H3 at s3 h33
  refine ⟨_,rfl,r2,_,rfl,.inl (SqL.of (s3 _ _ h22)),_,_,rfl,?_,fun acc hacc=>?_⟩
  · rw [List.length_map];omega
  have eN:((((ss.map V.str).length:Nat):Int) - 1).toNat=ss.length - 1:=by rw [List.length_map];omega
  refine comp_by ((((ss.map V.str).length:Nat):Int) - 1).toNat (by omega) (fun i ys H'=>H' acc=some (.lst ys)∧ys=((List.range i).map fun j=>alk ss (j+1)).map V.int∧Same H3 H')
    (fun i ys H' h=>⟨h.1,by rw [h.2.1,List.length_map,List.length_map,List.length_range];exact Nat.le_refl _⟩) ⟨upd_same,rfl,(Same.refl H3).new hacc⟩ ?_ ?_
  · rintro ys H4 ⟨g1,rfl,g3⟩
    refine ⟨Nat.le_refl _,?_⟩
    rw [eN] at g1
    refine ⟨r3,acc,_,_,rfl,rfl,g3 _ _ h33,g1,?_,fun r4 hr4=>?_⟩
    · rw [List.length_map,List.length_map,List.length_range]
      show 1+_≤sizeLine
      exact Nat.le_of_lt (small1000 (by omega))
    refine q ss r4 _ hp hs (((s2.trans s3).trans g3).new hr4) (((s2.trans s3).trans g3).free hr4) ?_
    rw [upd_same]
    have e:als ss ss.length=0 :: ((List.range (ss.length - 1)).map fun j=>alk ss (j+1)):=by
      obtain ⟨m,em⟩:∃ m,ss.length=m+1:=⟨ss.length - 1,by omega⟩
      unfold als
      rw [em,List.range_succ_eq_map,List.map_cons,List.map_map]
      rfl
    rw [e];rfl
  · rintro i ys H4 hi ⟨g1,rfl,g3⟩
    rw [eN] at hi
    refine ⟨by rw [eN];exact hi,?_⟩
    rintro x H5 ⟨rfl,rfl⟩
    refine ⟨rfl,?_⟩
    have a1:atI (ss.map V.str) (1+(i:Int) - 1)=some (.str (ss.getD i Str.empty)):=by rw [show 1+(i:Int) - 1=(i:Int) by omega];exact strs_at (by omega)
    have a2:atI (ss.map V.str) (1+(i:Int))=some (.str (ss.getD (i+1) Str.empty)):=by rw [show 1+(i:Int)=((i+1:Nat):Int) by omega];exact strs_at (by omega)
    have hl2:=g3 _ _ (s3 _ _ h22)
    refine ⟨_,rfl,_,rfl,_,_,rfl,rfl,r2,_,_,_,rfl,rfl,SqL.of hl2,a1,_,rfl,_,rfl,r2,_,_,_,rfl,rfl,SqL.of hl2,a2,_,_,rfl,sle i,sle (i+1),g1,upd_same,?_,g3.write hacc⟩
    rw [List.range_succ,List.map_append,List.map_append];rfl
def cs (ss:List Str):List (List Nat):=ss.map fun z=>z.cps.toList
theorem cs_getD (ss:List Str) (i:Nat):(cs ss).getD i []=(ss.getD i Str.empty).cps.toList:=by
  unfold cs
  rw [List.getD_eq_getElem?_getD,List.getD_eq_getElem?_getD,List.getElem?_map]
  cases ss[i]? <;> rfl
theorem alk_lc (ss:List Str) (i:Nat):alk ss i=((W18.lc (cs ss) i:Nat):Int):=by
  unfold alk W18.lc
  by_cases h:i=0
  · rw [if_pos h,if_pos h];rfl
  · rw [if_neg h,if_neg h,cs_getD,cs_getD]
def unlS (ss:List Str) (n:Nat):List Str:=(W18.unl (cs ss) n).map mk
theorem unl_len {ss:List Str} (h:∀ i,(ss.getD i Str.empty).length≤60):∀ n,(unlS ss n).length≤60 * n
  | 0=>Nat.le_refl _
  | n+1=>by
    have ih:=unl_len h n
    unfold unlS at ih ⊢
    rw [W18.unl_succ,List.map_append,List.length_append]
    have:((W18.blk ((cs ss).getD n []) (W18.lc (cs ss) n)).map mk).length≤60:=by
      rw [List.length_map];unfold W18.blk;rw [List.length_map,List.length_range,cs_getD,cps_len]
      have:=h n
      omega
    omega
def sp_unlike:Sp:=fun vs H Q _=>∃ (t:Addr) (ups:List Int) (lab:Str),vs=[.ref t]∧TreeAt H t ups lab ∧
  ∀ (ss:List Str) (r:Addr) (H':Hp),ss.Perm (wordsS ups lab)→PyProof.Rows.sortedS ss=true→Same H H'→H r=none→H' r=some (.lst ((unlS ss ss.length).map V.str))→Q (.ref r) H'
theorem has_unlike (D:Df K mg "unlike_words" s_unlike_words) (B:Blt7 mg) (G_words_of:Has P w K mg base "words_of" k ["tree"] sp_words) (G_alike_of:Has P w K mg base "alike_of" k ["tree"] sp_alikes):Has P w K mg base "unlike_words" (k+1) ["tree"] sp_unlike:=by
  refine D.has sc_unlike_words (fun _ _ _ _ _ _ us hl=>match us,hl with | [_],_=>rfl) (fun vs H Q E h=>by obtain ⟨t,ups,lab,rfl,_⟩:=h;rfl) (fun f cdv A outer s H vs Q E hr h=>?_)
  obtain ⟨t,ups,lab,rfl,tr,q⟩:=h
  refine ⟨_,(pss_cons (ps_set (i:=1) sc_unlike_words.nd rfl (by first | exact Or.inl rfl | exact Or.inr rfl) (pe_lst pa_nil))
  (pss_cons (ps_for PassesOwn.never rfl (pi_zip rfl B.zip (pa_cons (pe_callB call_sorted_strs rfl B.sorted bt_sorted (pa_cons (pe_callH G_words_of hr rfl (pa_cons (pv 0) pa_nil)) pa_nil)) (pa_cons (pe_callH G_alike_of hr rfl (pa_cons (pv 0) pa_nil)) pa_nil))) (pg_tup rfl (pgs_cons (pg_name (i:=2) sc_unlike_words.nd rfl (by first | exact Or.inl rfl | exact Or.inr rfl)) (pgs_cons (pg_name (i:=3) sc_unlike_words.nd rfl (by first | exact Or.inl rfl | exact Or.inr rfl)) pgs_nil)))
  (pss_one (ps_expr (pe_bm PySem.F.plainAttrs_list PySem.F.slot_list_extend PySem.F.type_list_extend mt_extend (pv 1) (pa_cons (pe_comp rfl (pi_range2 rfl B.range (pa_cons (pe_op op_add (pv 3) pe_int) (pa_cons (pe_op op_add (pe_callB call_len_str rfl B.len bt_len (pa_cons (pv 2) pa_nil)) pe_int) pa_nil))) (NL:=["length"]) (ix:=[2]) (csc (defScope s_unlike_words) N_unlike_words) (fun cl C s₃ H₃ fp pins=>⟨(pg_name (i:=0) (show List.Nodup (["length", "word"]:List Str) from by decide +kernel) rfl (by first | exact Or.inl rfl | exact Or.inr rfl)),pifs_nil,(pe_slice sl_str (pv 1) po_none (po_some (pv 0)))⟩)) pa_nil)))))
  (pss_one (ps_ret (pv 1))))),?_⟩
  obtain ⟨_,_,_,ok⟩:=id tr
  have m60:=ok.most
  have lpos:=ok.pos
  have wl:=wordsS_len ups lab
  have wle:=wordsS_le ok
  refine ⟨(by show 0≤sizeLine;decide),fun r hr0=>?_⟩
  have s0:Same H (upd H r (.lst [])):=(Same.refl H).new hr0
  have h0:upd H r (.lst []) r=some (.lst []):=upd_same
  generalize upd H r (.lst [])=H0 at s0 h0
  refine ⟨_,rfl,t,ups,lab,rfl,tr.same s0,fun r1 H1 s1 hr1=>?_⟩
  rw [wordsV_eq] at hr1
  refine ⟨r1,_,rfl,SqL.of hr1,by omega,fun ss r2 hp hs hr2=>?_⟩
  have sl:=hp.length_eq
  have s2:Same H1 (upd H1 r2 (.lst (ss.map V.str))):=(Same.refl H1).new hr2
  have h2:upd H1 r2 (.lst (ss.map V.str)) r2=some (.lst (ss.map V.str)):=upd_same
  generalize upd H1 r2 (.lst (ss.map V.str))=H2 at s2 h2
  refine ⟨_,rfl,t,ups,lab,rfl,tr.same ((s0.trans s1).trans s2),fun ss' r3 H3 hp' hs' s3 hf3 hr3=>?_⟩
  have es:ss'=ss:=sorted_one hs' hs (hp'.trans hp.symm)
  subst es
  have sle:∀ i,(ss'.getD i Str.empty).length≤60:=fun i=>by
    rw [List.getD_eq_getElem?_getD]
    cases e:ss'[i]? with
    | none=>show Str.empty.length≤60;decide
    | some z=>exact wle z (hp.mem_iff.mp (List.mem_of_getElem? e))
  have h23:=s3 _ _ h2
  have s03:Same H0 H3:=(s1.trans s2).trans s3
  refine ⟨.lst r2,.lst r3,rfl,⟨_,.inl h23⟩,⟨_,.inl hr3⟩,?_⟩
  have hlen:(ss'.map V.str).length=((als ss' ss'.length).map V.int).length:=by rw [als_len,List.length_map]
  have n2:r2≠r:=(ne_of_none (s1 _ _ h0) hr2).symm
  have n3:r3≠r:=(ne_of_none (s2 _ _ (s1 _ _ h0)) hf3).symm
  refine for_zip (xs:=ss'.map V.str) (ys:=(als ss' ss'.length).map V.int) (fun i σ H'=>∃ o2 o3:Option V,σ=[some (.ref t),some (.ref r),o2,o3]∧Same H H'∧H' r=some (.lst ((unlS ss' i).map V.str))∧H' r2=some (.lst (ss'.map V.str))∧H' r3=some (.lst ((als ss' ss'.length).map V.int)))
    ⟨none,none,rfl,s0.trans s03,s03 _ _ h0,h23,hr3⟩ hlen (fun i σ H' hi h=>by obtain ⟨o2,o3,_,_,_,a,b⟩:=h;exact ⟨.inl a,.inl b⟩) ?_ ?_
  · rintro i x y σ H' p hx hy ⟨o2,o3,rfl,sX,g1,g2,g3⟩ hp0
    have hi:i < ss'.length:=by
      have:=(List.getElem?_eq_some_iff.mp hx).1
      rw [List.length_map] at this;exact this
    obtain rfl:x=.str (ss'.getD i Str.empty):=by
      rw [List.getElem?_map,List.getElem?_eq_getElem hi] at hx
      rw [List.getD_eq_getElem?_getD,List.getElem?_eq_getElem hi]
      exact (Option.some.inj hx).symm
    obtain rfl:y=.int (alk ss' i):=by
      unfold als at hy
      rw [List.getElem?_map,List.getElem?_map,List.getElem?_range hi] at hy
      exact (Option.some.inj hy).symm
    have za:=sle i
    have hstep:unlS ss' (i+1)=unlS ss' i++(W18.blk (ss'.getD i Str.empty).cps.toList (W18.lc (cs ss') i)).map mk:=by
      unfold unlS;rw [W18.unl_succ,List.map_append,cs_getD]
    have ul:=unl_len sle i
    rw [alk_lc]
    have ab:W18.lc (cs ss') i≤60:=by
      unfold W18.lc
      split
      · exact Nat.zero_le _
      · have:=(W16.lcp_le ((cs ss').getD (i - 1) []) ((cs ss').getD i [])).2
        have e2:=congrArg List.length (cs_getD ss' i)
        rw [cps_len] at e2
        omega
    generalize W18.lc (cs ss') i=a at hstep ab
    generalize ss'.getD i Str.empty=z at za hstep
    have cz:=cps_len z
    have z1:z.length≤sizeLine:=Nat.le_of_lt (small1000 (by omega))
    refine ⟨p,_,rfl,SqT.of upd_same,rfl,_,_,rfl,_,_,rfl,rfl,?_⟩
    have sP:Same H' (upd H' p (.tup [.str z,.int (a:Int)])):=(Same.refl H').new hp0
    generalize upd H' p (.tup [.str z,.int (a:Int)])=HP at sP
    have g1P:=sP _ _ g1
    refine ⟨_,rfl,.inl ⟨rfl,_,SqL.of g1P⟩,_,rfl,_,_,rfl,rfl,_,rfl,z,rfl,z1,_,_,rfl,rfl,_,_,rfl,⟨by omega,by omega,by omega,by omega⟩,fun acc hacc=>?_⟩
    have eN:((z.length:Int)+1 - ((a:Int)+1)).toNat=z.cps.toList.length - a:=by rw [cz];omega
    refine comp_by ((z.length:Int)+1 - ((a:Int)+1)).toNat (by rw [eN];omega) (fun j ys HX=>HX acc=some (.lst ys)∧ys=((List.range j).map fun n=>mk (z.cps.toList.take (a+1+n))).map V.str∧Same HP HX)
      (fun j ys HX h=>⟨h.1,by rw [h.2.1,List.length_map,List.length_map,List.length_range];exact Nat.le_refl _⟩) ⟨upd_same,rfl,(Same.refl HP).new hacc⟩ ?_ ?_
    · rintro ys HX ⟨e1,rfl,e3⟩
      refine ⟨Nat.le_refl _,?_⟩
      rw [eN] at e1
      have eb:(List.range (z.cps.toList.length - a)).map (fun n=>mk (z.cps.toList.take (a+1+n)))=(W18.blk z.cps.toList a).map mk:=by
        unfold W18.blk;rw [List.map_map];rfl
      rw [eb] at e1
      refine ⟨r,acc,_,_,rfl,rfl,e3 _ _ g1P,e1,?_,?_⟩
      · rw [List.length_map,List.length_map,List.length_map]
        have:(W18.blk z.cps.toList a).length≤60:=by unfold W18.blk;rw [List.length_map,List.length_range];omega
        exact Nat.le_of_lt (small10000 (by omega))
      · have sA:=sX.trans (sP.trans e3)
        refine ⟨_,_,rfl,sA.write hr0,?_,?_,?_⟩
        · rw [upd_same,hstep,List.map_append]
        · rw [upd_ne n2];exact e3 _ _ (sP _ _ g2)
        · rw [upd_ne n3];exact e3 _ _ (sP _ _ g3)
    · rintro j ys HX hj ⟨e1,rfl,e3⟩
      refine ⟨hj,?_⟩
      rintro x HY ⟨rfl,rfl⟩
      refine ⟨rfl,?_⟩
      have ce:cutS z none (some ((a:Int)+1+(j:Int)))=mk (z.cps.toList.take (a+1+j)):=by
        apply str_ext
        rw [show (a:Int)+1+(j:Int)=((a+1+j:Nat):Int) by omega,cutS_to];rfl
      refine ⟨_,rfl,_,rfl,_,rfl,z,rfl,z1,e1,upd_same,?_,e3.write hacc⟩
      rw [List.range_succ,List.map_append,List.map_append,ce];rfl
  · rintro σ H' ⟨o2,o3,rfl,sX,g1,g2,g3⟩
    rw [List.length_map] at g1
    exact ⟨_,rfl,q ss' r H' hp hs sX hr0 g1⟩
def prefN (ups:List Int) (lab:Str) (i:Nat) (z:Str):Prop:=z.cps.toList≠[]∧∃ j,j < i∧z.cps.toList <+: W ups lab.cps.toList j
theorem mk_of (z:Str):mk z.cps.toList=z:=str_ext rfl
theorem mem_unlS {ups:List Int} {lab:Str} {ss:List Str} (hp:ss.Perm (wordsS ups lab)) (z:Str):z∈unlS ss ss.length ↔ prefN ups lab ups.length z:=by
  have key:∀ i,i < ss.length→∃ j,j < ups.length∧(ss.getD i Str.empty).cps.toList=W ups lab.cps.toList j:=fun i hi=>by
    have m:ss.getD i Str.empty∈wordsS ups lab:=hp.mem_iff.mp (by rw [List.getD_eq_getElem?_getD,List.getElem?_eq_getElem hi];exact List.getElem_mem hi)
    obtain ⟨j,hj,e⟩:=List.mem_map.mp m
    exact ⟨j,List.mem_range.mp hj,by rw [← e];rfl⟩
  unfold unlS prefN
  rw [List.mem_map]
  constructor
  · rintro ⟨p,hp',rfl⟩
    obtain ⟨i,hi,a,b⟩:=W18.mem_unl.mp hp'
    obtain ⟨j,hj,e⟩:=key i hi
    rw [cs_getD,e] at a
    refine ⟨?_,j,hj,a⟩
    rw [mk_cps];intro z;subst z;simp at b
  · rintro ⟨a,j,hj,b⟩
    refine ⟨z.cps.toList,?_,mk_of z⟩
    have m:mk (W ups lab.cps.toList j)∈ss:=hp.mem_iff.mpr (List.mem_map.mpr ⟨j,List.mem_range.mpr hj,rfl⟩)
    obtain ⟨i,hi,e⟩:=List.getElem_of_mem m
    refine W18.all_in a i hi ?_
    rw [cs_getD,List.getD_eq_getElem?_getD,List.getElem?_eq_getElem hi]
    show z.cps.toList <+: (ss[i]).cps.toList
    rw [e];exact b
theorem prefN_len {ups:List Int} {lab:Str} (ok:TreeOk ups lab.cps.toList) {z:Str} (h:prefN ups lab ups.length z):1≤z.length∧z.length≤60:=by
  obtain ⟨a,j,hj,b⟩:=h
  have l1:=W_len ok (j+1) j (by omega) hj
  have l2:=b.length_le
  have l3:=List.length_pos_iff.mpr a
  have m:=ok.most
  rw [cps_len] at l2 l3
  omega
end
end S60
namespace S60
open PySem L2 W7
section
variable {P:Program} {w:World} {K:PySem.W.Frag} {mg:Str→Option Value} {base:Heap} {k:Nat}
def sp_both:Sp:=fun vs H Q _=>∃ p:Addr,vs=[.ref p]∧Pool H p∧∀ (r t1 t2:Addr) (ups1 ups2:List Int) (lab1 lab2:Str) (H':Hp),Kp p H H'→H' r=some (.tup [.ref t1,.ref t2])→TreeAt H' t1 ups1 lab1→TreeAt H' t2 ups2 lab2→Low lab1.cps.toList→Low lab2.cps.toList→Q (.ref r) H'
theorem has_both (D:Df K mg "_law_both" s_law_both) (B:Blt7 mg) (G_law_take:Has P w K mg base "_law_take" k ["pool", "many"] sp_take) (G_law_letters:Has P w K mg base "_law_letters" k ["pool"] sp_letters) (G_law_tree:Has P w K mg base "_law_tree" k ["pool", "most", "letters"] sp_tree):Has P w K mg base "_law_both" (k+1) ["pool"] sp_both:=by
  refine D.has sc_law_both (fun _ _ _ _ _ _ us hl=>match us,hl with | [_],_=>rfl) (fun vs H Q E h=>by obtain ⟨p,rfl,_⟩:=h;rfl) (fun f cdv A outer s H vs Q E hr h=>?_)
  obtain ⟨p,rfl,hp,q⟩:=h
  refine ⟨_,(pss_cons (ps_set (i:=1) sc_law_both.nd rfl (by first | exact Or.inl rfl | exact Or.inr rfl) (pe_callH G_law_take hr rfl (pa_cons (pv 0) (pa_cons pe_int pa_nil))))
  (pss_cons (ps_set (i:=2) sc_law_both.nd rfl (by first | exact Or.inl rfl | exact Or.inr rfl) (pe_callH G_law_letters hr rfl (pa_cons (pv 0) pa_nil)))
  (pss_cons (ps_set (i:=3) sc_law_both.nd rfl (by first | exact Or.inl rfl | exact Or.inr rfl) (pe_callH G_law_tree hr rfl (pa_cons (pv 0) (pa_cons pe_int (pa_cons (pv 2) pa_nil)))))
  (pss_cons (ps_set (i:=4) sc_law_both.nd rfl (by first | exact Or.inl rfl | exact Or.inr rfl) (pe_callH G_law_tree hr rfl (pa_cons (pv 0) (pa_cons pe_int (pa_cons (pe_ix ix_list (pe_lst (pa_cons (pv 2) (pa_cons (pe_callH G_law_letters hr rfl (pa_cons (pv 0) pa_nil)) pa_nil))) (pe_callTy call_int1 rfl B.int_ bt_int (pa_cons (pe_cmpR op_eq (pv 1) pe_int (nomark _)) pa_nil)) (fun _ _=>rfl)) pa_nil)))))
  (pss_cons (ps_if (pt_cmpR op_eq (pv 1) pe_int (nomark _))
  (pss_one (ps_set (i:=4) sc_law_both.nd rfl (by first | exact Or.inl rfl | exact Or.inr rfl) (pv 3)))
  pss_nil)
  (pss_cons (ps_if (pt_cmpR op_eq (pv 1) pe_int (nomark _))
  (pss_cons (ps_set (i:=5) sc_law_both.nd rfl (by first | exact Or.inl rfl | exact Or.inr rfl) (pe_callH G_law_take hr rfl (pa_cons (pv 0) (pa_cons (pe_callB call_len_str rfl B.len bt_len (pa_cons (pe_ix ix_tup (pv 3) pe_int (fun _ _=>rfl)) pa_nil)) pa_nil))))
  (pss_cons (ps_set (i:=6) sc_law_both.nd rfl (by first | exact Or.inl rfl | exact Or.inr rfl) (pe_ix ix_list (pv 2) (pe_callH G_law_take hr rfl (pa_cons (pv 0) (pa_cons (pe_callB call_len_seq rfl B.len bt_len (pa_cons (pv 2) pa_nil)) pa_nil))) (fun _ _=>rfl)))
  (pss_one (ps_set (i:=4) sc_law_both.nd rfl (by first | exact Or.inl rfl | exact Or.inr rfl) (pe_tup (pa_cons (pe_ix ix_tup (pv 3) pe_int (fun _ _=>rfl)) (pa_cons (pe_op op_add_str (pe_op op_add_str (pe_slice sl_str (pe_ix ix_tup (pv 3) pe_int (fun _ _=>rfl)) po_none (po_some (pv 5))) (pv 6)) (pe_slice sl_str (pe_ix ix_tup (pv 3) pe_int (fun _ _=>rfl)) (po_some (pe_op op_add (pv 5) pe_int)) po_none)) pa_nil)))))))
  pss_nil)
  (pss_one (ps_ret (pe_tup (pa_cons (pv 3) (pa_cons (pv 4) pa_nil))))))))))),?_⟩
  refine ⟨_,rfl,p,6,rfl,hp,by decide,by decide,fun kind H1 a0 a1 kp1=>?_⟩
  refine ⟨_,rfl,p,rfl,kp1.pool,fun ℓ cs H2 kp2 hℓ cs0 cs26 clw hf=>?_⟩
  refine ⟨_,rfl,_,rfl,p,ℓ,cs,rfl,kp2.pool,hℓ,cs0,cs26,clw,fun t1 ups1 lab1 H3 kp3 tr3 lw1=>?_⟩
  have hℓp:ℓ≠p:=ne_pool kp2.pool hℓ (oneV_ne cs0)
  have ku3:=(kp1.trans kp2).trans kp3
  have hℓ3:=kp3.keep _ _ hℓp hℓ
  refine ⟨_,rfl,_,rfl,_,rfl,p,rfl,kp3.pool,fun ℓ2 cs2 H4 kp4 hℓ2 cs20 cs226 clw2 hf2=>?_⟩
  have hℓ2p:ℓ2≠p:=ne_pool kp4.pool hℓ2 (oneV_ne cs20)
  have ku4:=ku3.trans kp4
  have hℓ4:=kp4.keep _ _ hℓp hℓ3
  refine ⟨(by show 2≤sizeLine;decide),fun m hm=>?_⟩
  have kn5:=(Kp.refl kp4.pool).new (o:=.lst [.ref ℓ,.ref ℓ2]) hm
  have ku5:=ku4.trans kn5
  have hm5:upd H4 m (.lst [.ref ℓ,.ref ℓ2]) m=some (.lst [.ref ℓ,.ref ℓ2]):=upd_same
  have hℓ5:=kn5.keep _ _ hℓp hℓ4
  have hℓ25:=kn5.keep _ _ hℓ2p hℓ2
  have tr5:=(tr3.kp kp3.pool kp4).kp kp4.pool kn5
  generalize upd H4 m (.lst [.ref ℓ,.ref ℓ2])=H5 at kn5 ku5 hm5 hℓ5 hℓ25 tr5
  have two:∃ (ℓ':Addr) (cs':List Nat),atI [V.ref ℓ,.ref ℓ2] (if decide (V.int kind=V.int 0)=true then 1 else 0)=some (.ref ℓ')∧H5 ℓ'=some (.lst (oneV cs'))∧0 < cs'.length∧cs'.length≤26∧Low cs':=by
    by_cases c:decide (V.int kind=V.int 0)=true
    · rw [if_pos c];exact ⟨ℓ2,cs2,rfl,hℓ25,cs20,cs226,clw2⟩
    · rw [if_neg c];exact ⟨ℓ,cs,rfl,hℓ5,cs0,cs26,clw⟩
  obtain ⟨ℓ',cs',hat,hℓ',cs'0,cs'26,clw'⟩:=two
  refine ⟨_,rfl,rfl,.inr ⟨_,rfl,m,_,_,_,rfl,rfl,SqL.of hm5,hat,?_⟩⟩
  refine ⟨p,ℓ',cs',rfl,ku5.pool,hℓ',cs'0,cs'26,clw',fun t2 ups2 lab2 H6 kp6 tr6 lw2=>?_⟩
  have ku6:=ku5.trans kp6
  have tr16:=tr5.kp kn5.pool kp6
  have hℓ6:=kp6.keep _ _ hℓp hℓ5
  have fin:∀ (t':Addr) (ups':List Int) (lab':Str) (H':Hp),Kp p H H'→TreeAt H' t1 ups1 lab1→TreeAt H' t' ups' lab'→Low lab'.cps.toList→∀ r,H' r=none→Q (.ref r) (upd H' r (.tup [.ref t1,.ref t'])):=fun t' ups' lab' H' kp a b lw r hr=>
    q r t1 t' ups1 ups' lab1 lab' _ (kp.new hr) upd_same (a.same ((Same.refl H').new hr)) (b.same ((Same.refl H').new hr)) lw1 lw
  refine ⟨_,rfl,rfl,_,rfl,ite2 (fun c=>?_) (fun c=>?_)⟩
  · have c':kind=4:=by have:=of_decide_eq_true c;injection this
    refine ⟨_,rfl,_,rfl,rfl,_,rfl,ite2 (fun c2=>?_) (fun c2=>?_)⟩
    · have:kind=5:=by have:=of_decide_eq_true c2;injection this
      omega
    · exact ⟨_,rfl,_,rfl,(by show 2≤sizeLine;decide),fun r hr=>fin t1 ups1 lab1 H6 ku6 tr16 tr16 lw1 r hr⟩
  · refine ⟨_,rfl,rfl,_,rfl,ite2 (fun c2=>?_) (fun c2=>?_)⟩
    rotate_left
    · exact ⟨_,rfl,_,rfl,(by show 2≤sizeLine;decide),fun r hr=>fin t2 ups2 lab2 H6 ku6 tr16 tr6 lw2 r hr⟩
    obtain ⟨u1,ht1,hu1,ok1⟩:=id tr16
    have m1:=ok1.most
    have l1:=ok1.pos
    have e1:lab1.length=ups1.length:=by rw [ok1.len];simp [Str.length]
    have lz1:lab1.length≤sizeLine:=by rw [e1];exact Nat.le_of_lt (small1000 (by omega))
    refine ⟨_,rfl,_,rfl,t1,_,_,_,rfl,rfl,SqT.of ht1,rfl,lab1,rfl,lz1,p,_,rfl,ku6.pool,by omega,by omega,fun at0 H7 b0 b1 kp7=>?_⟩
    have ku7:=ku6.trans kp7
    have tr7:=tr16.kp kp6.pool kp7
    have hℓ7:=kp7.keep _ _ hℓp hℓ6
    have ocl:(oneV cs).length=cs.length:=oneV_len cs
    refine ⟨_,rfl,_,rfl,_,rfl,ℓ,_,rfl,.inl (SqL.of hℓ7),p,_,rfl,kp7.pool,by omega,by omega,fun n8 H8 d0 d1 kp8=>?_⟩
    have ku8:=ku7.trans kp8
    have tr8:=tr7.kp kp7.pool kp8
    have hℓ8:=kp8.keep _ _ hℓp hℓ7
    obtain ⟨c8,hc8,hcm8⟩:=oneV_at (cs:=cs) (i:=n8) d0 (by omega)
    refine ⟨ℓ,_,_,_,rfl,rfl,SqL.of hℓ8,hc8,?_⟩
    obtain ⟨u1',ht8,hu8,_⟩:=id tr8
    obtain ⟨m,hm⟩:∃ m:Nat,at0=(m:Int):=⟨at0.toNat,by omega⟩
    subst hm
    have ml:m < lab1.cps.toList.length:=by rw [← ok1.len];omega
    have e5:cutS lab1 none (some (m:Int))=mk (lab1.cps.toList.take m):=str_ext (cutS_to lab1 m)
    have e6:cutS lab1 (some ((m:Int)+1)) none=mk (lab1.cps.toList.drop (m+1)):=str_ext (by rw [mk_cps];exact_mod_cast cutS_from lab1 (m+1))
    have e7:mk (lab1.cps.toList.take m)++(⟨#[c8]⟩:Str)=mk (lab1.cps.toList.take m++[c8]):=str_ext (by rw [app_list];rfl)
    have e8:mk (lab1.cps.toList.take m++[c8])++mk (lab1.cps.toList.drop (m+1))=mk ((lab1.cps.toList.take m++[c8])++lab1.cps.toList.drop (m+1)):=str_ext (by rw [app_list];rfl)
    have ll:((lab1.cps.toList.take m++[c8])++lab1.cps.toList.drop (m+1)).length=ups1.length:=by
      rw [List.length_append,List.length_append,List.length_take,List.length_drop,List.length_singleton,ok1.len];omega
    refine ⟨_,rfl,t1,_,_,_,rfl,rfl,SqT.of ht8,rfl,_,rfl,t1,_,_,_,rfl,rfl,SqT.of ht8,rfl,_,rfl,_,rfl,_,rfl,lz1,_,rfl,_,_,rfl,rfl,?_,?_⟩
    · rw [e5,mk_len,List.length_take,show (⟨#[c8]⟩:Str).length=1 from rfl];exact Nat.le_of_lt (small1000 (by omega))
    refine ⟨_,rfl,t1,_,_,_,rfl,rfl,SqT.of ht8,rfl,_,rfl,_,_,rfl,rfl,_,rfl,_,rfl,lz1,_,_,rfl,rfl,?_,?_⟩
    · rw [e5,e6,e7,mk_len,mk_len,← List.length_append,ll];exact Nat.le_of_lt (small1000 (by omega))
    rw [e5,e6,e7,e8]
    refine ⟨(by show 2≤sizeLine;decide),fun t' ht'=>?_⟩
    have kn9:=(Kp.refl kp8.pool).new (o:=.tup [.ref u1',.str (mk ((lab1.cps.toList.take m++[c8])++lab1.cps.toList.drop (m+1)))]) ht'
    refine ⟨_,rfl,_,rfl,(by show 2≤sizeLine;decide),fun r hr=>fin t' ups1 (mk ((lab1.cps.toList.take m++[c8])++lab1.cps.toList.drop (m+1))) _ (ku8.trans kn9) (tr8.kp kp8.pool kn9) ⟨u1',upd_same,?_,?_⟩ (Low.app (Low.app (fun c hc=>lw1 c (List.mem_of_mem_take hc)) (Low.one (clw _ hcm8))) (fun c hc=>lw1 c (List.mem_of_mem_drop hc))) r hr⟩
    · rw [upd_ne (ne_of_none hu8 ht')];exact hu8
    · exact ⟨by rw [mk_cps,ll],ok1.pos,ok1.most,ok1.root,ok1.up⟩
end
end S60
namespace S60
open PySem L2 W7
theorem unl_max {ups:List Int} {lab:Str} (ok:TreeOk ups lab.cps.toList) {ss:List Str} (hp:ss.Perm (wordsS ups lab)):(unlS ss ss.length).length≤3600:=by
  have wle:=wordsS_le ok
  have m:=ok.most
  have l:=hp.length_eq
  rw [wordsS_len] at l
  have:=unl_len (ss:=ss) (fun i=>by
    rw [List.getD_eq_getElem?_getD]
    cases e:ss[i]? with
    | none=>show Str.empty.length≤60;decide
    | some z=>exact wle z (hp.mem_iff.mp (List.mem_of_getElem? e))) ss.length
  omega
structure Ls (P:Str→Prop) (ss:List Str):Prop where
  nd:ss.Nodup
  mem:∀ z,z∈ss ↔ P z
  srt:PyProof.Rows.sortedS ss=true
  len:ss.length≤3600
theorem Ls.one {P:Str→Prop} {a b:List Str} (h:Ls P a) (h':Ls P b):a=b:=
  sorted_one h.srt h'.srt ((List.perm_ext_iff_of_nodup h.nd h'.nd).mpr fun x=>by rw [h.mem,h'.mem])
def Fst (sg:Int) (P:Str→Prop) (z:Str):Prop:=P z∧∀ x,P x→sg * (x.length:Int)≤sg * (z.length:Int)∧(sg * (x.length:Int)=sg * (z.length:Int)→¬ x.cps.toList < z.cps.toList)
theorem Fst.one {sg:Int} {P:Str→Prop} {y z:Str} (h:Fst sg P y) (h':Fst sg P z):y=z:=by
  obtain ⟨a1,a2⟩:=h.2 z h'.1
  obtain ⟨b1,b2⟩:=h'.2 y h.1
  have e:sg * (z.length:Int)=sg * (y.length:Int):=by omega
  exact str_ext (lt_asymm' _ _ (a2 e) (b2 e.symm))
theorem best_fst {sg:Int} {P:Str→Prop} {ss:List Str} (h:Ls P ss) {b:Nat} {z:Str} (hb:ss[b]?=some z) (best:Best (fun i=>sg * (((ss.getD i Str.empty).length:Nat):Int)) b ss.length):Fst sg P z:=by
  obtain ⟨bl,eb⟩:=List.getElem?_eq_some_iff.mp hb
  have gb:ss.getD b Str.empty=z:=by rw [List.getD_eq_getElem?_getD,hb];rfl
  refine ⟨(h.mem z).mp (List.mem_of_getElem? hb),fun x hx=>?_⟩
  obtain ⟨i,hi,ex⟩:=List.getElem_of_mem ((h.mem x).mpr hx)
  have gx:ss.getD i Str.empty=x:=by rw [List.getD_eq_getElem?_getD,List.getElem?_eq_getElem hi];exact ex
  obtain ⟨c1,c2⟩:=best.2 i hi
  dsimp only at c1 c2
  rw [gx,gb] at c1 c2
  refine ⟨c1,fun e=>?_⟩
  rcases Nat.lt_trichotomy i b with q | q | q
  · have:=c2 q;omega
  · subst q
    rw [← ex,← eb];exact List.lt_irrefl _
  · have:=List.pairwise_iff_getElem.mp (sorted_pair ss h.srt) b i bl hi q
    rw [ex,eb] at this;exact this
section
variable {P:Program} {w:World} {K:PySem.W.Frag} {mg:Str→Option Value} {base:Heap} {k:Nat}
def Cm (ups1 ups2:List Int) (lab1 lab2:Str) (z:Str):Prop:=prefN ups1 lab1 ups1.length z∧prefN ups2 lab2 ups2.length z
def Ow (ups1 ups2:List Int) (lab1 lab2:Str) (z:Str):Prop:=prefN ups1 lab1 ups1.length z∧¬ prefN ups2 lab2 ups2.length z
def sp_common:Sp:=fun vs H Q _=>∃ (t1 t2:Addr) (ups1 ups2:List Int) (lab1 lab2:Str),vs=[.ref t1,.ref t2]∧TreeAt H t1 ups1 lab1∧TreeAt H t2 ups2 lab2 ∧
  ∀ (ss:List Str) (r:Addr) (H':Hp),Ls (Cm ups1 ups2 lab1 lab2) ss→Same H H'→H' r=some (.lst (ss.map V.str))→Q (.ref r) H'
theorem has_common (D:Df K mg "common_words" s_common_words) (B:Blt7 mg) (G_unlike_words:Has P w K mg base "unlike_words" k ["tree"] sp_unlike):Has P w K mg base "common_words" (k+1) ["one", "other"] sp_common:=by
  refine D.has sc_common_words (fun _ _ _ _ _ _ us hl=>match us,hl with | [_,_],_=>rfl) (fun vs H Q E h=>by obtain ⟨t1,t2,ups1,ups2,lab1,lab2,rfl,_⟩:=h;rfl) (fun f cdv A outer s H vs Q E hr h=>?_)
  obtain ⟨t1,t2,ups1,ups2,lab1,lab2,rfl,tr1,tr2,q⟩:=h
  refine ⟨_,(pss_one (ps_ret (pe_callB (call_sorted_setQ w rfl) rfl B.sorted bt_sorted' (pa_cons (pe_op (op_and_setW w) (pe_callTy (call_set_textsW w rfl) rfl B.set_ bt_set (pa_cons (pe_callH G_unlike_words hr rfl (pa_cons (pv 0) pa_nil)) pa_nil)) (pe_callTy (call_set_textsW w rfl) rfl B.set_ bt_set (pa_cons (pe_callH G_unlike_words hr rfl (pa_cons (pv 1) pa_nil)) pa_nil))) pa_nil)))),?_⟩
  obtain ⟨_,_,_,ok1⟩:=id tr1
  obtain ⟨_,_,_,ok2⟩:=id tr2
  refine ⟨_,rfl,t1,ups1,lab1,rfl,tr1,fun ss r H1 hp hs s1 f1 h1=>?_⟩
  have l1:=unl_max ok1 hp
  refine ⟨r,_,rfl,SqL.of h1,by omega,fun a ha=>?_⟩
  generalize hJ:upd H1 a _=H2
  have s2:Same H1 H2:=by rw [← hJ];exact (Same.refl H1).new ha
  have h2:H2 a=some (setO w a (unlS ss ss.length) (unlS ss ss.length).length):=by rw [← hJ];exact upd_same
  clear hJ
  refine ⟨_,rfl,t2,ups2,lab2,rfl,(tr2.same s1).same s2,fun ss' r' H3 hp' hs' s3 f3 h3=>?_⟩
  have l2:=unl_max ok2 hp'
  refine ⟨r',_,rfl,SqL.of h3,by omega,fun b hb=>?_⟩
  have ab:a≠b:=ne_of_none (s3 _ _ h2) hb
  generalize hJ:upd H3 b _=H4
  have s4:Same H3 H4:=by rw [← hJ];exact (Same.refl H3).new hb
  have h4:H4 b=some (setO w b (unlS ss' ss'.length) (unlS ss' ss'.length).length):=by rw [← hJ];exact upd_same
  clear hJ
  have s14:=((s1.trans s2).trans s3).trans s4
  refine ⟨a,b,_,_,_,_,rfl,rfl,ab,s4 _ _ (s3 _ _ h2),h4,by omega,by omega,fun c U n hc hn hm=>?_⟩
  refine ⟨c,U,n,rfl,upd_same,by omega,fun ss2 r2 nd mem srt len hr2=>?_⟩
  refine q ss2 r2 _ ⟨nd,fun z=>?_,srt,by omega⟩ ((s14.new hc).new hr2) upd_same
  rw [mem,hm,mem_unlS hp,mem_unlS hp'];rfl
def sp_ccount:Sp:=fun vs H Q _=>∃ (t1 t2:Addr) (ups1 ups2:List Int) (lab1 lab2:Str),vs=[.ref t1,.ref t2]∧TreeAt H t1 ups1 lab1∧TreeAt H t2 ups2 lab2 ∧
  ∀ (ss:List Str) (H':Hp),Ls (Cm ups1 ups2 lab1 lab2) ss→Same H H'→Q (.int (ss.length:Int)) H'
theorem has_ccount (D:Df K mg "count_common" s_count_common) (B:Blt7 mg) (G_common_words:Has P w K mg base "common_words" k ["one", "other"] sp_common):Has P w K mg base "count_common" (k+1) ["one", "other"] sp_ccount:=by
  refine D.has sc_count_common (fun _ _ _ _ _ _ us hl=>match us,hl with | [_,_],_=>rfl) (fun vs H Q E h=>by obtain ⟨t1,t2,ups1,ups2,lab1,lab2,rfl,_⟩:=h;rfl) (fun f cdv A outer s H vs Q E hr h=>?_)
  obtain ⟨t1,t2,ups1,ups2,lab1,lab2,rfl,tr1,tr2,q⟩:=h
  refine ⟨_,(pss_one (ps_ret (pe_callB call_len_seq rfl B.len bt_len (pa_cons (pe_callH G_common_words hr rfl (pa_cons (pv 0) (pa_cons (pv 1) pa_nil))) pa_nil)))),?_⟩
  refine ⟨_,rfl,_,rfl,t1,t2,ups1,ups2,lab1,lab2,rfl,tr1,tr2,fun ss r H1 ls s1 h1=>⟨r,_,rfl,.inl (SqL.of h1),?_⟩⟩
  have:=q ss H1 ls s1
  rw [List.length_map];exact this
def sp_longest:Sp:=fun vs H Q _=>∃ (t1 t2:Addr) (ups1 ups2:List Int) (lab1 lab2:Str),vs=[.ref t1,.ref t2]∧TreeAt H t1 ups1 lab1∧TreeAt H t2 ups2 lab2 ∧
  ∀ (z:Str) (H':Hp),Same H H'→((∀ x,¬ Cm ups1 ups2 lab1 lab2 x)∧z=Str.ofString "" ∨ Fst 1 (Cm ups1 ups2 lab1 lab2) z)→Q (.str z) H'
theorem has_longest (D:Df K mg "longest_common" s_longest_common) (B:Blt7 mg) (G_common_words:Has P w K mg base "common_words" k ["one", "other"] sp_common):Has P w K mg base "longest_common" (k+1) ["one", "other"] sp_longest:=by
  refine D.has sc_longest_common (fun _ _ _ _ _ _ us hl=>match us,hl with | [_,_],_=>rfl) (fun vs H Q E h=>by obtain ⟨t1,t2,ups1,ups2,lab1,lab2,rfl,_⟩:=h;rfl) (fun f cdv A outer s H vs Q E hr h=>?_)
  obtain ⟨t1,t2,ups1,ups2,lab1,lab2,rfl,tr1,tr2,q⟩:=h
  refine ⟨_,(pss_one (ps_ret (pe_maxLen K rfl rfl B.max rfl B.len (pe_callH G_common_words hr rfl (pa_cons (pv 0) (pa_cons (pv 1) pa_nil))) pe_str))),?_⟩
  obtain ⟨_,_,_,ok1⟩:=id tr1
  refine ⟨_,rfl,_,rfl,t1,t2,ups1,ups2,lab1,lab2,rfl,tr1,tr2,fun ss r H1 ls s1 h1=>?_⟩
  refine ⟨r,ss,rfl,SqL.of h1,fun z hz=>?_,fun e=>?_,fun b z H3 hb best s3=>?_⟩
  · have:=(prefN_len ok1 ((ls.mem z).mp hz).1).2;omega
  · exact q _ H1 s1 (.inl ⟨(fun x hx=>by have:=(ls.mem x).mpr hx;rw [e] at this;cases this),rfl⟩)
  · exact q _ H3 (s1.trans s3) (.inr (best_fst ls hb best))
def sp_shortest:Sp:=fun vs H Q _=>∃ (t1 t2:Addr) (ups1 ups2:List Int) (lab1 lab2:Str),vs=[.ref t1,.ref t2]∧TreeAt H t1 ups1 lab1∧TreeAt H t2 ups2 lab2 ∧
  ∀ (v:V) (H':Hp),Same H H'→((∀ x,¬ Ow ups1 ups2 lab1 lab2 x)∧v=.non∨∃ z,v=.str z∧Fst (-1) (Ow ups1 ups2 lab1 lab2) z)→Q v H'
theorem has_shortest (D:Df K mg "shortest_own" s_shortest_own) (B:Blt7 mg) (G_unlike_words:Has P w K mg base "unlike_words" k ["tree"] sp_unlike):Has P w K mg base "shortest_own" (k+1) ["one", "other"] sp_shortest:=by
  refine D.has sc_shortest_own (fun _ _ _ _ _ _ us hl=>match us,hl with | [_,_],_=>rfl) (fun vs H Q E h=>by obtain ⟨t1,t2,ups1,ups2,lab1,lab2,rfl,_⟩:=h;rfl) (fun f cdv A outer s H vs Q E hr h=>?_)
  obtain ⟨t1,t2,ups1,ups2,lab1,lab2,rfl,tr1,tr2,q⟩:=h
  refine ⟨_,(pss_one (ps_ret (pe_minLen K rfl rfl B.min rfl B.len (pe_callB (call_sorted_setQ w rfl) rfl B.sorted bt_sorted' (pa_cons (pe_op (op_sub_setW w) (pe_callTy (call_set_textsW w rfl) rfl B.set_ bt_set (pa_cons (pe_callH G_unlike_words hr rfl (pa_cons (pv 0) pa_nil)) pa_nil)) (pe_callTy (call_set_textsW w rfl) rfl B.set_ bt_set (pa_cons (pe_callH G_unlike_words hr rfl (pa_cons (pv 1) pa_nil)) pa_nil))) pa_nil)) pe_non))),?_⟩
  obtain ⟨_,_,_,ok1⟩:=id tr1
  obtain ⟨_,_,_,ok2⟩:=id tr2
  refine ⟨_,rfl,t1,ups1,lab1,rfl,tr1,fun ss r H1 hp hs s1 f1 h1=>?_⟩
  have l1:=unl_max ok1 hp
  refine ⟨r,_,rfl,SqL.of h1,by omega,fun a ha=>?_⟩
  generalize hJ:upd H1 a _=H2
  have s2:Same H1 H2:=by rw [← hJ];exact (Same.refl H1).new ha
  have h2:H2 a=some (setO w a (unlS ss ss.length) (unlS ss ss.length).length):=by rw [← hJ];exact upd_same
  clear hJ
  refine ⟨_,rfl,t2,ups2,lab2,rfl,(tr2.same s1).same s2,fun ss' r' H3 hp' hs' s3 f3 h3=>?_⟩
  have l2:=unl_max ok2 hp'
  refine ⟨r',_,rfl,SqL.of h3,by omega,fun b hb=>?_⟩
  generalize hJ:upd H3 b _=H4
  have s4:Same H3 H4:=by rw [← hJ];exact (Same.refl H3).new hb
  have h4:H4 b=some (setO w b (unlS ss' ss'.length) (unlS ss' ss'.length).length):=by rw [← hJ];exact upd_same
  clear hJ
  have s14:=((s1.trans s2).trans s3).trans s4
  refine ⟨a,b,_,_,_,_,rfl,rfl,s4 _ _ (s3 _ _ h2),h4,by omega,by omega,fun c U hc hm=>?_⟩
  refine ⟨c,U,_,rfl,upd_same,by omega,fun ss2 r2 nd mem srt len hr2=>?_⟩
  have ls:Ls (Ow ups1 ups2 lab1 lab2) ss2:=⟨nd,fun z=>by rw [mem,hm,mem_unlS hp,mem_unlS hp'];rfl,srt,by omega⟩
  have s6:=(s14.new hc).new (o:=.lst (ss2.map V.str)) hr2
  refine ⟨r2,ss2,rfl,SqL.of upd_same,fun z hz=>?_,fun e=>?_,fun b z H3 hb best s3=>?_⟩
  · have:=(prefN_len ok1 ((ls.mem z).mp hz).1).2;omega
  · exact q _ _ s6 (.inl ⟨(fun x hx=>by have:=(ls.mem x).mpr hx;rw [e] at this;cases this),rfl⟩)
  · exact q _ H3 (s6.trans s3) (.inr ⟨z,rfl,best_fst ls hb best⟩)
end
end S60
namespace S60
open PySem L2 W7
section
variable {P:Program} {w:World} {K:PySem.W.Frag} {mg:Str→Option Value} {base:Heap} {k:Nat}
theorem putK_in {kvs:List (Key × V)} {k:Key} (v:V) (h:k∈kvs.map (·.1)):(putK kvs k v).map (·.1)=kvs.map (·.1):=by
  have a:(kvs.any fun kv=>decide (kv.1=k))=true:=by
    obtain ⟨p,hp,e⟩:=List.mem_map.mp h
    exact List.any_eq_true.mpr ⟨p,hp,decide_eq_true e⟩
  unfold putK
  rw [if_pos a,List.map_map]
  refine List.map_congr_left fun p _=>?_
  show (if p.1=k then (p.1,v) else p).1=p.1
  split <;> rfl
theorem putK_out {kvs:List (Key × V)} {k:Key} (v:V) (h:¬ k∈kvs.map (·.1)):(putK kvs k v).map (·.1)=kvs.map (·.1)++[k]:=by
  have a:¬ (kvs.any fun kv=>decide (kv.1=k))=true:=fun a=>by
    obtain ⟨p,hp,e⟩:=List.any_eq_true.mp a
    exact h (List.mem_map.mpr ⟨p,hp,of_decide_eq_true e⟩)
  unfold putK
  rw [if_neg a,List.map_append];rfl
def Ks (kvs:List (Key × V)) (S:Str→Prop):Prop:=∃ zs:List Str,kvs.map (·.1)=zs.map Sum.inr∧zs.Nodup∧∀ z,z∈zs ↔ S z
theorem Ks.len {kvs:List (Key × V)} {S:Str→Prop} (h:Ks kvs S):∃ zs:List Str,kvs.map (·.1)=zs.map Sum.inr∧zs.Nodup∧(∀ z,z∈zs ↔ S z)∧zs.length=kvs.length:=by
  obtain ⟨zs,a,b,c⟩:=h
  have:=congrArg List.length a
  rw [List.length_map,List.length_map] at this
  exact ⟨zs,a,b,c,this.symm⟩
theorem Ks.put {kvs:List (Key × V)} {S S':Str→Prop} (h:Ks kvs S) (z:Str) (v:V) (e:∀ y,S' y ↔ S y∨y=z):Ks (putK kvs (.inr z) v) S':=by
  obtain ⟨zs,hk,nd,mem⟩:=h
  by_cases m:z∈zs
  · refine ⟨zs,?_,nd,fun y=>?_⟩
    · rw [putK_in v (by rw [hk];exact List.mem_map.mpr ⟨z,m,rfl⟩)];exact hk
    · rw [mem,e]
      exact ⟨.inl,fun h=>h.elim id fun h=>by rw [h];exact (mem z).mp m⟩
  · have nk:¬ (Sum.inr z:Key)∈kvs.map (·.1):=fun e=>by
      rw [hk] at e
      obtain ⟨y,hy,ey⟩:=List.mem_map.mp e
      injection ey with ey
      subst ey;exact m hy
    refine ⟨zs++[z],by rw [putK_out v nk,hk,List.map_append];rfl,?_,fun y=>?_⟩
    · rw [List.nodup_append]
      exact ⟨nd,by simp,fun a ha b hb e=>m (by rw [← List.mem_singleton.mp hb,← e];exact ha)⟩
    · rw [List.mem_append,List.mem_singleton,mem,e]
theorem Ks.congr {kvs:List (Key × V)} {S S':Str→Prop} (h:Ks kvs S) (e:∀ y,S' y ↔ S y):Ks kvs S':=
  let ⟨zs,a,b,c⟩:=h;⟨zs,a,b,fun z=>(c z).trans (e z).symm⟩
theorem putK_len (kvs:List (Key × V)) (k:Key) (v:V):(putK kvs k v).length≤kvs.length+1:=by
  unfold putK
  split
  · rw [List.length_map];omega
  · rw [List.length_append];simp
theorem prefix_snoc {p l:List Nat} {c:Nat} (h:p <+: l++[c]):p <+: l∨p=l++[c]:=by
  obtain ⟨t,e⟩:=h
  rcases List.eq_nil_or_concat t with rfl | ⟨t',x,rfl⟩
  · exact .inr (by simpa using e)
  · left
    rw [List.concat_eq_append,← List.append_assoc] at e
    exact ⟨t',(List.append_inj' e rfl).1⟩
def preL (l:List Nat) (z:Str):Prop:=z.cps.toList≠[]∧z.cps.toList <+: l
def sp_read:Sp:=fun vs H Q _=>∃ (t:Addr) (ups:List Int) (lab:Str),vs=[.ref t]∧TreeAt H t ups lab ∧
  ∀ (d:Addr) (kvs:List (Key × V)) (H':Hp),Same H H'→H d=none→H' d=some (.dK kvs)→Ks kvs (prefN ups lab ups.length)→kvs.length≤3600→Q (.ref d) H'
theorem has_read (D:Df K mg "_law_read" s_law_read) (B:Blt mg):Has P w K mg base "_law_read" (k+1) ["tree"] sp_read:=by
  refine D.has sc_law_read (fun _ _ _ _ _ _ us hl=>match us,hl with | [_],_=>rfl) (fun vs H Q E h=>by obtain ⟨t,ups,lab,rfl,_⟩:=h;rfl) (fun f cdv A outer s H vs Q E hr h=>?_)
  obtain ⟨t,ups,lab,rfl,tr,q⟩:=h
  refine ⟨_,(pss_cons (ps_set (i:=1) sc_law_read.nd rfl (by first | exact Or.inl rfl | exact Or.inr rfl) pe_dnewK)
  (pss_cons (ps_for PassesOwn.never rfl (pi_range1 rfl B.range (pa_cons (pe_callB call_len_seq rfl B.len bt_len (pa_cons (pe_ix ix_tup (pv 0) pe_int (fun _ _=>rfl)) pa_nil)) pa_nil)) (pg_name (i:=2) sc_law_read.nd rfl (by first | exact Or.inl rfl | exact Or.inr rfl))
  (pss_cons (ps_set (i:=3) sc_law_read.nd rfl (by first | exact Or.inl rfl | exact Or.inr rfl) pe_str)
  (pss_cons (ps_set (i:=4) sc_law_read.nd rfl (by first | exact Or.inl rfl | exact Or.inr rfl) (pv 2))
  (pss_one (ps_while PassesOwn.never (pt_cmpR op_ge (pv 4) pe_int (nomark _))
  (pss_cons (ps_set (i:=3) sc_law_read.nd rfl (by first | exact Or.inl rfl | exact Or.inr rfl) (pe_op op_add_str (pv 3) (pe_ix ix_str (pe_ix ix_tup (pv 0) pe_int (fun _ _=>rfl)) (pv 4) (fun _ _=>rfl))))
  (pss_cons (ps_dput (hu_of hr) (pv 1) (pv 3) pe_bl rfl)
  (pss_one (ps_set (i:=4) sc_law_read.nd rfl (by first | exact Or.inl rfl | exact Or.inr rfl) (pe_ix ix_tup (pe_ix ix_tup (pv 0) pe_int (fun _ _=>rfl)) (pv 4) (fun _ _=>rfl)))))))))))
  (pss_one (ps_ret (pv 1))))),?_⟩
  obtain ⟨u,ht,hu,ok⟩:=id tr
  have m60:=ok.most
  have lpos:=ok.pos
  have hlab:lab.length=ups.length:=by rw [ok.len];simp [Str.length]
  have ull:(ups.map V.int).length=ups.length:=List.length_map _
  refine fun d hd=>?_
  have s0:Same H (upd H d (.dK [])):=(Same.refl H).new hd
  have h0:upd H d (.dK []) d=some (.dK []):=upd_same
  generalize upd H d (.dK [])=H0 at s0 h0
  refine ⟨_,rfl,t,_,_,_,rfl,rfl,SqT.of (s0 _ _ ht),rfl,u,_,rfl,.inr (SqT.of (s0 _ _ hu)),_,rfl,by omega,by omega,?_⟩
  refine for_range (lo:=0) (n:=(((ups.map V.int).length:Nat):Int).toNat) (fun i σ H'=>∃ (o2 o3 o4:Option V) (kvs:List (Key × V)),σ=[some (.ref t),some (.ref d),o2,o3,o4]∧Same H H'∧H' d=some (.dK kvs)∧Ks kvs (prefN ups lab i)∧kvs.length≤60 * i)
    ⟨none,none,none,[],rfl,s0,h0,⟨[],rfl,List.nodup_nil,fun z=>⟨fun h=>(by cases h),fun hz=>by obtain ⟨_,j,hj,_⟩:=hz;omega⟩⟩,Nat.le_refl _⟩ ?_ ?_
  · rintro i σ H1 hi ⟨o2,o3,o4,kvs,rfl,s1,hd1,kp,kl⟩
    have hi':i < ups.length:=by omega
    refine ⟨_,rfl,?_⟩
    refine while_by (fun σ H'=>∃ (j:Int) (l:List Nat) (kvs:List (Key × V)),σ=[some (.ref t),some (.ref d),some (.int (0+(i:Int))),some (.str (mk l)),some (.int j)]∧Same H H'∧H' d=some (.dK kvs)∧j < (ups.length:Int)∧l++R ups lab.cps.toList j=W ups lab.cps.toList i∧l.length+(j+1).toNat≤60∧Ks kvs (fun z=>prefN ups lab i z∨preL l z)∧kvs.length≤60 * i+l.length)
      (fun σ _=>match σ with | [_,_,_,_,some (.int j)]=>(j+1).toNat | _=>0) ⟨0+(i:Int),[],kvs,rfl,s1,hd1,by omega,?_,by simp;omega,kp.congr (fun z=>⟨fun h=>h.elim id fun h=>?_,.inl⟩),by simpa using kl⟩ ?_ (fun σ H Q Q' h ⟨v,e,i,j,e1,e2,k,e3,q⟩=>⟨v,e,i,j,e1,e2,k,e3,h _ _ q⟩)
    · unfold R;rw [if_neg (by omega),Int.zero_add,Int.toNat_natCast];rfl
    · exact absurd (List.prefix_nil.mp h.2) h.1
    rintro σ H2 ⟨j,l,kvs2,rfl,s2,hd2,hj,hl,hlen,kp2,kl2⟩
    refine ⟨_,rfl,_,_,rfl,rfl,_,rfl,ite2 (fun c=>?_) (fun c=>?_)⟩
    · have c':0≤j:=of_decide_eq_true c
      have hk:j.toNat < ups.length:=by omega
      have hk2:j.toNat < lab.cps.toList.length:=by rw [← ok.len];exact hk
      have e1:atI lab.cps.toList j=some lab.cps.toList[j.toNat]:=by
        have e:=atI_nat (xs:=lab.cps.toList) (j:=j.toNat) (List.getElem?_eq_getElem hk2)
        rw [show ((j.toNat:Nat):Int)=j by omega] at e
        exact e
      have e2:atI (ups.map V.int) j=some (.int ups[j.toNat]):=by
        have e:=atI_nat (xs:=ups.map V.int) (j:=j.toNat) (v:=.int ups[j.toNat]) (by rw [List.getElem?_map,List.getElem?_eq_getElem hk];rfl)
        rw [show ((j.toNat:Nat):Int)=j by omega] at e
        exact e
      have g1:lab.cps.toList.getD j.toNat 0=lab.cps.toList[j.toNat]:=by rw [List.getD_eq_getElem?_getD,List.getElem?_eq_getElem hk2];rfl
      have g2:ups.getD j.toNat 0=ups[j.toNat]:=by rw [List.getD_eq_getElem?_getD,List.getElem?_eq_getElem hk];rfl
      have st:=R_step ok c' hj
      rw [g1,g2] at st
      have lt:ups[j.toNat] < j:=by
        rcases Nat.eq_zero_or_pos j.toNat with z | z
        · have:=ok.root
          rw [← z,g2] at this
          omega
        · have:=ok.up j.toNat z hk
          rw [g2] at this
          omega
      have ap:mk l++(⟨#[lab.cps.toList[j.toNat]]⟩:Str)=mk (l++[lab.cps.toList[j.toNat]]):=str_ext (by rw [app_list];rfl)
      have ht2:=s2 _ _ ht
      have hu2:=s2 _ _ hu
      have lz:lab.length≤sizeLine:=by rw [hlab];exact Nat.le_of_lt (small1000 (by omega))
      refine ⟨_,rfl,_,rfl,t,_,_,_,rfl,rfl,SqT.of ht2,rfl,_,rfl,_,_,_,rfl,rfl,lz,e1,_,_,rfl,rfl,?_,?_⟩
      · rw [mk_len]
        have:(⟨#[lab.cps.toList[j.toNat]]⟩:Str).length=1:=rfl
        rw [this]
        exact Nat.le_of_lt (small1000 (by omega))
      rw [ap]
      refine ⟨_,rfl,_,rfl,d,_,rfl,DPut.k (k:=Sum.inr (mk (l++[lab.cps.toList[j.toNat]]))) hd2 (small10000 (by omega)),?_⟩
      have s3:=s2.write (o:=.dK (putK kvs2 (Sum.inr (mk (l++[lab.cps.toList[j.toNat]]))) (.bl true))) hd
      have hd3:upd H2 d (.dK (putK kvs2 (Sum.inr (mk (l++[lab.cps.toList[j.toNat]]))) (.bl true))) d=some (.dK (putK kvs2 (Sum.inr (mk (l++[lab.cps.toList[j.toNat]]))) (.bl true))):=upd_same
      generalize upd H2 d (.dK (putK kvs2 (Sum.inr (mk (l++[lab.cps.toList[j.toNat]]))) (.bl true)))=H3 at s3 hd3
      have ht3:=s3 _ _ ht
      have hu3:=s3 _ _ hu
      have pl:=putK_len kvs2 (Sum.inr (mk (l++[lab.cps.toList[j.toNat]]))) (.bl true)
      refine ⟨_,rfl,t,_,_,_,rfl,rfl,SqT.of ht3,rfl,_,rfl,u,_,_,_,rfl,rfl,SqT.of hu3,e2,?_⟩
      refine ⟨⟨ups[j.toNat],l++[lab.cps.toList[j.toNat]],_,rfl,s3,hd3,by omega,?_,?_,kp2.put _ _ (fun y=>?_),?_⟩,?_⟩
      · rw [List.append_assoc,List.singleton_append,← st];exact hl
      · rw [List.length_append,List.length_singleton];omega
      · constructor
        · rintro (h | ⟨a,b⟩)
          · exact .inl (.inl h)
          · rcases prefix_snoc b with b | b
            · exact .inl (.inr ⟨a,b⟩)
            · exact .inr (str_ext b)
        · rintro ((h | ⟨a,b⟩) | rfl)
          · exact .inl h
          · exact .inr ⟨a,b.trans (List.prefix_append _ _)⟩
          · exact .inr ⟨by rw [mk_cps];simp,by rw [mk_cps];exact List.prefix_refl _⟩
      · rw [List.length_append,List.length_singleton];omega
      · show (ups[j.toNat]+1).toNat < (j+1).toNat
        omega
    · have c':j < 0:=by have:=of_decide_eq_false (Bool.eq_false_iff.mpr c);omega
      have rn:R ups lab.cps.toList j=[]:=by unfold R;rw [if_pos c']
      rw [rn,List.append_nil] at hl
      subst hl
      refine ⟨_,_,_,kvs2,rfl,s2,hd2,kp2.congr (fun z=>?_),by omega⟩
      unfold prefN preL
      constructor
      · rintro ⟨a,j',hj',b⟩
        rcases Nat.lt_or_ge j' i with h | h
        · exact .inl ⟨a,j',h,b⟩
        · have:j'=i:=by omega
          subst this;exact .inr ⟨a,b⟩
      · rintro (⟨a,j',hj',b⟩ | ⟨a,b⟩)
        · exact ⟨a,j',by omega,b⟩
        · exact ⟨a,i,by omega,b⟩
  · rintro σ H1 ⟨o2,o3,o4,kvs,rfl,s1,hd1,kp,kl⟩
    rw [show (((ups.map V.int).length:Nat):Int).toNat=ups.length by omega] at kp kl
    exact ⟨_,rfl,q d kvs H1 s1 hd hd1 kp (by omega)⟩
end
end S60
namespace S60
open PySem L2 W7
def lonF (l:List Str):Str:=l.foldl (fun a w=>if a.length < w.length then w else a) (Str.ofString "")
def shoF (l:List Str):V:=l.foldl (fun a w=>match a with | .str z=>if w.length < z.length then .str w else .str z | _=>.str w) .non
theorem lonF_snoc (l:List Str) (w:Str):lonF (l++[w])=if (lonF l).length < w.length then w else lonF l:=by unfold lonF;rw [List.foldl_append];rfl
theorem shoF_snoc (l:List Str) (w:Str):shoF (l++[w])=match shoF l with | .str z=>if w.length < z.length then .str w else .str z | _=>.str w:=by unfold shoF;rw [List.foldl_append];rfl
theorem snoc_ind {p:List Str→Prop} (h0:p []) (h1:∀ l w,p l→p (l++[w])):∀ l,p l:=fun l=>by
  have:∀ l:List Str,p l.reverse:=fun l=>by
    induction l with
    | nil=>exact h0
    | cons a l ih=>rw [List.reverse_cons];exact h1 _ _ ih
  have:=this l.reverse
  rwa [List.reverse_reverse] at this
theorem lon_ok:∀ l:List Str,l.Pairwise (fun a b=>¬ b.cps.toList < a.cps.toList)→(∀ z∈l,1≤z.length)→(l=[]∧lonF l=Str.ofString "")∨Fst 1 (·∈l) (lonF l):=by
  refine snoc_ind (fun _ _=>.inl ⟨rfl,rfl⟩) (fun l w ih pw pos=>.inr ?_)
  have pa:=List.pairwise_append.mp pw
  have lw:∀ a∈l,¬ w.cps.toList < a.cps.toList:=fun a ha=>pa.2.2 a ha w (List.mem_singleton.mpr rfl)
  have pw0:=pos w (List.mem_append_right _ (List.mem_singleton.mpr rfl))
  rw [lonF_snoc]
  rcases ih pa.1 (fun z hz=>pos z (List.mem_append_left _ hz)) with ⟨rfl,e⟩ | ⟨m,f⟩
  · rw [e,if_pos (by show 0 < w.length;omega)]
    refine ⟨by simp,fun x hx=>?_⟩
    have:x=w:=by simpa using hx
    subst this
    exact ⟨Int.le_refl _,fun _=>List.lt_irrefl _⟩
  · by_cases c:(lonF l).length < w.length
    · rw [if_pos c]
      refine ⟨List.mem_append_right _ (List.mem_singleton.mpr rfl),fun x hx=>?_⟩
      rcases List.mem_append.mp hx with h | h
      · have:=(f x h).1
        exact ⟨by omega,fun e=>by omega⟩
      · rw [List.mem_singleton.mp h]
        exact ⟨Int.le_refl _,fun _=>List.lt_irrefl _⟩
    · rw [if_neg c]
      refine ⟨List.mem_append_left _ m,fun x hx=>?_⟩
      rcases List.mem_append.mp hx with h | h
      · exact f x h
      · rw [List.mem_singleton.mp h]
        exact ⟨by omega,fun _=>lw _ m⟩
theorem sho_ok:∀ l:List Str,l.Pairwise (fun a b=>¬ b.cps.toList < a.cps.toList)→(l=[]∧shoF l=.non)∨∃ z,shoF l=.str z∧Fst (-1) (·∈l) z:=by
  refine snoc_ind (fun _=>.inl ⟨rfl,rfl⟩) (fun l w ih pw=>.inr ?_)
  have pa:=List.pairwise_append.mp pw
  have lw:∀ a∈l,¬ w.cps.toList < a.cps.toList:=fun a ha=>pa.2.2 a ha w (List.mem_singleton.mpr rfl)
  rw [shoF_snoc]
  rcases ih pa.1 with ⟨rfl,e⟩ | ⟨z,e,m,f⟩
  · rw [e]
    refine ⟨w,rfl,by simp,fun x hx=>?_⟩
    have:x=w:=by simpa using hx
    subst this
    exact ⟨Int.le_refl _,fun _=>List.lt_irrefl _⟩
  · rw [e]
    dsimp only
    by_cases c:w.length < z.length
    · rw [if_pos c]
      refine ⟨w,rfl,List.mem_append_right _ (List.mem_singleton.mpr rfl),fun x hx=>?_⟩
      rcases List.mem_append.mp hx with h | h
      · have:=(f x h).1
        exact ⟨by omega,fun e=>by omega⟩
      · rw [List.mem_singleton.mp h]
        exact ⟨Int.le_refl _,fun _=>List.lt_irrefl _⟩
    · rw [if_neg c]
      refine ⟨z,rfl,List.mem_append_left _ m,fun x hx=>?_⟩
      rcases List.mem_append.mp hx with h | h
      · exact f x h
      · rw [List.mem_singleton.mp h]
        exact ⟨by omega,fun _=>lw _ m⟩
theorem lon_mem:∀ l:List Str,lonF l=Str.ofString "" ∨ lonF l∈l:=by
  refine snoc_ind (.inl rfl) (fun l w ih=>?_)
  rw [lonF_snoc]
  split
  · exact .inr (List.mem_append_right _ (List.mem_singleton.mpr rfl))
  · exact ih.imp id (List.mem_append_left _)
theorem sho_mem:∀ l:List Str,shoF l=.non∨∃ z∈l,shoF l=.str z:=by
  refine snoc_ind (.inl rfl) (fun l w ih=>.inr ?_)
  rw [shoF_snoc]
  rcases ih with e | ⟨z,hz,e⟩
  · rw [e];exact ⟨w,List.mem_append_right _ (List.mem_singleton.mpr rfl),rfl⟩
  · rw [e]
    dsimp only
    split
    · exact ⟨w,List.mem_append_right _ (List.mem_singleton.mpr rfl),rfl⟩
    · exact ⟨z,List.mem_append_left _ hz,rfl⟩
theorem valV_key {kvs:List (Key × V)} {k:Key}:(valV kvs k).isSome=true ↔ k∈kvs.map (·.1):=by
  rw [← valV_any,List.any_eq_true]
  constructor
  · rintro ⟨p,hp,e⟩
    exact List.mem_map.mpr ⟨p,hp,of_decide_eq_true e⟩
  · intro h
    obtain ⟨p,hp,e⟩:=List.mem_map.mp h
    exact ⟨p,hp,decide_eq_true e⟩
theorem W_low {ups:List Int} {lab:List Nat} (ok:TreeOk ups lab) (lw:Low lab):∀ (n i:Nat),i < n→i < ups.length→Low (W ups lab i)
  | 0,i,h,_=>absurd h (Nat.not_lt_zero _)
  | n+1,i,h,hi=>by
    rw [W_eq ok hi]
    have hc:lab.getD i 0 < 1000:=by
      rw [List.getD_eq_getElem?_getD,List.getElem?_eq_getElem (by have:=ok.len;omega)]
      exact lw _ (List.getElem_mem _)
    split
    · exact Low.one hc
    · rename_i hn
      have lt:=ok.lt hi hn
      exact Low.app (Low.one hc) (W_low ok lw n _ (by omega) (by omega))
theorem low_pref {ups:List Int} {lab:Str} (ok:TreeOk ups lab.cps.toList) (lw:Low lab.cps.toList) {z:Str} (h:prefN ups lab ups.length z):Low z.cps.toList:=by
  obtain ⟨_,j,hj,b⟩:=h
  exact fun c hc=>W_low ok lw (j+1) j (by omega) hj c (b.subset hc)
theorem fit_two {n:Nat} {z:Str} (hn:n≤3600) (lw:Low z.cps.toList) (l:z.length≤60):Fit (.list [.int (n:Int),.str z]):=by
  have cz:z.cps.size=z.length:=rfl
  have g:Gd false true _ _ (.list [.int (n:Int),.str z]):=Gd.lst (Gs.cons (Gd.int (by omega)) (Gs.cons (Gd.str lw) (Gs.nil)))
  exact g.fit (.inl rfl) (by omega) (by decide)
theorem fit_non:Fit .none:=(Gd.non (hd:=false) (hl:=false)).fit (.inl rfl) (by decide) (by decide)
theorem fit_str {z:Str} (lw:Low z.cps.toList) (l:z.length≤60):Fit (.str z):=by
  have cz:z.cps.size=z.length:=rfl
  exact (Gd.str (hd:=false) (hl:=false) lw).fit (.inl rfl) (by omega) (by decide)
theorem Fst.congr {sg:Int} {P Q:Str→Prop} (e:∀ x,P x ↔ Q x) {z:Str} (h:Fst sg P z):Fst sg Q z:=⟨(e z).mp h.1,fun x hx=>h.2 x ((e x).mpr hx)⟩
section
variable {P:Program} {w:World} {K:PySem.W.Frag} {mg:Str→Option Value} {base:Heap} {k:Nat}
def sp_right:Sp:=fun vs H Q _=>∃ (t1 t2:Addr) (ups1 ups2:List Int) (lab1 lab2:Str),vs=[.ref t1,.ref t2]∧TreeAt H t1 ups1 lab1∧TreeAt H t2 ups2 lab2∧Low lab1.cps.toList∧Low lab2.cps.toList∧∀ H':Hp,Same H H'→Q (.bl true) H'
theorem has_right (D:Df K mg "_law_right" s_law_right) (B:Blt7 mg) (G_law_read:Has P w K mg base "_law_read" k ["tree"] sp_read) (G_count_common:Has P w K mg base "count_common" k ["one", "other"] sp_ccount) (G_longest_common:Has P w K mg base "longest_common" k ["one", "other"] sp_longest) (G_shortest_own:Has P w K mg base "shortest_own" k ["one", "other"] sp_shortest):Has P w K mg base "_law_right" (k+1) ["one", "other"] sp_right:=by
  refine D.has sc_law_right (fun _ _ _ _ _ _ us hl=>match us,hl with | [_,_],_=>rfl) (fun vs H Q E h=>by obtain ⟨t1,t2,ups1,ups2,lab1,lab2,rfl,_⟩:=h;rfl) (fun f cdv A outer s H vs Q E hr h=>?_)
  obtain ⟨t1,t2,ups1,ups2,lab1,lab2,rfl,tr1,tr2,lw1,lw2,q⟩:=h
  refine ⟨_,(pss_cons (ps_set (i:=2) sc_law_right.nd rfl (by first | exact Or.inl rfl | exact Or.inr rfl) (pe_callH G_law_read hr rfl (pa_cons (pv 1) pa_nil)))
  (pss_cons (ps_set (i:=3) sc_law_right.nd rfl (by first | exact Or.inl rfl | exact Or.inr rfl) pe_int)
  (pss_cons (ps_set (i:=4) sc_law_right.nd rfl (by first | exact Or.inl rfl | exact Or.inr rfl) pe_str)
  (pss_cons (ps_set (i:=5) sc_law_right.nd rfl (by first | exact Or.inl rfl | exact Or.inr rfl) pe_non)
  (pss_cons (ps_for PassesOwn.never rfl (pi_list (pe_callB (call_sortedD rfl) rfl B.sorted bt_sorted (pa_cons (pe_callH G_law_read hr rfl (pa_cons (pv 0) pa_nil)) pa_nil))) (pg_name (i:=6) sc_law_right.nd rfl (by first | exact Or.inl rfl | exact Or.inr rfl))
  (pss_one (ps_if (pt_cmp (pc_din (hu_of hr) (pv 6) (pv 2)) (by with_unfolding_all rfl))
  (pss_cons (ps_set (i:=3) sc_law_right.nd rfl (by first | exact Or.inl rfl | exact Or.inr rfl) (pe_op op_add (pv 3) pe_int))
  (pss_one (ps_set (i:=4) sc_law_right.nd rfl (by first | exact Or.inl rfl | exact Or.inr rfl) (pe_ix ix_list (pe_lst (pa_cons (pv 4) (pa_cons (pv 6) pa_nil))) (pe_callTy call_int1 rfl B.int_ bt_int (pa_cons (pe_cmpR op_gt (pe_callB call_len_str rfl B.len bt_len (pa_cons (pv 6) pa_nil)) (pe_callB call_len_str rfl B.len bt_len (pa_cons (pv 4) pa_nil)) (nomark _)) pa_nil)) (fun _ _=>rfl)))))
  (pss_one (ps_if (PW.pt (pw_or (pt_cmpR op_isN (pv 5) pe_non (nomark _)) (pw_or1 (pt_cmpR op_lt (pe_callB call_len_str rfl B.len bt_len (pa_cons (pv 6) pa_nil)) (pe_callB call_len_str rfl B.len bt_len (pa_cons (pv 5) pa_nil)) (nomark _)))))
  (pss_one (ps_set (i:=5) sc_law_right.nd rfl (by first | exact Or.inl rfl | exact Or.inr rfl) (pv 6)))
  pss_nil)))))
  (pss_cons (ps_set (i:=7) sc_law_right.nd rfl (by first | exact Or.inl rfl | exact Or.inr rfl) (pe_lst (pa_cons (pe_callH G_count_common hr rfl (pa_cons (pv 0) (pa_cons (pv 1) pa_nil))) (pa_cons (pe_callH G_longest_common hr rfl (pa_cons (pv 0) (pa_cons (pv 1) pa_nil))) pa_nil))))
  (pss_cons (ps_if (pt_cmpR op_ne (pe_callB (call_repr_any hr) rfl B.repr bt_repr (pa_cons (pv 7) pa_nil)) (pe_callB (call_repr_any hr) rfl B.repr bt_repr (pa_cons (pe_lst (pa_cons (pv 3) (pa_cons (pv 4) pa_nil))) pa_nil)) (nomark _))
  (pss_one (ps_ret pe_bl))
  pss_nil)
  (pss_one (ps_ret (pe_cmpR op_eq (pe_callB (call_repr_any hr) rfl B.repr bt_repr (pa_cons (pe_callH G_shortest_own hr rfl (pa_cons (pv 0) (pa_cons (pv 1) pa_nil))) pa_nil)) (pe_callB (call_repr_any hr) rfl B.repr bt_repr (pa_cons (pv 5) pa_nil)) (nomark _))))))))))),?_⟩
  obtain ⟨_,_,_,ok1⟩:=id tr1
  obtain ⟨_,_,_,ok2⟩:=id tr2
  refine ⟨_,rfl,t2,ups2,lab2,rfl,tr2,fun d kvs H1 s1 f1 hd1 ks1 kl1=>?_⟩
  refine ⟨_,rfl,t1,ups1,lab1,rfl,tr1.same s1,fun d2 kvs2 H2 s2 f2 hd2 ks2 kl2=>?_⟩
  obtain ⟨zs,hk,nd,mem,zl⟩:=ks2.len
  obtain ⟨zs1,hk1,nd1,mem1,zl1⟩:=ks1.len
  refine ⟨d2,kvs2,zs,rfl,.inl hd2,hk,nd,fun ss l hp hs hl=>?_⟩
  refine ⟨l,rfl,⟨_,SqL.of upd_same⟩,?_⟩
  generalize hJ:upd H2 l _=H3
  have s3:Same H2 H3:=by rw [← hJ];exact (Same.refl H2).new hl
  have h3:H3 l=some (.lst (ss.map V.str)):=by rw [← hJ];exact upd_same
  clear hJ
  have s13:=(s1.trans s2).trans s3
  have hd3:=s3 _ _ (s2 _ _ hd1)
  have sm:∀ z,z∈ss ↔ prefN ups1 lab1 ups1.length z:=fun z=>(hp.mem_iff).trans (mem z)
  generalize hcm:(fun z=>decide (z∈zs1))=cm
  have cme:∀ z,cm z=true ↔ prefN ups2 lab2 ups2.length z:=fun z=>by rw [← hcm,← mem1 z];exact decide_eq_true_iff
  have lonl:∀ i,(lonF ((ss.take i).filter cm)).length≤60:=fun i=>by
    rcases lon_mem ((ss.take i).filter cm) with e | e
    · rw [e];decide
    · exact (prefN_len ok1 ((sm _).mp (List.mem_of_mem_take (List.mem_filter.mp e).1))).2
  refine for_list (xs:=ss.map V.str) (fun i σ HX=>∃ (o6:Option V),σ=[some (.ref t1),some (.ref t2),some (.ref d),some (.int (((ss.take i).filter cm).length:Int)),some (.str (lonF ((ss.take i).filter cm))),some (shoF ((ss.take i).filter fun z=>!cm z)),o6,none]∧Same H3 HX)
    ⟨none,rfl,Same.refl H3⟩ (fun i σ HX _ h=>by obtain ⟨_,_,sX⟩:=h;exact SqL.of (sX _ _ h3)) ?_ ?_
  · rintro i x σ HX hx ⟨o6,rfl,sX⟩
    rw [List.getElem?_map] at hx
    cases e:ss[i]? with
    | none=>rw [e] at hx;cases hx
    | some z=>
      rw [e] at hx
      cases hx
      have tk:ss.take (i+1)=ss.take i++[z]:=by rw [List.take_add_one,e];rfl
      have zl:=(prefN_len ok1 ((sm z).mp (List.mem_of_getElem? e))).2
      have cin:(valV kvs (Sum.inr z)).isSome=true ↔ z∈zs1:=by
        rw [valV_key,hk1,List.mem_map]
        exact ⟨fun ⟨y,hy,ey⟩=>by injection ey with ey;rw [← ey];exact hy,fun h=>⟨z,h,rfl⟩⟩
      refine ⟨_,rfl,_,rfl,d,_,rfl,DGet.k (k:=Sum.inr z) (sX _ _ hd3),_,rfl,ite2 (fun c=>?_) (fun c=>?_)⟩
      · have cz:cm z=true:=by rw [cme,← mem1];exact cin.mp c
        rw [tk,List.filter_append,List.filter_append,List.filter_cons_of_pos cz,List.filter_cons_of_neg (by rw [cz];decide),List.filter_nil,List.filter_nil,List.append_nil,lonF_snoc,List.length_append]
        have ll:=lonl i
        refine ⟨_,rfl,_,_,rfl,rfl,?_⟩
        refine ⟨_,rfl,_,rfl,(by show 2≤sizeLine;decide),fun a ha=>?_⟩
        generalize hJ:upd HX a _=HY
        have sY:Same HX HY:=by rw [← hJ];exact (Same.refl HX).new ha
        have hY:HY a=some (.lst [.str (lonF ((ss.take i).filter cm)),.str z]):=by rw [← hJ];exact upd_same
        clear hJ
        refine ⟨_,rfl,z,rfl,Nat.le_of_lt (small1000 (by omega)),_,rfl,_,rfl,Nat.le_of_lt (small1000 (by omega)),_,_,rfl,rfl,.inr ⟨_,rfl,?_⟩⟩
        refine ⟨a,_,_,.str (if (lonF ((ss.take i).filter cm)).length < z.length then z else lonF ((ss.take i).filter cm)),rfl,rfl,SqL.of hY,?_,?_⟩
        · by_cases cc:(lonF ((ss.take i).filter cm)).length < z.length
          · rw [if_pos cc,if_pos (decide_eq_true (by omega))];rfl
          · rw [if_neg cc,if_neg (by simpa using cc)];rfl
        · exact ⟨_,rfl,sX.trans sY⟩
      · have cz:cm z=false:=by
          refine Bool.eq_false_iff.mpr fun h=>c (cin.mpr ?_)
          rw [mem1,← cme];exact h
        rw [tk,List.filter_append,List.filter_append,List.filter_cons_of_neg (by rw [cz];decide),List.filter_cons_of_pos (by rw [cz];rfl),List.filter_nil,List.filter_nil,List.append_nil,shoF_snoc]
        rcases sho_mem ((ss.take i).filter fun z=>!cm z) with e9 | ⟨y,hy,e9⟩
        · rw [e9]
          refine ⟨_,rfl,rfl,_,rfl,L2.iteA rfl (L2.iteA rfl ?_)⟩
          exact ⟨_,rfl,_,rfl,sX⟩
        · rw [e9]
          have yl:=(prefN_len ok1 ((sm y).mp (List.mem_of_mem_take (List.mem_filter.mp hy).1))).2
          refine ⟨_,rfl,rfl,_,rfl,L2.iteB rfl ?_⟩
          refine ⟨_,rfl,z,rfl,Nat.le_of_lt (small1000 (by omega)),_,rfl,y,rfl,Nat.le_of_lt (small1000 (by omega)),_,_,rfl,rfl,_,rfl,ite2 (fun c3=>?_) (fun c3=>?_)⟩
          · have c4:z.length < y.length:=by have:=of_decide_eq_true c3;omega
            dsimp only
            rw [if_pos c4]
            exact ⟨_,rfl,_,rfl,sX⟩
          · have c4:¬ z.length < y.length:=by have:=of_decide_eq_false (Bool.eq_false_iff.mpr c3);omega
            dsimp only
            rw [if_neg c4]
            exact ⟨_,rfl,sX⟩
  · rintro σ H4 ⟨o6,rfl,s4⟩
    rw [List.length_map,List.take_length]
    have s14:=s13.trans s4
    have lsc:Ls (Cm ups1 ups2 lab1 lab2) (ss.filter cm):=by
      refine ⟨hp.nodup_iff.mpr nd |>.filter _,fun z=>?_,?_,?_⟩
      · rw [List.mem_filter,sm,cme];rfl
      · refine PyProof.Rows.sortedS_of_pairwise _ ((List.Pairwise.filter _ (sorted_pair ss hs)).imp fun {a b} h=>?_)
        rw [PyProof.Rows.ltCps_eq];simpa using h
      · have:=List.length_filter_le cm ss
        have:=hp.length_eq
        omega
    have lso:∀ z,z∈(ss.filter fun z=>!cm z) ↔ Ow ups1 ups2 lab1 lab2 z:=fun z=>by
      rw [List.mem_filter,sm]
      unfold Ow
      rw [← cme];simp
    have low:∀ z,prefN ups1 lab1 ups1.length z→Low z.cps.toList:=fun z hz=>low_pref ok1 lw1 hz
    refine ⟨_,rfl,_,rfl,t1,t2,ups1,ups2,lab1,lab2,rfl,tr1.same s14,tr2.same s14,fun sc H5 lc s5=>?_⟩
    obtain rfl:=lc.one lsc
    have s15:=s14.trans s5
    refine ⟨_,rfl,_,rfl,t1,t2,ups1,ups2,lab1,lab2,rfl,tr1.same s15,tr2.same s15,fun z H6 s6 hz=>?_⟩
    have s16:=s15.trans s6
    have ez:z=lonF (ss.filter cm):=by
      rcases lon_ok (ss.filter cm) (sorted_pair _ lsc.srt) (fun y hy=>(prefN_len ok1 ((lsc.mem y).mp hy).1).1) with ⟨e1,e2⟩ | h2
      · rw [e2]
        rcases hz with ⟨_,e⟩ | h
        · exact e
        · have:=(lsc.mem z).mpr h.1;rw [e1] at this;cases this
      · have h2:=h2.congr lsc.mem
        rcases hz with ⟨h,_⟩ | h
        · exact absurd h2.1 (h _)
        · exact h.one h2
    have zlow:Low z.cps.toList:=by
      rcases hz with ⟨_,e⟩ | h
      · rw [e];exact Low.nil
      · exact low z h.1.1
    subst ez
    refine ⟨(by show 2≤sizeLine;decide),fun a ha=>?_⟩
    generalize hJ:upd H6 a _=H7
    have s7:Same H6 H7:=by rw [← hJ];exact (Same.refl H6).new ha
    have h7:H7 a=some (.lst [.int (((ss.filter cm).length:Nat):Int),.str (lonF (ss.filter cm))]):=by rw [← hJ];exact upd_same
    clear hJ
    have zl:=lonl ss.length
    rw [List.take_length] at zl
    have fit:=fit_two (n:=(ss.filter cm).length) (by have:=lsc.len;omega) zlow zl
    refine ⟨_,rfl,_,_,rfl,.lst h7 (.cons (.int _) (.cons (.str _) .nil)),fit,?_⟩
    refine ⟨_,rfl,_,rfl,(by show 2≤sizeLine;decide),fun a2 ha2=>?_⟩
    refine ⟨_,_,rfl,.lst upd_same (.cons (.int _) (.cons (.str _) .nil)),fit,?_⟩
    have s8:Same H7 (upd H7 a2 (.lst [.int (((ss.filter cm).length:Nat):Int),.str (lonF (ss.filter cm))])):=(Same.refl H7).new ha2
    generalize upd H7 a2 _=H8 at s8
    refine ⟨rfl,_,rfl,L2.iteB (by rw [decide_eq_true rfl];rfl) ?_⟩
    have s18:=(s16.trans s7).trans s8
    refine ⟨_,rfl,_,rfl,t1,t2,ups1,ups2,lab1,lab2,rfl,tr1.same s18,tr2.same s18,fun v H9 s9 hv=>?_⟩
    have ev:v=shoF (ss.filter fun z=>!cm z):=by
      have pw:(ss.filter fun z=>!cm z).Pairwise (fun a b=>¬ b.cps.toList < a.cps.toList):=List.Pairwise.filter _ (sorted_pair ss hs)
      rcases sho_ok _ pw with ⟨e1,e2⟩ | ⟨y,e2,h2⟩
      · rw [e2]
        rcases hv with ⟨_,e⟩ | ⟨x,_,h⟩
        · exact e
        · have:=(lso x).mpr h.1;rw [e1] at this;cases this
      · have h2:=h2.congr lso
        rw [e2]
        rcases hv with ⟨h,_⟩ | ⟨x,e,h⟩
        · exact absurd h2.1 (h _)
        · rw [e,h.one h2]
    obtain ⟨dv,tdv,fv⟩:∃ dv,(∀ HZ,Td HZ v dv)∧Fit dv:=by
      rcases hv with ⟨_,rfl⟩ | ⟨x,rfl,h⟩
      · exact ⟨.none,fun _=>.non,fit_non⟩
      · exact ⟨.str x,fun _=>.str x,fit_str (low x h.1.1) (prefN_len ok1 h.1.1).2⟩
    rw [← ev]
    refine ⟨v,dv,rfl,tdv _,fv,_,rfl,v,dv,rfl,tdv _,fv,rfl,?_⟩
    rw [decide_eq_true rfl]
    exact q _ (s18.trans s9)
end
end S60
namespace S60
open PySem L2 W7
section
variable {P:Program} {w:World} {K:PySem.W.Frag} {mg:Str→Option Value} {base:Heap} {k:Nat}
def sp_law:PySem.W.Frag→Sp:=fun K vs H Q _=>∃ (a:Addr) (ns:List Int),vs=[.ref a]∧SqL K H a (ns.map V.int)∧ns.length≤63∧∀ H',Q (.bl true) H'
theorem ok_law {f:Addr} {fd:FuncData} (F:Fun K "law" "law" s_law f fd) (B:Blt7 mg) (G_law_pool:Has P w K mg base "_law_pool" k ["script", "at"] (sp_pool K)) (G_law_both:Has P w K mg base "_law_both" k ["pool"] sp_both) (G_law_right:Has P w K mg base "_law_right" k ["one", "other"] sp_right) :
    FnOk P w K mg base CX0 (k+1) f fd ["script"] (sp_law K):=by
  refine F.ok sc_law (fun vs H Q E h=>by obtain ⟨a,ns,rfl,_⟩:=h;rfl) (fun cdv A outer s H vs Q E hr h=>?_)
  obtain ⟨a,ns,rfl,hS,h63,q⟩:=h
  refine ⟨_,(pss_cons (ps_for PassesOwn.never rfl (pi_range1 rfl B.range (pa_cons (pe_callB (call_max2 rfl) rfl B.max bt_max (pa_cons pe_int (pa_cons (pe_callB (call_min2 rfl) rfl B.min bt_min (pa_cons pe_int (pa_cons (pe_callB call_len_seq rfl B.len bt_len (pa_cons (pv 0) pa_nil)) pa_nil))) pa_nil))) pa_nil)) (pg_name (i:=1) sc_law.nd rfl (by first | exact Or.inl rfl | exact Or.inr rfl))
  (pss_cons (ps_asg (pe_callH G_law_both hr rfl (pa_cons (pe_callH G_law_pool hr rfl (pa_cons (pv 0) (pa_cons (pv 1) pa_nil))) pa_nil)) (pg_tup rfl (pgs_cons (pg_name (i:=2) sc_law.nd rfl (by first | exact Or.inl rfl | exact Or.inr rfl)) (pgs_cons (pg_name (i:=3) sc_law.nd rfl (by first | exact Or.inl rfl | exact Or.inr rfl)) pgs_nil))))
  (pss_one (ps_if (PW.pt (pw_or (pt_not (pt_val (pe_callH G_law_right hr rfl (pa_cons (pv 2) (pa_cons (pv 3) pa_nil))))) (pw_or1 (pt_not (pt_val (pe_callH G_law_right hr rfl (pa_cons (pv 3) (pa_cons (pv 2) pa_nil))))))))
  (pss_one (ps_ret pe_bl))
  pss_nil))))
  (pss_one (ps_ret pe_bl))),?_⟩
  have hl:(ns.map V.int).length=ns.length:=List.length_map _
  refine ⟨_,rfl,a,_,rfl,.inl hS,_,_,rfl,_,_,rfl,_,rfl,?_,?_,?_⟩
  · split <;> (try split) <;> omega
  · split <;> (try split) <;> omega
  have hbound:(if (if (((ns.map V.int).length:Nat):Int) < 6 then (((ns.map V.int).length:Nat):Int) else 6) > 1 then (if (((ns.map V.int).length:Nat):Int) < 6 then (((ns.map V.int).length:Nat):Int) else 6) else 1:Int).toNat≤6:=by
    split <;> (try split) <;> omega
  generalize (if (if (((ns.map V.int).length:Nat):Int) < 6 then (((ns.map V.int).length:Nat):Int) else 6) > 1 then (if (((ns.map V.int).length:Nat):Int) < 6 then (((ns.map V.int).length:Nat):Int) else 6) else 1:Int).toNat=n at hbound
  refine for_range (lo:=0) (n:=n) (fun i σ H'=>∃ o1 o2 o3:Option V,σ=[some (.ref a),o1,o2,o3]∧Same H H') ⟨none,none,none,rfl,Same.refl H⟩ ?_ ?_
  · rintro i σ H' hi ⟨o1,o2,o3,rfl,s1⟩
    refine ⟨_,rfl,_,rfl,a,ns,0+(i:Int),rfl,s1.seq hS,h63,by omega,by omega,fun p x y hp=>?_⟩
    have hpool:Pool (upd H' p (.lst [.int x,.int y])) p:=⟨x,y,upd_same⟩
    refine ⟨p,rfl,hpool,fun r t1 t2 ups1 ups2 lab1 lab2 H2 kp hr2 tr1 tr2 lw1 lw2=>?_⟩
    have s2:Same H H2:=fun b o e=>by
      have e1:=s1 b o e
      have ne:b≠p:=ne_of_none e1 hp
      exact kp.keep b o ne (by rw [upd_ne ne];exact e1)
    refine ⟨r,_,rfl,SqT.of hr2,rfl,_,_,rfl,_,_,rfl,rfl,?_⟩
    refine ⟨_,rfl,_,rfl,t1,t2,ups1,ups2,lab1,lab2,rfl,tr1,tr2,lw1,lw2,fun H3 s3=>?_⟩
    refine ⟨_,rfl,iteF ⟨_,rfl,_,rfl,t2,t1,ups2,ups1,lab2,lab1,rfl,tr2.same s3,tr1.same s3,lw2,lw1,fun H4 s4=>⟨_,rfl,iteF ?_⟩⟩⟩
    exact ⟨_,_,_,rfl,s2.trans (s3.trans s4)⟩
  · rintro σ H' ⟨o1,o2,o3,rfl,s1⟩
    exact q H'
end
end S60
namespace S60
open PySem L2 W7
theorem df_mk {K:PySem.W.Frag} {h:Heap} {mg:Str→Option Value} {x:Str} {st:Stmt} {f:Addr} {oc:Value} {od an:Option Addr} {osl:Array (Option Value)} {kV doc pm cdv ct:Value} (X:K.In h) (G:h.Ns mainGlobals mg)
    (a:PySem.W.nsIn K mainGlobals x=some (some (.ref f))) (l:K.lookup f=some ⟨oc,od,.func (PySem.W.fnOf x x (defArgs st) (defBody st) (defScope st) .none kV doc pm an cdv ct),osl⟩) (c:PySem.W.codeIn K cdv x=true) (kk:PySem.W.keepIn K (.ref f)=true):Df K mg x st:=
  ⟨f,_,fun_mk l c kk,PySem.W.mg_of X G a⟩
theorem blt_mk {K:PySem.W.Frag} {h:Heap} {mg:Str→Option Value} (X:K.In h) (G:h.Ns mainGlobals mg)
    (z1:PySem.W.nsIn K mainGlobals "len" = some none) (z2:PySem.W.nsIn K mainGlobals "range" = some none) (z3:PySem.W.nsIn K mainGlobals "zip" = some none) (z4:PySem.W.nsIn K mainGlobals "enumerate" = some none)
    (z5:PySem.W.nsIn K mainGlobals "max" = some none) (z6:PySem.W.nsIn K mainGlobals "min" = some none) (z7:PySem.W.nsIn K mainGlobals "int" = some none) (z8:PySem.W.nsIn K mainGlobals "str" = some none)
    (z9:PySem.W.nsIn K mainGlobals "bool" = some none) (z10:PySem.W.nsIn K mainGlobals "list" = some none) (z11:PySem.W.nsIn K mainGlobals "tuple" = some none) (z12:PySem.W.nsIn K mainGlobals "isinstance" = some none):Blt mg:=
  ⟨PySem.W.mg_none_of X G z1,PySem.W.mg_none_of X G z2,PySem.W.mg_none_of X G z3,PySem.W.mg_none_of X G z4,PySem.W.mg_none_of X G z5,PySem.W.mg_none_of X G z6,PySem.W.mg_none_of X G z7,PySem.W.mg_none_of X G z8,
    PySem.W.mg_none_of X G z9,PySem.W.mg_none_of X G z10,PySem.W.mg_none_of X G z11,PySem.W.mg_none_of X G z12⟩
theorem all_ok {P:Program} {w:World} {K:PySem.W.Frag} {mg:Str→Option Value} {fa:Addr} (hfa:mg "law" = some (.ref fa)) (B:Blt7 mg)
    (d1:Df K mg "words_of" s_words_of) (d2:Df K mg "alike_of" s_alike_of) (d3:Df K mg "many_alike" s_many_alike) (d4:Df K mg "unlike_words" s_unlike_words) (d5:Df K mg "common_words" s_common_words) (d6:Df K mg "count_common" s_count_common) (d7:Df K mg "longest_common" s_longest_common) (d8:Df K mg "shortest_own" s_shortest_own) (d9:Df K mg "_law_cell_at" s_law_cell_at) (d10:Df K mg "_law_pool" s_law_pool) (d11:Df K mg "_law_take" s_law_take) (d12:Df K mg "_law_letters" s_law_letters) (d13:Df K mg "_law_grown" s_law_grown) (d14:Df K mg "_law_copies" s_law_copies) (d15:Df K mg "_law_tree" s_law_tree) (d16:Df K mg "_law_both" s_law_both) (d17:Df K mg "_law_read" s_law_read) (d18:Df K mg "_law_right" s_law_right) (d19:Df K mg "law" s_law) :
    ∃ fd:FuncData,(∀ (s:Shared) (v:Value),BindsTo s fd ⟨[v],[]⟩ [("script", v)])∧∀ base:Heap,FnOk P w K mg base CX0 12 fa fd ["script"] (sp_law K):=by
  obtain ⟨f,fd,F,m⟩:=d19
  have e:=hfa.symm.trans m
  cases e
  refine ⟨fd,?_,fun base=>?_⟩
  · obtain ⟨oc,od,kV,doc,pm,an,cdv,ct,osl,rfl,_,_⟩:=F.ex
    exact fun s v=>.of_eq rfl
  have g_words:=has_words (P:=P) (w:=w) (base:=base) (k:=0) d1 B.toBlt
  have g_malike:=has_malike (P:=P) (w:=w) (base:=base) (k:=0) d3 B
  have g_alikes:=has_alikes (k:=1) d2 B g_words g_malike
  have g_unlike:=has_unlike (k:=2) d4 B (g_words.mono (by decide)) g_alikes
  have g_common:=has_common (k:=3) d5 B g_unlike
  have g_ccount:=has_ccount (k:=4) d6 B g_common
  have g_longest:=has_longest (k:=4) d7 B g_common
  have g_shortest:=has_shortest (k:=3) d8 B g_unlike
  have g_cell:=has_cell (P:=P) (w:=w) (base:=base) (k:=0) d9 B.toBlt
  have g_pool:=has_pool (k:=1) d10 B.toBlt g_cell
  have g_take:=has_take (P:=P) (w:=w) (base:=base) (k:=0) d11 B.toBlt
  have g_letters:=has_letters (k:=1) d12 B.toBlt g_take
  have g_grown:=has_grown (k:=1) d13 B.toBlt g_take
  have g_copies:=has_copies (k:=2) d14 B.toBlt (g_take.mono (by decide)) g_grown
  have g_tree:=has_tree (k:=3) d15 B.toBlt (g_take.mono (by decide)) (g_grown.mono (by decide)) g_copies
  have g_both:=has_both (k:=4) d16 B (g_take.mono (by decide)) (g_letters.mono (by decide)) g_tree
  have g_read:=has_read (P:=P) (w:=w) (base:=base) (k:=0) d17 B.toBlt
  have g_right:=has_right (k:=5) d18 B (g_read.mono (by decide)) g_ccount g_longest (g_shortest.mono (by decide))
  exact (ok_law (k:=6) F B (g_pool.mono (by decide)) (g_both.mono (by decide)) g_right).mono (by decide)
end S60
open PySem PySem.W PyProof.Rows
set_option maxRecDepth 100000 in
set_option maxHeartbeats 0 in
theorem PySem.Challenge.cw_upwords_k60_common_and_own_words_holds : PySem.Challenge.rw_upwords_k60_common_and_own_words.Holds := by
  w_on; o_law; k_head; (case hw => w_witness2)
  k_fill
  refine L2.walk_ofK (l := PySem.Challenge.rw_upwords_k60_common_and_own_words) (n := 63) (k := 12) (x := "script") (CX := L2.CX0) (sp := S60.sp_law) rfl (by decide) rfl ⟨rfl, by decide, by decide, rfl⟩ (fun w h Y => PySem.W.kIn_of Y) ?F
    (fun K H a ns hl _ hS => ⟨a, ns, rfl, hS, hl, fun _ => rfl⟩) (fun _ _ _ _ z => z)
  case F =>
    intro w mg fa h KX G hmg
    have B : L2.Blt mg := by
      refine' S60.blt_mk KX G ?z1 ?z2 ?z3 ?z4 ?z5 ?z6 ?z7 ?z8 ?z9 ?z10 ?z11 ?z12
      (case z1 => k_is); (case z2 => k_is); (case z3 => k_is); (case z4 => k_is); (case z5 => k_is); (case z6 => k_is); (case z7 => k_is); (case z8 => k_is); (case z9 => k_is); (case z10 => k_is); (case z11 => k_is); (case z12 => k_is)
    have Bx0 : mg "sorted" = none := by
      refine' PySem.W.mg_none_of KX G ?z
      (case z => k_is)
    have Bx1 : mg "set" = none := by
      refine' PySem.W.mg_none_of KX G ?z
      (case z => k_is)
    have Bx2 : mg "repr" = none := by
      refine' PySem.W.mg_none_of KX G ?z
      (case z => k_is)
    have d1 : L2.Df (L2.KOf KX) mg "words_of" S60.s_words_of := by
      dsimp only [L2.KOf]; refine' S60.df_mk KX G ?a ?l ?c ?k
      (case a => k_is); (case l => k_is); (case c => k_is); (case k => k_is)
    have d2 : L2.Df (L2.KOf KX) mg "alike_of" S60.s_alike_of := by
      dsimp only [L2.KOf]; refine' S60.df_mk KX G ?a ?l ?c ?k
      (case a => k_is); (case l => k_is); (case c => k_is); (case k => k_is)
    have d3 : L2.Df (L2.KOf KX) mg "many_alike" S60.s_many_alike := by
      dsimp only [L2.KOf]; refine' S60.df_mk KX G ?a ?l ?c ?k
      (case a => k_is); (case l => k_is); (case c => k_is); (case k => k_is)
    have d4 : L2.Df (L2.KOf KX) mg "unlike_words" S60.s_unlike_words := by
      dsimp only [L2.KOf]; refine' S60.df_mk KX G ?a ?l ?c ?k
      (case a => k_is); (case l => k_is); (case c => k_is); (case k => k_is)
    have d5 : L2.Df (L2.KOf KX) mg "common_words" S60.s_common_words := by
      dsimp only [L2.KOf]; refine' S60.df_mk KX G ?a ?l ?c ?k
      (case a => k_is); (case l => k_is); (case c => k_is); (case k => k_is)
    have d6 : L2.Df (L2.KOf KX) mg "count_common" S60.s_count_common := by
      dsimp only [L2.KOf]; refine' S60.df_mk KX G ?a ?l ?c ?k
      (case a => k_is); (case l => k_is); (case c => k_is); (case k => k_is)
    have d7 : L2.Df (L2.KOf KX) mg "longest_common" S60.s_longest_common := by
      dsimp only [L2.KOf]; refine' S60.df_mk KX G ?a ?l ?c ?k
      (case a => k_is); (case l => k_is); (case c => k_is); (case k => k_is)
    have d8 : L2.Df (L2.KOf KX) mg "shortest_own" S60.s_shortest_own := by
      dsimp only [L2.KOf]; refine' S60.df_mk KX G ?a ?l ?c ?k
      (case a => k_is); (case l => k_is); (case c => k_is); (case k => k_is)
    have d9 : L2.Df (L2.KOf KX) mg "_law_cell_at" S60.s_law_cell_at := by
      dsimp only [L2.KOf]; refine' S60.df_mk KX G ?a ?l ?c ?k
      (case a => k_is); (case l => k_is); (case c => k_is); (case k => k_is)
    have d10 : L2.Df (L2.KOf KX) mg "_law_pool" S60.s_law_pool := by
      dsimp only [L2.KOf]; refine' S60.df_mk KX G ?a ?l ?c ?k
      (case a => k_is); (case l => k_is); (case c => k_is); (case k => k_is)
    have d11 : L2.Df (L2.KOf KX) mg "_law_take" S60.s_law_take := by
      dsimp only [L2.KOf]; refine' S60.df_mk KX G ?a ?l ?c ?k
      (case a => k_is); (case l => k_is); (case c => k_is); (case k => k_is)
    have d12 : L2.Df (L2.KOf KX) mg "_law_letters" S60.s_law_letters := by
      dsimp only [L2.KOf]; refine' S60.df_mk KX G ?a ?l ?c ?k
      (case a => k_is); (case l => k_is); (case c => k_is); (case k => k_is)
    have d13 : L2.Df (L2.KOf KX) mg "_law_grown" S60.s_law_grown := by
      dsimp only [L2.KOf]; refine' S60.df_mk KX G ?a ?l ?c ?k
      (case a => k_is); (case l => k_is); (case c => k_is); (case k => k_is)
    have d14 : L2.Df (L2.KOf KX) mg "_law_copies" S60.s_law_copies := by
      dsimp only [L2.KOf]; refine' S60.df_mk KX G ?a ?l ?c ?k
      (case a => k_is); (case l => k_is); (case c => k_is); (case k => k_is)
    have d15 : L2.Df (L2.KOf KX) mg "_law_tree" S60.s_law_tree := by
      dsimp only [L2.KOf]; refine' S60.df_mk KX G ?a ?l ?c ?k
      (case a => k_is); (case l => k_is); (case c => k_is); (case k => k_is)
    have d16 : L2.Df (L2.KOf KX) mg "_law_both" S60.s_law_both := by
      dsimp only [L2.KOf]; refine' S60.df_mk KX G ?a ?l ?c ?k
      (case a => k_is); (case l => k_is); (case c => k_is); (case k => k_is)
    have d17 : L2.Df (L2.KOf KX) mg "_law_read" S60.s_law_read := by
      dsimp only [L2.KOf]; refine' S60.df_mk KX G ?a ?l ?c ?k
      (case a => k_is); (case l => k_is); (case c => k_is); (case k => k_is)
    have d18 : L2.Df (L2.KOf KX) mg "_law_right" S60.s_law_right := by
      dsimp only [L2.KOf]; refine' S60.df_mk KX G ?a ?l ?c ?k
      (case a => k_is); (case l => k_is); (case c => k_is); (case k => k_is)
    have d19 : L2.Df (L2.KOf KX) mg "law" S60.s_law := by
      dsimp only [L2.KOf]; refine' S60.df_mk KX G ?a ?l ?c ?k
      (case a => k_is); (case l => k_is); (case c => k_is); (case k => k_is)
    obtain ⟨fd, h1, h2⟩ := S60.all_ok (P := PySem.Challenge.rw_upwords_k60_common_and_own_words.prog) (w := w) hmg ⟨B, Bx0, Bx1, Bx2⟩ d1 d2 d3 d4 d5 d6 d7 d8 d9 d10 d11 d12 d13 d14 d15 d16 d17 d18 d19
    exact ⟨fd, h1, fun base _ _ => h2 base⟩
