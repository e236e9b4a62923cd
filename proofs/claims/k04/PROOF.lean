import PyProof.Rows.All
import Wide.All
import OpenK.AllK
import Wide.FinOn
import Lean
import PyProof.EqAt
import PyProof.EqKinds
import PyProof.TupleCall
import PyProof.WalkInts
import PyProof.NeKinds
import KE.KDictOf
import PyProof.DictWalks
import KE.KTryOn
import PyProof.NsDelKeeps
import PyProof.ExcAttrAll.ValueError
import PySem.Challenge.RW_upwords_k04_texts_of_no_tree
set_option Elab.async false
set_option linter.all false
set_option maxRecDepth 100000
namespace L2
open PySem PySem.Spec PyProof.Rows
abbrev Key:=Sum Int Str
def keyIs:Key→Value→Bool
  | .inl k,v=>Value.isInt k v
  | .inr x,v=>Value.isStrOf x v
def keyH (w:World):Key→Int
  | .inl k=>hashInt k
  | .inr x=>hashStr w x
theorem keyIs_shape:∀ {k:Key} {v:Value},keyIs k v=true→(∃ i t,k=Sum.inl i∧v=Value.int i t)∨(∃ x t,k=Sum.inr x∧v=Value.str x t)
  | .inl i,v,h=>by
    obtain ⟨t,e⟩:=Value.isInt_shape (k:=i) (v:=v) h
    exact .inl ⟨i,t,rfl,e⟩
  | .inr x,v,h=>by
    obtain ⟨t,e⟩:=Value.isStrOf_shape (x:=x) (v:=v) h
    exact .inr ⟨x,t,rfl,e⟩
theorem key_ll (a b:Int):decide ((Sum.inl a:Key)=Sum.inl b)=(a == b):=by
  by_cases e:a=b
  · subst e;simp
  · have h:¬ (Sum.inl a:Key)=Sum.inl b:=fun q=>e (Sum.inl.inj q)
    rw [decide_eq_false h]
    exact (beq_eq_false_iff_ne.mpr e).symm
theorem key_rr (a b:Str):decide ((Sum.inr a:Key)=Sum.inr b)=decide (a=b):=by
  by_cases e:a=b
  · subst e;simp
  · have h:¬ (Sum.inr a:Key)=Sum.inr b:=fun q=>e (Sum.inr.inj q)
    rw [decide_eq_false h,decide_eq_false e]
theorem key_lr (a:Int) (b:Str):decide ((Sum.inl a:Key)=Sum.inr b)=false:=decide_eq_false (fun q=>nomatch q)
theorem key_rl (a:Str) (b:Int):decide ((Sum.inr a:Key)=Sum.inl b)=false:=decide_eq_false (fun q=>nomatch q)
def mixKind (prog:Program) (w:World):PySem.KeyKind prog w Key where
  is:=keyIs
  hash:=keyH w
  inj:=fun v a b ha hb=>by
    rcases keyIs_shape ha with ⟨i,t,rfl,rfl⟩ | ⟨x,t,rfl,rfl⟩
    · rcases keyIs_shape hb with ⟨j,u,rfl,e⟩ | ⟨y,u,rfl,e⟩
      · injection e with e1 _;rw [e1]
      · exact nomatch e
    · rcases keyIs_shape hb with ⟨j,u,rfl,e⟩ | ⟨y,u,rfl,e⟩
      · exact nomatch e
      · injection e with e1 _;rw [e1]
  byValue:=fun k v h=>by
    rcases keyIs_shape h with ⟨i,t,rfl,rfl⟩ | ⟨x,t,rfl,rfl⟩ <;> rfl
  pyHash:=fun hv h=>by
    rcases keyIs_shape hv with ⟨i,t,rfl,rfl⟩ | ⟨x,t,rfl,rfl⟩
    · exact wpAny_pyHash_int h
    · exact wpAny_pyHash_str h
  eqBool:=fun hu hv h=>by
    rcases keyIs_shape hu with ⟨i,t,rfl,rfl⟩ | ⟨x,t,rfl,rfl⟩
    · rcases keyIs_shape hv with ⟨j,u,rfl,rfl⟩ | ⟨y,u,rfl,rfl⟩
      · rw [key_ll] at h;exact wpAny_eqBool_int h
      · rw [key_lr] at h;exact SeqAt.EqAt.int_str i t y u _ _ _ _ h
    · rcases keyIs_shape hv with ⟨j,u,rfl,rfl⟩ | ⟨y,u,rfl,rfl⟩
      · rw [key_rl] at h;exact SeqAt.EqAt.str_int x t j u _ _ _ _ h
      · rw [key_rr] at h;exact wpAny_eqBool_str h
  «strs»:=fun k x t v h=>by
    rcases keyIs_shape h with ⟨i,u,rfl,e⟩ | ⟨y,u,rfl,e⟩
    · exact nomatch e
    · injection e with e1 _
      subst e1
      cases v <;> rfl
end L2
namespace L2
open PySem PySem.Spec PyProof.Rows
inductive V where
  | non | bl (b:Bool) | int (i:Int) | str (x:Str) | byt (b:Array UInt8) | flt (b:UInt64) | ref (a:Addr) | ty (n:String)
  deriving DecidableEq
def RelV:V→Value→Prop
  | .non,u=>u=Value.none
  | .bl b,u=>u=Value.bool b
  | .int i,u=>∃ t,u=Value.int i t
  | .str x,u=>∃ t,u=Value.str x t
  | .byt b,u=>∃ t,u=Value.bytes b t
  | .flt b,u=>∃ t,u=Value.float b t
  | .ref a,u=>u=Value.ref a
  | .ty n,u=>u=Value.type n
abbrev Vals:List V→List Value→Prop:=Paired RelV
theorem Vals.length {xs:List V} {us:List Value} (r:Vals xs us):xs.length=us.length:=Paired.length r
theorem Vals.get:∀ {xs:List V} {us:List Value} {i:Nat} {x:V},Vals xs us→xs[i]?=some x→∃ u,us[i]?=some u∧RelV x u
  | _,_,_,_,.nil,e=>by simp at e
  | _,_,0,_,.cons r _,e=>by simp at e;subst e;exact ⟨_,rfl,r⟩
  | _,_,i+1,x,.cons _ t,e=>by
    obtain ⟨u,h1,h2⟩:=Vals.get (i:=i) (x:=x) t (by simpa using e)
    exact ⟨u,by simpa using h1,h2⟩
theorem Vals.set {x:V} {u:Value} (r:RelV x u):∀ {xs:List V} {us:List Value} (i:Nat),Vals xs us→Vals (xs.set i x) (us.set i u)
  | _,_,_,.nil=>.nil
  | _,_,0,.cons _ t=>.cons r t
  | _,_,i+1,.cons q t=>.cons q (Vals.set r i t)
theorem Vals.append:∀ {xs ys:List V} {us ws:List Value},Vals xs us→Vals ys ws→Vals (xs++ys) (us++ws)
  | _,_,_,_,.nil,s=>s
  | _,_,_,_,.cons r t,s=>.cons r (Vals.append t s)
theorem Vals.take:∀ {xs:List V} {us:List Value} (n:Nat),Vals xs us→Vals (xs.take n) (us.take n)
  | _,_,0,_=>.nil
  | _,_,_+1,.nil=>.nil
  | _,_,n+1,.cons r t=>.cons r (Vals.take n t)
theorem Vals.drop:∀ {xs:List V} {us:List Value} (n:Nat),Vals xs us→Vals (xs.drop n) (us.drop n)
  | _,_,0,r=>r
  | _,_,_+1,.nil=>.nil
  | _,_,n+1,.cons _ t=>Vals.drop n t
def RelO:Option V→Option Value→Prop
  | some v,some u=>RelV v u
  | none,none=>True
  | _,_=>False
def KV {κ:Type}:List (κ × V)→List (κ × Value)→Prop:=Paired fun (p:κ × V) (q:κ × Value)=>p.1=q.1∧RelV p.2 q.2
def kV:Key→V
  | .inl i=>.int i
  | .inr x=>.str x
inductive HO where
    | lst (xs:List V)
    | tup (xs:List V)
    | dK (kvs:List (Key × V)) | dT (kvs:List (List Key × V))
    | set (S:Int→Bool) (n:Nat)
    | ins (C dx:Addr) (fs:List (Str × V))
    | own (x:Addr)
    | xd (fs:List (Str × V))
    | met (f x:Addr)
    | rng (lo hi:Int)
    | frz (o:Obj) (u:HO)
    | tbl (ps:Array Value)
    | ext (φ:Heap→Prop)
abbrev Hp:=Addr→Option HO
def upd (H:Hp) (a:Addr) (o:HO):Hp:=fun b=>if b=a then some o else H b
theorem upd_same {H:Hp} {a:Addr} {o:HO}:upd H a o a=some o:=by unfold upd;rw [if_pos rfl]
theorem upd_ne {H:Hp} {a b:Addr} {o:HO} (h:b≠a):upd H a o b=H b:=by unfold upd;rw [if_neg h]
theorem upd_upd {H:Hp} {a:Addr} {o u:HO}:upd (upd H a o) a u=upd H a u:=by
  funext b;unfold upd;split <;> rfl
theorem ne_of {H:Hp} {a b:Addr} {o u:HO} (h:H a=some o) (h':H b=some u) (d:o≠u):a≠b:=by
  intro e;subst e;rw [h] at h';exact d (Option.some.inj h')
theorem ne_of_none {H:Hp} {a b:Addr} {o:HO} (h:H a=some o) (h':H b=none):a≠b:=by
  intro e;subst e;rw [h] at h';cases h'
section
variable (P:Program) (w:World)
def ObjOk (H:Hp) (h:Heap) (a:Addr):HO→Prop
  | .lst xs=>xs.length≤sizeLine∧∃ (its:List Value) (n:Nat),Vals xs its∧h.get? a=some { cls:=.type "list", data:=.seq its.toArray n }
  | .tup xs=>(xs.length≤sizeLine∧∃ o,h.get? a=some o∧o.dict=none)∧∃ its:List Value,Vals xs its∧IsTup h a its.toArray
  | .dK kvs=>kvs.length≤sizeLine∧(a == sysModules)=false∧∃ vs,KV kvs vs∧h.DictOf (mixKind P w) a vs
  | .dT kvs=>kvs.length≤sizeLine∧(a == sysModules)=false∧∃ xs:List (List Key × Addr × Value),
      Paired (fun (p:List Key × V) (q:List Key × Addr × Value)=>p.1=q.1∧H q.2.1=some (.tup (p.1.map kV))∧RelV p.2 q.2.2) kvs xs ∧
      ∃ o es ep,h.get? a=some o∧o.ExactDict∧o.data=.dict es ep∧es.toList=xs.map (entryOfKey (tupleKind (mixKind P w)))∧(xs.map (·.1)).Nodup
  | .set S n=>h.SetOf (intKind P w) a S n
  | .ins C dx fs=>H dx=some (.own a)∧fs.length≤1000∧dx≠a∧h.get? a=some (PySem.W.instObj C dx) ∧
      ∃ mA,h.Ns1 dx mA∧(∀ f,RelO (fs.lookup f) (mA f))∧PySem.Within mA (fs.map (·.1))
  | .own _=>∃ o,h.get? a=some o
  | .xd fs=>∃ mA,h.Ns1 a mA∧∀ f,RelO (fs.lookup f) (mA f)
  | .rng lo hi=>∃ t u v,h.get? a=some { cls:=.type "range", data:=.fields #[.int lo t,.int hi u,.int 1 v] }
  | .frz o u=>h.get? a=some o∧ObjOk H h a u
  | .tbl ps=>h.get? a=some { cls:=.none,data:=.fields ps }
  | .met f x=>h.get? a=some (PySem.W.methodObj (.ref f) (.ref x))
  | .ext φ=>φ h∧(∃ o,h.get? a=some o)∧∀ h1 h2:Heap,φ h1→(∀ o,h1.get? a=some o→h2.get? a=some o)→φ h2
def HOk (H:Hp) (h:Heap):Prop:=∀ a o,H a=some o→ObjOk P w H h a o
end
section
variable {P:Program} {w:World} {H H':Hp} {h h':Heap} {a:Addr} {o:HO}
theorem ObjOk.lt (x:ObjOk P w H h a o):a < h.objs.size:=by
  cases o with
  | lst xs=>obtain ⟨_,_,_,_,e⟩:=x;exact Heap.lt_size e
  | tup xs=>obtain ⟨_,_,_,p⟩:=x;exact p.lt
  | dK kvs=>obtain ⟨_,_,_,_,o,_,_,e,_⟩:=x;exact Heap.lt_size e
  | dT kvs=>obtain ⟨_,_,_,_,o,_,_,e,_⟩:=x;exact Heap.lt_size e
  | set S n=>obtain ⟨o,_,_,_,e,_⟩:=x;exact Heap.lt_size e
  | ins C dx fs=>obtain ⟨_,_,_,e,_⟩:=x;exact Heap.lt_size e
  | own y=>obtain ⟨_,e⟩:=x;exact Heap.lt_size e
  | xd fs=>obtain ⟨_,⟨_,_,_,e,_⟩,_⟩:=x;exact Heap.lt_size e
  | rng lo hi=>obtain ⟨_,_,_,e⟩:=x;exact Heap.lt_size e
  | frz ob u=>obtain ⟨e,_⟩:=x;exact Heap.lt_size e
  | tbl ps=>exact Heap.lt_size (show h.get? a=some _ from x)
  | met f y=>exact Heap.lt_size (show h.get? a=some _ from x)
  | ext φ=>obtain ⟨_,⟨_,e⟩,_⟩:=x;exact Heap.lt_size e
theorem Paired.mapP {α β:Type} {F G:α→β→Prop}:∀ {l₁:List α} {l₂:List β},Paired F l₁ l₂→(∀ a b,F a b→G a b)→Paired G l₁ l₂
  | _,_,.nil,_=>.nil
  | _,_,.cons r t,f=>.cons (f _ _ r) (Paired.mapP t f)
theorem ObjOk.stay (x:ObjOk P w H h a o) (k:∀ b u,(b=a∨H b=some (.own a))→h.get? b=some u→h'.get? b=some u)
    (ho:∀ b,H b=some (.own a)→H' b=some (.own a)) (ht:∀ b xs,H b=some (.tup xs)→H' b=some (.tup xs)):ObjOk P w H' h' a o:=by
  induction o with
  | lst xs=>obtain ⟨z,its,n,r,e⟩:=x;exact ⟨z,its,n,r,k _ _ (.inl rfl) e⟩
  | tup xs=>obtain ⟨⟨z,o1,e1,c1⟩,its,r,ob,e,c⟩:=x;exact ⟨⟨z,o1,k _ _ (.inl rfl) e1,c1⟩,its,r,ob,k _ _ (.inl rfl) e,c⟩
  | dK kvs=>obtain ⟨z,y,vs,r,ob,es,ep,e,c⟩:=x;exact ⟨z,y,vs,r,ob,es,ep,k _ _ (.inl rfl) e,c⟩
  | dT kvs=>
    obtain ⟨z,y,xs,r,ob,es,ep,e,c⟩:=x
    exact ⟨z,y,xs,Paired.mapP r fun p q z=>⟨z.1,ht _ _ z.2.1,z.2.2⟩,ob,es,ep,k _ _ (.inl rfl) e,c⟩
  | set S n=>obtain ⟨ob,es,ep,t,e,c⟩:=x;exact ⟨ob,es,ep,t,k _ _ (.inl rfl) e,c⟩
  | ins C dx fs=>
    obtain ⟨d,z,ne,e,mA,⟨od,es,ep,e2,c⟩,r⟩:=x
    exact ⟨ho _ d,z,ne,k _ _ (.inl rfl) e,mA,⟨od,es,ep,k _ _ (.inr d) e2,c⟩,r⟩
  | own y=>obtain ⟨ob,e⟩:=x;exact ⟨ob,k _ _ (.inl rfl) e⟩
  | xd fs=>obtain ⟨mA,⟨od,es,ep,e,c⟩,r⟩:=x;exact ⟨mA,⟨od,es,ep,k _ _ (.inl rfl) e,c⟩,r⟩
  | rng lo hi=>obtain ⟨t,u,v,e⟩:=x;exact ⟨t,u,v,k _ _ (.inl rfl) e⟩
  | frz ob u ih=>obtain ⟨e,q⟩:=x;exact ⟨k _ _ (.inl rfl) e,ih q⟩
  | tbl ps=>
    have e:h.get? a=some { cls:=.none,data:=.fields ps }:=x
    show h'.get? a=some { cls:=.none,data:=.fields ps }
    exact k a _ (.inl rfl) e
  | met f y=>
    have e:h.get? a=some (PySem.W.methodObj (.ref f) (.ref y)):=x
    show h'.get? a=some (PySem.W.methodObj (.ref f) (.ref y))
    exact k a _ (.inl rfl) e
  | ext φ=>obtain ⟨p,⟨o,e⟩,st⟩:=x;exact ⟨st _ _ p fun o q=>k _ _ (.inl rfl) q,⟨o,k _ _ (.inl rfl) e⟩,st⟩
theorem HOk.lt (x:HOk P w H h) (e:H a=some o):a < h.objs.size:=(x a o e).lt
theorem HOk.fresh (x:HOk P w H h) (e:h.objs.size≤a):H a=none:=by
  cases q:H a with
  | none=>rfl
  | some u=>exact absurd (Nat.lt_of_lt_of_le (x.lt q) e) (Nat.lt_irrefl _)
theorem HOk.kept (x:HOk P w H h) (k:∀ b u,h.get? b=some u→h'.get? b=some u):HOk P w H h':=fun a o e=>
  (x a o e).stay (fun b u _ q=>k b u q) (fun _ q=>q) fun _ _ q=>q
theorem HOk.laid (x:HOk P w H h) (k:∀ b u,h.get? b=some u→h'.get? b=some u) (hp:h.objs.size≤a) (new:ObjOk P w (upd H a o) h' a o):HOk P w (upd H a o) h':=fun b u e=>by
  have hn:=x.fresh hp
  by_cases hb:b=a
  · subst hb;rw [upd_same] at e;cases e;exact new
  · rw [upd_ne hb] at e
    exact (x b u e).stay (fun c v _ q=>k c v q) (fun c q=>by rw [upd_ne (ne_of_none q hn)];exact q) fun c xs q=>by rw [upd_ne (ne_of_none q hn)];exact q
end
def Rd (H:Hp) (a:Addr) (u:HO):Prop:=H a=some u∨∃ o,H a=some (.frz o u)
theorem Rd.ok {P:Program} {w:World} {H:Hp} {h:Heap} {a:Addr} {u:HO} (r:Rd H a u) (x:HOk P w H h):ObjOk P w H h a u:=by
  rcases r with r | ⟨o,r⟩
  · exact x a u r
  · obtain ⟨_,q⟩:=x a _ r
    exact q
def Mut:Option HO→Prop
  | some (.lst _)=>True
  | some (.dK _)=>True
  | some (.dT _)=>True
  | some (.set _ _)=>True
  | some (.ins _ _ _)=>True
  | some (.ext _)=>True
  | _=>False
section
variable {P:Program} {w:World} {H:Hp} {h h':Heap} {x e:Addr} {o':HO}
theorem HOk.write (ok:HOk P w H h) (mu:Mut (H x)) (he:e=x∨H e=some (.own x)) (k:∀ b u,b≠e→h.get? b=some u→h'.get? b=some u) (heo:∃ u,h'.get? e=some u)
    (new:ObjOk P w (upd H x o') h' x o'):HOk P w (upd H x o') h':=fun b u q=>by
  have nown:∀ c y,H c=some (.own y)→c≠x:=fun c y r z=>by subst z;rw [r] at mu;exact mu
  have ntup:∀ c xs,H c=some (.tup xs)→c≠x:=fun c xs r z=>by subst z;rw [r] at mu;exact mu
  by_cases hb:b=x
  · subst hb;rw [upd_same] at q;cases q;exact new
  · rw [upd_ne hb] at q
    by_cases hbe:b=e
    · have q':H b=some (.own x):=by
        rcases he with z | z
        · exact absurd (hbe.trans z) hb
        · rw [hbe];exact z
      rw [q] at q';cases q'
      obtain ⟨v,hv⟩:=heo
      exact ⟨v,by rw [hbe];exact hv⟩
    · refine (ok b u q).stay (fun c v hc r=>k c v ?_ r) (fun c r=>by rw [upd_ne (nown c b r)];exact r) fun c xs r=>by rw [upd_ne (ntup c xs r)];exact r
      rcases hc with rfl | hc
      · exact hbe
      · rintro rfl
        rcases he with z | z
        · exact nown c b hc z
        · rw [hc] at z;cases z;exact hb rfl
end
structure Un (fs ex:List Addr) (H H':Hp) (h h':Heap):Prop where
  keep:∀ b o,h.get? b=some o→H b=none→b ∉ fs→b ∉ ex→h'.get? b=some o
  slot:∀ b o,h.get? b=some o→H b=none→b∈fs→b ∉ ex→∃ sl,h'.get? b=some { o with slots:=sl }
  free:∀ b o,h.get? b=some o→H b=none→b ∉ ex→H' b=none
  there:∀ b o,h.get? b=some o→b ∉ ex→∃ o',h'.get? b=some o'
  tups:∀ b xs,H b=some (.tup xs)→H' b=some (.tup xs)
  frzs:∀ b o u,H b=some (.frz o u)→H' b=some (.frz o u)
  tbls:∀ b ps,H b=some (.tbl ps)→∃ more,H' b=some (.tbl (ps++more))
section
variable {fs fs' ex ex':List Addr} {H H1 H2:Hp} {h h1 h2 h':Heap} {a x e:Addr} {o:HO}
theorem Un.any (u:Un fs ex H H1 h h1) {b:Addr} {ob:Obj} (q:h.get? b=some ob) (n:H b=none) (hx:b ∉ ex):∃ sl,h1.get? b=some { ob with slots:=sl }:=by
  by_cases hb:b∈fs
  · exact u.slot b ob q n hb hx
  · exact ⟨ob.slots,u.keep b ob q n hb hx⟩
theorem Un.kept (k:∀ b u,h.get? b=some u→h'.get? b=some u):Un fs ex H H h h':=
  ⟨fun b ob q _ _ _=>k b ob q,fun b ob q _ _ _=>⟨ob.slots,k b ob q⟩,fun _ _ _ n _=>n,fun b ob q _=>⟨ob,k b ob q⟩,fun _ _ q=>q,fun _ _ _ q=>q,fun _ ps q=>⟨#[],by rw [q];simp⟩⟩
theorem Un.refl:Un fs ex H H h h:=Un.kept fun _ _ q=>q
theorem Un.laid (k:∀ b u,h.get? b=some u→h'.get? b=some u) (hp:h.objs.size≤a) (hn:H a=none):Un fs ex H (upd H a o) h h' where
  keep:=fun b u q _ _ _=>k b u q
  slot:=fun b u q _ _ _=>⟨u.slots,k b u q⟩
  free:=fun b u q n _=>by rw [upd_ne (Nat.ne_of_lt (Nat.lt_of_lt_of_le (Heap.lt_size q) hp))];exact n
  there:=fun b u q _=>⟨u,k b u q⟩
  tups:=fun b xs q=>by rw [upd_ne (ne_of_none q hn)];exact q
  frzs:=fun b u xs q=>by rw [upd_ne (ne_of_none q hn)];exact q
  tbls:=fun b ps q=>⟨#[],by rw [upd_ne (ne_of_none q hn),q];simp⟩
theorem Un.write (mu:Mut (H x)) (he:e=x∨H e=some (.own x)) (k:∀ b u,b≠e→h.get? b=some u→h'.get? b=some u) (heo:∃ u,h'.get? e=some u):Un fs ex H (upd H x o) h h':=by
  have hx:∀ b,H b=none→b≠x:=fun b n z=>by subst z;rw [n] at mu;exact mu
  have hb:∀ b,H b=none→b≠e:=fun b n z=>by
    subst z
    rcases he with r | r
    · exact hx b n r
    · rw [n] at r;cases r
  have hm:∀ b u,H b=some u→¬ Mut (some u)→b≠x:=fun b u q nm z=>by subst z;rw [q] at mu;exact nm mu
  refine ⟨fun b u q n _ _=>k b u (hb b n) q,fun b u q n _ _=>⟨u.slots,k b u (hb b n) q⟩,fun b u q n _=>by rw [upd_ne (hx b n)];exact n,fun b u q _=>?_,
    fun b xs q=>by rw [upd_ne (hm b _ q fun z=>z)];exact q,fun b u xs q=>by rw [upd_ne (hm b _ q fun z=>z)];exact q,fun b ps q=>⟨#[],by rw [upd_ne (hm b _ q fun z=>z),q];simp⟩⟩
  by_cases hbe:b=e
  · subst hbe;exact heo
  · exact ⟨u,k b u hbe q⟩
end
def trk (h:Heap) (H:Hp):List Addr:=(List.range h.objs.size).filter fun a=>(H a).isSome
def hidT (h:Heap) (H:Hp):Heap:=PySem.W.hideAll h (trk h H)
theorem hidT_size (h:Heap) (H:Hp):(hidT h H).objs.size=h.objs.size:=PySem.W.hideAll_size _ _
theorem hidT_get {h:Heap} {H:Hp} {b:Addr} {o:Obj} (e:h.get? b=some o) (n:H b=none):(hidT h H).get? b=some o:=
  PySem.W.hideAll_get _ e fun hm=>by
    have q:(H b).isSome=true:=(List.mem_filter.mp hm).2
    rw [n] at q;simp at q
theorem of_hidT {h:Heap} {H:Hp} {b:Addr} {o:Obj} (e:(hidT h H).get? b=some o):h.get? b=some o∧H b=none:=by
  have e':h.get? b=some o:=PySem.W.of_hideAll (trk h H) e
  refine ⟨e',?_⟩
  cases q:H b with
  | none=>rfl
  | some x=>
    have hm:b∈trk h H:=List.mem_filter.mpr ⟨List.mem_range.mpr (Heap.lt_size e'),by simp [q]⟩
    have z:(hidT h H).get? b=none:=PySem.W.hideAll_none (trk h H) hm
    rw [z] at e;cases e
end L2
namespace L2
open PySem PySem.Spec PyProof.Rows
structure Mod (K:PySem.W.Frag) (mg:Str→Option Value) (base:Heap):Prop where
  kin:K.In base
  glob:base.Ns mainGlobals mg
  blt:∃ mb,base.Ns builtinsNs mb∧∀ x:Str,x ≠ "__name__" → mb x=bootBuiltins x
  nolimit:base.NoLimit
structure Cx where
  prog:Program
  w:World
  K:PySem.W.Frag
  mg:Str→Option Value
  base:Heap
  A:Around
  N:List Str
  s₀:Shared
  H₀:Hp
  env:Env
  outer:List Env
  stack:List Env
  ex:List Addr
  fn:Str→Bool
  calm:Bool
  pn:List (Addr × Obj)
  xe:Value→Shared→Prop
def frs (l:List Env):List Addr:=l.filterMap (·.frame)
abbrev Cx.fs (X:Cx):List Addr:=frs X.outer
def Vis (sc:Scope) (x:Str):Prop:=sc.names.lookup x=some .local∨sc.names.lookup x=some .cell∨sc.names.lookup x=some .free
def Loc (sc:Scope) (x:Str):Prop:=sc.names.lookup x=some .local∨sc.names.lookup x=some .cell
def Look (env:Env) (h:Heap) (m:Str→Option Value) (x:Str) (u:Value):Prop:=
  (env.kindOf x=some .local∧m x=some u)∨((env.kindOf x=some .cell∨env.kindOf x=some .free)∧∃ c,env.cells.lookup x=some c∧h.IsCell c (some u))
structure Cx.Ok (X:Cx):Prop where
  mod:Mod X.K X.mg X.base
  kind:X.env.scope.kind=.function
  glob:X.env.globals=mainGlobals
  blt:X.env.builtins=builtinsNs
  above:X.s₀.heap.objs.size≤X.env.locals
  inj:∀ x y c,X.env.cells.lookup x=some c→X.env.cells.lookup y=some c→x=y
  has:∀ x,(X.env.kindOf x=some .cell∨X.env.kindOf x=some .free)→∃ c,X.env.cells.lookup x=some c
  cab:∀ x c,X.fn x=true→X.env.cells.lookup x=some c→X.s₀.heap.objs.size≤c
  hd:X.calm=true→X.A.handled=none
  frames:X.A.frames=some X.stack
  stk:X.stack=X.outer∨(X.stack=X.env :: X.outer∧X.env.frame=some X.env.locals)
  exf:∀ b∈X.ex,b≠X.env.locals∧∀ x c,X.env.cells.lookup x=some c→c≠b
  bs:∀ b o,X.base.get? b=some o→X.s₀.heap.get? b=some o∧X.H₀ b=none
  bsz:X.base.objs.size≤X.s₀.heap.objs.size
  noex:∀ b o,X.base.get? b=some o→b ∉ X.ex
  exfs:∀ b∈X.ex,b ∉ X.fs
  funs:X.s₀.heap.FunFrames X.base X.outer
  frf:∀ b∈X.fs,X.H₀ b=none
structure Inv (X:Cx) (pins:List (Addr × Obj)) (σ:List (Option V)) (H:Hp) (s:Shared):Prop where
  ok:X.Ok
  os:s.os=X.s₀.os
  bare:AllBare s.gens
  base:Un X.fs X.ex X.H₀ H X.s₀.heap s.heap
  loc:∃ m,s.heap.Ns X.env.locals m∧∀ (i:Nat) (x:Str) (v:V),X.N[i]?=some x→σ[i]?=some (some v)→Vis X.env.scope x→∃ u,RelV v u∧Look X.env s.heap m x u
  cell:∀ x c,X.env.cells.lookup x=some c→∃ v,s.heap.IsCell c v
  free:H X.env.locals=none
  freeC:∀ x c,X.env.cells.lookup x=some c→H c=none
  pin:∀ p∈X.pn++pins,s.heap.get? p.1=some p.2∧H p.1=none∧p.1≠X.env.locals∧p.1 ∉ X.fs∧∀ v,p.2.data≠.cell v
  hok:HOk X.prog X.w H s.heap
  len:σ.length=X.N.length
section
variable {X:Cx} {pins:List (Addr × Obj)} {σ:List (Option V)} {H H':Hp} {s:Shared} {h':Heap}
theorem Cx.Ok.nofr (ok:X.Ok) {b:Addr} {o:Obj} (e:X.base.get? b=some o):b ∉ X.fs:=fun hb=>by
  have:=(ok.funs.mem hb).1
  rw [e] at this;cases this
theorem Inv.bs (I:Inv X pins σ H s):∀ b o,X.base.get? b=some o→s.heap.get? b=some o∧H b=none:=fun b o e=>
  ⟨I.base.keep b o (I.ok.bs b o e).1 (I.ok.bs b o e).2 (I.ok.nofr e) (I.ok.noex b o e),I.base.free b o (I.ok.bs b o e).1 (I.ok.bs b o e).2 (I.ok.noex b o e)⟩
theorem Inv.bk (I:Inv X pins σ H s):∀ b o,X.base.get? b=some o→s.heap.get? b=some o:=fun b o e=>(I.bs b o e).1
theorem Inv.mod (I:Inv X pins σ H s):Mod X.K X.mg X.base:=I.ok.mod
theorem Inv.kIn (I:Inv X pins σ H s):X.K.In s.heap:=I.ok.mod.kin.keeps I.bk
theorem Inv.fr (I:Inv X pins σ H s):∃ m,Fr X.base X.env.locals s.heap m:=
  let ⟨m,hn,_⟩:=I.loc
  ⟨m,hn,I.bk,Nat.le_trans I.ok.bsz I.ok.above⟩
theorem Inv.lt (I:Inv X pins σ H s):X.env.locals < s.heap.objs.size:=let ⟨_,hn,_⟩:=I.loc;hn.lt
theorem Inv.sz (I:Inv X pins σ H s):X.s₀.heap.objs.size≤s.heap.objs.size:=Nat.le_trans I.ok.above (Nat.le_of_lt I.lt)
theorem Inv.nofs (I:Inv X pins σ H s) {a:Addr} (h:s.heap.objs.size≤a):a ∉ X.fs:=fun hb=>by
  obtain ⟨_,o,ho,_⟩:=I.ok.funs.mem hb
  exact absurd (Nat.lt_of_lt_of_le (Heap.lt_size ho) (Nat.le_trans I.sz h)) (Nat.lt_irrefl _)
theorem Inv.cne (I:Inv X pins σ H s):∀ x c,X.env.cells.lookup x=some c→c≠X.env.locals:=fun x c e z=>by
  obtain ⟨v,o,ho,hd⟩:=I.cell x c e
  obtain ⟨m,⟨o',es,ep,ho',hd',_⟩,_⟩:=I.loc
  rw [z,ho'] at ho;cases ho;rw [hd'] at hd;cases hd
theorem Inv.funs (I:Inv X pins σ H s):s.heap.FunFrames X.base X.outer:=by
  have all:∀ (l:List Env),(∀ b∈frs l,b∈X.fs)→X.s₀.heap.FunFrames X.base l→s.heap.FunFrames X.base l:=by
    intro l
    induction l with
    | nil=>intro _ _;trivial
    | cons env r ih=>
      intro hs hl
      obtain ⟨hk,⟨L,o,hf,hn,ho,hd⟩,hr⟩:=hl
      have hL:L∈X.fs:=hs L (by unfold frs;rw [List.filterMap_cons,hf];exact List.mem_cons_self)
      obtain ⟨sl,e⟩:=I.base.slot L o ho (I.ok.frf L hL) hL fun z=>I.ok.exfs L z hL
      exact ⟨hk,⟨L,_,hf,hn,e,hd⟩,ih (fun b hb=>hs b (by unfold frs;rw [List.filterMap_cons,hf];exact List.mem_cons_of_mem _ hb)) hr⟩
  exact all X.outer (fun _ hb=>hb) I.ok.funs
theorem Inv.stack (I:Inv X pins σ H s):s.heap.FunFrames X.base X.stack:=by
  rcases I.ok.stk with e | ⟨e,hf⟩
  · rw [e];exact I.funs
  · rw [e]
    obtain ⟨m,hn,_⟩:=I.loc
    refine .cons (by rw [I.ok.kind];decide) hf hn ?_ I.funs
    exact Heap.get?_none_of_le (Nat.le_trans I.ok.bsz I.ok.above)
theorem Inv.stkSub (I:Inv X pins σ H s):∀ b∈frs X.stack,b∈X.env.locals :: X.fs:=fun b hb=>by
  rcases I.ok.stk with e | ⟨e,hf⟩
  · rw [e] at hb;exact List.mem_cons_of_mem _ hb
  · rw [e] at hb
    unfold frs at hb
    rw [List.filterMap_cons,hf] at hb
    exact hb
theorem Inv.stkFree (I:Inv X pins σ H s):∀ b∈frs X.stack,H b=none:=fun b hb=>by
  rcases List.mem_cons.mp (I.stkSub b hb) with e | hb
  · rw [e];exact I.free
  · obtain ⟨_,o,ho,_⟩:=I.ok.funs.mem hb
    exact I.base.free b o ho (I.ok.frf b hb) fun z=>I.ok.exfs b z hb
theorem Inv.step {g':Array GenState} {t':Nat} {d':Drawn} {ch:List Addr} (I:Inv X pins σ H s)
    (hch:∀ b∈ch,(b∈X.ex∨X.s₀.heap.objs.size≤b)∧b≠X.env.locals∧(∀ x c,X.env.cells.lookup x=some c→c≠b)∧∀ p∈X.pn++pins,p.1≠b)
    (keep:∀ b o,b≠X.env.locals→b ∉ X.fs→b ∉ ch→s.heap.get? b=some o→H b=none→h'.get? b=some o)
    (slot:∀ b o,b≠X.env.locals→b∈X.fs→b ∉ ch→s.heap.get? b=some o→H b=none→∃ sl,h'.get? b=some { o with slots:=sl }) (free:∀ b o,b ∉ ch→s.heap.get? b=some o→H b=none→H' b=none)
    (there:∀ b o,b ∉ ch→s.heap.get? b=some o→∃ o',h'.get? b=some o')
    (tups:∀ b xs,H b=some (.tup xs)→H' b=some (.tup xs)) (frzs:∀ b o u,H b=some (.frz o u)→H' b=some (.frz o u)) (tbls:∀ b ps,H b=some (.tbl ps)→∃ more,H' b=some (.tbl (ps++more)))
    (ns:∀ m,s.heap.Ns X.env.locals m→h'.Ns X.env.locals m) (hok:HOk X.prog X.w H' h') (hg:AllBare g') :
    Inv X pins σ H' { s with heap:=h',gens:=g',drawn:=d',toks:=t' }:=by
  have neL:∀ b o,X.s₀.heap.get? b=some o→b≠X.env.locals:=fun b o e=>Nat.ne_of_lt (Nat.lt_of_lt_of_le (Heap.lt_size e) I.ok.above)
  have neC:∀ b o,X.s₀.heap.get? b=some o→b ∉ X.ex→b ∉ ch:=fun b o e hx hb=>by
    rcases (hch b hb).1 with z | z
    · exact hx z
    · exact absurd (Nat.lt_of_lt_of_le (Heap.lt_size e) z) (Nat.lt_irrefl _)
  have cellK:∀ x c,X.env.cells.lookup x=some c→∀ v,s.heap.IsCell c v→h'.IsCell c v:=fun x c e v ⟨o,ho,hd⟩=>by
    have nch:c ∉ ch:=fun z=>(hch c z).2.2.1 x c e rfl
    by_cases hc:c∈X.fs
    · obtain ⟨sl,q⟩:=slot c o (I.cne x c e) hc nch ho (I.freeC x c e)
      exact ⟨_,q,hd⟩
    · exact ⟨o,keep c o (I.cne x c e) hc nch ho (I.freeC x c e),hd⟩
  refine ⟨I.ok,I.os,hg,⟨fun b o e n hb hx=>?_,fun b o e n hb hx=>?_,fun b o e n hx=>?_,fun b o e hx=>?_,fun b xs e=>tups b xs (I.base.tups b xs e),fun b o xs e=>frzs b o xs (I.base.frzs b o xs e),fun b ps e=>?_⟩,?_,fun x c e=>?_,?_,fun x c e=>?_,fun p hp=>?_,hok,I.len⟩
  · exact keep b o (neL b o e) hb (neC b o e hx) (I.base.keep b o e n hb hx) (I.base.free b o e n hx)
  · obtain ⟨sl,e1⟩:=I.base.slot b o e n hb hx
    obtain ⟨sl',e2⟩:=slot b _ (neL b o e) hb (neC b o e hx) e1 (I.base.free b o e n hx)
    exact ⟨sl',e2⟩
  · obtain ⟨o',e1⟩:=I.base.there b o e hx
    exact free b o' (neC b o e hx) e1 (I.base.free b o e n hx)
  · obtain ⟨o',e1⟩:=I.base.there b o e hx
    exact there b o' (neC b o e hx) e1
  · obtain ⟨m1,e1⟩:=I.base.tbls b ps e
    obtain ⟨m2,e2⟩:=tbls b _ e1
    exact ⟨m1++m2,by rw [e2,Array.append_assoc]⟩
  · obtain ⟨m,hn,hl⟩:=I.loc
    refine ⟨m,ns m hn,fun i x v e1 e2 e3=>?_⟩
    obtain ⟨u,r,l⟩:=hl i x v e1 e2 e3
    refine ⟨u,r,?_⟩
    rcases l with l | ⟨k,c,e,z⟩
    · exact .inl l
    · exact .inr ⟨k,c,e,cellK x c e _ z⟩
  · obtain ⟨v,z⟩:=I.cell x c e
    exact ⟨v,cellK x c e v z⟩
  · obtain ⟨m,⟨o,_,_,ho,_⟩,_⟩:=I.loc
    exact free _ o (fun z=>(hch _ z).2.1 rfl) ho I.free
  · obtain ⟨v,o,ho,hd⟩:=I.cell x c e
    exact free c o (fun z=>(hch c z).2.2.1 x c e rfl) ho (I.freeC x c e)
  · obtain ⟨e,n,ne,nf,d⟩:=I.pin p hp
    have nch:p.1 ∉ ch:=fun z=>(hch p.1 z).2.2.2 p hp rfl
    exact ⟨keep p.1 p.2 ne nf nch e n,free p.1 p.2 nch e n,ne,nf,d⟩
theorem Inv.un {t':Nat} (I:Inv X pins σ H s) (u:Un X.fs [] H H' s.heap h') (hok:HOk X.prog X.w H' h'):Inv X pins σ H' { s with heap:=h',toks:=t' }:=by
  obtain ⟨m,⟨o,es,ep,ho,r⟩,_⟩:=id I.loc
  obtain ⟨sl,hL⟩:=u.any ho I.free (by simp)
  exact I.step (g':=s.gens) (d':=s.drawn) (ch:=[]) (fun _ z=>nomatch z) (fun b o _ hb _ e n=>u.keep b o e n hb (by simp)) (fun b o _ hb _ e n=>u.slot b o e n hb (by simp)) (fun b o _ e n=>u.free b o e n (by simp)) (fun b o _ e=>u.there b o e (by simp)) u.tups u.frzs u.tbls (fun m' hm=>by
    obtain ⟨o',es',ep',ho',r'⟩:=hm
    rw [ho] at ho';cases ho'
    exact ⟨_,es',ep',hL,r'⟩) hok I.bare
theorem Inv.call {g':Array GenState} {t':Nat} {d':Drawn} {ch:List Addr} (I:Inv X pins σ H s) (u:Un (frs X.stack) ch H H' s.heap h') (hok:HOk X.prog X.w H' h') (hg:AllBare g')
    (hch:∀ b∈ch,(b∈X.ex∨X.s₀.heap.objs.size≤b)∧b≠X.env.locals∧(∀ x c,X.env.cells.lookup x=some c→c≠b)∧∀ p∈X.pn++pins,p.1≠b) :
    Inv X pins σ H' { s with heap:=h',gens:=g',drawn:=d',toks:=t' }:=by
  obtain ⟨m,⟨o,es,ep,ho,r⟩,_⟩:=id I.loc
  obtain ⟨sl,hL⟩:=u.any ho I.free fun z=>(hch _ z).2.1 rfl
  exact I.step (ch:=ch) hch (fun b o hL hb hc e n=>u.keep b o e n (fun z=>(List.mem_cons.mp (I.stkSub b z)).elim hL hb) hc) (fun b o _ _ hc e n=>u.any e n hc) (fun b o hc e n=>u.free b o e n hc) (fun b o hc e=>u.there b o e hc) u.tups u.frzs u.tbls (fun m' hm=>by
    obtain ⟨o',es',ep',ho',r'⟩:=hm
    rw [ho] at ho';cases ho'
    exact ⟨_,es',ep',hL,r'⟩) hok hg
theorem Inv.turned {t':Nat} {it:Addr} (I:Inv X pins σ H s) (k:∀ b o,b≠it→s.heap.get? b=some o→h'.get? b=some o) (hn:H it=none) (hL:it≠X.env.locals)
    (h1:it∈X.ex∨X.s₀.heap.objs.size≤it) (h2:∀ x c,X.env.cells.lookup x=some c→c≠it) (h3:∀ p∈X.pn++pins,p.1≠it):Inv X pins σ H { s with heap:=h',toks:=t' }:=by
  have nit:∀ b u,H b=some u→b≠it:=fun b u e z=>by rw [z,hn] at e;cases e
  refine I.step (g':=s.gens) (d':=s.drawn) (ch:=[it]) (fun b hb=>?_) (fun b o _ _ hc e _=>k b o (fun z=>hc (by simp [z])) e) (fun b o _ _ hc e _=>⟨o.slots,k b o (fun z=>hc (by simp [z])) e⟩) (fun _ _ _ _ n=>n)
    (fun b o hc e=>⟨o,k b o (fun z=>hc (by simp [z])) e⟩) (fun _ _ e=>e) (fun _ _ _ e=>e) (fun b ps e=>⟨#[],by rw [e];simp⟩) (fun m hm=>?_) (fun b u e=>?_) I.bare
  · have e:b=it:=by simpa using hb
    subst e
    exact ⟨h1,hL,h2,h3⟩
  · obtain ⟨o,es,ep,ho,r⟩:=hm
    exact ⟨o,es,ep,k _ o (Ne.symm hL) ho,r⟩
  · refine (I.hok b u e).stay (fun c v hc q=>k c v ?_ q) (fun _ q=>q) fun _ _ q=>q
    rcases hc with z | z
    · rw [z];exact nit b u e
    · exact nit c _ z
theorem Inv.tok (I:Inv X pins σ H s) (t:Nat):Inv X pins σ H { s with toks:=t }:=I.un (h':=s.heap) (t':=t) Un.refl I.hok
theorem Inv.kept {t':Nat} (I:Inv X pins σ H s) (k:∀ b u,s.heap.get? b=some u→h'.get? b=some u):Inv X pins σ H { s with heap:=h',toks:=t' }:=I.un (Un.kept k) (I.hok.kept k)
theorem Inv.laid {a:Addr} {o:HO} {t':Nat} (I:Inv X pins σ H s) (k:∀ b u,s.heap.get? b=some u→h'.get? b=some u) (hp:s.heap.objs.size≤a) (new:ObjOk X.prog X.w (upd H a o) h' a o) :
    Inv X pins σ (upd H a o) { s with heap:=h',toks:=t' }:=I.un (Un.laid k hp (I.hok.fresh hp)) (I.hok.laid k hp new)
theorem Inv.write {x e:Addr} {o:HO} {t':Nat} (I:Inv X pins σ H s) (mu:Mut (H x)) (he:e=x∨H e=some (.own x)) (k:∀ b u,b≠e→s.heap.get? b=some u→h'.get? b=some u) (heo:∃ u,h'.get? e=some u)
    (new:ObjOk X.prog X.w (upd H x o) h' x o):Inv X pins σ (upd H x o) { s with heap:=h',toks:=t' }:=I.un (Un.write mu he k heo) (I.hok.write mu he k heo new)
theorem Inv.weak {σ':List (Option V)} (I:Inv X pins σ H s) (hl:σ'.length=σ.length) (w:∀ (i:Nat) v,σ'[i]?=some (some v)→σ[i]?=some (some v)):Inv X pins σ' H s:=
  ⟨I.ok,I.os,I.bare,I.base,let ⟨m,hn,hl'⟩:=I.loc;⟨m,hn,fun i x v e1 e2 e3=>hl' i x v e1 (w i v e2) e3⟩,I.cell,I.free,I.freeC,I.pin,I.hok,hl.trans I.len⟩
theorem Inv.pins_of {pins':List (Addr × Obj)} (I:Inv X pins σ H s) (h:∀ p∈pins',s.heap.get? p.1=some p.2∧H p.1=none∧p.1≠X.env.locals∧p.1 ∉ X.fs∧∀ v,p.2.data≠.cell v):Inv X pins' σ H s:=
  ⟨I.ok,I.os,I.bare,I.base,I.loc,I.cell,I.free,I.freeC,fun p hp=>(List.mem_append.mp hp).elim (fun z=>I.pin p (List.mem_append_left _ z)) (h p),I.hok,I.len⟩
theorem nodup_ix {N:List Str} (hN:N.Nodup) {i j:Nat} {x:Str} (a:N[i]?=some x) (b:N[j]?=some x):i=j:=by
  obtain ⟨h1,e1⟩:=List.getElem?_eq_some_iff.mp a
  obtain ⟨h2,e2⟩:=List.getElem?_eq_some_iff.mp b
  exact (List.getElem_inj hN).mp (e1.trans e2.symm)
theorem store_ok2 {M:Model} {A:Around} {E:Value→Shared→Prop} {i:Nat} {x:Str} {v:V} {u:Value} {Q:Unit→Shared→Prop} (I:Inv X pins σ H s) (hN:X.N.Nodup) (hi:X.N[i]?=some x) (hx:Loc X.env.scope x) (r:RelV v u)
    (h:∀ s',Inv X pins (σ.set i (some v)) H s'→(∃ a,Heap.SameBut a s.heap s'.heap∧(a=X.env.locals∨X.env.cells.lookup x=some a))→Q () s') (hf:X.fn x=true∨X.env.scope.names.lookup x=some .local:=by first | exact .inl rfl | exact .inr rfl | assumption):wpAny M A (storeName X.env x u) Q E s:=by
  obtain ⟨m,hn,hl⟩:=id I.loc
  have hcls:(X.env.scope.kind == .class || (X.env.scope.kind == .module && X.env.locals != X.env.globals))=false:=by rw [I.ok.kind];rfl
  have hiσ:i < σ.length:=by rw [I.len];exact (List.getElem?_eq_some_iff.mp hi).1
  have cne:=I.cne
  have tracked:∀ {a:Addr} {h':Heap},(∃ o,s.heap.get? a=some o∧H a=none)→Heap.SameBut a s.heap h'→HOk X.prog X.w H h':=fun {a h'} ha hs b ob e=>by
    obtain ⟨_,_,hfree⟩:=ha
    refine (I.hok b ob e).stay (fun c w' hc q=>(hs.2 c ?_).trans q) (fun _ q=>q) fun _ _ q=>q
    rintro rfl
    rcases hc with rfl | hc
    · rw [hfree] at e;cases e
    · rw [hfree] at hc;cases hc
  rcases hx with hk | hk
  · refine wpAny_storeName_local hk hn (fun h' hn' hs=>?_) hcls
    obtain ⟨oL,_,_,hoL,_⟩:=id hn
    refine h _ ⟨I.ok,I.os,I.bare,⟨fun b o e n hb hx=>?_,fun b o e n hb hx=>?_,I.base.free,fun b o e hx=>?_,I.base.tups,I.base.frzs,I.base.tbls⟩,⟨_,hn',fun j y v' e1 e2 e3=>?_⟩,fun y c e=>?_,I.free,I.freeC,fun p hp=>?_,tracked ⟨oL,hoL,I.free⟩ hs,by simpa using I.len⟩ ⟨_,hs,.inl rfl⟩
    · exact (hs.2 b (Nat.ne_of_lt (Nat.lt_of_lt_of_le (Heap.lt_size e) I.ok.above))).trans (I.base.keep b o e n hb hx)
    · obtain ⟨sl,e1⟩:=I.base.slot b o e n hb hx
      exact ⟨sl,(hs.2 b (Nat.ne_of_lt (Nat.lt_of_lt_of_le (Heap.lt_size e) I.ok.above))).trans e1⟩
    · obtain ⟨o',e1⟩:=I.base.there b o e hx
      exact ⟨o',(hs.2 b (Nat.ne_of_lt (Nat.lt_of_lt_of_le (Heap.lt_size e) I.ok.above))).trans e1⟩
    · by_cases hj:j=i
      · subst hj
        rw [hi] at e1;cases e1
        rw [List.getElem?_set_self hiσ] at e2
        cases e2
        exact ⟨u,r,.inl ⟨hk,by simp⟩⟩
      · rw [List.getElem?_set_ne (Ne.symm hj)] at e2
        obtain ⟨u',r',q⟩:=hl j y v' e1 e2 e3
        refine ⟨u',r',?_⟩
        rcases q with ⟨k,e⟩ | ⟨k,c,e,z⟩
        · refine .inl ⟨k,?_⟩
          have:y≠x:=fun e=>hj (nodup_ix hN e1 (e ▸ hi))
          simp [this,e]
        · exact .inr ⟨k,c,e,z.sameBut hs (cne y c e)⟩
    · obtain ⟨w',z⟩:=I.cell y c e
      exact ⟨w',z.sameBut hs (cne y c e)⟩
    · obtain ⟨e,n,ne,nf,d⟩:=I.pin p hp
      exact ⟨(hs.2 p.1 ne).trans e,n,ne,nf,d⟩
  · have hfn:X.fn x=true:=by
      rcases hf with z | z
      · exact z
      · rw [z] at hk;cases hk
    obtain ⟨c,hc⟩:=I.ok.has x (.inl hk)
    obtain ⟨w',z⟩:=I.cell x c hc
    refine wpAny_storeName_cell I.ok.kind hk hc z (fun h' hc' hs=>?_)
    obtain ⟨oc,hoc,hocd⟩:=id z
    refine h { s with heap:=h' } ⟨I.ok,I.os,I.bare,⟨fun b o e n hb hx=>?_,fun b o e n hb hx=>?_,I.base.free,fun b o e hx=>?_,I.base.tups,I.base.frzs,I.base.tbls⟩,⟨m,hn.sameBut hs (Ne.symm (cne x c hc)),fun j y v' e1 e2 e3=>?_⟩,fun y c' e=>?_,I.free,I.freeC,fun p hp=>?_,tracked ⟨oc,hoc,I.freeC x c hc⟩ hs,by simpa using I.len⟩ ⟨c,hs,.inr hc⟩
    · exact (hs.2 b (Nat.ne_of_lt (Nat.lt_of_lt_of_le (Heap.lt_size e) (I.ok.cab x c hfn hc)))).trans (I.base.keep b o e n hb hx)
    · obtain ⟨sl,e1⟩:=I.base.slot b o e n hb hx
      exact ⟨sl,(hs.2 b (Nat.ne_of_lt (Nat.lt_of_lt_of_le (Heap.lt_size e) (I.ok.cab x c hfn hc)))).trans e1⟩
    · obtain ⟨o',e1⟩:=I.base.there b o e hx
      exact ⟨o',(hs.2 b (Nat.ne_of_lt (Nat.lt_of_lt_of_le (Heap.lt_size e) (I.ok.cab x c hfn hc)))).trans e1⟩
    · by_cases hj:j=i
      · subst hj
        rw [hi] at e1;cases e1
        rw [List.getElem?_set_self hiσ] at e2
        cases e2
        exact ⟨u,r,.inr ⟨.inl hk,c,hc,hc'⟩⟩
      · rw [List.getElem?_set_ne (Ne.symm hj)] at e2
        obtain ⟨u',r',q⟩:=hl j y v' e1 e2 e3
        refine ⟨u',r',?_⟩
        rcases q with q | ⟨k,c',e,z'⟩
        · exact .inl q
        · refine .inr ⟨k,c',e,z'.sameBut hs ?_⟩
          rintro rfl
          exact hj (nodup_ix hN e1 (I.ok.inj _ _ _ e hc ▸ hi))
    · by_cases hcc:c'=c
      · subst hcc;exact ⟨_,hc'⟩
      · obtain ⟨w2,z2⟩:=I.cell y c' e
        exact ⟨w2,z2.sameBut hs hcc⟩
    · obtain ⟨e,n,ne,nf,d⟩:=I.pin p hp
      refine ⟨(hs.2 p.1 ?_).trans e,n,ne,nf,d⟩
      intro q
      rw [q,hoc] at e
      have q':oc=p.2:=Option.some.inj e
      exact d w' (by rw [← q'];exact hocd)
theorem store_ok {M:Model} {A:Around} {E:Value→Shared→Prop} {i:Nat} {x:Str} {v:V} {u:Value} {Q:Unit→Shared→Prop} (I:Inv X pins σ H s) (hN:X.N.Nodup) (hi:X.N[i]?=some x) (hx:Loc X.env.scope x) (r:RelV v u)
    (h:∀ s',Inv X pins (σ.set i (some v)) H s'→Q () s') (hf:X.fn x=true∨X.env.scope.names.lookup x=some .local:=by first | exact .inl rfl | exact .inr rfl | assumption):wpAny M A (storeName X.env x u) Q E s:=
  store_ok2 I hN hi hx r (fun s' I' _=>h s' I') hf
theorem Inv.call' {s':Shared} {ch:List Addr} (I:Inv X pins σ H s) (ho:s'.os=s.os) (u:Un (frs X.stack) ch H H' s.heap s'.heap) (hok:HOk X.prog X.w H' s'.heap) (hg:AllBare s'.gens)
    (hch:∀ b∈ch,(b∈X.ex∨X.s₀.heap.objs.size≤b)∧b≠X.env.locals∧(∀ x c,X.env.cells.lookup x=some c→c≠b)∧∀ p∈X.pn++pins,p.1≠b):Inv X pins σ H' s':=by
  obtain ⟨h',g',d',t',o'⟩:=s'
  have e:o'=s.os:=ho
  subst e
  exact I.call (g':=g') (t':=t') (d':=d') u hok hg hch
end
abbrev XK:=Value→Option Addr→Hp→Prop
abbrev St:=List (Option V)
abbrev VK:=V→Hp→Prop
abbrev TE:=St→Hp→VK→Prop
abbrev TT:=St→Hp→(Bool→Hp→Prop)→Prop
abbrev TA:=St→Hp→(List V→Hp→Prop)→Prop
structure Ends where
  nx:St→Hp→Prop
  rt:VK
  bk:St→Hp→Prop:=fun _ _=>False
  ct:St→Hp→Prop:=fun _ _=>False
abbrev TS:=Ends→St→Hp→Prop
def EP (X:Cx) (pins:List (Addr × Obj)) (σ:St) (Q:VK) (u:Value) (s':Shared):Prop:=∃ v H',Inv X pins σ H' s'∧RelV v u∧Q v H'
def TP (X:Cx) (pins:List (Addr × Obj)) (σ:St) (Q:Bool→Hp→Prop) (b:Bool) (s':Shared):Prop:=∃ H',Inv X pins σ H' s'∧Q b H'
def AP (X:Cx) (pins:List (Addr × Obj)) (σ:St) (Q:List V→Hp→Prop) (us:List Value) (s':Shared):Prop:=∃ vs H',Inv X pins σ H' s'∧Vals vs us∧Q vs H'
def SP (X:Cx) (pins:List (Addr × Obj)) (D:Ends) (f:Flow) (s':Shared):Prop:=
  match f with
  | .next=>∃ σ' H',Inv X pins σ' H' s'∧D.nx σ' H'
  | .brk=>∃ σ' H',Inv X pins σ' H' s'∧D.bk σ' H'
  | .cont=>∃ σ' H',Inv X pins σ' H' s'∧D.ct σ' H'
  | .ret u=>∃ v σ' H',Inv X pins σ' H' s'∧RelV v u∧D.rt v H'
def PE (X:Cx) (e:Expr) (t:TE):Prop:=
  ∀ (pins:List (Addr × Obj)) (s:Shared) (σ:St) (H:Hp) (Q:VK),Inv X pins σ H s→t σ H Q→wpAny (model X.prog X.w) X.A (eval e X.env) (EP X pins σ Q) X.xe s
def PT (X:Cx) (e:Expr) (t:TT):Prop:=
  ∀ (pins:List (Addr × Obj)) (s:Shared) (σ:St) (H:Hp) (Q:Bool→Hp→Prop),Inv X pins σ H s→t σ H Q→wpAny (model X.prog X.w) X.A (isTrue e X.env (eval e X.env)) (TP X pins σ Q) X.xe s
def PW (X:Cx) (e:Expr) (t:TT):Prop:=
  ∀ (whole:Sem Value) (pins:List (Addr × Obj)) (s:Shared) (σ:St) (H:Hp) (Q:Bool→Hp→Prop),Inv X pins σ H s→t σ H Q→wpAny (model X.prog X.w) X.A (isTrue e X.env whole) (TP X pins σ Q) X.xe s
theorem PW.pt {X:Cx} {e:Expr} {t:TT} (h:PW X e t):PT X e t:=h _
def PA (X:Cx) (es:List Expr) (t:TA):Prop:=
  ∀ (pos:Pos) (pins:List (Addr × Obj)) (s:Shared) (σ:St) (H:Hp) (Q:List V→Hp→Prop),Inv X pins σ H s→t σ H Q→wpAny (model X.prog X.w) X.A (spliced (backTo pos (starEach es X.env))) (AP X pins σ Q) X.xe s
def PS (X:Cx) (st:Stmt) (t:TS):Prop:=
  ∀ (pins:List (Addr × Obj)) (s:Shared) (σ:St) (H:Hp) (D:Ends),Inv X pins σ H s→t D σ H→wpAny (model X.prog X.w) X.A (exec st X.env) (SP X pins D) X.xe s
def PSs (X:Cx) (st:List Stmt) (t:TS):Prop:=
  ∀ (pins:List (Addr × Obj)) (s:Shared) (σ:St) (H:Hp) (D:Ends),Inv X pins σ H s→t D σ H→wpAny (model X.prog X.w) X.A (execs st X.env) (SP X pins D) X.xe s
theorem thn {α:Type} {t:Sem α} {Q Q':α→Shared→Prop} {M:Model} {A:Around} {E:Value→Shared→Prop} {s:Shared} (h:wpAny M A t Q E s) (hQ:∀ a s,Q a s→Q' a s):wpAny M A t Q' E s:=wpAny_mono h hQ fun _ _ x=>x
end L2
namespace L2
open PySem PySem.Spec PyProof.Rows
section
variable {X:Cx}
def tVar (i:Nat):TE:=fun σ H Q=>∃ v,σ[i]?=some (some v)∧Q v H
def tC (v:V):TE:=fun _ H Q=>Q v H
theorem pe_var {i:Nat} {x:Str} {pos:Pos} (hN:X.N[i]?=some x) (hv:Vis X.env.scope x) (hd:(x == ("__debug__" : Str))=false:=by decide) (hcd:(x == ("__classdict__" : Str))=false:=by decide):PE X (.Name x pos) (tVar i):=by
  intro pins s σ H Q I h
  obtain ⟨v,e,h⟩:=h
  obtain ⟨m,hn,hl⟩:=I.loc
  obtain ⟨u,r,l⟩:=hl i x v hN e hv
  have fin:EP X pins σ Q u s:=⟨v,H,I,r,h⟩
  rcases l with ⟨hk,hm⟩ | ⟨hk,c,hc,hcell⟩
  · exact wpAny_Name (wpAny_loadName_local I.ok.kind hk hn hm fin) hd
  · rcases hk with hk | hk
    · exact wpAny_Name (wpAny_loadName_cell I.ok.kind hk hc hcell fin) hd
    · exact wpAny_Name (wpAny_loadName_free I.ok.kind hk hc hcell fin hcd) hd
theorem pe_int {i j pos}:PE X (.Constant (.int i) j pos) (tC (.int i)):=fun _ _ _ H _ I h=>wpAny_Constant_int ⟨.int i,H,I.tok _,⟨_,rfl⟩,h⟩
theorem pe_bl {b j pos}:PE X (.Constant (.bool b) j pos) (tC (.bl b)):=fun _ _ _ H _ I h=>Constant_bool ⟨.bl b,H,I,rfl,h⟩
theorem pe_non {j pos}:PE X (.Constant .none j pos) (tC .non):=fun _ _ _ H _ I h=>Constant_none ⟨.non,H,I,rfl,h⟩
theorem pe_str {x j pos}:PE X (.Constant (.str x) j pos) (tC (.str x)):=fun _ _ _ H _ I h=>Calls.Constant_str ⟨.str x,H,I.tok _,⟨_,rfl⟩,h⟩
def Gl (X:Cx) (x:Str):Prop:=X.env.kindOf x=some .globalImplicit
theorem ld_glob {E:Value→Shared→Prop} {pins:List (Addr × Obj)} {s:Shared} {σ:St} {H:Hp} {x:Str} {u:Value} {pos:Pos} {Q:Value→Shared→Prop} (I:Inv X pins σ H s) (hg:Gl X x) (hm:X.mg x=some u) (h:Q u s)
    (hd:(x == ("__debug__" : Str))=false:=by decide):wpAny (model X.prog X.w) X.A (eval (.Name x pos) X.env) Q E s:=
  Calls.Name_function_global I.ok.kind hg (Calls.loadGlobal_global (by rw [I.ok.glob];exact I.mod.glob.keeps I.bk) hm h) hd
theorem ld_blt {E:Value→Shared→Prop} {pins:List (Addr × Obj)} {s:Shared} {σ:St} {H:Hp} {x:Str} {u:Value} {pos:Pos} {Q:Value→Shared→Prop} (I:Inv X pins σ H s) (hg:Gl X x) (hm:X.mg x=none) (hv:bootBuiltins x=some u) (h:Q u s)
    (hn:x ≠ "__name__" := by decide) (hd:(x == ("__debug__" : Str))=false:=by decide):wpAny (model X.prog X.w) X.A (eval (.Name x pos) X.env) Q E s:=by
  obtain ⟨mb,h1,h2⟩:=I.mod.blt
  exact Calls.Name_function_global I.ok.kind hg (Calls.loadGlobal_builtin (by rw [I.ok.glob];exact I.mod.glob.keeps I.bk) hm (by rw [I.ok.blt];exact h1.keeps I.bk) ((h2 x hn).trans hv) h) hd
theorem pe_glob {x:Str} {v:V} {u:Value} {pos:Pos} (hg:Gl X x) (hm:X.mg x=some u) (r:RelV v u) (hd:(x == ("__debug__" : Str))=false:=by decide):PE X (.Name x pos) (tC v):=
  fun _ _ _ H _ I h=>ld_glob I hg hm ⟨v,H,I,r,h⟩ hd
theorem pe_bltn {x:Str} {v:V} {u:Value} {pos:Pos} (hg:Gl X x) (hm:X.mg x=none) (hv:bootBuiltins x=some u) (r:RelV v u) (hn:x ≠ "__name__" := by decide) (hd:(x == ("__debug__" : Str))=false:=by decide):PE X (.Name x pos) (tC v):=
  fun _ _ _ H _ I h=>ld_blt I hg hm hv ⟨v,H,I,r,h⟩ hn hd
variable {a b:Expr} {ta tb:TE} {pos:Pos}
def tB (t:TE):TT:=fun σ H Q=>t σ H fun x H1=>∃ c,x=.bl c∧Q c H1
theorem pt_val {e:Expr} {t:TE} (h:PE X e t) (he:∀ whole,isTrue e X.env whole=(do let v ← whole;standAt e.pos;holding [v] (truthy v)):=by intro _;rfl):PT X e (tB t):=by
  intro pins s σ H Q I hw
  refine isTrue_plain (thn (h pins s σ H _ I hw) fun v s1 ⟨x,H1,I1,r1,q1⟩=>?_) (he _)
  obtain ⟨d,rfl,q⟩:=q1
  cases r1
  exact wpAny_truthy_bool ⟨H1,I1,q⟩
variable {tA tB':TT} {rest:List Expr}
def tAnd (t u:TT):TT:=fun σ H Q=>t σ H fun c H1=>if c=true then u σ H1 Q else Q false H1
def tOr (t u:TT):TT:=fun σ H Q=>t σ H fun c H1=>if c=true then Q true H1 else u σ H1 Q
def tNot (t:TT):TT:=fun σ H Q=>t σ H fun c H1=>Q (!c) H1
theorem pw_and1 (ha:PT X a tA):PW X (.BoolOp .And [a] pos) tA:=by
  intro wh pins s σ H Q I h
  refine isTrue_and (thn (ha pins s σ H Q I h) fun c s1 e=>?_)
  cases c with
  | true=>exact isTrue_and_nil e
  | false=>exact e
theorem pw_or1 (ha:PT X a tA):PW X (.BoolOp .Or [a] pos) tA:=by
  intro wh pins s σ H Q I h
  refine isTrue_or (thn (ha pins s σ H Q I h) fun c s1 e=>?_)
  cases c with
  | false=>exact isTrue_or_nil e
  | true=>exact e
theorem pw_and (ha:PT X a tA) (hb:PW X (.BoolOp .And (b :: rest) pos) tB'):PW X (.BoolOp .And (a :: b :: rest) pos) (tAnd tA tB'):=by
  intro wh pins s σ H Q I h
  refine isTrue_and (thn (ha pins s σ H _ I h) fun c s1 ⟨H1,I1,q1⟩=>?_)
  cases c with
  | true=>exact hb wh pins s1 σ H1 Q I1 q1
  | false=>exact ⟨H1,I1,q1⟩
theorem pw_or (ha:PT X a tA) (hb:PW X (.BoolOp .Or (b :: rest) pos) tB'):PW X (.BoolOp .Or (a :: b :: rest) pos) (tOr tA tB'):=by
  intro wh pins s σ H Q I h
  refine isTrue_or (thn (ha pins s σ H _ I h) fun c s1 ⟨H1,I1,q1⟩=>?_)
  cases c with
  | true=>exact ⟨H1,I1,q1⟩
  | false=>exact hb wh pins s1 σ H1 Q I1 q1
theorem pt_not (ha:PT X a tA):PT X (.UnaryOp .Not a pos) (tNot tA):=by
  intro pins s σ H Q I h
  exact isTrue_not (ha pins s σ H (fun c H1=>Q (!c) H1) I h)
def tAndV (ta tb:TE):TE:=fun σ H Q=>ta σ H fun x H1=>∃ c,x=.bl c∧if c=true then tb σ H1 Q else Q (.bl false) H1
def tOrV (ta tb:TE):TE:=fun σ H Q=>ta σ H fun x H1=>∃ c,x=.bl c∧if c=true then Q (.bl true) H1 else tb σ H1 Q
theorem pe_one {op} {t:TE} (h:PE X a t):PE X (.BoolOp op [a] pos) t:=fun pins s σ H Q I hw=>BoolOp_one (h pins s σ H Q I hw)
theorem pe_and (ha:PE X a ta) (hb:PE X (.BoolOp .And (b :: rest) pos) tb):PE X (.BoolOp .And (a :: b :: rest) pos) (tAndV ta tb):=by
  intro pins s σ H Q I h
  refine BoolOp_and (thn (ha pins s σ H _ I h) fun v s1 ⟨x,H1,I1,r1,q1⟩=>?_)
  obtain ⟨c,rfl,q1⟩:=q1
  cases r1
  refine wpAny_truthy_bool ?_
  cases c with
  | true=>exact hb pins s1 σ H1 Q I1 q1
  | false=>exact ⟨.bl false,H1,I1,rfl,q1⟩
theorem pe_or (ha:PE X a ta) (hb:PE X (.BoolOp .Or (b :: rest) pos) tb):PE X (.BoolOp .Or (a :: b :: rest) pos) (tOrV ta tb):=by
  intro pins s σ H Q I h
  refine BoolOp_or (thn (ha pins s σ H _ I h) fun v s1 ⟨x,H1,I1,r1,q1⟩=>?_)
  obtain ⟨c,rfl,q1⟩:=q1
  cases r1
  refine wpAny_truthy_bool ?_
  cases c with
  | false=>exact hb pins s1 σ H1 Q I1 q1
  | true=>exact ⟨.bl true,H1,I1,rfl,q1⟩
def tIf (t:TT) (ta tb:TE):TE:=fun σ H Q=>t σ H fun c H1=>if c=true then ta σ H1 Q else tb σ H1 Q
theorem pe_ifExp {c:Expr} (hc:PT X c tA) (ha:PE X a ta) (hb:PE X b tb):PE X (.IfExp c a b pos) (tIf tA ta tb):=by
  intro pins s σ H Q I h
  refine wpAny_IfExp (thn (hc pins s σ H _ I h) fun d s1 ⟨H1,I1,q1⟩=>?_)
  cases d with
  | true=>exact ha pins s1 σ H1 Q I1 q1
  | false=>exact hb pins s1 σ H1 Q I1 q1
end
end L2
namespace L2
open PySem PySem.Spec PyProof.Rows
def SqL (K:PySem.W.Frag) (H:Hp) (a:Addr) (xs:List V):Prop:=
  Rd H a (.lst xs) ∨
    ∃ (o:Obj) (its:Array Value) (n:Nat),K.lookup a=some o∧o.cls=.type "list" ∧ o.dict=none∧o.data=.seq its n∧its.size≤sizeLine∧Vals xs its.toList
def SqT (K:PySem.W.Frag) (H:Hp) (a:Addr) (xs:List V):Prop:=
  Rd H a (.tup xs) ∨
    ∃ (o:Obj) (its:Array Value) (n:Nat),K.lookup a=some o∧o.cls=.type "tuple" ∧ o.data=.seq its n∧its.size≤sizeLine∧Vals xs its.toList
def absV:Value→Option V
  | .none=>some .non
  | .bool b=>some (.bl b)
  | .int i _=>some (.int i)
  | .str x _=>some (.str x)
  | .bytes b _=>some (.byt b)
  | .float b _=>some (.flt b)
  | .ref a=>some (.ref a)
  | .type n=>some (.ty n)
  | _=>none
theorem RelV.abs {x:V} {u:Value} (r:RelV x u):absV u=some x:=by
  cases x with
  | non=>cases r;rfl
  | bl _=>cases r;rfl
  | int _=>obtain ⟨t,rfl⟩:=r;rfl
  | str _=>obtain ⟨t,rfl⟩:=r;rfl
  | byt _=>obtain ⟨t,rfl⟩:=r;rfl
  | flt _=>obtain ⟨t,rfl⟩:=r;rfl
  | ref _=>cases r;rfl
  | ty _=>cases r;rfl
theorem RelV.inj {x y:V} {u:Value} (r:RelV x u) (q:RelV y u):x=y:=Option.some.inj (r.abs.symm.trans q.abs)
theorem Vals.inj:∀ {xs ys:List V} {us:List Value},Vals xs us→Vals ys us→xs=ys
  | _,_,_,.nil,.nil=>rfl
  | _,_,_,.cons r t,.cons r' t'=>by rw [r.inj r',Vals.inj t t']
section
variable {X:Cx} {pins:List (Addr × Obj)} {σ:St} {H:Hp} {s:Shared} {a:Addr} {xs ys:List V}
theorem SqL.of {K:PySem.W.Frag} (h:H a=some (.lst xs)):SqL K H a xs:=.inl (.inl h)
theorem SqT.of {K:PySem.W.Frag} (h:H a=some (.tup xs)):SqT K H a xs:=.inl (.inl h)
theorem Inv.list (I:Inv X pins σ H s) (h:SqL X.K H a xs):∃ its:List Value,Vals xs its∧PlainL s.heap a its.toArray∧xs.length≤sizeLine:=by
  rcases h with h | ⟨o,its,n,hk,hc,hd,hs,hz,r⟩
  · obtain ⟨z,its,n,r,e⟩:=h.ok I.hok
    exact ⟨its,r,⟨_,n,e,rfl,rfl,rfl⟩,z⟩
  · refine ⟨its.toList,r,⟨o,n,I.kIn a o hk,hc,hd,by simpa using hs⟩,?_⟩
    have e:=r.length
    simp only [Array.length_toList] at e
    omega
theorem Inv.tuple (I:Inv X pins σ H s) (h:SqT X.K H a xs):∃ its:List Value,Vals xs its∧IsTup s.heap a its.toArray∧xs.length≤sizeLine:=by
  rcases h with h | ⟨o,its,n,hk,hc,hs,hz,r⟩
  · obtain ⟨z,its,r,p⟩:=h.ok I.hok
    exact ⟨its,r,p,z.1⟩
  · refine ⟨its.toList,r,⟨o,I.kIn a o hk,hc,n,by simpa using hs⟩,?_⟩
    have e:=r.length
    simp only [Array.length_toList] at e
    omega
theorem Inv.list_inj (I:Inv X pins σ H s) (h:SqL X.K H a xs) (h':SqL X.K H a ys):xs=ys:=by
  obtain ⟨its,r,⟨o,n,e,_,_,d⟩,_⟩:=I.list h
  obtain ⟨its',r',⟨o',n',e',_,_,d'⟩,_⟩:=I.list h'
  rw [e] at e';cases e'
  rw [d] at d'
  injection d' with d1 _
  have:its=its':=by simpa using congrArg Array.toList d1
  subst this
  exact r.inj r'
end
abbrev Cx.wish (X:Cx) (E:Value→Shared→Prop):Cx:={ X with xe:=E }
abbrev Cx.nox (X:Cx):Cx:=X.wish fun _ _=>False
theorem Cx.Ok.wish {X:Cx} (ok:X.Ok) (E:Value→Shared→Prop):(X.wish E).Ok:=
  ⟨ok.mod,ok.kind,ok.glob,ok.blt,ok.above,ok.inj,ok.has,ok.cab,ok.hd,ok.frames,ok.stk,ok.exf,ok.bs,ok.bsz,ok.noex,ok.exfs,ok.funs,ok.frf⟩
theorem Cx.Ok.unwish {X:Cx} {E:Value→Shared→Prop} (ok:(X.wish E).Ok):X.Ok:=
  ⟨ok.mod,ok.kind,ok.glob,ok.blt,ok.above,ok.inj,ok.has,ok.cab,ok.hd,ok.frames,ok.stk,ok.exf,ok.bs,ok.bsz,ok.noex,ok.exfs,ok.funs,ok.frf⟩
section
variable {X:Cx} {pins:List (Addr × Obj)} {σ:St} {H:Hp} {s:Shared} {E:Value→Shared→Prop}
theorem Inv.wish (I:Inv X pins σ H s) (E:Value→Shared→Prop):Inv (X.wish E) pins σ H s:=⟨I.ok.wish E,I.os,I.bare,I.base,I.loc,I.cell,I.free,I.freeC,I.pin,I.hok,I.len⟩
theorem Inv.unwish (I:Inv (X.wish E) pins σ H s):Inv X pins σ H s:=⟨I.ok.unwish,I.os,I.bare,I.base,I.loc,I.cell,I.free,I.freeC,I.pin,I.hok,I.len⟩
theorem SP.unwish {D:Ends} {f:Flow} {s':Shared} (h:SP (X.wish E) pins D f s'):SP X pins D f s':=by
  cases f with
  | next=>obtain ⟨σ',H',I,q⟩:=h;exact ⟨σ',H',I.unwish,q⟩
  | brk=>obtain ⟨σ',H',I,q⟩:=h;exact ⟨σ',H',I.unwish,q⟩
  | cont=>obtain ⟨σ',H',I,q⟩:=h;exact ⟨σ',H',I.unwish,q⟩
  | ret u=>obtain ⟨v,σ',H',I,r,q⟩:=h;exact ⟨v,σ',H',I.unwish,r,q⟩
theorem PSs.nox {st:List Stmt} {t:TS} (h:PSs X.nox st t):PSs X st t:=fun pins s σ H D I hw=>
  wpAny_mono (h pins s σ H D (I.wish _) hw) (fun _ _ q=>q.unwish) fun _ _ z=>False.elim z
end
section
variable {X:Cx} {st:Stmt} {rest:List Stmt} {t u:TS} {e:Expr} {te:TE} {pos:Pos}
def tNext:TS:=fun D σ H=>D.nx σ H
def tSeq (t u:TS):TS:=fun D σ H=>t { D with nx:=u D } σ H
theorem pss_nil:PSs X [] tNext:=fun _ _ σ H _ I h=>wpAny_execs_nil ⟨σ,H,I,h⟩
theorem pss_cons (h1:PS X st t) (h2:PSs X rest u):PSs X (st :: rest) (tSeq t u):=by
  intro pins s σ H D I h
  refine wpAny_execs_cons (thn (h1 pins s σ H { D with nx:=u D } I h) fun f s1 q=>?_)
  cases f with
  | next=>
    obtain ⟨σ',H',I',q⟩:=q
    exact h2 pins s1 σ' H' D I' q
  | ret v=>exact q
  | brk=>exact q
  | cont=>exact q
theorem pss_one (h1:PS X st t):PSs X [st] t:=by
  intro pins s σ H D I h
  refine wpAny_execs_cons (thn (h1 pins s σ H D I h) fun f s1 q=>?_)
  cases f with
  | next=>exact wpAny_execs_nil q
  | ret v=>exact q
  | brk=>exact q
  | cont=>exact q
theorem Inv.quiet {pins:List (Addr × Obj)} {σ:St} {H:Hp} {s:Shared} (I:Inv X pins σ H s):interactive X.env=false:=by simp [interactive,I.ok.kind]
def tDrop (te:TE):TS:=fun D σ H=>te σ H fun _ H1=>D.nx σ H1
theorem ps_expr (he:PE X e te) (hs:swapsWith e none pos.line X.env=pure false:=by rfl):PS X (.Expr e pos) (tDrop te):=by
  intro pins s σ H D I h
  exact wpAny_Expr_any (thn (he pins s σ H _ I h) fun v s1 ⟨x,H1,I1,r1,q1⟩=>⟨σ,H1,I1,q1⟩) I.quiet hs
def tRet (te:TE):TS:=fun D σ H=>te σ H D.rt
theorem ps_ret (he:PE X e te):PS X (.Return (some e) pos) (tRet te):=by
  intro pins s σ H D I h
  exact wpAny_Return_some (thn (he pins s σ H _ I h) fun v s1 ⟨x,H1,I1,r1,q1⟩=>⟨x,σ,H1,I1,r1,q1⟩)
def tIfS (c:TT) (t u:TS):TS:=fun D σ H=>c σ H fun b H1=>if b=true then t D σ H1 else u D σ H1
theorem ps_if {c:Expr} {a b:List Stmt} {tc:TT} (hc:PT X c tc) (ha:PSs X a t) (hb:PSs X b u):PS X (.If c a b pos) (tIfS tc t u):=by
  intro pins s σ H D I h
  refine wpAny_If (thn (hc pins s σ H _ I h) fun d s1 ⟨H1,I1,q1⟩=>?_)
  cases d with
  | true=>exact ha pins s1 σ H1 D I1 q1
  | false=>exact hb pins s1 σ H1 D I1 q1
end
abbrev TG:=V→St→Hp→(St→Hp→Prop)→Prop
abbrev TGs:=List V→St→Hp→(St→Hp→Prop)→Prop
def PG (X:Cx) (target:Expr) (t:TG):Prop:=
  ∀ (pins:List (Addr × Obj)) (s:Shared) (σ:St) (H:Hp) (v:V) (u:Value) (Q:St→Hp→Prop),Inv X pins σ H s→RelV v u→t v σ H Q →
    wpAny (model X.prog X.w) X.A (assign target X.env u) (fun _ s'=>∃ σ' H',Inv X pins σ' H' s'∧Q σ' H') X.xe s
def PGs (X:Cx) (ts:List Expr) (t:TGs):Prop:=
  ∀ (pins:List (Addr × Obj)) (s:Shared) (σ:St) (H:Hp) (vs:List V) (us:List Value) (Q:St→Hp→Prop),Inv X pins σ H s→Vals vs us→t vs σ H Q →
    wpAny (model X.prog X.w) X.A (assignInOrder ((assignEach ts X.env).map (·.2)) us) (fun _ s'=>∃ σ' H',Inv X pins σ' H' s'∧Q σ' H') X.xe s
abbrev TSet:=V→V→V→Hp→(Hp→Prop)→Prop
def PSet (X:Cx) (t:TSet):Prop:=
  ∀ (pins:List (Addr × Obj)) (s:Shared) (σ:St) (H:Hp) (o i v:V) (ov iv u:Value) (Q:Hp→Prop),Inv X pins σ H s→RelV o ov→RelV i iv→RelV v u→t o i v H Q →
    wpAny (model X.prog X.w) X.A (setItem ov iv u) (fun _ s'=>∃ H',Inv X pins σ H' s'∧Q H') X.xe s
section
variable {X:Cx} {pos:Pos}
def gName (i:Nat):TG:=fun v σ H Q=>Q (σ.set i (some v)) H
theorem pg_name {i:Nat} {x:Str} (hN:X.N.Nodup) (hi:X.N[i]?=some x) (hx:Loc X.env.scope x) (hf:X.fn x=true∨X.env.scope.names.lookup x=some .local:=by first | exact .inl rfl | exact .inr rfl | assumption):PG X (.Name x pos) (gName i):=by
  intro pins s σ H v u Q I r h
  exact wpAny_assign_Name (store_ok I hN hi hx r (fun s' I'=>⟨_,H,I',h⟩) hf)
def gNil:TGs:=fun vs σ H Q=>vs=[]∧Q σ H
def gCons (t:TG) (u:TGs):TGs:=fun vs σ H Q=>∃ v r,vs=v :: r∧t v σ H fun σ' H'=>u r σ' H' Q
theorem pgs_nil:PGs X [] gNil:=by
  intro pins s σ H vs us Q I r h
  obtain ⟨e,h⟩:=h
  subst e
  cases r
  exact assignInOrder_nil ⟨σ,H,I,h⟩
theorem pgs_cons {e:Expr} {es:List Expr} {t:TG} {u:TGs} (h1:PG X e t) (h2:PGs X es u)
    (hs:(assignEach (e :: es) X.env).map (·.2)=assign e X.env :: (assignEach es X.env).map (·.2):=by rfl):PGs X (e :: es) (gCons t u):=by
  intro pins s σ H vs us Q I r h
  obtain ⟨v,vr,e1,h⟩:=h
  subst e1
  cases r with
  | cons r rr=>
    rw [hs]
    refine assignInOrder_cons (thn (h1 pins s σ H _ _ _ I r h) fun _ s1 ⟨σ1,H1,I1,q1⟩=>?_)
    exact h2 pins s1 σ1 H1 _ _ Q I1 rr q1
def gTup (K:PySem.W.Frag) (n:Nat) (t:TGs):TG:=fun v σ H Q=>∃ a xs,v=.ref a∧SqT K H a xs∧xs.length=n∧t xs σ H Q
theorem pg_tup {es:List Expr} {k:Nat} {t:TGs} {n:Nat} (hc:X.calm=true) (h:PGs X es t)
    (hn:(assignEach es X.env).length=n:=by rfl) (hst:(assignEach es X.env).findIdx? (·.1)=none:=by rfl):PG X (.Tuple es k pos) (gTup X.K n t):=by
  intro pins s σ H v u Q I r hw
  obtain ⟨a,xs,e1,hq,hl,hw⟩:=hw
  subst e1
  cases r
  obtain ⟨its,rv,ht,hz⟩:=I.tuple hq
  refine assign_Tuple_tuple (I.ok.hd hc) ht (by simp [hn,← hl,rv.length]) hst fun h' hx=>?_
  have I1:Inv X pins σ H { s with heap:=h' }:=I.kept (t':=s.toks) fun b o e=>hx b o (Nat.ne_of_lt (Heap.lt_size e)) e
  exact h pins _ σ H xs _ Q I1 (by simpa using rv) hw
def gSub (to ti:TE) (t:TSet):TG:=fun v σ H Q=>to σ H fun o H1=>ti σ H1 fun i H2=>t o i v H2 fun H3=>Q σ H3
theorem pg_sub {o i:Expr} {to ti:TE} {t:TSet} (ho:PE X o to) (hi:PE X i ti) (hs:PSet X t)
    (ha:∀ v,assign (.Subscript o i pos) X.env v=(do
      let ov ← holding [v] (eval o X.env)
      let iv ← holding [v,ov] (eval i X.env)
      standAt pos
      holding [v,ov,iv] (setItem ov iv v)
      release [v,ov,iv] []):=by intro _;rfl):PG X (.Subscript o i pos) (gSub to ti t):=by
  intro pins s σ H v u Q I r h
  rw [ha]
  refine wpAny_bind (wpAny_holding (thn (ho pins s σ H _ I h) fun ov s1 ⟨x,H1,I1,r1,q1⟩=>?_))
  refine wpAny_bind (wpAny_holding (thn (hi pins s1 σ H1 _ I1 q1) fun iv s2 ⟨y,H2,I2,r2,q2⟩=>?_))
  refine wpAny_bind (wpAny_standAt (wpAny_bind (wpAny_holding (thn (hs pins s2 σ H2 x y v ov iv u _ I2 r1 r2 r q2) fun _ s3 ⟨H3,I3,q3⟩=>?_))))
  exact wpAny_release ⟨σ,H3,I3,q3⟩
def tAsg (te:TE) (g:TG):TS:=fun D σ H=>te σ H fun x H1=>g x σ H1 D.nx
theorem ps_asg {tg e:Expr} {te:TE} {g:TG} (he:PE X e te) (hg:PG X tg g) (hs:swapsWithSole [tg] e pos.line X.env=pure false:=by rfl) (hw:swappedStores [tg] e X.env=pure none:=by rfl)
    (h1:(assignEach [tg] X.env).map (·.2)=[assign tg X.env]:=by rfl):PS X (.Assign [tg] e pos) (tAsg te g):=by
  intro pins s σ H D I h
  refine wpAny_Assign_stores (thn (he pins s σ H _ I h) fun v s1 ⟨x,H1,I1,r1,q1⟩=>?_) hs hw
  rw [h1]
  exact thn (hg pins s1 σ H1 x v _ I1 r1 q1) fun _ s2 q=>q
theorem ps_set {i:Nat} {x:Str} {e:Expr} {te:TE} {pos':Pos} (hN:X.N.Nodup) (hi:X.N[i]?=some x) (hx:Loc X.env.scope x) (he:PE X e te) (hs:swapsWith e (some (.Name x pos')) pos.line X.env=pure false:=by rfl) (hf:X.fn x=true∨X.env.scope.names.lookup x=some .local:=by first | exact .inl rfl | exact .inr rfl | assumption) :
    PS X (.Assign [.Name x pos'] e pos) (tAsg te (gName i)):=by
  intro pins s σ H D I h
  refine wpAny_Assign_Name (thn (he pins s σ H _ I h) fun v s1 ⟨y,H1,I1,r1,q1⟩=>?_) hs
  exact store_ok I1 hN hi hx r1 (fun s2 I2=>⟨_,H1,I2,q1⟩) hf
def tPar (i j:Nat) (ta:TA):TS:=fun D σ H=>ta σ H fun vs H1=>∃ v w,vs=[v,w]∧D.nx ((σ.set i (some v)).set j (some w)) H1
theorem ps_par {i j:Nat} {x y:Str} {a b:Expr} {ta:TA} {px py pt:Pos} {kt k2 pt2} (hc:X.calm=true) (hN:X.N.Nodup) (hi:X.N[i]?=some x) (hj:X.N[j]?=some y) (hij:i≠j)
    (hx:X.env.scope.names.lookup x=some .local) (hy:X.env.scope.names.lookup y=some .local) (ha:PA X [a,b] ta)
    (hw:swappedStores [.Tuple [.Name x px,.Name y py] kt pt] (.Tuple [a,b] k2 pt2) X.env=pure (some [x,y]))
    (hs:swapsWithSole [.Tuple [.Name x px,.Name y py] kt pt] (.Tuple [a,b] k2 pt2) pos.line X.env=pure false:=by rfl) :
    PS X (.Assign [.Tuple [.Name x px,.Name y py] kt pt] (.Tuple [a,b] k2 pt2) pos) (tPar i j ta):=by
  intro pins s σ H D I h
  rw [exec_Assign_arm]
  refine wpAny_bind (wpAny_standAt ?_)
  rw [hs]
  refine wpAny_bind (wpAny_pure ?_)
  rw [if_neg (by decide)]
  refine wpAny_bind (Tuple_ (thn (ha _ pins s σ H _ I h) fun us s1 ⟨vs,H1,I1,r1,q1⟩=>?_))
  obtain ⟨v,w,e1,q1⟩:=q1
  subst e1
  obtain ⟨u1,u2,rfl,rv,rw'⟩:∃ u1 u2,us=[u1,u2]∧RelV v u1∧RelV w u2:=by
    cases r1 with
    | cons p q=>
      cases q with
      | cons p' q'=>
        cases q'
        exact ⟨_,_,rfl,p,p'⟩
  refine wpAny_newObj_type ?_ (by show 2≤sizeLine;decide)
  have I2:Inv X pins σ H1 { s1 with heap:=s1.heap.push { cls:=.type "tuple", data:=.seq [u1,u2].toArray } }:=I1.kept (t':=s1.toks) fun b o e=>Heap.get?_push_of_some _ e
  rw [hw]
  refine wpAny_bind (wpAny_pure ?_)
  show wpAny (model X.prog X.w) X.A (do rule "assign.swapped-stores"; let items ← unpackItems (.ref s1.heap.objs.size) 2 none;assignInOrder [fun v=>bindName X.env y v,fun v=>bindName X.env x v] items.reverse;pure Flow.next) _ _ _
  refine wpAny_bind (wpAny_rule (wpAny_bind (unpackItems_tuple (items:=#[u1,u2]) (I.ok.hd hc) (IsTup.new s1.heap _) fun h' hx'=>?_)))
  have I3:=I2.kept (h':=h') (t':=s1.toks) fun b o e=>hx' b o (Nat.ne_of_lt (Heap.lt_size e)) e
  show wpAny _ _ (assignInOrder [fun v=>bindName X.env y v,fun v=>bindName X.env x v] [u2,u1] >>= fun _=>pure Flow.next) _ _ _
  refine wpAny_bind (assignInOrder_cons (wpAny_bindName (store_ok I3 hN hj (.inl hy) rw' (fun s2 I4=>?_) (.inr hy))))
  refine assignInOrder_cons (wpAny_bindName (store_ok I4 hN hi (.inl hx) rv (fun s3 I5=>assignInOrder_nil (wpAny_pure ?_)) (.inr hx)))
  rw [List.set_comm _ _ (Ne.symm hij)] at I5
  exact ⟨_,H1,I5,q1⟩
end
section
variable {X:Cx} {pos:Pos}
def tWhile (c:TT) (tb:TS):TS:=fun D σ H=>∃ W:Nat→St→Hp→Prop,(∃ m,W m σ H)∧∀ m σ H,W m σ H →
  c σ H fun b H1=>if b=true then ∃ N:St→Hp→Prop,(∀ σ' H',N σ' H'→∃ m',m' < m∧W m' σ' H')∧tb { D with nx:=N,ct:=N,bk:=D.nx } σ H1 else D.nx σ H1
theorem ps_while {c:Expr} {body:List Stmt} {tc:TT} {tb:TS} (hp:PassesOwn (model X.prog X.w) X.A X.env X.xe) (hc:PT X c tc) (hb:PSs X body tb):PS X (.While c body [] pos) (tWhile tc tb):=by
  intro pins s σ H D I h
  obtain ⟨W,⟨m0,w0⟩,turn⟩:=h
  refine wpAny_While (codeAny_whileLoop (fun n s'=>∃ σ' H',Inv X pins σ' H' s'∧W n σ' H') ?_ m0 ⟨σ,H,I,w0⟩)
  rintro n s1 ⟨σ1,H1,I1,w1⟩
  refine wpAny_passesOwn hp (thn (hc pins s1 σ1 H1 _ I1 (turn n σ1 H1 w1)) fun b s2 ⟨H2,I2,q2⟩=>?_)
  cases b with
  | true=>
    obtain ⟨N,hN,q2⟩:=q2
    rw [if_pos rfl]
    refine wpAny_passesOwn hp (thn (hb pins s2 σ1 H2 _ I2 q2) fun f s3 q3=>?_)
    cases f with
    | next=>
      obtain ⟨σ3,H3,I3,n3⟩:=q3
      obtain ⟨m',hm,w3⟩:=hN σ3 H3 n3
      exact ⟨m',hm,σ3,H3,I3,w3⟩
    | cont=>
      obtain ⟨σ3,H3,I3,n3⟩:=q3
      obtain ⟨m',hm,w3⟩:=hN σ3 H3 n3
      exact ⟨m',hm,σ3,H3,I3,w3⟩
    | brk=>exact q3
    | ret v=>exact q3
  | false=>
    rw [if_neg Bool.false_ne_true]
    exact wpAny_execs_nil ⟨σ1,H2,I2,q2⟩
end
structure It where
  go:Nat→Hp→Prop
  yld:Nat→Hp→V→Hp→Prop
  stop:Nat→Hp→Prop
def FpOk (X:Cx) (pins:List (Addr × Obj)) (H:Hp) (b:Addr):Prop:=
  H b=none∧b≠X.env.locals∧b ∉ X.fs∧(b∈X.ex∨X.s₀.heap.objs.size≤b)∧(∀ x c,X.env.cells.lookup x=some c→c≠b)∧∀ p∈X.pn++pins,p.1≠b
theorem Inv.fpOk {X:Cx} {pins:List (Addr × Obj)} {σ:St} {H H':Hp} {s:Shared} {b:Addr} (I:Inv X pins σ H s) (hb:s.heap.objs.size≤b) (hn:H' b=none):FpOk X pins H' b:=by
  refine ⟨hn,Nat.ne_of_gt (Nat.lt_of_lt_of_le I.lt hb),I.nofs hb,.inr (Nat.le_trans I.sz hb),fun x c e z=>?_,fun p hp z=>?_⟩
  · obtain ⟨v,q⟩:=I.cell x c e
    exact absurd (Nat.lt_of_lt_of_le q.lt (by rw [z];exact hb)) (Nat.lt_irrefl _)
  · exact absurd (Nat.lt_of_lt_of_le (Heap.lt_size (I.pin p hp).1) (by rw [z];exact hb)) (Nat.lt_irrefl _)
structure Turn (P:Program) (w:World) (K:PySem.W.Frag) (tg:Expr) (J:It) (fp:List Addr) (it:Addr) (tn:Nat→Heap→Prop):Prop where
  mem:it∈fp
  obj:∀ i h,tn i h→∀ b∈fp,∃ o,h.get? b=some o∧∀ v,o.data≠.cell v
  keep:∀ i h h',tn i h→(∀ b∈fp,∀ o,h.get? b=some o→h'.get? b=some o)→tn i h'
  item:∀ (X:Cx),X.prog=P→X.w=w→X.K=K→X.calm=true→∀ (i:Nat) (pins:List (Addr × Obj)) (s:Shared) (σ:St) (H:Hp) (E:Value→Shared→Prop),Inv X pins σ H s→(∀ b∈fp,FpOk X pins H b)→tn i s.heap→J.go i H →
    wpAny (model P w) X.A (pyNext (.ref it)) (fun r s1=>∃ u,r=some u ∧
      wpAny (model P w) X.A (letOwnedTupleGo tg (.ref it) u) (fun _ s2=>∃ x H',Inv X pins σ H' s2∧RelV x u∧J.yld i H x H'∧tn (i+1) s2.heap∧∀ b∈fp,H' b=none) E s1) E s
  done:∀ (X:Cx),X.prog=P→X.w=w→X.K=K→X.calm=true→∀ (i:Nat) (pins:List (Addr × Obj)) (s:Shared) (σ:St) (H:Hp) (E:Value→Shared→Prop),Inv X pins σ H s→(∀ b∈fp,FpOk X pins H b)→tn i s.heap→J.stop i H →
    wpAny (model P w) X.A (pyNext (.ref it)) (fun r s1=>r=none∧Inv X pins σ H s1) E s
  self:∀ (A:Around) (i:Nat) (s:Shared) (Q:Value→Shared→Prop) (E:Value→Shared→Prop),tn i s.heap→Q (.ref it) s→wpAny (model P w) A (pyIter (.ref it)) Q E s
abbrev TI:=St→Hp→(It→Hp→Prop)→Prop
def PIE (X:Cx) (pins:List (Addr × Obj)) (σ:St) (tg:Expr) (R:It→Hp→Prop) (itv:Value) (s2:Shared):Prop:=
  ∃ (it:Addr) (fp:List Addr) (tn:Nat→Heap→Prop) (J:It) (H':Hp),itv=.ref it∧Inv X pins σ H' s2∧Turn X.prog X.w X.K tg J fp it tn∧tn 0 s2.heap∧(∀ b∈fp,FpOk X pins H' b)∧R J H'
def PI (X:Cx) (tg iter:Expr) (wi:TI):Prop:=
  ∀ (pins:List (Addr × Obj)) (s:Shared) (σ:St) (H:Hp) (R:It→Hp→Prop),Inv X pins σ H s→wi σ H R →
    wpAny (model X.prog X.w) X.A (eval iter X.env) (fun v s1=>wpAny (model X.prog X.w) X.A (pyIter v) (PIE X pins σ tg R) X.xe s1) X.xe s
theorem go_of {M:Model} {A:Around} {E:Value→Shared→Prop} {s:Shared} {tg:Expr} {it:Addr} {u:Value} {o:Obj} {n:String} {vs:Array Value} {Q:Unit→Shared→Prop} (ho:s.heap.get? it=some o) (hc:o.cls=.type n) (hd:o.data=.fields vs)
    (hn:["enumerate", "zip", "dict_itemiterator", "dict_reverseitemiterator", "odict_iterator", "itertools.zip_longest", "itertools.pairwise"].contains n=false) (hQ:Q () s):wpAny M A (letOwnedTupleGo tg (.ref it) u) Q E s:=by
  unfold letOwnedTupleGo
  cases tg <;> first
    | exact wpAny_pure hQ
    | (cases u <;> first
        | exact wpAny_pure hQ
        | (refine wpAny_bind (wpAny_load ho ?_)
           rw [hc,hd]
           show wpAny M A (if (["enumerate", "zip", "dict_itemiterator", "dict_reverseitemiterator", "odict_iterator", "itertools.zip_longest", "itertools.pairwise"].contains n && vs[0]? == some (rawInt _))=true then _ else _) Q E s
           rw [if_neg (by intro h;rw [hn,Bool.false_and] at h;cases h)]
           exact wpAny_pure hQ))
def Itl (K:PySem.W.Frag) (a:Addr):It:=
  ⟨fun i H=>∃ xs x,SqL K H a xs∧xs[i]?=some x,fun i H x H'=>H'=H∧∀ xs,SqL K H a xs→xs[i]?=some x,fun i H=>∃ xs,SqL K H a xs∧xs.length≤i⟩
def Itr (lo:Int) (n:Nat):It:=⟨fun i _=>i < n,fun i H x H'=>H'=H∧x=.int (lo+i),fun i _=>n≤i⟩
theorem turn_list {P:Program} {w:World} {K:PySem.W.Frag} {tg:Expr} (a it:Addr):Turn P w K tg (Itl K a) [it] it (fun i h=>h.IsListIter it a i) where
  mem:=by simp
  obj:=fun i h st b hb=>by
    have e:b=it:=by simpa using hb
    subst e
    obtain ⟨o,e,c,d⟩:=st
    exact ⟨o,e,fun v z=>by rw [d] at z;cases z⟩
  keep:=fun i h h' st k=>st.at fun o e=>k it (by simp) o e
  item:=by
    intro X hP hw hK hc i pins s σ H E I hf st hg
    subst hP hw hK
    obtain ⟨xs,x,hq,hx⟩:=hg
    obtain ⟨its,rv,p,hz⟩:=I.list hq
    obtain ⟨u,hu,ru⟩:=rv.get hx
    obtain ⟨f0,f1,f2,f3,f4,f5⟩:=hf it (by simp)
    refine wpAny_pyNext_list_item st p.isList (x:=u) (by simpa using hu) fun h' st' sb=>?_
    have I1:Inv X pins σ H { s with heap:=h' }:=I.turned (t':=s.toks) (fun b o hb e=>(sb.2 b hb).trans e) f0 f1 f3 f4 f5
    obtain ⟨o,e,c,d⟩:=id st'
    exact ⟨u,rfl,go_of (s:={ s with heap:=h' }) e c d (by decide) ⟨x,H,I1,ru,⟨rfl,fun ys hy=>by rw [I.list_inj hy hq];exact hx⟩,st',fun b hb=>(hf b hb).1⟩⟩
  done:=by
    intro X hP hw hK hc i pins s σ H E I hf st hg
    subst hP hw hK
    obtain ⟨xs,hq,hx⟩:=hg
    obtain ⟨its,rv,p,hz⟩:=I.list hq
    obtain ⟨f0,f1,f2,f3,f4,f5⟩:=hf it (by simp)
    have hl:=rv.length
    exact wpAny_pyNext_list_end (I.ok.hd hc) st p.isList (by simp;omega) fun h' eb=>⟨rfl,I.turned (t':=s.toks) (fun b o hb e=>eb b o hb e) f0 f1 f3 f4 f5⟩
  self:=fun _ _ _ _ _ st h=>wpAny_pyIter_listiter st h
theorem turn_range {P:Program} {w:World} {K:PySem.W.Frag} {tg:Expr} (it:Addr) (lo:Int) (n:Nat):Turn P w K tg (Itr lo n) [it] it (fun i h=>IsRangeIter h it (lo+(i:Nat) * 1) ((n:Int) - (i:Nat)) 1) where
  mem:=by simp
  obj:=fun i h st b hb=>by
    have e:b=it:=by simpa using hb
    subst e
    exact ⟨_,st,fun v z=>by
      have z':Data.fields _=Data.cell v:=z
      cases z'⟩
  keep:=fun i h h' st k=>k it (by simp) _ st
  item:=by
    intro X hP hw hK hc i pins s σ H E I hf st hg
    subst hP hw hK
    obtain ⟨f0,f1,f2,f3,f4,f5⟩:=hf it (by simp)
    have W:=Walks.range (prog:=X.prog) (w:=X.w) (I.ok.hd hc) it lo 1 n
    refine W.item i s _ _ hg st fun v h' tk hv st' kk=>?_
    obtain ⟨t,rfl⟩:=hv
    have I1:Inv X pins σ H { s with heap:=h',toks:=tk }:=I.turned (fun b o hb e=>kk b o (by simpa using hb) e) f0 f1 f3 f4 f5
    refine ⟨_,rfl,go_of (s:={ s with heap:=h',toks:=tk }) (n := "range_iterator") st' rfl rfl (by decide) ⟨.int (lo+i),H,I1,⟨t,?_⟩,⟨rfl,rfl⟩,st',fun b hb=>(hf b hb).1⟩⟩
    rw [Int.mul_one]
  done:=by
    intro X hP hw hK hc i pins s σ H E I hf st hg
    subst hP hw hK
    obtain ⟨f0,f1,f2,f3,f4,f5⟩:=hf it (by simp)
    exact wpAny_pyNext_range_end (I.ok.hd hc) st (by have:n≤i:=hg;omega) fun h' eb=>⟨rfl,I.turned (t':=s.toks) (fun b o hb e=>eb b o hb e) f0 f1 f3 f4 f5⟩
  self:=fun _ _ _ _ _ st h=>wpAny_pyIter_rangeiter st h
end L2
namespace L2
open PySem PySem.Spec PyProof.Rows
section
variable {X:Cx} {tg:Expr}
def iList (K:PySem.W.Frag) (tl:TE):TI:=fun σ H R=>tl σ H fun x H1=>∃ a,x=.ref a∧(∃ xs,SqL K H1 a xs)∧R (Itl K a) H1
theorem pi_list {l:Expr} {tl:TE} (hl:PE X l tl):PI X tg l (iList X.K tl):=by
  intro pins s σ H R I h
  refine thn (hl pins s σ H _ I h) fun v s1 ⟨x,H1,I1,r1,q1⟩=>?_
  obtain ⟨a,e,⟨xs,hq⟩,q⟩:=q1
  subst e
  cases r1
  obtain ⟨its,rv,p,hz⟩:=I1.list hq
  refine wpAny_pyIter_list p.isList ?_
  refine ⟨s1.heap.objs.size,[s1.heap.objs.size],_,_,H1,rfl,I1.kept (t':=s1.toks) fun b o e=>Heap.get?_push_of_some _ e,turn_list a _,⟨_,Heap.get?_push_size _ rfl,rfl,rfl⟩,fun b hb=>?_,q⟩
  have e:b=s1.heap.objs.size:=by simpa using hb
  subst e
  exact I1.fpOk (Nat.le_refl _) (I1.hok.fresh (Nat.le_refl _))
theorem range_it {pins:List (Addr × Obj)} {σ:St} {H:Hp} {s:Shared} {R:It→Hp→Prop} {E:Value→Shared→Prop} {lo hi:Int} {t u v:Tok} {tk:Nat} (I:Inv X pins σ H s) (h1:-(2 ^ 62)≤lo) (h2:lo < 2 ^ 62) (h3:-(2 ^ 62)≤hi) (h4:hi < 2 ^ 62)
    (q:R (Itr lo (hi - lo).toNat) H):wpAny (model X.prog X.w) X.A (pyIter (.ref s.heap.objs.size)) (PIE X pins σ tg R) E { s with heap:=s.heap.push { cls:=.type "range", data:=.fields #[.int lo t,.int hi u,.int 1 v] },toks:=tk }:=by
  refine wpAny_pyIter_range (IsRange.new ..) (small_one h1 h2 h3 h4) ?_
  have I1:Inv X pins σ H { s with heap:=s.heap.push { cls:=.type "range", data:=.fields #[.int lo t,.int hi u,.int 1 v] },toks:=tk }:=I.kept fun b o e=>Heap.get?_push_of_some _ e
  refine ⟨(s.heap.push { cls:=.type "range", data:=.fields #[.int lo t,.int hi u,.int 1 v] }).objs.size,[(s.heap.push { cls:=.type "range", data:=.fields #[.int lo t,.int hi u,.int 1 v] }).objs.size],_,_,H,rfl,
    I1.kept (t':=tk) fun b o e=>Heap.get?_push_of_some _ e,turn_range _ lo (hi - lo).toNat,?_,fun b hb=>?_,q⟩
  · have e1:lo+((0:Nat):Int) * 1=lo:=by simp
    have e2:(((hi - lo).toNat:Nat):Int) - ((0:Nat):Int)=Builtin.Range.rangeSize lo hi 1:=by rw [rangeSize_one];split <;> omega
    show IsRangeIter _ _ (lo+((0:Nat):Int) * 1) ((((hi - lo).toNat:Nat):Int) - ((0:Nat):Int)) 1
    rw [e1,e2]
    exact Heap.get?_push_size _ rfl
  · have e:b=(s.heap.push { cls:=.type "range", data:=.fields #[.int lo t,.int hi u,.int 1 v] }).objs.size:=by simpa using hb
    subst e
    exact I1.fpOk (Nat.le_refl _) (I1.hok.fresh (Nat.le_refl _))
def iRng1 (ta:TA):TI:=fun σ H R=>ta σ H fun vs H1=>∃ j:Int,vs=[.int j]∧-(2 ^ 62)≤j∧j < 2 ^ 62∧R (Itr 0 j.toNat) H1
theorem pi_range1 {a:Expr} {ta:TA} {p pos:Pos} (hg:Gl X "range") (hm:X.mg "range" = none) (ha:PA X [a] ta) (hs:starEach [a] X.env=[(false,eval a X.env)]:=by rfl):PI X tg (.Call (.Name "range" p) [a] [] pos) (iRng1 ta):=by
  intro pins s σ H R I h
  refine Call_ (ld_blt I hg hm boot_range (PyProof.Rows.callWith_type1 (thn (ha pos pins s σ H _ I h) fun us s1 ⟨vs,H1,I1,r1,q1⟩=>?_) hs rfl))
  obtain ⟨j,e,q1,q2,q⟩:=q1
  subst e
  cases r1 with
  | cons r rr=>
    cases rr
    obtain ⟨t,rfl⟩:=r
    exact call_range_1 (range_it I1 (by omega) (by omega) q1 q2 (by simpa using q))
def tFor (wi:TI) (g:TG) (tb:TS):TS:=fun D σ H=>wi σ H fun J H1=>∃ W:Nat→Nat→St→Hp→Prop,(∃ m,W 0 m σ H1)∧∀ i m σ H,W i m σ H →
  (J.stop i H∧D.nx σ H)∨(J.go i H∧∃ N:St→Hp→Prop,(∀ σ' H',N σ' H'→∃ m',m' < m∧W (i+1) m' σ' H')∧∀ x H',J.yld i H x H'→g x σ H' fun σ2 H2=>tb { D with nx:=N,ct:=N,bk:=D.nx } σ2 H2)
def pinsAt (fp:List Addr) (h:Heap):List (Addr × Obj):=fp.filterMap fun b=>(h.get? b).map fun o=>(b,o)
theorem mem_pinsAt {fp:List Addr} {h:Heap} {b:Addr} {o:Obj} (hb:b∈fp) (e:h.get? b=some o):(b,o)∈pinsAt fp h:=List.mem_filterMap.mpr ⟨b,hb,by rw [e];rfl⟩
theorem of_pinsAt {fp:List Addr} {h:Heap} {p:Addr × Obj} (hp:p∈pinsAt fp h):p.1∈fp∧h.get? p.1=some p.2:=by
  obtain ⟨b,hb,e⟩:=List.mem_filterMap.mp hp
  cases q:h.get? b with
  | none=>rw [q] at e;cases e
  | some o=>
    rw [q] at e
    have e':(b,o)=p:=Option.some.inj e
    subst e'
    exact ⟨hb,q⟩
theorem Inv.pinned {pins:List (Addr × Obj)} {σ:St} {H:Hp} {s:Shared} {fp:List Addr} (I:Inv X pins σ H s) (hf:∀ b∈fp,FpOk X pins H b) (ho:∀ b∈fp,∃ o,s.heap.get? b=some o∧∀ v,o.data≠.cell v):Inv X (pins++pinsAt fp s.heap) σ H s:=
  I.pins_of fun p hp=>(List.mem_append.mp hp).elim (fun z=>I.pin p (List.mem_append_right _ z)) fun z=>by
    obtain ⟨hb,e⟩:=of_pinsAt z
    obtain ⟨f0,f1,f2,_⟩:=hf p.1 hb
    obtain ⟨o,e',d⟩:=ho p.1 hb
    rw [e] at e';cases e'
    exact ⟨e,f0,f1,f2,d⟩
theorem Inv.unpinned {pins pl:List (Addr × Obj)} {σ:St} {H:Hp} {s:Shared} (I:Inv X (pins++pl) σ H s):Inv X pins σ H s:=I.pins_of fun p hp=>I.pin p (List.mem_append_right _ (List.mem_append_left _ hp))
theorem ps_for {iter:Expr} {body:List Stmt} {wi:TI} {g:TG} {tb:TS} {pos:Pos} (hp:PassesOwn (model X.prog X.w) X.A X.env X.xe) (hc:X.calm=true) (hi:PI X tg iter wi) (hg:PG X tg g) (hb:PSs X body tb)
    (hs:∀ x,foldedSetIterable iter X.env x=pure x:=by intro _;rfl):PS X (.For tg iter body [] pos) (tFor wi g tb):=by
  intro pins s σ H D I h
  refine wpAny_For (thn (hi pins s σ H _ I h) fun v s1 h1=>thn h1 fun itv s2 h2=>?_) hs
  obtain ⟨it,fp,tn,J,H2,e,I2,T,st2,f2,W,⟨m0,w0⟩,turn⟩:=h2
  subst e
  have stat:∀ {H':Hp},(∀ b∈fp,H' b=none)→∀ b∈fp,FpOk X pins H' b:=fun hn b hb=>⟨hn b hb,(f2 b hb).2⟩
  refine codeAny_forLoop_any (fun n s'=>∃ i σ' H',Inv X pins σ' H' s'∧tn i s'.heap∧(∀ b∈fp,H' b=none)∧W i n σ' H') ?_ m0 ⟨0,σ,H2,I2,st2,fun b hb=>(f2 b hb).1,w0⟩
  rintro n s3 ⟨i,σ3,H3,I3,st3,fr3,w3⟩
  rcases turn i n σ3 H3 w3 with ⟨stop,qn⟩ | ⟨go,N,hN,step⟩
  · refine wpAny_passesOwn hp (thn (T.done X rfl rfl rfl hc i pins s3 σ3 H3 X.xe I3 (stat fr3) st3 stop) fun r s4 ⟨hr,I4⟩=>?_)
    subst hr
    exact wpAny_execs_nil ⟨σ3,H3,I4,qn⟩
  · refine wpAny_passesOwn hp (thn (T.item X rfl rfl rfl hc i pins s3 σ3 H3 X.xe I3 (stat fr3) st3 go) fun r s4 ⟨u,hr,h4⟩=>?_)
    subst hr
    refine wpAny_passesOwn hp (thn h4 fun _ s5 ⟨x,H5,I5,r5,y5,st5,fr5⟩=>?_)
    have I5':=I5.pinned (stat fr5) (T.obj _ _ st5)
    refine wpAny_passesOwn hp (thn (hg _ s5 σ3 H5 x u _ I5' r5 (step x H5 y5)) fun _ s6 ⟨σ6,H6,I6,q6⟩=>?_)
    refine wpAny_passesOwn hp (thn (hb _ s6 σ6 H6 _ I6 q6) fun f s7 q7=>?_)
    have again:∀ {σ7:St} {H7:Hp},Inv X (pins++pinsAt fp s5.heap) σ7 H7 s7→N σ7 H7→∃ m,m < n∧∃ i σ' H',Inv X pins σ' H' s7∧tn i s7.heap∧(∀ b∈fp,H' b=none)∧W i m σ' H':=fun {σ7 H7} I7 n7=>by
      obtain ⟨m',hm,w7⟩:=hN σ7 H7 n7
      refine ⟨m',hm,i+1,σ7,H7,I7.unpinned,T.keep _ _ _ st5 fun b hb o e=>(I7.pin (b,o) (List.mem_append_right _ (List.mem_append_right _ (mem_pinsAt hb e)))).1,fun b hb=>?_,w7⟩
      obtain ⟨o,e,d⟩:=T.obj _ _ st5 b hb
      exact (I7.pin (b,o) (List.mem_append_right _ (List.mem_append_right _ (mem_pinsAt hb e)))).2.1
    cases f with
    | next=>obtain ⟨σ7,H7,I7,n7⟩:=q7;exact again I7 n7
    | cont=>obtain ⟨σ7,H7,I7,n7⟩:=q7;exact again I7 n7
    | brk=>obtain ⟨σ7,H7,I7,q7⟩:=q7;exact ⟨σ7,H7,I7.unpinned,q7⟩
    | ret v=>obtain ⟨x7,σ7,H7,I7,r7,q7⟩:=q7;exact ⟨x7,σ7,H7,I7.unpinned,r7,q7⟩
end
theorem for_list {K:PySem.W.Frag} {a:Addr} {xs:List V} {g:TG} {tb:TS} {D:Ends} {σ:St} {H:Hp} (Pv:Nat→St→Hp→Prop) (h0:Pv 0 σ H) (hl:∀ i σ H,i≤xs.length→Pv i σ H→SqL K H a xs)
    (hs:∀ i x σ H,xs[i]?=some x→Pv i σ H→g x σ H fun σ2 H2=>tb { D with nx:=Pv (i+1),ct:=Pv (i+1),bk:=D.nx } σ2 H2) (hd:∀ σ H,Pv xs.length σ H→D.nx σ H) :
    ∃ W:Nat→Nat→St→Hp→Prop,(∃ m,W 0 m σ H)∧∀ i m σ H,W i m σ H →
      ((Itl K a).stop i H∧D.nx σ H)∨((Itl K a).go i H∧∃ N:St→Hp→Prop,(∀ σ' H',N σ' H'→∃ m',m' < m∧W (i+1) m' σ' H')∧∀ x H',(Itl K a).yld i H x H'→g x σ H' fun σ2 H2=>tb { D with nx:=N,ct:=N,bk:=D.nx } σ2 H2):=by
  refine ⟨fun i m σ H=>m=xs.length - i∧i≤xs.length∧Pv i σ H,⟨xs.length,by simp,Nat.zero_le _,h0⟩,?_⟩
  rintro i m σ H ⟨rfl,hi,p⟩
  have q:=hl i σ H hi p
  by_cases hlt:i < xs.length
  · refine .inr ⟨⟨xs,xs[i],q,by simp [hlt]⟩,Pv (i+1),fun σ' H' p'=>⟨xs.length - (i+1),by omega,rfl,hlt,p'⟩,fun x H' y=>?_⟩
    obtain ⟨e,y⟩:=y
    subst e
    exact hs i x σ _ (y xs q) p
  · have e:i=xs.length:=by omega
    subst e
    exact .inl ⟨⟨xs,q,Nat.le_refl _⟩,hd σ H p⟩
theorem for_range {lo:Int} {n:Nat} {g:TG} {tb:TS} {D:Ends} {σ:St} {H:Hp} (Pv:Nat→St→Hp→Prop) (h0:Pv 0 σ H)
    (hs:∀ i σ H,i < n→Pv i σ H→g (.int (lo+i)) σ H fun σ2 H2=>tb { D with nx:=Pv (i+1),ct:=Pv (i+1),bk:=D.nx } σ2 H2) (hd:∀ σ H,Pv n σ H→D.nx σ H) :
    ∃ W:Nat→Nat→St→Hp→Prop,(∃ m,W 0 m σ H)∧∀ i m σ H,W i m σ H →
      ((Itr lo n).stop i H∧D.nx σ H)∨((Itr lo n).go i H∧∃ N:St→Hp→Prop,(∀ σ' H',N σ' H'→∃ m',m' < m∧W (i+1) m' σ' H')∧∀ x H',(Itr lo n).yld i H x H'→g x σ H' fun σ2 H2=>tb { D with nx:=N,ct:=N,bk:=D.nx } σ2 H2):=by
  refine ⟨fun i m σ H=>m=n - i∧i≤n∧Pv i σ H,⟨n,by simp,Nat.zero_le _,h0⟩,?_⟩
  rintro i m σ H ⟨rfl,hi,p⟩
  by_cases hlt:i < n
  · refine .inr ⟨hlt,Pv (i+1),fun σ' H' p'=>⟨n - (i+1),by omega,rfl,hlt,p'⟩,fun x H' y=>?_⟩
    obtain ⟨e,y⟩:=y
    subst e y
    exact hs i σ _ hlt p
  · have e:i=n:=by omega
    subst e
    exact .inl ⟨Nat.le_refl _,hd σ H p⟩
end L2
namespace L2
open PySem PySem.Spec PyProof.Rows
abbrev R2:=V→V→Hp→VK→Prop
def OpR (X:Cx) (f:Value→Value→Sem Value) (r:R2):Prop:=
  ∀ (pins:List (Addr × Obj)) (s:Shared) (σ:St) (H:Hp) (x y:V) (v u:Value) (Q:VK),Inv X pins σ H s→RelV x v→RelV y u→r x y H Q →
    wpAny (model X.prog X.w) X.A (f v u) (EP X pins σ Q) X.xe s
def UnR (X:Cx) (f:Value→Sem Value) (r:V→Hp→VK→Prop):Prop:=
  ∀ (pins:List (Addr × Obj)) (s:Shared) (σ:St) (H:Hp) (x:V) (v:Value) (Q:VK),Inv X pins σ H s→RelV x v→r x H Q →
    wpAny (model X.prog X.w) X.A (f v) (EP X pins σ Q) X.xe s
def CallR (X:Cx) (f:Value) (r:List V→Hp→VK→Prop):Prop:=
  ∀ (pins:List (Addr × Obj)) (s:Shared) (σ:St) (H:Hp) (xs:List V) (us:List Value) (Q:VK),Inv X pins σ H s→Vals xs us→r xs H Q →
    wpAny (model X.prog X.w) X.A (call f us) (EP X pins σ Q) X.xe s
def TruR (X:Cx) (r:V→Hp→(Bool→Hp→Prop)→Prop):Prop:=
  ∀ (pins:List (Addr × Obj)) (s:Shared) (σ:St) (H:Hp) (x:V) (v:Value) (Q:Bool→Hp→Prop),Inv X pins σ H s→RelV x v→r x H Q →
    wpAny (model X.prog X.w) X.A (truthy v) (TP X pins σ Q) X.xe s
def tOp (r:R2) (ta tb:TE):TE:=fun σ H Q=>ta σ H fun x H1=>tb σ H1 fun y H2=>r x y H2 Q
def tUn (r:V→Hp→VK→Prop) (ta:TE):TE:=fun σ H Q=>ta σ H fun x H1=>r x H1 Q
def rI (C:Int→Int→Prop) (g:Int→Int→V):R2:=fun x y H Q=>∃ i j,x=.int i∧y=.int j∧C i j∧Q (g i j) H
def rI0 (g:Int→Int→V):R2:=fun x y H Q=>∃ i j,x=.int i∧y=.int j∧Q (g i j) H
def rU (g:Int→V):V→Hp→VK→Prop:=fun x H Q=>∃ i,x=.int i∧Q (g i) H
section
variable {X:Cx} {a b c:Expr} {ta tb tc:TE} {pos:Pos}
theorem binT (ha:PE X a ta) (hb:PE X b tb) {pins:List (Addr × Obj)} {s:Shared} {σ:St} {H:Hp} {R:V→V→Hp→Prop} (I:Inv X pins σ H s)
    (h:ta σ H fun x H1=>tb σ H1 fun y H2=>R x y H2) {Q:Value→Shared→Prop} {f:Value→Value→Sem Value}
    (hf:∀ v u s2 x y H2,Inv X pins σ H2 s2→RelV x v→RelV y u→R x y H2→wpAny (model X.prog X.w) X.A (f v u) Q X.xe s2) :
    wpAny (model X.prog X.w) X.A (eval a X.env) (fun v s₁=>wpAny (model X.prog X.w) X.A (eval b X.env) (fun u s₂=>wpAny (model X.prog X.w) X.A (f v u) Q X.xe s₂) X.xe s₁) X.xe s:=by
  refine thn (ha pins s σ H _ I h) fun v s1 ⟨x,H1,I1,r1,q1⟩=>?_
  refine thn (hb pins s1 σ H1 _ I1 q1) fun u s2 ⟨y,H2,I2,r2,q2⟩=>?_
  exact hf v u s2 x y H2 I2 r1 r2 q2
theorem pe_op {op:Operator} {r:R2} (ho:OpR X (binaryOp op) r) (ha:PE X a ta) (hb:PE X b tb):PE X (.BinOp a op b pos) (tOp r ta tb):=by
  intro pins s σ H Q I h
  exact wpAny_BinOp (binT ha hb I h fun v u s2 x y H2 I2 rx ry q=>ho pins s2 σ H2 x y v u Q I2 rx ry q)
theorem pe_un {op:UnaryOp} {r:V→Hp→VK→Prop} (ho:UnR X (unaryOp op) r) (ha:PE X a ta):PE X (.UnaryOp op a pos) (tUn r ta):=by
  intro pins s σ H Q I h
  exact UnaryOp_ (thn (ha pins s σ H _ I h) fun v s1 ⟨x,H1,I1,r1,q1⟩=>ho pins s1 σ H1 x v Q I1 r1 q1)
theorem opI {f:Value→Value→Sem Value} {C:Int→Int→Prop} {g:Int→Int→Int}
    (rule:∀ (i j:Int) (t u:Tok) (s:Shared) (Q:Value→Shared→Prop) (E:Value→Shared→Prop),C i j→Q (.int (g i j) s.toks) { s with toks:=s.toks+1 }→wpAny (model X.prog X.w) X.A (f (.int i t) (.int j u)) Q E s) :
    OpR X f (rI C fun i j=>.int (g i j)):=by
  intro pins s σ H x y v u Q I rx ry h
  obtain ⟨i,j,rfl,rfl,hc,q⟩:=h
  obtain ⟨t,rfl⟩:=rx
  obtain ⟨t',rfl⟩:=ry
  exact rule i j t t' s _ _ hc ⟨.int (g i j),H,I.tok _,⟨_,rfl⟩,q⟩
theorem opI0 {f:Value→Value→Sem Value} {g:Int→Int→Int}
    (rule:∀ (i j:Int) (t u:Tok) (s:Shared) (Q:Value→Shared→Prop) (E:Value→Shared→Prop),Q (.int (g i j) s.toks) { s with toks:=s.toks+1 }→wpAny (model X.prog X.w) X.A (f (.int i t) (.int j u)) Q E s) :
    OpR X f (rI0 fun i j=>.int (g i j)):=by
  intro pins s σ H x y v u Q I rx ry h
  obtain ⟨i,j,rfl,rfl,q⟩:=h
  obtain ⟨t,rfl⟩:=rx
  obtain ⟨t',rfl⟩:=ry
  exact rule i j t t' s _ _ ⟨.int (g i j),H,I.tok _,⟨_,rfl⟩,q⟩
theorem opB0 {f:Value→Value→Sem Value} {g:Int→Int→Bool}
    (rule:∀ (i j:Int) (t u:Tok) (s:Shared) (Q:Value→Shared→Prop) (E:Value→Shared→Prop),Q (.bool (g i j)) s→wpAny (model X.prog X.w) X.A (f (.int i t) (.int j u)) Q E s) :
    OpR X f (rI0 fun i j=>.bl (g i j)):=by
  intro pins s σ H x y v u Q I rx ry h
  obtain ⟨i,j,rfl,rfl,q⟩:=h
  obtain ⟨t,rfl⟩:=rx
  obtain ⟨t',rfl⟩:=ry
  exact rule i j t t' s _ _ ⟨.bl (g i j),H,I,rfl,q⟩
def CDiv (i j:Int):Prop:=0 < j∧j < 1073741824
def CPow (i j:Int):Prop:=0≤j∧j≤1000000∧i.natAbs < 2 ^ 64
def CMul (i j:Int):Prop:=(-(2 ^ 64) < i∧i < 2 ^ 64)∨(-(2 ^ 64) < j∧j < 2 ^ 64)
theorem CMul.ok {i j:Int} (h:CMul i j):IntMulOk i j:=by
  rcases h with ⟨h1,h2⟩ | ⟨h1,h2⟩
  · exact .of_left (intBits_le_64 h1 h2)
  · exact .of_right (intBits_le_64 h1 h2)
theorem op_add:OpR X (binaryOp .Add) (rI0 fun i j=>.int (i+j)):=opI0 fun _ _ _ _ _ _ _ q=>add_int q
theorem op_sub:OpR X (binaryOp .Sub) (rI0 fun i j=>.int (i - j)):=opI0 fun _ _ _ _ _ _ _ q=>sub_int q
theorem op_mul:OpR X (binaryOp .Mult) (rI CMul fun i j=>.int (i * j)):=opI fun _ _ _ _ _ _ _ hc q=>mul_int q hc.ok
theorem op_fdiv:OpR X (binaryOp .FloorDiv) (rI CDiv fun i j=>.int (i / j)):=opI fun i j _ _ _ _ _ hc q=>by
  have h1:(0:Int) < j:=hc.1
  have h2:j < 1073741824:=hc.2
  exact floordiv_int (by omega) (by rw [Int.fdiv_eq_ediv_of_nonneg i (by omega)];exact q) (.inl (PyProof.noPylong_small (by omega)))
theorem op_mod:OpR X (binaryOp .Mod) (rI (fun _ j=>0 < j) fun i j=>.int (i % j)):=opI fun i j _ _ _ _ _ hc q=>by
  have h1:(0:Int) < j:=hc
  exact mod_int' (by omega) (by rw [Int.fmod_eq_emod_of_nonneg i (by omega)];exact q)
theorem op_pow:OpR X (binaryOp .Pow) (rI CPow fun i j=>.int (i ^ j.toNat)):=opI fun _ _ _ _ _ _ _ hc q=>pow_int_small hc.1 hc.2.1 hc.2.2 q
theorem unI {f:Value→Sem Value} {g:Int→Int}
    (rule:∀ (i:Int) (t:Tok) (s:Shared) (Q:Value→Shared→Prop) (E:Value→Shared→Prop),Q (.int (g i) s.toks) { s with toks:=s.toks+1 }→wpAny (model X.prog X.w) X.A (f (.int i t)) Q E s) :
    UnR X f (rU fun i=>.int (g i)):=by
  intro pins s σ H x v Q I rx h
  obtain ⟨i,rfl,q⟩:=h
  obtain ⟨t,rfl⟩:=rx
  exact rule i t s _ _ ⟨.int (g i),H,I.tok _,⟨_,rfl⟩,q⟩
theorem un_neg:UnR X (unaryOp .USub) (rU fun i=>.int (-i)):=unI fun _ _ _ _ _ q=>neg_int q
end
def scal:V→V→Bool
  | .non,.non=>true | .non,.int _=>true | .int _,.non=>true | .non,.bl _=>true | .bl _,.non=>true | .non,.str _=>true | .str _,.non=>true
  | .int _,.int _=>true | .bl _,.bl _=>true | .str _,.str _=>true | .byt _,.byt _=>true
  | .int _,.str _=>true | .str _,.int _=>true | .bl _,.str _=>true | .str _,.bl _=>true
  | _,_=>false
def rEq:R2:=fun x y H Q=>scal x y=true∧Q (.bl (decide (x=y))) H
def rNe:R2:=fun x y H Q=>scal x y=true∧Q (.bl (!decide (x=y))) H
theorem dec_int {i j:Int}:decide (V.int i=V.int j)=(i == j):=by
  rw [Bool.eq_iff_iff]
  simp
theorem dec_bl {i j:Bool}:decide (V.bl i=V.bl j)=(i == j):=by
  rw [Bool.eq_iff_iff]
  simp
theorem dec_str {i j:Str}:decide (V.str i=V.str j)=(i == j):=by
  rw [Bool.eq_iff_iff]
  simp
theorem dec_byt {i j:Array UInt8}:decide (V.byt i=V.byt j)=(i.toList == j.toList):=by
  rw [Bool.eq_iff_iff]
  cases i
  cases j
  simp
section
variable {X:Cx} {a b c:Expr} {ta tb tc:TE} {pos:Pos}
theorem fin_bl {pins:List (Addr × Obj)} {σ:St} {H:Hp} {s:Shared} {Q:VK} {k k':Bool} (I:Inv X pins σ H s) (q:Q (.bl k) H) (e:k=k'):EP X pins σ Q (.bool k') s:=by
  subst e
  exact ⟨.bl k,H,I,rfl,q⟩
theorem op_eq:OpR X (compareOp .Eq) rEq:=by
  intro pins s σ H x y v u Q I rx ry h
  obtain ⟨hs,q⟩:=h
  cases x with
  | non=>
    cases rx
    cases y with
    | non=>cases ry;exact PySem.EqNone.eq_none_none (fin_bl I q (by simp))
    | bl j=>cases ry;exact PySem.EqNone.eq_none_bool (fin_bl I q (by simp))
    | int j=>obtain ⟨t',rfl⟩:=ry;exact PySem.EqNone.eq_none_int (fin_bl I q (by simp))
    | str j=>obtain ⟨t',rfl⟩:=ry;exact PySem.EqNone.eq_none_str (fin_bl I q (by simp))
    | _=>exact absurd (show false=true from hs) Bool.false_ne_true
  | bl i=>
    cases rx
    cases y with
    | non=>cases ry;exact PySem.EqNone.eq_bool_none (fin_bl I q (by simp))
    | bl j=>cases ry;exact eq_bool (fin_bl I q dec_bl)
    | str j=>obtain ⟨t',rfl⟩:=ry;exact PySem.EqMixed.eq_bool_str (fin_bl I q (by simp))
    | _=>exact absurd (show false=true from hs) Bool.false_ne_true
  | int i=>
    obtain ⟨t,rfl⟩:=rx
    cases y with
    | non=>cases ry;exact PySem.EqNone.eq_int_none (fin_bl I q (by simp))
    | int j=>obtain ⟨t',rfl⟩:=ry;exact eq_int (fin_bl I q dec_int)
    | str j=>obtain ⟨t',rfl⟩:=ry;exact PySem.EqMixed.eq_int_str (fin_bl I q (by simp))
    | _=>exact absurd (show false=true from hs) Bool.false_ne_true
  | str i=>
    obtain ⟨t,rfl⟩:=rx
    cases y with
    | non=>cases ry;exact PySem.EqNone.eq_str_none (fin_bl I q (by simp))
    | bl j=>cases ry;exact PySem.EqMixed.eq_str_bool (fin_bl I q (by simp))
    | int j=>obtain ⟨t',rfl⟩:=ry;exact PySem.EqMixed.eq_str_int (fin_bl I q (by simp))
    | str j=>obtain ⟨t',rfl⟩:=ry;exact eq_str (fin_bl I q dec_str)
    | _=>exact absurd (show false=true from hs) Bool.false_ne_true
  | byt i=>
    obtain ⟨t,rfl⟩:=rx
    cases y with
    | byt j=>obtain ⟨t',rfl⟩:=ry;exact PySem.W.eq_bytes (fin_bl I q dec_byt)
    | _=>exact absurd (show false=true from hs) Bool.false_ne_true
  | _=>cases y <;> exact absurd (show false=true from hs) Bool.false_ne_true
theorem op_ne:OpR X (compareOp .NotEq) rNe:=by
  intro pins s σ H x y v u Q I rx ry h
  obtain ⟨hs,q⟩:=h
  cases x with
  | non=>
    cases rx
    cases y with
    | non=>cases ry;exact PySem.EqNone.ne_none_none (fin_bl I q (by simp))
    | bl j=>cases ry;exact PySem.EqNone.ne_none_bool (fin_bl I q (by simp))
    | int j=>obtain ⟨t',rfl⟩:=ry;exact PySem.EqNone.ne_none_int (fin_bl I q (by simp))
    | str j=>obtain ⟨t',rfl⟩:=ry;exact PySem.EqNone.ne_none_str (fin_bl I q (by simp))
    | _=>exact absurd (show false=true from hs) Bool.false_ne_true
  | bl i=>
    cases rx
    cases y with
    | non=>cases ry;exact PySem.EqNone.ne_bool_none (fin_bl I q (by simp))
    | bl j=>cases ry;exact ne_bool (fin_bl I q (congrArg not dec_bl))
    | str j=>obtain ⟨t',rfl⟩:=ry;exact PySem.EqMixed.ne_bool_str (fin_bl I q (by simp))
    | _=>exact absurd (show false=true from hs) Bool.false_ne_true
  | int i=>
    obtain ⟨t,rfl⟩:=rx
    cases y with
    | non=>cases ry;exact PySem.EqNone.ne_int_none (fin_bl I q (by simp))
    | int j=>obtain ⟨t',rfl⟩:=ry;exact ne_int (fin_bl I q (congrArg not dec_int))
    | str j=>obtain ⟨t',rfl⟩:=ry;exact PySem.EqMixed.ne_int_str (fin_bl I q (by simp))
    | _=>exact absurd (show false=true from hs) Bool.false_ne_true
  | str i=>
    obtain ⟨t,rfl⟩:=rx
    cases y with
    | non=>cases ry;exact PySem.EqNone.ne_str_none (fin_bl I q (by simp))
    | bl j=>cases ry;exact PySem.EqMixed.ne_str_bool (fin_bl I q (by simp))
    | int j=>obtain ⟨t',rfl⟩:=ry;exact PySem.EqMixed.ne_str_int (fin_bl I q (by simp))
    | str j=>obtain ⟨t',rfl⟩:=ry;exact ne_str (fin_bl I q (congrArg not dec_str))
    | _=>exact absurd (show false=true from hs) Bool.false_ne_true
  | byt i=>
    obtain ⟨t,rfl⟩:=rx
    cases y with
    | byt j=>obtain ⟨t',rfl⟩:=ry;exact PySem.W.ne_bytes (fin_bl I q (congrArg not dec_byt))
    | _=>exact absurd (show false=true from hs) Bool.false_ne_true
  | _=>cases y <;> exact absurd (show false=true from hs) Bool.false_ne_true
theorem op_lt:OpR X (compareOp .Lt) (rI0 fun i j=>.bl (decide (i < j))):=opB0 fun _ _ _ _ _ _ _ q=>lt_int q
theorem op_gt:OpR X (compareOp .Gt) (rI0 fun i j=>.bl (decide (j < i))):=opB0 fun _ _ _ _ _ _ _ q=>gt_int q
theorem op_in_str:OpR X (compareOp .In) (fun x y H Q=>∃ i j,x=.str i∧y=.str j∧Q (.bl (!(Builtin.Str.occurrences j i 0 j.length 1).isEmpty)) H):=by
  intro pins s σ H x y v u Q I rx ry h
  obtain ⟨i,j,rfl,rfl,q⟩:=h
  obtain ⟨t,rfl⟩:=rx
  obtain ⟨t',rfl⟩:=ry
  exact in_str (fin_bl I q rfl)
theorem nomark (b:Expr) {op:CmpOp} (h:op≠.In:=by decide) (h2:op≠.NotIn:=by decide):behindInMarks op b=false:=by
  have e1:(op == CmpOp.In)=false:=by cases op <;> first | rfl | exact absurd rfl h
  have e2:(op == CmpOp.NotIn)=false:=by cases op <;> first | rfl | exact absurd rfl h2
  cases b <;> simp [behindInMarks,e1,e2]
theorem pe_cmpR {op:CmpOp} {r:R2} (ho:OpR X (compareOp op) r) (ha:PE X a ta) (hb:PE X b tb) (hm:behindInMarks op b=false):PE X (.Compare a [op] [b] pos) (tOp r ta tb):=by
  intro pins s σ H Q I h
  exact wpAny_Compare1 (binT ha hb I h fun v u s2 x y H2 I2 rx ry q=>ho pins s2 σ H2 x y v u Q I2 rx ry q) hm
def tTest (t:TE):TT:=fun σ H Q=>t σ H fun x H'=>∃ k,x=.bl k∧Q k H'
theorem pt_cmpR {op:CmpOp} {r:R2} (ho:OpR X (compareOp op) r) (ha:PE X a ta) (hb:PE X b tb) (hm:behindInMarks op b=false):PT X (.Compare a [op] [b] pos) (tTest (tOp r ta tb)):=by
  intro pins s σ H Q I h
  refine wpAny_isTrue_Compare1 (thn (ha pins s σ H _ I h) fun v s1 ⟨x,H1,I1,r1,q1⟩=>thn (hb pins s1 σ H1 _ I1 q1) fun u s2 ⟨y,H2,I2,r2,q2⟩=>
    thn (ho pins s2 σ H2 x y v u _ I2 r1 r2 q2) fun c s3 ⟨z,H3,I3,r3,k,e,q3⟩=>?_) hm
  subst e
  cases r3
  exact wpAny_truthy_bool ⟨H3,I3,q3⟩
def TruV (K:PySem.W.Frag) (x:V) (H:Hp) (k:Bool):Prop:=
  match x with
  | .non=>k=false
  | .bl b=>k=b
  | .int i=>k=(i != 0)
  | .str y=>y.length≤sizeLine∧k=((y.length:Int) != 0)
  | .byt y=>y.size≤sizeLine∧k=((y.size:Int) != 0)
  | .ref p=>(∃ xs,SqL K H p xs∧k=!xs.isEmpty)∨(∃ xs,SqT K H p xs∧k=!xs.isEmpty)∨∃ kvs,H p=some (.dK kvs)∧k=!kvs.isEmpty
  | _=>False
theorem isEmpty_kv {κ:Type} {kvs:List (κ × V)} {vs:List (κ × Value)} (r:KV kvs vs):(!vs.isEmpty)=!kvs.isEmpty:=by
  cases r <;> rfl
theorem isEmpty_of {xs:List V} {its:List Value} (r:Vals xs its):(!its.toArray.isEmpty)=!xs.isEmpty:=by
  cases r <;> simp
theorem line63:(sizeLine:Nat) < 2 ^ 63:=by rw [sizeLine_eq];decide
theorem tru_ok:TruR X (fun x H Q=>∃ k,TruV X.K x H k∧Q k H):=by
  intro pins s σ H x v Q I rx h
  obtain ⟨k,e,q⟩:=h
  have hl:=line63
  have hs:sizeLine=16777216:=sizeLine_eq
  cases x with
  | non=>
    cases rx
    have e':k=false:=e
    subst e'
    exact truthy_none ⟨H,I,q⟩
  | bl b=>
    cases rx
    have e':k=b:=e
    subst e'
    exact wpAny_truthy_bool ⟨H,I,q⟩
  | int i=>
    obtain ⟨t,rfl⟩:=rx
    have e':k=(i != 0):=e
    subst e'
    exact PySem.P.truthy_int ⟨H,I,q⟩
  | str y=>
    obtain ⟨t,rfl⟩:=rx
    obtain ⟨hy,e'⟩:y.length≤sizeLine∧k=((y.length:Int) != 0):=e
    subst e'
    exact PySem.P.truthy_str (by omega) ⟨H,I.tok _,q⟩
  | byt y=>
    obtain ⟨t,rfl⟩:=rx
    obtain ⟨hy,e'⟩:y.size≤sizeLine∧k=((y.size:Int) != 0):=e
    subst e'
    exact PySem.W.truthy_bytes (by omega) ⟨H,I.tok _,q⟩
  | ref p=>
    cases rx
    have e':(∃ xs,SqL X.K H p xs∧k=!xs.isEmpty)∨(∃ xs,SqT X.K H p xs∧k=!xs.isEmpty)∨∃ kvs,H p=some (.dK kvs)∧k=!kvs.isEmpty:=e
    rcases e' with ⟨xs,hx,e'⟩ | ⟨xs,hx,e'⟩ | ⟨kvs,hx,e'⟩
    · subst e'
      obtain ⟨its,r,pl,hz⟩:=I.list hx
      have hlen:=r.length
      exact wpAny_truthy_list pl.isList (by simp only [List.size_toArray];omega) ⟨H,I.tok _,by rw [isEmpty_of r];exact q⟩
    · subst e'
      obtain ⟨its,r,pl,hz⟩:=I.tuple hx
      have hlen:=r.length
      exact truthy_tuple pl (by simp only [List.size_toArray];omega) ⟨H,I.tok _,by rw [isEmpty_of r];exact q⟩
    · subst e'
      obtain ⟨hz,hS,vs,r,m⟩:kvs.length≤sizeLine∧(p == sysModules)=false∧∃ vs,KV kvs vs∧s.heap.DictOf (mixKind X.prog X.w) p vs:=I.hok p _ hx
      have hlen:kvs.length=vs.length:=Paired.length r
      exact wpAny_truthy_dict hS m (by omega) ⟨H,I.tok _,by rw [isEmpty_kv r];exact q⟩
  | _=>exact (show False from e).elim
theorem pt_truth (ha:PE X a ta) (he:∀ whole,isTrue a X.env whole=(do let v ← whole;standAt a.pos;holding [v] (truthy v))) :
    PT X a (fun σ H Q=>ta σ H fun x H'=>∃ k,TruV X.K x H' k∧Q k H'):=by
  intro pins s σ H Q I h
  exact isTrue_plain (thn (ha pins s σ H _ I h) fun v s1 ⟨x,H1,I1,r1,q1⟩=>tru_ok pins s1 σ H1 x v Q I1 r1 q1) (he _)
theorem op_add_str:OpR X (binaryOp .Add) (fun x y H Q=>∃ i j,x=.str i∧y=.str j∧i.length+j.length≤sizeLine∧Q (.str (i++j)) H):=by
  intro pins s σ H x y v u Q I rx ry h
  obtain ⟨i,j,rfl,rfl,hz,q⟩:=h
  obtain ⟨t,rfl⟩:=rx
  obtain ⟨t',rfl⟩:=ry
  exact add_str (fun t' tk=>⟨.str (i++j),H,I.tok _,⟨_,rfl⟩,q⟩) hz
theorem vals1 {x:V} {us:List Value} (r:Vals [x] us):∃ u,us=[u]∧RelV x u:=by
  cases r with
  | cons r1 r2=>cases r2;exact ⟨_,rfl,r1⟩
theorem vals2 {x y:V} {us:List Value} (r:Vals [x,y] us):∃ u w',us=[u,w']∧RelV x u∧RelV y w':=by
  cases r with
  | cons r1 r2=>
    cases r2 with
    | cons r3 r4=>cases r4;exact ⟨_,_,rfl,r1,r3⟩
theorem call_max2 (hc:X.calm=true):CallR X (.builtin "max") (fun xs H Q=>∃ i j,xs=[.int i,.int j]∧Q (.int (if j > i then j else i)) H):=by
  intro pins s σ H xs us Q I r h
  obtain ⟨i,j,rfl,q⟩:=h
  obtain ⟨u,w',rfl,⟨t,rfl⟩,⟨t',rfl⟩⟩:=vals2 r
  refine max_two_ints (I.ok.hd hc) fun h' tk k=>⟨_,H,I.kept k,?_,q⟩
  by_cases hj:j > i
  · rw [if_pos hj,if_pos hj];exact ⟨_,rfl⟩
  · rw [if_neg hj,if_neg hj];exact ⟨_,rfl⟩
theorem call_min2 (hc:X.calm=true):CallR X (.builtin "min") (fun xs H Q=>∃ i j,xs=[.int i,.int j]∧Q (.int (if j < i then j else i)) H):=by
  intro pins s σ H xs us Q I r h
  obtain ⟨i,j,rfl,q⟩:=h
  obtain ⟨u,w',rfl,⟨t,rfl⟩,⟨t',rfl⟩⟩:=vals2 r
  refine min_two_ints (I.ok.hd hc) fun h' tk k=>⟨_,H,I.kept k,?_,q⟩
  by_cases hj:j < i
  · rw [if_pos hj,if_pos hj];exact ⟨_,rfl⟩
  · rw [if_neg hj,if_neg hj];exact ⟨_,rfl⟩
theorem call_int1:CallR X (.type "int") (fun xs H Q=>(∃ i,xs=[.int i]∧Q (.int i) H)∨∃ k,xs=[.bl k]∧Q (.int (if k then 1 else 0)) H):=by
  intro pins s σ H xs us Q I r h
  rcases h with ⟨i,rfl,q⟩ | ⟨k,rfl,q⟩
  · obtain ⟨u,rfl,t,rfl⟩:=vals1 r
    exact call_int_int ⟨.int i,H,I,⟨_,rfl⟩,q⟩
  · obtain ⟨u,rfl,r1⟩:=vals1 r
    cases r1
    exact call_int_bool ⟨.int (if k then 1 else 0),H,I.tok _,⟨_,rfl⟩,q⟩
end
end L2
namespace L2
open PySem PySem.Spec PyProof.Rows
structure ObjM (h:Heap) (x dx C:Addr) (mA:Str→Option Value):Prop where
  obj:h.get? x=some (PySem.W.instObj C dx)
  ns:h.Ns1 dx mA
  ne:dx≠x
theorem lookIn_ns {h:Heap} {dx:Addr} {mA:Str→Option Value} (n:h.Ns1 dx mA):∃ od,h.get? dx=some od∧∀ name,PySem.W.lookIn name od=some (mA name):=by
  obtain ⟨o,es,ep,ho,hd,hk,_,hm⟩:=n
  refine ⟨o,ho,fun name=>?_⟩
  have e:=hm name
  unfold nsFind findBy at e
  rw [← Array.find?_toList] at e
  unfold PySem.W.lookIn
  rw [hd]
  dsimp only
  split
  · rename_i y q
    rw [q] at e
    exact congrArg some e
  · rename_i q
    rw [q] at e
    have a:es.toList.any (·.refKey)=false:=by
      rw [List.any_eq_false]
      intro y hy
      obtain ⟨z,t,hkey⟩:=hk y (Array.mem_toList_iff.mp hy)
      simp [DictEntry.refKey,hkey]
    have a':¬ es.toList.any (·.refKey)=true:=by rw [a];exact Bool.false_ne_true
    rw [if_neg a']
    exact congrArg some e
theorem ObjM.look {h:Heap} {x dx C:Addr} {mA:Str→Option Value} (I:ObjM h x dx C mA):∃ od,PySem.W.InstAt h x (PySem.W.instObj C dx) C (some od)∧∀ name,PySem.W.lookIn name od=some (mA name):=
  let ⟨od,ho,hl⟩:=lookIn_ns I.ns
  ⟨od,⟨I.obj,rfl,rfl,ho⟩,hl⟩
section
variable {prog:Program} {w:World} {A:Around} {E:Value→Shared→Prop} {s:Shared} {K:PySem.W.Frag} {x dx C f:Addr} {mA:Str→Option Value} {name:Str} {v:Value}
theorem get_map {expr:Bool} {Q:Value→Shared→Prop} (X:K.In s.heap) (I:ObjM s.heap x dx C mA) (hg:PySem.W.plainGet K C name=true) (hh:PySem.W.hasDictIn K C=true)
    (ha:PySem.W.findIn K (.ref C) name=some none) (hv:mA name=some v) (hv':PySem.W.handedIn v=true) (h:Q v { s with toks:=s.toks+1 }) :
    wpAny (model prog w) A (getAttr (.ref x) name expr) Q E s:=by
  obtain ⟨od,J,hl⟩:=I.look
  exact PySem.W.get_value X J (PySem.W.plainGet_of hg).1 (PySem.W.findObj_own hh ha rfl (by rw [hl,hv])) hv' h
theorem get_meth {pl:Sem Bool} {Q:Value × List Value→Shared→Prop} (X:K.In s.heap) (I:ObjM s.heap x dx C mA) (hg:PySem.W.plainGet K C name=true)
    (hf:PySem.W.findIn K (.ref C) name=some (some (.ref f))) (ht:PySem.W.isFn K (.ref f)=true) (hv:mA name=none) (h:Q (.ref f,[.ref x]) s) :
    wpAny (model prog w) A (getMethod (.ref x) name pl) Q E s:=by
  obtain ⟨od,J,hl⟩:=I.look
  exact PySem.W.method_fn X J (PySem.W.plainGet_of hg).1 (PySem.W.plainGet_of hg).2 hf (beq_iff_eq.mp ht) (by show (PySem.W.lookIn name od).map (·.isSome)=some false;rw [hl,hv];rfl) h
theorem set_map {ns:List Str} {Q:Unit→Shared→Prop} (X:K.In s.heap) (I:ObjM s.heap x dx C mA)
    (hs:PySem.W.findIn K (.ref C) "__setattr__" = some (some (.builtin "object.__setattr__"))) (hp:PySem.W.plainOver K C=true) (ht:PySem.W.takerIn K C name=some none) (hh:PySem.W.hasDictIn K C=true)
    (hw:PySem.Within mA ns) (hsz:ns.length≤sizeLine)
    (h:∀ h',ObjM h' x dx C (fun y=>if y=name then some v else mA y)→Heap.SameBut dx s.heap h'→Q () { s with heap:=h',toks:=s.toks+2 }) :
    wpAny (model prog w) A (setAttr (.ref x) name v) Q E s:=by
  obtain ⟨od,J,hl⟩:=I.look
  refine PySem.W.set_plain X J hs (PySem.W.osa_open (s:={ s with toks:=s.toks+1 }) (r:=none) X J hp ht fun b=>?_)
  obtain ⟨cd,hc,hd'⟩:=PySem.W.any_some hh
  have hx:s.heap.get? x=some ⟨.ref C,some dx,.plain,#[]⟩:=I.obj
  refine wpAny_bind (wpAny_pure (wpAny_bind (wpAny_bind (wpAny_loadPart hx (wpAny_bind (PySem.W.Looks.here (s:={ s with toks:=s.toks+1 }) (PySem.W.looks_clsIn X hc) ?_))))))
  rw [hd']
  refine wpAny_pure (a:=some dx) (wpAny_bind (wpAny_pure (wpAny_bind ?_)))
  refine wpAny_nsSet1 (s:={ s with toks:=s.toks+1 }) I.ns fun h' hn2 hs2=>?_
  obtain ⟨oD,esD,epD,hoD,hdD,hcD⟩:=hn2.count (PySem.Within.cons name v hw)
  refine wpAny_bind (wpAny_lookBehind hoD (by rw [hdD];exact pastItsLine_dict (Nat.le_trans hcD (by rw [List.length_cons];omega))) ?_)
  exact wpAny_pure (h _ ⟨(hs2.2 _ (Ne.symm I.ne)).trans I.obj,hn2,I.ne⟩ hs2)
theorem make_map {R:Result→Shared→Prop} {vs:List Value} {kw:List (Str × Value)} (X:K.In s.heap) (hm:PySem.W.makesIn K C=true)
    (hi:PySem.W.findIn K (.ref C) "__init__" = some (some (.ref f))) (hf:PySem.W.typeIn K (.ref f)=some (.type "function"))
    (h:codeAny (model prog w) (A.under (.builtin "type.__call__" ⟨.ref C :: vs,kw⟩)) (.call (.ref f) ⟨.ref (s.heap.objs.size+1) :: vs,kw⟩) (PySem.W.InitBack (s.heap.objs.size+1) R)
      { s with heap:=(s.heap.push PySem.W.emptyDict).push (PySem.W.instObj C s.heap.objs.size) }) :
    codeAny (model prog w) A (.call (.ref C) ⟨vs,kw⟩) R s:=by
  obtain ⟨hh,g,d,t,os⟩:=s
  exact PySem.W.make_core (PySem.W.makes_of X hm) (PySem.W.looks_findIn X hi) (fun self=>PySem.W.bind_fn X self hf) (.inl rfl) h
end
def putF (f:Str) (v:V):List (Str × V)→List (Str × V)
  | []=>[(f,v)]
  | (g,x) :: r=>if g=f then (g,v) :: r else (g,x) :: putF f v r
theorem lookup_putF (f g:Str) (v:V):∀ fs:List (Str × V),(putF f v fs).lookup g=if g=f then some v else fs.lookup g
  | []=>by
    show List.lookup g [(f,v)]=_
    by_cases h:g=f
    · have hb:(g == f)=true:=beq_iff_eq.mpr h
      simp only [List.lookup,hb,if_pos h]
    · have hb:(g == f)=false:=beq_eq_false_iff_ne.mpr h
      simp only [List.lookup,hb,if_neg h]
  | (k,x) :: r=>by
    have ih:=lookup_putF f g v r
    rw [show putF f v ((k,x) :: r)=(if k=f then (k,v) :: r else (k,x) :: putF f v r) from rfl]
    by_cases hk:k=f
    · rw [if_pos hk]
      by_cases h:g=k
      · have hb:(g == k)=true:=beq_iff_eq.mpr h
        simp only [List.lookup,hb,if_pos (h.trans hk)]
      · have hb:(g == k)=false:=beq_eq_false_iff_ne.mpr h
        simp only [List.lookup,hb,if_neg (fun e:g=f=>h (e.trans hk.symm))]
    · rw [if_neg hk]
      by_cases h:g=k
      · have hb:(g == k)=true:=beq_iff_eq.mpr h
        simp only [List.lookup,hb,if_neg (fun e:g=f=>hk (h.symm.trans e))]
      · have hb:(g == k)=false:=beq_eq_false_iff_ne.mpr h
        simp only [List.lookup,hb]
        exact ih
theorem keys_putF (f:Str) (v:V):∀ fs:List (Str × V),f∈(putF f v fs).map (·.1)∧∀ g,g∈fs.map (·.1)→g∈(putF f v fs).map (·.1)
  | []=>⟨by simp [putF],fun g h=>by simp at h⟩
  | (k,x) :: r=>by
    obtain ⟨i1,i2⟩:=keys_putF f v r
    rw [show putF f v ((k,x) :: r)=(if k=f then (k,v) :: r else (k,x) :: putF f v r) from rfl]
    by_cases hk:k=f
    · rw [if_pos hk]
      subst hk
      exact ⟨by simp,fun g h=>by simpa using h⟩
    · rw [if_neg hk]
      refine ⟨?_,fun g h=>?_⟩
      · rw [List.map_cons]
        exact List.mem_cons_of_mem _ i1
      · rw [List.map_cons] at h ⊢
        rcases List.mem_cons.mp h with e | e
        · exact List.mem_cons.mpr (.inl e)
        · exact List.mem_cons_of_mem _ (i2 g e)
theorem length_putF (f:Str) (v:V):∀ fs:List (Str × V),(putF f v fs).length≤fs.length+1
  | []=>by simp [putF]
  | (k,x) :: r=>by
    have ih:=length_putF f v r
    rw [show putF f v ((k,x) :: r)=(if k=f then (k,v) :: r else (k,x) :: putF f v r) from rfl]
    by_cases hk:k=f
    · rw [if_pos hk,List.length_cons,List.length_cons];omega
    · rw [if_neg hk,List.length_cons,List.length_cons];omega
theorem RelO.some_of {v:V} {o:Option Value} (r:RelO (some v) o):∃ u,o=some u∧RelV v u:=by
  cases o with
  | none=>exact (show False from r).elim
  | some u=>exact ⟨u,rfl,r⟩
theorem RelO.none_of {o:Option Value} (r:RelO none o):o=none:=by
  cases o with
  | none=>rfl
  | some u=>exact (show False from r).elim
theorem handed_of {v:V} {u:Value} (r:RelV v u):PySem.W.handedIn u=true:=by
  cases v with
  | non=>cases (show u=Value.none from r);rfl
  | bl b=>cases (show u=Value.bool b from r);rfl
  | int i=>obtain ⟨t,e⟩:=(show ∃ t,u=Value.int i t from r);cases e;rfl
  | str x=>obtain ⟨t,e⟩:=(show ∃ t,u=Value.str x t from r);cases e;rfl
  | byt b=>obtain ⟨t,e⟩:=(show ∃ t,u=Value.bytes b t from r);cases e;rfl
  | flt b=>obtain ⟨t,e⟩:=(show ∃ t,u=Value.float b t from r);cases e;rfl
  | ref a=>cases (show u=Value.ref a from r);rfl
  | ty n=>cases (show u=Value.type n from r);rfl
section
variable {P:Program} {w:World} {H H':Hp} {h h':Heap} {a C dx:Addr} {fs fs':List (Str × V)}
theorem ins_get (hok:HOk P w H h) (e:H a=some (.ins C dx fs)):∃ mA,ObjM h a dx C mA∧(∀ f,RelO (fs.lookup f) (mA f))∧PySem.Within mA (fs.map (·.1))∧fs.length≤1000∧H dx=some (.own a):=by
  obtain ⟨d,z,ne,ob,mA,n,r,q⟩:=(show ObjOk P w H h a (.ins C dx fs) from hok a _ e)
  exact ⟨mA,⟨ob,n,ne⟩,r,q,z,d⟩
end
structure Cls (K:PySem.W.Frag) (C:Addr):Prop where
  pg:PySem.W.plainGet K C Str.empty=true
  hd:PySem.W.hasDictIn K C=true
  po:PySem.W.plainOver K C=true
  sa:PySem.W.findIn K (.ref C) "__setattr__" = some (some (.builtin "object.__setattr__"))
theorem Cls.get {K:PySem.W.Frag} {C:Addr} (c:Cls K C) (f:Str):PySem.W.plainGet K C f=true:=c.pg
def NoAttr (K:PySem.W.Frag) (C:Addr) (f:Str):Prop:=PySem.W.findIn K (.ref C) f=some none
theorem NoAttr.taker {K:PySem.W.Frag} {C:Addr} {f:Str} (n:NoAttr K C f):PySem.W.takerIn K C f=some none:=by
  unfold PySem.W.takerIn
  rw [show PySem.W.findIn K (.ref C) f=some none from n]
  rfl
structure Meth (K:PySem.W.Frag) (C:Addr) (m:Str) (f:Addr):Prop where
  at_:PySem.W.findIn K (.ref C) m=some (some (.ref f))
  fn:PySem.W.isFn K (.ref f)=true
  kp:PySem.W.keepIn K (.ref f)=true
section
variable {X:Cx} {pins:List (Addr × Obj)} {σ:St} {H:Hp} {s:Shared} {a C dx:Addr} {fs:List (Str × V)} {f:Str} {v:V} {A:Around} {E:Value→Shared→Prop}
theorem getattr_ok {b:Bool} {Q:Value→Shared→Prop} (I:Inv X pins σ H s) (e:H a=some (.ins C dx fs)) (c:Cls X.K C) (n:NoAttr X.K C f) (l:fs.lookup f=some v)
    (h:∀ u s',Inv X pins σ H s'→RelV v u→Q u s'):wpAny (model X.prog X.w) A (getAttr (.ref a) f b) Q E s:=by
  obtain ⟨mA,O,r,_,_,_⟩:=ins_get I.hok e
  obtain ⟨u,hu,ru⟩:=RelO.some_of (v:=v) (o:=mA f) (by rw [← l];exact r f)
  exact get_map I.kIn O (c.get f) c.hd n hu (handed_of ru) (h u _ (I.tok _) ru)
theorem getmeth_ok {m:Str} {g:Addr} {pl:Sem Bool} {Q:Value × List Value→Shared→Prop} (I:Inv X pins σ H s) (e:H a=some (.ins C dx fs)) (c:Cls X.K C) (k:Meth X.K C m g) (l:fs.lookup m=none)
    (h:Q (.ref g,[.ref a]) s):wpAny (model X.prog X.w) A (getMethod (.ref a) m pl) Q E s:=by
  obtain ⟨mA,O,r,_,_,_⟩:=ins_get I.hok e
  have hn:mA m=none:=RelO.none_of (by rw [← l];exact r m)
  exact get_meth I.kIn O (c.get m) k.at_ k.fn hn h
theorem setattr_ok {y:V} {u:Value} {Q:Unit→Shared→Prop} (I:Inv X pins σ H s) (e:H a=some (.ins C dx fs)) (c:Cls X.K C) (n:NoAttr X.K C f) (hl:fs.length < 1000) (ry:RelV y u)
    (h:∀ s',Inv X pins σ (upd H a (.ins C dx (putF f y fs))) s'→Q () s'):wpAny (model X.prog X.w) A (setAttr (.ref a) f u) Q E s:=by
  obtain ⟨mA,O,r,wi,_,ho⟩:=ins_get I.hok e
  have hz:(fs.map (·.1)).length≤sizeLine:=by rw [List.length_map,sizeLine_eq];omega
  refine set_map I.kIn O c.sa c.po n.taker c.hd wi hz fun h' O' sb=>h _ ?_
  have hd:∃ o,h'.get? dx=some o:=let ⟨o,_,_,e',_⟩:=O'.ns;⟨o,e'⟩
  refine I.write (x:=a) (e:=dx) (by rw [e];exact True.intro) (.inr ho) (fun b q hb z=>(sb.2 b hb).trans z) hd ?_
  refine ⟨by rw [upd_ne O.ne];exact ho,?_,O.ne,O'.obj,_,O'.ns,fun g=>?_,fun g hg=>?_⟩
  · have:=length_putF f y fs;omega
  · show RelO ((putF f y fs).lookup g) (if g=f then some u else mA g)
    rw [lookup_putF]
    by_cases q:g=f
    · rw [if_pos q,if_pos q];exact ry
    · rw [if_neg q,if_neg q];exact r g
  · by_cases q:g=f
    · rw [q];exact (keys_putF f y fs).1
    · refine (keys_putF f y fs).2 g (wi g fun z=>hg ?_)
      show (if g=f then some u else mA g)=none
      rw [if_neg q];exact z
theorem Inv.made (I:Inv X pins σ H s):Inv X pins σ (upd (upd H s.heap.objs.size (.own (s.heap.objs.size+1))) (s.heap.objs.size+1) (.ins C s.heap.objs.size []))
    { s with heap:=(s.heap.push PySem.W.emptyDict).push (PySem.W.instObj C s.heap.objs.size) }:=by
  have e1:(s.heap.push PySem.W.emptyDict).get? s.heap.objs.size=some PySem.W.emptyDict:=Heap.get?_push_size s.heap rfl
  have e2:((s.heap.push PySem.W.emptyDict).push (PySem.W.instObj C s.heap.objs.size)).get? (s.heap.objs.size+1)=some (PySem.W.instObj C s.heap.objs.size):=by
    have:=Heap.get?_push_size (s.heap.push PySem.W.emptyDict) (o:=PySem.W.instObj C s.heap.objs.size) rfl
    rwa [Heap.size_push] at this
  have e3:(s.heap.push PySem.W.emptyDict).Ns s.heap.objs.size (fun _=>none):=⟨PySem.W.emptyDict,#[],_,e1,rfl,(fun e he=>absurd he (by simp)),fun _=>rfl⟩
  have I1:=I.laid (a:=s.heap.objs.size) (o:=.own (s.heap.objs.size+1)) (h':=s.heap.push PySem.W.emptyDict) (t':=s.toks) (fun b u q=>Heap.get?_push_of_some _ q) (Nat.le_refl _) ⟨_,e1⟩
  refine I1.laid (a:=s.heap.objs.size+1) (o:=.ins C s.heap.objs.size []) (t':=s.toks) (fun b u q=>Heap.get?_push_of_some _ q) (Nat.le_of_eq (Heap.size_push _ _)) ?_
  have ne:s.heap.objs.size≠s.heap.objs.size+1:=Nat.ne_of_lt (Nat.lt_succ_self _)
  refine ⟨by rw [upd_ne ne,upd_same],Nat.zero_le _,ne,e2,fun _=>none,(Heap.Ns1.of_empty e3).at fun o q=>Heap.get?_push_of_some _ q,fun _=>True.intro,fun y hy=>absurd rfl hy⟩
theorem attr_of {prog:Program} {w:World} {env:Env} {e:Expr} {f:Str} {pos:Pos} {s:Shared} {Q:Value→Shared→Prop} (hb:attributeBase e f env (eval e env)=eval e env)
    (h:wpAny (model prog w) A (eval e env) (fun o s₁=>wpAny (model prog w) A (getAttr o f true) Q E s₁) E s):wpAny (model prog w) A (eval (.Attribute e f pos) env) Q E s:=
  Attribute_any_ h (by rw [arm_eval_Attribute,hb])
end
def tFld (K:PySem.W.Frag) (ta:TE) (f:Str):TE:=fun σ H Q=>ta σ H fun x H1=>∃ a C dx fs v,x=.ref a∧H1 a=some (.ins C dx fs)∧Cls K C∧NoAttr K C f∧fs.lookup f=some v∧Q v H1
def sFld (K:PySem.W.Frag) (ta tv:TE) (f:Str):TS:=fun D σ H=>tv σ H fun y H1=>ta σ H1 fun x H2=>∃ a C dx fs,x=.ref a∧H2 a=some (.ins C dx fs)∧Cls K C∧NoAttr K C f∧fs.length < 1000 ∧
  D.nx σ (upd H2 a (.ins C dx (putF f y fs)))
section
variable {X:Cx} {o e value:Expr} {f:Str} {pos pos' tpos:Pos} {ta tv:TE}
theorem pe_fld (he:PE X e ta) (hb:attributeBase e f X.env (eval e X.env)=eval e X.env):PE X (.Attribute e f pos) (tFld X.K ta f):=by
  intro pins s σ H Q I h
  refine attr_of hb (thn (he pins s σ H _ I h) fun u s1 ⟨x,H1,I1,rx,a,C,dx,fs,v,ex,ea,c,n,l,q⟩=>?_)
  subst ex
  obtain rfl:u=Value.ref a:=rx
  exact getattr_ok I1 ea c n l fun u' s2 I2 ru=>⟨v,H1,I2,ru,q⟩
theorem ps_fld (ha:PE X o ta) (hv:PE X value tv) (hs:swapsWith value (some (.Attribute o f pos')) pos.line X.env=pure false):PS X (.Assign [.Attribute o f pos'] value pos) (sFld X.K ta tv f):=by
  intro pins s σ H D I h
  refine plainObj_wpAny_Assign_Attribute (thn (hv pins s σ H _ I h) fun u s1 ⟨y,H1,I1,ry,q⟩=>thn (ha pins s1 σ H1 _ I1 q) fun ov s2 ⟨x,H2,I2,rx,a,C,dx,fs,ex,ea,c,n,l,q2⟩=>?_) hs
  subst ex
  obtain rfl:ov=Value.ref a:=rx
  exact setattr_ok I2 ea c n l ry fun s3 I3=>⟨σ,_,I3,q2⟩
end
section
variable {X:Cx} {pins:List (Addr × Obj)} {σ:St} {H:Hp} {s:Shared} {A:Around} {E:Value→Shared→Prop} {Q:Value→Shared→Prop} {c:Value} {b:Bool}
inductive TyOf (K:PySem.W.Frag) (H:Hp):V→Value→Prop where
  | non:TyOf K H .non (.type "NoneType")
  | bl (x:Bool):TyOf K H (.bl x) (.type "bool")
  | int (i:Int):TyOf K H (.int i) (.type "int")
  | str (x:Str):TyOf K H (.str x) (.type "str")
  | flt (x:UInt64):TyOf K H (.flt x) (.type "float")
  | lst {a:Addr} {xs:List V} (e:H a=some (.lst xs)):TyOf K H (.ref a) (.type "list")
  | frz {a:Addr} {o:Obj} {xs:List V} (e:H a=some (.frz o (.lst xs))):TyOf K H (.ref a) (.type "list")
  | tup {a:Addr} {xs:List V} (e:H a=some (.tup xs)):TyOf K H (.ref a) (.type "tuple")
  | dK {a:Addr} {kvs:List (Key × V)} (e:H a=some (.dK kvs)):TyOf K H (.ref a) (.type "dict")
  | dT {a:Addr} {kvs:List (List Key × V)} (e:H a=some (.dT kvs)):TyOf K H (.ref a) (.type "dict")
  | ins {a C dx:Addr} {fs:List (Str × V)} (e:H a=some (.ins C dx fs)) (cl:Cls K C) (ha:PySem.W.findIn K (.ref C) "__class__" = some (some (.builtin "object.__class__")))
      (hn:PySem.W.specialIn K (.builtin "object.__class__") "__get__" = some (some (.builtin "getset_descriptor.__get__"))) (htk:PySem.W.takesIn K (.builtin "object.__class__")=some true)
      (hm:PySem.W.mroIn K C (.type "object")=some true):TyOf K H (.ref a) (.ref C)
theorem isinst_ok {x:V} {u t:Value} (I:Inv X pins σ H s) (rx:RelV x u) (ty:TyOf X.K H x t) (e:PySem.W.kitOne X.K t c=some b) (h:∀ tk,Q (.bool b) { s with toks:=tk }) :
    wpAny (model X.prog X.w) A (call (.builtin "isinstance") [u,c]) Q E s:=by
  cases ty with
  | non=>cases (show u=Value.none from rx);exact PySem.W.kia_one PySem.W.kitx_none I.kIn True.intro e (fun z=>nomatch z) h
  | bl y=>cases (show u=Value.bool y from rx);exact PySem.W.kia_one PySem.W.kitx_bool I.kIn True.intro e (fun z=>nomatch z) h
  | int i=>obtain ⟨t,q⟩:=(show ∃ t,u=Value.int i t from rx);cases q;exact PySem.W.kia_one PySem.W.kitx_int I.kIn True.intro e (fun z=>nomatch z) h
  | str y=>obtain ⟨t,q⟩:=(show ∃ t,u=Value.str y t from rx);cases q;exact PySem.W.kia_one PySem.W.kitx_str I.kIn True.intro e (fun z=>nomatch z) h
  | flt y=>obtain ⟨t,q⟩:=(show ∃ t,u=Value.float y t from rx);cases q;exact PySem.W.kia_one PySem.W.kitx_float I.kIn True.intro e (fun z=>nomatch z) h
  | @lst a xs ea=>
    cases (show u=Value.ref a from rx)
    obtain ⟨_,_,n,_,h1⟩:=(show ObjOk X.prog X.w H s.heap a (.lst xs) from I.hok a _ ea)
    exact PySem.W.kia_one PySem.W.kitx_list I.kIn ⟨_,h1,rfl⟩ e (fun z=>nomatch z) h
  | @frz a ob xs ea=>
    cases (show u=Value.ref a from rx)
    obtain ⟨_,_,_,n,_,h1⟩:=(show ObjOk X.prog X.w H s.heap a (.frz ob (.lst xs)) from I.hok a _ ea)
    exact PySem.W.kia_one PySem.W.kitx_list I.kIn ⟨_,h1,rfl⟩ e (fun z=>nomatch z) h
  | @tup a xs ea=>
    cases (show u=Value.ref a from rx)
    obtain ⟨_,_,_,p⟩:=(show ObjOk X.prog X.w H s.heap a (.tup xs) from I.hok a _ ea)
    obtain ⟨o,h1,h2,_⟩:=p
    exact PySem.W.kia_one PySem.W.kitx_tuple I.kIn ⟨o,h1,h2⟩ e (fun z=>nomatch z) h
  | @dK a kvs ea=>
    cases (show u=Value.ref a from rx)
    obtain ⟨_,_,vs,_,p⟩:=(show ObjOk X.prog X.w H s.heap a (.dK kvs) from I.hok a _ ea)
    obtain ⟨o,es,ep,h1,h2,_⟩:=p
    exact PySem.W.kia_one PySem.W.kitx_dict I.kIn ⟨o,h1,h2.1⟩ e (fun z=>nomatch z) h
  | @dT a kvs ea=>
    cases (show u=Value.ref a from rx)
    obtain ⟨_,_,xs,_,o,es,ep,h1,h2,_⟩:=(show ObjOk X.prog X.w H s.heap a (.dT kvs) from I.hok a _ ea)
    exact PySem.W.kia_one PySem.W.kitx_dict I.kIn ⟨o,h1,h2.1⟩ e (fun z=>nomatch z) h
  | @ins a C dx fs ea cl ha hn htk hm=>
    cases (show u=Value.ref a from rx)
    obtain ⟨mA,O,_⟩:=ins_get I.hok ea
    obtain ⟨od,J,_⟩:=O.look
    exact PySem.W.kia_one (PySem.W.kitx_own (cl.get _) cl.hd ha hn htk hm) I.kIn J e (fun z=>nomatch z) h
end
end L2
namespace L2
open PySem PySem.Spec PyProof.Rows
structure Room (k:Nat) (A:Around):Prop where
  hd:A.handled=none
  dp:A.depth+3 * k+5 < recursionLimit
  un:A.units+16 * k+200 < cLine
  gd:A.guards=some []
theorem Room.mono {j k:Nat} {A:Around} (r:Room k A) (h:j≤k):Room j A:=⟨r.hd,by have:=r.dp;omega,by have:=r.un;omega,by first | exact r.gd | (simpa [Around.under,Code.isGuard,guardIds] using r.gd)⟩
theorem Room.deeper {k:Nat} {A:Around} (r:Room (k+1) A) (env:Env):Room k (A.deeper env):=
  ⟨r.hd,by have:=r.dp;show A.depth+1+3 * k+5 < _;omega,by have:=r.un;show A.units+3+16 * k+200 < _;omega,by first | exact r.gd | (simpa [Around.under,Code.isGuard,guardIds] using r.gd)⟩
theorem make_depth {A:Around} {C:Addr} {us:List Value} {kw:List (Str × Value)}:(A.under (.builtin "type.__call__" ⟨.ref C :: us,kw⟩)).depth=A.depth+1:=by
  first | rfl | simp [Around.under,Code.weight,Code.isCreation,Code.isGuard,Code.isCaller,Code.frames,Code.isFrame,guardIds]
theorem make_units {A:Around} {C:Addr} {us:List Value} {kw:List (Str × Value)}:(A.under (.builtin "type.__call__" ⟨.ref C :: us,kw⟩)).units=A.units+1:=by
  first | rfl | simp [Around.under,Code.cUnits,Code.frames,Code.isFrame]
theorem Room.make {k:Nat} {A:Around} (r:Room (k+1) A) (C:Addr) (us:List Value) (kw:List (Str × Value)):Room k (A.under (.builtin "type.__call__" ⟨.ref C :: us,kw⟩)):=
  ⟨r.hd,by have:=r.dp;rw [make_depth];omega,by have:=r.un;rw [make_units];omega,by first | exact r.gd | (simpa [Around.under,Code.isGuard,guardIds] using r.gd)⟩
theorem Room.depth {k:Nat} {A:Around} (r:Room k A):A.depth < recursionLimit:=by have:=r.dp;omega
theorem Room.units0 {k:Nat} {A:Around} (r:Room k A):A.units < cLine:=by have:=r.un;omega
def tNil:TA:=fun _ H Q=>Q [] H
def tCons (ta:TE) (tr:TA):TA:=fun σ H Q=>ta σ H fun x H1=>tr σ H1 fun xs H2=>Q (x :: xs) H2
section
variable {X:Cx} {e:Expr} {es:List Expr} {te:TE} {t:TA} {pos:Pos}
theorem pa_nil:PA X [] tNil:=fun _ _ _ _ H Q I h=>Calls.spliced_nil ⟨[],H,I,.nil,h⟩
theorem pa_cons (ha:PE X e te) (hr:PA X es t) (hs:starEach (e :: es) X.env=(false,eval e X.env) :: starEach es X.env:=by rfl):PA X (e :: es) (tCons te t):=by
  intro pos pins s σ H Q I h
  rw [hs]
  show wpAny _ _ (spliced ((false,eval e X.env) :: backTo pos (starEach es X.env))) _ _ s
  refine Calls.spliced_cons (thn (ha pins s σ H _ I h) fun u s1 ⟨x,H1,I1,r1,q1⟩=>?_)
  exact thn (hr pos pins s1 σ H1 _ I1 q1) fun us s2 ⟨xs,H2,I2,r2,q2⟩=>⟨x :: xs,H2,I2,.cons r1 r2,q2⟩
def tTup (t:TA):TE:=fun σ H Q=>t σ H fun xs H1=>xs.length≤sizeLine∧∀ p,H1 p=none→Q (.ref p) (upd H1 p (.tup xs))
def tLst (t:TA):TE:=fun σ H Q=>t σ H fun xs H1=>xs.length≤sizeLine∧∀ p,H1 p=none→Q (.ref p) (upd H1 p (.lst xs))
theorem pe_tup {x1} (h:PA X es t):PE X (.Tuple es x1 pos) (tTup t):=by
  intro pins s σ H Q I hq
  refine wpAny_Tuple_spliced (thn (h pos pins s σ H _ I hq) fun us s1 ⟨xs,H1,I1,r,z,q⟩=>⟨by rw [← r.length];exact z,?_⟩)
  have hf:H1 s1.heap.objs.size=none:=I1.hok.fresh (Nat.le_refl _)
  refine ⟨.ref s1.heap.objs.size,upd H1 s1.heap.objs.size (.tup xs),I1.laid (t':=s1.toks) (fun b u e=>Heap.get?_push_of_some _ e) (Nat.le_refl _) ?_,rfl,q _ hf⟩
  exact ⟨⟨z,_,Heap.get?_push_size _ rfl,rfl⟩,us,r,⟨_,Heap.get?_push_size _ rfl,rfl,_,rfl⟩⟩
theorem pe_lst (h:PA X es t):PE X (.List es pos) (tLst t):=by
  intro pins s σ H Q I hq
  refine wpAny_List_spliced (thn (h pos pins s σ H _ I hq) fun us s1 ⟨xs,H1,I1,r,z,q⟩=>⟨by rw [← r.length];exact z,?_⟩)
  have hf:H1 s1.heap.objs.size=none:=I1.hok.fresh (Nat.le_refl _)
  refine ⟨.ref s1.heap.objs.size,upd H1 s1.heap.objs.size (.lst xs),I1.laid (t':=s1.toks) (fun b u e=>Heap.get?_push_of_some _ e) (Nat.le_refl _) ?_,rfl,q _ hf⟩
  exact ⟨z,us,0,r,Heap.get?_push_size _ rfl⟩
end
abbrev Sp:=List V→Hp→VK→XK→Prop
abbrev CXT:=List Env→Hp→Shared→XK→Value→Shared→Prop
structure Env0 (P:Program) (w:World) (K:PySem.W.Frag) (mg:Str→Option Value) (base:Heap) (A:Around) (outer:List Env) (s:Shared) (H:Hp):Prop where
  frames:A.frames=some outer
  mod:Mod K mg base
  bs:∀ b o,base.get? b=some o→s.heap.get? b=some o∧H b=none
  bsz:base.objs.size≤s.heap.objs.size
  funs:s.heap.FunFrames base outer
  frf:∀ b∈frs outer,H b=none
  hok:HOk P w H s.heap
  bare:AllBare s.gens
def CE (outer:List Env) (P:Program) (w:World) (H:Hp) (s:Shared) (Q:VK) (u:Value) (s':Shared):Prop:=
  ∃ v H',s'.os=s.os∧AllBare s'.gens∧Un (frs outer) [] H H' s.heap s'.heap∧HOk P w H' s'.heap∧RelV v u∧Q v H'
def CR (CX:CXT) (outer:List Env) (P:Program) (w:World) (H:Hp) (s:Shared) (Q:VK) (E:XK) (r:Result) (s':Shared):Prop:=
  match r with
  | .ok (.ret u)=>CE outer P w H s Q u s'
  | .ok _=>False
  | .error e=>CX outer H s E e s'
structure FnOk (P:Program) (w:World) (K:PySem.W.Frag) (mg:Str→Option Value) (base:Heap) (CX:CXT) (k:Nat) (f:Addr) (fd:FuncData) (ps:List Str) (sp:Sp):Prop where
  len:∀ vs H Q E,sp vs H Q E→vs.length=ps.length
  run:∀ (A:Around) (outer:List Env) (s:Shared) (H:Hp) (args:Args) (us:List Value) (vs:List V) (Q:VK) (E:XK),Room k A→Env0 P w K mg base A outer s H→BindsTo s fd args (ps.zip us)→Vals vs us→sp vs H Q E →
    codeAny (model P w) A (.call (.ref f) args) (CR CX outer P w H s Q E) s
theorem FnOk.mono {P:Program} {w:World} {K:PySem.W.Frag} {mg:Str→Option Value} {base:Heap} {CX:CXT} {j k:Nat} {f:Addr} {fd:FuncData} {ps:List Str} {sp:Sp} (F:FnOk P w K mg base CX j f fd ps sp) (h:j≤k) :
    FnOk P w K mg base CX k f fd ps sp:=⟨F.len,fun A outer s H args us vs Q E hr=>F.run A outer s H args us vs Q E (hr.mono h)⟩
theorem Env0.make {P:Program} {w:World} {K:PySem.W.Frag} {mg:Str→Option Value} {base:Heap} {A:Around} {outer:List Env} {s:Shared} {H:Hp} (e:Env0 P w K mg base A outer s H) (C:Addr) (us:List Value) (kw:List (Str × Value)) :
    Env0 P w K mg base (A.under (.builtin "type.__call__" ⟨.ref C :: us,kw⟩)) outer s H:=⟨by first | exact e.frames | (simpa [Around.under,Code.envs,Code.isFrame,pushEnvs] using e.frames),e.mod,e.bs,e.bsz,e.funs,e.frf,e.hok,e.bare⟩
section
variable {X:Cx} {pins:List (Addr × Obj)} {σ:St} {H:Hp} {s s':Shared}
theorem Inv.env0 (I:Inv X pins σ H s):Env0 X.prog X.w X.K X.mg X.base X.A X.stack s H:=
  ⟨I.ok.frames,I.ok.mod,I.bs,Nat.le_trans I.ok.bsz I.sz,I.stack,I.stkFree,I.hok,I.bare⟩
theorem Inv.after {Q:VK} {u:Value} (I:Inv X pins σ H s) (h:CE X.stack X.prog X.w H s Q u s'):EP X pins σ Q u s':=by
  obtain ⟨v,H',os,bare,un,hok,r,q⟩:=h
  obtain ⟨hh,g,d,t,os'⟩:=s'
  obtain rfl:os'=s.os:=os
  exact ⟨v,H',I.call (h':=hh) (g':=g) (d':=d) (t':=t) (ch:=[]) un hok bare (fun b z=>absurd z (by simp)),r,q⟩
end
def tCall (sp:Sp) (dvs:List V) (E:XK) (t:TA):TE:=fun σ H Q=>t σ H fun vs H1=>sp (vs++dvs) H1 Q E
def tMeth (C:Addr) (m:Str) (sp:Sp) (dvs:List V) (E:XK) (ta:TE) (t:TA):TE:=fun σ H Q=>ta σ H fun x H1=>∃ a dx fs,x=.ref a∧H1 a=some (.ins C dx fs)∧fs.lookup m=none ∧
  t σ H1 fun vs H2=>sp (x :: (vs++dvs)) H2 Q E
def tMake (C:Addr) (sp:Sp) (dvs:List V) (E:XK) (t:TA):TE:=fun σ H Q=>t σ H fun vs H1=>∀ x dx,H1 x=none→H1 dx=none→dx≠x →
  sp (.ref x :: (vs++dvs)) (upd (upd H1 dx (.own x)) x (.ins C dx [])) (fun v H2=>v=.non∧Q (.ref x) H2) E
def Binds (K:PySem.W.Frag) (fd:FuncData) (ps:List Str) (ds:List Value):Prop:=
  ∀ (s:Shared) (us:List Value),K.In s.heap→(us++ds).length=ps.length→BindsTo s fd ⟨us,[]⟩ (ps.zip (us++ds))
theorem Binds.all {K:PySem.W.Frag} {fd:FuncData} {ps:List Str} (h:∀ us:List Value,us.length=ps.length→bindArgs fd ⟨us,[]⟩=pure (ps.zip us)):Binds K fd ps []:=fun s us _ hl=>by
  rw [List.append_nil] at hl ⊢
  exact .of_eq (h us hl)
def Passes (CX:CXT) (X:Cx) (E:XK):Prop:=∀ (pins:List (Addr × Obj)) (σ:St) (H:Hp) (s:Shared) (e:Value) (s':Shared),Inv X pins σ H s→CX X.stack H s E e s'→X.xe e s'
section
variable {X:Cx} {CX:CXT} {k:Nat} {f C:Addr} {fd:FuncData} {ps:List Str} {sp:Sp} {dvs:List V} {ds:List Value} {E:XK} {x m:Str} {p pos apos:Pos} {e o:Expr} {es:List Expr} {ta:TE} {t:TA}
theorem run_fn {pins:List (Addr × Obj)} {σ:St} {H:Hp} {s:Shared} {Q:VK} {us:List Value} {vs:List V} (F:FnOk X.prog X.w X.K X.mg X.base CX k f fd ps sp) (hr:Room k X.A) (hb:Binds X.K fd ps ds) (hd:Vals dvs ds) (hx:Passes CX X E)
    (I:Inv X pins σ H s) (r:Vals vs us) (h:sp (vs++dvs) H Q E):wpAny (model X.prog X.w) X.A (call (.ref f) us) (EP X pins σ Q) X.xe s:=by
  have r2:Vals (vs++dvs) (us++ds):=r.append hd
  have hl:(us++ds).length=ps.length:=by rw [← r2.length];exact F.len _ _ _ _ h
  refine wpAny_call (codeAny_mono (F.run X.A X.stack s H ⟨us,[]⟩ (us++ds) (vs++dvs) Q E hr I.env0 (hb s us I.kIn hl) r2 h) fun r s' hq=>?_)
  cases r with
  | error e=>exact hx pins σ H s e s' I hq
  | ok fl=>
    cases fl with
    | ret u=>exact I.after hq
    | next=>exact False.elim hq
    | brk=>exact False.elim hq
    | cont=>exact False.elim hq
theorem pe_call (F:FnOk X.prog X.w X.K X.mg X.base CX k f fd ps sp) (hr:Room k X.A) (hg:Gl X x) (hm:X.mg x=some (.ref f)) (hk:PySem.W.keepIn X.K (.ref f)=true) (hb:Binds X.K fd ps ds) (hd:Vals dvs ds) (hx:Passes CX X E)
    (ha:PA X (e :: es) t) (hdb:(x == ("__debug__" : Str))=false:=by decide) (he:starEach (e :: es) X.env=(false,eval e X.env) :: starEach es X.env:=by rfl) (hpl:(backTo pos (starEach es X.env)).any (·.1)=false:=by rfl) :
    PE X (.Call (.Name x p) (e :: es) [] pos) (tCall sp dvs E t):=by
  intro pins s σ H Q I h
  refine wpAny_Call_Name_kw (ld_glob I hg hm ?_ hdb)
  refine PySem.W.callWith_K (h₀:=X.base) I.ok.mod.kin hk (thn (ha pos pins s σ H _ I h) fun us s1 ⟨vs,H1,I1,r,q⟩=>⟨I1.kIn,?_⟩) he hpl
  exact run_fn F hr hb hd hx I1 r q
theorem pe_meth {pl:Sem Bool} (he:PE X o ta) (c:Cls X.K C) (hm:Meth X.K C m f) (F:FnOk X.prog X.w X.K X.mg X.base CX k f fd ps sp) (hr:Room k X.A) (hb:Binds X.K fd ps ds) (hd:Vals dvs ds) (hx:Passes CX X E) (ha:PA X (e :: es) t)
    (hst:starEach (e :: es) X.env=(false,eval e X.env) :: starEach es X.env:=by rfl) (hpl:(backTo pos (starEach es X.env)).any (·.1)=false:=by rfl)
    (ht:eval (.Call (.Attribute o m apos) (e :: es) [] pos) X.env=(do
      let ov ← eval o X.env
      standAt apos.atName
      let (f,first) ← holding [ov] (getMethod ov m pl)
      callWith pos f first (backTo pos (starEach (e :: es) X.env)) (backToKw pos (keywordEach [] X.env))):=by rfl) :
    PE X (.Call (.Attribute o m apos) (e :: es) [] pos) (tMeth C m sp dvs E ta t):=by
  intro pins s σ H Q I h
  refine PySem.W.methodCall_KW (pl:=pl) (thn (he pins s σ H _ I h) fun u s1 ⟨x,H1,I1,rx,a,dx,fs,ex,ea,l,q⟩=>?_) ht
  subst ex
  obtain rfl:u=Value.ref a:=rx
  refine getmeth_ok I1 ea c hm l ?_
  refine PySem.W.callWith_K (first:=[.ref a]) (h₀:=X.base) I.ok.mod.kin hm.kp (thn (ha pos pins s1 σ H1 _ I1 q) fun us s2 ⟨vs,H2,I2,r,q2⟩=>⟨I2.kIn,?_⟩) hst hpl
  exact run_fn (us:=.ref a :: us) (vs:=.ref a :: vs) F hr hb hd hx I2 (.cons rfl r) q2
theorem pe_meth0 {pl:Sem Bool} (he:PE X o ta) (c:Cls X.K C) (hm:Meth X.K C m f) (F:FnOk X.prog X.w X.K X.mg X.base CX k f fd ps sp) (hr:Room k X.A) (hb:Binds X.K fd ps ds) (hd:Vals dvs ds) (hx:Passes CX X E)
    (ht:eval (.Call (.Attribute o m apos) [] [] pos) X.env=(do
      let ov ← eval o X.env
      standAt apos.atName
      let (f,first) ← holding [ov] (getMethod ov m pl)
      callWith pos f first (backTo pos (starEach [] X.env)) (backToKw pos (keywordEach [] X.env))):=by rfl) :
    PE X (.Call (.Attribute o m apos) [] [] pos) (tMeth C m sp dvs E ta tNil):=by
  intro pins s σ H Q I h
  refine PySem.W.methodCall_KW (pl:=pl) (thn (he pins s σ H _ I h) fun u s1 ⟨x,H1,I1,rx,a,dx,fs,ex,ea,l,q⟩=>?_) ht
  subst ex
  obtain rfl:u=Value.ref a:=rx
  refine getmeth_ok I1 ea c hm l ?_
  exact PySem.W.callWith_K0 (first:=[.ref a]) I1.kIn hm.kp (run_fn (us:=[.ref a]) (vs:=[.ref a]) F hr hb hd hx I1 (.cons rfl .nil) q)
structure Mk (K:PySem.W.Frag) (C f:Addr):Prop where
  makes:PySem.W.makesIn K C=true
  init:PySem.W.findIn K (.ref C) "__init__" = some (some (.ref f))
  fn:PySem.W.isFn K (.ref f)=true
  kp:PySem.W.keepIn K (.ref C)=true
theorem run_make {pins:List (Addr × Obj)} {σ:St} {H:Hp} {s:Shared} {Q:VK} {us:List Value} {vs:List V} (M:Mk X.K C f) (F:FnOk X.prog X.w X.K X.mg X.base CX k f fd ps sp) (hr:Room (k+1) X.A) (hb:Binds X.K fd ps ds) (hd:Vals dvs ds)
    (hx:Passes CX X E) (I:Inv X pins σ H s) (r:Vals vs us)
    (h:∀ x dx,H x=none→H dx=none→dx≠x→sp (.ref x :: (vs++dvs)) (upd (upd H dx (.own x)) x (.ins C dx [])) (fun v H2=>v=.non∧Q (.ref x) H2) E) :
    wpAny (model X.prog X.w) X.A (call (.ref C) us) (EP X pins σ Q) X.xe s:=by
  have hq:=h (s.heap.objs.size+1) s.heap.objs.size (I.hok.fresh (Nat.le_succ _)) (I.hok.fresh (Nat.le_refl _)) (Nat.ne_of_lt (Nat.lt_succ_self _))
  have I2:=Inv.made (C:=C) I
  have r2:Vals (V.ref (s.heap.objs.size+1) :: (vs++dvs)) (Value.ref (s.heap.objs.size+1) :: (us++ds)):=.cons rfl (r.append hd)
  have hl:(Value.ref (s.heap.objs.size+1) :: us++ds).length=ps.length:=by
    have e:=r2.length
    rw [F.len _ _ _ _ hq] at e
    exact e.symm
  refine wpAny_call (make_map (f:=f) I.kIn M.makes M.init (beq_iff_eq.mp M.fn) (codeAny_mono (F.run _ X.stack _ _ ⟨Value.ref (s.heap.objs.size+1) :: us,[]⟩ (Value.ref (s.heap.objs.size+1) :: (us++ds)) _ _ E (hr.make C us [])
    (I2.env0.make C us []) (hb _ (Value.ref (s.heap.objs.size+1) :: us) I2.kIn hl) r2 hq) fun r s' hq'=>?_))
  cases r with
  | error e=>exact hx pins σ _ _ e s' I2 hq'
  | ok fl=>
    cases fl with
    | ret u=>
      obtain ⟨v,H',I3,rv,ev,q3⟩:=I2.after hq'
      subst ev
      exact ⟨rv,⟨V.ref (s.heap.objs.size+1),H',I3,rfl,q3⟩⟩
    | next=>exact False.elim hq'
    | brk=>exact False.elim hq'
    | cont=>exact False.elim hq'
theorem pe_make0 (M:Mk X.K C f) (F:FnOk X.prog X.w X.K X.mg X.base CX k f fd ps sp) (hr:Room (k+1) X.A) (hg:Gl X x) (hm:X.mg x=some (.ref C)) (hb:Binds X.K fd ps ds) (hd:Vals dvs ds) (hx:Passes CX X E)
    (hdb:(x == ("__debug__" : Str))=false:=by decide):PE X (.Call (.Name x p) [] [] pos) (tMake C sp dvs E tNil):=by
  intro pins s σ H Q I h
  refine wpAny_Call_Name_kw (ld_glob I hg hm ?_ hdb)
  exact PySem.W.callWith_K0 I.kIn M.kp (run_make (us:=[]) M F hr hb hd hx I .nil h)
end
section
variable {X:Cx} {CX:CXT} {k:Nat} {f C:Addr} {fd:FuncData} {ps ks:List Str} {sp:Sp} {E:XK} {x m:Str} {p pos apos kpos:Pos} {e o:Expr} {es:List Expr} {kws:List Keyword} {te ta:TE} {t tk:TA} {nm:Option Str}
variable {g:List Value→List Value→List Value} {gV:List V→List V→List V}
end
structure FnScope (N P:List Str) (sc:Scope):Prop where
  kind:sc.kind=.function
  co:sc.isCoroutine=false
  gen:sc.isGenerator=false
  nd:N.Nodup
  pre:N.take P.length=P
  par:∀ x∈P,sc.names.lookup x=some .local∨sc.names.lookup x=some .cell
  nofree:∀ y∈sc.names,y.2≠.free
theorem bindL_out {kindOf:Str→Option NameKind} {x:Str}:∀ {binds:List (Str × Value)} {m:Str→Option Value},(∀ v,(x,v) ∉ binds)→bindL kindOf binds m x=m x
  | [],_,_=>rfl
  | (n,v) :: r,m,h=>by
    unfold bindL
    rw [bindL_out fun w hw=>h w (List.mem_cons_of_mem _ hw)]
    split
    · have:x≠n:=by rintro rfl;exact h v List.mem_cons_self
      simp [this]
    · rfl
theorem bindC_out {kindOf:Str→Option NameKind} {x:Str}:∀ {binds:List (Str × Value)} {m:Str→Option Value},(∀ v,(x,v) ∉ binds)→bindC kindOf binds m x=m x
  | [],_,_=>rfl
  | (n,v) :: r,m,h=>by
    unfold bindC
    rw [bindC_out fun w hw=>h w (List.mem_cons_of_mem _ hw)]
    split
    · rfl
    · have:x≠n:=by rintro rfl;exact h v List.mem_cons_self
      simp [this]
theorem bindL_get {kindOf:Str→Option NameKind} {x:Str} {v:Value}:∀ {P:List Str} {vs:List Value} {i:Nat} {m:Str→Option Value},P.Nodup→P[i]?=some x→vs[i]?=some v→kindOf x=some .local →
    bindL kindOf (P.zip vs) m x=some v
  | [],_,_,_,_,h,_,_=>by simp at h
  | _ :: _,[],_,_,_,_,h,_=>by simp at h
  | p :: P,w :: vs,0,m,nd,h1,h2,hk=>by
    simp at h1 h2;subst h1;subst h2
    show bindL kindOf ((p,w) :: P.zip vs) m p=_
    unfold bindL
    rw [bindL_out fun v hv=>(List.nodup_cons.mp nd).1 (List.of_mem_zip hv).1,if_pos hk]
    simp
  | p :: P,w :: vs,i+1,m,nd,h1,h2,hk=>by
    show bindL kindOf ((p,w) :: P.zip vs) m x=_
    unfold bindL
    exact bindL_get (i:=i) (List.nodup_cons.mp nd).2 (by simpa using h1) (by simpa using h2) hk
theorem bindC_get {kindOf:Str→Option NameKind} {x:Str} {v:Value}:∀ {P:List Str} {vs:List Value} {i:Nat} {m:Str→Option Value},P.Nodup→P[i]?=some x→vs[i]?=some v→kindOf x≠some .local →
    bindC kindOf (P.zip vs) m x=some v
  | [],_,_,_,_,h,_,_=>by simp at h
  | _ :: _,[],_,_,_,_,h,_=>by simp at h
  | p :: P,w :: vs,0,m,nd,h1,h2,hk=>by
    simp at h1 h2;subst h1;subst h2
    show bindC kindOf ((p,w) :: P.zip vs) m p=_
    unfold bindC
    rw [bindC_out fun v hv=>(List.nodup_cons.mp nd).1 (List.of_mem_zip hv).1,if_neg hk]
    simp
  | p :: P,w :: vs,i+1,m,nd,h1,h2,hk=>by
    show bindC kindOf ((p,w) :: P.zip vs) m x=_
    unfold bindC
    exact bindC_get (i:=i) (List.nodup_cons.mp nd).2 (by simpa using h1) (by simpa using h2) hk
def start (N:List Str) (vs:List V):St:=vs.map some++List.replicate (N.length - vs.length) none
def cxOf (CX:CXT) (P:Program) (w:World) (K:PySem.W.Frag) (mg:Str→Option Value) (base:Heap) (N:List Str) (qual:Str) (scope:Scope) (f:Addr) (cd:Value) (A:Around) (outer:List Env) (s:Shared) (H:Hp) (E:XK):Cx where
  prog:=P
  w:=w
  K:=K
  mg:=mg
  base:=base
  A:=A.deeper (envOfC qual scope s.heap.objs.size f cd)
  N:=N
  s₀:=s
  H₀:=H
  env:=envOfC qual scope s.heap.objs.size f cd
  outer:=outer
  stack:=envOfC qual scope s.heap.objs.size f cd :: outer
  ex:=[]
  calm:=true
  fn:=fun _=>true
  pn:=[]
  xe:=fun e s'=>wpAny (model P w) (A.deeper (envOfC qual scope s.heap.objs.size f cd)) (leaving (envOfC qual scope s.heap.objs.size f cd) e) (fun _ s''=>CX outer H s E e s'') (fun e' s''=>CX outer H s E e' s'') s'
theorem cell_has {sc:Scope} {n:Nat} {x:Str} (h:sc.names.lookup x=some .cell):∃ c,(cellsFrom n sc.names []).lookup x=some c:=by
  have q:=PySem.W.cellsFrom_some sc.names n [] (.inl h)
  exact Option.isSome_iff_exists.mp q
theorem inv_start {CX:CXT} {P:Program} {w:World} {K:PySem.W.Frag} {mg:Str→Option Value} {base:Heap} {N ps:List Str} {qual:Str} {scope:Scope} {f:Addr} {cd:Value} {A:Around} {outer:List Env} {s s1:Shared} {H:Hp} {E:XK} {us:List Value} {vs:List V}
    (S:FnScope N ps scope) (hd:A.handled=none) (e0:Env0 P w K mg base A outer s H) (hl:vs.length=ps.length) (r:Vals vs us)
    (x:InCallC s s.heap.objs.size (bindL (envOfC qual scope s.heap.objs.size f cd).kindOf (ps.zip us) fun _=>none) (cellsFrom (s.heap.objs.size+1) scope.names []) (bindC (envOfC qual scope s.heap.objs.size f cd).kindOf (ps.zip us) fun _=>none) s1) :
    Inv (cxOf CX P w K mg base N qual scope f cd A outer s H E) [] (start N vs) H s1:=by
  have hpl:ps.length≤N.length:=by have:=congrArg List.length S.pre;rw [List.length_take] at this;omega
  obtain ⟨h1,tk,rfl,hk⟩:=x.done
  have noA:∀ b:Addr,b ∉ (cxOf CX P w K mg base N qual scope f cd A outer s H E).ex:=fun b z=>absurd (show b∈([]:List Addr) from z) (by simp)
  refine ⟨⟨e0.mod,S.kind,rfl,rfl,Nat.le_refl _,fun y z c h1 h2=>?_,fun y hy=>?_,fun y c _ h=>?_,fun _=>hd,Around.frames_deeper e0.frames,.inr ⟨rfl,rfl⟩,fun b z=>absurd z (noA b),e0.bs,e0.bsz,fun b _ _=>noA b,fun b z=>absurd z (noA b),e0.funs,e0.frf⟩,
    rfl,e0.bare,Un.kept hk,⟨_,x.toInCall.ns,fun i y v h1 h2 h3=>?_⟩,fun y c h=>⟨_,x.cell y c h⟩,e0.hok.fresh (Nat.le_refl _),fun y c h=>?_,fun p hp=>absurd (show p∈([]:List (Addr × Obj)) from hp) (by simp),e0.hok.kept hk,?_⟩
  · exact name_of_addr x.apart (PySem.mem_of_lookup h1) (PySem.mem_of_lookup h2)
  · have hy:scope.names.lookup y=some .cell∨scope.names.lookup y=some .free:=hy
    rcases hy with hy | hy
    · exact cell_has hy
    · exact absurd rfl (S.nofree _ (PySem.mem_of_lookup hy))
  · exact Nat.le_of_lt (x.above y c (PySem.mem_of_lookup h))
  · have hi:i < vs.length:=by
      unfold start at h2
      by_cases hi:i < vs.length
      · exact hi
      · rw [List.getElem?_append_right (by simpa using hi)] at h2
        rw [List.getElem?_replicate] at h2
        split at h2 <;> cases h2
    have ha:vs[i]?=some v:=by
      unfold start at h2
      rw [List.getElem?_append_left (by simpa using hi),List.getElem?_map] at h2
      cases e:vs[i]? with
      | none=>rw [e] at h2;cases h2
      | some a=>rw [e] at h2;cases h2;rfl
    obtain ⟨u,hu,rv⟩:=r.get ha
    have hp:ps[i]?=some y:=by
      rw [← S.pre,List.getElem?_take_of_lt (by omega)];exact h1
    have ndP:ps.Nodup:=by rw [← S.pre];exact S.nd.sublist (List.take_sublist _ _)
    refine ⟨u,rv,?_⟩
    rcases S.par y (List.mem_of_getElem? hp) with k | k
    · exact .inl ⟨k,bindL_get ndP hp hu k⟩
    · obtain ⟨c,e⟩:=cell_has (n:=s.heap.objs.size+1) k
      refine .inr ⟨.inl k,c,e,?_⟩
      have q:=x.cell y c e
      rw [bindC_get ndP hp hu (by show scope.names.lookup y≠_;rw [k];decide)] at q
      exact q
  · exact e0.hok.fresh (Nat.le_of_lt (x.above y c (PySem.mem_of_lookup h)))
  · unfold start
    show _=N.length
    rw [List.length_append,List.length_map,List.length_replicate]
    omega
theorem fn_of {CX:CXT} {P:Program} {w:World} {K:PySem.W.Frag} {mg:Str→Option Value} {base:Heap} {k:Nat} {f:Addr} {name qual:Str} {params:Arguments} {body:List Stmt} {scope:Scope} {dV kV doc pm cdv ct oc:Value} {an od:Option Addr}
    {osl:Array (Option Value)} {N ps:List Str} {sp:Sp} (lk:K.lookup f=some ⟨oc,od,.func (PySem.W.fnOf name qual params body scope dV kV doc pm an cdv ct),osl⟩) (hcd:PySem.W.codeIn K cdv qual=true) (S:FnScope N ps scope)
    (len:∀ vs H Q E,sp vs H Q E→vs.length=ps.length)
    (hbody:∀ (A:Around) (outer:List Env) (s:Shared) (H:Hp) (vs:List V) (Q:VK) (E:XK),Room k (A.deeper (envOfC qual scope s.heap.objs.size f cdv))→sp vs H Q E →
      ∃ t,PSs (cxOf CX P w K mg base N qual scope f cdv A outer s H E) body t∧t { nx:=fun _ H'=>Q .non H',rt:=Q } (start N vs) H) :
    FnOk P w K mg base CX (k+1) f (PySem.W.fnOf name qual params body scope dV kV doc pm an cdv ct) ps sp:=by
  refine ⟨len,fun A outer s H args us vs Q E hr e0 hb r hsp=>?_⟩
  have hl:=len _ _ _ _ hsp
  have KX:K.In s.heap:=e0.mod.kin.keeps fun b o e=>(e0.bs b o e).1
  have lim:s.heap.NoLimit:=e0.mod.nolimit.keeps fun b o e=>(e0.bs b o e).1
  have hkind:∀ y∈ps.zip us,scope.names.lookup y.1=some .local∨(scope.names.lookup y.1=some .cell∧((cellsFrom (s.heap.objs.size+1) scope.names []).lookup y.1).isSome=true):=fun ⟨n,v⟩ hy=>by
    rcases S.par n (List.of_mem_zip hy).1 with q | q
    · exact .inl q
    · exact .inr ⟨q,PySem.W.cellsFrom_some _ _ _ (.inl q)⟩
  refine codeAny_call_function hr.depth (KX _ _ lk) rfl S.co S.gen rfl (PySem.W.codeRec_of KX hcd) (hb _ _ _ _ ?_)
  refine wpAny_newFunctionEnv_cells S.kind hkind fun env he s1 x=>?_
  subst he
  refine ⟨lim.keeps x.toInCall.keep,codeAny_func ?_⟩
  obtain ⟨t,ht,hq⟩:=hbody A outer s H vs Q E (hr.deeper _) hsp
  have I:Inv (cxOf CX P w K mg base N qual scope f cdv A outer s H E) [] (start N vs) H s1:=inv_start S hr.hd e0 hl r x
  refine wpAny_mono (ht [] s1 (start N vs) H _ I hq) (fun fl s' hs=>?_) fun e s' hs=>hs
  have fin:∀ {σ':St} {H':Hp} {v:V} {u:Value},Inv (cxOf CX P w K mg base N qual scope f cdv A outer s H E) [] σ' H' s'→RelV v u→Q v H'→CE outer P w H s Q u s':=
    fun {σ' H' v u} J rv q=>⟨v,H',J.os,J.bare,J.base,J.hok,rv,q⟩
  cases fl with
  | ret u=>
    obtain ⟨v,σ',H',J,rv,q⟩:=hs
    exact fin J rv q
  | next=>
    obtain ⟨σ',H',J,q⟩:=hs
    exact fin (v:=V.non) (u:=Value.none) J rfl q
  | brk=>
    obtain ⟨_,_,_,q⟩:=hs
    exact False.elim q
  | cont=>
    obtain ⟨_,_,_,q⟩:=hs
    exact False.elim q
end L2
namespace L2
open PySem PySem.Spec PyProof.Rows
section
variable {X:Cx} {x:Str} {p pos:Pos} {e:Expr} {es:List Expr} {t:TA} {id T:String} {r:List V→Hp→VK→Prop}
def tCB (r:List V→Hp→VK→Prop) (t:TA):TE:=fun σ H Q=>t σ H fun vs H1=>r vs H1 Q
theorem pe_callB (hc:CallR X (.builtin id) r) (hg:Gl X x) (hm:X.mg x=none) (hv:bootBuiltins x=some (.builtin id)) (ha:PA X (e :: es) t) (hn:x ≠ "__name__" := by decide) (hdb:(x == ("__debug__" : Str))=false:=by decide)
    (he:starEach (e :: es) X.env=(false,eval e X.env) :: starEach es X.env:=by rfl) (hpl:(backTo pos (starEach es X.env)).any (·.1)=false:=by rfl):PE X (.Call (.Name x p) (e :: es) [] pos) (tCB r t):=by
  intro pins s σ H Q I h
  refine wpAny_Call_Name_kw (ld_blt I hg hm hv ?_ hn hdb)
  exact PyProof.Rows.callWith_builtin1 (thn (ha pos pins s σ H _ I h) fun us s1 ⟨vs,H1,I1,r1,q1⟩=>hc pins s1 σ H1 vs us Q I1 r1 q1) he hpl
theorem pe_callTy (hc:CallR X (.type T) r) (hg:Gl X x) (hm:X.mg x=none) (hv:bootBuiltins x=some (.type T)) (ha:PA X (e :: es) t) (hn:x ≠ "__name__" := by decide) (hdb:(x == ("__debug__" : Str))=false:=by decide)
    (he:starEach (e :: es) X.env=(false,eval e X.env) :: starEach es X.env:=by rfl) (hpl:(backTo pos (starEach es X.env)).any (·.1)=false:=by rfl):PE X (.Call (.Name x p) (e :: es) [] pos) (tCB r t):=by
  intro pins s σ H Q I h
  refine wpAny_Call_Name_kw (ld_blt I hg hm hv ?_ hn hdb)
  exact PyProof.Rows.callWith_type1 (thn (ha pos pins s σ H _ I h) fun us s1 ⟨vs,H1,I1,r1,q1⟩=>hc pins s1 σ H1 vs us Q I1 r1 q1) he hpl
end
end L2
namespace HT
open PySem PyProof.Rows
section
open PySem.SeqAt
open PySem.AutoSeq1 (wpAny_loadPart')
open PySem.MeetsSeq PySem.MeetsSeq2 PySem.MeetsSeq3
end
section
variable {prog:Program} {w:World} {A:Around} {E:Value→Shared→Prop} {s:Shared}
def sIx (n d:Nat):Option Int→Nat
  | none=>d
  | some v=>if v < 0 then (v+(n:Int)).toNat else min v.toNat n
theorem sIx_none (n d:Nat):sIx n d none=d:=rfl
theorem sIx_nat (n d k:Nat):sIx n d (some (k:Int))=min k n:=by
  show (if (k:Int) < 0 then ((k:Int)+(n:Int)).toNat else min (k:Int).toNat n)=min k n
  rw [if_neg (by omega),Int.toNat_natCast]
theorem sIx_le (n d:Nat) (hd:d≤n) (o:Option Int):sIx n d o≤n:=by
  cases o with
  | none=>exact hd
  | some v=>
    show (if v < 0 then (v+(n:Int)).toNat else min v.toNat n)≤n
    by_cases hv:v < 0
    · rw [if_pos hv];omega
    · rw [if_neg hv];exact Nat.min_le_right _ _
end
end HT
namespace L2
open PySem PySem.Spec PyProof.Rows
abbrev TO:=St→Hp→(Option Int→Hp→Prop)→Prop
def PO (X:Cx) (e:Option Expr) (t:TO):Prop:=
  ∀ (pins:List (Addr × Obj)) (s:Shared) (σ:St) (H:Hp) (Q:Option Int→Hp→Prop),Inv X pins σ H s→t σ H Q →
    wpAny (model X.prog X.w) X.A (evalPart e X.env) (fun u s'=>∃ o H',Inv X pins σ H' s'∧IsPart u o∧Q o H') X.xe s
def tNoPart:TO:=fun _ H Q=>Q none H
def tPart (t:TE):TO:=fun σ H Q=>t σ H fun x H1=>∃ i,x=.int i∧Q (some i) H1
section
variable {X:Cx} {e:Expr} {te:TE} {lo hi:Option Expr} {tl th:TO} {pos p2:Pos}
theorem po_none:PO X none tNoPart:=by
  intro pins s σ H Q I h
  rw [evalPart_none]
  exact wpAny_pure ⟨none,H,I,.none,h⟩
theorem po_some (h:PE X e te):PO X (some e) (tPart te):=by
  intro pins s σ H Q I hw
  rw [evalPart_some]
  refine thn (h pins s σ H _ I hw) fun u s1 ⟨x,H1,I1,r1,q1⟩=>?_
  obtain ⟨i,rfl,q⟩:=q1
  obtain ⟨t,rfl⟩:=r1
  exact ⟨some i,H1,I1,.int i t,q⟩
def SlR (X:Cx) (r:V→Option Int→Option Int→Hp→VK→Prop):Prop:=
  ∀ (pins:List (Addr × Obj)) (s:Shared) (σ:St) (H:Hp) (x:V) (v vl vu:Value) (lo hi:Option Int) (sl:Addr) (Q:VK),Inv X pins σ H s→RelV x v→s.heap.IsSliceOf sl vl vu .none→IsPart vl lo→IsPart vu hi→r x lo hi H Q →
    ∃ T id,typeLookup (.type T) "__getitem__" = pure (some (.builtin id))∧s.TypeIs v T∧wpAny (model X.prog X.w) X.A (getItem v (.ref sl)) (EP X pins σ Q) X.xe s
def tSl (r:V→Option Int→Option Int→Hp→VK→Prop) (te:TE) (tl th:TO):TE:=fun σ H Q=>te σ H fun x H1=>tl σ H1 fun l H2=>th σ H2 fun u H3=>r x l u H3 Q
theorem pe_slice {r:V→Option Int→Option Int→Hp→VK→Prop} (hr:SlR X r) (he:PE X e te) (hl:PO X lo tl) (hu:PO X hi th):PE X (.Subscript e (.Slice lo hi none p2) pos) (tSl r te tl th):=by
  intro pins s σ H Q I h
  refine Subscript_ (thn (he pins s σ H _ I h) fun v s1 ⟨x,H1,I1,r1,q1⟩=>?_)
  refine wpAny_Slice (thn (hl pins s1 σ H1 _ I1 q1) fun vl s2 ⟨l,H2,I2,pl,q2⟩=>thn (hu pins s2 σ H2 _ I2 q2) fun vu s3 ⟨u,H3,I3,pu,q3⟩=>?_)
  rw [evalPart_none]
  refine wpAny_pure ?_
  have I4:Inv X pins σ H3 { s3 with heap:=s3.heap.push { cls:=.type "slice", data:=.fields #[vl,vu,.none] } }:=I3.kept (t':=s3.toks) fun b ob q=>Heap.get?_push_of_some _ q
  obtain ⟨T,id,hT,ht,hg⟩:=hr pins { s3 with heap:=s3.heap.push { cls:=.type "slice", data:=.fields #[vl,vu,.none] } } σ H3 x v vl vu l u s3.heap.objs.size Q I4 r1 (Heap.IsSliceOf.new ..) pl pu q3
  show wpAny (model X.prog X.w) X.A (subscriptTail e (.Slice lo hi none p2) v (.ref s3.heap.objs.size)) (EP X pins σ Q) X.xe { s3 with heap:=s3.heap.push { cls:=.type "slice", data:=.fields #[vl,vu,.none] } }
  exact tail_any (ops:=[.ref s3.heap.objs.size,v]) ht hT hg (by with_unfolding_all rfl)
def cutV (xs:List V) (lo hi:Option Int):List V:=(xs.drop (HT.sIx xs.length 0 lo)).take (HT.sIx xs.length xs.length hi - HT.sIx xs.length 0 lo)
theorem cutV_length (xs:List V) (lo hi:Option Int):(cutV xs lo hi).length≤xs.length:=by
  unfold cutV
  rw [List.length_take,List.length_drop]
  omega
end
end L2
namespace L2
open PySem PySem.Spec PyProof.Rows
def ixN (n:Nat) (i:Int):Option Nat:=if 0≤i then (if i < n then some i.toNat else none) else if -(n:Int)≤i then some (i+n).toNat else none
def atI {α:Type} (xs:List α) (i:Int):Option α:=(ixN xs.length i).bind fun j=>xs[j]?
theorem ixN_seq {n:Nat} {i:Int} {j:Nat} (h:ixN n i=some j):seqIndex? i n=some j∧j < n∧-(n:Int)≤i∧i < n:=by
  unfold ixN at h
  by_cases h0:0≤i
  · rw [if_pos h0] at h
    by_cases h1:i < n
    · rw [if_pos h1] at h
      have e:i.toNat=j:=Option.some.inj h
      exact ⟨by rw [seqIndex_of h0 h1,e],by omega,by omega,h1⟩
    · rw [if_neg h1] at h;cases h
  · rw [if_neg h0] at h
    by_cases h1:-(n:Int)≤i
    · rw [if_pos h1] at h
      have e:(i+n).toNat=j:=Option.some.inj h
      exact ⟨by rw [seqIndex_neg (by omega) h1,e],by omega,h1,by omega⟩
    · rw [if_neg h1] at h;cases h
theorem atI_get {α:Type} {xs:List α} {i:Int} {v:α} (h:atI xs i=some v):∃ j,seqIndex? i xs.length=some j∧xs[j]?=some v∧j < xs.length∧-(xs.length:Int)≤i∧i < xs.length:=by
  unfold atI at h
  cases e:ixN xs.length i with
  | none=>rw [e] at h;cases h
  | some j=>
    rw [e] at h
    obtain ⟨h1,h2,h3,h4⟩:=ixN_seq e
    exact ⟨j,h1,h,h2,h3,h4⟩
theorem atI_nat {α:Type} {xs:List α} {j:Nat} {v:α} (h:xs[j]?=some v):atI xs (j:Int)=some v:=by
  have hj:j < xs.length:=(List.getElem?_eq_some_iff.mp h).1
  have e:ixN xs.length (j:Int)=some j:=by
    unfold ixN
    rw [if_pos (by omega),if_pos (by omega)];simp
  unfold atI;rw [e];exact h
theorem atI_last {α:Type} (xs:List α) (v:α):atI (xs++[v]) (-1)=some v:=by
  have hl:(xs++[v]).length=xs.length+1:=by simp
  have e:ixN (xs++[v]).length (-1)=some xs.length:=by
    unfold ixN
    rw [hl,if_neg (by decide),if_pos (by omega)]
    congr 1
    omega
  unfold atI
  rw [e]
  show (xs++[v])[xs.length]?=some v
  simp
def PlainIx (b:Expr):Prop:=∀ o i,subscripted b false o i=operate [o,i] (getItem o i)
def IxR (X:Cx) (r:R2):Prop:=
  ∀ (value slice:Expr) (pins:List (Addr × Obj)) (s:Shared) (σ:St) (H:Hp) (x y:V) (v u:Value) (Q:VK),Inv X pins σ H s→RelV x v→RelV y u→r x y H Q →
    subscripted slice false v u=operate [v,u] (getItem v u)→wpAny (model X.prog X.w) X.A (subscriptTail value slice v u) (EP X pins σ Q) X.xe s
def MtR (X:Cx) (id:String) (r:V→List V→Hp→VK→Prop):Prop:=
  ∀ (pins:List (Addr × Obj)) (s:Shared) (σ:St) (H:Hp) (x:V) (xs:List V) (v:Value) (us:List Value) (Q:VK),Inv X pins σ H s→RelV x v→Vals xs us→r x xs H Q →
    wpAny (model X.prog X.w) X.A (call (.builtin id) (v :: us)) (EP X pins σ Q) X.xe s
section
variable {X:Cx} {a b:Expr} {ta tb:TE} {pos:Pos}
theorem pe_ix {r:R2} (hr:IxR X r) (ha:PE X a ta) (hb:PE X b tb) (hs:PlainIx b):PE X (.Subscript a b pos) (tOp r ta tb):=by
  intro pins s σ H Q I h
  exact Subscript_ (binT ha hb I h fun v u s2 x y H2 I2 rx ry q=>hr a b pins s2 σ H2 x y v u Q I2 rx ry q (hs _ _))
def rIxL (K:PySem.W.Frag):R2:=fun x y H Q=>∃ p xs i v,x=.ref p∧y=.int i∧SqL K H p xs∧atI xs i=some v∧Q v H
def rIxT (K:PySem.W.Frag):R2:=fun x y H Q=>∃ p xs i v,x=.ref p∧y=.int i∧SqT K H p xs∧atI xs i=some v∧Q v H
def rIxS:R2:=fun x y H Q=>∃ z i c,x=.str z∧y=.int i∧z.length≤sizeLine∧atI z.cps.toList i=some c∧Q (.str ⟨#[c]⟩) H
theorem ix_list:IxR X (rIxL X.K):=by
  intro value slice pins s σ H x y v u Q I rx ry h hs
  obtain ⟨p,xs,i,z,rfl,rfl,hq,he,q⟩:=h
  cases rx
  obtain ⟨t,rfl⟩:=ry
  obtain ⟨its,r,pl,hz⟩:=I.list hq
  obtain ⟨j,h1,h2,h3,h4,h5⟩:=atI_get he
  obtain ⟨w,ew,rw'⟩:=r.get h2
  have hl:=r.length
  have hn:=line63
  have fin:EP X pins σ Q w s:=⟨z,H,I,rw',q⟩
  by_cases h0:0≤i
  · have hj:i.toNat=j:=by
      rw [seqIndex_of h0 h5] at h1
      exact Option.some.inj h1
    exact item_listR pl.isList h0 (by omega) (by rw [hj];simpa using ew) fin hs
  · have hj:(i+(its.toArray.size:Int)).toNat=j:=by
      rw [seqIndex_neg (by omega) h4] at h1
      rw [List.size_toArray,← hl]
      exact Option.some.inj h1
    exact subscriptTail_builtinR (x:=w) pl.isList.typeIs slot_list_getitem.lookup
      (wpAny_getItem_list_neg (Q:=fun r s'=>r=w∧EP X pins σ Q r s') pl.isList (by omega) (by rw [List.size_toArray] <;> omega) (by omega) (by rw [hj];simpa using ew) ⟨rfl,fin⟩) hs
theorem ix_tup:IxR X (rIxT X.K):=by
  intro value slice pins s σ H x y v u Q I rx ry h hs
  obtain ⟨p,xs,i,z,rfl,rfl,hq,he,q⟩:=h
  cases rx
  obtain ⟨t,rfl⟩:=ry
  obtain ⟨its,r,pl,hz⟩:=I.tuple hq
  obtain ⟨j,h1,h2,h3,h4,h5⟩:=atI_get he
  obtain ⟨w,ew,rw'⟩:=r.get h2
  have hl:=r.length
  have hn:=line63
  have fin:EP X pins σ Q w s:=⟨z,H,I,rw',q⟩
  exact subscriptTail_builtinR (x:=w) pl.typeIs slot_tuple_getitem.lookup
    (getItem_tuple (j:=j) (Q:=fun r s'=>r=w∧EP X pins σ Q r s') pl (by omega) (by omega) (by rw [List.size_toArray,← hl];exact h1) (by simpa using ew) ⟨rfl,fin⟩) hs
theorem ix_str:IxR X rIxS:=by
  intro value slice pins s σ H x y v u Q I rx ry h hs
  obtain ⟨z,i,c,rfl,rfl,hz,he,q⟩:=h
  obtain ⟨t,rfl⟩:=rx
  obtain ⟨t',rfl⟩:=ry
  obtain ⟨j,h1,h2,h3,h4,h5⟩:=atI_get he
  have hl:z.cps.toList.length=z.length:=by simp [Str.length]
  rw [hl] at h1 h4 h5
  have hn:=line63
  exact tail_any (typeIs_str s z t) slot_str_getitem.lookup (getItem_str (c:=c) (by
    have e1:decide (i < -(2 ^ 63:Int))=false:=decide_eq_false (by omega)
    have e2:decide (i ≥ 2 ^ 63)=false:=decide_eq_false (by omega)
    rw [e1,e2,Bool.or_false]) (by rw [h1];simpa using h2) ⟨.str ⟨#[c]⟩,H,I.tok _,⟨_,rfl⟩,q⟩) hs
theorem mapSeq_set (its:List Value) (n j:Nat) (u:Value):Obj.mapSeq (·.setIfInBounds j u) { cls:=.type "list", data:=.seq its.toArray n }={ cls:=.type "list", data:=.seq (its.set j u).toArray n }:=by
  simp [Obj.mapSeq]
theorem Inv.lst {pins:List (Addr × Obj)} {σ:St} {H:Hp} {s:Shared} {p:Addr} {xs:List V} (I:Inv X pins σ H s) (h:H p=some (.lst xs)) :
    ∃ (its:List Value) (n:Nat),Vals xs its∧s.heap.get? p=some { cls:=.type "list", data:=.seq its.toArray n }∧xs.length≤sizeLine:=by
  obtain ⟨z,its,n,r,e⟩:=I.hok p _ h
  exact ⟨its,n,r,e,z⟩
theorem Inv.lstUpd {pins:List (Addr × Obj)} {σ:St} {H:Hp} {s:Shared} {p:Addr} {xs ys:List V} {its its':List Value} {n n':Nat} {f:Obj→Obj} (I:Inv X pins σ H s) (h:H p=some (.lst xs))
    (ho:s.heap.get? p=some { cls:=.type "list", data:=.seq its.toArray n }) (hf:f { cls:=.type "list", data:=.seq its.toArray n }={ cls:=.type "list", data:=.seq its'.toArray n' }) (r:Vals ys its') (hz:ys.length≤sizeLine) (t:Nat) :
    Inv X pins σ (upd H p (.lst ys)) { s with heap:=s.heap.update p f,toks:=t }:=by
  have e:(s.heap.update p f).get? p=some { cls:=.type "list", data:=.seq its'.toArray n' }:=by
    rw [Heap.get?_update_self f ho (by rw [hf] <;> rfl),hf]
  refine I.write (x:=p) (e:=p) (by rw [h];trivial) (.inl rfl) (fun b u hb q=>(Heap.get?_update_other _ _ (Ne.symm hb)).trans q) ⟨_,e⟩ ?_
  exact ⟨hz,its',n',r,e⟩
def rSetL:V→V→V→Hp→(Hp→Prop)→Prop:=fun o i v H Q=>∃ p xs k j,o=.ref p∧i=.int k∧H p=some (.lst xs)∧ixN xs.length k=some j∧Q (upd H p (.lst (xs.set j v)))
theorem set_list:PSet X rSetL:=by
  intro pins s σ H o i v ov iv u Q I ro ri rv h
  obtain ⟨p,xs,k,j,rfl,rfl,hp,hj,q⟩:=h
  cases ro
  obtain ⟨t,rfl⟩:=ri
  obtain ⟨its,n,r,ho,hz⟩:=I.lst hp
  obtain ⟨h1,h2,h3,h4⟩:=ixN_seq hj
  have hl:=r.length
  have hn:=line63
  have I':Inv X pins σ (upd H p (.lst (xs.set j v))) { s with heap:=s.heap.update p (Obj.mapSeq (·.setIfInBounds j u)) }:=
    I.lstUpd hp ho (mapSeq_set its n j u) (r.set rv j) (by rw [List.length_set];exact hz) s.toks
  by_cases h0:0≤k
  · have hk:k.toNat=j:=by
      rw [seqIndex_of h0 h4] at h1
      exact Option.some.inj h1
    exact PySem.W.ki_setAt ho h0 (by omega) (by rw [List.size_toArray,← hl];exact h4) (by rw [hk];exact ⟨_,I',q⟩)
  · have hk:(k+(its.toArray.size:Int)).toNat=j:=by
      rw [seqIndex_neg (by omega) h3] at h1
      rw [List.size_toArray,← hl]
      exact Option.some.inj h1
    exact PySem.W.ki_setBack ho (by omega) (by rw [List.size_toArray,← hl];exact h3) (by omega) (by rw [hk];exact ⟨_,I',q⟩)
theorem slice_bounds (lo hi:Option Int) (n:Nat):(sliceBounds lo hi none n).1=((HT.sIx n 0 lo:Nat):Int)∧(sliceBounds lo hi none n).2.1=((HT.sIx n n hi:Nat):Int)∧(sliceBounds lo hi none n).2.2=1:=by
  refine ⟨?_,?_,rfl⟩
  · cases lo with
    | none=>simp [sliceBounds,HT.sIx]
    | some i=>
      simp only [sliceBounds,HT.sIx,Option.getD_none,show (1:Int) > 0 by decide,if_true]
      by_cases h:i < 0
      · simp only [h,if_true] <;> omega
      · simp only [h,if_false] <;> omega
  · cases hi with
    | none=>simp [sliceBounds,HT.sIx]
    | some i=>
      simp only [sliceBounds,HT.sIx,Option.getD_none,show (1:Int) > 0 by decide,if_true]
      by_cases h:i < 0
      · simp only [h,if_true] <;> omega
      · simp only [h,if_false] <;> omega
theorem slicePick_cut (its:List Value) (lo hi:Option Int):slicePick its.toArray lo hi none=((its.drop (HT.sIx its.length 0 lo)).take (HT.sIx its.length its.length hi - HT.sIx its.length 0 lo)).toArray:=by
  obtain ⟨h1,h2,h3⟩:=slice_bounds lo hi its.toArray.size
  unfold slicePick
  rw [h1,h2,h3]
  simp only [sliceRange_one,pick_run,List.size_toArray] <;> rfl
def rSlL (K:PySem.W.Frag):V→Option Int→Option Int→Hp→VK→Prop:=fun x lo hi H Q=>∃ a xs,x=.ref a∧SqL K H a xs∧∀ p,H p=none→Q (.ref p) (upd H p (.lst (cutV xs lo hi)))
theorem sl_list:SlR X (rSlL X.K):=by
  intro pins s σ H x v vl vu lo hi sl Q I rx hs pl pu h
  obtain ⟨a,xs,rfl,hx,q⟩:=h
  cases rx
  obtain ⟨its,r,ht,hz⟩:=I.list hx
  have hlen:=r.length
  refine ⟨"list", _,slot_list_getitem.lookup,ht.isList.typeIs,?_⟩
  refine wpAny_getItem_list_slice ht.isList hs pl pu .none (by simp) ?_ (by rw [List.size_toArray] <;> omega)
  rw [slicePick_cut,← hlen]
  refine ⟨.ref s.heap.objs.size,_,I.laid (t':=s.toks) (o:=.lst (cutV xs lo hi)) (fun b ob q=>Heap.get?_push_of_some _ q) (Nat.le_refl _) ?_,rfl,q _ (I.hok.fresh (Nat.le_refl _))⟩
  exact ⟨Nat.le_trans (cutV_length xs lo hi) hz,_,0,(r.drop (HT.sIx xs.length 0 lo)).take (HT.sIx xs.length xs.length hi - HT.sIx xs.length 0 lo),Heap.get?_push_size _ rfl⟩
def flatV:V→Bool
  | .non=>true
  | .bl _=>true
  | .int _=>true
  | .str _=>true
  | _=>false
def eqV:V→V→Bool
  | .non,.non=>true
  | .bl a,.bl b=>a == b
  | .bl a,.int b=>(if a then 1 else 0) == b
  | .int a,.bl b=>a == (if b then 1 else 0)
  | .int a,.int b=>a == b
  | .str a,.str b=>a == b
  | _,_=>false
theorem eqAt_V {A:Around} {s:Shared} {y x:V} {u v:Value} (ry:RelV y u) (rx:RelV x v) (fy:flatV y=true) (fx:flatV x=true):SeqAt.EqAt A s u v (eqV y x):=by
  cases y with
  | non=>
    cases ry
    cases x with
    | non=>cases rx;exact SeqAt.EqAt.same _
    | bl b=>cases rx;exact SeqAt.EqAt.none_bool b
    | int b=>obtain ⟨t,rfl⟩:=rx;exact SeqAt.EqAt.none_int b t
    | str b=>obtain ⟨t,rfl⟩:=rx;exact SeqAt.EqAt.none_str b t
    | _=>exact absurd (show false=true from fx) Bool.false_ne_true
  | bl a=>
    cases ry
    cases x with
    | non=>cases rx;exact SeqAt.EqAt.bool_none a
    | bl b=>cases rx;exact SeqAt.EqAt.bool_bool a b
    | int b=>obtain ⟨t,rfl⟩:=rx;exact SeqAt.EqAt.bool_int a b t
    | str b=>obtain ⟨t,rfl⟩:=rx;exact SeqAt.EqAt.bool_str a b t
    | _=>exact absurd (show false=true from fx) Bool.false_ne_true
  | int a=>
    obtain ⟨t',rfl⟩:=ry
    cases x with
    | non=>cases rx;exact SeqAt.EqAt.int_none a t'
    | bl b=>cases rx;exact SeqAt.EqAt.int_bool a t' b
    | int b=>obtain ⟨t,rfl⟩:=rx;exact SeqAt.EqAt.int_int a t' b t
    | str b=>obtain ⟨t,rfl⟩:=rx;exact SeqAt.EqAt.int_str a t' b t
    | _=>exact absurd (show false=true from fx) Bool.false_ne_true
  | str a=>
    obtain ⟨t',rfl⟩:=ry
    cases x with
    | non=>cases rx;exact SeqAt.EqAt.str_none a t'
    | bl b=>cases rx;exact SeqAt.EqAt.str_bool a t' b
    | int b=>obtain ⟨t,rfl⟩:=rx;exact SeqAt.EqAt.str_int a t' b t
    | str b=>obtain ⟨t,rfl⟩:=rx;exact SeqAt.EqAt.str_str a t' b t
    | _=>exact absurd (show false=true from fx) Bool.false_ne_true
  | _=>exact absurd (show false=true from fy) Bool.false_ne_true
def eqU (x:V) (u:Value):Bool:=match u with
  | .none=>eqV .non x
  | .bool b=>eqV (.bl b) x
  | .int i _=>eqV (.int i) x
  | .str z _=>eqV (.str z) x
  | _=>false
theorem eqU_of {x y:V} {u:Value} (r:RelV y u) (f:flatV y=true):eqU x u=eqV y x:=by
  cases y with
  | non=>cases r;rfl
  | bl b=>cases r;rfl
  | int i=>obtain ⟨t,rfl⟩:=r;rfl
  | str z=>obtain ⟨t,rfl⟩:=r;rfl
  | _=>exact absurd (show false=true from f) Bool.false_ne_true
theorem any_eqU {x:V}:∀ {xs:List V} {us:List Value},Vals xs us→xs.all flatV=true→us.any (eqU x)=xs.any fun y=>eqV y x
  | _,_,.nil,_=>rfl
  | y :: xs,u :: us,.cons r t,f=>by
    rw [List.all_cons,Bool.and_eq_true] at f
    rw [List.any_cons,List.any_cons,eqU_of r f.1,any_eqU t f.2]
theorem mem_eqAt {A:Around} {s:Shared} {x:V} {v:Value} (rx:RelV x v) (fx:flatV x=true):∀ {xs:List V} {us:List Value},Vals xs us→xs.all flatV=true→∀ u∈us,SeqAt.EqAt A s u v (eqU x u)
  | _,_,.nil,_=>fun u hu=>by cases hu
  | y :: xs,u :: us,.cons r t,f=>fun u' hu=>by
    rw [List.all_cons,Bool.and_eq_true] at f
    rcases List.mem_cons.mp hu with rfl | hu
    · rw [eqU_of r f.1];exact eqAt_V r rx f.1 fx
    · exact mem_eqAt rx fx t f.2 u' hu
def inV (x:V) (xs:List V):Bool:=xs.any fun y=>eqV y x
def rIn (K:PySem.W.Frag) (neg:Bool):R2:=fun x y H Q=>∃ p xs,y=.ref p∧(SqL K H p xs∨SqT K H p xs)∧flatV x=true∧xs.all flatV=true∧Q (.bl (if neg then !inV x xs else inV x xs)) H
theorem op_notIn_seq:OpR X (compareOp .NotIn) (rIn X.K true):=by
  intro pins s σ H x y v u Q I rx ry h
  obtain ⟨p,xs,rfl,hq,fx,fs,q⟩:=h
  cases ry
  rcases hq with hq | hq
  · obtain ⟨its,r,pl,hz⟩:=I.list hq
    refine SeqAt.notIn_listAt (eqU x) pl.isList (fun w hw=>mem_eqAt rx fx r fs w (by simpa using hw)) ⟨.bl _,H,I,rfl,?_⟩
    rw [show its.toArray.any (eqU x)=its.any (eqU x) by simp,any_eqU r fs]
    exact q
  · obtain ⟨its,r,pl,hz⟩:=I.tuple hq
    refine SeqAt.notIn_tupleAt (eqU x) pl (fun w hw=>mem_eqAt rx fx r fs w (by simpa using hw)) ⟨.bl _,H,I,rfl,?_⟩
    rw [show its.toArray.any (eqU x)=its.any (eqU x) by simp,any_eqU r fs]
    exact q
theorem call_len_seq:CallR X (.builtin "len") (fun xs H Q=>∃ p ys,xs=[.ref p]∧(SqL X.K H p ys∨SqT X.K H p ys)∧Q (.int ys.length) H):=by
  intro pins s σ H xs us Q I r h
  obtain ⟨p,ys,rfl,hq,q⟩:=h
  obtain ⟨u,rfl,rx⟩:=vals1 r
  cases rx
  have hn:=line63
  rcases hq with hq | hq
  · obtain ⟨its,r',pl,hz⟩:=I.list hq
    have hlen:=r'.length
    exact Calls.call_len_list pl.isList (by simp only [List.size_toArray] <;> omega) ⟨.int ys.length,H,I.tok _,⟨s.toks+1,by rw [List.size_toArray,hlen]⟩,q⟩
  · obtain ⟨its,r',pl,hz⟩:=I.tuple hq
    have hlen:=r'.length
    exact len_tuple pl (by simp only [List.size_toArray] <;> omega) ⟨.int ys.length,H,I.tok _,⟨s.toks+1,by rw [List.size_toArray,hlen]⟩,q⟩
theorem call_len_str:CallR X (.builtin "len") (fun xs H Q=>∃ z,xs=[.str z]∧z.length≤sizeLine∧Q (.int z.length) H):=by
  intro pins s σ H xs us Q I r h
  obtain ⟨z,rfl,hz,q⟩:=h
  obtain ⟨u,rfl,t,rfl⟩:=vals1 r
  have hn:=line63
  exact len_str (by omega) ⟨.int z.length,H,I.tok _,⟨_,rfl⟩,q⟩
theorem call_tuple_of:CallR X (.type "tuple") (fun xs H Q=>∃ p ys,xs=[.ref p]∧((SqL X.K H p ys∧∀ l,H l=none→Q (.ref l) (upd H l (.tup ys)))∨(SqT X.K H p ys∧Q (.ref p) H))):=by
  intro pins s σ H xs us Q I r h
  obtain ⟨p,ys,rfl,h⟩:=h
  obtain ⟨u,rfl,rx⟩:=vals1 r
  cases rx
  rcases h with ⟨hq,q⟩ | ⟨hq,q⟩
  · obtain ⟨its,r',pl,hz⟩:=I.list hq
    have hlen:=r'.length
    refine call_tuple_list pl.isList (fun h' kp=>?_) (by simp only [List.size_toArray] <;> omega)
    have I1:Inv X pins σ H { s with heap:=h' }:=I.kept (t':=s.toks) kp
    have I2:Inv X pins σ (upd H h'.objs.size (.tup ys)) { s with heap:=h'.push { cls:=.type "tuple", data:=.seq its.toArray } }:=
      I1.laid (t':=s.toks) (fun b o e=>Heap.get?_push_of_some _ e) (Nat.le_refl _) (show ObjOk X.prog X.w _ _ _ (.tup ys) from ⟨⟨hz,_,Heap.get?_push_size _ rfl,rfl⟩,its,r',IsTup.new _ _⟩)
    exact ⟨.ref h'.objs.size,_,I2,rfl,q _ (I1.hok.fresh (Nat.le_refl _))⟩
  · obtain ⟨its,r',pl,hz⟩:=I.tuple hq
    exact call_tuple_same pl ⟨.ref p,H,I,rfl,q⟩
def tyV (K:PySem.W.Frag) (T:String) (x:V) (H:Hp):Prop:=match x with
  | .str _=>T = "str"
  | .int _=>T = "int"
  | .ref p=>(T = "list" ∧ ∃ xs,SqL K H p xs)∨(T = "tuple" ∧ ∃ o,K.lookup p=some o∧o.cls=.type "tuple" ∧ o.dict=none) ∨
      (T = "dict" ∧ ((∃ kvs,H p=some (.dK kvs))∨∃ kvs,H p=some (.dT kvs)))∨(T = "set" ∧ ∃ S n,H p=some (.set S n))
  | _=>False
theorem tyV_is {pins:List (Addr × Obj)} {σ:St} {H:Hp} {s:Shared} {T:String} {x:V} {v:Value} (I:Inv X pins σ H s) (r:RelV x v) (ty:tyV X.K T x H) :
    s.TypeIs v T∧∀ a,v=.ref a→∃ ob,s.heap.get? a=some ob∧ob.dict=none:=by
  cases x with
  | str z=>
    obtain ⟨t,rfl⟩:=r
    cases (show T = "str" from ty)
    exact ⟨typeIs_str s z t,fun _ e=>nomatch e⟩
  | int i=>
    obtain ⟨t,rfl⟩:=r
    cases (show T = "int" from ty)
    exact ⟨typeIs_int s i t,fun _ e=>nomatch e⟩
  | ref p=>
    cases r
    rcases ty with ⟨rfl,xs,hq⟩ | ⟨rfl,o,hk,hc,hd⟩ | ⟨rfl,hk⟩ | ⟨rfl,S,n,hk⟩
    · obtain ⟨its,_,pl,_⟩:=I.list hq
      refine ⟨pl.isList.typeIs,fun a e=>?_⟩
      cases e
      obtain ⟨o,n,e,c,hd,_⟩:=pl
      exact ⟨o,e,hd⟩
    · refine ⟨⟨o,I.kIn p o hk,hc⟩,fun a e=>?_⟩
      cases e
      exact ⟨o,I.kIn _ o hk,hd⟩
    · have z:∃ o,s.heap.get? p=some o∧o.ExactDict:=by
        rcases hk with ⟨kvs,hk⟩ | ⟨kvs,hk⟩
        · obtain ⟨_,_,_,_,o,_,_,e,ex,_⟩:=I.hok p _ hk
          exact ⟨o,e,ex⟩
        · obtain ⟨_,_,_,_,o,_,_,e,ex,_⟩:=I.hok p _ hk
          exact ⟨o,e,ex⟩
      obtain ⟨o,e,ex⟩:=z
      refine ⟨⟨o,e,ex.1⟩,fun a e2=>?_⟩
      cases e2
      exact ⟨o,e,ex.2.1⟩
    · obtain ⟨o,_,_,_,e,ex,_⟩:=I.hok p _ hk
      refine ⟨⟨o,e,ex.1⟩,fun a e2=>?_⟩
      cases e2
      exact ⟨o,e,ex.2.1⟩
  | _=>exact False.elim ty
def tBM0 (K:PySem.W.Frag) (T:String) (r:V→List V→Hp→VK→Prop) (to:TE):TE:=fun σ H Q=>to σ H fun x H1=>tyV K T x H1∧r x [] H1 Q
def tBM (K:PySem.W.Frag) (T:String) (r:V→List V→Hp→VK→Prop) (to:TE) (t:TA):TE:=fun σ H Q=>to σ H fun x H1=>tyV K T x H1∧t σ H1 fun xs H2=>r x xs H2 Q
variable {o e:Expr} {es:List Expr} {to:TE} {t:TA} {name:Str} {apos cpos:Pos} {T id:String} {r:V→List V→Hp→VK→Prop}
theorem pe_bm0 (pa:PlainAttrs T) (slot:Slot T name id) (hty:typeOf (.builtin id)=pure (.type "method_descriptor")) (hm:MtR X id r) (ho:PE X o to)
    (hbase:attributeBase o name X.env (eval o X.env)=eval o X.env:=by rfl) (hline:(apos.endLine == cpos.line)=true:=by rfl):PE X (.Call (.Attribute o name apos) [] [] cpos) (tBM0 X.K T r to):=by
  intro pins s σ H Q I h
  refine wpAny_Call_method0_late hbase hline (thn (ho pins s σ H _ I h) fun v s1 ⟨x,H1,I1,r1,ty,q1⟩=>?_)
  obtain ⟨h1,h2⟩:=tyV_is I1 r1 ty
  exact ⟨T,id,pa,slot,hty,h1,h2,Calls.callWith_builtin rfl (PySem.evalArgs_none (hm pins s1 σ H1 x [] v [] Q I1 r1 .nil q1))⟩
theorem pe_bm (pa:PlainAttrs T) (slot:Slot T name id) (hty:typeOf (.builtin id)=pure (.type "method_descriptor")) (hm:MtR X id r) (ho:PE X o to) (ha:PA X (e :: es) t)
    (hbase:attributeBase o name X.env (eval o X.env)=eval o X.env:=by rfl)
    (hfew:((backTo cpos (starEach (e :: es) X.env)).all (fun x=>!x.1) && (backToKw cpos (keywordEach [] X.env)).all (fun x=>x.1.isSome)
      && decide ((e :: es).length+([]:List Keyword).length+(if ([]:List Keyword).isEmpty then 0 else 1) < 30))=true:=by rfl)
    (hline:(apos.endLine == cpos.line)=true:=by rfl) (hs:starEach (e :: es) X.env=(false,eval e X.env) :: starEach es X.env:=by rfl) (hplain:(backTo cpos (starEach es X.env)).any (·.1)=false:=by rfl) :
    PE X (.Call (.Attribute o name apos) (e :: es) [] cpos) (tBM X.K T r to t):=by
  intro pins s σ H Q I h
  refine wpAny_Call_method_late hbase hfew hline rfl (thn (ho pins s σ H _ I h) fun v s1 ⟨x,H1,I1,r1,ty,q1⟩=>?_)
  obtain ⟨h1,h2⟩:=tyV_is I1 r1 ty
  refine ⟨T,id,pa,slot,hty,h1,h2,?_⟩
  have hA:=ha cpos pins s1 σ H1 _ I1 q1
  rw [hs] at hA ⊢
  refine Calls.callWith_builtin (by show (false || (backTo cpos (starEach es X.env)).any (·.1))=false;rw [hplain] <;> rfl) (Calls.evalArgs_plain ?_)
  exact thn hA fun us s2 ⟨vs,H2,I2,r2,q2⟩=>hm pins s2 σ H2 x vs v us Q I2 r1 r2 q2
/- xs.append(e),list.index on a module's tuple .. are MtR facts of 06m -/
end
end L2
namespace L2
open PySem PySem.Spec PyProof.Rows
def MtM (X:Cx) (id:String) (r:V→List V→Hp→VK→Prop):Prop:=
  ∀ (pins:List (Addr × Obj)) (s:Shared) (σ:St) (H:Hp) (x:V) (xs:List V) (v:Value) (us:List Value) (Q:VK),Inv X pins σ H s→RelV x v→Vals xs us→r x xs H Q →
    wpAny (model X.prog X.w) X.A (call (.builtin id) (v :: us)) (EP X pins σ Q) X.xe s
theorem Vals.one:∀ {x:V} {us:List Value},Vals [x] us→∃ u,us=[u]∧RelV x u
  | _,_,.cons r .nil=>⟨_,rfl,r⟩
theorem Vals.zero:∀ {us:List Value},Vals [] us→us=[]
  | _,.nil=>rfl
theorem Vals.dropLast {xs:List V} {us:List Value} (h:Vals xs us):Vals xs.dropLast us.dropLast:=by
  induction h with
  | nil=>exact .nil
  | cons r t ih=>
    cases t with
    | nil=>exact .nil
    | cons q t'=>exact .cons r ih
theorem Vals.rep {xs:List V} {us:List Value} (h:Vals xs us):∀ k:Nat,Vals (List.replicate k xs).flatten (List.replicate k us).flatten
  | 0=>.nil
  | k+1=>by
    rw [List.replicate_succ,List.replicate_succ,List.flatten_cons,List.flatten_cons]
    exact Vals.append h (Vals.rep h k)
theorem erase_last {α:Type} (l:List α):l.eraseIdx (l.length - 1)=l.dropLast:=by
  induction l with
  | nil=>rfl
  | cons a r ih=>
    cases r with
    | nil=>rfl
    | cons b r=>
      have e:(a :: b :: r).length - 1=((b :: r).length - 1)+1:=by
        have h1:(a :: b :: r).length=r.length+2:=rfl
        have h2:(b :: r).length=r.length+1:=rfl
        omega
      rw [e,List.eraseIdx_cons_succ,ih]
      all_goals rfl
theorem foldl_rep (its:List Value):∀ (k:Nat) (acc:List Value),
    List.foldl (fun x1 x2=>x1++x2) acc.toArray (List.replicate k its.toArray)=(acc++(List.replicate k its).flatten).toArray
  | 0,acc=>by simp
  | k+1,acc=>by
    have e:acc.toArray++its.toArray=(acc++its).toArray:=by simp
    have e2:(acc++its)++(List.replicate k its).flatten=acc++(List.replicate (k+1) its).flatten:=by
      rw [List.replicate_succ,List.flatten_cons,List.append_assoc]
    rw [← e2,← foldl_rep its k (acc++its),← e,List.replicate_succ,List.foldl_cons]
section
variable {X:Cx} {pins:List (Addr × Obj)} {σ:St} {H:Hp} {s:Shared} {l b:Addr} {xs ys zs:List V}
theorem Inv.lset {its its':List Value} {n:Nat} {f:Array Value→Array Value} {t':Nat} (I:Inv X pins σ H s) (hH:H l=some (.lst xs))
    (e:s.heap.get? l=some { cls:=.type "list", data:=.seq its.toArray n }) (hf:f its.toArray=its'.toArray) (hv:Vals ys its') (hz:ys.length≤sizeLine) :
    Inv X pins σ (upd H l (.lst ys)) { s with heap:=s.heap.update l (Obj.mapSeq f),toks:=t' }:=by
  have q:=PySem.IsL.update e f
  rw [hf] at q
  refine I.write (x:=l) (e:=l) (by rw [hH];exact trivial) (.inl rfl) (fun b' u hb hu=>(Heap.get?_update_other s.heap (Obj.mapSeq f) (Ne.symm hb)).trans hu) ⟨_,q⟩ ?_
  exact ⟨hz,its',_,hv,q⟩
theorem Inv.lnew {its:List Value} {t':Nat} (I:Inv X pins σ H s) (hv:Vals ys its) (hz:ys.length≤sizeLine) :
    Inv X pins σ (upd H s.heap.objs.size (.lst ys)) { s with heap:=s.heap.push { cls:=.type "list", data:=.seq its.toArray },toks:=t' }:=
  I.laid (fun _ _ q=>Heap.get?_push_of_some _ q) (Nat.le_refl _) ⟨hz,its,0,hv,Heap.get?_push_size _ rfl⟩
theorem Inv.fresh (I:Inv X pins σ H s):H s.heap.objs.size=none:=I.hok.fresh (Nat.le_refl _)
theorem Inv.lstM (I:Inv X pins σ H s) (hH:H l=some (.lst xs)):xs.length≤sizeLine∧∃ (its:List Value) (n:Nat),Vals xs its∧xs.length=its.length∧s.heap.get? l=some { cls:=.type "list", data:=.seq its.toArray n }:=by
  obtain ⟨z,its,n,r,e⟩:=I.hok l _ hH
  exact ⟨z,its,n,r,r.length,e⟩
theorem notLongL {n:Nat} (h:n≤sizeLine):Builtin.List.listTooLong n=false:=by
  unfold Builtin.List.listTooLong
  exact decide_eq_false (by omega)
end
section
variable {X:Cx}
def rAppend:V→List V→Hp→VK→Prop:=fun x vs H Q=>∃ l xs y,x=.ref l∧vs=[y]∧H l=some (.lst xs)∧xs.length < sizeLine∧Q .non (upd H l (.lst (xs++[y])))
theorem mt_append:MtM X "list.append" rAppend:=by
  intro pins s σ H x vs v us Q I rx rv h
  obtain ⟨l,xs,y,rfl,rfl,hH,hz,q⟩:=h
  cases rx
  obtain ⟨u,rfl,ru⟩:=rv.one
  obtain ⟨z,its,n,r,hl,e⟩:=I.lstM hH
  refine call_meets F.slot_list_append ⟨_,e,rfl⟩ F.entry_list_append (F.args_list_append_2 _ _) (PySem.list_append l its.toArray n u (by rw [List.size_toArray];omega)) ⟨e,?_⟩
  refine ⟨.non,_,I.lset (its':=its++[u]) hH e (by simp) (r.append (.cons ru .nil)) ?_,rfl,q⟩
  rw [List.length_append,List.length_singleton]
  omega
def rPop:V→List V→Hp→VK→Prop:=fun x vs H Q=>∃ l xs y,x=.ref l∧vs=[]∧H l=some (.lst xs)∧xs[xs.length - 1]?=some y∧Q y (upd H l (.lst xs.dropLast))
theorem mt_pop:MtM X "list.pop" rPop:=by
  intro pins s σ H x vs v us Q I rx rv h
  obtain ⟨l,xs,y,rfl,rfl,hH,hy,q⟩:=h
  cases rx
  have hus:=rv.zero
  subst hus
  obtain ⟨z,its,n,r,hl,e⟩:=I.lstM hH
  obtain ⟨u,hu,ru⟩:=r.get hy
  have hy':its.toArray[its.toArray.size - 1]?=some u:=by
    show its.toArray[its.length - 1]?=some u
    rw [← Array.getElem?_toList,← hl]
    exact hu
  refine call_meets F.slot_list_pop ⟨_,e,rfl⟩ F.entry_list_pop (F.args_list_pop_1 _) (MeetsSeq.list_pop_last l its.toArray n u hy' (by rw [List.size_toArray];omega)) ⟨e,?_⟩
  refine ⟨y,_,I.lset (its':=its.dropLast) hH e ?_ r.dropLast ?_,ru,q⟩
  · show its.toArray.eraseIdxIfInBounds (its.toArray.size - 1)=its.dropLast.toArray
    rw [List.size_toArray,List.eraseIdxIfInBounds_toArray,erase_last]
  · rw [List.length_dropLast]
    omega
def rCat:R2:=fun x y H Q=>∃ l b xs zs,x=.ref l∧y=.ref b∧H l=some (.lst xs)∧H b=some (.lst zs)∧xs.length+zs.length≤sizeLine∧∀ p,H p=none→Q (.ref p) (upd H p (.lst (xs++zs)))
theorem op_cat:OpR X (binaryOp .Add) rCat:=by
  intro pins s σ H x y v u Q I rx ry h
  obtain ⟨l,b,xs,zs,rfl,rfl,hH,hB,hz,q⟩:=h
  cases rx
  cases ry
  obtain ⟨z,its,n,r,hl,e⟩:=I.lstM hH
  obtain ⟨z2,its2,n2,r2,hl2,e2⟩:=I.lstM hB
  refine PySem.P.add_list e e2 ?_ (by rw [List.size_toArray,List.size_toArray];omega)
  have ea:its.toArray++its2.toArray=(its++its2).toArray:=by simp
  rw [ea]
  exact ⟨.ref _,_,I.lnew (t':=s.toks) (r.append r2) (by rw [List.length_append];omega),rfl,q _ I.fresh⟩
def rRep:R2:=fun x y H Q=>∃ l k xs,x=.ref l∧y=.int k∧H l=some (.lst xs)∧-(2 ^ 63)≤k∧k < 2 ^ 63∧xs.length * k.toNat≤sizeLine ∧
  ∀ p,H p=none→Q (.ref p) (upd H p (.lst (List.replicate k.toNat xs).flatten))
theorem len_rep {α:Type} (xs:List α) (k:Nat):(List.replicate k xs).flatten.length=k * xs.length:=by
  induction k with
  | zero=>simp
  | succ k ih=>rw [List.replicate_succ,List.flatten_cons,List.length_append,ih,Nat.succ_mul,Nat.add_comm]
theorem op_rep:OpR X (binaryOp .Mult) rRep:=by
  intro pins s σ H x y v u Q I rx ry h
  obtain ⟨l,k,xs,rfl,rfl,hH,h1,h2,hz,q⟩:=h
  cases rx
  obtain ⟨t,rfl⟩:=ry
  obtain ⟨z,its,n,r,hl,e⟩:=I.lstM hH
  have hlen:its.toArray.size * k.toNat≤sizeLine:=by rw [List.size_toArray,← hl];exact hz
  have hcap:¬ its.toArray.size * k.toNat > (2 ^ 63 - 1) / 8:=by
    have:(sizeLine:Nat)≤(2 ^ 63 - 1) / 8:=by decide
    omega
  have hfit:¬ (!Builtin.List.listFitsIndex k)=true:=by
    rw [fitsIndex_both h1 h2]
    exact Bool.false_ne_true
  have hlong:¬ Builtin.List.listTooLong (its.toArray.size * k.toNat)=true:=by
    rw [notLongL hlen]
    exact Bool.false_ne_true
  have hnew:List.foldl (fun x1 x2=>x1++x2) #[] (List.replicate (if its.toArray.isEmpty=true then 0 else k.toNat) its.toArray)=(List.replicate k.toNat its).flatten.toArray:=by
    have f0:∀ m:Nat,List.foldl (fun x1 x2=>x1++x2) #[] (List.replicate m its.toArray)=(List.replicate m its).flatten.toArray:=fun m=>by
      have:=foldl_rep its m []
      rw [List.nil_append] at this
      exact this
    rw [f0]
    cases its with
    | nil=>simp
    | cons a r'=>rw [if_neg (by simp)]
  refine wpAny_binaryOp_repeat_ref (T := "list") (U := "int") (by decide) ⟨_,e,rfl⟩ (fun s'=>typeIs_int s' k t) noFill_list_mul F.fills_int_mul F.slot_int_rmul repeat_list F.slot_int_index.lookup
    (call_meets F.slot_int_rmul (typeIs_int s k t) F.entry_int_rmul (F.args_int_rmul_2 _ _) (int___rmul___int_list k t l its.toArray n)
      ⟨e,rfl,⟨_,e,rfl⟩,call_meets F.slot_list_mul ⟨_,e,rfl⟩ F.entry_list_mul (F.args_list_mul_2 _ _) (AutoListH.list___mul___list_int_3 l its.toArray n k t hfit hcap hlong) ⟨e,?_⟩⟩)
  rw [hnew]
  exact ⟨.ref _,_,I.lnew (t':=s.toks) (r.rep k.toNat) (by rw [len_rep,Nat.mul_comm];exact hz),rfl,q _ I.fresh⟩
end
section
variable {prog:Program} {w:World} {A:Around} {E:Value→Shared→Prop} {s:Shared}
end
section
variable {X:Cx}
end
end L2
namespace Att
open PySem PySem.W PySem.Calls PyProof.Rows
theorem ints_of_wellAll {P:Params} {h:Heap}:∀ (ns:List Int) (vs:List Value),WellAll P h vs (ns.map WData.int)→IntsAre vs ns:=by
  intro ns
  induction ns with
  | nil=>
    intro vs w
    rw [List.map_nil] at w
    cases w
    exact .nil
  | cons n ns ih=>
    intro vs w
    rw [List.map_cons] at w
    cases w with
    | cons a b=>
      cases a
      exact .cons _ _ (ih _ b)
theorem script_of {l:OpenLaw} {n:Nat} (hn:l.most=some n) {P:Params} {h:Heap} {args:List WData} {vals:List Value}
    (hpre:l.row.toRowW.claim.pre args=true) (hwl:WellAll P h vals args) :
    ∃ a vs ns,vals=[Value.ref a]∧args=[WData.list (ns.map WData.int)]∧h.get? a=some { cls:=.type "list", data:=.seq vs.toArray }∧IntsAre vs ns∧ns.length≤n:=by
  have hsh:WShape.hasAll [] args [.list .int]=true:=(pre_splitW hpre).1
  have hc:l.pre.holds [] { args:=args }=true:=(pre_splitW hpre).2
  obtain ⟨d,r,rfl,h1,h2⟩:=hasAllW_cons hsh
  obtain rfl:=hasAllW_nil h2
  obtain ⟨xs,rfl,h3⟩:=hasW_list h1
  obtain ⟨ns,rfl⟩:=items_int h3
  have hlen:ns.length≤n:=by
    unfold OpenLaw.pre at hc
    have h4:(WTm.not (.lt (.lit (.int (n:Int))) (.len (.arg 0)))).holds [] { args:=[.list (ns.map .int)] }=true:=by
      have h4:=(holds_andW hc).1
      rw [hn] at h4
      exact h4
    have h5:=condW_of h4 (w_not (w_lt w_lit (w_len_list (w_arg rfl))))
    rw [List.length_map] at h5
    refine Nat.le_of_not_lt fun q=>?_
    have q':(n:Int) < ((ns.length:Nat):Int):=by omega
    first
      | (rw [decide_eq_true q'] at h5;exact absurd h5 (by decide))
      | (simp at h5;omega)
  cases hwl with
  | cons w1 w2=>
    cases w2
    cases w1 with
    | list ho hall=>exact ⟨_,_,ns,rfl,rfl,ho,ints_of_wellAll ns _ hall,hlen⟩
theorem post_true (l:OpenLaw) (args:List WData):l.row.toRowW.claim.post args (.bool true) args=true:=
  postW_of (r:=l.row.toRowW) (X:=(true == true))
    (show WShape.has [] (.bool true) .bool=true by first | rfl | decide | simp [WShape.has,WShape.arms,WShape.armsAll])
    (show (WTm.eq .res (.lit (.bool true))).value [] { args:=args,res:=some (.bool true),after:=args }=some (.bool (true == true)) from w_eq_bool (w_res rfl) w_lit) rfl
theorem attach_call {l:OpenLaw} {n:Nat} {q:Program} {loose:List Str} {XP:(Str→Option Value)→Heap→Prop} {YP:World→Heap→Prop} {d:DefRec}
    (hn:l.most=some n) (hdf:d.params.defaults=[])
    (call:∀ (w:World) (s₀ s₁:Shared) (mg mb:Str→Option Value) (fa:Addr) (o:Obj) (pm cd doc:Value) (a:Addr) (vs:List Value) (ns:List Int),
      Ground q loose [] XP w s₀ mg mb s₁.heap→YP w s₁.heap →
      s₁.heap.get? fa=some o→o.data=.func (docDef d.name d.params d.body d.scope pm cd doc)→s₁.heap.CodeRec cd d.name→mg d.name=some (.ref fa) →
      s₁.heap.get? a=some { cls:=.type "list", data:=.seq vs.toArray }→IntsAre vs ns→ns.length≤n→s₁.gens=#[] →
      codeAny (model l.prog w) callerA (.call (.ref fa) ⟨[.ref a],[]⟩) (fun r s'=>r=.ok (.ret (.bool true))∧OldK s₁.heap s'.heap∧s'.os=s₁.os∧AllBare s'.gens) s₁) :
    WalkO q loose XP YP l.row.toRowW d [] (fun f vs=>PySem.call f vs):=by
  intro w s₀ s₁ mg mb G Y fa o pm cd doc dV kV ho hd hcd hD hmg hg args vals as hpre hlay hrd hwl hlo
  obtain rfl:dV=.none:=Dflts.none hD hdf
  obtain rfl:kV=.none:=Dflts.noKw hD
  obtain ⟨a,vs,ns,rfl,rfl,hobj,hints,hlen⟩:=script_of hn hpre hwl
  refine enter_call (codeAny_mono (call w s₀ s₁ mg mb fa o pm cd doc a vs ns G Y ho (fd_plain hd) hcd hmg hobj hints hlen hg) fun r s' hq=>?_)
  obtain ⟨rfl,h2,h3,h4⟩:=hq
  exact ⟨.inl ⟨.bool true,.bool true,[],rfl,fun _=>rfl,.bool true,post_true l _,fun _=>⟨List.Pairwise.nil,fun _ hm=>(nomatch hm)⟩⟩,h2,h3,h4⟩
section
variable {prog:Program} {w:World} {A:Around} {E:Value→Shared→Prop} {s:Shared} {K:Frag}
end
end Att
namespace L2
open PySem PySem.Spec PyProof.Rows
theorem vals_ints:∀ {vs:List Value} {ns:List Int},IntsAre vs ns→Vals (ns.map V.int) vs
  | _,_,.nil=>.nil
  | _,_,.cons n t h=>.cons ⟨t,rfl⟩ (vals_ints h)
def Only (H:Hp):Prop:=∀ b,H b=none∨∃ o xs,H b=some (.frz o (.lst xs))
theorem law_call {P:Program} {w:World} {K:PySem.W.Frag} {mg mb:Str→Option Value} {CX:CXT} {k:Nat} {fa a:Addr} {fd:FuncData} {x:Str} {sp:Sp} {s₁:Shared} {vs:List Value} {ns:List Int}
    (KX:K.In s₁.heap) (hns:s₁.heap.Ns mainGlobals mg) (hb:s₁.heap.Ns builtinsNs mb) (hbb:∀ x:Str,x ≠ "__name__" → mb x=bootBuiltins x) (hlim:s₁.heap.NoLimit) (hg:s₁.gens=#[])
    (ha:s₁.heap.get? a=some { cls:=.type "list", data:=.seq vs.toArray }) (hi:IntsAre vs ns) (hl:ns.length≤sizeLine) (hr:Room k callerA)
    (F:∀ base:Heap,K.In base→base.Ns mainGlobals mg→FnOk P w K mg base CX k fa fd [x] sp) (hbind:∀ (s:Shared) (u:Value),BindsTo s fd ⟨[u],[]⟩ [(x,u)])
    (hsp:∀ H:Hp,Only H→SqL K H a (ns.map V.int)→sp [.ref a] H (fun v _=>v=.bl true) fun _ _ _=>False)
    (hCX:∀ H e s',CX [] H s₁ (fun _ _ _=>False) e s'→False) :
    codeAny (model P w) callerA (.call (.ref fa) ⟨[.ref a],[]⟩) (fun r s'=>r=.ok (.ret (.bool true))∧OldK s₁.heap s'.heap∧s'.os=s₁.os∧AllBare s'.gens) s₁:=by
  have rv:=vals_ints hi
  have lenV:=hi.length
  have core:∀ H:Hp,Only H→SqL K H a (ns.map V.int)→HOk P w H s₁.heap→(∀ b,H b≠none→b=a)→(H a≠none→K.lookup a=none) →
      codeAny (model P w) callerA (.call (.ref fa) ⟨[.ref a],[]⟩) (fun r s'=>r=.ok (.ret (.bool true))∧OldK s₁.heap s'.heap∧s'.os=s₁.os∧AllBare s'.gens) s₁:=by
    intro H hO hS hok hA hK
    have base_of:∀ {b:Addr} {o:Obj},s₁.heap.get? b=some o→H b=none→(hidT s₁.heap H).get? b=some o:=fun e n=>hidT_get e n
    have noA:∀ {b:Addr} {o:Obj} {es:Array DictEntry} {ep:Nat},s₁.heap.get? b=some o→o.data=.dict es ep→H b=none:=fun {b o es ep} e d=>by
      cases q:H b with
      | none=>rfl
      | some u=>
        have e':b=a:=hA b (by rw [q];simp)
        subst e'
        rw [ha] at e;cases e
        have d':Data.seq vs.toArray _=Data.dict es ep:=d
        cases d'
    have nsK:∀ {b:Addr} {m:Str→Option Value},s₁.heap.Ns b m→(hidT s₁.heap H).Ns b m:=fun {b m} ⟨o,es,ep,e,d,r⟩=>⟨o,es,ep,base_of e (noA e d),d,r⟩
    have hKb:K.In (hidT s₁.heap H):=fun b o e=>base_of (KX b o e) (by
      cases q:H b with
      | none=>rfl
      | some u=>
        have e':b=a:=hA b (by rw [q];simp)
        subst e'
        rw [hK (by rw [q];simp)] at e;cases e)
    have hM:Mod K mg (hidT s₁.heap H):=⟨hKb,nsK hns,⟨mb,nsK hb,hbb⟩,let ⟨mc,h1,h2⟩:=hlim;⟨mc,nsK h1,h2⟩⟩
    have e0:Env0 P w K mg (hidT s₁.heap H) callerA [] s₁ H:=⟨rfl,hM,fun b o e=>of_hidT e,Nat.le_of_eq (hidT_size _ _),trivial,fun b hb=>absurd (show b∈([]:List Addr) from hb) (by simp),hok,.of_eq hg⟩
    refine codeAny_mono ((F _ hKb (nsK hns)).run callerA [] s₁ H ⟨[.ref a],[]⟩ [.ref a] [.ref a] _ _ hr e0 (hbind s₁ (.ref a)) (.cons rfl .nil) (hsp H hO hS)) fun r s' h=>?_
    cases r with
    | error e=>exact (hCX H e s' h).elim
    | ok fl=>
      cases fl with
      | next=>exact False.elim h
      | brk=>exact False.elim h
      | cont=>exact False.elim h
      | ret u=>
        obtain ⟨v,H',os,bare,un,hok',r',q⟩:=h
        have q':v=.bl true:=q
        subst q'
        obtain rfl:u=Value.bool true:=r'
        refine ⟨rfl,OldK.of_keep fun b o e=>?_,os,bare⟩
        cases q:H b with
        | none=>exact un.keep b o e q (by intro z;exact absurd (show b∈([]:List Addr) from z) (by simp)) (by simp)
        | some u=>
          rcases hO b with z | ⟨ob,xs,z⟩
          · rw [q] at z;cases z
          · have z2:=un.frzs b ob _ z
            obtain ⟨e1,_⟩:=hok b _ z
            obtain ⟨e2,_⟩:=hok' b _ z2
            rw [e] at e1;cases e1
            exact e2
  cases hk:K.lookup a with
  | some o=>
    have e:=KX a o hk
    rw [ha] at e
    cases e
    refine core (fun _=>none) (fun _=>.inl rfl) (.inr ⟨_,vs.toArray,_,hk,rfl,rfl,rfl,by rw [List.size_toArray,lenV];exact hl,by simpa using rv⟩) (fun b u z=>by have z':(none:Option HO)=some u:=z;cases z') (fun b z=>absurd rfl z) fun z=>absurd rfl z
  | none=>
    refine core (fun b=>if b=a then some (.frz { cls:=.type "list", data:=.seq vs.toArray } (.lst (ns.map V.int))) else none) (fun b=>?_) (.inl (.inr ⟨{ cls:=.type "list", data:=.seq vs.toArray },if_pos rfl⟩)) (fun b u z=>?_) (fun b z=>?_) fun _=>hk
    · by_cases hb:b=a
      · exact .inr ⟨_,_,if_pos hb⟩
      · exact .inl (if_neg hb)
    · by_cases hb:b=a
      · have z':=(if_pos hb).symm.trans z
        cases z'
        subst hb
        exact ⟨ha,by rw [List.length_map];exact hl,vs,_,rv,ha⟩
      · have z':=(if_neg hb).symm.trans z
        cases z'
    · by_cases hb:b=a
      · exact hb
      · exact absurd (if_neg hb) z
end L2
namespace L2
open PySem PySem.Spec PyProof.Rows
abbrev KOf {K:PySem.W.Frag} {h:Heap} (_:K.In h):PySem.W.Frag:=K
theorem walk_of {l:PySem.W.OpenLaw} {n k:Nat} {q:Program} {loose:List Str} {XP:(Str→Option Value)→Heap→Prop} {YP:World→Heap→Prop} {d:DefRec} {K:Params→PySem.W.Frag} {CX:World→CXT} {sp:World→Sp} {x:Str}
    (hn:l.most=some n) (hn2:n≤sizeLine) (hdf:d.params.defaults=[]) (hr:Room k callerA)
    (hY:∀ (w:World) (h:Heap),YP w h→(K w.params).In h)
    (F:∀ (w:World) (mg:Str→Option Value) (fa:Addr) (h:Heap),(K w.params).In h→h.Ns mainGlobals mg→mg d.name=some (.ref fa) →
      ∃ fd:FuncData,(∀ (s:Shared) (u:Value),BindsTo s fd ⟨[u],[]⟩ [(x,u)]) ∧
        ∀ base:Heap,(K w.params).In base→base.Ns mainGlobals mg→FnOk l.prog w (K w.params) mg base (CX w) k fa fd [x] (sp w))
    (hsp:∀ (w:World) (H:Hp) (a:Addr) (ns:List Int),ns.length≤n→Only H→SqL (K w.params) H a (ns.map V.int)→sp w [.ref a] H (fun v _=>v=.bl true) fun _ _ _=>False)
    (hCX:∀ (w:World) (H:Hp) (s:Shared) (e:Value) (s':Shared),CX w [] H s (fun _ _ _=>False) e s'→False) :
    PySem.W.WalkO q loose XP YP l.row.toRowW d [] (fun f vs=>PySem.call f vs):=by
  refine Att.attach_call hn hdf fun w s₀ s₁ mg mb fa o pm cd doc a vs ns G Y ho hd hcd hmg hobj hints hlen hg=>?_
  have KX:=hY w _ Y
  obtain ⟨fd,hb,hF⟩:=F w mg fa _ KX G.T.g hmg
  exact law_call KX G.T.g G.T.b G.T.builtins G.T.nolimit hg hobj hints (Nat.le_trans hlen hn2) hr hF hb (fun H hO hS=>hsp w H a ns hlen hO hS) fun H e s'=>hCX w H s₁ e s'
theorem walk_ofK {l:PySem.W.OpenLaw} {n k:Nat} {q:Program} {loose:List Str} {XP:(Str→Option Value)→Heap→Prop} {YP:World→Heap→Prop} {d:DefRec} {K:Params→PySem.W.Frag} {CX:CXT} {sp:PySem.W.Frag→Sp} {x:Str}
    (hn:l.most=some n) (hn2:n≤sizeLine) (hdf:d.params.defaults=[]) (hr:Room k callerA)
    (hY:∀ (w:World) (h:Heap),YP w h→(K w.params).In h)
    (F:∀ (w:World) (mg:Str→Option Value) (fa:Addr) (h:Heap),(K w.params).In h→h.Ns mainGlobals mg→mg d.name=some (.ref fa) →
      ∃ fd:FuncData,(∀ (s:Shared) (u:Value),BindsTo s fd ⟨[u],[]⟩ [(x,u)]) ∧
        ∀ base:Heap,(K w.params).In base→base.Ns mainGlobals mg→FnOk l.prog w (K w.params) mg base CX k fa fd [x] (sp (K w.params)))
    (hsp:∀ (K:PySem.W.Frag) (H:Hp) (a:Addr) (ns:List Int),ns.length≤n→Only H→SqL K H a (ns.map V.int)→sp K [.ref a] H (fun v _=>v=.bl true) fun _ _ _=>False)
    (hCX:∀ (H:Hp) (s:Shared) (e:Value) (s':Shared),CX [] H s (fun _ _ _=>False) e s'→False) :
    PySem.W.WalkO q loose XP YP l.row.toRowW d [] (fun f vs=>PySem.call f vs):=
  walk_of (K:=K) (CX:=fun _=>CX) (sp:=fun w=>sp (K w.params)) hn hn2 hdf hr hY F (fun w H a ns h1 h2 h3=>hsp (K w.params) H a ns h1 h2 h3) fun _ H s e s'=>hCX H s e s'
end L2
namespace L2
open PySem PySem.Spec PyProof.Rows
def inClass (s:Stmt) (j:Nat):Stmt:=match s with
  | .ClassDef _ _ _ body _ _ _ _ _ _ _=>body.getD j (.Pass ⟨0,0,0,0⟩)
  | _=>.Pass ⟨0,0,0,0⟩
def defArgs (s:Stmt):Arguments:=match s with
  | .FunctionDef _ a _ _ _ _ _ _ _ _=>a
  | _=>{ posonlyargs:=[],args:=[],vararg:=none,kwonlyargs:=[],kw_defaults:=[],kwarg:=none,defaults:=[] }
def defBody (s:Stmt):List Stmt:=match s with
  | .FunctionDef _ _ b _ _ _ _ _ _ _=>b
  | _=>[]
def defScope (s:Stmt):Scope:=match s with
  | .FunctionDef _ _ _ _ _ _ sc _ _ _=>sc
  | _=>{ kind:=.function,names:=[],isGenerator:=false,isCoroutine:=false }
abbrev CX0:CXT:=fun _ _ _ _ _ _=>False
abbrev E0:XK:=fun _ _ _=>False
theorem pass0 {X:Cx}:Passes CX0 X E0:=fun _ _ _ _ _ _ _ h=>h.elim
structure Fun (K:PySem.W.Frag) (x qual:Str) (st:Stmt) (f:Addr) (fd:FuncData):Prop where
  ex:∃ (oc:Value) (od:Option Addr) (kV doc pm:Value) (an:Option Addr) (cdv ct:Value) (osl:Array (Option Value)),
    fd=PySem.W.fnOf x qual (defArgs st) (defBody st) (defScope st) .none kV doc pm an cdv ct∧K.lookup f=some ⟨oc,od,.func fd,osl⟩∧PySem.W.codeIn K cdv qual=true
  kp:PySem.W.keepIn K (.ref f)=true
section
variable {P:Program} {w:World} {K:PySem.W.Frag} {mg:Str→Option Value} {base:Heap}
theorem Fun.ok {x qual:Str} {st:Stmt} {f:Addr} {fd:FuncData} {N ps:List Str} {k:Nat} {sp:Sp} (F:Fun K x qual st f fd) (S:FnScope N ps (defScope st)) (len:∀ vs H Q E,sp vs H Q E→vs.length=ps.length)
    (hbody:∀ (cdv:Value) (A:Around) (outer:List Env) (s:Shared) (H:Hp) (vs:List V) (Q:VK) (E:XK),Room k (A.deeper (envOfC qual (defScope st) s.heap.objs.size f cdv))→sp vs H Q E →
      ∃ t,PSs (cxOf CX0 P w K mg base N qual (defScope st) f cdv A outer s H E).nox (defBody st) t∧t { nx:=fun _ H'=>Q .non H',rt:=Q } (start N vs) H):FnOk P w K mg base CX0 (k+1) f fd ps sp:=by
  obtain ⟨oc,od,kV,doc,pm,an,cdv,ct,osl,rfl,lk,hcd⟩:=F.ex
  refine fn_of lk hcd S len fun A outer s H vs Q E hr hsp=>?_
  obtain ⟨t,h,q⟩:=hbody cdv A outer s H vs Q E hr hsp
  exact ⟨t,h.nox,q⟩
theorem Fun.binds {x qual:Str} {st:Stmt} {f:Addr} {fd:FuncData} {ps:List Str} (F:Fun K x qual st f fd)
    (h:∀ (kV doc pm:Value) (an:Option Addr) (cdv ct:Value) (us:List Value),us.length=ps.length→bindArgs (PySem.W.fnOf x qual (defArgs st) (defBody st) (defScope st) .none kV doc pm an cdv ct) ⟨us,[]⟩=pure (ps.zip us)):Binds K fd ps []:=by
  obtain ⟨oc,od,kV,doc,pm,an,cdv,ct,osl,rfl,lk,hcd⟩:=F.ex
  exact .all (h kV doc pm an cdv ct)
theorem fun_mk {x qual:Str} {st:Stmt} {f:Addr} {oc:Value} {od an:Option Addr} {osl:Array (Option Value)} {kV doc pm cdv ct:Value} (l:K.lookup f=some ⟨oc,od,.func (PySem.W.fnOf x qual (defArgs st) (defBody st) (defScope st) .none kV doc pm an cdv ct),osl⟩)
    (c:PySem.W.codeIn K cdv qual=true) (k:PySem.W.keepIn K (.ref f)=true):Fun K x qual st f (PySem.W.fnOf x qual (defArgs st) (defBody st) (defScope st) .none kV doc pm an cdv ct):=⟨⟨oc,od,kV,doc,pm,an,cdv,ct,osl,rfl,l,c⟩,k⟩
end
theorem small1000 {n:Nat} (h:n≤1000):n < sizeLine:=Nat.lt_of_le_of_lt h (by decide)
section
variable {X:Cx}
theorem pv (i:Nat) {x:Str} {pos:Pos} (hN:X.N[i]?=some x:=by rfl) (hv:Vis X.env.scope x:=by first | exact Or.inl rfl | exact Or.inr (Or.inl rfl) | exact Or.inr (Or.inr rfl)) (hd:(x == ("__debug__" : Str))=false:=by decide)
    (hcd:(x == ("__classdict__" : Str))=false:=by decide):PE X (.Name x pos) (tVar i):=pe_var hN hv hd hcd
end
theorem iteF {A B:Prop} (h:B):if false=true then A else B:=by
  rw [if_neg Bool.false_ne_true]
  exact h
theorem iteT {A B:Prop} (h:A):if true=true then A else B:=by
  rw [if_pos rfl]
  exact h
theorem ite2 {c A B:Prop} [Decidable c] (h1:c→A) (h2:¬ c→B):if c then A else B:=by
  by_cases h:c
  · rw [if_pos h]
    exact h1 h
  · rw [if_neg h]
    exact h2 h
def Same (H H':Hp):Prop:=∀ b o,H b=some o→H' b=some o
theorem Same.refl (H:Hp):Same H H:=fun _ _ h=>h
theorem Same.trans {H H1 H2:Hp} (a:Same H H1) (b:Same H1 H2):Same H H2:=fun c o h=>b c o (a c o h)
theorem Same.free {H H':Hp} (e:Same H H') {l:Addr} (h:H' l=Option.none):H l=Option.none:=by
  cases q:H l with
  | none=>rfl
  | some o=>
    rw [e l o q] at h
    cases h
end L2
set_option maxHeartbeats 16000000
namespace L2
open PySem PySem.Spec PyProof.Rows
theorem lookup_mem {α:Type}:∀ {cl:List (Str × α)} {x:Str} {c:α},cl.lookup x=some c→(x,c)∈cl
  | [],_,_,h=>by simp at h
  | (y,d) :: r,x,c,h=>by
    rw [List.lookup_cons] at h
    cases e:x == y with
    | true=>
      rw [e] at h
      have e':x=y:=eq_of_beq e
      cases h
      rw [e'];exact List.mem_cons_self
    | false=>
      rw [e] at h
      exact List.mem_cons_of_mem _ (lookup_mem h)
theorem lookup_of_mem {α:Type}:∀ {cl:List (Str × α)} {x:Str} {c:α},(x,c)∈cl→∃ c',cl.lookup x=some c'
  | [],_,_,h=>nomatch h
  | (y,d) :: r,x,c,h=>by
    rw [List.lookup_cons]
    cases e:x == y with
    | true=>exact ⟨d,rfl⟩
    | false=>
      rcases List.mem_cons.mp h with h | h
      · cases h
        simp at e
      · exact lookup_of_mem h
theorem closure_go {env:Env} {f:(Str × NameKind)→List (Str × Addr)→Sem (ForInStep (List (Str × Addr)))}
    (h1:∀ x k cs,k≠NameKind.free→f (x,k) cs=pure (.yield cs)) (h2:∀ x cs c,env.cells.lookup x=some c→f (x,NameKind.free) cs=pure (.yield ((x,c) :: cs))) :
    ∀ (names:List (Str × NameKind)) (acc:List (Str × Addr)),(∀ x,(x,NameKind.free)∈names→∃ c,env.cells.lookup x=some c) →
      ∃ cl,forIn names acc f=pure cl∧(∀ p∈cl,p∈acc∨env.cells.lookup p.1=some p.2)∧(∀ p∈acc,p∈cl)∧∀ x,(x,NameKind.free)∈names→∃ c,(x,c)∈cl
  | [],acc,_=>⟨acc,rfl,fun _ h=>.inl h,fun _ h=>h,fun _ h=>nomatch h⟩
  | (x,k) :: r,acc,h=>by
    by_cases hk:k=NameKind.free
    · subst hk
      obtain ⟨c,hc⟩:=h x List.mem_cons_self
      obtain ⟨cl,e,a,b,d⟩:=closure_go h1 h2 r ((x,c) :: acc) fun y hy=>h y (List.mem_cons_of_mem _ hy)
      refine ⟨cl,?_,fun p hp=>?_,fun p hp=>b p (List.mem_cons_of_mem _ hp),fun y hy=>?_⟩
      · rw [List.forIn_cons,h2 x acc c hc,pure_bind];exact e
      · rcases a p hp with q | q
        · rcases List.mem_cons.mp q with q | q
          · subst q;exact .inr hc
          · exact .inl q
        · exact .inr q
      · rcases List.mem_cons.mp hy with q | q
        · cases q;exact ⟨c,b _ List.mem_cons_self⟩
        · exact d y q
    · obtain ⟨cl,e,a,b,d⟩:=closure_go h1 h2 r acc fun y hy=>h y (List.mem_cons_of_mem _ hy)
      refine ⟨cl,?_,a,b,fun y hy=>?_⟩
      · rw [List.forIn_cons,h1 x k acc hk,pure_bind];exact e
      · rcases List.mem_cons.mp hy with q | q
        · cases q;exact absurd rfl hk
        · exact d y q
theorem closure_ok {scope:Scope} {env:Env} (h:∀ x,(x,NameKind.free)∈scope.names→∃ c,env.cells.lookup x=some c) :
    ∃ cl,closureFor scope env=pure cl∧(∀ x c,cl.lookup x=some c→env.cells.lookup x=some c)∧∀ x,(x,NameKind.free)∈scope.names→∃ c,cl.lookup x=some c:=by
  have go:=closure_go (env:=env) (f:=fun x cs=>match x with | (name,kind)=>if (kind == NameKind.free)=true then do let a ← cellOf env name;pure (.yield ((name,a) :: cs)) else pure (.yield cs))
    (fun x k cs hk=>by
      have:(k == NameKind.free)=false:=by simpa using hk
      simp only [this,Bool.false_eq_true,if_false])
    (fun x cs c hc=>by
      simp only [beq_self_eq_true,if_true]
      unfold cellOf
      rw [hc,pure_bind])
    scope.names [] h
  obtain ⟨cl,e,a,_,d⟩:=go
  refine ⟨cl,?_,fun x c hx=>?_,fun x hx=>?_⟩
  · unfold closureFor
    simp only [bind_pure]
    exact e
  · rcases a _ (lookup_mem hx) with q | q
    · exact nomatch q
    · exact q
  · obtain ⟨c,hc⟩:=d x hx
    exact lookup_of_mem hc
theorem relabel_lookup {env:Env} {x:Str} {k:NameKind}:∀ {names:List (Str × NameKind)},
    (names.map fun (n,k)=>if (k == NameKind.free && env.scope.kind == .function && env.kindOf n == some .cell) then (n,NameKind.cell) else (n,k)).lookup x=some k →
      names.lookup x=some k∨(k=.cell∧names.lookup x=some .free)
  | [],h=>by simp at h
  | (n,j) :: r,h=>by
    have ih:=@relabel_lookup env x k r
    rw [List.lookup_cons]
    change List.lookup x ((if (j == NameKind.free && env.scope.kind == .function && env.kindOf n == some .cell)=true then (n,NameKind.cell) else (n,j)) :: _)=_ at h
    by_cases hc:(j == NameKind.free && env.scope.kind == .function && env.kindOf n == some .cell)=true
    · rw [if_pos hc,List.lookup_cons] at h
      have hj:j=NameKind.free:=by
        simp only [Bool.and_eq_true] at hc
        exact eq_of_beq hc.1.1
      cases hx:x == n with
      | true=>rw [hx] at h;cases h;exact .inr ⟨rfl,by rw [hj]⟩
      | false=>rw [hx] at h;exact ih h
    · rw [if_neg hc,List.lookup_cons] at h
      cases hx:x == n with
      | true=>rw [hx] at h;exact .inl h
      | false=>rw [hx] at h;exact ih h
def cxComp (X:Cx) (scope:Scope) (NL:List Str) (ix:List Nat) (cl:List (Str × Addr)) (C:Addr) (s₃:Shared) (H₃:Hp) (fp:List Addr) (pins:List (Addr × Obj)):Cx where
  prog:=X.prog
  w:=X.w
  K:=X.K
  mg:=X.mg
  base:=X.base
  A:=X.A
  N:=NL++ix.map fun j=>X.N.getD j ""
  s₀:=s₃
  H₀:=H₃
  env:=compEnvC scope cl C X.env
  outer:=X.stack
  stack:=X.stack
  ex:=fp
  fn:=fun _=>false
  calm:=X.calm
  pn:=X.pn++pins
  xe:=fun _ _=>False
def comp0 (NL:List Str) (ix:List Nat) (σ:St):St:=NL.map (fun _=>none)++ix.map fun j=>σ.getD j none
def PIfs (X:Cx) (ifs:List Expr) (t:TT):Prop:=
  ∀ (pins:List (Addr × Obj)) (s:Shared) (σ:St) (H:Hp) (Q:Bool→Hp→Prop),Inv X pins σ H s→t σ H Q →
    wpAny (model X.prog X.w) X.A (forIn ifs true fun c r=>if r=true then do let ok ← isTrue c X.env (eval c X.env);pure (ForInStep.yield ok) else pure (ForInStep.yield r)) (TP X pins σ Q) X.xe s
def tYes:TT:=fun _ H Q=>Q true H
theorem pifs_nil {X:Cx}:PIfs X [] tYes:=fun _ _ _ H _ I h=>wpAny_tests_nil ⟨H,I,h⟩
def tComp (NL:List Str) (ix:List Nat) (wi:TI) (g:TG) (tt:TT) (te:TE):TE:=fun σ H Q=>
  wi σ H fun J H1=>∀ acc,H1 acc=none→∃ W:Nat→Nat→List V→Hp→Prop,(∃ m,W 0 m [] (upd H1 acc (.lst []))) ∧
    ∀ i m ys H2,W i m ys H2→H2 acc=some (.lst ys)∧ys.length < sizeLine ∧
      ((J.stop i H2∧Q (.ref acc) H2)∨(J.go i H2∧∃ N:List V→Hp→Prop,(∀ ys' H',N ys' H'→∃ m',m' < m∧W (i+1) m' ys' H') ∧
        ∀ x H3,J.yld i H2 x H3→g x (comp0 NL ix σ) H3 fun σ' H4=>σ'.drop NL.length=ix.map (fun j=>σ.getD j none)∧tt σ' H4 fun b H5=>
          if b=true then te σ' H5 fun v H6=>H6 acc=some (.lst ys)∧N (ys++[v]) (upd H6 acc (.lst (ys++[v]))) else N ys H5))
section
variable {X:Cx} {pins:List (Addr × Obj)} {σ:St} {H:Hp} {s:Shared}
structure CompScope (X:Cx) (scope:Scope) (NL:List Str) (ix:List Nat):Prop where
  kind:scope.kind=.function
  cell:∀ y∈scope.names,y.2≠.cell
  names:∀ y∈scope.names,y.2=.local→scope.names.lookup y.1=some .local
  free:∀ y∈scope.names,y.2=.free→X.env.kindOf y.1=some .cell∨X.env.kindOf y.1=some .free
  cap:∀ j∈ix,∃ x,X.N[j]?=some x∧scope.names.lookup x=some .free
theorem comp_inv {scope:Scope} {NL:List Str} {ix:List Nat} {cl:List (Str × Addr)} {fp:List Addr} {tn:Nat→Heap→Prop} {s₃:Shared} {h₁:Heap} {m:Str→Option Value} {tk:Nat}
    (S:CompScope X scope NL ix) (I:Inv X pins σ H s₃) (c1:∀ x c,cl.lookup x=some c→X.env.cells.lookup x=some c) (c2:∀ x,(x,NameKind.free)∈scope.names→∃ c,cl.lookup x=some c)
    (hf:∀ b∈fp,FpOk X pins H b) (ho:∀ b∈fp,∃ o,s₃.heap.get? b=some o) (hn:h₁.Ns s₃.heap.objs.size m) (old:∀ b o,s₃.heap.get? b=some o→h₁.get? b=some o) :
    Inv (cxComp X scope NL ix cl s₃.heap.objs.size s₃ H fp pins) [] (comp0 NL ix σ) H { s₃ with heap:=h₁,toks:=tk }:=by
  have e0:=I.env0
  have lt:∀ b o,s₃.heap.get? b=some o→b≠s₃.heap.objs.size:=fun b o e=>Nat.ne_of_lt (Heap.lt_size e)
  have nst:∀ b,b≠X.env.locals→b ∉ X.fs→b ∉ frs X.stack:=fun b h1 h2 h3=>(List.mem_cons.mp (I.stkSub b h3)).elim h1 h2
  have ok:(cxComp X scope NL ix cl s₃.heap.objs.size s₃ H fp pins).Ok:=
    { mod:=I.ok.mod
      kind:=S.kind
      glob:=I.ok.glob
      blt:=I.ok.blt
      above:=Nat.le_refl _
      inj:=fun x y c h1 h2=>I.ok.inj x y c (c1 x c h1) (c1 y c h2)
      has:=fun x hx=>by
        have hfree:scope.names.lookup x=some .free:=by
          rcases hx with hx | hx
          · rcases relabel_lookup hx with q | ⟨_,q⟩
            · exact absurd rfl (S.cell _ (lookup_mem q))
            · exact q
          · rcases relabel_lookup hx with q | ⟨z,_⟩
            · exact q
            · cases z
        exact c2 x (lookup_mem hfree)
      cab:=fun _ _ z=>nomatch z
      hd:=I.ok.hd
      frames:=I.ok.frames
      stk:=.inl rfl
      exf:=fun b hb=>⟨let ⟨o,e⟩:=ho b hb;lt b o e,fun x c hx=>(hf b hb).2.2.2.2.1 x c (c1 x c hx)⟩
      bs:=I.bs
      bsz:=e0.bsz
      noex:=fun b o e hb=>by
        rcases (hf b hb).2.2.2.1 with z | z
        · exact I.ok.noex b o e z
        · exact absurd (Nat.lt_of_lt_of_le (Heap.lt_size e) (Nat.le_trans I.ok.bsz z)) (Nat.lt_irrefl _)
      exfs:=fun b hb=>nst b (hf b hb).2.1 (hf b hb).2.2.1
      funs:=e0.funs
      frf:=e0.frf }
  refine ⟨ok,rfl,I.bare,Un.kept old,⟨m,hn,fun i x v e1 e2 e3=>?_⟩,fun x c e=>?_,I.hok.fresh (Nat.le_refl _),fun x c e=>I.freeC x c (c1 x c e),fun p hp=>?_,I.hok.kept old,?_⟩
  · have hl:NL.length≤i:=by
      rcases Nat.lt_or_ge i NL.length with z | z
      · exfalso
        unfold comp0 at e2
        rw [List.getElem?_append_left (by simpa using z),List.getElem?_map] at e2
        cases q:NL[i]? with
        | none=>rw [q] at e2;cases e2
        | some y=>rw [q] at e2;cases e2
      · exact z
    unfold comp0 at e2
    rw [List.getElem?_append_right (by simpa using hl),List.length_map,List.getElem?_map] at e2
    change (NL++ix.map fun j=>X.N.getD j "")[i]?=some x at e1
    rw [List.getElem?_append_right hl,List.getElem?_map] at e1
    cases q:ix[i - NL.length]? with
    | none=>rw [q] at e1;cases e1
    | some j=>
      rw [q] at e1 e2
      have e1':X.N.getD j "" = x:=Option.some.inj e1
      have e2':σ.getD j none=some v:=Option.some.inj e2
      obtain ⟨x',hx',hfr⟩:=S.cap j (List.mem_of_getElem? q)
      have exx:x'=x:=by
        rw [← e1',List.getD_eq_getElem?_getD,hx'];rfl
      subst exx
      have hσ:σ[j]?=some (some v):=by
        rw [List.getD_eq_getElem?_getD] at e2'
        cases z:σ[j]? with
        | none=>rw [z] at e2';cases e2'
        | some o=>rw [z] at e2';exact congrArg some e2'
      have kd:=S.free _ (lookup_mem hfr) rfl
      have vis:Vis X.env.scope x':=by
        rcases kd with z | z
        · exact .inr (.inl z)
        · exact .inr (.inr z)
      obtain ⟨m',hn',hl'⟩:=I.loc
      obtain ⟨u,r,l⟩:=hl' j x' v hx' hσ vis
      refine ⟨u,r,.inr ?_⟩
      have hk':(compEnvC scope cl s₃.heap.objs.size X.env).kindOf x'=some .cell∨(compEnvC scope cl s₃.heap.objs.size X.env).kindOf x'=some .free:=by
        rcases e3 with z | z | z
        · rcases relabel_lookup z with w | ⟨w,_⟩
          · rw [hfr] at w;cases w
          · cases w
        · exact .inl z
        · exact .inr z
      refine ⟨hk',?_⟩
      obtain ⟨c,hc⟩:=c2 x' (lookup_mem hfr)
      rcases l with ⟨k,_⟩ | ⟨k,c',ec,o,ho',hd⟩
      · rcases kd with z | z
        · rw [k] at z;cases z
        · rw [k] at z;cases z
      · have:c'=c:=by
          have:=c1 x' c hc
          rw [ec] at this
          exact Option.some.inj this
        subst this
        exact ⟨c',hc,o,old _ _ ho',hd⟩
  · obtain ⟨v,o,ho',hd⟩:=I.cell x c (c1 x c e)
    exact ⟨v,o,old _ _ ho',hd⟩
  · have hp':p∈X.pn++pins:=by
      rcases List.mem_append.mp hp with z | z
      · exact z
      · exact nomatch z
    obtain ⟨e,n,ne,nf,d⟩:=I.pin p hp'
    exact ⟨old _ _ e,n,lt _ _ e,nst _ ne nf,d⟩
  · show (NL.map (fun _=>(none:Option V))++ix.map fun j=>σ.getD j none).length=(NL++ix.map fun j=>X.N.getD j "").length
    simp
theorem comp_run {scope:Scope} {NL:List Str} {ix:List Nat} {elt tg iter:Expr} {ifs:List Expr} {pos:Pos} {g:TG} {tt:TT} {te:TE} {cl:List (Str × Addr)} {fp:List Addr} {it:Addr} {tn:Nat→Heap→Prop} {J:It} {Q:VK}
    {E:Value→Shared→Prop} {RR:Value→Addr→Result→Shared→Prop}
    (hc:X.calm=true) (S:CompScope X scope NL ix) (c1:∀ x c,cl.lookup x=some c→X.env.cells.lookup x=some c) (c2:∀ x,(x,NameKind.free)∈scope.names→∃ c,cl.lookup x=some c)
    (hb:∀ (cl:List (Str × Addr)) (C:Addr) (s₃:Shared) (H₃:Hp) (fp:List Addr) (pins:List (Addr × Obj)),PG (cxComp X scope NL ix cl C s₃ H₃ fp pins) tg g∧PIfs (cxComp X scope NL ix cl C s₃ H₃ fp pins) ifs tt∧PE (cxComp X scope NL ix cl C s₃ H₃ fp pins) elt te)
    (I:Inv X pins σ H s) (T:Turn X.prog X.w X.K tg J fp it tn) (st:tn 0 s.heap) (hf:∀ b∈fp,FpOk X pins H b)
    (q:∀ acc,H acc=none→∃ W:Nat→Nat→List V→Hp→Prop,(∃ m,W 0 m [] (upd H acc (.lst []))) ∧
      ∀ i m ys H2,W i m ys H2→H2 acc=some (.lst ys)∧ys.length < sizeLine ∧
      ((J.stop i H2∧Q (.ref acc) H2)∨(J.go i H2∧∃ N:List V→Hp→Prop,(∀ ys' H',N ys' H'→∃ m',m' < m∧W (i+1) m' ys' H') ∧
        ∀ x H3,J.yld i H2 x H3→g x (comp0 NL ix σ) H3 fun σ' H4=>σ'.drop NL.length=ix.map (fun j=>σ.getD j none)∧tt σ' H4 fun b H5=>
          if b=true then te σ' H5 fun v H6=>H6 acc=some (.lst ys)∧N (ys++[v]) (upd H6 acc (.lst (ys++[v]))) else N ys H5)))
    (hRR:∀ (acc C:Addr) (H':Hp) (s':Shared) (m':Str→Option Value),Inv X pins σ H' s'→s'.heap.Ns C m'→FpOk X pins H' C→Q (.ref acc) H'→RR (.ref acc) C (.ok .next) s') :
    wpAny (model X.prog X.w) X.A (newList []) (fun acc s₃=>wpAny (model X.prog X.w) X.A (newFunctionEnv scope X.env.globals cl [] X.env.qual none .none (some X.env)) (fun cenv s₄=>
      codeAny (model X.prog X.w) X.A (.compStart (.ListComp elt [⟨tg,iter,ifs,0⟩] scope pos) 0 (.ref it) acc { cenv with scope:=relabel scope X.env }) (RR acc cenv.locals) s₄) E s₃) E s:=by
  refine wpAny_newObj_type (wpAny_newFunctionEnv S.cell (by intro y hy;simp at hy) (fun h₁ hns₁ hsb₁=>?_) S.kind)
  have I3:Inv X pins σ (upd H s.heap.objs.size (.lst [])) { s with heap:=s.heap.push { cls:=.type "list", data:=.seq ([]:List Value).toArray },toks:=s.toks }:=I.lnew (its:=[]) .nil (Nat.zero_le _)
  have hfr:H s.heap.objs.size=none:=I.hok.fresh (Nat.le_refl _)
  generalize hs3:({ s with heap:=s.heap.push { cls:=.type "list", data:=.seq ([]:List Value).toArray },toks:=s.toks }:Shared)=s₃ at I3
  have hsz:s₃.heap.objs.size=s.heap.objs.size+1:=by rw [← hs3];exact Heap.size_push ..
  have old1:∀ b o,s.heap.get? b=some o→s₃.heap.get? b=some o:=fun b o e=>by rw [← hs3];exact Heap.get?_push_of_some _ e
  have key:codeAny (model X.prog X.w) X.A (.compStart (.ListComp elt [⟨tg,iter,ifs,0⟩] scope pos) 0 (.ref it) (.ref s.heap.objs.size) (compEnvC scope cl s₃.heap.objs.size X.env))
      (RR (.ref s.heap.objs.size) s₃.heap.objs.size) { s₃ with heap:=h₁,toks:=s₃.toks+0 }:=by
    have hns:h₁.Ns s₃.heap.objs.size (fun _=>none):=by
      have:=hns₁
      rw [← hs3]
      exact this
    have hsb:Heap.SameBut s₃.heap.objs.size (s₃.heap.push { cls:=.type "dict", data:=.dict #[] }) h₁:=by
      have:=hsb₁
      rw [← hs3]
      exact this
    have old:∀ b o,s₃.heap.get? b=some o→h₁.get? b=some o:=fun b o e=>hsb.extBut b o (Nat.ne_of_lt (Heap.lt_size e)) (Heap.get?_push_of_some _ e)
    have hf3:∀ b∈fp,FpOk X pins (upd H s.heap.objs.size (.lst [])) b:=fun b hb'=>by
      obtain ⟨o,e,_⟩:=T.obj 0 _ st b hb'
      have ne:b≠s.heap.objs.size:=Nat.ne_of_lt (Heap.lt_size e)
      exact ⟨by rw [upd_ne ne];exact (hf b hb').1,(hf b hb').2⟩
    have ho3:∀ b∈fp,∃ o,s₃.heap.get? b=some o:=fun b hb'=>by
      obtain ⟨o,e,_⟩:=T.obj 0 _ st b hb'
      exact ⟨o,old1 b o e⟩
    have st1:tn 0 h₁:=T.keep 0 _ _ st fun b hb' o e=>old b o (old1 b o e)
    have I4:=comp_inv (tn:=tn) (tk:=s₃.toks+0) S I3 c1 c2 hf3 ho3 hns old
    obtain ⟨W,⟨m0,w0⟩,turn⟩:=q s.heap.objs.size hfr
    obtain ⟨hg,ht,he⟩:=hb cl s₃.heap.objs.size s₃ (upd H s.heap.objs.size (.lst [])) fp pins
    generalize hX':cxComp X scope NL ix cl s₃.heap.objs.size s₃ (upd H s.heap.objs.size (.lst [])) fp pins=X' at I4 hg ht he
    have p1:X'.prog=X.prog:=by rw [← hX'];rfl
    have p2:X'.w=X.w:=by rw [← hX'];rfl
    have p3:X'.K=X.K:=by rw [← hX'];rfl
    have p4:X'.A=X.A:=by rw [← hX'];rfl
    have p5:X'.env=compEnvC scope cl s₃.heap.objs.size X.env:=by rw [← hX'];rfl
    have p6:X'.calm=true:=by rw [← hX'];exact hc
    have p7:X'.xe=fun _ _=>False:=by rw [← hX'];rfl
    have stat:∀ {H':Hp},(∀ b∈fp,H' b=none)→∀ b∈fp,FpOk X' [] H' b:=fun {H'} hn b hb'=>by
      have z:=hf3 b hb'
      obtain ⟨o,eo⟩:=ho3 b hb'
      rw [← hX']
      refine ⟨hn b hb',Nat.ne_of_lt (Heap.lt_size eo),fun q=>(List.mem_cons.mp (I3.stkSub b q)).elim z.2.1 z.2.2.1,.inl hb',fun x c hx=>z.2.2.2.2.1 x c (c1 x c hx),fun p hp=>?_⟩
      rcases List.mem_append.mp hp with w | w
      · exact z.2.2.2.2.2 p w
      · exact nomatch w
    have fin:∀ i n ys H' s',Inv X' [] (comp0 NL ix σ) H' s'→W i n ys H'→Q (.ref s.heap.objs.size) H'→RR (.ref s.heap.objs.size) s₃.heap.objs.size (.ok .next) s':=fun i n ys H' s' I' w' q'=>by
      obtain ⟨m',hn',_⟩:=I'.loc
      have hos:s'.os=s₃.os:=by have:=I'.os;rw [← hX'] at this;exact this
      have hu:Un (frs X.stack) fp (upd H s.heap.objs.size (.lst [])) H' s₃.heap s'.heap:=by have:=I'.base;rw [← hX'] at this;exact this
      have hk:HOk X.prog X.w H' s'.heap:=by have:=I'.hok;rw [← hX'] at this;exact this
      have hfC:H' s₃.heap.objs.size=none:=by have:=I'.free;rw [← hX'] at this;exact this
      have hnC:s'.heap.Ns s₃.heap.objs.size m':=by rw [p5] at hn';exact hn'
      exact hRR _ _ H' s' m' (I3.call' hos hu hk I'.bare fun b hb'=>⟨(hf3 b hb').2.2.2.1,(hf3 b hb').2.1,(hf3 b hb').2.2.2.2.1,(hf3 b hb').2.2.2.2.2⟩) hnC (I3.fpOk (Nat.le_refl _) hfC) q'
    have loop:∀ s₄:Shared,Inv X' [] (comp0 NL ix σ) (upd H s.heap.objs.size (.lst [])) s₄→tn 0 s₄.heap→codeAny (model X.prog X.w) X.A (.compLoop (.ListComp elt [⟨tg,iter,ifs,0⟩] scope pos) 0 (.ref it) (.ref s.heap.objs.size) (compEnvC scope cl s₃.heap.objs.size X.env))
        (RR (.ref s.heap.objs.size) s₃.heap.objs.size) s₄:=fun s₄ I4 st1=>by
      refine codeAny_loop rfl (fun n s'=>∃ i ys H',Inv X' [] (comp0 NL ix σ) H' s'∧tn i s'.heap∧(∀ b∈fp,H' b=none)∧W i n ys H') (fun n s' hI=>?_) m0 ⟨0,[],_,I4,st1,fun b hb'=>(hf3 b hb').1,w0⟩
      obtain ⟨i,ys,H',I',st',fr',w'⟩:=hI
      show wpAny _ X.A ((compTurn (.ListComp elt [⟨tg,iter,ifs,0⟩] scope pos) 0 (.ref it) (.ref s.heap.objs.size) (compEnvC scope cl s₃.heap.objs.size X.env)).onRaise (fun x=>do noteFrame x (compEnvC scope cl s₃.heap.objs.size X.env);theTreesLotGoes x)) _ _ s'
      refine wpAny_noted ?_
      rw [compTurn_list]
      obtain ⟨hacc,hz8,alt⟩:=turn i n ys H' w'
      rcases alt with ⟨stop,qn⟩ | ⟨go,N,hN,step⟩
      · have d:=T.done X' p1 p2 p3 p6 i [] s' (comp0 NL ix σ) H' (notedBy (model X.prog X.w) X.A (compEnvC scope cl s₃.heap.objs.size X.env) fun e s'=>RR (.ref s.heap.objs.size) s₃.heap.objs.size (.error e) s') I' (stat fr') st' stop
        rw [p4] at d
        refine wpAny_bind (wpAny_standAt (wpAny_bind (thn d fun r s1 ⟨hr,I1⟩=>?_)))
        subst hr
        exact wpAny_pure (fin i n ys H' s1 I1 w' qn)
      · have d:=T.item X' p1 p2 p3 p6 i [] s' (comp0 NL ix σ) H' (notedBy (model X.prog X.w) X.A (compEnvC scope cl s₃.heap.objs.size X.env) fun e s'=>RR (.ref s.heap.objs.size) s₃.heap.objs.size (.error e) s') I' (stat fr') st' go
        rw [p4] at d
        refine wpAny_bind (wpAny_standAt (wpAny_bind (thn d fun r s1 ⟨u,hr,h4⟩=>?_)))
        subst hr
        refine wpAny_bind (thn h4 fun _ s5 ⟨x,H5,I5,r5,y5,st5,fr5⟩=>?_)
        have I5':=I5.pinned (stat fr5) (T.obj _ _ st5)
        have nofail:∀ {α:Type} {t:Sem α} {R:α→Shared→Prop} {sx:Shared},wpAny (model X'.prog X'.w) X'.A t R X'.xe sx→wpAny (model X.prog X.w) X.A t R (notedBy (model X.prog X.w) X.A (compEnvC scope cl s₃.heap.objs.size X.env) fun e s'=>RR (.ref s.heap.objs.size) s₃.heap.objs.size (.error e) s') sx:=fun {α t R sx} hh=>by
          rw [p1,p2,p4,p7] at hh
          exact wpAny_mono hh (fun _ _ z=>z) fun _ _ z=>z.elim
        have again:∀ {σ7:St} {H7:Hp} {s7:Shared} {ys':List V},σ7.drop NL.length=ix.map (fun j=>σ.getD j none)→Inv X' ([]++pinsAt fp s5.heap) σ7 H7 s7→(∃ m',m' < n∧W (i+1) m' ys' H7)→∃ m,m < n∧∃ i ys H',Inv X' [] (comp0 NL ix σ) H' s7∧tn i s7.heap∧(∀ b∈fp,H' b=none)∧W i m ys H':=fun {σ7 H7 s7 ys'} hσ I7 n7=>by
          obtain ⟨m',hm,w7⟩:=n7
          have Iw:Inv X' ([]++pinsAt fp s5.heap) (comp0 NL ix σ) H7 s7:=I7.weak (by rw [I7.len,I'.len]) fun j v hj=>by
            have hlj:NL.length≤j:=by
              rcases Nat.lt_or_ge j NL.length with z | z
              · exfalso
                unfold comp0 at hj
                rw [List.getElem?_append_left (by simpa using z),List.getElem?_map] at hj
                cases q:NL[j]? with
                | none=>rw [q] at hj;cases hj
                | some y=>rw [q] at hj;cases hj
              · exact z
            unfold comp0 at hj
            rw [List.getElem?_append_right (by simpa using hlj),List.length_map,← hσ,List.getElem?_drop] at hj
            rw [← hj]
            congr 1
            omega
          refine ⟨m',hm,i+1,ys',H7,Iw.unpinned,T.keep _ _ _ st5 fun b hb' o e=>(I7.pin (b,o) (List.mem_append_right _ (List.mem_append_right _ (mem_pinsAt hb' e)))).1,fun b hb'=>?_,w7⟩
          obtain ⟨o,e,d⟩:=T.obj _ _ st5 b hb'
          exact (I7.pin (b,o) (List.mem_append_right _ (List.mem_append_right _ (mem_pinsAt hb' e)))).2.1
        have hg':=nofail (hg _ s5 (comp0 NL ix σ) H5 x u _ I5' r5 (step x H5 y5))
        rw [p5] at hg'
        refine wpAny_bind (thn hg' fun _ s6 ⟨σ6,H6,I6,hσ6,q6⟩=>?_)
        have ht':=nofail (ht _ s6 σ6 H6 _ I6 q6)
        rw [p5] at ht'
        refine wpAny_bind (thn ht' fun ok s7 ⟨H7,I7,q7⟩=>?_)
        cases ok with
        | false=>
          have q7':N ys H7:=by simpa using q7
          exact wpAny_pure ⟨rfl,again hσ6 I7 (hN _ _ q7')⟩
        | true=>
          have q7':=(if_pos rfl).mp q7
          have he':=nofail (he _ s7 σ6 H7 _ I7 q7')
          rw [p5] at he'
          refine wpAny_bind (wpAny_bind (thn he' fun v s8 ⟨y,H8,I8,r8,ha8,q8⟩=>?_))
          have ap:=nofail (mt_append _ s8 σ6 H8 (.ref s.heap.objs.size) [y] (.ref s.heap.objs.size) [v] (fun _ H9=>H9=upd H8 s.heap.objs.size (.lst (ys++[y]))) I8 rfl (.cons r8 .nil) ⟨_,ys,y,rfl,rfl,ha8,hz8,rfl⟩)
          refine wpAny_bind (thn ap fun _ s9 ⟨z,H9,I9,r9,e9⟩=>wpAny_pure (wpAny_pure ⟨rfl,?_⟩))
          subst e9
          exact again hσ6 I9 (hN _ _ q8)
    exact codeAny_compStart_list (loop _ I4 st1) (T.self X.A 0 _ _ _ st1 (loop _ I4 st1))
  exact key
theorem ps_comp {i:Nat} {y:Str} {py spos:Pos} {scope:Scope} {NL:List Str} {ix:List Nat} {elt tg iter:Expr} {ifs:List Expr} {pos:Pos} {wi:TI} {g:TG} {tt:TT} {te:TE}
    (hN:X.N.Nodup) (hiy:X.N[i]?=some y) (hy:Loc X.env.scope y)
    (hc:X.calm=true) (hi:PI X tg iter wi) (S:CompScope X scope NL ix)
    (hb:∀ (cl:List (Str × Addr)) (C:Addr) (s₃:Shared) (H₃:Hp) (fp:List Addr) (pins:List (Addr × Obj)),PG (cxComp X scope NL ix cl C s₃ H₃ fp pins) tg g∧PIfs (cxComp X scope NL ix cl C s₃ H₃ fp pins) ifs tt∧PE (cxComp X scope NL ix cl C s₃ H₃ fp pins) elt te)
    (hsw:swapsWith (.ListComp elt [⟨tg,iter,ifs,0⟩] scope pos) (some (.Name y py)) spos.line X.env=pure true:=by rfl)
    (hs:∀ x,foldedSetIterable iter X.env x=pure x:=by intro _;rfl)
    (hf:X.fn y=true∨X.env.scope.names.lookup y=some .local:=by first | exact .inl rfl | exact .inr rfl | assumption) :
    PS X (.Assign [.Name y py] (.ListComp elt [⟨tg,iter,ifs,0⟩] scope pos) spos) (tAsg (tComp NL ix wi g tt te) (gName i)):=by
  intro pins s σ H D I h
  obtain ⟨cl,hcl,c1,c2⟩:=closure_ok (scope:=scope) (env:=X.env) fun x hx=>by
    rcases S.free _ hx rfl with z | z
    · exact I.ok.has x (.inl z)
    · exact I.ok.has x (.inr z)
  rw [exec_Assign_Name_used _ _ _ _ hsw]
  refine wpAny_bind (wpAny_standAt (wpAny_bind ?_))
  show wpAny _ X.A (do let _ ← comprehension (.ListComp elt [⟨tg,iter,ifs,0⟩] scope pos) scope X.env _ (newList []) false (eval iter X.env) (some (assign (.Name y py) X.env))) _ _ s
  refine wpAny_bind (thn (wpAny_comprehension_free (use:=some (assign (.Name y py) X.env)) (Q:=fun _ s'=>SP X pins D .next s') rfl hs hcl S.kind S.names
    (thn (hi pins s σ H _ I h) fun xv s1 h1=>thn h1 fun itv s2 h2=>?_)) fun _ s' hq=>wpAny_pure (wpAny_pure hq))
  obtain ⟨it,fp,tn,J,H2,rfl,I2,T,st2,f2,q⟩:=h2
  refine comp_run (RR:=fun acc C=>compPost (model X.prog X.w) X.A X.xe (some (assign (.Name y py) X.env)) (fun _ s'=>SP X pins D .next s') acc C) (Q:=fun x H1=>gName i x σ H1 D.nx) hc S c1 c2 hb I2 T st2 f2 q ?_
  intro acc C H' s' m' I' hn fC q'
  show wpAny _ X.A (assign (.Name y py) X.env (.ref acc)) _ _ _
  refine wpAny_assign_Name (store_ok2 I' hN hiy hy (v:=.ref acc) rfl (fun s'' I'' hsb=>?_) hf)
  obtain ⟨a,sb,ha⟩:=hsb
  have hne:C≠a:=by
    rcases ha with z | z
    · rw [z];exact fC.2.1
    · exact fun w=>fC.2.2.2.2.1 y a z w.symm
  refine ⟨m',hn.sameBut sb hne,fun h' sb'=>⟨_,H',?_,q'⟩⟩
  exact I''.turned (t':=s''.toks) (fun b o hb e=>sb'.extBut b o hb e) fC.1 fC.2.1 fC.2.2.2.1 fC.2.2.2.2.1 fC.2.2.2.2.2
theorem comp_by {J:It} {NL:List Str} {ix:List Nat} {g:TG} {tt:TT} {te:TE} {σ:St} {H1:Hp} {Qs:Hp→Prop} {acc:Addr} (n:Nat) (hn:n < 1000) (Pv:Nat→List V→Hp→Prop)
    (hacc:∀ i ys H2,Pv i ys H2→H2 acc=some (.lst ys)∧ys.length≤i) (h0:Pv 0 [] (upd H1 acc (.lst []))) (hstop:∀ ys H2,Pv n ys H2→J.stop n H2∧Qs H2)
    (hturn:∀ i ys H2,i < n→Pv i ys H2→J.go i H2∧∀ x H3,J.yld i H2 x H3→g x (comp0 NL ix σ) H3 fun σ' H4=>σ'.drop NL.length=ix.map (fun j=>σ.getD j none)∧tt σ' H4 fun b H5=>
      if b=true then te σ' H5 fun v H6=>H6 acc=some (.lst ys)∧Pv (i+1) (ys++[v]) (upd H6 acc (.lst (ys++[v]))) else Pv (i+1) ys H5) :
    ∃ W:Nat→Nat→List V→Hp→Prop,(∃ m,W 0 m [] (upd H1 acc (.lst []))) ∧
    ∀ i m ys H2,W i m ys H2→H2 acc=some (.lst ys)∧ys.length < sizeLine ∧
      ((J.stop i H2∧Qs H2)∨(J.go i H2∧∃ N:List V→Hp→Prop,(∀ ys' H',N ys' H'→∃ m',m' < m∧W (i+1) m' ys' H') ∧
        ∀ x H3,J.yld i H2 x H3→g x (comp0 NL ix σ) H3 fun σ' H4=>σ'.drop NL.length=ix.map (fun j=>σ.getD j none)∧tt σ' H4 fun b H5=>
          if b=true then te σ' H5 fun v H6=>H6 acc=some (.lst ys)∧N (ys++[v]) (upd H6 acc (.lst (ys++[v]))) else N ys H5)):=by
  refine ⟨fun i m ys H2=>i≤n∧m=n - i∧Pv i ys H2,⟨n,Nat.zero_le _,rfl,h0⟩,fun i m ys H2 ⟨hi,hm,hp⟩=>?_⟩
  obtain ⟨a1,a2⟩:=hacc i ys H2 hp
  refine ⟨a1,small1000 (by omega),?_⟩
  rcases Nat.lt_or_ge i n with lt | ge
  · obtain ⟨go,tn⟩:=hturn i ys H2 lt hp
    exact .inr ⟨go,Pv (i+1),fun ys' H' hN=>⟨n - (i+1),by omega,by omega,rfl,hN⟩,tn⟩
  · have e:i=n:=by omega
    subst e
    exact .inl (hstop ys H2 hp)
end
end L2
namespace L2
open PySem PySem.Spec PyProof.Rows
section
variable {prog:Program} {w:World} {A:Around} {E:Value→Shared→Prop} {s:Shared}
theorem nextOf_tuple_item {it t:Addr} {i:Nat} {items:Array Value} {x:Value} {Q:Value→Shared→Prop} (hit:s.heap.IsTupleIter it t i)
    (ht:s.heap.IsTuple t items) (hx:items[i]?=some x)
    (hQ:∀ h',h'.IsTupleIter it t (i+1)→Heap.SameBut it s.heap h'→Q x { s with heap:=h' }) :
    wpAny (model prog w) A (Builtin.SmallTypes.nextOf (.ref it)) Q E s:=by
  obtain ⟨o,ho,hc,hd⟩:=id hit
  obtain ⟨ol,hol,_,nl,hdl⟩:=ht
  unfold Builtin.SmallTypes.nextOf
  refine wpAny_bind (wpAny_callSpecial?_slot (name:=Str.ofString "__next__") hit.typeIs F.slot_tuple_iterator_next
    (wpAny_call_entry F.slot_tuple_iterator_next hit.typeIs F.entry_tuple_iterator_next ?_ (F.args_tuple_iterator_next_1 _)))
  show wpAny _ _ (field (.ref it) 0 >>= _) _ _ s
  refine wpAny_bind (wpAny_field ho hd (x:=.ref t) rfl ?_)
  show wpAny _ _ (if (Value.ref t == Value.none)=true then _ else _) _ _ s
  rw [if_neg (show ¬ ((Value.ref t == Value.none)=true) from Bool.false_ne_true)]
  show wpAny _ _ (field (.ref it) 1 >>= _) _ _ s
  refine wpAny_bind (wpAny_field ho hd (x:=.int i 0) rfl ?_)
  show wpAny _ _ (seqItems? (.ref t) >>= _) _ _ s
  refine wpAny_bind (wpAny_seqItems hol hdl ?_)
  simp only [Int.toNat_natCast,hx]
  refine wpAny_bind (wpAny_setField ho hd (by simp) (wpAny_pure ⟨x,rfl,wpAny_pure (hQ _ ?_ (Heap.SameBut.update ..))⟩))
  exact ⟨_,Heap.get?_update_self _ ho (Obj.isFreed_of_fields (Obj.data_mapFields hd _)),(Obj.cls_mapFields ..).trans hc,by
    rw [Obj.data_mapFields hd];simp [rawInt]⟩
theorem nextOf_tuple_end {it t:Addr} {i:Nat} {items:Array Value} {Q:Value→Shared→Prop} (hh:A.handled=none)
    (hit:s.heap.IsTupleIter it t i) (ht:s.heap.IsTuple t items) (hx:items[i]?=none)
    (hE:∀ h' e,Heap.ExtBut it s.heap h'→(∃ o,h'.get? e=some o∧o.cls=.type "StopIteration")→E (.ref e) { s with heap:=h' }) :
    wpAny (model prog w) A (Builtin.SmallTypes.nextOf (.ref it)) Q E s:=by
  obtain ⟨o,ho,hc,hd⟩:=id hit
  obtain ⟨ol,hol,_,nl,hdl⟩:=ht
  unfold Builtin.SmallTypes.nextOf
  refine wpAny_bind (wpAny_callSpecial?_slot (name:=Str.ofString "__next__") hit.typeIs F.slot_tuple_iterator_next
    (wpAny_call_entry F.slot_tuple_iterator_next hit.typeIs F.entry_tuple_iterator_next ?_ (F.args_tuple_iterator_next_1 _)))
  show wpAny _ _ (field (.ref it) 0 >>= _) _ _ s
  refine wpAny_bind (wpAny_field ho hd (x:=.ref t) rfl ?_)
  show wpAny _ _ (if (Value.ref t == Value.none)=true then _ else _) _ _ s
  rw [if_neg (show ¬ ((Value.ref t == Value.none)=true) from Bool.false_ne_true)]
  show wpAny _ _ (field (.ref it) 1 >>= _) _ _ s
  refine wpAny_bind (wpAny_field ho hd (x:=.int i 0) rfl ?_)
  show wpAny _ _ (seqItems? (.ref t) >>= _) _ _ s
  refine wpAny_bind (wpAny_seqItems hol hdl ?_)
  simp only [Int.toNat_natCast,hx]
  refine wpAny_bind (wpAny_rule (wpAny_bind (wpAny_setField ho hd (by simp) ?_)))
  show wpAny _ _ (newExc (.type "StopIteration") [] >>= _) _ _ _
  refine wpAny_bind ?_
  simp only [newExc,newTuple]
  refine wpAny_bind (wpAny_newObj_type ?_ (by size_fits))
  refine wpAny_bind (m:=firstArgMember _ _) (wpAny_of_eq (a:=Value.none) (by first | rfl | (simp only [firstArgMember];rfl)) ?_)
  refine wpAny_newObj_type ?_ (by size_fits)
  simp only [raiseNew]
  refine wpAny_bind (wpAny_handled ?_)
  first | rw [show A.in1.handled=none from hh] | rw [hh]
  refine wpAny_bind (wpAny_pure (wpAny_throw ?_))
  exact hE _ _ (((Heap.SameBut.update ..).extBut.push _).push _) ⟨_,Heap.get?_push_size _ rfl,rfl⟩
end
theorem draws_tuple {prog:Program} {w:World} {A:Around} (hh:A.handled=none) (it l:Addr) (hne:l≠it) (items:Array Value) :
    Draws prog w A it [it,l] items.size (fun i v=>items[i]?=some v) (fun i h=>h.IsTupleIter it l i∧h.IsTuple l items) where
  live:=fun _ _ st=>let ⟨o,ho,_⟩:=st.1;⟨o,ho⟩
  frame:=fun _ _ _ st hk=>⟨st.1.at fun o e=>hk it (by simp) o e,let ⟨o,ho,r⟩:=st.2;⟨o,hk l (by simp) o ho,r⟩⟩
  item:=fun i s Q E hi st hQ=>by
    refine nextOf_tuple_item st.1 st.2 (x:=items[i]) (by simp [hi]) fun h' hit' hs'=>?_
    exact hQ _ h' s.toks (by simp [hi]) ⟨hit',st.2.extBut hs'.extBut hne⟩ hs'
  done:=fun s Q E st hE=>nextOf_tuple_end hh st.1 st.2 (by simp) hE
theorem draws_str {prog:Program} {w:World} {A:Around} (hh:A.handled=none) (it:Addr) (x:Str) (t:Tok) :
    Draws prog w A it [it] x.cps.size (fun i v=>∃ c u,x.cps[i]?=some c∧v=.str ⟨#[c]⟩ u) (fun i h=>h.IsStrIter it (strIterType x) x t i):=by
  unfold strIterType
  cases x.cps.all (· < 128) with
  | true=>exact Draws.strAscii hh it x t
  | false=>exact Draws.strWide hh it x t
inductive SK where
  | lst (a:Addr) | tup (a:Addr) | str (x:Str)
def SK.val:SK→V
  | .lst a=>.ref a
  | .tup a=>.ref a
  | .str x=>.str x
def signs (x:Str):List V:=x.cps.toList.map fun c=>.str ⟨#[c]⟩
def SK.has (H:Hp):SK→List V→Prop
  | .lst a,xs=>Rd H a (.lst xs)
  | .tup a,xs=>Rd H a (.tup xs)
  | .str x,xs=>xs=signs x
def SK.own (it:Addr) (k:Nat) (h:Heap):SK→Prop
  | .lst a=>h.IsListIter it a k
  | .tup a=>h.IsTupleIter it a k
  | .str x=>∃ t,h.IsStrIter it (strIterType x) x t k
theorem SK.own_at {it:Addr} {k:Nat} {h h':Heap} {κ:SK} (x:κ.own it k h) (e:∀ o,h.get? it=some o→h'.get? it=some o):κ.own it k h':=by
  cases κ with
  | lst a=>exact Heap.IsListIter.at x e
  | tup a=>exact Heap.IsTupleIter.at x e
  | str y=>obtain ⟨t,o,ho,r⟩:=x;exact ⟨t,o,e o ho,r⟩
theorem SK.own_obj {it:Addr} {k:Nat} {h:Heap} {κ:SK} (x:κ.own it k h):∃ o,h.get? it=some o∧(∀ v,o.data≠.cell v)∧o.cls≠.type "tuple" ∧ o.cls≠.type "zip" ∧ o.cls≠.type "enumerate" := by
  cases κ with
  | lst a=>obtain ⟨o,ho,c,d⟩:=x;exact ⟨o,ho,(fun v z=>by rw [d] at z;cases z),(fun z=>by rw [c] at z;simp at z),(fun z=>by rw [c] at z;simp at z),(fun z=>by rw [c] at z;simp at z)⟩
  | tup a=>obtain ⟨o,ho,c,d⟩:=x;exact ⟨o,ho,(fun v z=>by rw [d] at z;cases z),(fun z=>by rw [c] at z;simp at z),(fun z=>by rw [c] at z;simp at z),(fun z=>by rw [c] at z;simp at z)⟩
  | str y=>
    obtain ⟨t,o,ho,c,d⟩:=x
    refine ⟨o,ho,(fun v z=>by rw [d] at z;cases z),?_,?_,?_⟩ <;>
    · intro z
      rw [c] at z
      unfold strIterType at z
      split at z <;> simp at z
theorem Rd.inj {H:Hp} {a:Addr} {u v:HO} (hu:∀ o w,u≠.frz o w) (hv:∀ o w,v≠.frz o w) (x:Rd H a u) (y:Rd H a v):u=v:=by
  rcases x with x | ⟨o,x⟩ <;> rcases y with y | ⟨p,y⟩ <;> rw [x] at y
  · exact Option.some.inj y
  · exact absurd (Option.some.inj y) (hu p v)
  · exact absurd (Option.some.inj y).symm (hv o u)
  · have:=Option.some.inj y
    injection this
theorem SK.inj {H:Hp} {κ:SK} {xs ys:List V} (x:κ.has H xs) (y:κ.has H ys):xs=ys:=by
  cases κ with
  | lst a=>have:=Rd.inj (u:=.lst xs) (v:=.lst ys) (fun _ _ z=>nomatch z) (fun _ _ z=>nomatch z) x y;injection this
  | tup a=>have:=Rd.inj (u:=.tup xs) (v:=.tup ys) (fun _ _ z=>nomatch z) (fun _ _ z=>nomatch z) x y;injection this
  | str z=>exact Eq.trans x (Eq.symm y)
def SK.box:SK→List Addr
  | .lst a=>[a]
  | .tup a=>[a]
  | .str _=>[]
theorem SK.box_some {H:Hp} {κ:SK} {xs:List V} (x:κ.has H xs) {b:Addr} (hb:b∈κ.box):H b≠none:=by
  cases κ with
  | lst a => have e:b=a:=by simpa [SK.box] using hb
             subst e;intro z;rcases x with q | ⟨o,q⟩ <;> (rw [z] at q;cases q)
  | tup a => have e:b=a:=by simpa [SK.box] using hb
             subst e;intro z;rcases x with q | ⟨o,q⟩ <;> (rw [z] at q;cases q)
  | str z=>simp [SK.box] at hb
section
variable {X:Cx} {pins:List (Addr × Obj)} {σ:St} {H:Hp} {s:Shared}
theorem sk_draws {κ:SK} {it:Addr} {k:Nat} {xs:List V} {A:Around} (I:Inv X pins σ H s) (hv:κ.has H xs) (hit:κ.own it k s.heap) (hn:H it=none) (hh:A.handled=none) :
    ∃ (P:Nat→Value→Prop) (St:Nat→Heap→Prop),Draws X.prog X.w A it (it :: κ.box) xs.length P St∧St k s.heap∧(∀ i u,P i u→∃ x,xs[i]?=some x∧RelV x u)∧(∀ i h,St i h→κ.own it i h):=by
  have ne:∀ b∈κ.box,b≠it:=fun b hb z=>SK.box_some hv hb (by rw [z];exact hn)
  cases κ with
  | lst a=>
    obtain ⟨_,its,n,r,e⟩:=Rd.ok hv I.hok
    have hl:s.heap.IsList a its.toArray:=⟨_,e,rfl,n,rfl⟩
    have D:=Draws.list (prog:=X.prog) (w:=X.w) hh it a (ne a (by simp [SK.box])) its.toArray
    rw [List.size_toArray,← r.length] at D
    refine ⟨_,_,D,⟨hit,hl⟩,fun i u hu=>?_,fun i h st=>st.1⟩
    · have hu':its[i]?=some u:=by simpa using hu
      have hlt:i < xs.length:=by rw [r.length];exact (List.getElem?_eq_some_iff.mp hu').1
      obtain ⟨u',e1,e2⟩:=r.get (List.getElem?_eq_getElem hlt)
      rw [hu'] at e1;cases e1
      exact ⟨_,List.getElem?_eq_getElem hlt,e2⟩
  | tup a=>
    obtain ⟨_,its,r,ht⟩:=Rd.ok hv I.hok
    have hl:s.heap.IsTuple a its.toArray:=ht
    have D:=draws_tuple (prog:=X.prog) (w:=X.w) hh it a (ne a (by simp [SK.box])) its.toArray
    rw [List.size_toArray,← r.length] at D
    refine ⟨_,_,D,⟨hit,hl⟩,fun i u hu=>?_,fun i h st=>st.1⟩
    · have hu':its[i]?=some u:=by simpa using hu
      have hlt:i < xs.length:=by rw [r.length];exact (List.getElem?_eq_some_iff.mp hu').1
      obtain ⟨u',e1,e2⟩:=r.get (List.getElem?_eq_getElem hlt)
      rw [hu'] at e1;cases e1
      exact ⟨_,List.getElem?_eq_getElem hlt,e2⟩
  | str z=>
    obtain ⟨t,hit⟩:=hit
    have hv':xs=signs z:=hv
    subst hv'
    have D:=draws_str (prog:=X.prog) (w:=X.w) hh it z t
    have e:(signs z).length=z.cps.size:=by simp [signs]
    rw [← e] at D
    refine ⟨_,_,D,hit,fun i u hu=>?_,fun i h st=>⟨t,st⟩⟩
    · obtain ⟨c,u',hc,rfl⟩:=hu
      refine ⟨.str ⟨#[c]⟩,?_,⟨u',rfl⟩⟩
      simp only [signs,List.getElem?_map,Array.getElem?_toList,hc,Option.map_some]
theorem Inv.turnedNew {ch:List Addr} {p:Addr} {o:HO} {h':Heap} {tk:Nat} (I:Inv X pins σ H s)
    (hch:∀ b∈ch,FpOk X pins H b) (k:∀ b ob,b ∉ ch→s.heap.get? b=some ob→h'.get? b=some ob) (hp:s.heap.objs.size≤p) (new:ObjOk X.prog X.w (upd H p o) h' p o) :
    Inv X pins σ (upd H p o) { s with heap:=h',toks:=tk }:=by
  have hn:H p=none:=I.hok.fresh hp
  refine I.call (g':=s.gens) (d':=s.drawn) (ch:=ch) ⟨fun b u q _ _ hx=>k b u hx q,fun b u q _ _ hx=>⟨u.slots,k b u hx q⟩,fun b u q n _=>?_,fun b u q hx=>⟨u,k b u hx q⟩,fun b xs q=>?_,fun b u xs q=>?_,fun b ps q=>⟨#[],?_⟩⟩ (fun b u e=>?_) I.bare
    fun b hb=>⟨(hch b hb).2.2.2.1,(hch b hb).2.1,(hch b hb).2.2.2.2.1,(hch b hb).2.2.2.2.2⟩
  · rw [upd_ne (Nat.ne_of_lt (Nat.lt_of_lt_of_le (Heap.lt_size q) hp))];exact n
  · rw [upd_ne (ne_of_none q hn)];exact q
  · rw [upd_ne (ne_of_none q hn)];exact q
  · rw [upd_ne (ne_of_none q hn),q];simp
  · by_cases hb:b=p
    · subst hb;rw [upd_same] at e;cases e;exact new
    · rw [upd_ne hb] at e
      refine (I.hok b u e).stay (fun c v hc q=>k c v (fun hm=>?_) q) (fun c q=>by rw [upd_ne (ne_of_none q hn)];exact q) fun c xs q=>by rw [upd_ne (ne_of_none q hn)];exact q
      have z:=(hch c hm).1
      rcases hc with hc | hc
      · rw [hc,e] at z;cases z
      · rw [hc] at z;cases z
end
def Ite (κ:SK):It:=
  ⟨fun i H=>∃ xs x,κ.has H xs∧xs[i]?=some x,fun i H v H'=>∃ p x,v=.ref p∧H p=none∧H'=upd H p (.tup [.int i,x])∧∀ xs,κ.has H xs→xs[i]?=some x,fun i H=>∃ xs,κ.has H xs∧xs.length=i⟩
theorem turn_enum {P:Program} {w:World} {K:PySem.W.Frag} {elts:List Expr} {x1:Nat} {tpos:Pos} (κ:SK) (e it:Addr) (hei:e≠it) :
    Turn P w K (.Tuple elts x1 tpos) (Ite κ) [e,it] e (fun i h=>(∃ old,IsEnum h e it i old)∧κ.own it i h) where
  mem:=by simp
  obj:=fun i h st b hb=>by
    obtain ⟨⟨old,he⟩,ho⟩:=st
    simp only [List.mem_cons,List.not_mem_nil,or_false] at hb
    rcases hb with rfl | rfl
    · exact ⟨_,he,fun v z=>by
        have z':Data.fields _=Data.cell v:=z
        cases z'⟩
    · obtain ⟨o,h1,h2,_⟩:=SK.own_obj ho
      exact ⟨o,h1,h2⟩
  keep:=fun i h h' st k=>by
    obtain ⟨⟨old,he⟩,ho⟩:=st
    exact ⟨⟨old,k e (by simp) _ he⟩,SK.own_at ho fun o q=>k it (by simp) o q⟩
  item:=by
    intro X hP hw hK hc i pins s σ H E I hf st hg
    subst hP hw hK
    obtain ⟨⟨old,he⟩,ho⟩:=st
    obtain ⟨xs,x,hx,hxi⟩:=hg
    have hlt:i < xs.length:=(List.getElem?_eq_some_iff.mp hxi).1
    have hh:X.A.in1.handled=none:=I.ok.hd hc
    obtain ⟨Pp,St,D,hst,hrel,hown⟩:=sk_draws (A:=X.A.in1) I hx ho (hf it (by simp)).1 hh
    have hef:e ∉ it :: κ.box:=fun z=>by
      rcases List.mem_cons.mp z with z | z
      · exact hei z
      · exact SK.box_some hx z (hf e (by simp)).1
    refine wpAny_pyNext_enum_itemD D he hst hlt hei hef fun y h' tk hy ho' hst' hT hsz hk=>⟨_,rfl,?_⟩
    refine wpAny_letOwnedTupleGo_enum ho' fun h'' he'' hs''=>?_
    obtain ⟨x',hx',rx⟩:=hrel i y hy
    have exx:x'=x:=Option.some.inj (hx'.symm.trans hxi)
    subst exx
    have kk:∀ b ob,b ∉ [e,it]→s.heap.get? b=some ob→h''.get? b=some ob:=fun b ob hb q=>
      (hs''.2 b (fun z=>hb (by simp [z]))).trans (hk b ob (fun z=>hb (by simp [z])) (fun z=>hb (by simp [z])) q)
    have ne:s.heap.objs.size≠e:=Nat.ne_of_gt (Heap.lt_size he)
    have hT':h''.get? s.heap.objs.size=some { cls:=.type "tuple", data:=.seq #[.int i tk,y] }:=(hs''.2 _ ne).trans hT
    refine ⟨.ref s.heap.objs.size,upd H s.heap.objs.size (.tup [.int i,x']),I.turnedNew (tk:=tk+1) hf kk (Nat.le_refl _) ⟨⟨(by show 2≤sizeLine;decide),_,hT',rfl⟩,[.int i tk,y],.cons ⟨tk,rfl⟩ (.cons rx .nil),_,hT',rfl,0,rfl⟩,rfl,
      ⟨_,x',rfl,I.hok.fresh (Nat.le_refl _),rfl,fun ys hy'=>by rw [SK.inj hy' hx];exact hxi⟩,⟨⟨y,by simpa using he''⟩,SK.own_at (hown _ _ hst') fun o q=>(hs''.2 it (Ne.symm hei)).trans q⟩,fun b hb=>?_⟩
    obtain ⟨o,hob,_⟩:∃ o,s.heap.get? b=some o∧True:=by
      simp only [List.mem_cons,List.not_mem_nil,or_false] at hb
      rcases hb with rfl | rfl
      · exact ⟨_,he,trivial⟩
      · obtain ⟨o,h1,_⟩:=SK.own_obj ho;exact ⟨o,h1,trivial⟩
    rw [upd_ne (Nat.ne_of_lt (Heap.lt_size hob))]
    exact (hf b hb).1
  done:=by
    intro X hP hw hK hc i pins s σ H E I hf st hg
    subst hP hw hK
    obtain ⟨⟨old,he⟩,ho⟩:=st
    obtain ⟨xs,hx,hlen⟩:=hg
    have hh:X.A.in1.handled=none:=I.ok.hd hc
    obtain ⟨Pp,St,D,hst,hrel,hown⟩:=sk_draws (A:=X.A.in1) I hx ho (hf it (by simp)).1 hh
    have hst':St xs.length s.heap:=by rw [hlen];exact hst
    refine wpAny_pyNext_enum_endD D he hst' fun h' hx'=>⟨rfl,?_⟩
    have f:=hf it (by simp)
    exact I.turned (t':=s.toks) (fun b o hb q=>hx' b o hb q) f.1 f.2.1 f.2.2.2.1 f.2.2.2.2.1 f.2.2.2.2.2
  self:=fun _ _ _ _ _ st h=>let ⟨⟨_,he⟩,_⟩:=st;wpAny_pyIter_enum he h
open AutoSeq1 (wpAny_loadPart') in
set_option maxHeartbeats 4000000 in
theorem meets_enumerate_newT (l:Addr) (items:Array Value) (n:Nat) (dct:Option Addr) (sl:Array (Option Value)) :
    Meets (Builtin.«enumerate.__new__» ⟨[.type "enumerate", .ref l],[]⟩) (fun _ R s=>s.heap.get? l=some { cls:=.type "tuple", dict:=dct,data:=.seq items n,slots:=sl } ∧
      R (.ok (.ret (.ref (s.heap.push { cls:=.type "tuple_iterator", data:=.fields #[.ref l,.int 0 0] }).objs.size)))
        { s with heap:=(s.heap.push { cls:=.type "tuple_iterator", data:=.fields #[.ref l,.int 0 0] }).push { cls:=.type "enumerate", data:=.fields #[.none,.bool false,.ref s.heap.objs.size,rawInt 0,.none,.none] } }):=
  .of_wp fun prog w A R s h=>by
    obtain ⟨hp,g,d,tk,os⟩:=s;obtain ⟨hl,h⟩:=h
    have hsub:=sub_enumerate
    have hL:Heap.IsTuple (Shared.heap ⟨hp,g,d,tk,os⟩) l items:=⟨_,hl,rfl,n,rfl⟩
    wp_walk using wpAny_loadPart' hl
    refine wpAny_stack_any fun st=>wpAny_pure ?_
    split
    · rename_i c _ _ _ _ _
      cases (c == Value.type "enumerate")
      · wp_walk using wpAny_loadPart' hl,wpAny_pyIter_tuple hL
        exact ⟨_,rfl,h⟩
      · wp_walk using wpAny_loadPart' hl,wpAny_pyIter_tuple hL
        exact ⟨_,rfl,h⟩
    · wp_walk using wpAny_loadPart' hl,wpAny_pyIter_tuple hL
      exact ⟨_,rfl,h⟩
theorem call_enumerate_tuple {prog:Program} {w:World} {A:Around} {E:Value→Shared→Prop} {s:Shared} {l:Addr} {items:Array Value} {Q:Value→Shared→Prop} (hL:s.heap.IsTuple l items)
    (h:∀ h',IsEnum h' (s.heap.objs.size+1) s.heap.objs.size 0 .none→h'.IsTupleIter s.heap.objs.size l 0→h'.objs.size=s.heap.objs.size+2 →
      (∀ b o,s.heap.get? b=some o→h'.get? b=some o)→Q (.ref (s.heap.objs.size+1)) { s with heap:=h' }) :
    wpAny (model prog w) A (call (.type "enumerate") [.ref l]) Q E s:=by
  obtain ⟨⟨c,dct,dt,sl⟩,hl,hc,n,hd⟩:=hL
  replace hc:c=.type "tuple" := hc
  replace hd:dt=.seq items n:=hd
  subst hc hd
  refine callType_new F.called_enumerate (by decide) (F.typeCall_enumerate_1 _) (F.newCall_enumerate_1 _) (fun obj=>F.args_object_init_2 obj _) F.entry_enumerate_new
    (meets_enumerate_newT l items n dct sl) ⟨hl,?_⟩
  have hz:(s.heap.push { cls:=.type "tuple_iterator", data:=.fields #[.ref l,.int 0 0] }).objs.size=s.heap.objs.size+1:=Heap.size_push ..
  show _∧_
  rw [hz]
  have he:IsEnum ((s.heap.push { cls:=.type "tuple_iterator", data:=.fields #[.ref l,.int 0 0] }).push
      { cls:=.type "enumerate", data:=.fields #[.none,.bool false,.ref s.heap.objs.size,rawInt 0,.none,.none] }) (s.heap.objs.size+1) s.heap.objs.size 0 .none:=by
    have:=Heap.get?_push_size (s.heap.push { cls:=.type "tuple_iterator", data:=.fields #[.ref l,.int 0 0] })
      (o:={ cls:=.type "enumerate", data:=.fields #[.none,.bool false,.ref s.heap.objs.size,rawInt 0,.none,.none] }) rfl
    rw [hz] at this;exact this
  refine ⟨⟨_,he,rfl⟩,h _ he ⟨_,Heap.get?_push_of_some _ (Heap.get?_push_size _ rfl),rfl,rfl⟩ (by rw [Heap.size_push,hz]) fun b o x=>Heap.get?_push_of_some _ (Heap.get?_push_of_some _ x)⟩
section
variable {X:Cx} {pins:List (Addr × Obj)} {σ:St} {H:Hp} {s:Shared}
theorem call_enum {κ:SK} {xs:List V} {u:Value} {E:Value→Shared→Prop} {Q:Value→Shared→Prop} (I:Inv X pins σ H s) (hv:κ.has H xs) (r:RelV κ.val u)
    (h:∀ h',IsEnum h' (s.heap.objs.size+1) s.heap.objs.size 0 .none→κ.own s.heap.objs.size 0 h'→(∀ b o,s.heap.get? b=some o→h'.get? b=some o)→Q (.ref (s.heap.objs.size+1)) { s with heap:=h' }) :
    wpAny (model X.prog X.w) X.A (call (.type "enumerate") [u]) Q E s:=by
  cases κ with
  | lst a=>
    cases (show u=Value.ref a from r)
    obtain ⟨_,its,n,rr,e⟩:=Rd.ok hv I.hok
    exact call_enumerate_list ⟨_,e,rfl,n,rfl⟩ fun h' a1 a2 _ a4=>h h' a1 a2 a4
  | tup a=>
    cases (show u=Value.ref a from r)
    obtain ⟨_,its,rr,e⟩:=Rd.ok hv I.hok
    exact call_enumerate_tuple e fun h' a1 a2 _ a4=>h h' a1 a2 a4
  | str x=>
    obtain ⟨t,q⟩:=(show ∃ t,u=Value.str x t from r)
    subst q
    exact call_enumerate_str fun h' a1 a2 _ a4=>h h' a1 ⟨t,a2⟩ a4
def iEnum (ta:TA):TI:=fun σ H R=>ta σ H fun vs H1=>∃ κ:SK,vs=[κ.val]∧(∃ xs,κ.has H1 xs)∧R (Ite κ) H1
theorem pi_enum {a:Expr} {ta:TA} {p pos:Pos} {elts:List Expr} {x1:Nat} {tpos:Pos} (hg:Gl X "enumerate") (hm:X.mg "enumerate" = none) (ha:PA X [a] ta)
    (hs:starEach [a] X.env=[(false,eval a X.env)]:=by rfl):PI X (.Tuple elts x1 tpos) (.Call (.Name "enumerate" p) [a] [] pos) (iEnum ta):=by
  intro pins s σ H R I h
  refine Call_ (ld_blt I hg hm boot_enumerate (PyProof.Rows.callWith_type1 (thn (ha pos pins s σ H _ I h) fun us s1 ⟨vs,H1,I1,r1,q1⟩=>?_) hs rfl))
  obtain ⟨κ,e,⟨xs,hx⟩,q⟩:=q1
  subst e
  obtain ⟨u,rfl,ru⟩:=vals1 r1
  refine call_enum I1 hx ru fun h' he hi hk=>?_
  refine wpAny_pyIter_enum he ⟨s1.heap.objs.size+1,[s1.heap.objs.size+1,s1.heap.objs.size],_,_,H1,rfl,I1.kept (t':=s1.toks) hk,turn_enum κ _ _ (Nat.ne_of_gt (Nat.lt_succ_self _)),⟨⟨_,he⟩,hi⟩,fun b hb=>?_,q⟩
  have hge:s1.heap.objs.size≤b:=by
    simp only [List.mem_cons,List.not_mem_nil,or_false] at hb
    rcases hb with rfl | rfl
    · exact Nat.le_succ _
    · exact Nat.le_refl _
  exact I1.fpOk hge (I1.hok.fresh hge)
end
section
variable {prog:Program} {w:World} {A:Around} {E:Value→Shared→Prop} {s:Shared}
end
section
variable {X:Cx}
end
theorem for_enum {κ:SK} {xs:List V} {g:TG} {tb:TS} {D:Ends} {σ:St} {H:Hp} (Pv:Nat→St→Hp→Prop) (h0:Pv 0 σ H) (hl:∀ i σ H,i≤xs.length→Pv i σ H→κ.has H xs)
    (hs:∀ (i:Nat) x σ H p,xs[i]?=some x→Pv i σ H→H p=none→g (.ref p) σ (upd H p (.tup [.int i,x])) fun σ2 H2=>tb { D with nx:=Pv (i+1),ct:=Pv (i+1),bk:=D.nx } σ2 H2) (hd:∀ σ H,Pv xs.length σ H→D.nx σ H) :
    ∃ W:Nat→Nat→St→Hp→Prop,(∃ m,W 0 m σ H)∧∀ i m σ H,W i m σ H →
      ((Ite κ).stop i H∧D.nx σ H)∨((Ite κ).go i H∧∃ N:St→Hp→Prop,(∀ σ' H',N σ' H'→∃ m',m' < m∧W (i+1) m' σ' H')∧∀ x H',(Ite κ).yld i H x H'→g x σ H' fun σ2 H2=>tb { D with nx:=N,ct:=N,bk:=D.nx } σ2 H2):=by
  refine ⟨fun i m σ H=>i≤xs.length∧m=xs.length - i∧Pv i σ H,⟨xs.length,Nat.zero_le _,rfl,h0⟩,fun i m σ H ⟨hi,hm,hp⟩=>?_⟩
  have a1:=hl i σ H hi hp
  rcases Nat.lt_or_ge i xs.length with lt | ge
  · refine .inr ⟨⟨xs,xs[i],a1,List.getElem?_eq_getElem lt⟩,Pv (i+1),fun σ' H' hn=>⟨xs.length - (i+1),by omega,by omega,rfl,hn⟩,fun x H' hy=>?_⟩
    obtain ⟨p,x',rfl,hpn,rfl,e1⟩:=hy
    exact hs i x' σ H p (e1 xs a1) hp hpn
  · have e:i=xs.length:=by omega
    subst e
    exact .inl ⟨⟨xs,a1,rfl⟩,hd σ H hp⟩
def cutS (z:Str) (lo hi:Option Int):Str:=⟨((z.cps.toList.drop (HT.sIx z.length 0 lo)).take (HT.sIx z.length z.length hi - HT.sIx z.length 0 lo)).toArray⟩
theorem clip_s (i:Int) (n d:Nat):max 0 (min (if i < 0 then i+(n:Int) else i) (n:Int))=((HT.sIx n d (some i):Nat):Int):=by
  simp only [HT.sIx]
  split
  · omega
  · omega
theorem range_cut (a b:Nat):sliceRange (a:Int) (b:Int) 1=(List.range (b - a)).map fun k=>a+k:=by
  unfold sliceRange
  simp only [show ((1:Int) > 0)=True from by simp,if_true]
  by_cases hlt:(a:Int) < b
  · have e3:(((b:Int) - a+1 - 1) / 1).toNat=b - a:=by
      rw [Int.ediv_one];omega
    simp only [hlt,if_true,e3]
    refine List.map_congr_left fun k _=>?_
    omega
  · have:b - a=0:=by omega
    simp [hlt,this]
theorem sliceIdx_cut (lo hi:Option Int) (n:Nat):Builtin.Str.strSliceIndices lo hi 1 n=(List.range (HT.sIx n n hi - HT.sIx n 0 lo)).map fun k=>HT.sIx n 0 lo+k:=by
  unfold Builtin.Str.strSliceIndices
  simp only [show ((1:Int) > 0)=True from by simp,if_true]
  cases lo with
  | none=>
    cases hi with
    | none=>exact range_cut 0 n
    | some j=>dsimp only;rw [clip_s j n n];exact range_cut 0 _
  | some i=>
    cases hi with
    | none=>dsimp only;rw [clip_s i n 0];exact range_cut _ n
    | some j=>dsimp only;rw [clip_s i n 0,clip_s j n n];exact range_cut _ _
theorem slice_text (z:Str) (t:Tok) (l u:Option (Int × Tok)):∀ (Q:Value→Shared→Prop) (s:Shared),z.length≤sizeLine→(∀ t' s',s'.heap=s.heap→s'.gens=s.gens→s'.drawn=s.drawn→s'.os=s.os→Q (.str (cutS z (l.map (·.1)) (u.map (·.1))) t') s')→(sliceMade z t l u none).post Q s:=by
  intro Q s hz h
  have hidx:=sliceIdx_cut (l.map (·.1)) (u.map (·.1)) z.length
  have hle:HT.sIx z.length z.length (u.map (·.1))≤z.length:=HT.sIx_le _ _ (Nat.le_refl _) _
  have hlo:HT.sIx z.length 0 (l.map (·.1))≤z.length:=HT.sIx_le _ _ (Nat.zero_le _) _
  have hzl:z.length=z.cps.toList.length:=by simp [Str.length]
  have cut:((slicePicked z l u none).filterMap (z.cps[·]?))=(z.cps.toList.drop (HT.sIx z.length 0 (l.map (·.1)))).take (HT.sIx z.length z.length (u.map (·.1)) - HT.sIx z.length 0 (l.map (·.1))):=by
    have p:=StrLaws.picks z.cps.toList (HT.sIx z.length z.length (u.map (·.1)) - HT.sIx z.length 0 (l.map (·.1))) (HT.sIx z.length 0 (l.map (·.1))) (by omega)
    rw [← p]
    unfold slicePicked
    simp only [Option.map_none,Option.getD_none]
    rw [hidx]
    congr 1
    funext k
    simp
  unfold sliceMade
  split
  · rename_i c
    have whole:cutS z (l.map (·.1)) (u.map (·.1))=z:=by
      unfold cutS
      have e:(slicePicked z l u none).length=z.length:=by
        simp only [Bool.and_eq_true,beq_iff_eq] at c
        exact c.2
      have e':HT.sIx z.length z.length (u.map (·.1)) - HT.sIx z.length 0 (l.map (·.1))=z.length:=by
        unfold slicePicked at e
        simp only [Option.map_none,Option.getD_none] at e
        rw [hidx] at e
        simpa using e
      have e0:HT.sIx z.length 0 (l.map (·.1))=0:=by omega
      rw [e',e0,List.drop_zero,hzl,List.take_length]
    have:=h t s rfl rfl rfl rfl
    rw [whole] at this
    exact this
  · rw [cut]
    have hl':(⟨((z.cps.toList.drop (HT.sIx z.length 0 (l.map (·.1)))).take (HT.sIx z.length z.length (u.map (·.1)) - HT.sIx z.length 0 (l.map (·.1)))).toArray⟩:Str).length≤sizeLine:=by
      have:(⟨((z.cps.toList.drop (HT.sIx z.length 0 (l.map (·.1)))).take (HT.sIx z.length z.length (u.map (·.1)) - HT.sIx z.length 0 (l.map (·.1)))).toArray⟩:Str).length≤z.length:=by
        simp only [Str.length,List.size_toArray,List.length_take,List.length_drop]
        have:z.cps.size=z.length:=rfl
        omega
      omega
    first
      | exact ⟨hl',h _ _ rfl rfl rfl rfl⟩
      | exact h _ _ rfl rfl rfl rfl
def rSlS:V→Option Int→Option Int→Hp→VK→Prop:=fun x lo hi H Q=>∃ z,x=.str z∧z.length≤sizeLine∧Q (.str (cutS z lo hi)) H
theorem sl_str {X:Cx}:SlR X rSlS:=by
  intro pins s σ H x v vl vu lo hi sl Q I rx hs pl pu h
  obtain ⟨z,rfl,hz,q⟩:=h
  obtain ⟨t,rfl⟩:=rx
  refine ⟨"str", _,F.slot_str_getitem.lookup,typeIs_str s z t,?_⟩
  have part:∀ {v:Value} {o:Option Int},IsPart v o→∃ p:Option (Int × Tok),v=partValue p∧p.map (·.1)=o:=fun {v o} p=>by
    cases p with
    | none=>exact ⟨none,rfl,rfl⟩
    | int i t=>exact ⟨some (i,t),rfl,rfl⟩
  obtain ⟨l,rfl,rfl⟩:=part pl
  obtain ⟨u,rfl,rfl⟩:=part pu
  refine wpAny_getItem_str_slice (l:=l) (u:=u) (st:=none) hs rfl (slice_text z t l u _ s hz fun t' s' e1 e2 e3 e4=>⟨.str _,H,?_,⟨t',rfl⟩,q⟩)
  obtain ⟨hp,g,d,tk,os⟩:=s'
  cases e1;cases e2;cases e3;cases e4
  exact I.tok tk
theorem call_isinst {X:Cx}:CallR X (.builtin "isinstance") (fun vs H Q=>∃ x t T b,vs=[x,.ty T]∧TyOf X.K H x t∧PySem.W.kitOne X.K t (.type T)=some b∧Q (.bl b) H):=by
  intro pins s σ H xs us Q I r h
  obtain ⟨x,t,T,b,rfl,ty,e,q⟩:=h
  obtain ⟨u,v,rfl,ru,rv⟩:=vals2 r
  cases (show v=Value.type T from rv)
  exact isinst_ok I ru ty e fun tk=>⟨.bl b,H,I.tok tk,rfl,q⟩
end L2
namespace L2
open PySem PySem.Spec PyProof.Rows
theorem csc {X:Cx} {scope:Scope} {NL:List Str} {ix:List Nat} (esc:Scope) (N:List Str) (h1:X.env.scope=esc:=by rfl) (h2:X.N=N:=by rfl) (c1:scope.kind=.function:=by rfl)
    (c2:∀ y∈scope.names,y.2≠.cell:=by decide +kernel) (c3:∀ y∈scope.names,y.2=.local→scope.names.lookup y.1=some .local:=by decide +kernel)
    (c4:∀ y∈scope.names,y.2=.free→esc.names.lookup y.1=some .cell∨esc.names.lookup y.1=some .free:=by decide +kernel)
    (c5:∀ j∈ix,(N[j]?).bind (fun x=>scope.names.lookup x)=some .free:=by decide +kernel):CompScope X scope NL ix where
  kind:=c1
  cell:=c2
  names:=c3
  free:=fun y hy hf=>by
    have:=c4 y hy hf
    rw [← h1] at this
    exact this
  cap:=fun j hj=>by
    have:=c5 j hj
    rw [h2]
    cases e:N[j]? with
    | none=>rw [e] at this;cases this
    | some x=>rw [e] at this;exact ⟨x,rfl,this⟩
def Has (P:Program) (w:World) (K:PySem.W.Frag) (mg:Str→Option Value) (base:Heap) (x:Str) (k:Nat) (ps:List Str) (sp:Sp):Prop:=
  ∃ f fd,FnOk P w K mg base CX0 k f fd ps sp∧Binds K fd ps []∧PySem.W.keepIn K (.ref f)=true∧mg x=some (.ref f)
section
variable {P:Program} {w:World} {K:PySem.W.Frag} {mg:Str→Option Value} {base:Heap}
theorem Has.mono {x:Str} {j k:Nat} {ps:List Str} {sp:Sp} (G:Has P w K mg base x j ps sp) (h:j≤k):Has P w K mg base x k ps sp:=
  let ⟨f,fd,F,r⟩:=G;⟨f,fd,F.mono h,r⟩
def Df (K:PySem.W.Frag) (mg:Str→Option Value) (x:Str) (st:Stmt):Prop:=∃ f fd,Fun K x x st f fd∧mg x=some (.ref f)
theorem Df.has {x:Str} {st:Stmt} {N ps:List Str} {k:Nat} {sp:Sp} (D:Df K mg x st) (S:FnScope N ps (defScope st))
    (hb:∀ (kV doc pm:Value) (an:Option Addr) (cdv ct:Value) (us:List Value),us.length=ps.length→bindArgs (PySem.W.fnOf x x (defArgs st) (defBody st) (defScope st) .none kV doc pm an cdv ct) ⟨us,[]⟩=pure (ps.zip us))
    (len:∀ vs H Q E,sp vs H Q E→vs.length=ps.length)
    (hbody:∀ (f:Addr) (cdv:Value) (A:Around) (outer:List Env) (s:Shared) (H:Hp) (vs:List V) (Q:VK) (E:XK),Room k (A.deeper (envOfC x (defScope st) s.heap.objs.size f cdv))→sp vs H Q E →
      ∃ t,PSs (cxOf CX0 P w K mg base N x (defScope st) f cdv A outer s H E).nox (defBody st) t∧t { nx:=fun _ H'=>Q .non H',rt:=Q } (start N vs) H):Has P w K mg base x (k+1) ps sp:=by
  obtain ⟨f,fd,F,m⟩:=D
  exact ⟨f,fd,F.ok S len fun cdv A outer s H vs Q E hr h=>hbody f cdv A outer s H vs Q E hr h,F.binds hb,F.kp,m⟩
end
theorem pe_callH {X:Cx} {x:Str} {k:Nat} {ps:List Str} {sp:Sp} {p pos:Pos} {e:Expr} {es:List Expr} {t:TA} (G:Has X.prog X.w X.K X.mg X.base x k ps sp) (hr:Room k X.A) (hg:Gl X x) (ha:PA X (e :: es) t)
    (hdb:(x == ("__debug__" : Str))=false:=by decide) (he:starEach (e :: es) X.env=(false,eval e X.env) :: starEach es X.env:=by rfl) (hpl:(backTo pos (starEach es X.env)).any (·.1)=false:=by rfl) :
    PE X (.Call (.Name x p) (e :: es) [] pos) (tCall sp [] E0 t):=by
  obtain ⟨f,fd,F,b,kp,m⟩:=G
  exact pe_call F hr hg m kp b .nil pass0 ha hdb he hpl
structure Blt (mg:Str→Option Value):Prop where
  len:mg "len" = none
  range:mg "range" = none
  zip:mg "zip" = none
  enumerate:mg "enumerate" = none
  max:mg "max" = none
  min:mg "min" = none
  int_:mg "int" = none
  str_:mg "str" = none
  bool_:mg "bool" = none
  list_:mg "list" = none
  tuple_:mg "tuple" = none
  isinstance:mg "isinstance" = none
section
variable {p q:Addr} {H H1 H2:Hp} {o:HO}
end
theorem bt_len:bootBuiltins "len" = some (.builtin "len"):=by decide +kernel
theorem bt_max:bootBuiltins "max" = some (.builtin "max"):=by decide +kernel
theorem bt_min:bootBuiltins "min" = some (.builtin "min"):=by decide +kernel
theorem bt_isinstance:bootBuiltins "isinstance" = some (.builtin "isinstance"):=by decide +kernel
theorem bt_int:bootBuiltins "int" = some (.type "int"):=by decide +kernel
theorem bt_str:bootBuiltins "str" = some (.type "str"):=by decide +kernel
theorem bt_bool:bootBuiltins "bool" = some (.type "bool"):=by decide +kernel
theorem bt_tuple:bootBuiltins "tuple" = some (.type "tuple"):=by decide +kernel
theorem Same.new {H0 H:Hp} {q:Addr} {o:HO} (h:Same H0 H) (hq:H q=none):Same H0 (upd H q o):=fun b u e=>by
  have:=h b u e
  rw [upd_ne (ne_of_none this hq)];exact this
theorem Same.write {H0 H:Hp} {q:Addr} {o:HO} (h:Same H0 H) (hq:H0 q=none):Same H0 (upd H q o):=fun b u e=>by
  rw [upd_ne (ne_of_none e hq)];exact h b u e
theorem app_list (a y:Str):(a++y).cps.toList=a.cps.toList++y.cps.toList:=by
  show (a.cps++y.cps).toList=_
  simp
end L2
namespace L2
open PySem PySem.Spec PyProof.Rows
section
variable {X:Cx}
theorem strsAre_of:∀ {ys:List Str} {us:List Value},Vals (ys.map V.str) us→StrsAre us ys
  | [],[],_=>.nil
  | [],_ :: _,h=>nomatch h
  | _ :: _,[],h=>nomatch h
  | y :: r,u :: us,h=>by
    cases h with
    | cons a b=>
      obtain ⟨t,rfl⟩:=a
      exact .cons y t (strsAre_of b)
theorem mt_join:MtR X "str.join" (fun x vs H Q=>∃ z a ys,x=.str z∧vs=[.ref a]∧SqL X.K H a (ys.map V.str)∧(ys.map (·.length)).sum+ys.length * z.length≤16777216∧Q (.str (Txt.join z ys)) H):=by
  intro pins s σ H x xs v us Q I rx rv h
  obtain ⟨z,a,ys,rfl,rfl,hl,hok,q⟩:=h
  obtain ⟨t,rfl⟩:=rx
  obtain ⟨u,rfl,ru⟩:=rv.one
  cases (show u=Value.ref a from ru)
  obtain ⟨its,r,ht,hz⟩:=I.list hl
  exact join_list ht.isList (strsAre_of (by simpa using r)) hok fun t' k=>⟨.str _,H,I.tok k,⟨t',rfl⟩,q⟩
theorem op_mul_str:OpR X (binaryOp .Mult) (fun x y H Q=>∃ z n,x=.str z∧y=.int n∧MulOk z n∧Q (.str (Txt.mul z n)) H):=by
  intro pins s σ H x y v u Q I rx ry h
  obtain ⟨z,n,rfl,rfl,hok,q⟩:=h
  obtain ⟨t,rfl⟩:=rx
  obtain ⟨t',rfl⟩:=ry
  exact SB.mul hok fun t' k=>⟨.str _,H,I.tok k,⟨t',rfl⟩,q⟩
def eqAtJ (xs ys:List V) (j:Nat):Bool:=match xs[j]?,ys[j]? with
  | some x,some y=>eqV x y
  | _,_=>false
def eqVs (xs ys:List V):Bool:=xs.length == ys.length && (List.range xs.length).all (eqAtJ xs ys)
theorem eqVs_ints (ns ms:List Int):eqVs (ns.map V.int) (ms.map V.int)=decide (ns=ms):=by
  rw [Bool.eq_iff_iff]
  unfold eqVs
  simp only [Bool.and_eq_true,beq_iff_eq,List.length_map,List.all_eq_true,List.mem_range,decide_eq_true_eq]
  constructor
  · rintro ⟨h1,h2⟩
    apply List.ext_getElem h1
    intro j a b
    have:=h2 j a
    unfold eqAtJ at this
    rw [List.getElem?_map,List.getElem?_map,List.getElem?_eq_getElem a,List.getElem?_eq_getElem b] at this
    simpa [eqV] using this
  · rintro rfl
    refine ⟨rfl,fun j hj=>?_⟩
    unfold eqAtJ
    rw [List.getElem?_map,List.getElem?_eq_getElem hj]
    simp [eqV]
theorem flat_ints (ns:List Int):(ns.map V.int).all flatV=true:=by
  rw [List.all_eq_true];intro x hx;obtain ⟨n,_,rfl⟩:=List.mem_map.mp hx;rfl
theorem eqAt_items {A:Around} {s:Shared} {xs ys:List V} {us ws:List Value} (r1:Vals xs us) (r2:Vals ys ws) (f1:xs.all flatV=true) (f2:ys.all flatV=true) (j:Nat) (h1:j < us.toArray.size) (h2:j < ws.toArray.size) :
    SeqAt.EqAt A s us.toArray[j] ws.toArray[j] (eqAtJ xs ys j):=by
  have g1:j < xs.length:=by rw [r1.length];simpa using h1
  have g2:j < ys.length:=by rw [r2.length];simpa using h2
  obtain ⟨u,e1,q1⟩:=r1.get (List.getElem?_eq_getElem g1)
  obtain ⟨v,e2,q2⟩:=r2.get (List.getElem?_eq_getElem g2)
  have d1:us.toArray[j]=u:=by
    rw [List.getElem?_eq_getElem (by simpa using h1)] at e1
    simpa using Option.some.inj e1
  have d2:ws.toArray[j]=v:=by
    rw [List.getElem?_eq_getElem (by simpa using h2)] at e2
    simpa using Option.some.inj e2
  rw [d1,d2]
  unfold eqAtJ
  rw [List.getElem?_eq_getElem g1,List.getElem?_eq_getElem g2]
  exact eqAt_V q1 q2 (List.all_eq_true.mp f1 _ (List.getElem_mem g1)) (List.all_eq_true.mp f2 _ (List.getElem_mem g2))
theorem op_eq_lst (hu:X.A.units < cLine):OpR X (compareOp .Eq) (fun x y H Q=>∃ a b xs ys,x=.ref a∧y=.ref b∧SqL X.K H a xs∧SqL X.K H b ys∧xs.all flatV=true∧ys.all flatV=true∧Q (.bl (eqVs xs ys)) H):=by
  intro pins s σ H x y v u Q I rx ry h
  obtain ⟨a,b,xs,ys,rfl,rfl,h1,h2,f1,f2,q⟩:=h
  cases (show v=Value.ref a from rx)
  cases (show u=Value.ref b from ry)
  obtain ⟨us,r1,l1,_⟩:=I.list h1
  obtain ⟨ws,r2,l2,_⟩:=I.list h2
  have e1:=r1.length
  have e2:=r2.length
  by_cases hl:xs.length=ys.length
  · refine SeqAt.eq_listAt (e:=eqAtJ xs ys) l1.isList l2.isList (by simp;omega) hu (fun j g1 g2=>eqAt_items r1 r2 f1 f2 j g1 g2) ⟨.bl _,H,I,rfl,?_⟩
    have:eqVs xs ys=(List.range us.toArray.size).all (eqAtJ xs ys):=by
      unfold eqVs
      rw [List.size_toArray,← e1,beq_iff_eq.mpr hl,Bool.true_and]
    rw [← this];exact q
  · refine SeqAt.eq_list_lengthsAt l1.isList l2.isList (by simp;omega) hu ⟨.bl _,H,I,rfl,?_⟩
    have:eqVs xs ys=false:=by
      unfold eqVs
      have:(xs.length == ys.length)=false:=by simpa using hl
      rw [this];rfl
    rw [this] at q;exact q
end
section
variable {NL:List Str} {ix:List Nat} {g:TG} {tt:TT} {te:TE} {σ:St} {H1:Hp} {Qs:Hp→Prop} {acc:Addr}
end
theorem kit_int_bool (K:PySem.W.Frag):PySem.W.kitOne K (.type "int") (.type "bool")=some false:=by rfl
theorem kit_same (K:PySem.W.Frag) (T:String):PySem.W.kitOne K (.type T) (.type T)=some true:=by
  unfold PySem.W.kitOne
  rw [if_pos (beq_self_eq_true _)]
abbrev Deck (H:Hp) (p:Addr) (c:Int):Prop:=∃ x y z:Int,H p=some (.lst [.int x,.int y,.int z])∧0≤z∧z≤c
structure Kd (p:Addr) (c:Int) (H H':Hp):Prop where
  deck:Deck H' p c
  keep:∀ b o,b≠p→H b=some o→H' b=some o
section
variable {p q:Addr} {H H1 H2:Hp} {o:HO} {c d:Int}
theorem Deck.mono (h:Deck H p c) (e:c≤d):Deck H p d:=let ⟨x,y,z,a,b,f⟩:=h;⟨x,y,z,a,b,Int.le_trans f e⟩
theorem Kd.mono (h:Kd p c H H1) (e:c≤d):Kd p d H H1:=⟨h.deck.mono e,h.keep⟩
theorem Kd.refl (h:Deck H p c):Kd p c H H:=⟨h,fun _ _ _ e=>e⟩
theorem Kd.trans (a:Kd p c H H1) (b:Kd p d H1 H2):Kd p d H H2:=⟨b.deck,fun k u hc e=>b.keep k u hc (a.keep k u hc e)⟩
theorem Kd.new (a:Kd p c H H1) (hq:H1 q=none):Kd p c H (upd H1 q o):=by
  obtain ⟨⟨x,y,z,e,r⟩,k⟩:=a
  refine ⟨⟨x,y,z,by rw [upd_ne (ne_of_none e hq)];exact e,r⟩,fun b u hc h=>?_⟩
  have:=k b u hc h
  rw [upd_ne (ne_of_none this hq)];exact this
theorem Kd.write (a:Kd p c H H1) (hq:H q=none) (hp:q≠p):Kd p c H (upd H1 q o):=by
  obtain ⟨⟨x,y,z,e,r⟩,k⟩:=a
  refine ⟨⟨x,y,z,by rw [upd_ne (Ne.symm hp)];exact e,r⟩,fun b u hc h=>?_⟩
  rw [upd_ne (ne_of_none h hq)];exact k b u hc h
theorem Deck.ne (h:Deck H p c) (hq:H q=none):q≠p:=by
  obtain ⟨x,y,z,e,_⟩:=h
  exact Ne.symm (ne_of_none e hq)
theorem Kd.same (a:Kd p c H H1) (s:Same H1 H2):Kd p c H H2:=by
  obtain ⟨⟨x,y,z,e,r⟩,k⟩:=a
  exact ⟨⟨x,y,z,s _ _ e,r⟩,fun b u hc h=>s _ _ (k b u hc h)⟩
theorem Kd.fresh (a:Kd p c H H1) (hq:H1 q=none):H q=none:=by
  cases e:H q with
  | none=>rfl
  | some u=>
    have:=a.keep q u (a.deck.ne hq) e
    rw [hq] at this;cases this
end
end L2
namespace L2
open PySem PySem.Spec PyProof.Rows
section
variable {X:Cx}
theorem op_ne_lst (hu:X.A.units < cLine):OpR X (compareOp .NotEq) (fun x y H Q=>∃ a b xs ys,x=.ref a∧y=.ref b∧SqL X.K H a xs∧SqL X.K H b ys∧xs.all flatV=true∧ys.all flatV=true∧Q (.bl (!eqVs xs ys)) H):=by
  intro pins s σ H x y v u Q I rx ry h
  obtain ⟨a,b,xs,ys,rfl,rfl,h1,h2,f1,f2,q⟩:=h
  cases (show v=Value.ref a from rx)
  cases (show u=Value.ref b from ry)
  obtain ⟨us,r1,l1,_⟩:=I.list h1
  obtain ⟨ws,r2,l2,_⟩:=I.list h2
  have e1:=r1.length
  have e2:=r2.length
  by_cases hl:xs.length=ys.length
  · refine SeqAt.RcNeAt.lists (e:=eqAtJ xs ys) l1.isList l2.isList (by simp;omega) hu (fun j g1 g2=>eqAt_items r1 r2 f1 f2 j g1 g2) _ _ _ _ ⟨.bl _,H,I,rfl,?_⟩
    have:eqVs xs ys=(List.range us.toArray.size).all (eqAtJ xs ys):=by
      unfold eqVs
      rw [List.size_toArray,← e1,beq_iff_eq.mpr hl,Bool.true_and]
    rw [← this];exact q
  · refine SeqAt.RcNeAt.lists_lengths l1.isList l2.isList (by simp;omega) hu _ _ _ _ ⟨.bl _,H,I,rfl,?_⟩
    have:eqVs xs ys=false:=by
      unfold eqVs
      have:(xs.length == ys.length)=false:=by simpa using hl
      rw [this];rfl
    rw [this] at q;exact q
end
end L2
namespace L2
open PySem PySem.Spec PyProof.Rows PySem.W
section
variable {X:Cx} {k:Nat}
end
end L2
namespace L2
open PySem PySem.Spec PyProof.Rows PySem.W
theorem SqL.keepS {K:PySem.W.Frag} {H H1:Hp} {q:Addr} {xs:List V} (h:SqL K H q xs) (s:Same H H1):SqL K H1 q xs:=by
  rcases h with (h | ⟨ob,h⟩) | h
  · exact .inl (.inl (s _ _ h))
  · exact .inl (.inr ⟨ob,s _ _ h⟩)
  · exact .inr h
end L2
namespace L2
open PySem PySem.Spec PyProof.Rows
section
variable {κ:Type} [DecidableEq κ]
end
section
variable {P:Program} {w:World} {H:Hp} {h:Heap} {a:Addr}
end
section
variable {X:Cx} {pins:List (Addr × Obj)} {σ:St} {H:Hp} {s:Shared} {a:Addr} {y v:V} {u r:Value} {o:Option V} {A:Around} {E:Value→Shared→Prop}
theorem Inv.big (I:Inv X pins σ H s):sysModules < s.heap.objs.size:=by
  have h:mainGlobals < s.heap.objs.size:=(I.mod.glob.keeps I.bk).lt
  exact Nat.lt_trans (by decide) h
end
section
variable {X:Cx} {pins:List (Addr × Obj)} {σ:St} {H:Hp} {s:Shared} {a:Addr} {kvs:List (Key × V)} {k:Key} {u:Value} {A:Around} {E:Value→Shared→Prop}
end
section
variable {X:Cx} {o i e value:Expr} {pos pos' tpos:Pos} {td ty tv:TE}
end
theorem dk_empty {P:Program} {w:World} {H:Hp} (h:Heap) (hb:sysModules < h.objs.size):ObjOk P w H (h.push { cls:=.type "dict", data:=.dict #[] }) h.objs.size (.dK []):=
  ⟨Nat.zero_le _,beq_eq_false_iff_ne.mpr (Ne.symm (Nat.ne_of_lt hb)),[],.nil,Heap.DictOf.new h⟩
def tDNewK:TE:=fun _ H Q=>∀ p,H p=none→Q (.ref p) (upd H p (.dK []))
section
variable {X:Cx} {pos:Pos}
theorem pe_dnewK:PE X (.Dict [] [] pos) tDNewK:=fun pins s σ H Q I h=>
  wpAny_Dict_empty ⟨.ref s.heap.objs.size,_,I.laid (a:=s.heap.objs.size) (o:=.dK []) (t':=s.toks) (fun _ _ q=>Heap.get?_push_of_some _ q) (Nat.le_refl _) (dk_empty s.heap I.big),rfl,h _ (I.hok.fresh (Nat.le_refl _))⟩
end
section
variable {X:Cx} {pins:List (Addr × Obj)} {σ:St} {H:Hp} {s:Shared} {a:Addr} {y d:V} {u r:Value} {o:Option V} {A:Around} {E:Value→Shared→Prop}
end
section
variable {X:Cx} {o e f:Expr} {apos cpos:Pos} {td ty tx:TE}
end
section
variable {X:Cx} {pins:List (Addr × Obj)} {σ:St} {H:Hp} {s:Shared} {a:Addr} {kvs:List (Key × V)} {A:Around} {E:Value→Shared→Prop}
end
section
variable {X:Cx} {pins:List (Addr × Obj)} {σ:St} {H:Hp} {s:Shared} {a:Addr} {y:V} {u:Value} {A:Around} {E:Value→Shared→Prop}
end
end L2
namespace L2
open PySem PySem.Spec PyProof.Rows PySem.W
open MeetsSeq MeetsSeq2 MeetsSeq3 SeqRoads2 SeqAt
section
variable {X:Cx} {tg:Expr}
end
section
theorem small10000 {n:Nat} (h:n < 10000):n < sizeLine:=by
  rw [sizeLine_eq];omega
end
section
variable {NL:List Str} {ix:List Nat} {g:TG} {tt:TT} {te:TE} {σ:St} {H1:Hp} {Qs:Hp→Prop} {acc:Addr}
end
section
variable {X:Cx}
end
end L2
namespace L2
open PySem PySem.Spec PyProof.Rows PySem.W
end L2
namespace W7
structure TreeOk (ups:List Int) (lab:List Nat):Prop where
  len:ups.length=lab.length
  pos:0 < ups.length
  most:ups.length≤60
  root:ups.getD 0 0=-1
  up:∀ k,0 < k→k < ups.length→0≤ups.getD k 0∧ups.getD k 0 < (k:Int)
theorem TreeOk.lt {ups:List Int} {lab:List Nat} (t:TreeOk ups lab) {k:Nat} (h:k < ups.length) (h0:¬ ups.getD k 0 < 0):(ups.getD k 0).toNat < k:=by
  rcases Nat.eq_zero_or_pos k with e | e
  · subst e;have:=t.root;omega
  · have:=t.up k e h;omega
end W7
namespace S04
open PySem L2 W7
def top (i:Nat):Stmt:=PySem.Challenge.pw_upwords_k04_texts_of_no_tree.main.body.getD i (.Pass ⟨0,0,0,0⟩)
abbrev s_all_above:Stmt:=top 20
abbrev N_all_above:List Str:=["ups", "place", "found", "up"]
theorem sc_all_above:FnScope N_all_above ["ups", "place"] (defScope s_all_above):=⟨rfl,rfl,rfl,by decide +kernel,rfl,by decide +kernel,by decide +kernel⟩
abbrev s_deep_of:Stmt:=top 21
abbrev N_deep_of:List Str:=["tree", "place"]
theorem sc_deep_of:FnScope N_deep_of ["tree", "place"] (defScope s_deep_of):=⟨rfl,rfl,rfl,by decide +kernel,rfl,by decide +kernel,by decide +kernel⟩
abbrev s_show_tree:Stmt:=top 23
abbrev N_show_tree:List Str:=["tree", "parts", "deep", "place", "letter", "deep_here"]
theorem sc_show_tree:FnScope N_show_tree ["tree"] (defScope s_show_tree):=⟨rfl,rfl,rfl,by decide +kernel,rfl,by decide +kernel,by decide +kernel⟩
abbrev s_read_tree:Stmt:=top 24
abbrev N_read_tree:List Str:=["text", "scan", "at", "sign"]
theorem sc_read_tree:FnScope N_read_tree ["text"] (defScope s_read_tree):=⟨rfl,rfl,rfl,by decide +kernel,rfl,by decide +kernel,by decide +kernel⟩
abbrev s_law_prime:Stmt:=top 27
abbrev N_law_prime:List Str:=["at", "some"]
theorem sc_law_prime:FnScope N_law_prime ["at"] (defScope s_law_prime):=⟨rfl,rfl,rfl,by decide +kernel,rfl,by decide +kernel,by decide +kernel⟩
abbrev s_law_pool:Stmt:=top 28
abbrev N_law_pool:List Str:=["cell"]
theorem sc_law_pool:FnScope N_law_pool ["cell"] (defScope s_law_pool):=⟨rfl,rfl,rfl,by decide +kernel,rfl,by decide +kernel,by decide +kernel⟩
abbrev s_law_take:Stmt:=top 29
abbrev N_law_take:List Str:=["pool", "many", "found", "at", "one", "two"]
theorem sc_law_take:FnScope N_law_take ["pool", "many"] (defScope s_law_take):=⟨rfl,rfl,rfl,by decide +kernel,rfl,by decide +kernel,by decide +kernel⟩
abbrev s_law_letter:Stmt:=top 30
abbrev N_law_letter:List Str:=["pool", "base"]
theorem sc_law_letter:FnScope N_law_letter ["pool", "base"] (defScope s_law_letter):=⟨rfl,rfl,rfl,by decide +kernel,rfl,by decide +kernel,by decide +kernel⟩
abbrev s_law_tree:Stmt:=top 31
abbrev N_law_tree:List Str:=["pool", "most", "many", "base", "way", "kind", "odd", "period", "climbs", "signs", "other", "ups", "labels", "k", "some", "place", "step", "letters"]
theorem sc_law_tree:FnScope N_law_tree ["pool", "most"] (defScope s_law_tree):=⟨rfl,rfl,rfl,by decide +kernel,rfl,by decide +kernel,by decide +kernel⟩
abbrev s_law_cells:Stmt:=top 32
abbrev N_law_cells:List Str:=["script", "many"]
theorem sc_law_cells:FnScope N_law_cells ["script", "many"] (defScope s_law_cells):=⟨rfl,rfl,rfl,by decide +kernel,rfl,by decide +kernel,by decide +kernel⟩
abbrev s_law_standing:Stmt:=top 33
abbrev N_law_standing:List Str:=["text", "opened", "letters", "at", "sign", "ahead", "good"]
theorem sc_law_standing:FnScope N_law_standing ["text"] (defScope s_law_standing):=⟨rfl,rfl,rfl,by decide +kernel,rfl,by decide +kernel,by decide +kernel⟩
abbrev s_law_due:Stmt:=top 34
abbrev N_law_due:List Str:=["text", "stand"]
theorem sc_law_due:FnScope N_law_due ["text"] (defScope s_law_due):=⟨rfl,rfl,rfl,by decide +kernel,rfl,by decide +kernel,by decide +kernel⟩
abbrev s_law_bent:Stmt:=top 35
abbrev N_law_bent:List Str:=["pool", "text", "way", "at", "sign", "front", "back", "some"]
theorem sc_law_bent:FnScope N_law_bent ["pool", "text"] (defScope s_law_bent):=⟨rfl,rfl,rfl,by decide +kernel,rfl,by decide +kernel,by decide +kernel⟩
abbrev s_law_told:Stmt:=top 36
abbrev N_law_told:List Str:=["thing", "e"]
theorem sc_law_told:FnScope N_law_told ["thing"] (defScope s_law_told):=⟨rfl,rfl,rfl,by decide +kernel,rfl,by decide +kernel,by decide +kernel⟩
abbrev s_law:Stmt:=top 37
abbrev N_law:List Str:=["script", "cell", "pool", "text", "texts", "turn", "once", "one", "found", "due", "thing"]
theorem sc_law:FnScope N_law ["script"] (defScope s_law):=⟨rfl,rfl,rfl,by decide +kernel,rfl,by decide +kernel,by decide +kernel⟩
abbrev s_NoTree___init__:Stmt:=inClass (top 16) 0
abbrev N_NoTree___init__:List Str:=["self", "at"]
theorem sc_NoTree___init__:FnScope N_NoTree___init__ ["self", "at"] (defScope s_NoTree___init__):=⟨rfl,rfl,rfl,by decide +kernel,rfl,by decide +kernel,by decide +kernel⟩
abbrev s_Scan___init__:Stmt:=inClass (top 25) 0
abbrev N_Scan___init__:List Str:=["self"]
theorem sc_Scan___init__:FnScope N_Scan___init__ ["self"] (defScope s_Scan___init__):=⟨rfl,rfl,rfl,by decide +kernel,rfl,by decide +kernel,by decide +kernel⟩
abbrev s_Scan_can_take:Stmt:=inClass (top 25) 1
abbrev N_Scan_can_take:List Str:=["self", "sign"]
theorem sc_Scan_can_take:FnScope N_Scan_can_take ["self", "sign"] (defScope s_Scan_can_take):=⟨rfl,rfl,rfl,by decide +kernel,rfl,by decide +kernel,by decide +kernel⟩
abbrev s_Scan_take:Stmt:=inClass (top 25) 2
abbrev N_Scan_take:List Str:=["self", "sign"]
theorem sc_Scan_take:FnScope N_Scan_take ["self", "sign"] (defScope s_Scan_take):=⟨rfl,rfl,rfl,by decide +kernel,rfl,by decide +kernel,by decide +kernel⟩
abbrev s_Scan_is_done:Stmt:=inClass (top 25) 3
abbrev N_Scan_is_done:List Str:=["self"]
theorem sc_Scan_is_done:FnScope N_Scan_is_done ["self"] (defScope s_Scan_is_done):=⟨rfl,rfl,rfl,by decide +kernel,rfl,by decide +kernel,by decide +kernel⟩
section
variable {P:Program} {w:World} {K:PySem.W.Frag} {mg:Str→Option Value} {base:Heap} {k:Nat}
def mk (l:List Nat):Str:=⟨l.toArray⟩
theorem mk_cps (l:List Nat):(mk l).cps.toList=l:=rfl
theorem mk_len (l:List Nat):(mk l).length=l.length:=by simp [mk,Str.length]
theorem str_ext {a b:Str} (h:a.cps.toList=b.cps.toList):a=b:=by
  obtain ⟨x⟩:=a;obtain ⟨y⟩:=b
  have:x=y:=Array.toList_inj.mp h
  rw [this]
def TreeAt (H:Hp) (t:Addr) (ups:List Int) (lab:Str):Prop:=∃ u,H t=some (.tup [.ref u,.str lab])∧H u=some (.tup (ups.map V.int))∧TreeOk ups lab.cps.toList
theorem TreeAt.same {H H':Hp} {t:Addr} {ups:List Int} {lab:Str} (h:TreeAt H t ups lab) (s:Same H H'):TreeAt H' t ups lab:=by
  obtain ⟨u,a,b,c⟩:=h
  exact ⟨u,s _ _ a,s _ _ b,c⟩
def oneV (cs:List Nat):List V:=cs.map fun c=>.str ⟨#[c]⟩
theorem oneV_len (cs:List Nat):(oneV cs).length=cs.length:=List.length_map _
theorem oneV_at {cs:List Nat} {i:Int} (h0:0≤i) (h1:i < (cs.length:Int)):∃ c,atI (oneV cs) i=some (.str ⟨#[c]⟩)∧c∈cs:=by
  have hk:i.toNat < cs.length:=by omega
  refine ⟨cs[i.toNat],?_,List.getElem_mem hk⟩
  have e:=atI_nat (xs:=oneV cs) (j:=i.toNat) (v:=.str ⟨#[cs[i.toNat]]⟩) (by unfold oneV;rw [List.getElem?_map,List.getElem?_eq_getElem hk];rfl)
  rw [show ((i.toNat:Nat):Int)=i by omega] at e
  exact e
theorem ints_at {us:List Int} {i:Int} (h0:0≤i) (h1:i < (us.length:Int)):atI (us.map V.int) i=some (.int (us.getD i.toNat 0)):=by
  have hk:i.toNat < us.length:=by omega
  have e:=atI_nat (xs:=us.map V.int) (j:=i.toNat) (v:=.int (us.getD i.toNat 0)) (by rw [List.getElem?_map,List.getElem?_eq_getElem hk,List.getD_eq_getElem?_getD,List.getElem?_eq_getElem hk];rfl)
  rw [show ((i.toNat:Nat):Int)=i by omega] at e
  exact e
abbrev Lw (c:Nat):Prop:=97≤c∧c < 123
theorem alph_at {i:Int} (h0:0≤i) (h1:i < 26):∃ c,atI (Str.ofString "abcdefghijklmnopqrstuvwxyz").cps.toList i=some c∧Lw c:=by
  have hl:(Str.ofString "abcdefghijklmnopqrstuvwxyz").cps.toList.length=26:=by decide +kernel
  have hk:i.toNat < (Str.ofString "abcdefghijklmnopqrstuvwxyz").cps.toList.length:=by omega
  have e:=atI_nat (xs:=(Str.ofString "abcdefghijklmnopqrstuvwxyz").cps.toList) (j:=i.toNat) (List.getElem?_eq_getElem hk)
  rw [show ((i.toNat:Nat):Int)=i by omega] at e
  have all:∀ c∈(Str.ofString "abcdefghijklmnopqrstuvwxyz").cps.toList,Lw c:=by decide +kernel
  exact ⟨_,e,all _ (List.getElem_mem hk)⟩
theorem menu {us:List Int} {n lo hi:Int} (h0:0≤n) (h1:n < (us.length:Int)) (hb:∀ v∈us,lo≤v∧v≤hi):∃ v:Int,atI (us.map V.int) n=some (.int v)∧lo≤v∧v≤hi:=by
  refine ⟨_,ints_at h0 h1,?_⟩
  have hk:n.toNat < us.length:=by omega
  rw [List.getD_eq_getElem?_getD,List.getElem?_eq_getElem hk]
  exact hb _ (List.getElem_mem hk)
def sp_prime:Sp:=fun vs H Q _=>∃ z:Int,vs=[.int z]∧∀ (n:Int) (H':Hp),0 < n→n < 2147483648→Same H H'→Q (.int n) H'
theorem has_prime (D:Df K mg "_law_prime" s_law_prime) (B:Blt mg):Has P w K mg base "_law_prime" (k+1) ["at"] sp_prime:=by
  refine D.has sc_law_prime (fun _ _ _ _ _ _ us hl=>match us,hl with | [_],_=>rfl) (fun vs H Q E h=>by obtain ⟨z,rfl,_⟩:=h;rfl) (fun f cdv A outer s H vs Q E hr h=>?_)
  obtain ⟨z,rfl,q⟩:=h
  refine ⟨_,(pss_cons (ps_set (i:=1) sc_law_prime.nd rfl (by first | exact Or.inl rfl | exact Or.inr rfl) (pe_lst (pa_cons pe_int (pa_cons pe_int (pa_cons pe_int (pa_cons pe_int (pa_cons pe_int (pa_cons pe_int (pa_cons pe_int pa_nil)))))))))
  (pss_one (ps_ret (pe_ix ix_list (pe_op op_cat (pv 1) (pe_lst (pa_cons pe_int (pa_cons pe_int (pa_cons pe_int (pa_cons pe_int pa_nil)))))) (pe_op op_mod (pv 0) pe_int) (fun _ _=>rfl))))),?_⟩
  refine ⟨(by show 7≤sizeLine;decide),fun r1 hr1=>?_⟩
  refine ⟨_,rfl,(by show 4≤sizeLine;decide),fun r2 hr2=>?_⟩
  have n12:r1≠r2:=ne_of_none upd_same hr2
  refine ⟨r1,r2,_,_,rfl,rfl,by rw [upd_ne n12];exact upd_same,upd_same,(by show 11≤sizeLine;decide),fun r3 hr3=>?_⟩
  refine ⟨_,rfl,_,_,rfl,rfl,(by decide:(0:Int) < 11),?_⟩
  obtain ⟨v,hv,v0,v1⟩:=menu (us:=[2147483647,2147483629,2147483587,2147483579,2147483563,2147483549,2147483543,2147483497,2147483489,2147483477,2147483423]) (n:=z % 11) (lo:=1) (hi:=2147483647) (Int.emod_nonneg _ (by decide)) (Int.emod_lt_of_pos _ (by decide)) (by decide)
  refine ⟨r3,_,_,_,rfl,rfl,SqL.of upd_same,hv,q v _ (by omega) (by omega) ?_⟩
  exact (((Same.refl H).new hr1).new hr2).new hr3
def sp_pool:Sp:=fun vs H Q _=>∃ cell:Int,vs=[.int cell]∧∀ (p:Addr) (x y:Int),H p=none→Q (.ref p) (upd H p (.lst [.int x,.int y,.int 0]))
theorem has_pool (D:Df K mg "_law_pool" s_law_pool) (B:Blt mg):Has P w K mg base "_law_pool" (k+1) ["cell"] sp_pool:=by
  refine D.has sc_law_pool (fun _ _ _ _ _ _ us hl=>match us,hl with | [_],_=>rfl) (fun vs H Q E h=>by obtain ⟨z,rfl,_⟩:=h;rfl) (fun f cdv A outer s H vs Q E hr h=>?_)
  obtain ⟨cell,rfl,q⟩:=h
  refine ⟨_,(pss_one (ps_ret (pe_lst (pa_cons (pe_callB (call_max2 rfl) rfl B.max bt_max (pa_cons pe_int (pa_cons (pe_op op_sub (pv 0) (pe_op op_pow pe_int pe_int)) pa_nil))) (pa_cons (pv 0) (pa_cons pe_int pa_nil)))))),?_⟩
  refine ⟨_,rfl,_,_,rfl,rfl,⟨by decide,by decide,by decide⟩,_,_,rfl,rfl,_,_,rfl,?_⟩
  exact ⟨_,rfl,(by show 3≤sizeLine;decide),fun p hp=>q p _ _ hp⟩
theorem pow_ok (u n z y:Int) (hn:0 < n) (hn2:n < 2147483648) (z0:0≤z) (z1:z < 1000000):(u % n * (u % n)+69621 * z+y % 65537+1).natAbs < 2 ^ 64:=by
  have o1:=Int.emod_nonneg u (show n≠0 by omega)
  have o2:=Int.emod_lt_of_pos u hn
  generalize u % n=one at o1 o2
  have oo:one * one≤2147483648 * 2147483648:=Int.mul_le_mul (by omega) (by omega) o1 (by decide)
  have oo0:0≤one * one:=Int.mul_nonneg o1 o1
  have w1:=Int.emod_nonneg y (by decide:(65537:Int)≠0)
  have w2:=Int.emod_lt_of_pos y (by decide:(0:Int) < 65537)
  generalize one * one=q1 at oo oo0
  omega
theorem mod_in (u n:Int) (hn:0 < n) (hn2:n < 2147483648):-(2 ^ 64) < u % n∧u % n < 2 ^ 64:=by
  have o1:=Int.emod_nonneg u (show n≠0 by omega)
  have o2:=Int.emod_lt_of_pos u hn
  omega
def sp_take:Sp:=fun vs H Q _=>∃ (p:Addr) (m c:Int),vs=[.ref p,.int m]∧Deck H p c∧c < 1000000∧0 < m∧m < 1073741824∧∀ (n:Int) (H':Hp),0≤n→n < m→Kd p (c+1) H H'→Q (.int n) H'
theorem has_take (D:Df K mg "_law_take" s_law_take) (B:Blt mg) (G_law_prime:Has P w K mg base "_law_prime" k ["at"] sp_prime):Has P w K mg base "_law_take" (k+1) ["pool", "many"] sp_take:=by
  refine D.has sc_law_take (fun _ _ _ _ _ _ us hl=>match us,hl with | [_,_],_=>rfl) (fun vs H Q E h=>by obtain ⟨p,m,c,rfl,_⟩:=h;rfl) (fun f cdv A outer s H vs Q E hr h=>?_)
  obtain ⟨p,m,c,rfl,⟨x,y,z,hp,z0,z1⟩,c6,m0,m1,q⟩:=h
  refine ⟨_,(pss_cons (ps_if (pt_cmpR op_gt (pe_ix ix_list (pv 0) pe_int (fun _ _=>rfl)) pe_int (nomark _))
  (pss_cons (ps_set (i:=2) sc_law_take.nd rfl (by first | exact Or.inl rfl | exact Or.inr rfl) (pe_op op_mod (pe_ix ix_list (pv 0) pe_int (fun _ _=>rfl)) (pv 1)))
  (pss_cons (ps_asg (pe_op op_fdiv (pe_ix ix_list (pv 0) pe_int (fun _ _=>rfl)) (pv 1)) (pg_sub (pv 0) pe_int set_list))
  (pss_one (ps_ret (pv 2)))))
  pss_nil)
  (pss_cons (ps_set (i:=3) sc_law_take.nd rfl (by first | exact Or.inl rfl | exact Or.inr rfl) (pe_ix ix_list (pv 0) pe_int (fun _ _=>rfl)))
  (pss_cons (ps_asg (pe_op op_add (pv 3) pe_int) (pg_sub (pv 0) pe_int set_list))
  (pss_cons (ps_set (i:=4) sc_law_take.nd rfl (by first | exact Or.inl rfl | exact Or.inr rfl) (pe_op op_mod (pe_op op_pow (pe_op op_add (pe_op op_add (pe_op op_mod (pe_ix ix_list (pv 0) pe_int (fun _ _=>rfl)) pe_int) (pe_op op_mul pe_int (pv 3))) pe_int) pe_int) (pe_callH G_law_prime hr rfl (pa_cons (pv 3) pa_nil))))
  (pss_cons (ps_set (i:=5) sc_law_take.nd rfl (by first | exact Or.inl rfl | exact Or.inr rfl) (pe_op op_mod (pe_op op_pow (pe_op op_add (pe_op op_add (pe_op op_add (pe_op op_mul (pv 4) (pv 4)) (pe_op op_mul pe_int (pv 3))) (pe_op op_mod (pe_ix ix_list (pv 0) pe_int (fun _ _=>rfl)) pe_int)) pe_int) pe_int) (pe_callH G_law_prime hr rfl (pa_cons (pe_op op_add (pv 3) pe_int) pa_nil))))
  (pss_one (ps_ret (pe_op op_mod (pe_op op_fdiv (pe_op op_mod (pe_op op_add (pe_op op_mul (pv 5) pe_int) (pv 4)) (pe_callH G_law_prime hr rfl (pa_cons (pe_op op_add (pv 3) pe_int) pa_nil))) pe_int) (pv 1))))))))),?_⟩
  refine ⟨_,rfl,p,_,_,_,rfl,rfl,SqL.of hp,rfl,_,_,rfl,rfl,_,rfl,ite2 (fun cnd=>?_) (fun cnd=>?_)⟩
  · refine ⟨_,rfl,p,_,_,_,rfl,rfl,SqL.of hp,rfl,_,rfl,_,_,rfl,rfl,m0,?_⟩
    refine ⟨_,rfl,p,_,_,_,rfl,rfl,SqL.of hp,rfl,_,rfl,_,_,rfl,rfl,⟨m0,m1⟩,?_⟩
    refine ⟨_,rfl,p,_,_,0,rfl,rfl,hp,rfl,_,rfl,?_⟩
    exact q _ _ (Int.emod_nonneg _ (by omega)) (Int.emod_lt_of_pos _ m0) ⟨⟨_,y,z,upd_same,z0,by omega⟩,fun b o hb e=>by rw [upd_ne hb];exact e⟩
  · refine ⟨_,rfl,p,_,_,_,rfl,rfl,SqL.of hp,rfl,_,rfl,_,_,rfl,rfl,?_⟩
    refine ⟨_,rfl,p,_,_,2,rfl,rfl,hp,rfl,?_⟩
    have hp':upd H p (.lst [.int x,.int y,.int (z+1)]) p=some (.lst [.int x,.int y,.int (z+1)]):=upd_same
    have kd:Kd p (c+1) H (upd H p (.lst [.int x,.int y,.int (z+1)])):=⟨⟨x,y,z+1,upd_same,by omega,by omega⟩,fun b o hb e=>by rw [upd_ne hb];exact e⟩
    have y1:=Int.emod_nonneg y (by decide:(2147483399:Int)≠0)
    have y2:=Int.emod_lt_of_pos y (by decide:(0:Int) < 2147483399)
    refine ⟨_,rfl,p,_,_,_,rfl,rfl,SqL.of hp',rfl,_,_,rfl,rfl,(by decide:(0:Int) < 2147483399),_,rfl,_,_,rfl,rfl,.inl ⟨by decide,by decide⟩,_,_,rfl,rfl,_,_,rfl,rfl,_,_,rfl,rfl,⟨by decide,by decide,by omega⟩,?_⟩
    refine ⟨_,rfl,z,rfl,fun n1 H1 a0 a1 s1=>⟨_,_,rfl,rfl,a0,?_⟩⟩
    have hp1:=s1 _ _ hp'
    refine ⟨_,rfl,_,rfl,_,_,rfl,rfl,.inl (mod_in _ _ a0 a1),_,rfl,_,_,rfl,rfl,.inl ⟨by decide,by decide⟩,_,_,rfl,rfl,_,rfl,p,_,_,_,rfl,rfl,SqL.of hp1,rfl,_,_,rfl,rfl,(by decide:(0:Int) < 65537),_,_,rfl,rfl,_,_,rfl,rfl,_,_,rfl,rfl,⟨by decide,by decide,pow_ok _ _ _ _ a0 a1 z0 (by omega)⟩,?_⟩
    refine ⟨_,rfl,_,_,rfl,rfl,z+4,rfl,fun n2 H2 b0 b1 s2=>⟨_,_,rfl,rfl,b0,?_⟩⟩
    refine ⟨_,rfl,_,_,rfl,rfl,.inr ⟨by decide,by decide⟩,_,rfl,_,_,rfl,rfl,_,rfl,_,_,rfl,rfl,z+7,rfl,fun n3 H3 d0 d1 s3=>⟨_,_,rfl,rfl,d0,?_⟩⟩
    refine ⟨_,_,rfl,rfl,⟨by decide,by decide⟩,_,rfl,_,_,rfl,rfl,m0,?_⟩
    exact q _ _ (Int.emod_nonneg _ (by omega)) (Int.emod_lt_of_pos _ m0) (((kd.same s1).same s2).same s3)
def sp_letter:Sp:=fun vs H Q _=>∃ (p b:Addr) (c b0 b1:Int),vs=[.ref p,.ref b]∧Deck H p c∧c < 1000000∧H b=some (.tup [.int b0,.int b1])∧0 < b1∧b1≤26∧∀ (ch:Nat) (H':Hp),Lw ch→Kd p (c+1) H H'→Q (.str ⟨#[ch]⟩) H'
theorem has_letter (D:Df K mg "_law_letter" s_law_letter) (B:Blt mg) (G_law_take:Has P w K mg base "_law_take" k ["pool", "many"] sp_take):Has P w K mg base "_law_letter" (k+1) ["pool", "base"] sp_letter:=by
  refine D.has sc_law_letter (fun _ _ _ _ _ _ us hl=>match us,hl with | [_,_],_=>rfl) (fun vs H Q E h=>by obtain ⟨p,b,c,b0,b1,rfl,_⟩:=h;rfl) (fun f cdv A outer s H vs Q E hr h=>?_)
  obtain ⟨p,b,c,b0,b1,rfl,hd,c6,hb,p0,p1,q⟩:=h
  refine ⟨_,(pss_one (ps_ret (pe_ix ix_str pe_str (pe_op op_mod (pe_op op_add (pe_ix ix_tup (pv 1) pe_int (fun _ _=>rfl)) (pe_op op_mul pe_int (pe_callH G_law_take hr rfl (pa_cons (pv 0) (pa_cons (pe_ix ix_tup (pv 1) pe_int (fun _ _=>rfl)) pa_nil))))) pe_int) (fun _ _=>rfl)))),?_⟩
  have hl:(Str.ofString "abcdefghijklmnopqrstuvwxyz").length=26:=by decide +kernel
  refine ⟨_,rfl,b,_,_,_,rfl,rfl,SqT.of hb,rfl,_,rfl,_,rfl,b,_,_,_,rfl,rfl,SqT.of hb,rfl,p,b1,c,rfl,hd,c6,p0,by omega,fun n H1 n0 n1 kd=>?_⟩
  obtain ⟨ch,hch,chl⟩:=alph_at (i:=(b0+5 * n) % 26) (Int.emod_nonneg _ (by decide)) (Int.emod_lt_of_pos _ (by decide))
  refine ⟨_,_,rfl,rfl,.inl ⟨by decide,by decide⟩,_,_,rfl,rfl,_,_,rfl,rfl,(by decide:(0:Int) < 26),_,_,_,rfl,rfl,by rw [hl];exact Nat.le_of_lt (small1000 (by decide)),hch,q ch H1 chl kd⟩
end
end S04
namespace S04
open PySem L2 W7
section
variable {P:Program} {w:World} {K:PySem.W.Frag} {mg:Str→Option Value} {base:Heap} {k:Nat}
def stepUp (us:List Int) (p:Int):Int:=if us.getD p.toNat 0 > 0 then us.getD p.toNat 0 else 0
def climb (us:List Int):Nat→Int→Int
  | 0,p=>p
  | n+1,p=>stepUp us (climb us n p)
structure GrOk (us:List Int):Prop where
  road:∀ k,0 < k→k < us.length→∃ n,climb us n ((k:Int) - 1)=us.getD k 0
  pos:0 < us.length
  root:us.getD 0 0=-1
  up:∀ k,0 < k→k < us.length→0≤us.getD k 0∧us.getD k 0 < (k:Int)
theorem getD_app {us vs:List Int} {j:Nat}:(us++vs).getD j 0=if j < us.length then us.getD j 0 else vs.getD (j - us.length) 0:=by
  simp only [List.getD_eq_getElem?_getD]
  split
  · rename_i h;rw [List.getElem?_append_left h]
  · rename_i h;rw [List.getElem?_append_right (by omega)]
theorem GrOk.climb {us:List Int} (g:GrOk us) (v:Int) {p:Int} (h0:0≤p) (h1:p < (us.length:Int)):∀ n,climb (us++[v]) n p=climb us n p∧0≤climb us n p∧climb us n p < (us.length:Int)
  | 0=>⟨rfl,h0,h1⟩
  | n+1=>by
    obtain ⟨a,b,c⟩:=g.climb v h0 h1 n
    have lt:(S04.climb us n p).toNat < us.length:=by omega
    have e:(us++[v]).getD (S04.climb us n p).toNat 0=us.getD (S04.climb us n p).toNat 0:=by rw [getD_app,if_pos lt]
    refine ⟨?_,?_⟩
    · show stepUp (us++[v]) (S04.climb (us++[v]) n p)=stepUp us (S04.climb us n p)
      rw [a];unfold stepUp;rw [e]
    · show 0≤stepUp us (S04.climb us n p)∧stepUp us (S04.climb us n p) < (us.length:Int)
      have pos:=g.pos
      unfold stepUp
      rcases Nat.eq_zero_or_pos (S04.climb us n p).toNat with z | z
      · rw [z,g.root];exact ⟨by decide,by show (0:Int) < _;omega⟩
      · have:=g.up _ z lt
        split <;> omega
theorem GrOk.snoc {us:List Int} (g:GrOk us) {v:Int} (h0:0≤v) (h1:v < (us.length:Int)) (hr:∃ n,S04.climb us n ((us.length:Int) - 1)=v):GrOk (us++[v]) where
  road:=fun j hj hl=>by
    rw [List.length_append,List.length_singleton] at hl
    rw [getD_app]
    have pos:=g.pos
    split
    · rename_i h
      obtain ⟨n,e⟩:=g.road j hj h
      exact ⟨n,((g.climb v (by omega) (by omega) n).1).trans e⟩
    · rename_i h
      have e:j=us.length:=by omega
      subst e
      obtain ⟨n,e⟩:=hr
      rw [Nat.sub_self]
      exact ⟨n,((g.climb v (by omega) (by omega) n).1).trans e⟩
  pos:=by rw [List.length_append];have:=g.pos;omega
  root:=by rw [getD_app,if_pos g.pos];exact g.root
  up:=fun j hj hl=>by
    rw [List.length_append,List.length_singleton] at hl
    rw [getD_app]
    split
    · rename_i h;exact g.up j hj h
    · rename_i h
      have e:j=us.length:=by omega
      subst e
      rw [Nat.sub_self]
      exact ⟨h0,h1⟩
theorem GrOk.one:GrOk [-1]:=⟨fun j h0 h1=>by
  have:j < 1:=h1
  omega,by decide,rfl,fun j h0 h1=>by
  have:j < 1:=h1
  omega⟩
theorem gr_tree {us:List Int} {ls:List Nat} (g:GrOk us) (hl:us.length=ls.length) (h60:us.length≤60):TreeOk us (mk ls).cps.toList:=⟨by rw [mk_cps];exact hl,g.pos,h60,g.root,g.up⟩
structure Fine (ups:List Int) (lab:Str):Prop where
  low:∀ c∈lab.cps.toList,Lw c
  road:∀ k,0 < k→k < ups.length→∃ n,climb ups n ((k:Int) - 1)=ups.getD k 0
def Gr0 (us:List Int):Prop:=us=[]∨GrOk us
theorem low_app {cs:List Nat} {c:Nat} (h:∀ x∈cs,Lw x) (hc:Lw c):∀ x∈cs++[c],Lw x:=fun x hx=>by
  rcases List.mem_append.mp hx with z | z
  · exact h x z
  · obtain rfl:=List.mem_singleton.mp z;exact hc
def sp_tree:Sp:=fun vs H Q _=>∃ (p:Addr) (most c:Int),vs=[.ref p,.int most]∧Deck H p c∧0≤c∧c < 900000∧1≤most∧most≤60∧∀ (t:Addr) (ups:List Int) (lab:Str) (H':Hp),Kd p (c+400) H H'→TreeAt H' t ups lab→Fine ups lab→Q (.ref t) H'
theorem has_tree (D:Df K mg "_law_tree" s_law_tree) (B:Blt mg) (G_law_take:Has P w K mg base "_law_take" k ["pool", "many"] sp_take) (G_law_letter:Has P w K mg base "_law_letter" k ["pool", "base"] sp_letter):Has P w K mg base "_law_tree" (k+1) ["pool", "most"] sp_tree:=by
  refine D.has sc_law_tree (fun _ _ _ _ _ _ us hl=>match us,hl with | [_,_],_=>rfl) (fun vs H Q E h=>by obtain ⟨p,m,c,rfl,_⟩:=h;rfl) (fun f cdv A outer s H vs Q E hr h=>?_)
  obtain ⟨p,most,c,rfl,hd,cc0,cc1,ms1,ms60,q⟩:=h
  refine ⟨_,(pss_cons (ps_set (i:=2) sc_law_tree.nd rfl (by first | exact Or.inl rfl | exact Or.inr rfl) (pe_ix ix_list (pe_lst (pa_cons (pe_op op_add pe_int (pe_callH G_law_take hr rfl (pa_cons (pv 0) (pa_cons (pv 1) pa_nil)))) (pa_cons (pv 1) (pa_cons (pe_op op_add pe_int (pe_callH G_law_take hr rfl (pa_cons (pv 0) (pa_cons (pe_callB (call_min2 rfl) rfl B.min bt_min (pa_cons (pv 1) (pa_cons pe_int pa_nil))) pa_nil)))) pa_nil)))) (pe_callH G_law_take hr rfl (pa_cons (pv 0) (pa_cons pe_int pa_nil))) (fun _ _=>rfl)))
  (pss_cons (ps_set (i:=3) sc_law_tree.nd rfl (by first | exact Or.inl rfl | exact Or.inr rfl) (pe_tup (pa_cons (pe_callH G_law_take hr rfl (pa_cons (pv 0) (pa_cons pe_int pa_nil))) (pa_cons (pe_ix ix_list (pe_lst (pa_cons pe_int (pa_cons pe_int (pa_cons pe_int (pa_cons pe_int pa_nil))))) (pe_callH G_law_take hr rfl (pa_cons (pv 0) (pa_cons pe_int pa_nil))) (fun _ _=>rfl)) pa_nil))))
  (pss_cons (ps_set (i:=4) sc_law_tree.nd rfl (by first | exact Or.inl rfl | exact Or.inr rfl) (pe_callH G_law_take hr rfl (pa_cons (pv 0) (pa_cons pe_int pa_nil))))
  (pss_cons (ps_set (i:=5) sc_law_tree.nd rfl (by first | exact Or.inl rfl | exact Or.inr rfl) (pe_callB (call_max2 rfl) rfl B.max bt_max (pa_cons (pe_callH G_law_take hr rfl (pa_cons (pv 0) (pa_cons pe_int pa_nil))) (pa_cons (pe_callTy call_int1 rfl B.int_ bt_int (pa_cons (pe_cmpR op_eq (pv 4) pe_int (nomark _)) pa_nil)) pa_nil))))
  (pss_cons (ps_set (i:=6) sc_law_tree.nd rfl (by first | exact Or.inl rfl | exact Or.inr rfl) (pe_callH G_law_take hr rfl (pa_cons (pv 0) (pa_cons (pv 2) pa_nil))))
  (pss_cons (ps_set (i:=7) sc_law_tree.nd rfl (by first | exact Or.inl rfl | exact Or.inr rfl) (pe_op op_add pe_int (pe_callH G_law_take hr rfl (pa_cons (pv 0) (pa_cons pe_int pa_nil)))))
  (pss_cons (ps_comp (i:=8) sc_law_tree.nd rfl (by first | exact Or.inl rfl | exact Or.inr rfl) rfl (pi_range1 rfl B.range (pa_cons (pv 7) pa_nil)) (NL:=["k"]) (ix:=[0]) (csc (defScope s_law_tree) N_law_tree) (fun cl C s₃ H₃ fp pins=>⟨(pg_name (i:=0) (show List.Nodup (["k", "pool"]:List Str) from by decide +kernel) rfl (by first | exact Or.inl rfl | exact Or.inr rfl)),pifs_nil,(pe_callH G_law_take hr rfl (pa_cons (pv 1) (pa_cons pe_int pa_nil)))⟩))
  (pss_cons (ps_comp (i:=9) sc_law_tree.nd rfl (by first | exact Or.inl rfl | exact Or.inr rfl) rfl (pi_range1 rfl B.range (pa_cons (pv 7) pa_nil)) (NL:=["k"]) (ix:=[0,3]) (csc (defScope s_law_tree) N_law_tree) (fun cl C s₃ H₃ fp pins=>⟨(pg_name (i:=0) (show List.Nodup (["k", "pool", "base"]:List Str) from by decide +kernel) rfl (by first | exact Or.inl rfl | exact Or.inr rfl)),pifs_nil,(pe_callH G_law_letter hr rfl (pa_cons (pv 1) (pa_cons (pv 2) pa_nil)))⟩))
  (pss_cons (ps_set (i:=10) sc_law_tree.nd rfl (by first | exact Or.inl rfl | exact Or.inr rfl) (pe_ix ix_str pe_str (pe_callH G_law_take hr rfl (pa_cons (pv 0) (pa_cons pe_int pa_nil))) (fun _ _=>rfl)))
  (pss_cons (ps_set (i:=11) sc_law_tree.nd rfl (by first | exact Or.inl rfl | exact Or.inr rfl) (pe_lst pa_nil))
  (pss_cons (ps_set (i:=12) sc_law_tree.nd rfl (by first | exact Or.inl rfl | exact Or.inr rfl) pe_str)
  (pss_cons (ps_for PassesOwn.never rfl (pi_range1 rfl B.range (pa_cons (pv 2) pa_nil)) (pg_name (i:=13) sc_law_tree.nd rfl (by first | exact Or.inl rfl | exact Or.inr rfl))
  (pss_cons (ps_set (i:=14) sc_law_tree.nd rfl (by first | exact Or.inl rfl | exact Or.inr rfl) (pe_lst (pa_cons pe_int (pa_cons pe_int (pa_cons (pe_op op_mod (pv 13) pe_int) (pa_cons (pe_callH G_law_take hr rfl (pa_cons (pv 0) (pa_cons pe_int pa_nil))) (pa_cons (pe_callH G_law_take hr rfl (pa_cons (pv 0) (pa_cons pe_int pa_nil))) (pa_cons (pe_ix ix_list (pv 8) (pe_op op_mod (pv 13) (pv 7)) (fun _ _=>rfl)) (pa_cons (pe_callH G_law_take hr rfl (pa_cons (pv 0) (pa_cons pe_int pa_nil))) pa_nil)))))))))
  (pss_cons (ps_set (i:=14) sc_law_tree.nd rfl (by first | exact Or.inl rfl | exact Or.inr rfl) (pe_op op_cat (pv 14) (pe_lst (pa_cons (pe_op op_mul pe_int (pe_callH G_law_take hr rfl (pa_cons (pv 0) (pa_cons pe_int pa_nil)))) (pa_cons (pe_callH G_law_take hr rfl (pa_cons (pv 0) (pa_cons pe_int pa_nil))) pa_nil)))))
  (pss_cons (ps_set (i:=15) sc_law_tree.nd rfl (by first | exact Or.inl rfl | exact Or.inr rfl) (pe_op op_sub (pv 13) pe_int))
  (pss_cons (ps_for PassesOwn.never rfl (pi_range1 rfl B.range (pa_cons (pe_op op_mul (pe_ix ix_list (pv 14) (pv 4) (fun _ _=>rfl)) (pe_callTy call_int1 rfl B.int_ bt_int (pa_cons (pe_cmpR op_gt (pv 13) pe_int (nomark _)) pa_nil))) pa_nil)) (pg_name (i:=16) sc_law_tree.nd rfl (by first | exact Or.inl rfl | exact Or.inr rfl))
  (pss_one (ps_set (i:=15) sc_law_tree.nd rfl (by first | exact Or.inl rfl | exact Or.inr rfl) (pe_callB (call_max2 rfl) rfl B.max bt_max (pa_cons pe_int (pa_cons (pe_ix ix_list (pv 11) (pv 15) (fun _ _=>rfl)) pa_nil))))))
  (pss_cons (ps_expr (pe_bm PySem.F.plainAttrs_list PySem.F.slot_list_append PySem.F.type_list_append mt_append (pv 11) (pa_cons (pv 15) pa_nil)))
  (pss_cons (ps_set (i:=17) sc_law_tree.nd rfl (by first | exact Or.inl rfl | exact Or.inr rfl) (pe_lst (pa_cons (pe_callH G_law_letter hr rfl (pa_cons (pv 0) (pa_cons (pv 3) pa_nil))) (pa_cons (pe_ix ix_list (pv 9) (pe_op op_mod (pv 13) (pv 7)) (fun _ _=>rfl)) (pa_cons (pe_ix ix_list (pe_lst (pa_cons (pe_ix ix_list (pv 9) pe_int (fun _ _=>rfl)) (pa_cons (pv 10) pa_nil))) (pe_callTy call_int1 rfl B.int_ bt_int (pa_cons (pe_cmpR op_eq (pv 13) (pv 6) (nomark _)) pa_nil)) (fun _ _=>rfl)) pa_nil)))))
  (pss_one (ps_set (i:=12) sc_law_tree.nd rfl (by first | exact Or.inl rfl | exact Or.inr rfl) (pe_op op_add_str (pv 12) (pe_ix ix_list (pv 17) (pv 5) (fun _ _=>rfl))))))))))))
  (pss_one (ps_ret (pe_tup (pa_cons (pe_callTy call_tuple_of rfl B.tuple_ bt_tuple (pa_cons (pv 11) pa_nil)) (pa_cons (pv 12) pa_nil))))))))))))))))),?_⟩
  refine ⟨_,rfl,_,rfl,p,most,c,rfl,hd,by omega,by omega,by omega,fun n1 H1 a0 a1 kd1=>?_⟩
  refine ⟨_,_,rfl,rfl,_,rfl,_,rfl,_,rfl,_,_,rfl,p,_,c+1,rfl,kd1.deck,by omega,?_,?_,fun n2 H2 b0 b1 kd2=>?_⟩
  · split <;> omega
  · split <;> omega
  have b2:n2 < 7∧n2 < most:=by
    revert b1;split <;> omega
  refine ⟨_,_,rfl,rfl,(by show 3≤sizeLine;decide),fun r1 hr1=>?_⟩
  have kq2:=((kd1.trans kd2).new (o:=.lst [.int (1+n1),.int most,.int (1+n2)]) hr1)
  refine ⟨_,rfl,p,3,_,rfl,kq2.deck,by omega,by decide,by decide,fun n3 H3 d0 d1 kd3=>?_⟩
  have ku3:=kq2.trans kd3
  obtain ⟨many,hmany,mn1,mn60⟩:∃ v:Int,atI [V.int (1+n1),.int most,.int (1+n2)] n3=some (.int v)∧1≤v∧v≤60:=by
    have:n3=0∨n3=1∨n3=2:=by omega
    rcases this with rfl | rfl | rfl
    · exact ⟨_,rfl,by omega,by omega⟩
    · exact ⟨_,rfl,by omega,by omega⟩
    · exact ⟨_,rfl,by omega,by omega⟩
  refine ⟨r1,_,_,_,rfl,rfl,SqL.of (kd3.keep _ _ (kd2.deck.ne hr1) upd_same),hmany,?_⟩
  refine ⟨_,rfl,p,26,_,rfl,ku3.deck,by omega,by decide,by decide,fun b0' H4 e0 e1 kd4=>?_⟩
  have ku4:=ku3.trans kd4
  refine ⟨(by show 4≤sizeLine;decide),fun r2 hr2=>?_⟩
  have kq4:=ku4.new (o:=.lst [.int 1,.int 2,.int 3,.int 26]) hr2
  refine ⟨_,rfl,p,4,_,rfl,kq4.deck,by omega,by decide,by decide,fun n5 H5 f0 f1 kd5=>?_⟩
  have ku5:=kq4.trans kd5
  obtain ⟨bb,hbb,bb1,bb26⟩:=menu (us:=[1,2,3,26]) (n:=n5) (lo:=1) (hi:=26) f0 f1 (by decide)
  refine ⟨r2,_,_,_,rfl,rfl,SqL.of (kd5.keep _ _ (ku4.deck.ne hr2) upd_same),hbb,(by show 2≤sizeLine;decide),fun bs hbs=>?_⟩
  have hHbs:H bs=none:=ku5.fresh hbs
  have bsp:bs≠p:=ku5.deck.ne hbs
  have kq5:=(ku5.new (o:=.tup [.int b0',.int bb]) hbs).mono (show _≤c+5 by omega)
  have hb5:upd H5 bs (.tup [.int b0',.int bb]) bs=some (.tup [.int b0',.int bb]):=upd_same
  generalize upd H5 bs (.tup [.int b0',.int bb])=Hb at kq5 hb5
  refine ⟨_,rfl,p,9,_,rfl,kq5.deck,by omega,by decide,by decide,fun way H6 g0 g1 kd6=>?_⟩
  have ku6:=kq5.trans kd6
  have hb6:=kd6.keep _ _ bsp hb5
  refine ⟨_,rfl,p,3,_,rfl,ku6.deck,by omega,by decide,by decide,fun n7 H7 i0 i1 kd7=>?_⟩
  have ku7:=ku6.trans kd7
  have hb7:=kd7.keep _ _ bsp hb6
  refine ⟨_,rfl,rfl,.inr ⟨_,rfl,_,_,rfl,?_⟩⟩
  have hkind:0≤(if (if decide (V.int way=V.int 5)=true then (1:Int) else 0) > n7 then (if decide (V.int way=V.int 5)=true then (1:Int) else 0) else n7)∧(if (if decide (V.int way=V.int 5)=true then (1:Int) else 0) > n7 then (if decide (V.int way=V.int 5)=true then (1:Int) else 0) else n7) < 3:=by
    split <;> (try split) <;> omega
  generalize (if (if decide (V.int way=V.int 5)=true then (1:Int) else 0) > n7 then (if decide (V.int way=V.int 5)=true then (1:Int) else 0) else n7)=kind at hkind
  refine ⟨_,rfl,_,rfl,p,many,_,rfl,ku7.deck,by omega,by omega,by omega,fun odd H8 j0 j1 kd8=>?_⟩
  have ku8:=ku7.trans kd8
  have hb8:=kd8.keep _ _ bsp hb7
  refine ⟨_,rfl,p,7,_,rfl,ku8.deck,by omega,by decide,by decide,fun n9 H9 k0 k1 kd9=>?_⟩
  have ku9:=(ku8.trans kd9).mono (show _≤c+9 by omega)
  have hb9:=kd9.keep _ _ bsp hb8
  refine ⟨_,_,rfl,rfl,?_⟩
  have per1:1≤(1+n9):=by omega
  have per7:(1+n9)≤7:=by omega
  refine ⟨_,rfl,_,rfl,by omega,by omega,fun cl0 hcl=>?_⟩
  have hHcl:H cl0=none:=ku9.fresh hcl
  have clp:cl0≠p:=ku9.deck.ne hcl
  have bcl:bs≠cl0:=ne_of_none hb9 hcl
  refine comp_by (1+n9).toNat (by omega) (fun j ys H'=>H' cl0=some (.lst ys)∧ys.length=j∧Kd p (c+9+j) H H'∧H' bs=some (.tup [.int b0',.int bb])∧∃ us:List Int,ys=us.map V.int∧∀ v∈us,0≤v∧v≤3)
    (fun j ys H' h=>⟨h.1,by omega⟩) ⟨upd_same,rfl,(ku9.new hcl).mono (by omega),by rw [upd_ne bcl];exact hb9,[],rfl,by simp⟩ ?_ ?_
  rotate_left
  · rintro j ys Ha hj ⟨x1,x2,x3,x4,us,rfl,x5⟩
    refine ⟨hj,?_⟩
    rintro x H4' ⟨rfl,rfl⟩
    refine ⟨rfl,?_⟩
    refine ⟨_,rfl,p,4,_,rfl,x3.deck,by omega,by decide,by decide,fun n Hc y0 y1 kd=>?_⟩
    refine ⟨kd.keep _ _ clp x1,upd_same,by rw [List.length_append,x2];rfl,((x3.trans kd).write hHcl clp).mono (by omega),by rw [upd_ne bcl];exact kd.keep _ _ bsp x4,us++[n],by rw [List.map_append];rfl,fun v hv=>?_⟩
    rcases List.mem_append.mp hv with hv | hv
    · exact x5 v hv
    · have:v=n:=by simpa using hv
      omega
  rintro ys Ha ⟨hc1,hc2,ku10,hb10,cls,rfl,hcls⟩
  refine ⟨Nat.le_refl _,?_⟩
  rw [List.length_map] at hc2
  refine ⟨_,rfl,_,rfl,by omega,by omega,fun sg0 hsg=>?_⟩
  have hHsg:H sg0=none:=ku10.fresh hsg
  have sgp:sg0≠p:=ku10.deck.ne hsg
  have bsg:bs≠sg0:=ne_of_none hb10 hsg
  have csg:cl0≠sg0:=ne_of_none hc1 hsg
  refine comp_by (1+n9).toNat (by omega) (fun j ys H'=>H' sg0=some (.lst ys)∧ys.length=j∧Kd p (c+9+(1+n9).toNat+j) H H'∧H' bs=some (.tup [.int b0',.int bb])∧H' cl0=some (.lst (cls.map V.int))∧∃ cs:List Nat,ys=oneV cs∧∀ c∈cs,Lw c)
    (fun j ys H' h=>⟨h.1,by omega⟩) ⟨upd_same,rfl,(ku10.new hsg).mono (by omega),by rw [upd_ne bsg];exact hb10,by rw [upd_ne csg];exact hc1,[],rfl,by simp⟩ ?_ ?_
  rotate_left
  · rintro j ys Hb' hj ⟨x1,x2,x3,x4,x5,cs,rfl,x6⟩
    refine ⟨hj,?_⟩
    rintro x H4' ⟨rfl,rfl⟩
    refine ⟨rfl,?_⟩
    refine ⟨_,rfl,_,rfl,p,bs,_,b0',bb,rfl,x3.deck,by omega,x4,by omega,by omega,fun ch Hc chl kd=>?_⟩
    refine ⟨kd.keep _ _ sgp x1,upd_same,by rw [List.length_append,x2];rfl,((x3.trans kd).write hHsg sgp).mono (by omega),by rw [upd_ne bsg];exact kd.keep _ _ bsp x4,by rw [upd_ne csg];exact kd.keep _ _ clp x5,cs++[ch],by unfold oneV;rw [List.map_append];rfl,low_app x6 chl⟩
  rintro ys Hb' ⟨hs1,hs2,ku11,hb11,hc11,cs,rfl,lowc⟩
  refine ⟨Nat.le_refl _,?_⟩
  rw [oneV_len] at hs2
  have ku11':=ku11.mono (show _≤c+23 by omega)
  have hal:(Str.ofString "abcdefghijklmnopqrstuvwxyz").length=26:=by decide +kernel
  refine ⟨_,rfl,p,26,_,rfl,ku11'.deck,by omega,by decide,by decide,fun n12 H12 l0 l1 kd12=>?_⟩
  obtain ⟨och,hoch,ochl⟩:=alph_at l0 l1
  refine ⟨_,_,_,rfl,rfl,by rw [hal];exact Nat.le_of_lt (small1000 (by decide)),hoch,?_⟩
  have ku12:=(ku11'.trans kd12).mono (show _≤c+24 by omega)
  have hb12:=kd12.keep _ _ bsp hb11
  have hc12:=kd12.keep _ _ clp hc11
  have hs12:=kd12.keep _ _ sgp hs1
  refine ⟨(by show 0≤sizeLine;decide),fun u hu0=>?_⟩
  have hup:u≠p:=ku12.deck.ne hu0
  have hHu:H u=none:=ku12.fresh hu0
  have ubs:bs≠u:=ne_of_none hb12 hu0
  have ucl:cl0≠u:=ne_of_none hc12 hu0
  have usg:sg0≠u:=ne_of_none hs12 hu0
  refine ⟨_,rfl,_,rfl,by omega,by omega,?_⟩
  refine for_range (lo:=0) (n:=many.toNat) (fun i σ H'=>∃ (us:List Int) (ls:List Nat) (tx:Str) (o13 o14 o15 o16 o17:Option V),
      σ=[some (.ref p),some (.int most),some (.int many),some (.ref bs),some (.int way),some (.int kind),some (.int odd),some (.int (1+n9)),some (.ref cl0),some (.ref sg0),some (.str ⟨#[och]⟩),some (.ref u),some (.str tx),o13,o14,o15,o16,o17]∧tx=mk ls ∧
      Kd p (c+24+6 * i) H H'∧H' bs=some (.tup [.int b0',.int bb])∧H' cl0=some (.lst (cls.map V.int))∧H' sg0=some (.lst (oneV cs))∧H' u=some (.lst (us.map V.int))∧us.length=i∧ls.length=i∧Gr0 us∧∀ c∈ls,Lw c)
    ⟨[],[],_,none,none,none,none,none,rfl,rfl,(ku12.new hu0).mono (by omega),by rw [upd_ne ubs];exact hb12,by rw [upd_ne ucl];exact hc12,by rw [upd_ne usg];exact hs12,upd_same,rfl,rfl,.inl rfl,by simp⟩ ?_ ?_
  · rintro i σ H' hi ⟨us,ls,tx,o13,o14,o15,o16,o17,rfl,rfl,kd,hb,hc,hs,hu,hlen,hls,gr,low⟩
    have hul:(us.map V.int).length=us.length:=List.length_map _
    have im:=Int.emod_nonneg (0+(i:Int)) (show (1+n9)≠0 by omega)
    have im2:=Int.emod_lt_of_pos (0+(i:Int)) (show 0 < (1+n9) by omega)
    have i2:=Int.emod_nonneg (0+(i:Int)) (by decide:(2:Int)≠0)
    have i22:=Int.emod_lt_of_pos (0+(i:Int)) (by decide:(0:Int) < 2)
    obtain ⟨cv,hcv,cv0,cv3⟩:=menu (us:=cls) (n:=(0+(i:Int)) % (1+n9)) (lo:=0) (hi:=3) im (by omega) hcls
    refine ⟨_,rfl,_,_,rfl,rfl,(by decide:(0:Int) < 2),_,rfl,p,2,_,rfl,kd.deck,by omega,by decide,by decide,fun m1 G1 p0 p1 e1=>?_⟩
    refine ⟨_,rfl,p,3,_,rfl,e1.deck,by omega,by decide,by decide,fun m2 G2 p2 p3 e2=>?_⟩
    have hc2:=e2.keep _ _ clp (e1.keep _ _ clp hc)
    refine ⟨_,rfl,_,rfl,_,rfl,_,_,rfl,rfl,by omega,cl0,_,_,_,rfl,rfl,SqL.of hc2,hcv,?_⟩
    refine ⟨_,rfl,p,5,_,rfl,e2.deck,by omega,by decide,by decide,fun m3 G3 p4 p5 e3=>?_⟩
    refine ⟨(by show 7≤sizeLine;decide),fun s1 hs1'=>?_⟩
    have kd3:=((((Kd.refl kd.deck).trans e1).trans e2).trans e3).new (o:=.lst [.int 0,.int 60,.int ((0+(i:Int)) % 2),.int m1,.int m2,.int cv,.int m3]) hs1'
    have hsp1:s1≠p:=e3.deck.ne hs1'
    have hss1:upd G3 s1 (.lst [.int 0,.int 60,.int ((0+(i:Int)) % 2),.int m1,.int m2,.int cv,.int m3]) s1=some (.lst [.int 0,.int 60,.int ((0+(i:Int)) % 2),.int m1,.int m2,.int cv,.int m3]):=upd_same
    generalize upd G3 s1 (.lst [.int 0,.int 60,.int ((0+(i:Int)) % 2),.int m1,.int m2,.int cv,.int m3])=G3' at kd3 hss1
    refine ⟨_,rfl,_,rfl,p,2,_,rfl,kd3.deck,by omega,by decide,by decide,fun m4 G4 p6 p7 e4=>?_⟩
    refine ⟨_,_,rfl,rfl,.inl ⟨by decide,by decide⟩,_,rfl,p,60,_,rfl,e4.deck,by omega,by decide,by decide,fun m5 G5 p8 p9 e5=>?_⟩
    refine ⟨(by show 2≤sizeLine;decide),fun s2 hs2'=>?_⟩
    have kd5:=((kd3.trans e4).trans e5).new (o:=.lst [.int (3 * m4),.int m5]) hs2'
    have hss2:upd G5 s2 (.lst [.int (3 * m4),.int m5]) s1=some (.lst [.int 0,.int 60,.int ((0+(i:Int)) % 2),.int m1,.int m2,.int cv,.int m3]):=by
      have z:=e5.keep _ _ hsp1 (e4.keep _ _ hsp1 hss1)
      rw [upd_ne (ne_of_none z hs2')];exact z
    refine ⟨s1,s2,_,_,rfl,rfl,hss2,upd_same,(by show 9≤sizeLine;decide),fun s3 hs3'=>?_⟩
    have kd6:=kd5.new (o:=.lst ([.int 0,.int 60,.int ((0+(i:Int)) % 2),.int m1,.int m2,.int cv,.int m3]++[.int (3 * m4),.int m5])) hs3'
    have hs3:upd (upd G5 s2 (.lst [.int (3 * m4),.int m5])) s3 (.lst ([.int 0,.int 60,.int ((0+(i:Int)) % 2),.int m1,.int m2,.int cv,.int m3]++[.int (3 * m4),.int m5])) s3=some (.lst (([0,60,(0+(i:Int)) % 2,m1,m2,cv,m3,3 * m4,m5]:List Int).map V.int)):=upd_same
    generalize upd (upd G5 s2 (.lst [.int (3 * m4),.int m5])) s3 (.lst ([.int 0,.int 60,.int ((0+(i:Int)) % 2),.int m1,.int m2,.int cv,.int m3]++[.int (3 * m4),.int m5]))=G6 at kd6 hs3
    have kk:Kd p (c+24+6 * i+5) H G6:=(kd.trans kd6).mono (by omega)
    have keep:∀ b o,b≠p→H' b=some o→G6 b=some o:=kd6.keep
    have hu6:=keep _ _ hup hu
    have hb6':=keep _ _ bsp hb
    have hs6:=keep _ _ sgp hs
    refine ⟨_,rfl,_,_,rfl,rfl,?_⟩
    obtain ⟨stp,hstp,st0,st60⟩:=menu (us:=[0,60,(0+(i:Int)) % 2,m1,m2,cv,m3,3 * m4,m5]) (n:=way) (lo:=0) (hi:=60) g0 (by show way < 9;exact g1) (by
      intro v hv
      simp only [List.mem_cons,List.not_mem_nil,or_false] at hv
      rcases hv with rfl | rfl | rfl | rfl | rfl | rfl | rfl | rfl | rfl <;> omega)
    refine ⟨_,rfl,_,rfl,s3,_,_,_,rfl,rfl,SqL.of hs3,hstp,_,rfl,_,_,rfl,rfl,.inr ⟨_,rfl,_,_,rfl,rfl,.inl ⟨by omega,by omega⟩,_,rfl,?_,?_,?_⟩⟩
    · split <;> omega
    · split <;> omega
    have hn:(stp * (if decide (0 < 0+(i:Int))=true then (1:Int) else 0)).toNat≤60∧(i=0→(stp * (if decide (0 < 0+(i:Int))=true then (1:Int) else 0)).toNat=0):=by
      constructor
      · split <;> omega
      · intro e
        rw [if_neg (by simp;omega)]
        simp
    generalize (stp * (if decide (0 < 0+(i:Int))=true then (1:Int) else 0)).toNat=nst at hn
    refine for_range (lo:=0) (n:=nst) (fun j σ H''=>∃ (pl:Int) (o16':Option V),
        σ=[some (.ref p),some (.int most),some (.int many),some (.ref bs),some (.int way),some (.int kind),some (.int odd),some (.int (1+n9)),some (.ref cl0),some (.ref sg0),some (.str ⟨#[och]⟩),some (.ref u),some (.str (mk ls)),some (.int (0+(i:Int))),some (.ref s3),some (.int pl),o16',o17]∧H''=G6 ∧
        (i=0→pl=-1)∧(0 < i→0≤pl∧pl < (i:Int))∧∃ n,climb us n (0+(i:Int) - 1)=pl)
      ⟨0+(i:Int) - 1,o16,rfl,rfl,fun e=>by omega,fun e=>by omega,0,rfl⟩ ?_ ?_
    · rintro j σ H'' hj ⟨pl,o16',rfl,rfl,pz,pp,n0,hn0⟩
      have ip:0 < i:=by
        rcases Nat.eq_zero_or_pos i with e | e
        · have:=hn.2 e;omega
        · exact e
      obtain ⟨pl0,pl1⟩:=pp ip
      have hat:=ints_at (us:=us) (i:=pl) pl0 (by omega)
      have gr':GrOk us:=by
        rcases gr with z | z
        · rw [z] at hlen;simp at hlen;omega
        · exact z
      have hv:us.getD pl.toNat 0 < pl∨(us.getD pl.toNat 0=-1∧pl=0):=by
        rcases Nat.eq_zero_or_pos pl.toNat with e | e
        · right;rw [e];exact ⟨gr'.root,by omega⟩
        · left;have:=gr'.up pl.toNat e (by omega);omega
      refine ⟨_,rfl,_,rfl,u,_,_,_,rfl,rfl,SqL.of hu6,hat,_,_,rfl,?_⟩
      refine ⟨_,_,rfl,rfl,fun e=>by omega,fun _=>?_,n0+1,?_⟩
      · split <;> omega
      · show stepUp us (climb us n0 _)=_
        rw [hn0];rfl
    rintro σ Gx ⟨pl,o16',rfl,rfl,pz,pp,n0,hn0⟩
    refine ⟨_,rfl,.inl ⟨rfl,_,SqL.of hu6⟩,_,rfl,u,_,_,rfl,rfl,hu6,by rw [hul];exact small1000 (by omega),?_⟩
    have kk7:Kd p (c+24+6 * i+5) H (upd Gx u (.lst (us.map V.int++[.int pl]))):=kk.write hHu hup
    have hu7:upd Gx u (.lst (us.map V.int++[.int pl])) u=some (.lst ((us++[pl]).map V.int)):=by rw [upd_same,List.map_append];rfl
    have hb7':upd Gx u (.lst (us.map V.int++[.int pl])) bs=some (.tup [.int b0',.int bb]):=by rw [upd_ne ubs];exact hb6'
    have hs7:upd Gx u (.lst (us.map V.int++[.int pl])) sg0=some (.lst (oneV cs)):=by rw [upd_ne usg];exact hs6
    have hc7:upd Gx u (.lst (us.map V.int++[.int pl])) cl0=some (.lst (cls.map V.int)):=by rw [upd_ne ucl];exact keep _ _ clp hc
    generalize upd Gx u (.lst (us.map V.int++[.int pl]))=G7 at kk7 hu7 hb7' hs7 hc7
    refine ⟨_,rfl,_,rfl,p,bs,_,b0',bb,rfl,kk7.deck,by omega,hb7',by omega,by omega,fun ch G8 chl e8=>?_⟩
    have hs8:=e8.keep _ _ sgp hs7
    have hb8':=e8.keep _ _ bsp hb7'
    have hc8:=e8.keep _ _ clp hc7
    have hu8:=e8.keep _ _ hup hu7
    have kk8:=(kk7.trans e8).mono (show _≤c+24+6 * (i:Int)+6 by omega)
    obtain ⟨sv,hsv,svm⟩:=oneV_at (cs:=cs) (i:=(0+(i:Int)) % (1+n9)) im (by omega)
    obtain ⟨s0v,hs0v,s0m⟩:=oneV_at (cs:=cs) (i:=0) (by decide) (by omega)
    refine ⟨_,rfl,_,rfl,_,rfl,_,_,rfl,rfl,by omega,sg0,_,_,_,rfl,rfl,SqL.of hs8,hsv,_,rfl,sg0,_,_,_,rfl,rfl,SqL.of hs8,hs0v,_,rfl,(by show 2≤sizeLine;decide),fun l1' hl1'=>?_⟩
    obtain ⟨ov,hov,ovl⟩:∃ ov:Nat,atI [V.str ⟨#[s0v]⟩,.str ⟨#[och]⟩] (if decide (V.int (0+(i:Int))=V.int odd)=true then 1 else 0)=some (.str ⟨#[ov]⟩)∧Lw ov:=by
      by_cases z:V.int (0+(i:Int))=V.int odd
      · rw [decide_eq_true z];exact ⟨och,rfl,ochl⟩
      · rw [decide_eq_false z];exact ⟨s0v,rfl,lowc _ s0m⟩
    refine ⟨_,rfl,_,rfl,rfl,.inr ⟨_,rfl,l1',_,_,_,rfl,rfl,SqL.of upd_same,hov,(by show 3≤sizeLine;decide),fun l2' hl2'=>?_⟩⟩
    have kk9:=(kk8.new (o:=.lst [V.str ⟨#[s0v]⟩,.str ⟨#[och]⟩]) hl1').new (o:=.lst [V.str ⟨#[ch]⟩,.str ⟨#[sv]⟩,.str ⟨#[ov]⟩]) hl2'
    have kp:∀ b o,G8 b=some o→upd (upd G8 l1' (.lst [V.str ⟨#[s0v]⟩,.str ⟨#[och]⟩])) l2' (.lst [V.str ⟨#[ch]⟩,.str ⟨#[sv]⟩,.str ⟨#[ov]⟩]) b=some o:=fun b o e=>((Same.refl G8).new hl1').new hl2' b o e
    have hl9:upd (upd G8 l1' (.lst [V.str ⟨#[s0v]⟩,.str ⟨#[och]⟩])) l2' (.lst [V.str ⟨#[ch]⟩,.str ⟨#[sv]⟩,.str ⟨#[ov]⟩]) l2'=some (.lst (oneV [ch,sv,ov])):=upd_same
    generalize upd (upd G8 l1' (.lst [V.str ⟨#[s0v]⟩,.str ⟨#[och]⟩])) l2' (.lst [V.str ⟨#[ch]⟩,.str ⟨#[sv]⟩,.str ⟨#[ov]⟩])=G9 at kk9 kp hl9
    obtain ⟨lc,hlc,lcm⟩:=oneV_at (cs:=[ch,sv,ov]) (i:=kind) hkind.1 (by show kind < 3;omega)
    have lcl:Lw lc:=by
      simp only [List.mem_cons,List.not_mem_nil,or_false] at lcm
      rcases lcm with rfl | rfl | rfl
      · exact chl
      · exact lowc _ svm
      · exact ovl
    have happ:mk ls++(⟨#[lc]⟩:Str)=mk (ls++[lc]):=by
      apply str_ext;rw [app_list];rfl
    refine ⟨_,rfl,_,rfl,_,rfl,l2',_,_,_,rfl,rfl,SqL.of hl9,hlc,_,_,rfl,rfl,?_,us++[pl],ls++[lc],_,_,_,_,_,_,rfl,happ,kk9.mono (by omega),kp _ _ hb8',kp _ _ hc8,kp _ _ hs8,kp _ _ hu8,by rw [List.length_append,hlen];rfl,by rw [List.length_append,hls];rfl,?_,low_app low lcl⟩
    · rw [mk_len]
      have:(⟨#[lc]⟩:Str).length=1:=rfl
      rw [this]
      exact Nat.le_of_lt (small1000 (by omega))
    · right
      rcases gr with z | z
      · subst z
        have i0:i=0:=by simpa using hlen.symm
        rw [pz i0]
        exact GrOk.one
      · have ip:0 < i:=by rw [← hlen];exact z.pos
        have:=pp ip
        exact z.snoc this.1 (by omega) ⟨n0,by rw [← hn0];congr 1;omega⟩
  · rintro σ H' ⟨us,ls,tx,o13,o14,o15,o16,o17,rfl,rfl,kd,hb,hc,hs,hu,hlen,hls,gr,low⟩
    have gr':GrOk us:=by
      rcases gr with z | z
      · rw [z] at hlen;simp at hlen;omega
      · exact z
    refine ⟨_,rfl,u,_,rfl,.inl ⟨SqL.of hu,fun r7 hr7=>?_⟩⟩
    refine ⟨_,rfl,(by show 2≤sizeLine;decide),fun t ht=>?_⟩
    refine q t us (mk ls) _ (((kd.new hr7).new ht).mono (by omega)) ⟨r7,upd_same,?_,gr_tree gr' (by omega) (by omega)⟩ ⟨low,gr'.road⟩
    rw [upd_ne (ne_of_none upd_same ht)];exact upd_same
end
end S04
namespace W7
def chf (ups:List Int):Nat→Nat→List Int
  | 0,_=>[]
  | f+1,k=>if ups.getD k 0 < 0 then [] else ups.getD k 0 :: chf ups f (ups.getD k 0).toNat
theorem chf_fuel {ups:List Int} {lab:List Nat} (t:TreeOk ups lab):∀ (f g k:Nat),k < ups.length→k < f→k < g→chf ups f k=chf ups g k
  | 0,_,_,_,h,_=>absurd h (Nat.not_lt_zero _)
  | _+1,0,_,_,_,h=>absurd h (Nat.not_lt_zero _)
  | f+1,g+1,k,hk,hf,hg=>by
    simp only [chf]
    split
    · rfl
    · rename_i h0
      have:=t.lt hk h0
      congr 1
      exact chf_fuel t f g _ (by omega) (by omega) (by omega)
def chn (ups:List Int) (k:Nat):List Int:=chf ups (k+1) k
theorem chn_eq {ups:List Int} {lab:List Nat} (t:TreeOk ups lab) {k:Nat} (hk:k < ups.length):chn ups k=if ups.getD k 0 < 0 then [] else ups.getD k 0 :: chn ups (ups.getD k 0).toNat:=by
  unfold chn
  rw [chf]
  split
  · rfl
  · rename_i h0
    have:=t.lt hk h0
    congr 1
    exact chf_fuel t _ _ _ (by omega) (by omega) (by omega)
def rst (ups:List Int) (k:Int):List Int:=if k < 0 then [] else k :: chn ups k.toNat
theorem chn_rst {ups:List Int} {lab:List Nat} (t:TreeOk ups lab) {k:Nat} (hk:k < ups.length):chn ups k=rst ups (ups.getD k 0):=by
  rw [chn_eq t hk];rfl
theorem rst_step {ups:List Int} {lab:List Nat} (t:TreeOk ups lab) {k:Int} (h0:0≤k) (hk:k < (ups.length:Int)):rst ups k=k :: rst ups (ups.getD k.toNat 0):=by
  have:=chn_rst t (k:=k.toNat) (by omega)
  unfold rst
  rw [if_neg (by omega),this]
  rfl
theorem chn_mem {ups:List Int} {lab:List Nat} (t:TreeOk ups lab):∀ (n k:Nat),k < n→k < ups.length→(chn ups k).length≤k∧∀ v∈chn ups k,0≤v∧v < (k:Int)
  | 0,_,h,_=>absurd h (Nat.not_lt_zero _)
  | n+1,k,hn,hk=>by
    rw [chn_eq t hk]
    split
    · exact ⟨Nat.zero_le _,fun v hv=>nomatch hv⟩
    · rename_i h0
      have lt:=t.lt hk h0
      obtain ⟨i1,i2⟩:=chn_mem t n (ups.getD k 0).toNat (by omega) (by omega)
      refine ⟨by rw [List.length_cons];omega,fun v hv=>?_⟩
      rcases List.mem_cons.mp hv with e | e
      · omega
      · have:=i2 v e;omega
end W7
namespace W03
structure Pre (n:Nat) (c:Nat→List Nat):Prop where
  root:c 0=[]
  step:∀ k,0 < k→k < n→c k=(k - 1) :: c (k - 1)∨∃ m,c k=(c (k - 1)).drop m
  ne:∀ k,0 < k→k < n→c k≠[]
  self:∀ k,k < n→∀ v r,c k=v :: r→v < k∧r=c v
section
variable {n:Nat} {c:Nat→List Nat} {l:Nat→Nat}
theorem mem_split (p:Pre n c):∀ (f j:Nat),j < f→j < n→∀ v∈c j,∃ q,c j=q++v :: c v
  | 0,j,h,_,_,_=>absurd h (Nat.not_lt_zero _)
  | f+1,j,h,hj,v,hv=>by
    cases e:c j with
    | nil=>rw [e] at hv;cases hv
    | cons u r=>
      obtain ⟨lt,rfl⟩:=p.self j hj u r e
      rw [e] at hv
      rcases List.mem_cons.mp hv with rfl | hv
      · exact ⟨[],rfl⟩
      · obtain ⟨q,eq⟩:=mem_split p f u (by omega) (by omega) v hv
        exact ⟨u :: q,by rw [eq];rfl⟩
theorem mem_lt (p:Pre n c):∀ (f j:Nat),j < f→j < n→∀ v∈c j,v < j
  | 0,j,h,_,_,_=>absurd h (Nat.not_lt_zero _)
  | f+1,j,h,hj,v,hv=>by
    cases e:c j with
    | nil=>rw [e] at hv;cases hv
    | cons u r=>
      obtain ⟨lt,rfl⟩:=p.self j hj u r e
      rw [e] at hv
      rcases List.mem_cons.mp hv with rfl | hv
      · exact lt
      · have:=mem_lt p f u (by omega) (by omega) v hv
        omega
theorem below (p:Pre n c) {e:Nat} (he:e < n):∀ j,e < j→j < n→(∀ i,e < i→i≤j→(c e).length < (c i).length)→∃ q,c j=q++e :: c e:=by
  intro j
  induction j with
  | zero=>intro h;omega
  | succ j ih=>
    intro h1 h2 h3
    have d1:=h3 (j+1) h1 (Nat.le_refl _)
    rcases Nat.lt_or_ge e j with g | g
    · obtain ⟨q,eq⟩:=ih g (by omega) fun i a b=>h3 i a (by omega)
      rcases p.step (j+1) (by omega) h2 with s | ⟨m,s⟩
      · rw [Nat.add_sub_cancel] at s
        exact ⟨j :: q,by rw [s,eq];rfl⟩
      · rw [Nat.add_sub_cancel,eq] at s
        rw [s,List.length_drop,List.length_append,List.length_cons] at d1
        refine ⟨q.drop m,?_⟩
        rw [s,List.drop_append_of_le_length (by omega)]
    · have:e=j:=by omega
      subst this
      rcases p.step (e+1) (by omega) h2 with s | ⟨m,s⟩
      · rw [Nat.add_sub_cancel] at s
        exact ⟨[],s⟩
      · rw [Nat.add_sub_cancel] at s
        rw [s,List.length_drop] at d1
        omega
theorem beyond (p:Pre n c) {k e:Nat} (hk:k < e) (he:e < n) (hd:(c e).length≤(c k).length):∀ j,e≤j→j < n→k ∉ c j:=by
  intro j
  induction j with
  | zero=>intro h;omega
  | succ j ih=>
    intro h1 h2 hm
    rcases Nat.lt_or_ge e (j+1) with g | g
    · have no:=ih (by omega) (by omega)
      rcases p.step (j+1) (by omega) h2 with s | ⟨m,s⟩
      · rw [Nat.add_sub_cancel] at s
        rw [s] at hm
        rcases List.mem_cons.mp hm with z | z
        · omega
        · exact no z
      · rw [Nat.add_sub_cancel] at s
        rw [s] at hm
        exact no (List.mem_of_mem_drop hm)
    · have:e=j+1:=by omega
      subst this
      obtain ⟨q,eq⟩:=mem_split p (j+2) (j+1) (by omega) h2 k hm
      rw [eq,List.length_append,List.length_cons] at hd
      omega
theorem fm_congr {f g:Nat→List Nat}:∀ l:List Nat,(∀ x∈l,f x=g x)→l.flatMap f=l.flatMap g
  | [],_=>rfl
  | x :: l,h=>by rw [List.flatMap_cons,List.flatMap_cons,h x List.mem_cons_self,fm_congr l fun y hy=>h y (List.mem_cons_of_mem _ hy)]
def up (c:Nat→List Nat) (j:Nat):Option Nat:=(c j).head?
def kidsF (n:Nat) (c:Nat→List Nat) (k j:Nat):List Nat:=(List.range' j (n - j)).filter fun i=>decide (up c i=some k)
theorem kids_no {k j e:Nat} (hje:j≤e) (he:e≤n) (h:∀ i,j≤i→i < e→up c i≠some k):kidsF n c k j=kidsF n c k e:=by
  unfold kidsF
  have ej:n - j=(e - j)+(n - e):=by omega
  rw [ej,← List.range'_append_1,List.filter_append,show j+(e - j)=e by omega]
  have:(List.range' j (e - j)).filter (fun i=>decide (up c i=some k))=[]:=by
    rw [List.filter_eq_nil_iff]
    intro i hi
    have:=List.mem_range'_1.mp hi
    simpa using h i this.1 (by omega)
  rw [this,List.nil_append]
theorem kids_one {k j:Nat} (hj:j < n) (h:up c j=some k):kidsF n c k j=j :: kidsF n c k (j+1):=by
  unfold kidsF
  rw [show n - j=(n - (j+1))+1 by omega,List.range'_succ,List.filter_cons,if_pos (decide_eq_true h)]
theorem kids_end (k:Nat):kidsF n c k n=[]:=by
  unfold kidsF;rw [Nat.sub_self];rfl
def wrap (u:List Nat):List Nat:=if u=[] then [] else 40 :: u++[41]
def F (n:Nat) (c:Nat→List Nat) (l:Nat→Nat):Nat→Nat→List Nat
  | 0,_=>[]
  | f+1,k=>l k :: wrap ((kidsF n c k (k+1)).flatMap (F n c l f))
theorem F_fuel:∀ (f g k:Nat),k < n→n - k≤f→n - k≤g→F n c l f k=F n c l g k
  | 0,g,k,h,h1,_=>by omega
  | f+1,0,k,h,_,h2=>by omega
  | f+1,g+1,k,h,h1,h2=>by
    show l k :: wrap _=l k :: wrap _
    congr 2
    have:∀ i∈kidsF n c k (k+1),F n c l f i=F n c l g i:=fun i hi=>by
      have:=List.mem_range'_1.mp (List.mem_filter.mp hi).1
      exact F_fuel f g i (by omega) (by omega) (by omega)
    exact fm_congr _ this
def Ft (n:Nat) (c:Nat→List Nat) (l:Nat→Nat) (k:Nat):List Nat:=F n c l (n - k) k
theorem Ft_eq {k:Nat} (hk:k < n):Ft n c l k=l k :: wrap ((kidsF n c k (k+1)).flatMap (Ft n c l)):=by
  unfold Ft
  rw [show n - k=(n - k - 1)+1 by omega]
  show l k :: wrap _=l k :: wrap _
  congr 2
  refine fm_congr _ fun i hi=>?_
  have:=List.mem_range'_1.mp (List.mem_filter.mp hi).1
  exact F_fuel _ _ i (by omega) (by omega) (by omega)
def br (a b:Nat):List Nat:=if b > a then [40] else List.replicate (a - b) 41
def S (n:Nat) (c:Nat→List Nat) (l:Nat→Nat):Nat→List Nat
  | 0=>[]
  | r+1=>l (n - (r+1)) :: (if 0 < r then br (c (n - (r+1))).length (c (n - r)).length++S n c l r else List.replicate (c (n - (r+1))).length 41)
def Sfx (n:Nat) (c:Nat→List Nat) (l:Nat→Nat) (k:Nat):List Nat:=S n c l (n - k)
theorem Sfx_eq {k:Nat} (hk:k < n):Sfx n c l k=l k :: (if k+1 < n then br (c k).length (c (k+1)).length++Sfx n c l (k+1) else List.replicate (c k).length 41):=by
  unfold Sfx
  have e:n - k=(n - (k+1))+1:=by omega
  rw [e]
  show l (n - (n - (k+1)+1)) :: _=_
  rw [← e,show n - (n - k)=k by omega,show n - (n - (k+1))=k+1 by omega]
  by_cases h:k+1 < n
  · rw [if_pos h,if_pos (by omega)]
  · rw [if_neg h,if_neg (by omega)]
def Rest (n:Nat) (c:Nat→List Nat) (l:Nat→Nat) (e x:Nat):List Nat:=if e < n then List.replicate (x - (c e).length) 41++Sfx n c l e else List.replicate x 41
theorem Ft_ne {k:Nat} (hk:k < n):Ft n c l k≠[]:=by rw [Ft_eq hk];simp
theorem up_lt (p:Pre n c) {i k:Nat} (hi:i < n) (h:up c i=some k):c i=k :: c k:=by
  unfold up at h
  cases e:c i with
  | nil=>rw [e] at h;cases h
  | cons u r=>
    rw [e] at h
    cases h
    rw [(p.self i hi _ r e).2]
theorem kidsL (p:Pre n c) {k:Nat} (hk:k < n) (ih:∀ j,k < j→j < n→∃ e,j < e∧e≤n∧(∀ i,j < i→i < e→(c j).length < (c i).length)∧(e=n∨(c e).length≤(c j).length)∧Sfx n c l j=Ft n c l j++Rest n c l e (c j).length) :
    ∀ (f j:Nat),n - j≤f→k < j→j < n→up c j=some k→∃ e,j < e∧e≤n∧(∀ i,j≤i→i < e→(c k).length < (c i).length)∧(e=n∨(c e).length≤(c k).length)∧Sfx n c l j=(kidsF n c k j).flatMap (Ft n c l)++41 :: Rest n c l e (c k).length
  | 0,j,h,_,hj,_=>by omega
  | f+1,j,h,hkj,hj,hu=>by
    obtain ⟨e1,a1,a2,a3,a4,a5⟩:=ih j hkj hj
    have cj:=up_lt p hj hu
    have dj:(c j).length=(c k).length+1:=by rw [cj];rfl
    have noK:∀ i,j+1≤i→i < e1→up c i≠some k:=fun i h1 h2 hk'=>by
      have ci:=up_lt p (by omega) hk'
      obtain ⟨q,eq⟩:=below p hj i (by omega) (by omega) fun i' b1 b2=>a3 i' b1 (by omega)
      rw [ci] at eq
      cases q with
      | nil=>injection eq with e' _;omega
      | cons u q=>
        injection eq with _ e'
        have:j∈c k:=by rw [e'];simp
        have:=mem_lt p (k+1) k (by omega) hk j this
        omega
    have kd:kidsF n c k j=j :: kidsF n c k e1:=by rw [kids_one hj hu,kids_no (by omega) a2 noK]
    rw [dj] at a5
    rcases Nat.lt_or_ge e1 n with g | g
    · have de:=a4.resolve_left (by omega)
      rcases Nat.lt_or_ge (c k).length (c e1).length with g2 | g2
      · have d1:(c e1).length=(c j).length:=by omega
        have ce:c e1=c j:=by
          obtain ⟨q,eq⟩:∃ q,c (e1 - 1)=q++c j:=by
            rcases Nat.lt_or_ge j (e1 - 1) with w | w
            · obtain ⟨q,eq⟩:=below p hj (e1 - 1) w (by omega) fun i b1 b2=>a3 i b1 (by omega)
              exact ⟨q++[j],by rw [eq];simp⟩
            · exact ⟨[],by rw [show e1 - 1=j by omega];rfl⟩
          rcases p.step e1 (by omega) g with s | ⟨m,s⟩
          · rw [s,List.length_cons,eq,List.length_append] at d1
            omega
          · rw [eq] at s
            have dl:=d1
            rw [s,List.length_drop,List.length_append] at dl
            rw [s,List.drop_append_of_le_length (by omega),List.drop_eq_nil_of_le (by omega),List.nil_append]
        have ue:up c e1=some k:=by unfold up;rw [ce];exact hu
        obtain ⟨e,b1,b2,b3,b4,b5⟩:=kidsL p hk ih f e1 (by omega) (by omega) g ue
        refine ⟨e,by omega,b2,fun i h1 h2=>?_,b4,?_⟩
        · rcases Nat.lt_or_ge i e1 with w | w
          · rcases Nat.lt_or_ge j i with w2 | w2
            · have:=a3 i w2 w;omega
            · have:i=j:=by omega
              subst this;omega
          · exact b3 i w h2
        · rw [a5,kd,List.flatMap_cons,List.append_assoc]
          congr 1
          unfold Rest
          rw [if_pos g,show (c k).length+1 - (c e1).length=0 by omega]
          show Sfx n c l e1=_
          rw [b5];rfl
      · refine ⟨e1,a1,a2,fun i h1 h2=>?_,.inr g2,?_⟩
        · rcases Nat.lt_or_ge j i with w2 | w2
          · have:=a3 i w2 h2;omega
          · have:i=j:=by omega
            subst this;omega
        · have no:kidsF n c k e1=[]:=by
            rw [kids_no (e:=n) a2 (Nat.le_refl _) fun i h1 h2 hk'=>beyond p (by omega) g g2 i h1 h2 (by rw [up_lt p h2 hk'];exact List.mem_cons_self),kids_end]
          rw [a5,kd,no,List.flatMap_cons,List.flatMap_nil,List.append_nil]
          congr 1
          unfold Rest
          rw [if_pos g,if_pos g,show (c k).length+1 - (c e1).length=((c k).length - (c e1).length)+1 by omega,List.replicate_succ]
          rfl
    · have:e1=n:=by omega
      subst this
      refine ⟨e1,a1,a2,fun i h1 h2=>?_,.inl rfl,?_⟩
      · rcases Nat.lt_or_ge j i with w2 | w2
        · have:=a3 i w2 h2;omega
        · have:i=j:=by omega
          subst this;omega
      · rw [a5,kd,kids_end,List.flatMap_cons,List.flatMap_nil,List.append_nil]
        congr 1
        unfold Rest
        rw [if_neg (Nat.lt_irrefl _),if_neg (Nat.lt_irrefl _),List.replicate_succ]
theorem main (p:Pre n c):∀ (f k:Nat),n - k≤f→k < n→∃ e,k < e∧e≤n∧(∀ i,k < i→i < e→(c k).length < (c i).length)∧(e=n∨(c e).length≤(c k).length)∧Sfx n c l k=Ft n c l k++Rest n c l e (c k).length
  | 0,k,h,hk=>by omega
  | f+1,k,h,hk=>by
    have ih:∀ j,k < j→j < n→_:=fun j h1 h2=>main p f j (by omega) h2
    rw [Sfx_eq hk]
    by_cases h1:k+1 < n
    · rw [if_pos h1]
      rcases Nat.lt_or_ge (c k).length (c (k+1)).length with g | g
      · have ck:c (k+1)=k :: c k:=by
          rcases p.step (k+1) (by omega) h1 with s | ⟨m,s⟩
          · rw [Nat.add_sub_cancel] at s;exact s
          · rw [Nat.add_sub_cancel] at s
            rw [s,List.length_drop] at g
            omega
        have uk:up c (k+1)=some k:=by unfold up;rw [ck];rfl
        obtain ⟨e,b1,b2,b3,b4,b5⟩:=kidsL p hk ih (n - (k+1)) (k+1) (Nat.le_refl _) (by omega) h1 uk
        refine ⟨e,by omega,b2,fun i x1 x2=>b3 i (by omega) x2,b4,?_⟩
        rw [Ft_eq hk]
        have ne:(kidsF n c k (k+1)).flatMap (Ft n c l)≠[]:=by
          rw [kids_one h1 uk,List.flatMap_cons]
          intro z
          exact Ft_ne h1 (List.append_eq_nil_iff.mp z).1
        unfold wrap br
        rw [if_neg ne,if_pos g,b5]
        simp
      · refine ⟨k+1,by omega,by omega,fun i x1 x2=>by omega,.inr g,?_⟩
        have no:kidsF n c k (k+1)=[]:=by
          rw [kids_no (e:=n) (by omega) (Nat.le_refl _) fun i x1 x2 hk'=>beyond p (by omega) h1 g i x1 x2 (by rw [up_lt p x2 hk'];exact List.mem_cons_self),kids_end]
        rw [Ft_eq hk,no,List.flatMap_nil]
        unfold wrap br Rest
        rw [if_pos rfl,if_neg (by omega),if_pos h1]
        rfl
    · rw [if_neg h1]
      refine ⟨n,hk,Nat.le_refl _,fun i x1 x2=>by omega,.inl rfl,?_⟩
      have no:kidsF n c k (k+1)=[]:=by rw [show k+1=n by omega,kids_end]
      rw [Ft_eq hk,no,List.flatMap_nil]
      unfold wrap Rest
      rw [if_pos rfl,if_neg (Nat.lt_irrefl _)]
      rfl
theorem text_eq (p:Pre n c) (h0:0 < n):Sfx n c l 0=Ft n c l 0:=by
  obtain ⟨e,b1,b2,b3,b4,b5⟩:=main (l:=l) p n 0 (by omega) h0
  rw [b5,p.root]
  unfold Rest
  rcases Nat.lt_or_ge e n with g | g
  · have de:=b4.resolve_left (by omega)
    rw [p.root] at de
    exact absurd (List.eq_nil_of_length_eq_zero (Nat.le_zero.mp de)) (p.ne e (by omega) g)
  · rw [if_neg (by omega)]
    simp
end
end W03
namespace S04
open PySem L2 W7
structure Blt7 (mg:Str→Option Value):Prop extends Blt mg where
  repr:mg "repr" = none
  all:mg "all" = none
  dict_:mg "dict" = none
  most:∃ u,mg "MOST_PLACES" = some u∧RelV (.int 60) u
  letters:∃ u,mg "LETTERS" = some u∧RelV (.str "abcdefghijklmnopqrstuvwxyz") u
section
variable {ups:List Int} {lab:List Nat}
theorem chn_trans (t:TreeOk ups lab):∀ (n k:Nat),k < n→k < ups.length→∀ v∈chn ups k,∀ w∈chn ups v.toNat,w∈chn ups k
  | 0,_,h,_,_,_,_,_=>absurd h (Nat.not_lt_zero _)
  | n+1,k,hn,hk,v,hv,w,hw=>by
    rw [chn_eq t hk] at hv ⊢
    split at hv
    · cases hv
    · rename_i h0
      rw [if_neg h0]
      have lt:=t.lt hk h0
      rcases List.mem_cons.mp hv with e | e
      · rw [e] at hw;exact List.mem_cons_of_mem _ hw
      · exact List.mem_cons_of_mem _ (chn_trans t n _ (by omega) (by omega) v e w hw)
theorem road_mem (t:TreeOk ups lab) {k:Nat} (hk:k < ups.length):∀ n,climb ups n (k:Int)=(k:Int)∨climb ups n (k:Int)∈chn ups k
  | 0=>.inl rfl
  | n+1=>by
    have step:∀ c:Nat,c < ups.length→stepUp ups (c:Int)=(c:Int)∨stepUp ups (c:Int)∈chn ups c:=fun c hc=>by
      rcases Nat.eq_zero_or_pos c with z | z
      · left;subst z;unfold stepUp;show (if ups.getD 0 0 > 0 then ups.getD 0 0 else 0)=0;rw [t.root];rfl
      · right
        have u:=t.up c z hc
        rw [chn_eq t hc,if_neg (by omega)]
        have e:stepUp ups (c:Int)=ups.getD c 0:=by
          unfold stepUp;rw [Int.toNat_natCast];split <;> omega
        rw [e];exact List.mem_cons_self ..
    show stepUp ups (climb ups n (k:Int))=_∨stepUp ups (climb ups n (k:Int))∈_
    rcases road_mem t hk n with a | a
    · rw [a];exact step k hk
    · have b:=(chn_mem t (k+1) k (by omega) hk).2 _ a
      have e:climb ups n (k:Int)=((climb ups n (k:Int)).toNat:Int):=by omega
      rcases step (climb ups n (k:Int)).toNat (by omega) with s | s
      · rw [← e] at s;rw [s];exact .inr a
      · rw [← e] at s;exact .inr (chn_trans t (k+1) k (by omega) hk _ a _ s)
theorem chn_behind (t:TreeOk ups lab) (road:∀ k,0 < k→k < ups.length→∃ n,climb ups n ((k:Int) - 1)=ups.getD k 0) {k:Nat} (h0:0 < k) (hk:k < ups.length):∀ v∈chn ups k,v=(k:Int) - 1∨v∈chn ups (k - 1):=fun v hv=>by
  obtain ⟨n,e⟩:=road k h0 hk
  have u:=t.up k h0 hk
  have ek:(k:Int) - 1=((k - 1:Nat):Int):=by omega
  rw [ek] at e ⊢
  rw [chn_eq t hk,if_neg (by omega)] at hv
  have m:=road_mem t (k:=k - 1) (by omega) n
  rw [e] at m
  rcases List.mem_cons.mp hv with z | z
  · rw [z];exact m
  · right
    rcases m with m | m
    · rw [m,Int.toNat_natCast] at z;exact z
    · exact chn_trans t (k - 1+1) (k - 1) (by omega) (by omega) _ m _ z
end
section
variable {P:Program} {w:World} {K:PySem.W.Frag} {mg:Str→Option Value} {base:Heap} {k:Nat}
def sp_all:Sp:=fun vs H Q _=>∃ (u:Addr) (ups more:List Int) (lab:List Nat) (i:Int),vs=[.ref u,.int i]∧H u=some (.tup ((ups++more).map V.int))∧TreeOk ups lab∧0≤i∧i < (ups.length:Int) ∧
  ∀ (r:Addr) (H':Hp),Same H H'→H' r=some (.lst ((chn ups i.toNat).map V.int))→Q (.ref r) H'
theorem ints_atM {us more:List Int} {i:Int} (h0:0≤i) (h1:i < (us.length:Int)):atI ((us++more).map V.int) i=some (.int (us.getD i.toNat 0)):=by
  have:=ints_at (us:=us++more) (i:=i) h0 (by rw [List.length_append];omega)
  rw [getD_app,if_pos (by omega)] at this
  exact this
theorem has_all (D:Df K mg "all_above" s_all_above) (B:Blt7 mg):Has P w K mg base "all_above" (k+1) ["ups", "place"] sp_all:=by
  refine D.has sc_all_above (fun _ _ _ _ _ _ us hl=>match us,hl with | [_,_],_=>rfl) (fun vs H Q E h=>by obtain ⟨u,ups,more,lab,i,rfl,_⟩:=h;rfl) (fun f cdv A outer s H vs Q E hr h=>?_)
  obtain ⟨u,ups,more,lab,i,rfl,hu,ok,i0,i1,q⟩:=h
  refine ⟨_,(pss_cons (ps_set (i:=2) sc_all_above.nd rfl (by first | exact Or.inl rfl | exact Or.inr rfl) (pe_lst pa_nil))
  (pss_cons (ps_set (i:=3) sc_all_above.nd rfl (by first | exact Or.inl rfl | exact Or.inr rfl) (pe_ix ix_tup (pv 0) (pv 1) (fun _ _=>rfl)))
  (pss_cons (ps_while PassesOwn.never (pt_cmpR op_ne (pv 3) (pe_un un_neg pe_int) (nomark _))
  (pss_cons (ps_expr (pe_bm PySem.F.plainAttrs_list PySem.F.slot_list_append PySem.F.type_list_append mt_append (pv 2) (pa_cons (pv 3) pa_nil)))
  (pss_one (ps_set (i:=3) sc_all_above.nd rfl (by first | exact Or.inl rfl | exact Or.inr rfl) (pe_ix ix_tup (pv 0) (pv 3) (fun _ _=>rfl))))))
  (pss_one (ps_ret (pv 2)))))),?_⟩
  have m60:=ok.most
  have hup:∀ j:Int,0≤j→j < (ups.length:Int)→ups.getD j.toNat 0 < j∧-1≤ups.getD j.toNat 0:=fun j h0 h1=>by
    rcases Nat.eq_zero_or_pos j.toNat with z | z
    · have:=ok.root
      rw [z];omega
    · have:=ok.up j.toNat z (by omega)
      omega
  refine ⟨(by show 0≤sizeLine;decide),fun r hr0=>?_⟩
  have ne:u≠r:=ne_of_none hu hr0
  have hu':∀ o,upd H r o u=some (.tup ((ups++more).map V.int)):=fun o=>by rw [upd_ne ne];exact hu
  refine ⟨_,rfl,_,rfl,u,_,_,_,rfl,rfl,SqT.of (hu' _),ints_atM i0 i1,?_⟩
  refine ⟨fun m σ H'=>∃ (l:List Int) (up:Int),σ=[some (.ref u),some (.int i),some (.ref r),some (.int up)]∧H'=upd H r (.lst (l.map V.int))∧l++rst ups up=chn ups i.toNat∧m=(up+1).toNat∧up < (ups.length:Int)∧-1≤up∧l.length+(up+1).toNat≤61,
    ⟨_,[],_,rfl,rfl,(by rw [List.nil_append];exact (chn_rst ok (by omega)).symm),rfl,by have:=hup i i0 i1;omega,(hup i i0 i1).2,by have:=hup i i0 i1;rw [List.length_nil];omega⟩,?_⟩
  rintro m σ H' ⟨l,up,rfl,rfl,hl,rfl,u1,u2,u3⟩
  refine ⟨_,rfl,_,rfl,rfl,_,rfl,?_⟩
  by_cases hc:V.int up=V.int (-1)
  · rw [decide_eq_true hc]
    refine iteF ?_
    have e:up=-1:=by injection hc
    subst e
    refine ⟨_,rfl,q r _ ((Same.refl H).new hr0) ?_⟩
    rw [upd_same,← hl]
    have:rst ups (-1)=[]:=by unfold rst;rw [if_pos (by decide)]
    rw [this,List.append_nil]
  · rw [decide_eq_false hc]
    refine iteT ?_
    have e:up≠-1:=fun z=>hc (by rw [z])
    have g:=hup up (by omega) u1
    refine ⟨_,fun σ' H3 h=>h,?_⟩
    refine ⟨_,rfl,.inl ⟨rfl,_,SqL.of upd_same⟩,_,rfl,r,_,_,rfl,rfl,upd_same,by rw [List.length_map];exact small1000 (by omega),?_⟩
    rw [upd_upd]
    refine ⟨_,rfl,_,rfl,u,_,_,_,rfl,rfl,SqT.of (hu' _),ints_atM (by omega) u1,?_⟩
    refine ⟨(ups.getD up.toNat 0+1).toNat,by omega,l++[up],ups.getD up.toNat 0,rfl,by rw [List.map_append];rfl,?_,rfl,by omega,g.2,by rw [List.length_append,List.length_singleton];omega⟩
    rw [List.append_assoc,← hl,rst_step ok (by omega) u1];rfl
def sp_deep:Sp:=fun vs H Q _=>∃ (t:Addr) (ups:List Int) (lab:Str) (j:Nat),vs=[.ref t,.int (j:Int)]∧TreeAt H t ups lab∧j < ups.length∧∀ H':Hp,Same H H'→Q (.int ((chn ups j).length:Int)) H'
theorem has_deep (D:Df K mg "deep_of" s_deep_of) (B:Blt7 mg) (G_all_above:Has P w K mg base "all_above" k ["ups", "place"] sp_all):Has P w K mg base "deep_of" (k+1) ["tree", "place"] sp_deep:=by
  refine D.has sc_deep_of (fun _ _ _ _ _ _ us hl=>match us,hl with | [_,_],_=>rfl) (fun vs H Q E h=>by obtain ⟨t,ups,lab,j,rfl,_⟩:=h;rfl) (fun f cdv A outer s H vs Q E hr h=>?_)
  obtain ⟨t,ups,lab,j,rfl,tr,hj,q⟩:=h
  refine ⟨_,(pss_one (ps_ret (pe_callB call_len_seq rfl B.len bt_len (pa_cons (pe_callH G_all_above hr rfl (pa_cons (pe_ix ix_tup (pv 0) pe_int (fun _ _=>rfl)) (pa_cons (pv 1) pa_nil))) pa_nil)))),?_⟩
  obtain ⟨u,ht,hu,ok⟩:=id tr
  refine ⟨_,rfl,t,_,_,_,rfl,rfl,SqT.of ht,rfl,_,rfl,u,ups,[],lab.cps.toList,(j:Int),rfl,(by rw [List.append_nil];exact hu),ok,by omega,by omega,fun r H1 s1 hr1=>?_⟩
  refine ⟨r,_,rfl,.inl (SqL.of hr1),?_⟩
  have:=q H1 s1
  rw [List.length_map,Int.toNat_natCast]
  exact this
def sp_cells (K:PySem.W.Frag):Sp:=fun vs H Q _=>∃ (a:Addr) (ns:List Int) (m:Nat),vs=[.ref a,.int (m:Int)]∧SqL K H a (ns.map V.int)∧ns.length≤63∧m≤63 ∧
  ∀ (cs:List Int) (r:Addr) (H':Hp),cs.length≤64→Same H H'→H r=none→H' r=some (.lst (cs.map V.int))→Q (.ref r) H'
theorem has_cells (D:Df K mg "_law_cells" s_law_cells) (B:Blt7 mg):Has P w K mg base "_law_cells" (k+1) ["script", "many"] (sp_cells K):=by
  refine D.has sc_law_cells (fun _ _ _ _ _ _ us hl=>match us,hl with | [_,_],_=>rfl) (fun vs H Q E h=>by obtain ⟨a,ns,m,rfl,_⟩:=h;rfl) (fun f cdv A outer s H vs Q E hr h=>?_)
  obtain ⟨a,ns,m,rfl,hS,h63,m63,q⟩:=h
  refine ⟨_,(pss_one (ps_ret (pe_op op_cat (pe_slice sl_list (pv 0) po_none (po_some (pv 1))) (pe_op op_rep (pe_lst (pa_cons pe_int pa_nil)) (pe_callTy call_int1 rfl B.int_ bt_int (pa_cons (pe_cmpR (op_eq_lst hr.units0) (pv 0) (pe_lst pa_nil) (nomark _)) pa_nil)))))),?_⟩
  refine ⟨_,rfl,_,rfl,_,rfl,a,_,rfl,hS,fun p hp=>?_⟩
  have s1:Same H (upd H p (.lst (cutV (ns.map V.int) none (some (m:Int))))):=(Same.refl H).new hp
  have h1:upd H p (.lst (cutV (ns.map V.int) none (some (m:Int)))) p=some (.lst (cutV (ns.map V.int) none (some (m:Int)))):=upd_same
  generalize upd H p (.lst (cutV (ns.map V.int) none (some (m:Int))))=H1 at s1 h1
  refine ⟨(by show 1≤sizeLine;decide),fun z hz=>?_⟩
  have s2:Same H1 (upd H1 z (.lst [.int 0])):=(Same.refl H1).new hz
  have h2:upd H1 z (.lst [.int 0]) z=some (.lst [.int 0]):=upd_same
  generalize upd H1 z (.lst [.int 0])=H2 at s2 h2
  refine ⟨_,rfl,(by show 0≤sizeLine;decide),fun e he=>?_⟩
  have s3:Same H2 (upd H2 e (.lst [])):=(Same.refl H2).new he
  have h3:upd H2 e (.lst []) e=some (.lst []):=upd_same
  generalize upd H2 e (.lst [])=H3 at s3 h3
  refine ⟨a,e,_,_,rfl,rfl,SqL.keepS hS ((s1.trans s2).trans s3),SqL.of h3,flat_ints _,rfl,?_⟩
  generalize eqVs (ns.map V.int) []=bb
  refine .inr ⟨bb,rfl,z,_,_,rfl,rfl,s3 _ _ h2,?_,?_,?_,fun r2 hr2=>?_⟩
  · cases bb <;> decide
  · cases bb <;> decide
  · cases bb <;> decide
  have s4:Same H3 (upd H3 r2 (.lst (List.replicate (if bb=true then (1:Int) else 0).toNat [V.int 0]).flatten)):=(Same.refl H3).new hr2
  have e0:(List.replicate (if bb=true then (1:Int) else 0).toNat [V.int 0]).flatten=(List.replicate (if bb=true then 1 else 0) (0:Int)).map V.int:=by cases bb <;> rfl
  rw [e0] at s4 ⊢
  have h4:upd H3 r2 (.lst ((List.replicate (if bb=true then 1 else 0) (0:Int)).map V.int)) r2=some (.lst ((List.replicate (if bb=true then 1 else 0) (0:Int)).map V.int)):=upd_same
  generalize upd H3 r2 (.lst ((List.replicate (if bb=true then 1 else 0) (0:Int)).map V.int))=H4 at s4 h4
  have ec:cutV (ns.map V.int) none (some (m:Int))=(ns.take (HT.sIx (ns.map V.int).length (ns.map V.int).length (some (m:Int)))).map V.int:=by
    unfold cutV
    rw [HT.sIx_none,List.drop_zero,Nat.sub_zero,List.map_take]
  have lb:(if bb=true then 1 else 0:Nat)≤1:=by cases bb <;> decide
  have lt1:(ns.take (HT.sIx (ns.map V.int).length (ns.map V.int).length (some (m:Int)))).length≤63:=by rw [List.length_take];omega
  refine ⟨p,r2,_,_,rfl,rfl,s4 _ _ (s3 _ _ (s2 _ _ h1)),h4,?_,fun r3 hr3=>q (ns.take (HT.sIx (ns.map V.int).length (ns.map V.int).length (some (m:Int)))++List.replicate (if bb=true then 1 else 0) 0) r3 _ ?_ ?_ ?_ ?_⟩
  · rw [ec]
    simp only [List.length_map,List.length_replicate] at lt1 ⊢
    exact Nat.le_of_lt (small1000 (by omega))
  · rw [List.length_append,List.length_replicate];omega
  · exact (((s1.trans s2).trans s3).trans s4).trans ((Same.refl H4).new hr3)
  · exact (((s1.trans s2).trans s3).trans s4).free hr3
  · rw [upd_same,ec,List.map_append]
end
end S04
namespace S04
open PySem L2 W7
section
variable {ups:List Int} {lab:List Nat}
def cn (ups:List Int) (k:Nat):List Nat:=(chn ups k).map Int.toNat
theorem cn_len (ups:List Int) (k:Nat):(cn ups k).length=(chn ups k).length:=by unfold cn;rw [List.length_map]
theorem chn_split (t:TreeOk ups lab):∀ (f j:Nat),j < f→j < ups.length→∀ v∈chn ups j,∃ q,chn ups j=q++v :: chn ups v.toNat
  | 0,j,h,_,_,_=>absurd h (Nat.not_lt_zero _)
  | f+1,j,h,hj,v,hv=>by
    rw [chn_eq t hj] at hv ⊢
    split at hv
    · cases hv
    · rename_i h0
      rw [if_neg h0]
      have lt:=t.lt hj h0
      rcases List.mem_cons.mp hv with e | e
      · exact ⟨[],by rw [e];rfl⟩
      · obtain ⟨q,eq⟩:=chn_split t f _ (by omega) (by omega) v e
        exact ⟨_ :: q,by rw [eq];rfl⟩
theorem chn_pos (t:TreeOk ups lab) {k:Nat} (h0:0 < k) (hk:k < ups.length):chn ups k=ups.getD k 0 :: chn ups (ups.getD k 0).toNat:=by
  have u:=t.up k h0 hk
  rw [chn_eq t hk,if_neg (by omega)]
theorem chn_zero (t:TreeOk ups lab):chn ups 0=[]:=by
  rw [chn_eq t t.pos,if_pos (by rw [t.root];decide)]
theorem chn_step (t:TreeOk ups lab) (road:∀ k,0 < k→k < ups.length→∃ n,climb ups n ((k:Int) - 1)=ups.getD k 0) {k:Nat} (h0:0 < k) (hk:k < ups.length) :
    chn ups k=((k - 1:Nat):Int) :: chn ups (k - 1)∨∃ m,chn ups k=(chn ups (k - 1)).drop m:=by
  have e:=chn_pos t h0 hk
  rcases chn_behind t road h0 hk (ups.getD k 0) (by rw [e];exact List.mem_cons_self) with z | z
  · left
    rw [e,z,show (k:Int) - 1=((k - 1:Nat):Int) by omega,Int.toNat_natCast]
  · right
    obtain ⟨q,eq⟩:=chn_split t (k - 1+1) (k - 1) (by omega) (by omega) _ z
    exact ⟨q.length,by rw [eq,e];simp⟩
theorem pre_of (t:TreeOk ups lab) (road:∀ k,0 < k→k < ups.length→∃ n,climb ups n ((k:Int) - 1)=ups.getD k 0):W03.Pre ups.length (cn ups) where
  root:=by unfold cn;rw [chn_zero t];rfl
  step:=fun k h0 hk=>by
    unfold cn
    rcases chn_step t road h0 hk with s | ⟨m,s⟩
    · left;rw [s,List.map_cons,Int.toNat_natCast]
    · right;exact ⟨m,by rw [s,List.map_drop]⟩
  ne:=fun k h0 hk=>by unfold cn;rw [chn_pos t h0 hk];simp
  self:=fun k hk v r e=>by
    unfold cn at e
    rcases Nat.eq_zero_or_pos k with z | z
    · subst z;rw [chn_zero t] at e;cases e
    · have u:=t.up k z hk
      rw [chn_pos t z hk,List.map_cons] at e
      injection e with e1 e2
      subst e1
      exact ⟨by omega,e2.symm⟩
def txt (ups:List Int) (lab:List Nat):List Nat:=W03.Ft ups.length (cn ups) (fun k=>lab.getD k 0) 0
def rem (ups:List Int) (lab:List Nat) (i:Nat):List Nat:=if i=0 then W03.Sfx ups.length (cn ups) (fun k=>lab.getD k 0) 0 else
  if i < ups.length then W03.br (chn ups (i - 1)).length (chn ups i).length++W03.Sfx ups.length (cn ups) (fun k=>lab.getD k 0) i else List.replicate (chn ups (i - 1)).length 41
theorem rem_txt (t:TreeOk ups lab) (road:∀ k,0 < k→k < ups.length→∃ n,climb ups n ((k:Int) - 1)=ups.getD k 0):rem ups lab 0=txt ups lab:=by
  unfold rem txt
  rw [if_pos rfl,W03.text_eq (pre_of t road) t.pos]
theorem sfx_rem {i:Nat} (hi:i < ups.length):W03.Sfx ups.length (cn ups) (fun k=>lab.getD k 0) i=lab.getD i 0 :: rem ups lab (i+1):=by
  rw [W03.Sfx_eq hi,cn_len,cn_len]
  unfold rem
  rw [if_neg (show ¬ i+1=0 by omega),Nat.add_sub_cancel]
structure Sc where
  us:List Int
  ls:List Nat
  wn:List Int
  la:List Nat
def tk (s:Sc) (x:Nat):Sc:=if x=40 then ⟨s.us,s.ls,s.wn++[(s.ls.length:Int) - 1],[x]⟩ else if x=41 then ⟨s.us,s.ls,s.wn.dropLast,[x]⟩ else ⟨s.us++[s.wn.getLastD (-1)],s.ls++[x],s.wn,[x]⟩
def Can (s:Sc) (x:Nat):Prop:=(x=41∧s.wn≠[]∧s.la≠[40])∨(x=40∧s.ls.length < 60∧∃ c,Lw c∧s.la=[c])∨(Lw x∧s.ls.length < 60∧(s.la=[]∨s.wn≠[]))
inductive Go:Sc→List Nat→Sc→Prop
  | nil (s:Sc):Go s [] s
  | cons {s f:Sc} {x:Nat} {xs:List Nat} (h:Can s x) (r:Go (tk s x) xs f):Go s (x :: xs) f
theorem take_next {α:Type} {l:List α} {d:α} {j:Nat} (h:j < l.length):l.take j++[l.getD j d]=l.take (j+1):=by
  rw [List.take_succ_eq_append_getElem h,List.getD_eq_getElem?_getD,List.getElem?_eq_getElem h];rfl
theorem go_pop {f:Sc} {t:List Nat}:∀ (m:Nat) (s:Sc),m≤s.wn.length→s.la≠[40]→Go ⟨s.us,s.ls,s.wn.take (s.wn.length - m),if m=0 then s.la else [41]⟩ t f→Go s (List.replicate m 41++t) f
  | 0,s,_,_,h=>by
    rw [if_pos rfl,Nat.sub_zero,List.take_length] at h
    exact h
  | m+1,s,hm,hl,h=>by
    rw [List.replicate_succ,List.cons_append]
    refine .cons (.inl ⟨rfl,fun e=>by rw [e] at hm;simp at hm,hl⟩) ?_
    have e:tk s 41=⟨s.us,s.ls,s.wn.dropLast,[41]⟩:=rfl
    rw [e]
    refine go_pop m _ (by rw [List.length_dropLast];omega) (by simp) ?_
    rw [if_neg (by omega)] at h
    have e2:s.wn.dropLast.take (s.wn.dropLast.length - m)=s.wn.take (s.wn.length - (m+1)):=by
      rw [List.dropLast_eq_take,List.take_take,List.length_take]
      congr 1
      omega
    show Go ⟨s.us,s.ls,s.wn.dropLast.take (s.wn.dropLast.length - m),if m=0 then [41] else [41]⟩ t f
    rw [e2]
    split <;> exact h
theorem go_at (t:TreeOk ups lab) (road:∀ k,0 < k→k < ups.length→∃ n,climb ups n ((k:Int) - 1)=ups.getD k 0) (low:∀ c∈lab,Lw c):∀ (f k:Nat),ups.length - k≤f→k < ups.length →
    ∃ z,z≠[]∧Go ⟨ups.take (k+1),lab.take (k+1),(chn ups k).reverse,[lab.getD k 0]⟩ (rem ups lab (k+1)) ⟨ups,lab,[],z⟩
  | 0,k,h,hk=>by omega
  | f+1,k,h,hk=>by
    have m60:=t.most
    have ll:=t.len
    have lw:∀ j,j < ups.length→Lw (lab.getD j 0):=fun j hj=>by
      rw [List.getD_eq_getElem?_getD,List.getElem?_eq_getElem (by omega)]
      exact low _ (List.getElem_mem _)
    have n40:∀ j,j < ups.length→[lab.getD j 0]≠[40]:=fun j hj e=>by
      injection e with e
      have:=lw j hj
      unfold Lw at this
      omega
    unfold rem
    rw [if_neg (by omega),Nat.add_sub_cancel]
    by_cases h1:k+1 < ups.length
    · rw [if_pos h1,sfx_rem h1]
      obtain ⟨z,zn,g⟩:=go_at t road low f (k+1) (by omega) h1
      refine ⟨z,zn,?_⟩
      have tu:ups.take (k+1)++[ups.getD (k+1) 0]=ups.take (k+1+1):=take_next h1
      have tl:lab.take (k+1)++[lab.getD (k+1) 0]=lab.take (k+1+1):=take_next (by omega)
      have tk1:(lab.take (k+1)).length=k+1:=by rw [List.length_take];omega
      have lk:=lw (k+1) h1
      have nx:¬ lab.getD (k+1) 0=40∧¬ lab.getD (k+1) 0=41:=by unfold Lw at lk;omega
      have letter:∀ (wn:List Int) (la:List Nat),wn=(chn ups (k+1)).reverse→Go ⟨ups.take (k+1),lab.take (k+1),wn,la⟩ (lab.getD (k+1) 0 :: rem ups lab (k+1+1)) ⟨ups,lab,[],z⟩:=fun wn la e=>by
        have ce:=chn_pos t (by omega) h1
        refine .cons (.inr (.inr ⟨lk,by show (lab.take (k+1)).length < 60;omega,.inr (by show wn≠[];rw [e,ce];simp)⟩)) ?_
        unfold tk
        rw [if_neg nx.1,if_neg nx.2]
        show Go ⟨ups.take (k+1)++[wn.getLastD (-1)],lab.take (k+1)++[lab.getD (k+1) 0],wn,[lab.getD (k+1) 0]⟩ _ _
        have eg:wn.getLastD (-1)=ups.getD (k+1) 0:=by rw [e,ce,List.reverse_cons];simp
        rw [eg,tu,tl,e]
        exact g
      rcases Nat.lt_or_ge (chn ups k).length (chn ups (k+1)).length with d | d
      · have ck:chn ups (k+1)=((k:Nat):Int) :: chn ups k:=by
          rcases chn_step t road (by omega) h1 with s | ⟨m,s⟩
          · rw [Nat.add_sub_cancel] at s;exact s
          · rw [Nat.add_sub_cancel] at s
            rw [s,List.length_drop] at d
            omega
        unfold W03.br
        rw [if_pos d]
        refine .cons (.inr (.inl ⟨rfl,by show (lab.take (k+1)).length < 60;omega,_,lw k hk,rfl⟩)) ?_
        unfold tk
        rw [if_pos rfl]
        refine letter _ _ ?_
        show (chn ups k).reverse++[((lab.take (k+1)).length:Int) - 1]=_
        rw [ck,List.reverse_cons,tk1]
        congr 2
        omega
      · unfold W03.br
        rw [if_neg (by omega)]
        refine go_pop _ _ (by show _≤(chn ups k).reverse.length;rw [List.length_reverse];omega) (n40 k hk) ?_
        refine letter _ _ ?_
        show (chn ups k).reverse.take ((chn ups k).reverse.length - ((chn ups k).length - (chn ups (k+1)).length))=_
        rcases chn_step t road (by omega) h1 with s | ⟨m,s⟩
        · rw [Nat.add_sub_cancel] at s
          rw [s,List.length_cons] at d
          omega
        · rw [Nat.add_sub_cancel] at s
          have dl:(chn ups (k+1)).length=(chn ups k).length - m:=by rw [s,List.length_drop]
          have ne:=chn_pos t (by omega) h1
          have pos:0 < (chn ups (k+1)).length:=by rw [ne];simp
          rw [s,List.length_drop,List.reverse_drop,List.length_reverse]
          congr 1
          omega
    · rw [if_neg h1]
      have e1:ups.take (k+1)=ups:=List.take_of_length_le (by omega)
      have e2:lab.take (k+1)=lab:=List.take_of_length_le (by omega)
      refine ⟨if (chn ups k).length=0 then [lab.getD k 0] else [41],by split <;> simp,?_⟩
      have:=go_pop (f:=⟨ups,lab,[],if (chn ups k).length=0 then [lab.getD k 0] else [41]⟩) (t:=[]) (chn ups k).length ⟨ups.take (k+1),lab.take (k+1),(chn ups k).reverse,[lab.getD k 0]⟩ (by show _≤(chn ups k).reverse.length;rw [List.length_reverse];omega) (n40 k hk) (by
        show Go ⟨ups.take (k+1),lab.take (k+1),(chn ups k).reverse.take ((chn ups k).reverse.length - (chn ups k).length),_⟩ [] _
        rw [List.length_reverse,Nat.sub_self,List.take_zero,e1,e2]
        exact .nil _)
      rw [List.append_nil] at this
      exact this
theorem go_all (t:TreeOk ups lab) (road:∀ k,0 < k→k < ups.length→∃ n,climb ups n ((k:Int) - 1)=ups.getD k 0) (low:∀ c∈lab,Lw c):∃ z,z≠[]∧Go ⟨[],[],[],[]⟩ (txt ups lab) ⟨ups,lab,[],z⟩:=by
  have m60:=t.most
  have ll:=t.len
  have pos:=t.pos
  obtain ⟨z,zn,g⟩:=go_at t road low ups.length 0 (by omega) pos
  refine ⟨z,zn,?_⟩
  rw [← rem_txt t road]
  unfold rem
  rw [if_pos rfl,sfx_rem pos]
  have l0:Lw (lab.getD 0 0):=by
    rw [List.getD_eq_getElem?_getD,List.getElem?_eq_getElem (by omega)]
    exact low _ (List.getElem_mem _)
  have nx:¬ lab.getD 0 0=40∧¬ lab.getD 0 0=41:=by unfold Lw at l0;omega
  refine .cons (.inr (.inr ⟨l0,by decide,.inl rfl⟩)) ?_
  unfold tk
  rw [if_neg nx.1,if_neg nx.2]
  have e1:ups.take (0+1)=[]++[([]:List Int).getLastD (-1)]:=by
    rw [List.take_succ,List.getElem?_eq_getElem pos,List.take_zero]
    have:=t.root
    rw [List.getD_eq_getElem?_getD,List.getElem?_eq_getElem pos] at this
    have:ups[0]=-1:=this
    rw [this];rfl
  have e2:lab.take (0+1)=[]++[lab.getD 0 0]:=by
    rw [List.take_succ,List.getElem?_eq_getElem (by omega),List.take_zero,List.getD_eq_getElem?_getD,List.getElem?_eq_getElem (by omega)];rfl
  rw [e1,e2,chn_zero t] at g
  exact g
end
end S04
namespace S04
open PySem L2 W7
theorem glue_cps:∀ (ss:List Str) (acc:Array Nat),(List.foldl (fun acc (p:Str)=>acc++(Str.ofString "").cps++p.cps) acc ss).toList=acc.toList++(ss.map fun z:Str=>z.cps.toList).flatten
  | [],acc=>by simp
  | x :: r,acc=>by
    rw [List.foldl_cons,glue_cps r,Array.toList_append,Array.toList_append]
    have e:(Str.ofString "").cps.toList=[]:=rfl
    rw [e,List.append_nil,List.map_cons,List.flatten_cons,List.append_assoc]
theorem join_cps (ss:List Str):(Txt.join (Str.ofString "") ss).cps.toList=(ss.map fun z:Str=>z.cps.toList).flatten:=by
  cases ss with
  | nil=>rfl
  | cons x r=>
    have:=glue_cps r x.cps
    rw [List.map_cons,List.flatten_cons]
    exact this
theorem foldl_app (xs:Array Nat):∀ (n:Nat) (acc:Array Nat),((List.replicate n xs).foldl (·++·) acc).toList=acc.toList++(List.replicate n xs.toList).flatten
  | 0,acc=>by simp
  | n+1,acc=>by
    rw [List.replicate_succ,List.foldl_cons,foldl_app xs n,Array.toList_append,List.replicate_succ,List.flatten_cons,List.append_assoc]
theorem rep_one (c:Nat):∀ n:Nat,(List.replicate n [c]).flatten=List.replicate n c
  | 0=>rfl
  | n+1=>by rw [List.replicate_succ,List.flatten_cons,rep_one c n,List.replicate_succ];rfl
theorem mul_cps {c:Nat} {n:Int} (h:0≤n):(Txt.mul ⟨#[c]⟩ n).cps.toList=List.replicate n.toNat c:=by
  unfold Txt.mul
  split
  · have:n.toNat=0:=by omega
    rw [this];rfl
  · split
    · rename_i h1 h2
      have h3:n=1:=by
        simp only [Bool.or_eq_true,beq_iff_eq] at h2
        rcases h2 with h2 | h2
        · exact h2
        · have h4:(⟨#[c]⟩:Str).length=1:=rfl
          omega
      subst h3;rfl
    · show (List.foldl (·++·) #[] (List.replicate n.toNat #[c])).toList=_
      rw [foldl_app]
      show []++(List.replicate n.toNat [c]).flatten=_
      rw [rep_one];rfl
def cat (ps:List Str):List Nat:=(ps.map fun z:Str=>z.cps.toList).flatten
theorem cat_snoc (ps:List Str) (z:Str):cat (ps++[z])=cat ps++z.cps.toList:=by unfold cat;rw [List.map_append,List.flatten_append];simp
theorem sum_le {ps:List Str} {b:Nat} (h:∀ p∈ps,p.length≤b):(ps.map (·.length)).sum≤ps.length * b:=by
  induction ps with
  | nil=>simp
  | cons p ps ih=>
    rw [List.map_cons,List.sum_cons,List.length_cons,Nat.succ_mul]
    have:=h p List.mem_cons_self
    have:=ih fun q hq=>h q (List.mem_cons_of_mem _ hq)
    omega
theorem cps_len (z:Str):z.cps.toList.length=z.length:=by simp [Str.length]
section
variable {P:Program} {w:World} {K:PySem.W.Frag} {mg:Str→Option Value} {base:Heap} {k:Nat}
def dp (ups:List Int) (i:Nat):Nat:=if i=0 then 0 else (chn ups (i - 1)).length
theorem rem_lt {ups:List Int} {lab:List Nat} (t:TreeOk ups lab) {i:Nat} (hi:i < ups.length):rem ups lab i=W03.br (dp ups i) (chn ups i).length++(lab.getD i 0 :: rem ups lab (i+1)):=by
  rw [← sfx_rem hi]
  unfold rem dp
  rcases Nat.eq_zero_or_pos i with z | z
  · subst z
    rw [if_pos rfl,if_pos rfl,chn_zero t];rfl
  · rw [if_neg (by omega),if_pos hi,if_neg (by omega)]
def Road (ups:List Int):Prop:=∀ k,0 < k→k < ups.length→∃ n,climb ups n ((k:Int) - 1)=ups.getD k 0
def sp_show:Sp:=fun vs H Q _=>∃ (t:Addr) (ups:List Int) (lab:Str),vs=[.ref t]∧TreeAt H t ups lab∧Road ups∧∀ H',Same H H'→Q (.str (mk (txt ups lab.cps.toList))) H'
theorem has_show (D:Df K mg "show_tree" s_show_tree) (B:Blt7 mg) (G_deep_of:Has P w K mg base "deep_of" k ["tree", "place"] sp_deep):Has P w K mg base "show_tree" (k+1) ["tree"] sp_show:=by
  refine D.has sc_show_tree (fun _ _ _ _ _ _ us hl=>match us,hl with | [_],_=>rfl) (fun vs H Q E h=>by obtain ⟨t,ups,lab,rfl,_⟩:=h;rfl) (fun f cdv A outer s H vs Q E hr h=>?_)
  obtain ⟨t,ups,lab,rfl,tr,road,q⟩:=h
  refine ⟨_,(pss_cons (ps_set (i:=1) sc_show_tree.nd rfl (by first | exact Or.inl rfl | exact Or.inr rfl) (pe_lst pa_nil))
  (pss_cons (ps_set (i:=2) sc_show_tree.nd rfl (by first | exact Or.inl rfl | exact Or.inr rfl) pe_int)
  (pss_cons (ps_for PassesOwn.never rfl (pi_enum rfl B.enumerate (pa_cons (pe_ix ix_tup (pv 0) pe_int (fun _ _=>rfl)) pa_nil)) (pg_tup rfl (pgs_cons (pg_name (i:=3) sc_show_tree.nd rfl (by first | exact Or.inl rfl | exact Or.inr rfl)) (pgs_cons (pg_name (i:=4) sc_show_tree.nd rfl (by first | exact Or.inl rfl | exact Or.inr rfl)) pgs_nil)))
  (pss_cons (ps_set (i:=5) sc_show_tree.nd rfl (by first | exact Or.inl rfl | exact Or.inr rfl) (pe_callH G_deep_of hr rfl (pa_cons (pv 0) (pa_cons (pv 3) pa_nil))))
  (pss_cons (ps_if (pt_cmpR op_gt (pv 5) (pv 2) (nomark _))
  (pss_one (ps_expr (pe_bm PySem.F.plainAttrs_list PySem.F.slot_list_append PySem.F.type_list_append mt_append (pv 1) (pa_cons pe_str pa_nil))))
  (pss_one (ps_expr (pe_bm PySem.F.plainAttrs_list PySem.F.slot_list_append PySem.F.type_list_append mt_append (pv 1) (pa_cons (pe_op op_mul_str pe_str (pe_op op_sub (pv 2) (pv 5))) pa_nil)))))
  (pss_cons (ps_expr (pe_bm PySem.F.plainAttrs_list PySem.F.slot_list_append PySem.F.type_list_append mt_append (pv 1) (pa_cons (pv 4) pa_nil)))
  (pss_one (ps_set (i:=2) sc_show_tree.nd rfl (by first | exact Or.inl rfl | exact Or.inr rfl) (pv 5)))))))
  (pss_cons (ps_expr (pe_bm PySem.F.plainAttrs_list PySem.F.slot_list_append PySem.F.type_list_append mt_append (pv 1) (pa_cons (pe_op op_mul_str pe_str (pv 2)) pa_nil)))
  (pss_one (ps_ret (pe_bm PySem.F.plainAttrs_str PySem.F.slot_str_join PySem.F.type_str_join mt_join pe_str (pa_cons (pv 1) pa_nil)))))))),?_⟩
  obtain ⟨u,ht,hu,ok⟩:=id tr
  have m60:=ok.most
  have lpos:=ok.pos
  have ll:=ok.len
  have c1:∀ c:Nat,(⟨#[c]⟩:Str).length=1:=fun _=>rfl
  have cl:∀ i,i < ups.length→(chn ups i).length < 60:=fun i hi=>by have:=(chn_mem ok (i+1) i (by omega) hi).1;omega
  have mo:∀ n:Nat,n < 60→MulOk (Str.ofString ")") (n:Int):=fun n hn=>PyProof.Rows.mulOk_of 1 60 (by decide +kernel) (by omega) (by omega) (by decide) (by decide)
  have mc:∀ n:Nat,(Txt.mul (Str.ofString ")") (n:Int)).cps.toList=List.replicate n 41:=fun n=>by
    have:=mul_cps (c:=41) (n:=(n:Int)) (by omega)
    rw [Int.toNat_natCast] at this
    exact this
  refine ⟨(by show 0≤sizeLine;decide),fun r hr0=>?_⟩
  have s0:Same H (upd H r (.lst [])):=(Same.refl H).new hr0
  have h0:upd H r (.lst []) r=some (.lst []):=upd_same
  generalize upd H r (.lst [])=H0 at s0 h0
  refine ⟨_,rfl,t,_,_,_,rfl,rfl,SqT.of (s0 _ _ ht),rfl,.str lab,rfl,⟨_,rfl⟩,?_⟩
  have sl:(signs lab).length=ups.length:=by unfold signs;rw [List.length_map];exact ll.symm
  refine for_enum (κ:=.str lab) (xs:=signs lab) (fun i σ H'=>∃ (o3 o4 o5:Option V) (ps:List Str),σ=[some (.ref t),some (.ref r),some (.int (dp ups i:Int)),o3,o4,o5]∧Same H H'∧H' r=some (.lst (ps.map V.str))∧ps.length=2 * i∧(∀ p∈ps,p.length≤60)∧cat ps++rem ups lab.cps.toList i=txt ups lab.cps.toList)
    ⟨none,none,none,[],rfl,s0,h0,rfl,by simp,rem_txt ok road⟩ (fun i σ H' hi h=>rfl) ?_ ?_
  · rintro i x σ H' p hx ⟨o3,o4,o5,ps,rfl,sX,hX,lX,bX,tX⟩ hp
    have hi:i < ups.length:=by rw [← sl];exact (List.getElem?_eq_some_iff.mp hx).1
    obtain rfl:x=.str ⟨#[lab.cps.toList.getD i 0]⟩:=by
      unfold signs at hx
      rw [List.getElem?_map,List.getElem?_eq_getElem (by omega)] at hx
      rw [List.getD_eq_getElem?_getD,List.getElem?_eq_getElem (by omega)]
      exact (Option.some.inj hx).symm
    have sP:Same H (upd H' p (.tup [.int (i:Int),.str ⟨#[lab.cps.toList.getD i 0]⟩])):=sX.new hp
    refine ⟨p,_,rfl,SqT.of upd_same,rfl,_,_,rfl,_,_,rfl,rfl,?_⟩
    have hrP:upd H' p (.tup [.int (i:Int),.str ⟨#[lab.cps.toList.getD i 0]⟩]) r=some (.lst (ps.map V.str)):=by rw [upd_ne (ne_of_none hX hp)];exact hX
    generalize upd H' p (.tup [.int (i:Int),.str ⟨#[lab.cps.toList.getD i 0]⟩])=HP at sP hrP
    refine ⟨_,rfl,_,rfl,t,ups,lab,i,rfl,tr.same sP,hi,fun H1 s1=>?_⟩
    have s01:=sP.trans s1
    have hr1:=s1 _ _ hrP
    have rl:=rem_lt ok hi
    unfold W03.br at rl
    have dpl:dp ups i < 60:=by
      unfold dp
      split
      · decide
      · exact cl _ (by omega)
    have dpn:dp ups (i+1)=(chn ups i).length:=by unfold dp;rw [if_neg (by omega),Nat.add_sub_cancel]
    have fin:∀ (z:Str) (H2:Hp),z.length≤60→Same H H2→H2 r=some (.lst ((ps++[z]).map V.str))→rem ups lab.cps.toList i=z.cps.toList++(lab.cps.toList.getD i 0 :: rem ups lab.cps.toList (i+1)) →
        ∃ (o3 o4 o5:Option V) (ps':List Str),[some (.ref t),some (.ref r),some (.int ((chn ups i).length:Int)),some (.int (i:Int)),some (.str ⟨#[lab.cps.toList.getD i 0]⟩),some (.int ((chn ups i).length:Int))]=[some (.ref t),some (.ref r),some (.int (dp ups (i+1):Int)),o3,o4,o5] ∧
          Same H (upd H2 r (.lst ((ps++[z]).map V.str++[.str ⟨#[lab.cps.toList.getD i 0]⟩])))∧upd H2 r (.lst ((ps++[z]).map V.str++[.str ⟨#[lab.cps.toList.getD i 0]⟩])) r=some (.lst (ps'.map V.str))∧ps'.length=2 * (i+1)∧(∀ p∈ps',p.length≤60)∧cat ps'++rem ups lab.cps.toList (i+1)=txt ups lab.cps.toList:=fun z H2 zl s2 h2 er=>by
      refine ⟨_,_,_,ps++[z]++[⟨#[lab.cps.toList.getD i 0]⟩],by rw [dpn],s2.write hr0,by rw [upd_same];simp,by simp;omega,fun p hp=>?_,?_⟩
      · rcases List.mem_append.mp hp with hp | hp
        · rcases List.mem_append.mp hp with hp | hp
          · exact bX p hp
          · rw [List.mem_singleton.mp hp];exact zl
        · rw [List.mem_singleton.mp hp,c1];decide
      · rw [cat_snoc,cat_snoc,← tX,er,List.append_assoc,List.append_assoc]
        rfl
    refine ⟨_,rfl,_,rfl,_,_,rfl,rfl,_,rfl,ite2 (fun cnd=>?_) (fun cnd=>?_)⟩
    · have cnd:=of_decide_eq_true cnd
      rw [if_pos (by omega)] at rl
      refine ⟨_,rfl,.inl ⟨rfl,_,SqL.of hr1⟩,r,_,_,rfl,rfl,hr1,by rw [List.length_map];exact small1000 (by omega),?_⟩
      have h2:upd H1 r (.lst (ps.map V.str++[.str "("])) r=some (.lst ((ps++[Str.ofString "("]).map V.str)):=by rw [upd_same,List.map_append];rfl
      have s2:Same H (upd H1 r (.lst (ps.map V.str++[.str "("]))):=s01.write hr0
      generalize upd H1 r (.lst (ps.map V.str++[.str "("]))=H2 at h2 s2
      refine ⟨_,rfl,.inl ⟨rfl,_,SqL.of h2⟩,_,rfl,r,_,_,rfl,rfl,h2,by rw [List.length_map,List.length_append];exact small1000 (by simp;omega),?_⟩
      exact ⟨_,rfl,fin _ H2 (by decide +kernel) s2 h2 (by rw [rl];rfl)⟩
    · have cnd:=of_decide_eq_false (Bool.eq_false_iff.mpr cnd)
      have le:(chn ups i).length≤dp ups i:=by omega
      rw [if_neg (by omega)] at rl
      have en:(dp ups i:Int) - ((chn ups i).length:Int)=((dp ups i - (chn ups i).length:Nat):Int):=by omega
      refine ⟨_,rfl,.inl ⟨rfl,_,SqL.of hr1⟩,_,rfl,_,rfl,_,_,rfl,rfl,_,_,rfl,rfl,by rw [en];exact mo _ (by omega),r,_,_,rfl,rfl,hr1,by rw [List.length_map];exact small1000 (by omega),?_⟩
      rw [en]
      have zc:=mc (dp ups i - (chn ups i).length)
      generalize Txt.mul (Str.ofString ")") ((dp ups i - (chn ups i).length:Nat):Int)=z at zc
      have zl:z.length≤60:=by rw [← cps_len,zc,List.length_replicate];omega
      have h2:upd H1 r (.lst (ps.map V.str++[.str z])) r=some (.lst ((ps++[z]).map V.str)):=by rw [upd_same,List.map_append];rfl
      have s2:Same H (upd H1 r (.lst (ps.map V.str++[.str z]))):=s01.write hr0
      generalize upd H1 r (.lst (ps.map V.str++[.str z]))=H2 at h2 s2
      refine ⟨_,rfl,.inl ⟨rfl,_,SqL.of h2⟩,_,rfl,r,_,_,rfl,rfl,h2,by rw [List.length_map,List.length_append];exact small1000 (by simp;omega),?_⟩
      exact ⟨_,rfl,fin z H2 zl s2 h2 (by rw [rl,zc])⟩
  · rintro σ H' ⟨o3,o4,o5,ps,rfl,sX,hX,lX,bX,tX⟩
    rw [sl] at tX lX ⊢
    have dpl:dp ups ups.length < 60:=by unfold dp;rw [if_neg (by omega)];exact cl _ (by omega)
    refine ⟨_,rfl,.inl ⟨rfl,_,SqL.of hX⟩,_,rfl,_,_,rfl,rfl,mo _ dpl,r,_,_,rfl,rfl,hX,by rw [List.length_map];exact small1000 (by omega),?_⟩
    have zc:=mc (dp ups ups.length)
    generalize Txt.mul (Str.ofString ")") (dp ups ups.length:Int)=z at zc
    have zl:z.length≤60:=by rw [← cps_len,zc,List.length_replicate];omega
    have h2:upd H' r (.lst (ps.map V.str++[.str z])) r=some (.lst ((ps++[z]).map V.str)):=by rw [upd_same,List.map_append];rfl
    have s2:Same H (upd H' r (.lst (ps.map V.str++[.str z]))):=sX.write hr0
    generalize upd H' r (.lst (ps.map V.str++[.str z]))=H2 at h2 s2
    have bs:∀ p∈ps++[z],p.length≤60:=fun p hp=>by
      rcases List.mem_append.mp hp with hp | hp
      · exact bX p hp
      · rw [List.mem_singleton.mp hp];exact zl
    have sm:=sum_le bs
    have lps:(ps++[z]).length=2 * ups.length+1:=by rw [List.length_append,lX];rfl
    refine ⟨rfl,_,rfl,_,r,ps++[z],rfl,rfl,SqL.of h2,?_,?_⟩
    · have e0:(Str.ofString "").length=0:=rfl
      rw [e0,Nat.mul_zero,Nat.add_zero]
      rw [lps] at sm
      omega
    · have et:Txt.join (Str.ofString "") (ps++[z])=mk (txt ups lab.cps.toList):=by
        apply str_ext
        rw [join_cps,mk_cps,← tX]
        show cat (ps++[z])=_
        rw [cat_snoc,zc]
        unfold rem dp
        rw [if_neg (by omega),if_neg (Nat.lt_irrefl _),if_neg (by omega)]
      rw [et]
      exact q H2 s2
abbrev FT (ups:List Int) (lab:List Nat) (k:Nat):List Nat:=W03.Ft ups.length (cn ups) (fun k=>lab.getD k 0) k
theorem sfx_len {ups:List Int} {lab:List Nat} (t:TreeOk ups lab):∀ (f k:Nat),ups.length - k≤f→k < ups.length→(W03.Sfx ups.length (cn ups) (fun k=>lab.getD k 0) k).length≤61 * (ups.length - k)
  | 0,k,h,hk=>by omega
  | f+1,k,h,hk=>by
    have m60:=t.most
    have d1:=(chn_mem t (k+1) k (by omega) hk).1
    rw [W03.Sfx_eq hk,List.length_cons,cn_len,cn_len]
    by_cases h1:k+1 < ups.length
    · rw [if_pos h1,List.length_append]
      have:=sfx_len t f (k+1) (by omega) h1
      have hb:(W03.br (chn ups k).length (chn ups (k+1)).length).length≤60:=by
        unfold W03.br
        split
        · show 1≤60;decide
        · rw [List.length_replicate];omega
      have e:ups.length - k=(ups.length - (k+1))+1:=by omega
      rw [e,Nat.mul_succ]
      omega
    · rw [if_neg h1,List.length_replicate]
      have e:ups.length - k=1:=by omega
      rw [e]
      omega
theorem ft_len {ups:List Int} {lab:List Nat} (t:TreeOk ups lab) (road:Road ups) {k:Nat} (hk:k < ups.length):(FT ups lab k).length≤3660:=by
  have m60:=t.most
  obtain ⟨e,_,_,_,_,b5⟩:=W03.main (l:=fun k=>lab.getD k 0) (pre_of t road) ups.length k (by omega) hk
  have:=sfx_len (lab:=lab) t ups.length k (by omega) hk
  rw [b5,List.length_append] at this
  have:61 * (ups.length - k)≤61 * 60:=Nat.mul_le_mul_left _ (by omega)
  show (W03.Ft ups.length (cn ups) (fun k=>lab.getD k 0) k).length≤3660
  omega
end
end S04
namespace L2
open PySem PySem.Spec PyProof.Rows
theorem ObjOk.obj {P:Program} {w:World} {H:Hp} {h:Heap} {a:Addr} {o:HO} (x:ObjOk P w H h a o):∃ u,h.get? a=some u:=by
  cases o with
  | lst xs=>obtain ⟨_,_,_,_,e⟩:=x;exact ⟨_,e⟩
  | tup xs=>obtain ⟨⟨_,o,e,_⟩,_⟩:=x;exact ⟨_,e⟩
  | dK kvs=>obtain ⟨_,_,_,_,o,_,_,e,_⟩:=x;exact ⟨_,e⟩
  | dT kvs=>obtain ⟨_,_,_,_,o,_,_,e,_⟩:=x;exact ⟨_,e⟩
  | set S n=>obtain ⟨o,_,_,_,e,_⟩:=x;exact ⟨_,e⟩
  | ins C dx fs=>obtain ⟨_,_,_,e,_⟩:=x;exact ⟨_,e⟩
  | own y=>exact x
  | xd fs=>obtain ⟨_,⟨_,_,_,e,_⟩,_⟩:=x;exact ⟨_,e⟩
  | rng lo hi=>obtain ⟨_,_,_,e⟩:=x;exact ⟨_,e⟩
  | frz ob u=>exact ⟨_,x.1⟩
  | tbl ps=>exact ⟨_,x⟩
  | met f y=>exact ⟨_,x⟩
  | ext φ=>exact x.2.1
def FlyS (l:List Env) (H₀:Hp) (h₀:Heap) (H':Hp) (a C:Addr) (h:Heap):Prop:=
  ∃ B a0,Heap.FlyingW B l a (.ref C) a0 h∧(∀ b o,h₀.get? b=some o→b ∉ frs l→∃ o',B.get? b=some o'∧(H₀ b=none→o'=o))∧∀ b u,H' b=some u→∃ o,B.get? b=some o
theorem hok_in {P:Program} {w:World} {H:Hp} {h h' B:Heap} (x:HOk P w H h) (hB:∀ b o,B.get? b=some o→h.get? b=some o) (hB':B.StaysIn h') (t:∀ b u,H b=some u→∃ o,B.get? b=some o):HOk P w H h':=fun a o e=>
  (x a o e).stay (fun b u hb q=>by
    have:∃ o,B.get? b=some o:=by
      rcases hb with rfl | hb
      · exact t _ _ e
      · exact t _ _ hb
    obtain ⟨o',e'⟩:=this
    have z:=hB _ _ e'
    rw [q] at z;cases z
    exact hB' _ _ e') (fun _ q=>q) fun _ _ q=>q
section
variable {P:Program} {w:World} {K:PySem.W.Frag} {mg:Str→Option Value} {base:Heap} {N:List Str} {qual:Str} {scope:Scope} {f:Addr} {cd:Value} {A:Around} {outer:List Env} {s:Shared} {H:Hp} {E:XK}
end
end L2
namespace L2
open PySem PySem.Spec PyProof.Rows
def excO (a C:Addr):HO:=.ext fun h=>∃ o vs,h.get? a=some o∧o.cls=.ref C∧o.data=.fields vs
def Up (X:Cx) (pins:List (Addr × Obj)) (σ:St) (a C:Addr) (H2:Hp) (s:Shared):Prop:=
  ∃ H1 s1,Inv X pins σ H1 s1∧s.os=s1.os∧AllBare s.gens∧Un (frs X.stack) [] H1 H2 s1.heap s.heap∧HOk X.prog X.w H2 s.heap∧FlyS X.stack H1 s1.heap H2 a C s.heap∧H2 a=none
section
variable {X:Cx} {pins:List (Addr × Obj)} {σ:St} {a C:Addr} {H1 H2:Hp} {s s1:Shared} {B h h':Heap} {a0:Value}
theorem excO_ok (H:Hp) (e:∃ o vs,h.get? a=some o∧o.cls=.ref C∧o.data=.fields vs):ObjOk X.prog X.w H h a (excO a C):=by
  refine ⟨e,?_,fun h1 h2 ⟨o,vs,x1,x2,x3⟩ k=>⟨o,vs,k _ x1,x2,x3⟩⟩
  obtain ⟨o,_,e,_⟩:=e
  exact ⟨o,e⟩
theorem Up.inv (U:Up X pins σ a C H2 s):Inv X pins σ (upd H2 a (excO a C)) s:=by
  obtain ⟨H1,s1,I,os,bare,un,hok,⟨B,a0,fl,k0,tr⟩,ha⟩:=U
  obtain ⟨oe,vs,e1,e2,e3,_⟩:=fl.first
  have na:∀ b o,s1.heap.get? b=some o→b≠a:=fun b o e z=>by
    subst z
    by_cases hb:b∈frs X.stack
    · obtain ⟨_,o',e',nf⟩:=fl.2.2.1.mem hb
      rw [e1] at e';cases e'
      exact nf vs e3
    · obtain ⟨o',e',_⟩:=k0 b o e hb
      rw [fl.2.1] at e';cases e'
  have up:∀ b u,H2 b=some u→upd H2 a (excO a C) b=some u:=fun b u e=>by rw [upd_ne (ne_of_none e ha)];exact e
  refine I.call' (ch:=[]) os ⟨un.keep,un.slot,fun b o e n hx=>?_,un.there,fun b xs e=>up _ _ (un.tups b xs e),fun b o u e=>up _ _ (un.frzs b o u e),fun b ps e=>?_⟩ (fun b o e=>?_) bare (fun _ z=>nomatch z)
  · rw [upd_ne (na b o e)];exact un.free b o e n hx
  · obtain ⟨more,e2⟩:=un.tbls b ps e
    exact ⟨more,up _ _ e2⟩
  · by_cases hb:b=a
    · subst hb
      rw [upd_same] at e;cases e
      exact excO_ok _ ⟨oe,vs,e1,e2,e3⟩
    · rw [upd_ne hb] at e
      exact (hok b o e).stay (fun _ _ _ q=>q) (fun c q=>up _ _ q) fun c xs q=>up _ _ q
theorem up_on (I:Inv X pins σ H1 s1) (os:s.os=s1.os) (bare:AllBare s.gens) (un:Un (frs X.stack) [] H1 H2 s1.heap s.heap) (hok:HOk X.prog X.w H2 s.heap) (hB:B.StaysIn s.heap) (ffs:s.heap.FunFrames B X.stack)
    (k0:∀ b o,s1.heap.get? b=some o→b ∉ frs X.stack→∃ o',B.get? b=some o'∧(H1 b=none→o'=o)) (tr:∀ b u,H2 b=some u→∃ o,B.get? b=some o) (ha:H2 a=none)
    (fl':Heap.FlyingW B X.stack a (.ref C) a0 h') (sm:s.heap.UpToSlots h'):Up X pins σ a C H2 { s with heap:=h' }:=by
  refine ⟨H1,s1,I,os,bare,⟨fun b o e n hb _=>?_,fun b o e n hb _=>?_,un.free,fun b o e _=>?_,un.tups,un.frzs,un.tbls⟩,hok_in hok hB fl'.1 tr,⟨B,a0,fl',k0,tr⟩,ha⟩
  · obtain ⟨o',e',k⟩:=k0 b o e hb
    rw [k n] at e'
    exact fl'.1 _ _ e'
  · obtain ⟨sl,e2⟩:=un.slot b o e n hb (by simp)
    obtain ⟨_,o',e',nf⟩:=ffs.mem hb
    rw [e2] at e';cases e'
    obtain ⟨sl3,e3⟩:=sm b _ e2 nf
    exact ⟨sl3,e3⟩
  · by_cases hb:b∈frs X.stack
    · obtain ⟨_,o',e',_⟩:=fl'.2.2.1.mem hb
      exact ⟨o',e'⟩
    · obtain ⟨o',e',_⟩:=k0 b o e hb
      exact ⟨o',fl'.1 _ _ e'⟩
theorem up_lands {M:Model} {A:Around} {E:Value→Shared→Prop} {Q:Unit→Shared→Prop} (U:Up X pins σ a C H2 s) (h:∀ h',Up X pins σ a C H2 { s with heap:=h' }→Q () { s with heap:=h' }) :
    wpAny M A (setFlight (.ref a) none) Q E s:=by
  obtain ⟨H1,s1,I,os,bare,un,hok,⟨B,a0,fl,k0,tr⟩,ha⟩:=U
  exact lands_againW fl fun h' fl' sm=>h h' (up_on I os bare un hok fl.1 fl.2.2.1 k0 tr ha fl' sm)
theorem up_looks {M:Model} {A:Around} {E:Value→Shared→Prop} {Q:Unit→Shared→Prop} (hA:A.frames=some X.stack) (hst:X.stack=X.env :: X.outer) (hf:X.env.frame=some X.env.locals) (U:Up X pins σ a C H2 s)
    (h:∀ h',Up X pins σ a C H2 { s with heap:=h' }→Q () { s with heap:=h' }) :
    wpAny M A (noteFrame (.ref a) X.env) (fun _ s2=>wpAny M A (setFlight (.ref a) none) Q E s2) E s:=by
  obtain ⟨H1,s1,I,os,bare,un,hok,⟨B,a0,fl,k0,tr⟩,ha⟩:=U
  have fl0:=fl
  rw [hst] at fl0 hA
  refine wpAny_looks_onW hA hf fl0 fun h1 hh sm=>?_
  refine wpAny_landsW hh fun h2 fl2 sm2=>?_
  rw [← hst] at fl2
  exact h h2 (up_on I os bare un hok fl.1 fl.2.2.1 k0 tr ha fl2 (sm.trans sm2))
abbrev Cx.caught (X:Cx) (a:Addr):Cx:={ X with A:=X.A.mark (some (.ref a)),calm:=false,xe:=fun _ _=>False }
theorem Inv.caught {H:Hp} (I:Inv X pins σ H s) (a:Addr):Inv (X.caught a) pins σ H s:=
  ⟨⟨I.ok.mod,I.ok.kind,I.ok.glob,I.ok.blt,I.ok.above,I.ok.inj,I.ok.has,I.ok.cab,(fun z=>nomatch z),I.ok.frames,I.ok.stk,I.ok.exf,I.ok.bs,I.ok.bsz,I.ok.noex,I.ok.exfs,I.ok.funs,I.ok.frf⟩,I.os,I.bare,I.base,I.loc,I.cell,I.free,I.freeC,I.pin,I.hok,I.len⟩
theorem Inv.uncaught {H:Hp} (ok:X.Ok) (I:Inv (X.caught a) pins σ H s):Inv X pins σ H s:=⟨ok,I.os,I.bare,I.base,I.loc,I.cell,I.free,I.freeC,I.pin,I.hok,I.len⟩
theorem Inv.goes {M:Model} {A:Around} {E:Value→Shared→Prop} {H:Hp} {i:Nat} {n:Str} {pos:Pos} {Q:Unit→Shared→Prop} (I:Inv X pins σ H s) (hN:X.N.Nodup) (hi:X.N[i]?=some n) (hl:X.env.kindOf n=some .local)
    (h:∀ s',Inv X pins (σ.set i none) H s'→Q () s'):wpAny M A (do bindName X.env n .none;unbindBehindTheSuite X.env n pos) Q E s:=by
  obtain ⟨m,hn,hl'⟩:=id I.loc
  have hcls:(X.env.scope.kind == .class || (X.env.scope.kind == .module && X.env.locals != X.env.globals))=false:=by rw [I.ok.kind];rfl
  have hiσ:i < σ.length:=by rw [I.len];exact (List.getElem?_eq_some_iff.mp hi).1
  refine wpAny_nameGoes_keeps hl hn hcls fun h' v hn' hs=>?_
  obtain ⟨oL,_,_,hoL,_⟩:=id hn
  refine h _ ⟨I.ok,I.os,I.bare,⟨fun b o e n hb hx=>?_,fun b o e n hb hx=>?_,I.base.free,fun b o e hx=>?_,I.base.tups,I.base.frzs,I.base.tbls⟩,⟨_,hn',fun j y v' e1 e2 e3=>?_⟩,fun y c e=>?_,I.free,I.freeC,fun p hp=>?_,fun b ob e=>?_,by simpa using I.len⟩
  · exact (hs.2 b (Nat.ne_of_lt (Nat.lt_of_lt_of_le (Heap.lt_size e) I.ok.above))).trans (I.base.keep b o e n hb hx)
  · obtain ⟨sl,e1⟩:=I.base.slot b o e n hb hx
    exact ⟨sl,(hs.2 b (Nat.ne_of_lt (Nat.lt_of_lt_of_le (Heap.lt_size e) I.ok.above))).trans e1⟩
  · obtain ⟨o',e1⟩:=I.base.there b o e hx
    exact ⟨o',(hs.2 b (Nat.ne_of_lt (Nat.lt_of_lt_of_le (Heap.lt_size e) I.ok.above))).trans e1⟩
  · by_cases hj:j=i
    · subst hj
      rw [List.getElem?_set_self hiσ] at e2
      cases e2
    · rw [List.getElem?_set_ne (Ne.symm hj)] at e2
      obtain ⟨u',r',q⟩:=hl' j y v' e1 e2 e3
      refine ⟨u',r',?_⟩
      rcases q with ⟨k,e⟩ | ⟨k,c,e,z⟩
      · refine .inl ⟨k,?_⟩
        have:y≠n:=fun e=>hj (nodup_ix hN e1 (e ▸ hi))
        simp [this,e]
      · exact .inr ⟨k,c,e,z.sameBut hs (I.cne y c e)⟩
  · obtain ⟨w',z⟩:=I.cell y c e
    exact ⟨w',z.sameBut hs (I.cne y c e)⟩
  · obtain ⟨e,n,ne,nf,d⟩:=I.pin p hp
    exact ⟨(hs.2 p.1 ne).trans e,n,ne,nf,d⟩
  · refine (I.hok b ob e).stay (fun c w' hc q=>(hs.2 c ?_).trans q) (fun _ q=>q) fun _ _ q=>q
    rintro rfl
    rcases hc with rfl | hc
    · rw [I.free] at e;cases e
    · rw [I.free] at hc;cases hc
end
def Ends.goes (D:Ends) (i:Nat):Ends:=⟨fun σ H=>D.nx (σ.set i none) H,D.rt,fun σ H=>D.bk (σ.set i none) H,fun σ H=>D.ct (σ.set i none) H⟩
section
variable {X:Cx} {x n:Str} {i:Nat} {np pos:Pos} {b₀:Stmt} {suite:List Stmt} {rest:List ExceptHandler} {Cl:Addr} {th:Addr→TS} {tr:Addr→Addr→TS}
theorem typ_of {M:Model} {H:Hp} {h:Heap} {a C:Addr} (e:ObjOk X.prog X.w H h a (excO a C)):PySem.W.Looks M h (typeOf (.ref a)) (.ref C):=by
  obtain ⟨⟨o,vs,e1,e2,_⟩,_⟩:=e
  rw [← e2]
  exact (PySem.W.Looks.ld e1).andThen .now
end
def PassesAt (CX:CXT) (X:Cx) (E:XK) (σ:St):Prop:=∀ (pins:List (Addr × Obj)) (H:Hp) (s:Shared) (e:Value) (s':Shared),Inv X pins σ H s→CX X.stack H s E e s'→X.xe e s'
abbrev Cx.tries (X:Cx) (pn:List (Addr × Obj)) (xe:Value→Shared→Prop):Cx:={ X with pn:=pn,xe:=xe }
end L2
namespace L2
open PySem PySem.Spec PyProof.Rows PySem.W PySem.Calls PySem.Builtin PySem.Builtin.ObjectAttr PySem.Builtin.Getset_descriptor
structure ExK (K:Frag) (C:Addr):Prop where
  ga:findIn K (.ref C) "__getattribute__" = some (some (.builtin "BaseException.__getattribute__"))
  gn:findIn K (.ref C) "__getattr__" = some none
  cl:findIn K (.ref C) "__class__" = some (some (.builtin "object.__class__"))
  gt:specialIn K (.builtin "object.__class__") "__get__" = some (some (.builtin "getset_descriptor.__get__"))
  tk:takesIn K (.builtin "object.__class__")=some true
  ob:mroIn K C (.type "object")=some true
  be:mroIn K C (.type "BaseException")=some true
  cd:(clsIn K C).isSome=true
section
variable {prog:Program} {w:World} {A:Around} {E:Value→Shared→Prop} {s:Shared} {K:Frag} {x C:Addr} {R:Result→Shared→Prop}
theorem exc_class_get {tp:Value} (X:K.In s.heap) (L0:Looks (model prog w) s.heap (typeOf (.ref x)) (.ref C)) (L1:Looks (model prog w) s.heap (isSubtype (.ref C) (.type "object")) true)
    (h:R (.ok (.ret (.ref C))) s):codeAny (model prog w) A (.call (.builtin "getset_descriptor.__get__") ⟨[.builtin "object.__class__", .ref x,tp],[]⟩) R s:=by
  obtain ⟨hh,g,dr,t,os⟩:=s
  refine codeAny_call_builtin KF.slot_gs.plain KF.entry_gs (KF.slot_gs.check _ _ _ _ _ _ _ _ KF.type_class (KF.args_gs _ _ _) ?_)
  unfold Builtin.«getset_descriptor.__get__» descrGet
  rw [dga_obj]
  refine wpAny_bind (wpAny_pure ?_)
  unfold descrGetter descrCheckInstance descrNameAndClass isInstance
  simp only [KF.owner_class]
  repeat lk
  refine ⟨Code.quiet_builtin _ (by decide +kernel),codeAny_builtin KF.entry_class ?_⟩
  unfold Builtin.«object.__class__» shownTypeOf
  repeat lk
  exact h
theorem exc_find {M:Model} {h:Heap} (X:K.In h) (Z:ExK K C):Looks M h (find (.ref x) (.ref C) "__class__") (.bind (.builtin "getset_descriptor.__get__") (.builtin "object.__class__")):=by
  have L1:=looks_findIn (M:=M) X Z.cl
  have L2:Looks M h (getOf (some (.builtin "object.__class__"))) (some (.builtin "getset_descriptor.__get__")):=looks_specialIn X Z.gt
  have L3:=looks_takesIn (M:=M) X Z.tk
  refine L1.andThen (L2.andThen ?_)
  exact (show Looks M h (dataDescriptor? (some (.builtin "object.__class__")) (some (.builtin "getset_descriptor.__get__"))) (some (.builtin "getset_descriptor.__get__", .builtin "object.__class__")) from L3.andThen .now).andThen (Looks.tag .now)
theorem exc_entry {tk:Tok} {Q:Fin→Shared→Prop} (X:K.In s.heap) (Z:ExK K C) (L0:Looks (model prog w) s.heap (typeOf (.ref x)) (.ref C)) (h:Q (.done (.ret (.ref C))) s) :
    wpAny (model prog w) A (Builtin.«object.__getattribute__» ⟨[.ref x,.str "__class__" tk],[]⟩) Q E s:=by
  have L1:=looks_mroIn (M:=model prog w) X Z.ob
  have L2:=exc_find (M:=model prog w) (x:=x) X Z
  obtain ⟨hh,g,dr,t,os⟩:=s
  unfold Builtin.«object.__getattribute__»
  repeat (any_goals (first | assumption | (refine wpAny_bind (L0.at ?_)) | (refine wpAny_bind (L2.at ?_)) | wp_step))
  refine exc_class_get X L0 L1 ?_
  repeat (any_goals (first | assumption | wp_step))
theorem exc_kind:builtinKind "BaseException.__getattribute__" = some .slot:=by decide +kernel
theorem exc_split:splitId "BaseException.__getattribute__" = some ("BaseException", "__getattribute__"):=by decide +kernel
theorem exc_check {M:Model} {nameV:Value} {Q:Unit→Shared→Prop} (LI:Looks M s.heap (isInstance (.ref x) (.type "BaseException")) true) (h:Q () s) :
    wpAny M A (checkBuiltinCall "BaseException.__getattribute__" ⟨[.ref x,nameV],[]⟩) Q E s:=
  check_slot (i := "BaseException.__getattribute__") (owner := "BaseException") (n := "__getattribute__") (self:=.ref x) (rest:=[nameV]) (kw:=[]) exc_kind exc_split LI (F.args_bexc_ga (.ref x) nameV) h
theorem exc_call {tk:Tok} (X:K.In s.heap) (Z:ExK K C) (L0:Looks (model prog w) s.heap (typeOf (.ref x)) (.ref C)) (h:R (.ok (.ret (.ref C))) s) :
    codeAny (model prog w) A (.call (.builtin "BaseException.__getattribute__") ⟨[.ref x,.str "__class__" tk],[]⟩) R s:=
  codeAny_call_builtin F.attrBase_ValueError.ga.plain F.entry_bexc_ga (exc_check (L0.andThen (looks_mroIn (M:=model prog w) X Z.be)) (exc_entry X Z L0 h))
theorem exc_by {hh:Heap} {g:Array GenState} {dr:Drawn} {t:Nat} {os:OsState} {tk:Tok} {fill expr:Bool} {Q:Value→Shared→Prop} (X:K.In hh) (Z:ExK K C) (L0:Looks (model prog w) hh (typeOf (.ref x)) (.ref C)) (h:Q (.ref C) ⟨hh,g,dr,t,os⟩) :
    wpAny (model prog w) A (getAttrBy (.ref x) (.str "__class__" tk) fill expr) Q E ⟨hh,g,dr,t,os⟩:=by
  have f3:=F.attrBase_ValueError.ga.bind (.ref x)
  have hx0:(expr && onTheHeap (Value.builtin "BaseException.__getattribute__"))=false:=by cases expr <;> rfl
  have hx2:(Value.builtin "BaseException.__getattribute__" == Value.builtin "object.__getattribute__")=false:=by decide +kernel
  have hx1:(onTheHeap (Value.ref C) && Value.builtin "BaseException.__getattribute__" == Value.builtin "object.__getattribute__")=false:=by rw [hx2];rfl
  have L1:=looks_findIn (M:=model prog w) X Z.ga
  have L2:=looks_findIn (M:=model prog w) X Z.gn
  repeat (any_goals (first | assumption | (refine wpAny_bind (L0.at ?_)) | (refine wpAny_bind (L1.at ?_)) | (refine wpAny_bind (L2.at ?_)) | wp_step))
  refine exc_call X Z L0 ?_
  repeat (any_goals (first | assumption | wp_step))
theorem exc_class {hh:Heap} {g:Array GenState} {dr:Drawn} {t:Nat} {os:OsState} {Q:Option Value→Shared→Prop} (X:K.In hh) (Z:ExK K C) (L0:Looks (model prog w) hh (typeOf (.ref x)) (.ref C)) (h:Q (some (.ref C)) ⟨hh,g,dr,t+1,os⟩) :
    wpAny (model prog w) A (getAttr? (.ref x) "__class__") Q E ⟨hh,g,dr,t,os⟩:=by
  unfold getAttr? getAttrBy?
  repeat (any_goals (first | assumption | (with_reducible apply exc_by X Z L0) | wp_step))
end
end L2
namespace L2
open PySem PySem.Spec PyProof.Rows PySem.W
theorem kitx_exc {K:Frag} {a C:Addr} (Z:ExK K C):KitX K (.ref a) (.ref C) (fun h=>∃ o vs,h.get? a=some o∧o.cls=.ref C∧o.data=.fields vs) where
  ty:=fun M h _ ⟨o,vs,e1,e2,_⟩=>e2 ▸ (Looks.ld e1).andThen .now
  it:=fun M h X _=>by
    obtain ⟨cd,hcD⟩:=Option.isSome_iff_exists.mp Z.cd
    unfold clsIn at hcD
    split at hcD
    · rename_i c' d' cd' sl' ho
      intro A' Q' E' s' k q
      unfold isType loadHead
      exact wpAny_bind (wpAny_loadPart (k _ _ (X _ _ ho)) (wpAny_pure q))
    · cases hcD
  ne:=fun h tp dd its n sl X htp=>by
    obtain ⟨cd,hcD⟩:=Option.isSome_iff_exists.mp Z.cd
    refine Bool.eq_false_iff.mpr fun q=>?_
    have e:C=tp:=Value.ref.inj (beq_iff_eq.mp q)
    subst e
    unfold clsIn at hcD
    split at hcD
    · rename_i c' d' cd' sl' ho
      have z:=(X _ _ ho).symm.trans htp
      cases z
    · cases hcD
  ca:=fun {prog w A E Q s} X I k=>by
    obtain ⟨hh,g,d,t,os⟩:=s
    obtain ⟨o,vs,e1,e2,_⟩:=I
    exact exc_class (C:=C) X Z (e2 ▸ (Looks.ld e1).andThen .now) k
section
variable {X:Cx}
theorem vals_ref:∀ {Ds:List Addr} {its:List Value},Vals (Ds.map V.ref) its→its=Ds.map Value.ref
  | [],_,.nil=>rfl
  | D :: Ds,_ :: _,.cons r h=>by rw [vals_ref h];cases (show _=Value.ref D from r);rfl
end
abbrev bmV:List Value:=[.type "ValueError", .type "Exception", .type "BaseException", .type "object"]
section
variable {P:Program} {w:World} {K:Frag} {mg:Str→Option Value} {base:Heap}
end
section
variable {X:Cx} {x:Str} {k:Nat} {ps:List Str} {sp:Sp} {p pos:Pos} {e:Expr} {es:List Expr} {t:TA} {E:XK} {σ0:St}
end
end L2
namespace L2
open PySem PySem.Spec PyProof.Rows PySem.W
def DictAt (h:Heap) (a dx:Addr):Prop:=∃ o,h.get? a=some o∧o.dict=some dx
def DKeep (h h':Heap):Prop:=∀ a dx,DictAt h a dx→DictAt h' a dx
def DKt {α:Type}:Sem α→Prop
  | .pure _=>True
  | .raise _=>True
  | .unsupported _=>True
  | .finish _=>True
  | .rule _ k=>DKt (k ())
  | .at _ k=>DKt (k ())
  | .load _ _ k=>∀ o,DKt (k o)
  | .update _ _ f k=>(∀ o,(f o).dict=o.dict∧(o.isFreed=false→(f o).isFreed=false))∧DKt (k ())
  | .alloc _ k=>∀ a,DKt (k a)
  | .loadIfAlive _ k=>∀ o,DKt (k o)
  | .point _ k=>DKt (k ())
  | .stack k=>∀ l,DKt (k l)
  | .ask k=>∀ x,DKt (k x)
  | .fresh k=>∀ x,DKt (k x)
  | .handled _ k=>∀ x,DKt (k x)
  | .register _ _=>True
  | .fork _ _=>True
  | .yield _ _ _ _=>True
  | .await _ _ _ _ _=>True
  | _=>False
theorem DKt.bind {α β:Type} {f:α→Sem β} (hf:∀ a,DKt (f a)):∀ {m:Sem α},DKt m→DKt (m >>= f):=by
  intro m
  show DKt m→DKt (m.bind f)
  induction m with
  | pure a=>exact fun _=>hf a
  | rule t k ih=>exact fun h=>ih () h
  | «at» t k ih=>exact fun h=>ih () h
  | point t k ih=>exact fun h=>ih () h
  | load t p k ih=>exact fun h o=>ih o (h o)
  | alloc t k ih=>exact fun h o=>ih o (h o)
  | loadIfAlive t k ih=>exact fun h o=>ih o (h o)
  | stack k ih=>exact fun h o=>ih o (h o)
  | ask k ih=>exact fun h o=>ih o (h o)
  | fresh k ih=>exact fun h o=>ih o (h o)
  | handled t k ih=>exact fun h o=>ih o (h o)
  | update a p g k ih=>exact fun h=>⟨h.1,ih () h.2⟩
  | choose _ _ _ _=>exact fun h=>h.elim
  | os _ _ _ _=>exact fun h=>h.elim
  | call _ _ _ _ _ _=>exact fun h=>h.elim
  | newGen _ _ _=>exact fun h=>h.elim
  | genState _ _ _=>exact fun h=>h.elim
  | resume _ _ _ _ _=>exact fun h=>h.elim
  | thread _ _=>exact fun h=>h.elim
  | _=>exact fun _=>trivial
theorem dk_update {h:Heap} {a:Addr} {f:Obj→Obj} (hf:∀ o,(f o).dict=o.dict∧(o.isFreed=false→(f o).isFreed=false)):DKeep h (h.update a f):=by
  rintro b dx ⟨o,e,d⟩
  by_cases hb:a=b
  · subst hb
    exact ⟨f o,Heap.get?_update_self f e ((hf o).2 (Heap.get?_some_iff.mp e).2),(hf o).1.trans d⟩
  · exact ⟨o,(Heap.get?_update_other _ _ hb).trans e,d⟩
theorem wp_dk {α:Type} {M:Model} {Γ:PySem.Ctx} {Q:α→Pos→Shared→Prop} {E:Value→Pos→Shared→Prop} {h0:Heap}:∀ {t:Sem α} {p:Pos} {s:Shared},DKt t→DKeep h0 s.heap→Sem.wp M Γ t Q E p s→Sem.wp M Γ t (fun a p s'=>Q a p s'∧DKeep h0 s'.heap) E p s:=by
  intro t
  induction t with
  | pure a=>exact fun _ k h=>⟨h,k⟩
  | raise v=>exact fun _ _ h=>h
  | rule _ k ih=>exact fun d kk h=>ih _ d kk h
  | «at» _ k ih=>exact fun d kk h=>ih _ d kk h
  | point _ k ih=>exact fun d kk h=>ih _ d kk h
  | load a _ k ih=>exact fun d kk ⟨o,ho,h⟩=>⟨o,ho,ih _ (d o) kk h⟩
  | update a _ f k ih=>exact fun d kk ⟨ha,h⟩=>⟨ha,ih _ d.2 (fun b dx z=>dk_update d.1 b dx (kk b dx z)) h⟩
  | alloc o k ih=>exact fun d kk h=>ih _ (d _) (fun b dx z=>by
      obtain ⟨o',e,q⟩:=kk b dx z
      exact ⟨o',Heap.get?_push_of_some _ e,q⟩) h
  | loadIfAlive _ k ih=>exact fun d kk h=>ih _ (d _) kk h
  | stack k ih=>exact fun d kk h=>ih _ (d _) kk h
  | ask k ih=>exact fun d kk h=>ih _ (d _) kk h
  | fresh k ih=>exact fun d kk h=>ih _ (d _) kk h
  | handled _ k ih=>exact fun d kk h=>ih _ (d _) kk h
  | choose _ _ _ _=>exact fun d=>d.elim
  | os _ _ _ _=>exact fun d=>d.elim
  | call _ _ _ _ _ _=>exact fun d=>d.elim
  | newGen _ _ _=>exact fun d=>d.elim
  | genState _ _ _=>exact fun d=>d.elim
  | resume _ _ _ _ _=>exact fun d=>d.elim
  | thread _ _=>exact fun d=>d.elim
  | _=>exact fun _ _ h=>h.elim
theorem wpAny_dk {α:Type} {M:Model} {A:Around} {t:Sem α} {Q:α→Shared→Prop} {E:Value→Shared→Prop} {s:Shared} (d:DKt t) (h:wpAny M A t Q E s):wpAny M A t (fun a s'=>Q a s'∧DKeep s.heap s'.heap) E s:=
  fun Γ p hΓ=>wp_dk d (fun _ _ z=>z) (h Γ p hΓ)
theorem dk_map (g:Array Value→Array Value) (o:Obj):(Obj.mapFields g o).dict=o.dict∧(o.isFreed=false→(Obj.mapFields g o).isFreed=false):=by
  obtain ⟨c,d,dt,sl⟩:=o
  cases dt <;> exact ⟨rfl,fun h=>h⟩
theorem dk_fieldsOf (v:Value):DKt (fieldsOf v):=by
  unfold fieldsOf
  cases v with
  | ref a=>
    refine DKt.bind (m:=PySem.load a) (fun o=>?_) fun o=>trivial
    obtain ⟨c,d,dt,sl⟩:=o
    cases dt <;> exact trivial
  | _=>exact trivial
theorem dk_field (v:Value) (i:Nat):DKt (field v i):=by
  unfold field
  refine DKt.bind (fun o=>?_) (dk_fieldsOf v)
  split <;> exact trivial
theorem dk_setField (v:Value) (i:Nat) (x:Value):DKt (setField v i x):=by
  unfold setField
  cases v with
  | ref a=>
    refine DKt.bind (m:=PySem.load a) (fun o=>?_) fun o=>trivial
    obtain ⟨c,d,dt,sl⟩:=o
    cases dt with
    | fields vs=>
      dsimp only
      split
      · exact ⟨fun o=>dk_map _ o,trivial⟩
      · exact trivial
    | _=>exact trivial
  | _=>exact trivial
theorem dk_setFlight (v:Value) (fr:Option Addr):DKt (setFlight v fr):=by
  unfold setFlight
  refine DKt.bind (fun tb=>?_) (dk_field v 1)
  split
  · exact dk_setField _ _ _
  · exact trivial
theorem dk_kept (env:Env) (i:Bool) (l:List Env):DKt (keptBack env i l):=by
  unfold keptBack underTheClaimsCaller
  cases l with
  | nil=>
    dsimp only
    split
    · exact trivial
    · refine DKt.bind (fun b=>?_) ?_
      · exact trivial
      · exact fun l=>trivial
  | cons c r=>exact trivial
theorem dk_behind (env:Env) (l:List Env):DKt (behindIsImport env l):=by
  unfold behindIsImport
  split
  · exact trivial
  · split
    · exact trivial
    · refine DKt.bind (fun x=>?_) (dk_field _ _)
      exact trivial
theorem dk_ready:∀ l:List Env,DKt (readyFrames l)
  | []=>trivial
  | env :: outer=>by
    unfold readyFrames
    split
    · rename_i f _
      refine DKt.bind (m:=PySem.load f) (fun o=>?_) fun o=>trivial
      split
      · exact trivial
      · refine DKt.bind (fun i=>?_) (dk_behind env outer)
        refine DKt.bind (fun i=>?_) (dk_kept env i outer)
        refine DKt.bind (m:=PySem.update f _) (fun _=>?_) ⟨fun o=>⟨rfl,fun h=>by
          obtain ⟨c,d,dt,sl⟩:=o
          cases dt <;> exact h⟩,trivial⟩
        exact dk_ready outer
    · exact trivial
theorem dk_frameOf (env:Env):DKt (PySem.frameOf env):=by
  unfold PySem.frameOf frameObject
  refine DKt.bind (fun es=>?_) (fun l=>trivial)
  refine DKt.bind (fun r=>?_) ?_
  · split <;> exact trivial
  · cases List.dropWhile (fun x=>x.frame != env.frame) es with
    | nil=>exact trivial
    | cons a l=>
      refine DKt.bind (fun x=>?_) (dk_ready (a :: l))
      exact trivial
theorem dk_newFields (n:String) (vs:List Value):DKt (newFields n vs):=by
  unfold newFields newObj
  dsimp only
  split
  · exact trivial
  · exact fun a=>trivial
theorem dk_place (f:Addr) (b:Bool):DKt (entryPlaceOf f b):=by
  unfold entryPlaceOf
  refine DKt.bind (fun l=>?_) (fun l=>trivial)
  split <;> exact trivial
theorem dk_entry (v:Value) (env:Env) (head:Value) (f:Addr) (b:Bool):DKt (do setField v 1 (← EntryCells.newEntry head (← PySem.frameOf env) .none (rawInt f) .none (← entryPlaceOf f b))):=by
  refine DKt.bind (fun fr=>?_) (dk_frameOf env)
  refine DKt.bind (fun pl=>?_) (dk_place f b)
  refine DKt.bind (fun en=>?_) (dk_newFields _ _)
  exact dk_setField _ _ _
theorem dk_noteFrame (v:Value) (env:Env):DKt (noteFrame v env):=by
  unfold noteFrame
  split
  · rename_i f _
    refine DKt.bind (fun head=>?_) (dk_field v 1)
    split
    · refine DKt.bind (fun h3=>?_) (dk_field _ 3)
      split
      · exact trivial
      · refine DKt.bind (fun _=>?_) (dk_setField _ _ _)
        exact dk_entry v env head f _
    · exact dk_entry v env head f _
  · exact trivial
theorem dk_leaving (v:Value) (env:Env):DKt (leaving env v):=by
  unfold leaving
  exact DKt.bind (fun _=>dk_setFlight v none) (dk_noteFrame v env)
end L2
namespace L2
open PySem PySem.Spec PyProof.Rows PySem.W PySem.Calls PySem.Builtin PySem.Builtin.ObjectAttr
def excM (a C:Addr):HO:=.ext fun h=>∃ t,h.get? a=some ⟨.ref C,none,.fields #[.ref t,.none,.none,.none,.bool false,.none],#[]⟩
def excS (a C dx:Addr):HO:=.ext fun h=>∃ t,h.get? a=some ⟨.ref C,some dx,.fields #[.ref t,.none,.none,.none,.bool false,.none],#[]⟩
def excD (a C dx:Addr):HO:=.ext fun h=>∃ o vs,h.get? a=some o∧o.cls=.ref C∧o.data=.fields vs∧o.dict=some dx
def onlyErr (bmB:List Value):List Value→Bool
  | []=>false
  | v :: r=>(v :: r) == bmB || match v with
    | .ref _=>onlyErr bmB r
    | _=>false
theorem refuse_err (self:Value):∀ {l:List Value},onlyErr bmV l=true→refuseLoop self "__setattr__" l=pure ()
  | v :: r,e=>by
    unfold onlyErr at e
    rcases Bool.or_eq_true_iff.mp e with q | q
    · rw [beq_iff_eq.mp q];exact F.store_ValueError.passes self
    · cases v with
      | ref c=>rw [refuseLoop_ref];exact refuse_err self q
      | _=>cases q
theorem err_has {T:String} (hT:bmV.contains (.type T)=true):∀ {l:List Value},onlyErr bmV l=true→l.contains (.type T)=true
  | v :: r,e=>by
    unfold onlyErr at e
    rcases Bool.or_eq_true_iff.mp e with q | q
    · rw [beq_iff_eq.mp q];exact hT
    · cases v with
      | ref c=>rw [List.contains_cons,err_has hT q,Bool.or_true]
      | _=>cases q
structure ExSt (K:Frag) (C:Addr):Prop where
  sa:findIn K (.ref C) "__setattr__" = some (some (.builtin "object.__setattr__"))
  ml:((clsIn K C).any fun cd=>onlyErr bmV cd.mro)=true
  hd:hasDictIn K C=true
section
variable {prog:Program} {w:World} {A:Around} {E:Value→Shared→Prop} {s:Shared} {K:Frag} {x C:Addr} {name:Str} {v:Value} {t:Addr}
theorem set_exc {Q:Unit→Shared→Prop} (X:K.In s.heap) (Z:ExSt K C) (no:findIn K (.ref C) name=some none) (hx:s.heap.get? x=some ⟨.ref C,none,.fields #[.ref t,.none,.none,.none,.bool false,.none],#[]⟩)
    (h:∀ h' mA,h'.get? x=some ⟨.ref C,some s.heap.objs.size,.fields #[.ref t,.none,.none,.none,.bool false,.none],#[]⟩→h'.Ns1 s.heap.objs.size mA→(∀ y,mA y=if y=name then some v else none) →
      (∀ b o,b≠x→s.heap.get? b=some o→h'.get? b=some o)→Q () { s with heap:=h',toks:=s.toks+2 }) :
    wpAny (model prog w) A (setAttr (.ref x) name v) Q E s:=by
  have I:InstAt s.heap x ⟨.ref C,none,.fields #[.ref t,.none,.none,.none,.bool false,.none],#[]⟩ C none:=⟨hx,rfl,rfl,trivial⟩
  refine set_plain X I Z.sa ?_
  obtain ⟨cd,hc,ho⟩:=any_some Z.ml
  obtain ⟨cd2,hc2,hd2⟩:=any_some Z.hd
  obtain rfl:cd=cd2:=Option.some.inj (hc.symm.trans hc2)
  have ne:cd.mro.isEmpty=false:=by
    cases q:cd.mro with
    | nil=>rw [q] at ho;cases ho
    | cons _ _=>rfl
  have sub:Looks (model prog w) s.heap (isInstance (.ref x) (.type "object")) true:=
    I.type.andThen (looks_mroIn X (by unfold mroIn;rw [hc,Option.bind_some,if_neg (by rw [ne];decide),err_has (by decide) ho]))
  have SF:=F.store_object
  refine codeAny_call_builtin SF.slot.plain SF.entry (@check_slot (model prog w) _ _ _ "object.__setattr__" "object" "__setattr__" (.ref x) [.str name _,v] [] _ SF.kind SF.split sub (SF.args (.ref x) (.str name _) v) ?_)
  have hm:Looks (model prog w) s.heap (mroOf (.ref C)) cd.mro:=(looks_clsIn X hc).andThen .now
  rw [osa_eq,refuse_eq]
  refine wpAny_bind (wpAny_bind (Looks.here (s:={ s with toks:=s.toks+1 }) I.type (wpAny_bind (Looks.here (s:={ s with toks:=s.toks+1 }) hm ?_))))
  rw [refuse_err _ ho]
  refine wpAny_pure (wpAny_bind (Looks.here (s:={ s with toks:=s.toks+1 }) I.type (wpAny_bind (Looks.here (s:={ s with toks:=s.toks+1 }) (looks_findIn X no) ?_))))
  refine wpAny_bind (wpAny_pure ?_)
  have hxs:x≠s.heap.objs.size:=Nat.ne_of_lt (Heap.lt_size hx)
  have hx₁:(s.heap.push ⟨.type "dict", none,.dict #[],#[]⟩).get? x=some ⟨.ref C,none,.fields #[.ref t,.none,.none,.none,.bool false,.none],#[]⟩:=Heap.get?_push_of_some _ hx
  refine wpAny_bind (wpAny_pure (wpAny_bind (wpAny_bind (wpAny_loadPart (s:={ s with toks:=s.toks+1 }) hx (wpAny_bind (Looks.here (s:={ s with toks:=s.toks+1 }) (looks_clsIn X hc) ?_))))))
  rw [hd2]
  refine wpAny_bind (wpAny_alloc' ?_)
  refine wpAny_bind (wpAny_update' hx₁ ?_)
  refine wpAny_pure ?_
  have e1:=Heap.get?_push_size s.heap (o:=⟨.type "dict", none,.dict #[],#[]⟩) rfl
  generalize hh1:s.heap.push ⟨.type "dict", none,.dict #[],#[]⟩=h1 at hx₁ e1 ⊢
  generalize hh2:h1.update x (fun o=>{ cls:=o.cls,dict:=some s.heap.objs.size,data:=o.data,slots:=o.slots })=h2
  have e2:h2.get? s.heap.objs.size=some ⟨.type "dict", none,.dict #[],#[]⟩:=by rw [← hh2,Heap.get?_update_other _ _ hxs];exact e1
  have x2:h2.get? x=some ⟨.ref C,some s.heap.objs.size,.fields #[.ref t,.none,.none,.none,.bool false,.none],#[]⟩:=by rw [← hh2];exact Heap.get?_update_self _ hx₁ rfl
  have nsE:h2.Ns s.heap.objs.size (fun _=>none):=⟨_,#[],_,e2,rfl,fun e he=>absurd he (by simp),fun _=>rfl⟩
  refine wpAny_bind (wpAny_pure (wpAny_bind ?_))
  refine wpAny_nsSet1 (Heap.Ns1.of_empty nsE) fun h' hn hs=>?_
  obtain ⟨oD,esD,epD,hoD,hdD,hcD⟩:=hn.count (Within.cons name v Within.nil)
  refine wpAny_bind (wpAny_lookBehind hoD (by rw [hdD];exact pastItsLine_dict (Nat.le_trans hcD (by rw [List.length_cons,List.length_nil,sizeLine_eq];omega))) ?_)
  refine wpAny_pure ?_
  refine h h' _ ((hs.2 x hxs).trans x2) hn (fun y=>rfl) fun b o hb e=>?_
  refine (hs.2 b (Nat.ne_of_lt (Heap.lt_size e))).trans ?_
  rw [← hh2,Heap.get?_update_other _ _ (Ne.symm hb),← hh1]
  exact Heap.get?_push_of_some _ e
end
theorem HOk.swap {P:Program} {w:World} {H:Hp} {h h':Heap} {a dx:Addr} {oa od:HO} (x:HOk P w H h) (nd:H dx=none) (ta:∀ xs,H a≠some (.tup xs)) (oa':∀ b,H a≠some (.own b)) (ne:dx≠a)
    (k:∀ b o,b≠a→h.get? b=some o→h'.get? b=some o) (ha:ObjOk P w (upd (upd H dx od) a oa) h' a oa) (hd:ObjOk P w (upd (upd H dx od) a oa) h' dx od):HOk P w (upd (upd H dx od) a oa) h':=by
  intro b o e
  by_cases hb:b=a
  · subst hb;rw [upd_same] at e;cases e;exact ha
  · rw [upd_ne hb] at e
    by_cases hb2:b=dx
    · subst hb2;rw [upd_same] at e;cases e;exact hd
    · rw [upd_ne hb2] at e
      have up:∀ c u,c≠a→H c=some u→upd (upd H dx od) a oa c=some u:=fun c u n z=>by
        rw [upd_ne n,upd_ne (fun q=>by rw [q,nd] at z;cases z)];exact z
      refine (x b o e).stay (fun c u hc q=>?_) (fun c q=>?_) fun c xs q=>?_
      · refine k c u (fun z=>?_) q
        subst z
        rcases hc with z | z
        · exact hb z.symm
        · exact oa' b z
      · exact up c _ (fun z=>by rw [z] at q;exact oa' b q) q
      · exact up c _ (fun z=>by rw [z] at q;exact ta xs q) q
def tFldX (K:Frag) (ta tv:TE) (f:Str):TS:=fun D σ H=>tv σ H fun y H1=>ta σ H1 fun x H2=>∃ a C,x=.ref a∧H2 a=some (excM a C)∧ExSt K C∧findIn K (.ref C) f=some none ∧
  ∀ dx,H2 dx=none→dx≠a→D.nx σ (upd (upd H2 dx (.xd [(f,y)])) a (excS a C dx))
section
variable {X:Cx} {o value:Expr} {f:Str} {pos pos':Pos} {ta tv:TE}
theorem ps_fldX (ha:PE X o ta) (hv:PE X value tv) (hs:swapsWith value (some (.Attribute o f pos')) pos.line X.env=pure false):PS X (.Assign [.Attribute o f pos'] value pos) (tFldX X.K ta tv f):=by
  intro pins s σ H D I h
  refine plainObj_wpAny_Assign_Attribute (thn (hv pins s σ H _ I h) fun u s1 ⟨y,H1,I1,ry,q⟩=>thn (ha pins s1 σ H1 _ I1 q) fun ov s2 ⟨x,H2,I2,rx,a,C,ex,ea,Z,no,q2⟩=>?_) hs
  subst ex
  obtain rfl:ov=Value.ref a:=rx
  obtain ⟨⟨t,hx⟩,-,-⟩:=(show ObjOk X.prog X.w H2 s2.heap a (excM a C) from I2.hok a _ ea)
  have nd:H2 s2.heap.objs.size=none:=I2.hok.fresh (Nat.le_refl _)
  have ne:s2.heap.objs.size≠a:=Nat.ne_of_gt (Heap.lt_size hx)
  refine set_exc I2.kIn Z no hx fun h' mA hx' hn hm k=>⟨σ,_,?_,q2 _ nd ne⟩
  have up:∀ c w,H2 c=some w→c≠a→upd (upd H2 s2.heap.objs.size (.xd [(f,y)])) a (excS a C s2.heap.objs.size) c=some w:=fun c w z n=>by
    rw [upd_ne n,upd_ne (fun q=>by rw [q,nd] at z;cases z)];exact z
  have na:∀ c,H2 c=none→c≠a:=fun c z q=>by rw [q,ea] at z;cases z
  refine I2.un (t':=s2.toks+2) ⟨fun b ob e n _ _=>k b ob (na b n) e,fun b ob e n _ _=>⟨ob.slots,k b ob (na b n) e⟩,fun b ob e n _=>?_,fun b ob e _=>?_,fun b xs e=>up b _ e (fun q=>by rw [q,ea] at e;cases e),fun b ob u e=>up b _ e (fun q=>by rw [q,ea] at e;cases e),fun b ps e=>⟨#[],by rw [Array.append_empty];exact up b _ e (fun q=>by rw [q,ea] at e;cases e)⟩⟩ ?_
  · rw [upd_ne (na b n),upd_ne (Nat.ne_of_lt (Heap.lt_size e))];exact n
  · by_cases hb:b=a
    · subst hb;exact ⟨_,hx'⟩
    · exact ⟨ob,k b ob hb e⟩
  · refine I2.hok.swap nd (fun xs z=>by rw [ea] at z;cases z) (fun b z=>by rw [ea] at z;cases z) ne k ⟨⟨t,hx'⟩,⟨_,hx'⟩,fun h1 h2 ⟨t,z⟩ kk=>⟨t,kk _ z⟩⟩ ⟨mA,hn,fun g=>?_⟩
    rw [hm g]
    by_cases q:g=f
    · subst q;simp only [List.lookup,beq_self_eq_true,if_true];exact ry
    · have hb:(g == f)=false:=beq_eq_false_iff_ne.mpr q
      simp only [List.lookup,hb,if_neg q]
      exact True.intro
end
def exiIn (K:Frag) (C:Addr):Bool:=match K.lookup C with
  | some ⟨.type "type", _,.cls cd,sl⟩=>(match cd.mro,sl.toList with
    | .ref C' :: bm,[_,_,_,_,some (.builtin n),_]=>C' == C && n == "ValueError.__new__" && !cd.hasDel && tailIn K bmV bm
    | _,_=>false)
  | _=>false
theorem exi_obj {K:Frag} {h:Heap} {C:Addr} (X:K.In h) (q:exiIn K C=true) :
    ∃ bm N nm q bs hdct sn sub ab col dd k0 k1 k2 k3 k5,h.get? C=some (excClassObj nm q C N bs bm hdct sn sub ab col dd k0 k1 k2 k3 k5 "ValueError.__new__")∧OwnTail h bmV bm:=by
  unfold exiIn at q
  split at q
  · rename_i dd cd sl ho
    split at q
    · rename_i C' bm k0 k1 k2 k3 n k5 hm hs
      simp only [Bool.and_eq_true,beq_iff_eq,Bool.not_eq_true'] at q
      obtain ⟨⟨⟨rfl,rfl⟩,hdel⟩,ht⟩:=q
      obtain ⟨nm,bs,mro,ns,qn,hd,sn,sub,ab,col,del⟩:=cd
      dsimp only at hm hdel
      subst hm hdel
      have hsl:sl=#[k0,k1,k2,k3,some (.builtin "ValueError.__new__"),k5]:=by
        obtain ⟨l⟩:=sl
        simp only at hs
        rw [hs]
      subst hsl
      exact ⟨bm,ns,nm,qn,bs,hd,sn,sub,ab,col,dd,k0,k1,k2,k3,k5,X _ _ ho,tail_of_in X ht⟩
    · cases q
  · cases q
section
variable {prog:Program} {w:World} {A:Around} {E:Value→Shared→Prop} {s:Shared} {K:Frag} {C f:Addr} {rest:List Value}
theorem call_exI {Q:Value→Shared→Prop} (X:K.In s.heap) (q:exiIn K C=true) (hi:findIn K (.ref C) "__init__" = some (some (.ref f))) (hf:typeIn K (.ref f)=some (.type "function")) (hrest:rest.length≤sizeLine)
    (hq:∀ h' e,Heap.MadeExcOf s.heap h' e (.ref C) rest→wpAny (model prog w) (A.under (.builtin "type.__call__" ⟨.ref C :: rest,[]⟩)) (call (.ref f) (.ref e :: rest)) (fun r s'=>r=.none∧Q (.ref e) s') E { s with heap:=h' }) :
    wpAny (model prog w) A (call (.ref C) rest) Q E s:=by
  obtain ⟨bm,N,nm,q0,bs,hdct,sn,sub,ab,col,dd,k0,k1,k2,k3,k5,hC,T⟩:=exi_obj X q
  obtain ⟨hh,g,d,t,os⟩:=s
  dsimp only at hC X T
  have F:=F.excBase_ValueError
  have f1:=tc_lookup
  have f2:=tc_bind (.ref C)
  have hT:Shared.TypeIs ⟨hh,g,d,t,os⟩ (.ref C) "type" := ⟨_,hC,rfl⟩
  refine wpAny_call (codeAny_of_tree ?_)
  show wpAny _ _ (callAny (.ref C) _) _ _ _
  repeat (any_goals (first | assumption | with_reducible refine wpAny_loadPart_at hC ?_ | wp_step))
  refine ⟨rfl,codeAny_call_builtin_at (Code.quiet_builtin _ (by decide +kernel)) entry_typeCall (wpAny_check_type_call_sub hC ?_)⟩
  repeat (first | with_reducible refine wpAny_loadPart_at hC ?_ | with_reducible refine wpAny_madeBy_exc hC ?_ | wp_step)
  refine codeAny_call_builtin_code (Code.quiet_builtin _ F.quiet) (wpAny_check_new_subT F T hC ?_)
  refine codeAny_exc_new_subT F T hC ?_ hrest
  obtain ⟨ob,hob⟩:∃ ob:Obj,ob={ cls:=.ref C,data:=.fields #[.ref hh.objs.size,.none,.none,.none,.bool false,.none] }:=⟨_,rfl⟩
  obtain ⟨tu,htu⟩:∃ tu:Obj,tu={ cls:=.type "tuple", data:=.seq rest.toArray }:=⟨_,rfl⟩
  show wpAny _ _ _ _ _ ⟨(hh.push { cls:=.type "tuple", data:=.seq rest.toArray }).push { cls:=.ref C,data:=.fields #[.ref hh.objs.size,.none,.none,.none,.bool false,.none] },g,d,t,os⟩
  rw [← hob,← htu]
  have kp:∀ b o,hh.get? b=some o→((hh.push tu).push ob).get? b=some o:=fun b o e=>Heap.get?_push_of_some _ (Heap.get?_push_of_some _ e)
  have hC₁:=kp _ _ hC
  have X₁:K.In ((hh.push tu).push ob):=fun b o e=>kp _ _ (X b o e)
  have hget:((hh.push tu).push ob).get? (hh.objs.size+1)=some ob:=by
    have:=Heap.get?_push_size (hh.push tu) (o:=ob) (by rw [hob];rfl)
    rwa [Heap.size_push] at this
  have htup:((hh.push tu).push ob).get? hh.objs.size=some tu:=Heap.get?_push_of_some _ (Heap.get?_push_size hh (by rw [htu];rfl))
  have hcC:(Value.ref C :: bm).contains (.ref C)=true:=by simp
  have hcls:ob.cls=.ref C:=by rw [hob]
  have L0:Looks (model prog w) ((hh.push tu).push ob) (typeOf (.ref (hh.objs.size+1))) (.ref C):=hcls ▸ (Looks.ld hget).andThen .now
  have L2:=looks_findIn (M:=model prog w) X₁ hi
  have L3:=bind_fn (M:=model prog w) X₁ (.ref (hh.objs.size+1)) hf
  have mk:Heap.MadeExcOf hh ((hh.push tu).push ob) (hh.objs.size+1) (.ref C) rest:=⟨kp,Heap.get?_none_of_le (Nat.le_succ _),hh.objs.size,by rw [← hob];exact hget,Heap.get?_none_of_le (Nat.le_refl _),by rw [← htu];exact htup⟩
  have hq:=hq _ _ mk
  generalize hH:(hh.push tu).push ob=h1 at *
  refine wpAny_bind (wpAny_bind (Looks.here (s:=⟨h1,g,d,t,os⟩) L0 (wpAny_isSubtype_exc hC₁ ?_)))
  rw [hcC,if_neg (by decide)]
  refine wpAny_bind (wpAny_holding ?_)
  refine wpAny_bind (wpAny_bind (Looks.here (s:=⟨h1,g,d,t,os⟩) L0 (Looks.here (s:=⟨h1,g,d,t,os⟩) L2 (wpAny_holding (wpAny_bind (Looks.here (s:=⟨h1,g,d,t,os⟩) L3 (wpAny_bind (wpAny_mono hq (fun r s' z=>?_) fun _ _ z=>z))))))))
  obtain ⟨rfl,z⟩:=z
  refine wpAny_pure (wpAny_pure ?_)
  exact z
end
end L2
namespace L2
open PySem PySem.Spec PyProof.Rows PySem.W
structure MkX (K:Frag) (C f:Addr):Prop where
  q:exiIn K C=true
  init:findIn K (.ref C) "__init__" = some (some (.ref f))
  fn:isFn K (.ref f)=true
  kp:keepIn K (.ref C)=true
def tMakeX (C:Addr) (sp:Sp) (E:XK) (t:TA):TE:=fun σ H Q=>t σ H fun vs H1=>vs.length≤sizeLine∧∀ a,H1 a=none→sp (.ref a :: vs) (upd H1 a (excM a C)) (fun v H2=>v=.non∧Q (.ref a) H2) E
section
variable {X:Cx} {CX:CXT} {k:Nat} {f C:Addr} {fd:FuncData} {ps:List Str} {sp:Sp} {E:XK} {x:Str} {p pos:Pos} {e:Expr} {es:List Expr} {t:TA}
theorem exc_new {pins:List (Addr × Obj)} {σ:St} {H:Hp} {s:Shared} {a:Addr} {vs:List Value} {h':Heap} (I:Inv X pins σ H s) (mk:Heap.MadeExcOf s.heap h' a (.ref C) vs):H a=none∧Inv X pins σ (upd H a (excM a C)) { s with heap:=h' }:=by
  have ha:H a=none:=by
    cases z:H a with
    | none=>rfl
    | some u=>
      obtain ⟨o,eo⟩:=(I.hok a u z).obj
      rw [mk.new] at eo;cases eo
  have na:∀ b o,s.heap.get? b=some o→b≠a:=fun b o z q=>by rw [q,mk.new] at z;cases z
  have up:∀ b u,H b=some u→upd H a (excM a C) b=some u:=fun b u z=>by rw [upd_ne (ne_of_none z ha)];exact z
  refine ⟨ha,I.un (t':=s.toks) ⟨fun b ob e n _ _=>mk.keeps _ _ e,fun b ob e n _ _=>⟨ob.slots,mk.keeps _ _ e⟩,fun b ob e n _=>?_,fun b ob e _=>⟨_,mk.keeps _ _ e⟩,fun b xs e=>up b _ e,fun b ob u e=>up b _ e,fun b ps e=>⟨#[],by rw [Array.append_empty];exact up b _ e⟩⟩ ?_⟩
  · rw [upd_ne (na b ob e)];exact n
  · intro b o e
    by_cases hb:b=a
    · subst hb
      rw [upd_same] at e;cases e
      obtain ⟨t,ht,_⟩:=mk.there
      exact ⟨⟨t,ht⟩,⟨_,ht⟩,fun h1 h2 ⟨t,z⟩ kk=>⟨t,kk _ z⟩⟩
    · rw [upd_ne hb] at e
      exact (I.hok b o e).stay (fun c u _ q=>mk.keeps _ _ q) (fun c q=>up _ _ q) fun c xs q=>up _ _ q
theorem run_makeX {pins:List (Addr × Obj)} {σ:St} {H:Hp} {s:Shared} {Q:VK} {us:List Value} {vs:List V} (M:MkX X.K C f) (F:FnOk X.prog X.w X.K X.mg X.base CX k f fd ps sp) (hr:Room (k+1) X.A) (hb:Binds X.K fd ps [])
    (hx:Passes CX X E) (I:Inv X pins σ H s) (r:Vals vs us) (hz:vs.length≤sizeLine) (h:∀ a,H a=none→sp (.ref a :: vs) (upd H a (excM a C)) (fun v H2=>v=.non∧Q (.ref a) H2) E) :
    wpAny (model X.prog X.w) X.A (call (.ref C) us) (EP X pins σ Q) X.xe s:=by
  refine call_exI I.kIn M.q M.init (beq_iff_eq.mp M.fn) (by rw [← r.length];exact hz) fun h' a mk=>?_
  obtain ⟨ha,I2⟩:=exc_new I mk
  have hq:=h a ha
  have r2:Vals (V.ref a :: vs) (Value.ref a :: us):=.cons rfl r
  have hl:(Value.ref a :: us++[]).length=ps.length:=by
    have e:=r2.length
    rw [F.len _ _ _ _ hq] at e
    rw [List.append_nil]
    exact e.symm
  have hbb:=hb _ (Value.ref a :: us) I2.kIn hl
  rw [List.append_nil] at hbb
  refine wpAny_call (codeAny_mono (F.run _ X.stack _ _ ⟨Value.ref a :: us,[]⟩ (Value.ref a :: us) _ _ E (hr.make C us []) (I2.env0.make C us []) hbb r2 hq) fun r s' hq'=>?_)
  cases r with
  | error e=>exact hx pins σ _ _ e s' I2 hq'
  | ok fl=>
    cases fl with
    | ret u=>
      obtain ⟨v,H',I3,rv,ev,q3⟩:=I2.after hq'
      subst ev
      exact ⟨rv,⟨V.ref a,H',I3,rfl,q3⟩⟩
    | next=>exact False.elim hq'
    | brk=>exact False.elim hq'
    | cont=>exact False.elim hq'
theorem pe_makeX (M:MkX X.K C f) (F:FnOk X.prog X.w X.K X.mg X.base CX k f fd ps sp) (hr:Room (k+1) X.A) (hg:Gl X x) (hm:X.mg x=some (.ref C)) (hb:Binds X.K fd ps []) (hx:Passes CX X E)
    (ha:PA X (e :: es) t) (hdb:(x == ("__debug__" : Str))=false:=by decide) (he:starEach (e :: es) X.env=(false,eval e X.env) :: starEach es X.env:=by rfl) (hpl:(backTo pos (starEach es X.env)).any (·.1)=false:=by rfl) :
    PE X (.Call (.Name x p) (e :: es) [] pos) (tMakeX C sp E t):=by
  intro pins s σ H Q I h
  refine wpAny_Call_Name_kw (ld_glob I hg hm ?_ hdb)
  refine callWith_K (h₀:=X.base) I.ok.mod.kin M.kp (thn (ha pos pins s σ H _ I h) fun us s1 ⟨vs,H1,I1,r,hz,q⟩=>⟨I1.kIn,?_⟩) he hpl
  exact run_makeX M F hr hb hx I1 r hz q
end
end L2
namespace L2
open PySem PySem.Spec PyProof.Rows PySem.W
def dropA (a:Addr) (H:Hp):Hp:=fun b=>if b=a then none else H b
theorem dropA_at {a:Addr} {H:Hp}:dropA a H a=none:=if_pos rfl
theorem dropA_ne {a b:Addr} {H:Hp} (h:b≠a):dropA a H b=H b:=if_neg h
theorem dropA_upd {a:Addr} {H:Hp} {o:HO}:upd (dropA a H) a o=upd H a o:=funext fun b=>by
  by_cases h:b=a
  · subst h;rw [upd_same,upd_same]
  · rw [upd_ne h,upd_ne h,dropA_ne h]
def CXD (P:Program) (w:World):CXT:=fun outer H s E e s'=>∃ a C H' dx,e=.ref a∧s'.os=s.os∧AllBare s'.gens∧Un (frs outer) [] H H' s.heap s'.heap∧HOk P w H' s'.heap∧FlyS outer H s.heap H' a C s'.heap∧H' a=none∧DictAt s'.heap a dx∧E e (some C) (upd H' a (excD a C dx))
theorem fly_outX {X:Cx} {pins:List (Addr × Obj)} {σ:St} {H1 H2:Hp} {s1:Shared} {B h2:Heap} {a:Addr} (I:Inv X pins σ H1 s1) (hex:X.ex=[]) (h0:X.s₀.heap.get? a=none)
    (inB:∀ b o,s1.heap.get? b=some o→b ∉ frs X.stack→b≠a→∃ o',B.get? b=some o'∧(H1 b=none→o'=o)) (st:B.StaysIn h2)
    (fr:∀ b o,s1.heap.get? b=some o→b∈frs X.stack→∃ sl,h2.get? b=some { o with slots:=sl }) (free:∀ b o,s1.heap.get? b=some o→H1 b=none→H2 b=none)
    (tups:∀ b xs,H1 b=some (.tup xs)→H2 b=some (.tup xs)) (frzs:∀ b o u,H1 b=some (.frz o u)→H2 b=some (.frz o u)) (tbls:∀ b ps,H1 b=some (.tbl ps)→∃ more,H2 b=some (.tbl (ps++more))) :
    Un X.fs [] X.H₀ H2 X.s₀.heap h2∧∀ b o,X.s₀.heap.get? b=some o→b ∉ X.fs→∃ o',B.get? b=some o'∧(X.H₀ b=none→o'=o):=by
  have nx:∀ b:Addr,b ∉ X.ex:=fun b=>by rw [hex];simp
  have nA:∀ b o,X.s₀.heap.get? b=some o→b≠a:=fun b o e q=>by rw [q,h0] at e;cases e
  have ns:∀ b o,X.s₀.heap.get? b=some o→b ∉ X.fs→b ∉ frs X.stack:=fun b o e n z=>by
    rcases List.mem_cons.mp (I.stkSub b z) with q | q
    · rw [q] at e
      exact absurd (Nat.lt_of_lt_of_le (Heap.lt_size e) I.ok.above) (Nat.lt_irrefl _)
    · exact n q
  have toB:∀ b o,X.s₀.heap.get? b=some o→b ∉ X.fs→∃ o',B.get? b=some o'∧(X.H₀ b=none→o'=o):=fun b o e n=>by
    obtain ⟨o1,e1⟩:=I.base.there b o e (nx b)
    obtain ⟨o2,e2,k2⟩:=inB b o1 e1 (ns b o e n) (nA b o e)
    refine ⟨o2,e2,fun h0=>?_⟩
    have z:=I.base.keep b o e h0 n (nx b)
    rw [e1] at z;cases z
    exact k2 (I.base.free b o e h0 (nx b))
  have inSt:∀ b∈X.fs,∀ o1,s1.heap.get? b=some o1→∃ sl,h2.get? b=some { o1 with slots:=sl }:=fun b hb o1 e1=>by
    obtain ⟨_,o,ho,_⟩:=I.ok.funs.mem hb
    by_cases hs:b∈frs X.stack
    · exact fr b o1 e1 hs
    · obtain ⟨o2,e2,k2⟩:=inB b o1 e1 hs (nA b o ho)
      rw [k2 (I.base.free b o ho (I.ok.frf b hb) (nx b))] at e2
      exact ⟨o1.slots,st _ _ e2⟩
  refine ⟨⟨fun b o e n hb _=>?_,fun b o e n hb _=>?_,fun b o e n _=>?_,fun b o e _=>?_,fun b xs e=>tups _ _ (I.base.tups _ _ e),fun b o u e=>frzs _ _ _ (I.base.frzs _ _ _ e),fun b ps e=>?_⟩,toB⟩
  · obtain ⟨o',e',k⟩:=toB b o e hb
    rw [k n] at e'
    exact st _ _ e'
  · obtain ⟨sl,e1⟩:=I.base.slot b o e n hb (nx b)
    obtain ⟨sl2,e2⟩:=inSt b hb _ e1
    exact ⟨sl2,e2⟩
  · obtain ⟨o1,e1⟩:=I.base.there b o e (nx b)
    exact free b o1 e1 (I.base.free b o e n (nx b))
  · obtain ⟨o1,e1⟩:=I.base.there b o e (nx b)
    by_cases hb:b∈X.fs
    · obtain ⟨sl,q⟩:=inSt b hb o1 e1
      exact ⟨_,q⟩
    · obtain ⟨o',e',_⟩:=toB b o e hb
      exact ⟨o',st _ _ e'⟩
  · obtain ⟨m1,e1⟩:=I.base.tbls b ps e
    obtain ⟨m2,e2⟩:=tbls b _ e1
    exact ⟨m1++m2,by rw [e2,Array.append_assoc]⟩
def RaisesD (X:Cx) (E:XK):Prop:=∀ (pins:List (Addr × Obj)) (σ:St) (H1:Hp) (s1:Shared) (a C dx:Addr),Inv X pins σ H1 s1→H1 a=some (excS a C dx)→X.H₀ a=none→E (.ref a) (some C) (upd H1 a (excD a C dx))→X.xe (.ref a) s1
section
variable {P:Program} {w:World} {K:Frag} {mg:Str→Option Value} {base:Heap} {N:List Str} {qual:Str} {scope:Scope} {f:Addr} {cd:Value} {A:Around} {outer:List Env} {s:Shared} {H:Hp} {E:XK}
theorem raisesD_cx:RaisesD (cxOf (CXD P w) P w K mg base N qual scope f cd A outer s H E) E:=by
  intro pins σ H1 s1 a C dx I ea h0 hE
  obtain ⟨⟨t,hx⟩,-,-⟩:=(show ObjOk P w H1 s1.heap a (excS a C dx) from I.hok a _ ea)
  have stk:=I.stack
  have nTr:∀ b u,H1 b=some u→b ∉ frs (cxOf (CXD P w) P w K mg base N qual scope f cd A outer s H E).stack:=fun b u e z=>by
    rw [I.stkFree b z] at e;cases e
  have s0:(cxOf (CXD P w) P w K mg base N qual scope f cd A outer s H E).s₀.heap.get? a=none:=by
    cases q:(cxOf (CXD P w) P w K mg base N qual scope f cd A outer s H E).s₀.heap.get? a with
    | none=>rfl
    | some o=>
      have z:=I.base.free a o q h0 (by show a ∉ ([]:List Addr);simp)
      rw [ea] at z;cases z
  have inB:∀ b o,s1.heap.get? b=some o→b ∉ frs (cxOf (CXD P w) P w K mg base N qual scope f cd A outer s H E).stack→b≠a→(hideAll s1.heap (a :: frs (cxOf (CXD P w) P w K mg base N qual scope f cd A outer s H E).stack)).get? b=some o:=fun b o e n na=>
    hideAll_get _ e (fun z=>(List.mem_cons.mp z).elim na n)
  show wpAny _ _ (leaving _ _) _ _ _
  refine wpAny_mono (wpAny_dk (dk_leaving _ _) (wpAny_leaving_firstW (base:=hideAll s1.heap (a :: frs (cxOf (CXD P w) P w K mg base N qual scope f cd A outer s H E).stack)) (Q:=fun _ s'=>∃ h',s'={ s1 with heap:=h' }∧Heap.LeftW (hideAll s1.heap (a :: frs (cxOf (CXD P w) P w K mg base N qual scope f cd A outer s H E).stack)) (cxOf (CXD P w) P w K mg base N qual scope f cd A outer s H E).stack a (.ref C) (.ref t) s1.heap h')
    I.ok.frames (funFrames_hide stk fun env he b hb=>List.mem_cons_of_mem _ (List.mem_filterMap.mpr ⟨env,he,hb⟩)) rfl hx (fun b o q=>of_hideAll _ q) (hideAll_none _ (List.mem_cons_self ..)) rfl rfl rfl fun h' L=>⟨h',rfl,L⟩)) ?_ fun _ _ z=>z
  rintro _ s2 ⟨⟨h2,rfl,L1,L2,L3,L4⟩,dk⟩
  obtain ⟨_,_,L2'⟩:=L2
  generalize hB:hideAll s1.heap (a :: frs (cxOf (CXD P w) P w K mg base N qual scope f cd A outer s H E).stack)=B at inB L1 L2' L3
  have hen:B.get? a=none:=by rw [← hB];exact hideAll_none _ (List.mem_cons_self ..)
  obtain ⟨u,k1⟩:=fly_outX (H2:=dropA a H1) (B:=B) (h2:=h2) I rfl s0 (fun b o e n na=>⟨o,inB b o e n na,fun _=>rfl⟩) L1
    (fun b o e hb=>by
      obtain ⟨_,o',e',nf⟩:=stk.mem hb
      rw [e] at e';cases e'
      exact L4 b o e nf)
    (fun b o e n=>by
      by_cases hb:b=a
      · subst hb;exact dropA_at
      · rw [dropA_ne hb];exact n)
    (fun b xs e=>by rw [dropA_ne (fun q=>by rw [q,ea] at e;cases e)];exact e) (fun b o u e=>by rw [dropA_ne (fun q=>by rw [q,ea] at e;cases e)];exact e) (fun b ps e=>⟨#[],by rw [dropA_ne (fun q=>by rw [q,ea] at e;cases e),e];simp⟩)
  have tr:∀ b u,dropA a H1 b=some u→∃ o,B.get? b=some o:=fun b u e=>by
    have nb:b≠a:=fun q=>by rw [q,dropA_at] at e;cases e
    rw [dropA_ne nb] at e
    obtain ⟨o,eo⟩:=(I.hok b u e).obj
    exact ⟨o,inB b o eo (nTr b u e) nb⟩
  refine ⟨a,C,dropA a H1,dx,rfl,I.os,I.bare,u,fun b o e=>?_,⟨B,_,⟨L1,hen,L2',L3⟩,k1,tr⟩,dropA_at,dk a dx ⟨_,hx,rfl⟩,by rw [dropA_upd];exact hE⟩
  have nb:b≠a:=fun q=>by rw [q,dropA_at] at e;cases e
  rw [dropA_ne nb] at e
  have nA:∀ c u,H1 c=some u→u≠excS a C dx→c≠a:=fun c u z n q=>by rw [q,ea] at z;exact n (Option.some.inj z).symm
  refine (I.hok b o e).stay (fun c v hc q=>?_) (fun c q=>?_) fun c xs q=>?_
  · have nc:c ∉ frs (cxOf (CXD P w) P w K mg base N qual scope f cd A outer s H E).stack∧c≠a:=by
      rcases hc with rfl | hc
      · exact ⟨nTr _ _ e,nb⟩
      · exact ⟨nTr _ _ hc,nA _ _ hc (fun z=>by cases z)⟩
    exact L1 _ _ (inB c v q nc.1 nc.2)
  · rw [dropA_ne (nA _ _ q (fun z=>by cases z))];exact q
  · rw [dropA_ne (nA _ _ q (fun z=>by cases z))];exact q
end
end L2
namespace L2
open PySem PySem.Spec PyProof.Rows PySem.W PySem.Calls PySem.Builtin PySem.Builtin.ObjectAttr
def tRaiseV (K:Frag) (H₀:Hp) (E:XK) (te:TE):TS:=fun _ σ H=>te σ H fun v H1=>∃ a C dx,v=.ref a∧H1 a=some (excS a C dx)∧exiIn K C=true∧H₀ a=none∧E (.ref a) (some C) (upd H1 a (excD a C dx))
theorem ps_raiseV {X:Cx} {E:XK} {e₀:Expr} {te:TE} {pos:Pos} (R:RaisesD X E) (he:PE X e₀ te) (hc:X.calm=true:=by rfl):PS X (.Raise (some e₀) none pos) (tRaiseV X.K X.H₀ E te):=by
  intro pins s σ H D I h
  rw [arm_exec_Raise]
  refine wpAny_bind (wpAny_standAt ?_)
  show wpAny _ _ (raiseStmt _ (some _) none) _ _ _
  unfold raiseStmt
  refine wpAny_bind (wpAny_bind (thn (he pins s σ H _ I h) fun u s1 ⟨v,H1,I1,r,a,C,dx,ev,ea,q,h0,hE⟩=>wpAny_bind (wpAny_standAt (wpAny_pure ?_))))
  subst ev
  obtain rfl:u=Value.ref a:=r
  obtain ⟨⟨t,hx⟩,-,-⟩:=(show ObjOk X.prog X.w H1 s1.heap a (excS a C dx) from I1.hok a _ ea)
  obtain ⟨bm,N,nm,q0,bs,hdct,sn,sub,ab,col,dd,k0,k1,k2,k3,k5,hC,T⟩:=exi_obj I1.kIn q
  have hcB:(Value.ref C :: bm).contains (.type "BaseException")=true:=by rw [List.contains_cons,T.hasType (b:=true) (by decide),Bool.or_true]
  have hE':=R pins σ H1 s1 a C dx I1 ea h0 hE
  have hh:=I1.ok.hd hc
  obtain ⟨hp,g,d,tk,os⟩:=s1
  dsimp only at hx hC
  repeat (first | with_reducible refine wpAny_loadPart_at hx ?_ | with_reducible refine wpAny_loadPart_at hC ?_ | (with_reducible refine wpAny_isSubtype_exc hC ?_;rw [hcB]) | wp_step)
  exact wpAny_raiseNew_none hh hE'
theorem excD_ok {X:Cx} {h:Heap} {a C dx:Addr} (H:Hp) (e:∃ o vs,h.get? a=some o∧o.cls=.ref C∧o.data=.fields vs∧o.dict=some dx):ObjOk X.prog X.w H h a (excD a C dx):=by
  refine ⟨e,?_,fun h1 h2 ⟨o,vs,x1,x2,x3,x4⟩ k=>⟨o,vs,k _ x1,x2,x3,x4⟩⟩
  obtain ⟨o,_,e,_⟩:=e
  exact ⟨o,e⟩
section
variable {X:Cx} {pins:List (Addr × Obj)} {σ:St} {a C dx:Addr} {H2:Hp} {s:Shared}
theorem Up.invD (U:Up X pins σ a C H2 s) (dk:DictAt s.heap a dx):Inv X pins σ (upd H2 a (excD a C dx)) s:=by
  have J:=U.inv
  obtain ⟨o',e',d'⟩:=dk
  obtain ⟨⟨_,vs,x1,x2,x3⟩,-,-⟩:=(show ObjOk X.prog X.w _ s.heap a (excO a C) from J.hok a _ upd_same)
  rw [x1] at e';cases e'
  have eqn:∀ b,b≠a→upd H2 a (excO a C) b=upd H2 a (excD a C dx) b:=fun b n=>by rw [upd_ne n,upd_ne n]
  have some_:∀ b u,u≠excO a C→upd H2 a (excO a C) b=some u→upd H2 a (excD a C dx) b=some u:=fun b u n z=>by
    by_cases hb:b=a
    · subst hb;rw [upd_same] at z;exact absurd (Option.some.inj z).symm n
    · rw [← eqn b hb];exact z
  have none_:∀ b,upd H2 a (excO a C) b=none→upd H2 a (excD a C dx) b=none:=fun b z=>by
    by_cases hb:b=a
    · subst hb;rw [upd_same] at z;cases z
    · rw [← eqn b hb];exact z
  refine ⟨J.ok,J.os,J.bare,⟨J.base.keep,J.base.slot,fun b o e n hx=>none_ b (J.base.free b o e n hx),J.base.there,fun b xs e=>some_ b _ (fun z=>by cases z) (J.base.tups b xs e),fun b o u e=>some_ b _ (fun z=>by cases z) (J.base.frzs b o u e),fun b ps e=>?_⟩,J.loc,J.cell,none_ _ J.free,fun y c e=>none_ _ (J.freeC y c e),fun p hp=>?_,fun b ob e=>?_,J.len⟩
  · obtain ⟨m,e⟩:=J.base.tbls b ps e
    exact ⟨m,some_ b _ (fun z=>by cases z) e⟩
  · obtain ⟨p1,p2,p3⟩:=J.pin p hp
    exact ⟨p1,none_ _ p2,p3⟩
  · by_cases hb:b=a
    · subst hb
      rw [upd_same] at e;cases e
      exact excD_ok _ ⟨_,vs,x1,x2,x3,d'⟩
    · rw [← eqn b hb] at e
      exact (J.hok b ob e).stay (fun _ _ _ q=>q) (fun c q=>some_ _ _ (fun z=>by cases z) q) fun c xs q=>some_ _ _ (fun z=>by cases z) q
end
def PHD (X:Cx) (hs:List ExceptHandler) (th:Addr→Addr→TS):Prop:=
  ∀ (pins:List (Addr × Obj)) (s:Shared) (σ:St) (H2:Hp) (D:Ends) (a C dx:Addr),Up X pins σ a C H2 s→DictAt s.heap a dx→th a C D σ (upd H2 a (excD a C dx))→wpAny (model X.prog X.w) X.A (handleBy (.ref a) X.env hs) (SP X pins D) X.xe s
section
variable {X:Cx} {x n:Str} {i:Nat} {np pos:Pos} {b₀:Stmt} {suite:List Stmt} {rest:List ExceptHandler} {Cl:Addr} {th:Addr→TS}
theorem up_landsD {pins:List (Addr × Obj)} {σ:St} {a C dx:Addr} {H2:Hp} {s:Shared} {M:Model} {A:Around} {E:Value→Shared→Prop} {Q:Unit→Shared→Prop} (U:Up X pins σ a C H2 s) (dk:DictAt s.heap a dx) (h:∀ h',Up X pins σ a C H2 { s with heap:=h' }→DictAt h' a dx→Q () { s with heap:=h' }) :
    wpAny M A (setFlight (.ref a) none) Q E s:=
  wpAny_mono (wpAny_dk (dk_setFlight _ _) (up_lands (Q:=fun _ s'=>∃ h',s'={ s with heap:=h' }∧Up X pins σ a C H2 { s with heap:=h' }) U fun h' U'=>⟨h',rfl,U'⟩)) (fun _ s' ⟨⟨h',e,U'⟩,k⟩=>by subst e;exact h h' U' (k a dx dk)) fun _ _ z=>z
theorem ph_asD (hg:Gl X x) (hm:X.mg x=some (.ref Cl)) (hN:X.N.Nodup) (hi:X.N[i]?=some n) (hl:X.env.scope.names.lookup n=some .local) (hb:∀ a,PSs (X.caught a) (b₀ :: suite) (th a)) (hd:(x == ("__debug__" : Str))=false:=by decide) :
    PHD X (.ExceptHandler (some (.Name x np)) (some n) (b₀ :: suite) pos :: rest) (fun a C D σ H=>exmOne X.K (.ref C) (.ref Cl)=some true∧th a (D.goes i) (σ.set i (some (.ref a))) H):=by
  intro pins s σ H2 D a C dx U dk h
  obtain ⟨hx,h⟩:=h
  have I:=U.inv
  refine wpAny_handleBy_cons (codeAny_handlers_test (ld_glob (I.caught a) hg hm ?_ hd)) (by intro q;cases q)
  refine (exm_one I.kIn (typ_of (I.hok a _ upd_same)) hx).here ?_
  refine codeAny_handlers_suite_as ?_
  refine up_landsD U dk fun h' U' dk'=>?_
  refine store_ok (U'.invD dk') hN hi (.inl hl) (v:=.ref a) rfl (fun s2 I2=>?_) (.inr hl)
  refine wpAny_mono (hb a pins s2 _ _ (D.goes i) (I2.caught a) h) (fun f s3 q=>?_) fun _ _ z=>False.elim z
  cases f with
  | next=>obtain ⟨σ',H',J,q⟩:=q;exact (J.uncaught I.ok).goes hN hi hl fun s4 J4=>⟨_,H',J4,q⟩
  | brk=>obtain ⟨σ',H',J,q⟩:=q;exact (J.uncaught I.ok).goes hN hi hl fun s4 J4=>⟨_,H',J4,q⟩
  | cont=>obtain ⟨σ',H',J,q⟩:=q;exact (J.uncaught I.ok).goes hN hi hl fun s4 J4=>⟨_,H',J4,q⟩
  | ret u=>obtain ⟨v,σ',H',J,r,q⟩:=q;exact (J.uncaught I.ok).goes hN hi hl fun s4 J4=>⟨v,_,H',J4,r,q⟩
def eTryD (th:Addr→Addr→TS) (D:Ends) (σ:St):XK:=fun v c H'=>∃ a C,v=.ref a∧c=some C∧th a C D σ H'
def tTryD (tb:XK→St→TS) (th:Addr→Addr→TS):TS:=fun D σ H=>tb (eTryD th D σ) σ D σ H
theorem ps_tryD {X:Cx} {body:List Stmt} {h₀:ExceptHandler} {hs:List ExceptHandler} {pos:Pos} {tb:XK→St→TS} {th:Addr→Addr→TS}
    (hb:∀ pn xe E σ0,PassesAt (CXD X.prog X.w) (X.tries pn xe) E σ0→PSs (X.tries pn xe) body (tb E σ0)) (hh:PHD X (h₀ :: hs) th)
    (hst:X.stack=X.env :: X.outer:=by rfl) (hf:X.env.frame=some X.env.locals:=by rfl):PS X (.Try body (h₀ :: hs) [] [] pos) (tTryD tb th):=by
  intro pins s σ H D I h
  have toX:∀ {xe:Value→Shared→Prop} {pins':List (Addr × Obj)} {σ':St} {H':Hp} {s':Shared},Inv (X.tries (X.pn++pins) xe) pins' σ' H' s'→Inv X pins σ' H' s':=fun {xe pins' σ' H' s'} J=>
    ⟨I.ok,J.os,J.bare,J.base,J.loc,J.cell,J.free,J.freeC,fun p hp=>J.pin p (List.mem_append_left _ hp),J.hok,J.len⟩
  refine wpAny_Try_except ?_
  have J:∀ xe,Inv (X.tries (X.pn++pins) xe) [] σ H s:=fun xe=>
    ⟨⟨I.ok.mod,I.ok.kind,I.ok.glob,I.ok.blt,I.ok.above,I.ok.inj,I.ok.has,I.ok.cab,I.ok.hd,I.ok.frames,I.ok.stk,I.ok.exf,I.ok.bs,I.ok.bsz,I.ok.noex,I.ok.exfs,I.ok.funs,I.ok.frf⟩,I.os,I.bare,I.base,I.loc,I.cell,I.free,I.freeC,fun p hp=>by
      rw [List.append_nil] at hp
      exact I.pin p hp,I.hok,I.len⟩
  refine wpAny_mono (hb (X.pn++pins) (fun e s'=>∃ a C H2 dx,e=.ref a∧Up X pins σ a C H2 s'∧DictAt s'.heap a dx∧th a C D σ (upd H2 a (excD a C dx))) (eTryD th D σ) σ ?_ [] s σ H D (J _) h) (fun f s1 q=>?_) fun e s1 q=>?_
  · rintro pins' H1 s1 e s2 I1 ⟨a,C,H2,dx,rfl,os,bare,un,hok,fly,ha,dk,a',C',e1,e2,hE⟩
    cases e1;cases e2
    exact ⟨a,C,H2,dx,rfl,⟨H1,s1,toX I1,os,bare,un,hok,fly,ha⟩,dk,hE⟩
  · cases f with
    | next=>obtain ⟨σ',H',J,q⟩:=q;exact wpAny_execs_nil ⟨σ',H',toX J,q⟩
    | brk=>obtain ⟨σ',H',J,q⟩:=q;exact ⟨σ',H',toX J,q⟩
    | cont=>obtain ⟨σ',H',J,q⟩:=q;exact ⟨σ',H',toX J,q⟩
    | ret u=>obtain ⟨v,σ',H',J,r,q⟩:=q;exact ⟨v,σ',H',toX J,r,q⟩
  · obtain ⟨a,C,H2,dx,rfl,U,dk,hE⟩:=q
    have W:=up_looks (M:=model X.prog X.w) (A:=X.A) (E:=X.xe) (Q:=fun _ s'=>∃ h',s'={ s1 with heap:=h' }∧Up X pins σ a C H2 { s1 with heap:=h' }) I.ok.frames hst hf U fun h' U'=>⟨h',rfl,U'⟩
    refine wpAny_mono (wpAny_dk (dk_noteFrame _ _) W) (fun _ s2 ⟨w2,k2⟩=>wpAny_mono (wpAny_dk (dk_setFlight _ _) w2) (fun _ s3 ⟨⟨h',e3,U'⟩,k3⟩=>?_) fun _ _ z=>z) fun _ _ z=>z
    subst e3
    exact hh pins _ σ H2 D a C dx U' (k3 a dx (k2 a dx dk)) hE
end
def HasXD (P:Program) (w:World) (K:Frag) (mg:Str→Option Value) (base:Heap) (x:Str) (k:Nat) (ps:List Str) (sp:Sp):Prop:=
  ∃ f fd,FnOk P w K mg base (CXD P w) k f fd ps sp∧Binds K fd ps []∧keepIn K (.ref f)=true∧mg x=some (.ref f)
section
variable {P:Program} {w:World} {K:Frag} {mg:Str→Option Value} {base:Heap}
theorem Df.hasXD {x:Str} {st:Stmt} {N ps:List Str} {k:Nat} {sp:Sp} (D:Df K mg x st) (S:FnScope N ps (defScope st))
    (hb:∀ (kV doc pm:Value) (an:Option Addr) (cdv ct:Value) (us:List Value),us.length=ps.length→bindArgs (fnOf x x (defArgs st) (defBody st) (defScope st) .none kV doc pm an cdv ct) ⟨us,[]⟩=pure (ps.zip us))
    (len:∀ vs H Q E,sp vs H Q E→vs.length=ps.length)
    (hbody:∀ (f:Addr) (cdv:Value) (A:Around) (outer:List Env) (s:Shared) (H:Hp) (vs:List V) (Q:VK) (E:XK),Room k (A.deeper (envOfC x (defScope st) s.heap.objs.size f cdv))→sp vs H Q E →
      ∃ t,PSs (cxOf (CXD P w) P w K mg base N x (defScope st) f cdv A outer s H E) (defBody st) t∧t { nx:=fun _ H'=>Q .non H',rt:=Q } (start N vs) H):HasXD P w K mg base x (k+1) ps sp:=by
  obtain ⟨f,fd,F,m⟩:=D
  refine ⟨f,fd,?_,F.binds hb,F.kp,m⟩
  obtain ⟨oc,od,kV,doc,pm,an,cdv,ct,osl,rfl,lk,hcd⟩:=F.ex
  exact fn_of lk hcd S len fun A outer s H vs Q E hr hsp=>hbody f cdv A outer s H vs Q E hr hsp
end
section
variable {X:Cx} {x:Str} {k:Nat} {ps:List Str} {sp:Sp} {p pos:Pos} {e:Expr} {es:List Expr} {t:TA} {E:XK} {σ0:St}
theorem run_fnXD {f:Addr} {fd:FuncData} {pins:List (Addr × Obj)} {H:Hp} {s:Shared} {Q:VK} {us:List Value} {vs:List V} (F:FnOk X.prog X.w X.K X.mg X.base (CXD X.prog X.w) k f fd ps sp) (hr:Room k X.A) (hb:Binds X.K fd ps []) (hx:PassesAt (CXD X.prog X.w) X E σ0)
    (I:Inv X pins σ0 H s) (r:Vals vs us) (h:sp (vs++[]) H Q E):wpAny (model X.prog X.w) X.A (call (.ref f) us) (EP X pins σ0 Q) X.xe s:=by
  have r2:Vals (vs++[]) (us++[]):=r.append .nil
  have hl:(us++[]).length=ps.length:=by rw [← r2.length];exact F.len _ _ _ _ h
  refine wpAny_call (codeAny_mono (F.run X.A X.stack s H ⟨us,[]⟩ (us++[]) (vs++[]) Q E hr I.env0 (hb s us I.kIn hl) r2 h) fun r s' hq=>?_)
  cases r with
  | error e=>exact hx pins H s e s' I hq
  | ok fl=>
    cases fl with
    | ret u=>exact I.after hq
    | next=>exact False.elim hq
    | brk=>exact False.elim hq
    | cont=>exact False.elim hq
theorem pe_callXD (G:HasXD X.prog X.w X.K X.mg X.base x k ps sp) (hx:PassesAt (CXD X.prog X.w) X E σ0) (hr:Room k X.A) (hg:Gl X x) (ha:PA X (e :: es) t)
    (hdb:(x == ("__debug__" : Str))=false:=by decide) (he:starEach (e :: es) X.env=(false,eval e X.env) :: starEach es X.env:=by rfl) (hpl:(backTo pos (starEach es X.env)).any (·.1)=false:=by rfl) :
    PE X (.Call (.Name x p) (e :: es) [] pos) (fun σ H Q=>σ=σ0∧tCall sp [] E t σ H Q):=by
  obtain ⟨f,fd,F,b,kp,hm⟩:=G
  rintro pins s σ H Q I ⟨rfl,h⟩
  refine wpAny_Call_Name_kw (ld_glob I hg hm ?_ hdb)
  refine callWith_K (h₀:=X.base) I.ok.mod.kin kp (thn (ha pos pins s σ H _ I h) fun us s1 ⟨vs,H1,I1,r,q⟩=>⟨I1.kIn,?_⟩) he hpl
  exact run_fnXD F hr b hx I1 r q
end
section
variable {prog:Program} {w:World} {A:Around} {E:Value→Shared→Prop} {s:Shared} {K:Frag} {x C:Addr} {name:Str} {v:Value} {R:Result→Shared→Prop}
theorem val_entry {tk:Tok} {Q:Fin→Shared→Prop} (L0:Looks (model prog w) s.heap (typeOf (.ref x)) (.ref C)) (L2:Looks (model prog w) s.heap (find (.ref x) (.ref C) name) (.value v)) (hv:handedOut v=pure v) (h:Q (.done (.ret v)) s) :
    wpAny (model prog w) A (Builtin.«object.__getattribute__» ⟨[.ref x,.str name tk],[]⟩) Q E s:=by
  obtain ⟨hh,g,dr,t,os⟩:=s
  unfold Builtin.«object.__getattribute__»
  repeat (any_goals (first | assumption | (refine wpAny_bind (L0.at ?_)) | (refine wpAny_bind (L2.at ?_)) | wp_step))
theorem val_call {tk:Tok} (X:K.In s.heap) (Z:ExK K C) (L0:Looks (model prog w) s.heap (typeOf (.ref x)) (.ref C)) (L2:Looks (model prog w) s.heap (find (.ref x) (.ref C) name) (.value v)) (hv:handedOut v=pure v) (h:R (.ok (.ret v)) s) :
    codeAny (model prog w) A (.call (.builtin "BaseException.__getattribute__") ⟨[.ref x,.str name tk],[]⟩) R s:=
  codeAny_call_builtin F.attrBase_ValueError.ga.plain F.entry_bexc_ga (exc_check (L0.andThen (looks_mroIn (M:=model prog w) X Z.be)) (val_entry L0 L2 hv h))
theorem val_attr {hh:Heap} {g:Array GenState} {dr:Drawn} {t:Nat} {os:OsState} {expr:Bool} {Q:Value→Shared→Prop} (X:K.In hh) (Z:ExK K C) (L0:Looks (model prog w) hh (typeOf (.ref x)) (.ref C))
    (L2:Looks (model prog w) hh (find (.ref x) (.ref C) name) (.value v)) (hv:handedOut v=pure v) (h:Q v ⟨hh,g,dr,t+1,os⟩) :
    wpAny (model prog w) A (getAttr (.ref x) name expr) Q E ⟨hh,g,dr,t,os⟩:=by
  have f3:=F.attrBase_ValueError.ga.bind (.ref x)
  have hx0:(expr && onTheHeap (Value.builtin "BaseException.__getattribute__"))=false:=by cases expr <;> rfl
  have hx2:(Value.builtin "BaseException.__getattribute__" == Value.builtin "object.__getattribute__")=false:=by decide +kernel
  have L1:=looks_findIn (M:=model prog w) X Z.ga
  have L3:=looks_findIn (M:=model prog w) X Z.gn
  unfold getAttr getAttrBy
  repeat (any_goals (first | assumption | (refine wpAny_bind (L0.at ?_)) | (refine wpAny_bind (L1.at ?_)) | (refine wpAny_bind (L3.at ?_)) | wp_step))
  refine val_call (s:=⟨hh,g,dr,t+1,os⟩) X Z L0 L2 hv ?_
  show wpAny _ _ (handedOut v) _ _ _
  rw [hv]
  exact wpAny_pure h
end
def tFldE (K:Frag) (ta:TE) (f:Str):TE:=fun σ H Q=>ta σ H fun x H1=>∃ a C dx fs v,x=.ref a∧(H1 a=some (excD a C dx)∨H1 a=some (excS a C dx))∧H1 dx=some (.xd fs)∧ExK K C∧hasDictIn K C=true∧findIn K (.ref C) f=some none∧fs.lookup f=some v∧Q v H1
theorem pe_fldE {X:Cx} {e:Expr} {f:Str} {pos:Pos} {ta:TE} (he:PE X e ta) (hb:attributeBase e f X.env (eval e X.env)=eval e X.env):PE X (.Attribute e f pos) (tFldE X.K ta f):=by
  intro pins s σ H Q I h
  refine attr_of hb (thn (he pins s σ H _ I h) fun u s1 ⟨x,H1,I1,rx,a,C,dx,fs,v,ex,ea,ed,Z,hd,no,l,q⟩=>?_)
  subst ex
  obtain rfl:u=Value.ref a:=rx
  obtain ⟨o,vs,x1,x2,x3,x4⟩:∃ o vs,s1.heap.get? a=some o∧o.cls=.ref C∧o.data=.fields vs∧o.dict=some dx:=by
    rcases ea with ea | ea
    · exact (show ObjOk X.prog X.w H1 s1.heap a (excD a C dx) from I1.hok a _ ea).1
    · obtain ⟨t,z⟩:=(show ObjOk X.prog X.w H1 s1.heap a (excS a C dx) from I1.hok a _ ea).1
      exact ⟨_,_,z,rfl,rfl,rfl⟩
  obtain ⟨mA,n,r⟩:=(show ObjOk X.prog X.w H1 s1.heap dx (.xd fs) from I1.hok dx _ ed)
  obtain ⟨od,hod,hl⟩:=lookIn_ns n
  obtain ⟨u,hu,ru⟩:=RelO.some_of (v:=v) (o:=mA f) (by rw [← l];exact r f)
  have J:InstAt s1.heap a o C (some od):=⟨x1,x2,by unfold notCls;rw [x3],by rw [x4];exact hod⟩
  have L2:=looks_find (M:=model X.prog X.w) I1.kIn J (findObj_own hd no rfl (by rw [hl,hu]))
  obtain ⟨hh,g,dr,t,os⟩:=s1
  exact val_attr I1.kIn Z J.type L2 (handedOut_of (handed_of ru)) ⟨v,H1,I1.tok _,ru,q⟩
end L2
namespace L2
open PySem PySem.Spec PyProof.Rows PySem.W
theorem kitx_excD {K:Frag} {a C dx:Addr} (Z:ExK K C):KitX K (.ref a) (.ref C) (fun h=>∃ o vs,h.get? a=some o∧o.cls=.ref C∧o.data=.fields vs∧o.dict=some dx) where
  ty:=fun M h X ⟨o,vs,e1,e2,e3,_⟩=>(kitx_exc Z).ty M h X ⟨o,vs,e1,e2,e3⟩
  it:=fun M h X ⟨o,vs,e1,e2,e3,_⟩=>(kitx_exc (a:=a) Z).it M h X ⟨o,vs,e1,e2,e3⟩
  ne:=(kitx_exc (a:=a) Z).ne
  ca:=fun X ⟨o,vs,e1,e2,e3,_⟩ k=>(kitx_exc Z).ca X ⟨o,vs,e1,e2,e3⟩ k
section
variable {X:Cx}
theorem call_isinstDE (K:Frag) (hK:X.K=K:=by rfl):CallR X (.builtin "isinstance") (fun vs H Q=>∃ (a C dx D:Addr) (b:Bool),vs=[.ref a,.ref D]∧H a=some (excD a C dx)∧ExK K C∧kitOne K (.ref C) (.ref D)=some b∧Q (.bl b) H):=by
  subst hK
  intro pins s σ H xs us Q I r h
  obtain ⟨a,C,dx,D,b,rfl,ha,Z,e,q⟩:=h
  obtain ⟨u,v,rfl,ru,rv⟩:=vals2 r
  cases (show u=Value.ref a from ru)
  cases (show v=Value.ref D from rv)
  exact kia_one (kitx_excD Z) I.kIn (I.hok a _ ha).1 e (fun z=>nomatch z) fun tk=>⟨.bl b,H,I.tok tk,rfl,q⟩
theorem call_isinstDB (K:Frag) (hK:X.K=K:=by rfl):CallR X (.builtin "isinstance") (fun vs H Q=>∃ (a C dx:Addr) (T:String) (b:Bool),vs=[.ref a,.ty T]∧H a=some (excD a C dx)∧ExK K C∧kitOne K (.ref C) (.type T)=some b∧Q (.bl b) H):=by
  subst hK
  intro pins s σ H xs us Q I r h
  obtain ⟨a,C,dx,T,b,rfl,ha,Z,e,q⟩:=h
  obtain ⟨u,v,rfl,ru,rv⟩:=vals2 r
  cases (show u=Value.ref a from ru)
  cases (show v=Value.type T from rv)
  exact kia_one (kitx_excD Z) I.kIn (I.hok a _ ha).1 e (fun z=>nomatch z) fun tk=>⟨.bl b,H,I.tok tk,rfl,q⟩
theorem call_isinstDT (K:Frag) (hK:X.K=K:=by rfl):CallR X (.builtin "isinstance") (fun vs H Q=>∃ (a C dx c:Addr) (Ds:List Addr) (b:Bool),vs=[.ref a,.ref c]∧H a=some (excD a C dx)∧H c=some (.tup (Ds.map V.ref))∧ExK K C∧kitAny K (.ref C) (Ds.map Value.ref)=some b∧Q (.bl b) H):=by
  subst hK
  intro pins s σ H xs us Q I r h
  obtain ⟨a,C,dx,c,Ds,b,rfl,ha,hc,Z,e,q⟩:=h
  obtain ⟨u,v,rfl,ru,rv⟩:=vals2 r
  cases (show u=Value.ref a from ru)
  cases (show v=Value.ref c from rv)
  obtain ⟨_,its,rv2,⟨o,h1,h2,n,h3⟩⟩:=(show ObjOk X.prog X.w H s.heap c (.tup (Ds.map V.ref)) from I.hok c _ hc)
  cases vals_ref rv2
  obtain ⟨cls,dd,dat,sl⟩:=o
  cases h2;cases h3
  exact kia_tup (kitx_excD Z) I.kIn (I.hok a _ ha).1 h1 e (fun z=>nomatch z) fun tk=>⟨.bl b,H,I.tok tk,rfl,q⟩
theorem pe_fldEK (K:Frag) {e:Expr} {f:Str} {pos:Pos} {ta:TE} (he:PE X e ta) (hb:attributeBase e f X.env (eval e X.env)=eval e X.env) (hK:X.K=K:=by rfl):PE X (.Attribute e f pos) (tFldE K ta f):=by
  subst hK
  exact pe_fldE he hb
end
end L2
namespace S04
open PySem L2 W7
def lwB (c:Nat):Bool:=decide (97≤c) && decide (c < 123)
def canB (s:Sc) (x:Nat):Bool:=if x=41 then decide (s.wn≠[]) && decide (s.la≠[40]) else if s.ls.length=60 then false else if x=40 then s.la.all lwB && decide (s.la≠[]) else lwB x && (decide (s.la=[]) || decide (s.wn≠[]))
def rdE:Sc→Nat→List Nat→Nat ⊕ Sc
  | s,_,[]=>.inr s
  | s,i,x :: r=>if canB s x then rdE (tk s x) (i+1) r else .inl i
theorem rdE_bad {s:Sc} {i x:Nat} {r:List Nat} (h:canB s x=false):rdE s i (x :: r)=.inl i:=by
  show (if canB s x then _ else _)=_
  rw [h];rfl
theorem rdE_ok {s:Sc} {i x:Nat} {r:List Nat} (h:canB s x=true):rdE s i (x :: r)=rdE (tk s x) (i+1) r:=by
  show (if canB s x then _ else _)=_
  rw [h];rfl
def outc (z:List Nat):Nat ⊕ Sc:=match rdE ⟨[],[],[],[]⟩ 0 z with
  | .inl i=>.inl i
  | .inr s=>if s.wn=[]∧s.la≠[] then .inr s else .inl z.length
structure ScI (s:Sc) (i:Nat):Prop where
  la1:s.la.length≤1
  la2:∀ c∈s.la,c < 1000
  us:s.us.length≤i
  ls:s.ls.length≤i
  wn:s.wn.length≤i
  eq:s.us.length=s.ls.length
  l60:s.ls.length≤60
theorem ScI.zero:ScI ⟨[],[],[],[]⟩ 0:=⟨by decide,(fun c h=>by cases h),by decide,by decide,by decide,rfl,by decide⟩
theorem ScI.next {s:Sc} {i x:Nat} (h:ScI s i) (hx:x < 1000) (can:canB s x=true):ScI (tk s x) (i+1):=by
  obtain ⟨h1,h2,h3,h4,h5,h6,h7⟩:=h
  unfold tk
  split
  · exact ⟨by show 1≤1;decide,fun c hc=>by rw [List.mem_singleton.mp hc];exact hx,by show s.us.length≤i+1;omega,by show s.ls.length≤i+1;omega,by show (s.wn++[_]).length≤i+1;rw [List.length_append,List.length_singleton];omega,h6,h7⟩
  · rename_i x40
    split
    · exact ⟨by show 1≤1;decide,fun c hc=>by rw [List.mem_singleton.mp hc];exact hx,by show s.us.length≤i+1;omega,by show s.ls.length≤i+1;omega,by show s.wn.dropLast.length≤i+1;rw [List.length_dropLast];omega,h6,h7⟩
    · rename_i x41
      have n60:s.ls.length≠60:=fun e=>by
        unfold canB at can
        rw [if_neg x41,if_pos e] at can
        cases can
      refine ⟨by show 1≤1;decide,fun c hc=>by rw [List.mem_singleton.mp hc];exact hx,?_,?_,by show s.wn.length≤i+1;omega,?_,?_⟩
      · show (s.us++[_]).length≤_;rw [List.length_append,List.length_singleton];omega
      · show (s.ls++[_]).length≤_;rw [List.length_append,List.length_singleton];omega
      · show (s.us++[_]).length=(s.ls++[_]).length;rw [List.length_append,List.length_singleton,List.length_append,List.length_singleton];omega
      · show (s.ls++[_]).length≤_;rw [List.length_append,List.length_singleton];omega
end S04
namespace S04
open PySem L2 W7
theorem putF_putF (f:Str) (v w:V):∀ fs:List (Str × V),putF f v (putF f w fs)=putF f v fs
  | []=>by
    show (if f=f then [(f,v)] else (f,w) :: putF f v [])=[(f,v)]
    rw [if_pos rfl]
  | (g,x) :: r=>by
    by_cases h:g=f
    · show putF f v (if g=f then (g,w) :: r else (g,x) :: putF f w r)=if g=f then (g,v) :: r else (g,x) :: putF f v r
      rw [if_pos h,if_pos h]
      show (if g=f then (g,v) :: r else (g,w) :: putF f v r)=_
      rw [if_pos h]
    · show putF f v (if g=f then (g,w) :: r else (g,x) :: putF f w r)=if g=f then (g,v) :: r else (g,x) :: putF f v r
      rw [if_neg h,if_neg h]
      show (if g=f then (g,v) :: putF f w r else (g,x) :: putF f v (putF f w r))=_
      rw [if_neg h,putF_putF f v w r]
theorem putF_len (f:Str) (v:V):∀ fs:List (Str × V),(putF f v fs).length≤fs.length+1
  | []=>Nat.le_refl _
  | (g,x) :: r=>by
    show (if g=f then (g,v) :: r else (g,x) :: putF f v r).length≤_
    split
    · simp
    · rw [List.length_cons,List.length_cons]
      have:=putF_len f v r
      omega
def flds (u l n:Addr) (z:Str):List (Str × V):=putF "last" (.str z) (putF "within" (.ref n) (putF "letters" (.ref l) (putF "ups" (.ref u) [])))
theorem n1:¬ (("ups" : Str) = "last"):=by decide +kernel
theorem n2:¬ (("ups" : Str) = "within"):=by decide +kernel
theorem n3:¬ (("ups" : Str) = "letters"):=by decide +kernel
theorem n4:¬ (("letters" : Str) = "last"):=by decide +kernel
theorem n5:¬ (("letters" : Str) = "within"):=by decide +kernel
theorem n6:¬ (("within" : Str) = "last"):=by decide +kernel
section
variable {u l n:Addr} {z:Str}
theorem f_ups:(flds u l n z).lookup ("ups" : Str)=some (.ref u):=by
  unfold flds
  rw [lookup_putF,if_neg n1,lookup_putF,if_neg n2,lookup_putF,if_neg n3,lookup_putF,if_pos rfl]
theorem f_let:(flds u l n z).lookup ("letters" : Str)=some (.ref l):=by
  unfold flds
  rw [lookup_putF,if_neg n4,lookup_putF,if_neg n5,lookup_putF,if_pos rfl]
theorem f_wn:(flds u l n z).lookup ("within" : Str)=some (.ref n):=by
  unfold flds
  rw [lookup_putF,if_neg n6,lookup_putF,if_pos rfl]
theorem f_la:(flds u l n z).lookup ("last" : Str)=some (.str z):=by
  unfold flds
  rw [lookup_putF,if_pos rfl]
theorem f_no {m:Str} (h1:¬ m = "last") (h2:¬ m = "within") (h3:¬ m = "letters") (h4:¬ m = "ups"):(flds u l n z).lookup m=none:=by
  unfold flds
  rw [lookup_putF,if_neg h1,lookup_putF,if_neg h2,lookup_putF,if_neg h3,lookup_putF,if_neg h4]
  all_goals rfl
theorem f_put {y:Str}:putF "last" (.str y) (flds u l n z)=flds u l n y:=by unfold flds;rw [putF_putF]
theorem f_len:(flds u l n z).length < 1000:=by
  unfold flds
  have h1:=putF_len "ups" (.ref u) []
  have h2:=putF_len "letters" (.ref l) (putF "ups" (.ref u) [])
  have h3:=putF_len "within" (.ref n) (putF "letters" (.ref l) (putF "ups" (.ref u) []))
  have h4:=putF_len "last" (.str z) (putF "within" (.ref n) (putF "letters" (.ref l) (putF "ups" (.ref u) [])))
  rw [List.length_nil] at h1
  omega
end
structure Tx (K:PySem.W.Frag) (mg:Str→Option Value) (C:Addr):Prop where
  cl:Cls K C
  nU:NoAttr K C "ups"
  nL:NoAttr K C "letters"
  nW:NoAttr K C "within"
  nA:NoAttr K C "last"
  mgC:mg "Scan" = some (.ref C)
structure ScAt (C:Addr) (H:Hp) (p dx u l n:Addr) (s:Sc):Prop where
  ob:H p=some (.ins C dx (flds u l n (mk s.la)))
  hu:H u=some (.lst (s.us.map V.int))
  hl:H l=some (.lst (s.ls.map fun c=>V.str ⟨#[c]⟩))
  hn:H n=some (.lst (s.wn.map V.int))
  ul:u≠l
  un:u≠n
  ln:l≠n
theorem ScAt.same {C:Addr} {H H':Hp} {p dx u l n:Addr} {s:Sc} (h:ScAt C H p dx u l n s) (k:Same H H'):ScAt C H' p dx u l n s:=⟨k _ _ h.ob,k _ _ h.hu,k _ _ h.hl,k _ _ h.hn,h.ul,h.un,h.ln⟩
def sp_init (C:Addr):Sp:=fun vs H Q _=>∃ (p dx:Addr),vs=[.ref p]∧H p=some (.ins C dx [])∧∀ (u l n:Addr) (H':Hp),H u=none→H l=none→H n=none→ScAt C H' p dx u l n ⟨[],[],[],[]⟩→(∀ b o,H b=some o→b≠p→H' b=some o)→Q .non H'
def sp_can (C:Addr):Sp:=fun vs H Q _=>∃ (p dx u l n:Addr) (s:Sc) (x i:Nat),vs=[.ref p,.str ⟨#[x]⟩]∧ScAt C H p dx u l n s∧x < 1000∧ScI s i∧∀ H',Same H H'→Q (.bl (canB s x)) H'
def sp_tk (C:Addr):Sp:=fun vs H Q _=>∃ (p dx u l n:Addr) (s:Sc) (x:Nat),vs=[.ref p,.str ⟨#[x]⟩]∧ScAt C H p dx u l n s∧canB s x=true∧s.us.length < 9000∧s.ls.length < 9000∧s.wn.length < 9000 ∧
  ∀ H',ScAt C H' p dx u l n (tk s x)→(∀ b o,H b=some o→b≠p→b≠u→b≠l→b≠n→H' b=some o)→Q .non H'
def sp_done (C:Addr):Sp:=fun vs H Q _=>∃ (p dx u l n:Addr) (s:Sc),vs=[.ref p]∧ScAt C H p dx u l n s∧∀ H',Same H H'→Q (.bl (decide (s.wn=[]) && decide (s.la≠[]))) H'
theorem iteB {c:Bool} {A B:Prop} (h:c=true) (q:A):if c=true then A else B:=by rw [if_pos h];exact q
theorem iteN {c:Bool} {A B:Prop} (h:c=false) (q:B):if c=true then A else B:=by rw [h];exact iteF q
theorem mk_inj {a b:List Nat} (h:mk a=mk b):a=b:=by
  have:=congrArg (fun z:Str=>z.cps.toList) h
  exact this
theorem e40:(Str.ofString "(")=mk [40]:=rfl
theorem e41:(Str.ofString ")")=mk [41]:=rfl
theorem e0:(Str.ofString "")=mk []:=rfl
theorem deq {a b:List Nat} (h:a=b):decide (V.str (mk a)=V.str (mk b))=true:=by rw [h];exact decide_eq_true rfl
theorem dne {a b:List Nat} (h:a≠b):decide (V.str (mk a)=V.str (mk b))=false:=decide_eq_false fun e=>h (mk_inj (by injection e))
theorem dstr (a b:List Nat):decide (V.str (mk a)=V.str (mk b))=decide (a=b):=by
  by_cases h:a=b
  · rw [deq h,decide_eq_true h]
  · rw [dne h,decide_eq_false h]
theorem in_abc {c:Nat} (h:c < 1000):(!(Builtin.Str.occurrences (Str.ofString "abcdefghijklmnopqrstuvwxyz") ⟨#[c]⟩ 0 (Str.ofString "abcdefghijklmnopqrstuvwxyz").length 1).isEmpty)=lwB c:=by
  have all:∀ c:Nat,c < 1000→(!(Builtin.Str.occurrences (Str.ofString "abcdefghijklmnopqrstuvwxyz") ⟨#[c]⟩ 0 (Str.ofString "abcdefghijklmnopqrstuvwxyz").length 1).isEmpty)=lwB c:=by decide +kernel
  exact all c h
theorem in_last:∀ {la:List Nat},la.length≤1→(∀ c∈la,c < 1000)→(!(Builtin.Str.occurrences (Str.ofString "abcdefghijklmnopqrstuvwxyz") (mk la) 0 (Str.ofString "abcdefghijklmnopqrstuvwxyz").length 1).isEmpty)=la.all lwB
  | [],_,_=>by decide +kernel
  | [c],_,h=>by
    rw [List.all_cons,List.all_nil,Bool.and_true]
    exact in_abc (h c (List.mem_singleton.mpr rfl))
  | _ :: _ :: _,h,_=>by simp at h
theorem bq2 {Q:VK} {b c:Bool} {H:Hp} (h:b=c) (q:Q (.bl c) H):Q (.bl b) H:=by rw [h];exact q
theorem eqw (ns:List Int):(!eqVs (ns.map V.int) [])=decide (ns≠[]):=by
  have:=eqVs_ints ns []
  rw [List.map_nil] at this
  rw [this]
  by_cases h:ns=[]
  · simp [h]
  · simp [h]
theorem ne_nil {ns:List Int} (h:ns≠[]):(!eqVs (ns.map V.int) [])=true:=by
  have:=eqVs_ints ns []
  rw [List.map_nil] at this
  rw [this,decide_eq_false h];rfl
section
variable {P:Program} {w:World} {K:PySem.W.Frag} {mg:Str→Option Value} {base:Heap} {k:Nat} {C f:Addr} {fd:FuncData}
theorem ok_init (F:Fun K "__init__" "Scan.__init__" s_Scan___init__ f fd) (T:Tx K mg C):FnOk P w K mg base CX0 (k+1) f fd ["self"] (sp_init C):=by
  refine F.ok sc_Scan___init__ (fun vs H Q E h=>by obtain ⟨p,dx,rfl,_⟩:=h;rfl) (fun cdv A outer s H vs Q E hr h=>?_)
  obtain ⟨p,dx,rfl,hp,q⟩:=h
  refine ⟨_,(pss_cons (ps_fld (pv 0) (pe_lst pa_nil) rfl)
  (pss_cons (ps_fld (pv 0) (pe_lst pa_nil) rfl)
  (pss_cons (ps_fld (pv 0) (pe_lst pa_nil) rfl)
  (pss_one (ps_fld (pv 0) pe_str rfl))))),?_⟩
  refine ⟨(by show 0≤sizeLine;decide),fun u hu=>?_⟩
  have pu:p≠u:=ne_of_none hp hu
  refine ⟨_,rfl,p,C,dx,[],rfl,(by rw [upd_ne pu];exact hp),T.cl,T.nU,(by show 0 < 1000;decide),?_⟩
  refine ⟨(by show 0≤sizeLine;decide),fun l hl=>?_⟩
  have pl:p≠l:=ne_of_none upd_same hl
  have ul:u≠l:=ne_of_none (by rw [upd_ne pu.symm,upd_same]) hl
  refine ⟨_,rfl,p,C,dx,_,rfl,(by rw [upd_ne pl,upd_same]),T.cl,T.nL,Nat.lt_of_le_of_lt (putF_len _ _ _) (by show 1 < 1000;decide),?_⟩
  refine ⟨(by show 0≤sizeLine;decide),fun n hn=>?_⟩
  have pn:p≠n:=ne_of_none upd_same hn
  have ln:l≠n:=ne_of_none (by rw [upd_ne pl.symm,upd_same]) hn
  have un:u≠n:=ne_of_none (by rw [upd_ne pu.symm,upd_ne ul,upd_ne pu.symm,upd_same]) hn
  have l1:=putF_len "ups" (.ref u) []
  have l2:=putF_len "letters" (.ref l) (putF "ups" (.ref u) [])
  have l3:=putF_len "within" (.ref n) (putF "letters" (.ref l) (putF "ups" (.ref u) []))
  rw [List.length_nil] at l1
  refine ⟨_,rfl,p,C,dx,_,rfl,(by rw [upd_ne pn,upd_same]),T.cl,T.nW,by omega,?_⟩
  refine ⟨_,rfl,p,C,dx,_,rfl,upd_same,T.cl,T.nA,by omega,?_⟩
  have fl:H l=none:=by rw [upd_ne pl.symm,upd_ne ul.symm] at hl;exact hl
  have fn:H n=none:=by rw [upd_ne pn.symm,upd_ne ln.symm,upd_ne pn.symm,upd_ne un.symm] at hn;exact hn
  refine q u l n _ hu fl fn ⟨upd_same,?_,?_,?_,ul,un,ln⟩ fun b o e hb=>?_
  · rw [upd_ne pu.symm,upd_ne pu.symm,upd_ne un,upd_ne pu.symm,upd_ne ul,upd_ne pu.symm,upd_same];rfl
  · rw [upd_ne pl.symm,upd_ne pl.symm,upd_ne ln,upd_ne pl.symm,upd_same];rfl
  · rw [upd_ne pn.symm,upd_ne pn.symm,upd_same];rfl
  · rw [upd_ne hb,upd_ne hb,upd_ne (ne_of_none e fn),upd_ne hb,upd_ne (ne_of_none e fl),upd_ne hb,upd_ne (ne_of_none e hu)];exact e
theorem ok_can (F:Fun K "can_take" "Scan.can_take" s_Scan_can_take f fd) (T:Tx K mg C) (B:Blt7 mg):FnOk P w K mg base CX0 (k+1) f fd ["self", "sign"] (sp_can C):=by
  refine F.ok sc_Scan_can_take (fun vs H Q E h=>by obtain ⟨p,dx,u,l,n,s,x,i,rfl,_⟩:=h;rfl) (fun cdv A outer s H vs Q E hr h=>?_)
  obtain ⟨p,dx,u,l,n,sc,x,i,rfl,S,hx,I,q⟩:=h
  obtain ⟨u1,h_MOST_PLACES,r_MOST_PLACES⟩:=B.most
  obtain ⟨u2,h_LETTERS,r_LETTERS⟩:=B.letters
  refine ⟨_,(pss_cons (ps_if (pt_cmpR op_eq (pv 1) pe_str (nomark _))
  (pss_one (ps_ret (pe_and (pe_cmpR (op_ne_lst hr.units0) (pe_fld (pv 0) rfl) (pe_lst pa_nil) (nomark _)) (pe_one (pe_cmpR op_ne (pe_fld (pv 0) rfl) pe_str (nomark _))))))
  pss_nil)
  (pss_cons (ps_if (pt_cmpR op_eq (pe_callB call_len_seq rfl B.len bt_len (pa_cons (pe_fld (pv 0) rfl) pa_nil)) (pe_glob (v:=.int 60) rfl h_MOST_PLACES r_MOST_PLACES) (nomark _))
  (pss_one (ps_ret pe_bl))
  pss_nil)
  (pss_cons (ps_if (pt_cmpR op_eq (pv 1) pe_str (nomark _))
  (pss_one (ps_ret (pe_and (pe_cmpR op_in_str (pe_fld (pv 0) rfl) (pe_glob (v:=.str "abcdefghijklmnopqrstuvwxyz") rfl h_LETTERS r_LETTERS) (by with_unfolding_all rfl)) (pe_one (pe_cmpR op_ne (pe_fld (pv 0) rfl) pe_str (nomark _))))))
  pss_nil)
  (pss_one (ps_ret (pe_and (pe_cmpR op_in_str (pv 1) (pe_glob (v:=.str "abcdefghijklmnopqrstuvwxyz") rfl h_LETTERS r_LETTERS) (by with_unfolding_all rfl)) (pe_one (pe_or (pe_cmpR op_eq (pe_fld (pv 0) rfl) pe_str (nomark _)) (pe_one (pe_cmpR (op_ne_lst hr.units0) (pe_fld (pv 0) rfl) (pe_lst pa_nil) (nomark _))))))))))),?_⟩
  have fin:Same H H:=Same.refl H
  have ex:(⟨#[x]⟩:Str)=mk [x]:=rfl
  refine ⟨_,rfl,rfl,_,rfl,?_⟩
  by_cases x41:x=41
  · refine iteB (by rw [ex,e41,dstr,x41];rfl) ?_
    have ce:canB sc x=(decide (sc.wn≠[]) && decide (sc.la≠[40])):=by unfold canB;rw [if_pos x41]
    refine ⟨_,rfl,p,C,dx,_,_,rfl,S.ob,T.cl,T.nW,f_wn,(by show 0≤sizeLine;decide),fun e he=>?_⟩
    have s1:Same H (upd H e (.lst [])):=fin.new he
    refine ⟨n,e,_,[],rfl,rfl,SqL.of (s1 _ _ S.hn),SqL.of upd_same,flat_ints _,rfl,_,rfl,?_⟩
    by_cases wn:sc.wn=[]
    · refine iteN (by rw [eqw,decide_eq_false (fun z=>z wn)]) ?_
      refine bq2 ?_ (q _ s1)
      rw [ce,decide_eq_false (fun z=>z wn)];rfl
    · refine iteB (ne_nil wn) ?_
      refine ⟨_,rfl,p,C,dx,_,_,rfl,s1 _ _ S.ob,T.cl,T.nA,f_la,rfl,?_⟩
      refine bq2 ?_ (q _ s1)
      rw [ce,decide_eq_true wn,e40,dstr]
      simp
  · refine iteN (by rw [ex,e41,dstr];simp [x41]) ?_
    refine ⟨_,rfl,p,C,dx,_,_,rfl,S.ob,T.cl,T.nL,f_let,l,_,rfl,.inl (SqL.of S.hl),rfl,_,rfl,?_⟩
    rw [List.length_map]
    by_cases l60:sc.ls.length=60
    · refine iteB (decide_eq_true (by rw [l60];rfl)) ?_
      refine bq2 ?_ (q _ fin)
      unfold canB;rw [if_neg x41,if_pos l60]
    refine iteN (decide_eq_false fun e=>by injection e with e;omega) ?_
    refine ⟨_,rfl,rfl,_,rfl,?_⟩
    by_cases x40:x=40
    · have ce:canB sc x=(sc.la.all lwB && decide (sc.la≠[])):=by unfold canB;rw [if_neg x41,if_neg l60,if_pos x40]
      refine iteB (by rw [ex,e40,dstr,x40];rfl) ?_
      refine ⟨_,rfl,p,C,dx,_,_,rfl,S.ob,T.cl,T.nA,f_la,_,_,rfl,rfl,_,rfl,?_⟩
      have il:=in_last I.la1 I.la2
      cases hb:sc.la.all lwB with
      | false=>
        refine iteN (il.trans hb) ?_
        refine bq2 ?_ (q _ fin)
        rw [ce,hb];rfl
      | true=>
        refine iteB (il.trans hb) ?_
        refine ⟨_,rfl,p,C,dx,_,_,rfl,S.ob,T.cl,T.nA,f_la,rfl,?_⟩
        refine bq2 ?_ (q _ fin)
        rw [ce,hb,e0,dstr];simp
    · have ce:canB sc x=(lwB x && (decide (sc.la=[]) || decide (sc.wn≠[]))):=by unfold canB;rw [if_neg x41,if_neg l60,if_neg x40]
      refine iteN (by rw [ex,e40,dstr];simp [x40]) ?_
      refine ⟨_,rfl,_,_,rfl,rfl,_,rfl,?_⟩
      have ix:=in_abc hx
      cases hb:lwB x with
      | false=>
        refine iteN (ix.trans hb) ?_
        refine bq2 ?_ (q _ fin)
        rw [ce,hb];rfl
      | true=>
        refine iteB (ix.trans hb) ?_
        refine ⟨_,rfl,p,C,dx,_,_,rfl,S.ob,T.cl,T.nA,f_la,rfl,_,rfl,?_⟩
        rw [e0]
        by_cases l0:sc.la=[]
        · refine iteB (deq l0) ?_
          refine bq2 ?_ (q _ fin)
          rw [ce,hb,decide_eq_true l0];rfl
        · refine iteN (dne l0) ?_
          refine ⟨_,rfl,p,C,dx,_,_,rfl,S.ob,T.cl,T.nW,f_wn,(by show 0≤sizeLine;decide),fun e he=>⟨n,e,_,[],rfl,rfl,SqL.of ((fin.new he) _ _ S.hn),SqL.of upd_same,flat_ints _,rfl,?_⟩⟩
          refine bq2 ?_ (q _ (fin.new he))
          rw [ce,hb,eqw,decide_eq_false l0];rfl
theorem ok_done (F:Fun K "is_done" "Scan.is_done" s_Scan_is_done f fd) (T:Tx K mg C):FnOk P w K mg base CX0 (k+1) f fd ["self"] (sp_done C):=by
  refine F.ok sc_Scan_is_done (fun vs H Q E h=>by obtain ⟨p,dx,u,l,n,s,rfl,_⟩:=h;rfl) (fun cdv A outer s H vs Q E hr h=>?_)
  obtain ⟨p,dx,u,l,n,sc,rfl,S,q⟩:=h
  refine ⟨_,(pss_one (ps_ret (pe_and (pe_cmpR (op_eq_lst hr.units0) (pe_fld (pv 0) rfl) (pe_lst pa_nil) (nomark _)) (pe_one (pe_cmpR op_ne (pe_fld (pv 0) rfl) pe_str (nomark _)))))),?_⟩
  refine ⟨_,rfl,p,C,dx,_,_,rfl,S.ob,T.cl,T.nW,f_wn,(by show 0≤sizeLine;decide),fun e he=>?_⟩
  have s1:Same H (upd H e (.lst [])):=(Same.refl H).new he
  refine ⟨n,e,_,[],rfl,rfl,SqL.of (s1 _ _ S.hn),SqL.of upd_same,flat_ints _,rfl,_,rfl,?_⟩
  have ew:eqVs (sc.wn.map V.int) []=decide (sc.wn=[]):=by
    have:=eqVs_ints sc.wn []
    rw [List.map_nil] at this
    exact this
  by_cases wn:sc.wn=[]
  · refine iteB (by rw [ew,decide_eq_true wn]) ?_
    refine ⟨_,rfl,p,C,dx,_,_,rfl,s1 _ _ S.ob,T.cl,T.nA,f_la,rfl,?_⟩
    refine bq2 ?_ (q _ s1)
    rw [decide_eq_true wn,e0,dstr];simp
  · refine iteN (by rw [ew,decide_eq_false wn]) ?_
    refine bq2 ?_ (q _ s1)
    rw [decide_eq_false wn];rfl
theorem ok_take (F:Fun K "take" "Scan.take" s_Scan_take f fd) (T:Tx K mg C) (B:Blt7 mg):FnOk P w K mg base CX0 (k+1) f fd ["self", "sign"] (sp_tk C):=by
  refine F.ok sc_Scan_take (fun vs H Q E h=>by obtain ⟨p,dx,u,l,n,s,x,rfl,_⟩:=h;rfl) (fun cdv A outer s H vs Q E hr h=>?_)
  obtain ⟨p,dx,u,l,n,sc,x,rfl,S,can,lu,ll,lw,q⟩:=h
  refine ⟨_,(pss_cons (ps_if (pt_cmpR op_eq (pv 1) pe_str (nomark _))
  (pss_one (ps_expr (pe_bm PySem.F.plainAttrs_list PySem.F.slot_list_append PySem.F.type_list_append mt_append (pe_fld (pv 0) rfl) (pa_cons (pe_op op_sub (pe_callB call_len_seq rfl B.len bt_len (pa_cons (pe_fld (pv 0) rfl) pa_nil)) pe_int) pa_nil))))
  (pss_one (ps_if (pt_cmpR op_eq (pv 1) pe_str (nomark _))
  (pss_one (ps_expr (pe_bm0 PySem.F.plainAttrs_list PySem.F.slot_list_pop PySem.F.type_list_pop mt_pop (pe_fld (pv 0) rfl))))
  (pss_cons (ps_expr (pe_bm PySem.F.plainAttrs_list PySem.F.slot_list_append PySem.F.type_list_append mt_append (pe_fld (pv 0) rfl) (pa_cons (pe_ifExp (pt_truth (pe_fld (pv 0) rfl) (fun _=>rfl)) (pe_ix ix_list (pe_fld (pv 0) rfl) (pe_un un_neg pe_int) (fun _ _=>rfl)) (pe_un un_neg pe_int)) pa_nil)))
  (pss_one (ps_expr (pe_bm PySem.F.plainAttrs_list PySem.F.slot_list_append PySem.F.type_list_append mt_append (pe_fld (pv 0) rfl) (pa_cons (pv 1) pa_nil))))))))
  (pss_one (ps_fld (pv 0) (pv 1) rfl))),?_⟩
  have pu:p≠u:=ne_of S.ob S.hu (by intro z;cases z)
  have pl:p≠l:=ne_of S.ob S.hl (by intro z;cases z)
  have pn:p≠n:=ne_of S.ob S.hn (by intro z;cases z)
  have ul:=S.ul
  have un:=S.un
  have ln:=S.ln
  refine ⟨_,rfl,rfl,_,rfl,?_⟩
  have last:∀ (us:List Int) (ls:List Nat) (wn:List Int) (H1:Hp),H1 p=some (.ins C dx (flds u l n (mk sc.la)))→H1 u=some (.lst (us.map V.int))→H1 l=some (.lst (ls.map fun c=>V.str ⟨#[c]⟩))→H1 n=some (.lst (wn.map V.int)) →
      tk sc x=⟨us,ls,wn,[x]⟩→(∀ b o,H b=some o→b≠p→b≠u→b≠l→b≠n→H1 b=some o)→Q .non (upd H1 p (.ins C dx (putF "last" (.str ⟨#[x]⟩) (flds u l n (mk sc.la))))):=fun us ls wn H1 h1 h2 h3 h4 e kp=>by
    rw [f_put]
    refine q _ ?_ fun b o z b1 b2 b3 b4=>by rw [upd_ne b1];exact kp b o z b1 b2 b3 b4
    rw [e]
    exact ⟨upd_same,by rw [upd_ne pu.symm];exact h2,by rw [upd_ne pl.symm];exact h3,by rw [upd_ne pn.symm];exact h4,ul,un,ln⟩
  by_cases x40:x=40
  · refine iteB (by rw [x40];exact deq (a:=[40]) rfl) ?_
    refine ⟨_,rfl,p,C,dx,_,_,rfl,S.ob,T.cl,T.nW,f_wn,.inl ⟨rfl,_,SqL.of S.hn⟩,_,rfl,p,C,dx,_,_,rfl,S.ob,T.cl,T.nL,f_let,l,_,rfl,.inl (SqL.of S.hl),_,_,rfl,rfl,n,_,_,rfl,rfl,S.hn,by rw [List.length_map];exact small10000 (by omega),?_⟩
    refine ⟨_,rfl,_,rfl,p,C,dx,_,rfl,(by rw [upd_ne pn];exact S.ob),T.cl,T.nA,f_len,?_⟩
    refine last sc.us sc.ls (sc.wn++[(sc.ls.length:Int) - 1]) _ (by rw [upd_ne pn];exact S.ob) (by rw [upd_ne un];exact S.hu) (by rw [upd_ne ln];exact S.hl) (by rw [upd_same,List.length_map,List.map_append];rfl) (by unfold tk;rw [if_pos x40]) fun b o z _ _ _ b4=>by rw [upd_ne b4];exact z
  · refine iteN (dne (a:=[x]) (b:=[40]) (fun e=>x40 (by injection e))) ?_
    refine ⟨_,rfl,rfl,_,rfl,?_⟩
    by_cases x41:x=41
    · refine iteB (by rw [x41];exact deq (a:=[41]) rfl) ?_
      have wn:sc.wn≠[]:=fun e=>by
        unfold canB at can
        rw [if_pos x41,decide_eq_false (fun z=>z e)] at can
        cases can
      have pos:0 < sc.wn.length:=List.length_pos_iff.mpr wn
      refine ⟨_,rfl,p,C,dx,_,_,rfl,S.ob,T.cl,T.nW,f_wn,.inl ⟨rfl,_,SqL.of S.hn⟩,n,_,_,rfl,rfl,S.hn,(List.getElem?_eq_getElem (by rw [List.length_map];omega)),?_⟩
      refine ⟨_,rfl,_,rfl,p,C,dx,_,rfl,(by rw [upd_ne pn];exact S.ob),T.cl,T.nA,f_len,?_⟩
      refine last sc.us sc.ls sc.wn.dropLast _ (by rw [upd_ne pn];exact S.ob) (by rw [upd_ne un];exact S.hu) (by rw [upd_ne ln];exact S.hl) (by rw [upd_same,List.map_dropLast]) (by unfold tk;rw [if_neg x40,if_pos x41]) fun b o z _ _ _ b4=>by rw [upd_ne b4];exact z
    · refine iteN (dne (a:=[x]) (b:=[41]) (fun e=>x41 (by injection e))) ?_
      refine ⟨_,rfl,p,C,dx,_,_,rfl,S.ob,T.cl,T.nU,f_ups,.inl ⟨rfl,_,SqL.of S.hu⟩,_,rfl,p,C,dx,_,_,rfl,S.ob,T.cl,T.nW,f_wn,_,.inl ⟨_,SqL.of S.hn,rfl⟩,?_⟩
      have nu:n≠u:=fun e=>un e.symm
      have ob1:∀ o,upd H u o p=some (.ins C dx (flds u l n (mk sc.la))):=fun o=>by rw [upd_ne pu];exact S.ob
      have hl1:∀ o,upd H u o l=some (.lst (sc.ls.map fun c=>V.str ⟨#[c]⟩)):=fun o=>by rw [upd_ne ul.symm];exact S.hl
      refine ite2 (fun c=>?_) (fun c=>?_)
      · have wn:sc.wn≠[]:=fun e=>by rw [e] at c;cases c
        obtain ⟨ws,y,ew⟩:∃ ws y,sc.wn=ws++[y]:=⟨sc.wn.dropLast,sc.wn.getLast wn,(List.dropLast_concat_getLast wn).symm⟩
        have hat:atI (sc.wn.map V.int) (-1)=some (V.int y):=by rw [ew,List.map_append];exact atI_last _ _
        refine ⟨_,rfl,p,C,dx,_,_,rfl,S.ob,T.cl,T.nW,f_wn,_,rfl,n,_,_,_,rfl,rfl,SqL.of S.hn,hat,?_⟩
        have eg:sc.wn.getLastD (-1)=y:=by rw [ew];simp
        refine ⟨u,_,_,rfl,rfl,S.hu,by rw [List.length_map];exact small10000 (by omega),?_⟩
        refine ⟨_,rfl,p,C,dx,_,_,rfl,ob1 _,T.cl,T.nL,f_let,.inl ⟨rfl,_,SqL.of (hl1 _)⟩,_,rfl,l,_,_,rfl,rfl,hl1 _,by rw [List.length_map];exact small10000 (by omega),?_⟩
        refine ⟨_,rfl,_,rfl,p,C,dx,_,rfl,(by rw [upd_ne pl];exact ob1 _),T.cl,T.nA,f_len,?_⟩
        refine last (sc.us++[y]) (sc.ls++[x]) sc.wn _ (by rw [upd_ne pl];exact ob1 _) (by rw [upd_ne ul,upd_same,List.map_append];rfl) (by rw [upd_same,List.map_append];rfl) (by rw [upd_ne ln.symm,upd_ne un.symm];exact S.hn) (by unfold tk;rw [if_neg x40,if_neg x41,eg]) fun b o z _ b2 b3 _=>by rw [upd_ne b3,upd_ne b2];exact z
      · have wn:sc.wn=[]:=by
          cases e:sc.wn with
          | nil=>rfl
          | cons a b=>exact absurd (by rw [e];rfl) c
        have eg:sc.wn.getLastD (-1)=(-1):=by rw [wn];rfl
        refine ⟨_,rfl,u,_,_,rfl,rfl,S.hu,by rw [List.length_map];exact small10000 (by omega),?_⟩
        refine ⟨_,rfl,p,C,dx,_,_,rfl,ob1 _,T.cl,T.nL,f_let,.inl ⟨rfl,_,SqL.of (hl1 _)⟩,_,rfl,l,_,_,rfl,rfl,hl1 _,by rw [List.length_map];exact small10000 (by omega),?_⟩
        refine ⟨_,rfl,_,rfl,p,C,dx,_,rfl,(by rw [upd_ne pl];exact ob1 _),T.cl,T.nA,f_len,?_⟩
        refine last (sc.us++[(-1)]) (sc.ls++[x]) sc.wn _ (by rw [upd_ne pl];exact ob1 _) (by rw [upd_ne ul,upd_same,List.map_append];rfl) (by rw [upd_same,List.map_append];rfl) (by rw [upd_ne ln.symm,upd_ne un.symm];exact S.hn) (by unfold tk;rw [if_neg x40,if_neg x41,eg]) fun b o z _ b2 b3 _=>by rw [upd_ne b3,upd_ne b2];exact z
end
end S04
namespace L2
open PySem PySem.Spec PyProof.Rows PySem.W
section
variable {X:Cx}
theorem mt_scount:MtR X "str.count" (fun x vs H Q=>∃ z p,x=.str z∧vs=[.str p]∧Q (.int (Txt.count z p)) H):=by
  intro pins s σ H x xs v us Q I rx rv h
  obtain ⟨z,p,rfl,rfl,q⟩:=h
  obtain ⟨t,rfl⟩:=rx
  obtain ⟨u,rfl,t',rfl⟩:=rv.one
  exact SC.count ⟨.int _,H,I.tok _,⟨_,rfl⟩,q⟩
end
end L2
namespace L2
open PySem
theorem mid {t u:TS} {D:Ends} {σ:St} {H:Hp} (P:St→Hp→Prop) (h2:∀ σ' H',P σ' H'→u D σ' H') (h1:∀ E:Ends,(∀ σ' H',P σ' H'→E.nx σ' H')→t E σ H):tSeq t u D σ H:=h1 { D with nx:=u D } h2
end L2
namespace L2
open PySem PySem.Spec PyProof.Rows PySem.W
mutual
inductive Td (H:Hp):V→PyData→Prop
  | non:Td H .non .none
  | bl (b:Bool):Td H (.bl b) (.bool b)
  | int (i:Int):Td H (.int i) (.int i)
  | str (z:Str):Td H (.str z) (.str z)
  | lst {a:Addr} {xs:List V} {ds:List PyData}:H a=some (.lst xs)→Tds H xs ds→Td H (.ref a) (.list ds)
  | tup {a:Addr} {xs:List V} {ds:List PyData}:H a=some (.tup xs)→Tds H xs ds→Td H (.ref a) (.tuple ds)
  | dct {a:Addr} {kvs:List (Key × V)} {ps:List (PyData × PyData)}:H a=some (.dK kvs)→Tds H (kvs.map fun p=>kV p.1) (ps.map (·.1))→Tds H (kvs.map (·.2)) (ps.map (·.2))→Td H (.ref a) (.dict ps)
inductive Tds (H:Hp):List V→List PyData→Prop
  | nil:Tds H [] []
  | cons {v:V} {d:PyData} {vs:List V} {ds:List PyData}:Td H v d→Tds H vs ds→Tds H (v :: vs) (d :: ds)
end
mutual
theorem Td.same {H H':Hp} (s:Same H H'):∀ {v:V} {d:PyData},Td H v d→Td H' v d
  | _,_,.non=>.non
  | _,_,.bl b=>.bl b
  | _,_,.int i=>.int i
  | _,_,.str z=>.str z
  | _,_,.lst e t=>.lst (s _ _ e) (t.same s)
  | _,_,.tup e t=>.tup (s _ _ e) (t.same s)
  | _,_,.dct e t u=>.dct (s _ _ e) (t.same s) (u.same s)
theorem Tds.same {H H':Hp} (s:Same H H'):∀ {vs:List V} {ds:List PyData},Tds H vs ds→Tds H' vs ds
  | _,_,.nil=>.nil
  | _,_,.cons t u=>.cons (t.same s) (u.same s)
end
mutual
def noList:PyData→Bool
  | .none | .bool _ | .int _ | .str _=>true
  | .list _=>false
  | .tuple xs=>noListAll xs
  | .dict kvs=>noListKv kvs
def noListAll:List PyData→Bool
  | []=>true
  | x :: xs=>noList x && noListAll xs
def noListKv:List (PyData × PyData)→Bool
  | []=>true
  | (k,v) :: r=>noList k && noList v && noListKv r
end
theorem noListKv_keys:∀ kvs:List (PyData × PyData),noListKv kvs=true→noListAll (kvs.map (·.1))=true∧noListAll (kvs.map (·.2))=true
  | [],_=>⟨by simp only [List.map_nil,noListAll],by simp only [List.map_nil,noListAll]⟩
  | (k,v) :: r,h=>by
    simp only [noListKv,Bool.and_eq_true] at h
    obtain ⟨a,b⟩:=noListKv_keys r h.2
    simp only [List.map_cons,noListAll,Bool.and_eq_true]
    exact ⟨⟨h.1.1,a⟩,⟨h.1.2,b⟩⟩
theorem pairs_vals {P:Program} {w:World} {es:List DictEntry} {vs:List (Key × Value)} (h:Pairs (mixKind P w) es vs):∀ {kvs:List (Key × V)},KV kvs vs→Vals (kvs.map fun p=>kV p.1) (es.map (·.key))∧Vals (kvs.map (·.2)) (es.map (·.val)):=by
  induction h with
  | nil=>intro kvs r;cases r;exact ⟨.nil,.nil⟩
  | cons hk hv _ ih=>
    intro kvs r
    cases r with
    | cons r1 r2=>
      obtain ⟨a,b⟩:=ih r2
      refine ⟨.cons ?_ a,.cons (by show RelV _ _;simp only [hv];exact r1.2) b⟩
      show RelV (kV _) _
      simp only [r1.1]
      rcases keyIs_shape hk with ⟨i,t,e,e'⟩ | ⟨x,t,e,e'⟩
      · rw [e,e'];exact ⟨t,rfl⟩
      · rw [e,e'];exact ⟨t,rfl⟩
section
variable {X:Cx} {pins:List (Addr × Obj)} {σ:St} {H:Hp} {s:Shared}
mutual
theorem reads_td (I:Inv X pins σ H s):∀ {v:V} {d:PyData},Td H v d→∀ {u:Value},RelV v u→∃ as,Reads s.heap u d as∧(noList d=true→sysModules ∉ as)
  | _,_,.non,_,r=>by cases r;exact ⟨[],.none,fun _ h=>by cases h⟩
  | _,_,.bl b,_,r=>by cases r;exact ⟨[],.bool b,fun _ h=>by cases h⟩
  | _,_,.int i,_,r=>by obtain ⟨t,rfl⟩:=r;exact ⟨[],.int i t,fun _ h=>by cases h⟩
  | _,_,.str z,_,r=>by obtain ⟨t,rfl⟩:=r;exact ⟨[],.str z t,fun _ h=>by cases h⟩
  | _,_,.lst e t,_,r=>by
    cases r
    obtain ⟨_,its,n,rv,g⟩:=I.hok _ _ e
    obtain ⟨as,ra,_⟩:=reads_tds I t rv
    exact ⟨_,.list g rfl rfl ra,fun h=>by simp only [noList] at h;cases h⟩
  | _,_,.tup e t,_,r=>by
    cases r
    obtain ⟨_,its,rv,o,g,c,n,dd⟩:=I.hok _ _ e
    obtain ⟨as,ra,na⟩:=reads_tds I t rv
    exact ⟨as,.tuple g c dd ra,fun h=>na (by simpa only [noList] using h)⟩
  | _,_,.dct e t u,_,r=>by
    cases r
    obtain ⟨_,hs,vs,kv,o,es,ep,g,ex,dd,_,pr,_⟩:=I.hok _ _ e
    obtain ⟨v1,v2⟩:=pairs_vals pr kv
    obtain ⟨as,ra,na⟩:=reads_tds I t v1
    obtain ⟨bs,rb,nb⟩:=reads_tds I u v2
    refine ⟨_,.dict g ex.1 dd ra rb,fun h=>?_⟩
    simp only [noList] at h
    obtain ⟨h1,h2⟩:=noListKv_keys _ h
    intro m
    rcases List.mem_append.mp m with m | m
    · rcases List.mem_cons.mp m with m | m
      · exact beq_eq_false_iff_ne.mp hs m.symm
      · exact na h1 m
    · exact nb h2 m
theorem reads_tds (I:Inv X pins σ H s):∀ {vs:List V} {ds:List PyData},Tds H vs ds→∀ {us:List Value},Vals vs us→∃ as,ReadsAll s.heap us ds as∧(noListAll ds=true→sysModules ∉ as)
  | _,_,.nil,_,r=>by cases r;exact ⟨[],.nil,fun _ h=>by cases h⟩
  | _,_,.cons t u,_,r=>by
    cases r with
    | cons r1 r2=>
      obtain ⟨as,ra,na⟩:=reads_td I t r1
      obtain ⟨bs,rb,nb⟩:=reads_tds I u r2
      refine ⟨as++bs,.cons ra rb,fun h=>?_⟩
      simp only [noListAll,Bool.and_eq_true] at h
      intro m
      rcases List.mem_append.mp m with m | m
      · exact na h.1 m
      · exact nb h.2 m
end
variable {k:Nat}
end
section
variable {H:Hp}
end
section
variable {hd hl:Bool} {c c' e e':Nat} {d:PyData} {ds es:List PyData}
end
end L2
namespace W56
open PySem
end W56
namespace W56
open PySem
end W56
namespace L2
open PySem PySem.Spec PyProof.Rows PySem.W
def isStrD:PyData→Bool | .str _=>true | _=>false
section
variable {K:PySem.W.Frag} {H:Hp} {v:V} {d:PyData}
theorem td_str (h:Td H v d):∃ t,TyOf K H v t∧kitOne K t (.type "str")=some (isStrD d):=by
  cases h with
  | non=>exact ⟨_,.non,by rfl⟩
  | bl b=>exact ⟨_,.bl b,by rfl⟩
  | int i=>exact ⟨_,.int i,by rfl⟩
  | str z=>exact ⟨_,.str z,by rfl⟩
  | lst e _=>exact ⟨_,.lst e,by rfl⟩
  | tup e _=>exact ⟨_,.tup e,by rfl⟩
  | dct e _ _=>exact ⟨_,.dK e,by rfl⟩
end
end L2
namespace L2
open PySem PySem.Spec PyProof.Rows PySem.W
structure PSw (X:Cx) (sts:List Stmt) (t:TS):Prop where
  h:PSs X sts t
structure Pw (X:Cx) (st:Stmt) (t:TS):Prop where
  h:PS X st t
structure PEw (X:Cx) (e:Expr) (t:TE):Prop where
  h:PE X e t
structure PAw (X:Cx) (es:List Expr) (t:TA):Prop where
  h:PA X es t
section
variable {X:Cx}
theorem exw {sts:List Stmt} {R:TS→Prop} (h:∃ t,PSw X sts t∧R t):∃ t,PSs X sts t∧R t:=let ⟨t,a,b⟩:=h;⟨t,a.h,b⟩
theorem w_cons {st:Stmt} {rest:List Stmt} {t u:TS} (h1:Pw X st t) (h2:PSw X rest u):PSw X (st :: rest) (tSeq t u):=⟨pss_cons h1.h h2.h⟩
theorem w_one {st:Stmt} {t:TS} (h:Pw X st t):PSw X [st] t:=⟨pss_one h.h⟩
theorem w_set {i:Nat} {x:Str} {e:Expr} {te:TE} {pos' pos:Pos} (hN:X.N.Nodup) (hi:X.N[i]?=some x) (hx:Loc X.env.scope x) (he:PEw X e te) (hs:swapsWith e (some (.Name x pos')) pos.line X.env=pure false:=by rfl) (hf:X.fn x=true∨X.env.scope.names.lookup x=some .local:=by first | exact .inl rfl | exact .inr rfl | assumption) :
    Pw X (.Assign [.Name x pos'] e pos) (tAsg te (gName i)):=⟨ps_set hN hi hx he.h hs hf⟩
theorem w_ret {e:Expr} {te:TE} {pos:Pos} (he:PEw X e te):Pw X (.Return (some e) pos) (tRet te):=⟨ps_ret he.h⟩
theorem w_ix {a b:Expr} {ta tb:TE} {pos:Pos} {r:R2} (hr:IxR X r) (ha:PEw X a ta) (hb:PEw X b tb) (hs:PlainIx b):PEw X (.Subscript a b pos) (tOp r ta tb):=⟨pe_ix hr ha.h hb.h hs⟩
theorem w_op {a b:Expr} {ta tb:TE} {pos:Pos} {op:Operator} {r:R2} (ho:OpR X (binaryOp op) r) (ha:PEw X a ta) (hb:PEw X b tb):PEw X (.BinOp a op b pos) (tOp r ta tb):=⟨pe_op ho ha.h hb.h⟩
theorem w_lst {es:List Expr} {t:TA} {pos:Pos} (h:PAw X es t):PEw X (.List es pos) (tLst t):=⟨pe_lst h.h⟩
theorem w_tup {es:List Expr} {t:TA} {pos:Pos} {x1} (h:PAw X es t):PEw X (.Tuple es x1 pos) (tTup t):=⟨pe_tup h.h⟩
theorem w_acons {e:Expr} {es:List Expr} {te:TE} {t:TA} (ha:PEw X e te) (hr:PAw X es t) (hs:starEach (e :: es) X.env=(false,eval e X.env) :: starEach es X.env:=by rfl):PAw X (e :: es) (tCons te t):=⟨pa_cons ha.h hr.h hs⟩
theorem w_anil:PAw X [] tNil:=⟨pa_nil⟩
theorem w_str {x:Str} {j} {pos:Pos}:PEw X (.Constant (.str x) j pos) (tC (.str x)):=⟨pe_str⟩
end
end L2
namespace S04
open PySem L2 W7
theorem flat_one:∀ l:List Nat,(l.map fun c:Nat=>(⟨#[c]⟩:Str).cps.toList).flatten=l
  | []=>rfl
  | c :: l=>by rw [List.map_cons,List.flatten_cons,flat_one l];rfl
structure ExN (K:PySem.W.Frag) (mg:Str→Option Value) where
  c_NoTree:Addr
  f_NoTree:Addr
  d_NoTree:FuncData
  m_NoTree:mg "NoTree" = some (.ref c_NoTree)
  mk_NoTree:MkX K c_NoTree f_NoTree
  F_NoTree:Fun K "__init__" "NoTree.__init__" s_NoTree___init__ f_NoTree d_NoTree
  st:ExSt K c_NoTree
  na:PySem.W.findIn K (.ref c_NoTree) "at" = some none
  z_NoTree:ExK K c_NoTree
  u_NoTree:PySem.W.exmOne K (.ref c_NoTree) (.ref c_NoTree)=some true
section
variable {P:Program} {w:World} {K:PySem.W.Frag} {mg:Str→Option Value} {base:Heap} {k:Nat}
def Made (K:PySem.W.Frag) (mg:Str→Option Value):Prop:=∃ (C fI fC fT fD:Addr) (dI dC dT dD:FuncData),Tx K mg C∧Mk K C fI∧Fun K "__init__" "Scan.__init__" s_Scan___init__ fI dI ∧
  Meth K C "can_take" fC∧Fun K "can_take" "Scan.can_take" s_Scan_can_take fC dC∧Meth K C "take" fT∧Fun K "take" "Scan.take" s_Scan_take fT dT∧Meth K C "is_done" fD∧Fun K "is_done" "Scan.is_done" s_Scan_is_done fD dD
def sp_ninit (cN:Addr):Sp:=fun vs H Q _=>∃ (a:Addr) (y:V),vs=[.ref a,y]∧H a=some (excM a cN)∧∀ dx,H dx=none→dx≠a→Q .non (upd (upd H dx (.xd [("at", y)])) a (excS a cN dx))
theorem ok_ninit (EX:ExN K mg):FnOk P w K mg base CX0 (k+1) EX.f_NoTree EX.d_NoTree ["self", "at"] (sp_ninit EX.c_NoTree):=by
  refine EX.F_NoTree.ok sc_NoTree___init__ (fun vs H Q E h=>by obtain ⟨a,y,rfl,_⟩:=h;rfl) (fun cdv A outer s H vs Q E hr h=>?_)
  obtain ⟨a,y,rfl,ha,q⟩:=h
  refine ⟨_,(pss_one (ps_fldX (pv 0) (pv 1) rfl)),?_⟩
  exact ⟨_,rfl,_,rfl,a,EX.c_NoTree,rfl,ha,EX.st,EX.na,fun dx nd ne=>q dx nd ne⟩
def Raised (cN:Addr) (v:V) (H:Hp) (E:XK):Prop:=∀ (a dx:Addr) (H':Hp),Same H H'→H a=none→H' a=some (excD a cN dx)→H' dx=some (.xd [("at", v)])→E (.ref a) (some cN) H'
theorem raise_ok {K:PySem.W.Frag} {mg:Str→Option Value} (EX:ExN K mg) {v:V} {H H1:Hp} {E:XK} (R:Raised EX.c_NoTree v H E) (s:Same H H1) {a:Addr} (ha:H1 a=none) :
    sp_ninit EX.c_NoTree [.ref a,v] (upd H1 a (excM a EX.c_NoTree)) (fun r H2=>r=.non∧∃ a' C dx,V.ref a=.ref a'∧H2 a'=some (excS a' C dx)∧exiIn K C=true∧H a'=none∧E (.ref a') (some C) (upd H2 a' (excD a' C dx))) (fun _ _ _=>False):=by
  refine ⟨a,v,rfl,upd_same,fun dx nd ne=>⟨rfl,a,EX.c_NoTree,dx,rfl,upd_same,EX.mk_NoTree.q,s.free ha,?_⟩⟩
  refine R a dx _ (fun b o e=>?_) (s.free ha) upd_same ?_
  · have e1:=s b o e
    have nb:b≠a:=ne_of_none e1 ha
    have nd2:b≠dx:=fun z=>by rw [z] at e1;rw [upd_ne (z ▸ nb)] at nd;rw [nd] at e1;cases e1
    rw [upd_ne nb,upd_ne nb,upd_ne nd2,upd_ne nb];exact e1
  · rw [upd_ne ne,upd_ne ne,upd_same]
def sp_readN (cN:Addr):Sp:=fun vs H Q E=>∃ (v:V) (d:PyData),vs=[v]∧Td H v d∧isStrD d=false∧Raised cN (.int (-1)) H E
def sp_readS (cN:Addr):Sp:=fun vs H Q E=>∃ z:Str,vs=[.str z]∧z.length≤4000∧(∀ c∈z.cps.toList,c < 1000)∧(∀ i:Nat,outc z.cps.toList=.inl i→Raised cN (.int (i:Int)) H E) ∧
  ∀ sc,outc z.cps.toList=.inr sc→∀ (t u:Addr) (H':Hp),Same H H'→H' t=some (.tup [.ref u,.str (mk sc.ls)])→H' u=some (.tup (sc.us.map V.int))→Q (.ref t) H'
def sp_readX (cN:Addr):Sp:=fun vs H Q E=>sp_readN cN vs H Q E∨sp_readS cN vs H Q E
theorem has_readX (EX:ExN K mg) (D:Df K mg "read_tree" s_read_tree) (B:Blt7 mg) (M:Made K mg):HasXD P w K mg base "read_tree" (k+1+1+1) ["text"] (sp_readX EX.c_NoTree):=by
  obtain ⟨C,fI,fC,fT,fD,dI,dC,dT,dD,T,Mk_Scan,F_I,m_Scan_can_take,F_C,m_Scan_take,F_T,m_Scan_is_done,F_D⟩:=M
  have G_Scan___init__:FnOk P w K mg base CX0 (k+1) fI dI ["self"] (sp_init C):=ok_init F_I T
  have G_Scan_can_take:FnOk P w K mg base CX0 (k+1+1) fC dC ["self", "sign"] (sp_can C):=ok_can F_C T B
  have G_Scan_take:FnOk P w K mg base CX0 (k+1+1) fT dT ["self", "sign"] (sp_tk C):=ok_take F_T T B
  have G_Scan_is_done:FnOk P w K mg base CX0 (k+1+1) fD dD ["self"] (sp_done C):=ok_done F_D T
  have G_NoTree___init__:FnOk P w K mg base CX0 (k+1) EX.f_NoTree EX.d_NoTree ["self", "at"] (sp_ninit EX.c_NoTree):=ok_ninit EX
  have b_Scan___init__:=F_I.binds (ps:=["self"]) (fun _ _ _ _ _ _ us hl=>match us,hl with | [_],_=>rfl)
  have b_Scan_can_take:=F_C.binds (ps:=["self", "sign"]) (fun _ _ _ _ _ _ us hl=>match us,hl with | [_,_],_=>rfl)
  have b_Scan_take:=F_T.binds (ps:=["self", "sign"]) (fun _ _ _ _ _ _ us hl=>match us,hl with | [_,_],_=>rfl)
  have b_Scan_is_done:=F_D.binds (ps:=["self"]) (fun _ _ _ _ _ _ us hl=>match us,hl with | [_],_=>rfl)
  have b_NoTree___init__:=EX.F_NoTree.binds (ps:=["self", "at"]) (fun _ _ _ _ _ _ us hl=>match us,hl with | [_,_],_=>rfl)
  refine D.hasXD sc_read_tree (fun _ _ _ _ _ _ us hl=>match us,hl with | [_],_=>rfl) (fun vs H Q E h=>by rcases h with ⟨v,d,rfl,_⟩ | ⟨z,rfl,_⟩ <;> rfl) (fun f cdv A outer s H vs Q E hr h=>?_)
  refine ⟨_,(pss_cons (ps_if (pt_not (pt_val (pe_callB call_isinst rfl B.isinstance bt_isinstance (pa_cons (pv 0) (pa_cons (pe_bltn (v:=.ty "str") rfl B.str_ bt_str rfl) pa_nil)))))
  (pss_one (ps_raiseV raisesD_cx (pe_makeX EX.mk_NoTree G_NoTree___init__ hr rfl EX.m_NoTree b_NoTree___init__ pass0 (pa_cons (pe_un un_neg pe_int) pa_nil))))
  pss_nil)
  (pss_cons (ps_set (i:=1) sc_read_tree.nd rfl (by first | exact Or.inl rfl | exact Or.inr rfl) (pe_make0 Mk_Scan G_Scan___init__ hr rfl T.mgC b_Scan___init__ .nil pass0))
  (pss_cons (ps_for PassesOwn.leaving rfl (pi_enum rfl B.enumerate (pa_cons (pv 0) pa_nil)) (pg_tup rfl (pgs_cons (pg_name (i:=2) sc_read_tree.nd rfl (by first | exact Or.inl rfl | exact Or.inr rfl)) (pgs_cons (pg_name (i:=3) sc_read_tree.nd rfl (by first | exact Or.inl rfl | exact Or.inr rfl)) pgs_nil)))
  (pss_cons (ps_if (pt_not (pt_truth (pe_meth (pv 1) T.cl m_Scan_can_take G_Scan_can_take hr b_Scan_can_take .nil pass0 (pa_cons (pv 3) pa_nil)) (fun _=>rfl)))
  (pss_one (ps_raiseV raisesD_cx (pe_makeX EX.mk_NoTree G_NoTree___init__ hr rfl EX.m_NoTree b_NoTree___init__ pass0 (pa_cons (pv 2) pa_nil))))
  pss_nil)
  (pss_one (ps_expr (pe_meth (pv 1) T.cl m_Scan_take G_Scan_take hr b_Scan_take .nil pass0 (pa_cons (pv 3) pa_nil))))))
  (pss_cons (ps_if (pt_not (pt_truth (pe_meth0 (pv 1) T.cl m_Scan_is_done G_Scan_is_done hr b_Scan_is_done .nil pass0) (fun _=>rfl)))
  (pss_one (ps_raiseV raisesD_cx (pe_makeX EX.mk_NoTree G_NoTree___init__ hr rfl EX.m_NoTree b_NoTree___init__ pass0 (pa_cons (pe_callB call_len_str rfl B.len bt_len (pa_cons (pv 0) pa_nil)) pa_nil))))
  pss_nil)
  (pss_one (ps_ret (pe_tup (pa_cons (pe_callTy call_tuple_of rfl B.tuple_ bt_tuple (pa_cons (pe_fld (pv 1) rfl) pa_nil)) (pa_cons (pe_bm PySem.F.plainAttrs_str PySem.F.slot_str_join PySem.F.type_str_join mt_join pe_str (pa_cons (pe_fld (pv 1) rfl) pa_nil)) pa_nil))))))))),?_⟩
  rcases h with ⟨v,d,rfl,td,nd,R⟩ | ⟨z,rfl,zl,zb,qe,q⟩
  · obtain ⟨t1,a1,a2⟩:=td_str (K:=K) td
    rw [nd] at a2
    refine ⟨_,rfl,_,t1, "str", _,rfl,a1,a2,_,rfl,iteT ?_⟩
    exact ⟨_,rfl,(by show 1≤sizeLine;decide),fun a ha=>raise_ok EX R (Same.refl H) ha⟩
  obtain ⟨cs,rfl⟩:∃ cs:List Nat,z=mk cs:=⟨z.cps.toList,str_ext rfl⟩
  rw [mk_cps] at zb qe q
  have tl:cs.length≤4000:=zl
  refine ⟨_,rfl,_,_,_,true,rfl,.str _,kit_same _ _,_,rfl,iteF ?_⟩
  intro x dx nx ndx nex
  refine ⟨x,dx,rfl,upd_same,fun u l n H1 fu fl fn S1 kp=>⟨rfl,?_⟩⟩
  have s0:Same H (upd (upd H dx (.own x)) x (.ins C dx [])):=fun b o e=>by
    rw [upd_ne (ne_of_none e nx),upd_ne (ne_of_none e ndx)]
    exact e
  have s1:Same H H1:=fun b o e=>kp b o (s0 b o e) (ne_of_none e nx)
  have fu0:H u=none:=s0.free fu
  have fl0:H l=none:=s0.free fl
  have fn0:H n=none:=s0.free fn
  refine ⟨_,rfl,.str (mk cs),rfl,⟨_,rfl⟩,?_⟩
  have sl:(signs (mk cs)).length=cs.length:=by unfold signs;rw [List.length_map];rfl
  refine for_enum (κ:=.str (mk cs)) (xs:=signs (mk cs)) (fun i σ H'=>∃ (o2 o3:Option V) (sc:Sc),σ=[some (.str (mk cs)),some (.ref x),o2,o3]∧Same H H'∧ScAt C H' x dx u l n sc∧ScI sc i∧rdE ⟨[],[],[],[]⟩ 0 cs=rdE sc i (cs.drop i))
    ⟨none,none,_,rfl,s1,S1,ScI.zero,rfl⟩ (fun i σ H' hi h=>rfl) ?_ ?_
  · rintro i x1 σ H' p hx ⟨o2,o3,sc,rfl,sX,SX,II,er⟩ hp
    have hi:i < cs.length:=by rw [← sl];exact (List.getElem?_eq_some_iff.mp hx).1
    obtain ⟨ch,ech,edr,chm⟩:∃ ch,x1=.str ⟨#[ch]⟩∧cs.drop i=ch :: cs.drop (i+1)∧ch∈cs:=by
      refine ⟨cs[i],?_,List.drop_eq_getElem_cons hi,List.getElem_mem _⟩
      unfold signs at hx
      rw [mk_cps,List.getElem?_map,List.getElem?_eq_getElem hi] at hx
      exact (Option.some.inj hx).symm
    subst ech
    have hch:=zb ch chm
    have hP:=(Same.refl H').new (o:=.tup [.int (i:Int),.str ⟨#[ch]⟩]) hp
    refine ⟨p,_,rfl,SqT.of upd_same,rfl,_,_,rfl,_,_,rfl,rfl,?_⟩
    generalize upd H' p (.tup [.int (i:Int),.str ⟨#[ch]⟩])=HP at hP
    have SP:=SX.same hP
    refine ⟨_,rfl,x,dx,_,rfl,SP.ob,f_no (by decide +kernel) (by decide +kernel) (by decide +kernel) (by decide +kernel),_,rfl,x,dx,u,l,n,sc,ch,i,rfl,SP,hch,II,fun H2 s2=>⟨canB sc ch,rfl,?_⟩⟩
    have sH2:=(sX.trans hP).trans s2
    cases can:canB sc ch with
    | false=>
      refine iteT ?_
      have eo:outc cs=.inl i:=by
        unfold outc
        rw [er,edr,rdE_bad can]
      exact ⟨_,rfl,(by show 1≤sizeLine;decide),fun a ha=>raise_ok EX (qe i eo) sH2 ha⟩
    | true=>
      refine iteF ?_
      have S2:=SP.same s2
      have i1:=II.us
      have i2:=II.ls
      have i3:=II.wn
      refine ⟨_,rfl,x,dx,_,rfl,S2.ob,f_no (by decide +kernel) (by decide +kernel) (by decide +kernel) (by decide +kernel),_,rfl,x,dx,u,l,n,sc,ch,rfl,S2,can,by omega,by omega,by omega,fun H3 S3 k3=>?_⟩
      refine ⟨_,_,tk sc ch,rfl,fun b o e=>k3 b o (sH2 b o e) (ne_of_none e nx) (ne_of_none e fu0) (ne_of_none e fl0) (ne_of_none e fn0),S3,II.next hch can,?_⟩
      rw [er,edr,rdE_ok can]
  · rintro σ H' ⟨o2,o3,sc,rfl,sX,SX,II,er⟩
    rw [sl,List.drop_length] at er
    have eo:outc cs=if sc.wn=[]∧sc.la≠[] then .inr sc else .inl cs.length:=by unfold outc;rw [er];rfl
    refine ⟨_,rfl,x,dx,_,rfl,SX.ob,f_no (by decide +kernel) (by decide +kernel) (by decide +kernel) (by decide +kernel),x,dx,u,l,n,_,rfl,SX,fun H2 s2=>⟨_,rfl,?_⟩⟩
    have S2:=SX.same s2
    have s02:=sX.trans s2
    by_cases hd:sc.wn=[]∧sc.la≠[]
    · rw [if_pos hd] at eo
      rw [decide_eq_true hd.1,decide_eq_true hd.2]
      refine iteF ?_
      refine ⟨_,rfl,x,C,dx,_,_,rfl,S2.ob,T.cl,T.nU,f_ups,u,_,rfl,.inl ⟨SqL.of S2.hu,fun v hv=>?_⟩⟩
      have s3:Same H2 (upd H2 v (.tup (sc.us.map V.int))):=(Same.refl H2).new hv
      have h3:upd H2 v (.tup (sc.us.map V.int)) v=some (.tup (sc.us.map V.int)):=upd_same
      have S3:=S2.same s3
      show (fun H3=>_) (upd H2 v (.tup (sc.us.map V.int)))
      generalize upd H2 v (.tup (sc.us.map V.int))=H3 at s3 h3 S3
      have hl3:H3 l=some (.lst ((sc.ls.map fun c:Nat=>(⟨#[c]⟩:Str)).map V.str)):=by rw [List.map_map];exact S3.hl
      have ej:Txt.join (Str.ofString "") (sc.ls.map fun c:Nat=>(⟨#[c]⟩:Str))=mk sc.ls:=str_ext (by rw [join_cps,List.map_map,mk_cps];exact flat_one _)
      have l60:=II.l60
      refine ⟨rfl,_,rfl,x,C,dx,_,_,rfl,S3.ob,T.cl,T.nL,f_let,_,l,_,rfl,rfl,SqL.of hl3,?_,?_⟩
      · have sb:=sum_le (ps:=sc.ls.map fun c:Nat=>(⟨#[c]⟩:Str)) (b:=1) (fun p hp=>by
          obtain ⟨c,_,rfl⟩:=List.mem_map.mp hp
          exact Nat.le_refl _)
        have e0:(Str.ofString "").length=0:=rfl
        rw [List.length_map] at sb
        rw [e0,Nat.mul_zero,Nat.add_zero]
        omega
      · rw [ej]
        refine ⟨by show 2≤sizeLine;decide,fun t ht=>?_⟩
        have s4:Same H3 (upd H3 t (.tup [.ref v,.str (mk sc.ls)])):=(Same.refl H3).new ht
        exact q sc eo t v _ ((s02.trans s3).trans s4) upd_same (s4 _ _ h3)
    · rw [if_neg hd] at eo
      have e1:(decide (sc.wn=[]) && decide (sc.la≠[]))=false:=by
        rw [Bool.and_eq_false_iff,decide_eq_false_iff_not,decide_eq_false_iff_not]
        by_cases h1:sc.wn=[]
        · exact .inr fun z=>hd ⟨h1,z⟩
        · exact .inl h1
      rw [e1]
      refine iteT ?_
      exact ⟨_,rfl,mk cs,rfl,Nat.le_of_lt (small10000 (by show cs.length < _;omega)),(by show 1≤sizeLine;decide),fun a ha=>raise_ok EX (qe _ eo) s02 ha⟩
end
end S04
namespace S04
open PySem L2 W7
theorem cut_la {cs:List Nat} {i:Nat} (h:i≤cs.length):cutS (mk cs) (some (if (i:Int) - 1 > 0 then (i:Int) - 1 else 0)) (some (i:Int))=mk ((cs.take i).drop (i - 1)):=by
  have e1:(mk cs).length=cs.length:=mk_len cs
  have f0:(if (i:Int) - 1 > 0 then (i:Int) - 1 else 0)=((i - 1:Nat):Int):=by split <;> omega
  apply str_ext
  show (((mk cs).cps.toList.drop (HT.sIx (mk cs).length 0 (some _))).take (HT.sIx (mk cs).length (mk cs).length (some (i:Int)) - HT.sIx (mk cs).length 0 (some _))).toArray.toList=_
  rw [f0,HT.sIx_nat,HT.sIx_nat,e1,mk_cps,mk_cps]
  show (cs.drop (min (i - 1) cs.length)).take (min i cs.length - min (i - 1) cs.length)=_
  rw [show min (i - 1) cs.length=i - 1 by omega,show min i cs.length=i by omega,List.drop_take]
theorem in3 (la:List Nat):inV (V.str (mk la)) [.str (Str.ofString ""),.str (Str.ofString "("),.str (Str.ofString ")")]=(decide (la=[]) || (decide (la=[40]) || decide (la=[41]))):=by
  have e:∀ b:List Nat,eqV (V.str (mk b)) (V.str (mk la))=decide (la=b):=fun b=>by
    show ((mk b) == (mk la))=_
    by_cases h:la=b
    · rw [h,decide_eq_true rfl];exact beq_self_eq_true _
    · rw [decide_eq_false h];exact beq_eq_false_iff_ne.mpr fun z=>h (mk_inj z).symm
  unfold inV
  rw [e0,e40,e41]
  simp only [List.any_cons,List.any_nil,Bool.or_false,e]
def LaOk (s:Sc):Prop:=∀ c∈s.la,c=40∨c=41∨lwB c=true
theorem la_cases {s:Sc} {i:Nat} (I:ScI s i) (L:LaOk s):(s.la.all lwB && decide (s.la≠[]))=!(decide (s.la=[]) || (decide (s.la=[40]) || decide (s.la=[41]))):=by
  have h1:=I.la1
  unfold LaOk at L
  match hla:s.la,h1,L with
  | [],_,_=>rfl
  | [c],_,L=>
    rcases L c (List.mem_singleton.mpr rfl) with rfl | rfl | h
    · rfl
    · rfl
    · have c40:c≠40:=fun e=>by rw [e] at h;revert h;decide
      have c41:c≠41:=fun e=>by rw [e] at h;revert h;decide
      simp [h,c40,c41]
  | _ :: _ :: _,h1,_=>simp at h1
theorem la_next {s:Sc} {x:Nat} (can:canB s x=true):LaOk (tk s x):=by
  have e:(tk s x).la=[x]:=by unfold tk;split <;> (try split) <;> rfl
  intro c hc
  rw [e] at hc
  rw [List.mem_singleton.mp hc]
  unfold canB at can
  by_cases x41:x=41
  · exact .inr (.inl x41)
  · by_cases x40:x=40
    · exact .inl x40
    · rw [if_neg x41] at can
      by_cases l:s.ls.length=60
      · rw [if_pos l] at can;cases can
      · rw [if_neg l,if_neg x40,Bool.and_eq_true] at can
        exact .inr (.inr can.1)
theorem tk_la (s:Sc) (x:Nat):(tk s x).la=[x]:=by unfold tk;split <;> (try split) <;> rfl
def stdN (cs:List Nat):Nat:=match rdE ⟨[],[],[],[]⟩ 0 cs with
  | .inl i=>i
  | .inr _=>cs.length
section
variable {P:Program} {w:World} {K:PySem.W.Frag} {mg:Str→Option Value} {base:Heap} {k:Nat}
def sp_standing:Sp:=fun vs H Q _=>∃ cs:List Nat,vs=[.str (mk cs)]∧cs.length≤4000∧(∀ c∈cs,c < 1000)∧∀ H',Same H H'→Q (.int (stdN cs:Int)) H'
theorem has_standing (D:Df K mg "_law_standing" s_law_standing) (B:Blt7 mg):Has P w K mg base "_law_standing" (k+1) ["text"] sp_standing:=by
  refine D.has sc_law_standing (fun _ _ _ _ _ _ us hl=>match us,hl with | [_],_=>rfl) (fun vs H Q E h=>by obtain ⟨cs,rfl,_⟩:=h;rfl) (fun f cdv A outer s H vs Q E hr h=>?_)
  obtain ⟨cs,rfl,tl,zb,q⟩:=h
  refine ⟨_,(pss_cons (ps_set (i:=1) sc_law_standing.nd rfl (by first | exact Or.inl rfl | exact Or.inr rfl) pe_int)
  (pss_cons (ps_set (i:=2) sc_law_standing.nd rfl (by first | exact Or.inl rfl | exact Or.inr rfl) pe_int)
  (pss_cons (ps_for PassesOwn.never rfl (pi_enum rfl B.enumerate (pa_cons (pv 0) pa_nil)) (pg_tup rfl (pgs_cons (pg_name (i:=3) sc_law_standing.nd rfl (by first | exact Or.inl rfl | exact Or.inr rfl)) (pgs_cons (pg_name (i:=4) sc_law_standing.nd rfl (by first | exact Or.inl rfl | exact Or.inr rfl)) pgs_nil)))
  (pss_cons (ps_set (i:=5) sc_law_standing.nd rfl (by first | exact Or.inl rfl | exact Or.inr rfl) (pe_slice sl_str (pv 0) (po_some (pe_callB (call_max2 rfl) rfl B.max bt_max (pa_cons pe_int (pa_cons (pe_op op_sub (pv 3) pe_int) pa_nil)))) (po_some (pv 3))))
  (pss_cons (ps_set (i:=6) sc_law_standing.nd rfl (by first | exact Or.inl rfl | exact Or.inr rfl) (pe_and (pe_cmpR op_in_str (pv 4) pe_str (by with_unfolding_all rfl)) (pe_and (pe_cmpR op_lt (pv 2) pe_int (nomark _)) (pe_one (pe_or (pe_cmpR op_eq (pv 3) pe_int (nomark _)) (pe_one (pe_cmpR op_gt (pv 1) pe_int (nomark _))))))))
  (pss_cons (ps_if (pt_cmpR op_eq (pv 4) pe_str (nomark _))
  (pss_cons (ps_set (i:=6) sc_law_standing.nd rfl (by first | exact Or.inl rfl | exact Or.inr rfl) (pe_and (pe_cmpR op_notIn_seq (pv 5) (pe_tup (pa_cons pe_str (pa_cons pe_str (pa_cons pe_str pa_nil)))) (by with_unfolding_all rfl)) (pe_one (pe_cmpR op_lt (pv 2) pe_int (nomark _)))))
  (pss_one (ps_set (i:=1) sc_law_standing.nd rfl (by first | exact Or.inl rfl | exact Or.inr rfl) (pe_op op_add (pv 1) pe_int))))
  (pss_one (ps_if (pt_cmpR op_eq (pv 4) pe_str (nomark _))
  (pss_cons (ps_set (i:=6) sc_law_standing.nd rfl (by first | exact Or.inl rfl | exact Or.inr rfl) (pe_and (pe_cmpR op_ne (pv 5) pe_str (nomark _)) (pe_one (pe_cmpR op_gt (pv 1) pe_int (nomark _)))))
  (pss_one (ps_set (i:=1) sc_law_standing.nd rfl (by first | exact Or.inl rfl | exact Or.inr rfl) (pe_op op_sub (pv 1) pe_int))))
  (pss_one (ps_set (i:=2) sc_law_standing.nd rfl (by first | exact Or.inl rfl | exact Or.inr rfl) (pe_op op_add (pv 2) pe_int))))))
  (pss_one (ps_if (pt_not (pt_val (pv 6)))
  (pss_one (ps_ret (pv 3)))
  pss_nil))))))
  (pss_one (ps_ret (pe_callB call_len_str rfl B.len bt_len (pa_cons (pv 0) pa_nil))))))),?_⟩
  have sl:(signs (mk cs)).length=cs.length:=by unfold signs;rw [List.length_map];rfl
  have sz:(mk cs).length≤sizeLine:=by rw [mk_len];exact Nat.le_of_lt (small10000 (by omega))
  refine ⟨_,rfl,.str (mk cs),rfl,⟨_,rfl⟩,?_⟩
  refine for_enum (κ:=.str (mk cs)) (xs:=signs (mk cs)) (fun i σ H'=>∃ (o3 o4 o5 o6:Option V) (sc:Sc),σ=[some (.str (mk cs)),some (.int (sc.wn.length:Int)),some (.int (sc.ls.length:Int)),o3,o4,o5,o6]∧Same H H'∧ScI sc i∧LaOk sc∧(i=0 ↔ sc.la=[])∧sc.la=(cs.take i).drop (i - 1)∧rdE ⟨[],[],[],[]⟩ 0 cs=rdE sc i (cs.drop i))
    ⟨none,none,none,none,⟨[],[],[],[]⟩,rfl,Same.refl H,ScI.zero,(fun c h=>by cases h),⟨fun _=>rfl,fun _=>rfl⟩,by simp,rfl⟩ (fun i σ H' hi h=>rfl) ?_ ?_
  rotate_left
  · rintro σ H' ⟨o3,o4,o5,o6,sc,rfl,sX,II,LL,zi,la,er⟩
    rw [sl,List.drop_length] at er
    refine ⟨_,rfl,mk cs,rfl,sz,?_⟩
    have:=q H' sX
    unfold stdN at this
    rw [er] at this
    rw [mk_len]
    exact this
  rintro i x1 σ H' p hx ⟨o3,o4,o5,o6,sc,rfl,sX,II,LL,zi,la,er⟩ hp
  have hi:i < cs.length:=by rw [← sl];exact (List.getElem?_eq_some_iff.mp hx).1
  obtain ⟨ch,ech,edr,chm,ehd⟩:∃ ch,x1=.str ⟨#[ch]⟩∧cs.drop i=ch :: cs.drop (i+1)∧ch∈cs∧(cs.take (i+1)).drop (i+1 - 1)=[ch]:=by
    refine ⟨cs[i],?_,List.drop_eq_getElem_cons hi,List.getElem_mem _,?_⟩
    · unfold signs at hx
      rw [mk_cps,List.getElem?_map,List.getElem?_eq_getElem hi] at hx
      exact (Option.some.inj hx).symm
    · rw [Nat.add_sub_cancel,List.drop_take,show i+1 - i=1 by omega,List.drop_eq_getElem_cons hi];rfl
  subst ech
  have hch:=zb ch chm
  have hP:=(Same.refl H').new (o:=.tup [.int (i:Int),.str ⟨#[ch]⟩]) hp
  refine ⟨p,_,rfl,SqT.of upd_same,rfl,_,_,rfl,_,_,rfl,rfl,?_⟩
  generalize upd H' p (.tup [.int (i:Int),.str ⟨#[ch]⟩])=HP at hP
  have ex:(⟨#[ch]⟩:Str)=mk [ch]:=rfl
  refine ⟨_,rfl,_,rfl,_,_,rfl,rfl,_,_,rfl,_,rfl,_,rfl,_,rfl,mk cs,rfl,sz,?_⟩
  rw [cut_la (by omega),← la]
  dsimp only [gName]
  have l60:=II.l60
  have zero:((i:Int)=0) ↔ sc.la=[]:=by rw [← zi];omega
  refine mid (fun σ' H2=>∃ b:Bool,σ'=[some (.str (mk cs)),some (.int (sc.wn.length:Int)),some (.int (sc.ls.length:Int)),some (.int (i:Int)),some (.str ⟨#[ch]⟩),some (.str (mk sc.la)),some (.bl b)]∧HP=H2∧b=(lwB ch && (decide (sc.ls.length < 60) && (decide (sc.la=[]) || decide (sc.wn≠[]))))) ?_ fun E nx=>?_
  rotate_left
  · have ix:=in_abc hch
    refine ⟨_,rfl,_,_,rfl,rfl,_,rfl,?_⟩
    cases hb:lwB ch with
    | false=>exact iteN (ix.trans hb) (nx _ _ ⟨false,rfl,rfl,by rw [hb];rfl⟩)
    | true=>
      refine iteB (ix.trans hb) ?_
      refine ⟨_,rfl,_,_,rfl,rfl,_,rfl,?_⟩
      by_cases c60:sc.ls.length < 60
      · refine iteB (decide_eq_true (by omega)) ?_
        refine ⟨_,rfl,rfl,_,rfl,?_⟩
        by_cases l0:sc.la=[]
        · refine iteB (by simp [zero.mpr l0]) ?_
          exact nx _ _ ⟨_,rfl,rfl,by simp [zero.mpr l0,l0,c60,hb]⟩
        · have nz:¬ (i:Int)=0:=fun e=>l0 (zero.mp e)
          refine iteN (decide_eq_false fun e=>nz (by injection e)) ?_
          refine ⟨_,rfl,_,_,rfl,rfl,nx _ _ ⟨_,rfl,rfl,?_⟩⟩
          rw [hb,decide_eq_true c60,decide_eq_false l0,Bool.true_and,Bool.true_and,Bool.false_or,decide_eq_decide]
          rw [← List.length_pos_iff]
          omega
      · refine iteN (decide_eq_false (by omega)) (nx _ _ ⟨_,rfl,rfl,by simp [c60]⟩)
  rintro _ _ ⟨b0,rfl,rfl,eb⟩
  refine mid (fun σ' H2=>∃ (b:Bool) (o l:Int),σ'=[some (.str (mk cs)),some (.int o),some (.int l),some (.int (i:Int)),some (.str ⟨#[ch]⟩),some (.str (mk sc.la)),some (.bl b)]∧Same HP H2∧b=canB sc ch∧(b=true→o=((tk sc ch).wn.length:Int)∧l=((tk sc ch).ls.length:Int))) ?_ fun E nx=>?_
  · rintro _ H2 ⟨b,o,l,rfl,s2,rfl,hol⟩
    refine ⟨_,rfl,?_⟩
    have s02:=(sX.trans hP).trans s2
    cases can:canB sc ch with
    | false=>
      refine ⟨false,rfl,iteT ?_⟩
      refine ⟨_,rfl,?_⟩
      have:=q H2 s02
      unfold stdN at this
      rw [er,edr,rdE_bad can] at this
      exact this
    | true=>
      refine ⟨true,rfl,iteF ?_⟩
      obtain ⟨rfl,rfl⟩:=hol can
      exact ⟨_,_,_,_,tk sc ch,rfl,s02,II.next hch can,la_next can,⟨fun z=>by omega,fun z=>by rw [tk_la] at z;cases z⟩,by rw [tk_la,ehd],by rw [er,edr,rdE_ok can]⟩
  · have wlt:(0:Int) < (sc.wn.length:Int) ↔ sc.wn≠[]:=by rw [← List.length_pos_iff];omega
    refine ⟨_,rfl,rfl,_,rfl,?_⟩
    by_cases x40:ch=40
    · refine iteB (by rw [ex,e40,dstr,x40];rfl) ?_
      have ce:canB sc ch=((sc.la.all lwB && decide (sc.la≠[])) && decide (sc.ls.length < 60)):=by
        unfold canB
        rw [if_neg (by omega),if_pos x40]
        by_cases l6:sc.ls.length=60
        · rw [if_pos l6,decide_eq_false (show ¬ sc.ls.length < 60 by omega),Bool.and_false]
        · rw [if_neg l6,decide_eq_true (show sc.ls.length < 60 by omega),Bool.and_true]
      rw [la_cases II LL] at ce
      have tke:((tk sc ch).wn.length:Int)=(sc.wn.length:Int)+1∧(tk sc ch).ls=sc.ls:=by
        unfold tk;rw [if_pos x40];exact ⟨by show ((sc.wn++[_]).length:Int)=_;rw [List.length_append,List.length_singleton];omega,rfl⟩
      dsimp only [tSeq]
      refine ⟨_,rfl,(by show 3≤sizeLine;decide),fun p3 hp3=>?_⟩
      have s3:Same HP (upd HP p3 (.tup [.str (Str.ofString ""),.str (Str.ofString "("),.str (Str.ofString ")")])):=(Same.refl HP).new hp3
      refine ⟨p3,_,rfl,.inr (SqT.of upd_same),rfl,rfl,_,rfl,?_⟩
      show (fun HH=>_) (upd HP p3 (.tup [.str (Str.ofString ""),.str (Str.ofString "("),.str (Str.ofString ")")]))
      generalize upd HP p3 (.tup [.str (Str.ofString ""),.str (Str.ofString "("),.str (Str.ofString ")")])=HQ at s3
      rw [if_pos rfl,in3]
      generalize (!(decide (sc.la=[]) || (decide (sc.la=[40]) || decide (sc.la=[41]))))=b3 at ce ⊢
      cases b3 with
      | false=>
        refine iteN rfl ?_
        exact ⟨_,rfl,_,_,rfl,rfl,nx _ _ ⟨false,_,_,rfl,s3,by rw [ce];rfl,fun z=>by cases z⟩⟩
      | true=>
        refine iteB rfl ?_
        refine ⟨_,rfl,_,_,rfl,rfl,_,rfl,_,_,rfl,rfl,nx _ _ ⟨_,_,_,rfl,s3,?_,fun _=>⟨tke.1.symm,by rw [tke.2]⟩⟩⟩
        rw [ce,Bool.true_and,decide_eq_decide]
        omega
    · refine iteN (by rw [ex,e40,dstr];simp [x40]) ?_
      refine ⟨_,rfl,rfl,_,rfl,?_⟩
      by_cases x41:ch=41
      · refine iteB (by rw [ex,e41,dstr,x41];rfl) ?_
        have ce:canB sc ch=(decide (sc.wn≠[]) && decide (sc.la≠[40])):=by unfold canB;rw [if_pos x41]
        have tke:sc.wn≠[]→((tk sc ch).wn.length:Int)=(sc.wn.length:Int) - 1∧(tk sc ch).ls=sc.ls:=fun h=>by
          have:=List.length_pos_iff.mpr h
          unfold tk;rw [if_neg x40,if_pos x41];exact ⟨by show (sc.wn.dropLast.length:Int)=_;rw [List.length_dropLast];omega,rfl⟩
        dsimp only [tSeq]
        refine ⟨_,rfl,rfl,_,rfl,?_⟩
        by_cases l40:sc.la=[40]
        · refine iteN (by rw [l40];rfl) ?_
          exact ⟨_,rfl,_,_,rfl,rfl,nx _ _ ⟨_,_,_,rfl,Same.refl HP,by rw [ce,l40];simp,fun z=>by cases z⟩⟩
        · refine iteB (by rw [e40,dstr];simp [l40]) ?_
          refine ⟨_,rfl,_,_,rfl,rfl,_,rfl,_,_,rfl,rfl,nx _ _ ⟨_,_,_,rfl,Same.refl HP,?_,fun z=>?_⟩⟩
          · rw [ce,decide_eq_true l40,Bool.and_true,decide_eq_decide];exact wlt
          · obtain ⟨k1,k2⟩:=tke (wlt.mp (of_decide_eq_true z))
            exact ⟨k1.symm,by rw [k2]⟩
      · refine iteN (by rw [ex,e41,dstr];simp [x41]) ?_
        refine ⟨_,rfl,_,_,rfl,rfl,nx _ _ ⟨b0,_,_,rfl,Same.refl HP,?_,fun _=>?_⟩⟩
        · rw [eb]
          unfold canB
          rw [if_neg x41]
          by_cases l6:sc.ls.length=60
          · rw [if_pos l6,decide_eq_false (show ¬ sc.ls.length < 60 by omega)];simp
          · rw [if_neg l6,if_neg x40,decide_eq_true (show sc.ls.length < 60 by omega),Bool.true_and]
        · unfold tk
          rw [if_neg x40,if_neg x41]
          exact ⟨rfl,by show (sc.ls.length:Int)+1=((sc.ls++[ch]).length:Int);rw [List.length_append,List.length_singleton];omega⟩
end
end S04
namespace L2
open PySem PySem.Spec PyProof.Rows PySem.StrLaws PySem.Builtin PySem.Builtin.Str
theorem occ_cnt (z:Str) (c limit:Nat):∀ (m lo free:Nat) (arr:Array Nat),free≤lo→arr.size+m≤limit→lo+m=z.length+1 →
    (forIn (List.range' lo m) (arr,free) (occBody z ⟨#[c]⟩ z.length limit)).run.fst.size=arr.size+(z.cps.toList.drop lo).count c
  | 0,lo,free,arr,_,_,e=>by
    have hl:z.cps.toList.length=z.length:=by simp [Str.length]
    rw [List.drop_eq_nil_of_le (by omega)]
    rfl
  | m+1,lo,free,arr,h1,h2,e=>by
    have hl:z.cps.toList.length=z.length:=by simp [Str.length]
    rw [List.range'_succ,List.forIn_cons]
    have one:=subAt_one z c lo
    by_cases hc:z.cps.toList[lo]?=some c
    · obtain ⟨k1,k2⟩:=one.mpr hc
      have b:occBody z ⟨#[c]⟩ z.length limit lo (arr,free)=pure (ForInStep.yield (arr.push lo,lo+(⟨#[c]⟩:Str).length)):=by
        unfold occBody
        rw [if_pos ⟨⟨⟨by show arr.size < limit;omega,h1⟩,k1⟩,k2⟩]
      rw [b]
      obtain ⟨hlt,hg⟩:=List.getElem?_eq_some_iff.mp hc
      have:=occ_cnt z c limit m (lo+1) (lo+1) (arr.push lo) (Nat.le_refl _) (by rw [Array.size_push];omega) (by omega)
      rw [Array.size_push] at this
      rw [List.drop_eq_getElem_cons hlt,hg,List.count_cons_self]
      refine Eq.trans this ?_
      omega
    · have b:occBody z ⟨#[c]⟩ z.length limit lo (arr,free)=pure (ForInStep.yield (arr,free)):=by
        unfold occBody
        rw [if_neg fun h=>hc (one.mp ⟨h.1.2,h.2⟩)]
      rw [b]
      have:=occ_cnt z c limit m (lo+1) free arr (by omega) (by omega) (by omega)
      refine Eq.trans this ?_
      by_cases hlt:lo < z.cps.toList.length
      · rw [List.drop_eq_getElem_cons hlt]
        have:z.cps.toList[lo]≠c:=fun q=>hc (by rw [List.getElem?_eq_getElem hlt,q])
        rw [List.count_cons_of_ne this]
      · rw [List.drop_eq_nil_of_le (by omega),List.drop_eq_nil_of_le (by omega)]
theorem count_one (z:Str) (c:Nat):Txt.count z ⟨#[c]⟩=((z.cps.toList.count c:Nat):Int):=by
  unfold Txt.count
  rw [occ_eq]
  have:=occ_cnt z c (z.length+1) (z.length+1) 0 0 #[] (Nat.le_refl _) (by show 0+_≤_;omega) (by omega)
  rw [Array.length_toList]
  show (((forIn (List.range' 0 (z.length+1 - 0)) (#[],0) (occBody z ⟨#[c]⟩ z.length (z.length+1))).run.fst.size:Nat):Int)=_
  rw [Nat.sub_zero,this,List.drop_zero]
  show ((0+_:Nat):Int)=_
  rw [Nat.zero_add]
end L2
namespace S04
open PySem L2 W7
def stood (z:List Nat):V:=match outc z with
  | .inl i=>.int (i:Int)
  | .inr _=>.non
theorem rdE_lt:∀ (l:List Nat) {s:Sc} {i j:Nat},rdE s i l=.inl j→i≤j∧j < i+l.length
  | [],s,i,j,h=>by cases h
  | x :: l,s,i,j,h=>by
    cases can:canB s x with
    | false=>rw [rdE_bad can] at h;injection h with h;rw [List.length_cons];omega
    | true=>
      rw [rdE_ok can] at h
      have:=rdE_lt l h
      rw [List.length_cons];omega
theorem rdE_cnt:∀ (l:List Nat) {s f:Sc} {i:Nat},rdE s i l=.inr f→s.wn.length+l.count 40=f.wn.length+l.count 41∧(f.la=[] ↔ s.la=[]∧l=[])
  | [],s,f,i,h=>by
    injection h with h
    subst h
    exact ⟨rfl,by simp⟩
  | x :: l,s,f,i,h=>by
    cases can:canB s x with
    | false=>rw [rdE_bad can] at h;cases h
    | true=>
      rw [rdE_ok can] at h
      obtain ⟨h1,h2⟩:=rdE_cnt l h
      refine ⟨?_,?_⟩
      · by_cases x40:x=40
        · subst x40
          have e:(tk s 40).wn=s.wn++[(s.ls.length:Int) - 1]:=rfl
          rw [e,List.length_append,List.length_singleton] at h1
          rw [List.count_cons_self,List.count_cons_of_ne (by decide)]
          omega
        · by_cases x41:x=41
          · subst x41
            have e:(tk s 41).wn=s.wn.dropLast:=rfl
            have wn:s.wn≠[]:=fun z=>by
              unfold canB at can
              rw [if_pos rfl,decide_eq_false (fun y=>y z)] at can
              cases can
            have:=List.length_pos_iff.mpr wn
            rw [e,List.length_dropLast] at h1
            rw [List.count_cons_self,List.count_cons_of_ne (by decide)]
            omega
          · have e:(tk s x).wn=s.wn:=by unfold tk;rw [if_neg x40,if_neg x41]
            rw [e] at h1
            rw [List.count_cons_of_ne x40,List.count_cons_of_ne x41]
            exact h1
      · rw [h2,tk_la]
        constructor
        · rintro ⟨z,_⟩;cases z
        · rintro ⟨_,z⟩;cases z
theorem sd_inl {cs:List Nat} {j:Nat} (h:rdE ⟨[],[],[],[]⟩ 0 cs=.inl j):stood cs=.int (j:Int)∧stdN cs=j:=by
  unfold stood stdN outc;rw [h];exact ⟨rfl,rfl⟩
theorem sd_inr {cs:List Nat} {f:Sc} (h:rdE ⟨[],[],[],[]⟩ 0 cs=.inr f):(f.wn=[]∧f.la≠[]→stood cs=.non)∧(¬ (f.wn=[]∧f.la≠[])→stood cs=.int (cs.length:Int))∧stdN cs=cs.length:=by
  refine ⟨fun c=>?_,fun c=>?_,?_⟩
  · have e:outc cs=.inr f:=by unfold outc;rw [h];exact if_pos c
    unfold stood;rw [e]
  · have e:outc cs=.inl cs.length:=by unfold outc;rw [h];exact if_neg c
    unfold stood;rw [e]
  · unfold stdN;rw [h]
section
variable {P:Program} {w:World} {K:PySem.W.Frag} {mg:Str→Option Value} {base:Heap} {k:Nat}
def sp_due:Sp:=fun vs H Q _=>∃ cs:List Nat,vs=[.str (mk cs)]∧cs.length≤4000∧(∀ c∈cs,c < 1000)∧∀ H',Same H H'→Q (stood cs) H'
theorem has_due (D:Df K mg "_law_due" s_law_due) (B:Blt7 mg) (G_law_standing:Has P w K mg base "_law_standing" k ["text"] sp_standing):Has P w K mg base "_law_due" (k+1) ["text"] sp_due:=by
  refine D.has sc_law_due (fun _ _ _ _ _ _ us hl=>match us,hl with | [_],_=>rfl) (fun vs H Q E h=>by obtain ⟨cs,rfl,_⟩:=h;rfl) (fun f cdv A outer s H vs Q E hr h=>?_)
  obtain ⟨cs,rfl,tl,zb,q⟩:=h
  refine ⟨_,(pss_cons (ps_set (i:=1) sc_law_due.nd rfl (by first | exact Or.inl rfl | exact Or.inr rfl) (pe_callH G_law_standing hr rfl (pa_cons (pv 0) pa_nil)))
  (pss_cons (ps_if (PW.pt (pw_and (pt_cmpR op_eq (pv 1) (pe_callB call_len_str rfl B.len bt_len (pa_cons (pv 0) pa_nil)) (nomark _)) (pw_and (pt_cmpR op_ne (pv 0) pe_str (nomark _)) (pw_and1 (pt_cmpR op_eq (pe_bm PySem.F.plainAttrs_str PySem.F.slot_str_count PySem.F.type_str_count mt_scount (pv 0) (pa_cons pe_str pa_nil)) (pe_bm PySem.F.plainAttrs_str PySem.F.slot_str_count PySem.F.type_str_count mt_scount (pv 0) (pa_cons pe_str pa_nil)) (nomark _))))))
  (pss_one (ps_ret pe_non))
  pss_nil)
  (pss_one (ps_ret (pv 1))))),?_⟩
  have sz:(mk cs).length≤sizeLine:=by rw [mk_len];exact Nat.le_of_lt (small10000 (by omega))
  refine ⟨_,rfl,cs,rfl,tl,zb,fun H1 s1=>?_⟩
  have q:=q H1 s1
  refine ⟨_,rfl,_,rfl,mk cs,rfl,sz,rfl,_,rfl,?_⟩
  rw [mk_len]
  cases er:rdE ⟨[],[],[],[]⟩ 0 cs with
  | inl j=>
    obtain ⟨g1,g2⟩:=sd_inl er
    rw [g1] at q
    rw [g2]
    have lt:=(rdE_lt cs er).2
    refine iteN (decide_eq_false fun e=>by injection e with e;rw [Nat.zero_add] at lt;omega) ?_
    exact ⟨_,rfl,q⟩
  | inr f=>
    obtain ⟨g1,g2,g3⟩:=sd_inr er
    rw [g3]
    obtain ⟨h1,h2⟩:=rdE_cnt cs er
    refine iteB (decide_eq_true rfl) ?_
    refine ⟨_,rfl,rfl,_,rfl,?_⟩
    by_cases c0:cs=[]
    · refine iteN (by rw [c0];rfl) ?_
      rw [g2 fun z=>z.2 (h2.mpr ⟨rfl,c0⟩)] at q
      exact ⟨_,rfl,q⟩
    · refine iteB (by rw [e0,dstr];simp [c0]) ?_
      refine ⟨_,rfl,rfl,mk cs,_,rfl,rfl,_,rfl,rfl,mk cs,_,rfl,rfl,rfl,_,rfl,?_⟩
      have k1:Txt.count (mk cs) (Str.ofString "(")=((cs.count 40:Nat):Int):=count_one (mk cs) 40
      have k2:Txt.count (mk cs) (Str.ofString ")")=((cs.count 41:Nat):Int):=count_one (mk cs) 41
      rw [k1,k2]
      have la:f.la≠[]:=fun z=>c0 (h2.mp z).2
      have h1':cs.count 40=f.wn.length+cs.count 41:=by have:(0:Nat)+cs.count 40=f.wn.length+cs.count 41:=h1;omega
      by_cases wn:f.wn=[]
      · have l0:f.wn.length=0:=by rw [wn];rfl
        refine iteB (decide_eq_true (by rw [h1',l0,Nat.zero_add])) ?_
        rw [g1 ⟨wn,la⟩] at q
        exact q
      · have l0:=List.length_pos_iff.mpr wn
        refine iteN (decide_eq_false fun e=>by injection e with e;omega) ?_
        rw [g2 fun z=>wn z.1] at q
        exact ⟨_,rfl,q⟩
end
end S04
namespace S04
open PySem L2 W7
structure ExT (K:PySem.W.Frag) (mg:Str→Option Value) extends ExN K mg where
  c_UpError:Addr
  m_UpError:mg "UpError" = some (.ref c_UpError)
  c_NoPlace:Addr
  m_NoPlace:mg "NoPlace" = some (.ref c_NoPlace)
  c_NoNumber:Addr
  m_NoNumber:mg "NoNumber" = some (.ref c_NoNumber)
  c_NoWord:Addr
  m_NoWord:mg "NoWord" = some (.ref c_NoWord)
  c_NoRows:Addr
  m_NoRows:mg "NoRows" = some (.ref c_NoRows)
  c_NoRuns:Addr
  m_NoRuns:mg "NoRuns" = some (.ref c_NoRuns)
  c_NoCover:Addr
  m_NoCover:mg "NoCover" = some (.ref c_NoCover)
  c_NoText:Addr
  m_NoText:mg "NoText" = some (.ref c_NoText)
  c_TooMany:Addr
  m_TooMany:mg "TooMany" = some (.ref c_TooMany)
  c_NoTries:Addr
  m_NoTries:mg "NoTries" = some (.ref c_NoTries)
  c_NoPattern:Addr
  m_NoPattern:mg "NoPattern" = some (.ref c_NoPattern)
  c_NoLetter:Addr
  m_NoLetter:mg "NoLetter" = some (.ref c_NoLetter)
  c_NoLeaf:Addr
  m_NoLeaf:mg "NoLeaf" = some (.ref c_NoLeaf)
  c_NoChange:Addr
  m_NoChange:mg "NoChange" = some (.ref c_NoChange)
  c_NoLine:Addr
  m_NoLine:mg "NoLine" = some (.ref c_NoLine)
  t0:PySem.W.kitOne K (.ref c_NoTree) (.type "ValueError")=some true
  t1:PySem.W.kitOne K (.ref c_NoTree) (.ref c_UpError)=some true
  t2:PySem.W.kitAny K (.ref c_NoTree) ([c_NoChange,c_NoCover,c_NoLeaf,c_NoLetter,c_NoLine,c_NoNumber,c_NoPattern,c_NoPlace].map Value.ref)=some false
  t3:PySem.W.kitAny K (.ref c_NoTree) ([c_NoRows,c_NoRuns,c_NoText,c_NoTries,c_NoWord,c_TooMany].map Value.ref)=some false
structure Blt8 (mg:Str→Option Value):Prop extends Blt7 mg where
  ValueError_:mg "ValueError" = none
theorem bt_ValueError:bootBuiltins "ValueError" = some (.type "ValueError"):=by decide +kernel
theorem line_le {n:Nat} (h:n≤1000):n≤sizeLine:=Nat.le_of_lt (small1000 (by omega))
theorem cat2 (a b:Str):(a++b).cps.toList=a.cps.toList++b.cps.toList:=Array.toList_append
theorem cat_len (a b:Str):(a++b).length=a.length+b.length:=Array.size_append
theorem cat_mk (a b:List Nat):mk a++mk b=mk (a++b):=str_ext (by rw [cat2,mk_cps,mk_cps,mk_cps])
theorem cut_at {a b:List Nat} {i:Int} (h:i=(a.length:Int)):cutS (mk (a++b)) none (some i)=mk a∧cutS (mk (a++b)) (some i) none=mk b:=by
  subst h
  have e1:(mk (a++b)).length=a.length+b.length:=by rw [mk_len,List.length_append]
  have f1:HT.sIx (mk (a++b)).length (mk (a++b)).length (some (a.length:Int))=a.length:=by rw [HT.sIx_nat,e1];omega
  have f2:HT.sIx (mk (a++b)).length 0 (some (a.length:Int))=a.length:=by rw [HT.sIx_nat,e1];omega
  constructor
  · apply str_ext
    show (((mk (a++b)).cps.toList.drop (HT.sIx (mk (a++b)).length 0 none)).take (HT.sIx (mk (a++b)).length (mk (a++b)).length (some (a.length:Int)) - HT.sIx (mk (a++b)).length 0 none)).toArray.toList=_
    rw [f1,HT.sIx_none,mk_cps,mk_cps,List.drop_zero,Nat.sub_zero,List.take_left]
  · apply str_ext
    show (((mk (a++b)).cps.toList.drop (HT.sIx (mk (a++b)).length 0 (some (a.length:Int)))).take (HT.sIx (mk (a++b)).length (mk (a++b)).length none - HT.sIx (mk (a++b)).length 0 (some (a.length:Int)))).toArray.toList=_
    rw [f2,HT.sIx_none,mk_cps,mk_cps,List.drop_left,e1]
    show b.take _=b
    exact List.take_of_length_le (by omega)
theorem cut_one (b:List Nat):cutS (mk b) none (some 1)=mk (b.take 1)∧cutS (mk b) (some 1) none=mk (b.drop 1):=by
  cases b with
  | nil=>exact ⟨rfl,rfl⟩
  | cons x r=>exact cut_at (a:=[x]) (b:=r) rfl
section
variable {P:Program} {w:World} {K:PySem.W.Frag} {mg:Str→Option Value} {base:Heap} {k:Nat}
def sp_ltold:Sp:=fun vs H Q _=>(∃ cs:List Nat,vs=[.str (mk cs)]∧cs.length≤4000∧(∀ c∈cs,c < 1000)∧∀ H',Same H H'→Q (stood cs) H')∨∃ (v:V) (d:PyData),vs=[v]∧Td H v d∧isStrD d=false∧∀ H',Same H H'→Q (.int (-1)) H'
theorem told_read {cN:Addr} {vs:List V} {H:Hp} {Q:VK} {E:XK} {Qx:VK} {Ex:XK} (h:sp_ltold vs H Q E) (h1:∀ v,(∀ H',Same H H'→Q v H')→Raised cN v H Ex) (h2:∀ (t:Addr) (H':Hp),Same H H'→Q .non H'→Qx (.ref t) H'):sp_readX cN vs H Qx Ex:=by
  rcases h with ⟨cs,rfl,tl,zb,q⟩ | ⟨v,d,rfl,td,nd,q⟩
  · refine .inr ⟨mk cs,rfl,by rw [mk_len];exact tl,by rw [mk_cps];exact zb,fun i ei=>?_,fun sc es t u H' s' _ _=>?_⟩
    · rw [mk_cps] at ei
      refine h1 _ fun H' s=>?_
      have:=q H' s
      unfold stood at this
      rw [ei] at this
      exact this
    · rw [mk_cps] at es
      have:=q H' s'
      unfold stood at this
      rw [es] at this
      exact h2 t H' s' this
  · exact .inl ⟨v,d,rfl,td,nd,h1 _ q⟩
theorem has_ltold (EX:ExT K mg) (D:Df K mg "_law_told" s_law_told) (B:Blt8 mg) (G_read_tree:HasXD P w K mg base "read_tree" k ["text"] (sp_readX EX.c_NoTree)):Has P w K mg base "_law_told" (k+1) ["thing"] sp_ltold:=by
  refine D.has sc_law_told (fun _ _ _ _ _ _ us hl=>match us,hl with | [_],_=>rfl) (fun vs H Q E h=>by rcases h with ⟨cs,rfl,_⟩ | ⟨v,d,rfl,_⟩ <;> rfl) (fun f cdv A outer s H vs Q E hr h=>?_)
  refine ⟨_,(pss_cons (ps_tryD (fun pn xe E σ0 hx=>(pss_one (ps_expr (pe_callXD G_read_tree hx hr rfl (pa_cons (pv 0) pa_nil)))))
  (ph_asD rfl EX.m_NoTree sc_law_told.nd (i:=1) rfl rfl (fun a=>(pss_cons (ps_if (PW.pt (pw_or (pt_not (pt_val (pe_callB (call_isinstDB K) rfl B.isinstance bt_isinstance (pa_cons (pv 1) (pa_cons (pe_bltn (v:=.ty "ValueError") rfl B.ValueError_ bt_ValueError rfl) pa_nil))))) (pw_or1 (pt_not (pt_val (pe_callB (call_isinstDE K) rfl B.isinstance bt_isinstance (pa_cons (pv 1) (pa_cons (pe_glob (x := "UpError") (v:=.ref EX.c_UpError) rfl EX.m_UpError rfl) pa_nil))))))))
  (pss_one (ps_ret pe_str))
  pss_nil)
  (pss_cons (ps_if (pt_val (pe_callB (call_isinstDT K) rfl B.isinstance bt_isinstance (pa_cons (pv 1) (pa_cons (pe_tup (pa_cons (pe_glob (x := "NoChange") (v:=.ref EX.c_NoChange) rfl EX.m_NoChange rfl) (pa_cons (pe_glob (x := "NoCover") (v:=.ref EX.c_NoCover) rfl EX.m_NoCover rfl) (pa_cons (pe_glob (x := "NoLeaf") (v:=.ref EX.c_NoLeaf) rfl EX.m_NoLeaf rfl) (pa_cons (pe_glob (x := "NoLetter") (v:=.ref EX.c_NoLetter) rfl EX.m_NoLetter rfl) (pa_cons (pe_glob (x := "NoLine") (v:=.ref EX.c_NoLine) rfl EX.m_NoLine rfl) (pa_cons (pe_glob (x := "NoNumber") (v:=.ref EX.c_NoNumber) rfl EX.m_NoNumber rfl) (pa_cons (pe_glob (x := "NoPattern") (v:=.ref EX.c_NoPattern) rfl EX.m_NoPattern rfl) (pa_cons (pe_glob (x := "NoPlace") (v:=.ref EX.c_NoPlace) rfl EX.m_NoPlace rfl) pa_nil))))))))) pa_nil))))
  (pss_one (ps_ret pe_str))
  pss_nil)
  (pss_one (ps_ret (pe_ifExp (pt_val (pe_callB (call_isinstDT K) rfl B.isinstance bt_isinstance (pa_cons (pv 1) (pa_cons (pe_tup (pa_cons (pe_glob (x := "NoRows") (v:=.ref EX.c_NoRows) rfl EX.m_NoRows rfl) (pa_cons (pe_glob (x := "NoRuns") (v:=.ref EX.c_NoRuns) rfl EX.m_NoRuns rfl) (pa_cons (pe_glob (x := "NoText") (v:=.ref EX.c_NoText) rfl EX.m_NoText rfl) (pa_cons (pe_glob (x := "NoTries") (v:=.ref EX.c_NoTries) rfl EX.m_NoTries rfl) (pa_cons (pe_glob (x := "NoWord") (v:=.ref EX.c_NoWord) rfl EX.m_NoWord rfl) (pa_cons (pe_glob (x := "TooMany") (v:=.ref EX.c_TooMany) rfl EX.m_TooMany rfl) pa_nil))))))) pa_nil)))) pe_str (pe_fldEK K (pv 1) rfl)))))))))
  (pss_one (ps_ret pe_non))),?_⟩
  obtain ⟨x,rfl⟩:∃ x,vs=[x]:=by
    rcases h with ⟨cs,rfl,_⟩ | ⟨v,d,rfl,_⟩
    · exact ⟨_,rfl⟩
    · exact ⟨_,rfl⟩
  refine ⟨rfl,_,rfl,told_read h (fun v q=>?_) (fun t H' s' q=>q)⟩
  intro a dx H' s' ha h1 h2
  refine ⟨a,EX.c_NoTree,rfl,rfl,EX.u_NoTree,?_⟩
  refine ⟨_,rfl,a,EX.c_NoTree,dx, "ValueError", true,rfl,h1,EX.z_NoTree,EX.t0,_,rfl,iteF ?_⟩
  refine ⟨_,rfl,a,EX.c_NoTree,dx,EX.c_UpError,true,rfl,h1,EX.z_NoTree,EX.t1,_,rfl,iteF ?_⟩
  refine ⟨_,rfl,line_le (show 8≤1000 by omega),fun t8 ht8=>?_⟩
  generalize hJ:upd H' t8 _=H1
  have s1:Same H' H1:=by rw [← hJ];exact (Same.refl _).new ht8
  have g1:H1 t8=some (.tup ([EX.c_NoChange,EX.c_NoCover,EX.c_NoLeaf,EX.c_NoLetter,EX.c_NoLine,EX.c_NoNumber,EX.c_NoPattern,EX.c_NoPlace].map V.ref)):=by rw [← hJ];exact upd_same
  clear hJ
  refine ⟨a,EX.c_NoTree,dx,t8,[EX.c_NoChange,EX.c_NoCover,EX.c_NoLeaf,EX.c_NoLetter,EX.c_NoLine,EX.c_NoNumber,EX.c_NoPattern,EX.c_NoPlace],false,rfl,s1 _ _ h1,g1,EX.z_NoTree,EX.t2,_,rfl,iteF ?_⟩
  refine ⟨_,rfl,line_le (show 6≤1000 by omega),fun t6 ht6=>?_⟩
  generalize hJ:upd H1 t6 _=H2
  have s2:Same H1 H2:=by rw [← hJ];exact (Same.refl _).new ht6
  have g2:H2 t6=some (.tup ([EX.c_NoRows,EX.c_NoRuns,EX.c_NoText,EX.c_NoTries,EX.c_NoWord,EX.c_TooMany].map V.ref)):=by rw [← hJ];exact upd_same
  clear hJ
  refine ⟨a,EX.c_NoTree,dx,t6,[EX.c_NoRows,EX.c_NoRuns,EX.c_NoText,EX.c_NoTries,EX.c_NoWord,EX.c_TooMany],false,rfl,s2 _ _ (s1 _ _ h1),g2,EX.z_NoTree,EX.t3,_,rfl,iteF ?_⟩
  exact ⟨_,rfl,a,EX.c_NoTree,dx,_,v,rfl,.inl (s2 _ _ (s1 _ _ h1)),s2 _ _ (s1 _ _ h2),EX.z_NoTree,EX.st.hd,EX.na,rfl,q H2 ((s'.trans s1).trans s2)⟩
def sp_bent:Sp:=fun vs H Q _=>∃ (p:Addr) (c:Int) (cs:List Nat),vs=[.ref p,.str (mk cs)]∧Deck H p c∧0≤c∧c < 900000∧cs.length≤3990∧(∀ x∈cs,x < 1000)∧∀ (cs':List Nat) (H':Hp),Kd p (c+3) H H'→cs'.length≤cs.length+1→(∀ x∈cs',x < 1000)→Q (.str (mk cs')) H'
theorem bent_sign {n:Int} (h0:0≤n) (h1:n < 43):∃ ch,atI (Str.ofString "abcdefghijklmnopqrstuvwxyz()()() ,A0_{|}~`" ++ Str.ofString "
").cps.toList n=some ch∧ch < 1000:=by
  have all:∀ i:Fin 43,∃ ch,(Str.ofString "abcdefghijklmnopqrstuvwxyz()()() ,A0_{|}~`" ++ Str.ofString "
").cps.toList[i.val]?=some ch∧ch < 1000:=by decide +kernel
  obtain ⟨ch,e,l⟩:=all ⟨n.toNat,by omega⟩
  refine ⟨ch,?_,l⟩
  have:=atI_nat (xs:=(Str.ofString "abcdefghijklmnopqrstuvwxyz()()() ,A0_{|}~`" ++ Str.ofString "
").cps.toList) (j:=n.toNat) e
  rw [show ((n.toNat:Nat):Int)=n by omega] at this
  exact this
theorem has_bent (D:Df K mg "_law_bent" s_law_bent) (B:Blt7 mg) (G_law_take:Has P w K mg base "_law_take" k ["pool", "many"] sp_take):Has P w K mg base "_law_bent" (k+1) ["pool", "text"] sp_bent:=by
  refine D.has sc_law_bent (fun _ _ _ _ _ _ us hl=>match us,hl with | [_,_],_=>rfl) (fun vs H Q E h=>by obtain ⟨p,c,cs,rfl,_⟩:=h;rfl) (fun f cdv A outer s H vs Q E hr h=>?_)
  obtain ⟨p,c,cs,rfl,hd,c0,c9,tl,zb,q⟩:=h
  refine exw ?_
  refine ⟨_,(w_cons (Pw.mk (ps_set (i:=2) sc_law_bent.nd rfl (by first | exact Or.inl rfl | exact Or.inr rfl) (pe_callH G_law_take hr rfl (pa_cons (pv 0) (pa_cons pe_int pa_nil)))))
  (w_cons (Pw.mk (ps_set (i:=3) sc_law_bent.nd rfl (by first | exact Or.inl rfl | exact Or.inr rfl) (pe_callH G_law_take hr rfl (pa_cons (pv 0) (pa_cons (pe_op op_add (pe_callB call_len_str rfl B.len bt_len (pa_cons (pv 1) pa_nil)) pe_int) pa_nil)))))
  (w_cons (w_set (i:=4) sc_law_bent.nd rfl (by first | exact Or.inl rfl | exact Or.inr rfl) (w_ix ix_str (w_op op_add_str w_str w_str) (PEw.mk (pe_callH G_law_take hr rfl (pa_cons (pv 0) (pa_cons pe_int pa_nil)))) (fun _ _=>rfl)))
  (w_cons (Pw.mk (ps_par (i:=5) (j:=6) rfl sc_law_bent.nd rfl rfl (by decide) rfl rfl (pa_cons (pe_slice sl_str (pv 1) po_none (po_some (pv 3))) (pa_cons (pe_slice sl_str (pv 1) (po_some (pv 3)) po_none) pa_nil)) rfl))
  (w_cons (Pw.mk (ps_set (i:=7) sc_law_bent.nd rfl (by first | exact Or.inl rfl | exact Or.inr rfl) (pe_lst (pa_cons (pe_op op_add_str (pe_op op_add_str (pv 5) (pv 4)) (pv 6)) (pa_cons (pe_op op_add_str (pv 5) (pe_slice sl_str (pv 6) (po_some pe_int) po_none)) (pa_cons (pe_op op_add_str (pe_op op_add_str (pv 5) (pv 4)) (pe_slice sl_str (pv 6) (po_some pe_int) po_none)) (pa_cons (pv 5) (pa_cons (pe_op op_add_str (pe_op op_add_str (pv 5) (pe_slice sl_str (pv 6) po_none (po_some pe_int))) (pv 6)) pa_nil))))))))
  (w_one (w_ret (w_ix ix_list (w_op op_cat (PEw.mk (pv 7)) (w_lst (w_acons (w_op op_add_str (w_op op_add_str (PEw.mk (pv 5)) w_str) (PEw.mk (pv 6))) (w_acons (w_op op_add_str (w_op op_add_str (PEw.mk (pv 5)) w_str) (PEw.mk (pv 6))) (w_acons (PEw.mk (pe_op op_add_str (pv 1) (pv 4))) (w_acons (PEw.mk (pe_op op_add_str (pv 6) (pv 5))) w_anil)))))) (PEw.mk (pv 2)) (fun _ _=>rfl))))))))),?_⟩
  have sz:∀ n:Nat,n≤9000→n≤sizeLine:=fun n hn=>Nat.le_of_lt (small10000 (by omega))
  have szt:(mk cs).length≤sizeLine:=by rw [mk_len];exact sz _ (by omega)
  refine ⟨_,rfl,p,9,c,rfl,hd,by omega,by decide,by decide,fun n1 H1 a0 a1 k1=>?_⟩
  refine ⟨_,rfl,_,rfl,mk cs,rfl,szt,_,_,rfl,rfl,p,_,_,rfl,k1.deck,by omega,by rw [mk_len];omega,by rw [mk_len];omega,fun n2 H2 b0 b1 k2=>?_⟩
  rw [mk_len] at b1
  have hz:(Str.ofString "abcdefghijklmnopqrstuvwxyz()()() ,A0_{|}~`" ++ Str.ofString "
").length=43:=by decide +kernel
  refine ⟨_,_,rfl,rfl,sz _ (by rw [← cat_len,hz];omega),_,rfl,p,43,_,rfl,k2.deck,by omega,by decide,by decide,fun n3 H3 d0 d1 k3=>?_⟩
  obtain ⟨ch,hch,chb⟩:=bent_sign d0 d1
  have k13:=((k1.trans k2).trans k3).mono (show c+1+1+1≤c+3 by omega)
  refine ⟨_,_,_,rfl,rfl,by rw [hz];exact sz _ (by omega),hch,?_⟩
  obtain ⟨a,b,ecs,la⟩:∃ a b:List Nat,cs=a++b∧n2=(a.length:Int):=⟨cs.take n2.toNat,cs.drop n2.toNat,(List.take_append_drop _ _).symm,by rw [List.length_take];omega⟩
  obtain ⟨c1,c2⟩:=cut_at (a:=a) (b:=b) la
  obtain ⟨o1,o2⟩:=cut_one b
  rw [← ecs] at c1 c2
  have lab:a.length+b.length=cs.length:=by rw [ecs,List.length_append]
  have lt1:(b.take 1).length≤1:=by rw [List.length_take];omega
  have ld1:(b.drop 1).length≤b.length:=by rw [List.length_drop];omega
  refine ⟨_,rfl,_,rfl,_,rfl,mk cs,rfl,szt,_,rfl,_,rfl,_,rfl,mk cs,rfl,szt,_,_,rfl,?_⟩
  rw [c1,c2]
  have za:(mk a).length≤3990:=by rw [mk_len];omega
  have zbb:(mk b).length≤3990:=by rw [mk_len];omega
  have szb:(mk b).length≤sizeLine:=sz _ (by omega)
  have zd:(cutS (mk b) (some 1) none).length≤3990:=by rw [o2,mk_len];omega
  have zt:(cutS (mk b) none (some 1)).length≤1:=by rw [o1,mk_len];omega
  have s1:(mk a).length+(⟨#[ch]⟩:Str).length≤sizeLine:=sz _ (show _+1≤9000 by omega)
  have s2:(mk a++(⟨#[ch]⟩:Str)).length+(mk b).length≤sizeLine:=by rw [cat_len];exact sz _ (show _+1+_≤9000 by omega)
  have s3:(mk a).length+(cutS (mk b) (some 1) none).length≤sizeLine:=sz _ (by omega)
  have s4:(mk a++(⟨#[ch]⟩:Str)).length+(cutS (mk b) (some 1) none).length≤sizeLine:=by rw [cat_len];exact sz _ (show _+1+_≤9000 by omega)
  have s5:(mk a).length+(cutS (mk b) none (some 1)).length≤sizeLine:=sz _ (by omega)
  have s6:(mk a++cutS (mk b) none (some 1)).length+(mk b).length≤sizeLine:=by rw [cat_len];exact sz _ (by omega)
  refine ⟨_,rfl,_,rfl,_,_,rfl,rfl,s1,_,rfl,_,_,rfl,rfl,s2,_,rfl,_,rfl,1,rfl,mk b,rfl,szb,_,_,rfl,rfl,s3,_,rfl,_,rfl,_,_,rfl,rfl,s1,_,rfl,1,rfl,mk b,rfl,szb,_,_,rfl,rfl,s4,_,rfl,_,rfl,_,rfl,1,rfl,mk b,rfl,szb,_,_,rfl,rfl,s5,_,rfl,_,_,rfl,rfl,s6,line_le (show 5≤1000 by omega),fun r1 hr1=>?_⟩
  have ex:(⟨#[ch]⟩:Str)=mk [ch]:=rfl
  generalize hJ:upd H3 r1 _=H4
  have s34:Same H3 H4:=by rw [← hJ];exact (Same.refl _).new hr1
  have g1:H4 r1=some (.lst ([a++[ch]++b,a++b.drop 1,a++[ch]++b.drop 1,a,a++b.take 1++b].map fun l=>V.str (mk l))):=by rw [← hJ,upd_same,o1,o2];simp only [ex,cat_mk];rfl
  clear hJ
  have z7:(mk a).length+(Str.ofString "(").length≤sizeLine:=sz _ (show _+1≤9000 by omega)
  have z8:(mk a++Str.ofString "(").length+(mk b).length≤sizeLine:=by rw [cat_len];exact sz _ (show _+1+_≤9000 by omega)
  have z9:(mk a).length+(Str.ofString ")").length≤sizeLine:=sz _ (show _+1≤9000 by omega)
  have z10:(mk a++Str.ofString ")").length+(mk b).length≤sizeLine:=by rw [cat_len];exact sz _ (show _+1+_≤9000 by omega)
  have zcs:(mk cs).length≤3990:=by rw [mk_len];omega
  have z11:(mk cs).length+(⟨#[ch]⟩:Str).length≤sizeLine:=sz _ (show _+1≤9000 by omega)
  have z12:(mk b).length+(mk a).length≤sizeLine:=sz _ (by omega)
  refine ⟨_,rfl,_,rfl,_,_,rfl,rfl,z7,_,rfl,_,_,rfl,rfl,z8,_,rfl,_,_,rfl,rfl,z9,_,rfl,_,_,rfl,rfl,z10,_,rfl,_,rfl,_,_,rfl,rfl,z11,_,rfl,_,rfl,_,_,rfl,rfl,z12,line_le (show 4≤1000 by omega),fun r2 hr2=>?_⟩
  generalize hJ:upd H4 r2 _=H5
  have s45:Same H4 H5:=by rw [← hJ];exact (Same.refl _).new hr2
  have g2:H5 r2=some (.lst ([a++[40]++b,a++[41]++b,cs++[ch],b++a].map fun l=>V.str (mk l))):=by
    rw [← hJ,upd_same,show Str.ofString "(" = mk [40] from rfl,show Str.ofString ")" = mk [41] from rfl];simp only [ex,cat_mk];rfl
  clear hJ
  refine ⟨r1,r2,_,_,rfl,rfl,s45 _ _ g1,g2,line_le (show 9≤1000 by omega),fun r3 hr3=>?_⟩
  generalize hJ:upd H5 r3 _=H6
  have s56:Same H5 H6:=by rw [← hJ];exact (Same.refl _).new hr3
  have g3:H6 r3=some (.lst ([a++[ch]++b,a++b.drop 1,a++[ch]++b.drop 1,a,a++b.take 1++b,a++[40]++b,a++[41]++b,cs++[ch],b++a].map fun l=>V.str (mk l))):=by rw [← hJ,upd_same];rfl
  clear hJ
  have all:∀ l∈[a++[ch]++b,a++b.drop 1,a++[ch]++b.drop 1,a,a++b.take 1++b,a++[40]++b,a++[41]++b,cs++[ch],b++a],l.length≤cs.length+1∧∀ x∈l,x < 1000:=by
    have ha:∀ x∈a,x < 1000:=fun x hx=>zb x (by rw [ecs];exact List.mem_append_left _ hx)
    have hb:∀ x∈b,x < 1000:=fun x hx=>zb x (by rw [ecs];exact List.mem_append_right _ hx)
    have hbd:∀ x∈b.drop 1,x < 1000:=fun x hx=>hb x (List.mem_of_mem_drop hx)
    have hbt:∀ x∈b.take 1,x < 1000:=fun x hx=>hb x (List.mem_of_mem_take hx)
    have hc:∀ x∈[ch],x < 1000:=fun x hx=>by rw [List.mem_singleton.mp hx];exact chb
    have h40:∀ x∈[40],x < 1000:=fun x hx=>by rw [List.mem_singleton.mp hx];decide
    have h41:∀ x∈[41],x < 1000:=fun x hx=>by rw [List.mem_singleton.mp hx];decide
    have ap:∀ {u v:List Nat},(∀ x∈u,x < 1000)→(∀ x∈v,x < 1000)→∀ x∈u++v,x < 1000:=fun hu hv x hx=>(List.mem_append.mp hx).elim (hu x) (hv x)
    have one:∀ x:Nat,[x].length=1:=fun _=>rfl
    intro l hl
    simp only [List.mem_cons,List.not_mem_nil,or_false] at hl
    rcases hl with rfl | rfl | rfl | rfl | rfl | rfl | rfl | rfl | rfl
    · exact ⟨by rw [List.length_append,List.length_append,one];omega,ap (ap ha hc) hb⟩
    · exact ⟨by rw [List.length_append];omega,ap ha hbd⟩
    · exact ⟨by rw [List.length_append,List.length_append,one];omega,ap (ap ha hc) hbd⟩
    · exact ⟨by omega,ha⟩
    · exact ⟨by rw [List.length_append,List.length_append];omega,ap (ap ha hbt) hb⟩
    · exact ⟨by rw [List.length_append,List.length_append,one];omega,ap (ap ha h40) hb⟩
    · exact ⟨by rw [List.length_append,List.length_append,one];omega,ap (ap ha h41) hb⟩
    · exact ⟨by rw [List.length_append,one];omega,ap zb hc⟩
    · exact ⟨by rw [List.length_append];omega,ap hb ha⟩
  generalize hL:[a++[ch]++b,a++b.drop 1,a++[ch]++b.drop 1,a,a++b.take 1++b,a++[40]++b,a++[41]++b,cs++[ch],b++a]=L at g3 all
  have lL:L.length=9:=by rw [← hL];rfl
  have hn:n1.toNat < L.length:=by omega
  have at1:atI (L.map fun l=>V.str (mk l)) n1=some (.str (mk L[n1.toNat])):=by
    have:=atI_nat (xs:=L.map fun l=>V.str (mk l)) (j:=n1.toNat) (v:=.str (mk L[n1.toNat])) (by rw [List.getElem?_map,List.getElem?_eq_getElem hn];rfl)
    rw [show ((n1.toNat:Nat):Int)=n1 by omega] at this
    exact this
  obtain ⟨l1,l2⟩:=all L[n1.toNat] (List.getElem_mem _)
  exact ⟨_,rfl,r3,_,_,_,rfl,rfl,SqL.of g3,at1,q _ _ (((k13.same s34).same s45).same s56) l1 l2⟩
end
end S04
namespace S04
open PySem L2 W7
theorem stood_kind (cs:List Nat):stood cs=.non∨∃ i:Nat,stood cs=.int (i:Int):=by
  unfold stood
  cases outc cs with
  | inl i=>exact .inr ⟨i,rfl⟩
  | inr s=>exact .inl rfl
theorem go_small {s f:Sc} {l:List Nat} (g:Go s l f):∀ c∈l,c < 1000:=by
  induction g with
  | nil s=>intro c h;cases h
  | cons h g ih=>
    intro c hc
    rcases List.mem_cons.mp hc with e | e
    · rw [e]
      rcases h with h | h | h
      · omega
      · omega
      · have:=h.1;unfold Lw at this;omega
    · exact ih c e
theorem kit_none_bool (K:PySem.W.Frag):PySem.W.kitOne K (.type "NoneType") (.type "bool")=some false:=by rfl
def tOkL (l:List Nat):Prop:=l.length≤3662∧∀ c∈l,c < 1000
section
variable {P:Program} {w:World} {K:PySem.W.Frag} {mg:Str→Option Value} {base:Heap} {k:Nat}
def sp_law:PySem.W.Frag→Sp:=fun K vs H Q _=>∃ (a:Addr) (ns:List Int),vs=[.ref a]∧SqL K H a (ns.map V.int)∧ns.length≤63∧∀ H',Q (.bl true) H'
theorem ok_law {f:Addr} {fd:FuncData} (EX:ExT K mg) (F:Fun K "law" "law" s_law f fd) (B:Blt7 mg) (G_law_cells:Has P w K mg base "_law_cells" (k+1) ["script", "many"] (sp_cells K)) (G_law_pool:Has P w K mg base "_law_pool" (k+1) ["cell"] sp_pool) (G_law_tree:Has P w K mg base "_law_tree" (k+1) ["pool", "most"] sp_tree)
    (G_show_tree:Has P w K mg base "show_tree" (k+1) ["tree"] sp_show) (G_law_bent:Has P w K mg base "_law_bent" (k+1) ["pool", "text"] sp_bent) (G_law_told:Has P w K mg base "_law_told" (k+1) ["thing"] sp_ltold) (G_law_due:Has P w K mg base "_law_due" (k+1) ["text"] sp_due) (G_law_take:Has P w K mg base "_law_take" (k+1) ["pool", "many"] sp_take)
    (G_NoTree___init__:FnOk P w K mg base CX0 k EX.f_NoTree EX.d_NoTree ["self", "at"] (sp_ninit EX.c_NoTree)) (b_NoTree___init__:Binds K EX.d_NoTree ["self", "at"] []) :
    FnOk P w K mg base CX0 (k+1+1) f fd ["script"] (sp_law K):=by
  refine F.ok sc_law (fun vs H Q E h=>by obtain ⟨a,ns,rfl,_⟩:=h;rfl) (fun cdv A outer s H vs Q E hr h=>?_)
  obtain ⟨a,ns,rfl,hS,h63,q⟩:=h
  refine exw ?_
  refine ⟨_,(w_cons (Pw.mk (ps_for PassesOwn.never rfl (pi_list (pe_callH G_law_cells hr rfl (pa_cons (pv 0) (pa_cons pe_int pa_nil)))) (pg_name (i:=1) sc_law.nd rfl (by first | exact Or.inl rfl | exact Or.inr rfl)) (PSw.h (w_cons (Pw.mk (ps_set (i:=2) sc_law.nd rfl (by first | exact Or.inl rfl | exact Or.inr rfl) (pe_callH G_law_pool hr rfl (pa_cons (pv 1) pa_nil))))
  (w_cons (Pw.mk (ps_set (i:=3) sc_law.nd rfl (by first | exact Or.inl rfl | exact Or.inr rfl) (pe_callH G_show_tree hr rfl (pa_cons (pe_callH G_law_tree hr rfl (pa_cons (pv 2) (pa_cons pe_int pa_nil))) pa_nil))))
  (w_cons (w_set (i:=4) sc_law.nd rfl (by first | exact Or.inl rfl | exact Or.inr rfl) (w_lst (w_acons (PEw.mk (pv 3)) (w_acons w_str w_anil))))
  (w_cons (Pw.mk (ps_for PassesOwn.never rfl (pi_range1 rfl B.range (pa_cons pe_int pa_nil)) (pg_name (i:=5) sc_law.nd rfl (by first | exact Or.inl rfl | exact Or.inr rfl))
  (pss_cons (ps_set (i:=6) sc_law.nd rfl (by first | exact Or.inl rfl | exact Or.inr rfl) (pe_callH G_law_bent hr rfl (pa_cons (pv 2) (pa_cons (pv 3) pa_nil))))
  (pss_one (ps_set (i:=4) sc_law.nd rfl (by first | exact Or.inl rfl | exact Or.inr rfl) (pe_op op_cat (pv 4) (pe_lst (pa_cons (pv 6) (pa_cons (pe_callH G_law_bent hr rfl (pa_cons (pv 2) (pa_cons (pv 6) pa_nil))) pa_nil)))))))))
  (w_cons (Pw.mk (ps_for PassesOwn.never rfl (pi_list (pv 4)) (pg_name (i:=7) sc_law.nd rfl (by first | exact Or.inl rfl | exact Or.inr rfl))
  (pss_cons (ps_set (i:=8) sc_law.nd rfl (by first | exact Or.inl rfl | exact Or.inr rfl) (pe_callH G_law_told hr rfl (pa_cons (pv 7) pa_nil)))
  (pss_cons (ps_set (i:=9) sc_law.nd rfl (by first | exact Or.inl rfl | exact Or.inr rfl) (pe_callH G_law_due hr rfl (pa_cons (pv 7) pa_nil)))
  (pss_one (ps_if (PW.pt (pw_or (pt_val (pe_callB call_isinst rfl B.isinstance bt_isinstance (pa_cons (pv 8) (pa_cons (pe_bltn (v:=.ty "bool") rfl B.bool_ bt_bool rfl) pa_nil)))) (pw_or1 (pt_cmpR op_ne (pv 8) (pv 9) (nomark _)))))
  (pss_one (ps_ret pe_bl))
  pss_nil))))))
  (w_cons (w_set (i:=10) sc_law.nd rfl (by first | exact Or.inl rfl | exact Or.inr rfl) (w_ix ix_list (w_lst (w_acons (PEw.mk pe_non) (w_acons (PEw.mk pe_int) (w_acons (PEw.mk pe_bl) (w_acons (w_lst (w_acons w_str w_anil)) (w_acons (w_tup (w_acons w_str w_anil)) (w_acons (PEw.mk pe_dnewK) (w_acons (PEw.mk (pe_lst pa_nil)) (w_acons (PEw.mk (pe_lst (pa_cons (pv 3) pa_nil))) w_anil))))))))) (PEw.mk (pe_callH G_law_take hr rfl (pa_cons (pv 2) (pa_cons pe_int pa_nil)))) (fun _ _=>rfl)))
  (w_one (Pw.mk (ps_if (pt_cmpR op_ne (pe_callH G_law_told hr rfl (pa_cons (pv 10) pa_nil)) (pe_op op_sub pe_int pe_int) (nomark _))
  (pss_one (ps_ret pe_bl))
  pss_nil))))))))))))
  (w_one (Pw.mk (ps_ret (pe_cmpR op_eq (pe_fldEK K (pe_makeX EX.mk_NoTree G_NoTree___init__ hr rfl EX.m_NoTree b_NoTree___init__ pass0 (pa_cons pe_int pa_nil)) rfl) pe_int (nomark _)))))),?_⟩
  refine ⟨_,rfl,a,ns,8,rfl,hS,h63,by decide,fun ms r H1 ml s1 hf1 hr1=>?_⟩
  refine ⟨r,rfl,⟨_,SqL.of hr1⟩,?_⟩
  refine for_list (xs:=ms.map V.int) (fun i σ H'=>∃ o1 o2 o3 o4 o5 o6 o7 o8 o9 o10:Option V,σ=[some (.ref a),o1,o2,o3,o4,o5,o6,o7,o8,o9,o10]∧Same H1 H') ⟨none,none,none,none,none,none,none,none,none,none,rfl,Same.refl H1⟩ (fun i σ H' _ h=>by obtain ⟨_,_,_,_,_,_,_,_,_,_,_,sX⟩:=h;exact SqL.of (sX _ _ hr1)) ?_ ?_
  rotate_left
  · rintro σ H' ⟨o1,o2,o3,o4,o5,o6,o7,o8,o9,o10,rfl,sX⟩
    refine ⟨line_le (show 1≤1000 by omega),fun e he=>⟨e,.int 7,rfl,upd_same,fun dx nd ne=>⟨rfl,e,EX.c_NoTree,dx,_,.int 7,rfl,.inr upd_same,by rw [upd_ne ne,upd_same],EX.z_NoTree,EX.st.hd,EX.na,rfl,rfl,?_⟩⟩⟩
    exact q _
  rintro i x σ H' hx ⟨o1,o2,o3,o4,o5,o6,o7,o8,o9,o10,rfl,sX⟩
  obtain ⟨cell,_,rfl⟩:=List.mem_map.mp (List.mem_of_getElem? hx)
  refine ⟨_,rfl,cell,rfl,fun p x y hp=>?_⟩
  have dk0:Deck (upd H' p (.lst [.int x,.int y,.int 0])) p 0:=⟨x,y,0,upd_same,by decide,by decide⟩
  have s0:Same H' (upd H' p (.lst [.int x,.int y,.int 0])):=(Same.refl H').new hp
  have hp0:∀ b o,H' b=some o→b≠p:=fun b o e=>ne_of_none e hp
  generalize upd H' p (.lst [.int x,.int y,.int 0])=H0 at dk0 s0 ⊢
  refine ⟨_,rfl,p,60,0,rfl,dk0,by decide,by decide,by decide,by decide,fun t ups lab H2 kd tr fine=>?_⟩
  have ok:=tr.choose_spec.2.2
  have road:Road ups:=fine.road
  refine ⟨t,ups,lab,rfl,tr,road,fun H3 s3=>?_⟩
  have tl:(txt ups lab.cps.toList).length≤3660:=ft_len ok road ok.pos
  have tb:∀ c∈txt ups lab.cps.toList,c < 1000:=by
    obtain ⟨z,zn,go⟩:=go_all ok road fine.low
    exact go_small go
  have kd3:=kd.same s3
  generalize txt ups lab.cps.toList=T at tl tb ⊢
  refine ⟨_,rfl,line_le (show 2≤1000 by omega),fun l0 hl0=>?_⟩
  generalize hJ:upd H3 l0 _=H4
  have s4:Same H3 H4:=by rw [← hJ];exact (Same.refl _).new hl0
  have g0:H4 l0=some (.lst ([T,[]].map fun l=>V.str (mk l))):=by rw [← hJ,upd_same];rfl
  clear hJ
  have l0p:l0≠p:=kd3.deck.ne hl0
  have kd4:=kd3.same s4
  refine ⟨5,rfl,by decide,by decide,?_⟩
  refine for_range (lo:=0) (n:=5) (fun j σ HY=>∃ (o5 o6:Option V) (rl:Addr) (L:List (List Nat)),σ=[some (.ref a),some (.int cell),some (.ref p),some (.str (mk T)),some (.ref rl),o5,o6,o7,o8,o9,o10]∧Kd p (400+6 * (j:Int)) H0 HY∧HY rl=some (.lst (L.map fun l=>V.str (mk l)))∧rl≠p∧L.length=2+2 * j∧∀ l∈L,tOkL l)
    ⟨_,_,l0,[T,[]],rfl,kd4.mono (by decide),g0,l0p,rfl,fun l hl=>by
      simp only [List.mem_cons,List.not_mem_nil,or_false] at hl
      rcases hl with rfl | rfl
      · exact ⟨by omega,tb⟩
      · exact ⟨by decide,fun c hc=>by cases hc⟩⟩ ?_ ?_
  · rintro j σ HY hj ⟨o5b,o6b,rl,L,rfl,kY,hY,rp,lL,allL⟩
    refine ⟨_,rfl,_,rfl,p,_,T,rfl,kY.deck,by omega,by omega,by omega,tb,fun c1 H5 k5 l5 b5=>?_⟩
    have kY5:=kY.trans k5
    refine ⟨_,rfl,_,rfl,_,rfl,_,rfl,p,_,c1,rfl,k5.deck,by omega,by omega,by omega,b5,fun c2 H6 k6 l6 b6=>?_⟩
    have kY6:=kY5.trans k6
    have hY6:=k6.keep _ _ rp (k5.keep _ _ rp hY)
    refine ⟨line_le (show 2≤1000 by omega),fun r5 hr5=>?_⟩
    generalize hJ:upd H6 r5 _=H7
    have s7:Same H6 H7:=by rw [← hJ];exact (Same.refl _).new hr5
    have g7:H7 r5=some (.lst ([c1,c2].map fun l=>V.str (mk l))):=by rw [← hJ,upd_same];rfl
    clear hJ
    refine ⟨rl,r5,_,_,rfl,rfl,s7 _ _ hY6,g7,line_le (by rw [List.length_map,List.length_map];show L.length+2≤1000;omega),fun r8 hr8=>?_⟩
    generalize hJ:upd H7 r8 _=H8
    have s8:Same H7 H8:=by rw [← hJ];exact (Same.refl _).new hr8
    have g8:H8 r8=some (.lst ((L++[c1,c2]).map fun l=>V.str (mk l))):=by rw [← hJ,upd_same,List.map_append]
    clear hJ
    have kY7:=kY6.same s7
    refine ⟨_,_,r8,L++[c1,c2],rfl,(kY7.same s8).mono (by omega),g8,kY7.deck.ne hr8,by rw [List.length_append,lL];show 2+2 * j+2=_;omega,fun l hl=>?_⟩
    rcases List.mem_append.mp hl with h | h
    · exact allL l h
    · simp only [List.mem_cons,List.not_mem_nil,or_false] at h
      rcases h with rfl | rfl
      · exact ⟨by omega,b5⟩
      · exact ⟨by omega,b6⟩
  rintro σ HY ⟨o5b,o6b,rl,L,rfl,kY,hY,rp,lL,allL⟩
  refine ⟨_,rfl,rl,rfl,⟨_,SqL.of hY⟩,?_⟩
  refine for_list (K:=K) (xs:=L.map fun l=>V.str (mk l)) (fun j σ HZ=>∃ o7 o8 o9:Option V,σ=[some (.ref a),some (.int cell),some (.ref p),some (.str (mk T)),some (.ref rl),o5b,o6b,o7,o8,o9,o10]∧Same HY HZ) ⟨_,_,_,rfl,Same.refl HY⟩ (fun j σ HZ _ h=>by obtain ⟨_,_,_,_,sZ⟩:=h;exact SqL.of (sZ _ _ hY)) ?_ ?_
  · rintro j xv σ HZ hxv ⟨o7b,o8b,o9b,rfl,sZ⟩
    obtain ⟨l,hl,rfl⟩:=List.mem_map.mp (List.mem_of_getElem? hxv)
    obtain ⟨ll,lb⟩:=allL l hl
    refine ⟨_,rfl,.inl ⟨l,rfl,by omega,lb,fun HA sA=>?_⟩⟩
    refine ⟨_,rfl,l,rfl,by omega,lb,fun HB sB=>?_⟩
    have fin:∀ HC,Same HB HC→Same HY HC:=fun HC sC=>((sZ.trans sA).trans sB).trans sC
    rcases stood_kind l with e | ⟨n,e⟩
    · rw [e]
      refine ⟨_,rfl,_,.type "NoneType", "bool", false,rfl,.non,kit_none_bool _,_,rfl,iteF ?_⟩
      refine ⟨_,rfl,_,rfl,rfl,_,rfl,iteN (by simp) ?_⟩
      exact ⟨_,_,_,rfl,fin _ (Same.refl _)⟩
    · rw [e]
      refine ⟨_,rfl,_,.type "int", "bool", false,rfl,.int _,kit_int_bool _,_,rfl,iteF ?_⟩
      refine ⟨_,rfl,_,rfl,rfl,_,rfl,iteN (by simp) ?_⟩
      exact ⟨_,_,_,rfl,fin _ (Same.refl _)⟩
  rintro σ HZ ⟨o7b,o8b,o9b,rfl,sZ⟩
  have kZ:=kY.same sZ
  refine ⟨line_le (show 1≤1000 by omega),fun a1 ha1=>?_⟩
  generalize hJ:upd HZ a1 _=HA
  have sA:Same HZ HA:=by rw [← hJ];exact (Same.refl _).new ha1
  have gA:HA a1=some (.lst [.str (Str.ofString "a")]):=by rw [← hJ,upd_same]
  clear hJ
  refine ⟨line_le (show 1≤1000 by omega),fun a2 ha2=>?_⟩
  generalize hJ:upd HA a2 _=HB
  have sB:Same HA HB:=by rw [← hJ];exact (Same.refl _).new ha2
  have gB:HB a2=some (.tup [.str (Str.ofString "a")]):=by rw [← hJ,upd_same]
  clear hJ
  refine fun a3 ha3=>?_
  generalize hJ:upd HB a3 _=HC
  have sC:Same HB HC:=by rw [← hJ];exact (Same.refl _).new ha3
  have gC:HC a3=some (.dK []):=by rw [← hJ,upd_same]
  clear hJ
  refine ⟨line_le (show 0≤1000 by omega),fun a4 ha4=>?_⟩
  generalize hJ:upd HC a4 _=HD
  have sD:Same HC HD:=by rw [← hJ];exact (Same.refl _).new ha4
  have gD:HD a4=some (.lst []):=by rw [← hJ,upd_same]
  clear hJ
  refine ⟨_,rfl,line_le (show 1≤1000 by omega),fun a5 ha5=>?_⟩
  generalize hJ:upd HD a5 _=HE
  have sE:Same HD HE:=by rw [← hJ];exact (Same.refl _).new ha5
  have gE:HE a5=some (.lst [.str (mk T)]):=by rw [← hJ,upd_same]
  clear hJ
  refine ⟨line_le (show 8≤1000 by omega),fun rt hrt=>?_⟩
  generalize hJ:upd HE rt _=HF
  have sF:Same HE HF:=by rw [← hJ];exact (Same.refl _).new hrt
  have gF:HF rt=some (.lst [.non,.int 5,.bl true,.ref a1,.ref a2,.ref a3,.ref a4,.ref a5]):=by rw [← hJ,upd_same]
  clear hJ
  have sAF:Same HZ HF:=((((sA.trans sB).trans sC).trans sD).trans sE).trans sF
  have kE:=((((kZ.same sA).same sB).same sC).same sD).same sE
  have rtp:rt≠p:=kE.deck.ne hrt
  have kF:=kE.same sF
  have td:∀ v∈[V.non,.int 5,.bl true,.ref a1,.ref a2,.ref a3,.ref a4,.ref a5],∃ d,isStrD d=false∧∀ HG:Hp,(∀ b o,b≠p→HF b=some o→HG b=some o)→Td HG v d:=by
    have q1:=kZ.deck.ne ha1
    have q2:=(kZ.same sA).deck.ne ha2
    have q3:=((kZ.same sA).same sB).deck.ne ha3
    have q4:=(((kZ.same sA).same sB).same sC).deck.ne ha4
    have q5:=((((kZ.same sA).same sB).same sC).same sD).deck.ne ha5
    intro v hv
    simp only [List.mem_cons,List.not_mem_nil,or_false] at hv
    rcases hv with rfl | rfl | rfl | rfl | rfl | rfl | rfl | rfl
    · exact ⟨_,rfl,fun HG kk=>.non⟩
    · exact ⟨_,rfl,fun HG kk=>.int _⟩
    · exact ⟨_,rfl,fun HG kk=>.bl _⟩
    · exact ⟨.list [.str (Str.ofString "a")],rfl,fun HG kk=>.lst (kk _ _ q1 (sF _ _ (sE _ _ (sD _ _ (sC _ _ (sB _ _ gA)))))) (.cons (.str _) .nil)⟩
    · exact ⟨.tuple [.str (Str.ofString "a")],rfl,fun HG kk=>.tup (kk _ _ q2 (sF _ _ (sE _ _ (sD _ _ (sC _ _ gB))))) (.cons (.str _) .nil)⟩
    · exact ⟨.dict [],rfl,fun HG kk=>.dct (ps:=[]) (kk _ _ q3 (sF _ _ (sE _ _ (sD _ _ gC)))) .nil .nil⟩
    · exact ⟨.list [],rfl,fun HG kk=>.lst (kk _ _ q4 (sF _ _ (sE _ _ gD))) .nil⟩
    · exact ⟨.list [.str (mk T)],rfl,fun HG kk=>.lst (kk _ _ q5 (sF _ _ gE)) (.cons (.str _) .nil)⟩
  generalize hLv:[V.non,.int 5,.bl true,.ref a1,.ref a2,.ref a3,.ref a4,.ref a5]=Lv at gF td
  have lLv:Lv.length=8:=by rw [← hLv];rfl
  refine ⟨_,rfl,p,8,_,rfl,kF.deck,by omega,by decide,by decide,fun n HG n0 n1 kG=>?_⟩
  have hn:n.toNat < Lv.length:=by omega
  have at1:atI Lv n=some Lv[n.toNat]:=by
    have:=atI_nat (xs:=Lv) (j:=n.toNat) (List.getElem?_eq_getElem hn)
    rw [show ((n.toNat:Nat):Int)=n by omega] at this
    exact this
  obtain ⟨d,nd,td1⟩:=td Lv[n.toNat] (List.getElem_mem _)
  have gG:=kG.keep _ _ rtp gF
  refine ⟨rt,_,_,_,rfl,rfl,SqL.of gG,at1,?_⟩
  have td2:Td HG Lv[n.toNat] d:=td1 HG fun b o nb e=>kG.keep _ _ nb e
  refine ⟨_,rfl,.inr ⟨_,d,rfl,td2,nd,fun HH sH=>?_⟩⟩
  refine ⟨_,_,rfl,rfl,rfl,_,rfl,iteN (by decide) ?_⟩
  have s23:∀ b o,H' b=some o→HH b=some o:=fun b o e=>sH _ _ (kG.keep _ _ (hp0 b o e) (sAF _ _ (sZ _ _ (kY.keep _ _ (hp0 b o e) (s0 _ _ e)))))
  exact ⟨_,_,_,_,_,_,_,_,_,_,rfl,sX.trans s23⟩
end
end S04
namespace S04
open PySem L2 W7
theorem df_mk {K:PySem.W.Frag} {h:Heap} {mg:Str→Option Value} {x:Str} {st:Stmt} {f:Addr} {oc:Value} {od an:Option Addr} {osl:Array (Option Value)} {kV doc pm cdv ct:Value} (X:K.In h) (G:h.Ns mainGlobals mg)
    (a:PySem.W.nsIn K mainGlobals x=some (some (.ref f))) (l:K.lookup f=some ⟨oc,od,.func (PySem.W.fnOf x x (defArgs st) (defBody st) (defScope st) .none kV doc pm an cdv ct),osl⟩) (c:PySem.W.codeIn K cdv x=true) (kk:PySem.W.keepIn K (.ref f)=true):Df K mg x st:=
  ⟨f,_,fun_mk l c kk,PySem.W.mg_of X G a⟩
theorem made_mkScan {K:PySem.W.Frag} {h:Heap} {mg:Str→Option Value} {C f1 f2 f3 f4:Addr} (X:K.In h) (G:h.Ns mainGlobals mg) {od1 an1 od2 an2 od3 an3 od4 an4:Option Addr} {sl1 sl2 sl3 sl4:Array (Option Value)} {oc1 kV1 dc1 pm1 cd1 ct1 oc2 kV2 dc2 pm2 cd2 ct2 oc3 kV3 dc3 pm3 cd3 ct3 oc4 kV4 dc4 pm4 cd4 ct4:Value}
    (aC:PySem.W.nsIn K mainGlobals "Scan" = some (some (.ref C)))
     (a1:PySem.W.findIn K (.ref C) "__init__" = some (some (.ref f1))) (i1:PySem.W.isFn K (.ref f1)=true) (l1:K.lookup f1=some ⟨oc1,od1,.func (PySem.W.fnOf "__init__" "Scan.__init__" (defArgs s_Scan___init__) (defBody s_Scan___init__) (defScope s_Scan___init__) .none kV1 dc1 pm1 an1 cd1 ct1),sl1⟩) (c1:PySem.W.codeIn K cd1 "Scan.__init__" = true) (k1:PySem.W.keepIn K (.ref f1)=true)
     (a2:PySem.W.findIn K (.ref C) "can_take" = some (some (.ref f2))) (i2:PySem.W.isFn K (.ref f2)=true) (l2:K.lookup f2=some ⟨oc2,od2,.func (PySem.W.fnOf "can_take" "Scan.can_take" (defArgs s_Scan_can_take) (defBody s_Scan_can_take) (defScope s_Scan_can_take) .none kV2 dc2 pm2 an2 cd2 ct2),sl2⟩) (c2:PySem.W.codeIn K cd2 "Scan.can_take" = true) (k2:PySem.W.keepIn K (.ref f2)=true)
     (a3:PySem.W.findIn K (.ref C) "take" = some (some (.ref f3))) (i3:PySem.W.isFn K (.ref f3)=true) (l3:K.lookup f3=some ⟨oc3,od3,.func (PySem.W.fnOf "take" "Scan.take" (defArgs s_Scan_take) (defBody s_Scan_take) (defScope s_Scan_take) .none kV3 dc3 pm3 an3 cd3 ct3),sl3⟩) (c3:PySem.W.codeIn K cd3 "Scan.take" = true) (k3:PySem.W.keepIn K (.ref f3)=true)
     (a4:PySem.W.findIn K (.ref C) "is_done" = some (some (.ref f4))) (i4:PySem.W.isFn K (.ref f4)=true) (l4:K.lookup f4=some ⟨oc4,od4,.func (PySem.W.fnOf "is_done" "Scan.is_done" (defArgs s_Scan_is_done) (defBody s_Scan_is_done) (defScope s_Scan_is_done) .none kV4 dc4 pm4 an4 cd4 ct4),sl4⟩) (c4:PySem.W.codeIn K cd4 "Scan.is_done" = true) (k4:PySem.W.keepIn K (.ref f4)=true)
    (pg:PySem.W.plainGet K C Str.empty=true) (hd:PySem.W.hasDictIn K C=true) (po:PySem.W.plainOver K C=true) (sa:PySem.W.findIn K (.ref C) "__setattr__" = some (some (.builtin "object.__setattr__"))) (mk:PySem.W.makesIn K C=true) (kc:PySem.W.keepIn K (.ref C)=true) (nups:PySem.W.findIn K (.ref C) "ups" = some none) (nletters:PySem.W.findIn K (.ref C) "letters" = some none) (nwithin:PySem.W.findIn K (.ref C) "within" = some none) (nlast:PySem.W.findIn K (.ref C) "last" = some none):Made K mg:=
  ⟨C,f1,f2,f3,f4,_,_,_,_,⟨⟨pg,hd,po,sa⟩,nups,nletters,nwithin,nlast,PySem.W.mg_of X G aC⟩,⟨mk,a1,i1,kc⟩,fun_mk l1 c1 k1,⟨a2,i2,k2⟩,fun_mk l2 c2 k2,⟨a3,i3,k3⟩,fun_mk l3 c3 k3,⟨a4,i4,k4⟩,fun_mk l4 c4 k4⟩
def ext_mk {K:PySem.W.Frag} {h:Heap} {mg:Str→Option Value} (X:K.In h) (G:h.Ns mainGlobals mg) {C f UpError NoPlace NoNumber NoWord NoRows NoRuns NoCover NoText TooMany NoTries NoPattern NoLetter NoLeaf NoChange NoLine:Addr} {od an:Option Addr} {sl:Array (Option Value)} {oc kV dc pm cd ct:Value}
    (aN:PySem.W.nsIn K mainGlobals "NoTree" = some (some (.ref C)))
    (qN:exiIn K C=true)
    (iN:PySem.W.findIn K (.ref C) "__init__" = some (some (.ref f)))
    (fN:PySem.W.isFn K (.ref f)=true)
    (lN:K.lookup f=some ⟨oc,od,.func (PySem.W.fnOf "__init__" "NoTree.__init__" (defArgs s_NoTree___init__) (defBody s_NoTree___init__) (defScope s_NoTree___init__) .none kV dc pm an cd ct),sl⟩)
    (cN:PySem.W.codeIn K cd "NoTree.__init__" = true)
    (kN:PySem.W.keepIn K (.ref f)=true)
    (pN:PySem.W.keepIn K (.ref C)=true)
    (sN:PySem.W.findIn K (.ref C) "__setattr__" = some (some (.builtin "object.__setattr__")))
    (mN:((PySem.W.clsIn K C).any fun cd=>onlyErr bmV cd.mro)=true)
    (hN:PySem.W.hasDictIn K C=true)
    (tN:PySem.W.findIn K (.ref C) "at" = some none)
    (ga:PySem.W.findIn K (.ref C) "__getattribute__" = some (some (.builtin "BaseException.__getattribute__")))
    (gn:PySem.W.findIn K (.ref C) "__getattr__" = some none)
    (cl:PySem.W.findIn K (.ref C) "__class__" = some (some (.builtin "object.__class__")))
    (gt:PySem.W.specialIn K (.builtin "object.__class__") "__get__" = some (some (.builtin "getset_descriptor.__get__")))
    (tk:PySem.W.takesIn K (.builtin "object.__class__")=some true)
    (ob:PySem.W.mroIn K C (.type "object")=some true)
    (be:PySem.W.mroIn K C (.type "BaseException")=some true)
    (cD:(PySem.W.clsIn K C).isSome=true)
    (uN:PySem.W.exmOne K (.ref C) (.ref C)=some true)
    (a_UpError:PySem.W.nsIn K mainGlobals "UpError" = some (some (.ref UpError)))
    (a_NoPlace:PySem.W.nsIn K mainGlobals "NoPlace" = some (some (.ref NoPlace)))
    (a_NoNumber:PySem.W.nsIn K mainGlobals "NoNumber" = some (some (.ref NoNumber)))
    (a_NoWord:PySem.W.nsIn K mainGlobals "NoWord" = some (some (.ref NoWord)))
    (a_NoRows:PySem.W.nsIn K mainGlobals "NoRows" = some (some (.ref NoRows)))
    (a_NoRuns:PySem.W.nsIn K mainGlobals "NoRuns" = some (some (.ref NoRuns)))
    (a_NoCover:PySem.W.nsIn K mainGlobals "NoCover" = some (some (.ref NoCover)))
    (a_NoText:PySem.W.nsIn K mainGlobals "NoText" = some (some (.ref NoText)))
    (a_TooMany:PySem.W.nsIn K mainGlobals "TooMany" = some (some (.ref TooMany)))
    (a_NoTries:PySem.W.nsIn K mainGlobals "NoTries" = some (some (.ref NoTries)))
    (a_NoPattern:PySem.W.nsIn K mainGlobals "NoPattern" = some (some (.ref NoPattern)))
    (a_NoLetter:PySem.W.nsIn K mainGlobals "NoLetter" = some (some (.ref NoLetter)))
    (a_NoLeaf:PySem.W.nsIn K mainGlobals "NoLeaf" = some (some (.ref NoLeaf)))
    (a_NoChange:PySem.W.nsIn K mainGlobals "NoChange" = some (some (.ref NoChange)))
    (a_NoLine:PySem.W.nsIn K mainGlobals "NoLine" = some (some (.ref NoLine)))
    (t0:PySem.W.kitOne K (.ref C) (.type "ValueError")=some true)
    (t1:PySem.W.kitOne K (.ref C) (.ref UpError)=some true)
    (t2:PySem.W.kitAny K (.ref C) ([NoChange,NoCover,NoLeaf,NoLetter,NoLine,NoNumber,NoPattern,NoPlace].map Value.ref)=some false)
    (t3:PySem.W.kitAny K (.ref C) ([NoRows,NoRuns,NoText,NoTries,NoWord,TooMany].map Value.ref)=some false):ExT K mg where
  c_NoTree:=C
  f_NoTree:=f
  d_NoTree:=_
  m_NoTree:=PySem.W.mg_of X G aN
  mk_NoTree:=⟨qN,iN,fN,pN⟩
  F_NoTree:=fun_mk lN cN kN
  st:=⟨sN,mN,hN⟩
  na:=tN
  z_NoTree:=⟨ga,gn,cl,gt,tk,ob,be,cD⟩
  u_NoTree:=uN
  c_UpError:=UpError
  m_UpError:=PySem.W.mg_of X G a_UpError
  c_NoPlace:=NoPlace
  m_NoPlace:=PySem.W.mg_of X G a_NoPlace
  c_NoNumber:=NoNumber
  m_NoNumber:=PySem.W.mg_of X G a_NoNumber
  c_NoWord:=NoWord
  m_NoWord:=PySem.W.mg_of X G a_NoWord
  c_NoRows:=NoRows
  m_NoRows:=PySem.W.mg_of X G a_NoRows
  c_NoRuns:=NoRuns
  m_NoRuns:=PySem.W.mg_of X G a_NoRuns
  c_NoCover:=NoCover
  m_NoCover:=PySem.W.mg_of X G a_NoCover
  c_NoText:=NoText
  m_NoText:=PySem.W.mg_of X G a_NoText
  c_TooMany:=TooMany
  m_TooMany:=PySem.W.mg_of X G a_TooMany
  c_NoTries:=NoTries
  m_NoTries:=PySem.W.mg_of X G a_NoTries
  c_NoPattern:=NoPattern
  m_NoPattern:=PySem.W.mg_of X G a_NoPattern
  c_NoLetter:=NoLetter
  m_NoLetter:=PySem.W.mg_of X G a_NoLetter
  c_NoLeaf:=NoLeaf
  m_NoLeaf:=PySem.W.mg_of X G a_NoLeaf
  c_NoChange:=NoChange
  m_NoChange:=PySem.W.mg_of X G a_NoChange
  c_NoLine:=NoLine
  m_NoLine:=PySem.W.mg_of X G a_NoLine
  t0:=t0
  t1:=t1
  t2:=t2
  t3:=t3
theorem blt_mk {K:PySem.W.Frag} {h:Heap} {mg:Str→Option Value} (X:K.In h) (G:h.Ns mainGlobals mg)
    (z1:PySem.W.nsIn K mainGlobals "len" = some none) (z2:PySem.W.nsIn K mainGlobals "range" = some none) (z3:PySem.W.nsIn K mainGlobals "zip" = some none) (z4:PySem.W.nsIn K mainGlobals "enumerate" = some none)
    (z5:PySem.W.nsIn K mainGlobals "max" = some none) (z6:PySem.W.nsIn K mainGlobals "min" = some none) (z7:PySem.W.nsIn K mainGlobals "int" = some none) (z8:PySem.W.nsIn K mainGlobals "str" = some none)
    (z9:PySem.W.nsIn K mainGlobals "bool" = some none) (z10:PySem.W.nsIn K mainGlobals "list" = some none) (z11:PySem.W.nsIn K mainGlobals "tuple" = some none) (z12:PySem.W.nsIn K mainGlobals "isinstance" = some none):Blt mg:=
  ⟨PySem.W.mg_none_of X G z1,PySem.W.mg_none_of X G z2,PySem.W.mg_none_of X G z3,PySem.W.mg_none_of X G z4,PySem.W.mg_none_of X G z5,PySem.W.mg_none_of X G z6,PySem.W.mg_none_of X G z7,PySem.W.mg_none_of X G z8,
    PySem.W.mg_none_of X G z9,PySem.W.mg_none_of X G z10,PySem.W.mg_none_of X G z11,PySem.W.mg_none_of X G z12⟩
theorem all_ok {P:Program} {w:World} {K:PySem.W.Frag} {mg:Str→Option Value} {fa:Addr} (hfa:mg "law" = some (.ref fa)) (B:Blt8 mg)
    (d1:Df K mg "all_above" s_all_above) (d2:Df K mg "deep_of" s_deep_of) (d3:Df K mg "show_tree" s_show_tree) (d4:Df K mg "read_tree" s_read_tree) (d5:Df K mg "_law_prime" s_law_prime) (d6:Df K mg "_law_pool" s_law_pool) (d7:Df K mg "_law_take" s_law_take) (d8:Df K mg "_law_letter" s_law_letter) (d9:Df K mg "_law_tree" s_law_tree) (d10:Df K mg "_law_cells" s_law_cells) (d11:Df K mg "_law_standing" s_law_standing) (d12:Df K mg "_law_due" s_law_due) (d13:Df K mg "_law_bent" s_law_bent) (d14:Df K mg "_law_told" s_law_told) (d15:Df K mg "law" s_law) (M:Made K mg) (EX:ExT K mg) :
    ∃ fd:FuncData,(∀ (s:Shared) (v:Value),BindsTo s fd ⟨[v],[]⟩ [("script", v)])∧∀ base:Heap,FnOk P w K mg base CX0 12 fa fd ["script"] (sp_law K):=by
  obtain ⟨f,fd,F,m⟩:=d15
  have e:=hfa.symm.trans m
  cases e
  refine ⟨fd,?_,fun base=>?_⟩
  · obtain ⟨oc,od,kV,doc,pm,an,cdv,ct,osl,rfl,_,_⟩:=F.ex
    exact fun s v=>.of_eq rfl
  have g_all:=has_all (P:=P) (w:=w) (base:=base) (k:=0) d1 B.toBlt7
  have g_deep:=has_deep (k:=1) d2 B.toBlt7 g_all
  have g_show:=has_show (k:=2) d3 B.toBlt7 g_deep
  have g_read:=has_readX (P:=P) (w:=w) (base:=base) (k:=0) EX.toExN d4 B.toBlt7 M
  have g_cells:=has_cells (P:=P) (w:=w) (base:=base) (k:=0) d10 B.toBlt7
  have g_prime:=has_prime (P:=P) (w:=w) (base:=base) (k:=0) d5 B.toBlt
  have g_pool:=has_pool (P:=P) (w:=w) (base:=base) (k:=0) d6 B.toBlt
  have g_take:=has_take (k:=1) d7 B.toBlt g_prime
  have g_letter:=has_letter (k:=2) d8 B.toBlt g_take
  have g_tree:=has_tree (k:=3) d9 B.toBlt (g_take.mono (by decide)) g_letter
  have g_standing:=has_standing (P:=P) (w:=w) (base:=base) (k:=0) d11 B.toBlt7
  have g_due:=has_due (k:=1) d12 B.toBlt7 g_standing
  have g_bent:=has_bent (k:=2) d13 B.toBlt7 g_take
  have g_told:=has_ltold (k:=3) EX d14 B g_read
  have b_i:=EX.F_NoTree.binds (ps:=["self", "at"]) (fun _ _ _ _ _ _ us hl=>match us,hl with | [_,_],_=>rfl)
  exact (ok_law (k:=4) EX F B.toBlt7 (g_cells.mono (by decide)) (g_pool.mono (by decide)) (g_tree.mono (by decide)) (g_show.mono (by decide)) (g_bent.mono (by decide)) (g_told.mono (by decide)) (g_due.mono (by decide)) (g_take.mono (by decide)) (ok_ninit (k:=3) EX.toExN) b_i).mono (by decide)
end S04
def PySem.W.Fast.tw2571242074763512438 : Nat := 0
def PySem.W.Fast.tw9992203295296458855 : Nat := 0
def PySem.W.Fast.tw14469623642606959660 : Nat := 0
def PySem.W.Fast.tw12055309484449966312 : Nat := 0
def PySem.W.Fast.tw3699086929551845696 : Nat := 0
def PySem.W.Fast.tw7968315041773856847 : Nat := 0
def PySem.W.Fast.tw17801548709917920465 : Nat := 0
def PySem.W.Fast.tw12832463484812702276 : Nat := 0
def PySem.W.Fast.tw2359859167700870713 : Nat := 0
def PySem.W.Fast.tw882939136111731595 : Nat := 0
def PySem.W.Fast.tw6545489735903590638 : Nat := 0
def PySem.W.Fast.tw4329469599168248533 : Nat := 0
def PySem.W.Fast.tw16322057356763952924 : Nat := 0
def PySem.W.Fast.tw13604038041249515782 : Nat := 0
def PySem.W.Fast.tw3066226606376387279 : Nat := 0
def PySem.W.Fast.tw7596389693039648982 : Nat := 0
def PySem.W.Fast.tw8375869672850409250 : Nat := 0
def PySem.W.Fast.tw16840665718813438752 : Nat := 0
def PySem.W.Fast.tw4338592455823919826 : Nat := 0
def PySem.W.Fast.tw8988449700757842062 : Nat := 0
def PySem.W.Fast.tw9362956630081040620 : Nat := 0
def PySem.W.Fast.tw13687347434954649280 : Nat := 0
def PySem.W.Fast.tw9505793730634093062 : Nat := 0
def PySem.W.Fast.tw3623254739249855156 : Nat := 0
def PySem.W.Fast.tw9533836399056557034 : Nat := 0
def PySem.W.Fast.tw3070065097287819628 : Nat := 0
def PySem.W.Fast.tw11878326904590295500 : Nat := 0
def PySem.W.Fast.tw15713059193289168413 : Nat := 0
def PySem.W.Fast.tw9385615364027460935 : Nat := 0
def PySem.W.Fast.tw3857397858097620129 : Nat := 0
def PySem.W.Fast.tw13889174656787215155 : Nat := 0
def PySem.W.Fast.tw901691101009681703 : Nat := 0
def PySem.W.Fast.tw16584634811440493468 : Nat := 0
def PySem.W.Fast.tw16624960017924037579 : Nat := 0
def PySem.W.Fast.tw2125677677841231438 : Nat := 0
def PySem.W.Fast.tw8625733825573397608 : Nat := 0
def PySem.W.Fast.tw3625972584613040775 : Nat := 0
def PySem.W.Fast.tw6152127198108526008 : Nat := 0
def PySem.W.Fast.tw12287891574882340865 : Nat := 0
open PySem PySem.W PyProof.Rows
set_option maxRecDepth 100000 in
set_option maxHeartbeats 0 in
theorem PySem.Challenge.cw_upwords_k04_texts_of_no_tree_holds : PySem.Challenge.rw_upwords_k04_texts_of_no_tree.Holds := by
  w_on; o_law; k_head; (case hw => w_witness2)
  k_fill
  refine L2.walk_ofK (l := PySem.Challenge.rw_upwords_k04_texts_of_no_tree) (n := 63) (k := 12) (x := "script") (CX := L2.CX0) (sp := S04.sp_law) rfl (by decide) rfl ⟨rfl, by decide, by decide, rfl⟩ (fun w h Y => PySem.W.kIn_of Y) ?F
    (fun K H a ns hl _ hS => ⟨a, ns, rfl, hS, hl, fun _ => rfl⟩) (fun _ _ _ _ z => z)
  case F =>
    intro w mg fa h KX G hmg
    have B : L2.Blt mg := by
      refine' S04.blt_mk KX G ?z1 ?z2 ?z3 ?z4 ?z5 ?z6 ?z7 ?z8 ?z9 ?z10 ?z11 ?z12
      (case z1 => k_is); (case z2 => k_is); (case z3 => k_is); (case z4 => k_is); (case z5 => k_is); (case z6 => k_is); (case z7 => k_is); (case z8 => k_is); (case z9 => k_is); (case z10 => k_is); (case z11 => k_is); (case z12 => k_is)
    have Bx0 : mg "repr" = none := by
      refine' PySem.W.mg_none_of KX G ?z
      (case z => k_is)
    have Bx1 : mg "all" = none := by
      refine' PySem.W.mg_none_of KX G ?z
      (case z => k_is)
    have Bx2 : mg "dict" = none := by
      refine' PySem.W.mg_none_of KX G ?z
      (case z => k_is)
    have Bx3 : ∃ u, mg "MOST_PLACES" = some u ∧ L2.RelV (.int 60) u := by
      refine' ⟨_, PySem.W.mg_of KX G ?z, ?r⟩
      (case z => k_is)
      (case r => exact ⟨_, rfl⟩)
    have Bx4 : ∃ u, mg "LETTERS" = some u ∧ L2.RelV (.str "abcdefghijklmnopqrstuvwxyz") u := by
      refine' ⟨_, PySem.W.mg_of KX G ?z, ?r⟩
      (case z => k_is)
      (case r => exact ⟨_, rfl⟩)
    have Bx5 : mg "ValueError" = none := by
      refine' PySem.W.mg_none_of KX G ?z
      (case z => k_is)
    have d1 : L2.Df (L2.KOf KX) mg "all_above" S04.s_all_above := by
      dsimp only [L2.KOf]; refine' S04.df_mk KX G ?a ?l ?c ?k
      (case a => k_is); (case l => k_is); (case c => k_is); (case k => k_is)
    have d2 : L2.Df (L2.KOf KX) mg "deep_of" S04.s_deep_of := by
      dsimp only [L2.KOf]; refine' S04.df_mk KX G ?a ?l ?c ?k
      (case a => k_is); (case l => k_is); (case c => k_is); (case k => k_is)
    have d3 : L2.Df (L2.KOf KX) mg "show_tree" S04.s_show_tree := by
      dsimp only [L2.KOf]; refine' S04.df_mk KX G ?a ?l ?c ?k
      (case a => k_is); (case l => k_is); (case c => k_is); (case k => k_is)
    have d4 : L2.Df (L2.KOf KX) mg "read_tree" S04.s_read_tree := by
      dsimp only [L2.KOf]; refine' S04.df_mk KX G ?a ?l ?c ?k
      (case a => k_is); (case l => k_is); (case c => k_is); (case k => k_is)
    have d5 : L2.Df (L2.KOf KX) mg "_law_prime" S04.s_law_prime := by
      dsimp only [L2.KOf]; refine' S04.df_mk KX G ?a ?l ?c ?k
      (case a => k_is); (case l => k_is); (case c => k_is); (case k => k_is)
    have d6 : L2.Df (L2.KOf KX) mg "_law_pool" S04.s_law_pool := by
      dsimp only [L2.KOf]; refine' S04.df_mk KX G ?a ?l ?c ?k
      (case a => k_is); (case l => k_is); (case c => k_is); (case k => k_is)
    have d7 : L2.Df (L2.KOf KX) mg "_law_take" S04.s_law_take := by
      dsimp only [L2.KOf]; refine' S04.df_mk KX G ?a ?l ?c ?k
      (case a => k_is); (case l => k_is); (case c => k_is); (case k => k_is)
    have d8 : L2.Df (L2.KOf KX) mg "_law_letter" S04.s_law_letter := by
      dsimp only [L2.KOf]; refine' S04.df_mk KX G ?a ?l ?c ?k
      (case a => k_is); (case l => k_is); (case c => k_is); (case k => k_is)
    have d9 : L2.Df (L2.KOf KX) mg "_law_tree" S04.s_law_tree := by
      dsimp only [L2.KOf]; refine' S04.df_mk KX G ?a ?l ?c ?k
      (case a => k_is); (case l => k_is); (case c => k_is); (case k => k_is)
    have d10 : L2.Df (L2.KOf KX) mg "_law_cells" S04.s_law_cells := by
      dsimp only [L2.KOf]; refine' S04.df_mk KX G ?a ?l ?c ?k
      (case a => k_is); (case l => k_is); (case c => k_is); (case k => k_is)
    have d11 : L2.Df (L2.KOf KX) mg "_law_standing" S04.s_law_standing := by
      dsimp only [L2.KOf]; refine' S04.df_mk KX G ?a ?l ?c ?k
      (case a => k_is); (case l => k_is); (case c => k_is); (case k => k_is)
    have d12 : L2.Df (L2.KOf KX) mg "_law_due" S04.s_law_due := by
      dsimp only [L2.KOf]; refine' S04.df_mk KX G ?a ?l ?c ?k
      (case a => k_is); (case l => k_is); (case c => k_is); (case k => k_is)
    have d13 : L2.Df (L2.KOf KX) mg "_law_bent" S04.s_law_bent := by
      dsimp only [L2.KOf]; refine' S04.df_mk KX G ?a ?l ?c ?k
      (case a => k_is); (case l => k_is); (case c => k_is); (case k => k_is)
    have d14 : L2.Df (L2.KOf KX) mg "_law_told" S04.s_law_told := by
      dsimp only [L2.KOf]; refine' S04.df_mk KX G ?a ?l ?c ?k
      (case a => k_is); (case l => k_is); (case c => k_is); (case k => k_is)
    have d15 : L2.Df (L2.KOf KX) mg "law" S04.s_law := by
      dsimp only [L2.KOf]; refine' S04.df_mk KX G ?a ?l ?c ?k
      (case a => k_is); (case l => k_is); (case c => k_is); (case k => k_is)
    have M : S04.Made (L2.KOf KX) mg := by
      dsimp only [L2.KOf]; refine' S04.made_mkScan KX G ?aC ?a1 ?i1 ?l1 ?c1 ?k1 ?a2 ?i2 ?l2 ?c2 ?k2 ?a3 ?i3 ?l3 ?c3 ?k3 ?a4 ?i4 ?l4 ?c4 ?k4 ?pg ?hd ?po ?sa ?mk ?kc ?nups ?nletters ?nwithin ?nlast
      (case aC => k_is); (case a1 => k_is); (case i1 => k_is); (case l1 => k_is); (case c1 => k_is); (case k1 => k_is); (case a2 => k_is); (case i2 => k_is); (case l2 => k_is); (case c2 => k_is); (case k2 => k_is); (case a3 => k_is); (case i3 => k_is); (case l3 => k_is); (case c3 => k_is); (case k3 => k_is); (case a4 => k_is); (case i4 => k_is); (case l4 => k_is); (case c4 => k_is); (case k4 => k_is); (case pg => k_is); (case hd => k_is); (case po => k_is); (case sa => k_is); (case mk => k_is); (case kc => k_is); (case nups => k_is); (case nletters => k_is); (case nwithin => k_is); (case nlast => k_is)
    have EX : S04.ExT (L2.KOf KX) mg := by
      dsimp only [L2.KOf]; refine' S04.ext_mk KX G ?aN ?qN ?iN ?fN ?lN ?cN ?kN ?pN ?sN ?mN ?hN ?tN ?ga ?gn ?cl ?gt ?tk ?ob ?be ?cD ?uN ?a_UpError ?a_NoPlace ?a_NoNumber ?a_NoWord ?a_NoRows ?a_NoRuns ?a_NoCover ?a_NoText ?a_TooMany ?a_NoTries ?a_NoPattern ?a_NoLetter ?a_NoLeaf ?a_NoChange ?a_NoLine ?t0 ?t1 ?t2 ?t3
      (case aN => k_is); (case qN => first | k_exc | k_is | kernel_rfl); (case iN => k_is); (case fN => k_is); (case lN => k_is); (case cN => k_is); (case kN => k_is); (case pN => k_is); (case sN => k_is); (case mN => first | k_is | kernel_rfl); (case hN => k_is); (case tN => k_is); (case ga => k_is); (case gn => k_is); (case cl => k_is); (case gt => k_is); (case tk => k_is); (case ob => k_is); (case be => k_is); (case cD => first | k_is | kernel_rfl); (case uN => first | k_is | kernel_rfl); (case a_UpError => k_is); (case a_NoPlace => k_is); (case a_NoNumber => k_is); (case a_NoWord => k_is); (case a_NoRows => k_is); (case a_NoRuns => k_is); (case a_NoCover => k_is); (case a_NoText => k_is); (case a_TooMany => k_is); (case a_NoTries => k_is); (case a_NoPattern => k_is); (case a_NoLetter => k_is); (case a_NoLeaf => k_is); (case a_NoChange => k_is); (case a_NoLine => k_is); (case t0 => first | k_is | kernel_rfl); (case t1 => first | k_is | kernel_rfl); (case t2 => first | k_is | kernel_rfl); (case t3 => first | k_is | kernel_rfl)
    obtain ⟨fd, h1, h2⟩ := S04.all_ok (P := PySem.Challenge.rw_upwords_k04_texts_of_no_tree.prog) (w := w) hmg ⟨⟨B, Bx0, Bx1, Bx2, Bx3, Bx4⟩, Bx5⟩ d1 d2 d3 d4 d5 d6 d7 d8 d9 d10 d11 d12 d13 d14 d15 M EX
    exact ⟨fd, h1, fun base _ _ => h2 base⟩
