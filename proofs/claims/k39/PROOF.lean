import PyProof.Rows.All
import Wide.All
import OpenK.AllK
import Wide.FinOn
import Lean
import PyProof.EqAt
import PyProof.EqKinds
import PyProof.TupleCall
import PyProof.WalkInts
import PyProof.NeKinds
import KE.KDictOf
import PyProof.Rows.TupAdd
import KE.KTryOn
import PyProof.NsDelKeeps
import PyProof.ExcAttrAll.ValueError
import PyProof.SumAny
import PyProof.ListMulRoad
import PyProof.FactsAll.tuple
import PyProof.FactsAll.tuple_2
import PyProof.FitsBits
import PyProof.ListStr
import PyProof.Rows.Range3
import PySem.Challenge.RW_upwords_k39_runs_asked_by_place
set_option Elab.async false
set_option linter.all false
set_option maxRecDepth 100000
namespace L2
open PySem PySem.Spec PyProof.Rows
abbrev Key:=Sum Int Str
def keyIs:Key→Value→Bool
  | .inl k,v=>Value.isInt k v
  | .inr x,v=>Value.isStrOf x v
def keyH (w:World):Key→Int
  | .inl k=>hashInt k
  | .inr x=>hashStr w x
theorem keyIs_shape:∀ {k:Key} {v:Value},keyIs k v=true→(∃ i t,k=Sum.inl i∧v=Value.int i t)∨(∃ x t,k=Sum.inr x∧v=Value.str x t)
  | .inl i,v,h=>by
    obtain ⟨t,e⟩:=Value.isInt_shape (k:=i) (v:=v) h
    exact .inl ⟨i,t,rfl,e⟩
  | .inr x,v,h=>by
    obtain ⟨t,e⟩:=Value.isStrOf_shape (x:=x) (v:=v) h
    exact .inr ⟨x,t,rfl,e⟩
theorem key_ll (a b:Int):decide ((Sum.inl a:Key)=Sum.inl b)=(a == b):=by
  by_cases e:a=b
  · subst e;simp
  · have h:¬ (Sum.inl a:Key)=Sum.inl b:=fun q=>e (Sum.inl.inj q)
    rw [decide_eq_false h]
    exact (beq_eq_false_iff_ne.mpr e).symm
theorem key_rr (a b:Str):decide ((Sum.inr a:Key)=Sum.inr b)=decide (a=b):=by
  by_cases e:a=b
  · subst e;simp
  · have h:¬ (Sum.inr a:Key)=Sum.inr b:=fun q=>e (Sum.inr.inj q)
    rw [decide_eq_false h,decide_eq_false e]
theorem key_lr (a:Int) (b:Str):decide ((Sum.inl a:Key)=Sum.inr b)=false:=decide_eq_false (fun q=>nomatch q)
theorem key_rl (a:Str) (b:Int):decide ((Sum.inr a:Key)=Sum.inl b)=false:=decide_eq_false (fun q=>nomatch q)
def mixKind (prog:Program) (w:World):PySem.KeyKind prog w Key where
  is:=keyIs
  hash:=keyH w
  inj:=fun v a b ha hb=>by
    rcases keyIs_shape ha with ⟨i,t,rfl,rfl⟩ | ⟨x,t,rfl,rfl⟩
    · rcases keyIs_shape hb with ⟨j,u,rfl,e⟩ | ⟨y,u,rfl,e⟩
      · injection e with e1 _;rw [e1]
      · exact nomatch e
    · rcases keyIs_shape hb with ⟨j,u,rfl,e⟩ | ⟨y,u,rfl,e⟩
      · exact nomatch e
      · injection e with e1 _;rw [e1]
  byValue:=fun k v h=>by
    rcases keyIs_shape h with ⟨i,t,rfl,rfl⟩ | ⟨x,t,rfl,rfl⟩ <;> rfl
  pyHash:=fun hv h=>by
    rcases keyIs_shape hv with ⟨i,t,rfl,rfl⟩ | ⟨x,t,rfl,rfl⟩
    · exact wpAny_pyHash_int h
    · exact wpAny_pyHash_str h
  eqBool:=fun hu hv h=>by
    rcases keyIs_shape hu with ⟨i,t,rfl,rfl⟩ | ⟨x,t,rfl,rfl⟩
    · rcases keyIs_shape hv with ⟨j,u,rfl,rfl⟩ | ⟨y,u,rfl,rfl⟩
      · rw [key_ll] at h;exact wpAny_eqBool_int h
      · rw [key_lr] at h;exact SeqAt.EqAt.int_str i t y u _ _ _ _ h
    · rcases keyIs_shape hv with ⟨j,u,rfl,rfl⟩ | ⟨y,u,rfl,rfl⟩
      · rw [key_rl] at h;exact SeqAt.EqAt.str_int x t j u _ _ _ _ h
      · rw [key_rr] at h;exact wpAny_eqBool_str h
  «strs»:=fun k x t v h=>by
    rcases keyIs_shape h with ⟨i,u,rfl,e⟩ | ⟨y,u,rfl,e⟩
    · exact nomatch e
    · injection e with e1 _
      subst e1
      cases v <;> rfl
end L2
namespace L2
open PySem PySem.Spec PyProof.Rows
inductive V where
  | non | bl (b:Bool) | int (i:Int) | str (x:Str) | byt (b:Array UInt8) | flt (b:UInt64) | ref (a:Addr) | ty (n:String)
  deriving DecidableEq
def RelV:V→Value→Prop
  | .non,u=>u=Value.none
  | .bl b,u=>u=Value.bool b
  | .int i,u=>∃ t,u=Value.int i t
  | .str x,u=>∃ t,u=Value.str x t
  | .byt b,u=>∃ t,u=Value.bytes b t
  | .flt b,u=>∃ t,u=Value.float b t
  | .ref a,u=>u=Value.ref a
  | .ty n,u=>u=Value.type n
abbrev Vals:List V→List Value→Prop:=Paired RelV
theorem Vals.length {xs:List V} {us:List Value} (r:Vals xs us):xs.length=us.length:=Paired.length r
theorem Vals.get:∀ {xs:List V} {us:List Value} {i:Nat} {x:V},Vals xs us→xs[i]?=some x→∃ u,us[i]?=some u∧RelV x u
  | _,_,_,_,.nil,e=>by simp at e
  | _,_,0,_,.cons r _,e=>by simp at e;subst e;exact ⟨_,rfl,r⟩
  | _,_,i+1,x,.cons _ t,e=>by
    obtain ⟨u,h1,h2⟩:=Vals.get (i:=i) (x:=x) t (by simpa using e)
    exact ⟨u,by simpa using h1,h2⟩
theorem Vals.set {x:V} {u:Value} (r:RelV x u):∀ {xs:List V} {us:List Value} (i:Nat),Vals xs us→Vals (xs.set i x) (us.set i u)
  | _,_,_,.nil=>.nil
  | _,_,0,.cons _ t=>.cons r t
  | _,_,i+1,.cons q t=>.cons q (Vals.set r i t)
theorem Vals.append:∀ {xs ys:List V} {us ws:List Value},Vals xs us→Vals ys ws→Vals (xs++ys) (us++ws)
  | _,_,_,_,.nil,s=>s
  | _,_,_,_,.cons r t,s=>.cons r (Vals.append t s)
theorem Vals.take:∀ {xs:List V} {us:List Value} (n:Nat),Vals xs us→Vals (xs.take n) (us.take n)
  | _,_,0,_=>.nil
  | _,_,_+1,.nil=>.nil
  | _,_,n+1,.cons r t=>.cons r (Vals.take n t)
theorem Vals.drop:∀ {xs:List V} {us:List Value} (n:Nat),Vals xs us→Vals (xs.drop n) (us.drop n)
  | _,_,0,r=>r
  | _,_,_+1,.nil=>.nil
  | _,_,n+1,.cons _ t=>Vals.drop n t
def RelO:Option V→Option Value→Prop
  | some v,some u=>RelV v u
  | none,none=>True
  | _,_=>False
def KV {κ:Type}:List (κ × V)→List (κ × Value)→Prop:=Paired fun (p:κ × V) (q:κ × Value)=>p.1=q.1∧RelV p.2 q.2
def kV:Key→V
  | .inl i=>.int i
  | .inr x=>.str x
inductive HO where
    | lst (xs:List V)
    | tup (xs:List V)
    | dK (kvs:List (Key × V)) | dT (kvs:List (List Key × V))
    | set (S:Int→Bool) (n:Nat)
    | ins (C dx:Addr) (fs:List (Str × V))
    | own (x:Addr)
    | xd (fs:List (Str × V))
    | met (f x:Addr)
    | rng (lo hi:Int)
    | frz (o:Obj) (u:HO)
    | tbl (ps:Array Value)
    | ext (φ:Heap→Prop)
abbrev Hp:=Addr→Option HO
def upd (H:Hp) (a:Addr) (o:HO):Hp:=fun b=>if b=a then some o else H b
theorem upd_same {H:Hp} {a:Addr} {o:HO}:upd H a o a=some o:=by unfold upd;rw [if_pos rfl]
theorem upd_ne {H:Hp} {a b:Addr} {o:HO} (h:b≠a):upd H a o b=H b:=by unfold upd;rw [if_neg h]
theorem ne_of_none {H:Hp} {a b:Addr} {o:HO} (h:H a=some o) (h':H b=none):a≠b:=by
  intro e;subst e;rw [h] at h';cases h'
section
variable (P:Program) (w:World)
def ObjOk (H:Hp) (h:Heap) (a:Addr):HO→Prop
  | .lst xs=>xs.length≤sizeLine∧∃ (its:List Value) (n:Nat),Vals xs its∧h.get? a=some { cls:=.type "list", data:=.seq its.toArray n }
  | .tup xs=>(xs.length≤sizeLine∧∃ o,h.get? a=some o∧o.dict=none)∧∃ its:List Value,Vals xs its∧IsTup h a its.toArray
  | .dK kvs=>kvs.length≤sizeLine∧(a == sysModules)=false∧∃ vs,KV kvs vs∧h.DictOf (mixKind P w) a vs
  | .dT kvs=>kvs.length≤sizeLine∧(a == sysModules)=false∧∃ xs:List (List Key × Addr × Value),
      Paired (fun (p:List Key × V) (q:List Key × Addr × Value)=>p.1=q.1∧H q.2.1=some (.tup (p.1.map kV))∧RelV p.2 q.2.2) kvs xs ∧
      ∃ o es ep,h.get? a=some o∧o.ExactDict∧o.data=.dict es ep∧es.toList=xs.map (entryOfKey (tupleKind (mixKind P w)))∧(xs.map (·.1)).Nodup
  | .set S n=>h.SetOf (intKind P w) a S n
  | .ins C dx fs=>H dx=some (.own a)∧fs.length≤1000∧dx≠a∧h.get? a=some (PySem.W.instObj C dx) ∧
      ∃ mA,h.Ns1 dx mA∧(∀ f,RelO (fs.lookup f) (mA f))∧PySem.Within mA (fs.map (·.1))
  | .own _=>∃ o,h.get? a=some o
  | .xd fs=>∃ mA,h.Ns1 a mA∧∀ f,RelO (fs.lookup f) (mA f)
  | .rng lo hi=>∃ t u v,h.get? a=some { cls:=.type "range", data:=.fields #[.int lo t,.int hi u,.int 1 v] }
  | .frz o u=>h.get? a=some o∧ObjOk H h a u
  | .tbl ps=>h.get? a=some { cls:=.none,data:=.fields ps }
  | .met f x=>h.get? a=some (PySem.W.methodObj (.ref f) (.ref x))
  | .ext φ=>φ h∧(∃ o,h.get? a=some o)∧∀ h1 h2:Heap,φ h1→(∀ o,h1.get? a=some o→h2.get? a=some o)→φ h2
def HOk (H:Hp) (h:Heap):Prop:=∀ a o,H a=some o→ObjOk P w H h a o
end
section
variable {P:Program} {w:World} {H H':Hp} {h h':Heap} {a:Addr} {o:HO}
theorem ObjOk.lt (x:ObjOk P w H h a o):a < h.objs.size:=by
  cases o with
  | lst xs=>obtain ⟨_,_,_,_,e⟩:=x;exact Heap.lt_size e
  | tup xs=>obtain ⟨_,_,_,p⟩:=x;exact p.lt
  | dK kvs=>obtain ⟨_,_,_,_,o,_,_,e,_⟩:=x;exact Heap.lt_size e
  | dT kvs=>obtain ⟨_,_,_,_,o,_,_,e,_⟩:=x;exact Heap.lt_size e
  | set S n=>obtain ⟨o,_,_,_,e,_⟩:=x;exact Heap.lt_size e
  | ins C dx fs=>obtain ⟨_,_,_,e,_⟩:=x;exact Heap.lt_size e
  | own y=>obtain ⟨_,e⟩:=x;exact Heap.lt_size e
  | xd fs=>obtain ⟨_,⟨_,_,_,e,_⟩,_⟩:=x;exact Heap.lt_size e
  | rng lo hi=>obtain ⟨_,_,_,e⟩:=x;exact Heap.lt_size e
  | frz ob u=>obtain ⟨e,_⟩:=x;exact Heap.lt_size e
  | tbl ps=>exact Heap.lt_size (show h.get? a=some _ from x)
  | met f y=>exact Heap.lt_size (show h.get? a=some _ from x)
  | ext φ=>obtain ⟨_,⟨_,e⟩,_⟩:=x;exact Heap.lt_size e
theorem Paired.mapP {α β:Type} {F G:α→β→Prop}:∀ {l₁:List α} {l₂:List β},Paired F l₁ l₂→(∀ a b,F a b→G a b)→Paired G l₁ l₂
  | _,_,.nil,_=>.nil
  | _,_,.cons r t,f=>.cons (f _ _ r) (Paired.mapP t f)
theorem ObjOk.stay (x:ObjOk P w H h a o) (k:∀ b u,(b=a∨H b=some (.own a))→h.get? b=some u→h'.get? b=some u)
    (ho:∀ b,H b=some (.own a)→H' b=some (.own a)) (ht:∀ b xs,H b=some (.tup xs)→H' b=some (.tup xs)):ObjOk P w H' h' a o:=by
  induction o with
  | lst xs=>obtain ⟨z,its,n,r,e⟩:=x;exact ⟨z,its,n,r,k _ _ (.inl rfl) e⟩
  | tup xs=>obtain ⟨⟨z,o1,e1,c1⟩,its,r,ob,e,c⟩:=x;exact ⟨⟨z,o1,k _ _ (.inl rfl) e1,c1⟩,its,r,ob,k _ _ (.inl rfl) e,c⟩
  | dK kvs=>obtain ⟨z,y,vs,r,ob,es,ep,e,c⟩:=x;exact ⟨z,y,vs,r,ob,es,ep,k _ _ (.inl rfl) e,c⟩
  | dT kvs=>
    obtain ⟨z,y,xs,r,ob,es,ep,e,c⟩:=x
    exact ⟨z,y,xs,Paired.mapP r fun p q z=>⟨z.1,ht _ _ z.2.1,z.2.2⟩,ob,es,ep,k _ _ (.inl rfl) e,c⟩
  | set S n=>obtain ⟨ob,es,ep,t,e,c⟩:=x;exact ⟨ob,es,ep,t,k _ _ (.inl rfl) e,c⟩
  | ins C dx fs=>
    obtain ⟨d,z,ne,e,mA,⟨od,es,ep,e2,c⟩,r⟩:=x
    exact ⟨ho _ d,z,ne,k _ _ (.inl rfl) e,mA,⟨od,es,ep,k _ _ (.inr d) e2,c⟩,r⟩
  | own y=>obtain ⟨ob,e⟩:=x;exact ⟨ob,k _ _ (.inl rfl) e⟩
  | xd fs=>obtain ⟨mA,⟨od,es,ep,e,c⟩,r⟩:=x;exact ⟨mA,⟨od,es,ep,k _ _ (.inl rfl) e,c⟩,r⟩
  | rng lo hi=>obtain ⟨t,u,v,e⟩:=x;exact ⟨t,u,v,k _ _ (.inl rfl) e⟩
  | frz ob u ih=>obtain ⟨e,q⟩:=x;exact ⟨k _ _ (.inl rfl) e,ih q⟩
  | tbl ps=>
    have e:h.get? a=some { cls:=.none,data:=.fields ps }:=x
    show h'.get? a=some { cls:=.none,data:=.fields ps }
    exact k a _ (.inl rfl) e
  | met f y=>
    have e:h.get? a=some (PySem.W.methodObj (.ref f) (.ref y)):=x
    show h'.get? a=some (PySem.W.methodObj (.ref f) (.ref y))
    exact k a _ (.inl rfl) e
  | ext φ=>obtain ⟨p,⟨o,e⟩,st⟩:=x;exact ⟨st _ _ p fun o q=>k _ _ (.inl rfl) q,⟨o,k _ _ (.inl rfl) e⟩,st⟩
theorem HOk.lt (x:HOk P w H h) (e:H a=some o):a < h.objs.size:=(x a o e).lt
theorem HOk.fresh (x:HOk P w H h) (e:h.objs.size≤a):H a=none:=by
  cases q:H a with
  | none=>rfl
  | some u=>exact absurd (Nat.lt_of_lt_of_le (x.lt q) e) (Nat.lt_irrefl _)
theorem HOk.kept (x:HOk P w H h) (k:∀ b u,h.get? b=some u→h'.get? b=some u):HOk P w H h':=fun a o e=>
  (x a o e).stay (fun b u _ q=>k b u q) (fun _ q=>q) fun _ _ q=>q
theorem HOk.laid (x:HOk P w H h) (k:∀ b u,h.get? b=some u→h'.get? b=some u) (hp:h.objs.size≤a) (new:ObjOk P w (upd H a o) h' a o):HOk P w (upd H a o) h':=fun b u e=>by
  have hn:=x.fresh hp
  by_cases hb:b=a
  · subst hb;rw [upd_same] at e;cases e;exact new
  · rw [upd_ne hb] at e
    exact (x b u e).stay (fun c v _ q=>k c v q) (fun c q=>by rw [upd_ne (ne_of_none q hn)];exact q) fun c xs q=>by rw [upd_ne (ne_of_none q hn)];exact q
end
def Rd (H:Hp) (a:Addr) (u:HO):Prop:=H a=some u∨∃ o,H a=some (.frz o u)
theorem Rd.ok {P:Program} {w:World} {H:Hp} {h:Heap} {a:Addr} {u:HO} (r:Rd H a u) (x:HOk P w H h):ObjOk P w H h a u:=by
  rcases r with r | ⟨o,r⟩
  · exact x a u r
  · obtain ⟨_,q⟩:=x a _ r
    exact q
def Mut:Option HO→Prop
  | some (.lst _)=>True
  | some (.dK _)=>True
  | some (.dT _)=>True
  | some (.set _ _)=>True
  | some (.ins _ _ _)=>True
  | some (.ext _)=>True
  | _=>False
section
variable {P:Program} {w:World} {H:Hp} {h h':Heap} {x e:Addr} {o':HO}
theorem HOk.write (ok:HOk P w H h) (mu:Mut (H x)) (he:e=x∨H e=some (.own x)) (k:∀ b u,b≠e→h.get? b=some u→h'.get? b=some u) (heo:∃ u,h'.get? e=some u)
    (new:ObjOk P w (upd H x o') h' x o'):HOk P w (upd H x o') h':=fun b u q=>by
  have nown:∀ c y,H c=some (.own y)→c≠x:=fun c y r z=>by subst z;rw [r] at mu;exact mu
  have ntup:∀ c xs,H c=some (.tup xs)→c≠x:=fun c xs r z=>by subst z;rw [r] at mu;exact mu
  by_cases hb:b=x
  · subst hb;rw [upd_same] at q;cases q;exact new
  · rw [upd_ne hb] at q
    by_cases hbe:b=e
    · have q':H b=some (.own x):=by
        rcases he with z | z
        · exact absurd (hbe.trans z) hb
        · rw [hbe];exact z
      rw [q] at q';cases q'
      obtain ⟨v,hv⟩:=heo
      exact ⟨v,by rw [hbe];exact hv⟩
    · refine (ok b u q).stay (fun c v hc r=>k c v ?_ r) (fun c r=>by rw [upd_ne (nown c b r)];exact r) fun c xs r=>by rw [upd_ne (ntup c xs r)];exact r
      rcases hc with rfl | hc
      · exact hbe
      · rintro rfl
        rcases he with z | z
        · exact nown c b hc z
        · rw [hc] at z;cases z;exact hb rfl
end
structure Un (fs ex:List Addr) (H H':Hp) (h h':Heap):Prop where
  keep:∀ b o,h.get? b=some o→H b=none→b ∉ fs→b ∉ ex→h'.get? b=some o
  slot:∀ b o,h.get? b=some o→H b=none→b∈fs→b ∉ ex→∃ sl,h'.get? b=some { o with slots:=sl }
  free:∀ b o,h.get? b=some o→H b=none→b ∉ ex→H' b=none
  there:∀ b o,h.get? b=some o→b ∉ ex→∃ o',h'.get? b=some o'
  tups:∀ b xs,H b=some (.tup xs)→H' b=some (.tup xs)
  frzs:∀ b o u,H b=some (.frz o u)→H' b=some (.frz o u)
  tbls:∀ b ps,H b=some (.tbl ps)→∃ more,H' b=some (.tbl (ps++more))
section
variable {fs fs' ex ex':List Addr} {H H1 H2:Hp} {h h1 h2 h':Heap} {a x e:Addr} {o:HO}
theorem Un.any (u:Un fs ex H H1 h h1) {b:Addr} {ob:Obj} (q:h.get? b=some ob) (n:H b=none) (hx:b ∉ ex):∃ sl,h1.get? b=some { ob with slots:=sl }:=by
  by_cases hb:b∈fs
  · exact u.slot b ob q n hb hx
  · exact ⟨ob.slots,u.keep b ob q n hb hx⟩
theorem Un.kept (k:∀ b u,h.get? b=some u→h'.get? b=some u):Un fs ex H H h h':=
  ⟨fun b ob q _ _ _=>k b ob q,fun b ob q _ _ _=>⟨ob.slots,k b ob q⟩,fun _ _ _ n _=>n,fun b ob q _=>⟨ob,k b ob q⟩,fun _ _ q=>q,fun _ _ _ q=>q,fun _ ps q=>⟨#[],by rw [q];simp⟩⟩
theorem Un.refl:Un fs ex H H h h:=Un.kept fun _ _ q=>q
theorem Un.laid (k:∀ b u,h.get? b=some u→h'.get? b=some u) (hp:h.objs.size≤a) (hn:H a=none):Un fs ex H (upd H a o) h h' where
  keep:=fun b u q _ _ _=>k b u q
  slot:=fun b u q _ _ _=>⟨u.slots,k b u q⟩
  free:=fun b u q n _=>by rw [upd_ne (Nat.ne_of_lt (Nat.lt_of_lt_of_le (Heap.lt_size q) hp))];exact n
  there:=fun b u q _=>⟨u,k b u q⟩
  tups:=fun b xs q=>by rw [upd_ne (ne_of_none q hn)];exact q
  frzs:=fun b u xs q=>by rw [upd_ne (ne_of_none q hn)];exact q
  tbls:=fun b ps q=>⟨#[],by rw [upd_ne (ne_of_none q hn),q];simp⟩
theorem Un.write (mu:Mut (H x)) (he:e=x∨H e=some (.own x)) (k:∀ b u,b≠e→h.get? b=some u→h'.get? b=some u) (heo:∃ u,h'.get? e=some u):Un fs ex H (upd H x o) h h':=by
  have hx:∀ b,H b=none→b≠x:=fun b n z=>by subst z;rw [n] at mu;exact mu
  have hb:∀ b,H b=none→b≠e:=fun b n z=>by
    subst z
    rcases he with r | r
    · exact hx b n r
    · rw [n] at r;cases r
  have hm:∀ b u,H b=some u→¬ Mut (some u)→b≠x:=fun b u q nm z=>by subst z;rw [q] at mu;exact nm mu
  refine ⟨fun b u q n _ _=>k b u (hb b n) q,fun b u q n _ _=>⟨u.slots,k b u (hb b n) q⟩,fun b u q n _=>by rw [upd_ne (hx b n)];exact n,fun b u q _=>?_,
    fun b xs q=>by rw [upd_ne (hm b _ q fun z=>z)];exact q,fun b u xs q=>by rw [upd_ne (hm b _ q fun z=>z)];exact q,fun b ps q=>⟨#[],by rw [upd_ne (hm b _ q fun z=>z),q];simp⟩⟩
  by_cases hbe:b=e
  · subst hbe;exact heo
  · exact ⟨u,k b u hbe q⟩
end
def trk (h:Heap) (H:Hp):List Addr:=(List.range h.objs.size).filter fun a=>(H a).isSome
def hidT (h:Heap) (H:Hp):Heap:=PySem.W.hideAll h (trk h H)
theorem hidT_size (h:Heap) (H:Hp):(hidT h H).objs.size=h.objs.size:=PySem.W.hideAll_size _ _
theorem hidT_get {h:Heap} {H:Hp} {b:Addr} {o:Obj} (e:h.get? b=some o) (n:H b=none):(hidT h H).get? b=some o:=
  PySem.W.hideAll_get _ e fun hm=>by
    have q:(H b).isSome=true:=(List.mem_filter.mp hm).2
    rw [n] at q;simp at q
theorem of_hidT {h:Heap} {H:Hp} {b:Addr} {o:Obj} (e:(hidT h H).get? b=some o):h.get? b=some o∧H b=none:=by
  have e':h.get? b=some o:=PySem.W.of_hideAll (trk h H) e
  refine ⟨e',?_⟩
  cases q:H b with
  | none=>rfl
  | some x=>
    have hm:b∈trk h H:=List.mem_filter.mpr ⟨List.mem_range.mpr (Heap.lt_size e'),by simp [q]⟩
    have z:(hidT h H).get? b=none:=PySem.W.hideAll_none (trk h H) hm
    rw [z] at e;cases e
def allNews (g h:Heap) (L:Addr):List (Addr × Obj):=(List.range h.objs.size).filterMap fun a=>if a=L∨(g.get? a).isSome=true then none else (h.get? a).map fun o=>(a,o)
def rest (g h:Heap) (L d:Addr):List (Addr × Obj):=(allNews g h L).filter fun p=>decide (p.1≠d)
end L2
namespace L2
open PySem PySem.Spec PyProof.Rows
structure Mod (K:PySem.W.Frag) (mg:Str→Option Value) (base:Heap):Prop where
  kin:K.In base
  glob:base.Ns mainGlobals mg
  blt:∃ mb,base.Ns builtinsNs mb∧∀ x:Str,x ≠ "__name__" → mb x=bootBuiltins x
  nolimit:base.NoLimit
structure Cx where
  prog:Program
  w:World
  K:PySem.W.Frag
  mg:Str→Option Value
  base:Heap
  A:Around
  N:List Str
  s₀:Shared
  H₀:Hp
  env:Env
  outer:List Env
  stack:List Env
  ex:List Addr
  fn:Str→Bool
  calm:Bool
  pn:List (Addr × Obj)
  xe:Value→Shared→Prop
def frs (l:List Env):List Addr:=l.filterMap (·.frame)
abbrev Cx.fs (X:Cx):List Addr:=frs X.outer
def Vis (sc:Scope) (x:Str):Prop:=sc.names.lookup x=some .local∨sc.names.lookup x=some .cell∨sc.names.lookup x=some .free
def Loc (sc:Scope) (x:Str):Prop:=sc.names.lookup x=some .local∨sc.names.lookup x=some .cell
def Look (env:Env) (h:Heap) (m:Str→Option Value) (x:Str) (u:Value):Prop:=
  (env.kindOf x=some .local∧m x=some u)∨((env.kindOf x=some .cell∨env.kindOf x=some .free)∧∃ c,env.cells.lookup x=some c∧h.IsCell c (some u))
structure Cx.Ok (X:Cx):Prop where
  mod:Mod X.K X.mg X.base
  kind:X.env.scope.kind=.function
  glob:X.env.globals=mainGlobals
  blt:X.env.builtins=builtinsNs
  above:X.s₀.heap.objs.size≤X.env.locals
  inj:∀ x y c,X.env.cells.lookup x=some c→X.env.cells.lookup y=some c→x=y
  has:∀ x,(X.env.kindOf x=some .cell∨X.env.kindOf x=some .free)→∃ c,X.env.cells.lookup x=some c
  cab:∀ x c,X.fn x=true→X.env.cells.lookup x=some c→X.s₀.heap.objs.size≤c
  hd:X.calm=true→X.A.handled=none
  frames:X.A.frames=some X.stack
  stk:X.stack=X.outer∨(X.stack=X.env :: X.outer∧X.env.frame=some X.env.locals)
  exf:∀ b∈X.ex,b≠X.env.locals∧∀ x c,X.env.cells.lookup x=some c→c≠b
  bs:∀ b o,X.base.get? b=some o→X.s₀.heap.get? b=some o∧X.H₀ b=none
  bsz:X.base.objs.size≤X.s₀.heap.objs.size
  noex:∀ b o,X.base.get? b=some o→b ∉ X.ex
  exfs:∀ b∈X.ex,b ∉ X.fs
  funs:X.s₀.heap.FunFrames X.base X.outer
  frf:∀ b∈X.fs,X.H₀ b=none
structure Inv (X:Cx) (pins:List (Addr × Obj)) (σ:List (Option V)) (H:Hp) (s:Shared):Prop where
  ok:X.Ok
  os:s.os=X.s₀.os
  bare:AllBare s.gens
  base:Un X.fs X.ex X.H₀ H X.s₀.heap s.heap
  loc:∃ m,s.heap.Ns X.env.locals m∧∀ (i:Nat) (x:Str) (v:V),X.N[i]?=some x→σ[i]?=some (some v)→Vis X.env.scope x→∃ u,RelV v u∧Look X.env s.heap m x u
  cell:∀ x c,X.env.cells.lookup x=some c→∃ v,s.heap.IsCell c v
  free:H X.env.locals=none
  freeC:∀ x c,X.env.cells.lookup x=some c→H c=none
  pin:∀ p∈X.pn++pins,s.heap.get? p.1=some p.2∧H p.1=none∧p.1≠X.env.locals∧p.1 ∉ X.fs∧∀ v,p.2.data≠.cell v
  hok:HOk X.prog X.w H s.heap
  len:σ.length=X.N.length
section
variable {X:Cx} {pins:List (Addr × Obj)} {σ:List (Option V)} {H H':Hp} {s:Shared} {h':Heap}
theorem Cx.Ok.nofr (ok:X.Ok) {b:Addr} {o:Obj} (e:X.base.get? b=some o):b ∉ X.fs:=fun hb=>by
  have:=(ok.funs.mem hb).1
  rw [e] at this;cases this
theorem Inv.bs (I:Inv X pins σ H s):∀ b o,X.base.get? b=some o→s.heap.get? b=some o∧H b=none:=fun b o e=>
  ⟨I.base.keep b o (I.ok.bs b o e).1 (I.ok.bs b o e).2 (I.ok.nofr e) (I.ok.noex b o e),I.base.free b o (I.ok.bs b o e).1 (I.ok.bs b o e).2 (I.ok.noex b o e)⟩
theorem Inv.bk (I:Inv X pins σ H s):∀ b o,X.base.get? b=some o→s.heap.get? b=some o:=fun b o e=>(I.bs b o e).1
theorem Inv.mod (I:Inv X pins σ H s):Mod X.K X.mg X.base:=I.ok.mod
theorem Inv.kIn (I:Inv X pins σ H s):X.K.In s.heap:=I.ok.mod.kin.keeps I.bk
theorem Inv.nolimit (I:Inv X pins σ H s):s.heap.NoLimit:=I.ok.mod.nolimit.keeps I.bk
theorem Inv.fr (I:Inv X pins σ H s):∃ m,Fr X.base X.env.locals s.heap m:=
  let ⟨m,hn,_⟩:=I.loc
  ⟨m,hn,I.bk,Nat.le_trans I.ok.bsz I.ok.above⟩
theorem Inv.lt (I:Inv X pins σ H s):X.env.locals < s.heap.objs.size:=let ⟨_,hn,_⟩:=I.loc;hn.lt
theorem Inv.sz (I:Inv X pins σ H s):X.s₀.heap.objs.size≤s.heap.objs.size:=Nat.le_trans I.ok.above (Nat.le_of_lt I.lt)
theorem Inv.nofs (I:Inv X pins σ H s) {a:Addr} (h:s.heap.objs.size≤a):a ∉ X.fs:=fun hb=>by
  obtain ⟨_,o,ho,_⟩:=I.ok.funs.mem hb
  exact absurd (Nat.lt_of_lt_of_le (Heap.lt_size ho) (Nat.le_trans I.sz h)) (Nat.lt_irrefl _)
theorem Inv.cne (I:Inv X pins σ H s):∀ x c,X.env.cells.lookup x=some c→c≠X.env.locals:=fun x c e z=>by
  obtain ⟨v,o,ho,hd⟩:=I.cell x c e
  obtain ⟨m,⟨o',es,ep,ho',hd',_⟩,_⟩:=I.loc
  rw [z,ho'] at ho;cases ho;rw [hd'] at hd;cases hd
theorem Inv.funs (I:Inv X pins σ H s):s.heap.FunFrames X.base X.outer:=by
  have all:∀ (l:List Env),(∀ b∈frs l,b∈X.fs)→X.s₀.heap.FunFrames X.base l→s.heap.FunFrames X.base l:=by
    intro l
    induction l with
    | nil=>intro _ _;trivial
    | cons env r ih=>
      intro hs hl
      obtain ⟨hk,⟨L,o,hf,hn,ho,hd⟩,hr⟩:=hl
      have hL:L∈X.fs:=hs L (by unfold frs;rw [List.filterMap_cons,hf];exact List.mem_cons_self)
      obtain ⟨sl,e⟩:=I.base.slot L o ho (I.ok.frf L hL) hL fun z=>I.ok.exfs L z hL
      exact ⟨hk,⟨L,_,hf,hn,e,hd⟩,ih (fun b hb=>hs b (by unfold frs;rw [List.filterMap_cons,hf];exact List.mem_cons_of_mem _ hb)) hr⟩
  exact all X.outer (fun _ hb=>hb) I.ok.funs
theorem Inv.stack (I:Inv X pins σ H s):s.heap.FunFrames X.base X.stack:=by
  rcases I.ok.stk with e | ⟨e,hf⟩
  · rw [e];exact I.funs
  · rw [e]
    obtain ⟨m,hn,_⟩:=I.loc
    refine .cons (by rw [I.ok.kind];decide) hf hn ?_ I.funs
    exact Heap.get?_none_of_le (Nat.le_trans I.ok.bsz I.ok.above)
theorem Inv.stkSub (I:Inv X pins σ H s):∀ b∈frs X.stack,b∈X.env.locals :: X.fs:=fun b hb=>by
  rcases I.ok.stk with e | ⟨e,hf⟩
  · rw [e] at hb;exact List.mem_cons_of_mem _ hb
  · rw [e] at hb
    unfold frs at hb
    rw [List.filterMap_cons,hf] at hb
    exact hb
theorem Inv.stkFree (I:Inv X pins σ H s):∀ b∈frs X.stack,H b=none:=fun b hb=>by
  rcases List.mem_cons.mp (I.stkSub b hb) with e | hb
  · rw [e];exact I.free
  · obtain ⟨_,o,ho,_⟩:=I.ok.funs.mem hb
    exact I.base.free b o ho (I.ok.frf b hb) fun z=>I.ok.exfs b z hb
theorem Inv.step {g':Array GenState} {t':Nat} {d':Drawn} {ch:List Addr} (I:Inv X pins σ H s)
    (hch:∀ b∈ch,(b∈X.ex∨X.s₀.heap.objs.size≤b)∧b≠X.env.locals∧(∀ x c,X.env.cells.lookup x=some c→c≠b)∧∀ p∈X.pn++pins,p.1≠b)
    (keep:∀ b o,b≠X.env.locals→b ∉ X.fs→b ∉ ch→s.heap.get? b=some o→H b=none→h'.get? b=some o)
    (slot:∀ b o,b≠X.env.locals→b∈X.fs→b ∉ ch→s.heap.get? b=some o→H b=none→∃ sl,h'.get? b=some { o with slots:=sl }) (free:∀ b o,b ∉ ch→s.heap.get? b=some o→H b=none→H' b=none)
    (there:∀ b o,b ∉ ch→s.heap.get? b=some o→∃ o',h'.get? b=some o')
    (tups:∀ b xs,H b=some (.tup xs)→H' b=some (.tup xs)) (frzs:∀ b o u,H b=some (.frz o u)→H' b=some (.frz o u)) (tbls:∀ b ps,H b=some (.tbl ps)→∃ more,H' b=some (.tbl (ps++more)))
    (ns:∀ m,s.heap.Ns X.env.locals m→h'.Ns X.env.locals m) (hok:HOk X.prog X.w H' h') (hg:AllBare g') :
    Inv X pins σ H' { s with heap:=h',gens:=g',drawn:=d',toks:=t' }:=by
  have neL:∀ b o,X.s₀.heap.get? b=some o→b≠X.env.locals:=fun b o e=>Nat.ne_of_lt (Nat.lt_of_lt_of_le (Heap.lt_size e) I.ok.above)
  have neC:∀ b o,X.s₀.heap.get? b=some o→b ∉ X.ex→b ∉ ch:=fun b o e hx hb=>by
    rcases (hch b hb).1 with z | z
    · exact hx z
    · exact absurd (Nat.lt_of_lt_of_le (Heap.lt_size e) z) (Nat.lt_irrefl _)
  have cellK:∀ x c,X.env.cells.lookup x=some c→∀ v,s.heap.IsCell c v→h'.IsCell c v:=fun x c e v ⟨o,ho,hd⟩=>by
    have nch:c ∉ ch:=fun z=>(hch c z).2.2.1 x c e rfl
    by_cases hc:c∈X.fs
    · obtain ⟨sl,q⟩:=slot c o (I.cne x c e) hc nch ho (I.freeC x c e)
      exact ⟨_,q,hd⟩
    · exact ⟨o,keep c o (I.cne x c e) hc nch ho (I.freeC x c e),hd⟩
  refine ⟨I.ok,I.os,hg,⟨fun b o e n hb hx=>?_,fun b o e n hb hx=>?_,fun b o e n hx=>?_,fun b o e hx=>?_,fun b xs e=>tups b xs (I.base.tups b xs e),fun b o xs e=>frzs b o xs (I.base.frzs b o xs e),fun b ps e=>?_⟩,?_,fun x c e=>?_,?_,fun x c e=>?_,fun p hp=>?_,hok,I.len⟩
  · exact keep b o (neL b o e) hb (neC b o e hx) (I.base.keep b o e n hb hx) (I.base.free b o e n hx)
  · obtain ⟨sl,e1⟩:=I.base.slot b o e n hb hx
    obtain ⟨sl',e2⟩:=slot b _ (neL b o e) hb (neC b o e hx) e1 (I.base.free b o e n hx)
    exact ⟨sl',e2⟩
  · obtain ⟨o',e1⟩:=I.base.there b o e hx
    exact free b o' (neC b o e hx) e1 (I.base.free b o e n hx)
  · obtain ⟨o',e1⟩:=I.base.there b o e hx
    exact there b o' (neC b o e hx) e1
  · obtain ⟨m1,e1⟩:=I.base.tbls b ps e
    obtain ⟨m2,e2⟩:=tbls b _ e1
    exact ⟨m1++m2,by rw [e2,Array.append_assoc]⟩
  · obtain ⟨m,hn,hl⟩:=I.loc
    refine ⟨m,ns m hn,fun i x v e1 e2 e3=>?_⟩
    obtain ⟨u,r,l⟩:=hl i x v e1 e2 e3
    refine ⟨u,r,?_⟩
    rcases l with l | ⟨k,c,e,z⟩
    · exact .inl l
    · exact .inr ⟨k,c,e,cellK x c e _ z⟩
  · obtain ⟨v,z⟩:=I.cell x c e
    exact ⟨v,cellK x c e v z⟩
  · obtain ⟨m,⟨o,_,_,ho,_⟩,_⟩:=I.loc
    exact free _ o (fun z=>(hch _ z).2.1 rfl) ho I.free
  · obtain ⟨v,o,ho,hd⟩:=I.cell x c e
    exact free c o (fun z=>(hch c z).2.2.1 x c e rfl) ho (I.freeC x c e)
  · obtain ⟨e,n,ne,nf,d⟩:=I.pin p hp
    have nch:p.1 ∉ ch:=fun z=>(hch p.1 z).2.2.2 p hp rfl
    exact ⟨keep p.1 p.2 ne nf nch e n,free p.1 p.2 nch e n,ne,nf,d⟩
theorem Inv.un {t':Nat} (I:Inv X pins σ H s) (u:Un X.fs [] H H' s.heap h') (hok:HOk X.prog X.w H' h'):Inv X pins σ H' { s with heap:=h',toks:=t' }:=by
  obtain ⟨m,⟨o,es,ep,ho,r⟩,_⟩:=id I.loc
  obtain ⟨sl,hL⟩:=u.any ho I.free (by simp)
  exact I.step (g':=s.gens) (d':=s.drawn) (ch:=[]) (fun _ z=>nomatch z) (fun b o _ hb _ e n=>u.keep b o e n hb (by simp)) (fun b o _ hb _ e n=>u.slot b o e n hb (by simp)) (fun b o _ e n=>u.free b o e n (by simp)) (fun b o _ e=>u.there b o e (by simp)) u.tups u.frzs u.tbls (fun m' hm=>by
    obtain ⟨o',es',ep',ho',r'⟩:=hm
    rw [ho] at ho';cases ho'
    exact ⟨_,es',ep',hL,r'⟩) hok I.bare
theorem Inv.call {g':Array GenState} {t':Nat} {d':Drawn} {ch:List Addr} (I:Inv X pins σ H s) (u:Un (frs X.stack) ch H H' s.heap h') (hok:HOk X.prog X.w H' h') (hg:AllBare g')
    (hch:∀ b∈ch,(b∈X.ex∨X.s₀.heap.objs.size≤b)∧b≠X.env.locals∧(∀ x c,X.env.cells.lookup x=some c→c≠b)∧∀ p∈X.pn++pins,p.1≠b) :
    Inv X pins σ H' { s with heap:=h',gens:=g',drawn:=d',toks:=t' }:=by
  obtain ⟨m,⟨o,es,ep,ho,r⟩,_⟩:=id I.loc
  obtain ⟨sl,hL⟩:=u.any ho I.free fun z=>(hch _ z).2.1 rfl
  exact I.step (ch:=ch) hch (fun b o hL hb hc e n=>u.keep b o e n (fun z=>(List.mem_cons.mp (I.stkSub b z)).elim hL hb) hc) (fun b o _ _ hc e n=>u.any e n hc) (fun b o hc e n=>u.free b o e n hc) (fun b o hc e=>u.there b o e hc) u.tups u.frzs u.tbls (fun m' hm=>by
    obtain ⟨o',es',ep',ho',r'⟩:=hm
    rw [ho] at ho';cases ho'
    exact ⟨_,es',ep',hL,r'⟩) hok hg
theorem Inv.turned {t':Nat} {it:Addr} (I:Inv X pins σ H s) (k:∀ b o,b≠it→s.heap.get? b=some o→h'.get? b=some o) (hn:H it=none) (hL:it≠X.env.locals)
    (h1:it∈X.ex∨X.s₀.heap.objs.size≤it) (h2:∀ x c,X.env.cells.lookup x=some c→c≠it) (h3:∀ p∈X.pn++pins,p.1≠it):Inv X pins σ H { s with heap:=h',toks:=t' }:=by
  have nit:∀ b u,H b=some u→b≠it:=fun b u e z=>by rw [z,hn] at e;cases e
  refine I.step (g':=s.gens) (d':=s.drawn) (ch:=[it]) (fun b hb=>?_) (fun b o _ _ hc e _=>k b o (fun z=>hc (by simp [z])) e) (fun b o _ _ hc e _=>⟨o.slots,k b o (fun z=>hc (by simp [z])) e⟩) (fun _ _ _ _ n=>n)
    (fun b o hc e=>⟨o,k b o (fun z=>hc (by simp [z])) e⟩) (fun _ _ e=>e) (fun _ _ _ e=>e) (fun b ps e=>⟨#[],by rw [e];simp⟩) (fun m hm=>?_) (fun b u e=>?_) I.bare
  · have e:b=it:=by simpa using hb
    subst e
    exact ⟨h1,hL,h2,h3⟩
  · obtain ⟨o,es,ep,ho,r⟩:=hm
    exact ⟨o,es,ep,k _ o (Ne.symm hL) ho,r⟩
  · refine (I.hok b u e).stay (fun c v hc q=>k c v ?_ q) (fun _ q=>q) fun _ _ q=>q
    rcases hc with z | z
    · rw [z];exact nit b u e
    · exact nit c _ z
theorem Inv.tok (I:Inv X pins σ H s) (t:Nat):Inv X pins σ H { s with toks:=t }:=I.un (h':=s.heap) (t':=t) Un.refl I.hok
theorem Inv.kept {t':Nat} (I:Inv X pins σ H s) (k:∀ b u,s.heap.get? b=some u→h'.get? b=some u):Inv X pins σ H { s with heap:=h',toks:=t' }:=I.un (Un.kept k) (I.hok.kept k)
theorem Inv.laid {a:Addr} {o:HO} {t':Nat} (I:Inv X pins σ H s) (k:∀ b u,s.heap.get? b=some u→h'.get? b=some u) (hp:s.heap.objs.size≤a) (new:ObjOk X.prog X.w (upd H a o) h' a o) :
    Inv X pins σ (upd H a o) { s with heap:=h',toks:=t' }:=I.un (Un.laid k hp (I.hok.fresh hp)) (I.hok.laid k hp new)
theorem Inv.write {x e:Addr} {o:HO} {t':Nat} (I:Inv X pins σ H s) (mu:Mut (H x)) (he:e=x∨H e=some (.own x)) (k:∀ b u,b≠e→s.heap.get? b=some u→h'.get? b=some u) (heo:∃ u,h'.get? e=some u)
    (new:ObjOk X.prog X.w (upd H x o) h' x o):Inv X pins σ (upd H x o) { s with heap:=h',toks:=t' }:=I.un (Un.write mu he k heo) (I.hok.write mu he k heo new)
theorem Inv.weak {σ':List (Option V)} (I:Inv X pins σ H s) (hl:σ'.length=σ.length) (w:∀ (i:Nat) v,σ'[i]?=some (some v)→σ[i]?=some (some v)):Inv X pins σ' H s:=
  ⟨I.ok,I.os,I.bare,I.base,let ⟨m,hn,hl'⟩:=I.loc;⟨m,hn,fun i x v e1 e2 e3=>hl' i x v e1 (w i v e2) e3⟩,I.cell,I.free,I.freeC,I.pin,I.hok,hl.trans I.len⟩
theorem Inv.pins_of {pins':List (Addr × Obj)} (I:Inv X pins σ H s) (h:∀ p∈pins',s.heap.get? p.1=some p.2∧H p.1=none∧p.1≠X.env.locals∧p.1 ∉ X.fs∧∀ v,p.2.data≠.cell v):Inv X pins' σ H s:=
  ⟨I.ok,I.os,I.bare,I.base,I.loc,I.cell,I.free,I.freeC,fun p hp=>(List.mem_append.mp hp).elim (fun z=>I.pin p (List.mem_append_left _ z)) (h p),I.hok,I.len⟩
theorem nodup_ix {N:List Str} (hN:N.Nodup) {i j:Nat} {x:Str} (a:N[i]?=some x) (b:N[j]?=some x):i=j:=by
  obtain ⟨h1,e1⟩:=List.getElem?_eq_some_iff.mp a
  obtain ⟨h2,e2⟩:=List.getElem?_eq_some_iff.mp b
  exact (List.getElem_inj hN).mp (e1.trans e2.symm)
theorem store_ok2 {M:Model} {A:Around} {E:Value→Shared→Prop} {i:Nat} {x:Str} {v:V} {u:Value} {Q:Unit→Shared→Prop} (I:Inv X pins σ H s) (hN:X.N.Nodup) (hi:X.N[i]?=some x) (hx:Loc X.env.scope x) (r:RelV v u)
    (h:∀ s',Inv X pins (σ.set i (some v)) H s'→(∃ a,Heap.SameBut a s.heap s'.heap∧(a=X.env.locals∨X.env.cells.lookup x=some a))→Q () s') (hf:X.fn x=true∨X.env.scope.names.lookup x=some .local:=by first | exact .inl rfl | exact .inr rfl | assumption):wpAny M A (storeName X.env x u) Q E s:=by
  obtain ⟨m,hn,hl⟩:=id I.loc
  have hcls:(X.env.scope.kind == .class || (X.env.scope.kind == .module && X.env.locals != X.env.globals))=false:=by rw [I.ok.kind];rfl
  have hiσ:i < σ.length:=by rw [I.len];exact (List.getElem?_eq_some_iff.mp hi).1
  have cne:=I.cne
  have tracked:∀ {a:Addr} {h':Heap},(∃ o,s.heap.get? a=some o∧H a=none)→Heap.SameBut a s.heap h'→HOk X.prog X.w H h':=fun {a h'} ha hs b ob e=>by
    obtain ⟨_,_,hfree⟩:=ha
    refine (I.hok b ob e).stay (fun c w' hc q=>(hs.2 c ?_).trans q) (fun _ q=>q) fun _ _ q=>q
    rintro rfl
    rcases hc with rfl | hc
    · rw [hfree] at e;cases e
    · rw [hfree] at hc;cases hc
  rcases hx with hk | hk
  · refine wpAny_storeName_local hk hn (fun h' hn' hs=>?_) hcls
    obtain ⟨oL,_,_,hoL,_⟩:=id hn
    refine h _ ⟨I.ok,I.os,I.bare,⟨fun b o e n hb hx=>?_,fun b o e n hb hx=>?_,I.base.free,fun b o e hx=>?_,I.base.tups,I.base.frzs,I.base.tbls⟩,⟨_,hn',fun j y v' e1 e2 e3=>?_⟩,fun y c e=>?_,I.free,I.freeC,fun p hp=>?_,tracked ⟨oL,hoL,I.free⟩ hs,by simpa using I.len⟩ ⟨_,hs,.inl rfl⟩
    · exact (hs.2 b (Nat.ne_of_lt (Nat.lt_of_lt_of_le (Heap.lt_size e) I.ok.above))).trans (I.base.keep b o e n hb hx)
    · obtain ⟨sl,e1⟩:=I.base.slot b o e n hb hx
      exact ⟨sl,(hs.2 b (Nat.ne_of_lt (Nat.lt_of_lt_of_le (Heap.lt_size e) I.ok.above))).trans e1⟩
    · obtain ⟨o',e1⟩:=I.base.there b o e hx
      exact ⟨o',(hs.2 b (Nat.ne_of_lt (Nat.lt_of_lt_of_le (Heap.lt_size e) I.ok.above))).trans e1⟩
    · by_cases hj:j=i
      · subst hj
        rw [hi] at e1;cases e1
        rw [List.getElem?_set_self hiσ] at e2
        cases e2
        exact ⟨u,r,.inl ⟨hk,by simp⟩⟩
      · rw [List.getElem?_set_ne (Ne.symm hj)] at e2
        obtain ⟨u',r',q⟩:=hl j y v' e1 e2 e3
        refine ⟨u',r',?_⟩
        rcases q with ⟨k,e⟩ | ⟨k,c,e,z⟩
        · refine .inl ⟨k,?_⟩
          have:y≠x:=fun e=>hj (nodup_ix hN e1 (e ▸ hi))
          simp [this,e]
        · exact .inr ⟨k,c,e,z.sameBut hs (cne y c e)⟩
    · obtain ⟨w',z⟩:=I.cell y c e
      exact ⟨w',z.sameBut hs (cne y c e)⟩
    · obtain ⟨e,n,ne,nf,d⟩:=I.pin p hp
      exact ⟨(hs.2 p.1 ne).trans e,n,ne,nf,d⟩
  · have hfn:X.fn x=true:=by
      rcases hf with z | z
      · exact z
      · rw [z] at hk;cases hk
    obtain ⟨c,hc⟩:=I.ok.has x (.inl hk)
    obtain ⟨w',z⟩:=I.cell x c hc
    refine wpAny_storeName_cell I.ok.kind hk hc z (fun h' hc' hs=>?_)
    obtain ⟨oc,hoc,hocd⟩:=id z
    refine h { s with heap:=h' } ⟨I.ok,I.os,I.bare,⟨fun b o e n hb hx=>?_,fun b o e n hb hx=>?_,I.base.free,fun b o e hx=>?_,I.base.tups,I.base.frzs,I.base.tbls⟩,⟨m,hn.sameBut hs (Ne.symm (cne x c hc)),fun j y v' e1 e2 e3=>?_⟩,fun y c' e=>?_,I.free,I.freeC,fun p hp=>?_,tracked ⟨oc,hoc,I.freeC x c hc⟩ hs,by simpa using I.len⟩ ⟨c,hs,.inr hc⟩
    · exact (hs.2 b (Nat.ne_of_lt (Nat.lt_of_lt_of_le (Heap.lt_size e) (I.ok.cab x c hfn hc)))).trans (I.base.keep b o e n hb hx)
    · obtain ⟨sl,e1⟩:=I.base.slot b o e n hb hx
      exact ⟨sl,(hs.2 b (Nat.ne_of_lt (Nat.lt_of_lt_of_le (Heap.lt_size e) (I.ok.cab x c hfn hc)))).trans e1⟩
    · obtain ⟨o',e1⟩:=I.base.there b o e hx
      exact ⟨o',(hs.2 b (Nat.ne_of_lt (Nat.lt_of_lt_of_le (Heap.lt_size e) (I.ok.cab x c hfn hc)))).trans e1⟩
    · by_cases hj:j=i
      · subst hj
        rw [hi] at e1;cases e1
        rw [List.getElem?_set_self hiσ] at e2
        cases e2
        exact ⟨u,r,.inr ⟨.inl hk,c,hc,hc'⟩⟩
      · rw [List.getElem?_set_ne (Ne.symm hj)] at e2
        obtain ⟨u',r',q⟩:=hl j y v' e1 e2 e3
        refine ⟨u',r',?_⟩
        rcases q with q | ⟨k,c',e,z'⟩
        · exact .inl q
        · refine .inr ⟨k,c',e,z'.sameBut hs ?_⟩
          rintro rfl
          exact hj (nodup_ix hN e1 (I.ok.inj _ _ _ e hc ▸ hi))
    · by_cases hcc:c'=c
      · subst hcc;exact ⟨_,hc'⟩
      · obtain ⟨w2,z2⟩:=I.cell y c' e
        exact ⟨w2,z2.sameBut hs hcc⟩
    · obtain ⟨e,n,ne,nf,d⟩:=I.pin p hp
      refine ⟨(hs.2 p.1 ?_).trans e,n,ne,nf,d⟩
      intro q
      rw [q,hoc] at e
      have q':oc=p.2:=Option.some.inj e
      exact d w' (by rw [← q'];exact hocd)
theorem store_ok {M:Model} {A:Around} {E:Value→Shared→Prop} {i:Nat} {x:Str} {v:V} {u:Value} {Q:Unit→Shared→Prop} (I:Inv X pins σ H s) (hN:X.N.Nodup) (hi:X.N[i]?=some x) (hx:Loc X.env.scope x) (r:RelV v u)
    (h:∀ s',Inv X pins (σ.set i (some v)) H s'→Q () s') (hf:X.fn x=true∨X.env.scope.names.lookup x=some .local:=by first | exact .inl rfl | exact .inr rfl | assumption):wpAny M A (storeName X.env x u) Q E s:=
  store_ok2 I hN hi hx r (fun s' I' _=>h s' I') hf
theorem Inv.call' {s':Shared} {ch:List Addr} (I:Inv X pins σ H s) (ho:s'.os=s.os) (u:Un (frs X.stack) ch H H' s.heap s'.heap) (hok:HOk X.prog X.w H' s'.heap) (hg:AllBare s'.gens)
    (hch:∀ b∈ch,(b∈X.ex∨X.s₀.heap.objs.size≤b)∧b≠X.env.locals∧(∀ x c,X.env.cells.lookup x=some c→c≠b)∧∀ p∈X.pn++pins,p.1≠b):Inv X pins σ H' s':=by
  obtain ⟨h',g',d',t',o'⟩:=s'
  have e:o'=s.os:=ho
  subst e
  exact I.call (g':=g') (t':=t') (d':=d') u hok hg hch
end
abbrev XK:=Value→Option Addr→Hp→Prop
abbrev St:=List (Option V)
abbrev VK:=V→Hp→Prop
abbrev TE:=St→Hp→VK→Prop
abbrev TT:=St→Hp→(Bool→Hp→Prop)→Prop
abbrev TA:=St→Hp→(List V→Hp→Prop)→Prop
structure Ends where
  nx:St→Hp→Prop
  rt:VK
  bk:St→Hp→Prop:=fun _ _=>False
  ct:St→Hp→Prop:=fun _ _=>False
abbrev TS:=Ends→St→Hp→Prop
def EP (X:Cx) (pins:List (Addr × Obj)) (σ:St) (Q:VK) (u:Value) (s':Shared):Prop:=∃ v H',Inv X pins σ H' s'∧RelV v u∧Q v H'
def TP (X:Cx) (pins:List (Addr × Obj)) (σ:St) (Q:Bool→Hp→Prop) (b:Bool) (s':Shared):Prop:=∃ H',Inv X pins σ H' s'∧Q b H'
def AP (X:Cx) (pins:List (Addr × Obj)) (σ:St) (Q:List V→Hp→Prop) (us:List Value) (s':Shared):Prop:=∃ vs H',Inv X pins σ H' s'∧Vals vs us∧Q vs H'
def SP (X:Cx) (pins:List (Addr × Obj)) (D:Ends) (f:Flow) (s':Shared):Prop:=
  match f with
  | .next=>∃ σ' H',Inv X pins σ' H' s'∧D.nx σ' H'
  | .brk=>∃ σ' H',Inv X pins σ' H' s'∧D.bk σ' H'
  | .cont=>∃ σ' H',Inv X pins σ' H' s'∧D.ct σ' H'
  | .ret u=>∃ v σ' H',Inv X pins σ' H' s'∧RelV v u∧D.rt v H'
def PE (X:Cx) (e:Expr) (t:TE):Prop:=
  ∀ (pins:List (Addr × Obj)) (s:Shared) (σ:St) (H:Hp) (Q:VK),Inv X pins σ H s→t σ H Q→wpAny (model X.prog X.w) X.A (eval e X.env) (EP X pins σ Q) X.xe s
def PT (X:Cx) (e:Expr) (t:TT):Prop:=
  ∀ (pins:List (Addr × Obj)) (s:Shared) (σ:St) (H:Hp) (Q:Bool→Hp→Prop),Inv X pins σ H s→t σ H Q→wpAny (model X.prog X.w) X.A (isTrue e X.env (eval e X.env)) (TP X pins σ Q) X.xe s
def PW (X:Cx) (e:Expr) (t:TT):Prop:=
  ∀ (whole:Sem Value) (pins:List (Addr × Obj)) (s:Shared) (σ:St) (H:Hp) (Q:Bool→Hp→Prop),Inv X pins σ H s→t σ H Q→wpAny (model X.prog X.w) X.A (isTrue e X.env whole) (TP X pins σ Q) X.xe s
theorem PW.pt {X:Cx} {e:Expr} {t:TT} (h:PW X e t):PT X e t:=h _
def PA (X:Cx) (es:List Expr) (t:TA):Prop:=
  ∀ (pos:Pos) (pins:List (Addr × Obj)) (s:Shared) (σ:St) (H:Hp) (Q:List V→Hp→Prop),Inv X pins σ H s→t σ H Q→wpAny (model X.prog X.w) X.A (spliced (backTo pos (starEach es X.env))) (AP X pins σ Q) X.xe s
def PS (X:Cx) (st:Stmt) (t:TS):Prop:=
  ∀ (pins:List (Addr × Obj)) (s:Shared) (σ:St) (H:Hp) (D:Ends),Inv X pins σ H s→t D σ H→wpAny (model X.prog X.w) X.A (exec st X.env) (SP X pins D) X.xe s
def PSs (X:Cx) (st:List Stmt) (t:TS):Prop:=
  ∀ (pins:List (Addr × Obj)) (s:Shared) (σ:St) (H:Hp) (D:Ends),Inv X pins σ H s→t D σ H→wpAny (model X.prog X.w) X.A (execs st X.env) (SP X pins D) X.xe s
theorem thn {α:Type} {t:Sem α} {Q Q':α→Shared→Prop} {M:Model} {A:Around} {E:Value→Shared→Prop} {s:Shared} (h:wpAny M A t Q E s) (hQ:∀ a s,Q a s→Q' a s):wpAny M A t Q' E s:=wpAny_mono h hQ fun _ _ x=>x
end L2
namespace L2
open PySem PySem.Spec PyProof.Rows
section
variable {X:Cx}
def tVar (i:Nat):TE:=fun σ H Q=>∃ v,σ[i]?=some (some v)∧Q v H
def tC (v:V):TE:=fun _ H Q=>Q v H
theorem pe_var {i:Nat} {x:Str} {pos:Pos} (hN:X.N[i]?=some x) (hv:Vis X.env.scope x) (hd:(x == ("__debug__" : Str))=false:=by decide) (hcd:(x == ("__classdict__" : Str))=false:=by decide):PE X (.Name x pos) (tVar i):=by
  intro pins s σ H Q I h
  obtain ⟨v,e,h⟩:=h
  obtain ⟨m,hn,hl⟩:=I.loc
  obtain ⟨u,r,l⟩:=hl i x v hN e hv
  have fin:EP X pins σ Q u s:=⟨v,H,I,r,h⟩
  rcases l with ⟨hk,hm⟩ | ⟨hk,c,hc,hcell⟩
  · exact wpAny_Name (wpAny_loadName_local I.ok.kind hk hn hm fin) hd
  · rcases hk with hk | hk
    · exact wpAny_Name (wpAny_loadName_cell I.ok.kind hk hc hcell fin) hd
    · exact wpAny_Name (wpAny_loadName_free I.ok.kind hk hc hcell fin hcd) hd
theorem pe_int {i j pos}:PE X (.Constant (.int i) j pos) (tC (.int i)):=fun _ _ _ H _ I h=>wpAny_Constant_int ⟨.int i,H,I.tok _,⟨_,rfl⟩,h⟩
theorem pe_bl {b j pos}:PE X (.Constant (.bool b) j pos) (tC (.bl b)):=fun _ _ _ H _ I h=>Constant_bool ⟨.bl b,H,I,rfl,h⟩
theorem pe_non {j pos}:PE X (.Constant .none j pos) (tC .non):=fun _ _ _ H _ I h=>Constant_none ⟨.non,H,I,rfl,h⟩
theorem pe_str {x j pos}:PE X (.Constant (.str x) j pos) (tC (.str x)):=fun _ _ _ H _ I h=>Calls.Constant_str ⟨.str x,H,I.tok _,⟨_,rfl⟩,h⟩
def Gl (X:Cx) (x:Str):Prop:=X.env.kindOf x=some .globalImplicit
theorem ld_glob {E:Value→Shared→Prop} {pins:List (Addr × Obj)} {s:Shared} {σ:St} {H:Hp} {x:Str} {u:Value} {pos:Pos} {Q:Value→Shared→Prop} (I:Inv X pins σ H s) (hg:Gl X x) (hm:X.mg x=some u) (h:Q u s)
    (hd:(x == ("__debug__" : Str))=false:=by decide):wpAny (model X.prog X.w) X.A (eval (.Name x pos) X.env) Q E s:=
  Calls.Name_function_global I.ok.kind hg (Calls.loadGlobal_global (by rw [I.ok.glob];exact I.mod.glob.keeps I.bk) hm h) hd
theorem ld_blt {E:Value→Shared→Prop} {pins:List (Addr × Obj)} {s:Shared} {σ:St} {H:Hp} {x:Str} {u:Value} {pos:Pos} {Q:Value→Shared→Prop} (I:Inv X pins σ H s) (hg:Gl X x) (hm:X.mg x=none) (hv:bootBuiltins x=some u) (h:Q u s)
    (hn:x ≠ "__name__" := by decide) (hd:(x == ("__debug__" : Str))=false:=by decide):wpAny (model X.prog X.w) X.A (eval (.Name x pos) X.env) Q E s:=by
  obtain ⟨mb,h1,h2⟩:=I.mod.blt
  exact Calls.Name_function_global I.ok.kind hg (Calls.loadGlobal_builtin (by rw [I.ok.glob];exact I.mod.glob.keeps I.bk) hm (by rw [I.ok.blt];exact h1.keeps I.bk) ((h2 x hn).trans hv) h) hd
theorem pe_glob {x:Str} {v:V} {u:Value} {pos:Pos} (hg:Gl X x) (hm:X.mg x=some u) (r:RelV v u) (hd:(x == ("__debug__" : Str))=false:=by decide):PE X (.Name x pos) (tC v):=
  fun _ _ _ H _ I h=>ld_glob I hg hm ⟨v,H,I,r,h⟩ hd
theorem pe_bltn {x:Str} {v:V} {u:Value} {pos:Pos} (hg:Gl X x) (hm:X.mg x=none) (hv:bootBuiltins x=some u) (r:RelV v u) (hn:x ≠ "__name__" := by decide) (hd:(x == ("__debug__" : Str))=false:=by decide):PE X (.Name x pos) (tC v):=
  fun _ _ _ H _ I h=>ld_blt I hg hm hv ⟨v,H,I,r,h⟩ hn hd
variable {a b:Expr} {ta tb:TE} {pos:Pos}
def tB (t:TE):TT:=fun σ H Q=>t σ H fun x H1=>∃ c,x=.bl c∧Q c H1
theorem pt_val {e:Expr} {t:TE} (h:PE X e t) (he:∀ whole,isTrue e X.env whole=(do let v ← whole;standAt e.pos;holding [v] (truthy v)):=by intro _;rfl):PT X e (tB t):=by
  intro pins s σ H Q I hw
  refine isTrue_plain (thn (h pins s σ H _ I hw) fun v s1 ⟨x,H1,I1,r1,q1⟩=>?_) (he _)
  obtain ⟨d,rfl,q⟩:=q1
  cases r1
  exact wpAny_truthy_bool ⟨H1,I1,q⟩
variable {tA tB':TT} {rest:List Expr}
def tAnd (t u:TT):TT:=fun σ H Q=>t σ H fun c H1=>if c=true then u σ H1 Q else Q false H1
def tOr (t u:TT):TT:=fun σ H Q=>t σ H fun c H1=>if c=true then Q true H1 else u σ H1 Q
def tNot (t:TT):TT:=fun σ H Q=>t σ H fun c H1=>Q (!c) H1
theorem pw_and1 (ha:PT X a tA):PW X (.BoolOp .And [a] pos) tA:=by
  intro wh pins s σ H Q I h
  refine isTrue_and (thn (ha pins s σ H Q I h) fun c s1 e=>?_)
  cases c with
  | true=>exact isTrue_and_nil e
  | false=>exact e
theorem pw_or1 (ha:PT X a tA):PW X (.BoolOp .Or [a] pos) tA:=by
  intro wh pins s σ H Q I h
  refine isTrue_or (thn (ha pins s σ H Q I h) fun c s1 e=>?_)
  cases c with
  | false=>exact isTrue_or_nil e
  | true=>exact e
theorem pw_and (ha:PT X a tA) (hb:PW X (.BoolOp .And (b :: rest) pos) tB'):PW X (.BoolOp .And (a :: b :: rest) pos) (tAnd tA tB'):=by
  intro wh pins s σ H Q I h
  refine isTrue_and (thn (ha pins s σ H _ I h) fun c s1 ⟨H1,I1,q1⟩=>?_)
  cases c with
  | true=>exact hb wh pins s1 σ H1 Q I1 q1
  | false=>exact ⟨H1,I1,q1⟩
theorem pw_or (ha:PT X a tA) (hb:PW X (.BoolOp .Or (b :: rest) pos) tB'):PW X (.BoolOp .Or (a :: b :: rest) pos) (tOr tA tB'):=by
  intro wh pins s σ H Q I h
  refine isTrue_or (thn (ha pins s σ H _ I h) fun c s1 ⟨H1,I1,q1⟩=>?_)
  cases c with
  | true=>exact ⟨H1,I1,q1⟩
  | false=>exact hb wh pins s1 σ H1 Q I1 q1
theorem pt_not (ha:PT X a tA):PT X (.UnaryOp .Not a pos) (tNot tA):=by
  intro pins s σ H Q I h
  exact isTrue_not (ha pins s σ H (fun c H1=>Q (!c) H1) I h)
def tAndV (ta tb:TE):TE:=fun σ H Q=>ta σ H fun x H1=>∃ c,x=.bl c∧if c=true then tb σ H1 Q else Q (.bl false) H1
def tOrV (ta tb:TE):TE:=fun σ H Q=>ta σ H fun x H1=>∃ c,x=.bl c∧if c=true then Q (.bl true) H1 else tb σ H1 Q
def tNotV (ta:TE):TE:=fun σ H Q=>ta σ H fun x H1=>∃ c,x=.bl c∧Q (.bl (!c)) H1
theorem pe_one {op} {t:TE} (h:PE X a t):PE X (.BoolOp op [a] pos) t:=fun pins s σ H Q I hw=>BoolOp_one (h pins s σ H Q I hw)
theorem pe_and (ha:PE X a ta) (hb:PE X (.BoolOp .And (b :: rest) pos) tb):PE X (.BoolOp .And (a :: b :: rest) pos) (tAndV ta tb):=by
  intro pins s σ H Q I h
  refine BoolOp_and (thn (ha pins s σ H _ I h) fun v s1 ⟨x,H1,I1,r1,q1⟩=>?_)
  obtain ⟨c,rfl,q1⟩:=q1
  cases r1
  refine wpAny_truthy_bool ?_
  cases c with
  | true=>exact hb pins s1 σ H1 Q I1 q1
  | false=>exact ⟨.bl false,H1,I1,rfl,q1⟩
theorem pe_or (ha:PE X a ta) (hb:PE X (.BoolOp .Or (b :: rest) pos) tb):PE X (.BoolOp .Or (a :: b :: rest) pos) (tOrV ta tb):=by
  intro pins s σ H Q I h
  refine BoolOp_or (thn (ha pins s σ H _ I h) fun v s1 ⟨x,H1,I1,r1,q1⟩=>?_)
  obtain ⟨c,rfl,q1⟩:=q1
  cases r1
  refine wpAny_truthy_bool ?_
  cases c with
  | false=>exact hb pins s1 σ H1 Q I1 q1
  | true=>exact ⟨.bl true,H1,I1,rfl,q1⟩
theorem pe_not (ha:PE X a ta):PE X (.UnaryOp .Not a pos) (tNotV ta):=by
  intro pins s σ H Q I h
  refine UnaryOp_ (thn (ha pins s σ H _ I h) fun v s1 ⟨x,H1,I1,r1,q1⟩=>?_)
  obtain ⟨c,rfl,q1⟩:=q1
  cases r1
  exact not_of (wpAny_truthy_bool ⟨.bl (!c),H1,I1,rfl,q1⟩)
end
end L2
namespace L2
open PySem PySem.Spec PyProof.Rows
def SqL (K:PySem.W.Frag) (H:Hp) (a:Addr) (xs:List V):Prop:=
  Rd H a (.lst xs) ∨
    ∃ (o:Obj) (its:Array Value) (n:Nat),K.lookup a=some o∧o.cls=.type "list" ∧ o.dict=none∧o.data=.seq its n∧its.size≤sizeLine∧Vals xs its.toList
def SqT (K:PySem.W.Frag) (H:Hp) (a:Addr) (xs:List V):Prop:=
  Rd H a (.tup xs) ∨
    ∃ (o:Obj) (its:Array Value) (n:Nat),K.lookup a=some o∧o.cls=.type "tuple" ∧ o.data=.seq its n∧its.size≤sizeLine∧Vals xs its.toList
def absV:Value→Option V
  | .none=>some .non
  | .bool b=>some (.bl b)
  | .int i _=>some (.int i)
  | .str x _=>some (.str x)
  | .bytes b _=>some (.byt b)
  | .float b _=>some (.flt b)
  | .ref a=>some (.ref a)
  | .type n=>some (.ty n)
  | _=>none
theorem RelV.abs {x:V} {u:Value} (r:RelV x u):absV u=some x:=by
  cases x with
  | non=>cases r;rfl
  | bl _=>cases r;rfl
  | int _=>obtain ⟨t,rfl⟩:=r;rfl
  | str _=>obtain ⟨t,rfl⟩:=r;rfl
  | byt _=>obtain ⟨t,rfl⟩:=r;rfl
  | flt _=>obtain ⟨t,rfl⟩:=r;rfl
  | ref _=>cases r;rfl
  | ty _=>cases r;rfl
theorem RelV.inj {x y:V} {u:Value} (r:RelV x u) (q:RelV y u):x=y:=Option.some.inj (r.abs.symm.trans q.abs)
theorem Vals.inj:∀ {xs ys:List V} {us:List Value},Vals xs us→Vals ys us→xs=ys
  | _,_,_,.nil,.nil=>rfl
  | _,_,_,.cons r t,.cons r' t'=>by rw [r.inj r',Vals.inj t t']
section
variable {X:Cx} {pins:List (Addr × Obj)} {σ:St} {H:Hp} {s:Shared} {a:Addr} {xs ys:List V}
theorem SqL.of {K:PySem.W.Frag} (h:H a=some (.lst xs)):SqL K H a xs:=.inl (.inl h)
theorem SqT.of {K:PySem.W.Frag} (h:H a=some (.tup xs)):SqT K H a xs:=.inl (.inl h)
theorem Inv.list (I:Inv X pins σ H s) (h:SqL X.K H a xs):∃ its:List Value,Vals xs its∧PlainL s.heap a its.toArray∧xs.length≤sizeLine:=by
  rcases h with h | ⟨o,its,n,hk,hc,hd,hs,hz,r⟩
  · obtain ⟨z,its,n,r,e⟩:=h.ok I.hok
    exact ⟨its,r,⟨_,n,e,rfl,rfl,rfl⟩,z⟩
  · refine ⟨its.toList,r,⟨o,n,I.kIn a o hk,hc,hd,by simpa using hs⟩,?_⟩
    have e:=r.length
    simp only [Array.length_toList] at e
    omega
theorem Inv.tuple (I:Inv X pins σ H s) (h:SqT X.K H a xs):∃ its:List Value,Vals xs its∧IsTup s.heap a its.toArray∧xs.length≤sizeLine:=by
  rcases h with h | ⟨o,its,n,hk,hc,hs,hz,r⟩
  · obtain ⟨z,its,r,p⟩:=h.ok I.hok
    exact ⟨its,r,p,z.1⟩
  · refine ⟨its.toList,r,⟨o,I.kIn a o hk,hc,n,by simpa using hs⟩,?_⟩
    have e:=r.length
    simp only [Array.length_toList] at e
    omega
theorem Inv.tuple_inj (I:Inv X pins σ H s) (h:SqT X.K H a xs) (h':SqT X.K H a ys):xs=ys:=by
  obtain ⟨its,r,⟨o,e,_,n,d⟩,_⟩:=I.tuple h
  obtain ⟨its',r',⟨o',e',_,n',d'⟩,_⟩:=I.tuple h'
  rw [e] at e';cases e'
  rw [d] at d'
  injection d' with d1 _
  have:its=its':=by simpa using congrArg Array.toList d1
  subst this
  exact r.inj r'
end
abbrev Cx.wish (X:Cx) (E:Value→Shared→Prop):Cx:={ X with xe:=E }
abbrev Cx.nox (X:Cx):Cx:=X.wish fun _ _=>False
theorem Cx.Ok.wish {X:Cx} (ok:X.Ok) (E:Value→Shared→Prop):(X.wish E).Ok:=
  ⟨ok.mod,ok.kind,ok.glob,ok.blt,ok.above,ok.inj,ok.has,ok.cab,ok.hd,ok.frames,ok.stk,ok.exf,ok.bs,ok.bsz,ok.noex,ok.exfs,ok.funs,ok.frf⟩
theorem Cx.Ok.unwish {X:Cx} {E:Value→Shared→Prop} (ok:(X.wish E).Ok):X.Ok:=
  ⟨ok.mod,ok.kind,ok.glob,ok.blt,ok.above,ok.inj,ok.has,ok.cab,ok.hd,ok.frames,ok.stk,ok.exf,ok.bs,ok.bsz,ok.noex,ok.exfs,ok.funs,ok.frf⟩
section
variable {X:Cx} {pins:List (Addr × Obj)} {σ:St} {H:Hp} {s:Shared} {E:Value→Shared→Prop}
theorem Inv.wish (I:Inv X pins σ H s) (E:Value→Shared→Prop):Inv (X.wish E) pins σ H s:=⟨I.ok.wish E,I.os,I.bare,I.base,I.loc,I.cell,I.free,I.freeC,I.pin,I.hok,I.len⟩
theorem Inv.unwish (I:Inv (X.wish E) pins σ H s):Inv X pins σ H s:=⟨I.ok.unwish,I.os,I.bare,I.base,I.loc,I.cell,I.free,I.freeC,I.pin,I.hok,I.len⟩
theorem SP.unwish {D:Ends} {f:Flow} {s':Shared} (h:SP (X.wish E) pins D f s'):SP X pins D f s':=by
  cases f with
  | next=>obtain ⟨σ',H',I,q⟩:=h;exact ⟨σ',H',I.unwish,q⟩
  | brk=>obtain ⟨σ',H',I,q⟩:=h;exact ⟨σ',H',I.unwish,q⟩
  | cont=>obtain ⟨σ',H',I,q⟩:=h;exact ⟨σ',H',I.unwish,q⟩
  | ret u=>obtain ⟨v,σ',H',I,r,q⟩:=h;exact ⟨v,σ',H',I.unwish,r,q⟩
theorem PSs.nox {st:List Stmt} {t:TS} (h:PSs X.nox st t):PSs X st t:=fun pins s σ H D I hw=>
  wpAny_mono (h pins s σ H D (I.wish _) hw) (fun _ _ q=>q.unwish) fun _ _ z=>False.elim z
end
section
variable {X:Cx} {st:Stmt} {rest:List Stmt} {t u:TS} {e:Expr} {te:TE} {pos:Pos}
def tNext:TS:=fun D σ H=>D.nx σ H
def tSeq (t u:TS):TS:=fun D σ H=>t { D with nx:=u D } σ H
theorem pss_nil:PSs X [] tNext:=fun _ _ σ H _ I h=>wpAny_execs_nil ⟨σ,H,I,h⟩
theorem pss_cons (h1:PS X st t) (h2:PSs X rest u):PSs X (st :: rest) (tSeq t u):=by
  intro pins s σ H D I h
  refine wpAny_execs_cons (thn (h1 pins s σ H { D with nx:=u D } I h) fun f s1 q=>?_)
  cases f with
  | next=>
    obtain ⟨σ',H',I',q⟩:=q
    exact h2 pins s1 σ' H' D I' q
  | ret v=>exact q
  | brk=>exact q
  | cont=>exact q
theorem pss_one (h1:PS X st t):PSs X [st] t:=by
  intro pins s σ H D I h
  refine wpAny_execs_cons (thn (h1 pins s σ H D I h) fun f s1 q=>?_)
  cases f with
  | next=>exact wpAny_execs_nil q
  | ret v=>exact q
  | brk=>exact q
  | cont=>exact q
def tBreak:TS:=fun D σ H=>D.bk σ H
theorem ps_break:PS X (.Break pos) tBreak:=fun _ _ σ H _ I h=>wpAny_Break ⟨σ,H,I,h⟩
theorem Inv.quiet {pins:List (Addr × Obj)} {σ:St} {H:Hp} {s:Shared} (I:Inv X pins σ H s):interactive X.env=false:=by simp [interactive,I.ok.kind]
def tDrop (te:TE):TS:=fun D σ H=>te σ H fun _ H1=>D.nx σ H1
theorem ps_expr (he:PE X e te) (hs:swapsWith e none pos.line X.env=pure false:=by rfl):PS X (.Expr e pos) (tDrop te):=by
  intro pins s σ H D I h
  exact wpAny_Expr_any (thn (he pins s σ H _ I h) fun v s1 ⟨x,H1,I1,r1,q1⟩=>⟨σ,H1,I1,q1⟩) I.quiet hs
def tRet (te:TE):TS:=fun D σ H=>te σ H D.rt
theorem ps_ret (he:PE X e te):PS X (.Return (some e) pos) (tRet te):=by
  intro pins s σ H D I h
  exact wpAny_Return_some (thn (he pins s σ H _ I h) fun v s1 ⟨x,H1,I1,r1,q1⟩=>⟨x,σ,H1,I1,r1,q1⟩)
def tIfS (c:TT) (t u:TS):TS:=fun D σ H=>c σ H fun b H1=>if b=true then t D σ H1 else u D σ H1
theorem ps_if {c:Expr} {a b:List Stmt} {tc:TT} (hc:PT X c tc) (ha:PSs X a t) (hb:PSs X b u):PS X (.If c a b pos) (tIfS tc t u):=by
  intro pins s σ H D I h
  refine wpAny_If (thn (hc pins s σ H _ I h) fun d s1 ⟨H1,I1,q1⟩=>?_)
  cases d with
  | true=>exact ha pins s1 σ H1 D I1 q1
  | false=>exact hb pins s1 σ H1 D I1 q1
end
abbrev TG:=V→St→Hp→(St→Hp→Prop)→Prop
abbrev TGs:=List V→St→Hp→(St→Hp→Prop)→Prop
def PG (X:Cx) (target:Expr) (t:TG):Prop:=
  ∀ (pins:List (Addr × Obj)) (s:Shared) (σ:St) (H:Hp) (v:V) (u:Value) (Q:St→Hp→Prop),Inv X pins σ H s→RelV v u→t v σ H Q →
    wpAny (model X.prog X.w) X.A (assign target X.env u) (fun _ s'=>∃ σ' H',Inv X pins σ' H' s'∧Q σ' H') X.xe s
def PGs (X:Cx) (ts:List Expr) (t:TGs):Prop:=
  ∀ (pins:List (Addr × Obj)) (s:Shared) (σ:St) (H:Hp) (vs:List V) (us:List Value) (Q:St→Hp→Prop),Inv X pins σ H s→Vals vs us→t vs σ H Q →
    wpAny (model X.prog X.w) X.A (assignInOrder ((assignEach ts X.env).map (·.2)) us) (fun _ s'=>∃ σ' H',Inv X pins σ' H' s'∧Q σ' H') X.xe s
abbrev TSet:=V→V→V→Hp→(Hp→Prop)→Prop
def PSet (X:Cx) (t:TSet):Prop:=
  ∀ (pins:List (Addr × Obj)) (s:Shared) (σ:St) (H:Hp) (o i v:V) (ov iv u:Value) (Q:Hp→Prop),Inv X pins σ H s→RelV o ov→RelV i iv→RelV v u→t o i v H Q →
    wpAny (model X.prog X.w) X.A (setItem ov iv u) (fun _ s'=>∃ H',Inv X pins σ H' s'∧Q H') X.xe s
abbrev TIp:=V→V→Hp→VK→Prop
def PIp (X:Cx) (op:Operator) (t:TIp):Prop:=
  ∀ (pins:List (Addr × Obj)) (s:Shared) (σ:St) (H:Hp) (x y:V) (v u:Value) (Q:VK),Inv X pins σ H s→RelV x v→RelV y u→t x y H Q →
    wpAny (model X.prog X.w) X.A (inplaceOp op v u) (EP X pins σ Q) X.xe s
section
variable {X:Cx} {pos:Pos}
def gName (i:Nat):TG:=fun v σ H Q=>Q (σ.set i (some v)) H
theorem pg_name {i:Nat} {x:Str} (hN:X.N.Nodup) (hi:X.N[i]?=some x) (hx:Loc X.env.scope x) (hf:X.fn x=true∨X.env.scope.names.lookup x=some .local:=by first | exact .inl rfl | exact .inr rfl | assumption):PG X (.Name x pos) (gName i):=by
  intro pins s σ H v u Q I r h
  exact wpAny_assign_Name (store_ok I hN hi hx r (fun s' I'=>⟨_,H,I',h⟩) hf)
def gNil:TGs:=fun vs σ H Q=>vs=[]∧Q σ H
def gCons (t:TG) (u:TGs):TGs:=fun vs σ H Q=>∃ v r,vs=v :: r∧t v σ H fun σ' H'=>u r σ' H' Q
theorem pgs_nil:PGs X [] gNil:=by
  intro pins s σ H vs us Q I r h
  obtain ⟨e,h⟩:=h
  subst e
  cases r
  exact assignInOrder_nil ⟨σ,H,I,h⟩
theorem pgs_cons {e:Expr} {es:List Expr} {t:TG} {u:TGs} (h1:PG X e t) (h2:PGs X es u)
    (hs:(assignEach (e :: es) X.env).map (·.2)=assign e X.env :: (assignEach es X.env).map (·.2):=by rfl):PGs X (e :: es) (gCons t u):=by
  intro pins s σ H vs us Q I r h
  obtain ⟨v,vr,e1,h⟩:=h
  subst e1
  cases r with
  | cons r rr=>
    rw [hs]
    refine assignInOrder_cons (thn (h1 pins s σ H _ _ _ I r h) fun _ s1 ⟨σ1,H1,I1,q1⟩=>?_)
    exact h2 pins s1 σ1 H1 _ _ Q I1 rr q1
def gTup (K:PySem.W.Frag) (n:Nat) (t:TGs):TG:=fun v σ H Q=>∃ a xs,v=.ref a∧SqT K H a xs∧xs.length=n∧t xs σ H Q
theorem pg_tup {es:List Expr} {k:Nat} {t:TGs} {n:Nat} (hc:X.calm=true) (h:PGs X es t)
    (hn:(assignEach es X.env).length=n:=by rfl) (hst:(assignEach es X.env).findIdx? (·.1)=none:=by rfl):PG X (.Tuple es k pos) (gTup X.K n t):=by
  intro pins s σ H v u Q I r hw
  obtain ⟨a,xs,e1,hq,hl,hw⟩:=hw
  subst e1
  cases r
  obtain ⟨its,rv,ht,hz⟩:=I.tuple hq
  refine assign_Tuple_tuple (I.ok.hd hc) ht (by simp [hn,← hl,rv.length]) hst fun h' hx=>?_
  have I1:Inv X pins σ H { s with heap:=h' }:=I.kept (t':=s.toks) fun b o e=>hx b o (Nat.ne_of_lt (Heap.lt_size e)) e
  exact h pins _ σ H xs _ Q I1 (by simpa using rv) hw
def gSub (to ti:TE) (t:TSet):TG:=fun v σ H Q=>to σ H fun o H1=>ti σ H1 fun i H2=>t o i v H2 fun H3=>Q σ H3
theorem pg_sub {o i:Expr} {to ti:TE} {t:TSet} (ho:PE X o to) (hi:PE X i ti) (hs:PSet X t)
    (ha:∀ v,assign (.Subscript o i pos) X.env v=(do
      let ov ← holding [v] (eval o X.env)
      let iv ← holding [v,ov] (eval i X.env)
      standAt pos
      holding [v,ov,iv] (setItem ov iv v)
      release [v,ov,iv] []):=by intro _;rfl):PG X (.Subscript o i pos) (gSub to ti t):=by
  intro pins s σ H v u Q I r h
  rw [ha]
  refine wpAny_bind (wpAny_holding (thn (ho pins s σ H _ I h) fun ov s1 ⟨x,H1,I1,r1,q1⟩=>?_))
  refine wpAny_bind (wpAny_holding (thn (hi pins s1 σ H1 _ I1 q1) fun iv s2 ⟨y,H2,I2,r2,q2⟩=>?_))
  refine wpAny_bind (wpAny_standAt (wpAny_bind (wpAny_holding (thn (hs pins s2 σ H2 x y v ov iv u _ I2 r1 r2 r q2) fun _ s3 ⟨H3,I3,q3⟩=>?_))))
  exact wpAny_release ⟨σ,H3,I3,q3⟩
def tAsg (te:TE) (g:TG):TS:=fun D σ H=>te σ H fun x H1=>g x σ H1 D.nx
theorem ps_asg {tg e:Expr} {te:TE} {g:TG} (he:PE X e te) (hg:PG X tg g) (hs:swapsWithSole [tg] e pos.line X.env=pure false:=by rfl) (hw:swappedStores [tg] e X.env=pure none:=by rfl)
    (h1:(assignEach [tg] X.env).map (·.2)=[assign tg X.env]:=by rfl):PS X (.Assign [tg] e pos) (tAsg te g):=by
  intro pins s σ H D I h
  refine wpAny_Assign_stores (thn (he pins s σ H _ I h) fun v s1 ⟨x,H1,I1,r1,q1⟩=>?_) hs hw
  rw [h1]
  exact thn (hg pins s1 σ H1 x v _ I1 r1 q1) fun _ s2 q=>q
theorem ps_set {i:Nat} {x:Str} {e:Expr} {te:TE} {pos':Pos} (hN:X.N.Nodup) (hi:X.N[i]?=some x) (hx:Loc X.env.scope x) (he:PE X e te) (hs:swapsWith e (some (.Name x pos')) pos.line X.env=pure false:=by rfl) (hf:X.fn x=true∨X.env.scope.names.lookup x=some .local:=by first | exact .inl rfl | exact .inr rfl | assumption) :
    PS X (.Assign [.Name x pos'] e pos) (tAsg te (gName i)):=by
  intro pins s σ H D I h
  refine wpAny_Assign_Name (thn (he pins s σ H _ I h) fun v s1 ⟨y,H1,I1,r1,q1⟩=>?_) hs
  exact store_ok I1 hN hi hx r1 (fun s2 I2=>⟨_,H1,I2,q1⟩) hf
def tAug (i:Nat) (te:TE) (ti:TIp):TS:=fun D σ H=>∃ x,σ[i]?=some (some x)∧te σ H fun y H1=>ti x y H1 fun z H2=>D.nx (σ.set i (some z)) H2
theorem ps_aug {i:Nat} {x:Str} {e:Expr} {te:TE} {op:Operator} {ti:TIp} {pos':Pos} (hN:X.N.Nodup) (hi:X.N[i]?=some x) (hx:Loc X.env.scope x) (he:PE X e te) (ho:PIp X op ti) (hf:X.fn x=true∨X.env.scope.names.lookup x=some .local:=by first | exact .inl rfl | exact .inr rfl | assumption) :
    PS X (.AugAssign (.Name x pos') op e pos) (tAug i te ti):=by
  intro pins s σ H D I h
  obtain ⟨v,e1,h⟩:=h
  obtain ⟨m,hn,hl⟩:=I.loc
  have vis:Vis X.env.scope x:=by rcases hx with k | k;exact .inl k;exact .inr (.inl k)
  obtain ⟨u,r,l⟩:=hl i x v hi e1 vis
  refine wpAny_AugAssign_Name ?_
  have go:wpAny (model X.prog X.w) X.A (eval e X.env) (fun w s₂=>wpAny (model X.prog X.w) X.A (inplaceOp op u w) (fun r s₃=>wpAny (model X.prog X.w) X.A (storeName X.env x r) (fun _=>SP X pins D .next) X.xe s₃) X.xe s₂) X.xe s:=by
    refine thn (he pins s σ H _ I h) fun w s1 ⟨y,H1,I1,r1,q1⟩=>?_
    refine thn (ho pins s1 σ H1 v y u w _ I1 r r1 q1) fun z s2 ⟨zv,H2,I2,r2,q2⟩=>?_
    exact store_ok I2 hN hi hx r2 (fun s3 I3=>⟨_,H2,I3,q2⟩) hf
  rcases l with ⟨hk,hm⟩ | ⟨hk,c,hc,hcell⟩
  · exact wpAny_loadName_local I.ok.kind hk hn hm go
  · rcases hk with hk | hk
    · exact wpAny_loadName_cell I.ok.kind hk hc hcell go
    · rcases hx with k | k
      · have:X.env.scope.names.lookup x=some .free:=hk
        rw [k] at this;cases this
      · have:X.env.scope.names.lookup x=some .free:=hk
        rw [k] at this;cases this
def ipI (f:Int→Int→Int):TIp:=fun x y H Q=>∃ i j,x=.int i∧y=.int j∧Q (.int (f i j)) H
theorem ip_add:PIp X .Add (ipI fun i j=>i+j):=by
  intro pins s σ H x y v u Q I r1 r2 h
  obtain ⟨i,j,e1,e2,q⟩:=h
  subst e1;subst e2
  obtain ⟨t,rfl⟩:=r1
  obtain ⟨t',rfl⟩:=r2
  exact iadd_int ⟨.int _,H,I.tok _,⟨_,rfl⟩,q⟩
theorem ip_sub:PIp X .Sub (ipI fun i j=>i - j):=by
  intro pins s σ H x y v u Q I r1 r2 h
  obtain ⟨i,j,e1,e2,q⟩:=h
  subst e1;subst e2
  obtain ⟨t,rfl⟩:=r1
  obtain ⟨t',rfl⟩:=r2
  exact isub_int ⟨.int _,H,I.tok _,⟨_,rfl⟩,q⟩
end
section
variable {X:Cx} {pos:Pos}
end
structure It where
  go:Nat→Hp→Prop
  yld:Nat→Hp→V→Hp→Prop
  stop:Nat→Hp→Prop
def FpOk (X:Cx) (pins:List (Addr × Obj)) (H:Hp) (b:Addr):Prop:=
  H b=none∧b≠X.env.locals∧b ∉ X.fs∧(b∈X.ex∨X.s₀.heap.objs.size≤b)∧(∀ x c,X.env.cells.lookup x=some c→c≠b)∧∀ p∈X.pn++pins,p.1≠b
theorem Inv.fpOk {X:Cx} {pins:List (Addr × Obj)} {σ:St} {H H':Hp} {s:Shared} {b:Addr} (I:Inv X pins σ H s) (hb:s.heap.objs.size≤b) (hn:H' b=none):FpOk X pins H' b:=by
  refine ⟨hn,Nat.ne_of_gt (Nat.lt_of_lt_of_le I.lt hb),I.nofs hb,.inr (Nat.le_trans I.sz hb),fun x c e z=>?_,fun p hp z=>?_⟩
  · obtain ⟨v,q⟩:=I.cell x c e
    exact absurd (Nat.lt_of_lt_of_le q.lt (by rw [z];exact hb)) (Nat.lt_irrefl _)
  · exact absurd (Nat.lt_of_lt_of_le (Heap.lt_size (I.pin p hp).1) (by rw [z];exact hb)) (Nat.lt_irrefl _)
structure Turn (P:Program) (w:World) (K:PySem.W.Frag) (tg:Expr) (J:It) (fp:List Addr) (it:Addr) (tn:Nat→Heap→Prop):Prop where
  mem:it∈fp
  obj:∀ i h,tn i h→∀ b∈fp,∃ o,h.get? b=some o∧∀ v,o.data≠.cell v
  keep:∀ i h h',tn i h→(∀ b∈fp,∀ o,h.get? b=some o→h'.get? b=some o)→tn i h'
  item:∀ (X:Cx),X.prog=P→X.w=w→X.K=K→X.calm=true→∀ (i:Nat) (pins:List (Addr × Obj)) (s:Shared) (σ:St) (H:Hp) (E:Value→Shared→Prop),Inv X pins σ H s→(∀ b∈fp,FpOk X pins H b)→tn i s.heap→J.go i H →
    wpAny (model P w) X.A (pyNext (.ref it)) (fun r s1=>∃ u,r=some u ∧
      wpAny (model P w) X.A (letOwnedTupleGo tg (.ref it) u) (fun _ s2=>∃ x H',Inv X pins σ H' s2∧RelV x u∧J.yld i H x H'∧tn (i+1) s2.heap∧∀ b∈fp,H' b=none) E s1) E s
  done:∀ (X:Cx),X.prog=P→X.w=w→X.K=K→X.calm=true→∀ (i:Nat) (pins:List (Addr × Obj)) (s:Shared) (σ:St) (H:Hp) (E:Value→Shared→Prop),Inv X pins σ H s→(∀ b∈fp,FpOk X pins H b)→tn i s.heap→J.stop i H →
    wpAny (model P w) X.A (pyNext (.ref it)) (fun r s1=>r=none∧Inv X pins σ H s1) E s
  self:∀ (A:Around) (i:Nat) (s:Shared) (Q:Value→Shared→Prop) (E:Value→Shared→Prop),tn i s.heap→Q (.ref it) s→wpAny (model P w) A (pyIter (.ref it)) Q E s
abbrev TI:=St→Hp→(It→Hp→Prop)→Prop
def PIE (X:Cx) (pins:List (Addr × Obj)) (σ:St) (tg:Expr) (R:It→Hp→Prop) (itv:Value) (s2:Shared):Prop:=
  ∃ (it:Addr) (fp:List Addr) (tn:Nat→Heap→Prop) (J:It) (H':Hp),itv=.ref it∧Inv X pins σ H' s2∧Turn X.prog X.w X.K tg J fp it tn∧tn 0 s2.heap∧(∀ b∈fp,FpOk X pins H' b)∧R J H'
def PI (X:Cx) (tg iter:Expr) (wi:TI):Prop:=
  ∀ (pins:List (Addr × Obj)) (s:Shared) (σ:St) (H:Hp) (R:It→Hp→Prop),Inv X pins σ H s→wi σ H R →
    wpAny (model X.prog X.w) X.A (eval iter X.env) (fun v s1=>wpAny (model X.prog X.w) X.A (pyIter v) (PIE X pins σ tg R) X.xe s1) X.xe s
theorem go_of {M:Model} {A:Around} {E:Value→Shared→Prop} {s:Shared} {tg:Expr} {it:Addr} {u:Value} {o:Obj} {n:String} {vs:Array Value} {Q:Unit→Shared→Prop} (ho:s.heap.get? it=some o) (hc:o.cls=.type n) (hd:o.data=.fields vs)
    (hn:["enumerate", "zip", "dict_itemiterator", "dict_reverseitemiterator", "odict_iterator", "itertools.zip_longest", "itertools.pairwise"].contains n=false) (hQ:Q () s):wpAny M A (letOwnedTupleGo tg (.ref it) u) Q E s:=by
  unfold letOwnedTupleGo
  cases tg <;> first
    | exact wpAny_pure hQ
    | (cases u <;> first
        | exact wpAny_pure hQ
        | (refine wpAny_bind (wpAny_load ho ?_)
           rw [hc,hd]
           show wpAny M A (if (["enumerate", "zip", "dict_itemiterator", "dict_reverseitemiterator", "odict_iterator", "itertools.zip_longest", "itertools.pairwise"].contains n && vs[0]? == some (rawInt _))=true then _ else _) Q E s
           rw [if_neg (by intro h;rw [hn,Bool.false_and] at h;cases h)]
           exact wpAny_pure hQ))
def Itt (K:PySem.W.Frag) (a:Addr):It:=
  ⟨fun i H=>∃ xs x,SqT K H a xs∧xs[i]?=some x,fun i H x H'=>H'=H∧∀ xs,SqT K H a xs→xs[i]?=some x,fun i H=>∃ xs,SqT K H a xs∧xs.length≤i⟩
def Itr (lo:Int) (n:Nat):It:=⟨fun i _=>i < n,fun i H x H'=>H'=H∧x=.int (lo+i),fun i _=>n≤i⟩
theorem turn_tuple {P:Program} {w:World} {K:PySem.W.Frag} {tg:Expr} (a it:Addr):Turn P w K tg (Itt K a) [it] it (fun i h=>h.IsTupleIter it a i) where
  mem:=by simp
  obj:=fun i h st b hb=>by
    have e:b=it:=by simpa using hb
    subst e
    obtain ⟨o,e,c,d⟩:=st
    exact ⟨o,e,fun v z=>by rw [d] at z;cases z⟩
  keep:=fun i h h' st k=>st.at fun o e=>k it (by simp) o e
  item:=by
    intro X hP hw hK hc i pins s σ H E I hf st hg
    subst hP hw hK
    obtain ⟨xs,x,hq,hx⟩:=hg
    obtain ⟨its,rv,p,hz⟩:=I.tuple hq
    obtain ⟨u,hu,ru⟩:=rv.get hx
    obtain ⟨f0,f1,f2,f3,f4,f5⟩:=hf it (by simp)
    refine wpAny_pyNext_tuple_item st (show s.heap.IsTuple a its.toArray from p) (x:=u) (by simpa using hu) fun h' st' sb=>?_
    have I1:Inv X pins σ H { s with heap:=h' }:=I.turned (t':=s.toks) (fun b o hb e=>(sb.2 b hb).trans e) f0 f1 f3 f4 f5
    obtain ⟨o,e,c,d⟩:=id st'
    exact ⟨u,rfl,go_of (s:={ s with heap:=h' }) e c d (by decide) ⟨x,H,I1,ru,⟨rfl,fun ys hy=>by rw [I.tuple_inj hy hq];exact hx⟩,st',fun b hb=>(hf b hb).1⟩⟩
  done:=by
    intro X hP hw hK hc i pins s σ H E I hf st hg
    subst hP hw hK
    obtain ⟨xs,hq,hx⟩:=hg
    obtain ⟨its,rv,p,hz⟩:=I.tuple hq
    obtain ⟨f0,f1,f2,f3,f4,f5⟩:=hf it (by simp)
    have hl:=rv.length
    exact wpAny_pyNext_tuple_end (I.ok.hd hc) st (show s.heap.IsTuple a its.toArray from p) (by simp;omega) fun h' eb=>⟨rfl,I.turned (t':=s.toks) (fun b o hb e=>eb b o hb e) f0 f1 f3 f4 f5⟩
  self:=fun _ _ _ _ _ st h=>wpAny_pyIter_tupleiter st h
theorem turn_range {P:Program} {w:World} {K:PySem.W.Frag} {tg:Expr} (it:Addr) (lo:Int) (n:Nat):Turn P w K tg (Itr lo n) [it] it (fun i h=>IsRangeIter h it (lo+(i:Nat) * 1) ((n:Int) - (i:Nat)) 1) where
  mem:=by simp
  obj:=fun i h st b hb=>by
    have e:b=it:=by simpa using hb
    subst e
    exact ⟨_,st,fun v z=>by
      have z':Data.fields _=Data.cell v:=z
      cases z'⟩
  keep:=fun i h h' st k=>k it (by simp) _ st
  item:=by
    intro X hP hw hK hc i pins s σ H E I hf st hg
    subst hP hw hK
    obtain ⟨f0,f1,f2,f3,f4,f5⟩:=hf it (by simp)
    have W:=Walks.range (prog:=X.prog) (w:=X.w) (I.ok.hd hc) it lo 1 n
    refine W.item i s _ _ hg st fun v h' tk hv st' kk=>?_
    obtain ⟨t,rfl⟩:=hv
    have I1:Inv X pins σ H { s with heap:=h',toks:=tk }:=I.turned (fun b o hb e=>kk b o (by simpa using hb) e) f0 f1 f3 f4 f5
    refine ⟨_,rfl,go_of (s:={ s with heap:=h',toks:=tk }) (n := "range_iterator") st' rfl rfl (by decide) ⟨.int (lo+i),H,I1,⟨t,?_⟩,⟨rfl,rfl⟩,st',fun b hb=>(hf b hb).1⟩⟩
    rw [Int.mul_one]
  done:=by
    intro X hP hw hK hc i pins s σ H E I hf st hg
    subst hP hw hK
    obtain ⟨f0,f1,f2,f3,f4,f5⟩:=hf it (by simp)
    exact wpAny_pyNext_range_end (I.ok.hd hc) st (by have:n≤i:=hg;omega) fun h' eb=>⟨rfl,I.turned (t':=s.toks) (fun b o hb e=>eb b o hb e) f0 f1 f3 f4 f5⟩
  self:=fun _ _ _ _ _ st h=>wpAny_pyIter_rangeiter st h
end L2
namespace L2
open PySem PySem.Spec PyProof.Rows
section
variable {X:Cx} {tg:Expr}
def iTup (K:PySem.W.Frag) (tl:TE):TI:=fun σ H R=>tl σ H fun x H1=>∃ a,x=.ref a∧(∃ xs,SqT K H1 a xs)∧R (Itt K a) H1
theorem pi_tup {l:Expr} {tl:TE} (hl:PE X l tl):PI X tg l (iTup X.K tl):=by
  intro pins s σ H R I h
  refine thn (hl pins s σ H _ I h) fun v s1 ⟨x,H1,I1,r1,q1⟩=>?_
  obtain ⟨a,e,⟨xs,hq⟩,q⟩:=q1
  subst e
  cases r1
  obtain ⟨its,rv,p,hz⟩:=I1.tuple hq
  refine wpAny_pyIter_tuple (show s1.heap.IsTuple a its.toArray from p) ?_
  refine ⟨s1.heap.objs.size,[s1.heap.objs.size],_,_,H1,rfl,I1.kept (t':=s1.toks) fun b o e=>Heap.get?_push_of_some _ e,turn_tuple a _,⟨_,Heap.get?_push_size _ rfl,rfl,rfl⟩,fun b hb=>?_,q⟩
  have e:b=s1.heap.objs.size:=by simpa using hb
  subst e
  exact I1.fpOk (Nat.le_refl _) (I1.hok.fresh (Nat.le_refl _))
theorem range_it {pins:List (Addr × Obj)} {σ:St} {H:Hp} {s:Shared} {R:It→Hp→Prop} {E:Value→Shared→Prop} {lo hi:Int} {t u v:Tok} {tk:Nat} (I:Inv X pins σ H s) (h1:-(2 ^ 62)≤lo) (h2:lo < 2 ^ 62) (h3:-(2 ^ 62)≤hi) (h4:hi < 2 ^ 62)
    (q:R (Itr lo (hi - lo).toNat) H):wpAny (model X.prog X.w) X.A (pyIter (.ref s.heap.objs.size)) (PIE X pins σ tg R) E { s with heap:=s.heap.push { cls:=.type "range", data:=.fields #[.int lo t,.int hi u,.int 1 v] },toks:=tk }:=by
  refine wpAny_pyIter_range (IsRange.new ..) (small_one h1 h2 h3 h4) ?_
  have I1:Inv X pins σ H { s with heap:=s.heap.push { cls:=.type "range", data:=.fields #[.int lo t,.int hi u,.int 1 v] },toks:=tk }:=I.kept fun b o e=>Heap.get?_push_of_some _ e
  refine ⟨(s.heap.push { cls:=.type "range", data:=.fields #[.int lo t,.int hi u,.int 1 v] }).objs.size,[(s.heap.push { cls:=.type "range", data:=.fields #[.int lo t,.int hi u,.int 1 v] }).objs.size],_,_,H,rfl,
    I1.kept (t':=tk) fun b o e=>Heap.get?_push_of_some _ e,turn_range _ lo (hi - lo).toNat,?_,fun b hb=>?_,q⟩
  · have e1:lo+((0:Nat):Int) * 1=lo:=by simp
    have e2:(((hi - lo).toNat:Nat):Int) - ((0:Nat):Int)=Builtin.Range.rangeSize lo hi 1:=by rw [rangeSize_one];split <;> omega
    show IsRangeIter _ _ (lo+((0:Nat):Int) * 1) ((((hi - lo).toNat:Nat):Int) - ((0:Nat):Int)) 1
    rw [e1,e2]
    exact Heap.get?_push_size _ rfl
  · have e:b=(s.heap.push { cls:=.type "range", data:=.fields #[.int lo t,.int hi u,.int 1 v] }).objs.size:=by simpa using hb
    subst e
    exact I1.fpOk (Nat.le_refl _) (I1.hok.fresh (Nat.le_refl _))
def iRng1 (ta:TA):TI:=fun σ H R=>ta σ H fun vs H1=>∃ j:Int,vs=[.int j]∧-(2 ^ 62)≤j∧j < 2 ^ 62∧R (Itr 0 j.toNat) H1
theorem pi_range1 {a:Expr} {ta:TA} {p pos:Pos} (hg:Gl X "range") (hm:X.mg "range" = none) (ha:PA X [a] ta) (hs:starEach [a] X.env=[(false,eval a X.env)]:=by rfl):PI X tg (.Call (.Name "range" p) [a] [] pos) (iRng1 ta):=by
  intro pins s σ H R I h
  refine Call_ (ld_blt I hg hm boot_range (PyProof.Rows.callWith_type1 (thn (ha pos pins s σ H _ I h) fun us s1 ⟨vs,H1,I1,r1,q1⟩=>?_) hs rfl))
  obtain ⟨j,e,q1,q2,q⟩:=q1
  subst e
  cases r1 with
  | cons r rr=>
    cases rr
    obtain ⟨t,rfl⟩:=r
    exact call_range_1 (range_it I1 (by omega) (by omega) q1 q2 (by simpa using q))
def tFor (wi:TI) (g:TG) (tb:TS):TS:=fun D σ H=>wi σ H fun J H1=>∃ W:Nat→Nat→St→Hp→Prop,(∃ m,W 0 m σ H1)∧∀ i m σ H,W i m σ H →
  (J.stop i H∧D.nx σ H)∨(J.go i H∧∃ N:St→Hp→Prop,(∀ σ' H',N σ' H'→∃ m',m' < m∧W (i+1) m' σ' H')∧∀ x H',J.yld i H x H'→g x σ H' fun σ2 H2=>tb { D with nx:=N,ct:=N,bk:=D.nx } σ2 H2)
def pinsAt (fp:List Addr) (h:Heap):List (Addr × Obj):=fp.filterMap fun b=>(h.get? b).map fun o=>(b,o)
theorem mem_pinsAt {fp:List Addr} {h:Heap} {b:Addr} {o:Obj} (hb:b∈fp) (e:h.get? b=some o):(b,o)∈pinsAt fp h:=List.mem_filterMap.mpr ⟨b,hb,by rw [e];rfl⟩
theorem of_pinsAt {fp:List Addr} {h:Heap} {p:Addr × Obj} (hp:p∈pinsAt fp h):p.1∈fp∧h.get? p.1=some p.2:=by
  obtain ⟨b,hb,e⟩:=List.mem_filterMap.mp hp
  cases q:h.get? b with
  | none=>rw [q] at e;cases e
  | some o=>
    rw [q] at e
    have e':(b,o)=p:=Option.some.inj e
    subst e'
    exact ⟨hb,q⟩
theorem Inv.pinned {pins:List (Addr × Obj)} {σ:St} {H:Hp} {s:Shared} {fp:List Addr} (I:Inv X pins σ H s) (hf:∀ b∈fp,FpOk X pins H b) (ho:∀ b∈fp,∃ o,s.heap.get? b=some o∧∀ v,o.data≠.cell v):Inv X (pins++pinsAt fp s.heap) σ H s:=
  I.pins_of fun p hp=>(List.mem_append.mp hp).elim (fun z=>I.pin p (List.mem_append_right _ z)) fun z=>by
    obtain ⟨hb,e⟩:=of_pinsAt z
    obtain ⟨f0,f1,f2,_⟩:=hf p.1 hb
    obtain ⟨o,e',d⟩:=ho p.1 hb
    rw [e] at e';cases e'
    exact ⟨e,f0,f1,f2,d⟩
theorem Inv.unpinned {pins pl:List (Addr × Obj)} {σ:St} {H:Hp} {s:Shared} (I:Inv X (pins++pl) σ H s):Inv X pins σ H s:=I.pins_of fun p hp=>I.pin p (List.mem_append_right _ (List.mem_append_left _ hp))
theorem ps_for {iter:Expr} {body:List Stmt} {wi:TI} {g:TG} {tb:TS} {pos:Pos} (hp:PassesOwn (model X.prog X.w) X.A X.env X.xe) (hc:X.calm=true) (hi:PI X tg iter wi) (hg:PG X tg g) (hb:PSs X body tb)
    (hs:∀ x,foldedSetIterable iter X.env x=pure x:=by intro _;rfl):PS X (.For tg iter body [] pos) (tFor wi g tb):=by
  intro pins s σ H D I h
  refine wpAny_For (thn (hi pins s σ H _ I h) fun v s1 h1=>thn h1 fun itv s2 h2=>?_) hs
  obtain ⟨it,fp,tn,J,H2,e,I2,T,st2,f2,W,⟨m0,w0⟩,turn⟩:=h2
  subst e
  have stat:∀ {H':Hp},(∀ b∈fp,H' b=none)→∀ b∈fp,FpOk X pins H' b:=fun hn b hb=>⟨hn b hb,(f2 b hb).2⟩
  refine codeAny_forLoop_any (fun n s'=>∃ i σ' H',Inv X pins σ' H' s'∧tn i s'.heap∧(∀ b∈fp,H' b=none)∧W i n σ' H') ?_ m0 ⟨0,σ,H2,I2,st2,fun b hb=>(f2 b hb).1,w0⟩
  rintro n s3 ⟨i,σ3,H3,I3,st3,fr3,w3⟩
  rcases turn i n σ3 H3 w3 with ⟨stop,qn⟩ | ⟨go,N,hN,step⟩
  · refine wpAny_passesOwn hp (thn (T.done X rfl rfl rfl hc i pins s3 σ3 H3 X.xe I3 (stat fr3) st3 stop) fun r s4 ⟨hr,I4⟩=>?_)
    subst hr
    exact wpAny_execs_nil ⟨σ3,H3,I4,qn⟩
  · refine wpAny_passesOwn hp (thn (T.item X rfl rfl rfl hc i pins s3 σ3 H3 X.xe I3 (stat fr3) st3 go) fun r s4 ⟨u,hr,h4⟩=>?_)
    subst hr
    refine wpAny_passesOwn hp (thn h4 fun _ s5 ⟨x,H5,I5,r5,y5,st5,fr5⟩=>?_)
    have I5':=I5.pinned (stat fr5) (T.obj _ _ st5)
    refine wpAny_passesOwn hp (thn (hg _ s5 σ3 H5 x u _ I5' r5 (step x H5 y5)) fun _ s6 ⟨σ6,H6,I6,q6⟩=>?_)
    refine wpAny_passesOwn hp (thn (hb _ s6 σ6 H6 _ I6 q6) fun f s7 q7=>?_)
    have again:∀ {σ7:St} {H7:Hp},Inv X (pins++pinsAt fp s5.heap) σ7 H7 s7→N σ7 H7→∃ m,m < n∧∃ i σ' H',Inv X pins σ' H' s7∧tn i s7.heap∧(∀ b∈fp,H' b=none)∧W i m σ' H':=fun {σ7 H7} I7 n7=>by
      obtain ⟨m',hm,w7⟩:=hN σ7 H7 n7
      refine ⟨m',hm,i+1,σ7,H7,I7.unpinned,T.keep _ _ _ st5 fun b hb o e=>(I7.pin (b,o) (List.mem_append_right _ (List.mem_append_right _ (mem_pinsAt hb e)))).1,fun b hb=>?_,w7⟩
      obtain ⟨o,e,d⟩:=T.obj _ _ st5 b hb
      exact (I7.pin (b,o) (List.mem_append_right _ (List.mem_append_right _ (mem_pinsAt hb e)))).2.1
    cases f with
    | next=>obtain ⟨σ7,H7,I7,n7⟩:=q7;exact again I7 n7
    | cont=>obtain ⟨σ7,H7,I7,n7⟩:=q7;exact again I7 n7
    | brk=>obtain ⟨σ7,H7,I7,q7⟩:=q7;exact ⟨σ7,H7,I7.unpinned,q7⟩
    | ret v=>obtain ⟨x7,σ7,H7,I7,r7,q7⟩:=q7;exact ⟨x7,σ7,H7,I7.unpinned,r7,q7⟩
end
theorem for_tup {K:PySem.W.Frag} {a:Addr} {xs:List V} {g:TG} {tb:TS} {D:Ends} {σ:St} {H:Hp} (Pv:Nat→St→Hp→Prop) (h0:Pv 0 σ H) (hl:∀ i σ H,i≤xs.length→Pv i σ H→SqT K H a xs)
    (hs:∀ i x σ H,xs[i]?=some x→Pv i σ H→g x σ H fun σ2 H2=>tb { D with nx:=Pv (i+1),ct:=Pv (i+1),bk:=D.nx } σ2 H2) (hd:∀ σ H,Pv xs.length σ H→D.nx σ H) :
    ∃ W:Nat→Nat→St→Hp→Prop,(∃ m,W 0 m σ H)∧∀ i m σ H,W i m σ H →
      ((Itt K a).stop i H∧D.nx σ H)∨((Itt K a).go i H∧∃ N:St→Hp→Prop,(∀ σ' H',N σ' H'→∃ m',m' < m∧W (i+1) m' σ' H')∧∀ x H',(Itt K a).yld i H x H'→g x σ H' fun σ2 H2=>tb { D with nx:=N,ct:=N,bk:=D.nx } σ2 H2):=by
  refine ⟨fun i m σ H=>m=xs.length - i∧i≤xs.length∧Pv i σ H,⟨xs.length,by simp,Nat.zero_le _,h0⟩,?_⟩
  rintro i m σ H ⟨rfl,hi,p⟩
  have q:=hl i σ H hi p
  by_cases hlt:i < xs.length
  · refine .inr ⟨⟨xs,xs[i],q,by simp [hlt]⟩,Pv (i+1),fun σ' H' p'=>⟨xs.length - (i+1),by omega,rfl,hlt,p'⟩,fun x H' y=>?_⟩
    obtain ⟨e,y⟩:=y
    subst e
    exact hs i x σ _ (y xs q) p
  · have e:i=xs.length:=by omega
    subst e
    exact .inl ⟨⟨xs,q,Nat.le_refl _⟩,hd σ H p⟩
theorem for_range {lo:Int} {n:Nat} {g:TG} {tb:TS} {D:Ends} {σ:St} {H:Hp} (Pv:Nat→St→Hp→Prop) (h0:Pv 0 σ H)
    (hs:∀ i σ H,i < n→Pv i σ H→g (.int (lo+i)) σ H fun σ2 H2=>tb { D with nx:=Pv (i+1),ct:=Pv (i+1),bk:=D.nx } σ2 H2) (hd:∀ σ H,Pv n σ H→D.nx σ H) :
    ∃ W:Nat→Nat→St→Hp→Prop,(∃ m,W 0 m σ H)∧∀ i m σ H,W i m σ H →
      ((Itr lo n).stop i H∧D.nx σ H)∨((Itr lo n).go i H∧∃ N:St→Hp→Prop,(∀ σ' H',N σ' H'→∃ m',m' < m∧W (i+1) m' σ' H')∧∀ x H',(Itr lo n).yld i H x H'→g x σ H' fun σ2 H2=>tb { D with nx:=N,ct:=N,bk:=D.nx } σ2 H2):=by
  refine ⟨fun i m σ H=>m=n - i∧i≤n∧Pv i σ H,⟨n,by simp,Nat.zero_le _,h0⟩,?_⟩
  rintro i m σ H ⟨rfl,hi,p⟩
  by_cases hlt:i < n
  · refine .inr ⟨hlt,Pv (i+1),fun σ' H' p'=>⟨n - (i+1),by omega,rfl,hlt,p'⟩,fun x H' y=>?_⟩
    obtain ⟨e,y⟩:=y
    subst e y
    exact hs i σ _ hlt p
  · have e:i=n:=by omega
    subst e
    exact .inl ⟨Nat.le_refl _,hd σ H p⟩
end L2
namespace L2
open PySem PySem.Spec PyProof.Rows
abbrev R2:=V→V→Hp→VK→Prop
def OpR (X:Cx) (f:Value→Value→Sem Value) (r:R2):Prop:=
  ∀ (pins:List (Addr × Obj)) (s:Shared) (σ:St) (H:Hp) (x y:V) (v u:Value) (Q:VK),Inv X pins σ H s→RelV x v→RelV y u→r x y H Q →
    wpAny (model X.prog X.w) X.A (f v u) (EP X pins σ Q) X.xe s
def UnR (X:Cx) (f:Value→Sem Value) (r:V→Hp→VK→Prop):Prop:=
  ∀ (pins:List (Addr × Obj)) (s:Shared) (σ:St) (H:Hp) (x:V) (v:Value) (Q:VK),Inv X pins σ H s→RelV x v→r x H Q →
    wpAny (model X.prog X.w) X.A (f v) (EP X pins σ Q) X.xe s
def CallR (X:Cx) (f:Value) (r:List V→Hp→VK→Prop):Prop:=
  ∀ (pins:List (Addr × Obj)) (s:Shared) (σ:St) (H:Hp) (xs:List V) (us:List Value) (Q:VK),Inv X pins σ H s→Vals xs us→r xs H Q →
    wpAny (model X.prog X.w) X.A (call f us) (EP X pins σ Q) X.xe s
def tOp (r:R2) (ta tb:TE):TE:=fun σ H Q=>ta σ H fun x H1=>tb σ H1 fun y H2=>r x y H2 Q
def tUn (r:V→Hp→VK→Prop) (ta:TE):TE:=fun σ H Q=>ta σ H fun x H1=>r x H1 Q
def rI (C:Int→Int→Prop) (g:Int→Int→V):R2:=fun x y H Q=>∃ i j,x=.int i∧y=.int j∧C i j∧Q (g i j) H
def rI0 (g:Int→Int→V):R2:=fun x y H Q=>∃ i j,x=.int i∧y=.int j∧Q (g i j) H
def rU (g:Int→V):V→Hp→VK→Prop:=fun x H Q=>∃ i,x=.int i∧Q (g i) H
section
variable {X:Cx} {a b c:Expr} {ta tb tc:TE} {pos:Pos}
theorem binT (ha:PE X a ta) (hb:PE X b tb) {pins:List (Addr × Obj)} {s:Shared} {σ:St} {H:Hp} {R:V→V→Hp→Prop} (I:Inv X pins σ H s)
    (h:ta σ H fun x H1=>tb σ H1 fun y H2=>R x y H2) {Q:Value→Shared→Prop} {f:Value→Value→Sem Value}
    (hf:∀ v u s2 x y H2,Inv X pins σ H2 s2→RelV x v→RelV y u→R x y H2→wpAny (model X.prog X.w) X.A (f v u) Q X.xe s2) :
    wpAny (model X.prog X.w) X.A (eval a X.env) (fun v s₁=>wpAny (model X.prog X.w) X.A (eval b X.env) (fun u s₂=>wpAny (model X.prog X.w) X.A (f v u) Q X.xe s₂) X.xe s₁) X.xe s:=by
  refine thn (ha pins s σ H _ I h) fun v s1 ⟨x,H1,I1,r1,q1⟩=>?_
  refine thn (hb pins s1 σ H1 _ I1 q1) fun u s2 ⟨y,H2,I2,r2,q2⟩=>?_
  exact hf v u s2 x y H2 I2 r1 r2 q2
theorem pe_op {op:Operator} {r:R2} (ho:OpR X (binaryOp op) r) (ha:PE X a ta) (hb:PE X b tb):PE X (.BinOp a op b pos) (tOp r ta tb):=by
  intro pins s σ H Q I h
  exact wpAny_BinOp (binT ha hb I h fun v u s2 x y H2 I2 rx ry q=>ho pins s2 σ H2 x y v u Q I2 rx ry q)
theorem pe_un {op:UnaryOp} {r:V→Hp→VK→Prop} (ho:UnR X (unaryOp op) r) (ha:PE X a ta):PE X (.UnaryOp op a pos) (tUn r ta):=by
  intro pins s σ H Q I h
  exact UnaryOp_ (thn (ha pins s σ H _ I h) fun v s1 ⟨x,H1,I1,r1,q1⟩=>ho pins s1 σ H1 x v Q I1 r1 q1)
theorem opI {f:Value→Value→Sem Value} {C:Int→Int→Prop} {g:Int→Int→Int}
    (rule:∀ (i j:Int) (t u:Tok) (s:Shared) (Q:Value→Shared→Prop) (E:Value→Shared→Prop),C i j→Q (.int (g i j) s.toks) { s with toks:=s.toks+1 }→wpAny (model X.prog X.w) X.A (f (.int i t) (.int j u)) Q E s) :
    OpR X f (rI C fun i j=>.int (g i j)):=by
  intro pins s σ H x y v u Q I rx ry h
  obtain ⟨i,j,rfl,rfl,hc,q⟩:=h
  obtain ⟨t,rfl⟩:=rx
  obtain ⟨t',rfl⟩:=ry
  exact rule i j t t' s _ _ hc ⟨.int (g i j),H,I.tok _,⟨_,rfl⟩,q⟩
theorem opI0 {f:Value→Value→Sem Value} {g:Int→Int→Int}
    (rule:∀ (i j:Int) (t u:Tok) (s:Shared) (Q:Value→Shared→Prop) (E:Value→Shared→Prop),Q (.int (g i j) s.toks) { s with toks:=s.toks+1 }→wpAny (model X.prog X.w) X.A (f (.int i t) (.int j u)) Q E s) :
    OpR X f (rI0 fun i j=>.int (g i j)):=by
  intro pins s σ H x y v u Q I rx ry h
  obtain ⟨i,j,rfl,rfl,q⟩:=h
  obtain ⟨t,rfl⟩:=rx
  obtain ⟨t',rfl⟩:=ry
  exact rule i j t t' s _ _ ⟨.int (g i j),H,I.tok _,⟨_,rfl⟩,q⟩
theorem opB0 {f:Value→Value→Sem Value} {g:Int→Int→Bool}
    (rule:∀ (i j:Int) (t u:Tok) (s:Shared) (Q:Value→Shared→Prop) (E:Value→Shared→Prop),Q (.bool (g i j)) s→wpAny (model X.prog X.w) X.A (f (.int i t) (.int j u)) Q E s) :
    OpR X f (rI0 fun i j=>.bl (g i j)):=by
  intro pins s σ H x y v u Q I rx ry h
  obtain ⟨i,j,rfl,rfl,q⟩:=h
  obtain ⟨t,rfl⟩:=rx
  obtain ⟨t',rfl⟩:=ry
  exact rule i j t t' s _ _ ⟨.bl (g i j),H,I,rfl,q⟩
def CPow (i j:Int):Prop:=0≤j∧j≤1000000∧i.natAbs < 2 ^ 64
def CMul (i j:Int):Prop:=(-(2 ^ 64) < i∧i < 2 ^ 64)∨(-(2 ^ 64) < j∧j < 2 ^ 64)
theorem CMul.ok {i j:Int} (h:CMul i j):IntMulOk i j:=by
  rcases h with ⟨h1,h2⟩ | ⟨h1,h2⟩
  · exact .of_left (intBits_le_64 h1 h2)
  · exact .of_right (intBits_le_64 h1 h2)
theorem op_add:OpR X (binaryOp .Add) (rI0 fun i j=>.int (i+j)):=opI0 fun _ _ _ _ _ _ _ q=>add_int q
theorem op_sub:OpR X (binaryOp .Sub) (rI0 fun i j=>.int (i - j)):=opI0 fun _ _ _ _ _ _ _ q=>sub_int q
theorem op_mul:OpR X (binaryOp .Mult) (rI CMul fun i j=>.int (i * j)):=opI fun _ _ _ _ _ _ _ hc q=>mul_int q hc.ok
theorem op_mod:OpR X (binaryOp .Mod) (rI (fun _ j=>0 < j) fun i j=>.int (i % j)):=opI fun i j _ _ _ _ _ hc q=>by
  have h1:(0:Int) < j:=hc
  exact mod_int' (by omega) (by rw [Int.fmod_eq_emod_of_nonneg i (by omega)];exact q)
theorem op_pow:OpR X (binaryOp .Pow) (rI CPow fun i j=>.int (i ^ j.toNat)):=opI fun _ _ _ _ _ _ _ hc q=>pow_int_small hc.1 hc.2.1 hc.2.2 q
theorem unI {f:Value→Sem Value} {g:Int→Int}
    (rule:∀ (i:Int) (t:Tok) (s:Shared) (Q:Value→Shared→Prop) (E:Value→Shared→Prop),Q (.int (g i) s.toks) { s with toks:=s.toks+1 }→wpAny (model X.prog X.w) X.A (f (.int i t)) Q E s) :
    UnR X f (rU fun i=>.int (g i)):=by
  intro pins s σ H x v Q I rx h
  obtain ⟨i,rfl,q⟩:=h
  obtain ⟨t,rfl⟩:=rx
  exact rule i t s _ _ ⟨.int (g i),H,I.tok _,⟨_,rfl⟩,q⟩
theorem un_neg:UnR X (unaryOp .USub) (rU fun i=>.int (-i)):=unI fun _ _ _ _ _ q=>neg_int q
end
def scal:V→V→Bool
  | .non,.non=>true | .non,.int _=>true | .int _,.non=>true | .non,.bl _=>true | .bl _,.non=>true | .non,.str _=>true | .str _,.non=>true
  | .int _,.int _=>true | .bl _,.bl _=>true | .str _,.str _=>true | .byt _,.byt _=>true
  | .int _,.str _=>true | .str _,.int _=>true | .bl _,.str _=>true | .str _,.bl _=>true
  | _,_=>false
def rEq:R2:=fun x y H Q=>scal x y=true∧Q (.bl (decide (x=y))) H
def rNe:R2:=fun x y H Q=>scal x y=true∧Q (.bl (!decide (x=y))) H
theorem dec_int {i j:Int}:decide (V.int i=V.int j)=(i == j):=by
  rw [Bool.eq_iff_iff]
  simp
theorem dec_bl {i j:Bool}:decide (V.bl i=V.bl j)=(i == j):=by
  rw [Bool.eq_iff_iff]
  simp
theorem dec_str {i j:Str}:decide (V.str i=V.str j)=(i == j):=by
  rw [Bool.eq_iff_iff]
  simp
theorem dec_byt {i j:Array UInt8}:decide (V.byt i=V.byt j)=(i.toList == j.toList):=by
  rw [Bool.eq_iff_iff]
  cases i
  cases j
  simp
section
variable {X:Cx} {a b c:Expr} {ta tb tc:TE} {pos:Pos}
theorem fin_bl {pins:List (Addr × Obj)} {σ:St} {H:Hp} {s:Shared} {Q:VK} {k k':Bool} (I:Inv X pins σ H s) (q:Q (.bl k) H) (e:k=k'):EP X pins σ Q (.bool k') s:=by
  subst e
  exact ⟨.bl k,H,I,rfl,q⟩
theorem op_eq:OpR X (compareOp .Eq) rEq:=by
  intro pins s σ H x y v u Q I rx ry h
  obtain ⟨hs,q⟩:=h
  cases x with
  | non=>
    cases rx
    cases y with
    | non=>cases ry;exact PySem.EqNone.eq_none_none (fin_bl I q (by simp))
    | bl j=>cases ry;exact PySem.EqNone.eq_none_bool (fin_bl I q (by simp))
    | int j=>obtain ⟨t',rfl⟩:=ry;exact PySem.EqNone.eq_none_int (fin_bl I q (by simp))
    | str j=>obtain ⟨t',rfl⟩:=ry;exact PySem.EqNone.eq_none_str (fin_bl I q (by simp))
    | _=>exact absurd (show false=true from hs) Bool.false_ne_true
  | bl i=>
    cases rx
    cases y with
    | non=>cases ry;exact PySem.EqNone.eq_bool_none (fin_bl I q (by simp))
    | bl j=>cases ry;exact eq_bool (fin_bl I q dec_bl)
    | str j=>obtain ⟨t',rfl⟩:=ry;exact PySem.EqMixed.eq_bool_str (fin_bl I q (by simp))
    | _=>exact absurd (show false=true from hs) Bool.false_ne_true
  | int i=>
    obtain ⟨t,rfl⟩:=rx
    cases y with
    | non=>cases ry;exact PySem.EqNone.eq_int_none (fin_bl I q (by simp))
    | int j=>obtain ⟨t',rfl⟩:=ry;exact eq_int (fin_bl I q dec_int)
    | str j=>obtain ⟨t',rfl⟩:=ry;exact PySem.EqMixed.eq_int_str (fin_bl I q (by simp))
    | _=>exact absurd (show false=true from hs) Bool.false_ne_true
  | str i=>
    obtain ⟨t,rfl⟩:=rx
    cases y with
    | non=>cases ry;exact PySem.EqNone.eq_str_none (fin_bl I q (by simp))
    | bl j=>cases ry;exact PySem.EqMixed.eq_str_bool (fin_bl I q (by simp))
    | int j=>obtain ⟨t',rfl⟩:=ry;exact PySem.EqMixed.eq_str_int (fin_bl I q (by simp))
    | str j=>obtain ⟨t',rfl⟩:=ry;exact eq_str (fin_bl I q dec_str)
    | _=>exact absurd (show false=true from hs) Bool.false_ne_true
  | byt i=>
    obtain ⟨t,rfl⟩:=rx
    cases y with
    | byt j=>obtain ⟨t',rfl⟩:=ry;exact PySem.W.eq_bytes (fin_bl I q dec_byt)
    | _=>exact absurd (show false=true from hs) Bool.false_ne_true
  | _=>cases y <;> exact absurd (show false=true from hs) Bool.false_ne_true
theorem op_ne:OpR X (compareOp .NotEq) rNe:=by
  intro pins s σ H x y v u Q I rx ry h
  obtain ⟨hs,q⟩:=h
  cases x with
  | non=>
    cases rx
    cases y with
    | non=>cases ry;exact PySem.EqNone.ne_none_none (fin_bl I q (by simp))
    | bl j=>cases ry;exact PySem.EqNone.ne_none_bool (fin_bl I q (by simp))
    | int j=>obtain ⟨t',rfl⟩:=ry;exact PySem.EqNone.ne_none_int (fin_bl I q (by simp))
    | str j=>obtain ⟨t',rfl⟩:=ry;exact PySem.EqNone.ne_none_str (fin_bl I q (by simp))
    | _=>exact absurd (show false=true from hs) Bool.false_ne_true
  | bl i=>
    cases rx
    cases y with
    | non=>cases ry;exact PySem.EqNone.ne_bool_none (fin_bl I q (by simp))
    | bl j=>cases ry;exact ne_bool (fin_bl I q (congrArg not dec_bl))
    | str j=>obtain ⟨t',rfl⟩:=ry;exact PySem.EqMixed.ne_bool_str (fin_bl I q (by simp))
    | _=>exact absurd (show false=true from hs) Bool.false_ne_true
  | int i=>
    obtain ⟨t,rfl⟩:=rx
    cases y with
    | non=>cases ry;exact PySem.EqNone.ne_int_none (fin_bl I q (by simp))
    | int j=>obtain ⟨t',rfl⟩:=ry;exact ne_int (fin_bl I q (congrArg not dec_int))
    | str j=>obtain ⟨t',rfl⟩:=ry;exact PySem.EqMixed.ne_int_str (fin_bl I q (by simp))
    | _=>exact absurd (show false=true from hs) Bool.false_ne_true
  | str i=>
    obtain ⟨t,rfl⟩:=rx
    cases y with
    | non=>cases ry;exact PySem.EqNone.ne_str_none (fin_bl I q (by simp))
    | bl j=>cases ry;exact PySem.EqMixed.ne_str_bool (fin_bl I q (by simp))
    | int j=>obtain ⟨t',rfl⟩:=ry;exact PySem.EqMixed.ne_str_int (fin_bl I q (by simp))
    | str j=>obtain ⟨t',rfl⟩:=ry;exact ne_str (fin_bl I q (congrArg not dec_str))
    | _=>exact absurd (show false=true from hs) Bool.false_ne_true
  | byt i=>
    obtain ⟨t,rfl⟩:=rx
    cases y with
    | byt j=>obtain ⟨t',rfl⟩:=ry;exact PySem.W.ne_bytes (fin_bl I q (congrArg not dec_byt))
    | _=>exact absurd (show false=true from hs) Bool.false_ne_true
  | _=>cases y <;> exact absurd (show false=true from hs) Bool.false_ne_true
theorem op_lt:OpR X (compareOp .Lt) (rI0 fun i j=>.bl (decide (i < j))):=opB0 fun _ _ _ _ _ _ _ q=>lt_int q
theorem op_le:OpR X (compareOp .LtE) (rI0 fun i j=>.bl (decide (i≤j))):=opB0 fun _ _ _ _ _ _ _ q=>le_int q
theorem op_gt:OpR X (compareOp .Gt) (rI0 fun i j=>.bl (decide (j < i))):=opB0 fun _ _ _ _ _ _ _ q=>gt_int q
theorem op_ge:OpR X (compareOp .GtE) (rI0 fun i j=>.bl (decide (j≤i))):=opB0 fun _ _ _ _ _ _ _ q=>ge_int q
theorem op_isN:OpR X (compareOp .Is) (fun x y H Q=>y=.non∧Q (.bl (decide (x=.non))) H):=by
  intro pins s σ H x y v u Q I rx ry h
  obtain ⟨rfl,q⟩:=h
  cases ry
  refine is_none_gen (fin_bl I q ?_)
  cases x <;> first
    | (cases rx;rfl)
    | (obtain ⟨t,rfl⟩:=rx;rfl)
theorem OpR.or {f:Value→Value→Sem Value} {r r':R2} (h:OpR X f r) (h':OpR X f r'):OpR X f (fun x y H Q=>r x y H Q∨r' x y H Q):=by
  intro pins s σ H x y v u Q I rx ry q
  rcases q with q | q
  · exact h pins s σ H x y v u Q I rx ry q
  · exact h' pins s σ H x y v u Q I rx ry q
theorem nomark (b:Expr) {op:CmpOp} (h:op≠.In:=by decide) (h2:op≠.NotIn:=by decide):behindInMarks op b=false:=by
  have e1:(op == CmpOp.In)=false:=by cases op <;> first | rfl | exact absurd rfl h
  have e2:(op == CmpOp.NotIn)=false:=by cases op <;> first | rfl | exact absurd rfl h2
  cases b <;> simp [behindInMarks,e1,e2]
theorem pe_cmpR {op:CmpOp} {r:R2} (ho:OpR X (compareOp op) r) (ha:PE X a ta) (hb:PE X b tb) (hm:behindInMarks op b=false):PE X (.Compare a [op] [b] pos) (tOp r ta tb):=by
  intro pins s σ H Q I h
  exact wpAny_Compare1 (binT ha hb I h fun v u s2 x y H2 I2 rx ry q=>ho pins s2 σ H2 x y v u Q I2 rx ry q) hm
def tTest (t:TE):TT:=fun σ H Q=>t σ H fun x H'=>∃ k,x=.bl k∧Q k H'
theorem pt_cmpR {op:CmpOp} {r:R2} (ho:OpR X (compareOp op) r) (ha:PE X a ta) (hb:PE X b tb) (hm:behindInMarks op b=false):PT X (.Compare a [op] [b] pos) (tTest (tOp r ta tb)):=by
  intro pins s σ H Q I h
  refine wpAny_isTrue_Compare1 (thn (ha pins s σ H _ I h) fun v s1 ⟨x,H1,I1,r1,q1⟩=>thn (hb pins s1 σ H1 _ I1 q1) fun u s2 ⟨y,H2,I2,r2,q2⟩=>
    thn (ho pins s2 σ H2 x y v u _ I2 r1 r2 q2) fun c s3 ⟨z,H3,I3,r3,k,e,q3⟩=>?_) hm
  subst e
  cases r3
  exact wpAny_truthy_bool ⟨H3,I3,q3⟩
def tChain (r r':R2) (ta tb tc:TE):TE:=fun σ H Q=>ta σ H fun x H1=>tb σ H1 fun y H2=>r x y H2 fun z H3=>∃ k,z=.bl k ∧
  (if k=true then tc σ H3 fun w' H4=>r' y w' H4 Q else Q (.bl false) H3)
theorem pe_chain {op op':CmpOp} {r r':R2} (ho:OpR X (compareOp op) r) (ho':OpR X (compareOp op') r') (ha:PE X a ta) (hb:PE X b tb) (hc:PE X c tc)
    (hm:lastMarks [op,op'] [b,c]=false:=by with_unfolding_all rfl):PE X (.Compare a [op,op'] [b,c] pos) (tChain r r' ta tb tc):=by
  intro pins s σ H Q I h
  refine Compare_chain (thn (ha pins s σ H _ I h) fun v s1 ⟨x,H1,I1,r1,q1⟩=>chain_link (thn (hb pins s1 σ H1 _ I1 q1) fun u s2 ⟨y,H2,I2,r2,q2⟩=>
    thn (ho pins s2 σ H2 x y v u _ I2 r1 r2 q2) fun d s3 ⟨z,H3,I3,r3,k,e,q3⟩=>?_)) hm
  subst e
  cases r3
  refine wpAny_truthy_bool ?_
  cases k with
  | false=>exact ite_ff ⟨.bl false,H3,I3,rfl,q3⟩
  | true=>exact ite_tt (chain_last (thn (hc pins s3 σ H3 _ I3 q3) fun w' s4 ⟨z',H4,I4,r4,q4⟩=>ho' pins s4 σ H4 y z' u w' Q I4 r2 r4 q4))
theorem pt_chain {op op':CmpOp} {r r':R2} (ho:OpR X (compareOp op) r) (ho':OpR X (compareOp op') r') (ha:PE X a ta) (hb:PE X b tb) (hc:PE X c tc)
    (hm:lastMarks [op,op'] [b,c]=false:=by with_unfolding_all rfl):PT X (.Compare a [op,op'] [b,c] pos) (tTest (tChain r r' ta tb tc)):=by
  intro pins s σ H Q I h
  refine isTrue_chain (thn (ha pins s σ H _ I h) fun v s1 ⟨x,H1,I1,r1,q1⟩=>test_link (thn (hb pins s1 σ H1 _ I1 q1) fun u s2 ⟨y,H2,I2,r2,q2⟩=>
    thn (ho pins s2 σ H2 x y v u _ I2 r1 r2 q2) fun d s3 ⟨z,H3,I3,r3,k,e,q3⟩=>?_)) hm
  subst e
  cases r3
  refine wpAny_truthy_bool ?_
  cases k with
  | false=>
    obtain ⟨k',e',q'⟩:=q3
    cases e'
    exact ite_ff ⟨H3,I3,q'⟩
  | true=>
    refine ite_tt (test_last (thn (hc pins s3 σ H3 _ I3 q3) fun w' s4 ⟨z',H4,I4,r4,q4⟩=>thn (ho' pins s4 σ H4 y z' u w' _ I4 r2 r4 q4) fun d' s5 ⟨z2,H5,I5,r5,k2,e2,q5⟩=>?_))
    subst e2
    cases r5
    exact wpAny_truthy_bool ⟨H5,I5,q5⟩
theorem line63:(sizeLine:Nat) < 2 ^ 63:=by rw [sizeLine_eq];decide
theorem vals1 {x:V} {us:List Value} (r:Vals [x] us):∃ u,us=[u]∧RelV x u:=by
  cases r with
  | cons r1 r2=>cases r2;exact ⟨_,rfl,r1⟩
theorem vals2 {x y:V} {us:List Value} (r:Vals [x,y] us):∃ u w',us=[u,w']∧RelV x u∧RelV y w':=by
  cases r with
  | cons r1 r2=>
    cases r2 with
    | cons r3 r4=>cases r4;exact ⟨_,_,rfl,r1,r3⟩
theorem call_max2 (hc:X.calm=true):CallR X (.builtin "max") (fun xs H Q=>∃ i j,xs=[.int i,.int j]∧Q (.int (if j > i then j else i)) H):=by
  intro pins s σ H xs us Q I r h
  obtain ⟨i,j,rfl,q⟩:=h
  obtain ⟨u,w',rfl,⟨t,rfl⟩,⟨t',rfl⟩⟩:=vals2 r
  refine max_two_ints (I.ok.hd hc) fun h' tk k=>⟨_,H,I.kept k,?_,q⟩
  by_cases hj:j > i
  · rw [if_pos hj,if_pos hj];exact ⟨_,rfl⟩
  · rw [if_neg hj,if_neg hj];exact ⟨_,rfl⟩
theorem call_min2 (hc:X.calm=true):CallR X (.builtin "min") (fun xs H Q=>∃ i j,xs=[.int i,.int j]∧Q (.int (if j < i then j else i)) H):=by
  intro pins s σ H xs us Q I r h
  obtain ⟨i,j,rfl,q⟩:=h
  obtain ⟨u,w',rfl,⟨t,rfl⟩,⟨t',rfl⟩⟩:=vals2 r
  refine min_two_ints (I.ok.hd hc) fun h' tk k=>⟨_,H,I.kept k,?_,q⟩
  by_cases hj:j < i
  · rw [if_pos hj,if_pos hj];exact ⟨_,rfl⟩
  · rw [if_neg hj,if_neg hj];exact ⟨_,rfl⟩
end
end L2
namespace L2
open PySem PySem.Spec PyProof.Rows
structure ObjM (h:Heap) (x dx C:Addr) (mA:Str→Option Value):Prop where
  obj:h.get? x=some (PySem.W.instObj C dx)
  ns:h.Ns1 dx mA
  ne:dx≠x
theorem lookIn_ns {h:Heap} {dx:Addr} {mA:Str→Option Value} (n:h.Ns1 dx mA):∃ od,h.get? dx=some od∧∀ name,PySem.W.lookIn name od=some (mA name):=by
  obtain ⟨o,es,ep,ho,hd,hk,_,hm⟩:=n
  refine ⟨o,ho,fun name=>?_⟩
  have e:=hm name
  unfold nsFind findBy at e
  rw [← Array.find?_toList] at e
  unfold PySem.W.lookIn
  rw [hd]
  dsimp only
  split
  · rename_i y q
    rw [q] at e
    exact congrArg some e
  · rename_i q
    rw [q] at e
    have a:es.toList.any (·.refKey)=false:=by
      rw [List.any_eq_false]
      intro y hy
      obtain ⟨z,t,hkey⟩:=hk y (Array.mem_toList_iff.mp hy)
      simp [DictEntry.refKey,hkey]
    have a':¬ es.toList.any (·.refKey)=true:=by rw [a];exact Bool.false_ne_true
    rw [if_neg a']
    exact congrArg some e
theorem ObjM.look {h:Heap} {x dx C:Addr} {mA:Str→Option Value} (I:ObjM h x dx C mA):∃ od,PySem.W.InstAt h x (PySem.W.instObj C dx) C (some od)∧∀ name,PySem.W.lookIn name od=some (mA name):=
  let ⟨od,ho,hl⟩:=lookIn_ns I.ns
  ⟨od,⟨I.obj,rfl,rfl,ho⟩,hl⟩
section
variable {prog:Program} {w:World} {A:Around} {E:Value→Shared→Prop} {s:Shared} {K:PySem.W.Frag} {x dx C f:Addr} {mA:Str→Option Value} {name:Str} {v:Value}
end
section
variable {P:Program} {w:World} {H H':Hp} {h h':Heap} {a C dx:Addr} {fs fs':List (Str × V)}
theorem ins_get (hok:HOk P w H h) (e:H a=some (.ins C dx fs)):∃ mA,ObjM h a dx C mA∧(∀ f,RelO (fs.lookup f) (mA f))∧PySem.Within mA (fs.map (·.1))∧fs.length≤1000∧H dx=some (.own a):=by
  obtain ⟨d,z,ne,ob,mA,n,r,q⟩:=(show ObjOk P w H h a (.ins C dx fs) from hok a _ e)
  exact ⟨mA,⟨ob,n,ne⟩,r,q,z,d⟩
end
structure Cls (K:PySem.W.Frag) (C:Addr):Prop where
  pg:PySem.W.plainGet K C Str.empty=true
  hd:PySem.W.hasDictIn K C=true
  po:PySem.W.plainOver K C=true
  sa:PySem.W.findIn K (.ref C) "__setattr__" = some (some (.builtin "object.__setattr__"))
theorem Cls.get {K:PySem.W.Frag} {C:Addr} (c:Cls K C) (f:Str):PySem.W.plainGet K C f=true:=c.pg
section
variable {X:Cx} {pins:List (Addr × Obj)} {σ:St} {H:Hp} {s:Shared} {a C dx:Addr} {fs:List (Str × V)} {f:Str} {v:V} {A:Around} {E:Value→Shared→Prop}
theorem Inv.made (I:Inv X pins σ H s):Inv X pins σ (upd (upd H s.heap.objs.size (.own (s.heap.objs.size+1))) (s.heap.objs.size+1) (.ins C s.heap.objs.size []))
    { s with heap:=(s.heap.push PySem.W.emptyDict).push (PySem.W.instObj C s.heap.objs.size) }:=by
  have e1:(s.heap.push PySem.W.emptyDict).get? s.heap.objs.size=some PySem.W.emptyDict:=Heap.get?_push_size s.heap rfl
  have e2:((s.heap.push PySem.W.emptyDict).push (PySem.W.instObj C s.heap.objs.size)).get? (s.heap.objs.size+1)=some (PySem.W.instObj C s.heap.objs.size):=by
    have:=Heap.get?_push_size (s.heap.push PySem.W.emptyDict) (o:=PySem.W.instObj C s.heap.objs.size) rfl
    rwa [Heap.size_push] at this
  have e3:(s.heap.push PySem.W.emptyDict).Ns s.heap.objs.size (fun _=>none):=⟨PySem.W.emptyDict,#[],_,e1,rfl,(fun e he=>absurd he (by simp)),fun _=>rfl⟩
  have I1:=I.laid (a:=s.heap.objs.size) (o:=.own (s.heap.objs.size+1)) (h':=s.heap.push PySem.W.emptyDict) (t':=s.toks) (fun b u q=>Heap.get?_push_of_some _ q) (Nat.le_refl _) ⟨_,e1⟩
  refine I1.laid (a:=s.heap.objs.size+1) (o:=.ins C s.heap.objs.size []) (t':=s.toks) (fun b u q=>Heap.get?_push_of_some _ q) (Nat.le_of_eq (Heap.size_push _ _)) ?_
  have ne:s.heap.objs.size≠s.heap.objs.size+1:=Nat.ne_of_lt (Nat.lt_succ_self _)
  refine ⟨by rw [upd_ne ne,upd_same],Nat.zero_le _,ne,e2,fun _=>none,(Heap.Ns1.of_empty e3).at fun o q=>Heap.get?_push_of_some _ q,fun _=>True.intro,fun y hy=>absurd rfl hy⟩
end
section
variable {X:Cx} {o e value:Expr} {f:Str} {pos pos' tpos:Pos} {ta tv:TE}
end
section
variable {X:Cx} {pins:List (Addr × Obj)} {σ:St} {H:Hp} {s:Shared} {A:Around} {E:Value→Shared→Prop} {Q:Value→Shared→Prop} {c:Value} {b:Bool}
inductive TyOf (K:PySem.W.Frag) (H:Hp):V→Value→Prop where
  | non:TyOf K H .non (.type "NoneType")
  | bl (x:Bool):TyOf K H (.bl x) (.type "bool")
  | int (i:Int):TyOf K H (.int i) (.type "int")
  | str (x:Str):TyOf K H (.str x) (.type "str")
  | flt (x:UInt64):TyOf K H (.flt x) (.type "float")
  | lst {a:Addr} {xs:List V} (e:H a=some (.lst xs)):TyOf K H (.ref a) (.type "list")
  | frz {a:Addr} {o:Obj} {xs:List V} (e:H a=some (.frz o (.lst xs))):TyOf K H (.ref a) (.type "list")
  | tup {a:Addr} {xs:List V} (e:H a=some (.tup xs)):TyOf K H (.ref a) (.type "tuple")
  | dK {a:Addr} {kvs:List (Key × V)} (e:H a=some (.dK kvs)):TyOf K H (.ref a) (.type "dict")
  | dT {a:Addr} {kvs:List (List Key × V)} (e:H a=some (.dT kvs)):TyOf K H (.ref a) (.type "dict")
  | ins {a C dx:Addr} {fs:List (Str × V)} (e:H a=some (.ins C dx fs)) (cl:Cls K C) (ha:PySem.W.findIn K (.ref C) "__class__" = some (some (.builtin "object.__class__")))
      (hn:PySem.W.specialIn K (.builtin "object.__class__") "__get__" = some (some (.builtin "getset_descriptor.__get__"))) (htk:PySem.W.takesIn K (.builtin "object.__class__")=some true)
      (hm:PySem.W.mroIn K C (.type "object")=some true):TyOf K H (.ref a) (.ref C)
theorem isinst_ok {x:V} {u t:Value} (I:Inv X pins σ H s) (rx:RelV x u) (ty:TyOf X.K H x t) (e:PySem.W.kitOne X.K t c=some b) (h:∀ tk,Q (.bool b) { s with toks:=tk }) :
    wpAny (model X.prog X.w) A (call (.builtin "isinstance") [u,c]) Q E s:=by
  cases ty with
  | non=>cases (show u=Value.none from rx);exact PySem.W.kia_one PySem.W.kitx_none I.kIn True.intro e (fun z=>nomatch z) h
  | bl y=>cases (show u=Value.bool y from rx);exact PySem.W.kia_one PySem.W.kitx_bool I.kIn True.intro e (fun z=>nomatch z) h
  | int i=>obtain ⟨t,q⟩:=(show ∃ t,u=Value.int i t from rx);cases q;exact PySem.W.kia_one PySem.W.kitx_int I.kIn True.intro e (fun z=>nomatch z) h
  | str y=>obtain ⟨t,q⟩:=(show ∃ t,u=Value.str y t from rx);cases q;exact PySem.W.kia_one PySem.W.kitx_str I.kIn True.intro e (fun z=>nomatch z) h
  | flt y=>obtain ⟨t,q⟩:=(show ∃ t,u=Value.float y t from rx);cases q;exact PySem.W.kia_one PySem.W.kitx_float I.kIn True.intro e (fun z=>nomatch z) h
  | @lst a xs ea=>
    cases (show u=Value.ref a from rx)
    obtain ⟨_,_,n,_,h1⟩:=(show ObjOk X.prog X.w H s.heap a (.lst xs) from I.hok a _ ea)
    exact PySem.W.kia_one PySem.W.kitx_list I.kIn ⟨_,h1,rfl⟩ e (fun z=>nomatch z) h
  | @frz a ob xs ea=>
    cases (show u=Value.ref a from rx)
    obtain ⟨_,_,_,n,_,h1⟩:=(show ObjOk X.prog X.w H s.heap a (.frz ob (.lst xs)) from I.hok a _ ea)
    exact PySem.W.kia_one PySem.W.kitx_list I.kIn ⟨_,h1,rfl⟩ e (fun z=>nomatch z) h
  | @tup a xs ea=>
    cases (show u=Value.ref a from rx)
    obtain ⟨_,_,_,p⟩:=(show ObjOk X.prog X.w H s.heap a (.tup xs) from I.hok a _ ea)
    obtain ⟨o,h1,h2,_⟩:=p
    exact PySem.W.kia_one PySem.W.kitx_tuple I.kIn ⟨o,h1,h2⟩ e (fun z=>nomatch z) h
  | @dK a kvs ea=>
    cases (show u=Value.ref a from rx)
    obtain ⟨_,_,vs,_,p⟩:=(show ObjOk X.prog X.w H s.heap a (.dK kvs) from I.hok a _ ea)
    obtain ⟨o,es,ep,h1,h2,_⟩:=p
    exact PySem.W.kia_one PySem.W.kitx_dict I.kIn ⟨o,h1,h2.1⟩ e (fun z=>nomatch z) h
  | @dT a kvs ea=>
    cases (show u=Value.ref a from rx)
    obtain ⟨_,_,xs,_,o,es,ep,h1,h2,_⟩:=(show ObjOk X.prog X.w H s.heap a (.dT kvs) from I.hok a _ ea)
    exact PySem.W.kia_one PySem.W.kitx_dict I.kIn ⟨o,h1,h2.1⟩ e (fun z=>nomatch z) h
  | @ins a C dx fs ea cl ha hn htk hm=>
    cases (show u=Value.ref a from rx)
    obtain ⟨mA,O,_⟩:=ins_get I.hok ea
    obtain ⟨od,J,_⟩:=O.look
    exact PySem.W.kia_one (PySem.W.kitx_own (cl.get _) cl.hd ha hn htk hm) I.kIn J e (fun z=>nomatch z) h
end
end L2
namespace L2
open PySem PySem.Spec PyProof.Rows
structure Room (k:Nat) (A:Around):Prop where
  hd:A.handled=none
  dp:A.depth+3 * k+5 < recursionLimit
  un:A.units+16 * k+200 < cLine
  gd:A.guards=some []
theorem Room.mono {j k:Nat} {A:Around} (r:Room k A) (h:j≤k):Room j A:=⟨r.hd,by have:=r.dp;omega,by have:=r.un;omega,by first | exact r.gd | (simpa [Around.under,Code.isGuard,guardIds] using r.gd)⟩
theorem Room.deeper {k:Nat} {A:Around} (r:Room (k+1) A) (env:Env):Room k (A.deeper env):=
  ⟨r.hd,by have:=r.dp;show A.depth+1+3 * k+5 < _;omega,by have:=r.un;show A.units+3+16 * k+200 < _;omega,by first | exact r.gd | (simpa [Around.under,Code.isGuard,guardIds] using r.gd)⟩
theorem Room.in1 {k:Nat} {A:Around} (r:Room (k+1) A):Room k A.in1:=
  ⟨r.hd,by have:=r.dp;show A.depth+3 * k+5 < _;omega,by have:=r.un;show A.units+1+16 * k+200 < _;omega,by first | exact r.gd | (simpa [Around.under,Code.isGuard,guardIds] using r.gd)⟩
theorem Room.depth {k:Nat} {A:Around} (r:Room k A):A.depth < recursionLimit:=by have:=r.dp;omega
theorem Room.units {k:Nat} {A:Around} (r:Room k A):A.units+64 < cLine:=by have:=r.un;omega
theorem Room.units0 {k:Nat} {A:Around} (r:Room k A):A.units < cLine:=by have:=r.un;omega
def tNil:TA:=fun _ H Q=>Q [] H
def tCons (ta:TE) (tr:TA):TA:=fun σ H Q=>ta σ H fun x H1=>tr σ H1 fun xs H2=>Q (x :: xs) H2
section
variable {X:Cx} {e:Expr} {es:List Expr} {te:TE} {t:TA} {pos:Pos}
theorem pa_nil:PA X [] tNil:=fun _ _ _ _ H Q I h=>Calls.spliced_nil ⟨[],H,I,.nil,h⟩
theorem pa_cons (ha:PE X e te) (hr:PA X es t) (hs:starEach (e :: es) X.env=(false,eval e X.env) :: starEach es X.env:=by rfl):PA X (e :: es) (tCons te t):=by
  intro pos pins s σ H Q I h
  rw [hs]
  show wpAny _ _ (spliced ((false,eval e X.env) :: backTo pos (starEach es X.env))) _ _ s
  refine Calls.spliced_cons (thn (ha pins s σ H _ I h) fun u s1 ⟨x,H1,I1,r1,q1⟩=>?_)
  exact thn (hr pos pins s1 σ H1 _ I1 q1) fun us s2 ⟨xs,H2,I2,r2,q2⟩=>⟨x :: xs,H2,I2,.cons r1 r2,q2⟩
def tTup (t:TA):TE:=fun σ H Q=>t σ H fun xs H1=>xs.length≤sizeLine∧∀ p,H1 p=none→Q (.ref p) (upd H1 p (.tup xs))
def tLst (t:TA):TE:=fun σ H Q=>t σ H fun xs H1=>xs.length≤sizeLine∧∀ p,H1 p=none→Q (.ref p) (upd H1 p (.lst xs))
theorem pe_tup {x1} (h:PA X es t):PE X (.Tuple es x1 pos) (tTup t):=by
  intro pins s σ H Q I hq
  refine wpAny_Tuple_spliced (thn (h pos pins s σ H _ I hq) fun us s1 ⟨xs,H1,I1,r,z,q⟩=>⟨by rw [← r.length];exact z,?_⟩)
  have hf:H1 s1.heap.objs.size=none:=I1.hok.fresh (Nat.le_refl _)
  refine ⟨.ref s1.heap.objs.size,upd H1 s1.heap.objs.size (.tup xs),I1.laid (t':=s1.toks) (fun b u e=>Heap.get?_push_of_some _ e) (Nat.le_refl _) ?_,rfl,q _ hf⟩
  exact ⟨⟨z,_,Heap.get?_push_size _ rfl,rfl⟩,us,r,⟨_,Heap.get?_push_size _ rfl,rfl,_,rfl⟩⟩
theorem pe_lst (h:PA X es t):PE X (.List es pos) (tLst t):=by
  intro pins s σ H Q I hq
  refine wpAny_List_spliced (thn (h pos pins s σ H _ I hq) fun us s1 ⟨xs,H1,I1,r,z,q⟩=>⟨by rw [← r.length];exact z,?_⟩)
  have hf:H1 s1.heap.objs.size=none:=I1.hok.fresh (Nat.le_refl _)
  refine ⟨.ref s1.heap.objs.size,upd H1 s1.heap.objs.size (.lst xs),I1.laid (t':=s1.toks) (fun b u e=>Heap.get?_push_of_some _ e) (Nat.le_refl _) ?_,rfl,q _ hf⟩
  exact ⟨z,us,0,r,Heap.get?_push_size _ rfl⟩
end
abbrev Sp:=List V→Hp→VK→XK→Prop
abbrev CXT:=List Env→Hp→Shared→XK→Value→Shared→Prop
structure Env0 (P:Program) (w:World) (K:PySem.W.Frag) (mg:Str→Option Value) (base:Heap) (A:Around) (outer:List Env) (s:Shared) (H:Hp):Prop where
  frames:A.frames=some outer
  mod:Mod K mg base
  bs:∀ b o,base.get? b=some o→s.heap.get? b=some o∧H b=none
  bsz:base.objs.size≤s.heap.objs.size
  funs:s.heap.FunFrames base outer
  frf:∀ b∈frs outer,H b=none
  hok:HOk P w H s.heap
  bare:AllBare s.gens
def CE (outer:List Env) (P:Program) (w:World) (H:Hp) (s:Shared) (Q:VK) (u:Value) (s':Shared):Prop:=
  ∃ v H',s'.os=s.os∧AllBare s'.gens∧Un (frs outer) [] H H' s.heap s'.heap∧HOk P w H' s'.heap∧RelV v u∧Q v H'
def CR (CX:CXT) (outer:List Env) (P:Program) (w:World) (H:Hp) (s:Shared) (Q:VK) (E:XK) (r:Result) (s':Shared):Prop:=
  match r with
  | .ok (.ret u)=>CE outer P w H s Q u s'
  | .ok _=>False
  | .error e=>CX outer H s E e s'
structure FnOk (P:Program) (w:World) (K:PySem.W.Frag) (mg:Str→Option Value) (base:Heap) (CX:CXT) (k:Nat) (f:Addr) (fd:FuncData) (ps:List Str) (sp:Sp):Prop where
  len:∀ vs H Q E,sp vs H Q E→vs.length=ps.length
  run:∀ (A:Around) (outer:List Env) (s:Shared) (H:Hp) (args:Args) (us:List Value) (vs:List V) (Q:VK) (E:XK),Room k A→Env0 P w K mg base A outer s H→BindsTo s fd args (ps.zip us)→Vals vs us→sp vs H Q E →
    codeAny (model P w) A (.call (.ref f) args) (CR CX outer P w H s Q E) s
theorem FnOk.mono {P:Program} {w:World} {K:PySem.W.Frag} {mg:Str→Option Value} {base:Heap} {CX:CXT} {j k:Nat} {f:Addr} {fd:FuncData} {ps:List Str} {sp:Sp} (F:FnOk P w K mg base CX j f fd ps sp) (h:j≤k) :
    FnOk P w K mg base CX k f fd ps sp:=⟨F.len,fun A outer s H args us vs Q E hr=>F.run A outer s H args us vs Q E (hr.mono h)⟩
theorem Env0.in1 {P:Program} {w:World} {K:PySem.W.Frag} {mg:Str→Option Value} {base:Heap} {A:Around} {outer:List Env} {s:Shared} {H:Hp} (e:Env0 P w K mg base A outer s H) :
    Env0 P w K mg base A.in1 outer s H:=⟨e.frames,e.mod,e.bs,e.bsz,e.funs,e.frf,e.hok,e.bare⟩
section
variable {X:Cx} {pins:List (Addr × Obj)} {σ:St} {H:Hp} {s s':Shared}
theorem Inv.env0 (I:Inv X pins σ H s):Env0 X.prog X.w X.K X.mg X.base X.A X.stack s H:=
  ⟨I.ok.frames,I.ok.mod,I.bs,Nat.le_trans I.ok.bsz I.sz,I.stack,I.stkFree,I.hok,I.bare⟩
theorem Inv.after {Q:VK} {u:Value} (I:Inv X pins σ H s) (h:CE X.stack X.prog X.w H s Q u s'):EP X pins σ Q u s':=by
  obtain ⟨v,H',os,bare,un,hok,r,q⟩:=h
  obtain ⟨hh,g,d,t,os'⟩:=s'
  obtain rfl:os'=s.os:=os
  exact ⟨v,H',I.call (h':=hh) (g':=g) (d':=d) (t':=t) (ch:=[]) un hok bare (fun b z=>absurd z (by simp)),r,q⟩
end
def tCall (sp:Sp) (dvs:List V) (E:XK) (t:TA):TE:=fun σ H Q=>t σ H fun vs H1=>sp (vs++dvs) H1 Q E
def Binds (K:PySem.W.Frag) (fd:FuncData) (ps:List Str) (ds:List Value):Prop:=
  ∀ (s:Shared) (us:List Value),K.In s.heap→(us++ds).length=ps.length→BindsTo s fd ⟨us,[]⟩ (ps.zip (us++ds))
theorem Binds.all {K:PySem.W.Frag} {fd:FuncData} {ps:List Str} (h:∀ us:List Value,us.length=ps.length→bindArgs fd ⟨us,[]⟩=pure (ps.zip us)):Binds K fd ps []:=fun s us _ hl=>by
  rw [List.append_nil] at hl ⊢
  exact .of_eq (h us hl)
def Passes (CX:CXT) (X:Cx) (E:XK):Prop:=∀ (pins:List (Addr × Obj)) (σ:St) (H:Hp) (s:Shared) (e:Value) (s':Shared),Inv X pins σ H s→CX X.stack H s E e s'→X.xe e s'
section
variable {X:Cx} {CX:CXT} {k:Nat} {f C:Addr} {fd:FuncData} {ps:List Str} {sp:Sp} {dvs:List V} {ds:List Value} {E:XK} {x m:Str} {p pos apos:Pos} {e o:Expr} {es:List Expr} {ta:TE} {t:TA}
theorem run_fn {pins:List (Addr × Obj)} {σ:St} {H:Hp} {s:Shared} {Q:VK} {us:List Value} {vs:List V} (F:FnOk X.prog X.w X.K X.mg X.base CX k f fd ps sp) (hr:Room k X.A) (hb:Binds X.K fd ps ds) (hd:Vals dvs ds) (hx:Passes CX X E)
    (I:Inv X pins σ H s) (r:Vals vs us) (h:sp (vs++dvs) H Q E):wpAny (model X.prog X.w) X.A (call (.ref f) us) (EP X pins σ Q) X.xe s:=by
  have r2:Vals (vs++dvs) (us++ds):=r.append hd
  have hl:(us++ds).length=ps.length:=by rw [← r2.length];exact F.len _ _ _ _ h
  refine wpAny_call (codeAny_mono (F.run X.A X.stack s H ⟨us,[]⟩ (us++ds) (vs++dvs) Q E hr I.env0 (hb s us I.kIn hl) r2 h) fun r s' hq=>?_)
  cases r with
  | error e=>exact hx pins σ H s e s' I hq
  | ok fl=>
    cases fl with
    | ret u=>exact I.after hq
    | next=>exact False.elim hq
    | brk=>exact False.elim hq
    | cont=>exact False.elim hq
theorem pe_call (F:FnOk X.prog X.w X.K X.mg X.base CX k f fd ps sp) (hr:Room k X.A) (hg:Gl X x) (hm:X.mg x=some (.ref f)) (hk:PySem.W.keepIn X.K (.ref f)=true) (hb:Binds X.K fd ps ds) (hd:Vals dvs ds) (hx:Passes CX X E)
    (ha:PA X (e :: es) t) (hdb:(x == ("__debug__" : Str))=false:=by decide) (he:starEach (e :: es) X.env=(false,eval e X.env) :: starEach es X.env:=by rfl) (hpl:(backTo pos (starEach es X.env)).any (·.1)=false:=by rfl) :
    PE X (.Call (.Name x p) (e :: es) [] pos) (tCall sp dvs E t):=by
  intro pins s σ H Q I h
  refine wpAny_Call_Name_kw (ld_glob I hg hm ?_ hdb)
  refine PySem.W.callWith_K (h₀:=X.base) I.ok.mod.kin hk (thn (ha pos pins s σ H _ I h) fun us s1 ⟨vs,H1,I1,r,q⟩=>⟨I1.kIn,?_⟩) he hpl
  exact run_fn F hr hb hd hx I1 r q
end
section
variable {X:Cx} {CX:CXT} {k:Nat} {f C:Addr} {fd:FuncData} {ps ks:List Str} {sp:Sp} {E:XK} {x m:Str} {p pos apos kpos:Pos} {e o:Expr} {es:List Expr} {kws:List Keyword} {te ta:TE} {t tk:TA} {nm:Option Str}
variable {g:List Value→List Value→List Value} {gV:List V→List V→List V}
end
structure FnScope (N P:List Str) (sc:Scope):Prop where
  kind:sc.kind=.function
  co:sc.isCoroutine=false
  gen:sc.isGenerator=false
  nd:N.Nodup
  pre:N.take P.length=P
  par:∀ x∈P,sc.names.lookup x=some .local∨sc.names.lookup x=some .cell
  nofree:∀ y∈sc.names,y.2≠.free
theorem bindL_out {kindOf:Str→Option NameKind} {x:Str}:∀ {binds:List (Str × Value)} {m:Str→Option Value},(∀ v,(x,v) ∉ binds)→bindL kindOf binds m x=m x
  | [],_,_=>rfl
  | (n,v) :: r,m,h=>by
    unfold bindL
    rw [bindL_out fun w hw=>h w (List.mem_cons_of_mem _ hw)]
    split
    · have:x≠n:=by rintro rfl;exact h v List.mem_cons_self
      simp [this]
    · rfl
theorem bindC_out {kindOf:Str→Option NameKind} {x:Str}:∀ {binds:List (Str × Value)} {m:Str→Option Value},(∀ v,(x,v) ∉ binds)→bindC kindOf binds m x=m x
  | [],_,_=>rfl
  | (n,v) :: r,m,h=>by
    unfold bindC
    rw [bindC_out fun w hw=>h w (List.mem_cons_of_mem _ hw)]
    split
    · rfl
    · have:x≠n:=by rintro rfl;exact h v List.mem_cons_self
      simp [this]
theorem bindL_get {kindOf:Str→Option NameKind} {x:Str} {v:Value}:∀ {P:List Str} {vs:List Value} {i:Nat} {m:Str→Option Value},P.Nodup→P[i]?=some x→vs[i]?=some v→kindOf x=some .local →
    bindL kindOf (P.zip vs) m x=some v
  | [],_,_,_,_,h,_,_=>by simp at h
  | _ :: _,[],_,_,_,_,h,_=>by simp at h
  | p :: P,w :: vs,0,m,nd,h1,h2,hk=>by
    simp at h1 h2;subst h1;subst h2
    show bindL kindOf ((p,w) :: P.zip vs) m p=_
    unfold bindL
    rw [bindL_out fun v hv=>(List.nodup_cons.mp nd).1 (List.of_mem_zip hv).1,if_pos hk]
    simp
  | p :: P,w :: vs,i+1,m,nd,h1,h2,hk=>by
    show bindL kindOf ((p,w) :: P.zip vs) m x=_
    unfold bindL
    exact bindL_get (i:=i) (List.nodup_cons.mp nd).2 (by simpa using h1) (by simpa using h2) hk
theorem bindC_get {kindOf:Str→Option NameKind} {x:Str} {v:Value}:∀ {P:List Str} {vs:List Value} {i:Nat} {m:Str→Option Value},P.Nodup→P[i]?=some x→vs[i]?=some v→kindOf x≠some .local →
    bindC kindOf (P.zip vs) m x=some v
  | [],_,_,_,_,h,_,_=>by simp at h
  | _ :: _,[],_,_,_,_,h,_=>by simp at h
  | p :: P,w :: vs,0,m,nd,h1,h2,hk=>by
    simp at h1 h2;subst h1;subst h2
    show bindC kindOf ((p,w) :: P.zip vs) m p=_
    unfold bindC
    rw [bindC_out fun v hv=>(List.nodup_cons.mp nd).1 (List.of_mem_zip hv).1,if_neg hk]
    simp
  | p :: P,w :: vs,i+1,m,nd,h1,h2,hk=>by
    show bindC kindOf ((p,w) :: P.zip vs) m x=_
    unfold bindC
    exact bindC_get (i:=i) (List.nodup_cons.mp nd).2 (by simpa using h1) (by simpa using h2) hk
def start (N:List Str) (vs:List V):St:=vs.map some++List.replicate (N.length - vs.length) none
def cxOf (CX:CXT) (P:Program) (w:World) (K:PySem.W.Frag) (mg:Str→Option Value) (base:Heap) (N:List Str) (qual:Str) (scope:Scope) (f:Addr) (cd:Value) (A:Around) (outer:List Env) (s:Shared) (H:Hp) (E:XK):Cx where
  prog:=P
  w:=w
  K:=K
  mg:=mg
  base:=base
  A:=A.deeper (envOfC qual scope s.heap.objs.size f cd)
  N:=N
  s₀:=s
  H₀:=H
  env:=envOfC qual scope s.heap.objs.size f cd
  outer:=outer
  stack:=envOfC qual scope s.heap.objs.size f cd :: outer
  ex:=[]
  calm:=true
  fn:=fun _=>true
  pn:=[]
  xe:=fun e s'=>wpAny (model P w) (A.deeper (envOfC qual scope s.heap.objs.size f cd)) (leaving (envOfC qual scope s.heap.objs.size f cd) e) (fun _ s''=>CX outer H s E e s'') (fun e' s''=>CX outer H s E e' s'') s'
theorem cell_has {sc:Scope} {n:Nat} {x:Str} (h:sc.names.lookup x=some .cell):∃ c,(cellsFrom n sc.names []).lookup x=some c:=by
  have q:=PySem.W.cellsFrom_some sc.names n [] (.inl h)
  exact Option.isSome_iff_exists.mp q
theorem inv_start {CX:CXT} {P:Program} {w:World} {K:PySem.W.Frag} {mg:Str→Option Value} {base:Heap} {N ps:List Str} {qual:Str} {scope:Scope} {f:Addr} {cd:Value} {A:Around} {outer:List Env} {s s1:Shared} {H:Hp} {E:XK} {us:List Value} {vs:List V}
    (S:FnScope N ps scope) (hd:A.handled=none) (e0:Env0 P w K mg base A outer s H) (hl:vs.length=ps.length) (r:Vals vs us)
    (x:InCallC s s.heap.objs.size (bindL (envOfC qual scope s.heap.objs.size f cd).kindOf (ps.zip us) fun _=>none) (cellsFrom (s.heap.objs.size+1) scope.names []) (bindC (envOfC qual scope s.heap.objs.size f cd).kindOf (ps.zip us) fun _=>none) s1) :
    Inv (cxOf CX P w K mg base N qual scope f cd A outer s H E) [] (start N vs) H s1:=by
  have hpl:ps.length≤N.length:=by have:=congrArg List.length S.pre;rw [List.length_take] at this;omega
  obtain ⟨h1,tk,rfl,hk⟩:=x.done
  have noA:∀ b:Addr,b ∉ (cxOf CX P w K mg base N qual scope f cd A outer s H E).ex:=fun b z=>absurd (show b∈([]:List Addr) from z) (by simp)
  refine ⟨⟨e0.mod,S.kind,rfl,rfl,Nat.le_refl _,fun y z c h1 h2=>?_,fun y hy=>?_,fun y c _ h=>?_,fun _=>hd,Around.frames_deeper e0.frames,.inr ⟨rfl,rfl⟩,fun b z=>absurd z (noA b),e0.bs,e0.bsz,fun b _ _=>noA b,fun b z=>absurd z (noA b),e0.funs,e0.frf⟩,
    rfl,e0.bare,Un.kept hk,⟨_,x.toInCall.ns,fun i y v h1 h2 h3=>?_⟩,fun y c h=>⟨_,x.cell y c h⟩,e0.hok.fresh (Nat.le_refl _),fun y c h=>?_,fun p hp=>absurd (show p∈([]:List (Addr × Obj)) from hp) (by simp),e0.hok.kept hk,?_⟩
  · exact name_of_addr x.apart (PySem.mem_of_lookup h1) (PySem.mem_of_lookup h2)
  · have hy:scope.names.lookup y=some .cell∨scope.names.lookup y=some .free:=hy
    rcases hy with hy | hy
    · exact cell_has hy
    · exact absurd rfl (S.nofree _ (PySem.mem_of_lookup hy))
  · exact Nat.le_of_lt (x.above y c (PySem.mem_of_lookup h))
  · have hi:i < vs.length:=by
      unfold start at h2
      by_cases hi:i < vs.length
      · exact hi
      · rw [List.getElem?_append_right (by simpa using hi)] at h2
        rw [List.getElem?_replicate] at h2
        split at h2 <;> cases h2
    have ha:vs[i]?=some v:=by
      unfold start at h2
      rw [List.getElem?_append_left (by simpa using hi),List.getElem?_map] at h2
      cases e:vs[i]? with
      | none=>rw [e] at h2;cases h2
      | some a=>rw [e] at h2;cases h2;rfl
    obtain ⟨u,hu,rv⟩:=r.get ha
    have hp:ps[i]?=some y:=by
      rw [← S.pre,List.getElem?_take_of_lt (by omega)];exact h1
    have ndP:ps.Nodup:=by rw [← S.pre];exact S.nd.sublist (List.take_sublist _ _)
    refine ⟨u,rv,?_⟩
    rcases S.par y (List.mem_of_getElem? hp) with k | k
    · exact .inl ⟨k,bindL_get ndP hp hu k⟩
    · obtain ⟨c,e⟩:=cell_has (n:=s.heap.objs.size+1) k
      refine .inr ⟨.inl k,c,e,?_⟩
      have q:=x.cell y c e
      rw [bindC_get ndP hp hu (by show scope.names.lookup y≠_;rw [k];decide)] at q
      exact q
  · exact e0.hok.fresh (Nat.le_of_lt (x.above y c (PySem.mem_of_lookup h)))
  · unfold start
    show _=N.length
    rw [List.length_append,List.length_map,List.length_replicate]
    omega
theorem fn_of {CX:CXT} {P:Program} {w:World} {K:PySem.W.Frag} {mg:Str→Option Value} {base:Heap} {k:Nat} {f:Addr} {name qual:Str} {params:Arguments} {body:List Stmt} {scope:Scope} {dV kV doc pm cdv ct oc:Value} {an od:Option Addr}
    {osl:Array (Option Value)} {N ps:List Str} {sp:Sp} (lk:K.lookup f=some ⟨oc,od,.func (PySem.W.fnOf name qual params body scope dV kV doc pm an cdv ct),osl⟩) (hcd:PySem.W.codeIn K cdv qual=true) (S:FnScope N ps scope)
    (len:∀ vs H Q E,sp vs H Q E→vs.length=ps.length)
    (hbody:∀ (A:Around) (outer:List Env) (s:Shared) (H:Hp) (vs:List V) (Q:VK) (E:XK),Room k (A.deeper (envOfC qual scope s.heap.objs.size f cdv))→sp vs H Q E →
      ∃ t,PSs (cxOf CX P w K mg base N qual scope f cdv A outer s H E) body t∧t { nx:=fun _ H'=>Q .non H',rt:=Q } (start N vs) H) :
    FnOk P w K mg base CX (k+1) f (PySem.W.fnOf name qual params body scope dV kV doc pm an cdv ct) ps sp:=by
  refine ⟨len,fun A outer s H args us vs Q E hr e0 hb r hsp=>?_⟩
  have hl:=len _ _ _ _ hsp
  have KX:K.In s.heap:=e0.mod.kin.keeps fun b o e=>(e0.bs b o e).1
  have lim:s.heap.NoLimit:=e0.mod.nolimit.keeps fun b o e=>(e0.bs b o e).1
  have hkind:∀ y∈ps.zip us,scope.names.lookup y.1=some .local∨(scope.names.lookup y.1=some .cell∧((cellsFrom (s.heap.objs.size+1) scope.names []).lookup y.1).isSome=true):=fun ⟨n,v⟩ hy=>by
    rcases S.par n (List.of_mem_zip hy).1 with q | q
    · exact .inl q
    · exact .inr ⟨q,PySem.W.cellsFrom_some _ _ _ (.inl q)⟩
  refine codeAny_call_function hr.depth (KX _ _ lk) rfl S.co S.gen rfl (PySem.W.codeRec_of KX hcd) (hb _ _ _ _ ?_)
  refine wpAny_newFunctionEnv_cells S.kind hkind fun env he s1 x=>?_
  subst he
  refine ⟨lim.keeps x.toInCall.keep,codeAny_func ?_⟩
  obtain ⟨t,ht,hq⟩:=hbody A outer s H vs Q E (hr.deeper _) hsp
  have I:Inv (cxOf CX P w K mg base N qual scope f cdv A outer s H E) [] (start N vs) H s1:=inv_start S hr.hd e0 hl r x
  refine wpAny_mono (ht [] s1 (start N vs) H _ I hq) (fun fl s' hs=>?_) fun e s' hs=>hs
  have fin:∀ {σ':St} {H':Hp} {v:V} {u:Value},Inv (cxOf CX P w K mg base N qual scope f cdv A outer s H E) [] σ' H' s'→RelV v u→Q v H'→CE outer P w H s Q u s':=
    fun {σ' H' v u} J rv q=>⟨v,H',J.os,J.bare,J.base,J.hok,rv,q⟩
  cases fl with
  | ret u=>
    obtain ⟨v,σ',H',J,rv,q⟩:=hs
    exact fin J rv q
  | next=>
    obtain ⟨σ',H',J,q⟩:=hs
    exact fin (v:=V.non) (u:=Value.none) J rfl q
  | brk=>
    obtain ⟨_,_,_,q⟩:=hs
    exact False.elim q
  | cont=>
    obtain ⟨_,_,_,q⟩:=hs
    exact False.elim q
end L2
namespace L2
open PySem PySem.Spec PyProof.Rows
section
variable {X:Cx} {x:Str} {p pos:Pos} {e:Expr} {es:List Expr} {t:TA} {id T:String} {r:List V→Hp→VK→Prop}
def tCB (r:List V→Hp→VK→Prop) (t:TA):TE:=fun σ H Q=>t σ H fun vs H1=>r vs H1 Q
theorem pe_callB (hc:CallR X (.builtin id) r) (hg:Gl X x) (hm:X.mg x=none) (hv:bootBuiltins x=some (.builtin id)) (ha:PA X (e :: es) t) (hn:x ≠ "__name__" := by decide) (hdb:(x == ("__debug__" : Str))=false:=by decide)
    (he:starEach (e :: es) X.env=(false,eval e X.env) :: starEach es X.env:=by rfl) (hpl:(backTo pos (starEach es X.env)).any (·.1)=false:=by rfl):PE X (.Call (.Name x p) (e :: es) [] pos) (tCB r t):=by
  intro pins s σ H Q I h
  refine wpAny_Call_Name_kw (ld_blt I hg hm hv ?_ hn hdb)
  exact PyProof.Rows.callWith_builtin1 (thn (ha pos pins s σ H _ I h) fun us s1 ⟨vs,H1,I1,r1,q1⟩=>hc pins s1 σ H1 vs us Q I1 r1 q1) he hpl
theorem pe_callTy (hc:CallR X (.type T) r) (hg:Gl X x) (hm:X.mg x=none) (hv:bootBuiltins x=some (.type T)) (ha:PA X (e :: es) t) (hn:x ≠ "__name__" := by decide) (hdb:(x == ("__debug__" : Str))=false:=by decide)
    (he:starEach (e :: es) X.env=(false,eval e X.env) :: starEach es X.env:=by rfl) (hpl:(backTo pos (starEach es X.env)).any (·.1)=false:=by rfl):PE X (.Call (.Name x p) (e :: es) [] pos) (tCB r t):=by
  intro pins s σ H Q I h
  refine wpAny_Call_Name_kw (ld_blt I hg hm hv ?_ hn hdb)
  exact PyProof.Rows.callWith_type1 (thn (ha pos pins s σ H _ I h) fun us s1 ⟨vs,H1,I1,r1,q1⟩=>hc pins s1 σ H1 vs us Q I1 r1 q1) he hpl
end
end L2
namespace HT
open PySem PyProof.Rows
section
open PySem.SeqAt
open PySem.AutoSeq1 (wpAny_loadPart')
open PySem.MeetsSeq PySem.MeetsSeq2 PySem.MeetsSeq3
end
section
variable {prog:Program} {w:World} {A:Around} {E:Value→Shared→Prop} {s:Shared}
theorem cat_tup {t b:Addr} {vs ws:List Value} {Q:Value→Shared→Prop} (ht:IsTup s.heap t vs.toArray) (hb:IsTup s.heap b ws.toArray) (hv:vs≠[])
    (h1:ws=[]→Q (.ref t) s) (h2:ws≠[]→Q (.ref s.heap.objs.size) { s with heap:=s.heap.push { cls:=.type "tuple", data:=.seq (vs++ws).toArray } })
    (hsz:vs.length+ws.length≤sizeLine):wpAny (model prog w) A (binaryOp .Add (.ref t) (.ref b)) Q E s:=by
  obtain ⟨⟨cls,dd,data,sl⟩,ho,hc,n,hd⟩:=id ht
  obtain ⟨⟨cls2,dd2,data2,sl2⟩,ho2,hc2,n2,hd2⟩:=id hb
  simp only at hc hd hc2 hd2
  subst hc hd hc2 hd2
  have e:vs.toArray++ws.toArray=(vs++ws).toArray:=by simp
  by_cases hw:ws=[]
  · exact concat_meets ⟨_,ho,rfl⟩ ⟨_,ho2,rfl⟩ noFill_tuple_add seq_tuple_add PySem.F.slot_tuple_add PySem.F.entry_tuple_add (PySem.F.args_tuple_add_2 _ _)
      (tuple_addW1 t b vs.toArray ws.toArray n n2 dd dd2 sl sl2 (by simpa using hv) (by simp [hw])) ⟨ho,ho2,h1 hw⟩
  · refine concat_meets ⟨_,ho,rfl⟩ ⟨_,ho2,rfl⟩ noFill_tuple_add seq_tuple_add PySem.F.slot_tuple_add PySem.F.entry_tuple_add (PySem.F.args_tuple_add_2 _ _)
      (tuple_addW2 t b vs.toArray ws.toArray n n2 dd dd2 sl sl2 (by simpa using hv) (by simpa using hw) (by rw [List.size_toArray,List.size_toArray];exact hsz)) ⟨ho,ho2,?_⟩
    rw [e]
    exact h2 hw
def sIx (n d:Nat):Option Int→Nat
  | none=>d
  | some v=>if v < 0 then (v+(n:Int)).toNat else min v.toNat n
theorem sIx_none (n d:Nat):sIx n d none=d:=rfl
theorem sIx_nat (n d k:Nat):sIx n d (some (k:Int))=min k n:=by
  show (if (k:Int) < 0 then ((k:Int)+(n:Int)).toNat else min (k:Int).toNat n)=min k n
  rw [if_neg (by omega),Int.toNat_natCast]
theorem sIx_le (n d:Nat) (hd:d≤n) (o:Option Int):sIx n d o≤n:=by
  cases o with
  | none=>exact hd
  | some v=>
    show (if v < 0 then (v+(n:Int)).toNat else min v.toNat n)≤n
    by_cases hv:v < 0
    · rw [if_pos hv];omega
    · rw [if_neg hv];exact Nat.min_le_right _ _
theorem clip_eq (v:Int) (n d:Nat):(if v < 0 then max (v+(n:Int)) 0 else min v (n:Int))=((sIx n d (some v):Nat):Int):=by
  show (if v < 0 then max (v+(n:Int)) 0 else min v (n:Int))=(((if v < 0 then (v+(n:Int)).toNat else min v.toNat n):Nat):Int)
  by_cases hv:v < 0
  · simp only [if_pos hv];omega
  · simp only [if_neg hv];omega
theorem adjust_gen (lo hi:Option Int) (n:Nat):Builtin.Slice.sliceAdjust lo hi 1 (n:Int)=(((sIx n 0 lo:Nat):Int),((sIx n n hi:Nat):Int)):=by
  have h1:¬ ((1:Int) < 0):=by omega
  unfold Builtin.Slice.sliceAdjust
  simp only [h1,if_false]
  refine Prod.ext ?_ ?_
  · cases lo with
    | none=>rfl
    | some v=>exact clip_eq v n 0
  · cases hi with
    | none=>rfl
    | some v=>exact clip_eq v n n
theorem places_gen (i j:Nat):Builtin.Slice.slicePlaces (i:Int) (j:Int) 1=j - i:=by
  unfold Builtin.Slice.slicePlaces
  have h1:(1:Int) > 0:=by omega
  simp only [h1,if_true,Int.ediv_one]
  split <;> omega
theorem slicePart_ {v:Value} {o:Option Int} {Q:Option Int→Shared→Prop} (p:IsPart v o) (h:Q o s):wpAny (model prog w) A (Builtin.Slice.slicePartIndex v) Q E s:=by
  cases p with
  | none=>exact slicePart_none h
  | int i t=>exact slicePart_int h
theorem sliceApplied_gen {sl:Addr} {vl vu:Value} {lo hi:Option Int} {n:Nat} {Q:Int × Int × Nat→Shared→Prop} (hs:s.heap.IsSliceOf sl vl vu .none) (pl:IsPart vl lo) (pu:IsPart vu hi)
    (h:Q (((sIx n 0 lo:Nat):Int),1,sIx n n hi - sIx n 0 lo) s):wpAny (model prog w) A (Builtin.Slice.sliceApplied (.ref sl) (pure (n:Int))) Q E s:=by
  obtain ⟨os,hos,hcs,hds⟩:=id hs
  unfold Builtin.Slice.sliceApplied Builtin.Slice.sliceFields
  refine wpAny_bind (wpAny_bind (wpAny_field hos hds (x:=vl) rfl (wpAny_bind (wpAny_field hos hds (x:=vu) rfl (wpAny_bind (wpAny_field hos hds (x:=.none) rfl (wpAny_pure ?_)))))))
  refine wpAny_bind (slicePart_none ?_)
  show wpAny _ _ (if ((1:Int) == 0)=true then _ else _) _ _ s
  rw [if_neg (by decide)]
  refine wpAny_bind (slicePart_ pl (wpAny_bind (slicePart_ pu (wpAny_bind (wpAny_pure ?_)))))
  show wpAny _ _ (match Builtin.Slice.sliceAdjust lo hi 1 (n:Int) with | (lo,hi)=>pure (lo,(1:Int),Builtin.Slice.slicePlaces lo hi 1)) _ _ s
  rw [adjust_gen lo hi n]
  show wpAny _ _ (pure (((sIx n 0 lo:Nat):Int),(1:Int),Builtin.Slice.slicePlaces ((sIx n 0 lo:Nat):Int) ((sIx n n hi:Nat):Int) 1)) _ _ s
  rw [places_gen]
  exact wpAny_pure h
theorem pick_gen (xs:Array Value) (i k:Nat):((List.range k).filterMap fun (m:Nat)=>xs[((i:Int)+(m:Int) * 1).toNat]?).toArray=((xs.toList.drop i).take k).toArray:=by
  have e:(fun (m:Nat)=>xs[((i:Int)+(m:Int) * 1).toNat]?)=fun m=>xs[i+m]?:=by
    funext m
    have:((i:Int)+(m:Int) * 1).toNat=i+m:=by omega
    rw [this]
  rw [e]
  have:=pick_run xs i k
  rw [List.filterMap_map] at this
  have e2:((fun x=>xs[x]?) ∘ fun x=>i+x)=fun m=>xs[i+m]?:=rfl
  rw [e2] at this
  rw [this]
theorem getItem_tuple_cut {t sl:Addr} {items:Array Value} {vl vu:Value} {lo hi:Option Int} {Q:Value→Shared→Prop} (ht:IsTup s.heap t items) (hs:s.heap.IsSliceOf sl vl vu .none) (pl:IsPart vl lo) (pu:IsPart vu hi)
    (hw:¬ (sIx items.size 0 lo=0∧sIx items.size items.size hi=items.size))
    (h:Q (.ref s.heap.objs.size) { s with heap:=s.heap.push { cls:=.type "tuple", data:=.seq ((items.toList.drop (sIx items.size 0 lo)).take (sIx items.size items.size hi - sIx items.size 0 lo)).toArray } })
    (hsz:items.size≤sizeLine):wpAny (model prog w) A (getItem (.ref t) (.ref sl)) Q E s:=by
  have htake:sizeOk (.seq ((items.toList.drop (sIx items.size 0 lo)).take (sIx items.size items.size hi - sIx items.size 0 lo)).toArray):=by
    show ((items.toList.drop (sIx items.size 0 lo)).take (sIx items.size items.size hi - sIx items.size 0 lo)).toArray.size≤sizeLine
    rw [List.size_toArray,List.length_take,List.length_drop,Array.length_toList]
    omega
  have hj:sIx items.size items.size hi≤items.size:=sIx_le _ _ (Nat.le_refl _) hi
  obtain ⟨os,hos,hcs,hds⟩:=id hs
  have hTs:s.TypeIs (.ref sl) "slice" := ⟨os,hos,hcs⟩
  unfold getItem
  try with_reducible refine wpAny_holding ?_
  first | refine wpAny_bind (wpAny_pure ?_) | skip
  refine wpAny_bind (wpAny_sequenceKey ht.typeIs (by decide) ?_)
  refine wpAny_bind (wpAny_callSpecial?_slot (name:=Str.ofString "__getitem__") ht.typeIs PyProof.Rows.slot_tuple_getitem
    (wpAny_call_entry PyProof.Rows.slot_tuple_getitem ht.typeIs entry_tuple_getitem ?_ (args_tuple_getitem _ _)))
  show wpAny _ _ (Builtin.Tuple.tupleItemsOf (.ref t) >>= _) _ _ s
  refine wpAny_bind (tupleItemsOf_ ht ?_)
  refine wpAny_bind (wpAny_typeOf hTs ?_)
  rw [if_pos (by decide)]
  refine wpAny_bind (sliceApplied_gen hs pl pu ?_)
  have hno:¬ ((((sIx items.size 0 lo:Nat):Int) == 0 && (1:Int) == 1 && (sIx items.size items.size hi - sIx items.size 0 lo) == items.size)=true):=by
    intro q
    rw [Bool.and_eq_true,Bool.and_eq_true] at q
    have q1:((sIx items.size 0 lo:Nat):Int)=0:=eq_of_beq q.1.1
    have q2:sIx items.size items.size hi - sIx items.size 0 lo=items.size:=eq_of_beq q.2
    exact hw ⟨by omega,by omega⟩
  show wpAny _ _ (if (((sIx items.size 0 lo:Nat):Int) == 0 && (1:Int) == 1 && (sIx items.size items.size hi - sIx items.size 0 lo) == items.size)=true then _ else _) _ _ s
  rw [if_neg hno,pick_gen]
  first
    | exact wpAny_bind (m:=Builtin.Tuple.tupleExact _) (wpAny_newObj_type (wpAny_pure ⟨_,rfl,wpAny_pure h⟩) htake)
    | exact wpAny_bind (m:=Builtin.Tuple.tupleExact _) (wpAny_newObj_type (wpAny_bind (wpAny_pure (wpAny_pure ⟨_,rfl,wpAny_pure h⟩))) htake)
    | exact wpAny_bind (wpAny_bind (m:=Builtin.Tuple.tupleExact _) (wpAny_newObj_type (wpAny_pure (wpAny_pure ⟨_,rfl,wpAny_pure h⟩)) htake))
    | exact wpAny_bind (wpAny_bind (m:=Builtin.Tuple.tupleExact _) (wpAny_newObj_type (wpAny_pure ⟨_,rfl,wpAny_pure h⟩) htake))
end
end HT
namespace L2
open PySem PySem.Spec PyProof.Rows
abbrev TO:=St→Hp→(Option Int→Hp→Prop)→Prop
def PO (X:Cx) (e:Option Expr) (t:TO):Prop:=
  ∀ (pins:List (Addr × Obj)) (s:Shared) (σ:St) (H:Hp) (Q:Option Int→Hp→Prop),Inv X pins σ H s→t σ H Q →
    wpAny (model X.prog X.w) X.A (evalPart e X.env) (fun u s'=>∃ o H',Inv X pins σ H' s'∧IsPart u o∧Q o H') X.xe s
def tNoPart:TO:=fun _ H Q=>Q none H
def tPart (t:TE):TO:=fun σ H Q=>t σ H fun x H1=>∃ i,x=.int i∧Q (some i) H1
section
variable {X:Cx} {e:Expr} {te:TE} {lo hi:Option Expr} {tl th:TO} {pos p2:Pos}
theorem po_none:PO X none tNoPart:=by
  intro pins s σ H Q I h
  rw [evalPart_none]
  exact wpAny_pure ⟨none,H,I,.none,h⟩
theorem po_some (h:PE X e te):PO X (some e) (tPart te):=by
  intro pins s σ H Q I hw
  rw [evalPart_some]
  refine thn (h pins s σ H _ I hw) fun u s1 ⟨x,H1,I1,r1,q1⟩=>?_
  obtain ⟨i,rfl,q⟩:=q1
  obtain ⟨t,rfl⟩:=r1
  exact ⟨some i,H1,I1,.int i t,q⟩
def SlR (X:Cx) (r:V→Option Int→Option Int→Hp→VK→Prop):Prop:=
  ∀ (pins:List (Addr × Obj)) (s:Shared) (σ:St) (H:Hp) (x:V) (v vl vu:Value) (lo hi:Option Int) (sl:Addr) (Q:VK),Inv X pins σ H s→RelV x v→s.heap.IsSliceOf sl vl vu .none→IsPart vl lo→IsPart vu hi→r x lo hi H Q →
    ∃ T id,typeLookup (.type T) "__getitem__" = pure (some (.builtin id))∧s.TypeIs v T∧wpAny (model X.prog X.w) X.A (getItem v (.ref sl)) (EP X pins σ Q) X.xe s
def tSl (r:V→Option Int→Option Int→Hp→VK→Prop) (te:TE) (tl th:TO):TE:=fun σ H Q=>te σ H fun x H1=>tl σ H1 fun l H2=>th σ H2 fun u H3=>r x l u H3 Q
theorem pe_slice {r:V→Option Int→Option Int→Hp→VK→Prop} (hr:SlR X r) (he:PE X e te) (hl:PO X lo tl) (hu:PO X hi th):PE X (.Subscript e (.Slice lo hi none p2) pos) (tSl r te tl th):=by
  intro pins s σ H Q I h
  refine Subscript_ (thn (he pins s σ H _ I h) fun v s1 ⟨x,H1,I1,r1,q1⟩=>?_)
  refine wpAny_Slice (thn (hl pins s1 σ H1 _ I1 q1) fun vl s2 ⟨l,H2,I2,pl,q2⟩=>thn (hu pins s2 σ H2 _ I2 q2) fun vu s3 ⟨u,H3,I3,pu,q3⟩=>?_)
  rw [evalPart_none]
  refine wpAny_pure ?_
  have I4:Inv X pins σ H3 { s3 with heap:=s3.heap.push { cls:=.type "slice", data:=.fields #[vl,vu,.none] } }:=I3.kept (t':=s3.toks) fun b ob q=>Heap.get?_push_of_some _ q
  obtain ⟨T,id,hT,ht,hg⟩:=hr pins { s3 with heap:=s3.heap.push { cls:=.type "slice", data:=.fields #[vl,vu,.none] } } σ H3 x v vl vu l u s3.heap.objs.size Q I4 r1 (Heap.IsSliceOf.new ..) pl pu q3
  show wpAny (model X.prog X.w) X.A (subscriptTail e (.Slice lo hi none p2) v (.ref s3.heap.objs.size)) (EP X pins σ Q) X.xe { s3 with heap:=s3.heap.push { cls:=.type "slice", data:=.fields #[vl,vu,.none] } }
  exact tail_any (ops:=[.ref s3.heap.objs.size,v]) ht hT hg (by with_unfolding_all rfl)
def cutV (xs:List V) (lo hi:Option Int):List V:=(xs.drop (HT.sIx xs.length 0 lo)).take (HT.sIx xs.length xs.length hi - HT.sIx xs.length 0 lo)
theorem cutV_length (xs:List V) (lo hi:Option Int):(cutV xs lo hi).length≤xs.length:=by
  unfold cutV
  rw [List.length_take,List.length_drop]
  omega
def rSlT (K:PySem.W.Frag):V→Option Int→Option Int→Hp→VK→Prop:=fun x lo hi H Q=>∃ a xs,x=.ref a∧SqT K H a xs ∧
  ¬ (HT.sIx xs.length 0 lo=0∧HT.sIx xs.length xs.length hi=xs.length)∧∀ p,H p=none→Q (.ref p) (upd H p (.tup (cutV xs lo hi)))
theorem sl_tup:SlR X (rSlT X.K):=by
  intro pins s σ H x v vl vu lo hi sl Q I rx hs pl pu h
  obtain ⟨a,xs,rfl,hx,hw,q⟩:=h
  cases rx
  obtain ⟨its,r,ht,hz⟩:=I.tuple hx
  have hlen:its.toArray.size=xs.length:=by rw [List.size_toArray];exact r.length.symm
  refine ⟨"tuple", _,PyProof.Rows.slot_tuple_getitem.lookup,ht.typeIs,?_⟩
  refine HT.getItem_tuple_cut ht hs pl pu (by rw [hlen];exact hw) ?_ (by rw [hlen];exact hz)
  rw [hlen]
  refine ⟨.ref s.heap.objs.size,_,I.laid (t':=s.toks) (o:=.tup (cutV xs lo hi)) (fun b ob q=>Heap.get?_push_of_some _ q) (Nat.le_refl _) ?_,rfl,q _ (I.hok.fresh (Nat.le_refl _))⟩
  exact ⟨⟨Nat.le_trans (cutV_length xs lo hi) hz,_,Heap.get?_push_size _ rfl,rfl⟩,_,(r.drop (HT.sIx xs.length 0 lo)).take (HT.sIx xs.length xs.length hi - HT.sIx xs.length 0 lo),IsTup.new _ _⟩
def rCatT (K:PySem.W.Frag):R2:=fun x y H Q=>∃ a b xs ys,x=.ref a∧y=.ref b∧SqT K H a xs∧SqT K H b ys∧xs≠[]∧xs.length+ys.length≤sizeLine ∧
  (ys=[]→Q (.ref a) H)∧(ys≠[]→∀ p,H p=none→Q (.ref p) (upd H p (.tup (xs++ys))))
theorem Vals.nil_iff {xs:List V} {us:List Value} (r:Vals xs us):us=[] ↔ xs=[]:=by
  cases r with
  | nil=>simp
  | cons _ _=>simp
theorem op_catT:OpR X (binaryOp .Add) (rCatT X.K):=by
  intro pins s σ H x y v u Q I rx ry h
  obtain ⟨a,b,xs,ys,rfl,rfl,ha,hb,hx,hz,q1,q2⟩:=h
  cases rx
  cases ry
  obtain ⟨its,r1,p1,_⟩:=I.tuple ha
  obtain ⟨its2,r2,p2,_⟩:=I.tuple hb
  refine HT.cat_tup p1 p2 (fun z=>hx (r1.nil_iff.mp z)) (fun z=>⟨.ref a,H,I,rfl,q1 (r2.nil_iff.mp z)⟩) (fun z=>?_) (by rw [← r1.length,← r2.length];exact hz)
  refine ⟨.ref s.heap.objs.size,_,I.laid (t':=s.toks) (o:=.tup (xs++ys)) (fun b ob q=>Heap.get?_push_of_some _ q) (Nat.le_refl _) ?_,rfl,q2 (fun w=>z (r2.nil_iff.mpr w)) _ (I.hok.fresh (Nat.le_refl _))⟩
  exact ⟨⟨by rw [List.length_append];exact hz,_,Heap.get?_push_size _ rfl,rfl⟩,_,r1.append r2,IsTup.new _ _⟩
end
end L2
namespace L2
open PySem PySem.Spec PyProof.Rows
def ixN (n:Nat) (i:Int):Option Nat:=if 0≤i then (if i < n then some i.toNat else none) else if -(n:Int)≤i then some (i+n).toNat else none
def atI {α:Type} (xs:List α) (i:Int):Option α:=(ixN xs.length i).bind fun j=>xs[j]?
theorem ixN_seq {n:Nat} {i:Int} {j:Nat} (h:ixN n i=some j):seqIndex? i n=some j∧j < n∧-(n:Int)≤i∧i < n:=by
  unfold ixN at h
  by_cases h0:0≤i
  · rw [if_pos h0] at h
    by_cases h1:i < n
    · rw [if_pos h1] at h
      have e:i.toNat=j:=Option.some.inj h
      exact ⟨by rw [seqIndex_of h0 h1,e],by omega,by omega,h1⟩
    · rw [if_neg h1] at h;cases h
  · rw [if_neg h0] at h
    by_cases h1:-(n:Int)≤i
    · rw [if_pos h1] at h
      have e:(i+n).toNat=j:=Option.some.inj h
      exact ⟨by rw [seqIndex_neg (by omega) h1,e],by omega,h1,by omega⟩
    · rw [if_neg h1] at h;cases h
theorem atI_get {α:Type} {xs:List α} {i:Int} {v:α} (h:atI xs i=some v):∃ j,seqIndex? i xs.length=some j∧xs[j]?=some v∧j < xs.length∧-(xs.length:Int)≤i∧i < xs.length:=by
  unfold atI at h
  cases e:ixN xs.length i with
  | none=>rw [e] at h;cases h
  | some j=>
    rw [e] at h
    obtain ⟨h1,h2,h3,h4⟩:=ixN_seq e
    exact ⟨j,h1,h,h2,h3,h4⟩
theorem atI_nat {α:Type} {xs:List α} {j:Nat} {v:α} (h:xs[j]?=some v):atI xs (j:Int)=some v:=by
  have hj:j < xs.length:=(List.getElem?_eq_some_iff.mp h).1
  have e:ixN xs.length (j:Int)=some j:=by
    unfold ixN
    rw [if_pos (by omega),if_pos (by omega)];simp
  unfold atI;rw [e];exact h
def PlainIx (b:Expr):Prop:=∀ o i,subscripted b false o i=operate [o,i] (getItem o i)
def IxR (X:Cx) (r:R2):Prop:=
  ∀ (value slice:Expr) (pins:List (Addr × Obj)) (s:Shared) (σ:St) (H:Hp) (x y:V) (v u:Value) (Q:VK),Inv X pins σ H s→RelV x v→RelV y u→r x y H Q →
    subscripted slice false v u=operate [v,u] (getItem v u)→wpAny (model X.prog X.w) X.A (subscriptTail value slice v u) (EP X pins σ Q) X.xe s
def MtR (X:Cx) (id:String) (r:V→List V→Hp→VK→Prop):Prop:=
  ∀ (pins:List (Addr × Obj)) (s:Shared) (σ:St) (H:Hp) (x:V) (xs:List V) (v:Value) (us:List Value) (Q:VK),Inv X pins σ H s→RelV x v→Vals xs us→r x xs H Q →
    wpAny (model X.prog X.w) X.A (call (.builtin id) (v :: us)) (EP X pins σ Q) X.xe s
section
variable {X:Cx} {a b:Expr} {ta tb:TE} {pos:Pos}
theorem pe_ix {r:R2} (hr:IxR X r) (ha:PE X a ta) (hb:PE X b tb) (hs:PlainIx b):PE X (.Subscript a b pos) (tOp r ta tb):=by
  intro pins s σ H Q I h
  exact Subscript_ (binT ha hb I h fun v u s2 x y H2 I2 rx ry q=>hr a b pins s2 σ H2 x y v u Q I2 rx ry q (hs _ _))
def rIxL (K:PySem.W.Frag):R2:=fun x y H Q=>∃ p xs i v,x=.ref p∧y=.int i∧SqL K H p xs∧atI xs i=some v∧Q v H
def rIxT (K:PySem.W.Frag):R2:=fun x y H Q=>∃ p xs i v,x=.ref p∧y=.int i∧SqT K H p xs∧atI xs i=some v∧Q v H
def rIxS:R2:=fun x y H Q=>∃ z i c,x=.str z∧y=.int i∧z.length≤sizeLine∧atI z.cps.toList i=some c∧Q (.str ⟨#[c]⟩) H
theorem ix_list:IxR X (rIxL X.K):=by
  intro value slice pins s σ H x y v u Q I rx ry h hs
  obtain ⟨p,xs,i,z,rfl,rfl,hq,he,q⟩:=h
  cases rx
  obtain ⟨t,rfl⟩:=ry
  obtain ⟨its,r,pl,hz⟩:=I.list hq
  obtain ⟨j,h1,h2,h3,h4,h5⟩:=atI_get he
  obtain ⟨w,ew,rw'⟩:=r.get h2
  have hl:=r.length
  have hn:=line63
  have fin:EP X pins σ Q w s:=⟨z,H,I,rw',q⟩
  by_cases h0:0≤i
  · have hj:i.toNat=j:=by
      rw [seqIndex_of h0 h5] at h1
      exact Option.some.inj h1
    exact item_listR pl.isList h0 (by omega) (by rw [hj];simpa using ew) fin hs
  · have hj:(i+(its.toArray.size:Int)).toNat=j:=by
      rw [seqIndex_neg (by omega) h4] at h1
      rw [List.size_toArray,← hl]
      exact Option.some.inj h1
    exact subscriptTail_builtinR (x:=w) pl.isList.typeIs slot_list_getitem.lookup
      (wpAny_getItem_list_neg (Q:=fun r s'=>r=w∧EP X pins σ Q r s') pl.isList (by omega) (by rw [List.size_toArray] <;> omega) (by omega) (by rw [hj];simpa using ew) ⟨rfl,fin⟩) hs
theorem ix_tup:IxR X (rIxT X.K):=by
  intro value slice pins s σ H x y v u Q I rx ry h hs
  obtain ⟨p,xs,i,z,rfl,rfl,hq,he,q⟩:=h
  cases rx
  obtain ⟨t,rfl⟩:=ry
  obtain ⟨its,r,pl,hz⟩:=I.tuple hq
  obtain ⟨j,h1,h2,h3,h4,h5⟩:=atI_get he
  obtain ⟨w,ew,rw'⟩:=r.get h2
  have hl:=r.length
  have hn:=line63
  have fin:EP X pins σ Q w s:=⟨z,H,I,rw',q⟩
  exact subscriptTail_builtinR (x:=w) pl.typeIs slot_tuple_getitem.lookup
    (getItem_tuple (j:=j) (Q:=fun r s'=>r=w∧EP X pins σ Q r s') pl (by omega) (by omega) (by rw [List.size_toArray,← hl];exact h1) (by simpa using ew) ⟨rfl,fin⟩) hs
theorem ix_str:IxR X rIxS:=by
  intro value slice pins s σ H x y v u Q I rx ry h hs
  obtain ⟨z,i,c,rfl,rfl,hz,he,q⟩:=h
  obtain ⟨t,rfl⟩:=rx
  obtain ⟨t',rfl⟩:=ry
  obtain ⟨j,h1,h2,h3,h4,h5⟩:=atI_get he
  have hl:z.cps.toList.length=z.length:=by simp [Str.length]
  rw [hl] at h1 h4 h5
  have hn:=line63
  exact tail_any (typeIs_str s z t) slot_str_getitem.lookup (getItem_str (c:=c) (by
    have e1:decide (i < -(2 ^ 63:Int))=false:=decide_eq_false (by omega)
    have e2:decide (i ≥ 2 ^ 63)=false:=decide_eq_false (by omega)
    rw [e1,e2,Bool.or_false]) (by rw [h1];simpa using h2) ⟨.str ⟨#[c]⟩,H,I.tok _,⟨_,rfl⟩,q⟩) hs
theorem mapSeq_set (its:List Value) (n j:Nat) (u:Value):Obj.mapSeq (·.setIfInBounds j u) { cls:=.type "list", data:=.seq its.toArray n }={ cls:=.type "list", data:=.seq (its.set j u).toArray n }:=by
  simp [Obj.mapSeq]
theorem Inv.lst {pins:List (Addr × Obj)} {σ:St} {H:Hp} {s:Shared} {p:Addr} {xs:List V} (I:Inv X pins σ H s) (h:H p=some (.lst xs)) :
    ∃ (its:List Value) (n:Nat),Vals xs its∧s.heap.get? p=some { cls:=.type "list", data:=.seq its.toArray n }∧xs.length≤sizeLine:=by
  obtain ⟨z,its,n,r,e⟩:=I.hok p _ h
  exact ⟨its,n,r,e,z⟩
theorem Inv.lstUpd {pins:List (Addr × Obj)} {σ:St} {H:Hp} {s:Shared} {p:Addr} {xs ys:List V} {its its':List Value} {n n':Nat} {f:Obj→Obj} (I:Inv X pins σ H s) (h:H p=some (.lst xs))
    (ho:s.heap.get? p=some { cls:=.type "list", data:=.seq its.toArray n }) (hf:f { cls:=.type "list", data:=.seq its.toArray n }={ cls:=.type "list", data:=.seq its'.toArray n' }) (r:Vals ys its') (hz:ys.length≤sizeLine) (t:Nat) :
    Inv X pins σ (upd H p (.lst ys)) { s with heap:=s.heap.update p f,toks:=t }:=by
  have e:(s.heap.update p f).get? p=some { cls:=.type "list", data:=.seq its'.toArray n' }:=by
    rw [Heap.get?_update_self f ho (by rw [hf] <;> rfl),hf]
  refine I.write (x:=p) (e:=p) (by rw [h];trivial) (.inl rfl) (fun b u hb q=>(Heap.get?_update_other _ _ (Ne.symm hb)).trans q) ⟨_,e⟩ ?_
  exact ⟨hz,its',n',r,e⟩
def rSetL:V→V→V→Hp→(Hp→Prop)→Prop:=fun o i v H Q=>∃ p xs k j,o=.ref p∧i=.int k∧H p=some (.lst xs)∧ixN xs.length k=some j∧Q (upd H p (.lst (xs.set j v)))
theorem set_list:PSet X rSetL:=by
  intro pins s σ H o i v ov iv u Q I ro ri rv h
  obtain ⟨p,xs,k,j,rfl,rfl,hp,hj,q⟩:=h
  cases ro
  obtain ⟨t,rfl⟩:=ri
  obtain ⟨its,n,r,ho,hz⟩:=I.lst hp
  obtain ⟨h1,h2,h3,h4⟩:=ixN_seq hj
  have hl:=r.length
  have hn:=line63
  have I':Inv X pins σ (upd H p (.lst (xs.set j v))) { s with heap:=s.heap.update p (Obj.mapSeq (·.setIfInBounds j u)) }:=
    I.lstUpd hp ho (mapSeq_set its n j u) (r.set rv j) (by rw [List.length_set];exact hz) s.toks
  by_cases h0:0≤k
  · have hk:k.toNat=j:=by
      rw [seqIndex_of h0 h4] at h1
      exact Option.some.inj h1
    exact PySem.W.ki_setAt ho h0 (by omega) (by rw [List.size_toArray,← hl];exact h4) (by rw [hk];exact ⟨_,I',q⟩)
  · have hk:(k+(its.toArray.size:Int)).toNat=j:=by
      rw [seqIndex_neg (by omega) h3] at h1
      rw [List.size_toArray,← hl]
      exact Option.some.inj h1
    exact PySem.W.ki_setBack ho (by omega) (by rw [List.size_toArray,← hl];exact h3) (by omega) (by rw [hk];exact ⟨_,I',q⟩)
def flatV:V→Bool
  | .non=>true
  | .bl _=>true
  | .int _=>true
  | .str _=>true
  | _=>false
def eqV:V→V→Bool
  | .non,.non=>true
  | .bl a,.bl b=>a == b
  | .bl a,.int b=>(if a then 1 else 0) == b
  | .int a,.bl b=>a == (if b then 1 else 0)
  | .int a,.int b=>a == b
  | .str a,.str b=>a == b
  | _,_=>false
theorem eqAt_V {A:Around} {s:Shared} {y x:V} {u v:Value} (ry:RelV y u) (rx:RelV x v) (fy:flatV y=true) (fx:flatV x=true):SeqAt.EqAt A s u v (eqV y x):=by
  cases y with
  | non=>
    cases ry
    cases x with
    | non=>cases rx;exact SeqAt.EqAt.same _
    | bl b=>cases rx;exact SeqAt.EqAt.none_bool b
    | int b=>obtain ⟨t,rfl⟩:=rx;exact SeqAt.EqAt.none_int b t
    | str b=>obtain ⟨t,rfl⟩:=rx;exact SeqAt.EqAt.none_str b t
    | _=>exact absurd (show false=true from fx) Bool.false_ne_true
  | bl a=>
    cases ry
    cases x with
    | non=>cases rx;exact SeqAt.EqAt.bool_none a
    | bl b=>cases rx;exact SeqAt.EqAt.bool_bool a b
    | int b=>obtain ⟨t,rfl⟩:=rx;exact SeqAt.EqAt.bool_int a b t
    | str b=>obtain ⟨t,rfl⟩:=rx;exact SeqAt.EqAt.bool_str a b t
    | _=>exact absurd (show false=true from fx) Bool.false_ne_true
  | int a=>
    obtain ⟨t',rfl⟩:=ry
    cases x with
    | non=>cases rx;exact SeqAt.EqAt.int_none a t'
    | bl b=>cases rx;exact SeqAt.EqAt.int_bool a t' b
    | int b=>obtain ⟨t,rfl⟩:=rx;exact SeqAt.EqAt.int_int a t' b t
    | str b=>obtain ⟨t,rfl⟩:=rx;exact SeqAt.EqAt.int_str a t' b t
    | _=>exact absurd (show false=true from fx) Bool.false_ne_true
  | str a=>
    obtain ⟨t',rfl⟩:=ry
    cases x with
    | non=>cases rx;exact SeqAt.EqAt.str_none a t'
    | bl b=>cases rx;exact SeqAt.EqAt.str_bool a t' b
    | int b=>obtain ⟨t,rfl⟩:=rx;exact SeqAt.EqAt.str_int a t' b t
    | str b=>obtain ⟨t,rfl⟩:=rx;exact SeqAt.EqAt.str_str a t' b t
    | _=>exact absurd (show false=true from fx) Bool.false_ne_true
  | _=>exact absurd (show false=true from fy) Bool.false_ne_true
theorem call_len_seq:CallR X (.builtin "len") (fun xs H Q=>∃ p ys,xs=[.ref p]∧(SqL X.K H p ys∨SqT X.K H p ys)∧Q (.int ys.length) H):=by
  intro pins s σ H xs us Q I r h
  obtain ⟨p,ys,rfl,hq,q⟩:=h
  obtain ⟨u,rfl,rx⟩:=vals1 r
  cases rx
  have hn:=line63
  rcases hq with hq | hq
  · obtain ⟨its,r',pl,hz⟩:=I.list hq
    have hlen:=r'.length
    exact Calls.call_len_list pl.isList (by simp only [List.size_toArray] <;> omega) ⟨.int ys.length,H,I.tok _,⟨s.toks+1,by rw [List.size_toArray,hlen]⟩,q⟩
  · obtain ⟨its,r',pl,hz⟩:=I.tuple hq
    have hlen:=r'.length
    exact len_tuple pl (by simp only [List.size_toArray] <;> omega) ⟨.int ys.length,H,I.tok _,⟨s.toks+1,by rw [List.size_toArray,hlen]⟩,q⟩
theorem call_tuple_of:CallR X (.type "tuple") (fun xs H Q=>∃ p ys,xs=[.ref p]∧((SqL X.K H p ys∧∀ l,H l=none→Q (.ref l) (upd H l (.tup ys)))∨(SqT X.K H p ys∧Q (.ref p) H))):=by
  intro pins s σ H xs us Q I r h
  obtain ⟨p,ys,rfl,h⟩:=h
  obtain ⟨u,rfl,rx⟩:=vals1 r
  cases rx
  rcases h with ⟨hq,q⟩ | ⟨hq,q⟩
  · obtain ⟨its,r',pl,hz⟩:=I.list hq
    have hlen:=r'.length
    refine call_tuple_list pl.isList (fun h' kp=>?_) (by simp only [List.size_toArray] <;> omega)
    have I1:Inv X pins σ H { s with heap:=h' }:=I.kept (t':=s.toks) kp
    have I2:Inv X pins σ (upd H h'.objs.size (.tup ys)) { s with heap:=h'.push { cls:=.type "tuple", data:=.seq its.toArray } }:=
      I1.laid (t':=s.toks) (fun b o e=>Heap.get?_push_of_some _ e) (Nat.le_refl _) (show ObjOk X.prog X.w _ _ _ (.tup ys) from ⟨⟨hz,_,Heap.get?_push_size _ rfl,rfl⟩,its,r',IsTup.new _ _⟩)
    exact ⟨.ref h'.objs.size,_,I2,rfl,q _ (I1.hok.fresh (Nat.le_refl _))⟩
  · obtain ⟨its,r',pl,hz⟩:=I.tuple hq
    exact call_tuple_same pl ⟨.ref p,H,I,rfl,q⟩
def tyV (K:PySem.W.Frag) (T:String) (x:V) (H:Hp):Prop:=match x with
  | .str _=>T = "str"
  | .int _=>T = "int"
  | .ref p=>(T = "list" ∧ ∃ xs,SqL K H p xs)∨(T = "tuple" ∧ ∃ o,K.lookup p=some o∧o.cls=.type "tuple" ∧ o.dict=none) ∨
      (T = "dict" ∧ ((∃ kvs,H p=some (.dK kvs))∨∃ kvs,H p=some (.dT kvs)))∨(T = "set" ∧ ∃ S n,H p=some (.set S n))
  | _=>False
theorem tyV_is {pins:List (Addr × Obj)} {σ:St} {H:Hp} {s:Shared} {T:String} {x:V} {v:Value} (I:Inv X pins σ H s) (r:RelV x v) (ty:tyV X.K T x H) :
    s.TypeIs v T∧∀ a,v=.ref a→∃ ob,s.heap.get? a=some ob∧ob.dict=none:=by
  cases x with
  | str z=>
    obtain ⟨t,rfl⟩:=r
    cases (show T = "str" from ty)
    exact ⟨typeIs_str s z t,fun _ e=>nomatch e⟩
  | int i=>
    obtain ⟨t,rfl⟩:=r
    cases (show T = "int" from ty)
    exact ⟨typeIs_int s i t,fun _ e=>nomatch e⟩
  | ref p=>
    cases r
    rcases ty with ⟨rfl,xs,hq⟩ | ⟨rfl,o,hk,hc,hd⟩ | ⟨rfl,hk⟩ | ⟨rfl,S,n,hk⟩
    · obtain ⟨its,_,pl,_⟩:=I.list hq
      refine ⟨pl.isList.typeIs,fun a e=>?_⟩
      cases e
      obtain ⟨o,n,e,c,hd,_⟩:=pl
      exact ⟨o,e,hd⟩
    · refine ⟨⟨o,I.kIn p o hk,hc⟩,fun a e=>?_⟩
      cases e
      exact ⟨o,I.kIn _ o hk,hd⟩
    · have z:∃ o,s.heap.get? p=some o∧o.ExactDict:=by
        rcases hk with ⟨kvs,hk⟩ | ⟨kvs,hk⟩
        · obtain ⟨_,_,_,_,o,_,_,e,ex,_⟩:=I.hok p _ hk
          exact ⟨o,e,ex⟩
        · obtain ⟨_,_,_,_,o,_,_,e,ex,_⟩:=I.hok p _ hk
          exact ⟨o,e,ex⟩
      obtain ⟨o,e,ex⟩:=z
      refine ⟨⟨o,e,ex.1⟩,fun a e2=>?_⟩
      cases e2
      exact ⟨o,e,ex.2.1⟩
    · obtain ⟨o,_,_,_,e,ex,_⟩:=I.hok p _ hk
      refine ⟨⟨o,e,ex.1⟩,fun a e2=>?_⟩
      cases e2
      exact ⟨o,e,ex.2.1⟩
  | _=>exact False.elim ty
def tBM (K:PySem.W.Frag) (T:String) (r:V→List V→Hp→VK→Prop) (to:TE) (t:TA):TE:=fun σ H Q=>to σ H fun x H1=>tyV K T x H1∧t σ H1 fun xs H2=>r x xs H2 Q
variable {o e:Expr} {es:List Expr} {to:TE} {t:TA} {name:Str} {apos cpos:Pos} {T id:String} {r:V→List V→Hp→VK→Prop}
theorem pe_bm (pa:PlainAttrs T) (slot:Slot T name id) (hty:typeOf (.builtin id)=pure (.type "method_descriptor")) (hm:MtR X id r) (ho:PE X o to) (ha:PA X (e :: es) t)
    (hbase:attributeBase o name X.env (eval o X.env)=eval o X.env:=by rfl)
    (hfew:((backTo cpos (starEach (e :: es) X.env)).all (fun x=>!x.1) && (backToKw cpos (keywordEach [] X.env)).all (fun x=>x.1.isSome)
      && decide ((e :: es).length+([]:List Keyword).length+(if ([]:List Keyword).isEmpty then 0 else 1) < 30))=true:=by rfl)
    (hline:(apos.endLine == cpos.line)=true:=by rfl) (hs:starEach (e :: es) X.env=(false,eval e X.env) :: starEach es X.env:=by rfl) (hplain:(backTo cpos (starEach es X.env)).any (·.1)=false:=by rfl) :
    PE X (.Call (.Attribute o name apos) (e :: es) [] cpos) (tBM X.K T r to t):=by
  intro pins s σ H Q I h
  refine wpAny_Call_method_late hbase hfew hline rfl (thn (ho pins s σ H _ I h) fun v s1 ⟨x,H1,I1,r1,ty,q1⟩=>?_)
  obtain ⟨h1,h2⟩:=tyV_is I1 r1 ty
  refine ⟨T,id,pa,slot,hty,h1,h2,?_⟩
  have hA:=ha cpos pins s1 σ H1 _ I1 q1
  rw [hs] at hA ⊢
  refine Calls.callWith_builtin (by show (false || (backTo cpos (starEach es X.env)).any (·.1))=false;rw [hplain] <;> rfl) (Calls.evalArgs_plain ?_)
  exact thn hA fun us s2 ⟨vs,H2,I2,r2,q2⟩=>hm pins s2 σ H2 x vs v us Q I2 r1 r2 q2
/- xs.append(e),list.index on a module's tuple .. are MtR facts of 06m -/
end
end L2
namespace L2
open PySem PySem.Spec PyProof.Rows
def MtM (X:Cx) (id:String) (r:V→List V→Hp→VK→Prop):Prop:=
  ∀ (pins:List (Addr × Obj)) (s:Shared) (σ:St) (H:Hp) (x:V) (xs:List V) (v:Value) (us:List Value) (Q:VK),Inv X pins σ H s→RelV x v→Vals xs us→r x xs H Q →
    wpAny (model X.prog X.w) X.A (call (.builtin id) (v :: us)) (EP X pins σ Q) X.xe s
theorem Vals.one:∀ {x:V} {us:List Value},Vals [x] us→∃ u,us=[u]∧RelV x u
  | _,_,.cons r .nil=>⟨_,rfl,r⟩
theorem Vals.two:∀ {x y:V} {us:List Value},Vals [x,y] us→∃ u v,us=[u,v]∧RelV x u∧RelV y v
  | _,_,_,.cons r (.cons q .nil)=>⟨_,_,rfl,r,q⟩
theorem Vals.zero:∀ {us:List Value},Vals [] us→us=[]
  | _,.nil=>rfl
section
variable {X:Cx} {pins:List (Addr × Obj)} {σ:St} {H:Hp} {s:Shared} {l b:Addr} {xs ys zs:List V}
theorem Inv.lset {its its':List Value} {n:Nat} {f:Array Value→Array Value} {t':Nat} (I:Inv X pins σ H s) (hH:H l=some (.lst xs))
    (e:s.heap.get? l=some { cls:=.type "list", data:=.seq its.toArray n }) (hf:f its.toArray=its'.toArray) (hv:Vals ys its') (hz:ys.length≤sizeLine) :
    Inv X pins σ (upd H l (.lst ys)) { s with heap:=s.heap.update l (Obj.mapSeq f),toks:=t' }:=by
  have q:=PySem.IsL.update e f
  rw [hf] at q
  refine I.write (x:=l) (e:=l) (by rw [hH];exact trivial) (.inl rfl) (fun b' u hb hu=>(Heap.get?_update_other s.heap (Obj.mapSeq f) (Ne.symm hb)).trans hu) ⟨_,q⟩ ?_
  exact ⟨hz,its',_,hv,q⟩
theorem Inv.lnew {its:List Value} {t':Nat} (I:Inv X pins σ H s) (hv:Vals ys its) (hz:ys.length≤sizeLine) :
    Inv X pins σ (upd H s.heap.objs.size (.lst ys)) { s with heap:=s.heap.push { cls:=.type "list", data:=.seq its.toArray },toks:=t' }:=
  I.laid (fun _ _ q=>Heap.get?_push_of_some _ q) (Nat.le_refl _) ⟨hz,its,0,hv,Heap.get?_push_size _ rfl⟩
theorem Inv.fresh (I:Inv X pins σ H s):H s.heap.objs.size=none:=I.hok.fresh (Nat.le_refl _)
theorem Inv.lstM (I:Inv X pins σ H s) (hH:H l=some (.lst xs)):xs.length≤sizeLine∧∃ (its:List Value) (n:Nat),Vals xs its∧xs.length=its.length∧s.heap.get? l=some { cls:=.type "list", data:=.seq its.toArray n }:=by
  obtain ⟨z,its,n,r,e⟩:=I.hok l _ hH
  exact ⟨z,its,n,r,r.length,e⟩
end
section
variable {X:Cx}
def rAppend:V→List V→Hp→VK→Prop:=fun x vs H Q=>∃ l xs y,x=.ref l∧vs=[y]∧H l=some (.lst xs)∧xs.length < sizeLine∧Q .non (upd H l (.lst (xs++[y])))
theorem mt_append:MtM X "list.append" rAppend:=by
  intro pins s σ H x vs v us Q I rx rv h
  obtain ⟨l,xs,y,rfl,rfl,hH,hz,q⟩:=h
  cases rx
  obtain ⟨u,rfl,ru⟩:=rv.one
  obtain ⟨z,its,n,r,hl,e⟩:=I.lstM hH
  refine call_meets F.slot_list_append ⟨_,e,rfl⟩ F.entry_list_append (F.args_list_append_2 _ _) (PySem.list_append l its.toArray n u (by rw [List.size_toArray];omega)) ⟨e,?_⟩
  refine ⟨.non,_,I.lset (its':=its++[u]) hH e (by simp) (r.append (.cons ru .nil)) ?_,rfl,q⟩
  rw [List.length_append,List.length_singleton]
  omega
def rCat:R2:=fun x y H Q=>∃ l b xs zs,x=.ref l∧y=.ref b∧H l=some (.lst xs)∧H b=some (.lst zs)∧xs.length+zs.length≤sizeLine∧∀ p,H p=none→Q (.ref p) (upd H p (.lst (xs++zs)))
theorem op_cat:OpR X (binaryOp .Add) rCat:=by
  intro pins s σ H x y v u Q I rx ry h
  obtain ⟨l,b,xs,zs,rfl,rfl,hH,hB,hz,q⟩:=h
  cases rx
  cases ry
  obtain ⟨z,its,n,r,hl,e⟩:=I.lstM hH
  obtain ⟨z2,its2,n2,r2,hl2,e2⟩:=I.lstM hB
  refine PySem.P.add_list e e2 ?_ (by rw [List.size_toArray,List.size_toArray];omega)
  have ea:its.toArray++its2.toArray=(its++its2).toArray:=by simp
  rw [ea]
  exact ⟨.ref _,_,I.lnew (t':=s.toks) (r.append r2) (by rw [List.length_append];omega),rfl,q _ I.fresh⟩
end
section
variable {prog:Program} {w:World} {A:Around} {E:Value→Shared→Prop} {s:Shared}
end
section
variable {X:Cx}
end
end L2
namespace Att
open PySem PySem.W PySem.Calls PyProof.Rows
theorem ints_of_wellAll {P:Params} {h:Heap}:∀ (ns:List Int) (vs:List Value),WellAll P h vs (ns.map WData.int)→IntsAre vs ns:=by
  intro ns
  induction ns with
  | nil=>
    intro vs w
    rw [List.map_nil] at w
    cases w
    exact .nil
  | cons n ns ih=>
    intro vs w
    rw [List.map_cons] at w
    cases w with
    | cons a b=>
      cases a
      exact .cons _ _ (ih _ b)
theorem script_of {l:OpenLaw} {n:Nat} (hn:l.most=some n) {P:Params} {h:Heap} {args:List WData} {vals:List Value}
    (hpre:l.row.toRowW.claim.pre args=true) (hwl:WellAll P h vals args) :
    ∃ a vs ns,vals=[Value.ref a]∧args=[WData.list (ns.map WData.int)]∧h.get? a=some { cls:=.type "list", data:=.seq vs.toArray }∧IntsAre vs ns∧ns.length≤n:=by
  have hsh:WShape.hasAll [] args [.list .int]=true:=(pre_splitW hpre).1
  have hc:l.pre.holds [] { args:=args }=true:=(pre_splitW hpre).2
  obtain ⟨d,r,rfl,h1,h2⟩:=hasAllW_cons hsh
  obtain rfl:=hasAllW_nil h2
  obtain ⟨xs,rfl,h3⟩:=hasW_list h1
  obtain ⟨ns,rfl⟩:=items_int h3
  have hlen:ns.length≤n:=by
    unfold OpenLaw.pre at hc
    have h4:(WTm.not (.lt (.lit (.int (n:Int))) (.len (.arg 0)))).holds [] { args:=[.list (ns.map .int)] }=true:=by
      have h4:=(holds_andW hc).1
      rw [hn] at h4
      exact h4
    have h5:=condW_of h4 (w_not (w_lt w_lit (w_len_list (w_arg rfl))))
    rw [List.length_map] at h5
    refine Nat.le_of_not_lt fun q=>?_
    have q':(n:Int) < ((ns.length:Nat):Int):=by omega
    first
      | (rw [decide_eq_true q'] at h5;exact absurd h5 (by decide))
      | (simp at h5;omega)
  cases hwl with
  | cons w1 w2=>
    cases w2
    cases w1 with
    | list ho hall=>exact ⟨_,_,ns,rfl,rfl,ho,ints_of_wellAll ns _ hall,hlen⟩
theorem post_true (l:OpenLaw) (args:List WData):l.row.toRowW.claim.post args (.bool true) args=true:=
  postW_of (r:=l.row.toRowW) (X:=(true == true))
    (show WShape.has [] (.bool true) .bool=true by first | rfl | decide | simp [WShape.has,WShape.arms,WShape.armsAll])
    (show (WTm.eq .res (.lit (.bool true))).value [] { args:=args,res:=some (.bool true),after:=args }=some (.bool (true == true)) from w_eq_bool (w_res rfl) w_lit) rfl
theorem attach_call {l:OpenLaw} {n:Nat} {q:Program} {loose:List Str} {XP:(Str→Option Value)→Heap→Prop} {YP:World→Heap→Prop} {d:DefRec}
    (hn:l.most=some n) (hdf:d.params.defaults=[])
    (call:∀ (w:World) (s₀ s₁:Shared) (mg mb:Str→Option Value) (fa:Addr) (o:Obj) (pm cd doc:Value) (a:Addr) (vs:List Value) (ns:List Int),
      Ground q loose [] XP w s₀ mg mb s₁.heap→YP w s₁.heap →
      s₁.heap.get? fa=some o→o.data=.func (docDef d.name d.params d.body d.scope pm cd doc)→s₁.heap.CodeRec cd d.name→mg d.name=some (.ref fa) →
      s₁.heap.get? a=some { cls:=.type "list", data:=.seq vs.toArray }→IntsAre vs ns→ns.length≤n→s₁.gens=#[] →
      codeAny (model l.prog w) callerA (.call (.ref fa) ⟨[.ref a],[]⟩) (fun r s'=>r=.ok (.ret (.bool true))∧OldK s₁.heap s'.heap∧s'.os=s₁.os∧AllBare s'.gens) s₁) :
    WalkO q loose XP YP l.row.toRowW d [] (fun f vs=>PySem.call f vs):=by
  intro w s₀ s₁ mg mb G Y fa o pm cd doc dV kV ho hd hcd hD hmg hg args vals as hpre hlay hrd hwl hlo
  obtain rfl:dV=.none:=Dflts.none hD hdf
  obtain rfl:kV=.none:=Dflts.noKw hD
  obtain ⟨a,vs,ns,rfl,rfl,hobj,hints,hlen⟩:=script_of hn hpre hwl
  refine enter_call (codeAny_mono (call w s₀ s₁ mg mb fa o pm cd doc a vs ns G Y ho (fd_plain hd) hcd hmg hobj hints hlen hg) fun r s' hq=>?_)
  obtain ⟨rfl,h2,h3,h4⟩:=hq
  exact ⟨.inl ⟨.bool true,.bool true,[],rfl,fun _=>rfl,.bool true,post_true l _,fun _=>⟨List.Pairwise.nil,fun _ hm=>(nomatch hm)⟩⟩,h2,h3,h4⟩
section
variable {prog:Program} {w:World} {A:Around} {E:Value→Shared→Prop} {s:Shared} {K:Frag}
def ledger (h:Heap) (L d:Addr):List (Addr × Obj):=(List.range h.objs.size).filterMap fun a=>if a=L∨a=d then none else (h.get? a).map fun o=>(a,o)
end
end Att
namespace L2
open PySem PySem.Spec PyProof.Rows
theorem vals_ints:∀ {vs:List Value} {ns:List Int},IntsAre vs ns→Vals (ns.map V.int) vs
  | _,_,.nil=>.nil
  | _,_,.cons n t h=>.cons ⟨t,rfl⟩ (vals_ints h)
def Only (H:Hp):Prop:=∀ b,H b=none∨∃ o xs,H b=some (.frz o (.lst xs))
theorem law_call {P:Program} {w:World} {K:PySem.W.Frag} {mg mb:Str→Option Value} {CX:CXT} {k:Nat} {fa a:Addr} {fd:FuncData} {x:Str} {sp:Sp} {s₁:Shared} {vs:List Value} {ns:List Int}
    (KX:K.In s₁.heap) (hns:s₁.heap.Ns mainGlobals mg) (hb:s₁.heap.Ns builtinsNs mb) (hbb:∀ x:Str,x ≠ "__name__" → mb x=bootBuiltins x) (hlim:s₁.heap.NoLimit) (hg:s₁.gens=#[])
    (ha:s₁.heap.get? a=some { cls:=.type "list", data:=.seq vs.toArray }) (hi:IntsAre vs ns) (hl:ns.length≤sizeLine) (hr:Room k callerA)
    (F:∀ base:Heap,K.In base→base.Ns mainGlobals mg→FnOk P w K mg base CX k fa fd [x] sp) (hbind:∀ (s:Shared) (u:Value),BindsTo s fd ⟨[u],[]⟩ [(x,u)])
    (hsp:∀ H:Hp,Only H→SqL K H a (ns.map V.int)→sp [.ref a] H (fun v _=>v=.bl true) fun _ _ _=>False)
    (hCX:∀ H e s',CX [] H s₁ (fun _ _ _=>False) e s'→False) :
    codeAny (model P w) callerA (.call (.ref fa) ⟨[.ref a],[]⟩) (fun r s'=>r=.ok (.ret (.bool true))∧OldK s₁.heap s'.heap∧s'.os=s₁.os∧AllBare s'.gens) s₁:=by
  have rv:=vals_ints hi
  have lenV:=hi.length
  have core:∀ H:Hp,Only H→SqL K H a (ns.map V.int)→HOk P w H s₁.heap→(∀ b,H b≠none→b=a)→(H a≠none→K.lookup a=none) →
      codeAny (model P w) callerA (.call (.ref fa) ⟨[.ref a],[]⟩) (fun r s'=>r=.ok (.ret (.bool true))∧OldK s₁.heap s'.heap∧s'.os=s₁.os∧AllBare s'.gens) s₁:=by
    intro H hO hS hok hA hK
    have base_of:∀ {b:Addr} {o:Obj},s₁.heap.get? b=some o→H b=none→(hidT s₁.heap H).get? b=some o:=fun e n=>hidT_get e n
    have noA:∀ {b:Addr} {o:Obj} {es:Array DictEntry} {ep:Nat},s₁.heap.get? b=some o→o.data=.dict es ep→H b=none:=fun {b o es ep} e d=>by
      cases q:H b with
      | none=>rfl
      | some u=>
        have e':b=a:=hA b (by rw [q];simp)
        subst e'
        rw [ha] at e;cases e
        have d':Data.seq vs.toArray _=Data.dict es ep:=d
        cases d'
    have nsK:∀ {b:Addr} {m:Str→Option Value},s₁.heap.Ns b m→(hidT s₁.heap H).Ns b m:=fun {b m} ⟨o,es,ep,e,d,r⟩=>⟨o,es,ep,base_of e (noA e d),d,r⟩
    have hKb:K.In (hidT s₁.heap H):=fun b o e=>base_of (KX b o e) (by
      cases q:H b with
      | none=>rfl
      | some u=>
        have e':b=a:=hA b (by rw [q];simp)
        subst e'
        rw [hK (by rw [q];simp)] at e;cases e)
    have hM:Mod K mg (hidT s₁.heap H):=⟨hKb,nsK hns,⟨mb,nsK hb,hbb⟩,let ⟨mc,h1,h2⟩:=hlim;⟨mc,nsK h1,h2⟩⟩
    have e0:Env0 P w K mg (hidT s₁.heap H) callerA [] s₁ H:=⟨rfl,hM,fun b o e=>of_hidT e,Nat.le_of_eq (hidT_size _ _),trivial,fun b hb=>absurd (show b∈([]:List Addr) from hb) (by simp),hok,.of_eq hg⟩
    refine codeAny_mono ((F _ hKb (nsK hns)).run callerA [] s₁ H ⟨[.ref a],[]⟩ [.ref a] [.ref a] _ _ hr e0 (hbind s₁ (.ref a)) (.cons rfl .nil) (hsp H hO hS)) fun r s' h=>?_
    cases r with
    | error e=>exact (hCX H e s' h).elim
    | ok fl=>
      cases fl with
      | next=>exact False.elim h
      | brk=>exact False.elim h
      | cont=>exact False.elim h
      | ret u=>
        obtain ⟨v,H',os,bare,un,hok',r',q⟩:=h
        have q':v=.bl true:=q
        subst q'
        obtain rfl:u=Value.bool true:=r'
        refine ⟨rfl,OldK.of_keep fun b o e=>?_,os,bare⟩
        cases q:H b with
        | none=>exact un.keep b o e q (by intro z;exact absurd (show b∈([]:List Addr) from z) (by simp)) (by simp)
        | some u=>
          rcases hO b with z | ⟨ob,xs,z⟩
          · rw [q] at z;cases z
          · have z2:=un.frzs b ob _ z
            obtain ⟨e1,_⟩:=hok b _ z
            obtain ⟨e2,_⟩:=hok' b _ z2
            rw [e] at e1;cases e1
            exact e2
  cases hk:K.lookup a with
  | some o=>
    have e:=KX a o hk
    rw [ha] at e
    cases e
    refine core (fun _=>none) (fun _=>.inl rfl) (.inr ⟨_,vs.toArray,_,hk,rfl,rfl,rfl,by rw [List.size_toArray,lenV];exact hl,by simpa using rv⟩) (fun b u z=>by have z':(none:Option HO)=some u:=z;cases z') (fun b z=>absurd rfl z) fun z=>absurd rfl z
  | none=>
    refine core (fun b=>if b=a then some (.frz { cls:=.type "list", data:=.seq vs.toArray } (.lst (ns.map V.int))) else none) (fun b=>?_) (.inl (.inr ⟨{ cls:=.type "list", data:=.seq vs.toArray },if_pos rfl⟩)) (fun b u z=>?_) (fun b z=>?_) fun _=>hk
    · by_cases hb:b=a
      · exact .inr ⟨_,_,if_pos hb⟩
      · exact .inl (if_neg hb)
    · by_cases hb:b=a
      · have z':=(if_pos hb).symm.trans z
        cases z'
        subst hb
        exact ⟨ha,by rw [List.length_map];exact hl,vs,_,rv,ha⟩
      · have z':=(if_neg hb).symm.trans z
        cases z'
    · by_cases hb:b=a
      · exact hb
      · exact absurd (if_neg hb) z
end L2
namespace L2
open PySem PySem.Spec PyProof.Rows
abbrev KOf {K:PySem.W.Frag} {h:Heap} (_:K.In h):PySem.W.Frag:=K
theorem walk_of {l:PySem.W.OpenLaw} {n k:Nat} {q:Program} {loose:List Str} {XP:(Str→Option Value)→Heap→Prop} {YP:World→Heap→Prop} {d:DefRec} {K:Params→PySem.W.Frag} {CX:World→CXT} {sp:World→Sp} {x:Str}
    (hn:l.most=some n) (hn2:n≤sizeLine) (hdf:d.params.defaults=[]) (hr:Room k callerA)
    (hY:∀ (w:World) (h:Heap),YP w h→(K w.params).In h)
    (F:∀ (w:World) (mg:Str→Option Value) (fa:Addr) (h:Heap),(K w.params).In h→h.Ns mainGlobals mg→mg d.name=some (.ref fa) →
      ∃ fd:FuncData,(∀ (s:Shared) (u:Value),BindsTo s fd ⟨[u],[]⟩ [(x,u)]) ∧
        ∀ base:Heap,(K w.params).In base→base.Ns mainGlobals mg→FnOk l.prog w (K w.params) mg base (CX w) k fa fd [x] (sp w))
    (hsp:∀ (w:World) (H:Hp) (a:Addr) (ns:List Int),ns.length≤n→Only H→SqL (K w.params) H a (ns.map V.int)→sp w [.ref a] H (fun v _=>v=.bl true) fun _ _ _=>False)
    (hCX:∀ (w:World) (H:Hp) (s:Shared) (e:Value) (s':Shared),CX w [] H s (fun _ _ _=>False) e s'→False) :
    PySem.W.WalkO q loose XP YP l.row.toRowW d [] (fun f vs=>PySem.call f vs):=by
  refine Att.attach_call hn hdf fun w s₀ s₁ mg mb fa o pm cd doc a vs ns G Y ho hd hcd hmg hobj hints hlen hg=>?_
  have KX:=hY w _ Y
  obtain ⟨fd,hb,hF⟩:=F w mg fa _ KX G.T.g hmg
  exact law_call KX G.T.g G.T.b G.T.builtins G.T.nolimit hg hobj hints (Nat.le_trans hlen hn2) hr hF hb (fun H hO hS=>hsp w H a ns hlen hO hS) fun H e s'=>hCX w H s₁ e s'
theorem walk_ofK {l:PySem.W.OpenLaw} {n k:Nat} {q:Program} {loose:List Str} {XP:(Str→Option Value)→Heap→Prop} {YP:World→Heap→Prop} {d:DefRec} {K:Params→PySem.W.Frag} {CX:CXT} {sp:PySem.W.Frag→Sp} {x:Str}
    (hn:l.most=some n) (hn2:n≤sizeLine) (hdf:d.params.defaults=[]) (hr:Room k callerA)
    (hY:∀ (w:World) (h:Heap),YP w h→(K w.params).In h)
    (F:∀ (w:World) (mg:Str→Option Value) (fa:Addr) (h:Heap),(K w.params).In h→h.Ns mainGlobals mg→mg d.name=some (.ref fa) →
      ∃ fd:FuncData,(∀ (s:Shared) (u:Value),BindsTo s fd ⟨[u],[]⟩ [(x,u)]) ∧
        ∀ base:Heap,(K w.params).In base→base.Ns mainGlobals mg→FnOk l.prog w (K w.params) mg base CX k fa fd [x] (sp (K w.params)))
    (hsp:∀ (K:PySem.W.Frag) (H:Hp) (a:Addr) (ns:List Int),ns.length≤n→Only H→SqL K H a (ns.map V.int)→sp K [.ref a] H (fun v _=>v=.bl true) fun _ _ _=>False)
    (hCX:∀ (H:Hp) (s:Shared) (e:Value) (s':Shared),CX [] H s (fun _ _ _=>False) e s'→False) :
    PySem.W.WalkO q loose XP YP l.row.toRowW d [] (fun f vs=>PySem.call f vs):=
  walk_of (K:=K) (CX:=fun _=>CX) (sp:=fun w=>sp (K w.params)) hn hn2 hdf hr hY F (fun w H a ns h1 h2 h3=>hsp (K w.params) H a ns h1 h2 h3) fun _ H s e s'=>hCX H s e s'
end L2
namespace L2
open PySem PySem.Spec PyProof.Rows
def defArgs (s:Stmt):Arguments:=match s with
  | .FunctionDef _ a _ _ _ _ _ _ _ _=>a
  | _=>{ posonlyargs:=[],args:=[],vararg:=none,kwonlyargs:=[],kw_defaults:=[],kwarg:=none,defaults:=[] }
def defBody (s:Stmt):List Stmt:=match s with
  | .FunctionDef _ _ b _ _ _ _ _ _ _=>b
  | _=>[]
def defScope (s:Stmt):Scope:=match s with
  | .FunctionDef _ _ _ _ _ _ sc _ _ _=>sc
  | _=>{ kind:=.function,names:=[],isGenerator:=false,isCoroutine:=false }
abbrev CX0:CXT:=fun _ _ _ _ _ _=>False
abbrev E0:XK:=fun _ _ _=>False
theorem pass0 {X:Cx}:Passes CX0 X E0:=fun _ _ _ _ _ _ _ h=>h.elim
structure Fun (K:PySem.W.Frag) (x qual:Str) (st:Stmt) (f:Addr) (fd:FuncData):Prop where
  ex:∃ (oc:Value) (od:Option Addr) (kV doc pm:Value) (an:Option Addr) (cdv ct:Value) (osl:Array (Option Value)),
    fd=PySem.W.fnOf x qual (defArgs st) (defBody st) (defScope st) .none kV doc pm an cdv ct∧K.lookup f=some ⟨oc,od,.func fd,osl⟩∧PySem.W.codeIn K cdv qual=true
  kp:PySem.W.keepIn K (.ref f)=true
section
variable {P:Program} {w:World} {K:PySem.W.Frag} {mg:Str→Option Value} {base:Heap}
theorem Fun.ok {x qual:Str} {st:Stmt} {f:Addr} {fd:FuncData} {N ps:List Str} {k:Nat} {sp:Sp} (F:Fun K x qual st f fd) (S:FnScope N ps (defScope st)) (len:∀ vs H Q E,sp vs H Q E→vs.length=ps.length)
    (hbody:∀ (cdv:Value) (A:Around) (outer:List Env) (s:Shared) (H:Hp) (vs:List V) (Q:VK) (E:XK),Room k (A.deeper (envOfC qual (defScope st) s.heap.objs.size f cdv))→sp vs H Q E →
      ∃ t,PSs (cxOf CX0 P w K mg base N qual (defScope st) f cdv A outer s H E).nox (defBody st) t∧t { nx:=fun _ H'=>Q .non H',rt:=Q } (start N vs) H):FnOk P w K mg base CX0 (k+1) f fd ps sp:=by
  obtain ⟨oc,od,kV,doc,pm,an,cdv,ct,osl,rfl,lk,hcd⟩:=F.ex
  refine fn_of lk hcd S len fun A outer s H vs Q E hr hsp=>?_
  obtain ⟨t,h,q⟩:=hbody cdv A outer s H vs Q E hr hsp
  exact ⟨t,h.nox,q⟩
theorem Fun.binds {x qual:Str} {st:Stmt} {f:Addr} {fd:FuncData} {ps:List Str} (F:Fun K x qual st f fd)
    (h:∀ (kV doc pm:Value) (an:Option Addr) (cdv ct:Value) (us:List Value),us.length=ps.length→bindArgs (PySem.W.fnOf x qual (defArgs st) (defBody st) (defScope st) .none kV doc pm an cdv ct) ⟨us,[]⟩=pure (ps.zip us)):Binds K fd ps []:=by
  obtain ⟨oc,od,kV,doc,pm,an,cdv,ct,osl,rfl,lk,hcd⟩:=F.ex
  exact .all (h kV doc pm an cdv ct)
theorem fun_mk {x qual:Str} {st:Stmt} {f:Addr} {oc:Value} {od an:Option Addr} {osl:Array (Option Value)} {kV doc pm cdv ct:Value} (l:K.lookup f=some ⟨oc,od,.func (PySem.W.fnOf x qual (defArgs st) (defBody st) (defScope st) .none kV doc pm an cdv ct),osl⟩)
    (c:PySem.W.codeIn K cdv qual=true) (k:PySem.W.keepIn K (.ref f)=true):Fun K x qual st f (PySem.W.fnOf x qual (defArgs st) (defBody st) (defScope st) .none kV doc pm an cdv ct):=⟨⟨oc,od,kV,doc,pm,an,cdv,ct,osl,rfl,l,c⟩,k⟩
end
theorem small1000 {n:Nat} (h:n≤1000):n < sizeLine:=Nat.lt_of_le_of_lt h (by decide)
section
variable {X:Cx}
theorem pv (i:Nat) {x:Str} {pos:Pos} (hN:X.N[i]?=some x:=by rfl) (hv:Vis X.env.scope x:=by first | exact Or.inl rfl | exact Or.inr (Or.inl rfl) | exact Or.inr (Or.inr rfl)) (hd:(x == ("__debug__" : Str))=false:=by decide)
    (hcd:(x == ("__classdict__" : Str))=false:=by decide):PE X (.Name x pos) (tVar i):=pe_var hN hv hd hcd
end
theorem iteF {A B:Prop} (h:B):if false=true then A else B:=by
  rw [if_neg Bool.false_ne_true]
  exact h
theorem iteT {A B:Prop} (h:A):if true=true then A else B:=by
  rw [if_pos rfl]
  exact h
theorem ite2 {c A B:Prop} [Decidable c] (h1:c→A) (h2:¬ c→B):if c then A else B:=by
  by_cases h:c
  · rw [if_pos h]
    exact h1 h
  · rw [if_neg h]
    exact h2 h
def Same (H H':Hp):Prop:=∀ b o,H b=some o→H' b=some o
theorem Same.refl (H:Hp):Same H H:=fun _ _ h=>h
theorem Same.trans {H H1 H2:Hp} (a:Same H H1) (b:Same H1 H2):Same H H2:=fun c o h=>b c o (a c o h)
theorem Same.free {H H':Hp} (e:Same H H') {l:Addr} (h:H' l=Option.none):H l=Option.none:=by
  cases q:H l with
  | none=>rfl
  | some o=>
    rw [e l o q] at h
    cases h
theorem Same.seq {K:PySem.W.Frag} {H H':Hp} {a:Addr} {xs:List V} (e:Same H H') (h:SqL K H a xs):SqL K H' a xs:=by
  rcases h with (h | ⟨o,h⟩) | h
  · exact .inl (.inl (e _ _ h))
  · exact .inl (.inr ⟨o,e _ _ h⟩)
  · exact .inr h
end L2
set_option maxHeartbeats 16000000
namespace L2
open PySem PySem.Spec PyProof.Rows
theorem lookup_mem {α:Type}:∀ {cl:List (Str × α)} {x:Str} {c:α},cl.lookup x=some c→(x,c)∈cl
  | [],_,_,h=>by simp at h
  | (y,d) :: r,x,c,h=>by
    rw [List.lookup_cons] at h
    cases e:x == y with
    | true=>
      rw [e] at h
      have e':x=y:=eq_of_beq e
      cases h
      rw [e'];exact List.mem_cons_self
    | false=>
      rw [e] at h
      exact List.mem_cons_of_mem _ (lookup_mem h)
theorem lookup_of_mem {α:Type}:∀ {cl:List (Str × α)} {x:Str} {c:α},(x,c)∈cl→∃ c',cl.lookup x=some c'
  | [],_,_,h=>nomatch h
  | (y,d) :: r,x,c,h=>by
    rw [List.lookup_cons]
    cases e:x == y with
    | true=>exact ⟨d,rfl⟩
    | false=>
      rcases List.mem_cons.mp h with h | h
      · cases h
        simp at e
      · exact lookup_of_mem h
theorem closure_go {env:Env} {f:(Str × NameKind)→List (Str × Addr)→Sem (ForInStep (List (Str × Addr)))}
    (h1:∀ x k cs,k≠NameKind.free→f (x,k) cs=pure (.yield cs)) (h2:∀ x cs c,env.cells.lookup x=some c→f (x,NameKind.free) cs=pure (.yield ((x,c) :: cs))) :
    ∀ (names:List (Str × NameKind)) (acc:List (Str × Addr)),(∀ x,(x,NameKind.free)∈names→∃ c,env.cells.lookup x=some c) →
      ∃ cl,forIn names acc f=pure cl∧(∀ p∈cl,p∈acc∨env.cells.lookup p.1=some p.2)∧(∀ p∈acc,p∈cl)∧∀ x,(x,NameKind.free)∈names→∃ c,(x,c)∈cl
  | [],acc,_=>⟨acc,rfl,fun _ h=>.inl h,fun _ h=>h,fun _ h=>nomatch h⟩
  | (x,k) :: r,acc,h=>by
    by_cases hk:k=NameKind.free
    · subst hk
      obtain ⟨c,hc⟩:=h x List.mem_cons_self
      obtain ⟨cl,e,a,b,d⟩:=closure_go h1 h2 r ((x,c) :: acc) fun y hy=>h y (List.mem_cons_of_mem _ hy)
      refine ⟨cl,?_,fun p hp=>?_,fun p hp=>b p (List.mem_cons_of_mem _ hp),fun y hy=>?_⟩
      · rw [List.forIn_cons,h2 x acc c hc,pure_bind];exact e
      · rcases a p hp with q | q
        · rcases List.mem_cons.mp q with q | q
          · subst q;exact .inr hc
          · exact .inl q
        · exact .inr q
      · rcases List.mem_cons.mp hy with q | q
        · cases q;exact ⟨c,b _ List.mem_cons_self⟩
        · exact d y q
    · obtain ⟨cl,e,a,b,d⟩:=closure_go h1 h2 r acc fun y hy=>h y (List.mem_cons_of_mem _ hy)
      refine ⟨cl,?_,a,b,fun y hy=>?_⟩
      · rw [List.forIn_cons,h1 x k acc hk,pure_bind];exact e
      · rcases List.mem_cons.mp hy with q | q
        · cases q;exact absurd rfl hk
        · exact d y q
theorem closure_ok {scope:Scope} {env:Env} (h:∀ x,(x,NameKind.free)∈scope.names→∃ c,env.cells.lookup x=some c) :
    ∃ cl,closureFor scope env=pure cl∧(∀ x c,cl.lookup x=some c→env.cells.lookup x=some c)∧∀ x,(x,NameKind.free)∈scope.names→∃ c,cl.lookup x=some c:=by
  have go:=closure_go (env:=env) (f:=fun x cs=>match x with | (name,kind)=>if (kind == NameKind.free)=true then do let a ← cellOf env name;pure (.yield ((name,a) :: cs)) else pure (.yield cs))
    (fun x k cs hk=>by
      have:(k == NameKind.free)=false:=by simpa using hk
      simp only [this,Bool.false_eq_true,if_false])
    (fun x cs c hc=>by
      simp only [beq_self_eq_true,if_true]
      unfold cellOf
      rw [hc,pure_bind])
    scope.names [] h
  obtain ⟨cl,e,a,_,d⟩:=go
  refine ⟨cl,?_,fun x c hx=>?_,fun x hx=>?_⟩
  · unfold closureFor
    simp only [bind_pure]
    exact e
  · rcases a _ (lookup_mem hx) with q | q
    · exact nomatch q
    · exact q
  · obtain ⟨c,hc⟩:=d x hx
    exact lookup_of_mem hc
theorem relabel_lookup {env:Env} {x:Str} {k:NameKind}:∀ {names:List (Str × NameKind)},
    (names.map fun (n,k)=>if (k == NameKind.free && env.scope.kind == .function && env.kindOf n == some .cell) then (n,NameKind.cell) else (n,k)).lookup x=some k →
      names.lookup x=some k∨(k=.cell∧names.lookup x=some .free)
  | [],h=>by simp at h
  | (n,j) :: r,h=>by
    have ih:=@relabel_lookup env x k r
    rw [List.lookup_cons]
    change List.lookup x ((if (j == NameKind.free && env.scope.kind == .function && env.kindOf n == some .cell)=true then (n,NameKind.cell) else (n,j)) :: _)=_ at h
    by_cases hc:(j == NameKind.free && env.scope.kind == .function && env.kindOf n == some .cell)=true
    · rw [if_pos hc,List.lookup_cons] at h
      have hj:j=NameKind.free:=by
        simp only [Bool.and_eq_true] at hc
        exact eq_of_beq hc.1.1
      cases hx:x == n with
      | true=>rw [hx] at h;cases h;exact .inr ⟨rfl,by rw [hj]⟩
      | false=>rw [hx] at h;exact ih h
    · rw [if_neg hc,List.lookup_cons] at h
      cases hx:x == n with
      | true=>rw [hx] at h;exact .inl h
      | false=>rw [hx] at h;exact ih h
def cxComp (X:Cx) (scope:Scope) (NL:List Str) (ix:List Nat) (cl:List (Str × Addr)) (C:Addr) (s₃:Shared) (H₃:Hp) (fp:List Addr) (pins:List (Addr × Obj)):Cx where
  prog:=X.prog
  w:=X.w
  K:=X.K
  mg:=X.mg
  base:=X.base
  A:=X.A
  N:=NL++ix.map fun j=>X.N.getD j ""
  s₀:=s₃
  H₀:=H₃
  env:=compEnvC scope cl C X.env
  outer:=X.stack
  stack:=X.stack
  ex:=fp
  fn:=fun _=>false
  calm:=X.calm
  pn:=X.pn++pins
  xe:=fun _ _=>False
def comp0 (NL:List Str) (ix:List Nat) (σ:St):St:=NL.map (fun _=>none)++ix.map fun j=>σ.getD j none
def PIfs (X:Cx) (ifs:List Expr) (t:TT):Prop:=
  ∀ (pins:List (Addr × Obj)) (s:Shared) (σ:St) (H:Hp) (Q:Bool→Hp→Prop),Inv X pins σ H s→t σ H Q →
    wpAny (model X.prog X.w) X.A (forIn ifs true fun c r=>if r=true then do let ok ← isTrue c X.env (eval c X.env);pure (ForInStep.yield ok) else pure (ForInStep.yield r)) (TP X pins σ Q) X.xe s
def tYes:TT:=fun _ H Q=>Q true H
theorem pifs_nil {X:Cx}:PIfs X [] tYes:=fun _ _ _ H _ I h=>wpAny_tests_nil ⟨H,I,h⟩
theorem pifs_one {X:Cx} {c:Expr} {t:TT} (h:PT X c t):PIfs X [c] t:=fun pins s σ H Q I q=>wpAny_tests_one (h pins s σ H Q I q)
def tComp (NL:List Str) (ix:List Nat) (wi:TI) (g:TG) (tt:TT) (te:TE):TE:=fun σ H Q=>
  wi σ H fun J H1=>∀ acc,H1 acc=none→∃ W:Nat→Nat→List V→Hp→Prop,(∃ m,W 0 m [] (upd H1 acc (.lst []))) ∧
    ∀ i m ys H2,W i m ys H2→H2 acc=some (.lst ys)∧ys.length < sizeLine ∧
      ((J.stop i H2∧Q (.ref acc) H2)∨(J.go i H2∧∃ N:List V→Hp→Prop,(∀ ys' H',N ys' H'→∃ m',m' < m∧W (i+1) m' ys' H') ∧
        ∀ x H3,J.yld i H2 x H3→g x (comp0 NL ix σ) H3 fun σ' H4=>σ'.drop NL.length=ix.map (fun j=>σ.getD j none)∧tt σ' H4 fun b H5=>
          if b=true then te σ' H5 fun v H6=>H6 acc=some (.lst ys)∧N (ys++[v]) (upd H6 acc (.lst (ys++[v]))) else N ys H5))
section
variable {X:Cx} {pins:List (Addr × Obj)} {σ:St} {H:Hp} {s:Shared}
structure CompScope (X:Cx) (scope:Scope) (NL:List Str) (ix:List Nat):Prop where
  kind:scope.kind=.function
  cell:∀ y∈scope.names,y.2≠.cell
  names:∀ y∈scope.names,y.2=.local→scope.names.lookup y.1=some .local
  free:∀ y∈scope.names,y.2=.free→X.env.kindOf y.1=some .cell∨X.env.kindOf y.1=some .free
  cap:∀ j∈ix,∃ x,X.N[j]?=some x∧scope.names.lookup x=some .free
theorem comp_inv {scope:Scope} {NL:List Str} {ix:List Nat} {cl:List (Str × Addr)} {fp:List Addr} {tn:Nat→Heap→Prop} {s₃:Shared} {h₁:Heap} {m:Str→Option Value} {tk:Nat}
    (S:CompScope X scope NL ix) (I:Inv X pins σ H s₃) (c1:∀ x c,cl.lookup x=some c→X.env.cells.lookup x=some c) (c2:∀ x,(x,NameKind.free)∈scope.names→∃ c,cl.lookup x=some c)
    (hf:∀ b∈fp,FpOk X pins H b) (ho:∀ b∈fp,∃ o,s₃.heap.get? b=some o) (hn:h₁.Ns s₃.heap.objs.size m) (old:∀ b o,s₃.heap.get? b=some o→h₁.get? b=some o) :
    Inv (cxComp X scope NL ix cl s₃.heap.objs.size s₃ H fp pins) [] (comp0 NL ix σ) H { s₃ with heap:=h₁,toks:=tk }:=by
  have e0:=I.env0
  have lt:∀ b o,s₃.heap.get? b=some o→b≠s₃.heap.objs.size:=fun b o e=>Nat.ne_of_lt (Heap.lt_size e)
  have nst:∀ b,b≠X.env.locals→b ∉ X.fs→b ∉ frs X.stack:=fun b h1 h2 h3=>(List.mem_cons.mp (I.stkSub b h3)).elim h1 h2
  have ok:(cxComp X scope NL ix cl s₃.heap.objs.size s₃ H fp pins).Ok:=
    { mod:=I.ok.mod
      kind:=S.kind
      glob:=I.ok.glob
      blt:=I.ok.blt
      above:=Nat.le_refl _
      inj:=fun x y c h1 h2=>I.ok.inj x y c (c1 x c h1) (c1 y c h2)
      has:=fun x hx=>by
        have hfree:scope.names.lookup x=some .free:=by
          rcases hx with hx | hx
          · rcases relabel_lookup hx with q | ⟨_,q⟩
            · exact absurd rfl (S.cell _ (lookup_mem q))
            · exact q
          · rcases relabel_lookup hx with q | ⟨z,_⟩
            · exact q
            · cases z
        exact c2 x (lookup_mem hfree)
      cab:=fun _ _ z=>nomatch z
      hd:=I.ok.hd
      frames:=I.ok.frames
      stk:=.inl rfl
      exf:=fun b hb=>⟨let ⟨o,e⟩:=ho b hb;lt b o e,fun x c hx=>(hf b hb).2.2.2.2.1 x c (c1 x c hx)⟩
      bs:=I.bs
      bsz:=e0.bsz
      noex:=fun b o e hb=>by
        rcases (hf b hb).2.2.2.1 with z | z
        · exact I.ok.noex b o e z
        · exact absurd (Nat.lt_of_lt_of_le (Heap.lt_size e) (Nat.le_trans I.ok.bsz z)) (Nat.lt_irrefl _)
      exfs:=fun b hb=>nst b (hf b hb).2.1 (hf b hb).2.2.1
      funs:=e0.funs
      frf:=e0.frf }
  refine ⟨ok,rfl,I.bare,Un.kept old,⟨m,hn,fun i x v e1 e2 e3=>?_⟩,fun x c e=>?_,I.hok.fresh (Nat.le_refl _),fun x c e=>I.freeC x c (c1 x c e),fun p hp=>?_,I.hok.kept old,?_⟩
  · have hl:NL.length≤i:=by
      rcases Nat.lt_or_ge i NL.length with z | z
      · exfalso
        unfold comp0 at e2
        rw [List.getElem?_append_left (by simpa using z),List.getElem?_map] at e2
        cases q:NL[i]? with
        | none=>rw [q] at e2;cases e2
        | some y=>rw [q] at e2;cases e2
      · exact z
    unfold comp0 at e2
    rw [List.getElem?_append_right (by simpa using hl),List.length_map,List.getElem?_map] at e2
    change (NL++ix.map fun j=>X.N.getD j "")[i]?=some x at e1
    rw [List.getElem?_append_right hl,List.getElem?_map] at e1
    cases q:ix[i - NL.length]? with
    | none=>rw [q] at e1;cases e1
    | some j=>
      rw [q] at e1 e2
      have e1':X.N.getD j "" = x:=Option.some.inj e1
      have e2':σ.getD j none=some v:=Option.some.inj e2
      obtain ⟨x',hx',hfr⟩:=S.cap j (List.mem_of_getElem? q)
      have exx:x'=x:=by
        rw [← e1',List.getD_eq_getElem?_getD,hx'];rfl
      subst exx
      have hσ:σ[j]?=some (some v):=by
        rw [List.getD_eq_getElem?_getD] at e2'
        cases z:σ[j]? with
        | none=>rw [z] at e2';cases e2'
        | some o=>rw [z] at e2';exact congrArg some e2'
      have kd:=S.free _ (lookup_mem hfr) rfl
      have vis:Vis X.env.scope x':=by
        rcases kd with z | z
        · exact .inr (.inl z)
        · exact .inr (.inr z)
      obtain ⟨m',hn',hl'⟩:=I.loc
      obtain ⟨u,r,l⟩:=hl' j x' v hx' hσ vis
      refine ⟨u,r,.inr ?_⟩
      have hk':(compEnvC scope cl s₃.heap.objs.size X.env).kindOf x'=some .cell∨(compEnvC scope cl s₃.heap.objs.size X.env).kindOf x'=some .free:=by
        rcases e3 with z | z | z
        · rcases relabel_lookup z with w | ⟨w,_⟩
          · rw [hfr] at w;cases w
          · cases w
        · exact .inl z
        · exact .inr z
      refine ⟨hk',?_⟩
      obtain ⟨c,hc⟩:=c2 x' (lookup_mem hfr)
      rcases l with ⟨k,_⟩ | ⟨k,c',ec,o,ho',hd⟩
      · rcases kd with z | z
        · rw [k] at z;cases z
        · rw [k] at z;cases z
      · have:c'=c:=by
          have:=c1 x' c hc
          rw [ec] at this
          exact Option.some.inj this
        subst this
        exact ⟨c',hc,o,old _ _ ho',hd⟩
  · obtain ⟨v,o,ho',hd⟩:=I.cell x c (c1 x c e)
    exact ⟨v,o,old _ _ ho',hd⟩
  · have hp':p∈X.pn++pins:=by
      rcases List.mem_append.mp hp with z | z
      · exact z
      · exact nomatch z
    obtain ⟨e,n,ne,nf,d⟩:=I.pin p hp'
    exact ⟨old _ _ e,n,lt _ _ e,nst _ ne nf,d⟩
  · show (NL.map (fun _=>(none:Option V))++ix.map fun j=>σ.getD j none).length=(NL++ix.map fun j=>X.N.getD j "").length
    simp
theorem comp_run {scope:Scope} {NL:List Str} {ix:List Nat} {elt tg iter:Expr} {ifs:List Expr} {pos:Pos} {g:TG} {tt:TT} {te:TE} {cl:List (Str × Addr)} {fp:List Addr} {it:Addr} {tn:Nat→Heap→Prop} {J:It} {Q:VK}
    {E:Value→Shared→Prop} {RR:Value→Addr→Result→Shared→Prop}
    (hc:X.calm=true) (S:CompScope X scope NL ix) (c1:∀ x c,cl.lookup x=some c→X.env.cells.lookup x=some c) (c2:∀ x,(x,NameKind.free)∈scope.names→∃ c,cl.lookup x=some c)
    (hb:∀ (cl:List (Str × Addr)) (C:Addr) (s₃:Shared) (H₃:Hp) (fp:List Addr) (pins:List (Addr × Obj)),PG (cxComp X scope NL ix cl C s₃ H₃ fp pins) tg g∧PIfs (cxComp X scope NL ix cl C s₃ H₃ fp pins) ifs tt∧PE (cxComp X scope NL ix cl C s₃ H₃ fp pins) elt te)
    (I:Inv X pins σ H s) (T:Turn X.prog X.w X.K tg J fp it tn) (st:tn 0 s.heap) (hf:∀ b∈fp,FpOk X pins H b)
    (q:∀ acc,H acc=none→∃ W:Nat→Nat→List V→Hp→Prop,(∃ m,W 0 m [] (upd H acc (.lst []))) ∧
      ∀ i m ys H2,W i m ys H2→H2 acc=some (.lst ys)∧ys.length < sizeLine ∧
      ((J.stop i H2∧Q (.ref acc) H2)∨(J.go i H2∧∃ N:List V→Hp→Prop,(∀ ys' H',N ys' H'→∃ m',m' < m∧W (i+1) m' ys' H') ∧
        ∀ x H3,J.yld i H2 x H3→g x (comp0 NL ix σ) H3 fun σ' H4=>σ'.drop NL.length=ix.map (fun j=>σ.getD j none)∧tt σ' H4 fun b H5=>
          if b=true then te σ' H5 fun v H6=>H6 acc=some (.lst ys)∧N (ys++[v]) (upd H6 acc (.lst (ys++[v]))) else N ys H5)))
    (hRR:∀ (acc C:Addr) (H':Hp) (s':Shared) (m':Str→Option Value),Inv X pins σ H' s'→s'.heap.Ns C m'→FpOk X pins H' C→Q (.ref acc) H'→RR (.ref acc) C (.ok .next) s') :
    wpAny (model X.prog X.w) X.A (newList []) (fun acc s₃=>wpAny (model X.prog X.w) X.A (newFunctionEnv scope X.env.globals cl [] X.env.qual none .none (some X.env)) (fun cenv s₄=>
      codeAny (model X.prog X.w) X.A (.compStart (.ListComp elt [⟨tg,iter,ifs,0⟩] scope pos) 0 (.ref it) acc { cenv with scope:=relabel scope X.env }) (RR acc cenv.locals) s₄) E s₃) E s:=by
  refine wpAny_newObj_type (wpAny_newFunctionEnv S.cell (by intro y hy;simp at hy) (fun h₁ hns₁ hsb₁=>?_) S.kind)
  have I3:Inv X pins σ (upd H s.heap.objs.size (.lst [])) { s with heap:=s.heap.push { cls:=.type "list", data:=.seq ([]:List Value).toArray },toks:=s.toks }:=I.lnew (its:=[]) .nil (Nat.zero_le _)
  have hfr:H s.heap.objs.size=none:=I.hok.fresh (Nat.le_refl _)
  generalize hs3:({ s with heap:=s.heap.push { cls:=.type "list", data:=.seq ([]:List Value).toArray },toks:=s.toks }:Shared)=s₃ at I3
  have hsz:s₃.heap.objs.size=s.heap.objs.size+1:=by rw [← hs3];exact Heap.size_push ..
  have old1:∀ b o,s.heap.get? b=some o→s₃.heap.get? b=some o:=fun b o e=>by rw [← hs3];exact Heap.get?_push_of_some _ e
  have key:codeAny (model X.prog X.w) X.A (.compStart (.ListComp elt [⟨tg,iter,ifs,0⟩] scope pos) 0 (.ref it) (.ref s.heap.objs.size) (compEnvC scope cl s₃.heap.objs.size X.env))
      (RR (.ref s.heap.objs.size) s₃.heap.objs.size) { s₃ with heap:=h₁,toks:=s₃.toks+0 }:=by
    have hns:h₁.Ns s₃.heap.objs.size (fun _=>none):=by
      have:=hns₁
      rw [← hs3]
      exact this
    have hsb:Heap.SameBut s₃.heap.objs.size (s₃.heap.push { cls:=.type "dict", data:=.dict #[] }) h₁:=by
      have:=hsb₁
      rw [← hs3]
      exact this
    have old:∀ b o,s₃.heap.get? b=some o→h₁.get? b=some o:=fun b o e=>hsb.extBut b o (Nat.ne_of_lt (Heap.lt_size e)) (Heap.get?_push_of_some _ e)
    have hf3:∀ b∈fp,FpOk X pins (upd H s.heap.objs.size (.lst [])) b:=fun b hb'=>by
      obtain ⟨o,e,_⟩:=T.obj 0 _ st b hb'
      have ne:b≠s.heap.objs.size:=Nat.ne_of_lt (Heap.lt_size e)
      exact ⟨by rw [upd_ne ne];exact (hf b hb').1,(hf b hb').2⟩
    have ho3:∀ b∈fp,∃ o,s₃.heap.get? b=some o:=fun b hb'=>by
      obtain ⟨o,e,_⟩:=T.obj 0 _ st b hb'
      exact ⟨o,old1 b o e⟩
    have st1:tn 0 h₁:=T.keep 0 _ _ st fun b hb' o e=>old b o (old1 b o e)
    have I4:=comp_inv (tn:=tn) (tk:=s₃.toks+0) S I3 c1 c2 hf3 ho3 hns old
    obtain ⟨W,⟨m0,w0⟩,turn⟩:=q s.heap.objs.size hfr
    obtain ⟨hg,ht,he⟩:=hb cl s₃.heap.objs.size s₃ (upd H s.heap.objs.size (.lst [])) fp pins
    generalize hX':cxComp X scope NL ix cl s₃.heap.objs.size s₃ (upd H s.heap.objs.size (.lst [])) fp pins=X' at I4 hg ht he
    have p1:X'.prog=X.prog:=by rw [← hX'];rfl
    have p2:X'.w=X.w:=by rw [← hX'];rfl
    have p3:X'.K=X.K:=by rw [← hX'];rfl
    have p4:X'.A=X.A:=by rw [← hX'];rfl
    have p5:X'.env=compEnvC scope cl s₃.heap.objs.size X.env:=by rw [← hX'];rfl
    have p6:X'.calm=true:=by rw [← hX'];exact hc
    have p7:X'.xe=fun _ _=>False:=by rw [← hX'];rfl
    have stat:∀ {H':Hp},(∀ b∈fp,H' b=none)→∀ b∈fp,FpOk X' [] H' b:=fun {H'} hn b hb'=>by
      have z:=hf3 b hb'
      obtain ⟨o,eo⟩:=ho3 b hb'
      rw [← hX']
      refine ⟨hn b hb',Nat.ne_of_lt (Heap.lt_size eo),fun q=>(List.mem_cons.mp (I3.stkSub b q)).elim z.2.1 z.2.2.1,.inl hb',fun x c hx=>z.2.2.2.2.1 x c (c1 x c hx),fun p hp=>?_⟩
      rcases List.mem_append.mp hp with w | w
      · exact z.2.2.2.2.2 p w
      · exact nomatch w
    have fin:∀ i n ys H' s',Inv X' [] (comp0 NL ix σ) H' s'→W i n ys H'→Q (.ref s.heap.objs.size) H'→RR (.ref s.heap.objs.size) s₃.heap.objs.size (.ok .next) s':=fun i n ys H' s' I' w' q'=>by
      obtain ⟨m',hn',_⟩:=I'.loc
      have hos:s'.os=s₃.os:=by have:=I'.os;rw [← hX'] at this;exact this
      have hu:Un (frs X.stack) fp (upd H s.heap.objs.size (.lst [])) H' s₃.heap s'.heap:=by have:=I'.base;rw [← hX'] at this;exact this
      have hk:HOk X.prog X.w H' s'.heap:=by have:=I'.hok;rw [← hX'] at this;exact this
      have hfC:H' s₃.heap.objs.size=none:=by have:=I'.free;rw [← hX'] at this;exact this
      have hnC:s'.heap.Ns s₃.heap.objs.size m':=by rw [p5] at hn';exact hn'
      exact hRR _ _ H' s' m' (I3.call' hos hu hk I'.bare fun b hb'=>⟨(hf3 b hb').2.2.2.1,(hf3 b hb').2.1,(hf3 b hb').2.2.2.2.1,(hf3 b hb').2.2.2.2.2⟩) hnC (I3.fpOk (Nat.le_refl _) hfC) q'
    have loop:∀ s₄:Shared,Inv X' [] (comp0 NL ix σ) (upd H s.heap.objs.size (.lst [])) s₄→tn 0 s₄.heap→codeAny (model X.prog X.w) X.A (.compLoop (.ListComp elt [⟨tg,iter,ifs,0⟩] scope pos) 0 (.ref it) (.ref s.heap.objs.size) (compEnvC scope cl s₃.heap.objs.size X.env))
        (RR (.ref s.heap.objs.size) s₃.heap.objs.size) s₄:=fun s₄ I4 st1=>by
      refine codeAny_loop rfl (fun n s'=>∃ i ys H',Inv X' [] (comp0 NL ix σ) H' s'∧tn i s'.heap∧(∀ b∈fp,H' b=none)∧W i n ys H') (fun n s' hI=>?_) m0 ⟨0,[],_,I4,st1,fun b hb'=>(hf3 b hb').1,w0⟩
      obtain ⟨i,ys,H',I',st',fr',w'⟩:=hI
      show wpAny _ X.A ((compTurn (.ListComp elt [⟨tg,iter,ifs,0⟩] scope pos) 0 (.ref it) (.ref s.heap.objs.size) (compEnvC scope cl s₃.heap.objs.size X.env)).onRaise (fun x=>do noteFrame x (compEnvC scope cl s₃.heap.objs.size X.env);theTreesLotGoes x)) _ _ s'
      refine wpAny_noted ?_
      rw [compTurn_list]
      obtain ⟨hacc,hz8,alt⟩:=turn i n ys H' w'
      rcases alt with ⟨stop,qn⟩ | ⟨go,N,hN,step⟩
      · have d:=T.done X' p1 p2 p3 p6 i [] s' (comp0 NL ix σ) H' (notedBy (model X.prog X.w) X.A (compEnvC scope cl s₃.heap.objs.size X.env) fun e s'=>RR (.ref s.heap.objs.size) s₃.heap.objs.size (.error e) s') I' (stat fr') st' stop
        rw [p4] at d
        refine wpAny_bind (wpAny_standAt (wpAny_bind (thn d fun r s1 ⟨hr,I1⟩=>?_)))
        subst hr
        exact wpAny_pure (fin i n ys H' s1 I1 w' qn)
      · have d:=T.item X' p1 p2 p3 p6 i [] s' (comp0 NL ix σ) H' (notedBy (model X.prog X.w) X.A (compEnvC scope cl s₃.heap.objs.size X.env) fun e s'=>RR (.ref s.heap.objs.size) s₃.heap.objs.size (.error e) s') I' (stat fr') st' go
        rw [p4] at d
        refine wpAny_bind (wpAny_standAt (wpAny_bind (thn d fun r s1 ⟨u,hr,h4⟩=>?_)))
        subst hr
        refine wpAny_bind (thn h4 fun _ s5 ⟨x,H5,I5,r5,y5,st5,fr5⟩=>?_)
        have I5':=I5.pinned (stat fr5) (T.obj _ _ st5)
        have nofail:∀ {α:Type} {t:Sem α} {R:α→Shared→Prop} {sx:Shared},wpAny (model X'.prog X'.w) X'.A t R X'.xe sx→wpAny (model X.prog X.w) X.A t R (notedBy (model X.prog X.w) X.A (compEnvC scope cl s₃.heap.objs.size X.env) fun e s'=>RR (.ref s.heap.objs.size) s₃.heap.objs.size (.error e) s') sx:=fun {α t R sx} hh=>by
          rw [p1,p2,p4,p7] at hh
          exact wpAny_mono hh (fun _ _ z=>z) fun _ _ z=>z.elim
        have again:∀ {σ7:St} {H7:Hp} {s7:Shared} {ys':List V},σ7.drop NL.length=ix.map (fun j=>σ.getD j none)→Inv X' ([]++pinsAt fp s5.heap) σ7 H7 s7→(∃ m',m' < n∧W (i+1) m' ys' H7)→∃ m,m < n∧∃ i ys H',Inv X' [] (comp0 NL ix σ) H' s7∧tn i s7.heap∧(∀ b∈fp,H' b=none)∧W i m ys H':=fun {σ7 H7 s7 ys'} hσ I7 n7=>by
          obtain ⟨m',hm,w7⟩:=n7
          have Iw:Inv X' ([]++pinsAt fp s5.heap) (comp0 NL ix σ) H7 s7:=I7.weak (by rw [I7.len,I'.len]) fun j v hj=>by
            have hlj:NL.length≤j:=by
              rcases Nat.lt_or_ge j NL.length with z | z
              · exfalso
                unfold comp0 at hj
                rw [List.getElem?_append_left (by simpa using z),List.getElem?_map] at hj
                cases q:NL[j]? with
                | none=>rw [q] at hj;cases hj
                | some y=>rw [q] at hj;cases hj
              · exact z
            unfold comp0 at hj
            rw [List.getElem?_append_right (by simpa using hlj),List.length_map,← hσ,List.getElem?_drop] at hj
            rw [← hj]
            congr 1
            omega
          refine ⟨m',hm,i+1,ys',H7,Iw.unpinned,T.keep _ _ _ st5 fun b hb' o e=>(I7.pin (b,o) (List.mem_append_right _ (List.mem_append_right _ (mem_pinsAt hb' e)))).1,fun b hb'=>?_,w7⟩
          obtain ⟨o,e,d⟩:=T.obj _ _ st5 b hb'
          exact (I7.pin (b,o) (List.mem_append_right _ (List.mem_append_right _ (mem_pinsAt hb' e)))).2.1
        have hg':=nofail (hg _ s5 (comp0 NL ix σ) H5 x u _ I5' r5 (step x H5 y5))
        rw [p5] at hg'
        refine wpAny_bind (thn hg' fun _ s6 ⟨σ6,H6,I6,hσ6,q6⟩=>?_)
        have ht':=nofail (ht _ s6 σ6 H6 _ I6 q6)
        rw [p5] at ht'
        refine wpAny_bind (thn ht' fun ok s7 ⟨H7,I7,q7⟩=>?_)
        cases ok with
        | false=>
          have q7':N ys H7:=by simpa using q7
          exact wpAny_pure ⟨rfl,again hσ6 I7 (hN _ _ q7')⟩
        | true=>
          have q7':=(if_pos rfl).mp q7
          have he':=nofail (he _ s7 σ6 H7 _ I7 q7')
          rw [p5] at he'
          refine wpAny_bind (wpAny_bind (thn he' fun v s8 ⟨y,H8,I8,r8,ha8,q8⟩=>?_))
          have ap:=nofail (mt_append _ s8 σ6 H8 (.ref s.heap.objs.size) [y] (.ref s.heap.objs.size) [v] (fun _ H9=>H9=upd H8 s.heap.objs.size (.lst (ys++[y]))) I8 rfl (.cons r8 .nil) ⟨_,ys,y,rfl,rfl,ha8,hz8,rfl⟩)
          refine wpAny_bind (thn ap fun _ s9 ⟨z,H9,I9,r9,e9⟩=>wpAny_pure (wpAny_pure ⟨rfl,?_⟩))
          subst e9
          exact again hσ6 I9 (hN _ _ q8)
    exact codeAny_compStart_list (loop _ I4 st1) (T.self X.A 0 _ _ _ st1 (loop _ I4 st1))
  exact key
theorem pe_comp {scope:Scope} {NL:List Str} {ix:List Nat} {elt tg iter:Expr} {ifs:List Expr} {pos:Pos} {wi:TI} {g:TG} {tt:TT} {te:TE}
    (hc:X.calm=true) (hi:PI X tg iter wi) (S:CompScope X scope NL ix)
    (hb:∀ (cl:List (Str × Addr)) (C:Addr) (s₃:Shared) (H₃:Hp) (fp:List Addr) (pins:List (Addr × Obj)),PG (cxComp X scope NL ix cl C s₃ H₃ fp pins) tg g∧PIfs (cxComp X scope NL ix cl C s₃ H₃ fp pins) ifs tt∧PE (cxComp X scope NL ix cl C s₃ H₃ fp pins) elt te)
    (hs:∀ x,foldedSetIterable iter X.env x=pure x:=by intro _;rfl):PE X (.ListComp elt [⟨tg,iter,ifs,0⟩] scope pos) (tComp NL ix wi g tt te):=by
  intro pins s σ H Q I h
  obtain ⟨cl,hcl,c1,c2⟩:=closure_ok (scope:=scope) (env:=X.env) fun x hx=>by
    rcases S.free _ hx rfl with z | z
    · exact I.ok.has x (.inl z)
    · exact I.ok.has x (.inr z)
  rw [eval_ListComp]
  refine wpAny_comprehension_free (use:=none) rfl hs hcl S.kind S.names (thn (hi pins s σ H _ I h) fun xv s1 h1=>thn h1 fun itv s2 h2=>?_)
  obtain ⟨it,fp,tn,J,H2,rfl,I2,T,st2,f2,q⟩:=h2
  refine comp_run (RR:=fun acc C=>compPost (model X.prog X.w) X.A X.xe none (EP X pins σ Q) acc C) hc S c1 c2 hb I2 T st2 f2 q ?_
  intro acc C H' s' m' I' hn fC q'
  refine ⟨m',hn,fun h' sb=>⟨.ref acc,H',?_,rfl,q'⟩⟩
  exact I'.turned (t':=s'.toks) (fun b o hb e=>sb.extBut b o hb e) fC.1 fC.2.1 fC.2.2.2.1 fC.2.2.2.2.1 fC.2.2.2.2.2
theorem comp_by {J:It} {NL:List Str} {ix:List Nat} {g:TG} {tt:TT} {te:TE} {σ:St} {H1:Hp} {Qs:Hp→Prop} {acc:Addr} (n:Nat) (hn:n < 1000) (Pv:Nat→List V→Hp→Prop)
    (hacc:∀ i ys H2,Pv i ys H2→H2 acc=some (.lst ys)∧ys.length≤i) (h0:Pv 0 [] (upd H1 acc (.lst []))) (hstop:∀ ys H2,Pv n ys H2→J.stop n H2∧Qs H2)
    (hturn:∀ i ys H2,i < n→Pv i ys H2→J.go i H2∧∀ x H3,J.yld i H2 x H3→g x (comp0 NL ix σ) H3 fun σ' H4=>σ'.drop NL.length=ix.map (fun j=>σ.getD j none)∧tt σ' H4 fun b H5=>
      if b=true then te σ' H5 fun v H6=>H6 acc=some (.lst ys)∧Pv (i+1) (ys++[v]) (upd H6 acc (.lst (ys++[v]))) else Pv (i+1) ys H5) :
    ∃ W:Nat→Nat→List V→Hp→Prop,(∃ m,W 0 m [] (upd H1 acc (.lst []))) ∧
    ∀ i m ys H2,W i m ys H2→H2 acc=some (.lst ys)∧ys.length < sizeLine ∧
      ((J.stop i H2∧Qs H2)∨(J.go i H2∧∃ N:List V→Hp→Prop,(∀ ys' H',N ys' H'→∃ m',m' < m∧W (i+1) m' ys' H') ∧
        ∀ x H3,J.yld i H2 x H3→g x (comp0 NL ix σ) H3 fun σ' H4=>σ'.drop NL.length=ix.map (fun j=>σ.getD j none)∧tt σ' H4 fun b H5=>
          if b=true then te σ' H5 fun v H6=>H6 acc=some (.lst ys)∧N (ys++[v]) (upd H6 acc (.lst (ys++[v]))) else N ys H5)):=by
  refine ⟨fun i m ys H2=>i≤n∧m=n - i∧Pv i ys H2,⟨n,Nat.zero_le _,rfl,h0⟩,fun i m ys H2 ⟨hi,hm,hp⟩=>?_⟩
  obtain ⟨a1,a2⟩:=hacc i ys H2 hp
  refine ⟨a1,small1000 (by omega),?_⟩
  rcases Nat.lt_or_ge i n with lt | ge
  · obtain ⟨go,tn⟩:=hturn i ys H2 lt hp
    exact .inr ⟨go,Pv (i+1),fun ys' H' hN=>⟨n - (i+1),by omega,by omega,rfl,hN⟩,tn⟩
  · have e:i=n:=by omega
    subst e
    exact .inl (hstop ys H2 hp)
end
end L2
namespace L2
open PySem PySem.Spec PyProof.Rows
section
variable {prog:Program} {w:World} {A:Around} {E:Value→Shared→Prop} {s:Shared}
theorem nextOf_tuple_item {it t:Addr} {i:Nat} {items:Array Value} {x:Value} {Q:Value→Shared→Prop} (hit:s.heap.IsTupleIter it t i)
    (ht:s.heap.IsTuple t items) (hx:items[i]?=some x)
    (hQ:∀ h',h'.IsTupleIter it t (i+1)→Heap.SameBut it s.heap h'→Q x { s with heap:=h' }) :
    wpAny (model prog w) A (Builtin.SmallTypes.nextOf (.ref it)) Q E s:=by
  obtain ⟨o,ho,hc,hd⟩:=id hit
  obtain ⟨ol,hol,_,nl,hdl⟩:=ht
  unfold Builtin.SmallTypes.nextOf
  refine wpAny_bind (wpAny_callSpecial?_slot (name:=Str.ofString "__next__") hit.typeIs F.slot_tuple_iterator_next
    (wpAny_call_entry F.slot_tuple_iterator_next hit.typeIs F.entry_tuple_iterator_next ?_ (F.args_tuple_iterator_next_1 _)))
  show wpAny _ _ (field (.ref it) 0 >>= _) _ _ s
  refine wpAny_bind (wpAny_field ho hd (x:=.ref t) rfl ?_)
  show wpAny _ _ (if (Value.ref t == Value.none)=true then _ else _) _ _ s
  rw [if_neg (show ¬ ((Value.ref t == Value.none)=true) from Bool.false_ne_true)]
  show wpAny _ _ (field (.ref it) 1 >>= _) _ _ s
  refine wpAny_bind (wpAny_field ho hd (x:=.int i 0) rfl ?_)
  show wpAny _ _ (seqItems? (.ref t) >>= _) _ _ s
  refine wpAny_bind (wpAny_seqItems hol hdl ?_)
  simp only [Int.toNat_natCast,hx]
  refine wpAny_bind (wpAny_setField ho hd (by simp) (wpAny_pure ⟨x,rfl,wpAny_pure (hQ _ ?_ (Heap.SameBut.update ..))⟩))
  exact ⟨_,Heap.get?_update_self _ ho (Obj.isFreed_of_fields (Obj.data_mapFields hd _)),(Obj.cls_mapFields ..).trans hc,by
    rw [Obj.data_mapFields hd];simp [rawInt]⟩
theorem nextOf_tuple_end {it t:Addr} {i:Nat} {items:Array Value} {Q:Value→Shared→Prop} (hh:A.handled=none)
    (hit:s.heap.IsTupleIter it t i) (ht:s.heap.IsTuple t items) (hx:items[i]?=none)
    (hE:∀ h' e,Heap.ExtBut it s.heap h'→(∃ o,h'.get? e=some o∧o.cls=.type "StopIteration")→E (.ref e) { s with heap:=h' }) :
    wpAny (model prog w) A (Builtin.SmallTypes.nextOf (.ref it)) Q E s:=by
  obtain ⟨o,ho,hc,hd⟩:=id hit
  obtain ⟨ol,hol,_,nl,hdl⟩:=ht
  unfold Builtin.SmallTypes.nextOf
  refine wpAny_bind (wpAny_callSpecial?_slot (name:=Str.ofString "__next__") hit.typeIs F.slot_tuple_iterator_next
    (wpAny_call_entry F.slot_tuple_iterator_next hit.typeIs F.entry_tuple_iterator_next ?_ (F.args_tuple_iterator_next_1 _)))
  show wpAny _ _ (field (.ref it) 0 >>= _) _ _ s
  refine wpAny_bind (wpAny_field ho hd (x:=.ref t) rfl ?_)
  show wpAny _ _ (if (Value.ref t == Value.none)=true then _ else _) _ _ s
  rw [if_neg (show ¬ ((Value.ref t == Value.none)=true) from Bool.false_ne_true)]
  show wpAny _ _ (field (.ref it) 1 >>= _) _ _ s
  refine wpAny_bind (wpAny_field ho hd (x:=.int i 0) rfl ?_)
  show wpAny _ _ (seqItems? (.ref t) >>= _) _ _ s
  refine wpAny_bind (wpAny_seqItems hol hdl ?_)
  simp only [Int.toNat_natCast,hx]
  refine wpAny_bind (wpAny_rule (wpAny_bind (wpAny_setField ho hd (by simp) ?_)))
  show wpAny _ _ (newExc (.type "StopIteration") [] >>= _) _ _ _
  refine wpAny_bind ?_
  simp only [newExc,newTuple]
  refine wpAny_bind (wpAny_newObj_type ?_ (by size_fits))
  refine wpAny_bind (m:=firstArgMember _ _) (wpAny_of_eq (a:=Value.none) (by first | rfl | (simp only [firstArgMember];rfl)) ?_)
  refine wpAny_newObj_type ?_ (by size_fits)
  simp only [raiseNew]
  refine wpAny_bind (wpAny_handled ?_)
  first | rw [show A.in1.handled=none from hh] | rw [hh]
  refine wpAny_bind (wpAny_pure (wpAny_throw ?_))
  exact hE _ _ (((Heap.SameBut.update ..).extBut.push _).push _) ⟨_,Heap.get?_push_size _ rfl,rfl⟩
end
theorem draws_tuple {prog:Program} {w:World} {A:Around} (hh:A.handled=none) (it l:Addr) (hne:l≠it) (items:Array Value) :
    Draws prog w A it [it,l] items.size (fun i v=>items[i]?=some v) (fun i h=>h.IsTupleIter it l i∧h.IsTuple l items) where
  live:=fun _ _ st=>let ⟨o,ho,_⟩:=st.1;⟨o,ho⟩
  frame:=fun _ _ _ st hk=>⟨st.1.at fun o e=>hk it (by simp) o e,let ⟨o,ho,r⟩:=st.2;⟨o,hk l (by simp) o ho,r⟩⟩
  item:=fun i s Q E hi st hQ=>by
    refine nextOf_tuple_item st.1 st.2 (x:=items[i]) (by simp [hi]) fun h' hit' hs'=>?_
    exact hQ _ h' s.toks (by simp [hi]) ⟨hit',st.2.extBut hs'.extBut hne⟩ hs'
  done:=fun s Q E st hE=>nextOf_tuple_end hh st.1 st.2 (by simp) hE
theorem draws_str {prog:Program} {w:World} {A:Around} (hh:A.handled=none) (it:Addr) (x:Str) (t:Tok) :
    Draws prog w A it [it] x.cps.size (fun i v=>∃ c u,x.cps[i]?=some c∧v=.str ⟨#[c]⟩ u) (fun i h=>h.IsStrIter it (strIterType x) x t i):=by
  unfold strIterType
  cases x.cps.all (· < 128) with
  | true=>exact Draws.strAscii hh it x t
  | false=>exact Draws.strWide hh it x t
inductive SK where
  | lst (a:Addr) | tup (a:Addr) | str (x:Str)
def SK.val:SK→V
  | .lst a=>.ref a
  | .tup a=>.ref a
  | .str x=>.str x
def signs (x:Str):List V:=x.cps.toList.map fun c=>.str ⟨#[c]⟩
def SK.has (H:Hp):SK→List V→Prop
  | .lst a,xs=>Rd H a (.lst xs)
  | .tup a,xs=>Rd H a (.tup xs)
  | .str x,xs=>xs=signs x
def SK.own (it:Addr) (k:Nat) (h:Heap):SK→Prop
  | .lst a=>h.IsListIter it a k
  | .tup a=>h.IsTupleIter it a k
  | .str x=>∃ t,h.IsStrIter it (strIterType x) x t k
theorem SK.own_at {it:Addr} {k:Nat} {h h':Heap} {κ:SK} (x:κ.own it k h) (e:∀ o,h.get? it=some o→h'.get? it=some o):κ.own it k h':=by
  cases κ with
  | lst a=>exact Heap.IsListIter.at x e
  | tup a=>exact Heap.IsTupleIter.at x e
  | str y=>obtain ⟨t,o,ho,r⟩:=x;exact ⟨t,o,e o ho,r⟩
theorem SK.own_obj {it:Addr} {k:Nat} {h:Heap} {κ:SK} (x:κ.own it k h):∃ o,h.get? it=some o∧(∀ v,o.data≠.cell v)∧o.cls≠.type "tuple" ∧ o.cls≠.type "zip" ∧ o.cls≠.type "enumerate" := by
  cases κ with
  | lst a=>obtain ⟨o,ho,c,d⟩:=x;exact ⟨o,ho,(fun v z=>by rw [d] at z;cases z),(fun z=>by rw [c] at z;simp at z),(fun z=>by rw [c] at z;simp at z),(fun z=>by rw [c] at z;simp at z)⟩
  | tup a=>obtain ⟨o,ho,c,d⟩:=x;exact ⟨o,ho,(fun v z=>by rw [d] at z;cases z),(fun z=>by rw [c] at z;simp at z),(fun z=>by rw [c] at z;simp at z),(fun z=>by rw [c] at z;simp at z)⟩
  | str y=>
    obtain ⟨t,o,ho,c,d⟩:=x
    refine ⟨o,ho,(fun v z=>by rw [d] at z;cases z),?_,?_,?_⟩ <;>
    · intro z
      rw [c] at z
      unfold strIterType at z
      split at z <;> simp at z
theorem Rd.inj {H:Hp} {a:Addr} {u v:HO} (hu:∀ o w,u≠.frz o w) (hv:∀ o w,v≠.frz o w) (x:Rd H a u) (y:Rd H a v):u=v:=by
  rcases x with x | ⟨o,x⟩ <;> rcases y with y | ⟨p,y⟩ <;> rw [x] at y
  · exact Option.some.inj y
  · exact absurd (Option.some.inj y) (hu p v)
  · exact absurd (Option.some.inj y).symm (hv o u)
  · have:=Option.some.inj y
    injection this
theorem SK.inj {H:Hp} {κ:SK} {xs ys:List V} (x:κ.has H xs) (y:κ.has H ys):xs=ys:=by
  cases κ with
  | lst a=>have:=Rd.inj (u:=.lst xs) (v:=.lst ys) (fun _ _ z=>nomatch z) (fun _ _ z=>nomatch z) x y;injection this
  | tup a=>have:=Rd.inj (u:=.tup xs) (v:=.tup ys) (fun _ _ z=>nomatch z) (fun _ _ z=>nomatch z) x y;injection this
  | str z=>exact Eq.trans x (Eq.symm y)
def SK.box:SK→List Addr
  | .lst a=>[a]
  | .tup a=>[a]
  | .str _=>[]
theorem SK.box_some {H:Hp} {κ:SK} {xs:List V} (x:κ.has H xs) {b:Addr} (hb:b∈κ.box):H b≠none:=by
  cases κ with
  | lst a => have e:b=a:=by simpa [SK.box] using hb
             subst e;intro z;rcases x with q | ⟨o,q⟩ <;> (rw [z] at q;cases q)
  | tup a => have e:b=a:=by simpa [SK.box] using hb
             subst e;intro z;rcases x with q | ⟨o,q⟩ <;> (rw [z] at q;cases q)
  | str z=>simp [SK.box] at hb
section
variable {X:Cx} {pins:List (Addr × Obj)} {σ:St} {H:Hp} {s:Shared}
theorem sk_draws {κ:SK} {it:Addr} {k:Nat} {xs:List V} {A:Around} (I:Inv X pins σ H s) (hv:κ.has H xs) (hit:κ.own it k s.heap) (hn:H it=none) (hh:A.handled=none) :
    ∃ (P:Nat→Value→Prop) (St:Nat→Heap→Prop),Draws X.prog X.w A it (it :: κ.box) xs.length P St∧St k s.heap∧(∀ i u,P i u→∃ x,xs[i]?=some x∧RelV x u)∧(∀ i h,St i h→κ.own it i h):=by
  have ne:∀ b∈κ.box,b≠it:=fun b hb z=>SK.box_some hv hb (by rw [z];exact hn)
  cases κ with
  | lst a=>
    obtain ⟨_,its,n,r,e⟩:=Rd.ok hv I.hok
    have hl:s.heap.IsList a its.toArray:=⟨_,e,rfl,n,rfl⟩
    have D:=Draws.list (prog:=X.prog) (w:=X.w) hh it a (ne a (by simp [SK.box])) its.toArray
    rw [List.size_toArray,← r.length] at D
    refine ⟨_,_,D,⟨hit,hl⟩,fun i u hu=>?_,fun i h st=>st.1⟩
    · have hu':its[i]?=some u:=by simpa using hu
      have hlt:i < xs.length:=by rw [r.length];exact (List.getElem?_eq_some_iff.mp hu').1
      obtain ⟨u',e1,e2⟩:=r.get (List.getElem?_eq_getElem hlt)
      rw [hu'] at e1;cases e1
      exact ⟨_,List.getElem?_eq_getElem hlt,e2⟩
  | tup a=>
    obtain ⟨_,its,r,ht⟩:=Rd.ok hv I.hok
    have hl:s.heap.IsTuple a its.toArray:=ht
    have D:=draws_tuple (prog:=X.prog) (w:=X.w) hh it a (ne a (by simp [SK.box])) its.toArray
    rw [List.size_toArray,← r.length] at D
    refine ⟨_,_,D,⟨hit,hl⟩,fun i u hu=>?_,fun i h st=>st.1⟩
    · have hu':its[i]?=some u:=by simpa using hu
      have hlt:i < xs.length:=by rw [r.length];exact (List.getElem?_eq_some_iff.mp hu').1
      obtain ⟨u',e1,e2⟩:=r.get (List.getElem?_eq_getElem hlt)
      rw [hu'] at e1;cases e1
      exact ⟨_,List.getElem?_eq_getElem hlt,e2⟩
  | str z=>
    obtain ⟨t,hit⟩:=hit
    have hv':xs=signs z:=hv
    subst hv'
    have D:=draws_str (prog:=X.prog) (w:=X.w) hh it z t
    have e:(signs z).length=z.cps.size:=by simp [signs]
    rw [← e] at D
    refine ⟨_,_,D,hit,fun i u hu=>?_,fun i h st=>⟨t,st⟩⟩
    · obtain ⟨c,u',hc,rfl⟩:=hu
      refine ⟨.str ⟨#[c]⟩,?_,⟨u',rfl⟩⟩
      simp only [signs,List.getElem?_map,Array.getElem?_toList,hc,Option.map_some]
theorem Inv.turnedNew {ch:List Addr} {p:Addr} {o:HO} {h':Heap} {tk:Nat} (I:Inv X pins σ H s)
    (hch:∀ b∈ch,FpOk X pins H b) (k:∀ b ob,b ∉ ch→s.heap.get? b=some ob→h'.get? b=some ob) (hp:s.heap.objs.size≤p) (new:ObjOk X.prog X.w (upd H p o) h' p o) :
    Inv X pins σ (upd H p o) { s with heap:=h',toks:=tk }:=by
  have hn:H p=none:=I.hok.fresh hp
  refine I.call (g':=s.gens) (d':=s.drawn) (ch:=ch) ⟨fun b u q _ _ hx=>k b u hx q,fun b u q _ _ hx=>⟨u.slots,k b u hx q⟩,fun b u q n _=>?_,fun b u q hx=>⟨u,k b u hx q⟩,fun b xs q=>?_,fun b u xs q=>?_,fun b ps q=>⟨#[],?_⟩⟩ (fun b u e=>?_) I.bare
    fun b hb=>⟨(hch b hb).2.2.2.1,(hch b hb).2.1,(hch b hb).2.2.2.2.1,(hch b hb).2.2.2.2.2⟩
  · rw [upd_ne (Nat.ne_of_lt (Nat.lt_of_lt_of_le (Heap.lt_size q) hp))];exact n
  · rw [upd_ne (ne_of_none q hn)];exact q
  · rw [upd_ne (ne_of_none q hn)];exact q
  · rw [upd_ne (ne_of_none q hn),q];simp
  · by_cases hb:b=p
    · subst hb;rw [upd_same] at e;cases e;exact new
    · rw [upd_ne hb] at e
      refine (I.hok b u e).stay (fun c v hc q=>k c v (fun hm=>?_) q) (fun c q=>by rw [upd_ne (ne_of_none q hn)];exact q) fun c xs q=>by rw [upd_ne (ne_of_none q hn)];exact q
      have z:=(hch c hm).1
      rcases hc with hc | hc
      · rw [hc,e] at z;cases z
      · rw [hc] at z;cases z
theorem Inv.turnedMany {ch:List Addr} {h':Heap} {tk:Nat} (I:Inv X pins σ H s)
    (hch:∀ b∈ch,FpOk X pins H b) (k:∀ b ob,b ∉ ch→s.heap.get? b=some ob→h'.get? b=some ob):Inv X pins σ H { s with heap:=h',toks:=tk }:=by
  refine I.call (g':=s.gens) (d':=s.drawn) (ch:=ch) ⟨fun b u q _ _ hx=>k b u hx q,fun b u q _ _ hx=>⟨u.slots,k b u hx q⟩,fun b u q n _=>n,fun b u q hx=>⟨u,k b u hx q⟩,fun b xs q=>q,fun b u xs q=>q,fun b ps q=>⟨#[],by rw [q];simp⟩⟩ (fun b u e=>?_) I.bare
    fun b hb=>⟨(hch b hb).2.2.2.1,(hch b hb).2.1,(hch b hb).2.2.2.2.1,(hch b hb).2.2.2.2.2⟩
  refine (I.hok b u e).stay (fun c v hc q=>k c v (fun hm=>?_) q) (fun _ q=>q) fun _ _ q=>q
  have z:=(hch c hm).1
  rcases hc with hc | hc
  · rw [hc,e] at z;cases z
  · rw [hc] at z;cases z
end
def Ite (κ:SK):It:=
  ⟨fun i H=>∃ xs x,κ.has H xs∧xs[i]?=some x,fun i H v H'=>∃ p x,v=.ref p∧H p=none∧H'=upd H p (.tup [.int i,x])∧∀ xs,κ.has H xs→xs[i]?=some x,fun i H=>∃ xs,κ.has H xs∧xs.length=i⟩
theorem turn_enum {P:Program} {w:World} {K:PySem.W.Frag} {elts:List Expr} {x1:Nat} {tpos:Pos} (κ:SK) (e it:Addr) (hei:e≠it) :
    Turn P w K (.Tuple elts x1 tpos) (Ite κ) [e,it] e (fun i h=>(∃ old,IsEnum h e it i old)∧κ.own it i h) where
  mem:=by simp
  obj:=fun i h st b hb=>by
    obtain ⟨⟨old,he⟩,ho⟩:=st
    simp only [List.mem_cons,List.not_mem_nil,or_false] at hb
    rcases hb with rfl | rfl
    · exact ⟨_,he,fun v z=>by
        have z':Data.fields _=Data.cell v:=z
        cases z'⟩
    · obtain ⟨o,h1,h2,_⟩:=SK.own_obj ho
      exact ⟨o,h1,h2⟩
  keep:=fun i h h' st k=>by
    obtain ⟨⟨old,he⟩,ho⟩:=st
    exact ⟨⟨old,k e (by simp) _ he⟩,SK.own_at ho fun o q=>k it (by simp) o q⟩
  item:=by
    intro X hP hw hK hc i pins s σ H E I hf st hg
    subst hP hw hK
    obtain ⟨⟨old,he⟩,ho⟩:=st
    obtain ⟨xs,x,hx,hxi⟩:=hg
    have hlt:i < xs.length:=(List.getElem?_eq_some_iff.mp hxi).1
    have hh:X.A.in1.handled=none:=I.ok.hd hc
    obtain ⟨Pp,St,D,hst,hrel,hown⟩:=sk_draws (A:=X.A.in1) I hx ho (hf it (by simp)).1 hh
    have hef:e ∉ it :: κ.box:=fun z=>by
      rcases List.mem_cons.mp z with z | z
      · exact hei z
      · exact SK.box_some hx z (hf e (by simp)).1
    refine wpAny_pyNext_enum_itemD D he hst hlt hei hef fun y h' tk hy ho' hst' hT hsz hk=>⟨_,rfl,?_⟩
    refine wpAny_letOwnedTupleGo_enum ho' fun h'' he'' hs''=>?_
    obtain ⟨x',hx',rx⟩:=hrel i y hy
    have exx:x'=x:=Option.some.inj (hx'.symm.trans hxi)
    subst exx
    have kk:∀ b ob,b ∉ [e,it]→s.heap.get? b=some ob→h''.get? b=some ob:=fun b ob hb q=>
      (hs''.2 b (fun z=>hb (by simp [z]))).trans (hk b ob (fun z=>hb (by simp [z])) (fun z=>hb (by simp [z])) q)
    have ne:s.heap.objs.size≠e:=Nat.ne_of_gt (Heap.lt_size he)
    have hT':h''.get? s.heap.objs.size=some { cls:=.type "tuple", data:=.seq #[.int i tk,y] }:=(hs''.2 _ ne).trans hT
    refine ⟨.ref s.heap.objs.size,upd H s.heap.objs.size (.tup [.int i,x']),I.turnedNew (tk:=tk+1) hf kk (Nat.le_refl _) ⟨⟨(by show 2≤sizeLine;decide),_,hT',rfl⟩,[.int i tk,y],.cons ⟨tk,rfl⟩ (.cons rx .nil),_,hT',rfl,0,rfl⟩,rfl,
      ⟨_,x',rfl,I.hok.fresh (Nat.le_refl _),rfl,fun ys hy'=>by rw [SK.inj hy' hx];exact hxi⟩,⟨⟨y,by simpa using he''⟩,SK.own_at (hown _ _ hst') fun o q=>(hs''.2 it (Ne.symm hei)).trans q⟩,fun b hb=>?_⟩
    obtain ⟨o,hob,_⟩:∃ o,s.heap.get? b=some o∧True:=by
      simp only [List.mem_cons,List.not_mem_nil,or_false] at hb
      rcases hb with rfl | rfl
      · exact ⟨_,he,trivial⟩
      · obtain ⟨o,h1,_⟩:=SK.own_obj ho;exact ⟨o,h1,trivial⟩
    rw [upd_ne (Nat.ne_of_lt (Heap.lt_size hob))]
    exact (hf b hb).1
  done:=by
    intro X hP hw hK hc i pins s σ H E I hf st hg
    subst hP hw hK
    obtain ⟨⟨old,he⟩,ho⟩:=st
    obtain ⟨xs,hx,hlen⟩:=hg
    have hh:X.A.in1.handled=none:=I.ok.hd hc
    obtain ⟨Pp,St,D,hst,hrel,hown⟩:=sk_draws (A:=X.A.in1) I hx ho (hf it (by simp)).1 hh
    have hst':St xs.length s.heap:=by rw [hlen];exact hst
    refine wpAny_pyNext_enum_endD D he hst' fun h' hx'=>⟨rfl,?_⟩
    have f:=hf it (by simp)
    exact I.turned (t':=s.toks) (fun b o hb q=>hx' b o hb q) f.1 f.2.1 f.2.2.2.1 f.2.2.2.2.1 f.2.2.2.2.2
  self:=fun _ _ _ _ _ st h=>let ⟨⟨_,he⟩,_⟩:=st;wpAny_pyIter_enum he h
open AutoSeq1 (wpAny_loadPart') in
set_option maxHeartbeats 4000000 in
theorem meets_enumerate_newT (l:Addr) (items:Array Value) (n:Nat) (dct:Option Addr) (sl:Array (Option Value)) :
    Meets (Builtin.«enumerate.__new__» ⟨[.type "enumerate", .ref l],[]⟩) (fun _ R s=>s.heap.get? l=some { cls:=.type "tuple", dict:=dct,data:=.seq items n,slots:=sl } ∧
      R (.ok (.ret (.ref (s.heap.push { cls:=.type "tuple_iterator", data:=.fields #[.ref l,.int 0 0] }).objs.size)))
        { s with heap:=(s.heap.push { cls:=.type "tuple_iterator", data:=.fields #[.ref l,.int 0 0] }).push { cls:=.type "enumerate", data:=.fields #[.none,.bool false,.ref s.heap.objs.size,rawInt 0,.none,.none] } }):=
  .of_wp fun prog w A R s h=>by
    obtain ⟨hp,g,d,tk,os⟩:=s;obtain ⟨hl,h⟩:=h
    have hsub:=sub_enumerate
    have hL:Heap.IsTuple (Shared.heap ⟨hp,g,d,tk,os⟩) l items:=⟨_,hl,rfl,n,rfl⟩
    wp_walk using wpAny_loadPart' hl
    refine wpAny_stack_any fun st=>wpAny_pure ?_
    split
    · rename_i c _ _ _ _ _
      cases (c == Value.type "enumerate")
      · wp_walk using wpAny_loadPart' hl,wpAny_pyIter_tuple hL
        exact ⟨_,rfl,h⟩
      · wp_walk using wpAny_loadPart' hl,wpAny_pyIter_tuple hL
        exact ⟨_,rfl,h⟩
    · wp_walk using wpAny_loadPart' hl,wpAny_pyIter_tuple hL
      exact ⟨_,rfl,h⟩
theorem call_enumerate_tuple {prog:Program} {w:World} {A:Around} {E:Value→Shared→Prop} {s:Shared} {l:Addr} {items:Array Value} {Q:Value→Shared→Prop} (hL:s.heap.IsTuple l items)
    (h:∀ h',IsEnum h' (s.heap.objs.size+1) s.heap.objs.size 0 .none→h'.IsTupleIter s.heap.objs.size l 0→h'.objs.size=s.heap.objs.size+2 →
      (∀ b o,s.heap.get? b=some o→h'.get? b=some o)→Q (.ref (s.heap.objs.size+1)) { s with heap:=h' }) :
    wpAny (model prog w) A (call (.type "enumerate") [.ref l]) Q E s:=by
  obtain ⟨⟨c,dct,dt,sl⟩,hl,hc,n,hd⟩:=hL
  replace hc:c=.type "tuple" := hc
  replace hd:dt=.seq items n:=hd
  subst hc hd
  refine callType_new F.called_enumerate (by decide) (F.typeCall_enumerate_1 _) (F.newCall_enumerate_1 _) (fun obj=>F.args_object_init_2 obj _) F.entry_enumerate_new
    (meets_enumerate_newT l items n dct sl) ⟨hl,?_⟩
  have hz:(s.heap.push { cls:=.type "tuple_iterator", data:=.fields #[.ref l,.int 0 0] }).objs.size=s.heap.objs.size+1:=Heap.size_push ..
  show _∧_
  rw [hz]
  have he:IsEnum ((s.heap.push { cls:=.type "tuple_iterator", data:=.fields #[.ref l,.int 0 0] }).push
      { cls:=.type "enumerate", data:=.fields #[.none,.bool false,.ref s.heap.objs.size,rawInt 0,.none,.none] }) (s.heap.objs.size+1) s.heap.objs.size 0 .none:=by
    have:=Heap.get?_push_size (s.heap.push { cls:=.type "tuple_iterator", data:=.fields #[.ref l,.int 0 0] })
      (o:={ cls:=.type "enumerate", data:=.fields #[.none,.bool false,.ref s.heap.objs.size,rawInt 0,.none,.none] }) rfl
    rw [hz] at this;exact this
  refine ⟨⟨_,he,rfl⟩,h _ he ⟨_,Heap.get?_push_of_some _ (Heap.get?_push_size _ rfl),rfl,rfl⟩ (by rw [Heap.size_push,hz]) fun b o x=>Heap.get?_push_of_some _ (Heap.get?_push_of_some _ x)⟩
section
variable {X:Cx} {pins:List (Addr × Obj)} {σ:St} {H:Hp} {s:Shared}
theorem call_enum {κ:SK} {xs:List V} {u:Value} {E:Value→Shared→Prop} {Q:Value→Shared→Prop} (I:Inv X pins σ H s) (hv:κ.has H xs) (r:RelV κ.val u)
    (h:∀ h',IsEnum h' (s.heap.objs.size+1) s.heap.objs.size 0 .none→κ.own s.heap.objs.size 0 h'→(∀ b o,s.heap.get? b=some o→h'.get? b=some o)→Q (.ref (s.heap.objs.size+1)) { s with heap:=h' }) :
    wpAny (model X.prog X.w) X.A (call (.type "enumerate") [u]) Q E s:=by
  cases κ with
  | lst a=>
    cases (show u=Value.ref a from r)
    obtain ⟨_,its,n,rr,e⟩:=Rd.ok hv I.hok
    exact call_enumerate_list ⟨_,e,rfl,n,rfl⟩ fun h' a1 a2 _ a4=>h h' a1 a2 a4
  | tup a=>
    cases (show u=Value.ref a from r)
    obtain ⟨_,its,rr,e⟩:=Rd.ok hv I.hok
    exact call_enumerate_tuple e fun h' a1 a2 _ a4=>h h' a1 a2 a4
  | str x=>
    obtain ⟨t,q⟩:=(show ∃ t,u=Value.str x t from r)
    subst q
    exact call_enumerate_str fun h' a1 a2 _ a4=>h h' a1 ⟨t,a2⟩ a4
def iEnum (ta:TA):TI:=fun σ H R=>ta σ H fun vs H1=>∃ κ:SK,vs=[κ.val]∧(∃ xs,κ.has H1 xs)∧R (Ite κ) H1
theorem pi_enum {a:Expr} {ta:TA} {p pos:Pos} {elts:List Expr} {x1:Nat} {tpos:Pos} (hg:Gl X "enumerate") (hm:X.mg "enumerate" = none) (ha:PA X [a] ta)
    (hs:starEach [a] X.env=[(false,eval a X.env)]:=by rfl):PI X (.Tuple elts x1 tpos) (.Call (.Name "enumerate" p) [a] [] pos) (iEnum ta):=by
  intro pins s σ H R I h
  refine Call_ (ld_blt I hg hm boot_enumerate (PyProof.Rows.callWith_type1 (thn (ha pos pins s σ H _ I h) fun us s1 ⟨vs,H1,I1,r1,q1⟩=>?_) hs rfl))
  obtain ⟨κ,e,⟨xs,hx⟩,q⟩:=q1
  subst e
  obtain ⟨u,rfl,ru⟩:=vals1 r1
  refine call_enum I1 hx ru fun h' he hi hk=>?_
  refine wpAny_pyIter_enum he ⟨s1.heap.objs.size+1,[s1.heap.objs.size+1,s1.heap.objs.size],_,_,H1,rfl,I1.kept (t':=s1.toks) hk,turn_enum κ _ _ (Nat.ne_of_gt (Nat.lt_succ_self _)),⟨⟨_,he⟩,hi⟩,fun b hb=>?_,q⟩
  have hge:s1.heap.objs.size≤b:=by
    simp only [List.mem_cons,List.not_mem_nil,or_false] at hb
    rcases hb with rfl | rfl
    · exact Nat.le_succ _
    · exact Nat.le_refl _
  exact I1.fpOk hge (I1.hok.fresh hge)
end
structure ZA (z TI TO i1 i2:Addr) (fp1 fp2:List Addr):Prop where
  TIz:TI≠z
  TOz:TO≠z
  i1z:i1≠z
  i2z:i2≠z
  TITO:TI≠TO
  TIi1:TI≠i1
  TIi2:TI≠i2
  TOi1:TO≠i1
  TOi2:TO≠i2
  i12:i1≠i2
  z1:z ∉ fp1
  z2:z ∉ fp2
  o1:TO ∉ fp1
  o2:TO ∉ fp2
  a1:i2 ∉ fp1
  a2:i1 ∉ fp2
section
variable {prog:Program} {w:World} {A:Around} {E:Value→Shared→Prop} {s:Shared}
theorem zip_next_itemD {z TI TO i1 i2:Addr} {fp1 fp2:List Addr} {n1 n2 k:Nat} {P1 P2:Nat→Value→Prop} {S1 S2:Nat→Heap→Prop} {a b:Value} {Q:Value→Shared→Prop} (Z:ZA z TI TO i1 i2 fp1 fp2)
    (D1:Draws prog w A i1 fp1 n1 P1 S1) (D2:Draws prog w A i2 fp2 n2 P2 S2)
    (hz:IsZip s.heap z TI TO .none) (hTI:IsPair s.heap TI (.ref i1) (.ref i2)) (hTO:IsPair s.heap TO a b) (h1:S1 k s.heap) (h2:S2 k s.heap) (l1:k < n1) (l2:k < n2)
    (hQ:∀ x y h' tk,P1 k x→P2 k y→IsZip h' z TI TO (rawInt s.heap.objs.size)→IsPair h' TO x y→S1 (k+1) h'→S2 (k+1) h'→IsPair h' s.heap.objs.size x y→h'.objs.size=s.heap.objs.size+1 →
      (∀ c o,c≠z→c≠TO→c≠i1→c≠i2→s.heap.get? c=some o→h'.get? c=some o)→Q (.ref s.heap.objs.size) { s with heap:=h',toks:=tk }) :
    wpAny (model prog w) A (Builtin.«zip.__next__» ⟨[.ref z],[]⟩) (fun fin s'=>∃ v,fin=.done (.ret v)∧Q v s') E s:=by
  obtain ⟨hp,g,d,tk₀,os⟩:=s
  show wpAny _ _ (field (.ref z) 2 >>= _) _ _ _
  refine wpAny_bind (wpAny_field hz rfl (x:=.bool false) rfl ?_)
  show wpAny _ _ (field (.ref z) 3 >>= _) _ _ _
  refine wpAny_bind (wpAny_field hz rfl (x:=.ref TI) rfl ?_)
  refine wpAny_bind (wpAny_seqItems hTI rfl ?_)
  show wpAny _ _ (Builtin.SmallTypes.ownedTupleIsFree (.ref z) >>= _) _ _ _
  refine wpAny_bind ?_
  unfold Builtin.SmallTypes.ownedTupleIsFree
  refine wpAny_bind (wpAny_field hz rfl (x:=.none) rfl (wpAny_pure ?_))
  simp only [if_true]
  refine wpAny_bind (wpAny_rule ?_)
  refine wpAny_bind (wpAny_field hz rfl (x:=.ref TO) rfl ?_)
  refine wpAny_bind (wpAny_setField_rec hz (by simp) fun h₁ hz₁ hs₁=>?_)
  replace hz₁:IsZip h₁ z TI TO .ellipsis:=hz₁
  replace hs₁:Heap.SameBut z hp h₁:=hs₁
  refine wpAny_bind ?_
  simp only [List.zipIdx_cons,List.zipIdx_nil,List.forIn_cons,List.forIn_nil]
  refine wpAny_bind (wpAny_bind (wpAny_onRaise ?_))
  show wpAny _ _ (Builtin.SmallTypes.nextOf (.ref i1) >>= _) _ _ _
  have h1₁:S1 k h₁:=D1.frame _ _ _ h1 fun c hc o e=>hs₁.extBut _ _ (fun q=>Z.z1 (q ▸ hc)) e
  refine wpAny_bind (D1.item k _ _ _ l1 h1₁ fun x h₂ tk₂ hx h1₂ hs₂=>wpAny_pure ?_)
  replace hs₂:Heap.SameBut i1 h₁ h₂:=hs₂
  have hTO₂:IsPair h₂ TO a b:=hs₂.extBut _ _ Z.TOi1 (hs₁.extBut _ _ Z.TOz hTO)
  refine wpAny_bind (wpAny_seqItems (s:=⟨h₂,g,d,tk₂,os⟩) hTO₂ rfl ?_)
  refine wpAny_bind (wpAny_updateSeq_pair (s:=⟨h₂,g,d,tk₂,os⟩) hTO₂ fun h₃ hTO₃ hs₃=>?_)
  replace hTO₃:IsPair h₃ TO x b:=hTO₃
  replace hs₃:Heap.SameBut TO h₂ h₃:=hs₃
  refine wpAny_bind (wpAny_letGo (wpAny_pure ?_))
  refine wpAny_bind (wpAny_bind (wpAny_onRaise ?_))
  show wpAny _ _ (Builtin.SmallTypes.nextOf (.ref i2) >>= _) _ _ _
  have h2₃:S2 k h₃:=D2.frame _ _ _ h2 fun c hc o e=>hs₃.extBut _ _ (fun q=>Z.o2 (q ▸ hc)) (hs₂.extBut _ _ (fun q=>Z.a2 (q ▸ hc)) (hs₁.extBut _ _ (fun q=>Z.z2 (q ▸ hc)) e))
  refine wpAny_bind (D2.item k _ _ _ l2 h2₃ fun y h₄ tk₄ hy h2₄ hs₄=>wpAny_pure ?_)
  replace hs₄:Heap.SameBut i2 h₃ h₄:=hs₄
  have hTO₄:IsPair h₄ TO x b:=hs₄.extBut _ _ Z.TOi2 hTO₃
  refine wpAny_bind (wpAny_seqItems (s:=⟨h₄,g,d,tk₄,os⟩) hTO₄ rfl ?_)
  refine wpAny_bind (wpAny_updateSeq_pair (s:=⟨h₄,g,d,tk₄,os⟩) hTO₄ fun h₅ hTO₅ hs₅=>?_)
  replace hTO₅:IsPair h₅ TO x y:=hTO₅
  replace hs₅:Heap.SameBut TO h₄ h₅:=hs₅
  refine wpAny_bind (wpAny_letGo (wpAny_pure (wpAny_pure ?_)))
  refine wpAny_bind (wpAny_seqItems (s:=⟨h₅,g,d,tk₄,os⟩) hTO₅ rfl ?_)
  refine wpAny_bind (wpAny_newTuple ?_)
  have hsz:h₅.objs.size=hp.objs.size:=by rw [hs₅.1,hs₄.1,hs₃.1,hs₂.1,hs₁.1]
  have hz₅:IsZip h₅ z TI TO .ellipsis:=hs₅.extBut _ _ Z.TOz.symm (hs₄.extBut _ _ Z.i2z.symm (hs₃.extBut _ _ Z.TOz.symm (hs₂.extBut _ _ Z.i1z.symm hz₁)))
  have hk₅:∀ c o,c≠z→c≠TO→c≠i1→c≠i2→hp.get? c=some o→h₅.get? c=some o:=fun c o c1 c2 c3 c4 e=>
    hs₅.extBut _ _ c2 (hs₄.extBut _ _ c4 (hs₃.extBut _ _ c2 (hs₂.extBut _ _ c3 (hs₁.extBut _ _ c1 e))))
  have h1₅:S1 (k+1) h₅:=D1.frame _ _ _ h1₂ fun c hc o e=>hs₅.extBut _ _ (fun q=>Z.o1 (q ▸ hc)) (hs₄.extBut _ _ (fun q=>Z.a1 (q ▸ hc)) (hs₃.extBut _ _ (fun q=>Z.o1 (q ▸ hc)) e))
  have h2₅:S2 (k+1) h₅:=D2.frame _ _ _ h2₄ fun c hc o e=>hs₅.extBut _ _ (fun q=>Z.o2 (q ▸ hc)) e
  have hzlt:z < h₅.objs.size:=Heap.lt_size hz₅
  show wpAny _ _ (Builtin.SmallTypes.ownedTupleHandOut (.ref z) (.ref h₅.objs.size) >>= _) _ _ _
  refine wpAny_bind ?_
  unfold Builtin.SmallTypes.ownedTupleHandOut
  have hz₆:IsZip (h₅.push { cls:=.type "tuple", data:=.seq #[x,y] }) z TI TO .ellipsis:=Heap.get?_push_of_some _ hz₅
  refine wpAny_bind (wpAny_setField_rec hz₆ (by simp) fun h₇ hz₇ hs₇=>?_)
  replace hz₇:IsZip h₇ z TI TO (rawInt h₅.objs.size):=hz₇
  replace hs₇:Heap.SameBut z (h₅.push { cls:=.type "tuple", data:=.seq #[x,y] }) h₇:=hs₇
  refine wpAny_setField_rec hz₇ (by simp) fun h₈ hz₈ hs₈=>?_
  replace hz₈:IsZip h₈ z TI TO (rawInt h₅.objs.size):=hz₈
  replace hs₈:Heap.SameBut z h₇ h₈:=hs₈
  have up:∀ c o,c≠z→h₅.get? c=some o→h₈.get? c=some o:=fun c o c1 e=>hs₈.extBut _ _ c1 (hs₇.extBut _ _ c1 (Heap.get?_push_of_some _ e))
  have hT₈:IsPair h₈ h₅.objs.size x y:=hs₈.extBut _ _ (Nat.ne_of_gt hzlt) (hs₇.extBut _ _ (Nat.ne_of_gt hzlt) (Heap.get?_push_size _ rfl))
  have hz8:h₈.objs.size=h₅.objs.size+1:=by rw [hs₈.1,hs₇.1,Heap.size_push]
  rw [hsz] at hz₈ hT₈ hz8
  refine wpAny_pure ⟨_,rfl,?_⟩
  show Q (.ref h₅.objs.size) _
  rw [hsz]
  exact hQ x y h₈ tk₄ hx hy hz₈ (up _ _ Z.TOz hTO₅) (D1.frame _ _ _ h1₅ fun c hc o e=>up c o (fun q=>Z.z1 (q ▸ hc)) e) (D2.frame _ _ _ h2₅ fun c hc o e=>up c o (fun q=>Z.z2 (q ▸ hc)) e) hT₈ hz8 fun c o c1 c2 c3 c4 e=>up c o c1 (hk₅ c o c1 c2 c3 c4 e)
theorem zip_next_endD {z TI TO i1 i2:Addr} {fp1 fp2:List Addr} {n1 n2 k:Nat} {P1 P2:Nat→Value→Prop} {S1 S2:Nat→Heap→Prop} {a b:Value} {Q:Fin→Shared→Prop} (Z:ZA z TI TO i1 i2 fp1 fp2)
    (D1:Draws prog w A i1 fp1 n1 P1 S1) (D2:Draws prog w A i2 fp2 n2 P2 S2)
    (hz:IsZip s.heap z TI TO .none) (hTI:IsPair s.heap TI (.ref i1) (.ref i2)) (hTO:IsPair s.heap TO a b) (h1:S1 k s.heap) (h2:S2 k s.heap) (hend:n1=k∨(k < n1∧n2=k))
    (hE:∀ h' e tk,(∀ c o,c≠z→c≠TO→c≠i1→c≠i2→s.heap.get? c=some o→h'.get? c=some o)→(∃ o,h'.get? e=some o∧o.cls=.type "StopIteration")→E (.ref e) { s with heap:=h',toks:=tk }) :
    wpAny (model prog w) A (Builtin.«zip.__next__» ⟨[.ref z],[]⟩) Q E s:=by
  obtain ⟨hp,g,d,tk₀,os⟩:=s
  show wpAny _ _ (field (.ref z) 2 >>= _) _ _ _
  refine wpAny_bind (wpAny_field hz rfl (x:=.bool false) rfl ?_)
  show wpAny _ _ (field (.ref z) 3 >>= _) _ _ _
  refine wpAny_bind (wpAny_field hz rfl (x:=.ref TI) rfl ?_)
  refine wpAny_bind (wpAny_seqItems hTI rfl ?_)
  show wpAny _ _ (Builtin.SmallTypes.ownedTupleIsFree (.ref z) >>= _) _ _ _
  refine wpAny_bind ?_
  unfold Builtin.SmallTypes.ownedTupleIsFree
  refine wpAny_bind (wpAny_field hz rfl (x:=.none) rfl (wpAny_pure ?_))
  simp only [if_true]
  refine wpAny_bind (wpAny_rule ?_)
  refine wpAny_bind (wpAny_field hz rfl (x:=.ref TO) rfl ?_)
  refine wpAny_bind (wpAny_setField_rec hz (by simp) fun h₁ hz₁ hs₁=>?_)
  replace hz₁:IsZip h₁ z TI TO .ellipsis:=hz₁
  replace hs₁:Heap.SameBut z hp h₁:=hs₁
  refine wpAny_bind ?_
  simp only [List.zipIdx_cons,List.zipIdx_nil,List.forIn_cons,List.forIn_nil]
  refine wpAny_bind (wpAny_bind (wpAny_onRaise ?_))
  show wpAny _ _ (Builtin.SmallTypes.nextOf (.ref i1) >>= _) _ _ _
  have h1₁:S1 k h₁:=D1.frame _ _ _ h1 fun c hc o e=>hs₁.extBut _ _ (fun q=>Z.z1 (q ▸ hc)) e
  rcases hend with hn | ⟨l1,hn⟩
  · subst hn
    refine wpAny_bind (D1.done _ _ _ h1₁ fun h₂ e hs₂ he=>?_)
    obtain ⟨oe,hoe,hce⟩:=he
    replace hs₂:Heap.ExtBut i1 h₁ h₂:=hs₂
    have hz₂:IsZip h₂ z TI TO .ellipsis:=hs₂ _ _ Z.i1z.symm hz₁
    have hez:e≠z:=fun x=>by subst x;rw [hz₂] at hoe;cases hoe;simp at hce
    exact wpAny_setField_rec hz₂ (by simp) fun h₃ _ hs₃=>hE h₃ e _ (fun c o c1 _ c3 _ x=>hs₃.extBut _ _ c1 (hs₂ _ _ c3 (hs₁.extBut _ _ c1 x))) ⟨oe,hs₃.extBut _ _ hez hoe,hce⟩
  · subst hn
    refine wpAny_bind (D1.item _ _ _ _ l1 h1₁ fun x h₂ tk₂ hx h1₂ hs₂=>wpAny_pure ?_)
    replace hs₂:Heap.SameBut i1 h₁ h₂:=hs₂
    have hTO₂:IsPair h₂ TO a b:=hs₂.extBut _ _ Z.TOi1 (hs₁.extBut _ _ Z.TOz hTO)
    refine wpAny_bind (wpAny_seqItems (s:=⟨h₂,g,d,tk₂,os⟩) hTO₂ rfl ?_)
    refine wpAny_bind (wpAny_updateSeq_pair (s:=⟨h₂,g,d,tk₂,os⟩) hTO₂ fun h₃ hTO₃ hs₃=>?_)
    replace hs₃:Heap.SameBut TO h₂ h₃:=hs₃
    refine wpAny_bind (wpAny_letGo (wpAny_pure ?_))
    refine wpAny_bind (wpAny_bind (wpAny_onRaise ?_))
    show wpAny _ _ (Builtin.SmallTypes.nextOf (.ref i2) >>= _) _ _ _
    have h2₃:=D2.frame _ _ h₃ h2 fun c hc o e=>hs₃.extBut _ _ (fun q=>Z.o2 (q ▸ hc)) (hs₂.extBut _ _ (fun q=>Z.a2 (q ▸ hc)) (hs₁.extBut _ _ (fun q=>Z.z2 (q ▸ hc)) e))
    refine wpAny_bind (D2.done _ _ _ h2₃ fun h₄ e hs₄ he=>?_)
    obtain ⟨oe,hoe,hce⟩:=he
    replace hs₄:Heap.ExtBut i2 h₃ h₄:=hs₄
    have hz₄:IsZip h₄ z TI TO .ellipsis:=hs₄ _ _ Z.i2z.symm (hs₃.extBut _ _ Z.TOz.symm (hs₂.extBut _ _ Z.i1z.symm hz₁))
    have hez:e≠z:=fun x=>by subst x;rw [hz₄] at hoe;cases hoe;simp at hce
    exact wpAny_setField_rec hz₄ (by simp) fun h₅ _ hs₅=>hE h₅ e _ (fun c o c1 c2 c3 c4 x=>hs₅.extBut _ _ c1 (hs₄ _ _ c4 (hs₃.extBut _ _ c2 (hs₂.extBut _ _ c3 (hs₁.extBut _ _ c1 x))))) ⟨oe,hs₅.extBut _ _ hez hoe,hce⟩
end
def Itz (κ1 κ2:SK):It:=
  ⟨fun i H=>∃ xs ys x y,κ1.has H xs∧κ2.has H ys∧xs[i]?=some x∧ys[i]?=some y,
   fun i H v H'=>∃ p x y,v=.ref p∧H p=none∧H'=upd H p (.tup [x,y])∧(∀ xs,κ1.has H xs→xs[i]?=some x)∧∀ ys,κ2.has H ys→ys[i]?=some y,
   fun i H=>∃ xs ys,κ1.has H xs∧κ2.has H ys∧(xs.length=i∨(i < xs.length∧ys.length=i))⟩
theorem turn_zip {P:Program} {w:World} {K:PySem.W.Frag} {elts:List Expr} {x1:Nat} {tpos:Pos} (κ1 κ2:SK) (z TI TO i1 i2:Addr) (hnd:[z,TI,TO,i1,i2].Nodup) :
    Turn P w K (.Tuple elts x1 tpos) (Itz κ1 κ2) [z,TI,TO,i1,i2] z (fun i h=>IsZip h z TI TO .none∧IsPair h TI (.ref i1) (.ref i2)∧(∃ a b,IsPair h TO a b)∧κ1.own i1 i h∧κ2.own i2 i h) where
  mem:=by simp
  obj:=fun i h st b hb=>by
    obtain ⟨hz,hTI,⟨a,c,hTO⟩,h1,h2⟩:=st
    simp only [List.mem_cons,List.not_mem_nil,or_false] at hb
    rcases hb with rfl | rfl | rfl | rfl | rfl
    · exact ⟨_,hz,fun v y=>by have y':Data.fields _=Data.cell v:=y;cases y'⟩
    · exact ⟨_,hTI,fun v y=>by have y':Data.seq _ _=Data.cell v:=y;cases y'⟩
    · exact ⟨_,hTO,fun v y=>by have y':Data.seq _ _=Data.cell v:=y;cases y'⟩
    · obtain ⟨o,e1,e2,_⟩:=SK.own_obj h1;exact ⟨o,e1,e2⟩
    · obtain ⟨o,e1,e2,_⟩:=SK.own_obj h2;exact ⟨o,e1,e2⟩
  keep:=fun i h h' st k=>by
    obtain ⟨hz,hTI,⟨a,c,hTO⟩,h1,h2⟩:=st
    exact ⟨k z (by simp) _ hz,k TI (by simp) _ hTI,⟨a,c,k TO (by simp) _ hTO⟩,SK.own_at h1 fun o q=>k i1 (by simp) o q,SK.own_at h2 fun o q=>k i2 (by simp) o q⟩
  item:=by
    intro X hP hw hK hc i pins s σ H E I hf st hg
    subst hP hw hK
    obtain ⟨hz,hTI,⟨a,c,hTO⟩,h1,h2⟩:=st
    obtain ⟨xs,ys,x,y,hx,hy,hxi,hyi⟩:=hg
    have l1:i < xs.length:=(List.getElem?_eq_some_iff.mp hxi).1
    have l2:i < ys.length:=(List.getElem?_eq_some_iff.mp hyi).1
    have hh:X.A.in1.handled=none:=I.ok.hd hc
    obtain ⟨P1,S1,D1,s1,r1,w1⟩:=sk_draws (A:=X.A.in1) I hx h1 (hf i1 (by simp)).1 hh
    obtain ⟨P2,S2,D2,s2,r2,w2⟩:=sk_draws (A:=X.A.in1) I hy h2 (hf i2 (by simp)).1 hh
    simp only [List.nodup_cons,List.mem_cons,List.not_mem_nil,or_false,not_or] at hnd
    obtain ⟨⟨n1,n2,n3,n4⟩,⟨n5,n6,n7⟩,⟨n8,n9⟩,n10,_⟩:=hnd
    have nb:∀ {κ:SK} {zs:List V} {b it:Addr},κ.has H zs→H b=none→b≠it→b ∉ it :: κ.box:=fun {κ zs b it} hκ hb hne q=>by
      rcases List.mem_cons.mp q with q | q
      · exact hne q
      · exact SK.box_some hκ q hb
    have Z:ZA z TI TO i1 i2 (i1 :: κ1.box) (i2 :: κ2.box):=
      { TIz:=Ne.symm n1,TOz:=Ne.symm n2,i1z:=Ne.symm n3,i2z:=Ne.symm n4,TITO:=n5,TIi1:=n6,TIi2:=n7,TOi1:=n8,TOi2:=n9,i12:=n10
        z1:=nb hx (hf z (by simp)).1 n3,z2:=nb hy (hf z (by simp)).1 n4,o1:=nb hx (hf TO (by simp)).1 n8,o2:=nb hy (hf TO (by simp)).1 n9,a1:=nb hx (hf i2 (by simp)).1 (Ne.symm n10),a2:=nb hy (hf i1 (by simp)).1 n10 }
    have hT:s.TypeIs (.ref z) "zip" := ⟨_,hz,rfl⟩
    unfold pyNext
    refine wpAny_bind (wpAny_attempt (wpAny_callSpecial?_slot (name:=Str.ofString "__next__") hT F.slot_zip_next
      (wpAny_call_entry F.slot_zip_next hT F.entry_zip_next
        (zip_next_itemD Z D1 D2 hz hTI hTO s1 s2 l1 l2 fun u v h' tk hu hv hz' hTO' s1' s2' hT' hsz hk=>wpAny_pure ⟨_,rfl,?_⟩) (F.args_zip_next_1 _))))
    refine wpAny_letOwnedTupleGo_zip hz' fun h'' hz'' hs''=>?_
    obtain ⟨x',hx',rx⟩:=r1 i u hu
    obtain ⟨y',hy',ry⟩:=r2 i v hv
    have ex:x'=x:=Option.some.inj (hx'.symm.trans hxi)
    have ey:y'=y:=Option.some.inj (hy'.symm.trans hyi)
    subst ex ey
    have kk:∀ b ob,b ∉ [z,TI,TO,i1,i2]→s.heap.get? b=some ob→h''.get? b=some ob:=fun b ob hb q=>
      (hs''.2 b (fun e=>hb (by simp [e]))).trans (hk b ob (fun e=>hb (by simp [e])) (fun e=>hb (by simp [e])) (fun e=>hb (by simp [e])) (fun e=>hb (by simp [e])) q)
    have ne:s.heap.objs.size≠z:=Nat.ne_of_gt (Heap.lt_size hz)
    have hT'':h''.get? s.heap.objs.size=some { cls:=.type "tuple", data:=.seq #[u,v] }:=(hs''.2 _ ne).trans hT'
    refine ⟨.ref s.heap.objs.size,upd H s.heap.objs.size (.tup [x',y']),I.turnedNew (tk:=tk) hf kk (Nat.le_refl _) ⟨⟨(by show 2≤sizeLine;decide),_,hT'',rfl⟩,[u,v],.cons rx (.cons ry .nil),_,hT'',rfl,0,rfl⟩,rfl,
      ⟨_,x',y',rfl,I.hok.fresh (Nat.le_refl _),rfl,fun zs hzs=>by rw [SK.inj hzs hx];exact hxi,fun zs hzs=>by rw [SK.inj hzs hy];exact hyi⟩,
      ⟨hz'',hs''.extBut _ _ (Ne.symm n1) (hk _ _ (Ne.symm n1) n5 n6 n7 hTI),⟨_,_,hs''.extBut _ _ (Ne.symm n2) hTO'⟩,SK.own_at (w1 _ _ s1') fun o q=>(hs''.2 i1 (Ne.symm n3)).trans q,SK.own_at (w2 _ _ s2') fun o q=>(hs''.2 i2 (Ne.symm n4)).trans q⟩,fun b hb=>?_⟩
    have hob:∃ o,s.heap.get? b=some o:=by
      simp only [List.mem_cons,List.not_mem_nil,or_false] at hb
      rcases hb with rfl | rfl | rfl | rfl | rfl
      · exact ⟨_,hz⟩
      · exact ⟨_,hTI⟩
      · exact ⟨_,hTO⟩
      · obtain ⟨o,e1,_⟩:=SK.own_obj h1;exact ⟨o,e1⟩
      · obtain ⟨o,e1,_⟩:=SK.own_obj h2;exact ⟨o,e1⟩
    obtain ⟨o,hob⟩:=hob
    rw [upd_ne (Nat.ne_of_lt (Heap.lt_size hob))]
    exact (hf b hb).1
  done:=by
    intro X hP hw hK hc i pins s σ H E I hf st hg
    subst hP hw hK
    obtain ⟨hz,hTI,⟨a,c,hTO⟩,h1,h2⟩:=st
    obtain ⟨xs,ys,hx,hy,hend⟩:=hg
    have hh:X.A.in1.handled=none:=I.ok.hd hc
    obtain ⟨P1,S1,D1,s1,r1,w1⟩:=sk_draws (A:=X.A.in1) I hx h1 (hf i1 (by simp)).1 hh
    obtain ⟨P2,S2,D2,s2,r2,w2⟩:=sk_draws (A:=X.A.in1) I hy h2 (hf i2 (by simp)).1 hh
    simp only [List.nodup_cons,List.mem_cons,List.not_mem_nil,or_false,not_or] at hnd
    obtain ⟨⟨n1,n2,n3,n4⟩,⟨n5,n6,n7⟩,⟨n8,n9⟩,n10,_⟩:=hnd
    have nb:∀ {κ:SK} {zs:List V} {b it:Addr},κ.has H zs→H b=none→b≠it→b ∉ it :: κ.box:=fun {κ zs b it} hκ hb hne q=>by
      rcases List.mem_cons.mp q with q | q
      · exact hne q
      · exact SK.box_some hκ q hb
    have Z:ZA z TI TO i1 i2 (i1 :: κ1.box) (i2 :: κ2.box):=
      { TIz:=Ne.symm n1,TOz:=Ne.symm n2,i1z:=Ne.symm n3,i2z:=Ne.symm n4,TITO:=n5,TIi1:=n6,TIi2:=n7,TOi1:=n8,TOi2:=n9,i12:=n10
        z1:=nb hx (hf z (by simp)).1 n3,z2:=nb hy (hf z (by simp)).1 n4,o1:=nb hx (hf TO (by simp)).1 n8,o2:=nb hy (hf TO (by simp)).1 n9,a1:=nb hx (hf i2 (by simp)).1 (Ne.symm n10),a2:=nb hy (hf i1 (by simp)).1 n10 }
    have hT:s.TypeIs (.ref z) "zip" := ⟨_,hz,rfl⟩
    unfold pyNext
    refine wpAny_bind (wpAny_attempt (wpAny_callSpecial?_slot (name:=Str.ofString "__next__") hT F.slot_zip_next
      (wpAny_call_entry F.slot_zip_next hT F.entry_zip_next (zip_next_endD Z D1 D2 hz hTI hTO s1 s2 hend fun h' e tk hk he=>?_) (F.args_zip_next_1 _))))
    obtain ⟨o,ho,hcl⟩:=he
    refine wpAny_bind (wpAny_isInstance (T := "StopIteration") (b:=true) ⟨o,ho,hcl⟩ isSubtype_stop ?_)
    exact wpAny_pure ⟨rfl,I.turnedMany hf fun b ob hb q=>hk b ob (fun e=>hb (by simp [e])) (fun e=>hb (by simp [e])) (fun e=>hb (by simp [e])) (fun e=>hb (by simp [e])) q⟩
  self:=fun _ _ _ _ _ st h=>wpAny_pyIter_zip st.1 h
def itObj (v:Value):SK→Obj
  | .lst _=>{ cls:=.type "list_iterator", data:=.fields #[v,.int 0 0] }
  | .tup _=>{ cls:=.type "tuple_iterator", data:=.fields #[v,.int 0 0] }
  | .str x=>{ cls:=.type (strIterType x),data:=.fields #[v,.int 0 0] }
theorem itObj_live (v:Value) (κ:SK):(itObj v κ).isFreed=false:=by cases κ <;> rfl
def Iters (h:Heap) (v:Value) (o:Obj):Prop:=∀ (prog:Program) (w:World) (A:Around) (E:Value→Shared→Prop) (s:Shared) (Q:Value→Shared→Prop),(∀ b ob,h.get? b=some ob→s.heap.get? b=some ob)→Q (.ref s.heap.objs.size) { s with heap:=s.heap.push o }→wpAny (model prog w) A (pyIter v) Q E s
theorem sk_iters {X:Cx} {pins:List (Addr × Obj)} {σ:St} {H:Hp} {s:Shared} {κ:SK} {xs:List V} {u:Value} (I:Inv X pins σ H s) (hv:κ.has H xs) (r:RelV κ.val u):Iters s.heap u (itObj u κ):=by
  intro prog w A E s' Q k h
  cases κ with
  | lst a=>
    cases (show u=Value.ref a from r)
    obtain ⟨_,its,n,rr,e⟩:=Rd.ok hv I.hok
    exact wpAny_pyIter_list (items:=its.toArray) ⟨_,k _ _ e,rfl,n,rfl⟩ h
  | tup a=>
    cases (show u=Value.ref a from r)
    obtain ⟨_,its,rr,o,e,c⟩:=Rd.ok hv I.hok
    exact wpAny_pyIter_tuple (items:=its.toArray) ⟨o,k _ _ e,c⟩ h
  | str x=>
    obtain ⟨t,q⟩:=(show ∃ t,u=Value.str x t from r)
    subst q
    exact wpAny_pyIter_strU h
theorem sk_own0 {κ:SK} {u:Value} {h h':Heap} {it:Addr} (r:RelV κ.val u) (e:h.get? it=some (itObj u κ)):κ.own it 0 h:=by
  cases κ with
  | lst a=>cases (show u=Value.ref a from r);exact ⟨_,e,rfl,rfl⟩
  | tup a=>cases (show u=Value.ref a from r);exact ⟨_,e,rfl,rfl⟩
  | str x=>obtain ⟨t,q⟩:=(show ∃ t,u=Value.str x t from r);subst q;exact ⟨t,_,e,rfl,rfl⟩
abbrev zH1 (h:Heap) (o1:Obj):Heap:=h.push o1
abbrev zH2 (h:Heap) (o1 o2:Obj):Heap:=(zH1 h o1).push o2
abbrev zH3 (h:Heap) (o1 o2:Obj):Heap:=(zH2 h o1 o2).push { cls:=.type "tuple", data:=.seq #[.ref h.objs.size,.ref (zH1 h o1).objs.size] }
abbrev zH4 (h:Heap) (o1 o2:Obj):Heap:=(zH3 h o1 o2).push { cls:=.type "tuple", data:=.seq #[.none,.none] }
abbrev zH5 (h:Heap) (o1 o2:Obj):Heap:=(zH4 h o1 o2).push { cls:=.type "zip", data:=.fields #[.none,.bool false,.bool false,.ref (zH2 h o1 o2).objs.size,.ref (zH3 h o1 o2).objs.size] }
set_option maxHeartbeats 4000000 in
theorem meets_zipG (v1 v2:Value) (o1 o2:Obj) :
    Meets (Builtin.«zip.__new__» ⟨[.type "zip", v1,v2],[]⟩) (fun _ R s=>Iters s.heap v1 o1∧Iters s.heap v2 o2 ∧
      R (.ok (.ret (.ref (zH4 s.heap o1 o2).objs.size))) { s with heap:=zH5 s.heap o1 o2 }):=
  .of_wp fun prog w A R s h=>by
    obtain ⟨hp,g,d,tk,os⟩:=s;obtain ⟨hl1,hl2,h⟩:=h
    have hsub:=sub_zip
    have g1:∀ (A:Around) (E:Value→Shared→Prop) (Q:Value→Shared→Prop),Q (.ref hp.objs.size) ⟨hp.push o1,g,d,tk,os⟩→wpAny (model prog w) A (pyIter v1) Q E ⟨hp,g,d,tk,os⟩:=fun A E Q q=>hl1 prog w A E ⟨hp,g,d,tk,os⟩ Q (fun _ _ e=>e) q
    have g2:∀ (A:Around) (E:Value→Shared→Prop) (Q:Value→Shared→Prop),Q (.ref (hp.push o1).objs.size) ⟨(hp.push o1).push o2,g,d,tk,os⟩→wpAny (model prog w) A (pyIter v2) Q E ⟨hp.push o1,g,d,tk,os⟩:=fun A E Q q=>hl2 prog w A E ⟨hp.push o1,g,d,tk,os⟩ Q (fun _ _ e=>Heap.get?_push_of_some _ e) q
    wp_walk using g1 _ _ _,g2 _ _ _
    exact ⟨_,rfl,h⟩
theorem call_zipG {prog:Program} {w:World} {A:Around} {E:Value→Shared→Prop} {s:Shared} {v1 v2:Value} {o1 o2:Obj} {Q:Value→Shared→Prop} (f1:o1.isFreed=false) (f2:o2.isFreed=false) (hl1:Iters s.heap v1 o1) (hl2:Iters s.heap v2 o2)
    (h:∀ h',IsZip h' (s.heap.objs.size+4) (s.heap.objs.size+2) (s.heap.objs.size+3) .none→IsPair h' (s.heap.objs.size+2) (.ref s.heap.objs.size) (.ref (s.heap.objs.size+1)) →
      IsPair h' (s.heap.objs.size+3) .none .none→h'.get? s.heap.objs.size=some o1→h'.get? (s.heap.objs.size+1)=some o2 →
      (∀ c o,s.heap.get? c=some o→h'.get? c=some o)→Q (.ref (s.heap.objs.size+4)) { s with heap:=h' }) :
    wpAny (model prog w) A (call (.type "zip") [v1,v2]) Q E s:=by
  refine callType_new F.called_zip (by decide) (F.typeCall_zip_2 _ _) (F.newCall_zip_2 _ _) (fun obj=>F.args_object_init_3 obj _ _) F.entry_zip_new
    (meets_zipG v1 v2 o1 o2) ⟨hl1,hl2,?_⟩
  have z1:(zH1 s.heap o1).objs.size=s.heap.objs.size+1:=Heap.size_push ..
  have z2:(zH2 s.heap o1 o2).objs.size=s.heap.objs.size+2:=by rw [Heap.size_push,z1]
  have z3:(zH3 s.heap o1 o2).objs.size=s.heap.objs.size+3:=by rw [Heap.size_push,z2]
  have z4:(zH4 s.heap o1 o2).objs.size=s.heap.objs.size+4:=by rw [Heap.size_push,z3]
  have g5:(zH5 s.heap o1 o2).get? (zH4 s.heap o1 o2).objs.size=some _:=Heap.get?_push_size _ rfl
  have g4:(zH5 s.heap o1 o2).get? (zH3 s.heap o1 o2).objs.size=some _:=Heap.get?_push_of_some _ (Heap.get?_push_size _ rfl)
  have g3:(zH5 s.heap o1 o2).get? (zH2 s.heap o1 o2).objs.size=some _:=Heap.get?_push_of_some _ (Heap.get?_push_of_some _ (Heap.get?_push_size _ rfl))
  have g2:(zH5 s.heap o1 o2).get? (zH1 s.heap o1).objs.size=some _:=Heap.get?_push_of_some _ (Heap.get?_push_of_some _ (Heap.get?_push_of_some _ (Heap.get?_push_size _ f2)))
  have g1:(zH5 s.heap o1 o2).get? s.heap.objs.size=some _:=Heap.get?_push_of_some _ (Heap.get?_push_of_some _ (Heap.get?_push_of_some _ (Heap.get?_push_of_some _ (Heap.get?_push_size _ f1))))
  show _∧_
  rw [z2,z3,z4] at g5
  rw [z1,z2] at g3
  rw [z3] at g4
  rw [z1] at g2
  rw [z4]
  exact ⟨⟨_,g5,rfl⟩,h _ g5 g3 g4 g1 g2 fun c o x=>
    Heap.get?_push_of_some _ (Heap.get?_push_of_some _ (Heap.get?_push_of_some _ (Heap.get?_push_of_some _ (Heap.get?_push_of_some _ x))))⟩
section
variable {X:Cx}
def iZip (ta:TA):TI:=fun σ H R=>ta σ H fun vs H1=>∃ κ1 κ2:SK,vs=[κ1.val,κ2.val]∧(∃ xs,κ1.has H1 xs)∧(∃ ys,κ2.has H1 ys)∧R (Itz κ1 κ2) H1
theorem pi_zip {a b:Expr} {ta:TA} {p pos:Pos} {elts:List Expr} {x1:Nat} {tpos:Pos} (hg:Gl X "zip") (hm:X.mg "zip" = none) (ha:PA X [a,b] ta)
    (hs:starEach [a,b] X.env=[(false,eval a X.env),(false,eval b X.env)]:=by rfl) (hs2:starEach [b] X.env=[(false,eval b X.env)]:=by rfl):PI X (.Tuple elts x1 tpos) (.Call (.Name "zip" p) [a,b] [] pos) (iZip ta):=by
  intro pins s σ H R I h
  refine Call_ (ld_blt I hg hm boot_zip (PyProof.Rows.callWith_type1 (thn (ha pos pins s σ H _ I h) fun us s1 ⟨vs,H1,I1,r1,q1⟩=>?_) (by rw [hs,hs2]) (by rw [hs2];rfl)))
  obtain ⟨κ1,κ2,e,⟨xs,hx⟩,⟨ys,hy⟩,q⟩:=q1
  subst e
  obtain ⟨u,v,rfl,ru,rv⟩:=vals2 r1
  refine call_zipG (itObj_live u κ1) (itObj_live v κ2) (sk_iters I1 hx ru) (sk_iters I1 hy rv) fun h' hz hTI hTO h1 h2 hk=>?_
  refine wpAny_pyIter_zip hz ⟨s1.heap.objs.size+4,[s1.heap.objs.size+4,s1.heap.objs.size+2,s1.heap.objs.size+3,s1.heap.objs.size,s1.heap.objs.size+1],_,_,H1,rfl,I1.kept (t':=s1.toks) hk,
    turn_zip κ1 κ2 _ _ _ _ _ (by simp),⟨hz,hTI,⟨_,_,hTO⟩,sk_own0 (h':=h') ru h1,sk_own0 (h':=h') rv h2⟩,fun b hb=>?_,q⟩
  have hge:s1.heap.objs.size≤b:=by
    simp only [List.mem_cons,List.not_mem_nil,or_false] at hb
    rcases hb with rfl | rfl | rfl | rfl | rfl <;> first | exact Nat.le_add_right _ _ | exact Nat.le_refl _
  exact I1.fpOk hge (I1.hok.fresh hge)
end
theorem for_zip {κ1 κ2:SK} {xs ys:List V} {g:TG} {tb:TS} {D:Ends} {σ:St} {H:Hp} (Pv:Nat→St→Hp→Prop) (h0:Pv 0 σ H) (hlen:xs.length=ys.length) (hl:∀ i σ H,i≤xs.length→Pv i σ H→κ1.has H xs∧κ2.has H ys)
    (hs:∀ i x y σ H p,xs[i]?=some x→ys[i]?=some y→Pv i σ H→H p=none→g (.ref p) σ (upd H p (.tup [x,y])) fun σ2 H2=>tb { D with nx:=Pv (i+1),ct:=Pv (i+1),bk:=D.nx } σ2 H2) (hd:∀ σ H,Pv xs.length σ H→D.nx σ H) :
    ∃ W:Nat→Nat→St→Hp→Prop,(∃ m,W 0 m σ H)∧∀ i m σ H,W i m σ H →
      ((Itz κ1 κ2).stop i H∧D.nx σ H)∨((Itz κ1 κ2).go i H∧∃ N:St→Hp→Prop,(∀ σ' H',N σ' H'→∃ m',m' < m∧W (i+1) m' σ' H')∧∀ x H',(Itz κ1 κ2).yld i H x H'→g x σ H' fun σ2 H2=>tb { D with nx:=N,ct:=N,bk:=D.nx } σ2 H2):=by
  refine ⟨fun i m σ H=>i≤xs.length∧m=xs.length - i∧Pv i σ H,⟨xs.length,Nat.zero_le _,rfl,h0⟩,fun i m σ H ⟨hi,hm,hp⟩=>?_⟩
  obtain ⟨a1,a2⟩:=hl i σ H hi hp
  rcases Nat.lt_or_ge i xs.length with lt | ge
  · have lt2:i < ys.length:=by omega
    refine .inr ⟨⟨xs,ys,xs[i],ys[i],a1,a2,List.getElem?_eq_getElem lt,List.getElem?_eq_getElem lt2⟩,Pv (i+1),fun σ' H' hn=>⟨xs.length - (i+1),by omega,by omega,rfl,hn⟩,fun x H' hy=>?_⟩
    obtain ⟨p,x',y',rfl,hpn,rfl,e1,e2⟩:=hy
    exact hs i x' y' σ H p (e1 xs a1) (e2 ys a2) hp hpn
  · have e:i=xs.length:=by omega
    subst e
    exact .inl ⟨⟨xs,ys,a1,a2,.inl rfl⟩,hd σ H hp⟩
theorem for_enum {κ:SK} {xs:List V} {g:TG} {tb:TS} {D:Ends} {σ:St} {H:Hp} (Pv:Nat→St→Hp→Prop) (h0:Pv 0 σ H) (hl:∀ i σ H,i≤xs.length→Pv i σ H→κ.has H xs)
    (hs:∀ (i:Nat) x σ H p,xs[i]?=some x→Pv i σ H→H p=none→g (.ref p) σ (upd H p (.tup [.int i,x])) fun σ2 H2=>tb { D with nx:=Pv (i+1),ct:=Pv (i+1),bk:=D.nx } σ2 H2) (hd:∀ σ H,Pv xs.length σ H→D.nx σ H) :
    ∃ W:Nat→Nat→St→Hp→Prop,(∃ m,W 0 m σ H)∧∀ i m σ H,W i m σ H →
      ((Ite κ).stop i H∧D.nx σ H)∨((Ite κ).go i H∧∃ N:St→Hp→Prop,(∀ σ' H',N σ' H'→∃ m',m' < m∧W (i+1) m' σ' H')∧∀ x H',(Ite κ).yld i H x H'→g x σ H' fun σ2 H2=>tb { D with nx:=N,ct:=N,bk:=D.nx } σ2 H2):=by
  refine ⟨fun i m σ H=>i≤xs.length∧m=xs.length - i∧Pv i σ H,⟨xs.length,Nat.zero_le _,rfl,h0⟩,fun i m σ H ⟨hi,hm,hp⟩=>?_⟩
  have a1:=hl i σ H hi hp
  rcases Nat.lt_or_ge i xs.length with lt | ge
  · refine .inr ⟨⟨xs,xs[i],a1,List.getElem?_eq_getElem lt⟩,Pv (i+1),fun σ' H' hn=>⟨xs.length - (i+1),by omega,by omega,rfl,hn⟩,fun x H' hy=>?_⟩
    obtain ⟨p,x',rfl,hpn,rfl,e1⟩:=hy
    exact hs i x' σ H p (e1 xs a1) hp hpn
  · have e:i=xs.length:=by omega
    subst e
    exact .inl ⟨⟨xs,a1,rfl⟩,hd σ H hp⟩
theorem call_isinst {X:Cx}:CallR X (.builtin "isinstance") (fun vs H Q=>∃ x t T b,vs=[x,.ty T]∧TyOf X.K H x t∧PySem.W.kitOne X.K t (.type T)=some b∧Q (.bl b) H):=by
  intro pins s σ H xs us Q I r h
  obtain ⟨x,t,T,b,rfl,ty,e,q⟩:=h
  obtain ⟨u,v,rfl,ru,rv⟩:=vals2 r
  cases (show v=Value.type T from rv)
  exact isinst_ok I ru ty e fun tk=>⟨.bl b,H,I.tok tk,rfl,q⟩
end L2
namespace L2
open PySem PySem.Spec PyProof.Rows
theorem csc {X:Cx} {scope:Scope} {NL:List Str} {ix:List Nat} (esc:Scope) (N:List Str) (h1:X.env.scope=esc:=by rfl) (h2:X.N=N:=by rfl) (c1:scope.kind=.function:=by rfl)
    (c2:∀ y∈scope.names,y.2≠.cell:=by decide +kernel) (c3:∀ y∈scope.names,y.2=.local→scope.names.lookup y.1=some .local:=by decide +kernel)
    (c4:∀ y∈scope.names,y.2=.free→esc.names.lookup y.1=some .cell∨esc.names.lookup y.1=some .free:=by decide +kernel)
    (c5:∀ j∈ix,(N[j]?).bind (fun x=>scope.names.lookup x)=some .free:=by decide +kernel):CompScope X scope NL ix where
  kind:=c1
  cell:=c2
  names:=c3
  free:=fun y hy hf=>by
    have:=c4 y hy hf
    rw [← h1] at this
    exact this
  cap:=fun j hj=>by
    have:=c5 j hj
    rw [h2]
    cases e:N[j]? with
    | none=>rw [e] at this;cases this
    | some x=>rw [e] at this;exact ⟨x,rfl,this⟩
def Has (P:Program) (w:World) (K:PySem.W.Frag) (mg:Str→Option Value) (base:Heap) (x:Str) (k:Nat) (ps:List Str) (sp:Sp):Prop:=
  ∃ f fd,FnOk P w K mg base CX0 k f fd ps sp∧Binds K fd ps []∧PySem.W.keepIn K (.ref f)=true∧mg x=some (.ref f)
section
variable {P:Program} {w:World} {K:PySem.W.Frag} {mg:Str→Option Value} {base:Heap}
theorem Has.mono {x:Str} {j k:Nat} {ps:List Str} {sp:Sp} (G:Has P w K mg base x j ps sp) (h:j≤k):Has P w K mg base x k ps sp:=
  let ⟨f,fd,F,r⟩:=G;⟨f,fd,F.mono h,r⟩
def Df (K:PySem.W.Frag) (mg:Str→Option Value) (x:Str) (st:Stmt):Prop:=∃ f fd,Fun K x x st f fd∧mg x=some (.ref f)
theorem Df.has {x:Str} {st:Stmt} {N ps:List Str} {k:Nat} {sp:Sp} (D:Df K mg x st) (S:FnScope N ps (defScope st))
    (hb:∀ (kV doc pm:Value) (an:Option Addr) (cdv ct:Value) (us:List Value),us.length=ps.length→bindArgs (PySem.W.fnOf x x (defArgs st) (defBody st) (defScope st) .none kV doc pm an cdv ct) ⟨us,[]⟩=pure (ps.zip us))
    (len:∀ vs H Q E,sp vs H Q E→vs.length=ps.length)
    (hbody:∀ (f:Addr) (cdv:Value) (A:Around) (outer:List Env) (s:Shared) (H:Hp) (vs:List V) (Q:VK) (E:XK),Room k (A.deeper (envOfC x (defScope st) s.heap.objs.size f cdv))→sp vs H Q E →
      ∃ t,PSs (cxOf CX0 P w K mg base N x (defScope st) f cdv A outer s H E).nox (defBody st) t∧t { nx:=fun _ H'=>Q .non H',rt:=Q } (start N vs) H):Has P w K mg base x (k+1) ps sp:=by
  obtain ⟨f,fd,F,m⟩:=D
  exact ⟨f,fd,F.ok S len fun cdv A outer s H vs Q E hr h=>hbody f cdv A outer s H vs Q E hr h,F.binds hb,F.kp,m⟩
end
theorem pe_callH {X:Cx} {x:Str} {k:Nat} {ps:List Str} {sp:Sp} {p pos:Pos} {e:Expr} {es:List Expr} {t:TA} (G:Has X.prog X.w X.K X.mg X.base x k ps sp) (hr:Room k X.A) (hg:Gl X x) (ha:PA X (e :: es) t)
    (hdb:(x == ("__debug__" : Str))=false:=by decide) (he:starEach (e :: es) X.env=(false,eval e X.env) :: starEach es X.env:=by rfl) (hpl:(backTo pos (starEach es X.env)).any (·.1)=false:=by rfl) :
    PE X (.Call (.Name x p) (e :: es) [] pos) (tCall sp [] E0 t):=by
  obtain ⟨f,fd,F,b,kp,m⟩:=G
  exact pe_call F hr hg m kp b .nil pass0 ha hdb he hpl
structure Blt (mg:Str→Option Value):Prop where
  len:mg "len" = none
  range:mg "range" = none
  zip:mg "zip" = none
  enumerate:mg "enumerate" = none
  max:mg "max" = none
  min:mg "min" = none
  int_:mg "int" = none
  str_:mg "str" = none
  bool_:mg "bool" = none
  list_:mg "list" = none
  tuple_:mg "tuple" = none
  isinstance:mg "isinstance" = none
section
variable {p q:Addr} {H H1 H2:Hp} {o:HO}
end
theorem bt_len:bootBuiltins "len" = some (.builtin "len"):=by decide +kernel
theorem bt_max:bootBuiltins "max" = some (.builtin "max"):=by decide +kernel
theorem bt_min:bootBuiltins "min" = some (.builtin "min"):=by decide +kernel
theorem bt_isinstance:bootBuiltins "isinstance" = some (.builtin "isinstance"):=by decide +kernel
theorem bt_int:bootBuiltins "int" = some (.type "int"):=by decide +kernel
theorem bt_bool:bootBuiltins "bool" = some (.type "bool"):=by decide +kernel
theorem bt_tuple:bootBuiltins "tuple" = some (.type "tuple"):=by decide +kernel
theorem Same.new {H0 H:Hp} {q:Addr} {o:HO} (h:Same H0 H) (hq:H q=none):Same H0 (upd H q o):=fun b u e=>by
  have:=h b u e
  rw [upd_ne (ne_of_none this hq)];exact this
theorem Same.write {H0 H:Hp} {q:Addr} {o:HO} (h:Same H0 H) (hq:H0 q=none):Same H0 (upd H q o):=fun b u e=>by
  rw [upd_ne (ne_of_none e hq)];exact h b u e
end L2
namespace L2
open PySem PySem.Spec PyProof.Rows
section
variable {X:Cx}
theorem pg_tupK (K:PySem.W.Frag) {es:List Expr} {k:Nat} {t:TGs} {n:Nat} {pos:Pos} (hc:X.calm=true) (h:PGs X es t) (hK:X.K=K:=by rfl) (hn:(assignEach es X.env).length=n:=by rfl)
    (hst:(assignEach es X.env).findIdx? (·.1)=none:=by rfl):PG X (.Tuple es k pos) (gTup K n t):=by
  subst hK
  exact pg_tup hc h hn hst
def eqAtJ (xs ys:List V) (j:Nat):Bool:=match xs[j]?,ys[j]? with
  | some x,some y=>eqV x y
  | _,_=>false
def eqVs (xs ys:List V):Bool:=xs.length == ys.length && (List.range xs.length).all (eqAtJ xs ys)
theorem eqAt_items {A:Around} {s:Shared} {xs ys:List V} {us ws:List Value} (r1:Vals xs us) (r2:Vals ys ws) (f1:xs.all flatV=true) (f2:ys.all flatV=true) (j:Nat) (h1:j < us.toArray.size) (h2:j < ws.toArray.size) :
    SeqAt.EqAt A s us.toArray[j] ws.toArray[j] (eqAtJ xs ys j):=by
  have g1:j < xs.length:=by rw [r1.length];simpa using h1
  have g2:j < ys.length:=by rw [r2.length];simpa using h2
  obtain ⟨u,e1,q1⟩:=r1.get (List.getElem?_eq_getElem g1)
  obtain ⟨v,e2,q2⟩:=r2.get (List.getElem?_eq_getElem g2)
  have d1:us.toArray[j]=u:=by
    rw [List.getElem?_eq_getElem (by simpa using h1)] at e1
    simpa using Option.some.inj e1
  have d2:ws.toArray[j]=v:=by
    rw [List.getElem?_eq_getElem (by simpa using h2)] at e2
    simpa using Option.some.inj e2
  rw [d1,d2]
  unfold eqAtJ
  rw [List.getElem?_eq_getElem g1,List.getElem?_eq_getElem g2]
  exact eqAt_V q1 q2 (List.all_eq_true.mp f1 _ (List.getElem_mem g1)) (List.all_eq_true.mp f2 _ (List.getElem_mem g2))
end
section
variable {NL:List Str} {ix:List Nat} {g:TG} {tt:TT} {te:TE} {σ:St} {H1:Hp} {Qs:Hp→Prop} {acc:Addr}
end
theorem kit_int_bool (K:PySem.W.Frag):PySem.W.kitOne K (.type "int") (.type "bool")=some false:=by rfl
theorem kit_same (K:PySem.W.Frag) (T:String):PySem.W.kitOne K (.type T) (.type T)=some true:=by
  unfold PySem.W.kitOne
  rw [if_pos (beq_self_eq_true _)]
section
variable {p q:Addr} {H H1 H2:Hp} {o:HO} {c d:Int}
end
end L2
namespace L2
open PySem PySem.Spec PyProof.Rows
section
variable {X:Cx}
theorem op_ne_lst (hu:X.A.units < cLine):OpR X (compareOp .NotEq) (fun x y H Q=>∃ a b xs ys,x=.ref a∧y=.ref b∧SqL X.K H a xs∧SqL X.K H b ys∧xs.all flatV=true∧ys.all flatV=true∧Q (.bl (!eqVs xs ys)) H):=by
  intro pins s σ H x y v u Q I rx ry h
  obtain ⟨a,b,xs,ys,rfl,rfl,h1,h2,f1,f2,q⟩:=h
  cases (show v=Value.ref a from rx)
  cases (show u=Value.ref b from ry)
  obtain ⟨us,r1,l1,_⟩:=I.list h1
  obtain ⟨ws,r2,l2,_⟩:=I.list h2
  have e1:=r1.length
  have e2:=r2.length
  by_cases hl:xs.length=ys.length
  · refine SeqAt.RcNeAt.lists (e:=eqAtJ xs ys) l1.isList l2.isList (by simp;omega) hu (fun j g1 g2=>eqAt_items r1 r2 f1 f2 j g1 g2) _ _ _ _ ⟨.bl _,H,I,rfl,?_⟩
    have:eqVs xs ys=(List.range us.toArray.size).all (eqAtJ xs ys):=by
      unfold eqVs
      rw [List.size_toArray,← e1,beq_iff_eq.mpr hl,Bool.true_and]
    rw [← this];exact q
  · refine SeqAt.RcNeAt.lists_lengths l1.isList l2.isList (by simp;omega) hu _ _ _ _ ⟨.bl _,H,I,rfl,?_⟩
    have:eqVs xs ys=false:=by
      unfold eqVs
      have:(xs.length == ys.length)=false:=by simpa using hl
      rw [this];rfl
    rw [this] at q;exact q
end
end L2
namespace L2
open PySem PySem.Spec PyProof.Rows PySem.W
theorem ints_showable {ns:List Int} (h:∀ n∈ns,n.natAbs < 10 ^ 12):PyData.showable (.list (ns.map .int))=true:=by
  simp only [PyData.showable]
  refine PyData.showableAll_ints ns fun n hn=>?_
  rcases Nat.eq_zero_or_pos n.natAbs with z | z
  · rw [z];decide
  · exact (Nat.log2_lt (by omega)).mpr (Nat.lt_of_lt_of_le (Nat.lt_trans (h n hn) (show 10 ^ 12 < 2 ^ 40 by decide)) (Nat.pow_le_pow_right (by decide) (by decide)))
section
variable {X:Cx} {k:Nat}
theorem ix_tupK (K:PySem.W.Frag) (hK:X.K=K:=by rfl):IxR X (rIxT K):=by
  subst hK;exact ix_tup
end
end L2
namespace L2
open PySem PySem.Spec PyProof.Rows PySem.W
end L2
namespace L2
open PySem PySem.Spec PyProof.Rows PySem.W
theorem weight_ints:∀ ns:List Int,(∀ n∈ns,n.natAbs < 10 ^ 12)→PyData.weightAll (ns.map .int)≤42 * ns.length
  | [],_=>by simp [PyData.weightAll]
  | n :: r,h=>by
    have a:=weight_ints r fun m hm=>h m (List.mem_cons_of_mem _ hm)
    have b:PyData.weight (.int n)≤41:=by
      simp only [PyData.weight]
      split
      · omega
      · rename_i z
        have nz:n.natAbs≠0:=fun e=>z (by rw [Int.natAbs_eq_zero.mp e];rfl)
        have:=(Nat.log2_lt nz (k:=40)).mpr (Nat.lt_trans (h n List.mem_cons_self) (by decide))
        omega
    simp only [List.map_cons,PyData.weightAll,List.length_cons]
    omega
section
variable {X:Cx} {k:Nat}
end
end L2
namespace L2
open PySem PySem.Spec PyProof.Rows PySem.W
theorem Inv.drawn {X:Cx} {pins:List (Addr × Obj)} {σ:St} {H:Hp} {s:Shared} (I:Inv X pins σ H s) (d:Drawn):Inv X pins σ H { s with drawn:=d }:=
  ⟨I.ok,I.os,I.bare,I.base,I.loc,I.cell,I.free,I.freeC,I.pin,I.hok,I.len⟩
section
variable {X:Cx} {a:Expr} {ta:TA} {p p2 pos pos2:Pos}
end
end L2
namespace L2
open PySem PySem.Spec PyProof.Rows
section
variable {κ:Type} [DecidableEq κ]
def valV (kvs:List (κ × V)) (k:κ):Option V:=(kvs.find? fun kv=>decide (kv.1=k)).map (·.2)
def putK (kvs:List (κ × V)) (k:κ) (v:V):List (κ × V):=
  if (kvs.any fun kv=>decide (kv.1=k))=true then kvs.map (fun kv=>if kv.1=k then (kv.1,v) else kv) else kvs++[(k,v)]
theorem RelO.getD {o:Option V} {u:Option Value} {d:V} {d':Value} (r:RelO o u) (rd:RelV d d'):RelV (o.getD d) (u.getD d'):=by
  cases o with
  | none=>cases u with
    | none=>exact rd
    | some _=>exact (show False from r).elim
  | some _=>cases u with
    | none=>exact (show False from r).elim
    | some _=>exact r
theorem KV.keys {kvs:List (κ × V)} {vs:List (κ × Value)} (r:KV kvs vs):kvs.map (·.1)=vs.map (·.1):=by
  unfold KV at r
  induction r with
  | nil=>rfl
  | cons h t ih=>rw [List.map_cons,List.map_cons,ih,h.1]
end
abbrev KT (H:Hp):List (List Key × V)→List (List Key × Addr × Value)→Prop:=Paired fun p q=>p.1=q.1∧H q.2.1=some (.tup (p.1.map kV))∧RelV p.2 q.2.2
theorem KT.keeps {H H':Hp} {kvs:List (List Key × V)} {xs:List (List Key × Addr × Value)} (r:KT H kvs xs) (ht:∀ b ys,H b=some (.tup ys)→H' b=some (.tup ys)):KT H' kvs xs:=
  Paired.mapP r fun _ _ z=>⟨z.1,ht _ _ z.2.1,z.2.2⟩
section
variable {P:Program} {w:World} {H:Hp} {h:Heap} {a:Addr}
end
def DGet (H:Hp) (a:Addr) (y:V) (r:Option V):Prop:=
  (∃ kvs k,Rd H a (.dK kvs)∧y=kV k∧r=valV kvs k)∨∃ kvs k b,Rd H a (.dT kvs)∧y=.ref b∧H b=some (.tup (k.map kV))∧r=valV kvs k
def DPut (H:Hp) (a:Addr) (y v:V) (H':Hp):Prop:=
  (∃ kvs k,H a=some (.dK kvs)∧y=kV k∧kvs.length < sizeLine∧H'=upd H a (.dK (putK kvs k v))) ∨
  ∃ kvs k b,H a=some (.dT kvs)∧y=.ref b∧H b=some (.tup (k.map kV))∧kvs.length < sizeLine∧H'=upd H a (.dT (putK kvs k v))
theorem DGet.k {H:Hp} {a:Addr} {kvs:List (Key × V)} {k:Key} (e:H a=some (.dK kvs)):DGet H a (kV k) (valV kvs k):=.inl ⟨kvs,k,.inl e,rfl,rfl⟩
theorem DGet.t {H:Hp} {a b:Addr} {kvs:List (List Key × V)} {k:List Key} (e:H a=some (.dT kvs)) (eb:H b=some (.tup (k.map kV))):DGet H a (.ref b) (valV kvs k):=.inr ⟨kvs,k,b,.inl e,rfl,eb,rfl⟩
theorem DPut.k {H:Hp} {a:Addr} {kvs:List (Key × V)} {k:Key} {v:V} (e:H a=some (.dK kvs)) (hl:kvs.length < sizeLine):DPut H a (kV k) v (upd H a (.dK (putK kvs k v))):=.inl ⟨kvs,k,e,rfl,hl,rfl⟩
theorem DPut.t {H:Hp} {a b:Addr} {kvs:List (List Key × V)} {k:List Key} {v:V} (e:H a=some (.dT kvs)) (eb:H b=some (.tup (k.map kV))) (hl:kvs.length < sizeLine) :
    DPut H a (.ref b) v (upd H a (.dT (putK kvs k v))):=.inr ⟨kvs,k,b,e,rfl,eb,hl,rfl⟩
section
variable {X:Cx} {pins:List (Addr × Obj)} {σ:St} {H:Hp} {s:Shared} {a:Addr} {y v:V} {u r:Value} {o:Option V} {A:Around} {E:Value→Shared→Prop}
theorem Inv.big (I:Inv X pins σ H s):sysModules < s.heap.objs.size:=by
  have h:mainGlobals < s.heap.objs.size:=(I.mod.glob.keeps I.bk).lt
  exact Nat.lt_trans (by decide) h
end
section
variable {X:Cx} {pins:List (Addr × Obj)} {σ:St} {H:Hp} {s:Shared} {a:Addr} {kvs:List (Key × V)} {k:Key} {u:Value} {A:Around} {E:Value→Shared→Prop}
end
section
variable {X:Cx} {o i e value:Expr} {pos pos' tpos:Pos} {td ty tv:TE}
end
section
variable {X:Cx} {pos:Pos}
end
section
variable {X:Cx} {pins:List (Addr × Obj)} {σ:St} {H:Hp} {s:Shared} {a:Addr} {y d:V} {u r:Value} {o:Option V} {A:Around} {E:Value→Shared→Prop}
end
section
variable {X:Cx} {o e f:Expr} {apos cpos:Pos} {td ty tx:TE}
end
section
variable {X:Cx} {pins:List (Addr × Obj)} {σ:St} {H:Hp} {s:Shared} {a:Addr} {kvs:List (Key × V)} {A:Around} {E:Value→Shared→Prop}
end
section
variable {X:Cx} {pins:List (Addr × Obj)} {σ:St} {H:Hp} {s:Shared} {a:Addr} {y:V} {u:Value} {A:Around} {E:Value→Shared→Prop}
end
end L2
namespace Tim
open PySem PyProof.Rows
section
variable {prog:Program} {w:World} {A:Around} {E:Value→Shared→Prop} {s:Shared} {a₀:Array Keyed} {κ:SortKind} {O:KeyOrd} {key:Keyed→O.α}
theorem three (L:List Keyed) {u v:Nat} (h:u≤v):L=L.take u++(L.drop u).take (v - u)++L.drop v:=by
  have e:L.drop v=(L.drop u).drop (v - u):=by rw [List.drop_drop];congr 1;omega
  rw [e,List.append_assoc,List.take_append_drop,List.take_append_drop]
end
end Tim
namespace L2
open PySem PySem.Spec PyProof.Rows
section
variable {X:Cx}
def rCatA (K:PySem.W.Frag):R2:=fun x y H Q=>∃ a b xs ys,x=.ref a∧y=.ref b∧SqT K H a xs∧SqT K H b ys∧xs.length+ys.length≤sizeLine ∧
  (xs=[]→Q (.ref b) H)∧(xs≠[]→ys=[]→Q (.ref a) H)∧(xs≠[]→ys≠[]→∀ p,H p=none→Q (.ref p) (upd H p (.tup (xs++ys))))
theorem cat_tup0 {prog:Program} {w:World} {A:Around} {E:Value→Shared→Prop} {s:Shared} {t b:Addr} {vs ws:List Value} {Q:Value→Shared→Prop} (ht:IsTup s.heap t vs.toArray) (hb:IsTup s.heap b ws.toArray) (hv:vs=[])
    (h:Q (.ref b) s):wpAny (model prog w) A (binaryOp .Add (.ref t) (.ref b)) Q E s:=by
  obtain ⟨⟨cls,dd,data,sl⟩,ho,hc,n,hd⟩:=id ht
  obtain ⟨⟨cls2,dd2,data2,sl2⟩,ho2,hc2,n2,hd2⟩:=id hb
  simp only at hc hd hc2 hd2
  subst hc hd hc2 hd2
  exact concat_meets ⟨_,ho,rfl⟩ ⟨_,ho2,rfl⟩ noFill_tuple_add seq_tuple_add PySem.F.slot_tuple_add PySem.F.entry_tuple_add (PySem.F.args_tuple_add_2 _ _)
      (tuple_addW0 t b vs.toArray ws.toArray n n2 dd dd2 sl sl2 (by simp [hv])) ⟨ho,ho2,h⟩
theorem op_catA:OpR X (binaryOp .Add) (rCatA X.K):=by
  intro pins s σ H x y v u Q I rx ry h
  obtain ⟨a,b,xs,ys,rfl,rfl,ha,hb,hz,q0,q1,q2⟩:=h
  by_cases hx:xs=[]
  · cases rx
    cases ry
    obtain ⟨its,r1,p1,_⟩:=I.tuple ha
    obtain ⟨its2,r2,p2,_⟩:=I.tuple hb
    exact cat_tup0 p1 p2 (r1.nil_iff.mpr hx) ⟨.ref b,H,I,rfl,q0 hx⟩
  · exact op_catT pins s σ H _ _ v u Q I rx ry ⟨a,b,xs,ys,rfl,rfl,ha,hb,hx,hz,q1 hx,q2 hx⟩
end
end L2
namespace L2
open PySem PySem.Spec PyProof.Rows
theorem ObjOk.obj {P:Program} {w:World} {H:Hp} {h:Heap} {a:Addr} {o:HO} (x:ObjOk P w H h a o):∃ u,h.get? a=some u:=by
  cases o with
  | lst xs=>obtain ⟨_,_,_,_,e⟩:=x;exact ⟨_,e⟩
  | tup xs=>obtain ⟨⟨_,o,e,_⟩,_⟩:=x;exact ⟨_,e⟩
  | dK kvs=>obtain ⟨_,_,_,_,o,_,_,e,_⟩:=x;exact ⟨_,e⟩
  | dT kvs=>obtain ⟨_,_,_,_,o,_,_,e,_⟩:=x;exact ⟨_,e⟩
  | set S n=>obtain ⟨o,_,_,_,e,_⟩:=x;exact ⟨_,e⟩
  | ins C dx fs=>obtain ⟨_,_,_,e,_⟩:=x;exact ⟨_,e⟩
  | own y=>exact x
  | xd fs=>obtain ⟨_,⟨_,_,_,e,_⟩,_⟩:=x;exact ⟨_,e⟩
  | rng lo hi=>obtain ⟨_,_,_,e⟩:=x;exact ⟨_,e⟩
  | frz ob u=>exact ⟨_,x.1⟩
  | tbl ps=>exact ⟨_,x⟩
  | met f y=>exact ⟨_,x⟩
  | ext φ=>exact x.2.1
def FlyS (l:List Env) (H₀:Hp) (h₀:Heap) (H':Hp) (a C:Addr) (h:Heap):Prop:=
  ∃ B a0,Heap.FlyingW B l a (.ref C) a0 h∧(∀ b o,h₀.get? b=some o→b ∉ frs l→∃ o',B.get? b=some o'∧(H₀ b=none→o'=o))∧∀ b u,H' b=some u→∃ o,B.get? b=some o
def CXE (P:Program) (w:World):CXT:=fun outer H s E e s'=>∃ a C H',e=.ref a∧s'.os=s.os∧AllBare s'.gens∧Un (frs outer) [] H H' s.heap s'.heap∧HOk P w H' s'.heap∧FlyS outer H s.heap H' a C s'.heap∧H' a=none∧E e (some C) H'
theorem hok_in {P:Program} {w:World} {H:Hp} {h h' B:Heap} (x:HOk P w H h) (hB:∀ b o,B.get? b=some o→h.get? b=some o) (hB':B.StaysIn h') (t:∀ b u,H b=some u→∃ o,B.get? b=some o):HOk P w H h':=fun a o e=>
  (x a o e).stay (fun b u hb q=>by
    have:∃ o,B.get? b=some o:=by
      rcases hb with rfl | hb
      · exact t _ _ e
      · exact t _ _ hb
    obtain ⟨o',e'⟩:=this
    have z:=hB _ _ e'
    rw [q] at z;cases z
    exact hB' _ _ e') (fun _ q=>q) fun _ _ q=>q
theorem fly_out {X:Cx} {pins:List (Addr × Obj)} {σ:St} {H1 H2:Hp} {s1:Shared} {B h2:Heap} (I:Inv X pins σ H1 s1) (hex:X.ex=[])
    (inB:∀ b o,s1.heap.get? b=some o→b ∉ frs X.stack→∃ o',B.get? b=some o'∧(H1 b=none→o'=o)) (st:B.StaysIn h2)
    (fr:∀ b o,s1.heap.get? b=some o→b∈frs X.stack→∃ sl,h2.get? b=some { o with slots:=sl }) (free:∀ b o,s1.heap.get? b=some o→H1 b=none→H2 b=none)
    (tups:∀ b xs,H1 b=some (.tup xs)→H2 b=some (.tup xs)) (frzs:∀ b o u,H1 b=some (.frz o u)→H2 b=some (.frz o u)) (tbls:∀ b ps,H1 b=some (.tbl ps)→∃ more,H2 b=some (.tbl (ps++more))) :
    Un X.fs [] X.H₀ H2 X.s₀.heap h2∧∀ b o,X.s₀.heap.get? b=some o→b ∉ X.fs→∃ o',B.get? b=some o'∧(X.H₀ b=none→o'=o):=by
  have nx:∀ b:Addr,b ∉ X.ex:=fun b=>by rw [hex];simp
  have ns:∀ b o,X.s₀.heap.get? b=some o→b ∉ X.fs→b ∉ frs X.stack:=fun b o e n z=>by
    rcases List.mem_cons.mp (I.stkSub b z) with q | q
    · rw [q] at e
      exact absurd (Nat.lt_of_lt_of_le (Heap.lt_size e) I.ok.above) (Nat.lt_irrefl _)
    · exact n q
  have toB:∀ b o,X.s₀.heap.get? b=some o→b ∉ X.fs→∃ o',B.get? b=some o'∧(X.H₀ b=none→o'=o):=fun b o e n=>by
    obtain ⟨o1,e1⟩:=I.base.there b o e (nx b)
    obtain ⟨o2,e2,k2⟩:=inB b o1 e1 (ns b o e n)
    refine ⟨o2,e2,fun h0=>?_⟩
    have z:=I.base.keep b o e h0 n (nx b)
    rw [e1] at z;cases z
    exact k2 (I.base.free b o e h0 (nx b))
  have inSt:∀ b∈X.fs,∀ o1,s1.heap.get? b=some o1→∃ sl,h2.get? b=some { o1 with slots:=sl }:=fun b hb o1 e1=>by
    by_cases hs:b∈frs X.stack
    · exact fr b o1 e1 hs
    · obtain ⟨o2,e2,k2⟩:=inB b o1 e1 hs
      have h1:H1 b=none:=by
        obtain ⟨_,o,ho,_⟩:=I.ok.funs.mem hb
        exact I.base.free b o ho (I.ok.frf b hb) (nx b)
      rw [k2 h1] at e2
      exact ⟨o1.slots,st _ _ e2⟩
  refine ⟨⟨fun b o e n hb _=>?_,fun b o e n hb _=>?_,fun b o e n _=>?_,fun b o e _=>?_,fun b xs e=>tups _ _ (I.base.tups _ _ e),fun b o u e=>frzs _ _ _ (I.base.frzs _ _ _ e),fun b ps e=>?_⟩,toB⟩
  · obtain ⟨o',e',k⟩:=toB b o e hb
    rw [k n] at e'
    exact st _ _ e'
  · obtain ⟨sl,e1⟩:=I.base.slot b o e n hb (nx b)
    obtain ⟨sl2,e2⟩:=inSt b hb _ e1
    exact ⟨sl2,e2⟩
  · obtain ⟨o1,e1⟩:=I.base.there b o e (nx b)
    exact free b o1 e1 (I.base.free b o e n (nx b))
  · obtain ⟨o1,e1⟩:=I.base.there b o e (nx b)
    by_cases hb:b∈X.fs
    · obtain ⟨sl,q⟩:=inSt b hb o1 e1
      exact ⟨_,q⟩
    · obtain ⟨o',e',_⟩:=toB b o e hb
      exact ⟨o',st _ _ e'⟩
  · obtain ⟨m1,e1⟩:=I.base.tbls b ps e
    obtain ⟨m2,e2⟩:=tbls b _ e1
    exact ⟨m1++m2,by rw [e2,Array.append_assoc]⟩
def Raises (X:Cx) (E:XK):Prop:=∀ (pins:List (Addr × Obj)) (σ:St) (H1:Hp) (s1:Shared) (h':Heap) (a C:Addr) (vs:List Value),Inv X pins σ H1 s1→Heap.MadeExcOf s1.heap h' a (.ref C) vs→E (.ref a) (some C) H1→X.xe (.ref a) { s1 with heap:=h' }
section
variable {P:Program} {w:World} {K:PySem.W.Frag} {mg:Str→Option Value} {base:Heap} {N:List Str} {qual:Str} {scope:Scope} {f:Addr} {cd:Value} {A:Around} {outer:List Env} {s:Shared} {H:Hp} {E:XK}
theorem raises_cx:Raises (cxOf (CXE P w) P w K mg base N qual scope f cd A outer s H E) E:=by
  intro pins σ H1 s1 h' a C vs I mk hE
  have stk:=I.stack
  have nTr:∀ b u,H1 b=some u→b ∉ frs (cxOf (CXE P w) P w K mg base N qual scope f cd A outer s H E).stack:=fun b u e z=>by
    rw [I.stkFree b z] at e;cases e
  have inB:∀ b o,s1.heap.get? b=some o→b ∉ frs (cxOf (CXE P w) P w K mg base N qual scope f cd A outer s H E).stack→(PySem.W.hideAll s1.heap (frs (cxOf (CXE P w) P w K mg base N qual scope f cd A outer s H E).stack)).get? b=some o:=fun b o e n=>PySem.W.hideAll_get _ e n
  show wpAny _ _ (leaving _ _) _ _ _
  refine wpAny_leaves_madeW (base:=PySem.W.hideAll s1.heap (frs (cxOf (CXE P w) P w K mg base N qual scope f cd A outer s H E).stack)) (h:=s1.heap) I.ok.frames rfl (fun b o q=>PySem.W.of_hideAll _ q)
    (PySem.W.funFrames_hide stk fun env he b hb=>List.mem_filterMap.mpr ⟨env,he,hb⟩) mk fun h2 t fl _ _ sm=>?_
  generalize PySem.W.hideAll s1.heap (frs (cxOf (CXE P w) P w K mg base N qual scope f cd A outer s H E).stack)=B at inB fl
  have BS:∀ b o,B.get? b=some o→s1.heap.get? b=some o∨True:=fun _ _ _=>.inr trivial
  obtain ⟨u,k1⟩:=fly_out (H2:=H1) (B:=B) (h2:=h2) I rfl (fun b o e n=>⟨o,inB b o e n,fun _=>rfl⟩) fl.1
    (fun b o e hb=>by
      obtain ⟨_,o',e',nf⟩:=stk.mem hb
      rw [e] at e';cases e'
      exact sm b o (mk.keeps _ _ e) nf)
    (fun _ _ _ z=>z) (fun _ _ z=>z) (fun _ _ _ z=>z) (fun b ps z=>⟨#[],by rw [z];simp⟩)
  have tr:∀ b u,H1 b=some u→∃ o,B.get? b=some o:=fun b u e=>by
    obtain ⟨o,eo⟩:=(I.hok b u e).obj
    exact ⟨o,inB b o eo (nTr b u e)⟩
  refine ⟨a,C,H1,rfl,I.os,I.bare,u,fun b o e=>?_,⟨B,_,fl,k1,tr⟩,?_,hE⟩
  · refine (I.hok b o e).stay (fun c v hc q=>?_) (fun _ q=>q) fun _ _ q=>q
    have nc:c ∉ frs (cxOf (CXE P w) P w K mg base N qual scope f cd A outer s H E).stack:=by
      rcases hc with rfl | hc
      · exact nTr _ _ e
      · exact nTr _ _ hc
    exact fl.1 _ _ (inB c v q nc)
  · cases q:H1 a with
    | none=>rfl
    | some u=>
      obtain ⟨o,eo⟩:=(I.hok a u q).obj
      rw [mk.new] at eo;cases eo
end
end L2
namespace L2
open PySem PySem.Spec PyProof.Rows
def excO (a C:Addr):HO:=.ext fun h=>∃ o vs,h.get? a=some o∧o.cls=.ref C∧o.data=.fields vs
def Up (X:Cx) (pins:List (Addr × Obj)) (σ:St) (a C:Addr) (H2:Hp) (s:Shared):Prop:=
  ∃ H1 s1,Inv X pins σ H1 s1∧s.os=s1.os∧AllBare s.gens∧Un (frs X.stack) [] H1 H2 s1.heap s.heap∧HOk X.prog X.w H2 s.heap∧FlyS X.stack H1 s1.heap H2 a C s.heap∧H2 a=none
section
variable {X:Cx} {pins:List (Addr × Obj)} {σ:St} {a C:Addr} {H1 H2:Hp} {s s1:Shared} {B h h':Heap} {a0:Value}
theorem excO_ok (H:Hp) (e:∃ o vs,h.get? a=some o∧o.cls=.ref C∧o.data=.fields vs):ObjOk X.prog X.w H h a (excO a C):=by
  refine ⟨e,?_,fun h1 h2 ⟨o,vs,x1,x2,x3⟩ k=>⟨o,vs,k _ x1,x2,x3⟩⟩
  obtain ⟨o,_,e,_⟩:=e
  exact ⟨o,e⟩
theorem Up.inv (U:Up X pins σ a C H2 s):Inv X pins σ (upd H2 a (excO a C)) s:=by
  obtain ⟨H1,s1,I,os,bare,un,hok,⟨B,a0,fl,k0,tr⟩,ha⟩:=U
  obtain ⟨oe,vs,e1,e2,e3,_⟩:=fl.first
  have na:∀ b o,s1.heap.get? b=some o→b≠a:=fun b o e z=>by
    subst z
    by_cases hb:b∈frs X.stack
    · obtain ⟨_,o',e',nf⟩:=fl.2.2.1.mem hb
      rw [e1] at e';cases e'
      exact nf vs e3
    · obtain ⟨o',e',_⟩:=k0 b o e hb
      rw [fl.2.1] at e';cases e'
  have up:∀ b u,H2 b=some u→upd H2 a (excO a C) b=some u:=fun b u e=>by rw [upd_ne (ne_of_none e ha)];exact e
  refine I.call' (ch:=[]) os ⟨un.keep,un.slot,fun b o e n hx=>?_,un.there,fun b xs e=>up _ _ (un.tups b xs e),fun b o u e=>up _ _ (un.frzs b o u e),fun b ps e=>?_⟩ (fun b o e=>?_) bare (fun _ z=>nomatch z)
  · rw [upd_ne (na b o e)];exact un.free b o e n hx
  · obtain ⟨more,e2⟩:=un.tbls b ps e
    exact ⟨more,up _ _ e2⟩
  · by_cases hb:b=a
    · subst hb
      rw [upd_same] at e;cases e
      exact excO_ok _ ⟨oe,vs,e1,e2,e3⟩
    · rw [upd_ne hb] at e
      exact (hok b o e).stay (fun _ _ _ q=>q) (fun c q=>up _ _ q) fun c xs q=>up _ _ q
theorem up_on (I:Inv X pins σ H1 s1) (os:s.os=s1.os) (bare:AllBare s.gens) (un:Un (frs X.stack) [] H1 H2 s1.heap s.heap) (hok:HOk X.prog X.w H2 s.heap) (hB:B.StaysIn s.heap) (ffs:s.heap.FunFrames B X.stack)
    (k0:∀ b o,s1.heap.get? b=some o→b ∉ frs X.stack→∃ o',B.get? b=some o'∧(H1 b=none→o'=o)) (tr:∀ b u,H2 b=some u→∃ o,B.get? b=some o) (ha:H2 a=none)
    (fl':Heap.FlyingW B X.stack a (.ref C) a0 h') (sm:s.heap.UpToSlots h'):Up X pins σ a C H2 { s with heap:=h' }:=by
  refine ⟨H1,s1,I,os,bare,⟨fun b o e n hb _=>?_,fun b o e n hb _=>?_,un.free,fun b o e _=>?_,un.tups,un.frzs,un.tbls⟩,hok_in hok hB fl'.1 tr,⟨B,a0,fl',k0,tr⟩,ha⟩
  · obtain ⟨o',e',k⟩:=k0 b o e hb
    rw [k n] at e'
    exact fl'.1 _ _ e'
  · obtain ⟨sl,e2⟩:=un.slot b o e n hb (by simp)
    obtain ⟨_,o',e',nf⟩:=ffs.mem hb
    rw [e2] at e';cases e'
    obtain ⟨sl3,e3⟩:=sm b _ e2 nf
    exact ⟨sl3,e3⟩
  · by_cases hb:b∈frs X.stack
    · obtain ⟨_,o',e',_⟩:=fl'.2.2.1.mem hb
      exact ⟨o',e'⟩
    · obtain ⟨o',e',_⟩:=k0 b o e hb
      exact ⟨o',fl'.1 _ _ e'⟩
theorem up_lands {M:Model} {A:Around} {E:Value→Shared→Prop} {Q:Unit→Shared→Prop} (U:Up X pins σ a C H2 s) (h:∀ h',Up X pins σ a C H2 { s with heap:=h' }→Q () { s with heap:=h' }) :
    wpAny M A (setFlight (.ref a) none) Q E s:=by
  obtain ⟨H1,s1,I,os,bare,un,hok,⟨B,a0,fl,k0,tr⟩,ha⟩:=U
  exact lands_againW fl fun h' fl' sm=>h h' (up_on I os bare un hok fl.1 fl.2.2.1 k0 tr ha fl' sm)
theorem up_looks {M:Model} {A:Around} {E:Value→Shared→Prop} {Q:Unit→Shared→Prop} (hA:A.frames=some X.stack) (hst:X.stack=X.env :: X.outer) (hf:X.env.frame=some X.env.locals) (U:Up X pins σ a C H2 s)
    (h:∀ h',Up X pins σ a C H2 { s with heap:=h' }→Q () { s with heap:=h' }) :
    wpAny M A (noteFrame (.ref a) X.env) (fun _ s2=>wpAny M A (setFlight (.ref a) none) Q E s2) E s:=by
  obtain ⟨H1,s1,I,os,bare,un,hok,⟨B,a0,fl,k0,tr⟩,ha⟩:=U
  have fl0:=fl
  rw [hst] at fl0 hA
  refine wpAny_looks_onW hA hf fl0 fun h1 hh sm=>?_
  refine wpAny_landsW hh fun h2 fl2 sm2=>?_
  rw [← hst] at fl2
  exact h h2 (up_on I os bare un hok fl.1 fl.2.2.1 k0 tr ha fl2 (sm.trans sm2))
abbrev Cx.caught (X:Cx) (a:Addr):Cx:={ X with A:=X.A.mark (some (.ref a)),calm:=false,xe:=fun _ _=>False }
theorem Inv.caught {H:Hp} (I:Inv X pins σ H s) (a:Addr):Inv (X.caught a) pins σ H s:=
  ⟨⟨I.ok.mod,I.ok.kind,I.ok.glob,I.ok.blt,I.ok.above,I.ok.inj,I.ok.has,I.ok.cab,(fun z=>nomatch z),I.ok.frames,I.ok.stk,I.ok.exf,I.ok.bs,I.ok.bsz,I.ok.noex,I.ok.exfs,I.ok.funs,I.ok.frf⟩,I.os,I.bare,I.base,I.loc,I.cell,I.free,I.freeC,I.pin,I.hok,I.len⟩
theorem Inv.uncaught {H:Hp} (ok:X.Ok) (I:Inv (X.caught a) pins σ H s):Inv X pins σ H s:=⟨ok,I.os,I.bare,I.base,I.loc,I.cell,I.free,I.freeC,I.pin,I.hok,I.len⟩
theorem Inv.goes {M:Model} {A:Around} {E:Value→Shared→Prop} {H:Hp} {i:Nat} {n:Str} {pos:Pos} {Q:Unit→Shared→Prop} (I:Inv X pins σ H s) (hN:X.N.Nodup) (hi:X.N[i]?=some n) (hl:X.env.kindOf n=some .local)
    (h:∀ s',Inv X pins (σ.set i none) H s'→Q () s'):wpAny M A (do bindName X.env n .none;unbindBehindTheSuite X.env n pos) Q E s:=by
  obtain ⟨m,hn,hl'⟩:=id I.loc
  have hcls:(X.env.scope.kind == .class || (X.env.scope.kind == .module && X.env.locals != X.env.globals))=false:=by rw [I.ok.kind];rfl
  have hiσ:i < σ.length:=by rw [I.len];exact (List.getElem?_eq_some_iff.mp hi).1
  refine wpAny_nameGoes_keeps hl hn hcls fun h' v hn' hs=>?_
  obtain ⟨oL,_,_,hoL,_⟩:=id hn
  refine h _ ⟨I.ok,I.os,I.bare,⟨fun b o e n hb hx=>?_,fun b o e n hb hx=>?_,I.base.free,fun b o e hx=>?_,I.base.tups,I.base.frzs,I.base.tbls⟩,⟨_,hn',fun j y v' e1 e2 e3=>?_⟩,fun y c e=>?_,I.free,I.freeC,fun p hp=>?_,fun b ob e=>?_,by simpa using I.len⟩
  · exact (hs.2 b (Nat.ne_of_lt (Nat.lt_of_lt_of_le (Heap.lt_size e) I.ok.above))).trans (I.base.keep b o e n hb hx)
  · obtain ⟨sl,e1⟩:=I.base.slot b o e n hb hx
    exact ⟨sl,(hs.2 b (Nat.ne_of_lt (Nat.lt_of_lt_of_le (Heap.lt_size e) I.ok.above))).trans e1⟩
  · obtain ⟨o',e1⟩:=I.base.there b o e hx
    exact ⟨o',(hs.2 b (Nat.ne_of_lt (Nat.lt_of_lt_of_le (Heap.lt_size e) I.ok.above))).trans e1⟩
  · by_cases hj:j=i
    · subst hj
      rw [List.getElem?_set_self hiσ] at e2
      cases e2
    · rw [List.getElem?_set_ne (Ne.symm hj)] at e2
      obtain ⟨u',r',q⟩:=hl' j y v' e1 e2 e3
      refine ⟨u',r',?_⟩
      rcases q with ⟨k,e⟩ | ⟨k,c,e,z⟩
      · refine .inl ⟨k,?_⟩
        have:y≠n:=fun e=>hj (nodup_ix hN e1 (e ▸ hi))
        simp [this,e]
      · exact .inr ⟨k,c,e,z.sameBut hs (I.cne y c e)⟩
  · obtain ⟨w',z⟩:=I.cell y c e
    exact ⟨w',z.sameBut hs (I.cne y c e)⟩
  · obtain ⟨e,n,ne,nf,d⟩:=I.pin p hp
    exact ⟨(hs.2 p.1 ne).trans e,n,ne,nf,d⟩
  · refine (I.hok b ob e).stay (fun c w' hc q=>(hs.2 c ?_).trans q) (fun _ q=>q) fun _ _ q=>q
    rintro rfl
    rcases hc with rfl | hc
    · rw [I.free] at e;cases e
    · rw [I.free] at hc;cases hc
end
def PH (X:Cx) (hs:List ExceptHandler) (th:Addr→Addr→TS):Prop:=
  ∀ (pins:List (Addr × Obj)) (s:Shared) (σ:St) (H2:Hp) (D:Ends) (a C:Addr),Up X pins σ a C H2 s→th a C D σ (upd H2 a (excO a C))→wpAny (model X.prog X.w) X.A (handleBy (.ref a) X.env hs) (SP X pins D) X.xe s
def Ends.goes (D:Ends) (i:Nat):Ends:=⟨fun σ H=>D.nx (σ.set i none) H,D.rt,fun σ H=>D.bk (σ.set i none) H,fun σ H=>D.ct (σ.set i none) H⟩
section
variable {X:Cx} {x n:Str} {i:Nat} {np pos:Pos} {b₀:Stmt} {suite:List Stmt} {rest:List ExceptHandler} {Cl:Addr} {th:Addr→TS} {tr:Addr→Addr→TS}
theorem typ_of {M:Model} {H:Hp} {h:Heap} {a C:Addr} (e:ObjOk X.prog X.w H h a (excO a C)):PySem.W.Looks M h (typeOf (.ref a)) (.ref C):=by
  obtain ⟨⟨o,vs,e1,e2,_⟩,_⟩:=e
  rw [← e2]
  exact (PySem.W.Looks.ld e1).andThen .now
theorem ph_as (hg:Gl X x) (hm:X.mg x=some (.ref Cl)) (hN:X.N.Nodup) (hi:X.N[i]?=some n) (hl:X.env.scope.names.lookup n=some .local) (hb:∀ a,PSs (X.caught a) (b₀ :: suite) (th a)) (hd:(x == ("__debug__" : Str))=false:=by decide) :
    PH X (.ExceptHandler (some (.Name x np)) (some n) (b₀ :: suite) pos :: rest) (fun a C D σ H=>PySem.W.exmOne X.K (.ref C) (.ref Cl)=some true∧th a (D.goes i) (σ.set i (some (.ref a))) H):=by
  intro pins s σ H2 D a C U h
  obtain ⟨hx,h⟩:=h
  have I:=U.inv
  refine wpAny_handleBy_cons (codeAny_handlers_test (ld_glob (I.caught a) hg hm ?_ hd)) (by intro q;cases q)
  refine (PySem.W.exm_one I.kIn (typ_of (I.hok a _ upd_same)) hx).here ?_
  refine codeAny_handlers_suite_as ?_
  refine up_lands U fun h' U'=>?_
  have I':=U'.inv
  refine store_ok I' hN hi (.inl hl) (v:=.ref a) rfl (fun s2 I2=>?_) (.inr hl)
  refine wpAny_mono (hb a pins s2 _ _ (D.goes i) (I2.caught a) h) (fun f s3 q=>?_) fun _ _ z=>False.elim z
  cases f with
  | next=>obtain ⟨σ',H',J,q⟩:=q;exact (J.uncaught I.ok).goes hN hi hl fun s4 J4=>⟨_,H',J4,q⟩
  | brk=>obtain ⟨σ',H',J,q⟩:=q;exact (J.uncaught I.ok).goes hN hi hl fun s4 J4=>⟨_,H',J4,q⟩
  | cont=>obtain ⟨σ',H',J,q⟩:=q;exact (J.uncaught I.ok).goes hN hi hl fun s4 J4=>⟨_,H',J4,q⟩
  | ret u=>obtain ⟨v,σ',H',J,r,q⟩:=q;exact (J.uncaught I.ok).goes hN hi hl fun s4 J4=>⟨v,_,H',J4,r,q⟩
end
def PassesAt (CX:CXT) (X:Cx) (E:XK) (σ:St):Prop:=∀ (pins:List (Addr × Obj)) (H:Hp) (s:Shared) (e:Value) (s':Shared),Inv X pins σ H s→CX X.stack H s E e s'→X.xe e s'
theorem Passes.at {CX:CXT} {X:Cx} {E:XK} {σ:St} (h:Passes CX X E):PassesAt CX X E σ:=fun pins H s e s' I q=>h pins σ H s e s' I q
abbrev Cx.tries (X:Cx) (pn:List (Addr × Obj)) (xe:Value→Shared→Prop):Cx:={ X with pn:=pn,xe:=xe }
def eTry (th:Addr→Addr→TS) (D:Ends) (σ:St):XK:=fun v c H'=>∃ a C,v=.ref a∧c=some C∧th a C D σ (upd H' a (excO a C))
def tTry (tb:XK→St→TS) (th:Addr→Addr→TS):TS:=fun D σ H=>tb (eTry th D σ) σ D σ H
theorem ps_try {X:Cx} {body:List Stmt} {h₀:ExceptHandler} {hs:List ExceptHandler} {pos:Pos} {tb:XK→St→TS} {th:Addr→Addr→TS}
    (hb:∀ pn xe E σ0,PassesAt (CXE X.prog X.w) (X.tries pn xe) E σ0→PSs (X.tries pn xe) body (tb E σ0)) (hh:PH X (h₀ :: hs) th)
    (hst:X.stack=X.env :: X.outer:=by rfl) (hf:X.env.frame=some X.env.locals:=by rfl):PS X (.Try body (h₀ :: hs) [] [] pos) (tTry tb th):=by
  intro pins s σ H D I h
  have toX:∀ {xe:Value→Shared→Prop} {pins':List (Addr × Obj)} {σ':St} {H':Hp} {s':Shared},Inv (X.tries (X.pn++pins) xe) pins' σ' H' s'→Inv X pins σ' H' s':=fun {xe pins' σ' H' s'} J=>
    ⟨I.ok,J.os,J.bare,J.base,J.loc,J.cell,J.free,J.freeC,fun p hp=>J.pin p (List.mem_append_left _ hp),J.hok,J.len⟩
  refine wpAny_Try_except ?_
  have J:∀ xe,Inv (X.tries (X.pn++pins) xe) [] σ H s:=fun xe=>
    ⟨⟨I.ok.mod,I.ok.kind,I.ok.glob,I.ok.blt,I.ok.above,I.ok.inj,I.ok.has,I.ok.cab,I.ok.hd,I.ok.frames,I.ok.stk,I.ok.exf,I.ok.bs,I.ok.bsz,I.ok.noex,I.ok.exfs,I.ok.funs,I.ok.frf⟩,I.os,I.bare,I.base,I.loc,I.cell,I.free,I.freeC,fun p hp=>by
      rw [List.append_nil] at hp
      exact I.pin p hp,I.hok,I.len⟩
  refine wpAny_mono (hb (X.pn++pins) (fun e s'=>∃ a C H2,e=.ref a∧Up X pins σ a C H2 s'∧th a C D σ (upd H2 a (excO a C))) (eTry th D σ) σ ?_ [] s σ H D (J _) h) (fun f s1 q=>?_) fun e s1 q=>?_
  · rintro pins' H1 s1 e s2 I1 ⟨a,C,H2,rfl,os,bare,un,hok,fly,ha,a',C',e1,e2,hE⟩
    cases e1;cases e2
    exact ⟨a,C,H2,rfl,⟨H1,s1,toX I1,os,bare,un,hok,fly,ha⟩,hE⟩
  · cases f with
    | next=>obtain ⟨σ',H',J,q⟩:=q;exact wpAny_execs_nil ⟨σ',H',toX J,q⟩
    | brk=>obtain ⟨σ',H',J,q⟩:=q;exact ⟨σ',H',toX J,q⟩
    | cont=>obtain ⟨σ',H',J,q⟩:=q;exact ⟨σ',H',toX J,q⟩
    | ret u=>obtain ⟨v,σ',H',J,r,q⟩:=q;exact ⟨v,σ',H',toX J,r,q⟩
  · obtain ⟨a,C,H2,rfl,U,hE⟩:=q
    exact up_looks I.ok.frames hst hf U fun h' U'=>hh pins _ σ H2 D a C U' hE
end L2
namespace L2
open PySem PySem.Spec PyProof.Rows PySem.W PySem.Calls PySem.Builtin PySem.Builtin.ObjectAttr PySem.Builtin.Getset_descriptor
structure ExK (K:Frag) (C:Addr):Prop where
  ga:findIn K (.ref C) "__getattribute__" = some (some (.builtin "BaseException.__getattribute__"))
  gn:findIn K (.ref C) "__getattr__" = some none
  cl:findIn K (.ref C) "__class__" = some (some (.builtin "object.__class__"))
  gt:specialIn K (.builtin "object.__class__") "__get__" = some (some (.builtin "getset_descriptor.__get__"))
  tk:takesIn K (.builtin "object.__class__")=some true
  ob:mroIn K C (.type "object")=some true
  be:mroIn K C (.type "BaseException")=some true
  cd:(clsIn K C).isSome=true
section
variable {prog:Program} {w:World} {A:Around} {E:Value→Shared→Prop} {s:Shared} {K:Frag} {x C:Addr} {R:Result→Shared→Prop}
theorem exc_class_get {tp:Value} (X:K.In s.heap) (L0:Looks (model prog w) s.heap (typeOf (.ref x)) (.ref C)) (L1:Looks (model prog w) s.heap (isSubtype (.ref C) (.type "object")) true)
    (h:R (.ok (.ret (.ref C))) s):codeAny (model prog w) A (.call (.builtin "getset_descriptor.__get__") ⟨[.builtin "object.__class__", .ref x,tp],[]⟩) R s:=by
  obtain ⟨hh,g,dr,t,os⟩:=s
  refine codeAny_call_builtin KF.slot_gs.plain KF.entry_gs (KF.slot_gs.check _ _ _ _ _ _ _ _ KF.type_class (KF.args_gs _ _ _) ?_)
  unfold Builtin.«getset_descriptor.__get__» descrGet
  rw [dga_obj]
  refine wpAny_bind (wpAny_pure ?_)
  unfold descrGetter descrCheckInstance descrNameAndClass isInstance
  simp only [KF.owner_class]
  repeat lk
  refine ⟨Code.quiet_builtin _ (by decide +kernel),codeAny_builtin KF.entry_class ?_⟩
  unfold Builtin.«object.__class__» shownTypeOf
  repeat lk
  exact h
theorem exc_find {M:Model} {h:Heap} (X:K.In h) (Z:ExK K C):Looks M h (find (.ref x) (.ref C) "__class__") (.bind (.builtin "getset_descriptor.__get__") (.builtin "object.__class__")):=by
  have L1:=looks_findIn (M:=M) X Z.cl
  have L2:Looks M h (getOf (some (.builtin "object.__class__"))) (some (.builtin "getset_descriptor.__get__")):=looks_specialIn X Z.gt
  have L3:=looks_takesIn (M:=M) X Z.tk
  refine L1.andThen (L2.andThen ?_)
  exact (show Looks M h (dataDescriptor? (some (.builtin "object.__class__")) (some (.builtin "getset_descriptor.__get__"))) (some (.builtin "getset_descriptor.__get__", .builtin "object.__class__")) from L3.andThen .now).andThen (Looks.tag .now)
theorem exc_entry {tk:Tok} {Q:Fin→Shared→Prop} (X:K.In s.heap) (Z:ExK K C) (L0:Looks (model prog w) s.heap (typeOf (.ref x)) (.ref C)) (h:Q (.done (.ret (.ref C))) s) :
    wpAny (model prog w) A (Builtin.«object.__getattribute__» ⟨[.ref x,.str "__class__" tk],[]⟩) Q E s:=by
  have L1:=looks_mroIn (M:=model prog w) X Z.ob
  have L2:=exc_find (M:=model prog w) (x:=x) X Z
  obtain ⟨hh,g,dr,t,os⟩:=s
  unfold Builtin.«object.__getattribute__»
  repeat (any_goals (first | assumption | (refine wpAny_bind (L0.at ?_)) | (refine wpAny_bind (L2.at ?_)) | wp_step))
  refine exc_class_get X L0 L1 ?_
  repeat (any_goals (first | assumption | wp_step))
theorem exc_kind:builtinKind "BaseException.__getattribute__" = some .slot:=by decide +kernel
theorem exc_split:splitId "BaseException.__getattribute__" = some ("BaseException", "__getattribute__"):=by decide +kernel
theorem exc_check {M:Model} {nameV:Value} {Q:Unit→Shared→Prop} (LI:Looks M s.heap (isInstance (.ref x) (.type "BaseException")) true) (h:Q () s) :
    wpAny M A (checkBuiltinCall "BaseException.__getattribute__" ⟨[.ref x,nameV],[]⟩) Q E s:=
  check_slot (i := "BaseException.__getattribute__") (owner := "BaseException") (n := "__getattribute__") (self:=.ref x) (rest:=[nameV]) (kw:=[]) exc_kind exc_split LI (F.args_bexc_ga (.ref x) nameV) h
theorem exc_call {tk:Tok} (X:K.In s.heap) (Z:ExK K C) (L0:Looks (model prog w) s.heap (typeOf (.ref x)) (.ref C)) (h:R (.ok (.ret (.ref C))) s) :
    codeAny (model prog w) A (.call (.builtin "BaseException.__getattribute__") ⟨[.ref x,.str "__class__" tk],[]⟩) R s:=
  codeAny_call_builtin F.attrBase_ValueError.ga.plain F.entry_bexc_ga (exc_check (L0.andThen (looks_mroIn (M:=model prog w) X Z.be)) (exc_entry X Z L0 h))
theorem exc_by {hh:Heap} {g:Array GenState} {dr:Drawn} {t:Nat} {os:OsState} {tk:Tok} {fill expr:Bool} {Q:Value→Shared→Prop} (X:K.In hh) (Z:ExK K C) (L0:Looks (model prog w) hh (typeOf (.ref x)) (.ref C)) (h:Q (.ref C) ⟨hh,g,dr,t,os⟩) :
    wpAny (model prog w) A (getAttrBy (.ref x) (.str "__class__" tk) fill expr) Q E ⟨hh,g,dr,t,os⟩:=by
  have f3:=F.attrBase_ValueError.ga.bind (.ref x)
  have hx0:(expr && onTheHeap (Value.builtin "BaseException.__getattribute__"))=false:=by cases expr <;> rfl
  have hx2:(Value.builtin "BaseException.__getattribute__" == Value.builtin "object.__getattribute__")=false:=by decide +kernel
  have hx1:(onTheHeap (Value.ref C) && Value.builtin "BaseException.__getattribute__" == Value.builtin "object.__getattribute__")=false:=by rw [hx2];rfl
  have L1:=looks_findIn (M:=model prog w) X Z.ga
  have L2:=looks_findIn (M:=model prog w) X Z.gn
  repeat (any_goals (first | assumption | (refine wpAny_bind (L0.at ?_)) | (refine wpAny_bind (L1.at ?_)) | (refine wpAny_bind (L2.at ?_)) | wp_step))
  refine exc_call X Z L0 ?_
  repeat (any_goals (first | assumption | wp_step))
theorem exc_class {hh:Heap} {g:Array GenState} {dr:Drawn} {t:Nat} {os:OsState} {Q:Option Value→Shared→Prop} (X:K.In hh) (Z:ExK K C) (L0:Looks (model prog w) hh (typeOf (.ref x)) (.ref C)) (h:Q (some (.ref C)) ⟨hh,g,dr,t+1,os⟩) :
    wpAny (model prog w) A (getAttr? (.ref x) "__class__") Q E ⟨hh,g,dr,t,os⟩:=by
  unfold getAttr? getAttrBy?
  repeat (any_goals (first | assumption | (with_reducible apply exc_by X Z L0) | wp_step))
end
end L2
namespace L2
open PySem PySem.Spec PyProof.Rows PySem.W
theorem kitx_exc {K:Frag} {a C:Addr} (Z:ExK K C):KitX K (.ref a) (.ref C) (fun h=>∃ o vs,h.get? a=some o∧o.cls=.ref C∧o.data=.fields vs) where
  ty:=fun M h _ ⟨o,vs,e1,e2,_⟩=>e2 ▸ (Looks.ld e1).andThen .now
  it:=fun M h X _=>by
    obtain ⟨cd,hcD⟩:=Option.isSome_iff_exists.mp Z.cd
    unfold clsIn at hcD
    split at hcD
    · rename_i c' d' cd' sl' ho
      intro A' Q' E' s' k q
      unfold isType loadHead
      exact wpAny_bind (wpAny_loadPart (k _ _ (X _ _ ho)) (wpAny_pure q))
    · cases hcD
  ne:=fun h tp dd its n sl X htp=>by
    obtain ⟨cd,hcD⟩:=Option.isSome_iff_exists.mp Z.cd
    refine Bool.eq_false_iff.mpr fun q=>?_
    have e:C=tp:=Value.ref.inj (beq_iff_eq.mp q)
    subst e
    unfold clsIn at hcD
    split at hcD
    · rename_i c' d' cd' sl' ho
      have z:=(X _ _ ho).symm.trans htp
      cases z
    · cases hcD
  ca:=fun {prog w A E Q s} X I k=>by
    obtain ⟨hh,g,d,t,os⟩:=s
    obtain ⟨o,vs,e1,e2,_⟩:=I
    exact exc_class (C:=C) X Z (e2 ▸ (Looks.ld e1).andThen .now) k
section
variable {X:Cx}
theorem vals_ref:∀ {Ds:List Addr} {its:List Value},Vals (Ds.map V.ref) its→its=Ds.map Value.ref
  | [],_,.nil=>rfl
  | D :: Ds,_ :: _,.cons r h=>by rw [vals_ref h];cases (show _=Value.ref D from r);rfl
theorem call_isinstE (K:Frag) (hK:X.K=K:=by rfl):CallR X (.builtin "isinstance") (fun vs H Q=>∃ (a C D:Addr) (b:Bool),vs=[.ref a,.ref D]∧H a=some (excO a C)∧ExK K C∧kitOne K (.ref C) (.ref D)=some b∧Q (.bl b) H):=by
  subst hK
  intro pins s σ H xs us Q I r h
  obtain ⟨a,C,D,b,rfl,ha,Z,e,q⟩:=h
  obtain ⟨u,v,rfl,ru,rv⟩:=vals2 r
  cases (show u=Value.ref a from ru)
  cases (show v=Value.ref D from rv)
  exact kia_one (kitx_exc Z) I.kIn (I.hok a _ ha).1 e (fun z=>nomatch z) fun tk=>⟨.bl b,H,I.tok tk,rfl,q⟩
theorem call_isinstEB (K:Frag) (hK:X.K=K:=by rfl):CallR X (.builtin "isinstance") (fun vs H Q=>∃ (a C:Addr) (T:String) (b:Bool),vs=[.ref a,.ty T]∧H a=some (excO a C)∧ExK K C∧kitOne K (.ref C) (.type T)=some b∧Q (.bl b) H):=by
  subst hK
  intro pins s σ H xs us Q I r h
  obtain ⟨a,C,T,b,rfl,ha,Z,e,q⟩:=h
  obtain ⟨u,v,rfl,ru,rv⟩:=vals2 r
  cases (show u=Value.ref a from ru)
  cases (show v=Value.type T from rv)
  exact kia_one (kitx_exc Z) I.kIn (I.hok a _ ha).1 e (fun z=>nomatch z) fun tk=>⟨.bl b,H,I.tok tk,rfl,q⟩
theorem call_isinstET (K:Frag) (hK:X.K=K:=by rfl):CallR X (.builtin "isinstance") (fun vs H Q=>∃ (a C c:Addr) (Ds:List Addr) (b:Bool),vs=[.ref a,.ref c]∧H a=some (excO a C)∧H c=some (.tup (Ds.map V.ref))∧ExK K C∧kitAny K (.ref C) (Ds.map Value.ref)=some b∧Q (.bl b) H):=by
  subst hK
  intro pins s σ H xs us Q I r h
  obtain ⟨a,C,c,Ds,b,rfl,ha,hc,Z,e,q⟩:=h
  obtain ⟨u,v,rfl,ru,rv⟩:=vals2 r
  cases (show u=Value.ref a from ru)
  cases (show v=Value.ref c from rv)
  obtain ⟨_,its,rv2,⟨o,h1,h2,n,h3⟩⟩:=(show ObjOk X.prog X.w H s.heap c (.tup (Ds.map V.ref)) from I.hok c _ hc)
  cases vals_ref rv2
  obtain ⟨cls,dd,dat,sl⟩:=o
  cases h2;cases h3
  exact kia_tup (kitx_exc Z) I.kIn (I.hok a _ ha).1 h1 e (fun z=>nomatch z) fun tk=>⟨.bl b,H,I.tok tk,rfl,q⟩
end
abbrev bmV:List Value:=[.type "ValueError", .type "Exception", .type "BaseException", .type "object"]
theorem exc_obj {K:Frag} {h:Heap} {C:Addr} {bmB:List Value} {newId:String} (X:K.In h) (q:excIn K C bmB newId=true) :
    ∃ bm N nm q bs hdct sn sub ab col dd k0 k1 k2 k3 k5 mN,h.get? C=some (excClassObj nm q C N bs bm hdct sn sub ab col dd k0 k1 k2 k3 k5 newId)∧h.Ns N mN∧mN "__init__" = none∧OwnTail h bmB bm:=by
  unfold excIn at q
  split at q
  · rename_i dd cd sl ho
    split at q
    · rename_i C' bm k0 k1 k2 k3 n k5 hm hs
      simp only [Bool.and_eq_true,beq_iff_eq,Bool.not_eq_true'] at q
      obtain ⟨⟨⟨⟨⟨rfl,rfl⟩,hdel⟩,ht⟩,hok⟩,hni⟩:=q
      obtain ⟨nm,bs,mro,ns,qn,hd,sn,sub,ab,col,del⟩:=cd
      dsimp only at hm hdel hok hni
      subst hm hdel
      have hsl:sl=#[k0,k1,k2,k3,some (.builtin n),k5]:=by
        obtain ⟨l⟩:=sl
        simp only at hs
        rw [hs]
      subst hsl
      exact ⟨bm,ns,nm,qn,bs,hd,sn,sub,ab,col,dd,k0,k1,k2,k3,k5,_,X _ _ ho,.of_isNs (isNs_of_in X hok),nsMap_none_of_in X hok hni,tail_of_in X ht⟩
    · cases q
  · cases q
def tRaise (E:XK) (C:Addr) (ta:TA):TS:=fun _ σ H=>ta σ H fun vs H1=>vs.length≤sizeLine∧∀ a,H1 a=none→E (.ref a) (some C) H1
theorem ps_raise {X:Cx} {E:XK} {x:Str} {C:Addr} {e₀:Expr} {rest:List Expr} {ta:TA} {np cpos pos:Pos} (R:Raises X E) (hm:X.mg x=some (.ref C)) (hq:excIn X.K C bmV "ValueError.__new__" = true) (hg:Gl X x) (ha:PA X (e₀ :: rest) ta)
    (hc:X.calm=true:=by rfl) (he:starEach (e₀ :: rest) X.env=(false,eval e₀ X.env) :: starEach rest X.env:=by rfl) (hplain:(backTo cpos (starEach rest X.env)).any (·.1)=false:=by rfl) (hd:(x == ("__debug__" : Str))=false:=by decide) :
    PS X (.Raise (some (.Call (.Name x np) (e₀ :: rest) [] cpos)) none pos) (tRaise E C ta):=by
  intro pins s σ H D I h
  obtain ⟨tl,N,nm,q,bs,hdct,sn,sub,ab,col,dd,k0,k1,k2,k3,k5,mN,hC,hN,hni,T⟩:=exc_obj I.ok.mod.kin hq
  refine wpAny_Raise_call_subT (C:=C) (nm:=nm) (q:=q) (N:=N) (bs:=bs) (bm:=tl) (hdct:=hdct) (sn:=sn) (sub:=sub) (ab:=ab) (col:=col) (dd:=dd) (k0:=k0) (k1:=k1) (k2:=k2) (k3:=k3) (k5:=k5)
    F.excBase_ValueError (mN:=mN) (T.hasType F.excBase_ValueError.hasBase) (I.ok.hd hc) (by rw [he];show (false || (backTo cpos (starEach rest X.env)).any (·.1))=false;rw [hplain];rfl) hni (ld_glob I hg hm ⟨rfl,?_⟩ hd)
  have hh:=ha cpos pins s σ H _ I h
  rw [he] at hh ⊢
  refine Calls.evalArgs_plain (wpAny_mono hh (fun vs s₂ h₂=>?_) fun _ _ y=>y)
  obtain ⟨us,H1,I1,r,hz,q⟩:=h₂
  refine ⟨rfl,by rw [← r.length];exact hz,I1.bk _ _ hC,hN.keeps I1.bk,T.keeps I1.bk,fun h' e mk=>R pins σ H1 s₂ h' e C vs I1 mk (q e ?_)⟩
  cases z:H1 e with
  | none=>rfl
  | some u=>
    obtain ⟨o,eo⟩:=(I1.hok e u z).obj
    rw [mk.new] at eo;cases eo
def HasX (P:Program) (w:World) (K:Frag) (mg:Str→Option Value) (base:Heap) (x:Str) (k:Nat) (ps:List Str) (sp:Sp):Prop:=
  ∃ f fd,FnOk P w K mg base (CXE P w) k f fd ps sp∧Binds K fd ps []∧keepIn K (.ref f)=true∧mg x=some (.ref f)
section
variable {P:Program} {w:World} {K:Frag} {mg:Str→Option Value} {base:Heap}
theorem HasX.mono {x:Str} {j k:Nat} {ps:List Str} {sp:Sp} (G:HasX P w K mg base x j ps sp) (h:j≤k):HasX P w K mg base x k ps sp:=
  let ⟨f,fd,F,r⟩:=G;⟨f,fd,F.mono h,r⟩
theorem Df.hasX {x:Str} {st:Stmt} {N ps:List Str} {k:Nat} {sp:Sp} (D:Df K mg x st) (S:FnScope N ps (defScope st))
    (hb:∀ (kV doc pm:Value) (an:Option Addr) (cdv ct:Value) (us:List Value),us.length=ps.length→bindArgs (fnOf x x (defArgs st) (defBody st) (defScope st) .none kV doc pm an cdv ct) ⟨us,[]⟩=pure (ps.zip us))
    (len:∀ vs H Q E,sp vs H Q E→vs.length=ps.length)
    (hbody:∀ (f:Addr) (cdv:Value) (A:Around) (outer:List Env) (s:Shared) (H:Hp) (vs:List V) (Q:VK) (E:XK),Room k (A.deeper (envOfC x (defScope st) s.heap.objs.size f cdv))→sp vs H Q E →
      ∃ t,PSs (cxOf (CXE P w) P w K mg base N x (defScope st) f cdv A outer s H E) (defBody st) t∧t { nx:=fun _ H'=>Q .non H',rt:=Q } (start N vs) H):HasX P w K mg base x (k+1) ps sp:=by
  obtain ⟨f,fd,F,m⟩:=D
  refine ⟨f,fd,?_,F.binds hb,F.kp,m⟩
  obtain ⟨oc,od,kV,doc,pm,an,cdv,ct,osl,rfl,lk,hcd⟩:=F.ex
  exact fn_of lk hcd S len fun A outer s H vs Q E hr hsp=>hbody f cdv A outer s H vs Q E hr hsp
end
section
variable {X:Cx} {x:Str} {k:Nat} {ps:List Str} {sp:Sp} {p pos:Pos} {e:Expr} {es:List Expr} {t:TA} {E:XK} {σ0:St}
theorem pe_callE (G:HasX X.prog X.w X.K X.mg X.base x k ps sp) (hx:Passes (CXE X.prog X.w) X E) (hr:Room k X.A) (hg:Gl X x) (ha:PA X (e :: es) t)
    (hdb:(x == ("__debug__" : Str))=false:=by decide) (he:starEach (e :: es) X.env=(false,eval e X.env) :: starEach es X.env:=by rfl) (hpl:(backTo pos (starEach es X.env)).any (·.1)=false:=by rfl) :
    PE X (.Call (.Name x p) (e :: es) [] pos) (tCall sp [] E t):=by
  obtain ⟨f,fd,F,b,kp,m⟩:=G
  exact pe_call F hr hg m kp b .nil hx ha hdb he hpl
theorem run_fnX {f:Addr} {fd:FuncData} {pins:List (Addr × Obj)} {H:Hp} {s:Shared} {Q:VK} {us:List Value} {vs:List V} (F:FnOk X.prog X.w X.K X.mg X.base (CXE X.prog X.w) k f fd ps sp) (hr:Room k X.A) (hb:Binds X.K fd ps []) (hx:PassesAt (CXE X.prog X.w) X E σ0)
    (I:Inv X pins σ0 H s) (r:Vals vs us) (h:sp (vs++[]) H Q E):wpAny (model X.prog X.w) X.A (call (.ref f) us) (EP X pins σ0 Q) X.xe s:=by
  have r2:Vals (vs++[]) (us++[]):=r.append .nil
  have hl:(us++[]).length=ps.length:=by rw [← r2.length];exact F.len _ _ _ _ h
  refine wpAny_call (codeAny_mono (F.run X.A X.stack s H ⟨us,[]⟩ (us++[]) (vs++[]) Q E hr I.env0 (hb s us I.kIn hl) r2 h) fun r s' hq=>?_)
  cases r with
  | error e=>exact hx pins H s e s' I hq
  | ok fl=>
    cases fl with
    | ret u=>exact I.after hq
    | next=>exact False.elim hq
    | brk=>exact False.elim hq
    | cont=>exact False.elim hq
theorem pe_callX (G:HasX X.prog X.w X.K X.mg X.base x k ps sp) (hx:PassesAt (CXE X.prog X.w) X E σ0) (hr:Room k X.A) (hg:Gl X x) (ha:PA X (e :: es) t)
    (hdb:(x == ("__debug__" : Str))=false:=by decide) (he:starEach (e :: es) X.env=(false,eval e X.env) :: starEach es X.env:=by rfl) (hpl:(backTo pos (starEach es X.env)).any (·.1)=false:=by rfl) :
    PE X (.Call (.Name x p) (e :: es) [] pos) (fun σ H Q=>σ=σ0∧tCall sp [] E t σ H Q):=by
  obtain ⟨f,fd,F,b,kp,hm⟩:=G
  rintro pins s σ H Q I ⟨rfl,h⟩
  refine wpAny_Call_Name_kw (ld_glob I hg hm ?_ hdb)
  refine callWith_K (h₀:=X.base) I.ok.mod.kin kp (thn (ha pos pins s σ H _ I h) fun us s1 ⟨vs,H1,I1,r,q⟩=>⟨I1.kIn,?_⟩) he hpl
  exact run_fnX F hr b hx I1 r q
end
end L2
namespace L2
open PySem PySem.Spec PyProof.Rows PySem.W
@[irreducible] def bigL:Int:=2 ^ 1000
section
variable {X:Cx}
theorem op_fdivL:OpR X (binaryOp .FloorDiv) (rI (fun _ j=>0 < j∧j < bigL) fun i j=>.int (i / j)):=opI fun i j _ _ _ _ _ hc q=>by
  have h1:(0:Int) < j:=hc.1
  have h2:j < 2 ^ 1000:=by have:=hc.2;unfold bigL at this;exact this
  refine floordiv_int (by omega) (by rw [Int.fdiv_eq_ediv_of_nonneg i (by omega)];exact q) (.inl (PyProof.noPylong_of_log2 ?_))
  have h3:j.natAbs < 2 ^ 1000:=by
    have:(j.natAbs:Int) < ((2 ^ 1000:Nat):Int):=by
      rw [Int.natAbs_of_nonneg (by omega)]
      exact_mod_cast h2
    exact_mod_cast this
  have h4:=(Nat.log2_lt (by omega)).mpr h3
  omega
end
end L2
namespace L2
open PySem PySem.Spec PyProof.Rows PySem.W
section
variable {X:Cx}
end
end L2
namespace L2
section
variable {NL:List PySem.Str} {ix:List Nat} {g:TG} {tt:TT} {te:TE} {σ:St} {H1:Hp} {Qs:Hp→Prop} {acc:PySem.Addr}
theorem comp_tupI {K:PySem.W.Frag} {a:PySem.Addr} {xs:List V} (hn:xs.length < 1000) (Pv:Nat→List V→Hp→Prop)
    (hl:∀ i ys H2,Pv i ys H2→SqT K H2 a xs) (hacc:∀ i ys H2,Pv i ys H2→H2 acc=some (.lst ys)∧ys.length≤i) (h0:Pv 0 [] (upd H1 acc (.lst []))) (hstop:∀ ys H2,Pv xs.length ys H2→Qs H2)
    (hturn:∀ i x ys H2,xs[i]?=some x→Pv i ys H2→g x (comp0 NL ix σ) H2 fun σ' H4=>σ'.drop NL.length=ix.map (fun j=>σ.getD j none)∧tt σ' H4 fun b H5=>
      if b=true then te σ' H5 fun v H6=>H6 acc=some (.lst ys)∧Pv (i+1) (ys++[v]) (upd H6 acc (.lst (ys++[v]))) else Pv (i+1) ys H5) :
    ∃ W:Nat→Nat→List V→Hp→Prop,(∃ m,W 0 m [] (upd H1 acc (.lst []))) ∧
    ∀ i m ys H2,W i m ys H2→H2 acc=some (.lst ys)∧ys.length < PySem.sizeLine ∧
      (((Itt K a).stop i H2∧Qs H2)∨((Itt K a).go i H2∧∃ N:List V→Hp→Prop,(∀ ys' H',N ys' H'→∃ m',m' < m∧W (i+1) m' ys' H') ∧
        ∀ x H3,(Itt K a).yld i H2 x H3→g x (comp0 NL ix σ) H3 fun σ' H4=>σ'.drop NL.length=ix.map (fun j=>σ.getD j none)∧tt σ' H4 fun b H5=>
          if b=true then te σ' H5 fun v H6=>H6 acc=some (.lst ys)∧N (ys++[v]) (upd H6 acc (.lst (ys++[v]))) else N ys H5)):=by
  refine comp_by xs.length hn Pv hacc h0 (fun ys H2 hp=>⟨⟨xs,hl _ _ _ hp,Nat.le_refl _⟩,hstop ys H2 hp⟩) fun i ys H2 hi hp=>?_
  have hs:=hl _ _ _ hp
  refine ⟨⟨xs,xs[i],hs,List.getElem?_eq_getElem hi⟩,?_⟩
  rintro x H3 ⟨rfl,hx⟩
  exact hturn i x ys H3 (hx xs hs) hp
end
end L2
namespace L2
open PySem PySem.Spec PyProof.Rows PySem.W
section
variable {X:Cx}
theorem preSum_take (ns:List Int):∀ j,j≤ns.length→preSum (fun i=>ns.getD i 0) j=(ns.take j).sum
  | 0,_=>rfl
  | j+1,h=>by
    show preSum _ j+ns.getD j 0=_
    rw [preSum_take ns j (by omega),List.take_succ,List.getElem?_eq_getElem (by omega),List.sum_append,List.getD_eq_getElem?_getD,List.getElem?_eq_getElem (by omega)]
    simp
end
end L2
namespace L2
open PySem
theorem mid {t u:TS} {D:Ends} {σ:St} {H:Hp} (P:St→Hp→Prop) (h2:∀ σ' H',P σ' H'→u D σ' H') (h1:∀ E:Ends,(∀ σ' H',P σ' H'→E.nx σ' H')→t E σ H):tSeq t u D σ H:=h1 { D with nx:=u D } h2
end L2
namespace L2
open PySem PySem.Spec PyProof.Rows PySem.W
section
variable {prog:Program} {w:World} {A:Around} {E:Value→Shared→Prop} {s:Shared}
end
section
variable {X:Cx} {pos:Pos}
theorem call_sumA (K:PySem.W.Frag) (hc:X.calm=true) (hK:X.K=K:=by rfl):CallR X (.builtin "sum") (fun vs H Q=>∃ (a:Addr) (ns:List Int),vs=[.ref a]∧SqL K H a (ns.map V.int)∧Q (.int ns.sum) H):=by
  subst hK
  intro pins s σ H xs us Q I r h
  obtain ⟨a,ns,rfl,hl,q⟩:=h
  obtain ⟨u,rfl,ru⟩:=vals1 r
  cases (show u=Value.ref a from ru)
  obtain ⟨its,rv,ht,hz⟩:=I.list hl
  have hlen:=rv.length
  rw [List.length_map] at hlen
  have hh:X.A.in1.handled=none:=I.ok.hd hc
  have hlt:a < s.heap.objs.size:=by obtain ⟨o,e,_⟩:=ht.isList;exact Heap.lt_size e
  refine call_sum_walkAnyS (wpAny_pyIter_list ht.isList ⟨s.heap.objs.size,_,_,_,_,_,_,(fun i=>ns.getD i 0),rfl,(Walks.list hh s.heap.objs.size a (Nat.ne_of_lt hlt) its.toArray).toS,?_,?_,?_,?_⟩)
  · exact ⟨⟨_,Heap.get?_push_size _ rfl,rfl,rfl⟩,Heap.IsList.push ht.isList _⟩
  · intro b hb
    have:b=s.heap.objs.size∨b=a:=by simpa using hb
    show b < (s.heap.objs.push _).size
    rw [Array.size_push]
    rcases this with rfl | rfl
    · exact Nat.lt_succ_self _
    · exact Nat.lt_succ_of_lt hlt
  · intro i v hv
    have hv':its[i]?=some v:=by simpa using hv
    have hi:i < (ns.map V.int).length:=by rw [List.length_map,hlen];exact (List.getElem?_eq_some_iff.mp hv').1
    obtain ⟨u',e1,e2⟩:=rv.get (List.getElem?_eq_getElem hi)
    rw [hv'] at e1
    cases e1
    rw [List.getElem_map] at e2
    obtain ⟨t,e2⟩:∃ t,v=Value.int _ t:=e2
    have hb:ns.getD i 0=ns[i]'(by simpa using hi):=by rw [List.getD_eq_getElem?_getD,List.getElem?_eq_getElem (by simpa using hi)];rfl
    exact ⟨t,by show v=Value.int (ns.getD i 0) t;rw [hb];exact e2⟩
  · intro s' t' hm
    rw [List.size_toArray,← hlen,preSum_take ns _ (Nat.le_refl _),List.take_length]
    obtain ⟨h',g',d',tk,os'⟩:=s'
    have e1:=hm.gens
    have e2:=hm.drawn
    have e3:=hm.os
    dsimp only at e1 e2 e3
    subst e1 e2 e3
    exact ⟨.int _,H,I.kept (t':=tk) fun b o e=>hm.heap b o (by simp;exact Nat.ne_of_lt (Heap.lt_size e)) (Heap.get?_push_of_some _ e),⟨_,rfl⟩,q⟩
end
end L2
namespace HT
open PySem PySem.Spec PyProof.Rows
section
variable {prog:Program} {w:World} {A:Around} {E:Value→Shared→Prop} {s:Shared}
theorem getItem_tuple_all {t sl:Addr} {items:Array Value} {vl vu:Value} {lo hi:Option Int} {Q:Value→Shared→Prop} (ht:IsTup s.heap t items) (hs:s.heap.IsSliceOf sl vl vu .none) (pl:IsPart vl lo) (pu:IsPart vu hi)
    (h1:sIx items.size 0 lo=0) (h2:sIx items.size items.size hi=items.size) (h:Q (.ref t) s):wpAny (model prog w) A (getItem (.ref t) (.ref sl)) Q E s:=by
  obtain ⟨os,hos,hcs,hds⟩:=id hs
  have hTs:s.TypeIs (.ref sl) "slice" := ⟨os,hos,hcs⟩
  unfold getItem
  try with_reducible refine wpAny_holding ?_
  first | refine wpAny_bind (wpAny_pure ?_) | skip
  refine wpAny_bind (wpAny_sequenceKey ht.typeIs (by decide) ?_)
  refine wpAny_bind (wpAny_callSpecial?_slot (name:=Str.ofString "__getitem__") ht.typeIs PyProof.Rows.slot_tuple_getitem
    (wpAny_call_entry PyProof.Rows.slot_tuple_getitem ht.typeIs entry_tuple_getitem ?_ (args_tuple_getitem _ _)))
  show wpAny _ _ (Builtin.Tuple.tupleItemsOf (.ref t) >>= _) _ _ s
  refine wpAny_bind (tupleItemsOf_ ht ?_)
  refine wpAny_bind (wpAny_typeOf hTs ?_)
  rw [if_pos (by decide)]
  refine wpAny_bind (sliceApplied_gen hs pl pu ?_)
  have hyes:((((sIx items.size 0 lo:Nat):Int) == 0 && (1:Int) == 1 && (sIx items.size items.size hi - sIx items.size 0 lo) == items.size)=true):=by
    rw [h1,h2];simp
  show wpAny _ _ (if (((sIx items.size 0 lo:Nat):Int) == 0 && (1:Int) == 1 && (sIx items.size items.size hi - sIx items.size 0 lo) == items.size)=true then _ else _) _ _ s
  rw [if_pos hyes]
  unfold Builtin.Tuple.tupleIsExact
  refine wpAny_bind (wpAny_bind (wpAny_typeOf ht.typeIs (wpAny_pure ?_)))
  rw [if_pos (by decide)]
  refine wpAny_bind (wpAny_rule ?_)
  first
    | exact wpAny_pure ⟨_,rfl,wpAny_pure h⟩
    | exact wpAny_bind (wpAny_pure (wpAny_pure ⟨_,rfl,wpAny_pure h⟩))
end
end HT
namespace L2
open PySem PySem.Spec PyProof.Rows
section
variable {X:Cx}
def rSlTA (K:PySem.W.Frag):V→Option Int→Option Int→Hp→VK→Prop:=fun x lo hi H Q=>∃ a xs,x=.ref a∧SqT K H a xs ∧
  ((HT.sIx xs.length 0 lo=0∧HT.sIx xs.length xs.length hi=xs.length)→Q (.ref a) H)∧(¬ (HT.sIx xs.length 0 lo=0∧HT.sIx xs.length xs.length hi=xs.length)→∀ p,H p=none→Q (.ref p) (upd H p (.tup (cutV xs lo hi))))
theorem sl_tupA:SlR X (rSlTA X.K):=by
  intro pins s σ H x v vl vu lo hi sl Q I rx hs pl pu h
  obtain ⟨a,xs,rfl,hx,q1,q2⟩:=h
  by_cases hw:HT.sIx xs.length 0 lo=0∧HT.sIx xs.length xs.length hi=xs.length
  · cases rx
    obtain ⟨its,r,ht,hz⟩:=I.tuple hx
    have hlen:its.toArray.size=xs.length:=by rw [List.size_toArray];exact r.length.symm
    refine ⟨"tuple", _,PyProof.Rows.slot_tuple_getitem.lookup,ht.typeIs,?_⟩
    exact HT.getItem_tuple_all ht hs pl pu (by rw [hlen];exact hw.1) (by rw [hlen];exact hw.2) ⟨.ref a,H,I,rfl,q1 hw⟩
  · exact sl_tup pins s σ H _ v vl vu lo hi sl Q I rx hs pl pu ⟨a,xs,rfl,hx,hw,q2 hw⟩
end
end L2
namespace L2
open PySem PySem.Spec PyProof.Rows PySem.W
section
variable {X:Cx}
theorem op_mulB:OpR X (binaryOp .Mult) (rI IntMulOk fun i j=>.int (i * j)):=opI fun _ _ _ _ _ _ _ hc q=>mul_int q hc
variable {e st:Expr} {te:TE} {ts:TO} {pos p2:Pos}
end
end L2
namespace L2
open PySem PySem.Spec PyProof.Rows PySem.W
mutual
inductive Td (H:Hp):V→PyData→Prop
  | non:Td H .non .none
  | bl (b:Bool):Td H (.bl b) (.bool b)
  | int (i:Int):Td H (.int i) (.int i)
  | str (z:Str):Td H (.str z) (.str z)
  | lst {a:Addr} {xs:List V} {ds:List PyData}:H a=some (.lst xs)→Tds H xs ds→Td H (.ref a) (.list ds)
  | tup {a:Addr} {xs:List V} {ds:List PyData}:H a=some (.tup xs)→Tds H xs ds→Td H (.ref a) (.tuple ds)
  | dct {a:Addr} {kvs:List (Key × V)} {ps:List (PyData × PyData)}:H a=some (.dK kvs)→Tds H (kvs.map fun p=>kV p.1) (ps.map (·.1))→Tds H (kvs.map (·.2)) (ps.map (·.2))→Td H (.ref a) (.dict ps)
inductive Tds (H:Hp):List V→List PyData→Prop
  | nil:Tds H [] []
  | cons {v:V} {d:PyData} {vs:List V} {ds:List PyData}:Td H v d→Tds H vs ds→Tds H (v :: vs) (d :: ds)
end
mutual
theorem Td.same {H H':Hp} (s:Same H H'):∀ {v:V} {d:PyData},Td H v d→Td H' v d
  | _,_,.non=>.non
  | _,_,.bl b=>.bl b
  | _,_,.int i=>.int i
  | _,_,.str z=>.str z
  | _,_,.lst e t=>.lst (s _ _ e) (t.same s)
  | _,_,.tup e t=>.tup (s _ _ e) (t.same s)
  | _,_,.dct e t u=>.dct (s _ _ e) (t.same s) (u.same s)
theorem Tds.same {H H':Hp} (s:Same H H'):∀ {vs:List V} {ds:List PyData},Tds H vs ds→Tds H' vs ds
  | _,_,.nil=>.nil
  | _,_,.cons t u=>.cons (t.same s) (u.same s)
end
mutual
def noList:PyData→Bool
  | .none | .bool _ | .int _ | .str _=>true
  | .list _=>false
  | .tuple xs=>noListAll xs
  | .dict kvs=>noListKv kvs
def noListAll:List PyData→Bool
  | []=>true
  | x :: xs=>noList x && noListAll xs
def noListKv:List (PyData × PyData)→Bool
  | []=>true
  | (k,v) :: r=>noList k && noList v && noListKv r
end
theorem noListKv_keys:∀ kvs:List (PyData × PyData),noListKv kvs=true→noListAll (kvs.map (·.1))=true∧noListAll (kvs.map (·.2))=true
  | [],_=>⟨by simp only [List.map_nil,noListAll],by simp only [List.map_nil,noListAll]⟩
  | (k,v) :: r,h=>by
    simp only [noListKv,Bool.and_eq_true] at h
    obtain ⟨a,b⟩:=noListKv_keys r h.2
    simp only [List.map_cons,noListAll,Bool.and_eq_true]
    exact ⟨⟨h.1.1,a⟩,⟨h.1.2,b⟩⟩
theorem pairs_vals {P:Program} {w:World} {es:List DictEntry} {vs:List (Key × Value)} (h:Pairs (mixKind P w) es vs):∀ {kvs:List (Key × V)},KV kvs vs→Vals (kvs.map fun p=>kV p.1) (es.map (·.key))∧Vals (kvs.map (·.2)) (es.map (·.val)):=by
  induction h with
  | nil=>intro kvs r;cases r;exact ⟨.nil,.nil⟩
  | cons hk hv _ ih=>
    intro kvs r
    cases r with
    | cons r1 r2=>
      obtain ⟨a,b⟩:=ih r2
      refine ⟨.cons ?_ a,.cons (by show RelV _ _;simp only [hv];exact r1.2) b⟩
      show RelV (kV _) _
      simp only [r1.1]
      rcases keyIs_shape hk with ⟨i,t,e,e'⟩ | ⟨x,t,e,e'⟩
      · rw [e,e'];exact ⟨t,rfl⟩
      · rw [e,e'];exact ⟨t,rfl⟩
section
variable {X:Cx} {pins:List (Addr × Obj)} {σ:St} {H:Hp} {s:Shared}
mutual
theorem reads_td (I:Inv X pins σ H s):∀ {v:V} {d:PyData},Td H v d→∀ {u:Value},RelV v u→∃ as,Reads s.heap u d as∧(noList d=true→sysModules ∉ as)
  | _,_,.non,_,r=>by cases r;exact ⟨[],.none,fun _ h=>by cases h⟩
  | _,_,.bl b,_,r=>by cases r;exact ⟨[],.bool b,fun _ h=>by cases h⟩
  | _,_,.int i,_,r=>by obtain ⟨t,rfl⟩:=r;exact ⟨[],.int i t,fun _ h=>by cases h⟩
  | _,_,.str z,_,r=>by obtain ⟨t,rfl⟩:=r;exact ⟨[],.str z t,fun _ h=>by cases h⟩
  | _,_,.lst e t,_,r=>by
    cases r
    obtain ⟨_,its,n,rv,g⟩:=I.hok _ _ e
    obtain ⟨as,ra,_⟩:=reads_tds I t rv
    exact ⟨_,.list g rfl rfl ra,fun h=>by simp only [noList] at h;cases h⟩
  | _,_,.tup e t,_,r=>by
    cases r
    obtain ⟨_,its,rv,o,g,c,n,dd⟩:=I.hok _ _ e
    obtain ⟨as,ra,na⟩:=reads_tds I t rv
    exact ⟨as,.tuple g c dd ra,fun h=>na (by simpa only [noList] using h)⟩
  | _,_,.dct e t u,_,r=>by
    cases r
    obtain ⟨_,hs,vs,kv,o,es,ep,g,ex,dd,_,pr,_⟩:=I.hok _ _ e
    obtain ⟨v1,v2⟩:=pairs_vals pr kv
    obtain ⟨as,ra,na⟩:=reads_tds I t v1
    obtain ⟨bs,rb,nb⟩:=reads_tds I u v2
    refine ⟨_,.dict g ex.1 dd ra rb,fun h=>?_⟩
    simp only [noList] at h
    obtain ⟨h1,h2⟩:=noListKv_keys _ h
    intro m
    rcases List.mem_append.mp m with m | m
    · rcases List.mem_cons.mp m with m | m
      · exact beq_eq_false_iff_ne.mp hs m.symm
      · exact na h1 m
    · exact nb h2 m
theorem reads_tds (I:Inv X pins σ H s):∀ {vs:List V} {ds:List PyData},Tds H vs ds→∀ {us:List Value},Vals vs us→∃ as,ReadsAll s.heap us ds as∧(noListAll ds=true→sysModules ∉ as)
  | _,_,.nil,_,r=>by cases r;exact ⟨[],.nil,fun _ h=>by cases h⟩
  | _,_,.cons t u,_,r=>by
    cases r with
    | cons r1 r2=>
      obtain ⟨as,ra,na⟩:=reads_td I t r1
      obtain ⟨bs,rb,nb⟩:=reads_tds I u r2
      refine ⟨as++bs,.cons ra rb,fun h=>?_⟩
      simp only [noListAll,Bool.and_eq_true] at h
      intro m
      rcases List.mem_append.mp m with m | m
      · exact na h.1 m
      · exact nb h.2 m
end
variable {k:Nat}
end
section
variable {H:Hp}
theorem Tds.len:∀ {vs:List V} {ds:List PyData},Tds H vs ds→vs.length=ds.length
  | _,_,.nil=>rfl
  | _,_,.cons _ u=>by rw [List.length_cons,List.length_cons,u.len]
theorem Tds.ints (ns:List Int):Tds H (ns.map V.int) (ns.map PyData.int):=by
  induction ns with
  | nil=>exact .nil
  | cons n ns ih=>exact .cons (.int n) ih
end
structure Gd (hd hl:Bool) (c e:Nat) (d:PyData):Prop where
  sh:d.showable=true
  lv:d.leavesShort 61=true
  wt:d.weight≤c
  dp:d.depth≤e
  nd:hd=false→d.hasDict=false
  nl:hl=false→noList d=true
structure Gs (hd hl:Bool) (c e:Nat) (ds:List PyData):Prop where
  sh:PyData.showableAll ds=true
  lv:PyData.leavesShortAll 61 ds=true
  wt:PyData.weightAll ds≤c
  dp:PyData.depthAll ds≤e
  nd:hd=false→PyData.hasDictAll ds=false
  nl:hl=false→noListAll ds=true
section
variable {hd hl:Bool} {c c' e e':Nat} {d:PyData} {ds es:List PyData}
theorem Gd.up (g:Gd false false c e d):Gd hd hl c e d:=⟨g.sh,g.lv,g.wt,g.dp,fun _=>g.nd rfl,fun _=>g.nl rfl⟩
theorem Gs.up (g:Gs false false c e ds):Gs hd hl c e ds:=⟨g.sh,g.lv,g.wt,g.dp,fun _=>g.nd rfl,fun _=>g.nl rfl⟩
theorem Gs.nil:Gs hd hl 0 0 []:=⟨by simp only [PyData.showableAll],by simp only [PyData.leavesShortAll],by simp only [PyData.weightAll];omega,by simp only [PyData.depthAll];omega,fun _=>by simp only [PyData.hasDictAll],fun _=>by simp only [noListAll]⟩
theorem Gs.cons (g:Gd hd hl c e d) (h:Gs hd hl c' e ds):Gs hd hl (c+1+c') e (d :: ds):=by
  have:=g.wt;have:=h.wt;have:=g.dp;have:=h.dp
  refine ⟨?_,?_,?_,?_,fun z=>?_,fun z=>?_⟩
  · simp only [PyData.showableAll,g.sh,h.sh,Bool.and_self]
  · simp only [PyData.leavesShortAll,g.lv,h.lv,Bool.and_self]
  · simp only [PyData.weightAll];omega
  · simp only [PyData.depthAll];omega
  · simp only [PyData.hasDictAll,g.nd z,h.nd z,Bool.or_self]
  · simp only [noListAll,g.nl z,h.nl z,Bool.and_self]
theorem Gd.tup (g:Gs hd hl c e ds):Gd hd hl c (e+1) (.tuple ds):=
  ⟨by simp only [PyData.showable];exact g.sh,by simp only [PyData.leavesShort];exact g.lv,by simp only [PyData.weight];exact g.wt,by simp only [PyData.depth];have:=g.dp;omega,fun z=>by simp only [PyData.hasDict];exact g.nd z,fun z=>by simp only [noList];exact g.nl z⟩
theorem Gd.non:Gd hd hl 0 0 .none:=⟨by simp only [PyData.showable],by simp only [PyData.leavesShort],by simp only [PyData.weight];omega,by simp only [PyData.depth];omega,fun _=>by simp only [PyData.hasDict],fun _=>by simp only [noList]⟩
theorem Gd.bl (b:Bool):Gd hd hl 0 0 (.bool b):=⟨by simp only [PyData.showable],by simp only [PyData.leavesShort],by simp only [PyData.weight];omega,by simp only [PyData.depth];omega,fun _=>by simp only [PyData.hasDict],fun _=>by simp only [noList]⟩
theorem Gd.str {z:Str} (h:∀ c∈z.cps.toList,c < 1000):Gd hd hl z.cps.size 0 (.str z):=⟨by simp only [PyData.showable],by
    simp only [PyData.leavesShort,List.all_eq_true,decide_eq_true_eq]
    intro c hc
    have:=h c hc
    have e:16 ^ 8=4294967296:=by decide
    omega,by simp only [PyData.weight];omega,by simp only [PyData.depth];omega,fun _=>by simp only [PyData.hasDict],fun _=>by simp only [noList]⟩
end
end L2
namespace L2
open PySem PySem.Spec PyProof.Rows PySem.W
theorem iteB {c:Bool} {A B:Prop} (h:c=false) (q:B):if c=true then A else B:=by rw [h];exact iteF q
theorem iteA {c:Bool} {A B:Prop} (h:c=true) (q:A):if c=true then A else B:=by rw [h];exact iteT q
end L2
namespace W56
open PySem
def S:Nat→Nat
  | 0=>0
  | m+1=>5 * S m+1
def it (x:Nat):Nat→Nat
  | 0=>x
  | m+1=>5 * it x m+1
def road (mask:Nat) (i p:Nat):Nat→Nat × Nat
  | 0=>(i,p)
  | m+1=>SetTable.leap mask (road mask i p m).1 (road mask i p m).2
end W56
namespace W56
open PySem
end W56
namespace L2
open PySem PySem.Spec PyProof.Rows PySem.W
section
variable {X:Cx}
end
theorem Gd.int {hd hl:Bool} {i:Int} (h:i.natAbs < 10 ^ 12):Gd hd hl 41 0 (.int i):=by
  have s1:=ints_showable (ns:=[i]) (fun n hn=>by rw [List.mem_singleton.mp hn];exact h)
  simp only [PyData.showable,List.map_cons,List.map_nil,PyData.showableAll,Bool.and_true] at s1
  refine ⟨by simp only [PyData.showable];exact s1,?_,?_,by simp only [PyData.depth];omega,fun _=>by simp only [PyData.hasDict],fun _=>by simp only [noList]⟩
  · simp only [PyData.leavesShort,decide_eq_true_eq]
    exact Nat.le_trans (PyData.shown_int_le h) (by decide)
  · have:=weight_ints [i] (fun n hn=>by rw [List.mem_singleton.mp hn];exact h)
    simp only [List.map_cons,List.map_nil,PyData.weightAll,List.length_singleton] at this
    omega
end L2
namespace L2
open PySem PySem.Spec PyProof.Rows PySem.W
section
variable {X:Cx}
def rSlU:V→Option Int→Option Int→Hp→VK→Prop:=fun x lo hi H Q=>∃ a xs,x=.ref a∧H a=some (.tup xs)∧∀ r H',Same H H'→H' r=some (.tup (cutV xs lo hi))→Q (.ref r) H'
theorem cut_whole {xs:List V} {lo hi:Option Int} (h:HT.sIx xs.length 0 lo=0∧HT.sIx xs.length xs.length hi=xs.length):cutV xs lo hi=xs:=by
  unfold cutV
  rw [h.1,h.2,List.drop_zero,Nat.sub_zero,List.take_length]
theorem sl_tupU:SlR X rSlU:=by
  intro pins s σ H x v vl vu lo hi sl Q I rx hs pl pu h
  obtain ⟨a,xs,rfl,hx,q⟩:=h
  refine sl_tupA pins s σ H _ v vl vu lo hi sl Q I rx hs pl pu ⟨a,xs,rfl,SqT.of hx,fun w=>?_,fun _ p hp=>?_⟩
  · exact q a H (Same.refl H) (by rw [cut_whole w];exact hx)
  · exact q p _ ((Same.refl H).new hp) upd_same
def rCatU:R2:=fun x y H Q=>∃ a b xs ys,x=.ref a∧y=.ref b∧H a=some (.tup xs)∧H b=some (.tup ys)∧xs.length+ys.length≤sizeLine∧∀ r H',Same H H'→H' r=some (.tup (xs++ys))→Q (.ref r) H'
theorem op_catU:OpR X (binaryOp .Add) rCatU:=by
  intro pins s σ H x y v u Q I rx ry h
  obtain ⟨a,b,xs,ys,rfl,rfl,ha,hb,hz,q⟩:=h
  refine op_catA pins s σ H _ _ v u Q I rx ry ⟨a,b,xs,ys,rfl,rfl,SqT.of ha,SqT.of hb,hz,fun e=>?_,fun _ e=>?_,fun _ _ p hp=>?_⟩
  · exact q b H (Same.refl H) (by rw [e,List.nil_append];exact hb)
  · exact q a H (Same.refl H) (by rw [e,List.append_nil];exact ha)
  · exact q p _ ((Same.refl H).new hp) upd_same
end
theorem Gd.big {hd hl:Bool} {i:Int} (h:i.natAbs < 10 ^ 60):Gd hd hl 201 0 (.int i):=by
  have e:i.natAbs < 2 ^ 200:=Nat.lt_trans h (by decide)
  have lg:i.natAbs≠0→i.natAbs.log2 < 200:=fun n0=>(Nat.log2_lt n0).mpr e
  have l0:i.natAbs.log2 < 200:=by
    by_cases n0:i.natAbs=0
    · rw [n0];decide
    · exact lg n0
  refine ⟨?_,?_,?_,by simp only [PyData.depth];omega,fun _=>by simp only [PyData.hasDict],fun _=>by simp only [noList]⟩
  · simp only [PyData.showable,decide_eq_true_eq];omega
  · simp only [PyData.leavesShort,decide_eq_true_eq]
    have e:=int_text_length_le10 (k:=60) (by decide) h
    show (Str.ofString (toString i)).length≤61
    rw [PySem.ofString_length];exact e
  · simp only [PyData.weight]
    split <;> omega
end L2
namespace L2
open PySem PySem.Spec PyProof.Rows PySem.W
structure PSw (X:Cx) (sts:List Stmt) (t:TS):Prop where
  h:PSs X sts t
structure Pw (X:Cx) (st:Stmt) (t:TS):Prop where
  h:PS X st t
structure PEw (X:Cx) (e:Expr) (t:TE):Prop where
  h:PE X e t
structure PAw (X:Cx) (es:List Expr) (t:TA):Prop where
  h:PA X es t
section
variable {X:Cx}
theorem exw {sts:List Stmt} {R:TS→Prop} (h:∃ t,PSw X sts t∧R t):∃ t,PSs X sts t∧R t:=let ⟨t,a,b⟩:=h;⟨t,a.h,b⟩
theorem w_cons {st:Stmt} {rest:List Stmt} {t u:TS} (h1:Pw X st t) (h2:PSw X rest u):PSw X (st :: rest) (tSeq t u):=⟨pss_cons h1.h h2.h⟩
theorem w_one {st:Stmt} {t:TS} (h:Pw X st t):PSw X [st] t:=⟨pss_one h.h⟩
theorem w_set {i:Nat} {x:Str} {e:Expr} {te:TE} {pos' pos:Pos} (hN:X.N.Nodup) (hi:X.N[i]?=some x) (hx:Loc X.env.scope x) (he:PEw X e te) (hs:swapsWith e (some (.Name x pos')) pos.line X.env=pure false:=by rfl) (hf:X.fn x=true∨X.env.scope.names.lookup x=some .local:=by first | exact .inl rfl | exact .inr rfl | assumption) :
    Pw X (.Assign [.Name x pos'] e pos) (tAsg te (gName i)):=⟨ps_set hN hi hx he.h hs hf⟩
theorem w_op {a b:Expr} {ta tb:TE} {pos:Pos} {op:Operator} {r:R2} (ho:OpR X (binaryOp op) r) (ha:PEw X a ta) (hb:PEw X b tb):PEw X (.BinOp a op b pos) (tOp r ta tb):=⟨pe_op ho ha.h hb.h⟩
theorem w_lst {es:List Expr} {t:TA} {pos:Pos} (h:PAw X es t):PEw X (.List es pos) (tLst t):=⟨pe_lst h.h⟩
theorem w_acons {e:Expr} {es:List Expr} {te:TE} {t:TA} (ha:PEw X e te) (hr:PAw X es t) (hs:starEach (e :: es) X.env=(false,eval e X.env) :: starEach es X.env:=by rfl):PAw X (e :: es) (tCons te t):=⟨pa_cons ha.h hr.h hs⟩
theorem w_anil:PAw X [] tNil:=⟨pa_nil⟩
theorem w_str {x:Str} {j} {pos:Pos}:PEw X (.Constant (.str x) j pos) (tC (.str x)):=⟨pe_str⟩
end
end L2
namespace L2
open PySem PySem.Spec PyProof.Rows
structure RoomH (k:Nat) (A:Around):Prop where
  dp:A.depth+3 * k+5 < recursionLimit
  un:A.units+16 * k+200 < cLine
  gd:A.guards=some []
theorem Room.h {k:Nat} {A:Around} (r:Room k A):RoomH k A:=⟨r.dp,r.un,r.gd⟩
section
variable {X:Cx} {CX:CXT} {k:Nat} {f C:Addr} {fd:FuncData} {ps:List Str} {sp:Sp} {dvs:List V} {ds:List Value} {E:XK} {x m:Str} {p pos apos:Pos} {e o:Expr} {es:List Expr} {ta:TE} {t:TA}
end
section
variable {P:Program} {w:World} {K:PySem.W.Frag} {mg:Str→Option Value} {base:Heap}
end
section
variable {P:Program} {w:World} {K:PySem.W.Frag} {mg:Str→Option Value} {base:Heap}
end
end L2
namespace L2
open PySem PySem.Spec PyProof.Rows PySem.W
section
variable {X:Cx}
theorem passes_no {P:Program} {w:World} {X:Cx}:Passes (CXE P w) X (fun _ _ _=>False):=fun _ _ _ _ _ _ _ h=>by
  obtain ⟨_,_,_,_,_,_,_,_,_,_,z⟩:=h
  exact z.elim
end
end L2
namespace W39
open PySem
abbrev Rn:=Str × Int
def tot (rs:List Rn):Int:=(rs.map (·.2)).sum
def ctot (rs:List Rn) (c:Str):Int:=((rs.filter fun r=>decide (r.1=c)).map (·.2)).sum
def one (p m:Int):Int:=if 0 < p then (if m < p then m else p) else 0
def cnt:List Rn→Str→Int→Int
  | [],_,_=>0
  | r :: rs,c,p=>(if r.1=c then one p r.2 else 0)+cnt rs c (p - r.2)
def ltr:List Rn→Int→Option Str
  | [],_=>none
  | r :: rs,p=>if p < r.2 then some r.1 else ltr rs (p - r.2)
def plc:List Rn→Str→Int→Option Int
  | [],_,_=>none
  | r :: rs,c,so=>if r.1=c then (if 0≤so∧so < r.2 then some so else (plc rs c (so - r.2)).map (·+r.2)) else (plc rs c so).map (·+r.2)
def Pos (rs:List Rn):Prop:=∀ r∈rs,1≤r.2
theorem Pos.tail {r:Rn} {rs:List Rn} (h:Pos (r :: rs)):Pos rs:=fun x hx=>h x (List.mem_cons_of_mem _ hx)
theorem Pos.head {r:Rn} {rs:List Rn} (h:Pos (r :: rs)):1≤r.2:=h r List.mem_cons_self
theorem Pos.drop {rs:List Rn} (h:Pos rs) (n:Nat):Pos (rs.drop n):=fun x hx=>h x (List.mem_of_mem_drop hx)
theorem tot_cons (r:Rn) (rs:List Rn):tot (r :: rs)=r.2+tot rs:=by simp [tot]
theorem ctot_cons (r:Rn) (rs:List Rn) (c:Str):ctot (r :: rs) c=(if r.1=c then r.2 else 0)+ctot rs c:=by
  unfold ctot
  by_cases h:r.1=c
  · simp [h]
  · simp [h]
theorem tot_nn:∀ {rs:List Rn},Pos rs→0≤tot rs
  | [],_=>by simp [tot]
  | r :: rs,h=>by rw [tot_cons];have:=h.head;have:=tot_nn h.tail;omega
theorem ctot_nn {c:Str}:∀ {rs:List Rn},Pos rs→0≤ctot rs c
  | [],_=>by simp [ctot]
  | r :: rs,h=>by rw [ctot_cons];have:=h.head;have:=ctot_nn (c:=c) h.tail;split <;> omega
theorem tot_app (a b:List Rn):tot (a++b)=tot a+tot b:=by simp [tot]
theorem ctot_app (a b:List Rn) (c:Str):ctot (a++b) c=ctot a c+ctot b c:=by simp [ctot]
theorem take_succ {rs:List Rn} {i:Nat} {r:Rn} (h:rs[i]?=some r):rs.take (i+1)=rs.take i++[r]:=by
  rw [List.take_succ,h];rfl
theorem drop_cons {rs:List Rn} {i:Nat} {r:Rn} (h:rs[i]?=some r):rs.drop i=r :: rs.drop (i+1):=by
  obtain ⟨h1,h2⟩:=List.getElem?_eq_some_iff.mp h
  rw [List.drop_eq_getElem_cons h1,h2]
theorem tot_succ {rs:List Rn} {i:Nat} {r:Rn} (h:rs[i]?=some r):tot (rs.take (i+1))=tot (rs.take i)+r.2:=by
  rw [take_succ h,tot_app];simp [tot]
theorem ctot_succ {rs:List Rn} {i:Nat} {r:Rn} (h:rs[i]?=some r) (c:Str):ctot (rs.take (i+1)) c=ctot (rs.take i) c+(if r.1=c then r.2 else 0):=by
  rw [take_succ h,ctot_app,ctot_cons];simp [ctot]
theorem tot_take_le {rs:List Rn} (h:Pos rs) {i:Nat} {r:Rn} (e:rs[i]?=some r):0≤tot (rs.take i)∧tot (rs.take i)+r.2≤tot rs:=by
  have h1:tot rs=tot (rs.take i)+tot (rs.drop i):=by rw [← tot_app,List.take_append_drop]
  rw [drop_cons e,tot_cons] at h1
  have:=tot_nn (h.drop (i+1))
  have:0≤tot (rs.take i):=tot_nn fun x hx=>h x (List.mem_of_mem_take hx)
  omega
theorem cnt_neg {c:Str}:∀ {rs:List Rn} {p:Int},Pos rs→p≤0→cnt rs c p=0
  | [],_,_,_=>rfl
  | r :: rs,p,h,l=>by
    have:=h.head
    show (if r.1=c then one p r.2 else 0)+cnt rs c (p - r.2)=0
    rw [cnt_neg h.tail (by omega)]
    unfold one
    rw [if_neg (by omega:¬ 0 < p)]
    split <;> rfl
theorem cnt_all {c:Str}:∀ {rs:List Rn} {p:Int},Pos rs→tot rs≤p→cnt rs c p=ctot rs c
  | [],_,_,_=>by simp [cnt,ctot]
  | r :: rs,p,h,l=>by
    have h1:=h.head
    have h2:=tot_nn h.tail
    rw [tot_cons] at l
    show (if r.1=c then one p r.2 else 0)+cnt rs c (p - r.2)=_
    rw [cnt_all h.tail (by omega),ctot_cons]
    unfold one
    rw [if_pos (by omega:0 < p)]
    split <;> (try split) <;> omega
theorem plc_none {c:Str}:∀ {rs:List Rn} {so:Int},Pos rs→0≤so→(plc rs c so=none ↔ ctot rs c≤so)
  | [],so,_,h=>by simp [plc,ctot];exact h
  | r :: rs,so,h,l=>by
    have h1:=h.head
    have h2:=ctot_nn (c:=c) h.tail
    rw [ctot_cons]
    unfold plc
    by_cases e:r.1=c
    · rw [if_pos e,if_pos e]
      by_cases k:0≤so∧so < r.2
      · rw [if_pos k]
        constructor
        · intro z;cases z
        · intro z;omega
      · rw [if_neg k,Option.map_eq_none_iff,plc_none h.tail (by omega)]
        omega
    · rw [if_neg e,if_neg e,Option.map_eq_none_iff,plc_none h.tail l]
      omega
theorem plc_some {c:Str}:∀ {rs:List Rn} {so p:Int},Pos rs→0≤so→plc rs c so=some p→0≤p∧p < tot rs∧cnt rs c p=so∧ltr rs p=some c
  | [],_,_,_,_,e=>by cases e
  | r :: rs,so,p,h,l,e=>by
    have h1:=h.head
    have h2:=tot_nn h.tail
    unfold plc at e
    rw [tot_cons]
    show _∧_∧(if r.1=c then one p r.2 else 0)+cnt rs c (p - r.2)=so∧(if p < r.2 then some r.1 else ltr rs (p - r.2))=some c
    by_cases x:r.1=c
    · rw [if_pos x] at e ⊢
      by_cases k:0≤so∧so < r.2
      · rw [if_pos k] at e
        cases e
        rw [cnt_neg h.tail (by omega),if_pos k.2,x]
        refine ⟨by omega,by omega,?_,rfl⟩
        unfold one
        split <;> (try split) <;> omega
      · rw [if_neg k] at e
        obtain ⟨q,e1,rfl⟩:=Option.map_eq_some_iff.mp e
        obtain ⟨a,b,cc,d⟩:=plc_some h.tail (by omega) e1
        rw [show q+r.2 - r.2=q by omega,cc,if_neg (by omega:¬ q+r.2 < r.2)]
        refine ⟨by omega,by omega,?_,d⟩
        unfold one
        split <;> (try split) <;> omega
    · rw [if_neg x] at e ⊢
      obtain ⟨q,e1,rfl⟩:=Option.map_eq_some_iff.mp e
      obtain ⟨a,b,cc,d⟩:=plc_some h.tail l e1
      rw [show q+r.2 - r.2=q by omega,cc,if_neg (by omega:¬ q+r.2 < r.2)]
      exact ⟨by omega,by omega,by omega,d⟩
theorem ltr_some:∀ {rs:List Rn} {p:Int},Pos rs→0≤p→p < tot rs→∃ c,ltr rs p=some c
  | [],p,_,h,l=>by simp [tot] at l;omega
  | r :: rs,p,h,h0,l=>by
    rw [tot_cons] at l
    unfold ltr
    by_cases k:p < r.2
    · exact ⟨_,if_pos k⟩
    · rw [if_neg k];exact ltr_some h.tail (by omega) (by omega)
theorem ltr_none:∀ {rs:List Rn} {p:Int},Pos rs→tot rs≤p→ltr rs p=none
  | [],p,_,h=>rfl
  | r :: rs,p,h,l=>by
    rw [tot_cons] at l
    have:=tot_nn h.tail
    unfold ltr
    rw [if_neg (by omega)]
    exact ltr_none h.tail (by omega)
end W39
namespace W39
theorem cnt_nn {c:PySem.Str}:∀ {rs:List Rn} {p:Int},Pos rs→0≤cnt rs c p
  | [],_,_=>Int.le_refl _
  | r :: rs,p,h=>by
    have h1:=h.head
    have h2:=cnt_nn (c:=c) (p:=p - r.2) h.tail
    show 0≤(if r.1=c then one p r.2 else 0)+cnt rs c (p - r.2)
    unfold one
    split <;> (try split) <;> (try split) <;> omega
end W39
namespace S39
open PySem L2
def top (i:Nat):Stmt:=PySem.Challenge.pw_upwords_k39_runs_asked_by_place.main.body.getD i (.Pass ⟨0,0,0,0⟩)
abbrev s_is_whole:Stmt:=top 11
abbrev N_is_whole:List Str:=["thing"]
theorem sc_is_whole:FnScope N_is_whole ["thing"] (defScope s_is_whole):=⟨rfl,rfl,rfl,by decide +kernel,rfl,by decide +kernel,by decide +kernel⟩
abbrev s_is_number_below:Stmt:=top 12
abbrev N_is_number_below:List Str:=["thing", "behind"]
theorem sc_is_number_below:FnScope N_is_number_below ["thing", "behind"] (defScope s_is_number_below):=⟨rfl,rfl,rfl,by decide +kernel,rfl,by decide +kernel,by decide +kernel⟩
abbrev s_length_of:Stmt:=top 14
abbrev N_length_of:List Str:=["runs"]
theorem sc_length_of:FnScope N_length_of ["runs"] (defScope s_length_of):=⟨rfl,rfl,rfl,by decide +kernel,rfl,by decide +kernel,by decide +kernel⟩
abbrev s_letter_in:Stmt:=top 15
abbrev N_letter_in:List Str:=["runs", "place", "left", "run"]
theorem sc_letter_in:FnScope N_letter_in ["runs", "place"] (defScope s_letter_in):=⟨rfl,rfl,rfl,by decide +kernel,rfl,by decide +kernel,by decide +kernel⟩
abbrev s_count_ahead:Stmt:=top 16
abbrev N_count_ahead:List Str:=["runs", "letter", "place", "many", "left", "run"]
theorem sc_count_ahead:FnScope N_count_ahead ["runs", "letter", "place"] (defScope s_count_ahead):=⟨rfl,rfl,rfl,by decide +kernel,rfl,by decide +kernel,by decide +kernel⟩
abbrev s_place_by:Stmt:=top 17
abbrev N_place_by:List Str:=["runs", "letter", "so", "start", "left", "run"]
theorem sc_place_by:FnScope N_place_by ["runs", "letter", "so"] (defScope s_place_by):=⟨rfl,rfl,rfl,by decide +kernel,rfl,by decide +kernel,by decide +kernel⟩
abbrev s_law_pot:Stmt:=top 19
abbrev N_law_pot:List Str:=["script", "k", "cell", "prime"]
theorem sc_law_pot:FnScope N_law_pot ["script", "k"] (defScope s_law_pot):=⟨rfl,rfl,rfl,by decide +kernel,rfl,by decide +kernel,by decide +kernel⟩
abbrev s_law_take:Stmt:=top 20
abbrev N_law_take:List Str:=["pot", "many", "found", "at", "one", "two"]
theorem sc_law_take:FnScope N_law_take ["pot", "many"] (defScope s_law_take):=⟨rfl,rfl,rfl,by decide +kernel,rfl,by decide +kernel,by decide +kernel⟩
abbrev s_law_runs:Stmt:=top 21
abbrev N_law_runs:List Str:=["pot", "letters", "wide", "base", "at", "far", "found", "turn", "great", "some"]
theorem sc_law_runs:FnScope N_law_runs ["pot"] (defScope s_law_runs):=⟨rfl,rfl,rfl,by decide +kernel,rfl,by decide +kernel,by decide +kernel⟩
abbrev s_law_begun:Stmt:=top 22
abbrev N_law_begun:List Str:=["runs", "found", "ahead", "at", "letter", "many"]
theorem sc_law_begun:FnScope N_law_begun ["runs"] (defScope s_law_begun):=⟨rfl,rfl,rfl,by decide +kernel,rfl,by decide +kernel,by decide +kernel⟩
abbrev s_law_places:Stmt:=top 23
abbrev N_law_places:List Str:=["pot", "runs", "total", "ahead", "own", "some"]
theorem sc_law_places:FnScope N_law_places ["pot", "runs", "total"] (defScope s_law_places):=⟨rfl,rfl,rfl,by decide +kernel,rfl,by decide +kernel,by decide +kernel⟩
abbrev s_law_letter_told:Stmt:=top 24
abbrev N_law_letter_told:List Str:=["runs", "place", "found", "e", "others"]
theorem sc_law_letter_told:FnScope N_law_letter_told ["runs", "place"] (defScope s_law_letter_told):=⟨rfl,rfl,rfl,by decide +kernel,rfl,by decide +kernel,by decide +kernel⟩
abbrev s_law_letter_due:Stmt:=top 25
abbrev N_law_letter_due:List Str:=["runs", "place", "letter", "many", "ahead", "own"]
theorem sc_law_letter_due:FnScope N_law_letter_due ["runs", "place"] (defScope s_law_letter_due):=⟨rfl,rfl,rfl,by decide +kernel,rfl,by decide +kernel,by decide +kernel⟩
abbrev s_law_ahead_due:Stmt:=top 26
abbrev N_law_ahead_due:List Str:=["runs", "letter", "place", "found", "one", "many", "ahead", "own"]
theorem sc_law_ahead_due:FnScope N_law_ahead_due ["runs", "letter", "place"] (defScope s_law_ahead_due):=⟨rfl,rfl,rfl,by decide +kernel,rfl,by decide +kernel,by decide +kernel⟩
abbrev s_law_place_due:Stmt:=top 27
abbrev N_law_place_due:List Str:=["runs", "letter", "so", "one", "many", "ahead", "own"]
theorem sc_law_place_due:FnScope N_law_place_due ["runs", "letter", "so"] (defScope s_law_place_due):=⟨rfl,rfl,rfl,by decide +kernel,rfl,by decide +kernel,by decide +kernel⟩
abbrev s_law_whole:Stmt:=top 28
abbrev N_law_whole:List Str:=["found", "due"]
theorem sc_law_whole:FnScope N_law_whole ["found", "due"] (defScope s_law_whole):=⟨rfl,rfl,rfl,by decide +kernel,rfl,by decide +kernel,by decide +kernel⟩
abbrev s_law_right:Stmt:=top 29
abbrev N_law_right:List Str:=["pot", "runs", "total", "place", "letter", "there", "own", "here", "so", "found"]
theorem sc_law_right:FnScope N_law_right ["pot", "runs"] (defScope s_law_right):=⟨rfl,rfl,rfl,by decide +kernel,rfl,by decide +kernel,by decide +kernel⟩
abbrev s_law:Stmt:=top 30
abbrev N_law:List Str:=["script", "k", "pot", "runs", "turn"]
theorem sc_law:FnScope N_law ["script"] (defScope s_law):=⟨rfl,rfl,rfl,by decide +kernel,rfl,by decide +kernel,by decide +kernel⟩
structure Blt7 (mg:Str→Option Value):Prop extends Blt mg where
  sum:mg "sum" = none
  ValueError_:mg "ValueError" = none
theorem bt_sum:bootBuiltins "sum" = some (.builtin "sum"):=by decide +kernel
theorem bt_ValueError:bootBuiltins "ValueError" = some (.type "ValueError"):=by decide +kernel
theorem line_le {n:Nat} (h:n≤1000):n≤sizeLine:=Nat.le_of_lt (small1000 h)
abbrev Rn:=W39.Rn
def Pt (H:Hp) (p:Addr) (c:Int):Prop:=∃ x y z:Int,H p=some (.lst [.int x,.int y,.int z])∧0≤y∧y < 2147483648∧0≤z∧z≤c
structure Kt (p:Addr) (c:Int) (H H':Hp):Prop where
  pt:Pt H' p c
  keep:∀ b o,b≠p→H b=some o→H' b=some o
section
variable {p q:Addr} {c d:Int} {H H1 H2:Hp} {o:HO}
theorem Pt.mono (h:Pt H p c) (e:c≤d):Pt H p d:=let ⟨x,y,z,a,b,f,g,i⟩:=h;⟨x,y,z,a,b,f,g,Int.le_trans i e⟩
theorem Kt.mono (h:Kt p c H H1) (e:c≤d):Kt p d H H1:=⟨h.pt.mono e,h.keep⟩
theorem Kt.refl (h:Pt H p c):Kt p c H H:=⟨h,fun _ _ _ e=>e⟩
theorem Kt.trans (a:Kt p c H H1) (b:Kt p d H1 H2):Kt p d H H2:=⟨b.pt,fun k u hc e=>b.keep k u hc (a.keep k u hc e)⟩
theorem Pt.ne (h:Pt H p c) (hq:H q=none):q≠p:=fun e=>by
  obtain ⟨x,y,z,a,_⟩:=h
  rw [e,a] at hq;cases hq
theorem Pt.neT {xs:List V} (h:Pt H p c) (hq:H q=some (.tup xs)):q≠p:=fun e=>by
  obtain ⟨x,y,z,a,_⟩:=h
  rw [e,a] at hq;cases hq
theorem Kt.write (a:Kt p c H H1) (hq:H q=none) (hp:q≠p):Kt p c H (upd H1 q o):=by
  obtain ⟨⟨x,y,z,e,r⟩,k⟩:=a
  refine ⟨⟨x,y,z,by rw [upd_ne (Ne.symm hp)];exact e,r⟩,fun b u hb h=>?_⟩
  rw [upd_ne (ne_of_none h hq)];exact k b u hb h
theorem Kt.same (a:Kt p c H H1) (s:Same H1 H2):Kt p c H H2:=by
  obtain ⟨⟨x,y,z,e,r⟩,k⟩:=a
  exact ⟨⟨x,y,z,s _ _ e,r⟩,fun b u hb h=>s _ _ (k b u hb h)⟩
end
section
variable {P:Program} {w:World} {K:PySem.W.Frag} {mg:Str→Option Value} {base:Heap} {k:Nat}
theorem ints_at {us:List Int} {i:Int} (h0:0≤i) (h1:i < (us.length:Int)):atI (us.map V.int) i=some (.int (us.getD i.toNat 0)):=by
  have hk:i.toNat < us.length:=by omega
  have e:=atI_nat (xs:=us.map V.int) (j:=i.toNat) (v:=.int (us.getD i.toNat 0)) (by rw [List.getElem?_map,List.getElem?_eq_getElem hk,List.getD_eq_getElem?_getD,List.getElem?_eq_getElem hk];rfl)
  rw [show ((i.toNat:Nat):Int)=i by omega] at e
  exact e
theorem alph_at {i:Int} (h0:0≤i) (h1:i < 26):∃ c,atI (Str.ofString "abcdefghijklmnopqrstuvwxyz").cps.toList i=some c:=by
  have hl:(Str.ofString "abcdefghijklmnopqrstuvwxyz").cps.toList.length=26:=by decide +kernel
  have hk:i.toNat < (Str.ofString "abcdefghijklmnopqrstuvwxyz").cps.toList.length:=by omega
  have e:=atI_nat (xs:=(Str.ofString "abcdefghijklmnopqrstuvwxyz").cps.toList) (j:=i.toNat) (List.getElem?_eq_getElem hk)
  rw [show ((i.toNat:Nat):Int)=i by omega] at e
  exact ⟨_,e⟩
theorem menu {us:List Int} {n lo hi:Int} (h0:0≤n) (h1:n < (us.length:Int)) (hb:∀ v∈us,lo≤v∧v≤hi):∃ v:Int,atI (us.map V.int) n=some (.int v)∧lo≤v∧v≤hi:=by
  refine ⟨_,ints_at h0 h1,?_⟩
  have hk:n.toNat < us.length:=by omega
  rw [List.getD_eq_getElem?_getD,List.getElem?_eq_getElem hk]
  exact hb _ (List.getElem_mem hk)
theorem big18 {m:Int} (h:m < 1000000000000000000):m < bigL:=by
  have e:(1000000000000000000:Int) < bigL:=by unfold bigL;decide +kernel
  exact Int.lt_trans h e
theorem big60:IntMulOk ((10:Int) ^ (60:Int).toNat) ((10:Int) ^ (60:Int).toNat):=.of_bits (by decide +kernel) (by decide +kernel)
theorem big120:IntMulOk ((10:Int) ^ (60:Int).toNat * (10:Int) ^ (60:Int).toNat) ((10:Int) ^ (60:Int).toNat):=.of_bits (by decide +kernel) (by decide +kernel)
def sp_pot:PySem.W.Frag→Sp:=fun K vs H Q _=>∃ (a:Addr) (ns:List Int) (i:Int),vs=[.ref a,.int i]∧SqL K H a (ns.map V.int)∧ns.length≤63∧0≤i∧i≤63∧∀ (p:Addr) (H':Hp),H p=none→Same H H'→Pt H' p 0→Q (.ref p) H'
theorem has_pot (D:Df K mg "_law_pot" s_law_pot) (B:Blt7 mg):Has P w K mg base "_law_pot" (k+1) ["script", "k"] (sp_pot K):=by
  refine D.has sc_law_pot (fun _ _ _ _ _ _ us hl=>match us,hl with | [_,_],_=>rfl) (fun vs H Q E h=>by obtain ⟨a,ns,i,rfl,_⟩:=h;rfl) (fun f cdv A outer s H vs Q E hr h=>?_)
  obtain ⟨a,ns,i,rfl,hS,n63,i0,i63,q⟩:=h
  refine ⟨_,(pss_cons (ps_set (i:=2) sc_law_pot.nd rfl (by first | exact Or.inl rfl | exact Or.inr rfl) pe_int)
  (pss_cons (ps_if (pt_cmpR op_lt (pv 1) (pe_callB call_len_seq rfl B.len bt_len (pa_cons (pv 0) pa_nil)) (nomark _))
  (pss_one (ps_set (i:=2) sc_law_pot.nd rfl (by first | exact Or.inl rfl | exact Or.inr rfl) (pe_op op_mod (pe_ix ix_list (pv 0) (pv 1) (fun _ _=>rfl)) (pe_op op_mulB (pe_op op_mulB (pe_op op_pow pe_int pe_int) (pe_op op_pow pe_int pe_int)) (pe_op op_pow pe_int pe_int)))))
  pss_nil)
  (pss_cons (ps_set (i:=3) sc_law_pot.nd rfl (by first | exact Or.inl rfl | exact Or.inr rfl) (pe_ix ix_list (pe_lst (pa_cons pe_int (pa_cons pe_int (pa_cons pe_int (pa_cons pe_int (pa_cons pe_int pa_nil)))))) (pe_op op_mod (pv 1) pe_int) (fun _ _=>rfl)))
  (pss_one (ps_ret (pe_lst (pa_cons (pe_callB (call_max2 rfl) rfl B.max bt_max (pa_cons pe_int (pa_cons (pe_op op_sub (pv 2) (pe_op op_pow pe_int pe_int)) pa_nil))) (pa_cons (pe_op op_mod (pe_op op_pow (pe_op op_add (pe_op op_add (pe_op op_mod (pv 2) (pv 3)) (pe_op op_mul pe_int (pv 1))) pe_int) pe_int) pe_int) (pa_cons pe_int pa_nil))))))))),?_⟩
  have nl:(ns.map V.int).length=ns.length:=List.length_map _
  refine mid (fun σ' H'=>σ'=[some (.ref a),some (.int i),some (.int 5),none]∧H'=H) ?_ fun E nx=>nx _ _ ⟨rfl,rfl⟩
  rintro σ1 H1 ⟨rfl,rfl⟩
  refine mid (fun σ' H'=>∃ cell:Int,σ'=[some (.ref a),some (.int i),some (.int cell),none]∧H'=H1) ?_ fun E nx=>?_
  rotate_left
  · refine ⟨_,rfl,_,rfl,a,_,rfl,.inl hS,_,_,rfl,rfl,_,rfl,ite2 (fun c=>?_) (fun c=>?_)⟩
    · have c':=of_decide_eq_true c
      refine ⟨_,rfl,_,rfl,a,_,_,_,rfl,rfl,hS,ints_at i0 (by omega),_,_,rfl,rfl,⟨by decide,by decide,by decide⟩,_,_,rfl,rfl,⟨by decide,by decide,by decide⟩,_,_,rfl,rfl,big60,_,_,rfl,rfl,⟨by decide,by decide,by decide⟩,_,_,rfl,rfl,big120,_,_,rfl,rfl,(by show (0:Int) < 10 ^ (60:Int).toNat * 10 ^ (60:Int).toNat * 10 ^ (60:Int).toNat;decide +kernel),?_⟩
      exact nx _ _ ⟨_,rfl,rfl⟩
    · exact nx _ _ ⟨_,rfl,rfl⟩
  rintro σ1 H1' ⟨cell,rfl,rfl⟩
  refine ⟨line_le (show 5≤1000 by omega),fun l hl=>?_⟩
  generalize hJ:upd H1' l _=H2
  have s2:Same H1' H2:=by rw [← hJ];exact (Same.refl H1').new hl
  have g2:H2 l=some (.lst ([2147483629,2147483587,2147483579,2147483563,2147483549].map V.int)):=by rw [← hJ];exact upd_same
  clear hJ
  obtain ⟨v,hv,v0,v1⟩:=menu (us:=[2147483629,2147483587,2147483579,2147483563,2147483549]) (n:=i % 5) (lo:=1) (hi:=2147483647) (Int.emod_nonneg _ (by decide)) (Int.emod_lt_of_pos _ (by decide)) (by decide)
  refine ⟨_,rfl,_,_,rfl,rfl,(by decide:(0:Int) < 5),l,_,_,_,rfl,rfl,SqL.of g2,hv,?_⟩
  refine ⟨_,rfl,_,_,rfl,rfl,⟨by decide,by decide,by decide⟩,_,_,rfl,rfl,_,_,rfl,?_⟩
  have y1:=Int.emod_nonneg cell (show v≠0 by omega)
  have y2:=Int.emod_lt_of_pos cell (show 0 < v by omega)
  refine ⟨_,rfl,_,rfl,_,_,rfl,rfl,(show 0 < v by omega),_,rfl,_,_,rfl,rfl,.inl ⟨by decide,by decide⟩,_,_,rfl,rfl,_,_,rfl,rfl,_,_,rfl,rfl,⟨by decide,by decide,by omega⟩,_,_,rfl,rfl,(by decide:(0:Int) < 2147483647),line_le (show 3≤1000 by omega),fun p hp=>?_⟩
  exact q p _ (s2.free hp) (s2.new hp) ⟨_,_,0,upd_same,Int.emod_nonneg _ (by decide),Int.lt_trans (Int.emod_lt_of_pos _ (by decide)) (by decide),Int.le_refl _,Int.le_refl _⟩
def sp_take:Sp:=fun vs H Q _=>∃ (p:Addr) (m c:Int),vs=[.ref p,.int m]∧Pt H p c∧c < 1000000∧0 < m∧m < 1000000000000000000∧∀ (n:Int) (H':Hp),0≤n→n < m→Kt p (c+1) H H'→Q (.int n) H'
theorem has_take (D:Df K mg "_law_take" s_law_take) (B:Blt7 mg):Has P w K mg base "_law_take" (k+1) ["pot", "many"] sp_take:=by
  refine D.has sc_law_take (fun _ _ _ _ _ _ us hl=>match us,hl with | [_,_],_=>rfl) (fun vs H Q E h=>by obtain ⟨p,m,c,rfl,_⟩:=h;rfl) (fun f cdv A outer s H vs Q E hr h=>?_)
  obtain ⟨p,m,c,rfl,⟨x,y,z,hp,y0,y1,z0,z1⟩,c6,m0,m1,q⟩:=h
  refine ⟨_,(pss_cons (ps_if (pt_cmpR op_gt (pe_ix ix_list (pv 0) pe_int (fun _ _=>rfl)) pe_int (nomark _))
  (pss_cons (ps_set (i:=2) sc_law_take.nd rfl (by first | exact Or.inl rfl | exact Or.inr rfl) (pe_op op_mod (pe_ix ix_list (pv 0) pe_int (fun _ _=>rfl)) (pv 1)))
  (pss_cons (ps_asg (pe_op op_fdivL (pe_ix ix_list (pv 0) pe_int (fun _ _=>rfl)) (pv 1)) (pg_sub (pv 0) pe_int set_list))
  (pss_one (ps_ret (pv 2)))))
  pss_nil)
  (pss_cons (ps_set (i:=3) sc_law_take.nd rfl (by first | exact Or.inl rfl | exact Or.inr rfl) (pe_op op_add (pe_ix ix_list (pv 0) pe_int (fun _ _=>rfl)) pe_int))
  (pss_cons (ps_asg (pv 3) (pg_sub (pv 0) pe_int set_list))
  (pss_cons (ps_set (i:=4) sc_law_take.nd rfl (by first | exact Or.inl rfl | exact Or.inr rfl) (pe_op op_mod (pe_op op_pow (pe_op op_add (pe_op op_add (pe_op op_add (pe_ix ix_list (pv 0) pe_int (fun _ _=>rfl)) (pe_op op_mul (pe_op op_mul pe_int (pv 3)) (pv 3))) (pe_op op_mul pe_int (pv 3))) pe_int) pe_int) pe_int))
  (pss_cons (ps_set (i:=5) sc_law_take.nd rfl (by first | exact Or.inl rfl | exact Or.inr rfl) (pe_op op_mod (pe_op op_pow (pe_op op_add (pe_op op_mul (pv 4) (pe_op op_add (pv 3) pe_int)) pe_int) pe_int) pe_int))
  (pss_one (ps_ret (pe_op op_mod (pe_op op_fdivL (pv 5) pe_int) (pv 1))))))))),?_⟩
  refine ⟨_,rfl,p,_,_,_,rfl,rfl,SqL.of hp,rfl,_,_,rfl,rfl,_,rfl,ite2 (fun cnd=>?_) (fun cnd=>?_)⟩
  · refine ⟨_,rfl,p,_,_,_,rfl,rfl,SqL.of hp,rfl,_,rfl,_,_,rfl,rfl,m0,?_⟩
    refine ⟨_,rfl,p,_,_,_,rfl,rfl,SqL.of hp,rfl,_,rfl,_,_,rfl,rfl,⟨m0,big18 m1⟩,?_⟩
    refine ⟨_,rfl,p,_,_,0,rfl,rfl,hp,rfl,_,rfl,?_⟩
    exact q _ _ (Int.emod_nonneg _ (by omega)) (Int.emod_lt_of_pos _ m0) ⟨⟨_,y,z,upd_same,y0,y1,z0,by omega⟩,fun b o hb e=>by rw [upd_ne hb];exact e⟩
  · refine ⟨_,rfl,p,_,_,_,rfl,rfl,SqL.of hp,rfl,_,_,rfl,rfl,?_⟩
    refine ⟨_,rfl,_,rfl,p,_,_,2,rfl,rfl,hp,rfl,?_⟩
    have hp':upd H p (.lst [.int x,.int y,.int (z+1)]) p=some (.lst [.int x,.int y,.int (z+1)]):=upd_same
    have hk':∀ b o,b≠p→H b=some o→upd H p (.lst [.int x,.int y,.int (z+1)]) b=some o:=fun b o hb e=>by rw [upd_ne hb];exact e
    show (fun HH=>_) (upd H p (.lst [.int x,.int y,.int (z+1)]))
    generalize upd H p (.lst [.int x,.int y,.int (z+1)])=H1 at hp' hk'
    have zz:0≤(z+1) * (z+1)∧(z+1) * (z+1)≤1000001 * 1000001:=⟨Int.mul_nonneg (by omega) (by omega),Int.mul_le_mul (by omega) (by omega) (by omega) (by omega)⟩
    have ez:7919 * (z+1) * (z+1)=7919 * ((z+1) * (z+1)):=Int.mul_assoc _ _ _
    have big:(y+7919 * (z+1) * (z+1)+104729 * (z+1)+5).natAbs < 2 ^ 64:=by
      rw [ez]
      have e64:(2:Nat) ^ 64=18446744073709551616:=by decide
      rw [e64]
      omega
    refine ⟨_,rfl,p,_,_,_,rfl,rfl,SqL.of hp',rfl,_,rfl,_,_,rfl,rfl,.inl ⟨by decide,by decide⟩,_,rfl,_,_,rfl,rfl,.inr ⟨by omega,by omega⟩,_,_,rfl,rfl,_,rfl,_,_,rfl,rfl,.inl ⟨by decide,by decide⟩,_,_,rfl,rfl,_,_,rfl,rfl,_,_,rfl,rfl,⟨by decide,by decide,big⟩,_,_,rfl,rfl,(by decide:(0:Int) < 2147483629),?_⟩
    generalize (y+7919 * (z+1) * (z+1)+104729 * (z+1)+5) ^ (3:Int).toNat=yy
    have o1:=Int.emod_nonneg yy (show (2147483629:Int)≠0 by decide)
    have o2:=Int.emod_lt_of_pos yy (show (0:Int) < 2147483629 by decide)
    generalize hoo:yy % 2147483629=oo at o1 o2
    have oz:0≤oo * (z+1+40692)∧oo * (z+1+40692)≤2147483629 * 1040693:=⟨Int.mul_nonneg (by omega) (by omega),Int.mul_le_mul (by omega) (by omega) (by omega) (by omega)⟩
    refine ⟨_,rfl,_,rfl,_,_,rfl,rfl,_,_,rfl,rfl,.inr ⟨by omega,by omega⟩,_,_,rfl,rfl,_,_,rfl,rfl,⟨by decide,by decide,by
      show (yy % 2147483629 * (z+1+40692)+11).natAbs < 2 ^ 64
      rw [hoo]
      have e64:(2:Nat) ^ 64=18446744073709551616:=by decide
      rw [e64]
      omega⟩,_,_,rfl,rfl,(by decide:(0:Int) < 2147483563),?_⟩
    refine ⟨_,rfl,_,_,rfl,rfl,⟨by decide,big18 (by decide)⟩,_,rfl,_,_,rfl,rfl,m0,?_⟩
    exact q _ _ (Int.emod_nonneg _ (by omega)) (Int.emod_lt_of_pos _ m0) ⟨⟨x,y,z+1,hp',y0,y1,by omega,by omega⟩,hk'⟩
end
end S39
namespace S39
open PySem L2
def RunAt (H:Hp) (a:Addr) (r:Rn):Prop:=H a=some (.tup [.str r.1,.int r.2])
def RsAt (H:Hp) (as:List Addr) (rs:List Rn):Prop:=as.length=rs.length∧∀ (i:Nat) (a:Addr) (r:Rn),as[i]?=some a→rs[i]?=some r→RunAt H a r
theorem RsAt.keep {H H':Hp} {as:List Addr} {rs:List Rn} (h:RsAt H as rs) (s:∀ a xs,H a=some (.tup xs)→H' a=some (.tup xs)):RsAt H' as rs:=⟨h.1,fun i a r x y=>s _ _ (h.2 i a r x y)⟩
theorem RsAt.same {H H':Hp} {as:List Addr} {rs:List Rn} (h:RsAt H as rs) (s:Same H H'):RsAt H' as rs:=h.keep fun _ _ e=>s _ _ e
theorem RsAt.kt {H H':Hp} {as:List Addr} {rs:List Rn} {p:Addr} {c d:Int} (h:RsAt H as rs) (pt:Pt H p d) (k:Kt p c H H'):RsAt H' as rs:=h.keep fun _ _ e=>k.keep _ _ (pt.neT e) e
theorem RsAt.snoc {H:Hp} {as:List Addr} {rs:List Rn} {a:Addr} {r:Rn} (h:RsAt H as rs) (k:RunAt H a r):RsAt H (as++[a]) (rs++[r]):=by
  refine ⟨by rw [List.length_append,List.length_append,h.1];rfl,fun i b m x y=>?_⟩
  rcases Nat.lt_or_ge i as.length with lt | ge
  · rw [List.getElem?_append_left lt] at x
    rw [List.getElem?_append_left (by rw [← h.1];exact lt)] at y
    exact h.2 i b m x y
  · rw [List.getElem?_append_right ge] at x
    rw [List.getElem?_append_right (by rw [← h.1];exact ge),← h.1] at y
    cases e:i - as.length with
    | zero=>
      rw [e] at x y
      cases x;cases y
      exact k
    | succ n=>rw [e] at x;cases x
theorem RsAt.get {H:Hp} {as:List Addr} {rs:List Rn} (h:RsAt H as rs) {i:Nat} {x:V} (e:(as.map V.ref)[i]?=some x):∃ a r,x=.ref a∧as[i]?=some a∧rs[i]?=some r∧H a=some (.tup [.str r.1,.int r.2]):=by
  rw [List.getElem?_map] at e
  cases e1:as[i]? with
  | none=>rw [e1] at e;cases e
  | some a=>
    rw [e1] at e
    cases e
    have il:=(List.getElem?_eq_some_iff.mp e1).1
    have e2:rs[i]?=some (rs[i]'(by rw [← h.1];exact il)):=List.getElem?_eq_getElem _
    exact ⟨a,_,rfl,rfl,e2,h.2 i a _ e1 e2⟩
def RunsAt (H:Hp) (t:Addr) (rs:List Rn):Prop:=∃ as:List Addr,H t=some (.tup (as.map V.ref))∧RsAt H as rs
theorem RunsAt.same {H H':Hp} {t:Addr} {rs:List Rn} (h:RunsAt H t rs) (s:Same H H'):RunsAt H' t rs:=let ⟨as,x,y⟩:=h;⟨as,s _ _ x,y.same s⟩
theorem RunsAt.kt {H H':Hp} {t:Addr} {rs:List Rn} {p:Addr} {c d:Int} (h:RunsAt H t rs) (pt:Pt H p d) (k:Kt p c H H'):RunsAt H' t rs:=let ⟨as,x,y⟩:=h;⟨as,k.keep _ _ (pt.neT x) x,y.kt pt k⟩
theorem menuL {us:List Int} {n lo:Int} (h0:0≤n) (h1:n < (us.length:Int)) (hb:∀ v∈us,lo≤v):∃ v:Int,atI (us.map V.int) n=some (.int v)∧lo≤v:=by
  refine ⟨_,ints_at h0 h1,?_⟩
  have hk:n.toNat < us.length:=by omega
  rw [List.getD_eq_getElem?_getD,List.getElem?_eq_getElem hk]
  exact hb _ (List.getElem_mem hk)
section
variable {P:Program} {w:World} {K:PySem.W.Frag} {mg:Str→Option Value} {base:Heap} {k:Nat}
def sp_runs:Sp:=fun vs H Q _=>∃ (p:Addr) (c:Int),vs=[.ref p]∧Pt H p c∧0≤c∧c < 900000∧∀ (t:Addr) (rs:List Rn) (H':Hp),Kt p (c+200) H H'→RunsAt H' t rs→W39.Pos rs→rs.length≤12→Q (.ref t) H'
theorem has_runs (D:Df K mg "_law_runs" s_law_runs) (B:Blt7 mg) (G_law_take:Has P w K mg base "_law_take" k ["pot", "many"] sp_take):Has P w K mg base "_law_runs" (k+1) ["pot"] sp_runs:=by
  refine D.has sc_law_runs (fun _ _ _ _ _ _ us hl=>match us,hl with | [_],_=>rfl) (fun vs H Q E h=>by obtain ⟨p,c,rfl,_⟩:=h;rfl) (fun f cdv A outer s H vs Q E hr h=>?_)
  obtain ⟨p,c,rfl,pt,c0,c9,q⟩:=h
  refine ⟨_,(pss_cons (ps_set (i:=1) sc_law_runs.nd rfl (by first | exact Or.inl rfl | exact Or.inr rfl) pe_str)
  (pss_cons (ps_set (i:=2) sc_law_runs.nd rfl (by first | exact Or.inl rfl | exact Or.inr rfl) (pe_ix ix_list (pe_lst (pa_cons pe_int (pa_cons pe_int (pa_cons pe_int (pa_cons pe_int pa_nil))))) (pe_callH G_law_take hr rfl (pa_cons (pv 0) (pa_cons pe_int pa_nil))) (fun _ _=>rfl)))
  (pss_cons (ps_set (i:=3) sc_law_runs.nd rfl (by first | exact Or.inl rfl | exact Or.inr rfl) (pe_callH G_law_take hr rfl (pa_cons (pv 0) (pa_cons (pe_op op_sub pe_int (pv 2)) pa_nil))))
  (pss_cons (ps_set (i:=4) sc_law_runs.nd rfl (by first | exact Or.inl rfl | exact Or.inr rfl) (pe_callH G_law_take hr rfl (pa_cons (pv 0) (pa_cons (pv 2) pa_nil))))
  (pss_cons (ps_set (i:=5) sc_law_runs.nd rfl (by first | exact Or.inl rfl | exact Or.inr rfl) (pe_callH G_law_take hr rfl (pa_cons (pv 0) (pa_cons pe_int pa_nil))))
  (pss_cons (ps_set (i:=6) sc_law_runs.nd rfl (by first | exact Or.inl rfl | exact Or.inr rfl) (pe_lst pa_nil))
  (pss_cons (ps_for PassesOwn.never rfl (pi_range1 rfl B.range (pa_cons (pe_callH G_law_take hr rfl (pa_cons (pv 0) (pa_cons pe_int pa_nil))) pa_nil)) (pg_name (i:=7) sc_law_runs.nd rfl (by first | exact Or.inl rfl | exact Or.inr rfl))
  (pss_cons (ps_set (i:=8) sc_law_runs.nd rfl (by first | exact Or.inl rfl | exact Or.inr rfl) (pe_op op_sub (pe_op op_pow pe_int pe_int) (pe_callH G_law_take hr rfl (pa_cons (pv 0) (pa_cons pe_int pa_nil)))))
  (pss_cons (ps_set (i:=9) sc_law_runs.nd rfl (by first | exact Or.inl rfl | exact Or.inr rfl) (pe_lst (pa_cons pe_int (pa_cons (pe_op op_add pe_int (pe_callH G_law_take hr rfl (pa_cons (pv 0) (pa_cons pe_int pa_nil)))) (pa_cons (pe_op op_add pe_int (pe_op op_mul (pe_callH G_law_take hr rfl (pa_cons (pv 0) (pa_cons (pe_op op_pow pe_int pe_int) pa_nil))) (pe_op op_add pe_int (pe_callH G_law_take hr rfl (pa_cons (pv 0) (pa_cons (pe_op op_pow pe_int pe_int) pa_nil)))))) (pa_cons (pv 8) pa_nil))))))
  (pss_cons (ps_expr (pe_bm PySem.F.plainAttrs_list PySem.F.slot_list_append PySem.F.type_list_append mt_append (pv 6) (pa_cons (pe_tup (pa_cons (pe_ix ix_str (pv 1) (pe_op op_add (pv 3) (pv 4)) (fun _ _=>rfl)) (pa_cons (pe_ix ix_list (pv 9) (pe_callB (call_min2 rfl) rfl B.min bt_min (pa_cons (pe_callH G_law_take hr rfl (pa_cons (pv 0) (pa_cons pe_int pa_nil))) (pa_cons (pe_op op_add (pv 5) pe_int) pa_nil))) (fun _ _=>rfl)) pa_nil))) pa_nil)))
  (pss_one (ps_set (i:=4) sc_law_runs.nd rfl (by first | exact Or.inl rfl | exact Or.inr rfl) (pe_op op_mod (pe_op op_add (pe_op op_add (pv 4) pe_int) (pe_callH G_law_take hr rfl (pa_cons (pv 0) (pa_cons (pe_op op_sub (pv 2) pe_int) pa_nil)))) (pv 2))))))))
  (pss_one (ps_ret (pe_callTy call_tuple_of rfl B.tuple_ bt_tuple (pa_cons (pv 6) pa_nil))))))))))),?_⟩
  refine mid (fun σ' H'=>σ'=[some (.ref p),some (.str (Str.ofString "abcdefghijklmnopqrstuvwxyz")),none,none,none,none,none,none,none,none]∧H'=H) ?_ fun E nx=>nx _ _ ⟨rfl,rfl⟩
  rintro σ1 H1 ⟨rfl,rfl⟩
  refine ⟨line_le (show 4≤1000 by omega),fun m1 hm1=>?_⟩
  generalize hJ:upd H1 m1 _=J1
  have s1:Same H1 J1:=by rw [← hJ];exact (Same.refl H1).new hm1
  have g1:J1 m1=some (.lst ([2,2,3,26].map V.int)):=by rw [← hJ];exact upd_same
  clear hJ
  have kt1:=(Kt.refl pt).same s1
  refine ⟨_,rfl,p,4,c,rfl,kt1.pt,by omega,by decide,by decide,fun i1 J2 a0 a1 k2=>?_⟩
  obtain ⟨wide,hv,w0,w1⟩:=menu (us:=[2,2,3,26]) (n:=i1) (lo:=2) (hi:=26) a0 a1 (by decide)
  refine ⟨m1,_,_,_,rfl,rfl,SqL.of (k2.keep _ _ (pt.ne hm1) g1),hv,?_⟩
  have k02:=kt1.trans k2
  refine ⟨_,rfl,_,rfl,_,_,rfl,rfl,p,_,_,rfl,k02.pt,by omega,by omega,by omega,fun bs J3 b0 b1 k3=>?_⟩
  have k03:=k02.trans k3
  refine ⟨_,rfl,_,rfl,p,_,_,rfl,k03.pt,by omega,by omega,by omega,fun at0 J4 c0' c1 k4=>?_⟩
  have k04:=k03.trans k4
  refine ⟨_,rfl,p,_,_,rfl,k04.pt,by omega,by decide,by decide,fun far J5 d0 d1 k5=>?_⟩
  have k05:=k04.trans k5
  refine ⟨line_le (show 0≤1000 by omega),fun l hl=>?_⟩
  have lp:l≠p:=k05.pt.ne hl
  have l0:H1 l=none:=by
    cases e:H1 l with
    | none=>rfl
    | some o=>rw [k05.keep _ _ lp e] at hl;cases hl
  generalize hJ:upd J5 l _=J6
  have s6:Same J5 J6:=by rw [← hJ];exact (Same.refl J5).new hl
  have g6:J6 l=some (.lst []):=by rw [← hJ];exact upd_same
  clear hJ
  have k06:=k05.same s6
  refine ⟨_,rfl,p,_,_,rfl,k06.pt,by omega,by decide,by decide,fun n J7 e0 e1 k7=>?_⟩
  have k07:=k06.trans k7
  have g7:=k7.keep _ _ lp g6
  refine ⟨n,rfl,by omega,by omega,?_⟩
  refine for_range (lo:=0) (n:=n.toNat) (fun i σ HX=>∃ (at_:Int) (o7 o8 o9:Option V) (as:List Addr) (rs:List Rn),σ=[some (.ref p),some (.str (Str.ofString "abcdefghijklmnopqrstuvwxyz")),some (.int wide),some (.int bs),some (.int at_),some (.int far),some (.ref l),o7,o8,o9]∧Kt p (c+6+7 * i) H1 HX∧HX l=some (.lst (as.map V.ref))∧RsAt HX as rs∧W39.Pos rs∧rs.length=i∧0≤at_∧at_ < wide)
    ⟨at0,none,none,none,[],[],rfl,k07.mono (by omega),g7,⟨rfl,fun i a r h=>by simp at h⟩,(fun r h=>nomatch h),rfl,c0',c1⟩ ?_ ?_
  rotate_left
  · rintro σ HX ⟨at_,o7,o8,o9,as,rs,rfl,kX,gX,rX,ps,rl,a0',a1'⟩
    refine ⟨_,rfl,l,_,rfl,.inl ⟨SqL.of gX,fun t ht=>?_⟩⟩
    have sT:Same HX (upd HX t (.tup (as.map V.ref))):=(Same.refl HX).new ht
    exact q t rs _ ((kX.same sT).mono (by omega)) ⟨as,upd_same,rX.same sT⟩ ps (by omega)
  rintro i σ HX hi ⟨at_,o7,o8,o9,as,rs,rfl,kX,gX,rX,ps,rl,a0',a1'⟩
  refine ⟨_,_,rfl,rfl,⟨by decide,by decide,by decide⟩,_,rfl,p,_,_,rfl,kX.pt,by omega,by decide,by decide,fun gr Y1 f0 f1 q1=>?_⟩
  have r1:=rX.kt kX.pt q1
  have kY1:=kX.trans q1
  have l1:=q1.keep _ _ lp gX
  refine ⟨_,_,rfl,rfl,?_⟩
  refine ⟨_,rfl,p,_,_,rfl,kY1.pt,by omega,by decide,by decide,fun x1 Y2 f2 f3 q2=>?_⟩
  have r2:=r1.kt kY1.pt q2
  have kY2:=kY1.trans q2
  have l2:=q2.keep _ _ lp l1
  refine ⟨_,_,rfl,rfl,?_⟩
  refine ⟨_,rfl,_,_,rfl,rfl,⟨by decide,by decide,by decide⟩,p,_,_,rfl,kY2.pt,by omega,by decide,by decide,fun x2 Y3 f4 f5 q3=>?_⟩
  have r3:=r2.kt kY2.pt q3
  have kY3:=kY2.trans q3
  have l3:=q3.keep _ _ lp l2
  refine ⟨_,rfl,_,_,rfl,rfl,⟨by decide,by decide,by decide⟩,p,_,_,rfl,kY3.pt,by omega,by decide,by decide,fun x3 Y4 f6 f7 q4=>?_⟩
  have r4:=r3.kt kY3.pt q4
  have kY4:=kY3.trans q4
  have l4:=q4.keep _ _ lp l3
  have e6:((10:Int) ^ (6:Int).toNat)=1000000:=by decide
  rw [e6] at f5 f7
  refine ⟨_,_,rfl,rfl,_,_,rfl,rfl,.inl ⟨by omega,by omega⟩,_,_,rfl,rfl,?_⟩
  refine ⟨_,rfl,line_le (show 4≤1000 by omega),fun m2 hm2=>?_⟩
  generalize hJ:upd Y4 m2 _=Y5
  have s5:Same Y4 Y5:=by rw [← hJ];exact (Same.refl Y4).new hm2
  have g5:Y5 m2=some (.lst ([1,1+x1,1+x2 * (1+x3),10 ^ (57:Int).toNat - gr].map V.int)):=by rw [← hJ];exact upd_same
  clear hJ
  have r5:=r4.same s5
  have kY5:=kY4.same s5
  have l5:=s5 _ _ l4
  have m2p:m2≠p:=kY4.pt.ne hm2
  obtain ⟨ch,hch⟩:=alph_at (i:=bs+at_) (by omega) (by omega)
  refine ⟨_,rfl,.inl ⟨rfl,_,SqL.of l5⟩,_,rfl,_,rfl,_,rfl,_,_,rfl,rfl,_,_,ch,rfl,rfl,(by decide +kernel),hch,?_⟩
  refine ⟨_,rfl,_,rfl,p,_,_,rfl,kY5.pt,by omega,by decide,by decide,fun x4 Y6 f8 f9 q6=>?_⟩
  have r6:=r5.kt kY5.pt q6
  have kY6:=kY5.trans q6
  have l6:=q6.keep _ _ lp l5
  have g6':=q6.keep _ _ m2p g5
  refine ⟨_,rfl,_,_,rfl,rfl,_,_,rfl,?_⟩
  have ix:0≤(if far+1 < x4 then far+1 else x4)∧(if far+1 < x4 then far+1 else x4) < 4:=by split <;> omega
  have pos:0≤x2 * (1+x3):=Int.mul_nonneg f4 (by omega)
  have e57:(1000:Int) < 10 ^ (57:Int).toNat:=by decide
  obtain ⟨mv,hmv,mv1⟩:=menuL (us:=[1,1+x1,1+x2 * (1+x3),10 ^ (57:Int).toNat - gr]) (lo:=1) ix.1 ix.2 (fun v hv=>by
    simp only [List.mem_cons,List.not_mem_nil,or_false] at hv
    rcases hv with rfl | rfl | rfl | rfl <;> omega)
  refine ⟨m2,_,_,_,rfl,rfl,SqL.of g6',hmv,line_le (show 2≤1000 by omega),fun rr hrr=>?_⟩
  generalize hJ:upd Y6 rr _=Y7
  have s7:Same Y6 Y7:=by rw [← hJ];exact (Same.refl Y6).new hrr
  have g7':Y7 rr=some (.tup [.str ⟨#[ch]⟩,.int mv]):=by rw [← hJ];exact upd_same
  clear hJ
  have l7:=s7 _ _ l6
  have kY7:=kY6.same s7
  have al:as.length=i:=by rw [r6.1];exact rl
  refine ⟨l,_,_,rfl,rfl,l7,small1000 (by rw [List.length_map];omega),?_⟩
  have w7:Kt p (c+6+7 * i+1+1+1+1+1) H1 (upd Y7 l (.lst (as.map V.ref++[.ref rr]))):=kY7.write l0 lp
  have r7:RsAt (upd Y7 l (.lst (as.map V.ref++[.ref rr]))) (as++[rr]) (rs++[(⟨#[ch]⟩,mv)]):=by
    have kp:∀ a xs,Y7 a=some (.tup xs)→upd Y7 l (.lst (as.map V.ref++[.ref rr])) a=some (.tup xs):=fun a xs e=>by
      rw [upd_ne (fun z=>by rw [z,l7] at e;cases e)];exact e
    exact ((r6.same s7).keep kp).snoc (kp _ _ g7')
  have l8:upd Y7 l (.lst (as.map V.ref++[.ref rr])) l=some (.lst ((as++[rr]).map V.ref)):=by rw [upd_same,List.map_append];rfl
  generalize upd Y7 l (.lst (as.map V.ref++[.ref rr]))=Y8 at w7 r7 l8
  refine ⟨_,rfl,_,_,rfl,rfl,_,rfl,_,rfl,_,_,rfl,rfl,p,_,_,rfl,w7.pt,by omega,by omega,by omega,fun x5 Y9 z0 z1 q9=>?_⟩
  refine ⟨_,_,rfl,rfl,_,rfl,_,_,rfl,rfl,(show 0 < wide by omega),?_⟩
  exact ⟨_,_,_,_,as++[rr],rs++[(⟨#[ch]⟩,mv)],rfl,(w7.trans q9).mono (by omega),q9.keep _ _ lp l8,r7.kt w7.pt q9,(fun r hr=>by
    rcases List.mem_append.mp hr with h | h
    · exact ps r h
    · rw [List.mem_singleton.mp h];exact mv1),(by rw [List.length_append,rl];rfl),Int.emod_nonneg _ (by omega),Int.emod_lt_of_pos _ (by omega)⟩
end
end S39
namespace S39
open PySem L2
structure Exs (K:PySem.W.Frag) (mg:Str→Option Value) where
  c_UpError:Addr
  m_UpError:mg "UpError" = some (.ref c_UpError)
  c_NoPlace:Addr
  m_NoPlace:mg "NoPlace" = some (.ref c_NoPlace)
  c_NoNumber:Addr
  m_NoNumber:mg "NoNumber" = some (.ref c_NoNumber)
  c_NoWord:Addr
  m_NoWord:mg "NoWord" = some (.ref c_NoWord)
  c_NoRows:Addr
  m_NoRows:mg "NoRows" = some (.ref c_NoRows)
  c_NoRuns:Addr
  m_NoRuns:mg "NoRuns" = some (.ref c_NoRuns)
  c_NoText:Addr
  m_NoText:mg "NoText" = some (.ref c_NoText)
  c_TooMany:Addr
  m_TooMany:mg "TooMany" = some (.ref c_TooMany)
  c_NoTree:Addr
  m_NoTree:mg "NoTree" = some (.ref c_NoTree)
  q_NoPlace:PySem.W.excIn K c_NoPlace bmV "ValueError.__new__" = true
  z_NoPlace:ExK K c_NoPlace
  u_NoPlace:PySem.W.exmOne K (.ref c_NoPlace) (.ref c_UpError)=some true
  xm:PySem.W.exmOne K (.ref c_NoPlace) (.ref c_NoPlace)=some true
  p0:PySem.W.kitOne K (.ref c_NoPlace) (.ref c_UpError)=some true
  pv:PySem.W.kitOne K (.ref c_NoPlace) (.type "ValueError")=some true
  pa:PySem.W.kitAny K (.ref c_NoPlace) ([c_NoNumber,c_NoRows,c_NoRuns,c_NoText,c_NoTree,c_NoWord,c_TooMany].map Value.ref)=some false
inductive Thg (H:Hp):V→Prop
  | non:Thg H .non
  | bl (b:Bool):Thg H (.bl b)
  | int (i:Int):Thg H (.int i)
  | str (z:Str):Thg H (.str z)
  | lst {a:Addr} {xs:List V} (e:H a=some (.lst xs)):Thg H (.ref a)
  | tup {a:Addr} {xs:List V} (e:H a=some (.tup xs)):Thg H (.ref a)
  | dct {a:Addr} {kvs:List (Key × V)} (e:H a=some (.dK kvs)):Thg H (.ref a)
theorem Thg.same {H H':Hp} {x:V} (h:Thg H x) (s:Same H H'):Thg H' x:=by
  cases h with
  | non=>exact .non
  | bl b=>exact .bl b
  | int i=>exact .int i
  | str z=>exact .str z
  | lst e=>exact .lst (s _ _ e)
  | tup e=>exact .tup (s _ _ e)
  | dct e=>exact .dct (s _ _ e)
def wh:V→Bool
  | .int _=>true
  | _=>false
def below:V→Int→Bool
  | .int i,n=>decide (0≤i) && decide (i < n)
  | _,_=>false
section
variable {P:Program} {w:World} {K:PySem.W.Frag} {mg:Str→Option Value} {base:Heap} {k:Nat}
theorem kit_none_int (K:PySem.W.Frag):PySem.W.kitOne K (.type "NoneType") (.type "int")=some false:=by rfl
theorem kit_str_int (K:PySem.W.Frag):PySem.W.kitOne K (.type "str") (.type "int")=some false:=by rfl
theorem kit_list_int (K:PySem.W.Frag):PySem.W.kitOne K (.type "list") (.type "int")=some false:=by rfl
theorem kit_tuple_int (K:PySem.W.Frag):PySem.W.kitOne K (.type "tuple") (.type "int")=some false:=by rfl
theorem kit_dict_int (K:PySem.W.Frag):PySem.W.kitOne K (.type "dict") (.type "int")=some false:=by rfl
theorem kit_bool_int (K:PySem.W.Frag):PySem.W.kitOne K (.type "bool") (.type "int")=some true:=by rfl
def sp_whole:Sp:=fun vs H Q _=>∃ x:V,vs=[x]∧Thg H x∧Q (.bl (wh x)) H
theorem has_whole (D:Df K mg "is_whole" s_is_whole) (B:Blt7 mg):Has P w K mg base "is_whole" (k+1) ["thing"] sp_whole:=by
  refine D.has sc_is_whole (fun _ _ _ _ _ _ us hl=>match us,hl with | [_],_=>rfl) (fun vs H Q E h=>by obtain ⟨x,rfl,_⟩:=h;rfl) (fun f cdv A outer s H vs Q E hr h=>?_)
  obtain ⟨x,rfl,th,q⟩:=h
  refine ⟨_,(pss_one (ps_ret (pe_and (pe_callB call_isinst rfl B.isinstance bt_isinstance (pa_cons (pv 0) (pa_cons (pe_bltn (v:=.ty "int") rfl B.int_ bt_int rfl) pa_nil))) (pe_one (pe_not (pe_callB call_isinst rfl B.isinstance bt_isinstance (pa_cons (pv 0) (pa_cons (pe_bltn (v:=.ty "bool") rfl B.bool_ bt_bool rfl) pa_nil)))))))),?_⟩
  cases th with
  | non=>exact ⟨_,rfl,_,_, "int", false,rfl,.non,kit_none_int _,_,rfl,iteF q⟩
  | str z=>exact ⟨_,rfl,_,_, "int", false,rfl,.str _,kit_str_int _,_,rfl,iteF q⟩
  | lst e=>exact ⟨_,rfl,_,_, "int", false,rfl,.lst e,kit_list_int _,_,rfl,iteF q⟩
  | tup e=>exact ⟨_,rfl,_,_, "int", false,rfl,.tup e,kit_tuple_int _,_,rfl,iteF q⟩
  | dct e=>exact ⟨_,rfl,_,_, "int", false,rfl,.dK e,kit_dict_int _,_,rfl,iteF q⟩
  | bl b=>
    refine ⟨_,rfl,_,_, "int", true,rfl,.bl _,kit_bool_int _,_,rfl,iteT ?_⟩
    exact ⟨_,rfl,_,_, "bool", true,rfl,.bl _,kit_same _ _,_,rfl,q⟩
  | int i=>
    refine ⟨_,rfl,_,.type "int", "int", true,rfl,.int _,kit_same _ _,_,rfl,iteT ?_⟩
    exact ⟨_,rfl,_,.type "int", "bool", false,rfl,.int _,kit_int_bool _,_,rfl,q⟩
def sp_below:Sp:=fun vs H Q _=>∃ (x:V) (n:Int),vs=[x,.int n]∧Thg H x∧Q (.bl (below x n)) H
theorem has_below (D:Df K mg "is_number_below" s_is_number_below) (B:Blt7 mg) (G_is_whole:Has P w K mg base "is_whole" k ["thing"] sp_whole):Has P w K mg base "is_number_below" (k+1) ["thing", "behind"] sp_below:=by
  refine D.has sc_is_number_below (fun _ _ _ _ _ _ us hl=>match us,hl with | [_,_],_=>rfl) (fun vs H Q E h=>by obtain ⟨x,y,rfl,_⟩:=h;rfl) (fun f cdv A outer s H vs Q E hr h=>?_)
  obtain ⟨x,n,rfl,th,q⟩:=h
  refine ⟨_,(pss_one (ps_ret (pe_and (pe_callH G_is_whole hr rfl (pa_cons (pv 0) pa_nil)) (pe_one (pe_chain op_le op_lt pe_int (pv 0) (pv 1)))))),?_⟩
  refine ⟨_,rfl,x,rfl,th,_,rfl,?_⟩
  cases x with
  | int i=>
    refine iteT ⟨_,rfl,_,_,rfl,rfl,_,rfl,ite2 (fun c=>?_) (fun c=>?_)⟩
    · refine ⟨_,rfl,_,_,rfl,rfl,?_⟩
      have q':Q (.bl (decide (0≤i) && decide (i < n))) H:=q
      rw [c,Bool.true_and] at q'
      exact q'
    · have q':Q (.bl (decide (0≤i) && decide (i < n))) H:=q
      rw [Bool.eq_false_iff.mpr c,Bool.false_and] at q'
      exact q'
  | _=>exact iteF q
theorem below_int {x:V} {n:Int} (h:below x n=true):∃ i,x=.int i∧0≤i∧i < n:=by
  cases x with
  | int i=>
    have h':(decide (0≤i) && decide (i < n))=true:=h
    rw [Bool.and_eq_true] at h'
    exact ⟨i,rfl,of_decide_eq_true h'.1,of_decide_eq_true h'.2⟩
  | _=>cases h
theorem rs_len {H:Hp} {as:List Addr} {rs:List Rn} (h:RsAt H as rs):(as.map V.ref).length=rs.length:=by rw [List.length_map,h.1]
theorem sums {rs:List Rn} {i:Nat} {r:Rn} (h:rs[i]?=some r):((rs.take (i+1)).map (·.2))=((rs.take i).map (·.2))++[r.2]:=by
  rw [W39.take_succ h,List.map_append];rfl
def sp_len:Sp:=fun vs H Q _=>∃ (t:Addr) (rs:List Rn),vs=[.ref t]∧RunsAt H t rs∧rs.length≤12∧∀ H',Same H H'→Q (.int (W39.tot rs)) H'
theorem has_len (D:Df K mg "length_of" s_length_of) (B:Blt7 mg):Has P w K mg base "length_of" (k+1) ["runs"] sp_len:=by
  refine D.has sc_length_of (fun _ _ _ _ _ _ us hl=>match us,hl with | [_],_=>rfl) (fun vs H Q E h=>by obtain ⟨t,rs,rfl,_⟩:=h;rfl) (fun f cdv A outer s H vs Q E hr h=>?_)
  obtain ⟨t,rs,rfl,⟨as,ht,ra⟩,l12,q⟩:=h
  refine ⟨_,(pss_one (ps_ret (pe_callB (call_sumA K rfl) rfl B.sum bt_sum (pa_cons (pe_comp rfl (pi_tup (pv 0)) (NL:=["run"]) (ix:=[]) (csc (defScope s_length_of) N_length_of) (fun cl C s₃ H₃ fp pins=>⟨(pg_name (i:=0) (show List.Nodup (["run"]:List Str) from by decide +kernel) rfl (by first | exact Or.inl rfl | exact Or.inr rfl)),pifs_nil,(pe_ix (ix_tupK K) (pv 0) pe_int (fun _ _=>rfl))⟩)) pa_nil)))),?_⟩
  have al:=rs_len ra
  refine ⟨_,rfl,t,rfl,⟨_,SqT.of ht⟩,fun acc hacc=>?_⟩
  refine comp_tupI (K:=K) (a:=t) (xs:=as.map V.ref) (by omega) (fun i ys HX=>HX acc=some (.lst ys)∧Same H HX∧ys=(((rs.take i).map (·.2)).map V.int)) (fun i ys HX h=>SqT.of (h.2.1 _ _ ht)) (fun i ys HX h=>⟨h.1,by rw [h.2.2,List.length_map,List.length_map,List.length_take];omega⟩) ⟨upd_same,(Same.refl H).new hacc,rfl⟩ ?_ ?_
  · rintro ys HX ⟨g1,sX,rfl⟩
    rw [al,List.take_length] at g1
    exact ⟨acc,_,rfl,SqL.of g1,q HX sX⟩
  · rintro i x ys HX hx ⟨g1,sX,rfl⟩
    obtain ⟨a,r,rfl,_,er,ha⟩:=(ra.same sX).get hx
    exact ⟨rfl,_,rfl,a,_,_,_,rfl,rfl,SqT.of ha,rfl,g1,upd_same,sX.write hacc,by rw [sums er,List.map_append];rfl⟩
def sp_lin (cP:Addr):Sp:=fun vs H Q E=>∃ (t:Addr) (rs:List Rn) (x:V),vs=[.ref t,x]∧RunsAt H t rs∧W39.Pos rs∧rs.length≤12∧Thg H x ∧
  (∀ i z,x=.int i→0≤i→W39.ltr rs i=some z→∀ H',Same H H'→Q (.str z) H')∧(below x (W39.tot rs)=false→∀ a H',Same H H'→H' a=none→E (.ref a) (some cP) H')
theorem has_lin (EX:Exs K mg) (D:Df K mg "letter_in" s_letter_in) (B:Blt7 mg) (G_length_of:Has P w K mg base "length_of" k ["runs"] sp_len) (G_is_number_below:Has P w K mg base "is_number_below" k ["thing", "behind"] sp_below):HasX P w K mg base "letter_in" (k+1) ["runs", "place"] (sp_lin EX.c_NoPlace):=by
  refine D.hasX sc_letter_in (fun _ _ _ _ _ _ us hl=>match us,hl with | [_,_],_=>rfl) (fun vs H Q E h=>by obtain ⟨t,rs,x,rfl,_⟩:=h;rfl) (fun f cdv A outer s H vs Q E hr h=>?_)
  obtain ⟨t,rs,x,rfl,ra,ps,l12,th,q,qe⟩:=h
  refine ⟨_,(pss_cons (ps_if (pt_not (pt_val (pe_callH G_is_number_below hr rfl (pa_cons (pv 1) (pa_cons (pe_callH G_length_of hr rfl (pa_cons (pv 0) pa_nil)) pa_nil)))))
  (pss_one (ps_raise raises_cx EX.m_NoPlace EX.q_NoPlace rfl (pa_cons pe_str pa_nil)))
  pss_nil)
  (pss_cons (ps_set (i:=2) sc_letter_in.nd rfl (by first | exact Or.inl rfl | exact Or.inr rfl) (pv 1))
  (pss_cons (ps_for PassesOwn.leaving rfl (pi_tup (pv 0)) (pg_name (i:=3) sc_letter_in.nd rfl (by first | exact Or.inl rfl | exact Or.inr rfl))
  (pss_cons (ps_if (pt_cmpR op_lt (pv 2) (pe_ix ix_tup (pv 3) pe_int (fun _ _=>rfl)) (nomark _))
  (pss_one ps_break)
  pss_nil)
  (pss_one (ps_aug (i:=2) sc_letter_in.nd rfl (by first | exact Or.inl rfl | exact Or.inr rfl) (pe_ix ix_tup (pv 3) pe_int (fun _ _=>rfl)) ip_sub))))
  (pss_one (ps_ret (pe_ix ix_tup (pv 3) pe_int (fun _ _=>rfl))))))),?_⟩
  refine ⟨_,rfl,_,rfl,t,rs,rfl,ra,l12,fun H1 s1=>?_⟩
  refine ⟨x,_,rfl,th.same s1,_,rfl,?_⟩
  cases eb:below x (W39.tot rs) with
  | false=>exact iteT ⟨line_le (show 1≤1000 by omega),fun a ha=>qe eb a H1 s1 ha⟩
  | true=>
    refine iteF ?_
    obtain ⟨pl,rfl,i0,i1⟩:=below_int eb
    obtain ⟨z,ez⟩:=W39.ltr_some ps i0 i1
    refine ⟨_,rfl,?_⟩
    obtain ⟨as,ht,rr⟩:=ra.same s1
    have al:=rs_len rr
    refine mid (fun σ' H'=>σ'=[some (.ref t),some (.int pl),some (.int pl),none]∧H'=H1) ?_ fun E nx=>nx _ _ ⟨rfl,rfl⟩
    rintro σ1 H1' ⟨rfl,rfl⟩
    refine mid (fun σ' H'=>∃ (left:Int) (a:Addr) (m:Int),σ'=[some (.ref t),some (.int pl),some (.int left),some (.ref a)]∧H'=H1'∧H1' a=some (.tup [.str z,.int m])) ?_ fun E nx=>?_
    · rintro σ1 H2 ⟨left,a,m,rfl,rfl,ha⟩
      exact ⟨_,rfl,a,_,_,_,rfl,rfl,SqT.of ha,rfl,q pl z rfl i0 ez _ s1⟩
    · refine ⟨_,rfl,t,rfl,⟨_,SqT.of ht⟩,?_⟩
      refine for_tup (K:=K) (xs:=as.map V.ref) (fun i σ HX=>∃ (left:Int) (o3:Option V),σ=[some (.ref t),some (.int pl),some (.int left),o3]∧HX=H1'∧W39.ltr (rs.drop i) left=some z) ⟨pl,none,rfl,rfl,ez⟩ (fun j σ HY _ h=>by obtain ⟨_,_,_,rfl,_⟩:=h;exact SqT.of ht) ?_ ?_
      · rintro i x σ HX hx ⟨left,o3,rfl,rfl,el⟩
        obtain ⟨a,r,rfl,_,er,ha⟩:=rr.get hx
        rw [W39.drop_cons er] at el
        unfold W39.ltr at el
        refine ⟨_,rfl,_,rfl,a,_,_,_,rfl,rfl,SqT.of ha,rfl,_,_,rfl,rfl,_,rfl,ite2 (fun c=>?_) (fun c=>?_)⟩
        · have c':=of_decide_eq_true c
          rw [if_pos c'] at el
          cases el
          exact nx _ _ ⟨left,a,r.2,rfl,rfl,ha⟩
        · have c':¬ left < r.2:=fun h=>c (decide_eq_true h)
          rw [if_neg c'] at el
          refine ⟨_,rfl,_,rfl,a,_,_,_,rfl,rfl,SqT.of ha,rfl,_,_,rfl,rfl,?_⟩
          exact ⟨_,_,rfl,rfl,el⟩
      · rintro σ HX ⟨left,o3,rfl,rfl,el⟩
        rw [al,List.drop_length] at el
        cases el
theorem one_eq (p m:Int) (h:1≤m):(if (if m < p then m else p) > 0 then (if m < p then m else p) else 0)=W39.one p m:=by
  unfold W39.one
  split <;> split <;> (try split) <;> omega
def sp_cnt:Sp:=fun vs H Q _=>∃ (t:Addr) (rs:List Rn) (c:Str) (p:Int),vs=[.ref t,.str c,.int p]∧RunsAt H t rs∧W39.Pos rs∧Q (.int (W39.cnt rs c p)) H
theorem has_cnt (D:Df K mg "count_ahead" s_count_ahead) (B:Blt7 mg):Has P w K mg base "count_ahead" (k+1) ["runs", "letter", "place"] sp_cnt:=by
  refine D.has sc_count_ahead (fun _ _ _ _ _ _ us hl=>match us,hl with | [_,_,_],_=>rfl) (fun vs H Q E h=>by obtain ⟨t,rs,c,p,rfl,_⟩:=h;rfl) (fun f cdv A outer s H vs Q E hr h=>?_)
  obtain ⟨t,rs,c,p,rfl,⟨as,ht,rr⟩,ps,q⟩:=h
  refine ⟨_,(pss_cons (ps_set (i:=3) sc_count_ahead.nd rfl (by first | exact Or.inl rfl | exact Or.inr rfl) pe_int)
  (pss_cons (ps_set (i:=4) sc_count_ahead.nd rfl (by first | exact Or.inl rfl | exact Or.inr rfl) (pv 2))
  (pss_cons (ps_for PassesOwn.never rfl (pi_tup (pv 0)) (pg_name (i:=5) sc_count_ahead.nd rfl (by first | exact Or.inl rfl | exact Or.inr rfl))
  (pss_cons (ps_if (pt_cmpR op_eq (pe_ix ix_tup (pv 5) pe_int (fun _ _=>rfl)) (pv 1) (nomark _))
  (pss_one (ps_aug (i:=3) sc_count_ahead.nd rfl (by first | exact Or.inl rfl | exact Or.inr rfl) (pe_callB (call_max2 rfl) rfl B.max bt_max (pa_cons pe_int (pa_cons (pe_callB (call_min2 rfl) rfl B.min bt_min (pa_cons (pv 4) (pa_cons (pe_ix ix_tup (pv 5) pe_int (fun _ _=>rfl)) pa_nil))) pa_nil))) ip_add))
  pss_nil)
  (pss_one (ps_aug (i:=4) sc_count_ahead.nd rfl (by first | exact Or.inl rfl | exact Or.inr rfl) (pe_ix ix_tup (pv 5) pe_int (fun _ _=>rfl)) ip_sub))))
  (pss_one (ps_ret (pv 3)))))),?_⟩
  have al:=rs_len rr
  refine mid (fun σ' H'=>σ'=[some (.ref t),some (.str c),some (.int p),some (.int 0),none,none]∧H'=H) ?_ fun E nx=>nx _ _ ⟨rfl,rfl⟩
  rintro σ1 H1 ⟨rfl,rfl⟩
  refine ⟨_,rfl,?_⟩
  refine mid (fun σ' H'=>σ'=[some (.ref t),some (.str c),some (.int p),some (.int 0),some (.int p),none]∧H'=H1) ?_ fun E nx=>nx _ _ ⟨rfl,rfl⟩
  rintro σ1 H1' ⟨rfl,rfl⟩
  refine ⟨_,rfl,t,rfl,⟨_,SqT.of ht⟩,?_⟩
  refine for_tup (K:=K) (xs:=as.map V.ref) (fun i σ HX=>∃ (many left:Int) (o5:Option V),σ=[some (.ref t),some (.str c),some (.int p),some (.int many),some (.int left),o5]∧HX=H1'∧W39.cnt rs c p=many+W39.cnt (rs.drop i) c left) ⟨0,p,none,rfl,rfl,by rw [List.drop_zero];omega⟩ (fun j σ HY _ h=>by obtain ⟨_,_,_,_,rfl,_⟩:=h;exact SqT.of ht) ?_ ?_
  · rintro i x σ HX hx ⟨many,left,o5,rfl,rfl,el⟩
    obtain ⟨a,r,rfl,_,er,ha⟩:=rr.get hx
    have r1:=ps r (List.mem_of_getElem? er)
    rw [W39.drop_cons er,W39.cnt] at el
    refine mid (fun σ' H'=>∃ many':Int,σ'=[some (.ref t),some (.str c),some (.int p),some (.int many'),some (.int left),some (.ref a)]∧H'=HX∧W39.cnt rs c p=many'+W39.cnt (rs.drop (i+1)) c (left - r.2)) ?_ fun E nx=>?_
    · rintro σ1 H2 ⟨many',rfl,rfl,el'⟩
      refine ⟨_,rfl,_,rfl,a,_,_,_,rfl,rfl,SqT.of ha,rfl,_,_,rfl,rfl,?_⟩
      exact ⟨_,_,_,rfl,rfl,el'⟩
    · refine ⟨_,rfl,a,_,_,_,rfl,rfl,SqT.of ha,rfl,_,rfl,rfl,_,rfl,ite2 (fun cc=>?_) (fun cc=>?_)⟩
      · have c':=of_decide_eq_true cc
        injection c' with c'
        rw [if_pos c'] at el
        refine ⟨_,rfl,_,rfl,_,rfl,a,_,_,_,rfl,rfl,SqT.of ha,rfl,_,_,rfl,_,_,rfl,_,_,rfl,rfl,?_⟩
        rw [one_eq _ _ r1]
        exact nx _ _ ⟨_,rfl,rfl,by show _=many+W39.one left r.2+_;omega⟩
      · have c':¬ r.1=c:=fun h=>cc (decide_eq_true (by rw [h]))
        rw [if_neg c'] at el
        exact nx _ _ ⟨_,rfl,rfl,by omega⟩
  · rintro σ HX ⟨many,left,o5,rfl,rfl,el⟩
    rw [al,List.drop_length] at el
    have e0:W39.cnt [] c left=0:=rfl
    rw [e0,Int.add_zero] at el
    refine ⟨_,rfl,?_⟩
    rw [← el]
    exact q
def oV:Option Int→V
  | none=>.non
  | some i=>.int i
def sp_plc:Sp:=fun vs H Q _=>∃ (t:Addr) (rs:List Rn) (c:Str) (so:Int),vs=[.ref t,.str c,.int so]∧RunsAt H t rs∧Q (oV (W39.plc rs c so)) H
theorem has_plc (D:Df K mg "place_by" s_place_by) (B:Blt7 mg):Has P w K mg base "place_by" (k+1) ["runs", "letter", "so"] sp_plc:=by
  refine D.has sc_place_by (fun _ _ _ _ _ _ us hl=>match us,hl with | [_,_,_],_=>rfl) (fun vs H Q E h=>by obtain ⟨t,rs,c,so,rfl,_⟩:=h;rfl) (fun f cdv A outer s H vs Q E hr h=>?_)
  obtain ⟨t,rs,c,so,rfl,⟨as,ht,rr⟩,q⟩:=h
  refine ⟨_,(pss_cons (ps_set (i:=3) sc_place_by.nd rfl (by first | exact Or.inl rfl | exact Or.inr rfl) pe_int)
  (pss_cons (ps_set (i:=4) sc_place_by.nd rfl (by first | exact Or.inl rfl | exact Or.inr rfl) (pv 2))
  (pss_cons (ps_for PassesOwn.never rfl (pi_tup (pv 0)) (pg_name (i:=5) sc_place_by.nd rfl (by first | exact Or.inl rfl | exact Or.inr rfl))
  (pss_cons (ps_if (pt_cmpR op_eq (pe_ix ix_tup (pv 5) pe_int (fun _ _=>rfl)) (pv 1) (nomark _))
  (pss_cons (ps_if (pt_chain op_le op_lt pe_int (pv 4) (pe_ix ix_tup (pv 5) pe_int (fun _ _=>rfl)))
  (pss_one (ps_ret (pe_op op_add (pv 3) (pv 4))))
  pss_nil)
  (pss_one (ps_aug (i:=4) sc_place_by.nd rfl (by first | exact Or.inl rfl | exact Or.inr rfl) (pe_ix ix_tup (pv 5) pe_int (fun _ _=>rfl)) ip_sub)))
  pss_nil)
  (pss_one (ps_aug (i:=3) sc_place_by.nd rfl (by first | exact Or.inl rfl | exact Or.inr rfl) (pe_ix ix_tup (pv 5) pe_int (fun _ _=>rfl)) ip_add))))
  (pss_one (ps_ret pe_non))))),?_⟩
  have al:=rs_len rr
  refine mid (fun σ' H'=>σ'=[some (.ref t),some (.str c),some (.int so),some (.int 0),none,none]∧H'=H) ?_ fun E nx=>nx _ _ ⟨rfl,rfl⟩
  rintro σ1 H1 ⟨rfl,rfl⟩
  refine ⟨_,rfl,?_⟩
  refine mid (fun σ' H'=>σ'=[some (.ref t),some (.str c),some (.int so),some (.int 0),some (.int so),none]∧H'=H1) ?_ fun E nx=>nx _ _ ⟨rfl,rfl⟩
  rintro σ1 H1' ⟨rfl,rfl⟩
  refine ⟨_,rfl,t,rfl,⟨_,SqT.of ht⟩,?_⟩
  refine for_tup (K:=K) (xs:=as.map V.ref) (fun i σ HX=>∃ (start left:Int) (o5:Option V),σ=[some (.ref t),some (.str c),some (.int so),some (.int start),some (.int left),o5]∧HX=H1'∧W39.plc rs c so=(W39.plc (rs.drop i) c left).map (·+start)) ⟨0,so,none,rfl,rfl,by rw [List.drop_zero];simp⟩ (fun j σ HY _ h=>by obtain ⟨_,_,_,_,rfl,_⟩:=h;exact SqT.of ht) ?_ ?_
  · rintro i x σ HX hx ⟨start,left,o5,rfl,rfl,el⟩
    obtain ⟨a,r,rfl,_,er,ha⟩:=rr.get hx
    rw [W39.drop_cons er,W39.plc] at el
    have fin:∀ {left':Int},W39.plc rs c so=((W39.plc (rs.drop (i+1)) c left').map (·+r.2)).map (·+start)→W39.plc rs c so=(W39.plc (rs.drop (i+1)) c left').map (·+(start+r.2)):=fun {left'} h=>by
      rw [h,Option.map_map]
      congr 1
      funext y
      show y+r.2+start=y+(start+r.2)
      omega
    refine ⟨_,rfl,a,_,_,_,rfl,rfl,SqT.of ha,rfl,_,rfl,rfl,_,rfl,ite2 (fun cc=>?_) (fun cc=>?_)⟩
    · have c':=of_decide_eq_true cc
      injection c' with c'
      rw [if_pos c'] at el
      have go:¬ (0≤left∧left < r.2)→∃ (start' left':Int) (o5:Option V),[some (V.ref t),some (.str c),some (.int so),some (.int (start+r.2)),some (.int (left - r.2)),some (.ref a)]=[some (.ref t),some (.str c),some (.int so),some (.int start'),some (.int left'),o5]∧HX=HX∧W39.plc rs c so=(W39.plc (rs.drop (i+1)) c left').map (·+start'):=fun h=>by
        rw [if_neg h] at el
        exact ⟨_,_,_,rfl,rfl,fin el⟩
      refine ⟨_,rfl,_,_,rfl,rfl,_,rfl,ite2 (fun c1=>?_) (fun c1=>?_)⟩
      · have c1':=of_decide_eq_true c1
        refine ⟨_,rfl,a,_,_,_,rfl,rfl,SqT.of ha,rfl,_,_,rfl,rfl,_,rfl,ite2 (fun c2=>?_) (fun c2=>?_)⟩
        · have c2':=of_decide_eq_true c2
          rw [if_pos ⟨c1',c2'⟩] at el
          rw [el] at q
          refine ⟨_,rfl,_,rfl,_,_,rfl,rfl,?_⟩
          have q':Q (.int (left+start)) HX:=q
          rw [Int.add_comm] at q'
          exact q'
        · refine ⟨_,rfl,_,rfl,a,_,_,_,rfl,rfl,SqT.of ha,rfl,_,_,rfl,rfl,?_⟩
          refine ⟨_,rfl,_,rfl,a,_,_,_,rfl,rfl,SqT.of ha,rfl,_,_,rfl,rfl,?_⟩
          exact go fun h=>c2 (decide_eq_true h.2)
      · refine ⟨_,rfl,iteF ?_⟩
        refine ⟨_,rfl,_,rfl,a,_,_,_,rfl,rfl,SqT.of ha,rfl,_,_,rfl,rfl,?_⟩
        refine ⟨_,rfl,_,rfl,a,_,_,_,rfl,rfl,SqT.of ha,rfl,_,_,rfl,rfl,?_⟩
        exact go fun h=>c1 (decide_eq_true h.1)
    · have c':¬ r.1=c:=fun h=>cc (decide_eq_true (by rw [h]))
      rw [if_neg c'] at el
      refine ⟨_,rfl,_,rfl,a,_,_,_,rfl,rfl,SqT.of ha,rfl,_,_,rfl,rfl,?_⟩
      exact ⟨_,_,_,rfl,rfl,fin el⟩
  · rintro σ HX ⟨start,left,o5,rfl,rfl,el⟩
    rw [al,List.drop_length] at el
    have e0:(W39.plc [] c left).map (·+start)=none:=rfl
    rw [e0] at el
    rw [el] at q
    exact q
end
end S39
namespace S39
open PySem L2
theorem cut_take {xs:List V} {i:Nat} (h:i≤xs.length):cutV xs none (some (i:Int))=xs.take i:=by
  unfold cutV
  rw [HT.sIx_nat,HT.sIx_none,Nat.min_eq_left h]
  simp
theorem RsAt.take {H:Hp} {as:List Addr} {rs:List Rn} (h:RsAt H as rs) (n:Nat):RsAt H (as.take n) (rs.take n):=by
  refine ⟨by rw [List.length_take,List.length_take,h.1],fun i a r x y=>?_⟩
  rw [List.getElem?_take] at x y
  by_cases c:i < n
  · rw [if_pos c] at x y;exact h.2 i a r x y
  · rw [if_neg c] at x;cases x
def BegAt (H:Hp) (bs:List Addr) (rs:List Rn):Prop:=∀ (i:Nat) (b:Addr) (r:Rn),bs[i]?=some b→rs[i]?=some r→H b=some (.tup [.int (W39.tot (rs.take i)),.int (W39.ctot (rs.take i) r.1)])
section
variable {P:Program} {w:World} {K:PySem.W.Frag} {mg:Str→Option Value} {base:Heap} {k:Nat}
def sp_beg:Sp:=fun vs H Q _=>∃ (t:Addr) (rs:List Rn),vs=[.ref t]∧RunsAt H t rs∧rs.length≤12∧∀ (l:Addr) (bs:List Addr) (H':Hp),H l=none→Same H H'→H' l=some (.lst (bs.map V.ref))→bs.length=rs.length→BegAt H' bs rs→Q (.ref l) H'
theorem has_beg (D:Df K mg "_law_begun" s_law_begun) (B:Blt7 mg):Has P w K mg base "_law_begun" (k+1) ["runs"] sp_beg:=by
  refine D.has sc_law_begun (fun _ _ _ _ _ _ us hl=>match us,hl with | [_],_=>rfl) (fun vs H Q E h=>by obtain ⟨t,rs,rfl,_⟩:=h;rfl) (fun f cdv A outer s H vs Q E hr h=>?_)
  obtain ⟨t,rs,rfl,⟨as,ht,rr⟩,l12,q⟩:=h
  refine ⟨_,(pss_cons (ps_set (i:=1) sc_law_begun.nd rfl (by first | exact Or.inl rfl | exact Or.inr rfl) (pe_lst pa_nil))
  (pss_cons (ps_set (i:=2) sc_law_begun.nd rfl (by first | exact Or.inl rfl | exact Or.inr rfl) pe_int)
  (pss_cons (ps_for PassesOwn.never rfl (pi_enum rfl B.enumerate (pa_cons (pv 0) pa_nil)) (pg_tup rfl (pgs_cons (pg_name (i:=3) sc_law_begun.nd rfl (by first | exact Or.inl rfl | exact Or.inr rfl)) (pgs_cons (pg_tup rfl (pgs_cons (pg_name (i:=4) sc_law_begun.nd rfl (by first | exact Or.inl rfl | exact Or.inr rfl)) (pgs_cons (pg_name (i:=5) sc_law_begun.nd rfl (by first | exact Or.inl rfl | exact Or.inr rfl)) pgs_nil))) pgs_nil)))
  (pss_cons (ps_expr (pe_bm PySem.F.plainAttrs_list PySem.F.slot_list_append PySem.F.type_list_append mt_append (pv 1) (pa_cons (pe_tup (pa_cons (pv 2) (pa_cons (pe_callB (call_sumA K rfl) rfl B.sum bt_sum (pa_cons (pe_comp rfl (pi_tup (pe_slice sl_tupU (pv 0) po_none (po_some (pv 3)))) (NL:=["one", "more"]) (ix:=[4]) (csc (defScope s_law_begun) N_law_begun) (fun cl C s₃ H₃ fp pins=>⟨(pg_tupK K (n:=2) rfl (pgs_cons (pg_name (i:=0) (show List.Nodup (["one", "more", "letter"]:List Str) from by decide +kernel) rfl (by first | exact Or.inl rfl | exact Or.inr rfl)) (pgs_cons (pg_name (i:=1) (show List.Nodup (["one", "more", "letter"]:List Str) from by decide +kernel) rfl (by first | exact Or.inl rfl | exact Or.inr rfl)) pgs_nil))),(pifs_one (pt_cmpR op_eq (pv 0) (pv 2) (nomark _))),(pv 1)⟩)) pa_nil)) pa_nil))) pa_nil)))
  (pss_one (ps_set (i:=2) sc_law_begun.nd rfl (by first | exact Or.inl rfl | exact Or.inr rfl) (pe_op op_add (pv 2) (pv 5))))))
  (pss_one (ps_ret (pv 1)))))),?_⟩
  have al:=rs_len rr
  refine ⟨line_le (show 0≤1000 by omega),fun l hl=>?_⟩
  refine mid (fun σ' H'=>σ'=[some (.ref t),some (.ref l),none,none,none,none]∧Same H H'∧H' l=some (.lst [])) ?_ fun E nx=>nx _ _ ⟨rfl,(Same.refl H).new hl,upd_same⟩
  rintro σ1 H1 ⟨rfl,s1,g1⟩
  refine mid (fun σ' H'=>σ'=[some (.ref t),some (.ref l),some (.int 0),none,none,none]∧H'=H1) ?_ fun E nx=>nx _ _ ⟨rfl,rfl⟩
  rintro σ1 H1' ⟨rfl,rfl⟩
  refine ⟨_,rfl,.tup t,rfl,⟨_,.inl (s1 _ _ ht)⟩,?_⟩
  refine for_enum (κ:=.tup t) (xs:=as.map V.ref) (fun i σ HX=>∃ (o3 o4 o5:Option V) (bs:List Addr),σ=[some (.ref t),some (.ref l),some (.int (W39.tot (rs.take i))),o3,o4,o5]∧Same H HX∧HX l=some (.lst (bs.map V.ref))∧bs.length=i∧BegAt HX bs rs) ⟨none,none,none,[],rfl,s1,g1,rfl,fun i b r h=>by simp at h⟩
    (fun i σ HX hi h=>by obtain ⟨_,_,_,_,_,sX,_⟩:=h;exact .inl (sX _ _ ht)) ?_ ?_
  rotate_left
  · rintro σ HX ⟨o3,o4,o5,bs,rfl,sX,gX,bl,bg⟩
    exact ⟨_,rfl,q l bs HX hl sX gX (by omega) bg⟩
  rintro i x σ HX pp hx ⟨o3,o4,o5,bs,rfl,sX,gX,bl,bg⟩ hpp
  obtain ⟨a,r,rfl,ea,er,ha⟩:=(rr.same sX).get hx
  have il:i < as.length:=(List.getElem?_eq_some_iff.mp ea).1
  have asl:=rr.1
  have sP:Same HX (upd HX pp (.tup [.int (i:Int),.ref a])):=(Same.refl HX).new hpp
  have hP:upd HX pp (.tup [.int (i:Int),.ref a]) pp=some (.tup [.int (i:Int),.ref a]):=upd_same
  show (fun HH=>_) (upd HX pp (.tup [.int (i:Int),.ref a]))
  generalize upd HX pp (.tup [.int (i:Int),.ref a])=H2 at sP hP
  have s2:=sX.trans sP
  refine ⟨pp,_,rfl,SqT.of hP,rfl,_,_,rfl,_,_,rfl,a,_,rfl,SqT.of (sP _ _ ha),rfl,_,_,rfl,_,_,rfl,rfl,rfl,?_⟩
  refine ⟨_,rfl,.inl ⟨rfl,_,SqL.of (sP _ _ gX)⟩,_,rfl,_,rfl,_,rfl,_,rfl,t,_,rfl,s2 _ _ ht,fun t2 H3 s3 g3=>?_⟩
  rw [cut_take (by rw [List.length_map];omega),← List.map_take] at g3
  have s03:=s2.trans s3
  have r3:=(rr.same s03).take i
  have tl:((as.take i).map V.ref).length=i:=by rw [List.length_map,List.length_take];omega
  refine ⟨t2,rfl,⟨_,SqT.of g3⟩,fun acc hacc=>?_⟩
  have acl:l≠acc:=ne_of_none (s3 _ _ (sP _ _ gX)) hacc
  refine comp_tupI (K:=K) (a:=t2) (xs:=(as.take i).map V.ref) (by omega) (fun j ys HY=>HY acc=some (.lst ys)∧Same H3 HY∧ys=(((((rs.take i).take j).filter fun x=>decide (x.1=r.1)).map (·.2)).map V.int)) (fun j ys HY h=>SqT.of (h.2.1 _ _ g3)) (fun j ys HY h=>⟨h.1,by rw [h.2.2,List.length_map,List.length_map];exact Nat.le_trans (List.length_filter_le _ _) (by rw [List.length_take];omega)⟩) ⟨upd_same,(Same.refl H3).new hacc,rfl⟩ ?_ ?_
  rotate_left
  · rintro j x ys HY hx' ⟨y1,sY,rfl⟩
    obtain ⟨a',r',rfl,_,er',ha'⟩:=(r3.same sY).get hx'
    refine ⟨a',_,rfl,SqT.of ha',rfl,_,_,rfl,_,_,rfl,rfl,rfl,?_⟩
    refine ⟨_,rfl,_,rfl,rfl,_,rfl,ite2 (fun c=>?_) (fun c=>?_)⟩
    · have c':=of_decide_eq_true c
      injection c' with c'
      refine ⟨_,rfl,y1,upd_same,sY.write hacc,?_⟩
      rw [W39.take_succ er',List.filter_append,List.map_append,List.map_append]
      simp [c']
    · have c':¬ r'.1=r.1:=fun h=>c (decide_eq_true (by rw [h]))
      refine ⟨y1,sY,?_⟩
      rw [W39.take_succ er',List.filter_append,List.map_append,List.map_append]
      simp [c']
  rintro ys H4 ⟨y1,s4,rfl⟩
  rw [tl,List.take_take,Nat.min_self] at y1
  refine ⟨acc,_,rfl,SqL.of y1,line_le (show 2≤1000 by omega),fun b hb=>?_⟩
  have eq:((((rs.take i).filter fun x=>decide (x.1=r.1)).map (·.2)).sum)=W39.ctot (rs.take i) r.1:=rfl
  rw [eq]
  have s5:Same H4 (upd H4 b (.tup [.int (W39.tot (rs.take i)),.int (W39.ctot (rs.take i) r.1)])):=(Same.refl H4).new hb
  have g5:upd H4 b (.tup [.int (W39.tot (rs.take i)),.int (W39.ctot (rs.take i) r.1)]) b=some (.tup [.int (W39.tot (rs.take i)),.int (W39.ctot (rs.take i) r.1)]):=upd_same
  show (fun HH=>_) (upd H4 b (.tup [.int (W39.tot (rs.take i)),.int (W39.ctot (rs.take i) r.1)]))
  generalize upd H4 b (.tup [.int (W39.tot (rs.take i)),.int (W39.ctot (rs.take i) r.1)])=H5 at s5 g5
  have sX5:=((sP.trans s3).trans s4).trans s5
  have gl:=sX5 _ _ gX
  refine ⟨l,_,_,rfl,rfl,gl,small1000 (by rw [List.length_map];omega),?_⟩
  have kp:∀ c xs,H5 c=some (.tup xs)→upd H5 l (.lst (bs.map V.ref++[.ref b])) c=some (.tup xs):=fun c xs e=>by
    rw [upd_ne (fun z=>by rw [z,gl] at e;cases e)];exact e
  refine ⟨_,rfl,_,rfl,_,_,rfl,rfl,?_⟩
  refine ⟨_,_,_,bs++[b],(by rw [W39.tot_succ er];rfl),(sX.trans sX5).write hl,by rw [upd_same,List.map_append];rfl,by rw [List.length_append,bl];rfl,fun j c r' x y=>?_⟩
  rcases Nat.lt_or_ge j bs.length with lt | ge
  · rw [List.getElem?_append_left lt] at x
    exact kp _ _ (sX5 _ _ (bg j c r' x y))
  · rw [List.getElem?_append_right ge] at x
    cases e:j - bs.length with
    | zero=>
      rw [e] at x
      cases x
      have:j=i:=by omega
      subst this
      rw [er] at y
      cases y
      exact kp _ _ g5
    | succ n=>rw [e] at x;cases x
theorem bg_get {bs:List Addr} {i:Nat} {y:V} (h:(bs.map V.ref)[i]?=some y):∃ b,y=.ref b∧bs[i]?=some b:=by
  rw [List.getElem?_map] at h
  cases e:bs[i]? with
  | none=>rw [e] at h;cases h
  | some b=>rw [e] at h;cases h;exact ⟨b,rfl,rfl⟩
def refV:List V:=[.str "refused"]
def sp_ldue:Sp:=fun vs H Q _=>∃ (t:Addr) (rs:List Rn) (x:V),vs=[.ref t,x]∧RunsAt H t rs∧W39.Pos rs∧rs.length≤12∧Thg H x ∧
  (∀ i z,x=.int i→0≤i→W39.ltr rs i=some z→∀ H',Same H H'→Q (.str z) H')∧(below x (W39.tot rs)=false→∀ a H',Same H H'→H' a=some (.lst refV)→Q (.ref a) H')
theorem below_no {i n:Int} (h:¬ (0≤i∧i < n)):below (.int i) n=false:=by
  show (decide (0≤i) && decide (i < n))=false
  by_cases c:0≤i
  · rw [decide_eq_false (fun z=>h ⟨c,z⟩),Bool.and_false]
  · rw [decide_eq_false c,Bool.false_and]
theorem has_ldue (D:Df K mg "_law_letter_due" s_law_letter_due) (B:Blt7 mg) (G_law_begun:Has P w K mg base "_law_begun" k ["runs"] sp_beg):Has P w K mg base "_law_letter_due" (k+1) ["runs", "place"] sp_ldue:=by
  refine D.has sc_law_letter_due (fun _ _ _ _ _ _ us hl=>match us,hl with | [_,_],_=>rfl) (fun vs H Q E h=>by obtain ⟨t,rs,x,rfl,_⟩:=h;rfl) (fun f cdv A outer s H vs Q E hr h=>?_)
  obtain ⟨t,rs,x,rfl,ra,ps,l12,th,q,qe⟩:=h
  refine ⟨_,(pss_cons (ps_if (PW.pt (pw_or (pt_not (pt_val (pe_callB call_isinst rfl B.isinstance bt_isinstance (pa_cons (pv 1) (pa_cons (pe_bltn (v:=.ty "int") rfl B.int_ bt_int rfl) pa_nil))))) (pw_or1 (pt_val (pe_callB call_isinst rfl B.isinstance bt_isinstance (pa_cons (pv 1) (pa_cons (pe_bltn (v:=.ty "bool") rfl B.bool_ bt_bool rfl) pa_nil)))))))
  (pss_one (ps_ret (pe_lst (pa_cons pe_str pa_nil))))
  pss_nil)
  (pss_cons (ps_for PassesOwn.never rfl (pi_zip rfl B.zip (pa_cons (pv 0) (pa_cons (pe_callH G_law_begun hr rfl (pa_cons (pv 0) pa_nil)) pa_nil))) (pg_tup rfl (pgs_cons (pg_tup rfl (pgs_cons (pg_name (i:=2) sc_law_letter_due.nd rfl (by first | exact Or.inl rfl | exact Or.inr rfl)) (pgs_cons (pg_name (i:=3) sc_law_letter_due.nd rfl (by first | exact Or.inl rfl | exact Or.inr rfl)) pgs_nil))) (pgs_cons (pg_tup rfl (pgs_cons (pg_name (i:=4) sc_law_letter_due.nd rfl (by first | exact Or.inl rfl | exact Or.inr rfl)) (pgs_cons (pg_name (i:=5) sc_law_letter_due.nd rfl (by first | exact Or.inl rfl | exact Or.inr rfl)) pgs_nil))) pgs_nil)))
  (pss_one (ps_if (pt_chain op_le op_lt (pv 4) (pv 1) (pe_op op_add (pv 4) (pv 3)))
  (pss_one (ps_ret (pv 2)))
  pss_nil)))
  (pss_one (ps_ret (pe_lst (pa_cons pe_str pa_nil)))))),?_⟩
  have no:below x (W39.tot rs)=false→∀ a,H a=none→Q (.ref a) (upd H a (.lst refV)):=fun e a ha=>qe e a _ ((Same.refl H).new ha) upd_same
  cases th with
  | non=>exact ⟨_,rfl,_,_, "int", false,rfl,.non,kit_none_int _,_,rfl,iteA rfl ⟨line_le (show 1≤1000 by omega),fun a ha=>no rfl a ha⟩⟩
  | str z=>exact ⟨_,rfl,_,_, "int", false,rfl,.str _,kit_str_int _,_,rfl,iteA rfl ⟨line_le (show 1≤1000 by omega),fun a ha=>no rfl a ha⟩⟩
  | lst e=>exact ⟨_,rfl,_,_, "int", false,rfl,.lst e,kit_list_int _,_,rfl,iteA rfl ⟨line_le (show 1≤1000 by omega),fun a ha=>no rfl a ha⟩⟩
  | tup e=>exact ⟨_,rfl,_,_, "int", false,rfl,.tup e,kit_tuple_int _,_,rfl,iteA rfl ⟨line_le (show 1≤1000 by omega),fun a ha=>no rfl a ha⟩⟩
  | dct e=>exact ⟨_,rfl,_,_, "int", false,rfl,.dK e,kit_dict_int _,_,rfl,iteA rfl ⟨line_le (show 1≤1000 by omega),fun a ha=>no rfl a ha⟩⟩
  | bl b=>exact ⟨_,rfl,_,_, "int", true,rfl,.bl _,kit_bool_int _,_,rfl,L2.iteB rfl ⟨_,rfl,_,_, "bool", true,rfl,.bl _,kit_same _ _,_,rfl,iteA rfl ⟨line_le (show 1≤1000 by omega),fun a ha=>no rfl a ha⟩⟩⟩
  | int pl=>
    refine ⟨_,rfl,_,.type "int", "int", true,rfl,.int _,kit_same _ _,_,rfl,L2.iteB rfl ⟨_,rfl,_,.type "int", "bool", false,rfl,.int _,kit_int_bool _,_,rfl,L2.iteB rfl ?_⟩⟩
    refine ⟨_,rfl,_,rfl,t,rs,rfl,ra,l12,fun l bs H1 fl s1 g1 bl bg=>?_⟩
    obtain ⟨as,ht,rr⟩:=ra.same s1
    have al:=rs_len rr
    refine ⟨.tup t,.lst l,rfl,⟨_,.inl ht⟩,⟨_,.inl g1⟩,?_⟩
    refine for_zip (κ1:=.tup t) (κ2:=.lst l) (xs:=as.map V.ref) (ys:=bs.map V.ref) (fun i σ HX=>∃ (o2 o3 o4 o5:Option V),σ=[some (.ref t),some (.int pl),o2,o3,o4,o5]∧Same H1 HX∧(0≤pl→W39.tot (rs.take i)≤pl∧W39.ltr rs pl=W39.ltr (rs.drop i) (pl - W39.tot (rs.take i)))) ⟨none,none,none,none,rfl,Same.refl _,fun h=>⟨by simpa [W39.tot] using h,by simp [W39.tot]⟩⟩ (by rw [al,List.length_map,bl])
      (fun i σ HX hi h=>by obtain ⟨_,_,_,_,_,sX,_⟩:=h;exact ⟨.inl (sX _ _ ht),.inl (sX _ _ g1)⟩) ?_ ?_
    · rintro i x y σ HX pp hx hy ⟨o2,o3,o4,o5,rfl,sX,inv⟩ hpp
      obtain ⟨a,r,rfl,ea,er,ha⟩:=(rr.same sX).get hx
      obtain ⟨b,rfl,eb⟩:=bg_get hy
      have hb:=sX _ _ (bg i b r eb er)
      have sP:Same HX (upd HX pp (.tup [.ref a,.ref b])):=(Same.refl HX).new hpp
      have hP:upd HX pp (.tup [.ref a,.ref b]) pp=some (.tup [.ref a,.ref b]):=upd_same
      show (fun HH=>_) (upd HX pp (.tup [.ref a,.ref b]))
      generalize upd HX pp (.tup [.ref a,.ref b])=H2 at sP hP
      refine ⟨pp,_,rfl,SqT.of hP,rfl,_,_,rfl,a,_,rfl,SqT.of (sP _ _ ha),rfl,_,_,rfl,_,_,rfl,rfl,_,_,rfl,b,_,rfl,SqT.of (sP _ _ hb),rfl,_,_,rfl,_,_,rfl,rfl,rfl,?_⟩
      have tk:=W39.tot_take_le ps er
      have nxt:¬ (W39.tot (rs.take i)≤pl∧pl < W39.tot (rs.take i)+r.2)→(0≤pl→W39.tot (rs.take (i+1))≤pl∧W39.ltr rs pl=W39.ltr (rs.drop (i+1)) (pl - W39.tot (rs.take (i+1)))):=fun h p0=>by
        obtain ⟨i1,i2⟩:=inv p0
        rw [W39.drop_cons er] at i2
        unfold W39.ltr at i2
        rw [if_neg (by omega)] at i2
        rw [W39.tot_succ er]
        exact ⟨by omega,by rw [show W39.ltr rs pl=_ from (by unfold W39.ltr;exact i2),show pl - W39.tot (rs.take i) - r.2=pl - (W39.tot (rs.take i)+r.2) by omega]⟩
      refine ⟨_,rfl,_,rfl,_,_,rfl,rfl,_,rfl,ite2 (fun c1=>?_) (fun c1=>?_)⟩
      · have c1':=of_decide_eq_true c1
        refine ⟨_,rfl,_,rfl,_,_,rfl,rfl,_,_,rfl,rfl,_,rfl,ite2 (fun c2=>?_) (fun c2=>?_)⟩
        · have c2':=of_decide_eq_true c2
          obtain ⟨i1,i2⟩:=inv (by omega)
          rw [W39.drop_cons er] at i2
          have e3:W39.ltr (r :: rs.drop (i+1)) (pl - W39.tot (rs.take i))=some r.1:=if_pos (by omega)
          rw [e3] at i2
          exact ⟨_,rfl,q pl r.1 rfl (by omega) i2 _ ((s1.trans sX).trans sP)⟩
        · exact ⟨_,_,_,_,rfl,sX.trans sP,nxt fun h=>c2 (decide_eq_true h.2)⟩
      · exact ⟨_,rfl,iteF ⟨_,_,_,_,rfl,sX.trans sP,nxt fun h=>c1 (decide_eq_true h.1)⟩⟩
    · rintro σ HX ⟨o2,o3,o4,o5,rfl,sX,inv⟩
      refine ⟨line_le (show 1≤1000 by omega),fun a ha=>?_⟩
      refine qe (below_no fun h=>?_) a _ ((s1.trans sX).new ha) upd_same
      obtain ⟨i1,_⟩:=inv h.1
      rw [al,List.take_length] at i1
      omega
def sp_adue:Sp:=fun vs H Q _=>∃ (t:Addr) (rs:List Rn) (c:Str) (p:Int),vs=[.ref t,.str c,.int p]∧RunsAt H t rs∧W39.Pos rs∧rs.length≤12∧∀ H',Same H H'→Q (.int (W39.cnt rs c p)) H'
theorem has_adue (D:Df K mg "_law_ahead_due" s_law_ahead_due) (B:Blt7 mg) (G_law_begun:Has P w K mg base "_law_begun" k ["runs"] sp_beg):Has P w K mg base "_law_ahead_due" (k+1) ["runs", "letter", "place"] sp_adue:=by
  refine D.has sc_law_ahead_due (fun _ _ _ _ _ _ us hl=>match us,hl with | [_,_,_],_=>rfl) (fun vs H Q E h=>by obtain ⟨t,rs,c,p,rfl,_⟩:=h;rfl) (fun f cdv A outer s H vs Q E hr h=>?_)
  obtain ⟨t,rs,c,p,rfl,ra,ps,l12,q⟩:=h
  refine ⟨_,(pss_cons (ps_set (i:=3) sc_law_ahead_due.nd rfl (by first | exact Or.inl rfl | exact Or.inr rfl) pe_int)
  (pss_cons (ps_for PassesOwn.never rfl (pi_zip rfl B.zip (pa_cons (pv 0) (pa_cons (pe_callH G_law_begun hr rfl (pa_cons (pv 0) pa_nil)) pa_nil))) (pg_tup rfl (pgs_cons (pg_tup rfl (pgs_cons (pg_name (i:=4) sc_law_ahead_due.nd rfl (by first | exact Or.inl rfl | exact Or.inr rfl)) (pgs_cons (pg_name (i:=5) sc_law_ahead_due.nd rfl (by first | exact Or.inl rfl | exact Or.inr rfl)) pgs_nil))) (pgs_cons (pg_tup rfl (pgs_cons (pg_name (i:=6) sc_law_ahead_due.nd rfl (by first | exact Or.inl rfl | exact Or.inr rfl)) (pgs_cons (pg_name (i:=7) sc_law_ahead_due.nd rfl (by first | exact Or.inl rfl | exact Or.inr rfl)) pgs_nil))) pgs_nil)))
  (pss_one (ps_if (PW.pt (pw_and (pt_cmpR op_eq (pv 4) (pv 1) (nomark _)) (pw_and1 (pt_cmpR op_gt (pv 2) (pv 6) (nomark _)))))
  (pss_one (ps_set (i:=3) sc_law_ahead_due.nd rfl (by first | exact Or.inl rfl | exact Or.inr rfl) (pe_op op_add (pv 3) (pe_callB (call_min2 rfl) rfl B.min bt_min (pa_cons (pv 5) (pa_cons (pe_op op_sub (pv 2) (pv 6)) pa_nil))))))
  pss_nil)))
  (pss_one (ps_ret (pv 3))))),?_⟩
  refine mid (fun σ' H'=>σ'=[some (.ref t),some (.str c),some (.int p),some (.int 0),none,none,none,none]∧H'=H) ?_ fun E nx=>nx _ _ ⟨rfl,rfl⟩
  rintro σ1 H0 ⟨rfl,rfl⟩
  refine ⟨_,rfl,_,rfl,t,rs,rfl,ra,l12,fun l bs H1 fl s1 g1 bl bg=>?_⟩
  obtain ⟨as,ht,rr⟩:=ra.same s1
  have al:=rs_len rr
  refine ⟨.tup t,.lst l,rfl,⟨_,.inl ht⟩,⟨_,.inl g1⟩,?_⟩
  refine for_zip (κ1:=.tup t) (κ2:=.lst l) (xs:=as.map V.ref) (ys:=bs.map V.ref) (fun i σ HX=>∃ (found:Int) (o4 o5 o6 o7:Option V),σ=[some (.ref t),some (.str c),some (.int p),some (.int found),o4,o5,o6,o7]∧Same H1 HX∧W39.cnt rs c p=found+W39.cnt (rs.drop i) c (p - W39.tot (rs.take i))) ⟨0,none,none,none,none,rfl,Same.refl _,by simp [W39.tot]⟩ (by rw [al,List.length_map,bl])
    (fun i σ HX hi h=>by obtain ⟨_,_,_,_,_,_,sX,_⟩:=h;exact ⟨.inl (sX _ _ ht),.inl (sX _ _ g1)⟩) ?_ ?_
  · rintro i x y σ HX pp hx hy ⟨found,o4,o5,o6,o7,rfl,sX,inv⟩ hpp
    obtain ⟨a,r,rfl,ea,er,ha⟩:=(rr.same sX).get hx
    obtain ⟨b,rfl,eb⟩:=bg_get hy
    have hb:=sX _ _ (bg i b r eb er)
    have sP:Same HX (upd HX pp (.tup [.ref a,.ref b])):=(Same.refl HX).new hpp
    have hP:upd HX pp (.tup [.ref a,.ref b]) pp=some (.tup [.ref a,.ref b]):=upd_same
    show (fun HH=>_) (upd HX pp (.tup [.ref a,.ref b]))
    generalize upd HX pp (.tup [.ref a,.ref b])=H2 at sP hP
    refine ⟨pp,_,rfl,SqT.of hP,rfl,_,_,rfl,a,_,rfl,SqT.of (sP _ _ ha),rfl,_,_,rfl,_,_,rfl,rfl,_,_,rfl,b,_,rfl,SqT.of (sP _ _ hb),rfl,_,_,rfl,_,_,rfl,rfl,rfl,?_⟩
    rw [W39.drop_cons er,W39.cnt] at inv
    have r1:=ps r (List.mem_of_getElem? er)
    have nxt:∀ n:Int,n=(if r.1=c then W39.one (p - W39.tot (rs.take i)) r.2 else 0)→W39.cnt rs c p=found+n+W39.cnt (rs.drop (i+1)) c (p - W39.tot (rs.take (i+1))):=fun n hn=>by
      rw [W39.tot_succ er,hn,show p - (W39.tot (rs.take i)+r.2)=p - W39.tot (rs.take i) - r.2 by omega]
      omega
    refine ⟨_,rfl,_,rfl,rfl,_,rfl,ite2 (fun cc=>?_) (fun cc=>?_)⟩
    · have c':=of_decide_eq_true cc
      injection c' with c'
      refine ⟨_,rfl,_,rfl,_,_,rfl,rfl,_,rfl,ite2 (fun c2=>?_) (fun c2=>?_)⟩
      · have c2':=of_decide_eq_true c2
        refine ⟨_,rfl,_,rfl,_,rfl,_,rfl,_,_,rfl,rfl,_,_,rfl,_,_,rfl,rfl,?_⟩
        refine ⟨_,_,_,_,_,rfl,sX.trans sP,nxt _ ?_⟩
        rw [if_pos c']
        unfold W39.one
        split <;> split <;> (try split) <;> omega
      · have c2':¬ p > W39.tot (rs.take i):=fun h=>c2 (decide_eq_true h)
        refine ⟨_,_,_,_,_,rfl,sX.trans sP,?_⟩
        have:=nxt 0 (by rw [if_pos c'];unfold W39.one;rw [if_neg (by omega)])
        omega
    · have c':¬ r.1=c:=fun h=>cc (decide_eq_true (by rw [h]))
      refine ⟨_,_,_,_,_,rfl,sX.trans sP,?_⟩
      have:=nxt 0 (by rw [if_neg c'])
      omega
  · rintro σ HX ⟨found,o4,o5,o6,o7,rfl,sX,inv⟩
    rw [al,List.drop_length] at inv
    have e0:W39.cnt [] c (p - W39.tot (rs.take rs.length))=0:=rfl
    rw [e0,Int.add_zero] at inv
    refine ⟨_,rfl,?_⟩
    rw [← inv]
    exact q HX (s1.trans sX)
def sp_pdue:Sp:=fun vs H Q _=>∃ (t:Addr) (rs:List Rn) (c:Str) (so:Int),vs=[.ref t,.str c,.int so]∧RunsAt H t rs∧rs.length≤12∧∀ H',Same H H'→Q (oV (W39.plc rs c so)) H'
theorem has_pdue (D:Df K mg "_law_place_due" s_law_place_due) (B:Blt7 mg) (G_law_begun:Has P w K mg base "_law_begun" k ["runs"] sp_beg):Has P w K mg base "_law_place_due" (k+1) ["runs", "letter", "so"] sp_pdue:=by
  refine D.has sc_law_place_due (fun _ _ _ _ _ _ us hl=>match us,hl with | [_,_,_],_=>rfl) (fun vs H Q E h=>by obtain ⟨t,rs,c,so,rfl,_⟩:=h;rfl) (fun f cdv A outer s H vs Q E hr h=>?_)
  obtain ⟨t,rs,c,so,rfl,ra,l12,q⟩:=h
  refine ⟨_,(pss_cons (ps_for PassesOwn.never rfl (pi_zip rfl B.zip (pa_cons (pv 0) (pa_cons (pe_callH G_law_begun hr rfl (pa_cons (pv 0) pa_nil)) pa_nil))) (pg_tup rfl (pgs_cons (pg_tup rfl (pgs_cons (pg_name (i:=3) sc_law_place_due.nd rfl (by first | exact Or.inl rfl | exact Or.inr rfl)) (pgs_cons (pg_name (i:=4) sc_law_place_due.nd rfl (by first | exact Or.inl rfl | exact Or.inr rfl)) pgs_nil))) (pgs_cons (pg_tup rfl (pgs_cons (pg_name (i:=5) sc_law_place_due.nd rfl (by first | exact Or.inl rfl | exact Or.inr rfl)) (pgs_cons (pg_name (i:=6) sc_law_place_due.nd rfl (by first | exact Or.inl rfl | exact Or.inr rfl)) pgs_nil))) pgs_nil)))
  (pss_one (ps_if (PW.pt (pw_and (pt_cmpR op_eq (pv 3) (pv 1) (nomark _)) (pw_and1 (pt_chain op_le op_lt (pv 6) (pv 2) (pe_op op_add (pv 6) (pv 4))))))
  (pss_one (ps_ret (pe_op op_sub (pe_op op_add (pv 5) (pv 2)) (pv 6))))
  pss_nil)))
  (pss_one (ps_ret pe_non))),?_⟩
  refine ⟨_,rfl,_,rfl,t,rs,rfl,ra,l12,fun l bs H1 fl s1 g1 bl bg=>?_⟩
  obtain ⟨as,ht,rr⟩:=ra.same s1
  have al:=rs_len rr
  refine ⟨.tup t,.lst l,rfl,⟨_,.inl ht⟩,⟨_,.inl g1⟩,?_⟩
  refine for_zip (κ1:=.tup t) (κ2:=.lst l) (xs:=as.map V.ref) (ys:=bs.map V.ref) (fun i σ HX=>∃ (o3 o4 o5 o6:Option V),σ=[some (.ref t),some (.str c),some (.int so),o3,o4,o5,o6]∧Same H1 HX∧W39.plc rs c so=(W39.plc (rs.drop i) c (so - W39.ctot (rs.take i) c)).map (·+W39.tot (rs.take i))) ⟨none,none,none,none,rfl,Same.refl _,by simp [W39.tot,W39.ctot]⟩ (by rw [al,List.length_map,bl])
    (fun i σ HX hi h=>by obtain ⟨_,_,_,_,_,sX,_⟩:=h;exact ⟨.inl (sX _ _ ht),.inl (sX _ _ g1)⟩) ?_ ?_
  · rintro i x y σ HX pp hx hy ⟨o3,o4,o5,o6,rfl,sX,inv⟩ hpp
    obtain ⟨a,r,rfl,ea,er,ha⟩:=(rr.same sX).get hx
    obtain ⟨b,rfl,eb⟩:=bg_get hy
    have hb:=sX _ _ (bg i b r eb er)
    have sP:Same HX (upd HX pp (.tup [.ref a,.ref b])):=(Same.refl HX).new hpp
    have hP:upd HX pp (.tup [.ref a,.ref b]) pp=some (.tup [.ref a,.ref b]):=upd_same
    show (fun HH=>_) (upd HX pp (.tup [.ref a,.ref b]))
    generalize upd HX pp (.tup [.ref a,.ref b])=H2 at sP hP
    refine ⟨pp,_,rfl,SqT.of hP,rfl,_,_,rfl,a,_,rfl,SqT.of (sP _ _ ha),rfl,_,_,rfl,_,_,rfl,rfl,_,_,rfl,b,_,rfl,SqT.of (sP _ _ hb),rfl,_,_,rfl,_,_,rfl,rfl,rfl,?_⟩
    rw [W39.drop_cons er,W39.plc] at inv
    have fin:∀ {left':Int},W39.plc rs c so=((W39.plc (rs.drop (i+1)) c left').map (·+r.2)).map (·+W39.tot (rs.take i))→left'=so - W39.ctot (rs.take (i+1)) c→W39.plc rs c so=(W39.plc (rs.drop (i+1)) c (so - W39.ctot (rs.take (i+1)) c)).map (·+W39.tot (rs.take (i+1))):=fun {left'} h e=>by
      rw [h,Option.map_map,← e,W39.tot_succ er]
      congr 1
      funext y
      show y+r.2+_=y+(_+r.2)
      omega
    have cs:=W39.ctot_succ er c
    refine ⟨_,rfl,_,rfl,rfl,_,rfl,ite2 (fun cc=>?_) (fun cc=>?_)⟩
    · have c':=of_decide_eq_true cc
      injection c' with c'
      rw [if_pos c'] at inv cs
      rw [c'] at *
      have go:¬ (0≤so - W39.ctot (rs.take i) c∧so - W39.ctot (rs.take i) c < r.2)→W39.plc rs c so=(W39.plc (rs.drop (i+1)) c (so - W39.ctot (rs.take (i+1)) c)).map (·+W39.tot (rs.take (i+1))):=fun h=>by
        rw [if_neg h] at inv
        exact fin inv (by omega)
      refine ⟨_,rfl,_,rfl,_,_,rfl,rfl,_,rfl,ite2 (fun c1=>?_) (fun c1=>?_)⟩
      · have c1':=of_decide_eq_true c1
        refine ⟨_,rfl,_,rfl,_,_,rfl,rfl,_,_,rfl,rfl,_,rfl,ite2 (fun c2=>?_) (fun c2=>?_)⟩
        · have c2':=of_decide_eq_true c2
          rw [if_pos (by omega)] at inv
          refine ⟨_,rfl,_,rfl,_,_,rfl,rfl,_,rfl,_,_,rfl,rfl,?_⟩
          have q':=q H2 ((s1.trans sX).trans sP)
          rw [inv] at q'
          have q'':Q (.int (so - W39.ctot (rs.take i) c+W39.tot (rs.take i))) H2:=q'
          rw [show so - W39.ctot (rs.take i) c+W39.tot (rs.take i)=W39.tot (rs.take i)+so - W39.ctot (rs.take i) c by omega] at q''
          exact q''
        · exact ⟨_,_,_,_,rfl,sX.trans sP,go fun h=>c2 (decide_eq_true (by omega))⟩
      · exact ⟨_,rfl,iteF ⟨_,_,_,_,rfl,sX.trans sP,go fun h=>c1 (decide_eq_true (by omega))⟩⟩
    · have c':¬ r.1=c:=fun h=>cc (decide_eq_true (by rw [h]))
      rw [if_neg c'] at inv cs
      exact ⟨_,_,_,_,rfl,sX.trans sP,fin inv (by omega)⟩
  · rintro σ HX ⟨o3,o4,o5,o6,rfl,sX,inv⟩
    rw [al,List.drop_length] at inv
    have q':=q HX (s1.trans sX)
    rw [inv] at q'
    exact q'
end
end S39
namespace S39
open PySem L2
def Tp (p:Addr) (H:Hp) (x:V):Prop:=Thg H x∧x≠.ref p
theorem Tp.kt {p:Addr} {c:Int} {H H':Hp} {x:V} (h:Tp p H x) (k:Kt p c H H'):Tp p H' x:=by
  obtain ⟨t,n⟩:=h
  refine ⟨?_,n⟩
  cases t with
  | non=>exact .non
  | bl b=>exact .bl b
  | int i=>exact .int i
  | str z=>exact .str z
  | lst e=>exact .lst (k.keep _ _ (fun z=>n (by rw [z])) e)
  | tup e=>exact .tup (k.keep _ _ (fun z=>n (by rw [z])) e)
  | dct e=>exact .dct (k.keep _ _ (fun z=>n (by rw [z])) e)
theorem Tp.same {p:Addr} {H H':Hp} {x:V} (h:Tp p H x) (s:Same H H'):Tp p H' x:=⟨h.1.same s,h.2⟩
section
variable {P:Program} {w:World} {K:PySem.W.Frag} {mg:Str→Option Value} {base:Heap} {k:Nat}
def sp_places:Sp:=fun vs H Q _=>∃ (p t:Addr) (c tt:Int) (rs:List Rn),vs=[.ref p,.ref t,.int tt]∧Pt H p c∧c < 900000∧RunsAt H t rs∧rs.length≤12∧∀ (x:V) (H':Hp),Kt p (c+3) H H'→Tp p H' x→Q x H'
theorem has_places (D:Df K mg "_law_places" s_law_places) (B:Blt7 mg) (G_law_take:Has P w K mg base "_law_take" k ["pot", "many"] sp_take) (G_law_begun:Has P w K mg base "_law_begun" k ["runs"] sp_beg):Has P w K mg base "_law_places" (k+1) ["pot", "runs", "total"] sp_places:=by
  refine D.has sc_law_places (fun _ _ _ _ _ _ us hl=>match us,hl with | [_,_,_],_=>rfl) (fun vs H Q E h=>by obtain ⟨p,t,c,tt,rs,rfl,_⟩:=h;rfl) (fun f cdv A outer s H vs Q E hr h=>?_)
  obtain ⟨p,t,c,tt,rs,rfl,pt,c9,ra,l12,q⟩:=h
  refine exw ?_
  refine ⟨_,(w_cons (Pw.mk (ps_asg (pe_ix ix_list (pe_op op_cat (pe_lst (pa_cons (pe_tup (pa_cons pe_int (pa_cons pe_int pa_nil))) pa_nil)) (pe_callH G_law_begun hr rfl (pa_cons (pv 1) pa_nil))) (pe_callH G_law_take hr rfl (pa_cons (pv 0) (pa_cons (pe_op op_add (pe_callB call_len_seq rfl B.len bt_len (pa_cons (pv 1) pa_nil)) pe_int) pa_nil))) (fun _ _=>rfl)) (pg_tup rfl (pgs_cons (pg_name (i:=3) sc_law_places.nd rfl (by first | exact Or.inl rfl | exact Or.inr rfl)) (pgs_cons (pg_name (i:=4) sc_law_places.nd rfl (by first | exact Or.inl rfl | exact Or.inr rfl)) pgs_nil)))))
  (w_cons (Pw.mk (ps_set (i:=5) sc_law_places.nd rfl (by first | exact Or.inl rfl | exact Or.inr rfl) (pe_lst (pa_cons (pv 3) (pa_cons (pe_op op_sub (pv 3) pe_int) (pa_cons (pe_op op_add (pv 3) pe_int) (pa_cons pe_int (pa_cons (pv 2) (pa_cons (pe_op op_sub (pv 2) pe_int) (pa_cons (pe_op op_fdivL (pv 2) pe_int) (pa_cons (pe_op op_add (pv 2) pe_int) (pa_cons (pe_un un_neg pe_int) (pa_cons (pe_un un_neg (pv 2)) (pa_cons (pe_op op_pow pe_int pe_int) pa_nil))))))))))))))
  (w_cons (w_set (i:=5) sc_law_places.nd rfl (by first | exact Or.inl rfl | exact Or.inr rfl) (w_op op_cat (PEw.mk (pv 5)) (w_lst (w_acons (PEw.mk pe_bl) (w_acons (PEw.mk pe_bl) (w_acons (PEw.mk pe_non) (w_acons w_str (w_acons (PEw.mk (pe_tup (pa_cons pe_int pa_nil))) (w_acons (PEw.mk (pe_lst (pa_cons pe_int pa_nil))) (w_acons w_str (w_acons (PEw.mk (pe_op op_add (pv 3) (pe_callH G_law_take hr rfl (pa_cons (pv 0) (pa_cons pe_int pa_nil))))) w_anil)))))))))))
  (w_one (Pw.mk (ps_ret (pe_ix ix_list (pv 5) (pe_callH G_law_take hr rfl (pa_cons (pv 0) (pa_cons (pe_callB call_len_seq rfl B.len bt_len (pa_cons (pv 5) pa_nil)) pa_nil))) (fun _ _=>rfl)))))))),?_⟩
  refine ⟨line_le (show 2≤1000 by omega),fun a1 ha1=>?_⟩
  generalize hJ:upd H a1 _=J1
  have s1:Same H J1:=by rw [← hJ];exact (Same.refl H).new ha1
  have g1:J1 a1=some (.tup [.int 0,.int 0]):=by rw [← hJ];exact upd_same
  clear hJ
  refine ⟨line_le (show 1≤1000 by omega),fun l1 hl1=>?_⟩
  generalize hJ:upd J1 l1 _=J2
  have s2:Same J1 J2:=by rw [← hJ];exact (Same.refl J1).new hl1
  have g2:J2 l1=some (.lst [.ref a1]):=by rw [← hJ];exact upd_same
  clear hJ
  have s02:=s1.trans s2
  refine ⟨_,rfl,t,rs,rfl,ra.same s02,l12,fun l2 bs J3 f3 s3 g3 bl bg=>?_⟩
  have s03:=s02.trans s3
  refine ⟨l1,l2,_,_,rfl,rfl,s3 _ _ g2,g3,line_le (by rw [List.length_map];show 1+_≤1000;omega),fun l3 hl3=>?_⟩
  generalize hJ:upd J3 l3 _=J4
  have s4:Same J3 J4:=by rw [← hJ];exact (Same.refl J3).new hl3
  have g4:J4 l3=some (.lst ((a1 :: bs).map V.ref)):=by rw [← hJ];exact upd_same
  clear hJ
  have s04:=s03.trans s4
  have k4:=(Kt.refl pt).same s04
  obtain ⟨as,ht,rr⟩:=ra.same s04
  have al:=rs_len rr
  refine ⟨_,rfl,_,rfl,t,_,rfl,.inr (SqT.of ht),_,_,rfl,rfl,p,_,_,rfl,k4.pt,by omega,by omega,by omega,fun n J5 n0 n1 k5=>?_⟩
  have l3p:l3≠p:=(((Kt.refl pt).same s03).pt).ne hl3
  obtain ⟨b,x,y,hat,hb⟩:∃ (b:Addr) (x y:Int),atI ((a1 :: bs).map V.ref) n=some (.ref b)∧J4 b=some (.tup [.int x,.int y]):=by
    have e:∀ (m:Nat) (b:Addr),(m:Int)=n→(a1 :: bs)[m]?=some b→atI ((a1 :: bs).map V.ref) n=some (.ref b):=fun m b em h=>by
      rw [← em];exact atI_nat (by rw [List.getElem?_map,h];rfl)
    cases en:n.toNat with
    | zero=>exact ⟨a1,0,0,e 0 a1 (by omega) rfl,s4 _ _ (s3 _ _ (s2 _ _ g1))⟩
    | succ m=>
      have ml:m < bs.length:=by omega
      have e1:bs[m]?=some bs[m]:=List.getElem?_eq_getElem ml
      have e2:rs[m]?=some (rs[m]'(by omega)):=List.getElem?_eq_getElem (by omega)
      exact ⟨bs[m],_,_,e (m+1) _ (by omega) (by rw [List.getElem?_cons_succ];exact e1),s4 _ _ (bg m _ _ e1 e2)⟩
  have k05:=k4.trans k5
  refine ⟨l3,_,_,_,rfl,rfl,SqL.of (k5.keep _ _ l3p g4),hat,?_⟩
  refine ⟨b,_,rfl,SqT.of (k5.keep _ _ (k4.pt.neT hb) hb),rfl,_,_,rfl,_,_,rfl,rfl,?_⟩
  refine ⟨_,rfl,_,rfl,_,_,rfl,rfl,_,rfl,_,_,rfl,rfl,_,rfl,_,rfl,_,_,rfl,rfl,_,rfl,_,_,rfl,rfl,⟨by decide,big18 (by decide)⟩,_,rfl,_,_,rfl,rfl,_,rfl,_,rfl,_,rfl,_,_,rfl,rfl,⟨by decide,by decide,by decide⟩,line_le (show 11≤1000 by omega),fun m1 hm1=>?_⟩
  generalize hJ:upd J5 m1 _=J6
  have s6:Same J5 J6:=by rw [← hJ];exact (Same.refl J5).new hm1
  have g6:∃ us:List Int,us.length=11∧J6 m1=some (.lst (us.map V.int)):=⟨[_,_,_,_,_,_,_,_,_,_,_],rfl,by rw [← hJ];exact upd_same⟩
  clear hJ
  obtain ⟨us,ul,g6⟩:=g6
  have k06:=k05.same s6
  have m1p:m1≠p:=k05.pt.ne hm1
  refine ⟨_,rfl,line_le (show 1≤1000 by omega),fun t1 ht1=>?_⟩
  generalize hJ:upd J6 t1 _=J7
  have s7:Same J6 J7:=by rw [← hJ];exact (Same.refl J6).new ht1
  have g7:J7 t1=some (.tup [.int 0]):=by rw [← hJ];exact upd_same
  clear hJ
  have k07:=k06.same s7
  have t1p:t1≠p:=k06.pt.ne ht1
  refine ⟨line_le (show 1≤1000 by omega),fun t2 ht2=>?_⟩
  generalize hJ:upd J7 t2 _=J8
  have s8:Same J7 J8:=by rw [← hJ];exact (Same.refl J7).new ht2
  have g8:J8 t2=some (.lst [.int 0]):=by rw [← hJ];exact upd_same
  clear hJ
  have k08:=k07.same s8
  have t2p:t2≠p:=k07.pt.ne ht2
  refine ⟨_,rfl,_,rfl,p,_,_,rfl,k08.pt,by omega,by decide,by decide,fun n5 J9 z0 z1 k9=>?_⟩
  have k09:=k08.trans k9
  have h7:=k9.keep _ _ t1p (s8 _ _ g7)
  have h8:=k9.keep _ _ t2p g8
  have h6:=k9.keep _ _ m1p (s8 _ _ (s7 _ _ g6))
  refine ⟨_,_,rfl,rfl,line_le (show 8≤1000 by omega),fun m2 hm2=>?_⟩
  generalize hJ:upd J9 m2 _=Ja
  have sa:Same J9 Ja:=by rw [← hJ];exact (Same.refl J9).new hm2
  have ga:Ja m2=some (.lst [.bl true,.bl false,.non,.str (Str.ofString "0"),.ref t1,.ref t2,.str (Str.ofString "a"),.int (x+n5)]):=by rw [← hJ];exact upd_same
  clear hJ
  have k0a:=k09.same sa
  refine ⟨m1,m2,_,_,rfl,rfl,sa _ _ h6,ga,line_le (by rw [List.length_map,ul];show 11+8≤1000;omega),fun m3 hm3=>?_⟩
  generalize hJ:upd Ja m3 _=Jb
  have sb:Same Ja Jb:=by rw [← hJ];exact (Same.refl Ja).new hm3
  have gb:Jb m3=some (.lst (us.map V.int++[.bl true,.bl false,.non,.str (Str.ofString "0"),.ref t1,.ref t2,.str (Str.ofString "a"),.int (x+n5)])):=by rw [← hJ];exact upd_same
  clear hJ
  have k0b:=k0a.same sb
  have m3p:m3≠p:=k0a.pt.ne hm3
  have bag:∀ v∈us.map V.int++[.bl true,.bl false,.non,.str (Str.ofString "0"),.ref t1,.ref t2,.str (Str.ofString "a"),.int (x+n5)],Tp p Jb v:=fun v hv=>by
    rcases List.mem_append.mp hv with hv | hv
    · obtain ⟨u,_,rfl⟩:=List.mem_map.mp hv
      exact ⟨.int u,fun z=>by cases z⟩
    · simp only [List.mem_cons,List.not_mem_nil,or_false] at hv
      rcases hv with rfl | rfl | rfl | rfl | rfl | rfl | rfl | rfl
      · exact ⟨.bl _,fun z=>by cases z⟩
      · exact ⟨.bl _,fun z=>by cases z⟩
      · exact ⟨.non,fun z=>by cases z⟩
      · exact ⟨.str _,fun z=>by cases z⟩
      · exact ⟨.tup (sb _ _ (sa _ _ h7)),fun z=>t1p (by injection z)⟩
      · exact ⟨.lst (sb _ _ (sa _ _ h8)),fun z=>t2p (by injection z)⟩
      · exact ⟨.str _,fun z=>by cases z⟩
      · exact ⟨.int _,fun z=>by cases z⟩
  have bl19:(us.map V.int++[V.bl true,.bl false,.non,.str (Str.ofString "0"),.ref t1,.ref t2,.str (Str.ofString "a"),.int (x+n5)]).length=19:=by rw [List.length_append,List.length_map,ul];rfl
  generalize us.map V.int++[V.bl true,.bl false,.non,.str (Str.ofString "0"),.ref t1,.ref t2,.str (Str.ofString "a"),.int (x+n5)]=ths at gb bag bl19
  refine ⟨_,rfl,_,rfl,_,rfl,m3,_,rfl,.inl (SqL.of gb),p,_,_,rfl,k0b.pt,by omega,by omega,by omega,fun n9 Jc y0 y1 kc=>?_⟩
  have nl:n9.toNat < ths.length:=by omega
  have en:=atI_nat (List.getElem?_eq_getElem nl)
  rw [show ((n9.toNat:Nat):Int)=n9 by omega] at en
  refine ⟨m3,_,_,_,rfl,rfl,SqL.of (kc.keep _ _ m3p gb),en,?_⟩
  exact q _ _ ((k0b.trans kc).mono (by omega)) ((bag _ (List.getElem_mem nl)).kt kc)
theorem has_told (EX:Exs K mg) (D:Df K mg "_law_letter_told" s_law_letter_told) (B:Blt7 mg) (G_letter_in:HasX P w K mg base "letter_in" k ["runs", "place"] (sp_lin EX.c_NoPlace)):Has P w K mg base "_law_letter_told" (k+1) ["runs", "place"] sp_ldue:=by
  refine D.has sc_law_letter_told (fun _ _ _ _ _ _ us hl=>match us,hl with | [_,_],_=>rfl) (fun vs H Q E h=>by obtain ⟨t,rs,x,rfl,_⟩:=h;rfl) (fun f cdv A outer s H vs Q E hr h=>?_)
  obtain ⟨t,rs,x,rfl,ra,ps,l12,th,q,qe⟩:=h
  refine ⟨_,(pss_cons (ps_set (i:=2) sc_law_letter_told.nd rfl (by first | exact Or.inl rfl | exact Or.inr rfl) (pe_lst (pa_cons pe_str pa_nil)))
  (pss_cons (ps_try (fun pn xe E σ0 hx=>(pss_one (ps_set (i:=2) sc_law_letter_told.nd rfl (by first | exact Or.inl rfl | exact Or.inr rfl) (pe_callX G_letter_in hx hr rfl (pa_cons (pv 0) (pa_cons (pv 1) pa_nil))))))
  (ph_as rfl EX.m_NoPlace sc_law_letter_told.nd (i:=3) rfl rfl (fun a=>(pss_cons (ps_set (i:=4) sc_law_letter_told.nd rfl (by first | exact Or.inl rfl | exact Or.inr rfl) (pe_callB (call_isinstET K) rfl B.isinstance bt_isinstance (pa_cons (pv 3) (pa_cons (pe_tup (pa_cons (pe_glob (x := "NoNumber") (v:=.ref EX.c_NoNumber) rfl EX.m_NoNumber rfl) (pa_cons (pe_glob (x := "NoRows") (v:=.ref EX.c_NoRows) rfl EX.m_NoRows rfl) (pa_cons (pe_glob (x := "NoRuns") (v:=.ref EX.c_NoRuns) rfl EX.m_NoRuns rfl) (pa_cons (pe_glob (x := "NoText") (v:=.ref EX.c_NoText) rfl EX.m_NoText rfl) (pa_cons (pe_glob (x := "NoTree") (v:=.ref EX.c_NoTree) rfl EX.m_NoTree rfl) (pa_cons (pe_glob (x := "NoWord") (v:=.ref EX.c_NoWord) rfl EX.m_NoWord rfl) (pa_cons (pe_glob (x := "TooMany") (v:=.ref EX.c_TooMany) rfl EX.m_TooMany rfl) pa_nil)))))))) pa_nil))))
  (pss_one (ps_if (PW.pt (pw_and (pt_val (pe_callB (call_isinstE K) rfl B.isinstance bt_isinstance (pa_cons (pv 3) (pa_cons (pe_glob (x := "UpError") (v:=.ref EX.c_UpError) rfl EX.m_UpError rfl) pa_nil)))) (pw_and (pt_val (pe_callB (call_isinstEB K) rfl B.isinstance bt_isinstance (pa_cons (pv 3) (pa_cons (pe_bltn (v:=.ty "ValueError") rfl B.ValueError_ bt_ValueError rfl) pa_nil)))) (pw_and1 (pt_not (pt_val (pv 4)))))))
  (pss_one (ps_set (i:=2) sc_law_letter_told.nd rfl (by first | exact Or.inl rfl | exact Or.inr rfl) (pe_lst (pa_cons pe_str pa_nil))))
  pss_nil))))))
  (pss_one (ps_ret (pv 2))))),?_⟩
  refine ⟨line_le (show 1≤1000 by omega),fun l0 hl0=>?_⟩
  refine mid (fun σ' H'=>σ'=[some (.ref t),some x,some (.ref l0),none,none]∧Same H H') ?_ fun E nx=>nx _ _ ⟨rfl,(Same.refl H).new hl0⟩
  rintro σ1 H0 ⟨rfl,s0⟩
  refine ⟨rfl,_,rfl,_,rfl,t,rs,x,rfl,ra.same s0,ps,l12,th.same s0,fun i z e i0 el H1 s1=>?_,fun eb a H1 s1 ha=>?_⟩
  · exact ⟨_,rfl,q i z e i0 el H1 (s0.trans s1)⟩
  · refine ⟨a,EX.c_NoPlace,rfl,rfl,EX.xm,?_⟩
    have sA:Same H (upd H1 a (excO a EX.c_NoPlace)):=(s0.trans s1).new ha
    have hA:upd H1 a (excO a EX.c_NoPlace) a=some (excO a EX.c_NoPlace):=upd_same
    generalize upd H1 a (excO a EX.c_NoPlace)=HA at sA hA
    refine ⟨_,rfl,line_le (show 7≤1000 by omega),fun t7 ht7=>?_⟩
    have sC:Same HA (upd HA t7 (.tup ([EX.c_NoNumber,EX.c_NoRows,EX.c_NoRuns,EX.c_NoText,EX.c_NoTree,EX.c_NoWord,EX.c_TooMany].map V.ref))):=(Same.refl HA).new ht7
    refine ⟨a,EX.c_NoPlace,t7,[EX.c_NoNumber,EX.c_NoRows,EX.c_NoRuns,EX.c_NoText,EX.c_NoTree,EX.c_NoWord,EX.c_TooMany],false,rfl,sC _ _ hA,upd_same,EX.z_NoPlace,EX.pa,?_⟩
    have hC:=sC _ _ hA
    have sHC:=sA.trans sC
    show (fun HH=>_) (upd HA t7 (.tup ([EX.c_NoNumber,EX.c_NoRows,EX.c_NoRuns,EX.c_NoText,EX.c_NoTree,EX.c_NoWord,EX.c_TooMany].map V.ref)))
    generalize upd HA t7 (.tup ([EX.c_NoNumber,EX.c_NoRows,EX.c_NoRuns,EX.c_NoText,EX.c_NoTree,EX.c_NoWord,EX.c_TooMany].map V.ref))=HC at hC sHC
    refine ⟨_,rfl,a,EX.c_NoPlace,_,true,rfl,hC,EX.z_NoPlace,EX.p0,_,rfl,iteT ?_⟩
    refine ⟨_,rfl,a,EX.c_NoPlace, "ValueError", true,rfl,hC,EX.z_NoPlace,EX.pv,_,rfl,iteT ?_⟩
    refine ⟨_,rfl,_,rfl,iteT ?_⟩
    refine ⟨line_le (show 1≤1000 by omega),fun l hl=>?_⟩
    exact ⟨_,rfl,qe eb l _ (sHC.new hl) upd_same⟩
def sp_same:Sp:=fun vs H Q _=>∃ o:Option Int,vs=[oV o,oV o]∧Q (.bl true) H
theorem has_same (D:Df K mg "_law_whole" s_law_whole) (B:Blt7 mg):Has P w K mg base "_law_whole" (k+1) ["found", "due"] sp_same:=by
  refine D.has sc_law_whole (fun _ _ _ _ _ _ us hl=>match us,hl with | [_,_],_=>rfl) (fun vs H Q E h=>by obtain ⟨o,rfl,_⟩:=h;rfl) (fun f cdv A outer s H vs Q E hr h=>?_)
  obtain ⟨o,rfl,q⟩:=h
  refine ⟨_,(pss_cons (ps_if (pt_cmpR op_isN (pv 1) pe_non (nomark _))
  (pss_one (ps_ret (pe_cmpR op_isN (pv 0) pe_non (nomark _))))
  pss_nil)
  (pss_one (ps_ret (pe_and (pe_callB call_isinst rfl B.isinstance bt_isinstance (pa_cons (pv 0) (pa_cons (pe_bltn (v:=.ty "int") rfl B.int_ bt_int rfl) pa_nil))) (pe_and (pe_not (pe_callB call_isinst rfl B.isinstance bt_isinstance (pa_cons (pv 0) (pa_cons (pe_bltn (v:=.ty "bool") rfl B.bool_ bt_bool rfl) pa_nil)))) (pe_one (pe_cmpR op_eq (pv 0) (pv 1) (nomark _)))))))),?_⟩
  cases o with
  | none=>
    refine ⟨_,rfl,rfl,_,rfl,iteA (decide_eq_true rfl) ?_⟩
    refine ⟨_,rfl,rfl,?_⟩
    rw [decide_eq_true (by rfl)]
    exact q
  | some i=>
    refine ⟨_,rfl,rfl,_,rfl,L2.iteB (decide_eq_false fun z=>by cases z) ?_⟩
    refine ⟨_,rfl,_,.type "int", "int", true,rfl,.int _,kit_same _ _,_,rfl,iteT ?_⟩
    refine ⟨_,rfl,_,.type "int", "bool", false,rfl,.int _,kit_int_bool _,_,rfl,_,rfl,iteT ?_⟩
    refine ⟨_,rfl,_,rfl,rfl,?_⟩
    rw [decide_eq_true (by rfl)]
    exact q
end
end S39
namespace S39
open PySem L2
theorem oV_dec (o:Option Int):decide (oV o=.non)=o.isNone:=by
  cases o with
  | none=>exact decide_eq_true rfl
  | some i=>exact decide_eq_false fun z=>by cases z
theorem RsAt.app {H:Hp} {as bs:List Addr} {rs qs:List Rn} (h:RsAt H as rs) (g:RsAt H bs qs):RsAt H (as++bs) (rs++qs):=by
  refine ⟨by rw [List.length_append,List.length_append,h.1,g.1],fun i a r x y=>?_⟩
  rcases Nat.lt_or_ge i as.length with lt | ge
  · rw [List.getElem?_append_left lt] at x
    rw [List.getElem?_append_left (by rw [← h.1];exact lt)] at y
    exact h.2 i a r x y
  · rw [List.getElem?_append_right ge] at x
    rw [List.getElem?_append_right (by rw [← h.1];exact ge),← h.1] at y
    exact g.2 _ a r x y
section
variable {P:Program} {w:World} {K:PySem.W.Frag} {mg:Str→Option Value} {base:Heap} {k:Nat}
def sp_right:Sp:=fun vs H Q _=>∃ (p t:Addr) (c:Int) (rs:List Rn),vs=[.ref p,.ref t]∧Pt H p c∧c < 800000∧RunsAt H t rs∧W39.Pos rs∧rs.length≤12∧∀ H',Kt p (c+10) H H'→Q (.bl true) H'
theorem has_right (EX:Exs K mg) (D:Df K mg "_law_right" s_law_right) (B:Blt7 mg) (G_law_take:Has P w K mg base "_law_take" k ["pot", "many"] sp_take) (G_law_places:Has P w K mg base "_law_places" k ["pot", "runs", "total"] sp_places) (G_law_letter_told:Has P w K mg base "_law_letter_told" k ["runs", "place"] sp_ldue) (G_law_letter_due:Has P w K mg base "_law_letter_due" k ["runs", "place"] sp_ldue)
    (G_count_ahead:Has P w K mg base "count_ahead" k ["runs", "letter", "place"] sp_cnt) (G_law_ahead_due:Has P w K mg base "_law_ahead_due" k ["runs", "letter", "place"] sp_adue) (G_law_whole:Has P w K mg base "_law_whole" k ["found", "due"] sp_same) (G_place_by:Has P w K mg base "place_by" k ["runs", "letter", "so"] sp_plc) (G_law_place_due:Has P w K mg base "_law_place_due" k ["runs", "letter", "so"] sp_pdue) (G_letter_in:HasX P w K mg base "letter_in" k ["runs", "place"] (sp_lin EX.c_NoPlace)) :
    Has P w K mg base "_law_right" (k+1) ["pot", "runs"] sp_right:=by
  refine D.has sc_law_right (fun _ _ _ _ _ _ us hl=>match us,hl with | [_,_],_=>rfl) (fun vs H Q E h=>by obtain ⟨p,t,c,rs,rfl,_⟩:=h;rfl) (fun f cdv A outer s H vs Q E hr h=>?_)
  obtain ⟨p,t,c,rs,rfl,pt,c8,ra,ps,l12,q⟩:=h
  refine ⟨_,(pss_cons (ps_set (i:=2) sc_law_right.nd rfl (by first | exact Or.inl rfl | exact Or.inr rfl) (pe_callB (call_sumA K rfl) rfl B.sum bt_sum (pa_cons (pe_comp rfl (pi_tup (pv 1)) (NL:=["letter", "many"]) (ix:=[]) (csc (defScope s_law_right) N_law_right) (fun cl C s₃ H₃ fp pins=>⟨(pg_tupK K (n:=2) rfl (pgs_cons (pg_name (i:=0) (show List.Nodup (["letter", "many"]:List Str) from by decide +kernel) rfl (by first | exact Or.inl rfl | exact Or.inr rfl)) (pgs_cons (pg_name (i:=1) (show List.Nodup (["letter", "many"]:List Str) from by decide +kernel) rfl (by first | exact Or.inl rfl | exact Or.inr rfl)) pgs_nil))),pifs_nil,(pv 1)⟩)) pa_nil)))
  (pss_cons (ps_set (i:=3) sc_law_right.nd rfl (by first | exact Or.inl rfl | exact Or.inr rfl) (pe_callH G_law_places hr rfl (pa_cons (pv 0) (pa_cons (pv 1) (pa_cons (pv 2) pa_nil)))))
  (pss_cons (ps_if (pt_cmpR (OpR.or op_ne (op_ne_lst hr.units0)) (pe_callH G_law_letter_told hr rfl (pa_cons (pv 1) (pa_cons (pv 3) pa_nil))) (pe_callH G_law_letter_due hr rfl (pa_cons (pv 1) (pa_cons (pv 3) pa_nil))) (nomark _))
  (pss_one (ps_ret pe_bl))
  pss_nil)
  (pss_cons (ps_set (i:=4) sc_law_right.nd rfl (by first | exact Or.inl rfl | exact Or.inr rfl) (pe_ix ix_tup (pe_ix ix_tup (pe_op op_catU (pv 1) (pe_tup (pa_cons (pe_tup (pa_cons (pe_ix ix_str pe_str (pe_callH G_law_take hr rfl (pa_cons (pv 0) (pa_cons pe_int pa_nil))) (fun _ _=>rfl)) (pa_cons pe_int pa_nil))) pa_nil))) (pe_callH G_law_take hr rfl (pa_cons (pv 0) (pa_cons (pe_op op_add (pe_callB call_len_seq rfl B.len bt_len (pa_cons (pv 1) pa_nil)) pe_int) pa_nil))) (fun _ _=>rfl)) pe_int (fun _ _=>rfl)))
  (pss_cons (ps_set (i:=5) sc_law_right.nd rfl (by first | exact Or.inl rfl | exact Or.inr rfl) pe_int)
  (pss_cons (ps_if (PW.pt (pw_and (pt_val (pe_callB call_isinst rfl B.isinstance bt_isinstance (pa_cons (pv 3) (pa_cons (pe_bltn (v:=.ty "int") rfl B.int_ bt_int rfl) pa_nil)))) (pw_and1 (pt_not (pt_val (pe_callB call_isinst rfl B.isinstance bt_isinstance (pa_cons (pv 3) (pa_cons (pe_bltn (v:=.ty "bool") rfl B.bool_ bt_bool rfl) pa_nil))))))))
  (pss_one (ps_set (i:=5) sc_law_right.nd rfl (by first | exact Or.inl rfl | exact Or.inr rfl) (pe_callB (call_max2 rfl) rfl B.max bt_max (pa_cons pe_int (pa_cons (pe_callB (call_min2 rfl) rfl B.min bt_min (pa_cons (pv 2) (pa_cons (pv 3) pa_nil))) pa_nil)))))
  pss_nil)
  (pss_cons (ps_if (pt_not (pt_val (pe_callH G_law_whole hr rfl (pa_cons (pe_callH G_count_ahead hr rfl (pa_cons (pv 1) (pa_cons (pv 4) (pa_cons (pv 5) pa_nil)))) (pa_cons (pe_callH G_law_ahead_due hr rfl (pa_cons (pv 1) (pa_cons (pv 4) (pa_cons (pv 5) pa_nil)))) pa_nil)))))
  (pss_one (ps_ret pe_bl))
  pss_nil)
  (pss_cons (ps_set (i:=6) sc_law_right.nd rfl (by first | exact Or.inl rfl | exact Or.inr rfl) (pe_callH G_law_ahead_due hr rfl (pa_cons (pv 1) (pa_cons (pv 4) (pa_cons (pv 2) pa_nil)))))
  (pss_cons (ps_set (i:=7) sc_law_right.nd rfl (by first | exact Or.inl rfl | exact Or.inr rfl) (pe_callH G_law_ahead_due hr rfl (pa_cons (pv 1) (pa_cons (pv 4) (pa_cons (pv 5) pa_nil)))))
  (pss_cons (ps_set (i:=8) sc_law_right.nd rfl (by first | exact Or.inl rfl | exact Or.inr rfl) (pe_ix ix_list (pe_lst (pa_cons (pv 7) (pa_cons pe_int (pa_cons (pv 6) (pa_cons (pe_callB (call_max2 rfl) rfl B.max bt_max (pa_cons pe_int (pa_cons (pe_op op_sub (pv 6) pe_int) pa_nil))) (pa_cons (pe_op op_fdivL (pv 6) pe_int) (pa_cons (pe_op op_add (pv 7) pe_int) (pa_cons (pe_op op_pow pe_int pe_int) (pa_cons (pe_callH G_law_take hr rfl (pa_cons (pv 0) (pa_cons pe_int pa_nil))) pa_nil))))))))) (pe_callH G_law_take hr rfl (pa_cons (pv 0) (pa_cons pe_int pa_nil))) (fun _ _=>rfl)))
  (pss_cons (ps_set (i:=9) sc_law_right.nd rfl (by first | exact Or.inl rfl | exact Or.inr rfl) (pe_callH G_place_by hr rfl (pa_cons (pv 1) (pa_cons (pv 4) (pa_cons (pv 8) pa_nil)))))
  (pss_cons (ps_if (PW.pt (pw_or (pt_not (pt_val (pe_callH G_law_whole hr rfl (pa_cons (pv 9) (pa_cons (pe_callH G_law_place_due hr rfl (pa_cons (pv 1) (pa_cons (pv 4) (pa_cons (pv 8) pa_nil)))) pa_nil))))) (pw_or1 (pt_cmpR op_ne (pe_cmpR op_isN (pv 9) pe_non (nomark _)) (pe_cmpR op_ge (pv 8) (pv 6) (nomark _)) (nomark _)))))
  (pss_one (ps_ret pe_bl))
  pss_nil)
  (pss_one (ps_ret (pe_or (pe_cmpR op_isN (pv 9) pe_non (nomark _)) (pe_one (pe_and (pe_cmpR op_eq (pe_callH G_count_ahead hr rfl (pa_cons (pv 1) (pa_cons (pv 4) (pa_cons (pv 9) pa_nil)))) (pv 8) (nomark _)) (pe_one (pe_cmpR op_eq (pe_callE G_letter_in passes_no hr rfl (pa_cons (pv 1) (pa_cons (pv 9) pa_nil))) (pv 4) (nomark _)))))))))))))))))))),?_⟩
  obtain ⟨as,ht,rr⟩:=id ra
  have al:=rs_len rr
  refine ⟨_,rfl,t,rfl,⟨_,SqT.of ht⟩,fun acc hacc=>?_⟩
  refine comp_tupI (K:=K) (a:=t) (xs:=as.map V.ref) (by omega) (fun i ys HX=>HX acc=some (.lst ys)∧Same H HX∧ys=(((rs.take i).map (·.2)).map V.int)) (fun i ys HX h=>SqT.of (h.2.1 _ _ ht)) (fun i ys HX h=>⟨h.1,by rw [h.2.2,List.length_map,List.length_map,List.length_take];omega⟩) ⟨upd_same,(Same.refl H).new hacc,rfl⟩ ?_ ?_
  rotate_left
  · rintro i x ys HX hx ⟨g1,sX,rfl⟩
    obtain ⟨a,r,rfl,_,er,ha⟩:=(rr.same sX).get hx
    exact ⟨a,_,rfl,SqT.of ha,rfl,_,_,rfl,_,_,rfl,rfl,rfl,_,rfl,g1,upd_same,sX.write hacc,by rw [sums er,List.map_append];rfl⟩
  rintro ys H1 ⟨g1,s1,rfl⟩
  rw [al,List.take_length] at g1
  refine ⟨acc,_,rfl,SqL.of g1,?_⟩
  have et:((rs.map (·.2)).sum)=W39.tot rs:=rfl
  rw [et]
  have k1:=(Kt.refl pt).same s1
  refine ⟨_,rfl,_,rfl,_,rfl,p,t,_,_,rs,rfl,k1.pt,by omega,ra.same s1,l12,fun x H2 k2 tx=>?_⟩
  have k02:=k1.trans k2
  have ra2:=ra.kt pt k02
  refine mid (fun σ' H'=>σ'=[some (.ref p),some (.ref t),some (.int (W39.tot rs)),some x,none,none,none,none,none,none]∧H'=H2) ?_ fun E nx=>nx _ _ ⟨rfl,rfl⟩
  rintro σ1 H2' ⟨rfl,rfl⟩
  refine mid (fun σ' H'=>σ'=[some (.ref p),some (.ref t),some (.int (W39.tot rs)),some x,none,none,none,none,none,none]∧Same H2' H') ?_ fun E nx=>?_
  rotate_left
  · refine ⟨_,rfl,_,rfl,t,rs,x,rfl,ra2,ps,l12,tx.1,fun i z e i0 el H3 s3=>?_,fun eb a1 H3 s3 h3=>?_⟩
    · refine ⟨_,rfl,_,rfl,t,rs,x,rfl,ra2.same s3,ps,l12,tx.1.same s3,fun i' z' e' i0' el' H4 s4=>?_,fun eb a2 H4 s4 h4=>?_⟩
      · have e1:i=i':=by rw [e] at e';injection e'
        subst e1
        rw [el] at el'
        cases el'
        refine .inl ⟨rfl,_,rfl,L2.iteB (by rw [decide_eq_true rfl];rfl) ?_⟩
        exact nx _ _ ⟨rfl,s3.trans s4⟩
      · exfalso
        rw [e] at eb
        have lt:i < W39.tot rs:=by
          by_cases h:i < W39.tot rs
          · exact h
          · rw [W39.ltr_none ps (by omega)] at el;cases el
        have eb':(decide (0≤i) && decide (i < W39.tot rs))=false:=eb
        rw [decide_eq_true i0,decide_eq_true lt] at eb'
        cases eb'
    · refine ⟨_,rfl,_,rfl,t,rs,x,rfl,ra2.same s3,ps,l12,tx.1.same s3,fun i' z' e' i0' el' H4 s4=>?_,fun eb a2 H4 s4 h4=>?_⟩
      · exfalso
        rw [e'] at eb
        have lt:i' < W39.tot rs:=by
          by_cases h:i' < W39.tot rs
          · exact h
          · rw [W39.ltr_none ps (by omega)] at el';cases el'
        have eb':(decide (0≤i') && decide (i' < W39.tot rs))=false:=eb
        rw [decide_eq_true i0',decide_eq_true lt] at eb'
        cases eb'
      · refine .inr ⟨a1,a2,refV,refV,rfl,rfl,SqL.of (s4 _ _ h3),SqL.of h4,rfl,rfl,_,rfl,L2.iteB (by rfl) ?_⟩
        exact nx _ _ ⟨rfl,s3.trans s4⟩
  rintro σ1 H3 ⟨rfl,s3⟩
  have k03:=k02.same s3
  have ra3:=ra2.same s3
  have tx3:=tx.same s3
  obtain ⟨as3,ht3,rr3⟩:=id ra3
  refine ⟨_,rfl,_,rfl,p,_,_,rfl,k03.pt,by omega,by decide,by decide,fun n4 H4 n0 n1 k4=>?_⟩
  have k04:=k03.trans k4
  have ra4:=ra3.kt k03.pt k4
  have tx4:=tx3.kt k4
  obtain ⟨ch,hch⟩:=alph_at n0 n1
  refine ⟨_,_,ch,rfl,rfl,(by decide +kernel),hch,line_le (show 2≤1000 by omega),fun b1 hb1=>?_⟩
  generalize hJ:upd H4 b1 _=H5
  have s5:Same H4 H5:=by rw [← hJ];exact (Same.refl H4).new hb1
  have g5:H5 b1=some (.tup [.str ⟨#[ch]⟩,.int 1]):=by rw [← hJ];exact upd_same
  clear hJ
  refine ⟨line_le (show 1≤1000 by omega),fun b2 hb2=>?_⟩
  generalize hJ:upd H5 b2 _=H6
  have s6:Same H5 H6:=by rw [← hJ];exact (Same.refl H5).new hb2
  have g6:H6 b2=some (.tup [.ref b1]):=by rw [← hJ];exact upd_same
  clear hJ
  have s46:=s5.trans s6
  have ra6:=ra4.same s46
  obtain ⟨as6,ht6,rr6⟩:=id ra6
  have al6:=rs_len rr6
  refine ⟨t,b2,_,_,rfl,rfl,ht6,g6,line_le (by rw [al6];show _+1≤1000;omega),fun b3 H7 s7 g7=>?_⟩
  have k07:=(k04.same s46).same s7
  have ra7:=ra6.same s7
  have tx7:=(tx4.same s46).same s7
  have rq:RsAt H7 (as6++[b1]) (rs++[(⟨#[ch]⟩,1)]):=(rr6.same s7).app ⟨rfl,fun i a r x y=>by
    cases i with
    | zero=>cases x;cases y;exact s7 _ _ (s6 _ _ g5)
    | succ n=>simp at x⟩
  have g7':H7 b3=some (.tup ((as6++[b1]).map V.ref)):=by rw [g7,List.map_append];rfl
  obtain ⟨as7,ht7,rr7⟩:=id ra7
  have al7:=rs_len rr7
  refine ⟨_,rfl,_,rfl,t,_,rfl,.inr (SqT.of ht7),_,_,rfl,rfl,p,_,_,rfl,k07.pt,by omega,by omega,by omega,fun n8 H8 m0 m1 k8=>?_⟩
  have k08:=k07.trans k8
  have ra8:=ra7.kt k07.pt k8
  have tx8:=tx7.kt k8
  have nl:n8.toNat < ((as6++[b1]).map V.ref).length:=by rw [List.length_map,List.length_append,rr6.1];show _ < _+1;omega
  have e8:=atI_nat (List.getElem?_eq_getElem nl)
  rw [show ((n8.toNat:Nat):Int)=n8 by omega] at e8
  obtain ⟨a8,r8,ea8,_,er8,ha8⟩:=rq.get (List.getElem?_eq_getElem nl)
  rw [ea8] at e8
  refine ⟨b3,_,_,_,rfl,rfl,SqT.of (k8.keep _ _ (k07.pt.neT g7') g7'),e8,a8,_,_,_,rfl,rfl,SqT.of (k8.keep _ _ (k07.pt.neT ha8) ha8),rfl,?_⟩
  generalize r8.1=lt
  refine mid (fun σ' H'=>σ'=[some (.ref p),some (.ref t),some (.int (W39.tot rs)),some x,some (.str lt),none,none,none,none,none]∧H'=H8) ?_ fun E nx=>nx _ _ ⟨rfl,rfl⟩
  rintro σ1 H8' ⟨rfl,rfl⟩
  refine mid (fun σ' H'=>σ'=[some (.ref p),some (.ref t),some (.int (W39.tot rs)),some x,some (.str lt),some (.int 0),none,none,none,none]∧H'=H8') ?_ fun E nx=>nx _ _ ⟨rfl,rfl⟩
  rintro σ1 H8 ⟨rfl,rfl⟩
  refine mid (fun σ' H'=>∃ th:Int,σ'=[some (.ref p),some (.ref t),some (.int (W39.tot rs)),some x,some (.str lt),some (.int th),none,none,none,none]∧H'=H8) ?_ fun E nx=>?_
  rotate_left
  · obtain ⟨th,_⟩:=tx8
    cases th with
    | non=>exact ⟨_,rfl,_,_, "int", false,rfl,.non,kit_none_int _,_,rfl,L2.iteB rfl (nx _ _ ⟨0,rfl,rfl⟩)⟩
    | str z=>exact ⟨_,rfl,_,_, "int", false,rfl,.str _,kit_str_int _,_,rfl,L2.iteB rfl (nx _ _ ⟨0,rfl,rfl⟩)⟩
    | lst e=>exact ⟨_,rfl,_,_, "int", false,rfl,.lst e,kit_list_int _,_,rfl,L2.iteB rfl (nx _ _ ⟨0,rfl,rfl⟩)⟩
    | tup e=>exact ⟨_,rfl,_,_, "int", false,rfl,.tup e,kit_tuple_int _,_,rfl,L2.iteB rfl (nx _ _ ⟨0,rfl,rfl⟩)⟩
    | dct e=>exact ⟨_,rfl,_,_, "int", false,rfl,.dK e,kit_dict_int _,_,rfl,L2.iteB rfl (nx _ _ ⟨0,rfl,rfl⟩)⟩
    | bl b=>exact ⟨_,rfl,_,_, "int", true,rfl,.bl _,kit_bool_int _,_,rfl,iteA rfl ⟨_,rfl,_,_, "bool", true,rfl,.bl _,kit_same _ _,_,rfl,L2.iteB rfl (nx _ _ ⟨0,rfl,rfl⟩)⟩⟩
    | int pl=>
      refine ⟨_,rfl,_,.type "int", "int", true,rfl,.int _,kit_same _ _,_,rfl,iteA rfl ⟨_,rfl,_,.type "int", "bool", false,rfl,.int _,kit_int_bool _,_,rfl,iteA rfl ?_⟩⟩
      refine ⟨_,rfl,_,rfl,_,_,rfl,_,_,rfl,?_⟩
      exact nx _ _ ⟨_,rfl,rfl⟩
  rintro σ1 H9 ⟨th,rfl,rfl⟩
  refine ⟨_,rfl,_,rfl,_,rfl,t,rs,lt,th,rfl,ra8,ps,?_⟩
  refine ⟨_,rfl,_,rfl,_,rfl,t,rs,lt,th,rfl,ra8,ps,l12,fun Ha sa=>?_⟩
  refine ⟨some (W39.cnt rs lt th),rfl,_,rfl,L2.iteB rfl ?_⟩
  have ka:=k08.same sa
  have raa:=ra8.same sa
  refine ⟨_,rfl,_,rfl,_,rfl,t,rs,lt,_,rfl,raa,ps,l12,fun Hb sb=>?_⟩
  have eo:W39.cnt rs lt (W39.tot rs)=W39.ctot rs lt:=W39.cnt_all ps (Int.le_refl _)
  rw [eo]
  have kb:=ka.same sb
  have rab:=raa.same sb
  refine ⟨_,rfl,_,rfl,_,rfl,t,rs,lt,th,rfl,rab,ps,l12,fun Hc sc=>?_⟩
  have kc:=kb.same sc
  have rac:=rab.same sc
  have own0:=W39.ctot_nn (c:=lt) ps
  have her0:=W39.cnt_nn (c:=lt) (p:=th) ps
  generalize W39.cnt rs lt th=here at her0
  refine ⟨_,rfl,_,rfl,_,rfl,_,_,rfl,rfl,_,_,rfl,_,rfl,_,_,rfl,rfl,⟨by decide,big18 (by decide)⟩,_,rfl,_,_,rfl,rfl,_,_,rfl,rfl,⟨by decide,by decide,by decide⟩,_,rfl,p,_,_,rfl,kc.pt,by omega,by decide,by decide,fun n9 Hd z0 z1 kd=>?_⟩
  have kcd:=kc.trans kd
  have rad:=rac.kt kc.pt kd
  refine ⟨line_le (show 8≤1000 by omega),fun m1 hm1=>?_⟩
  generalize hJ:upd Hd m1 _=He
  have se:Same Hd He:=by rw [← hJ];exact (Same.refl Hd).new hm1
  have ge:∃ us:List Int,us.length=8∧He m1=some (.lst (us.map V.int))∧∀ u∈us,0≤u:=by
    refine ⟨[here,0,W39.ctot rs lt,(if W39.ctot rs lt - 1 > 0 then W39.ctot rs lt - 1 else 0),W39.ctot rs lt / 2,here+1,10 ^ (59:Int).toNat,n9],rfl,by rw [← hJ];exact upd_same,fun u hu=>?_⟩
    have e59:(0:Int)≤10 ^ (59:Int).toNat:=by decide
    simp only [List.mem_cons,List.not_mem_nil,or_false] at hu
    rcases hu with rfl | rfl | rfl | rfl | rfl | rfl | rfl | rfl
    · omega
    · omega
    · omega
    · split <;> omega
    · omega
    · omega
    · exact e59
    · omega
  clear hJ
  obtain ⟨us,ul,ge,gu⟩:=ge
  have ke:=kcd.same se
  have rae:=rad.same se
  have m1p:m1≠p:=kcd.pt.ne hm1
  refine ⟨_,rfl,p,_,_,rfl,ke.pt,by omega,by decide,by decide,fun nf Hf y0 y1 kf=>?_⟩
  have kef:=ke.trans kf
  have raf:=rae.kt ke.pt kf
  obtain ⟨so,hso,so0⟩:=menuL (us:=us) (lo:=0) y0 (by omega) gu
  refine ⟨m1,_,_,_,rfl,rfl,SqL.of (kf.keep _ _ m1p ge),hso,?_⟩
  refine ⟨_,rfl,_,rfl,_,rfl,t,rs,lt,so,rfl,raf,?_⟩
  refine ⟨_,rfl,_,rfl,_,rfl,_,rfl,t,rs,lt,so,rfl,raf,l12,fun Hg sg=>?_⟩
  have kg:=kef.same sg
  have rag:=raf.same sg
  refine ⟨W39.plc rs lt so,rfl,_,rfl,L2.iteB rfl ?_⟩
  refine ⟨_,rfl,rfl,_,rfl,_,rfl,_,_,rfl,rfl,rfl,_,rfl,L2.iteB ?_ ?_⟩
  · rw [oV_dec]
    have pn:=W39.plc_none (c:=lt) ps so0
    cases e:W39.plc rs lt so with
    | none=>
      show (!decide (V.bl true=V.bl (decide (W39.ctot rs lt≤so))))=false
      rw [decide_eq_true (pn.mp e)];rfl
    | some y=>
      show (!decide (V.bl false=V.bl (decide (W39.ctot rs lt≤so))))=false
      rw [decide_eq_false (fun h:W39.ctot rs lt≤so=>by rw [pn.mpr h] at e;cases e)];rfl
  have fin:=q _ (kg.mono (by omega))
  refine ⟨_,rfl,rfl,_,rfl,?_⟩
  rw [oV_dec]
  cases e:W39.plc rs lt so with
  | none=>exact iteA rfl fin
  | some y=>
    refine L2.iteB rfl ?_
    obtain ⟨p0,p1,p2,p3⟩:=W39.plc_some ps so0 e
    refine ⟨_,rfl,_,rfl,_,rfl,t,rs,lt,y,rfl,rag,ps,?_⟩
    rw [p2]
    refine ⟨_,rfl,rfl,_,rfl,iteA (decide_eq_true rfl) ?_⟩
    refine ⟨_,rfl,_,rfl,t,rs,.int y,rfl,rag,ps,l12,.int y,fun i z ei i0 el Hh sh=>?_,fun eb=>?_⟩
    · cases ei
      rw [p3] at el
      cases el
      refine ⟨_,rfl,rfl,?_⟩
      rw [decide_eq_true (by rfl)]
      exact q _ ((kg.same sh).mono (by omega))
    · exfalso
      have eb':(decide (0≤y) && decide (y < W39.tot rs))=false:=eb
      rw [decide_eq_true p0,decide_eq_true p1] at eb'
      cases eb'
def sp_law:PySem.W.Frag→Sp:=fun K vs H Q _=>∃ (a:Addr) (ns:List Int),vs=[.ref a]∧SqL K H a (ns.map V.int)∧ns.length≤63∧∀ H',Q (.bl true) H'
theorem ok_law {f:Addr} {fd:FuncData} (F:Fun K "law" "law" s_law f fd) (B:Blt7 mg) (G_law_pot:Has P w K mg base "_law_pot" k ["script", "k"] (sp_pot K)) (G_law_runs:Has P w K mg base "_law_runs" k ["pot"] sp_runs) (G_law_right:Has P w K mg base "_law_right" k ["pot", "runs"] sp_right) (G_place_by:Has P w K mg base "place_by" k ["runs", "letter", "so"] sp_plc) (G_count_ahead:Has P w K mg base "count_ahead" k ["runs", "letter", "place"] sp_cnt) :
    FnOk P w K mg base CX0 (k+1) f fd ["script"] (sp_law K):=by
  refine F.ok sc_law (fun vs H Q E h=>by obtain ⟨a,ns,rfl,_⟩:=h;rfl) (fun cdv A outer s H vs Q E hr h=>?_)
  obtain ⟨a,ns,rfl,hS,h63,q⟩:=h
  refine ⟨_,(pss_cons (ps_for PassesOwn.never rfl (pi_range1 rfl B.range (pa_cons (pe_callB (call_max2 rfl) rfl B.max bt_max (pa_cons pe_int (pa_cons (pe_callB (call_min2 rfl) rfl B.min bt_min (pa_cons pe_int (pa_cons (pe_callB call_len_seq rfl B.len bt_len (pa_cons (pv 0) pa_nil)) pa_nil))) pa_nil))) pa_nil)) (pg_name (i:=1) sc_law.nd rfl (by first | exact Or.inl rfl | exact Or.inr rfl))
  (pss_cons (ps_set (i:=2) sc_law.nd rfl (by first | exact Or.inl rfl | exact Or.inr rfl) (pe_callH G_law_pot hr rfl (pa_cons (pv 0) (pa_cons (pv 1) pa_nil))))
  (pss_cons (ps_set (i:=3) sc_law.nd rfl (by first | exact Or.inl rfl | exact Or.inr rfl) (pe_callH G_law_runs hr rfl (pa_cons (pv 2) pa_nil)))
  (pss_one (ps_for PassesOwn.never rfl (pi_range1 rfl B.range (pa_cons pe_int pa_nil)) (pg_name (i:=4) sc_law.nd rfl (by first | exact Or.inl rfl | exact Or.inr rfl))
  (pss_one (ps_if (pt_not (pt_val (pe_callH G_law_right hr rfl (pa_cons (pv 2) (pa_cons (pv 3) pa_nil)))))
  (pss_one (ps_ret pe_bl))
  pss_nil)))))))
  (pss_one (ps_ret (pe_and (pe_cmpR op_isN (pe_callH G_place_by hr rfl (pa_cons (pe_tup pa_nil) (pa_cons pe_str (pa_cons pe_int pa_nil)))) pe_non (nomark _)) (pe_one (pe_cmpR op_eq (pe_callH G_count_ahead hr rfl (pa_cons (pe_tup pa_nil) (pa_cons pe_str (pa_cons pe_int pa_nil)))) pe_int (nomark _))))))),?_⟩
  have hl:(ns.map V.int).length=ns.length:=List.length_map _
  refine ⟨_,rfl,a,_,rfl,.inl hS,_,_,rfl,_,_,rfl,_,rfl,?_,?_,?_⟩
  · split <;> (try split) <;> omega
  · split <;> (try split) <;> omega
  have hbound:(if (if (((ns.map V.int).length:Nat):Int) < 6 then (((ns.map V.int).length:Nat):Int) else 6) > 2 then (if (((ns.map V.int).length:Nat):Int) < 6 then (((ns.map V.int).length:Nat):Int) else 6) else 2:Int).toNat≤6:=by
    split <;> (try split) <;> omega
  generalize (if (if (((ns.map V.int).length:Nat):Int) < 6 then (((ns.map V.int).length:Nat):Int) else 6) > 2 then (if (((ns.map V.int).length:Nat):Int) < 6 then (((ns.map V.int).length:Nat):Int) else 6) else 2:Int).toNat=n at hbound
  refine for_range (lo:=0) (n:=n) (fun i σ HX=>∃ o1 o2 o3 o4:Option V,σ=[some (.ref a),o1,o2,o3,o4]∧Same H HX) ⟨none,none,none,none,rfl,Same.refl H⟩ ?_ ?_
  rotate_left
  · rintro σ HX ⟨o1,o2,o3,o4,rfl,_⟩
    refine ⟨line_le (show 0≤1000 by omega),fun t0 ht0=>?_⟩
    refine ⟨t0,[],_,_,rfl,⟨[],upd_same,rfl,fun i a r h=>by simp at h⟩,?_⟩
    refine ⟨rfl,_,rfl,iteA (decide_eq_true rfl) ?_⟩
    refine ⟨line_le (show 0≤1000 by omega),fun t1 ht1=>?_⟩
    refine ⟨t1,[],_,_,rfl,⟨[],upd_same,rfl,fun i a r h=>by simp at h⟩,(fun r h=>nomatch h),rfl,?_⟩
    exact q _
  rintro i σ HX hi ⟨o1,o2,o3,o4,rfl,sX⟩
  refine ⟨_,rfl,_,rfl,a,ns,0+(i:Int),rfl,sX.seq hS,h63,by omega,by omega,fun p H1 fp s1 pt1=>?_⟩
  refine ⟨_,rfl,p,0,rfl,pt1,by decide,by decide,fun t rs H2 k2 ra ps l12=>?_⟩
  have hp0:∀ b o,HX b=some o→b≠p:=fun b o e=>ne_of_none e fp
  have keepX:∀ {c:Int} {HY:Hp},Kt p c H1 HY→Same H HY:=fun {c HY} kk b o e=>kk.keep b o (hp0 b o (sX b o e)) (s1 _ _ (sX b o e))
  refine ⟨16,rfl,by decide,by decide,?_⟩
  refine for_range (lo:=0) (n:=(16:Int).toNat) (fun j σ HY=>∃ o4:Option V,σ=[some (.ref a),some (.int (0+(i:Int))),some (.ref p),some (.ref t),o4]∧Kt p (200+10 * j) H1 HY∧RunsAt HY t rs) ⟨_,rfl,k2.mono (by omega),ra⟩ ?_ ?_
  · rintro j σ HY hj ⟨o4,rfl,kY,rY⟩
    have hj:j < 16:=hj
    refine ⟨_,rfl,_,rfl,p,t,_,rs,rfl,kY.pt,by omega,rY,ps,l12,fun H3 k3=>?_⟩
    refine ⟨_,rfl,L2.iteB rfl ?_⟩
    exact ⟨_,rfl,(kY.trans k3).mono (by omega),rY.kt kY.pt k3⟩
  · rintro σ HY ⟨o4,rfl,kY,_⟩
    exact ⟨_,_,_,_,rfl,keepX kY⟩
end
end S39
namespace S39
open PySem L2
theorem df_mk {K:PySem.W.Frag} {h:Heap} {mg:Str→Option Value} {x:Str} {st:Stmt} {f:Addr} {oc:Value} {od an:Option Addr} {osl:Array (Option Value)} {kV doc pm cdv ct:Value} (X:K.In h) (G:h.Ns mainGlobals mg)
    (a:PySem.W.nsIn K mainGlobals x=some (some (.ref f))) (l:K.lookup f=some ⟨oc,od,.func (PySem.W.fnOf x x (defArgs st) (defBody st) (defScope st) .none kV doc pm an cdv ct),osl⟩) (c:PySem.W.codeIn K cdv x=true) (kk:PySem.W.keepIn K (.ref f)=true):Df K mg x st:=
  ⟨f,_,fun_mk l c kk,PySem.W.mg_of X G a⟩
def exs_mk {K:PySem.W.Frag} {h:Heap} {mg:Str→Option Value} (X:K.In h) (G:h.Ns mainGlobals mg) {UpError NoPlace NoNumber NoWord NoRows NoRuns NoText TooMany NoTree:Addr}
    (a_UpError:PySem.W.nsIn K mainGlobals "UpError" = some (some (.ref UpError)))
    (a_NoPlace:PySem.W.nsIn K mainGlobals "NoPlace" = some (some (.ref NoPlace)))
    (a_NoNumber:PySem.W.nsIn K mainGlobals "NoNumber" = some (some (.ref NoNumber)))
    (a_NoWord:PySem.W.nsIn K mainGlobals "NoWord" = some (some (.ref NoWord)))
    (a_NoRows:PySem.W.nsIn K mainGlobals "NoRows" = some (some (.ref NoRows)))
    (a_NoRuns:PySem.W.nsIn K mainGlobals "NoRuns" = some (some (.ref NoRuns)))
    (a_NoText:PySem.W.nsIn K mainGlobals "NoText" = some (some (.ref NoText)))
    (a_TooMany:PySem.W.nsIn K mainGlobals "TooMany" = some (some (.ref TooMany)))
    (a_NoTree:PySem.W.nsIn K mainGlobals "NoTree" = some (some (.ref NoTree)))
    (q_NoPlace:PySem.W.excIn K NoPlace bmV "ValueError.__new__" = true)
    (ga_NoPlace:PySem.W.findIn K (.ref NoPlace) "__getattribute__" = some (some (.builtin "BaseException.__getattribute__")))
    (gn_NoPlace:PySem.W.findIn K (.ref NoPlace) "__getattr__" = some none)
    (cl_NoPlace:PySem.W.findIn K (.ref NoPlace) "__class__" = some (some (.builtin "object.__class__")))
    (ob_NoPlace:PySem.W.mroIn K NoPlace (.type "object")=some true)
    (be_NoPlace:PySem.W.mroIn K NoPlace (.type "BaseException")=some true)
    (cd_NoPlace:(PySem.W.clsIn K NoPlace).isSome=true)
    (u_NoPlace:PySem.W.exmOne K (.ref NoPlace) (.ref UpError)=some true)
    (gt:PySem.W.specialIn K (.builtin "object.__class__") "__get__" = some (some (.builtin "getset_descriptor.__get__")))
    (tk:PySem.W.takesIn K (.builtin "object.__class__")=some true)
    (xm:PySem.W.exmOne K (.ref NoPlace) (.ref NoPlace)=some true)
    (p0:PySem.W.kitOne K (.ref NoPlace) (.ref UpError)=some true)
    (pv:PySem.W.kitOne K (.ref NoPlace) (.type "ValueError")=some true)
    (pa:PySem.W.kitAny K (.ref NoPlace) ([NoNumber,NoRows,NoRuns,NoText,NoTree,NoWord,TooMany].map Value.ref)=some false):Exs K mg where
  c_UpError:=UpError
  m_UpError:=PySem.W.mg_of X G a_UpError
  c_NoPlace:=NoPlace
  m_NoPlace:=PySem.W.mg_of X G a_NoPlace
  c_NoNumber:=NoNumber
  m_NoNumber:=PySem.W.mg_of X G a_NoNumber
  c_NoWord:=NoWord
  m_NoWord:=PySem.W.mg_of X G a_NoWord
  c_NoRows:=NoRows
  m_NoRows:=PySem.W.mg_of X G a_NoRows
  c_NoRuns:=NoRuns
  m_NoRuns:=PySem.W.mg_of X G a_NoRuns
  c_NoText:=NoText
  m_NoText:=PySem.W.mg_of X G a_NoText
  c_TooMany:=TooMany
  m_TooMany:=PySem.W.mg_of X G a_TooMany
  c_NoTree:=NoTree
  m_NoTree:=PySem.W.mg_of X G a_NoTree
  q_NoPlace:=q_NoPlace
  z_NoPlace:=⟨ga_NoPlace,gn_NoPlace,cl_NoPlace,gt,tk,ob_NoPlace,be_NoPlace,cd_NoPlace⟩
  u_NoPlace:=u_NoPlace
  xm:=xm
  p0:=p0
  pv:=pv
  pa:=pa
theorem blt_mk {K:PySem.W.Frag} {h:Heap} {mg:Str→Option Value} (X:K.In h) (G:h.Ns mainGlobals mg)
    (z1:PySem.W.nsIn K mainGlobals "len" = some none) (z2:PySem.W.nsIn K mainGlobals "range" = some none) (z3:PySem.W.nsIn K mainGlobals "zip" = some none) (z4:PySem.W.nsIn K mainGlobals "enumerate" = some none)
    (z5:PySem.W.nsIn K mainGlobals "max" = some none) (z6:PySem.W.nsIn K mainGlobals "min" = some none) (z7:PySem.W.nsIn K mainGlobals "int" = some none) (z8:PySem.W.nsIn K mainGlobals "str" = some none)
    (z9:PySem.W.nsIn K mainGlobals "bool" = some none) (z10:PySem.W.nsIn K mainGlobals "list" = some none) (z11:PySem.W.nsIn K mainGlobals "tuple" = some none) (z12:PySem.W.nsIn K mainGlobals "isinstance" = some none):Blt mg:=
  ⟨PySem.W.mg_none_of X G z1,PySem.W.mg_none_of X G z2,PySem.W.mg_none_of X G z3,PySem.W.mg_none_of X G z4,PySem.W.mg_none_of X G z5,PySem.W.mg_none_of X G z6,PySem.W.mg_none_of X G z7,PySem.W.mg_none_of X G z8,
    PySem.W.mg_none_of X G z9,PySem.W.mg_none_of X G z10,PySem.W.mg_none_of X G z11,PySem.W.mg_none_of X G z12⟩
theorem all_ok {P:Program} {w:World} {K:PySem.W.Frag} {mg:Str→Option Value} {fa:Addr} (hfa:mg "law" = some (.ref fa)) (B:Blt7 mg)
    (d1:Df K mg "is_whole" s_is_whole) (d2:Df K mg "is_number_below" s_is_number_below) (d3:Df K mg "length_of" s_length_of) (d4:Df K mg "letter_in" s_letter_in) (d5:Df K mg "count_ahead" s_count_ahead) (d6:Df K mg "place_by" s_place_by) (d7:Df K mg "_law_pot" s_law_pot) (d8:Df K mg "_law_take" s_law_take) (d9:Df K mg "_law_runs" s_law_runs) (d10:Df K mg "_law_begun" s_law_begun) (d11:Df K mg "_law_places" s_law_places) (d12:Df K mg "_law_letter_told" s_law_letter_told) (d13:Df K mg "_law_letter_due" s_law_letter_due) (d14:Df K mg "_law_ahead_due" s_law_ahead_due) (d15:Df K mg "_law_place_due" s_law_place_due) (d16:Df K mg "_law_whole" s_law_whole) (d17:Df K mg "_law_right" s_law_right) (d18:Df K mg "law" s_law) (EX:Exs K mg) :
    ∃ fd:FuncData,(∀ (s:Shared) (v:Value),BindsTo s fd ⟨[v],[]⟩ [("script", v)])∧∀ base:Heap,FnOk P w K mg base CX0 12 fa fd ["script"] (sp_law K):=by
  obtain ⟨f,fd,F,m⟩:=d18
  have e:=hfa.symm.trans m
  cases e
  refine ⟨fd,?_,fun base=>?_⟩
  · obtain ⟨oc,od,kV,doc,pm,an,cdv,ct,osl,rfl,_,_⟩:=F.ex
    exact fun s v=>.of_eq rfl
  have g_pot:=has_pot (P:=P) (w:=w) (base:=base) (k:=0) d7 B
  have g_take:=has_take (P:=P) (w:=w) (base:=base) (k:=0) d8 B
  have g_runs:=has_runs (k:=1) d9 B g_take
  have g_whole:=has_whole (P:=P) (w:=w) (base:=base) (k:=0) d1 B
  have g_below:=has_below (k:=1) d2 B g_whole
  have g_len:=has_len (P:=P) (w:=w) (base:=base) (k:=0) d3 B
  have g_lin:=has_lin (k:=2) EX d4 B (g_len.mono (by decide)) g_below
  have g_cnt:=has_cnt (P:=P) (w:=w) (base:=base) (k:=0) d5 B
  have g_plc:=has_plc (P:=P) (w:=w) (base:=base) (k:=0) d6 B
  have g_beg:=has_beg (P:=P) (w:=w) (base:=base) (k:=0) d10 B
  have g_ldue:=has_ldue (k:=1) d13 B g_beg
  have g_adue:=has_adue (k:=1) d14 B g_beg
  have g_pdue:=has_pdue (k:=1) d15 B g_beg
  have g_places:=has_places (k:=1) d11 B g_take g_beg
  have g_told:=has_told (k:=3) EX d12 B g_lin
  have g_same:=has_same (P:=P) (w:=w) (base:=base) (k:=0) d16 B
  have g_right:=has_right (k:=4) EX d17 B (g_take.mono (by decide)) (g_places.mono (by decide)) g_told (g_ldue.mono (by decide)) (g_cnt.mono (by decide)) (g_adue.mono (by decide)) (g_same.mono (by decide)) (g_plc.mono (by decide)) (g_pdue.mono (by decide)) (g_lin.mono (by decide))
  exact (ok_law (k:=5) F B (g_pot.mono (by decide)) (g_runs.mono (by decide)) g_right (g_plc.mono (by decide)) (g_cnt.mono (by decide))).mono (by decide)
end S39
open PySem PySem.W PyProof.Rows
set_option maxRecDepth 100000 in
set_option maxHeartbeats 0 in
theorem PySem.Challenge.cw_upwords_k39_runs_asked_by_place_holds : PySem.Challenge.rw_upwords_k39_runs_asked_by_place.Holds := by
  w_on; o_law; k_head; (case hw => w_witness2)
  k_fill
  refine L2.walk_ofK (l := PySem.Challenge.rw_upwords_k39_runs_asked_by_place) (n := 63) (k := 12) (x := "script") (CX := L2.CX0) (sp := S39.sp_law) rfl (by decide) rfl ⟨rfl, by decide, by decide, rfl⟩ (fun w h Y => PySem.W.kIn_of Y) ?F
    (fun K H a ns hl _ hS => ⟨a, ns, rfl, hS, hl, fun _ => rfl⟩) (fun _ _ _ _ z => z)
  case F =>
    intro w mg fa h KX G hmg
    have B : L2.Blt mg := by
      refine' S39.blt_mk KX G ?z1 ?z2 ?z3 ?z4 ?z5 ?z6 ?z7 ?z8 ?z9 ?z10 ?z11 ?z12
      (case z1 => k_is); (case z2 => k_is); (case z3 => k_is); (case z4 => k_is); (case z5 => k_is); (case z6 => k_is); (case z7 => k_is); (case z8 => k_is); (case z9 => k_is); (case z10 => k_is); (case z11 => k_is); (case z12 => k_is)
    have Bx0 : mg "sum" = none := by
      refine' PySem.W.mg_none_of KX G ?z
      (case z => k_is)
    have Bx1 : mg "ValueError" = none := by
      refine' PySem.W.mg_none_of KX G ?z
      (case z => k_is)
    have d1 : L2.Df (L2.KOf KX) mg "is_whole" S39.s_is_whole := by
      dsimp only [L2.KOf]; refine' S39.df_mk KX G ?a ?l ?c ?k
      (case a => k_is); (case l => k_is); (case c => k_is); (case k => k_is)
    have d2 : L2.Df (L2.KOf KX) mg "is_number_below" S39.s_is_number_below := by
      dsimp only [L2.KOf]; refine' S39.df_mk KX G ?a ?l ?c ?k
      (case a => k_is); (case l => k_is); (case c => k_is); (case k => k_is)
    have d3 : L2.Df (L2.KOf KX) mg "length_of" S39.s_length_of := by
      dsimp only [L2.KOf]; refine' S39.df_mk KX G ?a ?l ?c ?k
      (case a => k_is); (case l => k_is); (case c => k_is); (case k => k_is)
    have d4 : L2.Df (L2.KOf KX) mg "letter_in" S39.s_letter_in := by
      dsimp only [L2.KOf]; refine' S39.df_mk KX G ?a ?l ?c ?k
      (case a => k_is); (case l => k_is); (case c => k_is); (case k => k_is)
    have d5 : L2.Df (L2.KOf KX) mg "count_ahead" S39.s_count_ahead := by
      dsimp only [L2.KOf]; refine' S39.df_mk KX G ?a ?l ?c ?k
      (case a => k_is); (case l => k_is); (case c => k_is); (case k => k_is)
    have d6 : L2.Df (L2.KOf KX) mg "place_by" S39.s_place_by := by
      dsimp only [L2.KOf]; refine' S39.df_mk KX G ?a ?l ?c ?k
      (case a => k_is); (case l => k_is); (case c => k_is); (case k => k_is)
    have d7 : L2.Df (L2.KOf KX) mg "_law_pot" S39.s_law_pot := by
      dsimp only [L2.KOf]; refine' S39.df_mk KX G ?a ?l ?c ?k
      (case a => k_is); (case l => k_is); (case c => k_is); (case k => k_is)
    have d8 : L2.Df (L2.KOf KX) mg "_law_take" S39.s_law_take := by
      dsimp only [L2.KOf]; refine' S39.df_mk KX G ?a ?l ?c ?k
      (case a => k_is); (case l => k_is); (case c => k_is); (case k => k_is)
    have d9 : L2.Df (L2.KOf KX) mg "_law_runs" S39.s_law_runs := by
      dsimp only [L2.KOf]; refine' S39.df_mk KX G ?a ?l ?c ?k
      (case a => k_is); (case l => k_is); (case c => k_is); (case k => k_is)
    have d10 : L2.Df (L2.KOf KX) mg "_law_begun" S39.s_law_begun := by
      dsimp only [L2.KOf]; refine' S39.df_mk KX G ?a ?l ?c ?k
      (case a => k_is); (case l => k_is); (case c => k_is); (case k => k_is)
    have d11 : L2.Df (L2.KOf KX) mg "_law_places" S39.s_law_places := by
      dsimp only [L2.KOf]; refine' S39.df_mk KX G ?a ?l ?c ?k
      (case a => k_is); (case l => k_is); (case c => k_is); (case k => k_is)
    have d12 : L2.Df (L2.KOf KX) mg "_law_letter_told" S39.s_law_letter_told := by
      dsimp only [L2.KOf]; refine' S39.df_mk KX G ?a ?l ?c ?k
      (case a => k_is); (case l => k_is); (case c => k_is); (case k => k_is)
    have d13 : L2.Df (L2.KOf KX) mg "_law_letter_due" S39.s_law_letter_due := by
      dsimp only [L2.KOf]; refine' S39.df_mk KX G ?a ?l ?c ?k
      (case a => k_is); (case l => k_is); (case c => k_is); (case k => k_is)
    have d14 : L2.Df (L2.KOf KX) mg "_law_ahead_due" S39.s_law_ahead_due := by
      dsimp only [L2.KOf]; refine' S39.df_mk KX G ?a ?l ?c ?k
      (case a => k_is); (case l => k_is); (case c => k_is); (case k => k_is)
    have d15 : L2.Df (L2.KOf KX) mg "_law_place_due" S39.s_law_place_due := by
      dsimp only [L2.KOf]; refine' S39.df_mk KX G ?a ?l ?c ?k
      (case a => k_is); (case l => k_is); (case c => k_is); (case k => k_is)
    have d16 : L2.Df (L2.KOf KX) mg "_law_whole" S39.s_law_whole := by
      dsimp only [L2.KOf]; refine' S39.df_mk KX G ?a ?l ?c ?k
      (case a => k_is); (case l => k_is); (case c => k_is); (case k => k_is)
    have d17 : L2.Df (L2.KOf KX) mg "_law_right" S39.s_law_right := by
      dsimp only [L2.KOf]; refine' S39.df_mk KX G ?a ?l ?c ?k
      (case a => k_is); (case l => k_is); (case c => k_is); (case k => k_is)
    have d18 : L2.Df (L2.KOf KX) mg "law" S39.s_law := by
      dsimp only [L2.KOf]; refine' S39.df_mk KX G ?a ?l ?c ?k
      (case a => k_is); (case l => k_is); (case c => k_is); (case k => k_is)
    have EX : S39.Exs (L2.KOf KX) mg := by
      dsimp only [L2.KOf]; refine' S39.exs_mk KX G ?a_UpError ?a_NoPlace ?a_NoNumber ?a_NoWord ?a_NoRows ?a_NoRuns ?a_NoText ?a_TooMany ?a_NoTree ?q_NoPlace ?ga_NoPlace ?gn_NoPlace ?cl_NoPlace ?ob_NoPlace ?be_NoPlace ?cd_NoPlace ?u_NoPlace ?gt ?tk ?xm ?p0 ?pv ?pa
      (case a_UpError => k_is); (case a_NoPlace => k_is); (case a_NoNumber => k_is); (case a_NoWord => k_is); (case a_NoRows => k_is); (case a_NoRuns => k_is); (case a_NoText => k_is); (case a_TooMany => k_is); (case a_NoTree => k_is); (case q_NoPlace => first | k_exc | k_is); (case ga_NoPlace => k_is); (case gn_NoPlace => k_is); (case cl_NoPlace => k_is); (case ob_NoPlace => k_is); (case be_NoPlace => k_is); (case cd_NoPlace => first | k_is | kernel_rfl); (case u_NoPlace => first | k_is | kernel_rfl); (case gt => k_is); (case tk => k_is); (case xm => first | k_is | kernel_rfl); (case p0 => first | k_is | kernel_rfl); (case pv => first | k_is | kernel_rfl); (case pa => first | k_is | kernel_rfl)
    obtain ⟨fd, h1, h2⟩ := S39.all_ok (P := PySem.Challenge.rw_upwords_k39_runs_asked_by_place.prog) (w := w) hmg ⟨B, Bx0, Bx1⟩ d1 d2 d3 d4 d5 d6 d7 d8 d9 d10 d11 d12 d13 d14 d15 d16 d17 d18 EX
    exact ⟨fd, h1, fun base _ _ => h2 base⟩
