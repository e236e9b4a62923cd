import PyProof.Rows.All
import Wide.All
import OpenK.AllK
import Wide.FinOn
import Lean
import PyProof.EqAt
import PyProof.EqKinds
import PyProof.TupleCall
import PyProof.WalkInts
import PyProof.NeKinds
import KE.KDictOf
import PyProof.DictWalks
import PyProof.Rows.TupAdd
import KE.KTryOn
import PyProof.NsDelKeeps
import PyProof.ExcAttrAll.ValueError
import PyProof.SumAny
import PyProof.ListMulRoad
import PyProof.FactsAll.tuple
import PyProof.FactsAll.tuple_2
import PyProof.FitsBits
import PyProof.ListStr
import PyProof.Rows.Range3
import PyProof.ReprRoads
import KE.KStrOpen
import PySem.Challenge.RW_upwords_k38_runs_told_and_back
set_option Elab.async false
set_option linter.all false
set_option maxRecDepth 100000
namespace L2
open PySem PySem.Spec PyProof.Rows
abbrev Key:=Sum Int Str
def keyIs:Key→Value→Bool
  | .inl k,v=>Value.isInt k v
  | .inr x,v=>Value.isStrOf x v
def keyH (w:World):Key→Int
  | .inl k=>hashInt k
  | .inr x=>hashStr w x
theorem keyIs_shape:∀ {k:Key} {v:Value},keyIs k v=true→(∃ i t,k=Sum.inl i∧v=Value.int i t)∨(∃ x t,k=Sum.inr x∧v=Value.str x t)
  | .inl i,v,h=>by
    obtain ⟨t,e⟩:=Value.isInt_shape (k:=i) (v:=v) h
    exact .inl ⟨i,t,rfl,e⟩
  | .inr x,v,h=>by
    obtain ⟨t,e⟩:=Value.isStrOf_shape (x:=x) (v:=v) h
    exact .inr ⟨x,t,rfl,e⟩
theorem key_ll (a b:Int):decide ((Sum.inl a:Key)=Sum.inl b)=(a == b):=by
  by_cases e:a=b
  · subst e;simp
  · have h:¬ (Sum.inl a:Key)=Sum.inl b:=fun q=>e (Sum.inl.inj q)
    rw [decide_eq_false h]
    exact (beq_eq_false_iff_ne.mpr e).symm
theorem key_rr (a b:Str):decide ((Sum.inr a:Key)=Sum.inr b)=decide (a=b):=by
  by_cases e:a=b
  · subst e;simp
  · have h:¬ (Sum.inr a:Key)=Sum.inr b:=fun q=>e (Sum.inr.inj q)
    rw [decide_eq_false h,decide_eq_false e]
theorem key_lr (a:Int) (b:Str):decide ((Sum.inl a:Key)=Sum.inr b)=false:=decide_eq_false (fun q=>nomatch q)
theorem key_rl (a:Str) (b:Int):decide ((Sum.inr a:Key)=Sum.inl b)=false:=decide_eq_false (fun q=>nomatch q)
def mixKind (prog:Program) (w:World):PySem.KeyKind prog w Key where
  is:=keyIs
  hash:=keyH w
  inj:=fun v a b ha hb=>by
    rcases keyIs_shape ha with ⟨i,t,rfl,rfl⟩ | ⟨x,t,rfl,rfl⟩
    · rcases keyIs_shape hb with ⟨j,u,rfl,e⟩ | ⟨y,u,rfl,e⟩
      · injection e with e1 _;rw [e1]
      · exact nomatch e
    · rcases keyIs_shape hb with ⟨j,u,rfl,e⟩ | ⟨y,u,rfl,e⟩
      · exact nomatch e
      · injection e with e1 _;rw [e1]
  byValue:=fun k v h=>by
    rcases keyIs_shape h with ⟨i,t,rfl,rfl⟩ | ⟨x,t,rfl,rfl⟩ <;> rfl
  pyHash:=fun hv h=>by
    rcases keyIs_shape hv with ⟨i,t,rfl,rfl⟩ | ⟨x,t,rfl,rfl⟩
    · exact wpAny_pyHash_int h
    · exact wpAny_pyHash_str h
  eqBool:=fun hu hv h=>by
    rcases keyIs_shape hu with ⟨i,t,rfl,rfl⟩ | ⟨x,t,rfl,rfl⟩
    · rcases keyIs_shape hv with ⟨j,u,rfl,rfl⟩ | ⟨y,u,rfl,rfl⟩
      · rw [key_ll] at h;exact wpAny_eqBool_int h
      · rw [key_lr] at h;exact SeqAt.EqAt.int_str i t y u _ _ _ _ h
    · rcases keyIs_shape hv with ⟨j,u,rfl,rfl⟩ | ⟨y,u,rfl,rfl⟩
      · rw [key_rl] at h;exact SeqAt.EqAt.str_int x t j u _ _ _ _ h
      · rw [key_rr] at h;exact wpAny_eqBool_str h
  «strs»:=fun k x t v h=>by
    rcases keyIs_shape h with ⟨i,u,rfl,e⟩ | ⟨y,u,rfl,e⟩
    · exact nomatch e
    · injection e with e1 _
      subst e1
      cases v <;> rfl
end L2
namespace L2
open PySem PySem.Spec PyProof.Rows
inductive V where
  | non | bl (b:Bool) | int (i:Int) | str (x:Str) | byt (b:Array UInt8) | flt (b:UInt64) | ref (a:Addr) | ty (n:String)
  deriving DecidableEq
def RelV:V→Value→Prop
  | .non,u=>u=Value.none
  | .bl b,u=>u=Value.bool b
  | .int i,u=>∃ t,u=Value.int i t
  | .str x,u=>∃ t,u=Value.str x t
  | .byt b,u=>∃ t,u=Value.bytes b t
  | .flt b,u=>∃ t,u=Value.float b t
  | .ref a,u=>u=Value.ref a
  | .ty n,u=>u=Value.type n
abbrev Vals:List V→List Value→Prop:=Paired RelV
theorem Vals.length {xs:List V} {us:List Value} (r:Vals xs us):xs.length=us.length:=Paired.length r
theorem Vals.get:∀ {xs:List V} {us:List Value} {i:Nat} {x:V},Vals xs us→xs[i]?=some x→∃ u,us[i]?=some u∧RelV x u
  | _,_,_,_,.nil,e=>by simp at e
  | _,_,0,_,.cons r _,e=>by simp at e;subst e;exact ⟨_,rfl,r⟩
  | _,_,i+1,x,.cons _ t,e=>by
    obtain ⟨u,h1,h2⟩:=Vals.get (i:=i) (x:=x) t (by simpa using e)
    exact ⟨u,by simpa using h1,h2⟩
theorem Vals.set {x:V} {u:Value} (r:RelV x u):∀ {xs:List V} {us:List Value} (i:Nat),Vals xs us→Vals (xs.set i x) (us.set i u)
  | _,_,_,.nil=>.nil
  | _,_,0,.cons _ t=>.cons r t
  | _,_,i+1,.cons q t=>.cons q (Vals.set r i t)
theorem Vals.append:∀ {xs ys:List V} {us ws:List Value},Vals xs us→Vals ys ws→Vals (xs++ys) (us++ws)
  | _,_,_,_,.nil,s=>s
  | _,_,_,_,.cons r t,s=>.cons r (Vals.append t s)
theorem Vals.take:∀ {xs:List V} {us:List Value} (n:Nat),Vals xs us→Vals (xs.take n) (us.take n)
  | _,_,0,_=>.nil
  | _,_,_+1,.nil=>.nil
  | _,_,n+1,.cons r t=>.cons r (Vals.take n t)
theorem Vals.drop:∀ {xs:List V} {us:List Value} (n:Nat),Vals xs us→Vals (xs.drop n) (us.drop n)
  | _,_,0,r=>r
  | _,_,_+1,.nil=>.nil
  | _,_,n+1,.cons _ t=>Vals.drop n t
def RelO:Option V→Option Value→Prop
  | some v,some u=>RelV v u
  | none,none=>True
  | _,_=>False
def KV {κ:Type}:List (κ × V)→List (κ × Value)→Prop:=Paired fun (p:κ × V) (q:κ × Value)=>p.1=q.1∧RelV p.2 q.2
def kV:Key→V
  | .inl i=>.int i
  | .inr x=>.str x
inductive HO where
    | lst (xs:List V)
    | tup (xs:List V)
    | dK (kvs:List (Key × V)) | dT (kvs:List (List Key × V))
    | set (S:Int→Bool) (n:Nat)
    | ins (C dx:Addr) (fs:List (Str × V))
    | own (x:Addr)
    | xd (fs:List (Str × V))
    | met (f x:Addr)
    | rng (lo hi:Int)
    | frz (o:Obj) (u:HO)
    | tbl (ps:Array Value)
    | ext (φ:Heap→Prop)
abbrev Hp:=Addr→Option HO
def upd (H:Hp) (a:Addr) (o:HO):Hp:=fun b=>if b=a then some o else H b
theorem upd_same {H:Hp} {a:Addr} {o:HO}:upd H a o a=some o:=by unfold upd;rw [if_pos rfl]
theorem upd_ne {H:Hp} {a b:Addr} {o:HO} (h:b≠a):upd H a o b=H b:=by unfold upd;rw [if_neg h]
theorem ne_of_none {H:Hp} {a b:Addr} {o:HO} (h:H a=some o) (h':H b=none):a≠b:=by
  intro e;subst e;rw [h] at h';cases h'
section
variable (P:Program) (w:World)
def ObjOk (H:Hp) (h:Heap) (a:Addr):HO→Prop
  | .lst xs=>xs.length≤sizeLine∧∃ (its:List Value) (n:Nat),Vals xs its∧h.get? a=some { cls:=.type "list", data:=.seq its.toArray n }
  | .tup xs=>(xs.length≤sizeLine∧∃ o,h.get? a=some o∧o.dict=none)∧∃ its:List Value,Vals xs its∧IsTup h a its.toArray
  | .dK kvs=>kvs.length≤sizeLine∧(a == sysModules)=false∧∃ vs,KV kvs vs∧h.DictOf (mixKind P w) a vs
  | .dT kvs=>kvs.length≤sizeLine∧(a == sysModules)=false∧∃ xs:List (List Key × Addr × Value),
      Paired (fun (p:List Key × V) (q:List Key × Addr × Value)=>p.1=q.1∧H q.2.1=some (.tup (p.1.map kV))∧RelV p.2 q.2.2) kvs xs ∧
      ∃ o es ep,h.get? a=some o∧o.ExactDict∧o.data=.dict es ep∧es.toList=xs.map (entryOfKey (tupleKind (mixKind P w)))∧(xs.map (·.1)).Nodup
  | .set S n=>h.SetOf (intKind P w) a S n
  | .ins C dx fs=>H dx=some (.own a)∧fs.length≤1000∧dx≠a∧h.get? a=some (PySem.W.instObj C dx) ∧
      ∃ mA,h.Ns1 dx mA∧(∀ f,RelO (fs.lookup f) (mA f))∧PySem.Within mA (fs.map (·.1))
  | .own _=>∃ o,h.get? a=some o
  | .xd fs=>∃ mA,h.Ns1 a mA∧∀ f,RelO (fs.lookup f) (mA f)
  | .rng lo hi=>∃ t u v,h.get? a=some { cls:=.type "range", data:=.fields #[.int lo t,.int hi u,.int 1 v] }
  | .frz o u=>h.get? a=some o∧ObjOk H h a u
  | .tbl ps=>h.get? a=some { cls:=.none,data:=.fields ps }
  | .met f x=>h.get? a=some (PySem.W.methodObj (.ref f) (.ref x))
  | .ext φ=>φ h∧(∃ o,h.get? a=some o)∧∀ h1 h2:Heap,φ h1→(∀ o,h1.get? a=some o→h2.get? a=some o)→φ h2
def HOk (H:Hp) (h:Heap):Prop:=∀ a o,H a=some o→ObjOk P w H h a o
end
section
variable {P:Program} {w:World} {H H':Hp} {h h':Heap} {a:Addr} {o:HO}
theorem ObjOk.lt (x:ObjOk P w H h a o):a < h.objs.size:=by
  cases o with
  | lst xs=>obtain ⟨_,_,_,_,e⟩:=x;exact Heap.lt_size e
  | tup xs=>obtain ⟨_,_,_,p⟩:=x;exact p.lt
  | dK kvs=>obtain ⟨_,_,_,_,o,_,_,e,_⟩:=x;exact Heap.lt_size e
  | dT kvs=>obtain ⟨_,_,_,_,o,_,_,e,_⟩:=x;exact Heap.lt_size e
  | set S n=>obtain ⟨o,_,_,_,e,_⟩:=x;exact Heap.lt_size e
  | ins C dx fs=>obtain ⟨_,_,_,e,_⟩:=x;exact Heap.lt_size e
  | own y=>obtain ⟨_,e⟩:=x;exact Heap.lt_size e
  | xd fs=>obtain ⟨_,⟨_,_,_,e,_⟩,_⟩:=x;exact Heap.lt_size e
  | rng lo hi=>obtain ⟨_,_,_,e⟩:=x;exact Heap.lt_size e
  | frz ob u=>obtain ⟨e,_⟩:=x;exact Heap.lt_size e
  | tbl ps=>exact Heap.lt_size (show h.get? a=some _ from x)
  | met f y=>exact Heap.lt_size (show h.get? a=some _ from x)
  | ext φ=>obtain ⟨_,⟨_,e⟩,_⟩:=x;exact Heap.lt_size e
theorem Paired.mapP {α β:Type} {F G:α→β→Prop}:∀ {l₁:List α} {l₂:List β},Paired F l₁ l₂→(∀ a b,F a b→G a b)→Paired G l₁ l₂
  | _,_,.nil,_=>.nil
  | _,_,.cons r t,f=>.cons (f _ _ r) (Paired.mapP t f)
theorem ObjOk.stay (x:ObjOk P w H h a o) (k:∀ b u,(b=a∨H b=some (.own a))→h.get? b=some u→h'.get? b=some u)
    (ho:∀ b,H b=some (.own a)→H' b=some (.own a)) (ht:∀ b xs,H b=some (.tup xs)→H' b=some (.tup xs)):ObjOk P w H' h' a o:=by
  induction o with
  | lst xs=>obtain ⟨z,its,n,r,e⟩:=x;exact ⟨z,its,n,r,k _ _ (.inl rfl) e⟩
  | tup xs=>obtain ⟨⟨z,o1,e1,c1⟩,its,r,ob,e,c⟩:=x;exact ⟨⟨z,o1,k _ _ (.inl rfl) e1,c1⟩,its,r,ob,k _ _ (.inl rfl) e,c⟩
  | dK kvs=>obtain ⟨z,y,vs,r,ob,es,ep,e,c⟩:=x;exact ⟨z,y,vs,r,ob,es,ep,k _ _ (.inl rfl) e,c⟩
  | dT kvs=>
    obtain ⟨z,y,xs,r,ob,es,ep,e,c⟩:=x
    exact ⟨z,y,xs,Paired.mapP r fun p q z=>⟨z.1,ht _ _ z.2.1,z.2.2⟩,ob,es,ep,k _ _ (.inl rfl) e,c⟩
  | set S n=>obtain ⟨ob,es,ep,t,e,c⟩:=x;exact ⟨ob,es,ep,t,k _ _ (.inl rfl) e,c⟩
  | ins C dx fs=>
    obtain ⟨d,z,ne,e,mA,⟨od,es,ep,e2,c⟩,r⟩:=x
    exact ⟨ho _ d,z,ne,k _ _ (.inl rfl) e,mA,⟨od,es,ep,k _ _ (.inr d) e2,c⟩,r⟩
  | own y=>obtain ⟨ob,e⟩:=x;exact ⟨ob,k _ _ (.inl rfl) e⟩
  | xd fs=>obtain ⟨mA,⟨od,es,ep,e,c⟩,r⟩:=x;exact ⟨mA,⟨od,es,ep,k _ _ (.inl rfl) e,c⟩,r⟩
  | rng lo hi=>obtain ⟨t,u,v,e⟩:=x;exact ⟨t,u,v,k _ _ (.inl rfl) e⟩
  | frz ob u ih=>obtain ⟨e,q⟩:=x;exact ⟨k _ _ (.inl rfl) e,ih q⟩
  | tbl ps=>
    have e:h.get? a=some { cls:=.none,data:=.fields ps }:=x
    show h'.get? a=some { cls:=.none,data:=.fields ps }
    exact k a _ (.inl rfl) e
  | met f y=>
    have e:h.get? a=some (PySem.W.methodObj (.ref f) (.ref y)):=x
    show h'.get? a=some (PySem.W.methodObj (.ref f) (.ref y))
    exact k a _ (.inl rfl) e
  | ext φ=>obtain ⟨p,⟨o,e⟩,st⟩:=x;exact ⟨st _ _ p fun o q=>k _ _ (.inl rfl) q,⟨o,k _ _ (.inl rfl) e⟩,st⟩
theorem HOk.lt (x:HOk P w H h) (e:H a=some o):a < h.objs.size:=(x a o e).lt
theorem HOk.fresh (x:HOk P w H h) (e:h.objs.size≤a):H a=none:=by
  cases q:H a with
  | none=>rfl
  | some u=>exact absurd (Nat.lt_of_lt_of_le (x.lt q) e) (Nat.lt_irrefl _)
theorem HOk.kept (x:HOk P w H h) (k:∀ b u,h.get? b=some u→h'.get? b=some u):HOk P w H h':=fun a o e=>
  (x a o e).stay (fun b u _ q=>k b u q) (fun _ q=>q) fun _ _ q=>q
theorem HOk.laid (x:HOk P w H h) (k:∀ b u,h.get? b=some u→h'.get? b=some u) (hp:h.objs.size≤a) (new:ObjOk P w (upd H a o) h' a o):HOk P w (upd H a o) h':=fun b u e=>by
  have hn:=x.fresh hp
  by_cases hb:b=a
  · subst hb;rw [upd_same] at e;cases e;exact new
  · rw [upd_ne hb] at e
    exact (x b u e).stay (fun c v _ q=>k c v q) (fun c q=>by rw [upd_ne (ne_of_none q hn)];exact q) fun c xs q=>by rw [upd_ne (ne_of_none q hn)];exact q
end
def Rd (H:Hp) (a:Addr) (u:HO):Prop:=H a=some u∨∃ o,H a=some (.frz o u)
theorem Rd.ok {P:Program} {w:World} {H:Hp} {h:Heap} {a:Addr} {u:HO} (r:Rd H a u) (x:HOk P w H h):ObjOk P w H h a u:=by
  rcases r with r | ⟨o,r⟩
  · exact x a u r
  · obtain ⟨_,q⟩:=x a _ r
    exact q
def Mut:Option HO→Prop
  | some (.lst _)=>True
  | some (.dK _)=>True
  | some (.dT _)=>True
  | some (.set _ _)=>True
  | some (.ins _ _ _)=>True
  | some (.ext _)=>True
  | _=>False
section
variable {P:Program} {w:World} {H:Hp} {h h':Heap} {x e:Addr} {o':HO}
theorem HOk.write (ok:HOk P w H h) (mu:Mut (H x)) (he:e=x∨H e=some (.own x)) (k:∀ b u,b≠e→h.get? b=some u→h'.get? b=some u) (heo:∃ u,h'.get? e=some u)
    (new:ObjOk P w (upd H x o') h' x o'):HOk P w (upd H x o') h':=fun b u q=>by
  have nown:∀ c y,H c=some (.own y)→c≠x:=fun c y r z=>by subst z;rw [r] at mu;exact mu
  have ntup:∀ c xs,H c=some (.tup xs)→c≠x:=fun c xs r z=>by subst z;rw [r] at mu;exact mu
  by_cases hb:b=x
  · subst hb;rw [upd_same] at q;cases q;exact new
  · rw [upd_ne hb] at q
    by_cases hbe:b=e
    · have q':H b=some (.own x):=by
        rcases he with z | z
        · exact absurd (hbe.trans z) hb
        · rw [hbe];exact z
      rw [q] at q';cases q'
      obtain ⟨v,hv⟩:=heo
      exact ⟨v,by rw [hbe];exact hv⟩
    · refine (ok b u q).stay (fun c v hc r=>k c v ?_ r) (fun c r=>by rw [upd_ne (nown c b r)];exact r) fun c xs r=>by rw [upd_ne (ntup c xs r)];exact r
      rcases hc with rfl | hc
      · exact hbe
      · rintro rfl
        rcases he with z | z
        · exact nown c b hc z
        · rw [hc] at z;cases z;exact hb rfl
end
structure Un (fs ex:List Addr) (H H':Hp) (h h':Heap):Prop where
  keep:∀ b o,h.get? b=some o→H b=none→b ∉ fs→b ∉ ex→h'.get? b=some o
  slot:∀ b o,h.get? b=some o→H b=none→b∈fs→b ∉ ex→∃ sl,h'.get? b=some { o with slots:=sl }
  free:∀ b o,h.get? b=some o→H b=none→b ∉ ex→H' b=none
  there:∀ b o,h.get? b=some o→b ∉ ex→∃ o',h'.get? b=some o'
  tups:∀ b xs,H b=some (.tup xs)→H' b=some (.tup xs)
  frzs:∀ b o u,H b=some (.frz o u)→H' b=some (.frz o u)
  tbls:∀ b ps,H b=some (.tbl ps)→∃ more,H' b=some (.tbl (ps++more))
section
variable {fs fs' ex ex':List Addr} {H H1 H2:Hp} {h h1 h2 h':Heap} {a x e:Addr} {o:HO}
theorem Un.any (u:Un fs ex H H1 h h1) {b:Addr} {ob:Obj} (q:h.get? b=some ob) (n:H b=none) (hx:b ∉ ex):∃ sl,h1.get? b=some { ob with slots:=sl }:=by
  by_cases hb:b∈fs
  · exact u.slot b ob q n hb hx
  · exact ⟨ob.slots,u.keep b ob q n hb hx⟩
theorem Un.kept (k:∀ b u,h.get? b=some u→h'.get? b=some u):Un fs ex H H h h':=
  ⟨fun b ob q _ _ _=>k b ob q,fun b ob q _ _ _=>⟨ob.slots,k b ob q⟩,fun _ _ _ n _=>n,fun b ob q _=>⟨ob,k b ob q⟩,fun _ _ q=>q,fun _ _ _ q=>q,fun _ ps q=>⟨#[],by rw [q];simp⟩⟩
theorem Un.refl:Un fs ex H H h h:=Un.kept fun _ _ q=>q
theorem Un.laid (k:∀ b u,h.get? b=some u→h'.get? b=some u) (hp:h.objs.size≤a) (hn:H a=none):Un fs ex H (upd H a o) h h' where
  keep:=fun b u q _ _ _=>k b u q
  slot:=fun b u q _ _ _=>⟨u.slots,k b u q⟩
  free:=fun b u q n _=>by rw [upd_ne (Nat.ne_of_lt (Nat.lt_of_lt_of_le (Heap.lt_size q) hp))];exact n
  there:=fun b u q _=>⟨u,k b u q⟩
  tups:=fun b xs q=>by rw [upd_ne (ne_of_none q hn)];exact q
  frzs:=fun b u xs q=>by rw [upd_ne (ne_of_none q hn)];exact q
  tbls:=fun b ps q=>⟨#[],by rw [upd_ne (ne_of_none q hn),q];simp⟩
theorem Un.write (mu:Mut (H x)) (he:e=x∨H e=some (.own x)) (k:∀ b u,b≠e→h.get? b=some u→h'.get? b=some u) (heo:∃ u,h'.get? e=some u):Un fs ex H (upd H x o) h h':=by
  have hx:∀ b,H b=none→b≠x:=fun b n z=>by subst z;rw [n] at mu;exact mu
  have hb:∀ b,H b=none→b≠e:=fun b n z=>by
    subst z
    rcases he with r | r
    · exact hx b n r
    · rw [n] at r;cases r
  have hm:∀ b u,H b=some u→¬ Mut (some u)→b≠x:=fun b u q nm z=>by subst z;rw [q] at mu;exact nm mu
  refine ⟨fun b u q n _ _=>k b u (hb b n) q,fun b u q n _ _=>⟨u.slots,k b u (hb b n) q⟩,fun b u q n _=>by rw [upd_ne (hx b n)];exact n,fun b u q _=>?_,
    fun b xs q=>by rw [upd_ne (hm b _ q fun z=>z)];exact q,fun b u xs q=>by rw [upd_ne (hm b _ q fun z=>z)];exact q,fun b ps q=>⟨#[],by rw [upd_ne (hm b _ q fun z=>z),q];simp⟩⟩
  by_cases hbe:b=e
  · subst hbe;exact heo
  · exact ⟨u,k b u hbe q⟩
end
def trk (h:Heap) (H:Hp):List Addr:=(List.range h.objs.size).filter fun a=>(H a).isSome
def hidT (h:Heap) (H:Hp):Heap:=PySem.W.hideAll h (trk h H)
theorem hidT_size (h:Heap) (H:Hp):(hidT h H).objs.size=h.objs.size:=PySem.W.hideAll_size _ _
theorem hidT_get {h:Heap} {H:Hp} {b:Addr} {o:Obj} (e:h.get? b=some o) (n:H b=none):(hidT h H).get? b=some o:=
  PySem.W.hideAll_get _ e fun hm=>by
    have q:(H b).isSome=true:=(List.mem_filter.mp hm).2
    rw [n] at q;simp at q
theorem of_hidT {h:Heap} {H:Hp} {b:Addr} {o:Obj} (e:(hidT h H).get? b=some o):h.get? b=some o∧H b=none:=by
  have e':h.get? b=some o:=PySem.W.of_hideAll (trk h H) e
  refine ⟨e',?_⟩
  cases q:H b with
  | none=>rfl
  | some x=>
    have hm:b∈trk h H:=List.mem_filter.mpr ⟨List.mem_range.mpr (Heap.lt_size e'),by simp [q]⟩
    have z:(hidT h H).get? b=none:=PySem.W.hideAll_none (trk h H) hm
    rw [z] at e;cases e
def allNews (g h:Heap) (L:Addr):List (Addr × Obj):=(List.range h.objs.size).filterMap fun a=>if a=L∨(g.get? a).isSome=true then none else (h.get? a).map fun o=>(a,o)
def rest (g h:Heap) (L d:Addr):List (Addr × Obj):=(allNews g h L).filter fun p=>decide (p.1≠d)
end L2
namespace L2
open PySem PySem.Spec PyProof.Rows
structure Mod (K:PySem.W.Frag) (mg:Str→Option Value) (base:Heap):Prop where
  kin:K.In base
  glob:base.Ns mainGlobals mg
  blt:∃ mb,base.Ns builtinsNs mb∧∀ x:Str,x ≠ "__name__" → mb x=bootBuiltins x
  nolimit:base.NoLimit
structure Cx where
  prog:Program
  w:World
  K:PySem.W.Frag
  mg:Str→Option Value
  base:Heap
  A:Around
  N:List Str
  s₀:Shared
  H₀:Hp
  env:Env
  outer:List Env
  stack:List Env
  ex:List Addr
  fn:Str→Bool
  calm:Bool
  pn:List (Addr × Obj)
  xe:Value→Shared→Prop
def frs (l:List Env):List Addr:=l.filterMap (·.frame)
abbrev Cx.fs (X:Cx):List Addr:=frs X.outer
def Vis (sc:Scope) (x:Str):Prop:=sc.names.lookup x=some .local∨sc.names.lookup x=some .cell∨sc.names.lookup x=some .free
def Loc (sc:Scope) (x:Str):Prop:=sc.names.lookup x=some .local∨sc.names.lookup x=some .cell
def Look (env:Env) (h:Heap) (m:Str→Option Value) (x:Str) (u:Value):Prop:=
  (env.kindOf x=some .local∧m x=some u)∨((env.kindOf x=some .cell∨env.kindOf x=some .free)∧∃ c,env.cells.lookup x=some c∧h.IsCell c (some u))
structure Cx.Ok (X:Cx):Prop where
  mod:Mod X.K X.mg X.base
  kind:X.env.scope.kind=.function
  glob:X.env.globals=mainGlobals
  blt:X.env.builtins=builtinsNs
  above:X.s₀.heap.objs.size≤X.env.locals
  inj:∀ x y c,X.env.cells.lookup x=some c→X.env.cells.lookup y=some c→x=y
  has:∀ x,(X.env.kindOf x=some .cell∨X.env.kindOf x=some .free)→∃ c,X.env.cells.lookup x=some c
  cab:∀ x c,X.fn x=true→X.env.cells.lookup x=some c→X.s₀.heap.objs.size≤c
  hd:X.calm=true→X.A.handled=none
  frames:X.A.frames=some X.stack
  stk:X.stack=X.outer∨(X.stack=X.env :: X.outer∧X.env.frame=some X.env.locals)
  exf:∀ b∈X.ex,b≠X.env.locals∧∀ x c,X.env.cells.lookup x=some c→c≠b
  bs:∀ b o,X.base.get? b=some o→X.s₀.heap.get? b=some o∧X.H₀ b=none
  bsz:X.base.objs.size≤X.s₀.heap.objs.size
  noex:∀ b o,X.base.get? b=some o→b ∉ X.ex
  exfs:∀ b∈X.ex,b ∉ X.fs
  funs:X.s₀.heap.FunFrames X.base X.outer
  frf:∀ b∈X.fs,X.H₀ b=none
structure Inv (X:Cx) (pins:List (Addr × Obj)) (σ:List (Option V)) (H:Hp) (s:Shared):Prop where
  ok:X.Ok
  os:s.os=X.s₀.os
  bare:AllBare s.gens
  base:Un X.fs X.ex X.H₀ H X.s₀.heap s.heap
  loc:∃ m,s.heap.Ns X.env.locals m∧∀ (i:Nat) (x:Str) (v:V),X.N[i]?=some x→σ[i]?=some (some v)→Vis X.env.scope x→∃ u,RelV v u∧Look X.env s.heap m x u
  cell:∀ x c,X.env.cells.lookup x=some c→∃ v,s.heap.IsCell c v
  free:H X.env.locals=none
  freeC:∀ x c,X.env.cells.lookup x=some c→H c=none
  pin:∀ p∈X.pn++pins,s.heap.get? p.1=some p.2∧H p.1=none∧p.1≠X.env.locals∧p.1 ∉ X.fs∧∀ v,p.2.data≠.cell v
  hok:HOk X.prog X.w H s.heap
  len:σ.length=X.N.length
section
variable {X:Cx} {pins:List (Addr × Obj)} {σ:List (Option V)} {H H':Hp} {s:Shared} {h':Heap}
theorem Cx.Ok.nofr (ok:X.Ok) {b:Addr} {o:Obj} (e:X.base.get? b=some o):b ∉ X.fs:=fun hb=>by
  have:=(ok.funs.mem hb).1
  rw [e] at this;cases this
theorem Inv.bs (I:Inv X pins σ H s):∀ b o,X.base.get? b=some o→s.heap.get? b=some o∧H b=none:=fun b o e=>
  ⟨I.base.keep b o (I.ok.bs b o e).1 (I.ok.bs b o e).2 (I.ok.nofr e) (I.ok.noex b o e),I.base.free b o (I.ok.bs b o e).1 (I.ok.bs b o e).2 (I.ok.noex b o e)⟩
theorem Inv.bk (I:Inv X pins σ H s):∀ b o,X.base.get? b=some o→s.heap.get? b=some o:=fun b o e=>(I.bs b o e).1
theorem Inv.mod (I:Inv X pins σ H s):Mod X.K X.mg X.base:=I.ok.mod
theorem Inv.kIn (I:Inv X pins σ H s):X.K.In s.heap:=I.ok.mod.kin.keeps I.bk
theorem Inv.nolimit (I:Inv X pins σ H s):s.heap.NoLimit:=I.ok.mod.nolimit.keeps I.bk
theorem Inv.fr (I:Inv X pins σ H s):∃ m,Fr X.base X.env.locals s.heap m:=
  let ⟨m,hn,_⟩:=I.loc
  ⟨m,hn,I.bk,Nat.le_trans I.ok.bsz I.ok.above⟩
theorem Inv.lt (I:Inv X pins σ H s):X.env.locals < s.heap.objs.size:=let ⟨_,hn,_⟩:=I.loc;hn.lt
theorem Inv.sz (I:Inv X pins σ H s):X.s₀.heap.objs.size≤s.heap.objs.size:=Nat.le_trans I.ok.above (Nat.le_of_lt I.lt)
theorem Inv.nofs (I:Inv X pins σ H s) {a:Addr} (h:s.heap.objs.size≤a):a ∉ X.fs:=fun hb=>by
  obtain ⟨_,o,ho,_⟩:=I.ok.funs.mem hb
  exact absurd (Nat.lt_of_lt_of_le (Heap.lt_size ho) (Nat.le_trans I.sz h)) (Nat.lt_irrefl _)
theorem Inv.cne (I:Inv X pins σ H s):∀ x c,X.env.cells.lookup x=some c→c≠X.env.locals:=fun x c e z=>by
  obtain ⟨v,o,ho,hd⟩:=I.cell x c e
  obtain ⟨m,⟨o',es,ep,ho',hd',_⟩,_⟩:=I.loc
  rw [z,ho'] at ho;cases ho;rw [hd'] at hd;cases hd
theorem Inv.funs (I:Inv X pins σ H s):s.heap.FunFrames X.base X.outer:=by
  have all:∀ (l:List Env),(∀ b∈frs l,b∈X.fs)→X.s₀.heap.FunFrames X.base l→s.heap.FunFrames X.base l:=by
    intro l
    induction l with
    | nil=>intro _ _;trivial
    | cons env r ih=>
      intro hs hl
      obtain ⟨hk,⟨L,o,hf,hn,ho,hd⟩,hr⟩:=hl
      have hL:L∈X.fs:=hs L (by unfold frs;rw [List.filterMap_cons,hf];exact List.mem_cons_self)
      obtain ⟨sl,e⟩:=I.base.slot L o ho (I.ok.frf L hL) hL fun z=>I.ok.exfs L z hL
      exact ⟨hk,⟨L,_,hf,hn,e,hd⟩,ih (fun b hb=>hs b (by unfold frs;rw [List.filterMap_cons,hf];exact List.mem_cons_of_mem _ hb)) hr⟩
  exact all X.outer (fun _ hb=>hb) I.ok.funs
theorem Inv.stack (I:Inv X pins σ H s):s.heap.FunFrames X.base X.stack:=by
  rcases I.ok.stk with e | ⟨e,hf⟩
  · rw [e];exact I.funs
  · rw [e]
    obtain ⟨m,hn,_⟩:=I.loc
    refine .cons (by rw [I.ok.kind];decide) hf hn ?_ I.funs
    exact Heap.get?_none_of_le (Nat.le_trans I.ok.bsz I.ok.above)
theorem Inv.stkSub (I:Inv X pins σ H s):∀ b∈frs X.stack,b∈X.env.locals :: X.fs:=fun b hb=>by
  rcases I.ok.stk with e | ⟨e,hf⟩
  · rw [e] at hb;exact List.mem_cons_of_mem _ hb
  · rw [e] at hb
    unfold frs at hb
    rw [List.filterMap_cons,hf] at hb
    exact hb
theorem Inv.stkFree (I:Inv X pins σ H s):∀ b∈frs X.stack,H b=none:=fun b hb=>by
  rcases List.mem_cons.mp (I.stkSub b hb) with e | hb
  · rw [e];exact I.free
  · obtain ⟨_,o,ho,_⟩:=I.ok.funs.mem hb
    exact I.base.free b o ho (I.ok.frf b hb) fun z=>I.ok.exfs b z hb
theorem Inv.step {g':Array GenState} {t':Nat} {d':Drawn} {ch:List Addr} (I:Inv X pins σ H s)
    (hch:∀ b∈ch,(b∈X.ex∨X.s₀.heap.objs.size≤b)∧b≠X.env.locals∧(∀ x c,X.env.cells.lookup x=some c→c≠b)∧∀ p∈X.pn++pins,p.1≠b)
    (keep:∀ b o,b≠X.env.locals→b ∉ X.fs→b ∉ ch→s.heap.get? b=some o→H b=none→h'.get? b=some o)
    (slot:∀ b o,b≠X.env.locals→b∈X.fs→b ∉ ch→s.heap.get? b=some o→H b=none→∃ sl,h'.get? b=some { o with slots:=sl }) (free:∀ b o,b ∉ ch→s.heap.get? b=some o→H b=none→H' b=none)
    (there:∀ b o,b ∉ ch→s.heap.get? b=some o→∃ o',h'.get? b=some o')
    (tups:∀ b xs,H b=some (.tup xs)→H' b=some (.tup xs)) (frzs:∀ b o u,H b=some (.frz o u)→H' b=some (.frz o u)) (tbls:∀ b ps,H b=some (.tbl ps)→∃ more,H' b=some (.tbl (ps++more)))
    (ns:∀ m,s.heap.Ns X.env.locals m→h'.Ns X.env.locals m) (hok:HOk X.prog X.w H' h') (hg:AllBare g') :
    Inv X pins σ H' { s with heap:=h',gens:=g',drawn:=d',toks:=t' }:=by
  have neL:∀ b o,X.s₀.heap.get? b=some o→b≠X.env.locals:=fun b o e=>Nat.ne_of_lt (Nat.lt_of_lt_of_le (Heap.lt_size e) I.ok.above)
  have neC:∀ b o,X.s₀.heap.get? b=some o→b ∉ X.ex→b ∉ ch:=fun b o e hx hb=>by
    rcases (hch b hb).1 with z | z
    · exact hx z
    · exact absurd (Nat.lt_of_lt_of_le (Heap.lt_size e) z) (Nat.lt_irrefl _)
  have cellK:∀ x c,X.env.cells.lookup x=some c→∀ v,s.heap.IsCell c v→h'.IsCell c v:=fun x c e v ⟨o,ho,hd⟩=>by
    have nch:c ∉ ch:=fun z=>(hch c z).2.2.1 x c e rfl
    by_cases hc:c∈X.fs
    · obtain ⟨sl,q⟩:=slot c o (I.cne x c e) hc nch ho (I.freeC x c e)
      exact ⟨_,q,hd⟩
    · exact ⟨o,keep c o (I.cne x c e) hc nch ho (I.freeC x c e),hd⟩
  refine ⟨I.ok,I.os,hg,⟨fun b o e n hb hx=>?_,fun b o e n hb hx=>?_,fun b o e n hx=>?_,fun b o e hx=>?_,fun b xs e=>tups b xs (I.base.tups b xs e),fun b o xs e=>frzs b o xs (I.base.frzs b o xs e),fun b ps e=>?_⟩,?_,fun x c e=>?_,?_,fun x c e=>?_,fun p hp=>?_,hok,I.len⟩
  · exact keep b o (neL b o e) hb (neC b o e hx) (I.base.keep b o e n hb hx) (I.base.free b o e n hx)
  · obtain ⟨sl,e1⟩:=I.base.slot b o e n hb hx
    obtain ⟨sl',e2⟩:=slot b _ (neL b o e) hb (neC b o e hx) e1 (I.base.free b o e n hx)
    exact ⟨sl',e2⟩
  · obtain ⟨o',e1⟩:=I.base.there b o e hx
    exact free b o' (neC b o e hx) e1 (I.base.free b o e n hx)
  · obtain ⟨o',e1⟩:=I.base.there b o e hx
    exact there b o' (neC b o e hx) e1
  · obtain ⟨m1,e1⟩:=I.base.tbls b ps e
    obtain ⟨m2,e2⟩:=tbls b _ e1
    exact ⟨m1++m2,by rw [e2,Array.append_assoc]⟩
  · obtain ⟨m,hn,hl⟩:=I.loc
    refine ⟨m,ns m hn,fun i x v e1 e2 e3=>?_⟩
    obtain ⟨u,r,l⟩:=hl i x v e1 e2 e3
    refine ⟨u,r,?_⟩
    rcases l with l | ⟨k,c,e,z⟩
    · exact .inl l
    · exact .inr ⟨k,c,e,cellK x c e _ z⟩
  · obtain ⟨v,z⟩:=I.cell x c e
    exact ⟨v,cellK x c e v z⟩
  · obtain ⟨m,⟨o,_,_,ho,_⟩,_⟩:=I.loc
    exact free _ o (fun z=>(hch _ z).2.1 rfl) ho I.free
  · obtain ⟨v,o,ho,hd⟩:=I.cell x c e
    exact free c o (fun z=>(hch c z).2.2.1 x c e rfl) ho (I.freeC x c e)
  · obtain ⟨e,n,ne,nf,d⟩:=I.pin p hp
    have nch:p.1 ∉ ch:=fun z=>(hch p.1 z).2.2.2 p hp rfl
    exact ⟨keep p.1 p.2 ne nf nch e n,free p.1 p.2 nch e n,ne,nf,d⟩
theorem Inv.un {t':Nat} (I:Inv X pins σ H s) (u:Un X.fs [] H H' s.heap h') (hok:HOk X.prog X.w H' h'):Inv X pins σ H' { s with heap:=h',toks:=t' }:=by
  obtain ⟨m,⟨o,es,ep,ho,r⟩,_⟩:=id I.loc
  obtain ⟨sl,hL⟩:=u.any ho I.free (by simp)
  exact I.step (g':=s.gens) (d':=s.drawn) (ch:=[]) (fun _ z=>nomatch z) (fun b o _ hb _ e n=>u.keep b o e n hb (by simp)) (fun b o _ hb _ e n=>u.slot b o e n hb (by simp)) (fun b o _ e n=>u.free b o e n (by simp)) (fun b o _ e=>u.there b o e (by simp)) u.tups u.frzs u.tbls (fun m' hm=>by
    obtain ⟨o',es',ep',ho',r'⟩:=hm
    rw [ho] at ho';cases ho'
    exact ⟨_,es',ep',hL,r'⟩) hok I.bare
theorem Inv.call {g':Array GenState} {t':Nat} {d':Drawn} {ch:List Addr} (I:Inv X pins σ H s) (u:Un (frs X.stack) ch H H' s.heap h') (hok:HOk X.prog X.w H' h') (hg:AllBare g')
    (hch:∀ b∈ch,(b∈X.ex∨X.s₀.heap.objs.size≤b)∧b≠X.env.locals∧(∀ x c,X.env.cells.lookup x=some c→c≠b)∧∀ p∈X.pn++pins,p.1≠b) :
    Inv X pins σ H' { s with heap:=h',gens:=g',drawn:=d',toks:=t' }:=by
  obtain ⟨m,⟨o,es,ep,ho,r⟩,_⟩:=id I.loc
  obtain ⟨sl,hL⟩:=u.any ho I.free fun z=>(hch _ z).2.1 rfl
  exact I.step (ch:=ch) hch (fun b o hL hb hc e n=>u.keep b o e n (fun z=>(List.mem_cons.mp (I.stkSub b z)).elim hL hb) hc) (fun b o _ _ hc e n=>u.any e n hc) (fun b o hc e n=>u.free b o e n hc) (fun b o hc e=>u.there b o e hc) u.tups u.frzs u.tbls (fun m' hm=>by
    obtain ⟨o',es',ep',ho',r'⟩:=hm
    rw [ho] at ho';cases ho'
    exact ⟨_,es',ep',hL,r'⟩) hok hg
theorem Inv.turned {t':Nat} {it:Addr} (I:Inv X pins σ H s) (k:∀ b o,b≠it→s.heap.get? b=some o→h'.get? b=some o) (hn:H it=none) (hL:it≠X.env.locals)
    (h1:it∈X.ex∨X.s₀.heap.objs.size≤it) (h2:∀ x c,X.env.cells.lookup x=some c→c≠it) (h3:∀ p∈X.pn++pins,p.1≠it):Inv X pins σ H { s with heap:=h',toks:=t' }:=by
  have nit:∀ b u,H b=some u→b≠it:=fun b u e z=>by rw [z,hn] at e;cases e
  refine I.step (g':=s.gens) (d':=s.drawn) (ch:=[it]) (fun b hb=>?_) (fun b o _ _ hc e _=>k b o (fun z=>hc (by simp [z])) e) (fun b o _ _ hc e _=>⟨o.slots,k b o (fun z=>hc (by simp [z])) e⟩) (fun _ _ _ _ n=>n)
    (fun b o hc e=>⟨o,k b o (fun z=>hc (by simp [z])) e⟩) (fun _ _ e=>e) (fun _ _ _ e=>e) (fun b ps e=>⟨#[],by rw [e];simp⟩) (fun m hm=>?_) (fun b u e=>?_) I.bare
  · have e:b=it:=by simpa using hb
    subst e
    exact ⟨h1,hL,h2,h3⟩
  · obtain ⟨o,es,ep,ho,r⟩:=hm
    exact ⟨o,es,ep,k _ o (Ne.symm hL) ho,r⟩
  · refine (I.hok b u e).stay (fun c v hc q=>k c v ?_ q) (fun _ q=>q) fun _ _ q=>q
    rcases hc with z | z
    · rw [z];exact nit b u e
    · exact nit c _ z
theorem Inv.tok (I:Inv X pins σ H s) (t:Nat):Inv X pins σ H { s with toks:=t }:=I.un (h':=s.heap) (t':=t) Un.refl I.hok
theorem Inv.kept {t':Nat} (I:Inv X pins σ H s) (k:∀ b u,s.heap.get? b=some u→h'.get? b=some u):Inv X pins σ H { s with heap:=h',toks:=t' }:=I.un (Un.kept k) (I.hok.kept k)
theorem Inv.laid {a:Addr} {o:HO} {t':Nat} (I:Inv X pins σ H s) (k:∀ b u,s.heap.get? b=some u→h'.get? b=some u) (hp:s.heap.objs.size≤a) (new:ObjOk X.prog X.w (upd H a o) h' a o) :
    Inv X pins σ (upd H a o) { s with heap:=h',toks:=t' }:=I.un (Un.laid k hp (I.hok.fresh hp)) (I.hok.laid k hp new)
theorem Inv.write {x e:Addr} {o:HO} {t':Nat} (I:Inv X pins σ H s) (mu:Mut (H x)) (he:e=x∨H e=some (.own x)) (k:∀ b u,b≠e→s.heap.get? b=some u→h'.get? b=some u) (heo:∃ u,h'.get? e=some u)
    (new:ObjOk X.prog X.w (upd H x o) h' x o):Inv X pins σ (upd H x o) { s with heap:=h',toks:=t' }:=I.un (Un.write mu he k heo) (I.hok.write mu he k heo new)
theorem Inv.weak {σ':List (Option V)} (I:Inv X pins σ H s) (hl:σ'.length=σ.length) (w:∀ (i:Nat) v,σ'[i]?=some (some v)→σ[i]?=some (some v)):Inv X pins σ' H s:=
  ⟨I.ok,I.os,I.bare,I.base,let ⟨m,hn,hl'⟩:=I.loc;⟨m,hn,fun i x v e1 e2 e3=>hl' i x v e1 (w i v e2) e3⟩,I.cell,I.free,I.freeC,I.pin,I.hok,hl.trans I.len⟩
theorem Inv.pins_of {pins':List (Addr × Obj)} (I:Inv X pins σ H s) (h:∀ p∈pins',s.heap.get? p.1=some p.2∧H p.1=none∧p.1≠X.env.locals∧p.1 ∉ X.fs∧∀ v,p.2.data≠.cell v):Inv X pins' σ H s:=
  ⟨I.ok,I.os,I.bare,I.base,I.loc,I.cell,I.free,I.freeC,fun p hp=>(List.mem_append.mp hp).elim (fun z=>I.pin p (List.mem_append_left _ z)) (h p),I.hok,I.len⟩
theorem nodup_ix {N:List Str} (hN:N.Nodup) {i j:Nat} {x:Str} (a:N[i]?=some x) (b:N[j]?=some x):i=j:=by
  obtain ⟨h1,e1⟩:=List.getElem?_eq_some_iff.mp a
  obtain ⟨h2,e2⟩:=List.getElem?_eq_some_iff.mp b
  exact (List.getElem_inj hN).mp (e1.trans e2.symm)
theorem store_ok2 {M:Model} {A:Around} {E:Value→Shared→Prop} {i:Nat} {x:Str} {v:V} {u:Value} {Q:Unit→Shared→Prop} (I:Inv X pins σ H s) (hN:X.N.Nodup) (hi:X.N[i]?=some x) (hx:Loc X.env.scope x) (r:RelV v u)
    (h:∀ s',Inv X pins (σ.set i (some v)) H s'→(∃ a,Heap.SameBut a s.heap s'.heap∧(a=X.env.locals∨X.env.cells.lookup x=some a))→Q () s') (hf:X.fn x=true∨X.env.scope.names.lookup x=some .local:=by first | exact .inl rfl | exact .inr rfl | assumption):wpAny M A (storeName X.env x u) Q E s:=by
  obtain ⟨m,hn,hl⟩:=id I.loc
  have hcls:(X.env.scope.kind == .class || (X.env.scope.kind == .module && X.env.locals != X.env.globals))=false:=by rw [I.ok.kind];rfl
  have hiσ:i < σ.length:=by rw [I.len];exact (List.getElem?_eq_some_iff.mp hi).1
  have cne:=I.cne
  have tracked:∀ {a:Addr} {h':Heap},(∃ o,s.heap.get? a=some o∧H a=none)→Heap.SameBut a s.heap h'→HOk X.prog X.w H h':=fun {a h'} ha hs b ob e=>by
    obtain ⟨_,_,hfree⟩:=ha
    refine (I.hok b ob e).stay (fun c w' hc q=>(hs.2 c ?_).trans q) (fun _ q=>q) fun _ _ q=>q
    rintro rfl
    rcases hc with rfl | hc
    · rw [hfree] at e;cases e
    · rw [hfree] at hc;cases hc
  rcases hx with hk | hk
  · refine wpAny_storeName_local hk hn (fun h' hn' hs=>?_) hcls
    obtain ⟨oL,_,_,hoL,_⟩:=id hn
    refine h _ ⟨I.ok,I.os,I.bare,⟨fun b o e n hb hx=>?_,fun b o e n hb hx=>?_,I.base.free,fun b o e hx=>?_,I.base.tups,I.base.frzs,I.base.tbls⟩,⟨_,hn',fun j y v' e1 e2 e3=>?_⟩,fun y c e=>?_,I.free,I.freeC,fun p hp=>?_,tracked ⟨oL,hoL,I.free⟩ hs,by simpa using I.len⟩ ⟨_,hs,.inl rfl⟩
    · exact (hs.2 b (Nat.ne_of_lt (Nat.lt_of_lt_of_le (Heap.lt_size e) I.ok.above))).trans (I.base.keep b o e n hb hx)
    · obtain ⟨sl,e1⟩:=I.base.slot b o e n hb hx
      exact ⟨sl,(hs.2 b (Nat.ne_of_lt (Nat.lt_of_lt_of_le (Heap.lt_size e) I.ok.above))).trans e1⟩
    · obtain ⟨o',e1⟩:=I.base.there b o e hx
      exact ⟨o',(hs.2 b (Nat.ne_of_lt (Nat.lt_of_lt_of_le (Heap.lt_size e) I.ok.above))).trans e1⟩
    · by_cases hj:j=i
      · subst hj
        rw [hi] at e1;cases e1
        rw [List.getElem?_set_self hiσ] at e2
        cases e2
        exact ⟨u,r,.inl ⟨hk,by simp⟩⟩
      · rw [List.getElem?_set_ne (Ne.symm hj)] at e2
        obtain ⟨u',r',q⟩:=hl j y v' e1 e2 e3
        refine ⟨u',r',?_⟩
        rcases q with ⟨k,e⟩ | ⟨k,c,e,z⟩
        · refine .inl ⟨k,?_⟩
          have:y≠x:=fun e=>hj (nodup_ix hN e1 (e ▸ hi))
          simp [this,e]
        · exact .inr ⟨k,c,e,z.sameBut hs (cne y c e)⟩
    · obtain ⟨w',z⟩:=I.cell y c e
      exact ⟨w',z.sameBut hs (cne y c e)⟩
    · obtain ⟨e,n,ne,nf,d⟩:=I.pin p hp
      exact ⟨(hs.2 p.1 ne).trans e,n,ne,nf,d⟩
  · have hfn:X.fn x=true:=by
      rcases hf with z | z
      · exact z
      · rw [z] at hk;cases hk
    obtain ⟨c,hc⟩:=I.ok.has x (.inl hk)
    obtain ⟨w',z⟩:=I.cell x c hc
    refine wpAny_storeName_cell I.ok.kind hk hc z (fun h' hc' hs=>?_)
    obtain ⟨oc,hoc,hocd⟩:=id z
    refine h { s with heap:=h' } ⟨I.ok,I.os,I.bare,⟨fun b o e n hb hx=>?_,fun b o e n hb hx=>?_,I.base.free,fun b o e hx=>?_,I.base.tups,I.base.frzs,I.base.tbls⟩,⟨m,hn.sameBut hs (Ne.symm (cne x c hc)),fun j y v' e1 e2 e3=>?_⟩,fun y c' e=>?_,I.free,I.freeC,fun p hp=>?_,tracked ⟨oc,hoc,I.freeC x c hc⟩ hs,by simpa using I.len⟩ ⟨c,hs,.inr hc⟩
    · exact (hs.2 b (Nat.ne_of_lt (Nat.lt_of_lt_of_le (Heap.lt_size e) (I.ok.cab x c hfn hc)))).trans (I.base.keep b o e n hb hx)
    · obtain ⟨sl,e1⟩:=I.base.slot b o e n hb hx
      exact ⟨sl,(hs.2 b (Nat.ne_of_lt (Nat.lt_of_lt_of_le (Heap.lt_size e) (I.ok.cab x c hfn hc)))).trans e1⟩
    · obtain ⟨o',e1⟩:=I.base.there b o e hx
      exact ⟨o',(hs.2 b (Nat.ne_of_lt (Nat.lt_of_lt_of_le (Heap.lt_size e) (I.ok.cab x c hfn hc)))).trans e1⟩
    · by_cases hj:j=i
      · subst hj
        rw [hi] at e1;cases e1
        rw [List.getElem?_set_self hiσ] at e2
        cases e2
        exact ⟨u,r,.inr ⟨.inl hk,c,hc,hc'⟩⟩
      · rw [List.getElem?_set_ne (Ne.symm hj)] at e2
        obtain ⟨u',r',q⟩:=hl j y v' e1 e2 e3
        refine ⟨u',r',?_⟩
        rcases q with q | ⟨k,c',e,z'⟩
        · exact .inl q
        · refine .inr ⟨k,c',e,z'.sameBut hs ?_⟩
          rintro rfl
          exact hj (nodup_ix hN e1 (I.ok.inj _ _ _ e hc ▸ hi))
    · by_cases hcc:c'=c
      · subst hcc;exact ⟨_,hc'⟩
      · obtain ⟨w2,z2⟩:=I.cell y c' e
        exact ⟨w2,z2.sameBut hs hcc⟩
    · obtain ⟨e,n,ne,nf,d⟩:=I.pin p hp
      refine ⟨(hs.2 p.1 ?_).trans e,n,ne,nf,d⟩
      intro q
      rw [q,hoc] at e
      have q':oc=p.2:=Option.some.inj e
      exact d w' (by rw [← q'];exact hocd)
theorem store_ok {M:Model} {A:Around} {E:Value→Shared→Prop} {i:Nat} {x:Str} {v:V} {u:Value} {Q:Unit→Shared→Prop} (I:Inv X pins σ H s) (hN:X.N.Nodup) (hi:X.N[i]?=some x) (hx:Loc X.env.scope x) (r:RelV v u)
    (h:∀ s',Inv X pins (σ.set i (some v)) H s'→Q () s') (hf:X.fn x=true∨X.env.scope.names.lookup x=some .local:=by first | exact .inl rfl | exact .inr rfl | assumption):wpAny M A (storeName X.env x u) Q E s:=
  store_ok2 I hN hi hx r (fun s' I' _=>h s' I') hf
theorem Inv.call' {s':Shared} {ch:List Addr} (I:Inv X pins σ H s) (ho:s'.os=s.os) (u:Un (frs X.stack) ch H H' s.heap s'.heap) (hok:HOk X.prog X.w H' s'.heap) (hg:AllBare s'.gens)
    (hch:∀ b∈ch,(b∈X.ex∨X.s₀.heap.objs.size≤b)∧b≠X.env.locals∧(∀ x c,X.env.cells.lookup x=some c→c≠b)∧∀ p∈X.pn++pins,p.1≠b):Inv X pins σ H' s':=by
  obtain ⟨h',g',d',t',o'⟩:=s'
  have e:o'=s.os:=ho
  subst e
  exact I.call (g':=g') (t':=t') (d':=d') u hok hg hch
end
abbrev XK:=Value→Option Addr→Hp→Prop
abbrev St:=List (Option V)
abbrev VK:=V→Hp→Prop
abbrev TE:=St→Hp→VK→Prop
abbrev TT:=St→Hp→(Bool→Hp→Prop)→Prop
abbrev TA:=St→Hp→(List V→Hp→Prop)→Prop
structure Ends where
  nx:St→Hp→Prop
  rt:VK
  bk:St→Hp→Prop:=fun _ _=>False
  ct:St→Hp→Prop:=fun _ _=>False
abbrev TS:=Ends→St→Hp→Prop
def EP (X:Cx) (pins:List (Addr × Obj)) (σ:St) (Q:VK) (u:Value) (s':Shared):Prop:=∃ v H',Inv X pins σ H' s'∧RelV v u∧Q v H'
def TP (X:Cx) (pins:List (Addr × Obj)) (σ:St) (Q:Bool→Hp→Prop) (b:Bool) (s':Shared):Prop:=∃ H',Inv X pins σ H' s'∧Q b H'
def AP (X:Cx) (pins:List (Addr × Obj)) (σ:St) (Q:List V→Hp→Prop) (us:List Value) (s':Shared):Prop:=∃ vs H',Inv X pins σ H' s'∧Vals vs us∧Q vs H'
def SP (X:Cx) (pins:List (Addr × Obj)) (D:Ends) (f:Flow) (s':Shared):Prop:=
  match f with
  | .next=>∃ σ' H',Inv X pins σ' H' s'∧D.nx σ' H'
  | .brk=>∃ σ' H',Inv X pins σ' H' s'∧D.bk σ' H'
  | .cont=>∃ σ' H',Inv X pins σ' H' s'∧D.ct σ' H'
  | .ret u=>∃ v σ' H',Inv X pins σ' H' s'∧RelV v u∧D.rt v H'
def PE (X:Cx) (e:Expr) (t:TE):Prop:=
  ∀ (pins:List (Addr × Obj)) (s:Shared) (σ:St) (H:Hp) (Q:VK),Inv X pins σ H s→t σ H Q→wpAny (model X.prog X.w) X.A (eval e X.env) (EP X pins σ Q) X.xe s
def PT (X:Cx) (e:Expr) (t:TT):Prop:=
  ∀ (pins:List (Addr × Obj)) (s:Shared) (σ:St) (H:Hp) (Q:Bool→Hp→Prop),Inv X pins σ H s→t σ H Q→wpAny (model X.prog X.w) X.A (isTrue e X.env (eval e X.env)) (TP X pins σ Q) X.xe s
def PW (X:Cx) (e:Expr) (t:TT):Prop:=
  ∀ (whole:Sem Value) (pins:List (Addr × Obj)) (s:Shared) (σ:St) (H:Hp) (Q:Bool→Hp→Prop),Inv X pins σ H s→t σ H Q→wpAny (model X.prog X.w) X.A (isTrue e X.env whole) (TP X pins σ Q) X.xe s
theorem PW.pt {X:Cx} {e:Expr} {t:TT} (h:PW X e t):PT X e t:=h _
def PA (X:Cx) (es:List Expr) (t:TA):Prop:=
  ∀ (pos:Pos) (pins:List (Addr × Obj)) (s:Shared) (σ:St) (H:Hp) (Q:List V→Hp→Prop),Inv X pins σ H s→t σ H Q→wpAny (model X.prog X.w) X.A (spliced (backTo pos (starEach es X.env))) (AP X pins σ Q) X.xe s
def PS (X:Cx) (st:Stmt) (t:TS):Prop:=
  ∀ (pins:List (Addr × Obj)) (s:Shared) (σ:St) (H:Hp) (D:Ends),Inv X pins σ H s→t D σ H→wpAny (model X.prog X.w) X.A (exec st X.env) (SP X pins D) X.xe s
def PSs (X:Cx) (st:List Stmt) (t:TS):Prop:=
  ∀ (pins:List (Addr × Obj)) (s:Shared) (σ:St) (H:Hp) (D:Ends),Inv X pins σ H s→t D σ H→wpAny (model X.prog X.w) X.A (execs st X.env) (SP X pins D) X.xe s
theorem thn {α:Type} {t:Sem α} {Q Q':α→Shared→Prop} {M:Model} {A:Around} {E:Value→Shared→Prop} {s:Shared} (h:wpAny M A t Q E s) (hQ:∀ a s,Q a s→Q' a s):wpAny M A t Q' E s:=wpAny_mono h hQ fun _ _ x=>x
end L2
namespace L2
open PySem PySem.Spec PyProof.Rows
section
variable {X:Cx}
def tVar (i:Nat):TE:=fun σ H Q=>∃ v,σ[i]?=some (some v)∧Q v H
def tC (v:V):TE:=fun _ H Q=>Q v H
theorem pe_var {i:Nat} {x:Str} {pos:Pos} (hN:X.N[i]?=some x) (hv:Vis X.env.scope x) (hd:(x == ("__debug__" : Str))=false:=by decide) (hcd:(x == ("__classdict__" : Str))=false:=by decide):PE X (.Name x pos) (tVar i):=by
  intro pins s σ H Q I h
  obtain ⟨v,e,h⟩:=h
  obtain ⟨m,hn,hl⟩:=I.loc
  obtain ⟨u,r,l⟩:=hl i x v hN e hv
  have fin:EP X pins σ Q u s:=⟨v,H,I,r,h⟩
  rcases l with ⟨hk,hm⟩ | ⟨hk,c,hc,hcell⟩
  · exact wpAny_Name (wpAny_loadName_local I.ok.kind hk hn hm fin) hd
  · rcases hk with hk | hk
    · exact wpAny_Name (wpAny_loadName_cell I.ok.kind hk hc hcell fin) hd
    · exact wpAny_Name (wpAny_loadName_free I.ok.kind hk hc hcell fin hcd) hd
theorem pe_int {i j pos}:PE X (.Constant (.int i) j pos) (tC (.int i)):=fun _ _ _ H _ I h=>wpAny_Constant_int ⟨.int i,H,I.tok _,⟨_,rfl⟩,h⟩
theorem pe_bl {b j pos}:PE X (.Constant (.bool b) j pos) (tC (.bl b)):=fun _ _ _ H _ I h=>Constant_bool ⟨.bl b,H,I,rfl,h⟩
theorem pe_non {j pos}:PE X (.Constant .none j pos) (tC .non):=fun _ _ _ H _ I h=>Constant_none ⟨.non,H,I,rfl,h⟩
theorem pe_str {x j pos}:PE X (.Constant (.str x) j pos) (tC (.str x)):=fun _ _ _ H _ I h=>Calls.Constant_str ⟨.str x,H,I.tok _,⟨_,rfl⟩,h⟩
def Gl (X:Cx) (x:Str):Prop:=X.env.kindOf x=some .globalImplicit
theorem ld_glob {E:Value→Shared→Prop} {pins:List (Addr × Obj)} {s:Shared} {σ:St} {H:Hp} {x:Str} {u:Value} {pos:Pos} {Q:Value→Shared→Prop} (I:Inv X pins σ H s) (hg:Gl X x) (hm:X.mg x=some u) (h:Q u s)
    (hd:(x == ("__debug__" : Str))=false:=by decide):wpAny (model X.prog X.w) X.A (eval (.Name x pos) X.env) Q E s:=
  Calls.Name_function_global I.ok.kind hg (Calls.loadGlobal_global (by rw [I.ok.glob];exact I.mod.glob.keeps I.bk) hm h) hd
theorem ld_blt {E:Value→Shared→Prop} {pins:List (Addr × Obj)} {s:Shared} {σ:St} {H:Hp} {x:Str} {u:Value} {pos:Pos} {Q:Value→Shared→Prop} (I:Inv X pins σ H s) (hg:Gl X x) (hm:X.mg x=none) (hv:bootBuiltins x=some u) (h:Q u s)
    (hn:x ≠ "__name__" := by decide) (hd:(x == ("__debug__" : Str))=false:=by decide):wpAny (model X.prog X.w) X.A (eval (.Name x pos) X.env) Q E s:=by
  obtain ⟨mb,h1,h2⟩:=I.mod.blt
  exact Calls.Name_function_global I.ok.kind hg (Calls.loadGlobal_builtin (by rw [I.ok.glob];exact I.mod.glob.keeps I.bk) hm (by rw [I.ok.blt];exact h1.keeps I.bk) ((h2 x hn).trans hv) h) hd
theorem pe_glob {x:Str} {v:V} {u:Value} {pos:Pos} (hg:Gl X x) (hm:X.mg x=some u) (r:RelV v u) (hd:(x == ("__debug__" : Str))=false:=by decide):PE X (.Name x pos) (tC v):=
  fun _ _ _ H _ I h=>ld_glob I hg hm ⟨v,H,I,r,h⟩ hd
theorem pe_bltn {x:Str} {v:V} {u:Value} {pos:Pos} (hg:Gl X x) (hm:X.mg x=none) (hv:bootBuiltins x=some u) (r:RelV v u) (hn:x ≠ "__name__" := by decide) (hd:(x == ("__debug__" : Str))=false:=by decide):PE X (.Name x pos) (tC v):=
  fun _ _ _ H _ I h=>ld_blt I hg hm hv ⟨v,H,I,r,h⟩ hn hd
variable {a b:Expr} {ta tb:TE} {pos:Pos}
def tB (t:TE):TT:=fun σ H Q=>t σ H fun x H1=>∃ c,x=.bl c∧Q c H1
theorem pt_val {e:Expr} {t:TE} (h:PE X e t) (he:∀ whole,isTrue e X.env whole=(do let v ← whole;standAt e.pos;holding [v] (truthy v)):=by intro _;rfl):PT X e (tB t):=by
  intro pins s σ H Q I hw
  refine isTrue_plain (thn (h pins s σ H _ I hw) fun v s1 ⟨x,H1,I1,r1,q1⟩=>?_) (he _)
  obtain ⟨d,rfl,q⟩:=q1
  cases r1
  exact wpAny_truthy_bool ⟨H1,I1,q⟩
variable {tA tB':TT} {rest:List Expr}
def tAnd (t u:TT):TT:=fun σ H Q=>t σ H fun c H1=>if c=true then u σ H1 Q else Q false H1
def tOr (t u:TT):TT:=fun σ H Q=>t σ H fun c H1=>if c=true then Q true H1 else u σ H1 Q
def tNot (t:TT):TT:=fun σ H Q=>t σ H fun c H1=>Q (!c) H1
theorem pw_and1 (ha:PT X a tA):PW X (.BoolOp .And [a] pos) tA:=by
  intro wh pins s σ H Q I h
  refine isTrue_and (thn (ha pins s σ H Q I h) fun c s1 e=>?_)
  cases c with
  | true=>exact isTrue_and_nil e
  | false=>exact e
theorem pw_or1 (ha:PT X a tA):PW X (.BoolOp .Or [a] pos) tA:=by
  intro wh pins s σ H Q I h
  refine isTrue_or (thn (ha pins s σ H Q I h) fun c s1 e=>?_)
  cases c with
  | false=>exact isTrue_or_nil e
  | true=>exact e
theorem pw_and (ha:PT X a tA) (hb:PW X (.BoolOp .And (b :: rest) pos) tB'):PW X (.BoolOp .And (a :: b :: rest) pos) (tAnd tA tB'):=by
  intro wh pins s σ H Q I h
  refine isTrue_and (thn (ha pins s σ H _ I h) fun c s1 ⟨H1,I1,q1⟩=>?_)
  cases c with
  | true=>exact hb wh pins s1 σ H1 Q I1 q1
  | false=>exact ⟨H1,I1,q1⟩
theorem pw_or (ha:PT X a tA) (hb:PW X (.BoolOp .Or (b :: rest) pos) tB'):PW X (.BoolOp .Or (a :: b :: rest) pos) (tOr tA tB'):=by
  intro wh pins s σ H Q I h
  refine isTrue_or (thn (ha pins s σ H _ I h) fun c s1 ⟨H1,I1,q1⟩=>?_)
  cases c with
  | true=>exact ⟨H1,I1,q1⟩
  | false=>exact hb wh pins s1 σ H1 Q I1 q1
theorem pt_not (ha:PT X a tA):PT X (.UnaryOp .Not a pos) (tNot tA):=by
  intro pins s σ H Q I h
  exact isTrue_not (ha pins s σ H (fun c H1=>Q (!c) H1) I h)
def tAndV (ta tb:TE):TE:=fun σ H Q=>ta σ H fun x H1=>∃ c,x=.bl c∧if c=true then tb σ H1 Q else Q (.bl false) H1
def tNotV (ta:TE):TE:=fun σ H Q=>ta σ H fun x H1=>∃ c,x=.bl c∧Q (.bl (!c)) H1
theorem pe_one {op} {t:TE} (h:PE X a t):PE X (.BoolOp op [a] pos) t:=fun pins s σ H Q I hw=>BoolOp_one (h pins s σ H Q I hw)
theorem pe_and (ha:PE X a ta) (hb:PE X (.BoolOp .And (b :: rest) pos) tb):PE X (.BoolOp .And (a :: b :: rest) pos) (tAndV ta tb):=by
  intro pins s σ H Q I h
  refine BoolOp_and (thn (ha pins s σ H _ I h) fun v s1 ⟨x,H1,I1,r1,q1⟩=>?_)
  obtain ⟨c,rfl,q1⟩:=q1
  cases r1
  refine wpAny_truthy_bool ?_
  cases c with
  | true=>exact hb pins s1 σ H1 Q I1 q1
  | false=>exact ⟨.bl false,H1,I1,rfl,q1⟩
theorem pe_not (ha:PE X a ta):PE X (.UnaryOp .Not a pos) (tNotV ta):=by
  intro pins s σ H Q I h
  refine UnaryOp_ (thn (ha pins s σ H _ I h) fun v s1 ⟨x,H1,I1,r1,q1⟩=>?_)
  obtain ⟨c,rfl,q1⟩:=q1
  cases r1
  exact not_of (wpAny_truthy_bool ⟨.bl (!c),H1,I1,rfl,q1⟩)
end
end L2
namespace L2
open PySem PySem.Spec PyProof.Rows
def SqL (K:PySem.W.Frag) (H:Hp) (a:Addr) (xs:List V):Prop:=
  Rd H a (.lst xs) ∨
    ∃ (o:Obj) (its:Array Value) (n:Nat),K.lookup a=some o∧o.cls=.type "list" ∧ o.dict=none∧o.data=.seq its n∧its.size≤sizeLine∧Vals xs its.toList
def SqT (K:PySem.W.Frag) (H:Hp) (a:Addr) (xs:List V):Prop:=
  Rd H a (.tup xs) ∨
    ∃ (o:Obj) (its:Array Value) (n:Nat),K.lookup a=some o∧o.cls=.type "tuple" ∧ o.data=.seq its n∧its.size≤sizeLine∧Vals xs its.toList
def absV:Value→Option V
  | .none=>some .non
  | .bool b=>some (.bl b)
  | .int i _=>some (.int i)
  | .str x _=>some (.str x)
  | .bytes b _=>some (.byt b)
  | .float b _=>some (.flt b)
  | .ref a=>some (.ref a)
  | .type n=>some (.ty n)
  | _=>none
theorem RelV.abs {x:V} {u:Value} (r:RelV x u):absV u=some x:=by
  cases x with
  | non=>cases r;rfl
  | bl _=>cases r;rfl
  | int _=>obtain ⟨t,rfl⟩:=r;rfl
  | str _=>obtain ⟨t,rfl⟩:=r;rfl
  | byt _=>obtain ⟨t,rfl⟩:=r;rfl
  | flt _=>obtain ⟨t,rfl⟩:=r;rfl
  | ref _=>cases r;rfl
  | ty _=>cases r;rfl
theorem RelV.inj {x y:V} {u:Value} (r:RelV x u) (q:RelV y u):x=y:=Option.some.inj (r.abs.symm.trans q.abs)
theorem Vals.inj:∀ {xs ys:List V} {us:List Value},Vals xs us→Vals ys us→xs=ys
  | _,_,_,.nil,.nil=>rfl
  | _,_,_,.cons r t,.cons r' t'=>by rw [r.inj r',Vals.inj t t']
section
variable {X:Cx} {pins:List (Addr × Obj)} {σ:St} {H:Hp} {s:Shared} {a:Addr} {xs ys:List V}
theorem SqL.of {K:PySem.W.Frag} (h:H a=some (.lst xs)):SqL K H a xs:=.inl (.inl h)
theorem SqT.of {K:PySem.W.Frag} (h:H a=some (.tup xs)):SqT K H a xs:=.inl (.inl h)
theorem Inv.list (I:Inv X pins σ H s) (h:SqL X.K H a xs):∃ its:List Value,Vals xs its∧PlainL s.heap a its.toArray∧xs.length≤sizeLine:=by
  rcases h with h | ⟨o,its,n,hk,hc,hd,hs,hz,r⟩
  · obtain ⟨z,its,n,r,e⟩:=h.ok I.hok
    exact ⟨its,r,⟨_,n,e,rfl,rfl,rfl⟩,z⟩
  · refine ⟨its.toList,r,⟨o,n,I.kIn a o hk,hc,hd,by simpa using hs⟩,?_⟩
    have e:=r.length
    simp only [Array.length_toList] at e
    omega
theorem Inv.tuple (I:Inv X pins σ H s) (h:SqT X.K H a xs):∃ its:List Value,Vals xs its∧IsTup s.heap a its.toArray∧xs.length≤sizeLine:=by
  rcases h with h | ⟨o,its,n,hk,hc,hs,hz,r⟩
  · obtain ⟨z,its,r,p⟩:=h.ok I.hok
    exact ⟨its,r,p,z.1⟩
  · refine ⟨its.toList,r,⟨o,I.kIn a o hk,hc,n,by simpa using hs⟩,?_⟩
    have e:=r.length
    simp only [Array.length_toList] at e
    omega
theorem Inv.tuple_inj (I:Inv X pins σ H s) (h:SqT X.K H a xs) (h':SqT X.K H a ys):xs=ys:=by
  obtain ⟨its,r,⟨o,e,_,n,d⟩,_⟩:=I.tuple h
  obtain ⟨its',r',⟨o',e',_,n',d'⟩,_⟩:=I.tuple h'
  rw [e] at e';cases e'
  rw [d] at d'
  injection d' with d1 _
  have:its=its':=by simpa using congrArg Array.toList d1
  subst this
  exact r.inj r'
end
abbrev Cx.wish (X:Cx) (E:Value→Shared→Prop):Cx:={ X with xe:=E }
abbrev Cx.nox (X:Cx):Cx:=X.wish fun _ _=>False
theorem Cx.Ok.wish {X:Cx} (ok:X.Ok) (E:Value→Shared→Prop):(X.wish E).Ok:=
  ⟨ok.mod,ok.kind,ok.glob,ok.blt,ok.above,ok.inj,ok.has,ok.cab,ok.hd,ok.frames,ok.stk,ok.exf,ok.bs,ok.bsz,ok.noex,ok.exfs,ok.funs,ok.frf⟩
theorem Cx.Ok.unwish {X:Cx} {E:Value→Shared→Prop} (ok:(X.wish E).Ok):X.Ok:=
  ⟨ok.mod,ok.kind,ok.glob,ok.blt,ok.above,ok.inj,ok.has,ok.cab,ok.hd,ok.frames,ok.stk,ok.exf,ok.bs,ok.bsz,ok.noex,ok.exfs,ok.funs,ok.frf⟩
section
variable {X:Cx} {pins:List (Addr × Obj)} {σ:St} {H:Hp} {s:Shared} {E:Value→Shared→Prop}
theorem Inv.wish (I:Inv X pins σ H s) (E:Value→Shared→Prop):Inv (X.wish E) pins σ H s:=⟨I.ok.wish E,I.os,I.bare,I.base,I.loc,I.cell,I.free,I.freeC,I.pin,I.hok,I.len⟩
theorem Inv.unwish (I:Inv (X.wish E) pins σ H s):Inv X pins σ H s:=⟨I.ok.unwish,I.os,I.bare,I.base,I.loc,I.cell,I.free,I.freeC,I.pin,I.hok,I.len⟩
theorem SP.unwish {D:Ends} {f:Flow} {s':Shared} (h:SP (X.wish E) pins D f s'):SP X pins D f s':=by
  cases f with
  | next=>obtain ⟨σ',H',I,q⟩:=h;exact ⟨σ',H',I.unwish,q⟩
  | brk=>obtain ⟨σ',H',I,q⟩:=h;exact ⟨σ',H',I.unwish,q⟩
  | cont=>obtain ⟨σ',H',I,q⟩:=h;exact ⟨σ',H',I.unwish,q⟩
  | ret u=>obtain ⟨v,σ',H',I,r,q⟩:=h;exact ⟨v,σ',H',I.unwish,r,q⟩
theorem PSs.nox {st:List Stmt} {t:TS} (h:PSs X.nox st t):PSs X st t:=fun pins s σ H D I hw=>
  wpAny_mono (h pins s σ H D (I.wish _) hw) (fun _ _ q=>q.unwish) fun _ _ z=>False.elim z
end
section
variable {X:Cx} {st:Stmt} {rest:List Stmt} {t u:TS} {e:Expr} {te:TE} {pos:Pos}
def tNext:TS:=fun D σ H=>D.nx σ H
def tSeq (t u:TS):TS:=fun D σ H=>t { D with nx:=u D } σ H
theorem pss_nil:PSs X [] tNext:=fun _ _ σ H _ I h=>wpAny_execs_nil ⟨σ,H,I,h⟩
theorem pss_cons (h1:PS X st t) (h2:PSs X rest u):PSs X (st :: rest) (tSeq t u):=by
  intro pins s σ H D I h
  refine wpAny_execs_cons (thn (h1 pins s σ H { D with nx:=u D } I h) fun f s1 q=>?_)
  cases f with
  | next=>
    obtain ⟨σ',H',I',q⟩:=q
    exact h2 pins s1 σ' H' D I' q
  | ret v=>exact q
  | brk=>exact q
  | cont=>exact q
theorem pss_one (h1:PS X st t):PSs X [st] t:=by
  intro pins s σ H D I h
  refine wpAny_execs_cons (thn (h1 pins s σ H D I h) fun f s1 q=>?_)
  cases f with
  | next=>exact wpAny_execs_nil q
  | ret v=>exact q
  | brk=>exact q
  | cont=>exact q
theorem Inv.quiet {pins:List (Addr × Obj)} {σ:St} {H:Hp} {s:Shared} (I:Inv X pins σ H s):interactive X.env=false:=by simp [interactive,I.ok.kind]
def tDrop (te:TE):TS:=fun D σ H=>te σ H fun _ H1=>D.nx σ H1
theorem ps_expr (he:PE X e te) (hs:swapsWith e none pos.line X.env=pure false:=by rfl):PS X (.Expr e pos) (tDrop te):=by
  intro pins s σ H D I h
  exact wpAny_Expr_any (thn (he pins s σ H _ I h) fun v s1 ⟨x,H1,I1,r1,q1⟩=>⟨σ,H1,I1,q1⟩) I.quiet hs
def tRet (te:TE):TS:=fun D σ H=>te σ H D.rt
theorem ps_ret (he:PE X e te):PS X (.Return (some e) pos) (tRet te):=by
  intro pins s σ H D I h
  exact wpAny_Return_some (thn (he pins s σ H _ I h) fun v s1 ⟨x,H1,I1,r1,q1⟩=>⟨x,σ,H1,I1,r1,q1⟩)
def tIfS (c:TT) (t u:TS):TS:=fun D σ H=>c σ H fun b H1=>if b=true then t D σ H1 else u D σ H1
theorem ps_if {c:Expr} {a b:List Stmt} {tc:TT} (hc:PT X c tc) (ha:PSs X a t) (hb:PSs X b u):PS X (.If c a b pos) (tIfS tc t u):=by
  intro pins s σ H D I h
  refine wpAny_If (thn (hc pins s σ H _ I h) fun d s1 ⟨H1,I1,q1⟩=>?_)
  cases d with
  | true=>exact ha pins s1 σ H1 D I1 q1
  | false=>exact hb pins s1 σ H1 D I1 q1
end
abbrev TG:=V→St→Hp→(St→Hp→Prop)→Prop
abbrev TGs:=List V→St→Hp→(St→Hp→Prop)→Prop
def PG (X:Cx) (target:Expr) (t:TG):Prop:=
  ∀ (pins:List (Addr × Obj)) (s:Shared) (σ:St) (H:Hp) (v:V) (u:Value) (Q:St→Hp→Prop),Inv X pins σ H s→RelV v u→t v σ H Q →
    wpAny (model X.prog X.w) X.A (assign target X.env u) (fun _ s'=>∃ σ' H',Inv X pins σ' H' s'∧Q σ' H') X.xe s
def PGs (X:Cx) (ts:List Expr) (t:TGs):Prop:=
  ∀ (pins:List (Addr × Obj)) (s:Shared) (σ:St) (H:Hp) (vs:List V) (us:List Value) (Q:St→Hp→Prop),Inv X pins σ H s→Vals vs us→t vs σ H Q →
    wpAny (model X.prog X.w) X.A (assignInOrder ((assignEach ts X.env).map (·.2)) us) (fun _ s'=>∃ σ' H',Inv X pins σ' H' s'∧Q σ' H') X.xe s
abbrev TSet:=V→V→V→Hp→(Hp→Prop)→Prop
def PSet (X:Cx) (t:TSet):Prop:=
  ∀ (pins:List (Addr × Obj)) (s:Shared) (σ:St) (H:Hp) (o i v:V) (ov iv u:Value) (Q:Hp→Prop),Inv X pins σ H s→RelV o ov→RelV i iv→RelV v u→t o i v H Q →
    wpAny (model X.prog X.w) X.A (setItem ov iv u) (fun _ s'=>∃ H',Inv X pins σ H' s'∧Q H') X.xe s
section
variable {X:Cx} {pos:Pos}
def gName (i:Nat):TG:=fun v σ H Q=>Q (σ.set i (some v)) H
theorem pg_name {i:Nat} {x:Str} (hN:X.N.Nodup) (hi:X.N[i]?=some x) (hx:Loc X.env.scope x) (hf:X.fn x=true∨X.env.scope.names.lookup x=some .local:=by first | exact .inl rfl | exact .inr rfl | assumption):PG X (.Name x pos) (gName i):=by
  intro pins s σ H v u Q I r h
  exact wpAny_assign_Name (store_ok I hN hi hx r (fun s' I'=>⟨_,H,I',h⟩) hf)
def gNil:TGs:=fun vs σ H Q=>vs=[]∧Q σ H
def gCons (t:TG) (u:TGs):TGs:=fun vs σ H Q=>∃ v r,vs=v :: r∧t v σ H fun σ' H'=>u r σ' H' Q
theorem pgs_nil:PGs X [] gNil:=by
  intro pins s σ H vs us Q I r h
  obtain ⟨e,h⟩:=h
  subst e
  cases r
  exact assignInOrder_nil ⟨σ,H,I,h⟩
theorem pgs_cons {e:Expr} {es:List Expr} {t:TG} {u:TGs} (h1:PG X e t) (h2:PGs X es u)
    (hs:(assignEach (e :: es) X.env).map (·.2)=assign e X.env :: (assignEach es X.env).map (·.2):=by rfl):PGs X (e :: es) (gCons t u):=by
  intro pins s σ H vs us Q I r h
  obtain ⟨v,vr,e1,h⟩:=h
  subst e1
  cases r with
  | cons r rr=>
    rw [hs]
    refine assignInOrder_cons (thn (h1 pins s σ H _ _ _ I r h) fun _ s1 ⟨σ1,H1,I1,q1⟩=>?_)
    exact h2 pins s1 σ1 H1 _ _ Q I1 rr q1
def gTup (K:PySem.W.Frag) (n:Nat) (t:TGs):TG:=fun v σ H Q=>∃ a xs,v=.ref a∧SqT K H a xs∧xs.length=n∧t xs σ H Q
theorem pg_tup {es:List Expr} {k:Nat} {t:TGs} {n:Nat} (hc:X.calm=true) (h:PGs X es t)
    (hn:(assignEach es X.env).length=n:=by rfl) (hst:(assignEach es X.env).findIdx? (·.1)=none:=by rfl):PG X (.Tuple es k pos) (gTup X.K n t):=by
  intro pins s σ H v u Q I r hw
  obtain ⟨a,xs,e1,hq,hl,hw⟩:=hw
  subst e1
  cases r
  obtain ⟨its,rv,ht,hz⟩:=I.tuple hq
  refine assign_Tuple_tuple (I.ok.hd hc) ht (by simp [hn,← hl,rv.length]) hst fun h' hx=>?_
  have I1:Inv X pins σ H { s with heap:=h' }:=I.kept (t':=s.toks) fun b o e=>hx b o (Nat.ne_of_lt (Heap.lt_size e)) e
  exact h pins _ σ H xs _ Q I1 (by simpa using rv) hw
def gSub (to ti:TE) (t:TSet):TG:=fun v σ H Q=>to σ H fun o H1=>ti σ H1 fun i H2=>t o i v H2 fun H3=>Q σ H3
theorem pg_sub {o i:Expr} {to ti:TE} {t:TSet} (ho:PE X o to) (hi:PE X i ti) (hs:PSet X t)
    (ha:∀ v,assign (.Subscript o i pos) X.env v=(do
      let ov ← holding [v] (eval o X.env)
      let iv ← holding [v,ov] (eval i X.env)
      standAt pos
      holding [v,ov,iv] (setItem ov iv v)
      release [v,ov,iv] []):=by intro _;rfl):PG X (.Subscript o i pos) (gSub to ti t):=by
  intro pins s σ H v u Q I r h
  rw [ha]
  refine wpAny_bind (wpAny_holding (thn (ho pins s σ H _ I h) fun ov s1 ⟨x,H1,I1,r1,q1⟩=>?_))
  refine wpAny_bind (wpAny_holding (thn (hi pins s1 σ H1 _ I1 q1) fun iv s2 ⟨y,H2,I2,r2,q2⟩=>?_))
  refine wpAny_bind (wpAny_standAt (wpAny_bind (wpAny_holding (thn (hs pins s2 σ H2 x y v ov iv u _ I2 r1 r2 r q2) fun _ s3 ⟨H3,I3,q3⟩=>?_))))
  exact wpAny_release ⟨σ,H3,I3,q3⟩
def tAsg (te:TE) (g:TG):TS:=fun D σ H=>te σ H fun x H1=>g x σ H1 D.nx
theorem ps_asg {tg e:Expr} {te:TE} {g:TG} (he:PE X e te) (hg:PG X tg g) (hs:swapsWithSole [tg] e pos.line X.env=pure false:=by rfl) (hw:swappedStores [tg] e X.env=pure none:=by rfl)
    (h1:(assignEach [tg] X.env).map (·.2)=[assign tg X.env]:=by rfl):PS X (.Assign [tg] e pos) (tAsg te g):=by
  intro pins s σ H D I h
  refine wpAny_Assign_stores (thn (he pins s σ H _ I h) fun v s1 ⟨x,H1,I1,r1,q1⟩=>?_) hs hw
  rw [h1]
  exact thn (hg pins s1 σ H1 x v _ I1 r1 q1) fun _ s2 q=>q
theorem ps_set {i:Nat} {x:Str} {e:Expr} {te:TE} {pos':Pos} (hN:X.N.Nodup) (hi:X.N[i]?=some x) (hx:Loc X.env.scope x) (he:PE X e te) (hs:swapsWith e (some (.Name x pos')) pos.line X.env=pure false:=by rfl) (hf:X.fn x=true∨X.env.scope.names.lookup x=some .local:=by first | exact .inl rfl | exact .inr rfl | assumption) :
    PS X (.Assign [.Name x pos'] e pos) (tAsg te (gName i)):=by
  intro pins s σ H D I h
  refine wpAny_Assign_Name (thn (he pins s σ H _ I h) fun v s1 ⟨y,H1,I1,r1,q1⟩=>?_) hs
  exact store_ok I1 hN hi hx r1 (fun s2 I2=>⟨_,H1,I2,q1⟩) hf
end
section
variable {X:Cx} {pos:Pos}
end
structure It where
  go:Nat→Hp→Prop
  yld:Nat→Hp→V→Hp→Prop
  stop:Nat→Hp→Prop
def FpOk (X:Cx) (pins:List (Addr × Obj)) (H:Hp) (b:Addr):Prop:=
  H b=none∧b≠X.env.locals∧b ∉ X.fs∧(b∈X.ex∨X.s₀.heap.objs.size≤b)∧(∀ x c,X.env.cells.lookup x=some c→c≠b)∧∀ p∈X.pn++pins,p.1≠b
theorem Inv.fpOk {X:Cx} {pins:List (Addr × Obj)} {σ:St} {H H':Hp} {s:Shared} {b:Addr} (I:Inv X pins σ H s) (hb:s.heap.objs.size≤b) (hn:H' b=none):FpOk X pins H' b:=by
  refine ⟨hn,Nat.ne_of_gt (Nat.lt_of_lt_of_le I.lt hb),I.nofs hb,.inr (Nat.le_trans I.sz hb),fun x c e z=>?_,fun p hp z=>?_⟩
  · obtain ⟨v,q⟩:=I.cell x c e
    exact absurd (Nat.lt_of_lt_of_le q.lt (by rw [z];exact hb)) (Nat.lt_irrefl _)
  · exact absurd (Nat.lt_of_lt_of_le (Heap.lt_size (I.pin p hp).1) (by rw [z];exact hb)) (Nat.lt_irrefl _)
structure Turn (P:Program) (w:World) (K:PySem.W.Frag) (tg:Expr) (J:It) (fp:List Addr) (it:Addr) (tn:Nat→Heap→Prop):Prop where
  mem:it∈fp
  obj:∀ i h,tn i h→∀ b∈fp,∃ o,h.get? b=some o∧∀ v,o.data≠.cell v
  keep:∀ i h h',tn i h→(∀ b∈fp,∀ o,h.get? b=some o→h'.get? b=some o)→tn i h'
  item:∀ (X:Cx),X.prog=P→X.w=w→X.K=K→X.calm=true→∀ (i:Nat) (pins:List (Addr × Obj)) (s:Shared) (σ:St) (H:Hp) (E:Value→Shared→Prop),Inv X pins σ H s→(∀ b∈fp,FpOk X pins H b)→tn i s.heap→J.go i H →
    wpAny (model P w) X.A (pyNext (.ref it)) (fun r s1=>∃ u,r=some u ∧
      wpAny (model P w) X.A (letOwnedTupleGo tg (.ref it) u) (fun _ s2=>∃ x H',Inv X pins σ H' s2∧RelV x u∧J.yld i H x H'∧tn (i+1) s2.heap∧∀ b∈fp,H' b=none) E s1) E s
  done:∀ (X:Cx),X.prog=P→X.w=w→X.K=K→X.calm=true→∀ (i:Nat) (pins:List (Addr × Obj)) (s:Shared) (σ:St) (H:Hp) (E:Value→Shared→Prop),Inv X pins σ H s→(∀ b∈fp,FpOk X pins H b)→tn i s.heap→J.stop i H →
    wpAny (model P w) X.A (pyNext (.ref it)) (fun r s1=>r=none∧Inv X pins σ H s1) E s
  self:∀ (A:Around) (i:Nat) (s:Shared) (Q:Value→Shared→Prop) (E:Value→Shared→Prop),tn i s.heap→Q (.ref it) s→wpAny (model P w) A (pyIter (.ref it)) Q E s
abbrev TI:=St→Hp→(It→Hp→Prop)→Prop
def PIE (X:Cx) (pins:List (Addr × Obj)) (σ:St) (tg:Expr) (R:It→Hp→Prop) (itv:Value) (s2:Shared):Prop:=
  ∃ (it:Addr) (fp:List Addr) (tn:Nat→Heap→Prop) (J:It) (H':Hp),itv=.ref it∧Inv X pins σ H' s2∧Turn X.prog X.w X.K tg J fp it tn∧tn 0 s2.heap∧(∀ b∈fp,FpOk X pins H' b)∧R J H'
def PI (X:Cx) (tg iter:Expr) (wi:TI):Prop:=
  ∀ (pins:List (Addr × Obj)) (s:Shared) (σ:St) (H:Hp) (R:It→Hp→Prop),Inv X pins σ H s→wi σ H R →
    wpAny (model X.prog X.w) X.A (eval iter X.env) (fun v s1=>wpAny (model X.prog X.w) X.A (pyIter v) (PIE X pins σ tg R) X.xe s1) X.xe s
theorem go_of {M:Model} {A:Around} {E:Value→Shared→Prop} {s:Shared} {tg:Expr} {it:Addr} {u:Value} {o:Obj} {n:String} {vs:Array Value} {Q:Unit→Shared→Prop} (ho:s.heap.get? it=some o) (hc:o.cls=.type n) (hd:o.data=.fields vs)
    (hn:["enumerate", "zip", "dict_itemiterator", "dict_reverseitemiterator", "odict_iterator", "itertools.zip_longest", "itertools.pairwise"].contains n=false) (hQ:Q () s):wpAny M A (letOwnedTupleGo tg (.ref it) u) Q E s:=by
  unfold letOwnedTupleGo
  cases tg <;> first
    | exact wpAny_pure hQ
    | (cases u <;> first
        | exact wpAny_pure hQ
        | (refine wpAny_bind (wpAny_load ho ?_)
           rw [hc,hd]
           show wpAny M A (if (["enumerate", "zip", "dict_itemiterator", "dict_reverseitemiterator", "odict_iterator", "itertools.zip_longest", "itertools.pairwise"].contains n && vs[0]? == some (rawInt _))=true then _ else _) Q E s
           rw [if_neg (by intro h;rw [hn,Bool.false_and] at h;cases h)]
           exact wpAny_pure hQ))
def Itt (K:PySem.W.Frag) (a:Addr):It:=
  ⟨fun i H=>∃ xs x,SqT K H a xs∧xs[i]?=some x,fun i H x H'=>H'=H∧∀ xs,SqT K H a xs→xs[i]?=some x,fun i H=>∃ xs,SqT K H a xs∧xs.length≤i⟩
def Itr (lo:Int) (n:Nat):It:=⟨fun i _=>i < n,fun i H x H'=>H'=H∧x=.int (lo+i),fun i _=>n≤i⟩
theorem turn_tuple {P:Program} {w:World} {K:PySem.W.Frag} {tg:Expr} (a it:Addr):Turn P w K tg (Itt K a) [it] it (fun i h=>h.IsTupleIter it a i) where
  mem:=by simp
  obj:=fun i h st b hb=>by
    have e:b=it:=by simpa using hb
    subst e
    obtain ⟨o,e,c,d⟩:=st
    exact ⟨o,e,fun v z=>by rw [d] at z;cases z⟩
  keep:=fun i h h' st k=>st.at fun o e=>k it (by simp) o e
  item:=by
    intro X hP hw hK hc i pins s σ H E I hf st hg
    subst hP hw hK
    obtain ⟨xs,x,hq,hx⟩:=hg
    obtain ⟨its,rv,p,hz⟩:=I.tuple hq
    obtain ⟨u,hu,ru⟩:=rv.get hx
    obtain ⟨f0,f1,f2,f3,f4,f5⟩:=hf it (by simp)
    refine wpAny_pyNext_tuple_item st (show s.heap.IsTuple a its.toArray from p) (x:=u) (by simpa using hu) fun h' st' sb=>?_
    have I1:Inv X pins σ H { s with heap:=h' }:=I.turned (t':=s.toks) (fun b o hb e=>(sb.2 b hb).trans e) f0 f1 f3 f4 f5
    obtain ⟨o,e,c,d⟩:=id st'
    exact ⟨u,rfl,go_of (s:={ s with heap:=h' }) e c d (by decide) ⟨x,H,I1,ru,⟨rfl,fun ys hy=>by rw [I.tuple_inj hy hq];exact hx⟩,st',fun b hb=>(hf b hb).1⟩⟩
  done:=by
    intro X hP hw hK hc i pins s σ H E I hf st hg
    subst hP hw hK
    obtain ⟨xs,hq,hx⟩:=hg
    obtain ⟨its,rv,p,hz⟩:=I.tuple hq
    obtain ⟨f0,f1,f2,f3,f4,f5⟩:=hf it (by simp)
    have hl:=rv.length
    exact wpAny_pyNext_tuple_end (I.ok.hd hc) st (show s.heap.IsTuple a its.toArray from p) (by simp;omega) fun h' eb=>⟨rfl,I.turned (t':=s.toks) (fun b o hb e=>eb b o hb e) f0 f1 f3 f4 f5⟩
  self:=fun _ _ _ _ _ st h=>wpAny_pyIter_tupleiter st h
theorem turn_range {P:Program} {w:World} {K:PySem.W.Frag} {tg:Expr} (it:Addr) (lo:Int) (n:Nat):Turn P w K tg (Itr lo n) [it] it (fun i h=>IsRangeIter h it (lo+(i:Nat) * 1) ((n:Int) - (i:Nat)) 1) where
  mem:=by simp
  obj:=fun i h st b hb=>by
    have e:b=it:=by simpa using hb
    subst e
    exact ⟨_,st,fun v z=>by
      have z':Data.fields _=Data.cell v:=z
      cases z'⟩
  keep:=fun i h h' st k=>k it (by simp) _ st
  item:=by
    intro X hP hw hK hc i pins s σ H E I hf st hg
    subst hP hw hK
    obtain ⟨f0,f1,f2,f3,f4,f5⟩:=hf it (by simp)
    have W:=Walks.range (prog:=X.prog) (w:=X.w) (I.ok.hd hc) it lo 1 n
    refine W.item i s _ _ hg st fun v h' tk hv st' kk=>?_
    obtain ⟨t,rfl⟩:=hv
    have I1:Inv X pins σ H { s with heap:=h',toks:=tk }:=I.turned (fun b o hb e=>kk b o (by simpa using hb) e) f0 f1 f3 f4 f5
    refine ⟨_,rfl,go_of (s:={ s with heap:=h',toks:=tk }) (n := "range_iterator") st' rfl rfl (by decide) ⟨.int (lo+i),H,I1,⟨t,?_⟩,⟨rfl,rfl⟩,st',fun b hb=>(hf b hb).1⟩⟩
    rw [Int.mul_one]
  done:=by
    intro X hP hw hK hc i pins s σ H E I hf st hg
    subst hP hw hK
    obtain ⟨f0,f1,f2,f3,f4,f5⟩:=hf it (by simp)
    exact wpAny_pyNext_range_end (I.ok.hd hc) st (by have:n≤i:=hg;omega) fun h' eb=>⟨rfl,I.turned (t':=s.toks) (fun b o hb e=>eb b o hb e) f0 f1 f3 f4 f5⟩
  self:=fun _ _ _ _ _ st h=>wpAny_pyIter_rangeiter st h
end L2
namespace L2
open PySem PySem.Spec PyProof.Rows
section
variable {X:Cx} {tg:Expr}
def iTup (K:PySem.W.Frag) (tl:TE):TI:=fun σ H R=>tl σ H fun x H1=>∃ a,x=.ref a∧(∃ xs,SqT K H1 a xs)∧R (Itt K a) H1
theorem pi_tup {l:Expr} {tl:TE} (hl:PE X l tl):PI X tg l (iTup X.K tl):=by
  intro pins s σ H R I h
  refine thn (hl pins s σ H _ I h) fun v s1 ⟨x,H1,I1,r1,q1⟩=>?_
  obtain ⟨a,e,⟨xs,hq⟩,q⟩:=q1
  subst e
  cases r1
  obtain ⟨its,rv,p,hz⟩:=I1.tuple hq
  refine wpAny_pyIter_tuple (show s1.heap.IsTuple a its.toArray from p) ?_
  refine ⟨s1.heap.objs.size,[s1.heap.objs.size],_,_,H1,rfl,I1.kept (t':=s1.toks) fun b o e=>Heap.get?_push_of_some _ e,turn_tuple a _,⟨_,Heap.get?_push_size _ rfl,rfl,rfl⟩,fun b hb=>?_,q⟩
  have e:b=s1.heap.objs.size:=by simpa using hb
  subst e
  exact I1.fpOk (Nat.le_refl _) (I1.hok.fresh (Nat.le_refl _))
theorem range_it {pins:List (Addr × Obj)} {σ:St} {H:Hp} {s:Shared} {R:It→Hp→Prop} {E:Value→Shared→Prop} {lo hi:Int} {t u v:Tok} {tk:Nat} (I:Inv X pins σ H s) (h1:-(2 ^ 62)≤lo) (h2:lo < 2 ^ 62) (h3:-(2 ^ 62)≤hi) (h4:hi < 2 ^ 62)
    (q:R (Itr lo (hi - lo).toNat) H):wpAny (model X.prog X.w) X.A (pyIter (.ref s.heap.objs.size)) (PIE X pins σ tg R) E { s with heap:=s.heap.push { cls:=.type "range", data:=.fields #[.int lo t,.int hi u,.int 1 v] },toks:=tk }:=by
  refine wpAny_pyIter_range (IsRange.new ..) (small_one h1 h2 h3 h4) ?_
  have I1:Inv X pins σ H { s with heap:=s.heap.push { cls:=.type "range", data:=.fields #[.int lo t,.int hi u,.int 1 v] },toks:=tk }:=I.kept fun b o e=>Heap.get?_push_of_some _ e
  refine ⟨(s.heap.push { cls:=.type "range", data:=.fields #[.int lo t,.int hi u,.int 1 v] }).objs.size,[(s.heap.push { cls:=.type "range", data:=.fields #[.int lo t,.int hi u,.int 1 v] }).objs.size],_,_,H,rfl,
    I1.kept (t':=tk) fun b o e=>Heap.get?_push_of_some _ e,turn_range _ lo (hi - lo).toNat,?_,fun b hb=>?_,q⟩
  · have e1:lo+((0:Nat):Int) * 1=lo:=by simp
    have e2:(((hi - lo).toNat:Nat):Int) - ((0:Nat):Int)=Builtin.Range.rangeSize lo hi 1:=by rw [rangeSize_one];split <;> omega
    show IsRangeIter _ _ (lo+((0:Nat):Int) * 1) ((((hi - lo).toNat:Nat):Int) - ((0:Nat):Int)) 1
    rw [e1,e2]
    exact Heap.get?_push_size _ rfl
  · have e:b=(s.heap.push { cls:=.type "range", data:=.fields #[.int lo t,.int hi u,.int 1 v] }).objs.size:=by simpa using hb
    subst e
    exact I1.fpOk (Nat.le_refl _) (I1.hok.fresh (Nat.le_refl _))
def iRng1 (ta:TA):TI:=fun σ H R=>ta σ H fun vs H1=>∃ j:Int,vs=[.int j]∧-(2 ^ 62)≤j∧j < 2 ^ 62∧R (Itr 0 j.toNat) H1
def iRng2 (ta:TA):TI:=fun σ H R=>ta σ H fun vs H1=>∃ i j:Int,vs=[.int i,.int j]∧(-(2 ^ 62)≤i∧i < 2 ^ 62∧-(2 ^ 62)≤j∧j < 2 ^ 62)∧R (Itr i (j - i).toNat) H1
theorem pi_range1 {a:Expr} {ta:TA} {p pos:Pos} (hg:Gl X "range") (hm:X.mg "range" = none) (ha:PA X [a] ta) (hs:starEach [a] X.env=[(false,eval a X.env)]:=by rfl):PI X tg (.Call (.Name "range" p) [a] [] pos) (iRng1 ta):=by
  intro pins s σ H R I h
  refine Call_ (ld_blt I hg hm boot_range (PyProof.Rows.callWith_type1 (thn (ha pos pins s σ H _ I h) fun us s1 ⟨vs,H1,I1,r1,q1⟩=>?_) hs rfl))
  obtain ⟨j,e,q1,q2,q⟩:=q1
  subst e
  cases r1 with
  | cons r rr=>
    cases rr
    obtain ⟨t,rfl⟩:=r
    exact call_range_1 (range_it I1 (by omega) (by omega) q1 q2 (by simpa using q))
theorem pi_range2 {a b:Expr} {ta:TA} {p pos:Pos} (hg:Gl X "range") (hm:X.mg "range" = none) (ha:PA X [a,b] ta) (hs:starEach [a,b] X.env=[(false,eval a X.env),(false,eval b X.env)]:=by rfl) (hs2:starEach [b] X.env=[(false,eval b X.env)]:=by rfl) :
    PI X tg (.Call (.Name "range" p) [a,b] [] pos) (iRng2 ta):=by
  intro pins s σ H R I h
  refine Call_ (ld_blt I hg hm boot_range (PyProof.Rows.callWith_type1 (thn (ha pos pins s σ H _ I h) fun us s1 ⟨vs,H1,I1,r1,q1⟩=>?_) (by rw [hs,hs2]) (by rw [hs2];rfl)))
  obtain ⟨i,j,e,⟨q1,q2,q3,q4⟩,q⟩:=q1
  subst e
  cases r1 with
  | cons r rr=>
    cases rr with
    | cons r' rr=>
      cases rr
      obtain ⟨t,rfl⟩:=r
      obtain ⟨t',rfl⟩:=r'
      exact call_range_2 (range_it I1 q1 q2 q3 q4 q)
def tFor (wi:TI) (g:TG) (tb:TS):TS:=fun D σ H=>wi σ H fun J H1=>∃ W:Nat→Nat→St→Hp→Prop,(∃ m,W 0 m σ H1)∧∀ i m σ H,W i m σ H →
  (J.stop i H∧D.nx σ H)∨(J.go i H∧∃ N:St→Hp→Prop,(∀ σ' H',N σ' H'→∃ m',m' < m∧W (i+1) m' σ' H')∧∀ x H',J.yld i H x H'→g x σ H' fun σ2 H2=>tb { D with nx:=N,ct:=N,bk:=D.nx } σ2 H2)
def pinsAt (fp:List Addr) (h:Heap):List (Addr × Obj):=fp.filterMap fun b=>(h.get? b).map fun o=>(b,o)
theorem mem_pinsAt {fp:List Addr} {h:Heap} {b:Addr} {o:Obj} (hb:b∈fp) (e:h.get? b=some o):(b,o)∈pinsAt fp h:=List.mem_filterMap.mpr ⟨b,hb,by rw [e];rfl⟩
theorem of_pinsAt {fp:List Addr} {h:Heap} {p:Addr × Obj} (hp:p∈pinsAt fp h):p.1∈fp∧h.get? p.1=some p.2:=by
  obtain ⟨b,hb,e⟩:=List.mem_filterMap.mp hp
  cases q:h.get? b with
  | none=>rw [q] at e;cases e
  | some o=>
    rw [q] at e
    have e':(b,o)=p:=Option.some.inj e
    subst e'
    exact ⟨hb,q⟩
theorem Inv.pinned {pins:List (Addr × Obj)} {σ:St} {H:Hp} {s:Shared} {fp:List Addr} (I:Inv X pins σ H s) (hf:∀ b∈fp,FpOk X pins H b) (ho:∀ b∈fp,∃ o,s.heap.get? b=some o∧∀ v,o.data≠.cell v):Inv X (pins++pinsAt fp s.heap) σ H s:=
  I.pins_of fun p hp=>(List.mem_append.mp hp).elim (fun z=>I.pin p (List.mem_append_right _ z)) fun z=>by
    obtain ⟨hb,e⟩:=of_pinsAt z
    obtain ⟨f0,f1,f2,_⟩:=hf p.1 hb
    obtain ⟨o,e',d⟩:=ho p.1 hb
    rw [e] at e';cases e'
    exact ⟨e,f0,f1,f2,d⟩
theorem Inv.unpinned {pins pl:List (Addr × Obj)} {σ:St} {H:Hp} {s:Shared} (I:Inv X (pins++pl) σ H s):Inv X pins σ H s:=I.pins_of fun p hp=>I.pin p (List.mem_append_right _ (List.mem_append_left _ hp))
theorem ps_for {iter:Expr} {body:List Stmt} {wi:TI} {g:TG} {tb:TS} {pos:Pos} (hp:PassesOwn (model X.prog X.w) X.A X.env X.xe) (hc:X.calm=true) (hi:PI X tg iter wi) (hg:PG X tg g) (hb:PSs X body tb)
    (hs:∀ x,foldedSetIterable iter X.env x=pure x:=by intro _;rfl):PS X (.For tg iter body [] pos) (tFor wi g tb):=by
  intro pins s σ H D I h
  refine wpAny_For (thn (hi pins s σ H _ I h) fun v s1 h1=>thn h1 fun itv s2 h2=>?_) hs
  obtain ⟨it,fp,tn,J,H2,e,I2,T,st2,f2,W,⟨m0,w0⟩,turn⟩:=h2
  subst e
  have stat:∀ {H':Hp},(∀ b∈fp,H' b=none)→∀ b∈fp,FpOk X pins H' b:=fun hn b hb=>⟨hn b hb,(f2 b hb).2⟩
  refine codeAny_forLoop_any (fun n s'=>∃ i σ' H',Inv X pins σ' H' s'∧tn i s'.heap∧(∀ b∈fp,H' b=none)∧W i n σ' H') ?_ m0 ⟨0,σ,H2,I2,st2,fun b hb=>(f2 b hb).1,w0⟩
  rintro n s3 ⟨i,σ3,H3,I3,st3,fr3,w3⟩
  rcases turn i n σ3 H3 w3 with ⟨stop,qn⟩ | ⟨go,N,hN,step⟩
  · refine wpAny_passesOwn hp (thn (T.done X rfl rfl rfl hc i pins s3 σ3 H3 X.xe I3 (stat fr3) st3 stop) fun r s4 ⟨hr,I4⟩=>?_)
    subst hr
    exact wpAny_execs_nil ⟨σ3,H3,I4,qn⟩
  · refine wpAny_passesOwn hp (thn (T.item X rfl rfl rfl hc i pins s3 σ3 H3 X.xe I3 (stat fr3) st3 go) fun r s4 ⟨u,hr,h4⟩=>?_)
    subst hr
    refine wpAny_passesOwn hp (thn h4 fun _ s5 ⟨x,H5,I5,r5,y5,st5,fr5⟩=>?_)
    have I5':=I5.pinned (stat fr5) (T.obj _ _ st5)
    refine wpAny_passesOwn hp (thn (hg _ s5 σ3 H5 x u _ I5' r5 (step x H5 y5)) fun _ s6 ⟨σ6,H6,I6,q6⟩=>?_)
    refine wpAny_passesOwn hp (thn (hb _ s6 σ6 H6 _ I6 q6) fun f s7 q7=>?_)
    have again:∀ {σ7:St} {H7:Hp},Inv X (pins++pinsAt fp s5.heap) σ7 H7 s7→N σ7 H7→∃ m,m < n∧∃ i σ' H',Inv X pins σ' H' s7∧tn i s7.heap∧(∀ b∈fp,H' b=none)∧W i m σ' H':=fun {σ7 H7} I7 n7=>by
      obtain ⟨m',hm,w7⟩:=hN σ7 H7 n7
      refine ⟨m',hm,i+1,σ7,H7,I7.unpinned,T.keep _ _ _ st5 fun b hb o e=>(I7.pin (b,o) (List.mem_append_right _ (List.mem_append_right _ (mem_pinsAt hb e)))).1,fun b hb=>?_,w7⟩
      obtain ⟨o,e,d⟩:=T.obj _ _ st5 b hb
      exact (I7.pin (b,o) (List.mem_append_right _ (List.mem_append_right _ (mem_pinsAt hb e)))).2.1
    cases f with
    | next=>obtain ⟨σ7,H7,I7,n7⟩:=q7;exact again I7 n7
    | cont=>obtain ⟨σ7,H7,I7,n7⟩:=q7;exact again I7 n7
    | brk=>obtain ⟨σ7,H7,I7,q7⟩:=q7;exact ⟨σ7,H7,I7.unpinned,q7⟩
    | ret v=>obtain ⟨x7,σ7,H7,I7,r7,q7⟩:=q7;exact ⟨x7,σ7,H7,I7.unpinned,r7,q7⟩
end
theorem for_range {lo:Int} {n:Nat} {g:TG} {tb:TS} {D:Ends} {σ:St} {H:Hp} (Pv:Nat→St→Hp→Prop) (h0:Pv 0 σ H)
    (hs:∀ i σ H,i < n→Pv i σ H→g (.int (lo+i)) σ H fun σ2 H2=>tb { D with nx:=Pv (i+1),ct:=Pv (i+1),bk:=D.nx } σ2 H2) (hd:∀ σ H,Pv n σ H→D.nx σ H) :
    ∃ W:Nat→Nat→St→Hp→Prop,(∃ m,W 0 m σ H)∧∀ i m σ H,W i m σ H →
      ((Itr lo n).stop i H∧D.nx σ H)∨((Itr lo n).go i H∧∃ N:St→Hp→Prop,(∀ σ' H',N σ' H'→∃ m',m' < m∧W (i+1) m' σ' H')∧∀ x H',(Itr lo n).yld i H x H'→g x σ H' fun σ2 H2=>tb { D with nx:=N,ct:=N,bk:=D.nx } σ2 H2):=by
  refine ⟨fun i m σ H=>m=n - i∧i≤n∧Pv i σ H,⟨n,by simp,Nat.zero_le _,h0⟩,?_⟩
  rintro i m σ H ⟨rfl,hi,p⟩
  by_cases hlt:i < n
  · refine .inr ⟨hlt,Pv (i+1),fun σ' H' p'=>⟨n - (i+1),by omega,rfl,hlt,p'⟩,fun x H' y=>?_⟩
    obtain ⟨e,y⟩:=y
    subst e y
    exact hs i σ _ hlt p
  · have e:i=n:=by omega
    subst e
    exact .inl ⟨Nat.le_refl _,hd σ H p⟩
end L2
namespace L2
open PySem PySem.Spec PyProof.Rows
abbrev R2:=V→V→Hp→VK→Prop
def OpR (X:Cx) (f:Value→Value→Sem Value) (r:R2):Prop:=
  ∀ (pins:List (Addr × Obj)) (s:Shared) (σ:St) (H:Hp) (x y:V) (v u:Value) (Q:VK),Inv X pins σ H s→RelV x v→RelV y u→r x y H Q →
    wpAny (model X.prog X.w) X.A (f v u) (EP X pins σ Q) X.xe s
def UnR (X:Cx) (f:Value→Sem Value) (r:V→Hp→VK→Prop):Prop:=
  ∀ (pins:List (Addr × Obj)) (s:Shared) (σ:St) (H:Hp) (x:V) (v:Value) (Q:VK),Inv X pins σ H s→RelV x v→r x H Q →
    wpAny (model X.prog X.w) X.A (f v) (EP X pins σ Q) X.xe s
def CallR (X:Cx) (f:Value) (r:List V→Hp→VK→Prop):Prop:=
  ∀ (pins:List (Addr × Obj)) (s:Shared) (σ:St) (H:Hp) (xs:List V) (us:List Value) (Q:VK),Inv X pins σ H s→Vals xs us→r xs H Q →
    wpAny (model X.prog X.w) X.A (call f us) (EP X pins σ Q) X.xe s
def TruR (X:Cx) (r:V→Hp→(Bool→Hp→Prop)→Prop):Prop:=
  ∀ (pins:List (Addr × Obj)) (s:Shared) (σ:St) (H:Hp) (x:V) (v:Value) (Q:Bool→Hp→Prop),Inv X pins σ H s→RelV x v→r x H Q →
    wpAny (model X.prog X.w) X.A (truthy v) (TP X pins σ Q) X.xe s
def tOp (r:R2) (ta tb:TE):TE:=fun σ H Q=>ta σ H fun x H1=>tb σ H1 fun y H2=>r x y H2 Q
def tUn (r:V→Hp→VK→Prop) (ta:TE):TE:=fun σ H Q=>ta σ H fun x H1=>r x H1 Q
def rI (C:Int→Int→Prop) (g:Int→Int→V):R2:=fun x y H Q=>∃ i j,x=.int i∧y=.int j∧C i j∧Q (g i j) H
def rI0 (g:Int→Int→V):R2:=fun x y H Q=>∃ i j,x=.int i∧y=.int j∧Q (g i j) H
def rU (g:Int→V):V→Hp→VK→Prop:=fun x H Q=>∃ i,x=.int i∧Q (g i) H
section
variable {X:Cx} {a b c:Expr} {ta tb tc:TE} {pos:Pos}
theorem binT (ha:PE X a ta) (hb:PE X b tb) {pins:List (Addr × Obj)} {s:Shared} {σ:St} {H:Hp} {R:V→V→Hp→Prop} (I:Inv X pins σ H s)
    (h:ta σ H fun x H1=>tb σ H1 fun y H2=>R x y H2) {Q:Value→Shared→Prop} {f:Value→Value→Sem Value}
    (hf:∀ v u s2 x y H2,Inv X pins σ H2 s2→RelV x v→RelV y u→R x y H2→wpAny (model X.prog X.w) X.A (f v u) Q X.xe s2) :
    wpAny (model X.prog X.w) X.A (eval a X.env) (fun v s₁=>wpAny (model X.prog X.w) X.A (eval b X.env) (fun u s₂=>wpAny (model X.prog X.w) X.A (f v u) Q X.xe s₂) X.xe s₁) X.xe s:=by
  refine thn (ha pins s σ H _ I h) fun v s1 ⟨x,H1,I1,r1,q1⟩=>?_
  refine thn (hb pins s1 σ H1 _ I1 q1) fun u s2 ⟨y,H2,I2,r2,q2⟩=>?_
  exact hf v u s2 x y H2 I2 r1 r2 q2
theorem pe_op {op:Operator} {r:R2} (ho:OpR X (binaryOp op) r) (ha:PE X a ta) (hb:PE X b tb):PE X (.BinOp a op b pos) (tOp r ta tb):=by
  intro pins s σ H Q I h
  exact wpAny_BinOp (binT ha hb I h fun v u s2 x y H2 I2 rx ry q=>ho pins s2 σ H2 x y v u Q I2 rx ry q)
theorem pe_un {op:UnaryOp} {r:V→Hp→VK→Prop} (ho:UnR X (unaryOp op) r) (ha:PE X a ta):PE X (.UnaryOp op a pos) (tUn r ta):=by
  intro pins s σ H Q I h
  exact UnaryOp_ (thn (ha pins s σ H _ I h) fun v s1 ⟨x,H1,I1,r1,q1⟩=>ho pins s1 σ H1 x v Q I1 r1 q1)
theorem opI {f:Value→Value→Sem Value} {C:Int→Int→Prop} {g:Int→Int→Int}
    (rule:∀ (i j:Int) (t u:Tok) (s:Shared) (Q:Value→Shared→Prop) (E:Value→Shared→Prop),C i j→Q (.int (g i j) s.toks) { s with toks:=s.toks+1 }→wpAny (model X.prog X.w) X.A (f (.int i t) (.int j u)) Q E s) :
    OpR X f (rI C fun i j=>.int (g i j)):=by
  intro pins s σ H x y v u Q I rx ry h
  obtain ⟨i,j,rfl,rfl,hc,q⟩:=h
  obtain ⟨t,rfl⟩:=rx
  obtain ⟨t',rfl⟩:=ry
  exact rule i j t t' s _ _ hc ⟨.int (g i j),H,I.tok _,⟨_,rfl⟩,q⟩
theorem opI0 {f:Value→Value→Sem Value} {g:Int→Int→Int}
    (rule:∀ (i j:Int) (t u:Tok) (s:Shared) (Q:Value→Shared→Prop) (E:Value→Shared→Prop),Q (.int (g i j) s.toks) { s with toks:=s.toks+1 }→wpAny (model X.prog X.w) X.A (f (.int i t) (.int j u)) Q E s) :
    OpR X f (rI0 fun i j=>.int (g i j)):=by
  intro pins s σ H x y v u Q I rx ry h
  obtain ⟨i,j,rfl,rfl,q⟩:=h
  obtain ⟨t,rfl⟩:=rx
  obtain ⟨t',rfl⟩:=ry
  exact rule i j t t' s _ _ ⟨.int (g i j),H,I.tok _,⟨_,rfl⟩,q⟩
theorem opB0 {f:Value→Value→Sem Value} {g:Int→Int→Bool}
    (rule:∀ (i j:Int) (t u:Tok) (s:Shared) (Q:Value→Shared→Prop) (E:Value→Shared→Prop),Q (.bool (g i j)) s→wpAny (model X.prog X.w) X.A (f (.int i t) (.int j u)) Q E s) :
    OpR X f (rI0 fun i j=>.bl (g i j)):=by
  intro pins s σ H x y v u Q I rx ry h
  obtain ⟨i,j,rfl,rfl,q⟩:=h
  obtain ⟨t,rfl⟩:=rx
  obtain ⟨t',rfl⟩:=ry
  exact rule i j t t' s _ _ ⟨.bl (g i j),H,I,rfl,q⟩
def CPow (i j:Int):Prop:=0≤j∧j≤1000000∧i.natAbs < 2 ^ 64
def CMul (i j:Int):Prop:=(-(2 ^ 64) < i∧i < 2 ^ 64)∨(-(2 ^ 64) < j∧j < 2 ^ 64)
theorem CMul.ok {i j:Int} (h:CMul i j):IntMulOk i j:=by
  rcases h with ⟨h1,h2⟩ | ⟨h1,h2⟩
  · exact .of_left (intBits_le_64 h1 h2)
  · exact .of_right (intBits_le_64 h1 h2)
theorem op_add:OpR X (binaryOp .Add) (rI0 fun i j=>.int (i+j)):=opI0 fun _ _ _ _ _ _ _ q=>add_int q
theorem op_sub:OpR X (binaryOp .Sub) (rI0 fun i j=>.int (i - j)):=opI0 fun _ _ _ _ _ _ _ q=>sub_int q
theorem op_mul:OpR X (binaryOp .Mult) (rI CMul fun i j=>.int (i * j)):=opI fun _ _ _ _ _ _ _ hc q=>mul_int q hc.ok
theorem op_mod:OpR X (binaryOp .Mod) (rI (fun _ j=>0 < j) fun i j=>.int (i % j)):=opI fun i j _ _ _ _ _ hc q=>by
  have h1:(0:Int) < j:=hc
  exact mod_int' (by omega) (by rw [Int.fmod_eq_emod_of_nonneg i (by omega)];exact q)
theorem op_pow:OpR X (binaryOp .Pow) (rI CPow fun i j=>.int (i ^ j.toNat)):=opI fun _ _ _ _ _ _ _ hc q=>pow_int_small hc.1 hc.2.1 hc.2.2 q
theorem unI {f:Value→Sem Value} {g:Int→Int}
    (rule:∀ (i:Int) (t:Tok) (s:Shared) (Q:Value→Shared→Prop) (E:Value→Shared→Prop),Q (.int (g i) s.toks) { s with toks:=s.toks+1 }→wpAny (model X.prog X.w) X.A (f (.int i t)) Q E s) :
    UnR X f (rU fun i=>.int (g i)):=by
  intro pins s σ H x v Q I rx h
  obtain ⟨i,rfl,q⟩:=h
  obtain ⟨t,rfl⟩:=rx
  exact rule i t s _ _ ⟨.int (g i),H,I.tok _,⟨_,rfl⟩,q⟩
theorem un_neg:UnR X (unaryOp .USub) (rU fun i=>.int (-i)):=unI fun _ _ _ _ _ q=>neg_int q
end
def scal:V→V→Bool
  | .non,.non=>true | .non,.int _=>true | .int _,.non=>true | .non,.bl _=>true | .bl _,.non=>true | .non,.str _=>true | .str _,.non=>true
  | .int _,.int _=>true | .bl _,.bl _=>true | .str _,.str _=>true | .byt _,.byt _=>true
  | .int _,.str _=>true | .str _,.int _=>true | .bl _,.str _=>true | .str _,.bl _=>true
  | _,_=>false
def rEq:R2:=fun x y H Q=>scal x y=true∧Q (.bl (decide (x=y))) H
def rNe:R2:=fun x y H Q=>scal x y=true∧Q (.bl (!decide (x=y))) H
theorem dec_int {i j:Int}:decide (V.int i=V.int j)=(i == j):=by
  rw [Bool.eq_iff_iff]
  simp
theorem dec_bl {i j:Bool}:decide (V.bl i=V.bl j)=(i == j):=by
  rw [Bool.eq_iff_iff]
  simp
theorem dec_str {i j:Str}:decide (V.str i=V.str j)=(i == j):=by
  rw [Bool.eq_iff_iff]
  simp
theorem dec_byt {i j:Array UInt8}:decide (V.byt i=V.byt j)=(i.toList == j.toList):=by
  rw [Bool.eq_iff_iff]
  cases i
  cases j
  simp
section
variable {X:Cx} {a b c:Expr} {ta tb tc:TE} {pos:Pos}
theorem fin_bl {pins:List (Addr × Obj)} {σ:St} {H:Hp} {s:Shared} {Q:VK} {k k':Bool} (I:Inv X pins σ H s) (q:Q (.bl k) H) (e:k=k'):EP X pins σ Q (.bool k') s:=by
  subst e
  exact ⟨.bl k,H,I,rfl,q⟩
theorem op_eq:OpR X (compareOp .Eq) rEq:=by
  intro pins s σ H x y v u Q I rx ry h
  obtain ⟨hs,q⟩:=h
  cases x with
  | non=>
    cases rx
    cases y with
    | non=>cases ry;exact PySem.EqNone.eq_none_none (fin_bl I q (by simp))
    | bl j=>cases ry;exact PySem.EqNone.eq_none_bool (fin_bl I q (by simp))
    | int j=>obtain ⟨t',rfl⟩:=ry;exact PySem.EqNone.eq_none_int (fin_bl I q (by simp))
    | str j=>obtain ⟨t',rfl⟩:=ry;exact PySem.EqNone.eq_none_str (fin_bl I q (by simp))
    | _=>exact absurd (show false=true from hs) Bool.false_ne_true
  | bl i=>
    cases rx
    cases y with
    | non=>cases ry;exact PySem.EqNone.eq_bool_none (fin_bl I q (by simp))
    | bl j=>cases ry;exact eq_bool (fin_bl I q dec_bl)
    | str j=>obtain ⟨t',rfl⟩:=ry;exact PySem.EqMixed.eq_bool_str (fin_bl I q (by simp))
    | _=>exact absurd (show false=true from hs) Bool.false_ne_true
  | int i=>
    obtain ⟨t,rfl⟩:=rx
    cases y with
    | non=>cases ry;exact PySem.EqNone.eq_int_none (fin_bl I q (by simp))
    | int j=>obtain ⟨t',rfl⟩:=ry;exact eq_int (fin_bl I q dec_int)
    | str j=>obtain ⟨t',rfl⟩:=ry;exact PySem.EqMixed.eq_int_str (fin_bl I q (by simp))
    | _=>exact absurd (show false=true from hs) Bool.false_ne_true
  | str i=>
    obtain ⟨t,rfl⟩:=rx
    cases y with
    | non=>cases ry;exact PySem.EqNone.eq_str_none (fin_bl I q (by simp))
    | bl j=>cases ry;exact PySem.EqMixed.eq_str_bool (fin_bl I q (by simp))
    | int j=>obtain ⟨t',rfl⟩:=ry;exact PySem.EqMixed.eq_str_int (fin_bl I q (by simp))
    | str j=>obtain ⟨t',rfl⟩:=ry;exact eq_str (fin_bl I q dec_str)
    | _=>exact absurd (show false=true from hs) Bool.false_ne_true
  | byt i=>
    obtain ⟨t,rfl⟩:=rx
    cases y with
    | byt j=>obtain ⟨t',rfl⟩:=ry;exact PySem.W.eq_bytes (fin_bl I q dec_byt)
    | _=>exact absurd (show false=true from hs) Bool.false_ne_true
  | _=>cases y <;> exact absurd (show false=true from hs) Bool.false_ne_true
theorem op_ne:OpR X (compareOp .NotEq) rNe:=by
  intro pins s σ H x y v u Q I rx ry h
  obtain ⟨hs,q⟩:=h
  cases x with
  | non=>
    cases rx
    cases y with
    | non=>cases ry;exact PySem.EqNone.ne_none_none (fin_bl I q (by simp))
    | bl j=>cases ry;exact PySem.EqNone.ne_none_bool (fin_bl I q (by simp))
    | int j=>obtain ⟨t',rfl⟩:=ry;exact PySem.EqNone.ne_none_int (fin_bl I q (by simp))
    | str j=>obtain ⟨t',rfl⟩:=ry;exact PySem.EqNone.ne_none_str (fin_bl I q (by simp))
    | _=>exact absurd (show false=true from hs) Bool.false_ne_true
  | bl i=>
    cases rx
    cases y with
    | non=>cases ry;exact PySem.EqNone.ne_bool_none (fin_bl I q (by simp))
    | bl j=>cases ry;exact ne_bool (fin_bl I q (congrArg not dec_bl))
    | str j=>obtain ⟨t',rfl⟩:=ry;exact PySem.EqMixed.ne_bool_str (fin_bl I q (by simp))
    | _=>exact absurd (show false=true from hs) Bool.false_ne_true
  | int i=>
    obtain ⟨t,rfl⟩:=rx
    cases y with
    | non=>cases ry;exact PySem.EqNone.ne_int_none (fin_bl I q (by simp))
    | int j=>obtain ⟨t',rfl⟩:=ry;exact ne_int (fin_bl I q (congrArg not dec_int))
    | str j=>obtain ⟨t',rfl⟩:=ry;exact PySem.EqMixed.ne_int_str (fin_bl I q (by simp))
    | _=>exact absurd (show false=true from hs) Bool.false_ne_true
  | str i=>
    obtain ⟨t,rfl⟩:=rx
    cases y with
    | non=>cases ry;exact PySem.EqNone.ne_str_none (fin_bl I q (by simp))
    | bl j=>cases ry;exact PySem.EqMixed.ne_str_bool (fin_bl I q (by simp))
    | int j=>obtain ⟨t',rfl⟩:=ry;exact PySem.EqMixed.ne_str_int (fin_bl I q (by simp))
    | str j=>obtain ⟨t',rfl⟩:=ry;exact ne_str (fin_bl I q (congrArg not dec_str))
    | _=>exact absurd (show false=true from hs) Bool.false_ne_true
  | byt i=>
    obtain ⟨t,rfl⟩:=rx
    cases y with
    | byt j=>obtain ⟨t',rfl⟩:=ry;exact PySem.W.ne_bytes (fin_bl I q (congrArg not dec_byt))
    | _=>exact absurd (show false=true from hs) Bool.false_ne_true
  | _=>cases y <;> exact absurd (show false=true from hs) Bool.false_ne_true
theorem op_lt:OpR X (compareOp .Lt) (rI0 fun i j=>.bl (decide (i < j))):=opB0 fun _ _ _ _ _ _ _ q=>lt_int q
theorem op_gt:OpR X (compareOp .Gt) (rI0 fun i j=>.bl (decide (j < i))):=opB0 fun _ _ _ _ _ _ _ q=>gt_int q
theorem op_ge:OpR X (compareOp .GtE) (rI0 fun i j=>.bl (decide (j≤i))):=opB0 fun _ _ _ _ _ _ _ q=>ge_int q
theorem op_in_str:OpR X (compareOp .In) (fun x y H Q=>∃ i j,x=.str i∧y=.str j∧Q (.bl (!(Builtin.Str.occurrences j i 0 j.length 1).isEmpty)) H):=by
  intro pins s σ H x y v u Q I rx ry h
  obtain ⟨i,j,rfl,rfl,q⟩:=h
  obtain ⟨t,rfl⟩:=rx
  obtain ⟨t',rfl⟩:=ry
  exact in_str (fin_bl I q rfl)
theorem OpR.or {f:Value→Value→Sem Value} {r r':R2} (h:OpR X f r) (h':OpR X f r'):OpR X f (fun x y H Q=>r x y H Q∨r' x y H Q):=by
  intro pins s σ H x y v u Q I rx ry q
  rcases q with q | q
  · exact h pins s σ H x y v u Q I rx ry q
  · exact h' pins s σ H x y v u Q I rx ry q
theorem nomark (b:Expr) {op:CmpOp} (h:op≠.In:=by decide) (h2:op≠.NotIn:=by decide):behindInMarks op b=false:=by
  have e1:(op == CmpOp.In)=false:=by cases op <;> first | rfl | exact absurd rfl h
  have e2:(op == CmpOp.NotIn)=false:=by cases op <;> first | rfl | exact absurd rfl h2
  cases b <;> simp [behindInMarks,e1,e2]
theorem pe_cmpR {op:CmpOp} {r:R2} (ho:OpR X (compareOp op) r) (ha:PE X a ta) (hb:PE X b tb) (hm:behindInMarks op b=false):PE X (.Compare a [op] [b] pos) (tOp r ta tb):=by
  intro pins s σ H Q I h
  exact wpAny_Compare1 (binT ha hb I h fun v u s2 x y H2 I2 rx ry q=>ho pins s2 σ H2 x y v u Q I2 rx ry q) hm
def tTest (t:TE):TT:=fun σ H Q=>t σ H fun x H'=>∃ k,x=.bl k∧Q k H'
theorem pt_cmpR {op:CmpOp} {r:R2} (ho:OpR X (compareOp op) r) (ha:PE X a ta) (hb:PE X b tb) (hm:behindInMarks op b=false):PT X (.Compare a [op] [b] pos) (tTest (tOp r ta tb)):=by
  intro pins s σ H Q I h
  refine wpAny_isTrue_Compare1 (thn (ha pins s σ H _ I h) fun v s1 ⟨x,H1,I1,r1,q1⟩=>thn (hb pins s1 σ H1 _ I1 q1) fun u s2 ⟨y,H2,I2,r2,q2⟩=>
    thn (ho pins s2 σ H2 x y v u _ I2 r1 r2 q2) fun c s3 ⟨z,H3,I3,r3,k,e,q3⟩=>?_) hm
  subst e
  cases r3
  exact wpAny_truthy_bool ⟨H3,I3,q3⟩
def TruV (K:PySem.W.Frag) (x:V) (H:Hp) (k:Bool):Prop:=
  match x with
  | .non=>k=false
  | .bl b=>k=b
  | .int i=>k=(i != 0)
  | .str y=>y.length≤sizeLine∧k=((y.length:Int) != 0)
  | .byt y=>y.size≤sizeLine∧k=((y.size:Int) != 0)
  | .ref p=>(∃ xs,SqL K H p xs∧k=!xs.isEmpty)∨(∃ xs,SqT K H p xs∧k=!xs.isEmpty)∨∃ kvs,H p=some (.dK kvs)∧k=!kvs.isEmpty
  | _=>False
theorem isEmpty_kv {κ:Type} {kvs:List (κ × V)} {vs:List (κ × Value)} (r:KV kvs vs):(!vs.isEmpty)=!kvs.isEmpty:=by
  cases r <;> rfl
theorem isEmpty_of {xs:List V} {its:List Value} (r:Vals xs its):(!its.toArray.isEmpty)=!xs.isEmpty:=by
  cases r <;> simp
theorem line63:(sizeLine:Nat) < 2 ^ 63:=by rw [sizeLine_eq];decide
theorem tru_ok:TruR X (fun x H Q=>∃ k,TruV X.K x H k∧Q k H):=by
  intro pins s σ H x v Q I rx h
  obtain ⟨k,e,q⟩:=h
  have hl:=line63
  have hs:sizeLine=16777216:=sizeLine_eq
  cases x with
  | non=>
    cases rx
    have e':k=false:=e
    subst e'
    exact truthy_none ⟨H,I,q⟩
  | bl b=>
    cases rx
    have e':k=b:=e
    subst e'
    exact wpAny_truthy_bool ⟨H,I,q⟩
  | int i=>
    obtain ⟨t,rfl⟩:=rx
    have e':k=(i != 0):=e
    subst e'
    exact PySem.P.truthy_int ⟨H,I,q⟩
  | str y=>
    obtain ⟨t,rfl⟩:=rx
    obtain ⟨hy,e'⟩:y.length≤sizeLine∧k=((y.length:Int) != 0):=e
    subst e'
    exact PySem.P.truthy_str (by omega) ⟨H,I.tok _,q⟩
  | byt y=>
    obtain ⟨t,rfl⟩:=rx
    obtain ⟨hy,e'⟩:y.size≤sizeLine∧k=((y.size:Int) != 0):=e
    subst e'
    exact PySem.W.truthy_bytes (by omega) ⟨H,I.tok _,q⟩
  | ref p=>
    cases rx
    have e':(∃ xs,SqL X.K H p xs∧k=!xs.isEmpty)∨(∃ xs,SqT X.K H p xs∧k=!xs.isEmpty)∨∃ kvs,H p=some (.dK kvs)∧k=!kvs.isEmpty:=e
    rcases e' with ⟨xs,hx,e'⟩ | ⟨xs,hx,e'⟩ | ⟨kvs,hx,e'⟩
    · subst e'
      obtain ⟨its,r,pl,hz⟩:=I.list hx
      have hlen:=r.length
      exact wpAny_truthy_list pl.isList (by simp only [List.size_toArray];omega) ⟨H,I.tok _,by rw [isEmpty_of r];exact q⟩
    · subst e'
      obtain ⟨its,r,pl,hz⟩:=I.tuple hx
      have hlen:=r.length
      exact truthy_tuple pl (by simp only [List.size_toArray];omega) ⟨H,I.tok _,by rw [isEmpty_of r];exact q⟩
    · subst e'
      obtain ⟨hz,hS,vs,r,m⟩:kvs.length≤sizeLine∧(p == sysModules)=false∧∃ vs,KV kvs vs∧s.heap.DictOf (mixKind X.prog X.w) p vs:=I.hok p _ hx
      have hlen:kvs.length=vs.length:=Paired.length r
      exact wpAny_truthy_dict hS m (by omega) ⟨H,I.tok _,by rw [isEmpty_kv r];exact q⟩
  | _=>exact (show False from e).elim
theorem pt_truth (ha:PE X a ta) (he:∀ whole,isTrue a X.env whole=(do let v ← whole;standAt a.pos;holding [v] (truthy v))) :
    PT X a (fun σ H Q=>ta σ H fun x H'=>∃ k,TruV X.K x H' k∧Q k H'):=by
  intro pins s σ H Q I h
  exact isTrue_plain (thn (ha pins s σ H _ I h) fun v s1 ⟨x,H1,I1,r1,q1⟩=>tru_ok pins s1 σ H1 x v Q I1 r1 q1) (he _)
theorem op_add_str:OpR X (binaryOp .Add) (fun x y H Q=>∃ i j,x=.str i∧y=.str j∧i.length+j.length≤sizeLine∧Q (.str (i++j)) H):=by
  intro pins s σ H x y v u Q I rx ry h
  obtain ⟨i,j,rfl,rfl,hz,q⟩:=h
  obtain ⟨t,rfl⟩:=rx
  obtain ⟨t',rfl⟩:=ry
  exact add_str (fun t' tk=>⟨.str (i++j),H,I.tok _,⟨_,rfl⟩,q⟩) hz
theorem vals1 {x:V} {us:List Value} (r:Vals [x] us):∃ u,us=[u]∧RelV x u:=by
  cases r with
  | cons r1 r2=>cases r2;exact ⟨_,rfl,r1⟩
theorem vals2 {x y:V} {us:List Value} (r:Vals [x,y] us):∃ u w',us=[u,w']∧RelV x u∧RelV y w':=by
  cases r with
  | cons r1 r2=>
    cases r2 with
    | cons r3 r4=>cases r4;exact ⟨_,_,rfl,r1,r3⟩
theorem call_max2 (hc:X.calm=true):CallR X (.builtin "max") (fun xs H Q=>∃ i j,xs=[.int i,.int j]∧Q (.int (if j > i then j else i)) H):=by
  intro pins s σ H xs us Q I r h
  obtain ⟨i,j,rfl,q⟩:=h
  obtain ⟨u,w',rfl,⟨t,rfl⟩,⟨t',rfl⟩⟩:=vals2 r
  refine max_two_ints (I.ok.hd hc) fun h' tk k=>⟨_,H,I.kept k,?_,q⟩
  by_cases hj:j > i
  · rw [if_pos hj,if_pos hj];exact ⟨_,rfl⟩
  · rw [if_neg hj,if_neg hj];exact ⟨_,rfl⟩
theorem call_min2 (hc:X.calm=true):CallR X (.builtin "min") (fun xs H Q=>∃ i j,xs=[.int i,.int j]∧Q (.int (if j < i then j else i)) H):=by
  intro pins s σ H xs us Q I r h
  obtain ⟨i,j,rfl,q⟩:=h
  obtain ⟨u,w',rfl,⟨t,rfl⟩,⟨t',rfl⟩⟩:=vals2 r
  refine min_two_ints (I.ok.hd hc) fun h' tk k=>⟨_,H,I.kept k,?_,q⟩
  by_cases hj:j < i
  · rw [if_pos hj,if_pos hj];exact ⟨_,rfl⟩
  · rw [if_neg hj,if_neg hj];exact ⟨_,rfl⟩
theorem call_str_int:CallR X (.type "str") (fun xs H Q=>∃ i,xs=[.int i]∧i.natAbs.log2 < 1920∧Q (.str (toString i)) H):=by
  intro pins s σ H xs us Q I r h
  obtain ⟨i,rfl,hz,q⟩:=h
  obtain ⟨u,rfl,t,rfl⟩:=vals1 r
  exact PySem.P.str_of_int hz ⟨.str _,H,I.tok _,⟨_,rfl⟩,q⟩
end
end L2
namespace L2
open PySem PySem.Spec PyProof.Rows
structure ObjM (h:Heap) (x dx C:Addr) (mA:Str→Option Value):Prop where
  obj:h.get? x=some (PySem.W.instObj C dx)
  ns:h.Ns1 dx mA
  ne:dx≠x
theorem lookIn_ns {h:Heap} {dx:Addr} {mA:Str→Option Value} (n:h.Ns1 dx mA):∃ od,h.get? dx=some od∧∀ name,PySem.W.lookIn name od=some (mA name):=by
  obtain ⟨o,es,ep,ho,hd,hk,_,hm⟩:=n
  refine ⟨o,ho,fun name=>?_⟩
  have e:=hm name
  unfold nsFind findBy at e
  rw [← Array.find?_toList] at e
  unfold PySem.W.lookIn
  rw [hd]
  dsimp only
  split
  · rename_i y q
    rw [q] at e
    exact congrArg some e
  · rename_i q
    rw [q] at e
    have a:es.toList.any (·.refKey)=false:=by
      rw [List.any_eq_false]
      intro y hy
      obtain ⟨z,t,hkey⟩:=hk y (Array.mem_toList_iff.mp hy)
      simp [DictEntry.refKey,hkey]
    have a':¬ es.toList.any (·.refKey)=true:=by rw [a];exact Bool.false_ne_true
    rw [if_neg a']
    exact congrArg some e
theorem ObjM.look {h:Heap} {x dx C:Addr} {mA:Str→Option Value} (I:ObjM h x dx C mA):∃ od,PySem.W.InstAt h x (PySem.W.instObj C dx) C (some od)∧∀ name,PySem.W.lookIn name od=some (mA name):=
  let ⟨od,ho,hl⟩:=lookIn_ns I.ns
  ⟨od,⟨I.obj,rfl,rfl,ho⟩,hl⟩
section
variable {prog:Program} {w:World} {A:Around} {E:Value→Shared→Prop} {s:Shared} {K:PySem.W.Frag} {x dx C f:Addr} {mA:Str→Option Value} {name:Str} {v:Value}
end
section
variable {P:Program} {w:World} {H H':Hp} {h h':Heap} {a C dx:Addr} {fs fs':List (Str × V)}
theorem ins_get (hok:HOk P w H h) (e:H a=some (.ins C dx fs)):∃ mA,ObjM h a dx C mA∧(∀ f,RelO (fs.lookup f) (mA f))∧PySem.Within mA (fs.map (·.1))∧fs.length≤1000∧H dx=some (.own a):=by
  obtain ⟨d,z,ne,ob,mA,n,r,q⟩:=(show ObjOk P w H h a (.ins C dx fs) from hok a _ e)
  exact ⟨mA,⟨ob,n,ne⟩,r,q,z,d⟩
end
structure Cls (K:PySem.W.Frag) (C:Addr):Prop where
  pg:PySem.W.plainGet K C Str.empty=true
  hd:PySem.W.hasDictIn K C=true
  po:PySem.W.plainOver K C=true
  sa:PySem.W.findIn K (.ref C) "__setattr__" = some (some (.builtin "object.__setattr__"))
theorem Cls.get {K:PySem.W.Frag} {C:Addr} (c:Cls K C) (f:Str):PySem.W.plainGet K C f=true:=c.pg
section
variable {X:Cx} {pins:List (Addr × Obj)} {σ:St} {H:Hp} {s:Shared} {a C dx:Addr} {fs:List (Str × V)} {f:Str} {v:V} {A:Around} {E:Value→Shared→Prop}
theorem Inv.made (I:Inv X pins σ H s):Inv X pins σ (upd (upd H s.heap.objs.size (.own (s.heap.objs.size+1))) (s.heap.objs.size+1) (.ins C s.heap.objs.size []))
    { s with heap:=(s.heap.push PySem.W.emptyDict).push (PySem.W.instObj C s.heap.objs.size) }:=by
  have e1:(s.heap.push PySem.W.emptyDict).get? s.heap.objs.size=some PySem.W.emptyDict:=Heap.get?_push_size s.heap rfl
  have e2:((s.heap.push PySem.W.emptyDict).push (PySem.W.instObj C s.heap.objs.size)).get? (s.heap.objs.size+1)=some (PySem.W.instObj C s.heap.objs.size):=by
    have:=Heap.get?_push_size (s.heap.push PySem.W.emptyDict) (o:=PySem.W.instObj C s.heap.objs.size) rfl
    rwa [Heap.size_push] at this
  have e3:(s.heap.push PySem.W.emptyDict).Ns s.heap.objs.size (fun _=>none):=⟨PySem.W.emptyDict,#[],_,e1,rfl,(fun e he=>absurd he (by simp)),fun _=>rfl⟩
  have I1:=I.laid (a:=s.heap.objs.size) (o:=.own (s.heap.objs.size+1)) (h':=s.heap.push PySem.W.emptyDict) (t':=s.toks) (fun b u q=>Heap.get?_push_of_some _ q) (Nat.le_refl _) ⟨_,e1⟩
  refine I1.laid (a:=s.heap.objs.size+1) (o:=.ins C s.heap.objs.size []) (t':=s.toks) (fun b u q=>Heap.get?_push_of_some _ q) (Nat.le_of_eq (Heap.size_push _ _)) ?_
  have ne:s.heap.objs.size≠s.heap.objs.size+1:=Nat.ne_of_lt (Nat.lt_succ_self _)
  refine ⟨by rw [upd_ne ne,upd_same],Nat.zero_le _,ne,e2,fun _=>none,(Heap.Ns1.of_empty e3).at fun o q=>Heap.get?_push_of_some _ q,fun _=>True.intro,fun y hy=>absurd rfl hy⟩
end
section
variable {X:Cx} {o e value:Expr} {f:Str} {pos pos' tpos:Pos} {ta tv:TE}
end
section
variable {X:Cx} {pins:List (Addr × Obj)} {σ:St} {H:Hp} {s:Shared} {A:Around} {E:Value→Shared→Prop} {Q:Value→Shared→Prop} {c:Value} {b:Bool}
inductive TyOf (K:PySem.W.Frag) (H:Hp):V→Value→Prop where
  | non:TyOf K H .non (.type "NoneType")
  | bl (x:Bool):TyOf K H (.bl x) (.type "bool")
  | int (i:Int):TyOf K H (.int i) (.type "int")
  | str (x:Str):TyOf K H (.str x) (.type "str")
  | flt (x:UInt64):TyOf K H (.flt x) (.type "float")
  | lst {a:Addr} {xs:List V} (e:H a=some (.lst xs)):TyOf K H (.ref a) (.type "list")
  | frz {a:Addr} {o:Obj} {xs:List V} (e:H a=some (.frz o (.lst xs))):TyOf K H (.ref a) (.type "list")
  | tup {a:Addr} {xs:List V} (e:H a=some (.tup xs)):TyOf K H (.ref a) (.type "tuple")
  | dK {a:Addr} {kvs:List (Key × V)} (e:H a=some (.dK kvs)):TyOf K H (.ref a) (.type "dict")
  | dT {a:Addr} {kvs:List (List Key × V)} (e:H a=some (.dT kvs)):TyOf K H (.ref a) (.type "dict")
  | ins {a C dx:Addr} {fs:List (Str × V)} (e:H a=some (.ins C dx fs)) (cl:Cls K C) (ha:PySem.W.findIn K (.ref C) "__class__" = some (some (.builtin "object.__class__")))
      (hn:PySem.W.specialIn K (.builtin "object.__class__") "__get__" = some (some (.builtin "getset_descriptor.__get__"))) (htk:PySem.W.takesIn K (.builtin "object.__class__")=some true)
      (hm:PySem.W.mroIn K C (.type "object")=some true):TyOf K H (.ref a) (.ref C)
theorem isinst_ok {x:V} {u t:Value} (I:Inv X pins σ H s) (rx:RelV x u) (ty:TyOf X.K H x t) (e:PySem.W.kitOne X.K t c=some b) (h:∀ tk,Q (.bool b) { s with toks:=tk }) :
    wpAny (model X.prog X.w) A (call (.builtin "isinstance") [u,c]) Q E s:=by
  cases ty with
  | non=>cases (show u=Value.none from rx);exact PySem.W.kia_one PySem.W.kitx_none I.kIn True.intro e (fun z=>nomatch z) h
  | bl y=>cases (show u=Value.bool y from rx);exact PySem.W.kia_one PySem.W.kitx_bool I.kIn True.intro e (fun z=>nomatch z) h
  | int i=>obtain ⟨t,q⟩:=(show ∃ t,u=Value.int i t from rx);cases q;exact PySem.W.kia_one PySem.W.kitx_int I.kIn True.intro e (fun z=>nomatch z) h
  | str y=>obtain ⟨t,q⟩:=(show ∃ t,u=Value.str y t from rx);cases q;exact PySem.W.kia_one PySem.W.kitx_str I.kIn True.intro e (fun z=>nomatch z) h
  | flt y=>obtain ⟨t,q⟩:=(show ∃ t,u=Value.float y t from rx);cases q;exact PySem.W.kia_one PySem.W.kitx_float I.kIn True.intro e (fun z=>nomatch z) h
  | @lst a xs ea=>
    cases (show u=Value.ref a from rx)
    obtain ⟨_,_,n,_,h1⟩:=(show ObjOk X.prog X.w H s.heap a (.lst xs) from I.hok a _ ea)
    exact PySem.W.kia_one PySem.W.kitx_list I.kIn ⟨_,h1,rfl⟩ e (fun z=>nomatch z) h
  | @frz a ob xs ea=>
    cases (show u=Value.ref a from rx)
    obtain ⟨_,_,_,n,_,h1⟩:=(show ObjOk X.prog X.w H s.heap a (.frz ob (.lst xs)) from I.hok a _ ea)
    exact PySem.W.kia_one PySem.W.kitx_list I.kIn ⟨_,h1,rfl⟩ e (fun z=>nomatch z) h
  | @tup a xs ea=>
    cases (show u=Value.ref a from rx)
    obtain ⟨_,_,_,p⟩:=(show ObjOk X.prog X.w H s.heap a (.tup xs) from I.hok a _ ea)
    obtain ⟨o,h1,h2,_⟩:=p
    exact PySem.W.kia_one PySem.W.kitx_tuple I.kIn ⟨o,h1,h2⟩ e (fun z=>nomatch z) h
  | @dK a kvs ea=>
    cases (show u=Value.ref a from rx)
    obtain ⟨_,_,vs,_,p⟩:=(show ObjOk X.prog X.w H s.heap a (.dK kvs) from I.hok a _ ea)
    obtain ⟨o,es,ep,h1,h2,_⟩:=p
    exact PySem.W.kia_one PySem.W.kitx_dict I.kIn ⟨o,h1,h2.1⟩ e (fun z=>nomatch z) h
  | @dT a kvs ea=>
    cases (show u=Value.ref a from rx)
    obtain ⟨_,_,xs,_,o,es,ep,h1,h2,_⟩:=(show ObjOk X.prog X.w H s.heap a (.dT kvs) from I.hok a _ ea)
    exact PySem.W.kia_one PySem.W.kitx_dict I.kIn ⟨o,h1,h2.1⟩ e (fun z=>nomatch z) h
  | @ins a C dx fs ea cl ha hn htk hm=>
    cases (show u=Value.ref a from rx)
    obtain ⟨mA,O,_⟩:=ins_get I.hok ea
    obtain ⟨od,J,_⟩:=O.look
    exact PySem.W.kia_one (PySem.W.kitx_own (cl.get _) cl.hd ha hn htk hm) I.kIn J e (fun z=>nomatch z) h
end
end L2
namespace L2
open PySem PySem.Spec PyProof.Rows
structure Room (k:Nat) (A:Around):Prop where
  hd:A.handled=none
  dp:A.depth+3 * k+5 < recursionLimit
  un:A.units+16 * k+200 < cLine
  gd:A.guards=some []
theorem Room.mono {j k:Nat} {A:Around} (r:Room k A) (h:j≤k):Room j A:=⟨r.hd,by have:=r.dp;omega,by have:=r.un;omega,by first | exact r.gd | (simpa [Around.under,Code.isGuard,guardIds] using r.gd)⟩
theorem Room.deeper {k:Nat} {A:Around} (r:Room (k+1) A) (env:Env):Room k (A.deeper env):=
  ⟨r.hd,by have:=r.dp;show A.depth+1+3 * k+5 < _;omega,by have:=r.un;show A.units+3+16 * k+200 < _;omega,by first | exact r.gd | (simpa [Around.under,Code.isGuard,guardIds] using r.gd)⟩
theorem Room.in1 {k:Nat} {A:Around} (r:Room (k+1) A):Room k A.in1:=
  ⟨r.hd,by have:=r.dp;show A.depth+3 * k+5 < _;omega,by have:=r.un;show A.units+1+16 * k+200 < _;omega,by first | exact r.gd | (simpa [Around.under,Code.isGuard,guardIds] using r.gd)⟩
theorem Room.depth {k:Nat} {A:Around} (r:Room k A):A.depth < recursionLimit:=by have:=r.dp;omega
theorem Room.units {k:Nat} {A:Around} (r:Room k A):A.units+64 < cLine:=by have:=r.un;omega
theorem Room.units0 {k:Nat} {A:Around} (r:Room k A):A.units < cLine:=by have:=r.un;omega
def tNil:TA:=fun _ H Q=>Q [] H
def tCons (ta:TE) (tr:TA):TA:=fun σ H Q=>ta σ H fun x H1=>tr σ H1 fun xs H2=>Q (x :: xs) H2
section
variable {X:Cx} {e:Expr} {es:List Expr} {te:TE} {t:TA} {pos:Pos}
theorem pa_nil:PA X [] tNil:=fun _ _ _ _ H Q I h=>Calls.spliced_nil ⟨[],H,I,.nil,h⟩
theorem pa_cons (ha:PE X e te) (hr:PA X es t) (hs:starEach (e :: es) X.env=(false,eval e X.env) :: starEach es X.env:=by rfl):PA X (e :: es) (tCons te t):=by
  intro pos pins s σ H Q I h
  rw [hs]
  show wpAny _ _ (spliced ((false,eval e X.env) :: backTo pos (starEach es X.env))) _ _ s
  refine Calls.spliced_cons (thn (ha pins s σ H _ I h) fun u s1 ⟨x,H1,I1,r1,q1⟩=>?_)
  exact thn (hr pos pins s1 σ H1 _ I1 q1) fun us s2 ⟨xs,H2,I2,r2,q2⟩=>⟨x :: xs,H2,I2,.cons r1 r2,q2⟩
def tTup (t:TA):TE:=fun σ H Q=>t σ H fun xs H1=>xs.length≤sizeLine∧∀ p,H1 p=none→Q (.ref p) (upd H1 p (.tup xs))
def tLst (t:TA):TE:=fun σ H Q=>t σ H fun xs H1=>xs.length≤sizeLine∧∀ p,H1 p=none→Q (.ref p) (upd H1 p (.lst xs))
theorem pe_tup {x1} (h:PA X es t):PE X (.Tuple es x1 pos) (tTup t):=by
  intro pins s σ H Q I hq
  refine wpAny_Tuple_spliced (thn (h pos pins s σ H _ I hq) fun us s1 ⟨xs,H1,I1,r,z,q⟩=>⟨by rw [← r.length];exact z,?_⟩)
  have hf:H1 s1.heap.objs.size=none:=I1.hok.fresh (Nat.le_refl _)
  refine ⟨.ref s1.heap.objs.size,upd H1 s1.heap.objs.size (.tup xs),I1.laid (t':=s1.toks) (fun b u e=>Heap.get?_push_of_some _ e) (Nat.le_refl _) ?_,rfl,q _ hf⟩
  exact ⟨⟨z,_,Heap.get?_push_size _ rfl,rfl⟩,us,r,⟨_,Heap.get?_push_size _ rfl,rfl,_,rfl⟩⟩
theorem pe_lst (h:PA X es t):PE X (.List es pos) (tLst t):=by
  intro pins s σ H Q I hq
  refine wpAny_List_spliced (thn (h pos pins s σ H _ I hq) fun us s1 ⟨xs,H1,I1,r,z,q⟩=>⟨by rw [← r.length];exact z,?_⟩)
  have hf:H1 s1.heap.objs.size=none:=I1.hok.fresh (Nat.le_refl _)
  refine ⟨.ref s1.heap.objs.size,upd H1 s1.heap.objs.size (.lst xs),I1.laid (t':=s1.toks) (fun b u e=>Heap.get?_push_of_some _ e) (Nat.le_refl _) ?_,rfl,q _ hf⟩
  exact ⟨z,us,0,r,Heap.get?_push_size _ rfl⟩
end
abbrev Sp:=List V→Hp→VK→XK→Prop
abbrev CXT:=List Env→Hp→Shared→XK→Value→Shared→Prop
structure Env0 (P:Program) (w:World) (K:PySem.W.Frag) (mg:Str→Option Value) (base:Heap) (A:Around) (outer:List Env) (s:Shared) (H:Hp):Prop where
  frames:A.frames=some outer
  mod:Mod K mg base
  bs:∀ b o,base.get? b=some o→s.heap.get? b=some o∧H b=none
  bsz:base.objs.size≤s.heap.objs.size
  funs:s.heap.FunFrames base outer
  frf:∀ b∈frs outer,H b=none
  hok:HOk P w H s.heap
  bare:AllBare s.gens
def CE (outer:List Env) (P:Program) (w:World) (H:Hp) (s:Shared) (Q:VK) (u:Value) (s':Shared):Prop:=
  ∃ v H',s'.os=s.os∧AllBare s'.gens∧Un (frs outer) [] H H' s.heap s'.heap∧HOk P w H' s'.heap∧RelV v u∧Q v H'
def CR (CX:CXT) (outer:List Env) (P:Program) (w:World) (H:Hp) (s:Shared) (Q:VK) (E:XK) (r:Result) (s':Shared):Prop:=
  match r with
  | .ok (.ret u)=>CE outer P w H s Q u s'
  | .ok _=>False
  | .error e=>CX outer H s E e s'
structure FnOk (P:Program) (w:World) (K:PySem.W.Frag) (mg:Str→Option Value) (base:Heap) (CX:CXT) (k:Nat) (f:Addr) (fd:FuncData) (ps:List Str) (sp:Sp):Prop where
  len:∀ vs H Q E,sp vs H Q E→vs.length=ps.length
  run:∀ (A:Around) (outer:List Env) (s:Shared) (H:Hp) (args:Args) (us:List Value) (vs:List V) (Q:VK) (E:XK),Room k A→Env0 P w K mg base A outer s H→BindsTo s fd args (ps.zip us)→Vals vs us→sp vs H Q E →
    codeAny (model P w) A (.call (.ref f) args) (CR CX outer P w H s Q E) s
theorem FnOk.mono {P:Program} {w:World} {K:PySem.W.Frag} {mg:Str→Option Value} {base:Heap} {CX:CXT} {j k:Nat} {f:Addr} {fd:FuncData} {ps:List Str} {sp:Sp} (F:FnOk P w K mg base CX j f fd ps sp) (h:j≤k) :
    FnOk P w K mg base CX k f fd ps sp:=⟨F.len,fun A outer s H args us vs Q E hr=>F.run A outer s H args us vs Q E (hr.mono h)⟩
theorem FnOk.imp {P:Program} {w:World} {K:PySem.W.Frag} {mg:Str→Option Value} {base:Heap} {CX:CXT} {k:Nat} {f:Addr} {fd:FuncData} {ps:List Str} {sp sp':Sp} (F:FnOk P w K mg base CX k f fd ps sp)
    (h:∀ vs H Q E,sp' vs H Q E→sp vs H Q E):FnOk P w K mg base CX k f fd ps sp':=
  ⟨fun vs H Q E q=>F.len vs H Q E (h _ _ _ _ q),fun A outer s H args us vs Q E hr he hb hv hs=>F.run A outer s H args us vs Q E hr he hb hv (h _ _ _ _ hs)⟩
theorem Env0.in1 {P:Program} {w:World} {K:PySem.W.Frag} {mg:Str→Option Value} {base:Heap} {A:Around} {outer:List Env} {s:Shared} {H:Hp} (e:Env0 P w K mg base A outer s H) :
    Env0 P w K mg base A.in1 outer s H:=⟨e.frames,e.mod,e.bs,e.bsz,e.funs,e.frf,e.hok,e.bare⟩
section
variable {X:Cx} {pins:List (Addr × Obj)} {σ:St} {H:Hp} {s s':Shared}
theorem Inv.env0 (I:Inv X pins σ H s):Env0 X.prog X.w X.K X.mg X.base X.A X.stack s H:=
  ⟨I.ok.frames,I.ok.mod,I.bs,Nat.le_trans I.ok.bsz I.sz,I.stack,I.stkFree,I.hok,I.bare⟩
theorem Inv.after {Q:VK} {u:Value} (I:Inv X pins σ H s) (h:CE X.stack X.prog X.w H s Q u s'):EP X pins σ Q u s':=by
  obtain ⟨v,H',os,bare,un,hok,r,q⟩:=h
  obtain ⟨hh,g,d,t,os'⟩:=s'
  obtain rfl:os'=s.os:=os
  exact ⟨v,H',I.call (h':=hh) (g':=g) (d':=d) (t':=t) (ch:=[]) un hok bare (fun b z=>absurd z (by simp)),r,q⟩
end
def tCall (sp:Sp) (dvs:List V) (E:XK) (t:TA):TE:=fun σ H Q=>t σ H fun vs H1=>sp (vs++dvs) H1 Q E
def Binds (K:PySem.W.Frag) (fd:FuncData) (ps:List Str) (ds:List Value):Prop:=
  ∀ (s:Shared) (us:List Value),K.In s.heap→(us++ds).length=ps.length→BindsTo s fd ⟨us,[]⟩ (ps.zip (us++ds))
theorem Binds.all {K:PySem.W.Frag} {fd:FuncData} {ps:List Str} (h:∀ us:List Value,us.length=ps.length→bindArgs fd ⟨us,[]⟩=pure (ps.zip us)):Binds K fd ps []:=fun s us _ hl=>by
  rw [List.append_nil] at hl ⊢
  exact .of_eq (h us hl)
def Passes (CX:CXT) (X:Cx) (E:XK):Prop:=∀ (pins:List (Addr × Obj)) (σ:St) (H:Hp) (s:Shared) (e:Value) (s':Shared),Inv X pins σ H s→CX X.stack H s E e s'→X.xe e s'
section
variable {X:Cx} {CX:CXT} {k:Nat} {f C:Addr} {fd:FuncData} {ps:List Str} {sp:Sp} {dvs:List V} {ds:List Value} {E:XK} {x m:Str} {p pos apos:Pos} {e o:Expr} {es:List Expr} {ta:TE} {t:TA}
theorem run_fn {pins:List (Addr × Obj)} {σ:St} {H:Hp} {s:Shared} {Q:VK} {us:List Value} {vs:List V} (F:FnOk X.prog X.w X.K X.mg X.base CX k f fd ps sp) (hr:Room k X.A) (hb:Binds X.K fd ps ds) (hd:Vals dvs ds) (hx:Passes CX X E)
    (I:Inv X pins σ H s) (r:Vals vs us) (h:sp (vs++dvs) H Q E):wpAny (model X.prog X.w) X.A (call (.ref f) us) (EP X pins σ Q) X.xe s:=by
  have r2:Vals (vs++dvs) (us++ds):=r.append hd
  have hl:(us++ds).length=ps.length:=by rw [← r2.length];exact F.len _ _ _ _ h
  refine wpAny_call (codeAny_mono (F.run X.A X.stack s H ⟨us,[]⟩ (us++ds) (vs++dvs) Q E hr I.env0 (hb s us I.kIn hl) r2 h) fun r s' hq=>?_)
  cases r with
  | error e=>exact hx pins σ H s e s' I hq
  | ok fl=>
    cases fl with
    | ret u=>exact I.after hq
    | next=>exact False.elim hq
    | brk=>exact False.elim hq
    | cont=>exact False.elim hq
theorem pe_call (F:FnOk X.prog X.w X.K X.mg X.base CX k f fd ps sp) (hr:Room k X.A) (hg:Gl X x) (hm:X.mg x=some (.ref f)) (hk:PySem.W.keepIn X.K (.ref f)=true) (hb:Binds X.K fd ps ds) (hd:Vals dvs ds) (hx:Passes CX X E)
    (ha:PA X (e :: es) t) (hdb:(x == ("__debug__" : Str))=false:=by decide) (he:starEach (e :: es) X.env=(false,eval e X.env) :: starEach es X.env:=by rfl) (hpl:(backTo pos (starEach es X.env)).any (·.1)=false:=by rfl) :
    PE X (.Call (.Name x p) (e :: es) [] pos) (tCall sp dvs E t):=by
  intro pins s σ H Q I h
  refine wpAny_Call_Name_kw (ld_glob I hg hm ?_ hdb)
  refine PySem.W.callWith_K (h₀:=X.base) I.ok.mod.kin hk (thn (ha pos pins s σ H _ I h) fun us s1 ⟨vs,H1,I1,r,q⟩=>⟨I1.kIn,?_⟩) he hpl
  exact run_fn F hr hb hd hx I1 r q
end
section
variable {X:Cx} {CX:CXT} {k:Nat} {f C:Addr} {fd:FuncData} {ps ks:List Str} {sp:Sp} {E:XK} {x m:Str} {p pos apos kpos:Pos} {e o:Expr} {es:List Expr} {kws:List Keyword} {te ta:TE} {t tk:TA} {nm:Option Str}
variable {g:List Value→List Value→List Value} {gV:List V→List V→List V}
end
structure FnScope (N P:List Str) (sc:Scope):Prop where
  kind:sc.kind=.function
  co:sc.isCoroutine=false
  gen:sc.isGenerator=false
  nd:N.Nodup
  pre:N.take P.length=P
  par:∀ x∈P,sc.names.lookup x=some .local∨sc.names.lookup x=some .cell
  nofree:∀ y∈sc.names,y.2≠.free
theorem bindL_out {kindOf:Str→Option NameKind} {x:Str}:∀ {binds:List (Str × Value)} {m:Str→Option Value},(∀ v,(x,v) ∉ binds)→bindL kindOf binds m x=m x
  | [],_,_=>rfl
  | (n,v) :: r,m,h=>by
    unfold bindL
    rw [bindL_out fun w hw=>h w (List.mem_cons_of_mem _ hw)]
    split
    · have:x≠n:=by rintro rfl;exact h v List.mem_cons_self
      simp [this]
    · rfl
theorem bindC_out {kindOf:Str→Option NameKind} {x:Str}:∀ {binds:List (Str × Value)} {m:Str→Option Value},(∀ v,(x,v) ∉ binds)→bindC kindOf binds m x=m x
  | [],_,_=>rfl
  | (n,v) :: r,m,h=>by
    unfold bindC
    rw [bindC_out fun w hw=>h w (List.mem_cons_of_mem _ hw)]
    split
    · rfl
    · have:x≠n:=by rintro rfl;exact h v List.mem_cons_self
      simp [this]
theorem bindL_get {kindOf:Str→Option NameKind} {x:Str} {v:Value}:∀ {P:List Str} {vs:List Value} {i:Nat} {m:Str→Option Value},P.Nodup→P[i]?=some x→vs[i]?=some v→kindOf x=some .local →
    bindL kindOf (P.zip vs) m x=some v
  | [],_,_,_,_,h,_,_=>by simp at h
  | _ :: _,[],_,_,_,_,h,_=>by simp at h
  | p :: P,w :: vs,0,m,nd,h1,h2,hk=>by
    simp at h1 h2;subst h1;subst h2
    show bindL kindOf ((p,w) :: P.zip vs) m p=_
    unfold bindL
    rw [bindL_out fun v hv=>(List.nodup_cons.mp nd).1 (List.of_mem_zip hv).1,if_pos hk]
    simp
  | p :: P,w :: vs,i+1,m,nd,h1,h2,hk=>by
    show bindL kindOf ((p,w) :: P.zip vs) m x=_
    unfold bindL
    exact bindL_get (i:=i) (List.nodup_cons.mp nd).2 (by simpa using h1) (by simpa using h2) hk
theorem bindC_get {kindOf:Str→Option NameKind} {x:Str} {v:Value}:∀ {P:List Str} {vs:List Value} {i:Nat} {m:Str→Option Value},P.Nodup→P[i]?=some x→vs[i]?=some v→kindOf x≠some .local →
    bindC kindOf (P.zip vs) m x=some v
  | [],_,_,_,_,h,_,_=>by simp at h
  | _ :: _,[],_,_,_,_,h,_=>by simp at h
  | p :: P,w :: vs,0,m,nd,h1,h2,hk=>by
    simp at h1 h2;subst h1;subst h2
    show bindC kindOf ((p,w) :: P.zip vs) m p=_
    unfold bindC
    rw [bindC_out fun v hv=>(List.nodup_cons.mp nd).1 (List.of_mem_zip hv).1,if_neg hk]
    simp
  | p :: P,w :: vs,i+1,m,nd,h1,h2,hk=>by
    show bindC kindOf ((p,w) :: P.zip vs) m x=_
    unfold bindC
    exact bindC_get (i:=i) (List.nodup_cons.mp nd).2 (by simpa using h1) (by simpa using h2) hk
def start (N:List Str) (vs:List V):St:=vs.map some++List.replicate (N.length - vs.length) none
def cxOf (CX:CXT) (P:Program) (w:World) (K:PySem.W.Frag) (mg:Str→Option Value) (base:Heap) (N:List Str) (qual:Str) (scope:Scope) (f:Addr) (cd:Value) (A:Around) (outer:List Env) (s:Shared) (H:Hp) (E:XK):Cx where
  prog:=P
  w:=w
  K:=K
  mg:=mg
  base:=base
  A:=A.deeper (envOfC qual scope s.heap.objs.size f cd)
  N:=N
  s₀:=s
  H₀:=H
  env:=envOfC qual scope s.heap.objs.size f cd
  outer:=outer
  stack:=envOfC qual scope s.heap.objs.size f cd :: outer
  ex:=[]
  calm:=true
  fn:=fun _=>true
  pn:=[]
  xe:=fun e s'=>wpAny (model P w) (A.deeper (envOfC qual scope s.heap.objs.size f cd)) (leaving (envOfC qual scope s.heap.objs.size f cd) e) (fun _ s''=>CX outer H s E e s'') (fun e' s''=>CX outer H s E e' s'') s'
theorem cell_has {sc:Scope} {n:Nat} {x:Str} (h:sc.names.lookup x=some .cell):∃ c,(cellsFrom n sc.names []).lookup x=some c:=by
  have q:=PySem.W.cellsFrom_some sc.names n [] (.inl h)
  exact Option.isSome_iff_exists.mp q
theorem inv_start {CX:CXT} {P:Program} {w:World} {K:PySem.W.Frag} {mg:Str→Option Value} {base:Heap} {N ps:List Str} {qual:Str} {scope:Scope} {f:Addr} {cd:Value} {A:Around} {outer:List Env} {s s1:Shared} {H:Hp} {E:XK} {us:List Value} {vs:List V}
    (S:FnScope N ps scope) (hd:A.handled=none) (e0:Env0 P w K mg base A outer s H) (hl:vs.length=ps.length) (r:Vals vs us)
    (x:InCallC s s.heap.objs.size (bindL (envOfC qual scope s.heap.objs.size f cd).kindOf (ps.zip us) fun _=>none) (cellsFrom (s.heap.objs.size+1) scope.names []) (bindC (envOfC qual scope s.heap.objs.size f cd).kindOf (ps.zip us) fun _=>none) s1) :
    Inv (cxOf CX P w K mg base N qual scope f cd A outer s H E) [] (start N vs) H s1:=by
  have hpl:ps.length≤N.length:=by have:=congrArg List.length S.pre;rw [List.length_take] at this;omega
  obtain ⟨h1,tk,rfl,hk⟩:=x.done
  have noA:∀ b:Addr,b ∉ (cxOf CX P w K mg base N qual scope f cd A outer s H E).ex:=fun b z=>absurd (show b∈([]:List Addr) from z) (by simp)
  refine ⟨⟨e0.mod,S.kind,rfl,rfl,Nat.le_refl _,fun y z c h1 h2=>?_,fun y hy=>?_,fun y c _ h=>?_,fun _=>hd,Around.frames_deeper e0.frames,.inr ⟨rfl,rfl⟩,fun b z=>absurd z (noA b),e0.bs,e0.bsz,fun b _ _=>noA b,fun b z=>absurd z (noA b),e0.funs,e0.frf⟩,
    rfl,e0.bare,Un.kept hk,⟨_,x.toInCall.ns,fun i y v h1 h2 h3=>?_⟩,fun y c h=>⟨_,x.cell y c h⟩,e0.hok.fresh (Nat.le_refl _),fun y c h=>?_,fun p hp=>absurd (show p∈([]:List (Addr × Obj)) from hp) (by simp),e0.hok.kept hk,?_⟩
  · exact name_of_addr x.apart (PySem.mem_of_lookup h1) (PySem.mem_of_lookup h2)
  · have hy:scope.names.lookup y=some .cell∨scope.names.lookup y=some .free:=hy
    rcases hy with hy | hy
    · exact cell_has hy
    · exact absurd rfl (S.nofree _ (PySem.mem_of_lookup hy))
  · exact Nat.le_of_lt (x.above y c (PySem.mem_of_lookup h))
  · have hi:i < vs.length:=by
      unfold start at h2
      by_cases hi:i < vs.length
      · exact hi
      · rw [List.getElem?_append_right (by simpa using hi)] at h2
        rw [List.getElem?_replicate] at h2
        split at h2 <;> cases h2
    have ha:vs[i]?=some v:=by
      unfold start at h2
      rw [List.getElem?_append_left (by simpa using hi),List.getElem?_map] at h2
      cases e:vs[i]? with
      | none=>rw [e] at h2;cases h2
      | some a=>rw [e] at h2;cases h2;rfl
    obtain ⟨u,hu,rv⟩:=r.get ha
    have hp:ps[i]?=some y:=by
      rw [← S.pre,List.getElem?_take_of_lt (by omega)];exact h1
    have ndP:ps.Nodup:=by rw [← S.pre];exact S.nd.sublist (List.take_sublist _ _)
    refine ⟨u,rv,?_⟩
    rcases S.par y (List.mem_of_getElem? hp) with k | k
    · exact .inl ⟨k,bindL_get ndP hp hu k⟩
    · obtain ⟨c,e⟩:=cell_has (n:=s.heap.objs.size+1) k
      refine .inr ⟨.inl k,c,e,?_⟩
      have q:=x.cell y c e
      rw [bindC_get ndP hp hu (by show scope.names.lookup y≠_;rw [k];decide)] at q
      exact q
  · exact e0.hok.fresh (Nat.le_of_lt (x.above y c (PySem.mem_of_lookup h)))
  · unfold start
    show _=N.length
    rw [List.length_append,List.length_map,List.length_replicate]
    omega
theorem fn_of {CX:CXT} {P:Program} {w:World} {K:PySem.W.Frag} {mg:Str→Option Value} {base:Heap} {k:Nat} {f:Addr} {name qual:Str} {params:Arguments} {body:List Stmt} {scope:Scope} {dV kV doc pm cdv ct oc:Value} {an od:Option Addr}
    {osl:Array (Option Value)} {N ps:List Str} {sp:Sp} (lk:K.lookup f=some ⟨oc,od,.func (PySem.W.fnOf name qual params body scope dV kV doc pm an cdv ct),osl⟩) (hcd:PySem.W.codeIn K cdv qual=true) (S:FnScope N ps scope)
    (len:∀ vs H Q E,sp vs H Q E→vs.length=ps.length)
    (hbody:∀ (A:Around) (outer:List Env) (s:Shared) (H:Hp) (vs:List V) (Q:VK) (E:XK),Room k (A.deeper (envOfC qual scope s.heap.objs.size f cdv))→sp vs H Q E →
      ∃ t,PSs (cxOf CX P w K mg base N qual scope f cdv A outer s H E) body t∧t { nx:=fun _ H'=>Q .non H',rt:=Q } (start N vs) H) :
    FnOk P w K mg base CX (k+1) f (PySem.W.fnOf name qual params body scope dV kV doc pm an cdv ct) ps sp:=by
  refine ⟨len,fun A outer s H args us vs Q E hr e0 hb r hsp=>?_⟩
  have hl:=len _ _ _ _ hsp
  have KX:K.In s.heap:=e0.mod.kin.keeps fun b o e=>(e0.bs b o e).1
  have lim:s.heap.NoLimit:=e0.mod.nolimit.keeps fun b o e=>(e0.bs b o e).1
  have hkind:∀ y∈ps.zip us,scope.names.lookup y.1=some .local∨(scope.names.lookup y.1=some .cell∧((cellsFrom (s.heap.objs.size+1) scope.names []).lookup y.1).isSome=true):=fun ⟨n,v⟩ hy=>by
    rcases S.par n (List.of_mem_zip hy).1 with q | q
    · exact .inl q
    · exact .inr ⟨q,PySem.W.cellsFrom_some _ _ _ (.inl q)⟩
  refine codeAny_call_function hr.depth (KX _ _ lk) rfl S.co S.gen rfl (PySem.W.codeRec_of KX hcd) (hb _ _ _ _ ?_)
  refine wpAny_newFunctionEnv_cells S.kind hkind fun env he s1 x=>?_
  subst he
  refine ⟨lim.keeps x.toInCall.keep,codeAny_func ?_⟩
  obtain ⟨t,ht,hq⟩:=hbody A outer s H vs Q E (hr.deeper _) hsp
  have I:Inv (cxOf CX P w K mg base N qual scope f cdv A outer s H E) [] (start N vs) H s1:=inv_start S hr.hd e0 hl r x
  refine wpAny_mono (ht [] s1 (start N vs) H _ I hq) (fun fl s' hs=>?_) fun e s' hs=>hs
  have fin:∀ {σ':St} {H':Hp} {v:V} {u:Value},Inv (cxOf CX P w K mg base N qual scope f cdv A outer s H E) [] σ' H' s'→RelV v u→Q v H'→CE outer P w H s Q u s':=
    fun {σ' H' v u} J rv q=>⟨v,H',J.os,J.bare,J.base,J.hok,rv,q⟩
  cases fl with
  | ret u=>
    obtain ⟨v,σ',H',J,rv,q⟩:=hs
    exact fin J rv q
  | next=>
    obtain ⟨σ',H',J,q⟩:=hs
    exact fin (v:=V.non) (u:=Value.none) J rfl q
  | brk=>
    obtain ⟨_,_,_,q⟩:=hs
    exact False.elim q
  | cont=>
    obtain ⟨_,_,_,q⟩:=hs
    exact False.elim q
end L2
namespace L2
open PySem PySem.Spec PyProof.Rows
section
variable {X:Cx} {x:Str} {p pos:Pos} {e:Expr} {es:List Expr} {t:TA} {id T:String} {r:List V→Hp→VK→Prop}
def tCB (r:List V→Hp→VK→Prop) (t:TA):TE:=fun σ H Q=>t σ H fun vs H1=>r vs H1 Q
theorem pe_callB (hc:CallR X (.builtin id) r) (hg:Gl X x) (hm:X.mg x=none) (hv:bootBuiltins x=some (.builtin id)) (ha:PA X (e :: es) t) (hn:x ≠ "__name__" := by decide) (hdb:(x == ("__debug__" : Str))=false:=by decide)
    (he:starEach (e :: es) X.env=(false,eval e X.env) :: starEach es X.env:=by rfl) (hpl:(backTo pos (starEach es X.env)).any (·.1)=false:=by rfl):PE X (.Call (.Name x p) (e :: es) [] pos) (tCB r t):=by
  intro pins s σ H Q I h
  refine wpAny_Call_Name_kw (ld_blt I hg hm hv ?_ hn hdb)
  exact PyProof.Rows.callWith_builtin1 (thn (ha pos pins s σ H _ I h) fun us s1 ⟨vs,H1,I1,r1,q1⟩=>hc pins s1 σ H1 vs us Q I1 r1 q1) he hpl
theorem pe_callTy (hc:CallR X (.type T) r) (hg:Gl X x) (hm:X.mg x=none) (hv:bootBuiltins x=some (.type T)) (ha:PA X (e :: es) t) (hn:x ≠ "__name__" := by decide) (hdb:(x == ("__debug__" : Str))=false:=by decide)
    (he:starEach (e :: es) X.env=(false,eval e X.env) :: starEach es X.env:=by rfl) (hpl:(backTo pos (starEach es X.env)).any (·.1)=false:=by rfl):PE X (.Call (.Name x p) (e :: es) [] pos) (tCB r t):=by
  intro pins s σ H Q I h
  refine wpAny_Call_Name_kw (ld_blt I hg hm hv ?_ hn hdb)
  exact PyProof.Rows.callWith_type1 (thn (ha pos pins s σ H _ I h) fun us s1 ⟨vs,H1,I1,r1,q1⟩=>hc pins s1 σ H1 vs us Q I1 r1 q1) he hpl
end
end L2
namespace HT
open PySem PyProof.Rows
section
open PySem.SeqAt
open PySem.AutoSeq1 (wpAny_loadPart')
open PySem.MeetsSeq PySem.MeetsSeq2 PySem.MeetsSeq3
end
section
variable {prog:Program} {w:World} {A:Around} {E:Value→Shared→Prop} {s:Shared}
theorem cat_tup {t b:Addr} {vs ws:List Value} {Q:Value→Shared→Prop} (ht:IsTup s.heap t vs.toArray) (hb:IsTup s.heap b ws.toArray) (hv:vs≠[])
    (h1:ws=[]→Q (.ref t) s) (h2:ws≠[]→Q (.ref s.heap.objs.size) { s with heap:=s.heap.push { cls:=.type "tuple", data:=.seq (vs++ws).toArray } })
    (hsz:vs.length+ws.length≤sizeLine):wpAny (model prog w) A (binaryOp .Add (.ref t) (.ref b)) Q E s:=by
  obtain ⟨⟨cls,dd,data,sl⟩,ho,hc,n,hd⟩:=id ht
  obtain ⟨⟨cls2,dd2,data2,sl2⟩,ho2,hc2,n2,hd2⟩:=id hb
  simp only at hc hd hc2 hd2
  subst hc hd hc2 hd2
  have e:vs.toArray++ws.toArray=(vs++ws).toArray:=by simp
  by_cases hw:ws=[]
  · exact concat_meets ⟨_,ho,rfl⟩ ⟨_,ho2,rfl⟩ noFill_tuple_add seq_tuple_add PySem.F.slot_tuple_add PySem.F.entry_tuple_add (PySem.F.args_tuple_add_2 _ _)
      (tuple_addW1 t b vs.toArray ws.toArray n n2 dd dd2 sl sl2 (by simpa using hv) (by simp [hw])) ⟨ho,ho2,h1 hw⟩
  · refine concat_meets ⟨_,ho,rfl⟩ ⟨_,ho2,rfl⟩ noFill_tuple_add seq_tuple_add PySem.F.slot_tuple_add PySem.F.entry_tuple_add (PySem.F.args_tuple_add_2 _ _)
      (tuple_addW2 t b vs.toArray ws.toArray n n2 dd dd2 sl sl2 (by simpa using hv) (by simpa using hw) (by rw [List.size_toArray,List.size_toArray];exact hsz)) ⟨ho,ho2,?_⟩
    rw [e]
    exact h2 hw
def sIx (n d:Nat):Option Int→Nat
  | none=>d
  | some v=>if v < 0 then (v+(n:Int)).toNat else min v.toNat n
theorem sIx_none (n d:Nat):sIx n d none=d:=rfl
theorem sIx_nat (n d k:Nat):sIx n d (some (k:Int))=min k n:=by
  show (if (k:Int) < 0 then ((k:Int)+(n:Int)).toNat else min (k:Int).toNat n)=min k n
  rw [if_neg (by omega),Int.toNat_natCast]
theorem sIx_le (n d:Nat) (hd:d≤n) (o:Option Int):sIx n d o≤n:=by
  cases o with
  | none=>exact hd
  | some v=>
    show (if v < 0 then (v+(n:Int)).toNat else min v.toNat n)≤n
    by_cases hv:v < 0
    · rw [if_pos hv];omega
    · rw [if_neg hv];exact Nat.min_le_right _ _
theorem clip_eq (v:Int) (n d:Nat):(if v < 0 then max (v+(n:Int)) 0 else min v (n:Int))=((sIx n d (some v):Nat):Int):=by
  show (if v < 0 then max (v+(n:Int)) 0 else min v (n:Int))=(((if v < 0 then (v+(n:Int)).toNat else min v.toNat n):Nat):Int)
  by_cases hv:v < 0
  · simp only [if_pos hv];omega
  · simp only [if_neg hv];omega
theorem adjust_gen (lo hi:Option Int) (n:Nat):Builtin.Slice.sliceAdjust lo hi 1 (n:Int)=(((sIx n 0 lo:Nat):Int),((sIx n n hi:Nat):Int)):=by
  have h1:¬ ((1:Int) < 0):=by omega
  unfold Builtin.Slice.sliceAdjust
  simp only [h1,if_false]
  refine Prod.ext ?_ ?_
  · cases lo with
    | none=>rfl
    | some v=>exact clip_eq v n 0
  · cases hi with
    | none=>rfl
    | some v=>exact clip_eq v n n
theorem places_gen (i j:Nat):Builtin.Slice.slicePlaces (i:Int) (j:Int) 1=j - i:=by
  unfold Builtin.Slice.slicePlaces
  have h1:(1:Int) > 0:=by omega
  simp only [h1,if_true,Int.ediv_one]
  split <;> omega
theorem slicePart_ {v:Value} {o:Option Int} {Q:Option Int→Shared→Prop} (p:IsPart v o) (h:Q o s):wpAny (model prog w) A (Builtin.Slice.slicePartIndex v) Q E s:=by
  cases p with
  | none=>exact slicePart_none h
  | int i t=>exact slicePart_int h
theorem sliceApplied_gen {sl:Addr} {vl vu:Value} {lo hi:Option Int} {n:Nat} {Q:Int × Int × Nat→Shared→Prop} (hs:s.heap.IsSliceOf sl vl vu .none) (pl:IsPart vl lo) (pu:IsPart vu hi)
    (h:Q (((sIx n 0 lo:Nat):Int),1,sIx n n hi - sIx n 0 lo) s):wpAny (model prog w) A (Builtin.Slice.sliceApplied (.ref sl) (pure (n:Int))) Q E s:=by
  obtain ⟨os,hos,hcs,hds⟩:=id hs
  unfold Builtin.Slice.sliceApplied Builtin.Slice.sliceFields
  refine wpAny_bind (wpAny_bind (wpAny_field hos hds (x:=vl) rfl (wpAny_bind (wpAny_field hos hds (x:=vu) rfl (wpAny_bind (wpAny_field hos hds (x:=.none) rfl (wpAny_pure ?_)))))))
  refine wpAny_bind (slicePart_none ?_)
  show wpAny _ _ (if ((1:Int) == 0)=true then _ else _) _ _ s
  rw [if_neg (by decide)]
  refine wpAny_bind (slicePart_ pl (wpAny_bind (slicePart_ pu (wpAny_bind (wpAny_pure ?_)))))
  show wpAny _ _ (match Builtin.Slice.sliceAdjust lo hi 1 (n:Int) with | (lo,hi)=>pure (lo,(1:Int),Builtin.Slice.slicePlaces lo hi 1)) _ _ s
  rw [adjust_gen lo hi n]
  show wpAny _ _ (pure (((sIx n 0 lo:Nat):Int),(1:Int),Builtin.Slice.slicePlaces ((sIx n 0 lo:Nat):Int) ((sIx n n hi:Nat):Int) 1)) _ _ s
  rw [places_gen]
  exact wpAny_pure h
theorem pick_gen (xs:Array Value) (i k:Nat):((List.range k).filterMap fun (m:Nat)=>xs[((i:Int)+(m:Int) * 1).toNat]?).toArray=((xs.toList.drop i).take k).toArray:=by
  have e:(fun (m:Nat)=>xs[((i:Int)+(m:Int) * 1).toNat]?)=fun m=>xs[i+m]?:=by
    funext m
    have:((i:Int)+(m:Int) * 1).toNat=i+m:=by omega
    rw [this]
  rw [e]
  have:=pick_run xs i k
  rw [List.filterMap_map] at this
  have e2:((fun x=>xs[x]?) ∘ fun x=>i+x)=fun m=>xs[i+m]?:=rfl
  rw [e2] at this
  rw [this]
theorem getItem_tuple_cut {t sl:Addr} {items:Array Value} {vl vu:Value} {lo hi:Option Int} {Q:Value→Shared→Prop} (ht:IsTup s.heap t items) (hs:s.heap.IsSliceOf sl vl vu .none) (pl:IsPart vl lo) (pu:IsPart vu hi)
    (hw:¬ (sIx items.size 0 lo=0∧sIx items.size items.size hi=items.size))
    (h:Q (.ref s.heap.objs.size) { s with heap:=s.heap.push { cls:=.type "tuple", data:=.seq ((items.toList.drop (sIx items.size 0 lo)).take (sIx items.size items.size hi - sIx items.size 0 lo)).toArray } })
    (hsz:items.size≤sizeLine):wpAny (model prog w) A (getItem (.ref t) (.ref sl)) Q E s:=by
  have htake:sizeOk (.seq ((items.toList.drop (sIx items.size 0 lo)).take (sIx items.size items.size hi - sIx items.size 0 lo)).toArray):=by
    show ((items.toList.drop (sIx items.size 0 lo)).take (sIx items.size items.size hi - sIx items.size 0 lo)).toArray.size≤sizeLine
    rw [List.size_toArray,List.length_take,List.length_drop,Array.length_toList]
    omega
  have hj:sIx items.size items.size hi≤items.size:=sIx_le _ _ (Nat.le_refl _) hi
  obtain ⟨os,hos,hcs,hds⟩:=id hs
  have hTs:s.TypeIs (.ref sl) "slice" := ⟨os,hos,hcs⟩
  unfold getItem
  try with_reducible refine wpAny_holding ?_
  first | refine wpAny_bind (wpAny_pure ?_) | skip
  refine wpAny_bind (wpAny_sequenceKey ht.typeIs (by decide) ?_)
  refine wpAny_bind (wpAny_callSpecial?_slot (name:=Str.ofString "__getitem__") ht.typeIs PyProof.Rows.slot_tuple_getitem
    (wpAny_call_entry PyProof.Rows.slot_tuple_getitem ht.typeIs entry_tuple_getitem ?_ (args_tuple_getitem _ _)))
  show wpAny _ _ (Builtin.Tuple.tupleItemsOf (.ref t) >>= _) _ _ s
  refine wpAny_bind (tupleItemsOf_ ht ?_)
  refine wpAny_bind (wpAny_typeOf hTs ?_)
  rw [if_pos (by decide)]
  refine wpAny_bind (sliceApplied_gen hs pl pu ?_)
  have hno:¬ ((((sIx items.size 0 lo:Nat):Int) == 0 && (1:Int) == 1 && (sIx items.size items.size hi - sIx items.size 0 lo) == items.size)=true):=by
    intro q
    rw [Bool.and_eq_true,Bool.and_eq_true] at q
    have q1:((sIx items.size 0 lo:Nat):Int)=0:=eq_of_beq q.1.1
    have q2:sIx items.size items.size hi - sIx items.size 0 lo=items.size:=eq_of_beq q.2
    exact hw ⟨by omega,by omega⟩
  show wpAny _ _ (if (((sIx items.size 0 lo:Nat):Int) == 0 && (1:Int) == 1 && (sIx items.size items.size hi - sIx items.size 0 lo) == items.size)=true then _ else _) _ _ s
  rw [if_neg hno,pick_gen]
  first
    | exact wpAny_bind (m:=Builtin.Tuple.tupleExact _) (wpAny_newObj_type (wpAny_pure ⟨_,rfl,wpAny_pure h⟩) htake)
    | exact wpAny_bind (m:=Builtin.Tuple.tupleExact _) (wpAny_newObj_type (wpAny_bind (wpAny_pure (wpAny_pure ⟨_,rfl,wpAny_pure h⟩))) htake)
    | exact wpAny_bind (wpAny_bind (m:=Builtin.Tuple.tupleExact _) (wpAny_newObj_type (wpAny_pure (wpAny_pure ⟨_,rfl,wpAny_pure h⟩)) htake))
    | exact wpAny_bind (wpAny_bind (m:=Builtin.Tuple.tupleExact _) (wpAny_newObj_type (wpAny_pure ⟨_,rfl,wpAny_pure h⟩) htake))
end
end HT
namespace L2
open PySem PySem.Spec PyProof.Rows
abbrev TO:=St→Hp→(Option Int→Hp→Prop)→Prop
def PO (X:Cx) (e:Option Expr) (t:TO):Prop:=
  ∀ (pins:List (Addr × Obj)) (s:Shared) (σ:St) (H:Hp) (Q:Option Int→Hp→Prop),Inv X pins σ H s→t σ H Q →
    wpAny (model X.prog X.w) X.A (evalPart e X.env) (fun u s'=>∃ o H',Inv X pins σ H' s'∧IsPart u o∧Q o H') X.xe s
def tNoPart:TO:=fun _ H Q=>Q none H
def tPart (t:TE):TO:=fun σ H Q=>t σ H fun x H1=>∃ i,x=.int i∧Q (some i) H1
section
variable {X:Cx} {e:Expr} {te:TE} {lo hi:Option Expr} {tl th:TO} {pos p2:Pos}
theorem po_none:PO X none tNoPart:=by
  intro pins s σ H Q I h
  rw [evalPart_none]
  exact wpAny_pure ⟨none,H,I,.none,h⟩
theorem po_some (h:PE X e te):PO X (some e) (tPart te):=by
  intro pins s σ H Q I hw
  rw [evalPart_some]
  refine thn (h pins s σ H _ I hw) fun u s1 ⟨x,H1,I1,r1,q1⟩=>?_
  obtain ⟨i,rfl,q⟩:=q1
  obtain ⟨t,rfl⟩:=r1
  exact ⟨some i,H1,I1,.int i t,q⟩
def SlR (X:Cx) (r:V→Option Int→Option Int→Hp→VK→Prop):Prop:=
  ∀ (pins:List (Addr × Obj)) (s:Shared) (σ:St) (H:Hp) (x:V) (v vl vu:Value) (lo hi:Option Int) (sl:Addr) (Q:VK),Inv X pins σ H s→RelV x v→s.heap.IsSliceOf sl vl vu .none→IsPart vl lo→IsPart vu hi→r x lo hi H Q →
    ∃ T id,typeLookup (.type T) "__getitem__" = pure (some (.builtin id))∧s.TypeIs v T∧wpAny (model X.prog X.w) X.A (getItem v (.ref sl)) (EP X pins σ Q) X.xe s
def tSl (r:V→Option Int→Option Int→Hp→VK→Prop) (te:TE) (tl th:TO):TE:=fun σ H Q=>te σ H fun x H1=>tl σ H1 fun l H2=>th σ H2 fun u H3=>r x l u H3 Q
theorem pe_slice {r:V→Option Int→Option Int→Hp→VK→Prop} (hr:SlR X r) (he:PE X e te) (hl:PO X lo tl) (hu:PO X hi th):PE X (.Subscript e (.Slice lo hi none p2) pos) (tSl r te tl th):=by
  intro pins s σ H Q I h
  refine Subscript_ (thn (he pins s σ H _ I h) fun v s1 ⟨x,H1,I1,r1,q1⟩=>?_)
  refine wpAny_Slice (thn (hl pins s1 σ H1 _ I1 q1) fun vl s2 ⟨l,H2,I2,pl,q2⟩=>thn (hu pins s2 σ H2 _ I2 q2) fun vu s3 ⟨u,H3,I3,pu,q3⟩=>?_)
  rw [evalPart_none]
  refine wpAny_pure ?_
  have I4:Inv X pins σ H3 { s3 with heap:=s3.heap.push { cls:=.type "slice", data:=.fields #[vl,vu,.none] } }:=I3.kept (t':=s3.toks) fun b ob q=>Heap.get?_push_of_some _ q
  obtain ⟨T,id,hT,ht,hg⟩:=hr pins { s3 with heap:=s3.heap.push { cls:=.type "slice", data:=.fields #[vl,vu,.none] } } σ H3 x v vl vu l u s3.heap.objs.size Q I4 r1 (Heap.IsSliceOf.new ..) pl pu q3
  show wpAny (model X.prog X.w) X.A (subscriptTail e (.Slice lo hi none p2) v (.ref s3.heap.objs.size)) (EP X pins σ Q) X.xe { s3 with heap:=s3.heap.push { cls:=.type "slice", data:=.fields #[vl,vu,.none] } }
  exact tail_any (ops:=[.ref s3.heap.objs.size,v]) ht hT hg (by with_unfolding_all rfl)
def cutV (xs:List V) (lo hi:Option Int):List V:=(xs.drop (HT.sIx xs.length 0 lo)).take (HT.sIx xs.length xs.length hi - HT.sIx xs.length 0 lo)
theorem cutV_length (xs:List V) (lo hi:Option Int):(cutV xs lo hi).length≤xs.length:=by
  unfold cutV
  rw [List.length_take,List.length_drop]
  omega
def rSlT (K:PySem.W.Frag):V→Option Int→Option Int→Hp→VK→Prop:=fun x lo hi H Q=>∃ a xs,x=.ref a∧SqT K H a xs ∧
  ¬ (HT.sIx xs.length 0 lo=0∧HT.sIx xs.length xs.length hi=xs.length)∧∀ p,H p=none→Q (.ref p) (upd H p (.tup (cutV xs lo hi)))
theorem sl_tup:SlR X (rSlT X.K):=by
  intro pins s σ H x v vl vu lo hi sl Q I rx hs pl pu h
  obtain ⟨a,xs,rfl,hx,hw,q⟩:=h
  cases rx
  obtain ⟨its,r,ht,hz⟩:=I.tuple hx
  have hlen:its.toArray.size=xs.length:=by rw [List.size_toArray];exact r.length.symm
  refine ⟨"tuple", _,PyProof.Rows.slot_tuple_getitem.lookup,ht.typeIs,?_⟩
  refine HT.getItem_tuple_cut ht hs pl pu (by rw [hlen];exact hw) ?_ (by rw [hlen];exact hz)
  rw [hlen]
  refine ⟨.ref s.heap.objs.size,_,I.laid (t':=s.toks) (o:=.tup (cutV xs lo hi)) (fun b ob q=>Heap.get?_push_of_some _ q) (Nat.le_refl _) ?_,rfl,q _ (I.hok.fresh (Nat.le_refl _))⟩
  exact ⟨⟨Nat.le_trans (cutV_length xs lo hi) hz,_,Heap.get?_push_size _ rfl,rfl⟩,_,(r.drop (HT.sIx xs.length 0 lo)).take (HT.sIx xs.length xs.length hi - HT.sIx xs.length 0 lo),IsTup.new _ _⟩
def rCatT (K:PySem.W.Frag):R2:=fun x y H Q=>∃ a b xs ys,x=.ref a∧y=.ref b∧SqT K H a xs∧SqT K H b ys∧xs≠[]∧xs.length+ys.length≤sizeLine ∧
  (ys=[]→Q (.ref a) H)∧(ys≠[]→∀ p,H p=none→Q (.ref p) (upd H p (.tup (xs++ys))))
theorem Vals.nil_iff {xs:List V} {us:List Value} (r:Vals xs us):us=[] ↔ xs=[]:=by
  cases r with
  | nil=>simp
  | cons _ _=>simp
theorem op_catT:OpR X (binaryOp .Add) (rCatT X.K):=by
  intro pins s σ H x y v u Q I rx ry h
  obtain ⟨a,b,xs,ys,rfl,rfl,ha,hb,hx,hz,q1,q2⟩:=h
  cases rx
  cases ry
  obtain ⟨its,r1,p1,_⟩:=I.tuple ha
  obtain ⟨its2,r2,p2,_⟩:=I.tuple hb
  refine HT.cat_tup p1 p2 (fun z=>hx (r1.nil_iff.mp z)) (fun z=>⟨.ref a,H,I,rfl,q1 (r2.nil_iff.mp z)⟩) (fun z=>?_) (by rw [← r1.length,← r2.length];exact hz)
  refine ⟨.ref s.heap.objs.size,_,I.laid (t':=s.toks) (o:=.tup (xs++ys)) (fun b ob q=>Heap.get?_push_of_some _ q) (Nat.le_refl _) ?_,rfl,q2 (fun w=>z (r2.nil_iff.mpr w)) _ (I.hok.fresh (Nat.le_refl _))⟩
  exact ⟨⟨by rw [List.length_append];exact hz,_,Heap.get?_push_size _ rfl,rfl⟩,_,r1.append r2,IsTup.new _ _⟩
end
end L2
namespace L2
open PySem PySem.Spec PyProof.Rows
def ixN (n:Nat) (i:Int):Option Nat:=if 0≤i then (if i < n then some i.toNat else none) else if -(n:Int)≤i then some (i+n).toNat else none
def atI {α:Type} (xs:List α) (i:Int):Option α:=(ixN xs.length i).bind fun j=>xs[j]?
theorem ixN_seq {n:Nat} {i:Int} {j:Nat} (h:ixN n i=some j):seqIndex? i n=some j∧j < n∧-(n:Int)≤i∧i < n:=by
  unfold ixN at h
  by_cases h0:0≤i
  · rw [if_pos h0] at h
    by_cases h1:i < n
    · rw [if_pos h1] at h
      have e:i.toNat=j:=Option.some.inj h
      exact ⟨by rw [seqIndex_of h0 h1,e],by omega,by omega,h1⟩
    · rw [if_neg h1] at h;cases h
  · rw [if_neg h0] at h
    by_cases h1:-(n:Int)≤i
    · rw [if_pos h1] at h
      have e:(i+n).toNat=j:=Option.some.inj h
      exact ⟨by rw [seqIndex_neg (by omega) h1,e],by omega,h1,by omega⟩
    · rw [if_neg h1] at h;cases h
theorem atI_get {α:Type} {xs:List α} {i:Int} {v:α} (h:atI xs i=some v):∃ j,seqIndex? i xs.length=some j∧xs[j]?=some v∧j < xs.length∧-(xs.length:Int)≤i∧i < xs.length:=by
  unfold atI at h
  cases e:ixN xs.length i with
  | none=>rw [e] at h;cases h
  | some j=>
    rw [e] at h
    obtain ⟨h1,h2,h3,h4⟩:=ixN_seq e
    exact ⟨j,h1,h,h2,h3,h4⟩
theorem atI_nat {α:Type} {xs:List α} {j:Nat} {v:α} (h:xs[j]?=some v):atI xs (j:Int)=some v:=by
  have hj:j < xs.length:=(List.getElem?_eq_some_iff.mp h).1
  have e:ixN xs.length (j:Int)=some j:=by
    unfold ixN
    rw [if_pos (by omega),if_pos (by omega)];simp
  unfold atI;rw [e];exact h
def PlainIx (b:Expr):Prop:=∀ o i,subscripted b false o i=operate [o,i] (getItem o i)
def IxR (X:Cx) (r:R2):Prop:=
  ∀ (value slice:Expr) (pins:List (Addr × Obj)) (s:Shared) (σ:St) (H:Hp) (x y:V) (v u:Value) (Q:VK),Inv X pins σ H s→RelV x v→RelV y u→r x y H Q →
    subscripted slice false v u=operate [v,u] (getItem v u)→wpAny (model X.prog X.w) X.A (subscriptTail value slice v u) (EP X pins σ Q) X.xe s
def MtR (X:Cx) (id:String) (r:V→List V→Hp→VK→Prop):Prop:=
  ∀ (pins:List (Addr × Obj)) (s:Shared) (σ:St) (H:Hp) (x:V) (xs:List V) (v:Value) (us:List Value) (Q:VK),Inv X pins σ H s→RelV x v→Vals xs us→r x xs H Q →
    wpAny (model X.prog X.w) X.A (call (.builtin id) (v :: us)) (EP X pins σ Q) X.xe s
section
variable {X:Cx} {a b:Expr} {ta tb:TE} {pos:Pos}
theorem pe_ix {r:R2} (hr:IxR X r) (ha:PE X a ta) (hb:PE X b tb) (hs:PlainIx b):PE X (.Subscript a b pos) (tOp r ta tb):=by
  intro pins s σ H Q I h
  exact Subscript_ (binT ha hb I h fun v u s2 x y H2 I2 rx ry q=>hr a b pins s2 σ H2 x y v u Q I2 rx ry q (hs _ _))
def rIxL (K:PySem.W.Frag):R2:=fun x y H Q=>∃ p xs i v,x=.ref p∧y=.int i∧SqL K H p xs∧atI xs i=some v∧Q v H
def rIxT (K:PySem.W.Frag):R2:=fun x y H Q=>∃ p xs i v,x=.ref p∧y=.int i∧SqT K H p xs∧atI xs i=some v∧Q v H
def rIxS:R2:=fun x y H Q=>∃ z i c,x=.str z∧y=.int i∧z.length≤sizeLine∧atI z.cps.toList i=some c∧Q (.str ⟨#[c]⟩) H
theorem ix_list:IxR X (rIxL X.K):=by
  intro value slice pins s σ H x y v u Q I rx ry h hs
  obtain ⟨p,xs,i,z,rfl,rfl,hq,he,q⟩:=h
  cases rx
  obtain ⟨t,rfl⟩:=ry
  obtain ⟨its,r,pl,hz⟩:=I.list hq
  obtain ⟨j,h1,h2,h3,h4,h5⟩:=atI_get he
  obtain ⟨w,ew,rw'⟩:=r.get h2
  have hl:=r.length
  have hn:=line63
  have fin:EP X pins σ Q w s:=⟨z,H,I,rw',q⟩
  by_cases h0:0≤i
  · have hj:i.toNat=j:=by
      rw [seqIndex_of h0 h5] at h1
      exact Option.some.inj h1
    exact item_listR pl.isList h0 (by omega) (by rw [hj];simpa using ew) fin hs
  · have hj:(i+(its.toArray.size:Int)).toNat=j:=by
      rw [seqIndex_neg (by omega) h4] at h1
      rw [List.size_toArray,← hl]
      exact Option.some.inj h1
    exact subscriptTail_builtinR (x:=w) pl.isList.typeIs slot_list_getitem.lookup
      (wpAny_getItem_list_neg (Q:=fun r s'=>r=w∧EP X pins σ Q r s') pl.isList (by omega) (by rw [List.size_toArray] <;> omega) (by omega) (by rw [hj];simpa using ew) ⟨rfl,fin⟩) hs
theorem ix_tup:IxR X (rIxT X.K):=by
  intro value slice pins s σ H x y v u Q I rx ry h hs
  obtain ⟨p,xs,i,z,rfl,rfl,hq,he,q⟩:=h
  cases rx
  obtain ⟨t,rfl⟩:=ry
  obtain ⟨its,r,pl,hz⟩:=I.tuple hq
  obtain ⟨j,h1,h2,h3,h4,h5⟩:=atI_get he
  obtain ⟨w,ew,rw'⟩:=r.get h2
  have hl:=r.length
  have hn:=line63
  have fin:EP X pins σ Q w s:=⟨z,H,I,rw',q⟩
  exact subscriptTail_builtinR (x:=w) pl.typeIs slot_tuple_getitem.lookup
    (getItem_tuple (j:=j) (Q:=fun r s'=>r=w∧EP X pins σ Q r s') pl (by omega) (by omega) (by rw [List.size_toArray,← hl];exact h1) (by simpa using ew) ⟨rfl,fin⟩) hs
theorem ix_str:IxR X rIxS:=by
  intro value slice pins s σ H x y v u Q I rx ry h hs
  obtain ⟨z,i,c,rfl,rfl,hz,he,q⟩:=h
  obtain ⟨t,rfl⟩:=rx
  obtain ⟨t',rfl⟩:=ry
  obtain ⟨j,h1,h2,h3,h4,h5⟩:=atI_get he
  have hl:z.cps.toList.length=z.length:=by simp [Str.length]
  rw [hl] at h1 h4 h5
  have hn:=line63
  exact tail_any (typeIs_str s z t) slot_str_getitem.lookup (getItem_str (c:=c) (by
    have e1:decide (i < -(2 ^ 63:Int))=false:=decide_eq_false (by omega)
    have e2:decide (i ≥ 2 ^ 63)=false:=decide_eq_false (by omega)
    rw [e1,e2,Bool.or_false]) (by rw [h1];simpa using h2) ⟨.str ⟨#[c]⟩,H,I.tok _,⟨_,rfl⟩,q⟩) hs
theorem mapSeq_set (its:List Value) (n j:Nat) (u:Value):Obj.mapSeq (·.setIfInBounds j u) { cls:=.type "list", data:=.seq its.toArray n }={ cls:=.type "list", data:=.seq (its.set j u).toArray n }:=by
  simp [Obj.mapSeq]
theorem Inv.lst {pins:List (Addr × Obj)} {σ:St} {H:Hp} {s:Shared} {p:Addr} {xs:List V} (I:Inv X pins σ H s) (h:H p=some (.lst xs)) :
    ∃ (its:List Value) (n:Nat),Vals xs its∧s.heap.get? p=some { cls:=.type "list", data:=.seq its.toArray n }∧xs.length≤sizeLine:=by
  obtain ⟨z,its,n,r,e⟩:=I.hok p _ h
  exact ⟨its,n,r,e,z⟩
theorem Inv.lstUpd {pins:List (Addr × Obj)} {σ:St} {H:Hp} {s:Shared} {p:Addr} {xs ys:List V} {its its':List Value} {n n':Nat} {f:Obj→Obj} (I:Inv X pins σ H s) (h:H p=some (.lst xs))
    (ho:s.heap.get? p=some { cls:=.type "list", data:=.seq its.toArray n }) (hf:f { cls:=.type "list", data:=.seq its.toArray n }={ cls:=.type "list", data:=.seq its'.toArray n' }) (r:Vals ys its') (hz:ys.length≤sizeLine) (t:Nat) :
    Inv X pins σ (upd H p (.lst ys)) { s with heap:=s.heap.update p f,toks:=t }:=by
  have e:(s.heap.update p f).get? p=some { cls:=.type "list", data:=.seq its'.toArray n' }:=by
    rw [Heap.get?_update_self f ho (by rw [hf] <;> rfl),hf]
  refine I.write (x:=p) (e:=p) (by rw [h];trivial) (.inl rfl) (fun b u hb q=>(Heap.get?_update_other _ _ (Ne.symm hb)).trans q) ⟨_,e⟩ ?_
  exact ⟨hz,its',n',r,e⟩
def rSetL:V→V→V→Hp→(Hp→Prop)→Prop:=fun o i v H Q=>∃ p xs k j,o=.ref p∧i=.int k∧H p=some (.lst xs)∧ixN xs.length k=some j∧Q (upd H p (.lst (xs.set j v)))
theorem set_list:PSet X rSetL:=by
  intro pins s σ H o i v ov iv u Q I ro ri rv h
  obtain ⟨p,xs,k,j,rfl,rfl,hp,hj,q⟩:=h
  cases ro
  obtain ⟨t,rfl⟩:=ri
  obtain ⟨its,n,r,ho,hz⟩:=I.lst hp
  obtain ⟨h1,h2,h3,h4⟩:=ixN_seq hj
  have hl:=r.length
  have hn:=line63
  have I':Inv X pins σ (upd H p (.lst (xs.set j v))) { s with heap:=s.heap.update p (Obj.mapSeq (·.setIfInBounds j u)) }:=
    I.lstUpd hp ho (mapSeq_set its n j u) (r.set rv j) (by rw [List.length_set];exact hz) s.toks
  by_cases h0:0≤k
  · have hk:k.toNat=j:=by
      rw [seqIndex_of h0 h4] at h1
      exact Option.some.inj h1
    exact PySem.W.ki_setAt ho h0 (by omega) (by rw [List.size_toArray,← hl];exact h4) (by rw [hk];exact ⟨_,I',q⟩)
  · have hk:(k+(its.toArray.size:Int)).toNat=j:=by
      rw [seqIndex_neg (by omega) h3] at h1
      rw [List.size_toArray,← hl]
      exact Option.some.inj h1
    exact PySem.W.ki_setBack ho (by omega) (by rw [List.size_toArray,← hl];exact h3) (by omega) (by rw [hk];exact ⟨_,I',q⟩)
def flatV:V→Bool
  | .non=>true
  | .bl _=>true
  | .int _=>true
  | .str _=>true
  | _=>false
def eqV:V→V→Bool
  | .non,.non=>true
  | .bl a,.bl b=>a == b
  | .bl a,.int b=>(if a then 1 else 0) == b
  | .int a,.bl b=>a == (if b then 1 else 0)
  | .int a,.int b=>a == b
  | .str a,.str b=>a == b
  | _,_=>false
theorem eqAt_V {A:Around} {s:Shared} {y x:V} {u v:Value} (ry:RelV y u) (rx:RelV x v) (fy:flatV y=true) (fx:flatV x=true):SeqAt.EqAt A s u v (eqV y x):=by
  cases y with
  | non=>
    cases ry
    cases x with
    | non=>cases rx;exact SeqAt.EqAt.same _
    | bl b=>cases rx;exact SeqAt.EqAt.none_bool b
    | int b=>obtain ⟨t,rfl⟩:=rx;exact SeqAt.EqAt.none_int b t
    | str b=>obtain ⟨t,rfl⟩:=rx;exact SeqAt.EqAt.none_str b t
    | _=>exact absurd (show false=true from fx) Bool.false_ne_true
  | bl a=>
    cases ry
    cases x with
    | non=>cases rx;exact SeqAt.EqAt.bool_none a
    | bl b=>cases rx;exact SeqAt.EqAt.bool_bool a b
    | int b=>obtain ⟨t,rfl⟩:=rx;exact SeqAt.EqAt.bool_int a b t
    | str b=>obtain ⟨t,rfl⟩:=rx;exact SeqAt.EqAt.bool_str a b t
    | _=>exact absurd (show false=true from fx) Bool.false_ne_true
  | int a=>
    obtain ⟨t',rfl⟩:=ry
    cases x with
    | non=>cases rx;exact SeqAt.EqAt.int_none a t'
    | bl b=>cases rx;exact SeqAt.EqAt.int_bool a t' b
    | int b=>obtain ⟨t,rfl⟩:=rx;exact SeqAt.EqAt.int_int a t' b t
    | str b=>obtain ⟨t,rfl⟩:=rx;exact SeqAt.EqAt.int_str a t' b t
    | _=>exact absurd (show false=true from fx) Bool.false_ne_true
  | str a=>
    obtain ⟨t',rfl⟩:=ry
    cases x with
    | non=>cases rx;exact SeqAt.EqAt.str_none a t'
    | bl b=>cases rx;exact SeqAt.EqAt.str_bool a t' b
    | int b=>obtain ⟨t,rfl⟩:=rx;exact SeqAt.EqAt.str_int a t' b t
    | str b=>obtain ⟨t,rfl⟩:=rx;exact SeqAt.EqAt.str_str a t' b t
    | _=>exact absurd (show false=true from fx) Bool.false_ne_true
  | _=>exact absurd (show false=true from fy) Bool.false_ne_true
theorem call_len_seq:CallR X (.builtin "len") (fun xs H Q=>∃ p ys,xs=[.ref p]∧(SqL X.K H p ys∨SqT X.K H p ys)∧Q (.int ys.length) H):=by
  intro pins s σ H xs us Q I r h
  obtain ⟨p,ys,rfl,hq,q⟩:=h
  obtain ⟨u,rfl,rx⟩:=vals1 r
  cases rx
  have hn:=line63
  rcases hq with hq | hq
  · obtain ⟨its,r',pl,hz⟩:=I.list hq
    have hlen:=r'.length
    exact Calls.call_len_list pl.isList (by simp only [List.size_toArray] <;> omega) ⟨.int ys.length,H,I.tok _,⟨s.toks+1,by rw [List.size_toArray,hlen]⟩,q⟩
  · obtain ⟨its,r',pl,hz⟩:=I.tuple hq
    have hlen:=r'.length
    exact len_tuple pl (by simp only [List.size_toArray] <;> omega) ⟨.int ys.length,H,I.tok _,⟨s.toks+1,by rw [List.size_toArray,hlen]⟩,q⟩
theorem call_len_str:CallR X (.builtin "len") (fun xs H Q=>∃ z,xs=[.str z]∧z.length≤sizeLine∧Q (.int z.length) H):=by
  intro pins s σ H xs us Q I r h
  obtain ⟨z,rfl,hz,q⟩:=h
  obtain ⟨u,rfl,t,rfl⟩:=vals1 r
  have hn:=line63
  exact len_str (by omega) ⟨.int z.length,H,I.tok _,⟨_,rfl⟩,q⟩
theorem call_list_of:CallR X (.type "list") (fun xs H Q=>∃ p ys,xs=[.ref p]∧(SqL X.K H p ys∨SqT X.K H p ys)∧∀ l,H l=none→Q (.ref l) (upd H l (.lst ys))):=by
  intro pins s σ H xs us Q I r h
  obtain ⟨p,ys,rfl,hq,q⟩:=h
  obtain ⟨u,rfl,rx⟩:=vals1 r
  cases rx
  have fin:∀ (its:List Value),Vals ys its→ys.length≤sizeLine→∀ (h':Heap) (c':Nat),(∀ b o',s.heap.get? b=some o'→h'.get? b=some o') →
      h'.get? s.heap.objs.size=some { cls:=.type "list", dict:=none,data:=.seq its.toArray c',slots:=#[] }→EP X pins σ Q (.ref s.heap.objs.size) { s with heap:=h' }:=fun its r' hz h' c' kp e=>
    ⟨.ref s.heap.objs.size,_,I.laid (t':=s.toks) kp (Nat.le_refl _) (show ObjOk X.prog X.w _ h' _ (.lst ys) from ⟨hz,its,c',r',e⟩),rfl,q _ (I.hok.fresh (Nat.le_refl _))⟩
  rcases hq with hq | hq
  · obtain ⟨its,r',pl,hz⟩:=I.list hq
    have hlen:=r'.length
    obtain ⟨o,ho,hc,n,hd⟩:=pl.isList
    exact call_list_seq p (.inl rfl) ho hc hd (fun h' c' kp e=>fin its r' hz h' c' kp e) (by simp only [List.size_toArray] <;> omega)
  · obtain ⟨its,r',pl,hz⟩:=I.tuple hq
    have hlen:=r'.length
    obtain ⟨o,ho,hc,n,hd⟩:=pl
    exact call_list_seq p (.inr rfl) ho hc hd (fun h' c' kp e=>fin its r' hz h' c' kp e) (by simp only [List.size_toArray] <;> omega)
theorem call_tuple_of:CallR X (.type "tuple") (fun xs H Q=>∃ p ys,xs=[.ref p]∧((SqL X.K H p ys∧∀ l,H l=none→Q (.ref l) (upd H l (.tup ys)))∨(SqT X.K H p ys∧Q (.ref p) H))):=by
  intro pins s σ H xs us Q I r h
  obtain ⟨p,ys,rfl,h⟩:=h
  obtain ⟨u,rfl,rx⟩:=vals1 r
  cases rx
  rcases h with ⟨hq,q⟩ | ⟨hq,q⟩
  · obtain ⟨its,r',pl,hz⟩:=I.list hq
    have hlen:=r'.length
    refine call_tuple_list pl.isList (fun h' kp=>?_) (by simp only [List.size_toArray] <;> omega)
    have I1:Inv X pins σ H { s with heap:=h' }:=I.kept (t':=s.toks) kp
    have I2:Inv X pins σ (upd H h'.objs.size (.tup ys)) { s with heap:=h'.push { cls:=.type "tuple", data:=.seq its.toArray } }:=
      I1.laid (t':=s.toks) (fun b o e=>Heap.get?_push_of_some _ e) (Nat.le_refl _) (show ObjOk X.prog X.w _ _ _ (.tup ys) from ⟨⟨hz,_,Heap.get?_push_size _ rfl,rfl⟩,its,r',IsTup.new _ _⟩)
    exact ⟨.ref h'.objs.size,_,I2,rfl,q _ (I1.hok.fresh (Nat.le_refl _))⟩
  · obtain ⟨its,r',pl,hz⟩:=I.tuple hq
    exact call_tuple_same pl ⟨.ref p,H,I,rfl,q⟩
def tyV (K:PySem.W.Frag) (T:String) (x:V) (H:Hp):Prop:=match x with
  | .str _=>T = "str"
  | .int _=>T = "int"
  | .ref p=>(T = "list" ∧ ∃ xs,SqL K H p xs)∨(T = "tuple" ∧ ∃ o,K.lookup p=some o∧o.cls=.type "tuple" ∧ o.dict=none) ∨
      (T = "dict" ∧ ((∃ kvs,H p=some (.dK kvs))∨∃ kvs,H p=some (.dT kvs)))∨(T = "set" ∧ ∃ S n,H p=some (.set S n))
  | _=>False
theorem tyV_is {pins:List (Addr × Obj)} {σ:St} {H:Hp} {s:Shared} {T:String} {x:V} {v:Value} (I:Inv X pins σ H s) (r:RelV x v) (ty:tyV X.K T x H) :
    s.TypeIs v T∧∀ a,v=.ref a→∃ ob,s.heap.get? a=some ob∧ob.dict=none:=by
  cases x with
  | str z=>
    obtain ⟨t,rfl⟩:=r
    cases (show T = "str" from ty)
    exact ⟨typeIs_str s z t,fun _ e=>nomatch e⟩
  | int i=>
    obtain ⟨t,rfl⟩:=r
    cases (show T = "int" from ty)
    exact ⟨typeIs_int s i t,fun _ e=>nomatch e⟩
  | ref p=>
    cases r
    rcases ty with ⟨rfl,xs,hq⟩ | ⟨rfl,o,hk,hc,hd⟩ | ⟨rfl,hk⟩ | ⟨rfl,S,n,hk⟩
    · obtain ⟨its,_,pl,_⟩:=I.list hq
      refine ⟨pl.isList.typeIs,fun a e=>?_⟩
      cases e
      obtain ⟨o,n,e,c,hd,_⟩:=pl
      exact ⟨o,e,hd⟩
    · refine ⟨⟨o,I.kIn p o hk,hc⟩,fun a e=>?_⟩
      cases e
      exact ⟨o,I.kIn _ o hk,hd⟩
    · have z:∃ o,s.heap.get? p=some o∧o.ExactDict:=by
        rcases hk with ⟨kvs,hk⟩ | ⟨kvs,hk⟩
        · obtain ⟨_,_,_,_,o,_,_,e,ex,_⟩:=I.hok p _ hk
          exact ⟨o,e,ex⟩
        · obtain ⟨_,_,_,_,o,_,_,e,ex,_⟩:=I.hok p _ hk
          exact ⟨o,e,ex⟩
      obtain ⟨o,e,ex⟩:=z
      refine ⟨⟨o,e,ex.1⟩,fun a e2=>?_⟩
      cases e2
      exact ⟨o,e,ex.2.1⟩
    · obtain ⟨o,_,_,_,e,ex,_⟩:=I.hok p _ hk
      refine ⟨⟨o,e,ex.1⟩,fun a e2=>?_⟩
      cases e2
      exact ⟨o,e,ex.2.1⟩
  | _=>exact False.elim ty
def tBM0 (K:PySem.W.Frag) (T:String) (r:V→List V→Hp→VK→Prop) (to:TE):TE:=fun σ H Q=>to σ H fun x H1=>tyV K T x H1∧r x [] H1 Q
def tBM (K:PySem.W.Frag) (T:String) (r:V→List V→Hp→VK→Prop) (to:TE) (t:TA):TE:=fun σ H Q=>to σ H fun x H1=>tyV K T x H1∧t σ H1 fun xs H2=>r x xs H2 Q
variable {o e:Expr} {es:List Expr} {to:TE} {t:TA} {name:Str} {apos cpos:Pos} {T id:String} {r:V→List V→Hp→VK→Prop}
theorem pe_bm0 (pa:PlainAttrs T) (slot:Slot T name id) (hty:typeOf (.builtin id)=pure (.type "method_descriptor")) (hm:MtR X id r) (ho:PE X o to)
    (hbase:attributeBase o name X.env (eval o X.env)=eval o X.env:=by rfl) (hline:(apos.endLine == cpos.line)=true:=by rfl):PE X (.Call (.Attribute o name apos) [] [] cpos) (tBM0 X.K T r to):=by
  intro pins s σ H Q I h
  refine wpAny_Call_method0_late hbase hline (thn (ho pins s σ H _ I h) fun v s1 ⟨x,H1,I1,r1,ty,q1⟩=>?_)
  obtain ⟨h1,h2⟩:=tyV_is I1 r1 ty
  exact ⟨T,id,pa,slot,hty,h1,h2,Calls.callWith_builtin rfl (PySem.evalArgs_none (hm pins s1 σ H1 x [] v [] Q I1 r1 .nil q1))⟩
theorem pe_bm (pa:PlainAttrs T) (slot:Slot T name id) (hty:typeOf (.builtin id)=pure (.type "method_descriptor")) (hm:MtR X id r) (ho:PE X o to) (ha:PA X (e :: es) t)
    (hbase:attributeBase o name X.env (eval o X.env)=eval o X.env:=by rfl)
    (hfew:((backTo cpos (starEach (e :: es) X.env)).all (fun x=>!x.1) && (backToKw cpos (keywordEach [] X.env)).all (fun x=>x.1.isSome)
      && decide ((e :: es).length+([]:List Keyword).length+(if ([]:List Keyword).isEmpty then 0 else 1) < 30))=true:=by rfl)
    (hline:(apos.endLine == cpos.line)=true:=by rfl) (hs:starEach (e :: es) X.env=(false,eval e X.env) :: starEach es X.env:=by rfl) (hplain:(backTo cpos (starEach es X.env)).any (·.1)=false:=by rfl) :
    PE X (.Call (.Attribute o name apos) (e :: es) [] cpos) (tBM X.K T r to t):=by
  intro pins s σ H Q I h
  refine wpAny_Call_method_late hbase hfew hline rfl (thn (ho pins s σ H _ I h) fun v s1 ⟨x,H1,I1,r1,ty,q1⟩=>?_)
  obtain ⟨h1,h2⟩:=tyV_is I1 r1 ty
  refine ⟨T,id,pa,slot,hty,h1,h2,?_⟩
  have hA:=ha cpos pins s1 σ H1 _ I1 q1
  rw [hs] at hA ⊢
  refine Calls.callWith_builtin (by show (false || (backTo cpos (starEach es X.env)).any (·.1))=false;rw [hplain] <;> rfl) (Calls.evalArgs_plain ?_)
  exact thn hA fun us s2 ⟨vs,H2,I2,r2,q2⟩=>hm pins s2 σ H2 x vs v us Q I2 r1 r2 q2
/- xs.append(e),list.index on a module's tuple .. are MtR facts of 06m -/
end
end L2
namespace L2
open PySem PySem.Spec PyProof.Rows
def MtM (X:Cx) (id:String) (r:V→List V→Hp→VK→Prop):Prop:=
  ∀ (pins:List (Addr × Obj)) (s:Shared) (σ:St) (H:Hp) (x:V) (xs:List V) (v:Value) (us:List Value) (Q:VK),Inv X pins σ H s→RelV x v→Vals xs us→r x xs H Q →
    wpAny (model X.prog X.w) X.A (call (.builtin id) (v :: us)) (EP X pins σ Q) X.xe s
theorem Vals.one:∀ {x:V} {us:List Value},Vals [x] us→∃ u,us=[u]∧RelV x u
  | _,_,.cons r .nil=>⟨_,rfl,r⟩
theorem Vals.two:∀ {x y:V} {us:List Value},Vals [x,y] us→∃ u v,us=[u,v]∧RelV x u∧RelV y v
  | _,_,_,.cons r (.cons q .nil)=>⟨_,_,rfl,r,q⟩
theorem Vals.zero:∀ {us:List Value},Vals [] us→us=[]
  | _,.nil=>rfl
theorem Vals.dropLast {xs:List V} {us:List Value} (h:Vals xs us):Vals xs.dropLast us.dropLast:=by
  induction h with
  | nil=>exact .nil
  | cons r t ih=>
    cases t with
    | nil=>exact .nil
    | cons q t'=>exact .cons r ih
theorem Vals.reverse {xs:List V} {us:List Value} (h:Vals xs us):Vals xs.reverse us.reverse:=by
  induction h with
  | nil=>exact .nil
  | cons r t ih=>rw [List.reverse_cons,List.reverse_cons];exact Vals.append ih (.cons r .nil)
section
variable {X:Cx} {pins:List (Addr × Obj)} {σ:St} {H:Hp} {s:Shared} {l b:Addr} {xs ys zs:List V}
theorem Inv.lset {its its':List Value} {n:Nat} {f:Array Value→Array Value} {t':Nat} (I:Inv X pins σ H s) (hH:H l=some (.lst xs))
    (e:s.heap.get? l=some { cls:=.type "list", data:=.seq its.toArray n }) (hf:f its.toArray=its'.toArray) (hv:Vals ys its') (hz:ys.length≤sizeLine) :
    Inv X pins σ (upd H l (.lst ys)) { s with heap:=s.heap.update l (Obj.mapSeq f),toks:=t' }:=by
  have q:=PySem.IsL.update e f
  rw [hf] at q
  refine I.write (x:=l) (e:=l) (by rw [hH];exact trivial) (.inl rfl) (fun b' u hb hu=>(Heap.get?_update_other s.heap (Obj.mapSeq f) (Ne.symm hb)).trans hu) ⟨_,q⟩ ?_
  exact ⟨hz,its',_,hv,q⟩
theorem Inv.lnew {its:List Value} {t':Nat} (I:Inv X pins σ H s) (hv:Vals ys its) (hz:ys.length≤sizeLine) :
    Inv X pins σ (upd H s.heap.objs.size (.lst ys)) { s with heap:=s.heap.push { cls:=.type "list", data:=.seq its.toArray },toks:=t' }:=
  I.laid (fun _ _ q=>Heap.get?_push_of_some _ q) (Nat.le_refl _) ⟨hz,its,0,hv,Heap.get?_push_size _ rfl⟩
theorem Inv.fresh (I:Inv X pins σ H s):H s.heap.objs.size=none:=I.hok.fresh (Nat.le_refl _)
theorem Inv.lstM (I:Inv X pins σ H s) (hH:H l=some (.lst xs)):xs.length≤sizeLine∧∃ (its:List Value) (n:Nat),Vals xs its∧xs.length=its.length∧s.heap.get? l=some { cls:=.type "list", data:=.seq its.toArray n }:=by
  obtain ⟨z,its,n,r,e⟩:=I.hok l _ hH
  exact ⟨z,its,n,r,r.length,e⟩
end
section
variable {X:Cx}
def rAppend:V→List V→Hp→VK→Prop:=fun x vs H Q=>∃ l xs y,x=.ref l∧vs=[y]∧H l=some (.lst xs)∧xs.length < sizeLine∧Q .non (upd H l (.lst (xs++[y])))
theorem mt_append:MtM X "list.append" rAppend:=by
  intro pins s σ H x vs v us Q I rx rv h
  obtain ⟨l,xs,y,rfl,rfl,hH,hz,q⟩:=h
  cases rx
  obtain ⟨u,rfl,ru⟩:=rv.one
  obtain ⟨z,its,n,r,hl,e⟩:=I.lstM hH
  refine call_meets F.slot_list_append ⟨_,e,rfl⟩ F.entry_list_append (F.args_list_append_2 _ _) (PySem.list_append l its.toArray n u (by rw [List.size_toArray];omega)) ⟨e,?_⟩
  refine ⟨.non,_,I.lset (its':=its++[u]) hH e (by simp) (r.append (.cons ru .nil)) ?_,rfl,q⟩
  rw [List.length_append,List.length_singleton]
  omega
def rCat:R2:=fun x y H Q=>∃ l b xs zs,x=.ref l∧y=.ref b∧H l=some (.lst xs)∧H b=some (.lst zs)∧xs.length+zs.length≤sizeLine∧∀ p,H p=none→Q (.ref p) (upd H p (.lst (xs++zs)))
theorem op_cat:OpR X (binaryOp .Add) rCat:=by
  intro pins s σ H x y v u Q I rx ry h
  obtain ⟨l,b,xs,zs,rfl,rfl,hH,hB,hz,q⟩:=h
  cases rx
  cases ry
  obtain ⟨z,its,n,r,hl,e⟩:=I.lstM hH
  obtain ⟨z2,its2,n2,r2,hl2,e2⟩:=I.lstM hB
  refine PySem.P.add_list e e2 ?_ (by rw [List.size_toArray,List.size_toArray];omega)
  have ea:its.toArray++its2.toArray=(its++its2).toArray:=by simp
  rw [ea]
  exact ⟨.ref _,_,I.lnew (t':=s.toks) (r.append r2) (by rw [List.length_append];omega),rfl,q _ I.fresh⟩
end
section
variable {prog:Program} {w:World} {A:Around} {E:Value→Shared→Prop} {s:Shared}
end
section
variable {X:Cx}
end
end L2
namespace Att
open PySem PySem.W PySem.Calls PyProof.Rows
theorem ints_of_wellAll {P:Params} {h:Heap}:∀ (ns:List Int) (vs:List Value),WellAll P h vs (ns.map WData.int)→IntsAre vs ns:=by
  intro ns
  induction ns with
  | nil=>
    intro vs w
    rw [List.map_nil] at w
    cases w
    exact .nil
  | cons n ns ih=>
    intro vs w
    rw [List.map_cons] at w
    cases w with
    | cons a b=>
      cases a
      exact .cons _ _ (ih _ b)
theorem script_of {l:OpenLaw} {n:Nat} (hn:l.most=some n) {P:Params} {h:Heap} {args:List WData} {vals:List Value}
    (hpre:l.row.toRowW.claim.pre args=true) (hwl:WellAll P h vals args) :
    ∃ a vs ns,vals=[Value.ref a]∧args=[WData.list (ns.map WData.int)]∧h.get? a=some { cls:=.type "list", data:=.seq vs.toArray }∧IntsAre vs ns∧ns.length≤n:=by
  have hsh:WShape.hasAll [] args [.list .int]=true:=(pre_splitW hpre).1
  have hc:l.pre.holds [] { args:=args }=true:=(pre_splitW hpre).2
  obtain ⟨d,r,rfl,h1,h2⟩:=hasAllW_cons hsh
  obtain rfl:=hasAllW_nil h2
  obtain ⟨xs,rfl,h3⟩:=hasW_list h1
  obtain ⟨ns,rfl⟩:=items_int h3
  have hlen:ns.length≤n:=by
    unfold OpenLaw.pre at hc
    have h4:(WTm.not (.lt (.lit (.int (n:Int))) (.len (.arg 0)))).holds [] { args:=[.list (ns.map .int)] }=true:=by
      have h4:=(holds_andW hc).1
      rw [hn] at h4
      exact h4
    have h5:=condW_of h4 (w_not (w_lt w_lit (w_len_list (w_arg rfl))))
    rw [List.length_map] at h5
    refine Nat.le_of_not_lt fun q=>?_
    have q':(n:Int) < ((ns.length:Nat):Int):=by omega
    first
      | (rw [decide_eq_true q'] at h5;exact absurd h5 (by decide))
      | (simp at h5;omega)
  cases hwl with
  | cons w1 w2=>
    cases w2
    cases w1 with
    | list ho hall=>exact ⟨_,_,ns,rfl,rfl,ho,ints_of_wellAll ns _ hall,hlen⟩
theorem post_true (l:OpenLaw) (args:List WData):l.row.toRowW.claim.post args (.bool true) args=true:=
  postW_of (r:=l.row.toRowW) (X:=(true == true))
    (show WShape.has [] (.bool true) .bool=true by first | rfl | decide | simp [WShape.has,WShape.arms,WShape.armsAll])
    (show (WTm.eq .res (.lit (.bool true))).value [] { args:=args,res:=some (.bool true),after:=args }=some (.bool (true == true)) from w_eq_bool (w_res rfl) w_lit) rfl
theorem attach_call {l:OpenLaw} {n:Nat} {q:Program} {loose:List Str} {XP:(Str→Option Value)→Heap→Prop} {YP:World→Heap→Prop} {d:DefRec}
    (hn:l.most=some n) (hdf:d.params.defaults=[])
    (call:∀ (w:World) (s₀ s₁:Shared) (mg mb:Str→Option Value) (fa:Addr) (o:Obj) (pm cd doc:Value) (a:Addr) (vs:List Value) (ns:List Int),
      Ground q loose [] XP w s₀ mg mb s₁.heap→YP w s₁.heap →
      s₁.heap.get? fa=some o→o.data=.func (docDef d.name d.params d.body d.scope pm cd doc)→s₁.heap.CodeRec cd d.name→mg d.name=some (.ref fa) →
      s₁.heap.get? a=some { cls:=.type "list", data:=.seq vs.toArray }→IntsAre vs ns→ns.length≤n→s₁.gens=#[] →
      codeAny (model l.prog w) callerA (.call (.ref fa) ⟨[.ref a],[]⟩) (fun r s'=>r=.ok (.ret (.bool true))∧OldK s₁.heap s'.heap∧s'.os=s₁.os∧AllBare s'.gens) s₁) :
    WalkO q loose XP YP l.row.toRowW d [] (fun f vs=>PySem.call f vs):=by
  intro w s₀ s₁ mg mb G Y fa o pm cd doc dV kV ho hd hcd hD hmg hg args vals as hpre hlay hrd hwl hlo
  obtain rfl:dV=.none:=Dflts.none hD hdf
  obtain rfl:kV=.none:=Dflts.noKw hD
  obtain ⟨a,vs,ns,rfl,rfl,hobj,hints,hlen⟩:=script_of hn hpre hwl
  refine enter_call (codeAny_mono (call w s₀ s₁ mg mb fa o pm cd doc a vs ns G Y ho (fd_plain hd) hcd hmg hobj hints hlen hg) fun r s' hq=>?_)
  obtain ⟨rfl,h2,h3,h4⟩:=hq
  exact ⟨.inl ⟨.bool true,.bool true,[],rfl,fun _=>rfl,.bool true,post_true l _,fun _=>⟨List.Pairwise.nil,fun _ hm=>(nomatch hm)⟩⟩,h2,h3,h4⟩
section
variable {prog:Program} {w:World} {A:Around} {E:Value→Shared→Prop} {s:Shared} {K:Frag}
def ledger (h:Heap) (L d:Addr):List (Addr × Obj):=(List.range h.objs.size).filterMap fun a=>if a=L∨a=d then none else (h.get? a).map fun o=>(a,o)
end
end Att
namespace L2
open PySem PySem.Spec PyProof.Rows
theorem vals_ints:∀ {vs:List Value} {ns:List Int},IntsAre vs ns→Vals (ns.map V.int) vs
  | _,_,.nil=>.nil
  | _,_,.cons n t h=>.cons ⟨t,rfl⟩ (vals_ints h)
def Only (H:Hp):Prop:=∀ b,H b=none∨∃ o xs,H b=some (.frz o (.lst xs))
theorem law_call {P:Program} {w:World} {K:PySem.W.Frag} {mg mb:Str→Option Value} {CX:CXT} {k:Nat} {fa a:Addr} {fd:FuncData} {x:Str} {sp:Sp} {s₁:Shared} {vs:List Value} {ns:List Int}
    (KX:K.In s₁.heap) (hns:s₁.heap.Ns mainGlobals mg) (hb:s₁.heap.Ns builtinsNs mb) (hbb:∀ x:Str,x ≠ "__name__" → mb x=bootBuiltins x) (hlim:s₁.heap.NoLimit) (hg:s₁.gens=#[])
    (ha:s₁.heap.get? a=some { cls:=.type "list", data:=.seq vs.toArray }) (hi:IntsAre vs ns) (hl:ns.length≤sizeLine) (hr:Room k callerA)
    (F:∀ base:Heap,K.In base→base.Ns mainGlobals mg→FnOk P w K mg base CX k fa fd [x] sp) (hbind:∀ (s:Shared) (u:Value),BindsTo s fd ⟨[u],[]⟩ [(x,u)])
    (hsp:∀ H:Hp,Only H→SqL K H a (ns.map V.int)→sp [.ref a] H (fun v _=>v=.bl true) fun _ _ _=>False)
    (hCX:∀ H e s',CX [] H s₁ (fun _ _ _=>False) e s'→False) :
    codeAny (model P w) callerA (.call (.ref fa) ⟨[.ref a],[]⟩) (fun r s'=>r=.ok (.ret (.bool true))∧OldK s₁.heap s'.heap∧s'.os=s₁.os∧AllBare s'.gens) s₁:=by
  have rv:=vals_ints hi
  have lenV:=hi.length
  have core:∀ H:Hp,Only H→SqL K H a (ns.map V.int)→HOk P w H s₁.heap→(∀ b,H b≠none→b=a)→(H a≠none→K.lookup a=none) →
      codeAny (model P w) callerA (.call (.ref fa) ⟨[.ref a],[]⟩) (fun r s'=>r=.ok (.ret (.bool true))∧OldK s₁.heap s'.heap∧s'.os=s₁.os∧AllBare s'.gens) s₁:=by
    intro H hO hS hok hA hK
    have base_of:∀ {b:Addr} {o:Obj},s₁.heap.get? b=some o→H b=none→(hidT s₁.heap H).get? b=some o:=fun e n=>hidT_get e n
    have noA:∀ {b:Addr} {o:Obj} {es:Array DictEntry} {ep:Nat},s₁.heap.get? b=some o→o.data=.dict es ep→H b=none:=fun {b o es ep} e d=>by
      cases q:H b with
      | none=>rfl
      | some u=>
        have e':b=a:=hA b (by rw [q];simp)
        subst e'
        rw [ha] at e;cases e
        have d':Data.seq vs.toArray _=Data.dict es ep:=d
        cases d'
    have nsK:∀ {b:Addr} {m:Str→Option Value},s₁.heap.Ns b m→(hidT s₁.heap H).Ns b m:=fun {b m} ⟨o,es,ep,e,d,r⟩=>⟨o,es,ep,base_of e (noA e d),d,r⟩
    have hKb:K.In (hidT s₁.heap H):=fun b o e=>base_of (KX b o e) (by
      cases q:H b with
      | none=>rfl
      | some u=>
        have e':b=a:=hA b (by rw [q];simp)
        subst e'
        rw [hK (by rw [q];simp)] at e;cases e)
    have hM:Mod K mg (hidT s₁.heap H):=⟨hKb,nsK hns,⟨mb,nsK hb,hbb⟩,let ⟨mc,h1,h2⟩:=hlim;⟨mc,nsK h1,h2⟩⟩
    have e0:Env0 P w K mg (hidT s₁.heap H) callerA [] s₁ H:=⟨rfl,hM,fun b o e=>of_hidT e,Nat.le_of_eq (hidT_size _ _),trivial,fun b hb=>absurd (show b∈([]:List Addr) from hb) (by simp),hok,.of_eq hg⟩
    refine codeAny_mono ((F _ hKb (nsK hns)).run callerA [] s₁ H ⟨[.ref a],[]⟩ [.ref a] [.ref a] _ _ hr e0 (hbind s₁ (.ref a)) (.cons rfl .nil) (hsp H hO hS)) fun r s' h=>?_
    cases r with
    | error e=>exact (hCX H e s' h).elim
    | ok fl=>
      cases fl with
      | next=>exact False.elim h
      | brk=>exact False.elim h
      | cont=>exact False.elim h
      | ret u=>
        obtain ⟨v,H',os,bare,un,hok',r',q⟩:=h
        have q':v=.bl true:=q
        subst q'
        obtain rfl:u=Value.bool true:=r'
        refine ⟨rfl,OldK.of_keep fun b o e=>?_,os,bare⟩
        cases q:H b with
        | none=>exact un.keep b o e q (by intro z;exact absurd (show b∈([]:List Addr) from z) (by simp)) (by simp)
        | some u=>
          rcases hO b with z | ⟨ob,xs,z⟩
          · rw [q] at z;cases z
          · have z2:=un.frzs b ob _ z
            obtain ⟨e1,_⟩:=hok b _ z
            obtain ⟨e2,_⟩:=hok' b _ z2
            rw [e] at e1;cases e1
            exact e2
  cases hk:K.lookup a with
  | some o=>
    have e:=KX a o hk
    rw [ha] at e
    cases e
    refine core (fun _=>none) (fun _=>.inl rfl) (.inr ⟨_,vs.toArray,_,hk,rfl,rfl,rfl,by rw [List.size_toArray,lenV];exact hl,by simpa using rv⟩) (fun b u z=>by have z':(none:Option HO)=some u:=z;cases z') (fun b z=>absurd rfl z) fun z=>absurd rfl z
  | none=>
    refine core (fun b=>if b=a then some (.frz { cls:=.type "list", data:=.seq vs.toArray } (.lst (ns.map V.int))) else none) (fun b=>?_) (.inl (.inr ⟨{ cls:=.type "list", data:=.seq vs.toArray },if_pos rfl⟩)) (fun b u z=>?_) (fun b z=>?_) fun _=>hk
    · by_cases hb:b=a
      · exact .inr ⟨_,_,if_pos hb⟩
      · exact .inl (if_neg hb)
    · by_cases hb:b=a
      · have z':=(if_pos hb).symm.trans z
        cases z'
        subst hb
        exact ⟨ha,by rw [List.length_map];exact hl,vs,_,rv,ha⟩
      · have z':=(if_neg hb).symm.trans z
        cases z'
    · by_cases hb:b=a
      · exact hb
      · exact absurd (if_neg hb) z
end L2
namespace L2
open PySem PySem.Spec PyProof.Rows
abbrev KOf {K:PySem.W.Frag} {h:Heap} (_:K.In h):PySem.W.Frag:=K
theorem walk_of {l:PySem.W.OpenLaw} {n k:Nat} {q:Program} {loose:List Str} {XP:(Str→Option Value)→Heap→Prop} {YP:World→Heap→Prop} {d:DefRec} {K:Params→PySem.W.Frag} {CX:World→CXT} {sp:World→Sp} {x:Str}
    (hn:l.most=some n) (hn2:n≤sizeLine) (hdf:d.params.defaults=[]) (hr:Room k callerA)
    (hY:∀ (w:World) (h:Heap),YP w h→(K w.params).In h)
    (F:∀ (w:World) (mg:Str→Option Value) (fa:Addr) (h:Heap),(K w.params).In h→h.Ns mainGlobals mg→mg d.name=some (.ref fa) →
      ∃ fd:FuncData,(∀ (s:Shared) (u:Value),BindsTo s fd ⟨[u],[]⟩ [(x,u)]) ∧
        ∀ base:Heap,(K w.params).In base→base.Ns mainGlobals mg→FnOk l.prog w (K w.params) mg base (CX w) k fa fd [x] (sp w))
    (hsp:∀ (w:World) (H:Hp) (a:Addr) (ns:List Int),ns.length≤n→Only H→SqL (K w.params) H a (ns.map V.int)→sp w [.ref a] H (fun v _=>v=.bl true) fun _ _ _=>False)
    (hCX:∀ (w:World) (H:Hp) (s:Shared) (e:Value) (s':Shared),CX w [] H s (fun _ _ _=>False) e s'→False) :
    PySem.W.WalkO q loose XP YP l.row.toRowW d [] (fun f vs=>PySem.call f vs):=by
  refine Att.attach_call hn hdf fun w s₀ s₁ mg mb fa o pm cd doc a vs ns G Y ho hd hcd hmg hobj hints hlen hg=>?_
  have KX:=hY w _ Y
  obtain ⟨fd,hb,hF⟩:=F w mg fa _ KX G.T.g hmg
  exact law_call KX G.T.g G.T.b G.T.builtins G.T.nolimit hg hobj hints (Nat.le_trans hlen hn2) hr hF hb (fun H hO hS=>hsp w H a ns hlen hO hS) fun H e s'=>hCX w H s₁ e s'
theorem walk_ofK {l:PySem.W.OpenLaw} {n k:Nat} {q:Program} {loose:List Str} {XP:(Str→Option Value)→Heap→Prop} {YP:World→Heap→Prop} {d:DefRec} {K:Params→PySem.W.Frag} {CX:CXT} {sp:PySem.W.Frag→Sp} {x:Str}
    (hn:l.most=some n) (hn2:n≤sizeLine) (hdf:d.params.defaults=[]) (hr:Room k callerA)
    (hY:∀ (w:World) (h:Heap),YP w h→(K w.params).In h)
    (F:∀ (w:World) (mg:Str→Option Value) (fa:Addr) (h:Heap),(K w.params).In h→h.Ns mainGlobals mg→mg d.name=some (.ref fa) →
      ∃ fd:FuncData,(∀ (s:Shared) (u:Value),BindsTo s fd ⟨[u],[]⟩ [(x,u)]) ∧
        ∀ base:Heap,(K w.params).In base→base.Ns mainGlobals mg→FnOk l.prog w (K w.params) mg base CX k fa fd [x] (sp (K w.params)))
    (hsp:∀ (K:PySem.W.Frag) (H:Hp) (a:Addr) (ns:List Int),ns.length≤n→Only H→SqL K H a (ns.map V.int)→sp K [.ref a] H (fun v _=>v=.bl true) fun _ _ _=>False)
    (hCX:∀ (H:Hp) (s:Shared) (e:Value) (s':Shared),CX [] H s (fun _ _ _=>False) e s'→False) :
    PySem.W.WalkO q loose XP YP l.row.toRowW d [] (fun f vs=>PySem.call f vs):=
  walk_of (K:=K) (CX:=fun _=>CX) (sp:=fun w=>sp (K w.params)) hn hn2 hdf hr hY F (fun w H a ns h1 h2 h3=>hsp (K w.params) H a ns h1 h2 h3) fun _ H s e s'=>hCX H s e s'
end L2
namespace L2
open PySem PySem.Spec PyProof.Rows
def defArgs (s:Stmt):Arguments:=match s with
  | .FunctionDef _ a _ _ _ _ _ _ _ _=>a
  | _=>{ posonlyargs:=[],args:=[],vararg:=none,kwonlyargs:=[],kw_defaults:=[],kwarg:=none,defaults:=[] }
def defBody (s:Stmt):List Stmt:=match s with
  | .FunctionDef _ _ b _ _ _ _ _ _ _=>b
  | _=>[]
def defScope (s:Stmt):Scope:=match s with
  | .FunctionDef _ _ _ _ _ _ sc _ _ _=>sc
  | _=>{ kind:=.function,names:=[],isGenerator:=false,isCoroutine:=false }
abbrev CX0:CXT:=fun _ _ _ _ _ _=>False
abbrev E0:XK:=fun _ _ _=>False
theorem pass0 {X:Cx}:Passes CX0 X E0:=fun _ _ _ _ _ _ _ h=>h.elim
structure Fun (K:PySem.W.Frag) (x qual:Str) (st:Stmt) (f:Addr) (fd:FuncData):Prop where
  ex:∃ (oc:Value) (od:Option Addr) (kV doc pm:Value) (an:Option Addr) (cdv ct:Value) (osl:Array (Option Value)),
    fd=PySem.W.fnOf x qual (defArgs st) (defBody st) (defScope st) .none kV doc pm an cdv ct∧K.lookup f=some ⟨oc,od,.func fd,osl⟩∧PySem.W.codeIn K cdv qual=true
  kp:PySem.W.keepIn K (.ref f)=true
section
variable {P:Program} {w:World} {K:PySem.W.Frag} {mg:Str→Option Value} {base:Heap}
theorem Fun.ok {x qual:Str} {st:Stmt} {f:Addr} {fd:FuncData} {N ps:List Str} {k:Nat} {sp:Sp} (F:Fun K x qual st f fd) (S:FnScope N ps (defScope st)) (len:∀ vs H Q E,sp vs H Q E→vs.length=ps.length)
    (hbody:∀ (cdv:Value) (A:Around) (outer:List Env) (s:Shared) (H:Hp) (vs:List V) (Q:VK) (E:XK),Room k (A.deeper (envOfC qual (defScope st) s.heap.objs.size f cdv))→sp vs H Q E →
      ∃ t,PSs (cxOf CX0 P w K mg base N qual (defScope st) f cdv A outer s H E).nox (defBody st) t∧t { nx:=fun _ H'=>Q .non H',rt:=Q } (start N vs) H):FnOk P w K mg base CX0 (k+1) f fd ps sp:=by
  obtain ⟨oc,od,kV,doc,pm,an,cdv,ct,osl,rfl,lk,hcd⟩:=F.ex
  refine fn_of lk hcd S len fun A outer s H vs Q E hr hsp=>?_
  obtain ⟨t,h,q⟩:=hbody cdv A outer s H vs Q E hr hsp
  exact ⟨t,h.nox,q⟩
theorem Fun.binds {x qual:Str} {st:Stmt} {f:Addr} {fd:FuncData} {ps:List Str} (F:Fun K x qual st f fd)
    (h:∀ (kV doc pm:Value) (an:Option Addr) (cdv ct:Value) (us:List Value),us.length=ps.length→bindArgs (PySem.W.fnOf x qual (defArgs st) (defBody st) (defScope st) .none kV doc pm an cdv ct) ⟨us,[]⟩=pure (ps.zip us)):Binds K fd ps []:=by
  obtain ⟨oc,od,kV,doc,pm,an,cdv,ct,osl,rfl,lk,hcd⟩:=F.ex
  exact .all (h kV doc pm an cdv ct)
theorem fun_mk {x qual:Str} {st:Stmt} {f:Addr} {oc:Value} {od an:Option Addr} {osl:Array (Option Value)} {kV doc pm cdv ct:Value} (l:K.lookup f=some ⟨oc,od,.func (PySem.W.fnOf x qual (defArgs st) (defBody st) (defScope st) .none kV doc pm an cdv ct),osl⟩)
    (c:PySem.W.codeIn K cdv qual=true) (k:PySem.W.keepIn K (.ref f)=true):Fun K x qual st f (PySem.W.fnOf x qual (defArgs st) (defBody st) (defScope st) .none kV doc pm an cdv ct):=⟨⟨oc,od,kV,doc,pm,an,cdv,ct,osl,rfl,l,c⟩,k⟩
end
theorem small1000 {n:Nat} (h:n≤1000):n < sizeLine:=Nat.lt_of_le_of_lt h (by decide)
section
variable {X:Cx}
theorem pv (i:Nat) {x:Str} {pos:Pos} (hN:X.N[i]?=some x:=by rfl) (hv:Vis X.env.scope x:=by first | exact Or.inl rfl | exact Or.inr (Or.inl rfl) | exact Or.inr (Or.inr rfl)) (hd:(x == ("__debug__" : Str))=false:=by decide)
    (hcd:(x == ("__classdict__" : Str))=false:=by decide):PE X (.Name x pos) (tVar i):=pe_var hN hv hd hcd
end
theorem iteF {A B:Prop} (h:B):if false=true then A else B:=by
  rw [if_neg Bool.false_ne_true]
  exact h
theorem iteT {A B:Prop} (h:A):if true=true then A else B:=by
  rw [if_pos rfl]
  exact h
theorem ite2 {c A B:Prop} [Decidable c] (h1:c→A) (h2:¬ c→B):if c then A else B:=by
  by_cases h:c
  · rw [if_pos h]
    exact h1 h
  · rw [if_neg h]
    exact h2 h
def Same (H H':Hp):Prop:=∀ b o,H b=some o→H' b=some o
theorem Same.refl (H:Hp):Same H H:=fun _ _ h=>h
theorem Same.trans {H H1 H2:Hp} (a:Same H H1) (b:Same H1 H2):Same H H2:=fun c o h=>b c o (a c o h)
theorem Same.free {H H':Hp} (e:Same H H') {l:Addr} (h:H' l=Option.none):H l=Option.none:=by
  cases q:H l with
  | none=>rfl
  | some o=>
    rw [e l o q] at h
    cases h
theorem Same.seq {K:PySem.W.Frag} {H H':Hp} {a:Addr} {xs:List V} (e:Same H H') (h:SqL K H a xs):SqL K H' a xs:=by
  rcases h with (h | ⟨o,h⟩) | h
  · exact .inl (.inl (e _ _ h))
  · exact .inl (.inr ⟨o,e _ _ h⟩)
  · exact .inr h
end L2
set_option maxHeartbeats 16000000
namespace L2
open PySem PySem.Spec PyProof.Rows
theorem lookup_mem {α:Type}:∀ {cl:List (Str × α)} {x:Str} {c:α},cl.lookup x=some c→(x,c)∈cl
  | [],_,_,h=>by simp at h
  | (y,d) :: r,x,c,h=>by
    rw [List.lookup_cons] at h
    cases e:x == y with
    | true=>
      rw [e] at h
      have e':x=y:=eq_of_beq e
      cases h
      rw [e'];exact List.mem_cons_self
    | false=>
      rw [e] at h
      exact List.mem_cons_of_mem _ (lookup_mem h)
theorem lookup_of_mem {α:Type}:∀ {cl:List (Str × α)} {x:Str} {c:α},(x,c)∈cl→∃ c',cl.lookup x=some c'
  | [],_,_,h=>nomatch h
  | (y,d) :: r,x,c,h=>by
    rw [List.lookup_cons]
    cases e:x == y with
    | true=>exact ⟨d,rfl⟩
    | false=>
      rcases List.mem_cons.mp h with h | h
      · cases h
        simp at e
      · exact lookup_of_mem h
theorem closure_go {env:Env} {f:(Str × NameKind)→List (Str × Addr)→Sem (ForInStep (List (Str × Addr)))}
    (h1:∀ x k cs,k≠NameKind.free→f (x,k) cs=pure (.yield cs)) (h2:∀ x cs c,env.cells.lookup x=some c→f (x,NameKind.free) cs=pure (.yield ((x,c) :: cs))) :
    ∀ (names:List (Str × NameKind)) (acc:List (Str × Addr)),(∀ x,(x,NameKind.free)∈names→∃ c,env.cells.lookup x=some c) →
      ∃ cl,forIn names acc f=pure cl∧(∀ p∈cl,p∈acc∨env.cells.lookup p.1=some p.2)∧(∀ p∈acc,p∈cl)∧∀ x,(x,NameKind.free)∈names→∃ c,(x,c)∈cl
  | [],acc,_=>⟨acc,rfl,fun _ h=>.inl h,fun _ h=>h,fun _ h=>nomatch h⟩
  | (x,k) :: r,acc,h=>by
    by_cases hk:k=NameKind.free
    · subst hk
      obtain ⟨c,hc⟩:=h x List.mem_cons_self
      obtain ⟨cl,e,a,b,d⟩:=closure_go h1 h2 r ((x,c) :: acc) fun y hy=>h y (List.mem_cons_of_mem _ hy)
      refine ⟨cl,?_,fun p hp=>?_,fun p hp=>b p (List.mem_cons_of_mem _ hp),fun y hy=>?_⟩
      · rw [List.forIn_cons,h2 x acc c hc,pure_bind];exact e
      · rcases a p hp with q | q
        · rcases List.mem_cons.mp q with q | q
          · subst q;exact .inr hc
          · exact .inl q
        · exact .inr q
      · rcases List.mem_cons.mp hy with q | q
        · cases q;exact ⟨c,b _ List.mem_cons_self⟩
        · exact d y q
    · obtain ⟨cl,e,a,b,d⟩:=closure_go h1 h2 r acc fun y hy=>h y (List.mem_cons_of_mem _ hy)
      refine ⟨cl,?_,a,b,fun y hy=>?_⟩
      · rw [List.forIn_cons,h1 x k acc hk,pure_bind];exact e
      · rcases List.mem_cons.mp hy with q | q
        · cases q;exact absurd rfl hk
        · exact d y q
theorem closure_ok {scope:Scope} {env:Env} (h:∀ x,(x,NameKind.free)∈scope.names→∃ c,env.cells.lookup x=some c) :
    ∃ cl,closureFor scope env=pure cl∧(∀ x c,cl.lookup x=some c→env.cells.lookup x=some c)∧∀ x,(x,NameKind.free)∈scope.names→∃ c,cl.lookup x=some c:=by
  have go:=closure_go (env:=env) (f:=fun x cs=>match x with | (name,kind)=>if (kind == NameKind.free)=true then do let a ← cellOf env name;pure (.yield ((name,a) :: cs)) else pure (.yield cs))
    (fun x k cs hk=>by
      have:(k == NameKind.free)=false:=by simpa using hk
      simp only [this,Bool.false_eq_true,if_false])
    (fun x cs c hc=>by
      simp only [beq_self_eq_true,if_true]
      unfold cellOf
      rw [hc,pure_bind])
    scope.names [] h
  obtain ⟨cl,e,a,_,d⟩:=go
  refine ⟨cl,?_,fun x c hx=>?_,fun x hx=>?_⟩
  · unfold closureFor
    simp only [bind_pure]
    exact e
  · rcases a _ (lookup_mem hx) with q | q
    · exact nomatch q
    · exact q
  · obtain ⟨c,hc⟩:=d x hx
    exact lookup_of_mem hc
theorem relabel_lookup {env:Env} {x:Str} {k:NameKind}:∀ {names:List (Str × NameKind)},
    (names.map fun (n,k)=>if (k == NameKind.free && env.scope.kind == .function && env.kindOf n == some .cell) then (n,NameKind.cell) else (n,k)).lookup x=some k →
      names.lookup x=some k∨(k=.cell∧names.lookup x=some .free)
  | [],h=>by simp at h
  | (n,j) :: r,h=>by
    have ih:=@relabel_lookup env x k r
    rw [List.lookup_cons]
    change List.lookup x ((if (j == NameKind.free && env.scope.kind == .function && env.kindOf n == some .cell)=true then (n,NameKind.cell) else (n,j)) :: _)=_ at h
    by_cases hc:(j == NameKind.free && env.scope.kind == .function && env.kindOf n == some .cell)=true
    · rw [if_pos hc,List.lookup_cons] at h
      have hj:j=NameKind.free:=by
        simp only [Bool.and_eq_true] at hc
        exact eq_of_beq hc.1.1
      cases hx:x == n with
      | true=>rw [hx] at h;cases h;exact .inr ⟨rfl,by rw [hj]⟩
      | false=>rw [hx] at h;exact ih h
    · rw [if_neg hc,List.lookup_cons] at h
      cases hx:x == n with
      | true=>rw [hx] at h;exact .inl h
      | false=>rw [hx] at h;exact ih h
def cxComp (X:Cx) (scope:Scope) (NL:List Str) (ix:List Nat) (cl:List (Str × Addr)) (C:Addr) (s₃:Shared) (H₃:Hp) (fp:List Addr) (pins:List (Addr × Obj)):Cx where
  prog:=X.prog
  w:=X.w
  K:=X.K
  mg:=X.mg
  base:=X.base
  A:=X.A
  N:=NL++ix.map fun j=>X.N.getD j ""
  s₀:=s₃
  H₀:=H₃
  env:=compEnvC scope cl C X.env
  outer:=X.stack
  stack:=X.stack
  ex:=fp
  fn:=fun _=>false
  calm:=X.calm
  pn:=X.pn++pins
  xe:=fun _ _=>False
def comp0 (NL:List Str) (ix:List Nat) (σ:St):St:=NL.map (fun _=>none)++ix.map fun j=>σ.getD j none
def PIfs (X:Cx) (ifs:List Expr) (t:TT):Prop:=
  ∀ (pins:List (Addr × Obj)) (s:Shared) (σ:St) (H:Hp) (Q:Bool→Hp→Prop),Inv X pins σ H s→t σ H Q →
    wpAny (model X.prog X.w) X.A (forIn ifs true fun c r=>if r=true then do let ok ← isTrue c X.env (eval c X.env);pure (ForInStep.yield ok) else pure (ForInStep.yield r)) (TP X pins σ Q) X.xe s
def tYes:TT:=fun _ H Q=>Q true H
theorem pifs_nil {X:Cx}:PIfs X [] tYes:=fun _ _ _ H _ I h=>wpAny_tests_nil ⟨H,I,h⟩
theorem pifs_one {X:Cx} {c:Expr} {t:TT} (h:PT X c t):PIfs X [c] t:=fun pins s σ H Q I q=>wpAny_tests_one (h pins s σ H Q I q)
def tComp (NL:List Str) (ix:List Nat) (wi:TI) (g:TG) (tt:TT) (te:TE):TE:=fun σ H Q=>
  wi σ H fun J H1=>∀ acc,H1 acc=none→∃ W:Nat→Nat→List V→Hp→Prop,(∃ m,W 0 m [] (upd H1 acc (.lst []))) ∧
    ∀ i m ys H2,W i m ys H2→H2 acc=some (.lst ys)∧ys.length < sizeLine ∧
      ((J.stop i H2∧Q (.ref acc) H2)∨(J.go i H2∧∃ N:List V→Hp→Prop,(∀ ys' H',N ys' H'→∃ m',m' < m∧W (i+1) m' ys' H') ∧
        ∀ x H3,J.yld i H2 x H3→g x (comp0 NL ix σ) H3 fun σ' H4=>σ'.drop NL.length=ix.map (fun j=>σ.getD j none)∧tt σ' H4 fun b H5=>
          if b=true then te σ' H5 fun v H6=>H6 acc=some (.lst ys)∧N (ys++[v]) (upd H6 acc (.lst (ys++[v]))) else N ys H5))
section
variable {X:Cx} {pins:List (Addr × Obj)} {σ:St} {H:Hp} {s:Shared}
structure CompScope (X:Cx) (scope:Scope) (NL:List Str) (ix:List Nat):Prop where
  kind:scope.kind=.function
  cell:∀ y∈scope.names,y.2≠.cell
  names:∀ y∈scope.names,y.2=.local→scope.names.lookup y.1=some .local
  free:∀ y∈scope.names,y.2=.free→X.env.kindOf y.1=some .cell∨X.env.kindOf y.1=some .free
  cap:∀ j∈ix,∃ x,X.N[j]?=some x∧scope.names.lookup x=some .free
theorem comp_inv {scope:Scope} {NL:List Str} {ix:List Nat} {cl:List (Str × Addr)} {fp:List Addr} {tn:Nat→Heap→Prop} {s₃:Shared} {h₁:Heap} {m:Str→Option Value} {tk:Nat}
    (S:CompScope X scope NL ix) (I:Inv X pins σ H s₃) (c1:∀ x c,cl.lookup x=some c→X.env.cells.lookup x=some c) (c2:∀ x,(x,NameKind.free)∈scope.names→∃ c,cl.lookup x=some c)
    (hf:∀ b∈fp,FpOk X pins H b) (ho:∀ b∈fp,∃ o,s₃.heap.get? b=some o) (hn:h₁.Ns s₃.heap.objs.size m) (old:∀ b o,s₃.heap.get? b=some o→h₁.get? b=some o) :
    Inv (cxComp X scope NL ix cl s₃.heap.objs.size s₃ H fp pins) [] (comp0 NL ix σ) H { s₃ with heap:=h₁,toks:=tk }:=by
  have e0:=I.env0
  have lt:∀ b o,s₃.heap.get? b=some o→b≠s₃.heap.objs.size:=fun b o e=>Nat.ne_of_lt (Heap.lt_size e)
  have nst:∀ b,b≠X.env.locals→b ∉ X.fs→b ∉ frs X.stack:=fun b h1 h2 h3=>(List.mem_cons.mp (I.stkSub b h3)).elim h1 h2
  have ok:(cxComp X scope NL ix cl s₃.heap.objs.size s₃ H fp pins).Ok:=
    { mod:=I.ok.mod
      kind:=S.kind
      glob:=I.ok.glob
      blt:=I.ok.blt
      above:=Nat.le_refl _
      inj:=fun x y c h1 h2=>I.ok.inj x y c (c1 x c h1) (c1 y c h2)
      has:=fun x hx=>by
        have hfree:scope.names.lookup x=some .free:=by
          rcases hx with hx | hx
          · rcases relabel_lookup hx with q | ⟨_,q⟩
            · exact absurd rfl (S.cell _ (lookup_mem q))
            · exact q
          · rcases relabel_lookup hx with q | ⟨z,_⟩
            · exact q
            · cases z
        exact c2 x (lookup_mem hfree)
      cab:=fun _ _ z=>nomatch z
      hd:=I.ok.hd
      frames:=I.ok.frames
      stk:=.inl rfl
      exf:=fun b hb=>⟨let ⟨o,e⟩:=ho b hb;lt b o e,fun x c hx=>(hf b hb).2.2.2.2.1 x c (c1 x c hx)⟩
      bs:=I.bs
      bsz:=e0.bsz
      noex:=fun b o e hb=>by
        rcases (hf b hb).2.2.2.1 with z | z
        · exact I.ok.noex b o e z
        · exact absurd (Nat.lt_of_lt_of_le (Heap.lt_size e) (Nat.le_trans I.ok.bsz z)) (Nat.lt_irrefl _)
      exfs:=fun b hb=>nst b (hf b hb).2.1 (hf b hb).2.2.1
      funs:=e0.funs
      frf:=e0.frf }
  refine ⟨ok,rfl,I.bare,Un.kept old,⟨m,hn,fun i x v e1 e2 e3=>?_⟩,fun x c e=>?_,I.hok.fresh (Nat.le_refl _),fun x c e=>I.freeC x c (c1 x c e),fun p hp=>?_,I.hok.kept old,?_⟩
  · have hl:NL.length≤i:=by
      rcases Nat.lt_or_ge i NL.length with z | z
      · exfalso
        unfold comp0 at e2
        rw [List.getElem?_append_left (by simpa using z),List.getElem?_map] at e2
        cases q:NL[i]? with
        | none=>rw [q] at e2;cases e2
        | some y=>rw [q] at e2;cases e2
      · exact z
    unfold comp0 at e2
    rw [List.getElem?_append_right (by simpa using hl),List.length_map,List.getElem?_map] at e2
    change (NL++ix.map fun j=>X.N.getD j "")[i]?=some x at e1
    rw [List.getElem?_append_right hl,List.getElem?_map] at e1
    cases q:ix[i - NL.length]? with
    | none=>rw [q] at e1;cases e1
    | some j=>
      rw [q] at e1 e2
      have e1':X.N.getD j "" = x:=Option.some.inj e1
      have e2':σ.getD j none=some v:=Option.some.inj e2
      obtain ⟨x',hx',hfr⟩:=S.cap j (List.mem_of_getElem? q)
      have exx:x'=x:=by
        rw [← e1',List.getD_eq_getElem?_getD,hx'];rfl
      subst exx
      have hσ:σ[j]?=some (some v):=by
        rw [List.getD_eq_getElem?_getD] at e2'
        cases z:σ[j]? with
        | none=>rw [z] at e2';cases e2'
        | some o=>rw [z] at e2';exact congrArg some e2'
      have kd:=S.free _ (lookup_mem hfr) rfl
      have vis:Vis X.env.scope x':=by
        rcases kd with z | z
        · exact .inr (.inl z)
        · exact .inr (.inr z)
      obtain ⟨m',hn',hl'⟩:=I.loc
      obtain ⟨u,r,l⟩:=hl' j x' v hx' hσ vis
      refine ⟨u,r,.inr ?_⟩
      have hk':(compEnvC scope cl s₃.heap.objs.size X.env).kindOf x'=some .cell∨(compEnvC scope cl s₃.heap.objs.size X.env).kindOf x'=some .free:=by
        rcases e3 with z | z | z
        · rcases relabel_lookup z with w | ⟨w,_⟩
          · rw [hfr] at w;cases w
          · cases w
        · exact .inl z
        · exact .inr z
      refine ⟨hk',?_⟩
      obtain ⟨c,hc⟩:=c2 x' (lookup_mem hfr)
      rcases l with ⟨k,_⟩ | ⟨k,c',ec,o,ho',hd⟩
      · rcases kd with z | z
        · rw [k] at z;cases z
        · rw [k] at z;cases z
      · have:c'=c:=by
          have:=c1 x' c hc
          rw [ec] at this
          exact Option.some.inj this
        subst this
        exact ⟨c',hc,o,old _ _ ho',hd⟩
  · obtain ⟨v,o,ho',hd⟩:=I.cell x c (c1 x c e)
    exact ⟨v,o,old _ _ ho',hd⟩
  · have hp':p∈X.pn++pins:=by
      rcases List.mem_append.mp hp with z | z
      · exact z
      · exact nomatch z
    obtain ⟨e,n,ne,nf,d⟩:=I.pin p hp'
    exact ⟨old _ _ e,n,lt _ _ e,nst _ ne nf,d⟩
  · show (NL.map (fun _=>(none:Option V))++ix.map fun j=>σ.getD j none).length=(NL++ix.map fun j=>X.N.getD j "").length
    simp
theorem comp_run {scope:Scope} {NL:List Str} {ix:List Nat} {elt tg iter:Expr} {ifs:List Expr} {pos:Pos} {g:TG} {tt:TT} {te:TE} {cl:List (Str × Addr)} {fp:List Addr} {it:Addr} {tn:Nat→Heap→Prop} {J:It} {Q:VK}
    {E:Value→Shared→Prop} {RR:Value→Addr→Result→Shared→Prop}
    (hc:X.calm=true) (S:CompScope X scope NL ix) (c1:∀ x c,cl.lookup x=some c→X.env.cells.lookup x=some c) (c2:∀ x,(x,NameKind.free)∈scope.names→∃ c,cl.lookup x=some c)
    (hb:∀ (cl:List (Str × Addr)) (C:Addr) (s₃:Shared) (H₃:Hp) (fp:List Addr) (pins:List (Addr × Obj)),PG (cxComp X scope NL ix cl C s₃ H₃ fp pins) tg g∧PIfs (cxComp X scope NL ix cl C s₃ H₃ fp pins) ifs tt∧PE (cxComp X scope NL ix cl C s₃ H₃ fp pins) elt te)
    (I:Inv X pins σ H s) (T:Turn X.prog X.w X.K tg J fp it tn) (st:tn 0 s.heap) (hf:∀ b∈fp,FpOk X pins H b)
    (q:∀ acc,H acc=none→∃ W:Nat→Nat→List V→Hp→Prop,(∃ m,W 0 m [] (upd H acc (.lst []))) ∧
      ∀ i m ys H2,W i m ys H2→H2 acc=some (.lst ys)∧ys.length < sizeLine ∧
      ((J.stop i H2∧Q (.ref acc) H2)∨(J.go i H2∧∃ N:List V→Hp→Prop,(∀ ys' H',N ys' H'→∃ m',m' < m∧W (i+1) m' ys' H') ∧
        ∀ x H3,J.yld i H2 x H3→g x (comp0 NL ix σ) H3 fun σ' H4=>σ'.drop NL.length=ix.map (fun j=>σ.getD j none)∧tt σ' H4 fun b H5=>
          if b=true then te σ' H5 fun v H6=>H6 acc=some (.lst ys)∧N (ys++[v]) (upd H6 acc (.lst (ys++[v]))) else N ys H5)))
    (hRR:∀ (acc C:Addr) (H':Hp) (s':Shared) (m':Str→Option Value),Inv X pins σ H' s'→s'.heap.Ns C m'→FpOk X pins H' C→Q (.ref acc) H'→RR (.ref acc) C (.ok .next) s') :
    wpAny (model X.prog X.w) X.A (newList []) (fun acc s₃=>wpAny (model X.prog X.w) X.A (newFunctionEnv scope X.env.globals cl [] X.env.qual none .none (some X.env)) (fun cenv s₄=>
      codeAny (model X.prog X.w) X.A (.compStart (.ListComp elt [⟨tg,iter,ifs,0⟩] scope pos) 0 (.ref it) acc { cenv with scope:=relabel scope X.env }) (RR acc cenv.locals) s₄) E s₃) E s:=by
  refine wpAny_newObj_type (wpAny_newFunctionEnv S.cell (by intro y hy;simp at hy) (fun h₁ hns₁ hsb₁=>?_) S.kind)
  have I3:Inv X pins σ (upd H s.heap.objs.size (.lst [])) { s with heap:=s.heap.push { cls:=.type "list", data:=.seq ([]:List Value).toArray },toks:=s.toks }:=I.lnew (its:=[]) .nil (Nat.zero_le _)
  have hfr:H s.heap.objs.size=none:=I.hok.fresh (Nat.le_refl _)
  generalize hs3:({ s with heap:=s.heap.push { cls:=.type "list", data:=.seq ([]:List Value).toArray },toks:=s.toks }:Shared)=s₃ at I3
  have hsz:s₃.heap.objs.size=s.heap.objs.size+1:=by rw [← hs3];exact Heap.size_push ..
  have old1:∀ b o,s.heap.get? b=some o→s₃.heap.get? b=some o:=fun b o e=>by rw [← hs3];exact Heap.get?_push_of_some _ e
  have key:codeAny (model X.prog X.w) X.A (.compStart (.ListComp elt [⟨tg,iter,ifs,0⟩] scope pos) 0 (.ref it) (.ref s.heap.objs.size) (compEnvC scope cl s₃.heap.objs.size X.env))
      (RR (.ref s.heap.objs.size) s₃.heap.objs.size) { s₃ with heap:=h₁,toks:=s₃.toks+0 }:=by
    have hns:h₁.Ns s₃.heap.objs.size (fun _=>none):=by
      have:=hns₁
      rw [← hs3]
      exact this
    have hsb:Heap.SameBut s₃.heap.objs.size (s₃.heap.push { cls:=.type "dict", data:=.dict #[] }) h₁:=by
      have:=hsb₁
      rw [← hs3]
      exact this
    have old:∀ b o,s₃.heap.get? b=some o→h₁.get? b=some o:=fun b o e=>hsb.extBut b o (Nat.ne_of_lt (Heap.lt_size e)) (Heap.get?_push_of_some _ e)
    have hf3:∀ b∈fp,FpOk X pins (upd H s.heap.objs.size (.lst [])) b:=fun b hb'=>by
      obtain ⟨o,e,_⟩:=T.obj 0 _ st b hb'
      have ne:b≠s.heap.objs.size:=Nat.ne_of_lt (Heap.lt_size e)
      exact ⟨by rw [upd_ne ne];exact (hf b hb').1,(hf b hb').2⟩
    have ho3:∀ b∈fp,∃ o,s₃.heap.get? b=some o:=fun b hb'=>by
      obtain ⟨o,e,_⟩:=T.obj 0 _ st b hb'
      exact ⟨o,old1 b o e⟩
    have st1:tn 0 h₁:=T.keep 0 _ _ st fun b hb' o e=>old b o (old1 b o e)
    have I4:=comp_inv (tn:=tn) (tk:=s₃.toks+0) S I3 c1 c2 hf3 ho3 hns old
    obtain ⟨W,⟨m0,w0⟩,turn⟩:=q s.heap.objs.size hfr
    obtain ⟨hg,ht,he⟩:=hb cl s₃.heap.objs.size s₃ (upd H s.heap.objs.size (.lst [])) fp pins
    generalize hX':cxComp X scope NL ix cl s₃.heap.objs.size s₃ (upd H s.heap.objs.size (.lst [])) fp pins=X' at I4 hg ht he
    have p1:X'.prog=X.prog:=by rw [← hX'];rfl
    have p2:X'.w=X.w:=by rw [← hX'];rfl
    have p3:X'.K=X.K:=by rw [← hX'];rfl
    have p4:X'.A=X.A:=by rw [← hX'];rfl
    have p5:X'.env=compEnvC scope cl s₃.heap.objs.size X.env:=by rw [← hX'];rfl
    have p6:X'.calm=true:=by rw [← hX'];exact hc
    have p7:X'.xe=fun _ _=>False:=by rw [← hX'];rfl
    have stat:∀ {H':Hp},(∀ b∈fp,H' b=none)→∀ b∈fp,FpOk X' [] H' b:=fun {H'} hn b hb'=>by
      have z:=hf3 b hb'
      obtain ⟨o,eo⟩:=ho3 b hb'
      rw [← hX']
      refine ⟨hn b hb',Nat.ne_of_lt (Heap.lt_size eo),fun q=>(List.mem_cons.mp (I3.stkSub b q)).elim z.2.1 z.2.2.1,.inl hb',fun x c hx=>z.2.2.2.2.1 x c (c1 x c hx),fun p hp=>?_⟩
      rcases List.mem_append.mp hp with w | w
      · exact z.2.2.2.2.2 p w
      · exact nomatch w
    have fin:∀ i n ys H' s',Inv X' [] (comp0 NL ix σ) H' s'→W i n ys H'→Q (.ref s.heap.objs.size) H'→RR (.ref s.heap.objs.size) s₃.heap.objs.size (.ok .next) s':=fun i n ys H' s' I' w' q'=>by
      obtain ⟨m',hn',_⟩:=I'.loc
      have hos:s'.os=s₃.os:=by have:=I'.os;rw [← hX'] at this;exact this
      have hu:Un (frs X.stack) fp (upd H s.heap.objs.size (.lst [])) H' s₃.heap s'.heap:=by have:=I'.base;rw [← hX'] at this;exact this
      have hk:HOk X.prog X.w H' s'.heap:=by have:=I'.hok;rw [← hX'] at this;exact this
      have hfC:H' s₃.heap.objs.size=none:=by have:=I'.free;rw [← hX'] at this;exact this
      have hnC:s'.heap.Ns s₃.heap.objs.size m':=by rw [p5] at hn';exact hn'
      exact hRR _ _ H' s' m' (I3.call' hos hu hk I'.bare fun b hb'=>⟨(hf3 b hb').2.2.2.1,(hf3 b hb').2.1,(hf3 b hb').2.2.2.2.1,(hf3 b hb').2.2.2.2.2⟩) hnC (I3.fpOk (Nat.le_refl _) hfC) q'
    have loop:∀ s₄:Shared,Inv X' [] (comp0 NL ix σ) (upd H s.heap.objs.size (.lst [])) s₄→tn 0 s₄.heap→codeAny (model X.prog X.w) X.A (.compLoop (.ListComp elt [⟨tg,iter,ifs,0⟩] scope pos) 0 (.ref it) (.ref s.heap.objs.size) (compEnvC scope cl s₃.heap.objs.size X.env))
        (RR (.ref s.heap.objs.size) s₃.heap.objs.size) s₄:=fun s₄ I4 st1=>by
      refine codeAny_loop rfl (fun n s'=>∃ i ys H',Inv X' [] (comp0 NL ix σ) H' s'∧tn i s'.heap∧(∀ b∈fp,H' b=none)∧W i n ys H') (fun n s' hI=>?_) m0 ⟨0,[],_,I4,st1,fun b hb'=>(hf3 b hb').1,w0⟩
      obtain ⟨i,ys,H',I',st',fr',w'⟩:=hI
      show wpAny _ X.A ((compTurn (.ListComp elt [⟨tg,iter,ifs,0⟩] scope pos) 0 (.ref it) (.ref s.heap.objs.size) (compEnvC scope cl s₃.heap.objs.size X.env)).onRaise (fun x=>do noteFrame x (compEnvC scope cl s₃.heap.objs.size X.env);theTreesLotGoes x)) _ _ s'
      refine wpAny_noted ?_
      rw [compTurn_list]
      obtain ⟨hacc,hz8,alt⟩:=turn i n ys H' w'
      rcases alt with ⟨stop,qn⟩ | ⟨go,N,hN,step⟩
      · have d:=T.done X' p1 p2 p3 p6 i [] s' (comp0 NL ix σ) H' (notedBy (model X.prog X.w) X.A (compEnvC scope cl s₃.heap.objs.size X.env) fun e s'=>RR (.ref s.heap.objs.size) s₃.heap.objs.size (.error e) s') I' (stat fr') st' stop
        rw [p4] at d
        refine wpAny_bind (wpAny_standAt (wpAny_bind (thn d fun r s1 ⟨hr,I1⟩=>?_)))
        subst hr
        exact wpAny_pure (fin i n ys H' s1 I1 w' qn)
      · have d:=T.item X' p1 p2 p3 p6 i [] s' (comp0 NL ix σ) H' (notedBy (model X.prog X.w) X.A (compEnvC scope cl s₃.heap.objs.size X.env) fun e s'=>RR (.ref s.heap.objs.size) s₃.heap.objs.size (.error e) s') I' (stat fr') st' go
        rw [p4] at d
        refine wpAny_bind (wpAny_standAt (wpAny_bind (thn d fun r s1 ⟨u,hr,h4⟩=>?_)))
        subst hr
        refine wpAny_bind (thn h4 fun _ s5 ⟨x,H5,I5,r5,y5,st5,fr5⟩=>?_)
        have I5':=I5.pinned (stat fr5) (T.obj _ _ st5)
        have nofail:∀ {α:Type} {t:Sem α} {R:α→Shared→Prop} {sx:Shared},wpAny (model X'.prog X'.w) X'.A t R X'.xe sx→wpAny (model X.prog X.w) X.A t R (notedBy (model X.prog X.w) X.A (compEnvC scope cl s₃.heap.objs.size X.env) fun e s'=>RR (.ref s.heap.objs.size) s₃.heap.objs.size (.error e) s') sx:=fun {α t R sx} hh=>by
          rw [p1,p2,p4,p7] at hh
          exact wpAny_mono hh (fun _ _ z=>z) fun _ _ z=>z.elim
        have again:∀ {σ7:St} {H7:Hp} {s7:Shared} {ys':List V},σ7.drop NL.length=ix.map (fun j=>σ.getD j none)→Inv X' ([]++pinsAt fp s5.heap) σ7 H7 s7→(∃ m',m' < n∧W (i+1) m' ys' H7)→∃ m,m < n∧∃ i ys H',Inv X' [] (comp0 NL ix σ) H' s7∧tn i s7.heap∧(∀ b∈fp,H' b=none)∧W i m ys H':=fun {σ7 H7 s7 ys'} hσ I7 n7=>by
          obtain ⟨m',hm,w7⟩:=n7
          have Iw:Inv X' ([]++pinsAt fp s5.heap) (comp0 NL ix σ) H7 s7:=I7.weak (by rw [I7.len,I'.len]) fun j v hj=>by
            have hlj:NL.length≤j:=by
              rcases Nat.lt_or_ge j NL.length with z | z
              · exfalso
                unfold comp0 at hj
                rw [List.getElem?_append_left (by simpa using z),List.getElem?_map] at hj
                cases q:NL[j]? with
                | none=>rw [q] at hj;cases hj
                | some y=>rw [q] at hj;cases hj
              · exact z
            unfold comp0 at hj
            rw [List.getElem?_append_right (by simpa using hlj),List.length_map,← hσ,List.getElem?_drop] at hj
            rw [← hj]
            congr 1
            omega
          refine ⟨m',hm,i+1,ys',H7,Iw.unpinned,T.keep _ _ _ st5 fun b hb' o e=>(I7.pin (b,o) (List.mem_append_right _ (List.mem_append_right _ (mem_pinsAt hb' e)))).1,fun b hb'=>?_,w7⟩
          obtain ⟨o,e,d⟩:=T.obj _ _ st5 b hb'
          exact (I7.pin (b,o) (List.mem_append_right _ (List.mem_append_right _ (mem_pinsAt hb' e)))).2.1
        have hg':=nofail (hg _ s5 (comp0 NL ix σ) H5 x u _ I5' r5 (step x H5 y5))
        rw [p5] at hg'
        refine wpAny_bind (thn hg' fun _ s6 ⟨σ6,H6,I6,hσ6,q6⟩=>?_)
        have ht':=nofail (ht _ s6 σ6 H6 _ I6 q6)
        rw [p5] at ht'
        refine wpAny_bind (thn ht' fun ok s7 ⟨H7,I7,q7⟩=>?_)
        cases ok with
        | false=>
          have q7':N ys H7:=by simpa using q7
          exact wpAny_pure ⟨rfl,again hσ6 I7 (hN _ _ q7')⟩
        | true=>
          have q7':=(if_pos rfl).mp q7
          have he':=nofail (he _ s7 σ6 H7 _ I7 q7')
          rw [p5] at he'
          refine wpAny_bind (wpAny_bind (thn he' fun v s8 ⟨y,H8,I8,r8,ha8,q8⟩=>?_))
          have ap:=nofail (mt_append _ s8 σ6 H8 (.ref s.heap.objs.size) [y] (.ref s.heap.objs.size) [v] (fun _ H9=>H9=upd H8 s.heap.objs.size (.lst (ys++[y]))) I8 rfl (.cons r8 .nil) ⟨_,ys,y,rfl,rfl,ha8,hz8,rfl⟩)
          refine wpAny_bind (thn ap fun _ s9 ⟨z,H9,I9,r9,e9⟩=>wpAny_pure (wpAny_pure ⟨rfl,?_⟩))
          subst e9
          exact again hσ6 I9 (hN _ _ q8)
    exact codeAny_compStart_list (loop _ I4 st1) (T.self X.A 0 _ _ _ st1 (loop _ I4 st1))
  exact key
theorem pe_comp {scope:Scope} {NL:List Str} {ix:List Nat} {elt tg iter:Expr} {ifs:List Expr} {pos:Pos} {wi:TI} {g:TG} {tt:TT} {te:TE}
    (hc:X.calm=true) (hi:PI X tg iter wi) (S:CompScope X scope NL ix)
    (hb:∀ (cl:List (Str × Addr)) (C:Addr) (s₃:Shared) (H₃:Hp) (fp:List Addr) (pins:List (Addr × Obj)),PG (cxComp X scope NL ix cl C s₃ H₃ fp pins) tg g∧PIfs (cxComp X scope NL ix cl C s₃ H₃ fp pins) ifs tt∧PE (cxComp X scope NL ix cl C s₃ H₃ fp pins) elt te)
    (hs:∀ x,foldedSetIterable iter X.env x=pure x:=by intro _;rfl):PE X (.ListComp elt [⟨tg,iter,ifs,0⟩] scope pos) (tComp NL ix wi g tt te):=by
  intro pins s σ H Q I h
  obtain ⟨cl,hcl,c1,c2⟩:=closure_ok (scope:=scope) (env:=X.env) fun x hx=>by
    rcases S.free _ hx rfl with z | z
    · exact I.ok.has x (.inl z)
    · exact I.ok.has x (.inr z)
  rw [eval_ListComp]
  refine wpAny_comprehension_free (use:=none) rfl hs hcl S.kind S.names (thn (hi pins s σ H _ I h) fun xv s1 h1=>thn h1 fun itv s2 h2=>?_)
  obtain ⟨it,fp,tn,J,H2,rfl,I2,T,st2,f2,q⟩:=h2
  refine comp_run (RR:=fun acc C=>compPost (model X.prog X.w) X.A X.xe none (EP X pins σ Q) acc C) hc S c1 c2 hb I2 T st2 f2 q ?_
  intro acc C H' s' m' I' hn fC q'
  refine ⟨m',hn,fun h' sb=>⟨.ref acc,H',?_,rfl,q'⟩⟩
  exact I'.turned (t':=s'.toks) (fun b o hb e=>sb.extBut b o hb e) fC.1 fC.2.1 fC.2.2.2.1 fC.2.2.2.2.1 fC.2.2.2.2.2
theorem comp_by {J:It} {NL:List Str} {ix:List Nat} {g:TG} {tt:TT} {te:TE} {σ:St} {H1:Hp} {Qs:Hp→Prop} {acc:Addr} (n:Nat) (hn:n < 1000) (Pv:Nat→List V→Hp→Prop)
    (hacc:∀ i ys H2,Pv i ys H2→H2 acc=some (.lst ys)∧ys.length≤i) (h0:Pv 0 [] (upd H1 acc (.lst []))) (hstop:∀ ys H2,Pv n ys H2→J.stop n H2∧Qs H2)
    (hturn:∀ i ys H2,i < n→Pv i ys H2→J.go i H2∧∀ x H3,J.yld i H2 x H3→g x (comp0 NL ix σ) H3 fun σ' H4=>σ'.drop NL.length=ix.map (fun j=>σ.getD j none)∧tt σ' H4 fun b H5=>
      if b=true then te σ' H5 fun v H6=>H6 acc=some (.lst ys)∧Pv (i+1) (ys++[v]) (upd H6 acc (.lst (ys++[v]))) else Pv (i+1) ys H5) :
    ∃ W:Nat→Nat→List V→Hp→Prop,(∃ m,W 0 m [] (upd H1 acc (.lst []))) ∧
    ∀ i m ys H2,W i m ys H2→H2 acc=some (.lst ys)∧ys.length < sizeLine ∧
      ((J.stop i H2∧Qs H2)∨(J.go i H2∧∃ N:List V→Hp→Prop,(∀ ys' H',N ys' H'→∃ m',m' < m∧W (i+1) m' ys' H') ∧
        ∀ x H3,J.yld i H2 x H3→g x (comp0 NL ix σ) H3 fun σ' H4=>σ'.drop NL.length=ix.map (fun j=>σ.getD j none)∧tt σ' H4 fun b H5=>
          if b=true then te σ' H5 fun v H6=>H6 acc=some (.lst ys)∧N (ys++[v]) (upd H6 acc (.lst (ys++[v]))) else N ys H5)):=by
  refine ⟨fun i m ys H2=>i≤n∧m=n - i∧Pv i ys H2,⟨n,Nat.zero_le _,rfl,h0⟩,fun i m ys H2 ⟨hi,hm,hp⟩=>?_⟩
  obtain ⟨a1,a2⟩:=hacc i ys H2 hp
  refine ⟨a1,small1000 (by omega),?_⟩
  rcases Nat.lt_or_ge i n with lt | ge
  · obtain ⟨go,tn⟩:=hturn i ys H2 lt hp
    exact .inr ⟨go,Pv (i+1),fun ys' H' hN=>⟨n - (i+1),by omega,by omega,rfl,hN⟩,tn⟩
  · have e:i=n:=by omega
    subst e
    exact .inl (hstop ys H2 hp)
end
end L2
namespace L2
open PySem PySem.Spec PyProof.Rows
section
variable {prog:Program} {w:World} {A:Around} {E:Value→Shared→Prop} {s:Shared}
end
inductive SK where
  | lst (a:Addr) | tup (a:Addr) | str (x:Str)
def SK.val:SK→V
  | .lst a=>.ref a
  | .tup a=>.ref a
  | .str x=>.str x
def signs (x:Str):List V:=x.cps.toList.map fun c=>.str ⟨#[c]⟩
def SK.own (it:Addr) (k:Nat) (h:Heap):SK→Prop
  | .lst a=>h.IsListIter it a k
  | .tup a=>h.IsTupleIter it a k
  | .str x=>∃ t,h.IsStrIter it (strIterType x) x t k
section
variable {X:Cx} {pins:List (Addr × Obj)} {σ:St} {H:Hp} {s:Shared}
end
open AutoSeq1 (wpAny_loadPart') in
section
variable {X:Cx} {pins:List (Addr × Obj)} {σ:St} {H:Hp} {s:Shared}
end
section
variable {prog:Program} {w:World} {A:Around} {E:Value→Shared→Prop} {s:Shared}
end
section
variable {X:Cx}
end
def cutS (z:Str) (lo hi:Option Int):Str:=⟨((z.cps.toList.drop (HT.sIx z.length 0 lo)).take (HT.sIx z.length z.length hi - HT.sIx z.length 0 lo)).toArray⟩
theorem clip_s (i:Int) (n d:Nat):max 0 (min (if i < 0 then i+(n:Int) else i) (n:Int))=((HT.sIx n d (some i):Nat):Int):=by
  simp only [HT.sIx]
  split
  · omega
  · omega
theorem range_cut (a b:Nat):sliceRange (a:Int) (b:Int) 1=(List.range (b - a)).map fun k=>a+k:=by
  unfold sliceRange
  simp only [show ((1:Int) > 0)=True from by simp,if_true]
  by_cases hlt:(a:Int) < b
  · have e3:(((b:Int) - a+1 - 1) / 1).toNat=b - a:=by
      rw [Int.ediv_one];omega
    simp only [hlt,if_true,e3]
    refine List.map_congr_left fun k _=>?_
    omega
  · have:b - a=0:=by omega
    simp [hlt,this]
theorem sliceIdx_cut (lo hi:Option Int) (n:Nat):Builtin.Str.strSliceIndices lo hi 1 n=(List.range (HT.sIx n n hi - HT.sIx n 0 lo)).map fun k=>HT.sIx n 0 lo+k:=by
  unfold Builtin.Str.strSliceIndices
  simp only [show ((1:Int) > 0)=True from by simp,if_true]
  cases lo with
  | none=>
    cases hi with
    | none=>exact range_cut 0 n
    | some j=>dsimp only;rw [clip_s j n n];exact range_cut 0 _
  | some i=>
    cases hi with
    | none=>dsimp only;rw [clip_s i n 0];exact range_cut _ n
    | some j=>dsimp only;rw [clip_s i n 0,clip_s j n n];exact range_cut _ _
theorem slice_text (z:Str) (t:Tok) (l u:Option (Int × Tok)):∀ (Q:Value→Shared→Prop) (s:Shared),z.length≤sizeLine→(∀ t' s',s'.heap=s.heap→s'.gens=s.gens→s'.drawn=s.drawn→s'.os=s.os→Q (.str (cutS z (l.map (·.1)) (u.map (·.1))) t') s')→(sliceMade z t l u none).post Q s:=by
  intro Q s hz h
  have hidx:=sliceIdx_cut (l.map (·.1)) (u.map (·.1)) z.length
  have hle:HT.sIx z.length z.length (u.map (·.1))≤z.length:=HT.sIx_le _ _ (Nat.le_refl _) _
  have hlo:HT.sIx z.length 0 (l.map (·.1))≤z.length:=HT.sIx_le _ _ (Nat.zero_le _) _
  have hzl:z.length=z.cps.toList.length:=by simp [Str.length]
  have cut:((slicePicked z l u none).filterMap (z.cps[·]?))=(z.cps.toList.drop (HT.sIx z.length 0 (l.map (·.1)))).take (HT.sIx z.length z.length (u.map (·.1)) - HT.sIx z.length 0 (l.map (·.1))):=by
    have p:=StrLaws.picks z.cps.toList (HT.sIx z.length z.length (u.map (·.1)) - HT.sIx z.length 0 (l.map (·.1))) (HT.sIx z.length 0 (l.map (·.1))) (by omega)
    rw [← p]
    unfold slicePicked
    simp only [Option.map_none,Option.getD_none]
    rw [hidx]
    congr 1
    funext k
    simp
  unfold sliceMade
  split
  · rename_i c
    have whole:cutS z (l.map (·.1)) (u.map (·.1))=z:=by
      unfold cutS
      have e:(slicePicked z l u none).length=z.length:=by
        simp only [Bool.and_eq_true,beq_iff_eq] at c
        exact c.2
      have e':HT.sIx z.length z.length (u.map (·.1)) - HT.sIx z.length 0 (l.map (·.1))=z.length:=by
        unfold slicePicked at e
        simp only [Option.map_none,Option.getD_none] at e
        rw [hidx] at e
        simpa using e
      have e0:HT.sIx z.length 0 (l.map (·.1))=0:=by omega
      rw [e',e0,List.drop_zero,hzl,List.take_length]
    have:=h t s rfl rfl rfl rfl
    rw [whole] at this
    exact this
  · rw [cut]
    have hl':(⟨((z.cps.toList.drop (HT.sIx z.length 0 (l.map (·.1)))).take (HT.sIx z.length z.length (u.map (·.1)) - HT.sIx z.length 0 (l.map (·.1)))).toArray⟩:Str).length≤sizeLine:=by
      have:(⟨((z.cps.toList.drop (HT.sIx z.length 0 (l.map (·.1)))).take (HT.sIx z.length z.length (u.map (·.1)) - HT.sIx z.length 0 (l.map (·.1)))).toArray⟩:Str).length≤z.length:=by
        simp only [Str.length,List.size_toArray,List.length_take,List.length_drop]
        have:z.cps.size=z.length:=rfl
        omega
      omega
    first
      | exact ⟨hl',h _ _ rfl rfl rfl rfl⟩
      | exact h _ _ rfl rfl rfl rfl
def rSlS:V→Option Int→Option Int→Hp→VK→Prop:=fun x lo hi H Q=>∃ z,x=.str z∧z.length≤sizeLine∧Q (.str (cutS z lo hi)) H
theorem sl_str {X:Cx}:SlR X rSlS:=by
  intro pins s σ H x v vl vu lo hi sl Q I rx hs pl pu h
  obtain ⟨z,rfl,hz,q⟩:=h
  obtain ⟨t,rfl⟩:=rx
  refine ⟨"str", _,F.slot_str_getitem.lookup,typeIs_str s z t,?_⟩
  have part:∀ {v:Value} {o:Option Int},IsPart v o→∃ p:Option (Int × Tok),v=partValue p∧p.map (·.1)=o:=fun {v o} p=>by
    cases p with
    | none=>exact ⟨none,rfl,rfl⟩
    | int i t=>exact ⟨some (i,t),rfl,rfl⟩
  obtain ⟨l,rfl,rfl⟩:=part pl
  obtain ⟨u,rfl,rfl⟩:=part pu
  refine wpAny_getItem_str_slice (l:=l) (u:=u) (st:=none) hs rfl (slice_text z t l u _ s hz fun t' s' e1 e2 e3 e4=>⟨.str _,H,?_,⟨t',rfl⟩,q⟩)
  obtain ⟨hp,g,d,tk,os⟩:=s'
  cases e1;cases e2;cases e3;cases e4
  exact I.tok tk
theorem cutS_to (z:Str) (k:Nat):(cutS z none (some (k:Int))).cps.toList=z.cps.toList.take k:=by
  unfold cutS
  have hzl:z.length=z.cps.toList.length:=by simp [Str.length]
  simp only [HT.sIx_nat,HT.sIx_none,List.drop_zero,Nat.sub_zero]
  rcases Nat.le_total k z.length with h | h
  · rw [Nat.min_eq_left h]
  · rw [Nat.min_eq_right h,hzl,List.take_length]
    exact (List.take_of_length_le (by omega)).symm
theorem call_isinst {X:Cx}:CallR X (.builtin "isinstance") (fun vs H Q=>∃ x t T b,vs=[x,.ty T]∧TyOf X.K H x t∧PySem.W.kitOne X.K t (.type T)=some b∧Q (.bl b) H):=by
  intro pins s σ H xs us Q I r h
  obtain ⟨x,t,T,b,rfl,ty,e,q⟩:=h
  obtain ⟨u,v,rfl,ru,rv⟩:=vals2 r
  cases (show v=Value.type T from rv)
  exact isinst_ok I ru ty e fun tk=>⟨.bl b,H,I.tok tk,rfl,q⟩
end L2
namespace L2
open PySem PySem.Spec PyProof.Rows
theorem csc {X:Cx} {scope:Scope} {NL:List Str} {ix:List Nat} (esc:Scope) (N:List Str) (h1:X.env.scope=esc:=by rfl) (h2:X.N=N:=by rfl) (c1:scope.kind=.function:=by rfl)
    (c2:∀ y∈scope.names,y.2≠.cell:=by decide +kernel) (c3:∀ y∈scope.names,y.2=.local→scope.names.lookup y.1=some .local:=by decide +kernel)
    (c4:∀ y∈scope.names,y.2=.free→esc.names.lookup y.1=some .cell∨esc.names.lookup y.1=some .free:=by decide +kernel)
    (c5:∀ j∈ix,(N[j]?).bind (fun x=>scope.names.lookup x)=some .free:=by decide +kernel):CompScope X scope NL ix where
  kind:=c1
  cell:=c2
  names:=c3
  free:=fun y hy hf=>by
    have:=c4 y hy hf
    rw [← h1] at this
    exact this
  cap:=fun j hj=>by
    have:=c5 j hj
    rw [h2]
    cases e:N[j]? with
    | none=>rw [e] at this;cases this
    | some x=>rw [e] at this;exact ⟨x,rfl,this⟩
def Has (P:Program) (w:World) (K:PySem.W.Frag) (mg:Str→Option Value) (base:Heap) (x:Str) (k:Nat) (ps:List Str) (sp:Sp):Prop:=
  ∃ f fd,FnOk P w K mg base CX0 k f fd ps sp∧Binds K fd ps []∧PySem.W.keepIn K (.ref f)=true∧mg x=some (.ref f)
section
variable {P:Program} {w:World} {K:PySem.W.Frag} {mg:Str→Option Value} {base:Heap}
theorem Has.mono {x:Str} {j k:Nat} {ps:List Str} {sp:Sp} (G:Has P w K mg base x j ps sp) (h:j≤k):Has P w K mg base x k ps sp:=
  let ⟨f,fd,F,r⟩:=G;⟨f,fd,F.mono h,r⟩
def Df (K:PySem.W.Frag) (mg:Str→Option Value) (x:Str) (st:Stmt):Prop:=∃ f fd,Fun K x x st f fd∧mg x=some (.ref f)
theorem Df.has {x:Str} {st:Stmt} {N ps:List Str} {k:Nat} {sp:Sp} (D:Df K mg x st) (S:FnScope N ps (defScope st))
    (hb:∀ (kV doc pm:Value) (an:Option Addr) (cdv ct:Value) (us:List Value),us.length=ps.length→bindArgs (PySem.W.fnOf x x (defArgs st) (defBody st) (defScope st) .none kV doc pm an cdv ct) ⟨us,[]⟩=pure (ps.zip us))
    (len:∀ vs H Q E,sp vs H Q E→vs.length=ps.length)
    (hbody:∀ (f:Addr) (cdv:Value) (A:Around) (outer:List Env) (s:Shared) (H:Hp) (vs:List V) (Q:VK) (E:XK),Room k (A.deeper (envOfC x (defScope st) s.heap.objs.size f cdv))→sp vs H Q E →
      ∃ t,PSs (cxOf CX0 P w K mg base N x (defScope st) f cdv A outer s H E).nox (defBody st) t∧t { nx:=fun _ H'=>Q .non H',rt:=Q } (start N vs) H):Has P w K mg base x (k+1) ps sp:=by
  obtain ⟨f,fd,F,m⟩:=D
  exact ⟨f,fd,F.ok S len fun cdv A outer s H vs Q E hr h=>hbody f cdv A outer s H vs Q E hr h,F.binds hb,F.kp,m⟩
end
theorem pe_callH {X:Cx} {x:Str} {k:Nat} {ps:List Str} {sp:Sp} {p pos:Pos} {e:Expr} {es:List Expr} {t:TA} (G:Has X.prog X.w X.K X.mg X.base x k ps sp) (hr:Room k X.A) (hg:Gl X x) (ha:PA X (e :: es) t)
    (hdb:(x == ("__debug__" : Str))=false:=by decide) (he:starEach (e :: es) X.env=(false,eval e X.env) :: starEach es X.env:=by rfl) (hpl:(backTo pos (starEach es X.env)).any (·.1)=false:=by rfl) :
    PE X (.Call (.Name x p) (e :: es) [] pos) (tCall sp [] E0 t):=by
  obtain ⟨f,fd,F,b,kp,m⟩:=G
  exact pe_call F hr hg m kp b .nil pass0 ha hdb he hpl
structure Blt (mg:Str→Option Value):Prop where
  len:mg "len" = none
  range:mg "range" = none
  zip:mg "zip" = none
  enumerate:mg "enumerate" = none
  max:mg "max" = none
  min:mg "min" = none
  int_:mg "int" = none
  str_:mg "str" = none
  bool_:mg "bool" = none
  list_:mg "list" = none
  tuple_:mg "tuple" = none
  isinstance:mg "isinstance" = none
section
variable {p q:Addr} {H H1 H2:Hp} {o:HO}
end
theorem bt_len:bootBuiltins "len" = some (.builtin "len"):=by decide +kernel
theorem bt_max:bootBuiltins "max" = some (.builtin "max"):=by decide +kernel
theorem bt_min:bootBuiltins "min" = some (.builtin "min"):=by decide +kernel
theorem bt_all:bootBuiltins "all" = some (.builtin "all"):=by decide +kernel
theorem bt_isinstance:bootBuiltins "isinstance" = some (.builtin "isinstance"):=by decide +kernel
theorem bt_int:bootBuiltins "int" = some (.type "int"):=by decide +kernel
theorem bt_str:bootBuiltins "str" = some (.type "str"):=by decide +kernel
theorem bt_bool:bootBuiltins "bool" = some (.type "bool"):=by decide +kernel
theorem bt_list:bootBuiltins "list" = some (.type "list"):=by decide +kernel
theorem bt_tuple:bootBuiltins "tuple" = some (.type "tuple"):=by decide +kernel
theorem Same.new {H0 H:Hp} {q:Addr} {o:HO} (h:Same H0 H) (hq:H q=none):Same H0 (upd H q o):=fun b u e=>by
  have:=h b u e
  rw [upd_ne (ne_of_none this hq)];exact this
theorem Same.write {H0 H:Hp} {q:Addr} {o:HO} (h:Same H0 H) (hq:H0 q=none):Same H0 (upd H q o):=fun b u e=>by
  rw [upd_ne (ne_of_none e hq)];exact h b u e
theorem app_list (a y:Str):(a++y).cps.toList=a.cps.toList++y.cps.toList:=by
  show (a.cps++y.cps).toList=_
  simp
end L2
namespace L2
open PySem PySem.Spec PyProof.Rows
section
variable {X:Cx}
theorem pg_tupK (K:PySem.W.Frag) {es:List Expr} {k:Nat} {t:TGs} {n:Nat} {pos:Pos} (hc:X.calm=true) (h:PGs X es t) (hK:X.K=K:=by rfl) (hn:(assignEach es X.env).length=n:=by rfl)
    (hst:(assignEach es X.env).findIdx? (·.1)=none:=by rfl):PG X (.Tuple es k pos) (gTup K n t):=by
  subst hK
  exact pg_tup hc h hn hst
theorem strsAre_of:∀ {ys:List Str} {us:List Value},Vals (ys.map V.str) us→StrsAre us ys
  | [],[],_=>.nil
  | [],_ :: _,h=>nomatch h
  | _ :: _,[],h=>nomatch h
  | y :: r,u :: us,h=>by
    cases h with
    | cons a b=>
      obtain ⟨t,rfl⟩:=a
      exact .cons y t (strsAre_of b)
theorem mt_join:MtR X "str.join" (fun x vs H Q=>∃ z a ys,x=.str z∧vs=[.ref a]∧SqL X.K H a (ys.map V.str)∧(ys.map (·.length)).sum+ys.length * z.length≤16777216∧Q (.str (Txt.join z ys)) H):=by
  intro pins s σ H x xs v us Q I rx rv h
  obtain ⟨z,a,ys,rfl,rfl,hl,hok,q⟩:=h
  obtain ⟨t,rfl⟩:=rx
  obtain ⟨u,rfl,ru⟩:=rv.one
  cases (show u=Value.ref a from ru)
  obtain ⟨its,r,ht,hz⟩:=I.list hl
  exact join_list ht.isList (strsAre_of (by simpa using r)) hok fun t' k=>⟨.str _,H,I.tok k,⟨t',rfl⟩,q⟩
theorem op_mul_str:OpR X (binaryOp .Mult) (fun x y H Q=>∃ z n,x=.str z∧y=.int n∧MulOk z n∧Q (.str (Txt.mul z n)) H):=by
  intro pins s σ H x y v u Q I rx ry h
  obtain ⟨z,n,rfl,rfl,hok,q⟩:=h
  obtain ⟨t,rfl⟩:=rx
  obtain ⟨t',rfl⟩:=ry
  exact SB.mul hok fun t' k=>⟨.str _,H,I.tok k,⟨t',rfl⟩,q⟩
def eqAtJ (xs ys:List V) (j:Nat):Bool:=match xs[j]?,ys[j]? with
  | some x,some y=>eqV x y
  | _,_=>false
def eqVs (xs ys:List V):Bool:=xs.length == ys.length && (List.range xs.length).all (eqAtJ xs ys)
theorem eqVs_ints (ns ms:List Int):eqVs (ns.map V.int) (ms.map V.int)=decide (ns=ms):=by
  rw [Bool.eq_iff_iff]
  unfold eqVs
  simp only [Bool.and_eq_true,beq_iff_eq,List.length_map,List.all_eq_true,List.mem_range,decide_eq_true_eq]
  constructor
  · rintro ⟨h1,h2⟩
    apply List.ext_getElem h1
    intro j a b
    have:=h2 j a
    unfold eqAtJ at this
    rw [List.getElem?_map,List.getElem?_map,List.getElem?_eq_getElem a,List.getElem?_eq_getElem b] at this
    simpa [eqV] using this
  · rintro rfl
    refine ⟨rfl,fun j hj=>?_⟩
    unfold eqAtJ
    rw [List.getElem?_map,List.getElem?_eq_getElem hj]
    simp [eqV]
theorem flat_ints (ns:List Int):(ns.map V.int).all flatV=true:=by
  rw [List.all_eq_true];intro x hx;obtain ⟨n,_,rfl⟩:=List.mem_map.mp hx;rfl
theorem eqAt_items {A:Around} {s:Shared} {xs ys:List V} {us ws:List Value} (r1:Vals xs us) (r2:Vals ys ws) (f1:xs.all flatV=true) (f2:ys.all flatV=true) (j:Nat) (h1:j < us.toArray.size) (h2:j < ws.toArray.size) :
    SeqAt.EqAt A s us.toArray[j] ws.toArray[j] (eqAtJ xs ys j):=by
  have g1:j < xs.length:=by rw [r1.length];simpa using h1
  have g2:j < ys.length:=by rw [r2.length];simpa using h2
  obtain ⟨u,e1,q1⟩:=r1.get (List.getElem?_eq_getElem g1)
  obtain ⟨v,e2,q2⟩:=r2.get (List.getElem?_eq_getElem g2)
  have d1:us.toArray[j]=u:=by
    rw [List.getElem?_eq_getElem (by simpa using h1)] at e1
    simpa using Option.some.inj e1
  have d2:ws.toArray[j]=v:=by
    rw [List.getElem?_eq_getElem (by simpa using h2)] at e2
    simpa using Option.some.inj e2
  rw [d1,d2]
  unfold eqAtJ
  rw [List.getElem?_eq_getElem g1,List.getElem?_eq_getElem g2]
  exact eqAt_V q1 q2 (List.all_eq_true.mp f1 _ (List.getElem_mem g1)) (List.all_eq_true.mp f2 _ (List.getElem_mem g2))
end
section
variable {NL:List Str} {ix:List Nat} {g:TG} {tt:TT} {te:TE} {σ:St} {H1:Hp} {Qs:Hp→Prop} {acc:Addr}
end
theorem kit_same (K:PySem.W.Frag) (T:String):PySem.W.kitOne K (.type T) (.type T)=some true:=by
  unfold PySem.W.kitOne
  rw [if_pos (beq_self_eq_true _)]
section
variable {p q:Addr} {H H1 H2:Hp} {o:HO} {c d:Int}
end
end L2
namespace L2
open PySem PySem.Spec PyProof.Rows
section
variable {X:Cx}
theorem op_ne_lst (hu:X.A.units < cLine):OpR X (compareOp .NotEq) (fun x y H Q=>∃ a b xs ys,x=.ref a∧y=.ref b∧SqL X.K H a xs∧SqL X.K H b ys∧xs.all flatV=true∧ys.all flatV=true∧Q (.bl (!eqVs xs ys)) H):=by
  intro pins s σ H x y v u Q I rx ry h
  obtain ⟨a,b,xs,ys,rfl,rfl,h1,h2,f1,f2,q⟩:=h
  cases (show v=Value.ref a from rx)
  cases (show u=Value.ref b from ry)
  obtain ⟨us,r1,l1,_⟩:=I.list h1
  obtain ⟨ws,r2,l2,_⟩:=I.list h2
  have e1:=r1.length
  have e2:=r2.length
  by_cases hl:xs.length=ys.length
  · refine SeqAt.RcNeAt.lists (e:=eqAtJ xs ys) l1.isList l2.isList (by simp;omega) hu (fun j g1 g2=>eqAt_items r1 r2 f1 f2 j g1 g2) _ _ _ _ ⟨.bl _,H,I,rfl,?_⟩
    have:eqVs xs ys=(List.range us.toArray.size).all (eqAtJ xs ys):=by
      unfold eqVs
      rw [List.size_toArray,← e1,beq_iff_eq.mpr hl,Bool.true_and]
    rw [← this];exact q
  · refine SeqAt.RcNeAt.lists_lengths l1.isList l2.isList (by simp;omega) hu _ _ _ _ ⟨.bl _,H,I,rfl,?_⟩
    have:eqVs xs ys=false:=by
      unfold eqVs
      have:(xs.length == ys.length)=false:=by simpa using hl
      rw [this];rfl
    rw [this] at q;exact q
end
end L2
namespace L2
open PySem PySem.Spec PyProof.Rows
section
variable {X:Cx}
theorem range_all (bs:List Bool):(List.range bs.length).all (fun i=>bs.getD i true)=bs.all id:=by
  rw [Bool.eq_iff_iff,List.all_eq_true,List.all_eq_true]
  constructor
  · intro h b hb
    obtain ⟨i,hi,rfl⟩:=List.getElem_of_mem hb
    have:=h i (List.mem_range.mpr hi)
    rw [List.getD_eq_getElem?_getD,List.getElem?_eq_getElem hi] at this
    exact this
  · intro h i hi
    have hi':=List.mem_range.mp hi
    rw [List.getD_eq_getElem?_getD,List.getElem?_eq_getElem hi']
    exact h _ (List.getElem_mem hi')
theorem call_all (hc:X.calm=true):CallR X (.builtin "all") (fun vs H Q=>∃ (a:Addr) (bs:List Bool),vs=[.ref a]∧SqL X.K H a (bs.map V.bl)∧Q (.bl (bs.all id)) H):=by
  intro pins s σ H xs us Q I r h
  obtain ⟨a,bs,rfl,hl,q⟩:=h
  obtain ⟨u,rfl,ru⟩:=vals1 r
  cases (show u=Value.ref a from ru)
  obtain ⟨its,rv,ht,hz⟩:=I.list hl
  have hlen:=rv.length
  rw [List.length_map] at hlen
  have hh:X.A.in1.handled=none:=I.ok.hd hc
  have hlt:a < s.heap.objs.size:=by obtain ⟨o,e,_⟩:=ht.isList;exact Heap.lt_size e
  refine call_all_walk (wpAny_pyIter_list ht.isList ⟨s.heap.objs.size,_,_,_,_,_,fun i=>bs.getD i true,rfl,Walks.list hh s.heap.objs.size a (Nat.ne_of_lt hlt) its.toArray,?_,?_,?_⟩)
  · exact ⟨⟨_,Heap.get?_push_size _ rfl,rfl,rfl⟩,Heap.IsList.push ht.isList _⟩
  · intro i v s' Q' E' hv hQ
    have hv':its[i]?=some v:=by simpa using hv
    have hi:i < (bs.map V.bl).length:=by rw [List.length_map,hlen];exact (List.getElem?_eq_some_iff.mp hv').1
    obtain ⟨u',e1,e2⟩:=rv.get (List.getElem?_eq_getElem hi)
    rw [hv'] at e1
    cases e1
    rw [List.getElem_map] at e2
    cases (show v=Value.bool _ from e2)
    refine wpAny_truthy_bool ?_
    have hb:bs.getD i true=bs[i]'(by simpa using hi):=by rw [List.getD_eq_getElem?_getD,List.getElem?_eq_getElem (by simpa using hi)];rfl
    rw [← hb]
    exact hQ
  · intro h' tk hk
    refine ⟨.bl (bs.all id),H,?_,?_,q⟩
    · exact I.kept (t':=tk) fun b o e=>hk b o (by simp;exact Nat.ne_of_lt (Heap.lt_size e)) (Heap.get?_push_of_some _ e)
    · show Value.bool _=Value.bool _
      rw [← range_all,hlen,List.size_toArray]
end
end L2
namespace L2
open PySem PySem.Spec PyProof.Rows PySem.W
theorem ints_showable {ns:List Int} (h:∀ n∈ns,n.natAbs < 10 ^ 12):PyData.showable (.list (ns.map .int))=true:=by
  simp only [PyData.showable]
  refine PyData.showableAll_ints ns fun n hn=>?_
  rcases Nat.eq_zero_or_pos n.natAbs with z | z
  · rw [z];decide
  · exact (Nat.log2_lt (by omega)).mpr (Nat.lt_of_lt_of_le (Nat.lt_trans (h n hn) (show 10 ^ 12 < 2 ^ 40 by decide)) (Nat.pow_le_pow_right (by decide) (by decide)))
section
variable {X:Cx} {k:Nat}
theorem bt_repr:bootBuiltins "repr" = some (.builtin "repr"):=by kernel_rfl
theorem ix_tupK (K:PySem.W.Frag) (hK:X.K=K:=by rfl):IxR X (rIxT K):=by
  subst hK;exact ix_tup
end
end L2
namespace L2
open PySem PySem.Spec PyProof.Rows PySem.W
end L2
namespace L2
open PySem PySem.Spec PyProof.Rows PySem.W
theorem weight_ints:∀ ns:List Int,(∀ n∈ns,n.natAbs < 10 ^ 12)→PyData.weightAll (ns.map .int)≤42 * ns.length
  | [],_=>by simp [PyData.weightAll]
  | n :: r,h=>by
    have a:=weight_ints r fun m hm=>h m (List.mem_cons_of_mem _ hm)
    have b:PyData.weight (.int n)≤41:=by
      simp only [PyData.weight]
      split
      · omega
      · rename_i z
        have nz:n.natAbs≠0:=fun e=>z (by rw [Int.natAbs_eq_zero.mp e];rfl)
        have:=(Nat.log2_lt nz (k:=40)).mpr (Nat.lt_trans (h n List.mem_cons_self) (by decide))
        omega
    simp only [List.map_cons,PyData.weightAll,List.length_cons]
    omega
section
variable {X:Cx} {k:Nat}
end
end L2
namespace L2
open PySem PySem.Spec PyProof.Rows
section
variable {κ:Type} [DecidableEq κ]
end
section
variable {P:Program} {w:World} {H:Hp} {h:Heap} {a:Addr}
end
section
variable {X:Cx} {pins:List (Addr × Obj)} {σ:St} {H:Hp} {s:Shared} {a:Addr} {y v:V} {u r:Value} {o:Option V} {A:Around} {E:Value→Shared→Prop}
theorem Inv.big (I:Inv X pins σ H s):sysModules < s.heap.objs.size:=by
  have h:mainGlobals < s.heap.objs.size:=(I.mod.glob.keeps I.bk).lt
  exact Nat.lt_trans (by decide) h
end
section
variable {X:Cx} {pins:List (Addr × Obj)} {σ:St} {H:Hp} {s:Shared} {a:Addr} {kvs:List (Key × V)} {k:Key} {u:Value} {A:Around} {E:Value→Shared→Prop}
end
section
variable {X:Cx} {o i e value:Expr} {pos pos' tpos:Pos} {td ty tv:TE}
end
theorem dk_empty {P:Program} {w:World} {H:Hp} (h:Heap) (hb:sysModules < h.objs.size):ObjOk P w H (h.push { cls:=.type "dict", data:=.dict #[] }) h.objs.size (.dK []):=
  ⟨Nat.zero_le _,beq_eq_false_iff_ne.mpr (Ne.symm (Nat.ne_of_lt hb)),[],.nil,Heap.DictOf.new h⟩
def tDNewK:TE:=fun _ H Q=>∀ p,H p=none→Q (.ref p) (upd H p (.dK []))
section
variable {X:Cx} {pos:Pos}
theorem pe_dnewK:PE X (.Dict [] [] pos) tDNewK:=fun pins s σ H Q I h=>
  wpAny_Dict_empty ⟨.ref s.heap.objs.size,_,I.laid (a:=s.heap.objs.size) (o:=.dK []) (t':=s.toks) (fun _ _ q=>Heap.get?_push_of_some _ q) (Nat.le_refl _) (dk_empty s.heap I.big),rfl,h _ (I.hok.fresh (Nat.le_refl _))⟩
end
section
variable {X:Cx} {pins:List (Addr × Obj)} {σ:St} {H:Hp} {s:Shared} {a:Addr} {y d:V} {u r:Value} {o:Option V} {A:Around} {E:Value→Shared→Prop}
end
section
variable {X:Cx} {o e f:Expr} {apos cpos:Pos} {td ty tx:TE}
end
section
variable {X:Cx} {pins:List (Addr × Obj)} {σ:St} {H:Hp} {s:Shared} {a:Addr} {kvs:List (Key × V)} {A:Around} {E:Value→Shared→Prop}
end
section
variable {X:Cx} {pins:List (Addr × Obj)} {σ:St} {H:Hp} {s:Shared} {a:Addr} {y:V} {u:Value} {A:Around} {E:Value→Shared→Prop}
end
end L2
namespace L2
open PySem PySem.Spec PyProof.Rows PySem.W
open MeetsSeq MeetsSeq2 MeetsSeq3 SeqRoads2 SeqAt
section
variable {X:Cx} {tg:Expr}
end
section
theorem small10000 {n:Nat} (h:n < 10000):n < sizeLine:=by
  rw [sizeLine_eq];omega
theorem comp_big {J:It} {NL:List Str} {ix:List Nat} {g:TG} {tt:TT} {te:TE} {σ:St} {H1:Hp} {Qs:Hp→Prop} {acc:Addr} (n:Nat) (hn:n < 10000) (Pv:Nat→List V→Hp→Prop)
    (hacc:∀ i ys H2,Pv i ys H2→H2 acc=some (.lst ys)∧ys.length≤i) (h0:Pv 0 [] (upd H1 acc (.lst []))) (hstop:∀ ys H2,Pv n ys H2→J.stop n H2∧Qs H2)
    (hturn:∀ i ys H2,i < n→Pv i ys H2→J.go i H2∧∀ x H3,J.yld i H2 x H3→g x (comp0 NL ix σ) H3 fun σ' H4=>σ'.drop NL.length=ix.map (fun j=>σ.getD j none)∧tt σ' H4 fun b H5=>
      if b=true then te σ' H5 fun v H6=>H6 acc=some (.lst ys)∧Pv (i+1) (ys++[v]) (upd H6 acc (.lst (ys++[v]))) else Pv (i+1) ys H5) :
    ∃ W:Nat→Nat→List V→Hp→Prop,(∃ m,W 0 m [] (upd H1 acc (.lst []))) ∧
    ∀ i m ys H2,W i m ys H2→H2 acc=some (.lst ys)∧ys.length < sizeLine ∧
      ((J.stop i H2∧Qs H2)∨(J.go i H2∧∃ N:List V→Hp→Prop,(∀ ys' H',N ys' H'→∃ m',m' < m∧W (i+1) m' ys' H') ∧
        ∀ x H3,J.yld i H2 x H3→g x (comp0 NL ix σ) H3 fun σ' H4=>σ'.drop NL.length=ix.map (fun j=>σ.getD j none)∧tt σ' H4 fun b H5=>
          if b=true then te σ' H5 fun v H6=>H6 acc=some (.lst ys)∧N (ys++[v]) (upd H6 acc (.lst (ys++[v]))) else N ys H5)):=by
  refine ⟨fun i m ys H2=>i≤n∧m=n - i∧Pv i ys H2,⟨n,Nat.zero_le _,rfl,h0⟩,fun i m ys H2 ⟨hi,hm,hp⟩=>?_⟩
  obtain ⟨a1,a2⟩:=hacc i ys H2 hp
  refine ⟨a1,small10000 (by omega),?_⟩
  rcases Nat.lt_or_ge i n with lt | ge
  · obtain ⟨go,tn⟩:=hturn i ys H2 lt hp
    exact .inr ⟨go,Pv (i+1),fun ys' H' hN=>⟨n - (i+1),by omega,by omega,rfl,hN⟩,tn⟩
  · have e:i=n:=by omega
    subst e
    exact .inl (hstop ys H2 hp)
end
section
variable {NL:List Str} {ix:List Nat} {g:TG} {tt:TT} {te:TE} {σ:St} {H1:Hp} {Qs:Hp→Prop} {acc:Addr}
end
section
variable {X:Cx}
end
end L2
namespace L2
open PySem PySem.Spec PyProof.Rows PySem.W
end L2
namespace L2
open PySem PySem.Spec PyProof.Rows PySem.W
section
variable {X:Cx}
variable {e st:Expr} {te:TE} {ts:TO} {pos p2:Pos}
end
def Itx (x:Str):It:=⟨fun i _=>i < x.cps.size,fun i H v H'=>H'=H∧∃ c,x.cps[i]?=some c∧v=.str ⟨#[c]⟩,fun i _=>x.cps.size≤i⟩
theorem turn_str {P:Program} {w:World} {K:PySem.W.Frag} {tg:Expr} (x:Str) (t:Tok) (it:Addr):Turn P w K tg (Itx x) [it] it (fun i h=>h.IsStrIter it (strIterType x) x t i) where
  mem:=by simp
  obj:=fun i h st b hb=>by
    have e:b=it:=by simpa using hb
    subst e
    obtain ⟨o,e,c,d⟩:=st
    exact ⟨o,e,fun v z=>by rw [d] at z;cases z⟩
  keep:=fun i h h' st k=>by
    obtain ⟨o,e,c,d⟩:=st
    exact ⟨o,k it (by simp) o e,c,d⟩
  item:=by
    intro X hP hw hK hc i pins s σ H E I hf st hg
    subst hP hw hK
    have hg:i < x.cps.size:=hg
    obtain ⟨f0,f1,f2,f3,f4,f5⟩:=hf it (by simp)
    have hx:x.cps[i]?=some (x.cps[i]'hg):=Array.getElem?_eq_getElem hg
    have go:∀ (h':Heap),h'.IsStrIter it (strIterType x) x t (i+1)→Heap.SameBut it s.heap h'→∃ u,some (Value.str ⟨#[x.cps[i]'hg]⟩ s.toks)=some u ∧
        wpAny (model X.prog X.w) X.A (letOwnedTupleGo tg (.ref it) u) (fun _ s2=>∃ v H',Inv X pins σ H' s2∧RelV v u∧(Itx x).yld i H v H'∧s2.heap.IsStrIter it (strIterType x) x t (i+1)∧∀ b∈[it],H' b=none) E { s with heap:=h',toks:=s.toks+1 }:=fun h' st' sb=>by
      have I1:Inv X pins σ H { s with heap:=h',toks:=s.toks+1 }:=I.turned (t':=s.toks+1) (fun b o hb e=>(sb.2 b hb).trans e) f0 f1 f3 f4 f5
      obtain ⟨o,e,c,d⟩:=id st'
      refine ⟨_,rfl,go_of (s:={ s with heap:=h',toks:=s.toks+1 }) e c d ?_ ⟨.str ⟨#[x.cps[i]'hg]⟩,H,I1,⟨_,rfl⟩,⟨rfl,_,hx,rfl⟩,st',fun b hb=>(hf b hb).1⟩⟩
      unfold strIterType
      split <;> decide
    cases c:x.cps.all (· < 128) with
    | true=>
      have e:strIterType x = "str_ascii_iterator" := by unfold strIterType;rw [c];rfl
      rw [e] at st
      exact wpAny_pyNext_ascii_item st hx fun h' st' sb=>go h' (by rw [e];exact st') sb
    | false=>
      have e:strIterType x = "str_iterator" := by unfold strIterType;rw [c];rfl
      rw [e] at st
      exact wpAny_pyNext_wide_item st hx fun h' st' sb=>go h' (by rw [e];exact st') sb
  done:=by
    intro X hP hw hK hc i pins s σ H E I hf st hg
    subst hP hw hK
    have hg:x.cps.size≤i:=hg
    obtain ⟨f0,f1,f2,f3,f4,f5⟩:=hf it (by simp)
    have hx:x.cps[i]?=none:=Array.getElem?_eq_none hg
    cases c:x.cps.all (· < 128) with
    | true=>
      have e:strIterType x = "str_ascii_iterator" := by unfold strIterType;rw [c];rfl
      rw [e] at st
      exact wpAny_pyNext_ascii_end (I.ok.hd hc) st hx fun h' eb=>⟨rfl,I.turned (t':=s.toks) (fun b o hb e=>eb b o hb e) f0 f1 f3 f4 f5⟩
    | false=>
      have e:strIterType x = "str_iterator" := by unfold strIterType;rw [c];rfl
      rw [e] at st
      exact wpAny_pyNext_wide_end (I.ok.hd hc) st hx fun h' eb=>⟨rfl,I.turned (t':=s.toks) (fun b o hb e=>eb b o hb e) f0 f1 f3 f4 f5⟩
  self:=fun _ _ _ _ _ st h=>by
    cases c:x.cps.all (· < 128) with
    | true=>
      have e:strIterType x = "str_ascii_iterator" := by unfold strIterType;rw [c];rfl
      rw [e] at st
      exact wpAny_pyIter_striter_ascii st h
    | false=>
      have e:strIterType x = "str_iterator" := by unfold strIterType;rw [c];rfl
      rw [e] at st
      exact wpAny_pyIter_striter_wide st h
section
variable {X:Cx} {tg:Expr}
def iStr (tl:TE):TI:=fun σ H R=>tl σ H fun x H1=>∃ z,x=.str z∧R (Itx z) H1
theorem pi_str {l:Expr} {tl:TE} (hl:PE X l tl):PI X tg l (iStr tl):=by
  intro pins s σ H R I h
  refine thn (hl pins s σ H _ I h) fun v s1 ⟨x,H1,I1,r1,q1⟩=>?_
  obtain ⟨z,rfl,q⟩:=q1
  obtain ⟨t,rfl⟩:=r1
  refine wpAny_pyIter_strU ?_
  refine ⟨s1.heap.objs.size,[s1.heap.objs.size],_,_,H1,rfl,I1.kept (t':=s1.toks) fun b o e=>Heap.get?_push_of_some _ e,turn_str z t _,⟨_,Heap.get?_push_size _ rfl,rfl,rfl⟩,fun b hb=>?_,q⟩
  have e:b=s1.heap.objs.size:=by simpa using hb
  subst e
  exact I1.fpOk (Nat.le_refl _) (I1.hok.fresh (Nat.le_refl _))
end
section
variable {NL:List Str} {ix:List Nat} {g:TG} {tt:TT} {te:TE} {σ:St} {H1:Hp} {Qs:Hp→Prop} {acc:Addr}
theorem comp_str {z:Str} (hn:z.cps.size < 10000) (Pv:Nat→List V→Hp→Prop)
    (hacc:∀ i ys H2,Pv i ys H2→H2 acc=some (.lst ys)∧ys.length≤i) (h0:Pv 0 [] (upd H1 acc (.lst []))) (hstop:∀ ys H2,Pv z.cps.size ys H2→Qs H2)
    (hturn:∀ i c ys H2,z.cps[i]?=some c→Pv i ys H2→g (.str ⟨#[c]⟩) (comp0 NL ix σ) H2 fun σ' H4=>σ'.drop NL.length=ix.map (fun j=>σ.getD j none)∧tt σ' H4 fun b H5=>
      if b=true then te σ' H5 fun v H6=>H6 acc=some (.lst ys)∧Pv (i+1) (ys++[v]) (upd H6 acc (.lst (ys++[v]))) else Pv (i+1) ys H5) :
    ∃ W:Nat→Nat→List V→Hp→Prop,(∃ m,W 0 m [] (upd H1 acc (.lst []))) ∧
    ∀ i m ys H2,W i m ys H2→H2 acc=some (.lst ys)∧ys.length < sizeLine ∧
      (((Itx z).stop i H2∧Qs H2)∨((Itx z).go i H2∧∃ N:List V→Hp→Prop,(∀ ys' H',N ys' H'→∃ m',m' < m∧W (i+1) m' ys' H') ∧
        ∀ x H3,(Itx z).yld i H2 x H3→g x (comp0 NL ix σ) H3 fun σ' H4=>σ'.drop NL.length=ix.map (fun j=>σ.getD j none)∧tt σ' H4 fun b H5=>
          if b=true then te σ' H5 fun v H6=>H6 acc=some (.lst ys)∧N (ys++[v]) (upd H6 acc (.lst (ys++[v]))) else N ys H5)):=by
  refine comp_big z.cps.size hn Pv hacc h0 (fun ys H2 hp=>⟨Nat.le_refl _,hstop ys H2 hp⟩) fun i ys H2 hi hp=>⟨hi,?_⟩
  rintro x H3 ⟨rfl,c,hc,rfl⟩
  exact hturn i c ys H3 hc hp
end
section
variable {X:Cx}
end
end L2
namespace L2
open PySem PySem.Spec PyProof.Rows
section
variable {X:Cx}
def rCatA (K:PySem.W.Frag):R2:=fun x y H Q=>∃ a b xs ys,x=.ref a∧y=.ref b∧SqT K H a xs∧SqT K H b ys∧xs.length+ys.length≤sizeLine ∧
  (xs=[]→Q (.ref b) H)∧(xs≠[]→ys=[]→Q (.ref a) H)∧(xs≠[]→ys≠[]→∀ p,H p=none→Q (.ref p) (upd H p (.tup (xs++ys))))
theorem cat_tup0 {prog:Program} {w:World} {A:Around} {E:Value→Shared→Prop} {s:Shared} {t b:Addr} {vs ws:List Value} {Q:Value→Shared→Prop} (ht:IsTup s.heap t vs.toArray) (hb:IsTup s.heap b ws.toArray) (hv:vs=[])
    (h:Q (.ref b) s):wpAny (model prog w) A (binaryOp .Add (.ref t) (.ref b)) Q E s:=by
  obtain ⟨⟨cls,dd,data,sl⟩,ho,hc,n,hd⟩:=id ht
  obtain ⟨⟨cls2,dd2,data2,sl2⟩,ho2,hc2,n2,hd2⟩:=id hb
  simp only at hc hd hc2 hd2
  subst hc hd hc2 hd2
  exact concat_meets ⟨_,ho,rfl⟩ ⟨_,ho2,rfl⟩ noFill_tuple_add seq_tuple_add PySem.F.slot_tuple_add PySem.F.entry_tuple_add (PySem.F.args_tuple_add_2 _ _)
      (tuple_addW0 t b vs.toArray ws.toArray n n2 dd dd2 sl sl2 (by simp [hv])) ⟨ho,ho2,h⟩
theorem op_catA:OpR X (binaryOp .Add) (rCatA X.K):=by
  intro pins s σ H x y v u Q I rx ry h
  obtain ⟨a,b,xs,ys,rfl,rfl,ha,hb,hz,q0,q1,q2⟩:=h
  by_cases hx:xs=[]
  · cases rx
    cases ry
    obtain ⟨its,r1,p1,_⟩:=I.tuple ha
    obtain ⟨its2,r2,p2,_⟩:=I.tuple hb
    exact cat_tup0 p1 p2 (r1.nil_iff.mpr hx) ⟨.ref b,H,I,rfl,q0 hx⟩
  · exact op_catT pins s σ H _ _ v u Q I rx ry ⟨a,b,xs,ys,rfl,rfl,ha,hb,hx,hz,q1 hx,q2 hx⟩
end
end L2
namespace L2
open PySem PySem.Spec PyProof.Rows
theorem ObjOk.obj {P:Program} {w:World} {H:Hp} {h:Heap} {a:Addr} {o:HO} (x:ObjOk P w H h a o):∃ u,h.get? a=some u:=by
  cases o with
  | lst xs=>obtain ⟨_,_,_,_,e⟩:=x;exact ⟨_,e⟩
  | tup xs=>obtain ⟨⟨_,o,e,_⟩,_⟩:=x;exact ⟨_,e⟩
  | dK kvs=>obtain ⟨_,_,_,_,o,_,_,e,_⟩:=x;exact ⟨_,e⟩
  | dT kvs=>obtain ⟨_,_,_,_,o,_,_,e,_⟩:=x;exact ⟨_,e⟩
  | set S n=>obtain ⟨o,_,_,_,e,_⟩:=x;exact ⟨_,e⟩
  | ins C dx fs=>obtain ⟨_,_,_,e,_⟩:=x;exact ⟨_,e⟩
  | own y=>exact x
  | xd fs=>obtain ⟨_,⟨_,_,_,e,_⟩,_⟩:=x;exact ⟨_,e⟩
  | rng lo hi=>obtain ⟨_,_,_,e⟩:=x;exact ⟨_,e⟩
  | frz ob u=>exact ⟨_,x.1⟩
  | tbl ps=>exact ⟨_,x⟩
  | met f y=>exact ⟨_,x⟩
  | ext φ=>exact x.2.1
def FlyS (l:List Env) (H₀:Hp) (h₀:Heap) (H':Hp) (a C:Addr) (h:Heap):Prop:=
  ∃ B a0,Heap.FlyingW B l a (.ref C) a0 h∧(∀ b o,h₀.get? b=some o→b ∉ frs l→∃ o',B.get? b=some o'∧(H₀ b=none→o'=o))∧∀ b u,H' b=some u→∃ o,B.get? b=some o
def CXE (P:Program) (w:World):CXT:=fun outer H s E e s'=>∃ a C H',e=.ref a∧s'.os=s.os∧AllBare s'.gens∧Un (frs outer) [] H H' s.heap s'.heap∧HOk P w H' s'.heap∧FlyS outer H s.heap H' a C s'.heap∧H' a=none∧E e (some C) H'
theorem hok_in {P:Program} {w:World} {H:Hp} {h h' B:Heap} (x:HOk P w H h) (hB:∀ b o,B.get? b=some o→h.get? b=some o) (hB':B.StaysIn h') (t:∀ b u,H b=some u→∃ o,B.get? b=some o):HOk P w H h':=fun a o e=>
  (x a o e).stay (fun b u hb q=>by
    have:∃ o,B.get? b=some o:=by
      rcases hb with rfl | hb
      · exact t _ _ e
      · exact t _ _ hb
    obtain ⟨o',e'⟩:=this
    have z:=hB _ _ e'
    rw [q] at z;cases z
    exact hB' _ _ e') (fun _ q=>q) fun _ _ q=>q
theorem fly_out {X:Cx} {pins:List (Addr × Obj)} {σ:St} {H1 H2:Hp} {s1:Shared} {B h2:Heap} (I:Inv X pins σ H1 s1) (hex:X.ex=[])
    (inB:∀ b o,s1.heap.get? b=some o→b ∉ frs X.stack→∃ o',B.get? b=some o'∧(H1 b=none→o'=o)) (st:B.StaysIn h2)
    (fr:∀ b o,s1.heap.get? b=some o→b∈frs X.stack→∃ sl,h2.get? b=some { o with slots:=sl }) (free:∀ b o,s1.heap.get? b=some o→H1 b=none→H2 b=none)
    (tups:∀ b xs,H1 b=some (.tup xs)→H2 b=some (.tup xs)) (frzs:∀ b o u,H1 b=some (.frz o u)→H2 b=some (.frz o u)) (tbls:∀ b ps,H1 b=some (.tbl ps)→∃ more,H2 b=some (.tbl (ps++more))) :
    Un X.fs [] X.H₀ H2 X.s₀.heap h2∧∀ b o,X.s₀.heap.get? b=some o→b ∉ X.fs→∃ o',B.get? b=some o'∧(X.H₀ b=none→o'=o):=by
  have nx:∀ b:Addr,b ∉ X.ex:=fun b=>by rw [hex];simp
  have ns:∀ b o,X.s₀.heap.get? b=some o→b ∉ X.fs→b ∉ frs X.stack:=fun b o e n z=>by
    rcases List.mem_cons.mp (I.stkSub b z) with q | q
    · rw [q] at e
      exact absurd (Nat.lt_of_lt_of_le (Heap.lt_size e) I.ok.above) (Nat.lt_irrefl _)
    · exact n q
  have toB:∀ b o,X.s₀.heap.get? b=some o→b ∉ X.fs→∃ o',B.get? b=some o'∧(X.H₀ b=none→o'=o):=fun b o e n=>by
    obtain ⟨o1,e1⟩:=I.base.there b o e (nx b)
    obtain ⟨o2,e2,k2⟩:=inB b o1 e1 (ns b o e n)
    refine ⟨o2,e2,fun h0=>?_⟩
    have z:=I.base.keep b o e h0 n (nx b)
    rw [e1] at z;cases z
    exact k2 (I.base.free b o e h0 (nx b))
  have inSt:∀ b∈X.fs,∀ o1,s1.heap.get? b=some o1→∃ sl,h2.get? b=some { o1 with slots:=sl }:=fun b hb o1 e1=>by
    by_cases hs:b∈frs X.stack
    · exact fr b o1 e1 hs
    · obtain ⟨o2,e2,k2⟩:=inB b o1 e1 hs
      have h1:H1 b=none:=by
        obtain ⟨_,o,ho,_⟩:=I.ok.funs.mem hb
        exact I.base.free b o ho (I.ok.frf b hb) (nx b)
      rw [k2 h1] at e2
      exact ⟨o1.slots,st _ _ e2⟩
  refine ⟨⟨fun b o e n hb _=>?_,fun b o e n hb _=>?_,fun b o e n _=>?_,fun b o e _=>?_,fun b xs e=>tups _ _ (I.base.tups _ _ e),fun b o u e=>frzs _ _ _ (I.base.frzs _ _ _ e),fun b ps e=>?_⟩,toB⟩
  · obtain ⟨o',e',k⟩:=toB b o e hb
    rw [k n] at e'
    exact st _ _ e'
  · obtain ⟨sl,e1⟩:=I.base.slot b o e n hb (nx b)
    obtain ⟨sl2,e2⟩:=inSt b hb _ e1
    exact ⟨sl2,e2⟩
  · obtain ⟨o1,e1⟩:=I.base.there b o e (nx b)
    exact free b o1 e1 (I.base.free b o e n (nx b))
  · obtain ⟨o1,e1⟩:=I.base.there b o e (nx b)
    by_cases hb:b∈X.fs
    · obtain ⟨sl,q⟩:=inSt b hb o1 e1
      exact ⟨_,q⟩
    · obtain ⟨o',e',_⟩:=toB b o e hb
      exact ⟨o',st _ _ e'⟩
  · obtain ⟨m1,e1⟩:=I.base.tbls b ps e
    obtain ⟨m2,e2⟩:=tbls b _ e1
    exact ⟨m1++m2,by rw [e2,Array.append_assoc]⟩
def Raises (X:Cx) (E:XK):Prop:=∀ (pins:List (Addr × Obj)) (σ:St) (H1:Hp) (s1:Shared) (h':Heap) (a C:Addr) (vs:List Value),Inv X pins σ H1 s1→Heap.MadeExcOf s1.heap h' a (.ref C) vs→E (.ref a) (some C) H1→X.xe (.ref a) { s1 with heap:=h' }
section
variable {P:Program} {w:World} {K:PySem.W.Frag} {mg:Str→Option Value} {base:Heap} {N:List Str} {qual:Str} {scope:Scope} {f:Addr} {cd:Value} {A:Around} {outer:List Env} {s:Shared} {H:Hp} {E:XK}
theorem raises_cx:Raises (cxOf (CXE P w) P w K mg base N qual scope f cd A outer s H E) E:=by
  intro pins σ H1 s1 h' a C vs I mk hE
  have stk:=I.stack
  have nTr:∀ b u,H1 b=some u→b ∉ frs (cxOf (CXE P w) P w K mg base N qual scope f cd A outer s H E).stack:=fun b u e z=>by
    rw [I.stkFree b z] at e;cases e
  have inB:∀ b o,s1.heap.get? b=some o→b ∉ frs (cxOf (CXE P w) P w K mg base N qual scope f cd A outer s H E).stack→(PySem.W.hideAll s1.heap (frs (cxOf (CXE P w) P w K mg base N qual scope f cd A outer s H E).stack)).get? b=some o:=fun b o e n=>PySem.W.hideAll_get _ e n
  show wpAny _ _ (leaving _ _) _ _ _
  refine wpAny_leaves_madeW (base:=PySem.W.hideAll s1.heap (frs (cxOf (CXE P w) P w K mg base N qual scope f cd A outer s H E).stack)) (h:=s1.heap) I.ok.frames rfl (fun b o q=>PySem.W.of_hideAll _ q)
    (PySem.W.funFrames_hide stk fun env he b hb=>List.mem_filterMap.mpr ⟨env,he,hb⟩) mk fun h2 t fl _ _ sm=>?_
  generalize PySem.W.hideAll s1.heap (frs (cxOf (CXE P w) P w K mg base N qual scope f cd A outer s H E).stack)=B at inB fl
  have BS:∀ b o,B.get? b=some o→s1.heap.get? b=some o∨True:=fun _ _ _=>.inr trivial
  obtain ⟨u,k1⟩:=fly_out (H2:=H1) (B:=B) (h2:=h2) I rfl (fun b o e n=>⟨o,inB b o e n,fun _=>rfl⟩) fl.1
    (fun b o e hb=>by
      obtain ⟨_,o',e',nf⟩:=stk.mem hb
      rw [e] at e';cases e'
      exact sm b o (mk.keeps _ _ e) nf)
    (fun _ _ _ z=>z) (fun _ _ z=>z) (fun _ _ _ z=>z) (fun b ps z=>⟨#[],by rw [z];simp⟩)
  have tr:∀ b u,H1 b=some u→∃ o,B.get? b=some o:=fun b u e=>by
    obtain ⟨o,eo⟩:=(I.hok b u e).obj
    exact ⟨o,inB b o eo (nTr b u e)⟩
  refine ⟨a,C,H1,rfl,I.os,I.bare,u,fun b o e=>?_,⟨B,_,fl,k1,tr⟩,?_,hE⟩
  · refine (I.hok b o e).stay (fun c v hc q=>?_) (fun _ q=>q) fun _ _ q=>q
    have nc:c ∉ frs (cxOf (CXE P w) P w K mg base N qual scope f cd A outer s H E).stack:=by
      rcases hc with rfl | hc
      · exact nTr _ _ e
      · exact nTr _ _ hc
    exact fl.1 _ _ (inB c v q nc)
  · cases q:H1 a with
    | none=>rfl
    | some u=>
      obtain ⟨o,eo⟩:=(I.hok a u q).obj
      rw [mk.new] at eo;cases eo
end
end L2
namespace L2
open PySem PySem.Spec PyProof.Rows
def excO (a C:Addr):HO:=.ext fun h=>∃ o vs,h.get? a=some o∧o.cls=.ref C∧o.data=.fields vs
def Up (X:Cx) (pins:List (Addr × Obj)) (σ:St) (a C:Addr) (H2:Hp) (s:Shared):Prop:=
  ∃ H1 s1,Inv X pins σ H1 s1∧s.os=s1.os∧AllBare s.gens∧Un (frs X.stack) [] H1 H2 s1.heap s.heap∧HOk X.prog X.w H2 s.heap∧FlyS X.stack H1 s1.heap H2 a C s.heap∧H2 a=none
section
variable {X:Cx} {pins:List (Addr × Obj)} {σ:St} {a C:Addr} {H1 H2:Hp} {s s1:Shared} {B h h':Heap} {a0:Value}
theorem excO_ok (H:Hp) (e:∃ o vs,h.get? a=some o∧o.cls=.ref C∧o.data=.fields vs):ObjOk X.prog X.w H h a (excO a C):=by
  refine ⟨e,?_,fun h1 h2 ⟨o,vs,x1,x2,x3⟩ k=>⟨o,vs,k _ x1,x2,x3⟩⟩
  obtain ⟨o,_,e,_⟩:=e
  exact ⟨o,e⟩
theorem Up.inv (U:Up X pins σ a C H2 s):Inv X pins σ (upd H2 a (excO a C)) s:=by
  obtain ⟨H1,s1,I,os,bare,un,hok,⟨B,a0,fl,k0,tr⟩,ha⟩:=U
  obtain ⟨oe,vs,e1,e2,e3,_⟩:=fl.first
  have na:∀ b o,s1.heap.get? b=some o→b≠a:=fun b o e z=>by
    subst z
    by_cases hb:b∈frs X.stack
    · obtain ⟨_,o',e',nf⟩:=fl.2.2.1.mem hb
      rw [e1] at e';cases e'
      exact nf vs e3
    · obtain ⟨o',e',_⟩:=k0 b o e hb
      rw [fl.2.1] at e';cases e'
  have up:∀ b u,H2 b=some u→upd H2 a (excO a C) b=some u:=fun b u e=>by rw [upd_ne (ne_of_none e ha)];exact e
  refine I.call' (ch:=[]) os ⟨un.keep,un.slot,fun b o e n hx=>?_,un.there,fun b xs e=>up _ _ (un.tups b xs e),fun b o u e=>up _ _ (un.frzs b o u e),fun b ps e=>?_⟩ (fun b o e=>?_) bare (fun _ z=>nomatch z)
  · rw [upd_ne (na b o e)];exact un.free b o e n hx
  · obtain ⟨more,e2⟩:=un.tbls b ps e
    exact ⟨more,up _ _ e2⟩
  · by_cases hb:b=a
    · subst hb
      rw [upd_same] at e;cases e
      exact excO_ok _ ⟨oe,vs,e1,e2,e3⟩
    · rw [upd_ne hb] at e
      exact (hok b o e).stay (fun _ _ _ q=>q) (fun c q=>up _ _ q) fun c xs q=>up _ _ q
theorem up_on (I:Inv X pins σ H1 s1) (os:s.os=s1.os) (bare:AllBare s.gens) (un:Un (frs X.stack) [] H1 H2 s1.heap s.heap) (hok:HOk X.prog X.w H2 s.heap) (hB:B.StaysIn s.heap) (ffs:s.heap.FunFrames B X.stack)
    (k0:∀ b o,s1.heap.get? b=some o→b ∉ frs X.stack→∃ o',B.get? b=some o'∧(H1 b=none→o'=o)) (tr:∀ b u,H2 b=some u→∃ o,B.get? b=some o) (ha:H2 a=none)
    (fl':Heap.FlyingW B X.stack a (.ref C) a0 h') (sm:s.heap.UpToSlots h'):Up X pins σ a C H2 { s with heap:=h' }:=by
  refine ⟨H1,s1,I,os,bare,⟨fun b o e n hb _=>?_,fun b o e n hb _=>?_,un.free,fun b o e _=>?_,un.tups,un.frzs,un.tbls⟩,hok_in hok hB fl'.1 tr,⟨B,a0,fl',k0,tr⟩,ha⟩
  · obtain ⟨o',e',k⟩:=k0 b o e hb
    rw [k n] at e'
    exact fl'.1 _ _ e'
  · obtain ⟨sl,e2⟩:=un.slot b o e n hb (by simp)
    obtain ⟨_,o',e',nf⟩:=ffs.mem hb
    rw [e2] at e';cases e'
    obtain ⟨sl3,e3⟩:=sm b _ e2 nf
    exact ⟨sl3,e3⟩
  · by_cases hb:b∈frs X.stack
    · obtain ⟨_,o',e',_⟩:=fl'.2.2.1.mem hb
      exact ⟨o',e'⟩
    · obtain ⟨o',e',_⟩:=k0 b o e hb
      exact ⟨o',fl'.1 _ _ e'⟩
theorem up_lands {M:Model} {A:Around} {E:Value→Shared→Prop} {Q:Unit→Shared→Prop} (U:Up X pins σ a C H2 s) (h:∀ h',Up X pins σ a C H2 { s with heap:=h' }→Q () { s with heap:=h' }) :
    wpAny M A (setFlight (.ref a) none) Q E s:=by
  obtain ⟨H1,s1,I,os,bare,un,hok,⟨B,a0,fl,k0,tr⟩,ha⟩:=U
  exact lands_againW fl fun h' fl' sm=>h h' (up_on I os bare un hok fl.1 fl.2.2.1 k0 tr ha fl' sm)
theorem up_looks {M:Model} {A:Around} {E:Value→Shared→Prop} {Q:Unit→Shared→Prop} (hA:A.frames=some X.stack) (hst:X.stack=X.env :: X.outer) (hf:X.env.frame=some X.env.locals) (U:Up X pins σ a C H2 s)
    (h:∀ h',Up X pins σ a C H2 { s with heap:=h' }→Q () { s with heap:=h' }) :
    wpAny M A (noteFrame (.ref a) X.env) (fun _ s2=>wpAny M A (setFlight (.ref a) none) Q E s2) E s:=by
  obtain ⟨H1,s1,I,os,bare,un,hok,⟨B,a0,fl,k0,tr⟩,ha⟩:=U
  have fl0:=fl
  rw [hst] at fl0 hA
  refine wpAny_looks_onW hA hf fl0 fun h1 hh sm=>?_
  refine wpAny_landsW hh fun h2 fl2 sm2=>?_
  rw [← hst] at fl2
  exact h h2 (up_on I os bare un hok fl.1 fl.2.2.1 k0 tr ha fl2 (sm.trans sm2))
abbrev Cx.caught (X:Cx) (a:Addr):Cx:={ X with A:=X.A.mark (some (.ref a)),calm:=false,xe:=fun _ _=>False }
theorem Inv.caught {H:Hp} (I:Inv X pins σ H s) (a:Addr):Inv (X.caught a) pins σ H s:=
  ⟨⟨I.ok.mod,I.ok.kind,I.ok.glob,I.ok.blt,I.ok.above,I.ok.inj,I.ok.has,I.ok.cab,(fun z=>nomatch z),I.ok.frames,I.ok.stk,I.ok.exf,I.ok.bs,I.ok.bsz,I.ok.noex,I.ok.exfs,I.ok.funs,I.ok.frf⟩,I.os,I.bare,I.base,I.loc,I.cell,I.free,I.freeC,I.pin,I.hok,I.len⟩
theorem Inv.uncaught {H:Hp} (ok:X.Ok) (I:Inv (X.caught a) pins σ H s):Inv X pins σ H s:=⟨ok,I.os,I.bare,I.base,I.loc,I.cell,I.free,I.freeC,I.pin,I.hok,I.len⟩
theorem Inv.goes {M:Model} {A:Around} {E:Value→Shared→Prop} {H:Hp} {i:Nat} {n:Str} {pos:Pos} {Q:Unit→Shared→Prop} (I:Inv X pins σ H s) (hN:X.N.Nodup) (hi:X.N[i]?=some n) (hl:X.env.kindOf n=some .local)
    (h:∀ s',Inv X pins (σ.set i none) H s'→Q () s'):wpAny M A (do bindName X.env n .none;unbindBehindTheSuite X.env n pos) Q E s:=by
  obtain ⟨m,hn,hl'⟩:=id I.loc
  have hcls:(X.env.scope.kind == .class || (X.env.scope.kind == .module && X.env.locals != X.env.globals))=false:=by rw [I.ok.kind];rfl
  have hiσ:i < σ.length:=by rw [I.len];exact (List.getElem?_eq_some_iff.mp hi).1
  refine wpAny_nameGoes_keeps hl hn hcls fun h' v hn' hs=>?_
  obtain ⟨oL,_,_,hoL,_⟩:=id hn
  refine h _ ⟨I.ok,I.os,I.bare,⟨fun b o e n hb hx=>?_,fun b o e n hb hx=>?_,I.base.free,fun b o e hx=>?_,I.base.tups,I.base.frzs,I.base.tbls⟩,⟨_,hn',fun j y v' e1 e2 e3=>?_⟩,fun y c e=>?_,I.free,I.freeC,fun p hp=>?_,fun b ob e=>?_,by simpa using I.len⟩
  · exact (hs.2 b (Nat.ne_of_lt (Nat.lt_of_lt_of_le (Heap.lt_size e) I.ok.above))).trans (I.base.keep b o e n hb hx)
  · obtain ⟨sl,e1⟩:=I.base.slot b o e n hb hx
    exact ⟨sl,(hs.2 b (Nat.ne_of_lt (Nat.lt_of_lt_of_le (Heap.lt_size e) I.ok.above))).trans e1⟩
  · obtain ⟨o',e1⟩:=I.base.there b o e hx
    exact ⟨o',(hs.2 b (Nat.ne_of_lt (Nat.lt_of_lt_of_le (Heap.lt_size e) I.ok.above))).trans e1⟩
  · by_cases hj:j=i
    · subst hj
      rw [List.getElem?_set_self hiσ] at e2
      cases e2
    · rw [List.getElem?_set_ne (Ne.symm hj)] at e2
      obtain ⟨u',r',q⟩:=hl' j y v' e1 e2 e3
      refine ⟨u',r',?_⟩
      rcases q with ⟨k,e⟩ | ⟨k,c,e,z⟩
      · refine .inl ⟨k,?_⟩
        have:y≠n:=fun e=>hj (nodup_ix hN e1 (e ▸ hi))
        simp [this,e]
      · exact .inr ⟨k,c,e,z.sameBut hs (I.cne y c e)⟩
  · obtain ⟨w',z⟩:=I.cell y c e
    exact ⟨w',z.sameBut hs (I.cne y c e)⟩
  · obtain ⟨e,n,ne,nf,d⟩:=I.pin p hp
    exact ⟨(hs.2 p.1 ne).trans e,n,ne,nf,d⟩
  · refine (I.hok b ob e).stay (fun c w' hc q=>(hs.2 c ?_).trans q) (fun _ q=>q) fun _ _ q=>q
    rintro rfl
    rcases hc with rfl | hc
    · rw [I.free] at e;cases e
    · rw [I.free] at hc;cases hc
end
def PH (X:Cx) (hs:List ExceptHandler) (th:Addr→Addr→TS):Prop:=
  ∀ (pins:List (Addr × Obj)) (s:Shared) (σ:St) (H2:Hp) (D:Ends) (a C:Addr),Up X pins σ a C H2 s→th a C D σ (upd H2 a (excO a C))→wpAny (model X.prog X.w) X.A (handleBy (.ref a) X.env hs) (SP X pins D) X.xe s
def Ends.goes (D:Ends) (i:Nat):Ends:=⟨fun σ H=>D.nx (σ.set i none) H,D.rt,fun σ H=>D.bk (σ.set i none) H,fun σ H=>D.ct (σ.set i none) H⟩
section
variable {X:Cx} {x n:Str} {i:Nat} {np pos:Pos} {b₀:Stmt} {suite:List Stmt} {rest:List ExceptHandler} {Cl:Addr} {th:Addr→TS} {tr:Addr→Addr→TS}
theorem typ_of {M:Model} {H:Hp} {h:Heap} {a C:Addr} (e:ObjOk X.prog X.w H h a (excO a C)):PySem.W.Looks M h (typeOf (.ref a)) (.ref C):=by
  obtain ⟨⟨o,vs,e1,e2,_⟩,_⟩:=e
  rw [← e2]
  exact (PySem.W.Looks.ld e1).andThen .now
theorem ph_as (hg:Gl X x) (hm:X.mg x=some (.ref Cl)) (hN:X.N.Nodup) (hi:X.N[i]?=some n) (hl:X.env.scope.names.lookup n=some .local) (hb:∀ a,PSs (X.caught a) (b₀ :: suite) (th a)) (hd:(x == ("__debug__" : Str))=false:=by decide) :
    PH X (.ExceptHandler (some (.Name x np)) (some n) (b₀ :: suite) pos :: rest) (fun a C D σ H=>PySem.W.exmOne X.K (.ref C) (.ref Cl)=some true∧th a (D.goes i) (σ.set i (some (.ref a))) H):=by
  intro pins s σ H2 D a C U h
  obtain ⟨hx,h⟩:=h
  have I:=U.inv
  refine wpAny_handleBy_cons (codeAny_handlers_test (ld_glob (I.caught a) hg hm ?_ hd)) (by intro q;cases q)
  refine (PySem.W.exm_one I.kIn (typ_of (I.hok a _ upd_same)) hx).here ?_
  refine codeAny_handlers_suite_as ?_
  refine up_lands U fun h' U'=>?_
  have I':=U'.inv
  refine store_ok I' hN hi (.inl hl) (v:=.ref a) rfl (fun s2 I2=>?_) (.inr hl)
  refine wpAny_mono (hb a pins s2 _ _ (D.goes i) (I2.caught a) h) (fun f s3 q=>?_) fun _ _ z=>False.elim z
  cases f with
  | next=>obtain ⟨σ',H',J,q⟩:=q;exact (J.uncaught I.ok).goes hN hi hl fun s4 J4=>⟨_,H',J4,q⟩
  | brk=>obtain ⟨σ',H',J,q⟩:=q;exact (J.uncaught I.ok).goes hN hi hl fun s4 J4=>⟨_,H',J4,q⟩
  | cont=>obtain ⟨σ',H',J,q⟩:=q;exact (J.uncaught I.ok).goes hN hi hl fun s4 J4=>⟨_,H',J4,q⟩
  | ret u=>obtain ⟨v,σ',H',J,r,q⟩:=q;exact (J.uncaught I.ok).goes hN hi hl fun s4 J4=>⟨v,_,H',J4,r,q⟩
end
def PassesAt (CX:CXT) (X:Cx) (E:XK) (σ:St):Prop:=∀ (pins:List (Addr × Obj)) (H:Hp) (s:Shared) (e:Value) (s':Shared),Inv X pins σ H s→CX X.stack H s E e s'→X.xe e s'
abbrev Cx.tries (X:Cx) (pn:List (Addr × Obj)) (xe:Value→Shared→Prop):Cx:={ X with pn:=pn,xe:=xe }
def eTry (th:Addr→Addr→TS) (D:Ends) (σ:St):XK:=fun v c H'=>∃ a C,v=.ref a∧c=some C∧th a C D σ (upd H' a (excO a C))
def tTry (tb:XK→St→TS) (th:Addr→Addr→TS):TS:=fun D σ H=>tb (eTry th D σ) σ D σ H
theorem ps_try {X:Cx} {body:List Stmt} {h₀:ExceptHandler} {hs:List ExceptHandler} {pos:Pos} {tb:XK→St→TS} {th:Addr→Addr→TS}
    (hb:∀ pn xe E σ0,PassesAt (CXE X.prog X.w) (X.tries pn xe) E σ0→PSs (X.tries pn xe) body (tb E σ0)) (hh:PH X (h₀ :: hs) th)
    (hst:X.stack=X.env :: X.outer:=by rfl) (hf:X.env.frame=some X.env.locals:=by rfl):PS X (.Try body (h₀ :: hs) [] [] pos) (tTry tb th):=by
  intro pins s σ H D I h
  have toX:∀ {xe:Value→Shared→Prop} {pins':List (Addr × Obj)} {σ':St} {H':Hp} {s':Shared},Inv (X.tries (X.pn++pins) xe) pins' σ' H' s'→Inv X pins σ' H' s':=fun {xe pins' σ' H' s'} J=>
    ⟨I.ok,J.os,J.bare,J.base,J.loc,J.cell,J.free,J.freeC,fun p hp=>J.pin p (List.mem_append_left _ hp),J.hok,J.len⟩
  refine wpAny_Try_except ?_
  have J:∀ xe,Inv (X.tries (X.pn++pins) xe) [] σ H s:=fun xe=>
    ⟨⟨I.ok.mod,I.ok.kind,I.ok.glob,I.ok.blt,I.ok.above,I.ok.inj,I.ok.has,I.ok.cab,I.ok.hd,I.ok.frames,I.ok.stk,I.ok.exf,I.ok.bs,I.ok.bsz,I.ok.noex,I.ok.exfs,I.ok.funs,I.ok.frf⟩,I.os,I.bare,I.base,I.loc,I.cell,I.free,I.freeC,fun p hp=>by
      rw [List.append_nil] at hp
      exact I.pin p hp,I.hok,I.len⟩
  refine wpAny_mono (hb (X.pn++pins) (fun e s'=>∃ a C H2,e=.ref a∧Up X pins σ a C H2 s'∧th a C D σ (upd H2 a (excO a C))) (eTry th D σ) σ ?_ [] s σ H D (J _) h) (fun f s1 q=>?_) fun e s1 q=>?_
  · rintro pins' H1 s1 e s2 I1 ⟨a,C,H2,rfl,os,bare,un,hok,fly,ha,a',C',e1,e2,hE⟩
    cases e1;cases e2
    exact ⟨a,C,H2,rfl,⟨H1,s1,toX I1,os,bare,un,hok,fly,ha⟩,hE⟩
  · cases f with
    | next=>obtain ⟨σ',H',J,q⟩:=q;exact wpAny_execs_nil ⟨σ',H',toX J,q⟩
    | brk=>obtain ⟨σ',H',J,q⟩:=q;exact ⟨σ',H',toX J,q⟩
    | cont=>obtain ⟨σ',H',J,q⟩:=q;exact ⟨σ',H',toX J,q⟩
    | ret u=>obtain ⟨v,σ',H',J,r,q⟩:=q;exact ⟨v,σ',H',toX J,r,q⟩
  · obtain ⟨a,C,H2,rfl,U,hE⟩:=q
    exact up_looks I.ok.frames hst hf U fun h' U'=>hh pins _ σ H2 D a C U' hE
end L2
namespace L2
open PySem PySem.Spec PyProof.Rows PySem.W PySem.Calls PySem.Builtin PySem.Builtin.ObjectAttr PySem.Builtin.Getset_descriptor
structure ExK (K:Frag) (C:Addr):Prop where
  ga:findIn K (.ref C) "__getattribute__" = some (some (.builtin "BaseException.__getattribute__"))
  gn:findIn K (.ref C) "__getattr__" = some none
  cl:findIn K (.ref C) "__class__" = some (some (.builtin "object.__class__"))
  gt:specialIn K (.builtin "object.__class__") "__get__" = some (some (.builtin "getset_descriptor.__get__"))
  tk:takesIn K (.builtin "object.__class__")=some true
  ob:mroIn K C (.type "object")=some true
  be:mroIn K C (.type "BaseException")=some true
  cd:(clsIn K C).isSome=true
section
variable {prog:Program} {w:World} {A:Around} {E:Value→Shared→Prop} {s:Shared} {K:Frag} {x C:Addr} {R:Result→Shared→Prop}
theorem exc_class_get {tp:Value} (X:K.In s.heap) (L0:Looks (model prog w) s.heap (typeOf (.ref x)) (.ref C)) (L1:Looks (model prog w) s.heap (isSubtype (.ref C) (.type "object")) true)
    (h:R (.ok (.ret (.ref C))) s):codeAny (model prog w) A (.call (.builtin "getset_descriptor.__get__") ⟨[.builtin "object.__class__", .ref x,tp],[]⟩) R s:=by
  obtain ⟨hh,g,dr,t,os⟩:=s
  refine codeAny_call_builtin KF.slot_gs.plain KF.entry_gs (KF.slot_gs.check _ _ _ _ _ _ _ _ KF.type_class (KF.args_gs _ _ _) ?_)
  unfold Builtin.«getset_descriptor.__get__» descrGet
  rw [dga_obj]
  refine wpAny_bind (wpAny_pure ?_)
  unfold descrGetter descrCheckInstance descrNameAndClass isInstance
  simp only [KF.owner_class]
  repeat lk
  refine ⟨Code.quiet_builtin _ (by decide +kernel),codeAny_builtin KF.entry_class ?_⟩
  unfold Builtin.«object.__class__» shownTypeOf
  repeat lk
  exact h
theorem exc_find {M:Model} {h:Heap} (X:K.In h) (Z:ExK K C):Looks M h (find (.ref x) (.ref C) "__class__") (.bind (.builtin "getset_descriptor.__get__") (.builtin "object.__class__")):=by
  have L1:=looks_findIn (M:=M) X Z.cl
  have L2:Looks M h (getOf (some (.builtin "object.__class__"))) (some (.builtin "getset_descriptor.__get__")):=looks_specialIn X Z.gt
  have L3:=looks_takesIn (M:=M) X Z.tk
  refine L1.andThen (L2.andThen ?_)
  exact (show Looks M h (dataDescriptor? (some (.builtin "object.__class__")) (some (.builtin "getset_descriptor.__get__"))) (some (.builtin "getset_descriptor.__get__", .builtin "object.__class__")) from L3.andThen .now).andThen (Looks.tag .now)
theorem exc_entry {tk:Tok} {Q:Fin→Shared→Prop} (X:K.In s.heap) (Z:ExK K C) (L0:Looks (model prog w) s.heap (typeOf (.ref x)) (.ref C)) (h:Q (.done (.ret (.ref C))) s) :
    wpAny (model prog w) A (Builtin.«object.__getattribute__» ⟨[.ref x,.str "__class__" tk],[]⟩) Q E s:=by
  have L1:=looks_mroIn (M:=model prog w) X Z.ob
  have L2:=exc_find (M:=model prog w) (x:=x) X Z
  obtain ⟨hh,g,dr,t,os⟩:=s
  unfold Builtin.«object.__getattribute__»
  repeat (any_goals (first | assumption | (refine wpAny_bind (L0.at ?_)) | (refine wpAny_bind (L2.at ?_)) | wp_step))
  refine exc_class_get X L0 L1 ?_
  repeat (any_goals (first | assumption | wp_step))
theorem exc_kind:builtinKind "BaseException.__getattribute__" = some .slot:=by decide +kernel
theorem exc_split:splitId "BaseException.__getattribute__" = some ("BaseException", "__getattribute__"):=by decide +kernel
theorem exc_check {M:Model} {nameV:Value} {Q:Unit→Shared→Prop} (LI:Looks M s.heap (isInstance (.ref x) (.type "BaseException")) true) (h:Q () s) :
    wpAny M A (checkBuiltinCall "BaseException.__getattribute__" ⟨[.ref x,nameV],[]⟩) Q E s:=
  check_slot (i := "BaseException.__getattribute__") (owner := "BaseException") (n := "__getattribute__") (self:=.ref x) (rest:=[nameV]) (kw:=[]) exc_kind exc_split LI (F.args_bexc_ga (.ref x) nameV) h
theorem exc_call {tk:Tok} (X:K.In s.heap) (Z:ExK K C) (L0:Looks (model prog w) s.heap (typeOf (.ref x)) (.ref C)) (h:R (.ok (.ret (.ref C))) s) :
    codeAny (model prog w) A (.call (.builtin "BaseException.__getattribute__") ⟨[.ref x,.str "__class__" tk],[]⟩) R s:=
  codeAny_call_builtin F.attrBase_ValueError.ga.plain F.entry_bexc_ga (exc_check (L0.andThen (looks_mroIn (M:=model prog w) X Z.be)) (exc_entry X Z L0 h))
theorem exc_by {hh:Heap} {g:Array GenState} {dr:Drawn} {t:Nat} {os:OsState} {tk:Tok} {fill expr:Bool} {Q:Value→Shared→Prop} (X:K.In hh) (Z:ExK K C) (L0:Looks (model prog w) hh (typeOf (.ref x)) (.ref C)) (h:Q (.ref C) ⟨hh,g,dr,t,os⟩) :
    wpAny (model prog w) A (getAttrBy (.ref x) (.str "__class__" tk) fill expr) Q E ⟨hh,g,dr,t,os⟩:=by
  have f3:=F.attrBase_ValueError.ga.bind (.ref x)
  have hx0:(expr && onTheHeap (Value.builtin "BaseException.__getattribute__"))=false:=by cases expr <;> rfl
  have hx2:(Value.builtin "BaseException.__getattribute__" == Value.builtin "object.__getattribute__")=false:=by decide +kernel
  have hx1:(onTheHeap (Value.ref C) && Value.builtin "BaseException.__getattribute__" == Value.builtin "object.__getattribute__")=false:=by rw [hx2];rfl
  have L1:=looks_findIn (M:=model prog w) X Z.ga
  have L2:=looks_findIn (M:=model prog w) X Z.gn
  repeat (any_goals (first | assumption | (refine wpAny_bind (L0.at ?_)) | (refine wpAny_bind (L1.at ?_)) | (refine wpAny_bind (L2.at ?_)) | wp_step))
  refine exc_call X Z L0 ?_
  repeat (any_goals (first | assumption | wp_step))
theorem exc_class {hh:Heap} {g:Array GenState} {dr:Drawn} {t:Nat} {os:OsState} {Q:Option Value→Shared→Prop} (X:K.In hh) (Z:ExK K C) (L0:Looks (model prog w) hh (typeOf (.ref x)) (.ref C)) (h:Q (some (.ref C)) ⟨hh,g,dr,t+1,os⟩) :
    wpAny (model prog w) A (getAttr? (.ref x) "__class__") Q E ⟨hh,g,dr,t,os⟩:=by
  unfold getAttr? getAttrBy?
  repeat (any_goals (first | assumption | (with_reducible apply exc_by X Z L0) | wp_step))
end
end L2
namespace L2
open PySem PySem.Spec PyProof.Rows PySem.W
theorem kitx_exc {K:Frag} {a C:Addr} (Z:ExK K C):KitX K (.ref a) (.ref C) (fun h=>∃ o vs,h.get? a=some o∧o.cls=.ref C∧o.data=.fields vs) where
  ty:=fun M h _ ⟨o,vs,e1,e2,_⟩=>e2 ▸ (Looks.ld e1).andThen .now
  it:=fun M h X _=>by
    obtain ⟨cd,hcD⟩:=Option.isSome_iff_exists.mp Z.cd
    unfold clsIn at hcD
    split at hcD
    · rename_i c' d' cd' sl' ho
      intro A' Q' E' s' k q
      unfold isType loadHead
      exact wpAny_bind (wpAny_loadPart (k _ _ (X _ _ ho)) (wpAny_pure q))
    · cases hcD
  ne:=fun h tp dd its n sl X htp=>by
    obtain ⟨cd,hcD⟩:=Option.isSome_iff_exists.mp Z.cd
    refine Bool.eq_false_iff.mpr fun q=>?_
    have e:C=tp:=Value.ref.inj (beq_iff_eq.mp q)
    subst e
    unfold clsIn at hcD
    split at hcD
    · rename_i c' d' cd' sl' ho
      have z:=(X _ _ ho).symm.trans htp
      cases z
    · cases hcD
  ca:=fun {prog w A E Q s} X I k=>by
    obtain ⟨hh,g,d,t,os⟩:=s
    obtain ⟨o,vs,e1,e2,_⟩:=I
    exact exc_class (C:=C) X Z (e2 ▸ (Looks.ld e1).andThen .now) k
section
variable {X:Cx}
theorem vals_ref:∀ {Ds:List Addr} {its:List Value},Vals (Ds.map V.ref) its→its=Ds.map Value.ref
  | [],_,.nil=>rfl
  | D :: Ds,_ :: _,.cons r h=>by rw [vals_ref h];cases (show _=Value.ref D from r);rfl
theorem call_isinstE (K:Frag) (hK:X.K=K:=by rfl):CallR X (.builtin "isinstance") (fun vs H Q=>∃ (a C D:Addr) (b:Bool),vs=[.ref a,.ref D]∧H a=some (excO a C)∧ExK K C∧kitOne K (.ref C) (.ref D)=some b∧Q (.bl b) H):=by
  subst hK
  intro pins s σ H xs us Q I r h
  obtain ⟨a,C,D,b,rfl,ha,Z,e,q⟩:=h
  obtain ⟨u,v,rfl,ru,rv⟩:=vals2 r
  cases (show u=Value.ref a from ru)
  cases (show v=Value.ref D from rv)
  exact kia_one (kitx_exc Z) I.kIn (I.hok a _ ha).1 e (fun z=>nomatch z) fun tk=>⟨.bl b,H,I.tok tk,rfl,q⟩
theorem call_isinstEB (K:Frag) (hK:X.K=K:=by rfl):CallR X (.builtin "isinstance") (fun vs H Q=>∃ (a C:Addr) (T:String) (b:Bool),vs=[.ref a,.ty T]∧H a=some (excO a C)∧ExK K C∧kitOne K (.ref C) (.type T)=some b∧Q (.bl b) H):=by
  subst hK
  intro pins s σ H xs us Q I r h
  obtain ⟨a,C,T,b,rfl,ha,Z,e,q⟩:=h
  obtain ⟨u,v,rfl,ru,rv⟩:=vals2 r
  cases (show u=Value.ref a from ru)
  cases (show v=Value.type T from rv)
  exact kia_one (kitx_exc Z) I.kIn (I.hok a _ ha).1 e (fun z=>nomatch z) fun tk=>⟨.bl b,H,I.tok tk,rfl,q⟩
theorem call_isinstET (K:Frag) (hK:X.K=K:=by rfl):CallR X (.builtin "isinstance") (fun vs H Q=>∃ (a C c:Addr) (Ds:List Addr) (b:Bool),vs=[.ref a,.ref c]∧H a=some (excO a C)∧H c=some (.tup (Ds.map V.ref))∧ExK K C∧kitAny K (.ref C) (Ds.map Value.ref)=some b∧Q (.bl b) H):=by
  subst hK
  intro pins s σ H xs us Q I r h
  obtain ⟨a,C,c,Ds,b,rfl,ha,hc,Z,e,q⟩:=h
  obtain ⟨u,v,rfl,ru,rv⟩:=vals2 r
  cases (show u=Value.ref a from ru)
  cases (show v=Value.ref c from rv)
  obtain ⟨_,its,rv2,⟨o,h1,h2,n,h3⟩⟩:=(show ObjOk X.prog X.w H s.heap c (.tup (Ds.map V.ref)) from I.hok c _ hc)
  cases vals_ref rv2
  obtain ⟨cls,dd,dat,sl⟩:=o
  cases h2;cases h3
  exact kia_tup (kitx_exc Z) I.kIn (I.hok a _ ha).1 h1 e (fun z=>nomatch z) fun tk=>⟨.bl b,H,I.tok tk,rfl,q⟩
end
abbrev bmV:List Value:=[.type "ValueError", .type "Exception", .type "BaseException", .type "object"]
theorem exc_obj {K:Frag} {h:Heap} {C:Addr} {bmB:List Value} {newId:String} (X:K.In h) (q:excIn K C bmB newId=true) :
    ∃ bm N nm q bs hdct sn sub ab col dd k0 k1 k2 k3 k5 mN,h.get? C=some (excClassObj nm q C N bs bm hdct sn sub ab col dd k0 k1 k2 k3 k5 newId)∧h.Ns N mN∧mN "__init__" = none∧OwnTail h bmB bm:=by
  unfold excIn at q
  split at q
  · rename_i dd cd sl ho
    split at q
    · rename_i C' bm k0 k1 k2 k3 n k5 hm hs
      simp only [Bool.and_eq_true,beq_iff_eq,Bool.not_eq_true'] at q
      obtain ⟨⟨⟨⟨⟨rfl,rfl⟩,hdel⟩,ht⟩,hok⟩,hni⟩:=q
      obtain ⟨nm,bs,mro,ns,qn,hd,sn,sub,ab,col,del⟩:=cd
      dsimp only at hm hdel hok hni
      subst hm hdel
      have hsl:sl=#[k0,k1,k2,k3,some (.builtin n),k5]:=by
        obtain ⟨l⟩:=sl
        simp only at hs
        rw [hs]
      subst hsl
      exact ⟨bm,ns,nm,qn,bs,hd,sn,sub,ab,col,dd,k0,k1,k2,k3,k5,_,X _ _ ho,.of_isNs (isNs_of_in X hok),nsMap_none_of_in X hok hni,tail_of_in X ht⟩
    · cases q
  · cases q
def tRaise (E:XK) (C:Addr) (ta:TA):TS:=fun _ σ H=>ta σ H fun vs H1=>vs.length≤sizeLine∧∀ a,H1 a=none→E (.ref a) (some C) H1
theorem ps_raise {X:Cx} {E:XK} {x:Str} {C:Addr} {e₀:Expr} {rest:List Expr} {ta:TA} {np cpos pos:Pos} (R:Raises X E) (hm:X.mg x=some (.ref C)) (hq:excIn X.K C bmV "ValueError.__new__" = true) (hg:Gl X x) (ha:PA X (e₀ :: rest) ta)
    (hc:X.calm=true:=by rfl) (he:starEach (e₀ :: rest) X.env=(false,eval e₀ X.env) :: starEach rest X.env:=by rfl) (hplain:(backTo cpos (starEach rest X.env)).any (·.1)=false:=by rfl) (hd:(x == ("__debug__" : Str))=false:=by decide) :
    PS X (.Raise (some (.Call (.Name x np) (e₀ :: rest) [] cpos)) none pos) (tRaise E C ta):=by
  intro pins s σ H D I h
  obtain ⟨tl,N,nm,q,bs,hdct,sn,sub,ab,col,dd,k0,k1,k2,k3,k5,mN,hC,hN,hni,T⟩:=exc_obj I.ok.mod.kin hq
  refine wpAny_Raise_call_subT (C:=C) (nm:=nm) (q:=q) (N:=N) (bs:=bs) (bm:=tl) (hdct:=hdct) (sn:=sn) (sub:=sub) (ab:=ab) (col:=col) (dd:=dd) (k0:=k0) (k1:=k1) (k2:=k2) (k3:=k3) (k5:=k5)
    F.excBase_ValueError (mN:=mN) (T.hasType F.excBase_ValueError.hasBase) (I.ok.hd hc) (by rw [he];show (false || (backTo cpos (starEach rest X.env)).any (·.1))=false;rw [hplain];rfl) hni (ld_glob I hg hm ⟨rfl,?_⟩ hd)
  have hh:=ha cpos pins s σ H _ I h
  rw [he] at hh ⊢
  refine Calls.evalArgs_plain (wpAny_mono hh (fun vs s₂ h₂=>?_) fun _ _ y=>y)
  obtain ⟨us,H1,I1,r,hz,q⟩:=h₂
  refine ⟨rfl,by rw [← r.length];exact hz,I1.bk _ _ hC,hN.keeps I1.bk,T.keeps I1.bk,fun h' e mk=>R pins σ H1 s₂ h' e C vs I1 mk (q e ?_)⟩
  cases z:H1 e with
  | none=>rfl
  | some u=>
    obtain ⟨o,eo⟩:=(I1.hok e u z).obj
    rw [mk.new] at eo;cases eo
def HasX (P:Program) (w:World) (K:Frag) (mg:Str→Option Value) (base:Heap) (x:Str) (k:Nat) (ps:List Str) (sp:Sp):Prop:=
  ∃ f fd,FnOk P w K mg base (CXE P w) k f fd ps sp∧Binds K fd ps []∧keepIn K (.ref f)=true∧mg x=some (.ref f)
section
variable {P:Program} {w:World} {K:Frag} {mg:Str→Option Value} {base:Heap}
theorem HasX.mono {x:Str} {j k:Nat} {ps:List Str} {sp:Sp} (G:HasX P w K mg base x j ps sp) (h:j≤k):HasX P w K mg base x k ps sp:=
  let ⟨f,fd,F,r⟩:=G;⟨f,fd,F.mono h,r⟩
theorem Df.hasX {x:Str} {st:Stmt} {N ps:List Str} {k:Nat} {sp:Sp} (D:Df K mg x st) (S:FnScope N ps (defScope st))
    (hb:∀ (kV doc pm:Value) (an:Option Addr) (cdv ct:Value) (us:List Value),us.length=ps.length→bindArgs (fnOf x x (defArgs st) (defBody st) (defScope st) .none kV doc pm an cdv ct) ⟨us,[]⟩=pure (ps.zip us))
    (len:∀ vs H Q E,sp vs H Q E→vs.length=ps.length)
    (hbody:∀ (f:Addr) (cdv:Value) (A:Around) (outer:List Env) (s:Shared) (H:Hp) (vs:List V) (Q:VK) (E:XK),Room k (A.deeper (envOfC x (defScope st) s.heap.objs.size f cdv))→sp vs H Q E →
      ∃ t,PSs (cxOf (CXE P w) P w K mg base N x (defScope st) f cdv A outer s H E) (defBody st) t∧t { nx:=fun _ H'=>Q .non H',rt:=Q } (start N vs) H):HasX P w K mg base x (k+1) ps sp:=by
  obtain ⟨f,fd,F,m⟩:=D
  refine ⟨f,fd,?_,F.binds hb,F.kp,m⟩
  obtain ⟨oc,od,kV,doc,pm,an,cdv,ct,osl,rfl,lk,hcd⟩:=F.ex
  exact fn_of lk hcd S len fun A outer s H vs Q E hr hsp=>hbody f cdv A outer s H vs Q E hr hsp
end
section
variable {X:Cx} {x:Str} {k:Nat} {ps:List Str} {sp:Sp} {p pos:Pos} {e:Expr} {es:List Expr} {t:TA} {E:XK} {σ0:St}
theorem pe_callE (G:HasX X.prog X.w X.K X.mg X.base x k ps sp) (hx:Passes (CXE X.prog X.w) X E) (hr:Room k X.A) (hg:Gl X x) (ha:PA X (e :: es) t)
    (hdb:(x == ("__debug__" : Str))=false:=by decide) (he:starEach (e :: es) X.env=(false,eval e X.env) :: starEach es X.env:=by rfl) (hpl:(backTo pos (starEach es X.env)).any (·.1)=false:=by rfl) :
    PE X (.Call (.Name x p) (e :: es) [] pos) (tCall sp [] E t):=by
  obtain ⟨f,fd,F,b,kp,m⟩:=G
  exact pe_call F hr hg m kp b .nil hx ha hdb he hpl
theorem run_fnX {f:Addr} {fd:FuncData} {pins:List (Addr × Obj)} {H:Hp} {s:Shared} {Q:VK} {us:List Value} {vs:List V} (F:FnOk X.prog X.w X.K X.mg X.base (CXE X.prog X.w) k f fd ps sp) (hr:Room k X.A) (hb:Binds X.K fd ps []) (hx:PassesAt (CXE X.prog X.w) X E σ0)
    (I:Inv X pins σ0 H s) (r:Vals vs us) (h:sp (vs++[]) H Q E):wpAny (model X.prog X.w) X.A (call (.ref f) us) (EP X pins σ0 Q) X.xe s:=by
  have r2:Vals (vs++[]) (us++[]):=r.append .nil
  have hl:(us++[]).length=ps.length:=by rw [← r2.length];exact F.len _ _ _ _ h
  refine wpAny_call (codeAny_mono (F.run X.A X.stack s H ⟨us,[]⟩ (us++[]) (vs++[]) Q E hr I.env0 (hb s us I.kIn hl) r2 h) fun r s' hq=>?_)
  cases r with
  | error e=>exact hx pins H s e s' I hq
  | ok fl=>
    cases fl with
    | ret u=>exact I.after hq
    | next=>exact False.elim hq
    | brk=>exact False.elim hq
    | cont=>exact False.elim hq
theorem pe_callX (G:HasX X.prog X.w X.K X.mg X.base x k ps sp) (hx:PassesAt (CXE X.prog X.w) X E σ0) (hr:Room k X.A) (hg:Gl X x) (ha:PA X (e :: es) t)
    (hdb:(x == ("__debug__" : Str))=false:=by decide) (he:starEach (e :: es) X.env=(false,eval e X.env) :: starEach es X.env:=by rfl) (hpl:(backTo pos (starEach es X.env)).any (·.1)=false:=by rfl) :
    PE X (.Call (.Name x p) (e :: es) [] pos) (fun σ H Q=>σ=σ0∧tCall sp [] E t σ H Q):=by
  obtain ⟨f,fd,F,b,kp,hm⟩:=G
  rintro pins s σ H Q I ⟨rfl,h⟩
  refine wpAny_Call_Name_kw (ld_glob I hg hm ?_ hdb)
  refine callWith_K (h₀:=X.base) I.ok.mod.kin kp (thn (ha pos pins s σ H _ I h) fun us s1 ⟨vs,H1,I1,r,q⟩=>⟨I1.kIn,?_⟩) he hpl
  exact run_fnX F hr b hx I1 r q
end
end L2
namespace L2
open PySem PySem.Spec PyProof.Rows PySem.W
@[irreducible] def bigL:Int:=2 ^ 1000
section
variable {X:Cx}
theorem op_fdivL:OpR X (binaryOp .FloorDiv) (rI (fun _ j=>0 < j∧j < bigL) fun i j=>.int (i / j)):=opI fun i j _ _ _ _ _ hc q=>by
  have h1:(0:Int) < j:=hc.1
  have h2:j < 2 ^ 1000:=by have:=hc.2;unfold bigL at this;exact this
  refine floordiv_int (by omega) (by rw [Int.fdiv_eq_ediv_of_nonneg i (by omega)];exact q) (.inl (PyProof.noPylong_of_log2 ?_))
  have h3:j.natAbs < 2 ^ 1000:=by
    have:(j.natAbs:Int) < ((2 ^ 1000:Nat):Int):=by
      rw [Int.natAbs_of_nonneg (by omega)]
      exact_mod_cast h2
    exact_mod_cast this
  have h4:=(Nat.log2_lt (by omega)).mpr h3
  omega
end
end L2
namespace L2
open PySem PySem.Spec PyProof.Rows PySem.W
section
variable {X:Cx}
end
end L2
namespace L2
section
variable {NL:List PySem.Str} {ix:List Nat} {g:TG} {tt:TT} {te:TE} {σ:St} {H1:Hp} {Qs:Hp→Prop} {acc:PySem.Addr}
theorem comp_tupI {K:PySem.W.Frag} {a:PySem.Addr} {xs:List V} (hn:xs.length < 1000) (Pv:Nat→List V→Hp→Prop)
    (hl:∀ i ys H2,Pv i ys H2→SqT K H2 a xs) (hacc:∀ i ys H2,Pv i ys H2→H2 acc=some (.lst ys)∧ys.length≤i) (h0:Pv 0 [] (upd H1 acc (.lst []))) (hstop:∀ ys H2,Pv xs.length ys H2→Qs H2)
    (hturn:∀ i x ys H2,xs[i]?=some x→Pv i ys H2→g x (comp0 NL ix σ) H2 fun σ' H4=>σ'.drop NL.length=ix.map (fun j=>σ.getD j none)∧tt σ' H4 fun b H5=>
      if b=true then te σ' H5 fun v H6=>H6 acc=some (.lst ys)∧Pv (i+1) (ys++[v]) (upd H6 acc (.lst (ys++[v]))) else Pv (i+1) ys H5) :
    ∃ W:Nat→Nat→List V→Hp→Prop,(∃ m,W 0 m [] (upd H1 acc (.lst []))) ∧
    ∀ i m ys H2,W i m ys H2→H2 acc=some (.lst ys)∧ys.length < PySem.sizeLine ∧
      (((Itt K a).stop i H2∧Qs H2)∨((Itt K a).go i H2∧∃ N:List V→Hp→Prop,(∀ ys' H',N ys' H'→∃ m',m' < m∧W (i+1) m' ys' H') ∧
        ∀ x H3,(Itt K a).yld i H2 x H3→g x (comp0 NL ix σ) H3 fun σ' H4=>σ'.drop NL.length=ix.map (fun j=>σ.getD j none)∧tt σ' H4 fun b H5=>
          if b=true then te σ' H5 fun v H6=>H6 acc=some (.lst ys)∧N (ys++[v]) (upd H6 acc (.lst (ys++[v]))) else N ys H5)):=by
  refine comp_by xs.length hn Pv hacc h0 (fun ys H2 hp=>⟨⟨xs,hl _ _ _ hp,Nat.le_refl _⟩,hstop ys H2 hp⟩) fun i ys H2 hi hp=>?_
  have hs:=hl _ _ _ hp
  refine ⟨⟨xs,xs[i],hs,List.getElem?_eq_getElem hi⟩,?_⟩
  rintro x H3 ⟨rfl,hx⟩
  exact hturn i x ys H3 (hx xs hs) hp
end
end L2
namespace L2
open PySem PySem.Spec PyProof.Rows PySem.W
section
variable {X:Cx}
theorem preSum_take (ns:List Int):∀ j,j≤ns.length→preSum (fun i=>ns.getD i 0) j=(ns.take j).sum
  | 0,_=>rfl
  | j+1,h=>by
    show preSum _ j+ns.getD j 0=_
    rw [preSum_take ns j (by omega),List.take_succ,List.getElem?_eq_getElem (by omega),List.sum_append,List.getD_eq_getElem?_getD,List.getElem?_eq_getElem (by omega)]
    simp
end
end L2
namespace L2
open PySem PySem.Spec PyProof.Rows PySem.W
theorem rev_pick (items:Array Value):(List.filterMap (fun k:Nat=>items[((items.size:Int) - 1+(k:Int) * -1).toNat]?) (List.range items.size))=items.toList.reverse:=by
  apply List.ext_getElem?
  intro i
  have e:(List.range items.size).filterMap (fun k:Nat=>items[((items.size:Int) - 1+(k:Int) * -1).toNat]?)=(List.range items.size).map fun k=>items.getD (items.size - 1 - k) .none:=by
    have go:∀ l:List Nat,(∀ k∈l,k < items.size)→l.filterMap (fun k:Nat=>items[((items.size:Int) - 1+(k:Int) * -1).toNat]?)=l.map fun k=>items.getD (items.size - 1 - k) .none:=fun l=>by
      induction l with
      | nil=>intro _;rfl
      | cons k l ih=>
        intro hl
        have hk:=hl k List.mem_cons_self
        rw [List.filterMap_cons,List.map_cons,ih fun x hx=>hl x (List.mem_cons_of_mem _ hx),show ((items.size:Int) - 1+(k:Int) * -1).toNat=items.size - 1 - k by omega,Array.getElem?_eq_getElem (by omega),Array.getD_eq_getD_getElem?,Array.getElem?_eq_getElem (by omega)]
        rfl
    exact go _ fun k hk=>List.mem_range.mp hk
  rw [e,List.getElem?_map]
  rcases Nat.lt_or_ge i items.size with c | c
  · rw [List.getElem?_range c,List.getElem?_reverse (by simpa using c),Array.length_toList,Array.getElem?_toList,Array.getElem?_eq_getElem (by omega)]
    show some (items.getD (items.size - 1 - i) .none)=some _
    rw [Array.getD_eq_getD_getElem?,Array.getElem?_eq_getElem (by omega)];rfl
  · rw [List.getElem?_eq_none (by simpa using c),List.getElem?_eq_none (by simpa using c)];rfl
theorem places_rev (n:Nat):Builtin.Slice.slicePlaces ((n:Int) - 1) (-1) (-1)=n:=by
  unfold Builtin.Slice.slicePlaces
  rw [if_neg (by decide)]
  split
  · rename_i h
    have:((n:Int) - 1 - -1 - 1) / - -1=(n:Int) - 1:=by
      rw [show (- -1:Int)=1 by decide,Int.ediv_one];omega
    rw [this];omega
  · omega
section
variable {prog:Program} {w:World} {A:Around} {E:Value→Shared→Prop} {s:Shared}
theorem part_none {Q:Option Int→Shared→Prop} (h:Q none s):wpAny (model prog w) A (Builtin.Slice.slicePartIndex .none) Q E s:=wpAny_pure h
theorem part_int {i:Int} {tk:Tok} {Q:Option Int→Shared→Prop} (h:Q (some i) s):wpAny (model prog w) A (Builtin.Slice.slicePartIndex (.int i tk)) Q E s:=by
  unfold Builtin.Slice.slicePartIndex
  rw [if_neg (by show ¬ (false=true);decide)]
  refine wpAny_bind (wpAny_specialOf_val (T := "int") rfl (r:=some (.builtin "int.__index__")) (by kernel_rfl) ?_)
  rw [if_neg (by decide)]
  show wpAny _ _ (pure i >>= _) _ _ _
  exact wpAny_bind (wpAny_pure (wpAny_pure h))
theorem getItem_tuple_rev {t sl:Addr} {items:Array Value} {tk:Tok} {Q:Value→Shared→Prop} (ht:IsTup s.heap t items) (hs:s.heap.get? sl=some { cls:=.type "slice", data:=.fields #[.none,.none,.int (-1) tk] }) (hz:items.size≤sizeLine)
    (h:Q (.ref s.heap.objs.size) { s with heap:=s.heap.push { cls:=.type "tuple", data:=.seq items.toList.reverse.toArray } }):wpAny (model prog w) A (getItem (.ref t) (.ref sl)) Q E s:=by
  have hT:s.TypeIs (.ref t) "tuple" := ht.typeIs
  have hTs:s.TypeIs (.ref sl) "slice" := ⟨_,hs,rfl⟩
  refine wpAny_getItem_slot hT (by decide) PyProof.Rows.slot_tuple_getitem (wpAny_call_entry PyProof.Rows.slot_tuple_getitem hT PyProof.Rows.entry_tuple_getitem ?_ (PyProof.Rows.args_tuple_getitem _ _))
  obtain ⟨o,ho,hc,n,hd⟩:=id ht
  have f1:wpAny (model prog w) A.in1 (Builtin.Slice.sliceApplied (.ref sl) (pure (items.size:Int))) (fun r s'=>r=((items.size:Int) - 1,-1,items.size)∧s'=s) E s:=by
    unfold Builtin.Slice.sliceApplied Builtin.Slice.sliceFields
    refine wpAny_bind (wpAny_bind (wpAny_field hs rfl (x:=.none) rfl (wpAny_bind (wpAny_field hs rfl (x:=.none) rfl (wpAny_bind (wpAny_field hs rfl (x:=.int (-1) tk) rfl (wpAny_pure ?_)))))))
    dsimp only
    refine wpAny_bind (part_int ?_)
    show wpAny _ _ (Builtin.Slice.slicePartIndex .none >>= _) _ _ _
    refine wpAny_bind (part_none ?_)
    refine wpAny_bind (part_none ?_)
    refine wpAny_bind (wpAny_pure ?_)
    show wpAny _ _ (pure ((items.size:Int) - 1,(-1:Int),Builtin.Slice.slicePlaces ((items.size:Int) - 1) (-1) (-1))) _ _ _
    rw [places_rev]
    exact wpAny_pure ⟨rfl,rfl⟩
  show wpAny _ _ (Builtin.Tuple.tupleItemsOf (.ref t) >>= _) _ _ _
  refine wpAny_bind (PyProof.Rows.tupleItemsOf_ ht ?_)
  refine wpAny_bind (wpAny_typeOf hTs ?_)
  rw [if_pos (by decide)]
  refine wpAny_bind (thn f1 fun r s' hr=>?_)
  obtain ⟨rfl,rfl⟩:=hr
  dsimp only
  have nb:¬ (((items.size:Int) - 1 == 0 && (-1:Int) == 1 && items.size == items.size)=true):=by simp
  rw [if_neg nb,rev_pick]
  show wpAny _ _ (newTuple items.toList.reverse >>= _) _ _ _
  exact wpAny_bind (wpAny_newTuple (wpAny_pure ⟨_,rfl,h⟩) (by rw [List.length_reverse,Array.length_toList];exact hz))
end
section
variable {X:Cx} {e st:Expr} {te:TE} {ts:TO} {pos p2:Pos}
def tRevT (K:PySem.W.Frag) (te:TE) (ts:TO):TE:=fun σ H Q=>te σ H fun x H1=>ts σ H1 fun o H2=>∃ (a:Addr) (xs:List V),o=some (-1)∧x=.ref a∧SqT K H2 a xs∧∀ r:Addr,H2 r=none→Q (.ref r) (upd H2 r (.tup xs.reverse))
theorem vals_rev:∀ {xs:List V} {us:List Value},Vals xs us→Vals xs.reverse us.reverse
  | [],_,.nil=>.nil
  | x :: xs,_,.cons r t=>by
    rw [List.reverse_cons,List.reverse_cons]
    exact (vals_rev t).append (.cons r .nil)
theorem pe_revT (K:PySem.W.Frag) (he:PE X e te) (hs:PO X (some st) ts) (hK:X.K=K:=by rfl):PE X (.Subscript e (.Slice none none (some st) p2) pos) (tRevT K te ts):=by
  subst hK
  intro pins s σ H Q I h
  refine Subscript_ (thn (he pins s σ H _ I h) fun v s1 ⟨x,H1,I1,r1,q1⟩=>?_)
  refine wpAny_Slice ?_
  rw [evalPart_none]
  refine wpAny_pure (wpAny_pure ?_)
  refine thn (hs pins s1 σ H1 _ I1 q1) fun vs s3 ⟨o,H3,I3,po,q3⟩=>?_
  obtain ⟨a,xs,rfl,rfl,hq,q⟩:=q3
  cases r1
  cases po with
  | int i tk=>
  have I4:Inv X pins σ H3 { s3 with heap:=s3.heap.push { cls:=.type "slice", data:=.fields #[.none,.none,.int (-1) tk] } }:=I3.kept (t':=s3.toks) fun b ob q=>Heap.get?_push_of_some _ q
  show wpAny (model X.prog X.w) X.A (subscriptTail e (.Slice none none (some st) p2) (.ref a) (.ref s3.heap.objs.size)) (EP X pins σ Q) X.xe { s3 with heap:=s3.heap.push { cls:=.type "slice", data:=.fields #[.none,.none,.int (-1) tk] } }
  obtain ⟨its,r,ht,hz⟩:=I4.tuple hq
  have hlen:=r.length
  refine tail_any (ops:=[.ref a,.ref s3.heap.objs.size]) (T := "tuple") ht.typeIs PyProof.Rows.slot_tuple_getitem.lookup ?_ (by with_unfolding_all rfl)
  refine getItem_tuple_rev ht (Heap.get?_push_size _ rfl) (by rw [List.size_toArray];omega) ?_
  have rl:its.toArray.toList.reverse=its.reverse:=by simp
  rw [rl]
  refine ⟨.ref _,_,I4.laid (t':=s3.toks) (o:=.tup xs.reverse) (fun b ob q=>Heap.get?_push_of_some _ q) (Nat.le_refl _) ?_,rfl,q _ (I4.hok.fresh (Nat.le_refl _))⟩
  exact ⟨⟨by rw [List.length_reverse];exact hz,_,Heap.get?_push_size _ rfl,rfl⟩,its.reverse,vals_rev r,_,Heap.get?_push_size _ rfl,rfl,0,rfl⟩
end
end L2
namespace L2
open PySem PySem.Spec PyProof.Rows PySem.W
theorem eq_of_rel {x y:V} {u:Value} (h1:RelV x u) (h2:RelV y u) (f1:flatV x=true) (f2:flatV y=true):eqV x y=true:=by
  cases x <;> cases y <;> first | cases f1;done | cases f2;done | skip
  all_goals simp only [RelV] at h1 h2
  all_goals first
    | (obtain ⟨t,rfl⟩:=h1;obtain ⟨t',e⟩:=h2;cases e;simp [eqV];done)
    | (subst h1;cases h2;simp [eqV];done)
    | (subst h1;obtain ⟨t',e⟩:=h2;cases e;done)
    | (obtain ⟨t,rfl⟩:=h1;cases h2;done)
    | (obtain ⟨t,rfl⟩:=h1;obtain ⟨t',e⟩:=h2;exact absurd e (by simp))
theorem eqVs_rel {us:List Value}:∀ {xs ys:List V},Vals xs us→Vals ys us→xs.all flatV=true→ys.all flatV=true→eqVs xs ys=true:=fun {xs ys} h1 h2 f1 f2=>by
  have l1:=h1.length
  have l2:=h2.length
  unfold eqVs
  rw [Bool.and_eq_true,beq_iff_eq,List.all_eq_true]
  refine ⟨by omega,fun j hj=>?_⟩
  have hj':=List.mem_range.mp hj
  obtain ⟨u,e1,r1⟩:=h1.get (List.getElem?_eq_getElem hj')
  obtain ⟨u',e2,r2⟩:=h2.get (List.getElem?_eq_getElem (show j < ys.length by omega))
  rw [e1] at e2;cases e2
  unfold eqAtJ
  rw [List.getElem?_eq_getElem hj',List.getElem?_eq_getElem (show j < ys.length by omega)]
  exact eq_of_rel r1 r2 (List.all_eq_true.mp f1 _ (List.getElem_mem _)) (List.all_eq_true.mp f2 _ (List.getElem_mem _))
theorem eqAt_tupF {A:Around} {s:Shared} {a b:Addr} {us ws:List Value} {xs ys:List V} (t1:IsTup s.heap a us.toArray) (t2:IsTup s.heap b ws.toArray) (q1:Vals xs us) (q2:Vals ys ws) (f1:xs.all flatV=true) (f2:ys.all flatV=true) (hu:A.units < cLine):SeqAt.EqAt A s (.ref a) (.ref b) (eqVs xs ys):=by
  have z1:=q1.length
  have z2:=q2.length
  by_cases e:a=b
  · subst e
    obtain ⟨o,ho,hc,n,hd⟩:=t1
    obtain ⟨o',ho',hc',n',hd'⟩:=t2
    rw [ho] at ho';cases ho'
    rw [hd] at hd'
    have exy:us=ws:=by
      have:us.toArray=ws.toArray:=by cases hd';rfl
      simpa using this
    subst exy
    rw [eqVs_rel q1 q2 f1 f2]
    exact SeqAt.EqAt.same _
  · refine SeqAt.EqAt.of_refs e ?_
    have hc:=SeqAt.RcAt.tuples (A:=A) (s:=s) (e:=eqAtJ xs ys) t1 t2 hu (fun j g1 g2=>eqAt_items q1 q2 f1 f2 j g1 g2)
    have ev:((List.range (min us.toArray.size ws.toArray.size)).all (eqAtJ xs ys) && us.toArray.size == ws.toArray.size)=eqVs xs ys:=by
      unfold eqVs
      rw [List.size_toArray,List.size_toArray,← z1,← z2]
      by_cases el:xs.length=ys.length
      · rw [el,Nat.min_self,beq_self_eq_true,Bool.and_true,Bool.true_and]
      · have:(xs.length == ys.length)=false:=by simpa using el
        rw [this,Bool.and_false,Bool.false_and]
    rw [ev] at hc
    exact hc
section
variable {X:Cx}
def NE (K:PySem.W.Frag) (H:Hp) (x y:V) (b:Bool):Prop:=(flatV x=true∧flatV y=true∧b=eqV x y)∨∃ (p q:Addr) (us ws:List V),x=.ref p∧y=.ref q∧SqT K H p us∧SqT K H q ws∧us.all flatV=true∧ws.all flatV=true∧b=eqVs us ws
theorem op_eq_nest {k:Nat} (K:PySem.W.Frag) (hr:Room k X.A) (hK:X.K=K:=by rfl):OpR X (compareOp .Eq) (fun x y H Q=>∃ (a b:Addr) (xs ys:List V) (e:Nat→Bool),x=.ref a∧y=.ref b∧a≠b∧SqT K H a xs∧SqT K H b ys∧xs.length=ys.length∧(∀ (i:Nat) x y,xs[i]?=some x→ys[i]?=some y→NE K H x y (e i))∧Q (.bl ((List.range xs.length).all e)) H):=by
  subst hK
  intro pins s σ H x y v u Q I rx ry h
  obtain ⟨a,b,xs,ys,e,rfl,rfl,ab,h1,h2,hl,hat,q⟩:=h
  cases (show v=Value.ref a from rx)
  cases (show u=Value.ref b from ry)
  obtain ⟨us,r1,l1,_⟩:=I.tuple h1
  obtain ⟨ws,r2,l2,_⟩:=I.tuple h2
  have e1:=r1.length
  have e2:=r2.length
  have un:=hr.un
  have hc:=SeqAt.RcAt.tuples (A:=X.A) (s:=s) (e:=e) l1 l2 (by omega) (fun j g1 g2=>by
    have j1:j < xs.length:=by rw [e1];simpa using g1
    have j2:j < ys.length:=by omega
    obtain ⟨u1,eu1,ru1⟩:=r1.get (List.getElem?_eq_getElem j1)
    obtain ⟨u2,eu2,ru2⟩:=r2.get (List.getElem?_eq_getElem j2)
    have d1:us.toArray[j]=u1:=by
      have:us[j]?=some u1:=eu1
      rw [List.getElem?_eq_getElem (by omega)] at this
      simpa using Option.some.inj this
    have d2:ws.toArray[j]=u2:=by
      have:ws[j]?=some u2:=eu2
      rw [List.getElem?_eq_getElem (by omega)] at this
      simpa using Option.some.inj this
    rw [d1,d2]
    rcases hat j _ _ (List.getElem?_eq_getElem j1) (List.getElem?_eq_getElem j2) with ⟨f1,f2,eb⟩ | ⟨p,q',vs,zs,ex,ey,t1,t2,f1,f2,eb⟩
    · rw [eb];exact eqAt_V ru1 ru2 f1 f2
    · rw [ex] at ru1
      rw [ey] at ru2
      cases (show u1=Value.ref p from ru1)
      cases (show u2=Value.ref q' from ru2)
      obtain ⟨is1,w1,m1,_⟩:=I.tuple t1
      obtain ⟨is2,w2,m2,_⟩:=I.tuple t2
      rw [eb]
      exact eqAt_tupF (A:=X.A.in1) m1 m2 w1 w2 f1 f2 (by show X.A.units+1 < _;omega))
  refine hc X.prog X.w X.xe _ ⟨.bl _,H,I,rfl,?_⟩
  have ev:((List.range (min us.toArray.size ws.toArray.size)).all e && us.toArray.size == ws.toArray.size)=(List.range xs.length).all e:=by
    rw [List.size_toArray,List.size_toArray,← e1,← e2,hl,Nat.min_self,beq_self_eq_true,Bool.and_true]
  rw [ev];exact q
end
end L2
namespace L2
open PySem
theorem mid {t u:TS} {D:Ends} {σ:St} {H:Hp} (P:St→Hp→Prop) (h2:∀ σ' H',P σ' H'→u D σ' H') (h1:∀ E:Ends,(∀ σ' H',P σ' H'→E.nx σ' H')→t E σ H):tSeq t u D σ H:=h1 { D with nx:=u D } h2
end L2
namespace L2
open PySem PySem.Spec PyProof.Rows PySem.W
section
variable {prog:Program} {w:World} {A:Around} {E:Value→Shared→Prop} {s:Shared}
end
section
variable {X:Cx} {pos:Pos}
theorem call_sumA (K:PySem.W.Frag) (hc:X.calm=true) (hK:X.K=K:=by rfl):CallR X (.builtin "sum") (fun vs H Q=>∃ (a:Addr) (ns:List Int),vs=[.ref a]∧SqL K H a (ns.map V.int)∧Q (.int ns.sum) H):=by
  subst hK
  intro pins s σ H xs us Q I r h
  obtain ⟨a,ns,rfl,hl,q⟩:=h
  obtain ⟨u,rfl,ru⟩:=vals1 r
  cases (show u=Value.ref a from ru)
  obtain ⟨its,rv,ht,hz⟩:=I.list hl
  have hlen:=rv.length
  rw [List.length_map] at hlen
  have hh:X.A.in1.handled=none:=I.ok.hd hc
  have hlt:a < s.heap.objs.size:=by obtain ⟨o,e,_⟩:=ht.isList;exact Heap.lt_size e
  refine call_sum_walkAnyS (wpAny_pyIter_list ht.isList ⟨s.heap.objs.size,_,_,_,_,_,_,(fun i=>ns.getD i 0),rfl,(Walks.list hh s.heap.objs.size a (Nat.ne_of_lt hlt) its.toArray).toS,?_,?_,?_,?_⟩)
  · exact ⟨⟨_,Heap.get?_push_size _ rfl,rfl,rfl⟩,Heap.IsList.push ht.isList _⟩
  · intro b hb
    have:b=s.heap.objs.size∨b=a:=by simpa using hb
    show b < (s.heap.objs.push _).size
    rw [Array.size_push]
    rcases this with rfl | rfl
    · exact Nat.lt_succ_self _
    · exact Nat.lt_succ_of_lt hlt
  · intro i v hv
    have hv':its[i]?=some v:=by simpa using hv
    have hi:i < (ns.map V.int).length:=by rw [List.length_map,hlen];exact (List.getElem?_eq_some_iff.mp hv').1
    obtain ⟨u',e1,e2⟩:=rv.get (List.getElem?_eq_getElem hi)
    rw [hv'] at e1
    cases e1
    rw [List.getElem_map] at e2
    obtain ⟨t,e2⟩:∃ t,v=Value.int _ t:=e2
    have hb:ns.getD i 0=ns[i]'(by simpa using hi):=by rw [List.getD_eq_getElem?_getD,List.getElem?_eq_getElem (by simpa using hi)];rfl
    exact ⟨t,by show v=Value.int (ns.getD i 0) t;rw [hb];exact e2⟩
  · intro s' t' hm
    rw [List.size_toArray,← hlen,preSum_take ns _ (Nat.le_refl _),List.take_length]
    obtain ⟨h',g',d',tk,os'⟩:=s'
    have e1:=hm.gens
    have e2:=hm.drawn
    have e3:=hm.os
    dsimp only at e1 e2 e3
    subst e1 e2 e3
    exact ⟨.int _,H,I.kept (t':=tk) fun b o e=>hm.heap b o (by simp;exact Nat.ne_of_lt (Heap.lt_size e)) (Heap.get?_push_of_some _ e),⟨_,rfl⟩,q⟩
end
end L2
namespace HT
open PySem PySem.Spec PyProof.Rows
section
variable {prog:Program} {w:World} {A:Around} {E:Value→Shared→Prop} {s:Shared}
theorem getItem_tuple_all {t sl:Addr} {items:Array Value} {vl vu:Value} {lo hi:Option Int} {Q:Value→Shared→Prop} (ht:IsTup s.heap t items) (hs:s.heap.IsSliceOf sl vl vu .none) (pl:IsPart vl lo) (pu:IsPart vu hi)
    (h1:sIx items.size 0 lo=0) (h2:sIx items.size items.size hi=items.size) (h:Q (.ref t) s):wpAny (model prog w) A (getItem (.ref t) (.ref sl)) Q E s:=by
  obtain ⟨os,hos,hcs,hds⟩:=id hs
  have hTs:s.TypeIs (.ref sl) "slice" := ⟨os,hos,hcs⟩
  unfold getItem
  try with_reducible refine wpAny_holding ?_
  first | refine wpAny_bind (wpAny_pure ?_) | skip
  refine wpAny_bind (wpAny_sequenceKey ht.typeIs (by decide) ?_)
  refine wpAny_bind (wpAny_callSpecial?_slot (name:=Str.ofString "__getitem__") ht.typeIs PyProof.Rows.slot_tuple_getitem
    (wpAny_call_entry PyProof.Rows.slot_tuple_getitem ht.typeIs entry_tuple_getitem ?_ (args_tuple_getitem _ _)))
  show wpAny _ _ (Builtin.Tuple.tupleItemsOf (.ref t) >>= _) _ _ s
  refine wpAny_bind (tupleItemsOf_ ht ?_)
  refine wpAny_bind (wpAny_typeOf hTs ?_)
  rw [if_pos (by decide)]
  refine wpAny_bind (sliceApplied_gen hs pl pu ?_)
  have hyes:((((sIx items.size 0 lo:Nat):Int) == 0 && (1:Int) == 1 && (sIx items.size items.size hi - sIx items.size 0 lo) == items.size)=true):=by
    rw [h1,h2];simp
  show wpAny _ _ (if (((sIx items.size 0 lo:Nat):Int) == 0 && (1:Int) == 1 && (sIx items.size items.size hi - sIx items.size 0 lo) == items.size)=true then _ else _) _ _ s
  rw [if_pos hyes]
  unfold Builtin.Tuple.tupleIsExact
  refine wpAny_bind (wpAny_bind (wpAny_typeOf ht.typeIs (wpAny_pure ?_)))
  rw [if_pos (by decide)]
  refine wpAny_bind (wpAny_rule ?_)
  first
    | exact wpAny_pure ⟨_,rfl,wpAny_pure h⟩
    | exact wpAny_bind (wpAny_pure (wpAny_pure ⟨_,rfl,wpAny_pure h⟩))
end
end HT
namespace L2
open PySem PySem.Spec PyProof.Rows
section
variable {X:Cx}
def rSlTA (K:PySem.W.Frag):V→Option Int→Option Int→Hp→VK→Prop:=fun x lo hi H Q=>∃ a xs,x=.ref a∧SqT K H a xs ∧
  ((HT.sIx xs.length 0 lo=0∧HT.sIx xs.length xs.length hi=xs.length)→Q (.ref a) H)∧(¬ (HT.sIx xs.length 0 lo=0∧HT.sIx xs.length xs.length hi=xs.length)→∀ p,H p=none→Q (.ref p) (upd H p (.tup (cutV xs lo hi))))
theorem sl_tupA:SlR X (rSlTA X.K):=by
  intro pins s σ H x v vl vu lo hi sl Q I rx hs pl pu h
  obtain ⟨a,xs,rfl,hx,q1,q2⟩:=h
  by_cases hw:HT.sIx xs.length 0 lo=0∧HT.sIx xs.length xs.length hi=xs.length
  · cases rx
    obtain ⟨its,r,ht,hz⟩:=I.tuple hx
    have hlen:its.toArray.size=xs.length:=by rw [List.size_toArray];exact r.length.symm
    refine ⟨"tuple", _,PyProof.Rows.slot_tuple_getitem.lookup,ht.typeIs,?_⟩
    exact HT.getItem_tuple_all ht hs pl pu (by rw [hlen];exact hw.1) (by rw [hlen];exact hw.2) ⟨.ref a,H,I,rfl,q1 hw⟩
  · exact sl_tup pins s σ H _ v vl vu lo hi sl Q I rx hs pl pu ⟨a,xs,rfl,hx,hw,q2 hw⟩
end
end L2
namespace L2
open PySem PySem.Spec PyProof.Rows PySem.W
section
variable {X:Cx}
theorem op_mulB:OpR X (binaryOp .Mult) (rI IntMulOk fun i j=>.int (i * j)):=opI fun _ _ _ _ _ _ _ hc q=>mul_int q hc
variable {e st:Expr} {te:TE} {ts:TO} {pos p2:Pos}
end
end L2
namespace L2
open PySem PySem.Spec PyProof.Rows PySem.W
mutual
inductive Td (H:Hp):V→PyData→Prop
  | non:Td H .non .none
  | bl (b:Bool):Td H (.bl b) (.bool b)
  | int (i:Int):Td H (.int i) (.int i)
  | str (z:Str):Td H (.str z) (.str z)
  | lst {a:Addr} {xs:List V} {ds:List PyData}:H a=some (.lst xs)→Tds H xs ds→Td H (.ref a) (.list ds)
  | tup {a:Addr} {xs:List V} {ds:List PyData}:H a=some (.tup xs)→Tds H xs ds→Td H (.ref a) (.tuple ds)
  | dct {a:Addr} {kvs:List (Key × V)} {ps:List (PyData × PyData)}:H a=some (.dK kvs)→Tds H (kvs.map fun p=>kV p.1) (ps.map (·.1))→Tds H (kvs.map (·.2)) (ps.map (·.2))→Td H (.ref a) (.dict ps)
inductive Tds (H:Hp):List V→List PyData→Prop
  | nil:Tds H [] []
  | cons {v:V} {d:PyData} {vs:List V} {ds:List PyData}:Td H v d→Tds H vs ds→Tds H (v :: vs) (d :: ds)
end
mutual
theorem Td.same {H H':Hp} (s:Same H H'):∀ {v:V} {d:PyData},Td H v d→Td H' v d
  | _,_,.non=>.non
  | _,_,.bl b=>.bl b
  | _,_,.int i=>.int i
  | _,_,.str z=>.str z
  | _,_,.lst e t=>.lst (s _ _ e) (t.same s)
  | _,_,.tup e t=>.tup (s _ _ e) (t.same s)
  | _,_,.dct e t u=>.dct (s _ _ e) (t.same s) (u.same s)
theorem Tds.same {H H':Hp} (s:Same H H'):∀ {vs:List V} {ds:List PyData},Tds H vs ds→Tds H' vs ds
  | _,_,.nil=>.nil
  | _,_,.cons t u=>.cons (t.same s) (u.same s)
end
mutual
def noList:PyData→Bool
  | .none | .bool _ | .int _ | .str _=>true
  | .list _=>false
  | .tuple xs=>noListAll xs
  | .dict kvs=>noListKv kvs
def noListAll:List PyData→Bool
  | []=>true
  | x :: xs=>noList x && noListAll xs
def noListKv:List (PyData × PyData)→Bool
  | []=>true
  | (k,v) :: r=>noList k && noList v && noListKv r
end
theorem noListKv_keys:∀ kvs:List (PyData × PyData),noListKv kvs=true→noListAll (kvs.map (·.1))=true∧noListAll (kvs.map (·.2))=true
  | [],_=>⟨by simp only [List.map_nil,noListAll],by simp only [List.map_nil,noListAll]⟩
  | (k,v) :: r,h=>by
    simp only [noListKv,Bool.and_eq_true] at h
    obtain ⟨a,b⟩:=noListKv_keys r h.2
    simp only [List.map_cons,noListAll,Bool.and_eq_true]
    exact ⟨⟨h.1.1,a⟩,⟨h.1.2,b⟩⟩
theorem pairs_vals {P:Program} {w:World} {es:List DictEntry} {vs:List (Key × Value)} (h:Pairs (mixKind P w) es vs):∀ {kvs:List (Key × V)},KV kvs vs→Vals (kvs.map fun p=>kV p.1) (es.map (·.key))∧Vals (kvs.map (·.2)) (es.map (·.val)):=by
  induction h with
  | nil=>intro kvs r;cases r;exact ⟨.nil,.nil⟩
  | cons hk hv _ ih=>
    intro kvs r
    cases r with
    | cons r1 r2=>
      obtain ⟨a,b⟩:=ih r2
      refine ⟨.cons ?_ a,.cons (by show RelV _ _;simp only [hv];exact r1.2) b⟩
      show RelV (kV _) _
      simp only [r1.1]
      rcases keyIs_shape hk with ⟨i,t,e,e'⟩ | ⟨x,t,e,e'⟩
      · rw [e,e'];exact ⟨t,rfl⟩
      · rw [e,e'];exact ⟨t,rfl⟩
section
variable {X:Cx} {pins:List (Addr × Obj)} {σ:St} {H:Hp} {s:Shared}
mutual
theorem reads_td (I:Inv X pins σ H s):∀ {v:V} {d:PyData},Td H v d→∀ {u:Value},RelV v u→∃ as,Reads s.heap u d as∧(noList d=true→sysModules ∉ as)
  | _,_,.non,_,r=>by cases r;exact ⟨[],.none,fun _ h=>by cases h⟩
  | _,_,.bl b,_,r=>by cases r;exact ⟨[],.bool b,fun _ h=>by cases h⟩
  | _,_,.int i,_,r=>by obtain ⟨t,rfl⟩:=r;exact ⟨[],.int i t,fun _ h=>by cases h⟩
  | _,_,.str z,_,r=>by obtain ⟨t,rfl⟩:=r;exact ⟨[],.str z t,fun _ h=>by cases h⟩
  | _,_,.lst e t,_,r=>by
    cases r
    obtain ⟨_,its,n,rv,g⟩:=I.hok _ _ e
    obtain ⟨as,ra,_⟩:=reads_tds I t rv
    exact ⟨_,.list g rfl rfl ra,fun h=>by simp only [noList] at h;cases h⟩
  | _,_,.tup e t,_,r=>by
    cases r
    obtain ⟨_,its,rv,o,g,c,n,dd⟩:=I.hok _ _ e
    obtain ⟨as,ra,na⟩:=reads_tds I t rv
    exact ⟨as,.tuple g c dd ra,fun h=>na (by simpa only [noList] using h)⟩
  | _,_,.dct e t u,_,r=>by
    cases r
    obtain ⟨_,hs,vs,kv,o,es,ep,g,ex,dd,_,pr,_⟩:=I.hok _ _ e
    obtain ⟨v1,v2⟩:=pairs_vals pr kv
    obtain ⟨as,ra,na⟩:=reads_tds I t v1
    obtain ⟨bs,rb,nb⟩:=reads_tds I u v2
    refine ⟨_,.dict g ex.1 dd ra rb,fun h=>?_⟩
    simp only [noList] at h
    obtain ⟨h1,h2⟩:=noListKv_keys _ h
    intro m
    rcases List.mem_append.mp m with m | m
    · rcases List.mem_cons.mp m with m | m
      · exact beq_eq_false_iff_ne.mp hs m.symm
      · exact na h1 m
    · exact nb h2 m
theorem reads_tds (I:Inv X pins σ H s):∀ {vs:List V} {ds:List PyData},Tds H vs ds→∀ {us:List Value},Vals vs us→∃ as,ReadsAll s.heap us ds as∧(noListAll ds=true→sysModules ∉ as)
  | _,_,.nil,_,r=>by cases r;exact ⟨[],.nil,fun _ h=>by cases h⟩
  | _,_,.cons t u,_,r=>by
    cases r with
    | cons r1 r2=>
      obtain ⟨as,ra,na⟩:=reads_td I t r1
      obtain ⟨bs,rb,nb⟩:=reads_tds I u r2
      refine ⟨as++bs,.cons ra rb,fun h=>?_⟩
      simp only [noListAll,Bool.and_eq_true] at h
      intro m
      rcases List.mem_append.mp m with m | m
      · exact na h.1 m
      · exact nb h.2 m
end
structure Fit (d:PyData):Prop where
  sh:d.showable=true
  lv:d.leavesShort 61=true
  wt:d.weight≤200000
  dp:d.depth≤20
  md:d.hasDict=false∨noList d=true
theorem Fit.sz {d:PyData} (f:Fit d):d.shown.length≤sizeLine:=by
  have h:=PyData.shown_le 61 (by decide) d f.lv
  have:=f.wt
  rw [sizeLine_eq]
  omega
variable {k:Nat}
theorem call_repr_any (hr:Room k X.A):CallR X (.builtin "repr") (fun xs H Q=>∃ v d,xs=[v]∧Td H v d∧Fit d∧Q (.str d.shown) H):=by
  intro pins s σ H xs us Q I r h
  obtain ⟨v,d,rfl,t,f,q⟩:=h
  obtain ⟨u,rfl,rx⟩:=vals1 r
  have fin:∀ (h':Heap) (u:Tok) (tk:Tok),(∀ b o,s.heap.get? b=some o→h'.get? b=some o)→EP X pins σ Q (.str d.shown u) { s with heap:=h',toks:=tk }:=fun h' u tk hk=>⟨.str d.shown,H,I.kept (t':=tk) hk,⟨u,rfl⟩,q⟩
  have sz:=f.sz
  have ref:∀ a:Addr,u=.ref a→wpAny (model X.prog X.w) X.A (call (.builtin "repr") [u]) (EP X pins σ Q) X.xe s:=fun a e=>by
    subst e
    obtain ⟨as,rd,na⟩:=reads_td I t rx
    have un:=hr.un
    have dp:=f.dp
    refine repr_of_reads' rd f.sh (fun z=>?_) hr.gd (by omega) (fun _ _ e=>e) (fun h' u tk hk=>fin h' u tk hk) sz
    rcases f.md with m | m
    · rw [m] at z;cases z
    · exact na m
  cases t with
  | non=>cases rx;exact P.repr_of_none (fin _ _ _ fun _ _ e=>e)
  | bl b=>cases rx;exact P.repr_of_bool (by cases b <;> exact fin _ _ _ fun _ _ e=>e)
  | int i=>obtain ⟨t,rfl⟩:=rx;exact P.repr_of_int (of_decide_eq_true f.sh) (fin _ _ _ fun _ _ e=>e)
  | str z=>obtain ⟨t,rfl⟩:=rx;exact P.repr_of_str (fin _ _ _ fun _ _ e=>e) sz
  | lst e t=>cases rx;exact ref _ rfl
  | tup e t=>cases rx;exact ref _ rfl
  | dct e t u=>cases rx;exact ref _ rfl
end
section
variable {H:Hp}
theorem Tds.len:∀ {vs:List V} {ds:List PyData},Tds H vs ds→vs.length=ds.length
  | _,_,.nil=>rfl
  | _,_,.cons _ u=>by rw [List.length_cons,List.length_cons,u.len]
theorem Tds.append:∀ {vs:List V} {ds:List PyData},Tds H vs ds→∀ {ws:List V} {es:List PyData},Tds H ws es→Tds H (vs++ws) (ds++es)
  | _,_,.nil,_,_,t=>t
  | _,_,.cons a u,_,_,t=>.cons a (u.append t)
theorem Tds.one {v:V} {d:PyData} (t:Td H v d):Tds H [v] [d]:=.cons t .nil
theorem Tds.reverse:∀ {vs:List V} {ds:List PyData},Tds H vs ds→Tds H vs.reverse ds.reverse
  | _,_,.nil=>.nil
  | _,_,.cons a u=>by rw [List.reverse_cons,List.reverse_cons];exact u.reverse.append (.one a)
theorem Tds.get:∀ {vs:List V} {ds:List PyData} {i:Nat} {v:V},Tds H vs ds→vs[i]?=some v→∃ d,ds[i]?=some d∧Td H v d
  | _,_,_,_,.nil,e=>by simp at e
  | _,_,0,_,.cons a u,e=>by simp at e;subst e;exact ⟨_,rfl,a⟩
  | _,_,i+1,_,.cons a u,e=>u.get (i:=i) (by simpa using e)
theorem Tds.ints (ns:List Int):Tds H (ns.map V.int) (ns.map PyData.int):=by
  induction ns with
  | nil=>exact .nil
  | cons n ns ih=>exact .cons (.int n) ih
end
structure Gd (hd hl:Bool) (c e:Nat) (d:PyData):Prop where
  sh:d.showable=true
  lv:d.leavesShort 61=true
  wt:d.weight≤c
  dp:d.depth≤e
  nd:hd=false→d.hasDict=false
  nl:hl=false→noList d=true
structure Gs (hd hl:Bool) (c e:Nat) (ds:List PyData):Prop where
  sh:PyData.showableAll ds=true
  lv:PyData.leavesShortAll 61 ds=true
  wt:PyData.weightAll ds≤c
  dp:PyData.depthAll ds≤e
  nd:hd=false→PyData.hasDictAll ds=false
  nl:hl=false→noListAll ds=true
section
variable {hd hl:Bool} {c c' e e':Nat} {d:PyData} {ds es:List PyData}
theorem Gd.fit (g:Gd hd hl c e d) (h:hd=false∨hl=false) (hc:c≤200000) (he:e≤20):Fit d:=
  ⟨g.sh,g.lv,Nat.le_trans g.wt hc,Nat.le_trans g.dp he,h.imp g.nd g.nl⟩
theorem Gd.mono (g:Gd hd hl c e d) (hc:c≤c') (he:e≤e'):Gd hd hl c' e' d:=⟨g.sh,g.lv,Nat.le_trans g.wt hc,Nat.le_trans g.dp he,g.nd,g.nl⟩
theorem Gd.up (g:Gd false false c e d):Gd hd hl c e d:=⟨g.sh,g.lv,g.wt,g.dp,fun _=>g.nd rfl,fun _=>g.nl rfl⟩
theorem Gs.up (g:Gs false false c e ds):Gs hd hl c e ds:=⟨g.sh,g.lv,g.wt,g.dp,fun _=>g.nd rfl,fun _=>g.nl rfl⟩
theorem Gs.mono (g:Gs hd hl c e ds) (hc:c≤c') (he:e≤e'):Gs hd hl c' e' ds:=⟨g.sh,g.lv,Nat.le_trans g.wt hc,Nat.le_trans g.dp he,g.nd,g.nl⟩
theorem Gs.nil:Gs hd hl 0 0 []:=⟨by simp only [PyData.showableAll],by simp only [PyData.leavesShortAll],by simp only [PyData.weightAll];omega,by simp only [PyData.depthAll];omega,fun _=>by simp only [PyData.hasDictAll],fun _=>by simp only [noListAll]⟩
theorem Gs.cons (g:Gd hd hl c e d) (h:Gs hd hl c' e ds):Gs hd hl (c+1+c') e (d :: ds):=by
  have:=g.wt;have:=h.wt;have:=g.dp;have:=h.dp
  refine ⟨?_,?_,?_,?_,fun z=>?_,fun z=>?_⟩
  · simp only [PyData.showableAll,g.sh,h.sh,Bool.and_self]
  · simp only [PyData.leavesShortAll,g.lv,h.lv,Bool.and_self]
  · simp only [PyData.weightAll];omega
  · simp only [PyData.depthAll];omega
  · simp only [PyData.hasDictAll,g.nd z,h.nd z,Bool.or_self]
  · simp only [noListAll,g.nl z,h.nl z,Bool.and_self]
theorem Gs.uncons (g:Gs hd hl c e (d :: ds)):∃ c1 c2,Gd hd hl c1 e d∧Gs hd hl c2 e ds∧c1+1+c2≤c:=by
  obtain ⟨s,l,w,p,n,m⟩:=g
  simp only [PyData.showableAll,Bool.and_eq_true] at s
  simp only [PyData.leavesShortAll,Bool.and_eq_true] at l
  simp only [PyData.weightAll] at w
  simp only [PyData.depthAll] at p
  refine ⟨d.weight,PyData.weightAll ds,⟨s.1,l.1,Nat.le_refl _,by omega,fun z=>?_,fun z=>?_⟩,⟨s.2,l.2,Nat.le_refl _,by omega,fun z=>?_,fun z=>?_⟩,w⟩
  · have:=n z;simp only [PyData.hasDictAll,Bool.or_eq_false_iff] at this;exact this.1
  · have:=m z;simp only [noListAll,Bool.and_eq_true] at this;exact this.1
  · have:=n z;simp only [PyData.hasDictAll,Bool.or_eq_false_iff] at this;exact this.2
  · have:=m z;simp only [noListAll,Bool.and_eq_true] at this;exact this.2
theorem Gs.append:∀ {ds:List PyData} {c:Nat},Gs hd hl c e ds→Gs hd hl c' e es→Gs hd hl (c+c') e (ds++es)
  | [],c,_,h=>h.mono (by omega) (Nat.le_refl _)
  | d :: ds,c,g,h=>by
    obtain ⟨c1,c2,g1,g2,l⟩:=g.uncons
    exact (Gs.cons g1 (g2.append h)).mono (by omega) (Nat.le_refl _)
theorem Gs.one (g:Gd hd hl c e d):Gs hd hl (c+1) e [d]:=(Gs.cons g (Gs.nil.mono (Nat.le_refl 0) (Nat.zero_le e))).mono (by omega) (Nat.le_refl _)
theorem Gs.reverse:∀ {ds:List PyData} {c:Nat},Gs hd hl c e ds→Gs hd hl c e ds.reverse
  | [],c,g=>g
  | d :: ds,c,g=>by
    obtain ⟨c1,c2,g1,g2,l⟩:=g.uncons
    rw [List.reverse_cons]
    exact (g2.reverse.append (Gs.one g1)).mono (by omega) (Nat.le_refl _)
theorem Gs.all:∀ {ds:List PyData},(∀ d∈ds,Gd hd hl c e d)→Gs hd hl ((c+1) * ds.length) e ds
  | [],_=>Gs.nil.mono (Nat.zero_le _) (Nat.zero_le _)
  | d :: ds,h=>by
    refine (Gs.cons (h d List.mem_cons_self) (Gs.all (ds:=ds) fun x hx=>h x (List.mem_cons_of_mem _ hx))).mono ?_ (Nat.le_refl _)
    rw [List.length_cons,Nat.mul_succ];omega
theorem Gd.tup (g:Gs hd hl c e ds):Gd hd hl c (e+1) (.tuple ds):=
  ⟨by simp only [PyData.showable];exact g.sh,by simp only [PyData.leavesShort];exact g.lv,by simp only [PyData.weight];exact g.wt,by simp only [PyData.depth];have:=g.dp;omega,fun z=>by simp only [PyData.hasDict];exact g.nd z,fun z=>by simp only [noList];exact g.nl z⟩
theorem Gd.lst (g:Gs hd true c e ds):Gd hd true c (e+1) (.list ds):=
  ⟨by simp only [PyData.showable];exact g.sh,by simp only [PyData.leavesShort];exact g.lv,by simp only [PyData.weight];exact g.wt,by simp only [PyData.depth];have:=g.dp;omega,fun z=>by simp only [PyData.hasDict];exact g.nd z,fun z=>by cases z⟩
theorem Gd.dct0:Gd true hl 0 1 (.dict []):=
  ⟨by simp only [PyData.showable,PyData.showableKv],by simp only [PyData.leavesShort,PyData.leavesShortKv],by simp only [PyData.weight,PyData.weightKv];omega,by simp only [PyData.depth,PyData.depthKv];omega,(fun z=>by cases z),fun z=>by simp only [noList,noListKv]⟩
theorem Gd.non:Gd hd hl 0 0 .none:=⟨by simp only [PyData.showable],by simp only [PyData.leavesShort],by simp only [PyData.weight];omega,by simp only [PyData.depth];omega,fun _=>by simp only [PyData.hasDict],fun _=>by simp only [noList]⟩
theorem Gd.bl (b:Bool):Gd hd hl 0 0 (.bool b):=⟨by simp only [PyData.showable],by simp only [PyData.leavesShort],by simp only [PyData.weight];omega,by simp only [PyData.depth];omega,fun _=>by simp only [PyData.hasDict],fun _=>by simp only [noList]⟩
theorem Gd.str {z:Str} (h:∀ c∈z.cps.toList,c < 1000):Gd hd hl z.cps.size 0 (.str z):=⟨by simp only [PyData.showable],by
    simp only [PyData.leavesShort,List.all_eq_true,decide_eq_true_eq]
    intro c hc
    have:=h c hc
    have e:16 ^ 8=4294967296:=by decide
    omega,by simp only [PyData.weight];omega,by simp only [PyData.depth];omega,fun _=>by simp only [PyData.hasDict],fun _=>by simp only [noList]⟩
end
end L2
namespace L2
open PySem PySem.Spec PyProof.Rows PySem.W
theorem iteB {c:Bool} {A B:Prop} (h:c=false) (q:B):if c=true then A else B:=by rw [h];exact iteF q
theorem iteA {c:Bool} {A B:Prop} (h:c=true) (q:A):if c=true then A else B:=by rw [h];exact iteT q
end L2
namespace L2
open PySem PySem.Spec PyProof.Rows PySem.W
section
variable {X:Cx}
end
theorem Gd.int {hd hl:Bool} {i:Int} (h:i.natAbs < 10 ^ 12):Gd hd hl 41 0 (.int i):=by
  have s1:=ints_showable (ns:=[i]) (fun n hn=>by rw [List.mem_singleton.mp hn];exact h)
  simp only [PyData.showable,List.map_cons,List.map_nil,PyData.showableAll,Bool.and_true] at s1
  refine ⟨by simp only [PyData.showable];exact s1,?_,?_,by simp only [PyData.depth];omega,fun _=>by simp only [PyData.hasDict],fun _=>by simp only [noList]⟩
  · simp only [PyData.leavesShort,decide_eq_true_eq]
    exact Nat.le_trans (PyData.shown_int_le h) (by decide)
  · have:=weight_ints [i] (fun n hn=>by rw [List.mem_singleton.mp hn];exact h)
    simp only [List.map_cons,List.map_nil,PyData.weightAll,List.length_singleton] at this
    omega
end L2
namespace L2
open PySem PySem.Spec PyProof.Rows PySem.W
def isTupD:PyData→Bool | .tuple _=>true | _=>false
def isStrD:PyData→Bool | .str _=>true | _=>false
def isIntD:PyData→Bool | .int _=>true | .bool _=>true | _=>false
def isBlD:PyData→Bool | .bool _=>true | _=>false
section
variable {K:PySem.W.Frag} {H:Hp} {v:V} {d:PyData}
theorem td_tup (h:Td H v d):∃ t,TyOf K H v t∧kitOne K t (.type "tuple")=some (isTupD d):=by
  cases h with
  | non=>exact ⟨_,.non,by rfl⟩
  | bl b=>exact ⟨_,.bl b,by rfl⟩
  | int i=>exact ⟨_,.int i,by rfl⟩
  | str z=>exact ⟨_,.str z,by rfl⟩
  | lst e _=>exact ⟨_,.lst e,by rfl⟩
  | tup e _=>exact ⟨_,.tup e,by rfl⟩
  | dct e _ _=>exact ⟨_,.dK e,by rfl⟩
theorem td_str (h:Td H v d):∃ t,TyOf K H v t∧kitOne K t (.type "str")=some (isStrD d):=by
  cases h with
  | non=>exact ⟨_,.non,by rfl⟩
  | bl b=>exact ⟨_,.bl b,by rfl⟩
  | int i=>exact ⟨_,.int i,by rfl⟩
  | str z=>exact ⟨_,.str z,by rfl⟩
  | lst e _=>exact ⟨_,.lst e,by rfl⟩
  | tup e _=>exact ⟨_,.tup e,by rfl⟩
  | dct e _ _=>exact ⟨_,.dK e,by rfl⟩
theorem td_int (h:Td H v d):∃ t,TyOf K H v t∧kitOne K t (.type "int")=some (isIntD d):=by
  cases h with
  | non=>exact ⟨_,.non,by rfl⟩
  | bl b=>exact ⟨_,.bl b,by rfl⟩
  | int i=>exact ⟨_,.int i,by rfl⟩
  | str z=>exact ⟨_,.str z,by rfl⟩
  | lst e _=>exact ⟨_,.lst e,by rfl⟩
  | tup e _=>exact ⟨_,.tup e,by rfl⟩
  | dct e _ _=>exact ⟨_,.dK e,by rfl⟩
theorem td_bl (h:Td H v d):∃ t,TyOf K H v t∧kitOne K t (.type "bool")=some (isBlD d):=by
  cases h with
  | non=>exact ⟨_,.non,by rfl⟩
  | bl b=>exact ⟨_,.bl b,by rfl⟩
  | int i=>exact ⟨_,.int i,by rfl⟩
  | str z=>exact ⟨_,.str z,by rfl⟩
  | lst e _=>exact ⟨_,.lst e,by rfl⟩
  | tup e _=>exact ⟨_,.tup e,by rfl⟩
  | dct e _ _=>exact ⟨_,.dK e,by rfl⟩
end
theorem isTup_ex {H:Hp} {v:V} {d:PyData} (h:Td H v d) (b:isTupD d=true):∃ a xs ds,v=.ref a∧d=.tuple ds∧H a=some (.tup xs)∧Tds H xs ds:=by
  cases h with
  | tup e t=>exact ⟨_,_,_,rfl,rfl,e,t⟩
  | _=>cases b
theorem isStr_ex {H:Hp} {v:V} {d:PyData} (h:Td H v d) (b:isStrD d=true):∃ z,v=.str z∧d=.str z:=by
  cases h with
  | str z=>exact ⟨_,rfl,rfl⟩
  | _=>cases b
def wholeD:PyData→Bool | .int _=>true | _=>false
def dl (ps:List Addr) (H:Hp):Hp:=fun a=>if a∈ps then none else H a
theorem dl_same (ps:List Addr) (H:Hp):Same (dl ps H) H:=fun b o e=>by
  unfold dl at e
  split at e
  · cases e
  · exact e
theorem dl_at {ps:List Addr} {H:Hp} {a:Addr} {o:HO} (h:H a=some o) (n:a ∉ ps):dl ps H a=some o:=by unfold dl;rw [if_neg n];exact h
theorem dl_keep {ps:List Addr} {H H':Hp} (h:∀ b o,b ∉ ps→H b=some o→H' b=some o):Same (dl ps H) (dl ps H'):=fun b o e=>by
  unfold dl at e ⊢
  split at e
  · cases e
  · rename_i n
    rw [if_neg n];exact h b o n e
end L2
namespace L2
open PySem PySem.Spec PyProof.Rows PySem.W
section
variable {X:Cx}
def rSlU:V→Option Int→Option Int→Hp→VK→Prop:=fun x lo hi H Q=>∃ a xs,x=.ref a∧H a=some (.tup xs)∧∀ r H',Same H H'→H' r=some (.tup (cutV xs lo hi))→Q (.ref r) H'
theorem cut_whole {xs:List V} {lo hi:Option Int} (h:HT.sIx xs.length 0 lo=0∧HT.sIx xs.length xs.length hi=xs.length):cutV xs lo hi=xs:=by
  unfold cutV
  rw [h.1,h.2,List.drop_zero,Nat.sub_zero,List.take_length]
theorem sl_tupU:SlR X rSlU:=by
  intro pins s σ H x v vl vu lo hi sl Q I rx hs pl pu h
  obtain ⟨a,xs,rfl,hx,q⟩:=h
  refine sl_tupA pins s σ H _ v vl vu lo hi sl Q I rx hs pl pu ⟨a,xs,rfl,SqT.of hx,fun w=>?_,fun _ p hp=>?_⟩
  · exact q a H (Same.refl H) (by rw [cut_whole w];exact hx)
  · exact q p _ ((Same.refl H).new hp) upd_same
def rCatU:R2:=fun x y H Q=>∃ a b xs ys,x=.ref a∧y=.ref b∧H a=some (.tup xs)∧H b=some (.tup ys)∧xs.length+ys.length≤sizeLine∧∀ r H',Same H H'→H' r=some (.tup (xs++ys))→Q (.ref r) H'
theorem op_catU:OpR X (binaryOp .Add) rCatU:=by
  intro pins s σ H x y v u Q I rx ry h
  obtain ⟨a,b,xs,ys,rfl,rfl,ha,hb,hz,q⟩:=h
  refine op_catA pins s σ H _ _ v u Q I rx ry ⟨a,b,xs,ys,rfl,rfl,SqT.of ha,SqT.of hb,hz,fun e=>?_,fun _ e=>?_,fun _ _ p hp=>?_⟩
  · exact q b H (Same.refl H) (by rw [e,List.nil_append];exact hb)
  · exact q a H (Same.refl H) (by rw [e,List.append_nil];exact ha)
  · exact q p _ ((Same.refl H).new hp) upd_same
end
theorem Gd.big {hd hl:Bool} {i:Int} (h:i.natAbs < 10 ^ 60):Gd hd hl 201 0 (.int i):=by
  have e:i.natAbs < 2 ^ 200:=Nat.lt_trans h (by decide)
  have lg:i.natAbs≠0→i.natAbs.log2 < 200:=fun n0=>(Nat.log2_lt n0).mpr e
  have l0:i.natAbs.log2 < 200:=by
    by_cases n0:i.natAbs=0
    · rw [n0];decide
    · exact lg n0
  refine ⟨?_,?_,?_,by simp only [PyData.depth];omega,fun _=>by simp only [PyData.hasDict],fun _=>by simp only [noList]⟩
  · simp only [PyData.showable,decide_eq_true_eq];omega
  · simp only [PyData.leavesShort,decide_eq_true_eq]
    have e:=int_text_length_le10 (k:=60) (by decide) h
    show (Str.ofString (toString i)).length≤61
    rw [PySem.ofString_length];exact e
  · simp only [PyData.weight]
    split <;> omega
end L2
namespace L2
open PySem PySem.Spec PyProof.Rows PySem.W
structure PSw (X:Cx) (sts:List Stmt) (t:TS):Prop where
  h:PSs X sts t
structure Pw (X:Cx) (st:Stmt) (t:TS):Prop where
  h:PS X st t
structure PEw (X:Cx) (e:Expr) (t:TE):Prop where
  h:PE X e t
structure PAw (X:Cx) (es:List Expr) (t:TA):Prop where
  h:PA X es t
section
variable {X:Cx}
theorem exw {sts:List Stmt} {R:TS→Prop} (h:∃ t,PSw X sts t∧R t):∃ t,PSs X sts t∧R t:=let ⟨t,a,b⟩:=h;⟨t,a.h,b⟩
theorem w_cons {st:Stmt} {rest:List Stmt} {t u:TS} (h1:Pw X st t) (h2:PSw X rest u):PSw X (st :: rest) (tSeq t u):=⟨pss_cons h1.h h2.h⟩
theorem w_one {st:Stmt} {t:TS} (h:Pw X st t):PSw X [st] t:=⟨pss_one h.h⟩
theorem w_set {i:Nat} {x:Str} {e:Expr} {te:TE} {pos' pos:Pos} (hN:X.N.Nodup) (hi:X.N[i]?=some x) (hx:Loc X.env.scope x) (he:PEw X e te) (hs:swapsWith e (some (.Name x pos')) pos.line X.env=pure false:=by rfl) (hf:X.fn x=true∨X.env.scope.names.lookup x=some .local:=by first | exact .inl rfl | exact .inr rfl | assumption) :
    Pw X (.Assign [.Name x pos'] e pos) (tAsg te (gName i)):=⟨ps_set hN hi hx he.h hs hf⟩
theorem w_ret {e:Expr} {te:TE} {pos:Pos} (he:PEw X e te):Pw X (.Return (some e) pos) (tRet te):=⟨ps_ret he.h⟩
theorem w_ix {a b:Expr} {ta tb:TE} {pos:Pos} {r:R2} (hr:IxR X r) (ha:PEw X a ta) (hb:PEw X b tb) (hs:PlainIx b):PEw X (.Subscript a b pos) (tOp r ta tb):=⟨pe_ix hr ha.h hb.h hs⟩
theorem w_op {a b:Expr} {ta tb:TE} {pos:Pos} {op:Operator} {r:R2} (ho:OpR X (binaryOp op) r) (ha:PEw X a ta) (hb:PEw X b tb):PEw X (.BinOp a op b pos) (tOp r ta tb):=⟨pe_op ho ha.h hb.h⟩
theorem w_lst {es:List Expr} {t:TA} {pos:Pos} (h:PAw X es t):PEw X (.List es pos) (tLst t):=⟨pe_lst h.h⟩
theorem w_tup {es:List Expr} {t:TA} {pos:Pos} {x1} (h:PAw X es t):PEw X (.Tuple es x1 pos) (tTup t):=⟨pe_tup h.h⟩
theorem w_acons {e:Expr} {es:List Expr} {te:TE} {t:TA} (ha:PEw X e te) (hr:PAw X es t) (hs:starEach (e :: es) X.env=(false,eval e X.env) :: starEach es X.env:=by rfl):PAw X (e :: es) (tCons te t):=⟨pa_cons ha.h hr.h hs⟩
theorem w_anil:PAw X [] tNil:=⟨pa_nil⟩
theorem w_str {x:Str} {j} {pos:Pos}:PEw X (.Constant (.str x) j pos) (tC (.str x)):=⟨pe_str⟩
end
end L2
namespace L2
open PySem PySem.Spec PyProof.Rows PySem.W
section
variable {X:Cx}
theorem passes_no {P:Program} {w:World} {X:Cx}:Passes (CXE P w) X (fun _ _ _=>False):=fun _ _ _ _ _ _ _ h=>by
  obtain ⟨_,_,_,_,_,_,_,_,_,_,z⟩:=h
  exact z.elim
end
end L2
namespace L2
open PySem PySem.Spec PyProof.Rows PySem.W
section
variable {X:Cx} {k:Nat}
end
def LowC (z:Str):Prop:=∀ c∈z.cps.toList,c < 16 ^ 8
theorem low_of (s:String):LowC (Str.ofString s):=fun c hc=>by
  rw [Str.ofString_eq_toList] at hc
  have hc:c∈(s.toList.map Char.toNat):=by simpa using hc
  obtain ⟨x,_,rfl⟩:=List.mem_map.mp hc
  have h:=x.valid
  have e:(16:Nat) ^ 8=4294967296:=by decide
  have:x.toNat < 4294967296:=x.val.toNat_lt
  omega
theorem Gd.low {hd hl:Bool} {z:Str} (h:LowC z):Gd hd hl z.cps.size 0 (.str z):=⟨by simp only [PyData.showable],by
    simp only [PyData.leavesShort,List.all_eq_true,decide_eq_true_eq]
    exact h,by simp only [PyData.weight];omega,by simp only [PyData.depth];omega,fun _=>by simp only [PyData.hasDict],fun _=>by simp only [noList]⟩
end L2
namespace L2
open PySem PySem.Spec PyProof.Rows PySem.W
theorem for_str {z:Str} {g:TG} {tb:TS} {D:Ends} {σ:St} {H:Hp} (Pv:Nat→St→Hp→Prop) (h0:Pv 0 σ H)
    (hs:∀ i c σ H,z.cps.toList[i]?=some c→Pv i σ H→g (.str ⟨#[c]⟩) σ H fun σ2 H2=>tb { D with nx:=Pv (i+1),ct:=Pv (i+1),bk:=D.nx } σ2 H2) (hd:∀ σ H,Pv z.cps.toList.length σ H→D.nx σ H) :
    ∃ W:Nat→Nat→St→Hp→Prop,(∃ m,W 0 m σ H)∧∀ i m σ H,W i m σ H →
      ((Itx z).stop i H∧D.nx σ H)∨((Itx z).go i H∧∃ N:St→Hp→Prop,(∀ σ' H',N σ' H'→∃ m',m' < m∧W (i+1) m' σ' H')∧∀ x H',(Itx z).yld i H x H'→g x σ H' fun σ2 H2=>tb { D with nx:=N,ct:=N,bk:=D.nx } σ2 H2):=by
  refine ⟨fun i m σ H=>m=z.cps.size - i∧i≤z.cps.size∧Pv i σ H,⟨z.cps.size,by simp,Nat.zero_le _,h0⟩,?_⟩
  rintro i m σ H ⟨rfl,hi,p⟩
  by_cases hlt:i < z.cps.size
  · refine .inr ⟨hlt,Pv (i+1),fun σ' H' p'=>⟨z.cps.size - (i+1),by omega,rfl,hlt,p'⟩,fun x H' y=>?_⟩
    obtain ⟨e,c,hc,rfl⟩:=y
    subst e
    exact hs i c σ _ (by rw [Array.getElem?_toList];exact hc) p
  · have e:i=z.cps.size:=by omega
    subst e
    exact .inl ⟨Nat.le_refl _,hd σ H (by rw [Array.length_toList];exact p)⟩
section
variable {X:Cx}
theorem mt_upper:MtR X "str.upper" (fun x vs H Q=>∃ c,x=.str ⟨#[c]⟩∧vs=[]∧97≤c∧c < 123∧Q (.str ⟨#[c - 32]⟩) H):=by
  intro pins s σ H x xs v us Q I rx rv h
  obtain ⟨c,rfl,rfl,c1,c2,q⟩:=h
  obtain ⟨t,rfl⟩:=rx
  cases rv
  have e:Txt.upper ⟨#[c]⟩=⟨#[c - 32]⟩:=by rw [KOpn.upper_one (by omega),if_pos (by omega)]
  exact SC.upper (by rw [e];rfl) (by rw [e];exact ⟨.str ⟨#[c - 32]⟩,H,I.tok _,⟨_,rfl⟩,q⟩)
theorem pe_upper {o:Expr} {to:TE} {apos cpos:Pos} (ho:PE X o to) (hbase:attributeBase o "upper" X.env (eval o X.env)=eval o X.env:=by rfl) (hline:(apos.endLine == cpos.line)=true:=by rfl) :
    PE X (.Call (.Attribute o "upper" apos) [] [] cpos) (tBM0 X.K "str" (fun x vs H Q=>∃ c,x=.str ⟨#[c]⟩∧vs=[]∧97≤c∧c < 123∧Q (.str ⟨#[c - 32]⟩) H) to):=
  pe_bm0 PySem.F.plainAttrs_str PySem.F.slot_str_upper PySem.F.type_str_upper mt_upper ho hbase hline
end
end L2
namespace W39
open PySem
abbrev Rn:=Str × Int
def tot (rs:List Rn):Int:=(rs.map (·.2)).sum
def Pos (rs:List Rn):Prop:=∀ r∈rs,1≤r.2
theorem tot_cons (r:Rn) (rs:List Rn):tot (r :: rs)=r.2+tot rs:=by simp [tot]
theorem take_succ {rs:List Rn} {i:Nat} {r:Rn} (h:rs[i]?=some r):rs.take (i+1)=rs.take i++[r]:=by
  rw [List.take_succ,h];rfl
end W39
namespace W39
end W39
namespace W38
open PySem
abbrev Rc:=Nat × Nat
def step (rs:List Rc) (c:Nat):List Rc:=match rs.getLast? with
  | some r=>if r.1=c then rs.dropLast++[(c,r.2+1)] else rs++[(c,1)]
  | none=>[(c,1)]
def enc (l:List Nat):List Rc:=l.foldl step []
def dec (rs:List Rc):List Nat:=rs.flatMap fun r=>List.replicate r.2 r.1
def len (rs:List Rc):Nat:=(rs.map (·.2)).sum
theorem step_nil (c:Nat):step [] c=[(c,1)]:=rfl
theorem step_snoc (xs:List Rc) (r:Rc) (c:Nat):step (xs++[r]) c=if r.1=c then xs++[(c,r.2+1)] else xs++[r]++[(c,1)]:=by
  unfold step
  have e:(xs++[r]).getLast?=some r:=by simp
  rw [e]
  simp
theorem enc_snoc (l:List Nat) (c:Nat):enc (l++[c])=step (enc l) c:=by
  unfold enc;rw [List.foldl_append];rfl
theorem snoc_or (rs:List Rc):rs=[]∨∃ xs r,rs=xs++[r]:=by
  rcases List.eq_nil_or_concat rs with h | ⟨xs,r,h⟩
  · exact .inl h
  · exact .inr ⟨xs,r,by rw [h];simp⟩
theorem dec_app (a b:List Rc):dec (a++b)=dec a++dec b:=by unfold dec;rw [List.flatMap_append]
theorem dec_one (r:Rc):dec [r]=List.replicate r.2 r.1:=by simp [dec]
theorem len_app (a b:List Rc):len (a++b)=len a+len b:=by unfold len;rw [List.map_append,List.sum_append]
theorem len_one (r:Rc):len [r]=r.2:=by simp [len]
theorem dec_step (rs:List Rc) (c:Nat):dec (step rs c)=dec rs++[c]:=by
  rcases snoc_or rs with rfl | ⟨xs,r,rfl⟩
  · rfl
  · rw [step_snoc]
    by_cases h:r.1=c
    · rw [if_pos h,dec_app,dec_app,dec_one,dec_one,List.append_assoc,h]
      congr 1
      show List.replicate (r.2+1) c=_
      rw [List.replicate_succ']
    · rw [if_neg h,dec_app _ [(c,1)],dec_one];rfl
theorem len_step (rs:List Rc) (c:Nat):len (step rs c)=len rs+1:=by
  rcases snoc_or rs with rfl | ⟨xs,r,rfl⟩
  · rfl
  · rw [step_snoc]
    by_cases h:r.1=c
    · rw [if_pos h,len_app,len_app,len_one,len_one];show len xs+(r.2+1)=_;omega
    · rw [if_neg h,len_app _ [(c,1)],len_one]
theorem ind {Pp:List Nat→Prop} (h0:Pp []) (h1:∀ l c,Pp l→Pp (l++[c])) (l:List Nat):Pp l:=by
  have h:∀ n,∀ l:List Nat,l.length=n→Pp l:=by
    intro n
    induction n with
    | zero=>intro l e;rw [List.length_eq_zero_iff.mp e];exact h0
    | succ n ih=>
      intro l e
      rcases List.eq_nil_or_concat l with z | ⟨xs,c,z⟩
      · rw [z] at e;cases e
      · have z':l=xs++[c]:=by rw [z];simp
        rw [z'] at e ⊢
        exact h1 xs c (ih xs (by simpa using e))
  exact h _ l rfl
theorem dec_enc (l:List Nat):dec (enc l)=l:=ind (Pp:=fun l=>dec (enc l)=l) rfl (fun l c h=>by rw [enc_snoc,dec_step,h]) l
theorem len_enc (l:List Nat):len (enc l)=l.length:=ind (Pp:=fun l=>len (enc l)=l.length) rfl (fun l c h=>by rw [enc_snoc,len_step,h];simp) l
def Nb (rs:List Rc):Prop:=∀ i a b,rs[i]?=some a→rs[i+1]?=some b→a.1≠b.1
structure Good (L:Nat→Prop) (rs:List Rc):Prop where
  lt:∀ r∈rs,L r.1
  pos:∀ r∈rs,1≤r.2
  nb:Nb rs
theorem nb_snoc {xs:List Rc} {r:Rc}:Nb (xs++[r]) ↔ Nb xs∧∀ a,xs.getLast?=some a→a.1≠r.1:=by
  constructor
  · intro h
    refine ⟨fun i a b x y=>h i a b ?_ ?_,fun a e=>?_⟩
    · rw [List.getElem?_append_left (List.getElem?_eq_some_iff.mp x).1];exact x
    · rw [List.getElem?_append_left (List.getElem?_eq_some_iff.mp y).1];exact y
    · rw [List.getLast?_eq_getElem?] at e
      have l0:=(List.getElem?_eq_some_iff.mp e).1
      exact h (xs.length - 1) a r (by rw [List.getElem?_append_left (by omega)];exact e) (by rw [List.getElem?_append_right (by omega),show xs.length - 1+1 - xs.length=0 by omega];rfl)
  · rintro ⟨h,g⟩ i a b x y
    rcases Nat.lt_or_ge (i+1) xs.length with lt | ge
    · rw [List.getElem?_append_left (by omega)] at x
      rw [List.getElem?_append_left lt] at y
      exact h i a b x y
    · rw [List.getElem?_append_right ge] at y
      cases e:i+1 - xs.length with
      | zero=>
        rw [e] at y
        cases y
        rw [List.getElem?_append_left (by omega)] at x
        refine g a ?_
        rw [List.getLast?_eq_getElem?,show xs.length - 1=i by omega]
        exact x
      | succ n=>rw [e] at y;cases y
theorem good_step {L:Nat→Prop} {rs:List Rc} {c:Nat} (g:Good L rs) (h:L c):Good L (step rs c):=by
  rcases snoc_or rs with rfl | ⟨xs,r,rfl⟩
  · refine ⟨fun r hr=>?_,fun r hr=>?_,fun i a b x y=>?_⟩
    · rw [List.mem_singleton.mp hr];exact h
    · rw [List.mem_singleton.mp hr];exact Nat.le_refl 1
    · simp [step_nil] at y
  · rw [step_snoc]
    by_cases e:r.1=c
    · rw [if_pos e]
      refine ⟨fun q hq=>?_,fun q hq=>?_,?_⟩
      · rcases List.mem_append.mp hq with hq | hq
        · exact g.lt q (List.mem_append_left _ hq)
        · rw [List.mem_singleton.mp hq];exact h
      · rcases List.mem_append.mp hq with hq | hq
        · exact g.pos q (List.mem_append_left _ hq)
        · rw [List.mem_singleton.mp hq];show 1≤r.2+1;omega
      · have:=nb_snoc.mp g.nb
        exact nb_snoc.mpr ⟨this.1,fun a ea=>by have:=this.2 a ea;rw [e] at this;exact this⟩
    · rw [if_neg e]
      refine ⟨fun q hq=>?_,fun q hq=>?_,nb_snoc.mpr ⟨g.nb,fun a ea=>?_⟩⟩
      · rcases List.mem_append.mp hq with hq | hq
        · exact g.lt q hq
        · rw [List.mem_singleton.mp hq];exact h
      · rcases List.mem_append.mp hq with hq | hq
        · exact g.pos q hq
        · rw [List.mem_singleton.mp hq];exact Nat.le_refl 1
      · have e2:(xs++[r]).getLast?=some r:=by simp
        rw [e2] at ea
        cases ea;exact e
theorem good_enc {L:Nat→Prop} (l:List Nat):(∀ c∈l,L c)→Good L (enc l):=ind (Pp:=fun l=>(∀ c∈l,L c)→Good L (enc l)) (fun _=>⟨(fun _ h=>nomatch h),(fun _ h=>nomatch h),fun i a b x=>by simp [enc] at x⟩) (fun l c h hl=>by
  rw [enc_snoc];exact good_step (h fun x hx=>hl x (List.mem_append_left _ hx)) (hl c (by simp))) l
theorem step_len (rs:List Rc) (c:Nat):rs.length≤(step rs c).length∧(step rs c).length≤rs.length+1∧∃ xs n,step rs c=xs++[(c,n)]:=by
  rcases snoc_or rs with rfl | ⟨xs,r,rfl⟩
  · exact ⟨Nat.zero_le _,Nat.le_refl _,[],1,rfl⟩
  · rw [step_snoc]
    by_cases e:r.1=c
    · rw [if_pos e];exact ⟨by simp,by simp,xs,r.2+1,rfl⟩
    · rw [if_neg e];exact ⟨by simp,by simp,xs++[r],1,rfl⟩
theorem enc_take (l:List Nat) (n:Nat):(enc (l.take n)).length≤(enc l).length:=by
  have h:∀ (b a:List Nat),(enc a).length≤(enc (a++b)).length:=by
    intro b
    induction b with
    | nil=>intro a;simp
    | cons c b ih=>
      intro a
      have:=ih (a++[c])
      rw [List.append_assoc] at this
      have s:=(step_len (enc a) c).1
      rw [← enc_snoc] at s
      exact Nat.le_trans s this
  have:=h (l.drop n) (l.take n)
  rwa [List.take_append_drop] at this
theorem enc_rep (l:List Nat) (c n:Nat):(enc (l++List.replicate n c)).length≤(enc l).length+1:=by
  have h:∀ m,∃ xs k,enc (l++List.replicate (m+1) c)=xs++[(c,k)]∧(xs++[(c,k)]).length≤(enc l).length+1:=by
    intro m
    induction m with
    | zero=>
      obtain ⟨_,b,xs,n,e⟩:=step_len (enc l) c
      have:enc (l++List.replicate 1 c)=step (enc l) c:=enc_snoc l c
      rw [this]
      exact ⟨xs,n,e,by rw [← e];exact b⟩
    | succ m ih=>
      obtain ⟨xs,k,e,le⟩:=ih
      have:l++List.replicate (m+1+1) c=(l++List.replicate (m+1) c)++[c]:=by rw [List.replicate_succ' (n:=m+1),List.append_assoc]
      rw [this,enc_snoc,e,step_snoc,if_pos rfl]
      exact ⟨xs,k+1,rfl,by simpa using le⟩
  cases n with
  | zero=>simp
  | succ m=>
    obtain ⟨xs,k,e,le⟩:=h m
    rw [e];exact le
end W38
namespace S38
open PySem L2
def top (i:Nat):Stmt:=PySem.Challenge.pw_upwords_k38_runs_told_and_back.main.body.getD i (.Pass ⟨0,0,0,0⟩)
abbrev s_is_whole:Stmt:=top 13
abbrev N_is_whole:List Str:=["thing"]
theorem sc_is_whole:FnScope N_is_whole ["thing"] (defScope s_is_whole):=⟨rfl,rfl,rfl,by decide +kernel,rfl,by decide +kernel,by decide +kernel⟩
abbrev s_is_letters:Stmt:=top 14
abbrev N_is_letters:List Str:=["thing"]
theorem sc_is_letters:FnScope N_is_letters ["thing"] (defScope s_is_letters):=⟨rfl,rfl,rfl,by decide +kernel,rfl,by decide +kernel,by decide +kernel⟩
abbrev s_is_letter:Stmt:=top 15
abbrev N_is_letter:List Str:=["thing"]
theorem sc_is_letter:FnScope N_is_letter ["thing"] (defScope s_is_letter):=⟨rfl,rfl,rfl,by decide +kernel,rfl,by decide +kernel,by decide +kernel⟩
abbrev s_runs_of:Stmt:=top 18
abbrev N_runs_of:List Str:=["text", "runs", "letter"]
theorem sc_runs_of:FnScope N_runs_of ["text"] (defScope s_runs_of):=⟨rfl,rfl,rfl,by decide +kernel,rfl,by decide +kernel,by decide +kernel⟩
abbrev s_text_by:Stmt:=top 19
abbrev N_text_by:List Str:=["runs"]
theorem sc_text_by:FnScope N_text_by ["runs"] (defScope s_text_by):=⟨rfl,rfl,rfl,by decide +kernel,rfl,by decide +kernel,by decide +kernel⟩
abbrev s_is_runs:Stmt:=top 20
abbrev N_is_runs:List Str:=["thing"]
theorem sc_is_runs:FnScope N_is_runs ["thing"] (defScope s_is_runs):=⟨rfl,rfl,rfl,by decide +kernel,rfl,by decide +kernel,by decide +kernel⟩
abbrev s_is_run:Stmt:=top 21
abbrev N_is_run:List Str:=["thing"]
theorem sc_is_run:FnScope N_is_run ["thing"] (defScope s_is_run):=⟨rfl,rfl,rfl,by decide +kernel,rfl,by decide +kernel,by decide +kernel⟩
abbrev s_length_of:Stmt:=top 22
abbrev N_length_of:List Str:=["runs"]
theorem sc_length_of:FnScope N_length_of ["runs"] (defScope s_length_of):=⟨rfl,rfl,rfl,by decide +kernel,rfl,by decide +kernel,by decide +kernel⟩
abbrev s_law_pot:Stmt:=top 24
abbrev N_law_pot:List Str:=["script", "k", "cell", "prime"]
theorem sc_law_pot:FnScope N_law_pot ["script", "k"] (defScope s_law_pot):=⟨rfl,rfl,rfl,by decide +kernel,rfl,by decide +kernel,by decide +kernel⟩
abbrev s_law_take:Stmt:=top 25
abbrev N_law_take:List Str:=["pot", "many", "found", "at", "one", "two"]
theorem sc_law_take:FnScope N_law_take ["pot", "many"] (defScope s_law_take):=⟨rfl,rfl,rfl,by decide +kernel,rfl,by decide +kernel,by decide +kernel⟩
abbrev s_law_text:Stmt:=top 26
abbrev N_law_text:List Str:=["pot", "letters", "wide", "base", "found", "turn", "size"]
theorem sc_law_text:FnScope N_law_text ["pot"] (defScope s_law_text):=⟨rfl,rfl,rfl,by decide +kernel,rfl,by decide +kernel,by decide +kernel⟩
abbrev s_law_walked:Stmt:=top 27
abbrev N_law_walked:List Str:=["text", "found", "first", "at"]
theorem sc_law_walked:FnScope N_law_walked ["text"] (defScope s_law_walked):=⟨rfl,rfl,rfl,by decide +kernel,rfl,by decide +kernel,by decide +kernel⟩
abbrev s_law_odd:Stmt:=top 28
abbrev N_law_odd:List Str:=["pot", "run", "letter", "many", "other", "some"]
theorem sc_law_odd:FnScope N_law_odd ["pot", "run"] (defScope s_law_odd):=⟨rfl,rfl,rfl,by decide +kernel,rfl,by decide +kernel,by decide +kernel⟩
abbrev s_law_spoilt:Stmt:=top 29
abbrev N_law_spoilt:List Str:=["pot", "runs", "way", "at", "run", "left"]
theorem sc_law_spoilt:FnScope N_law_spoilt ["pot", "runs"] (defScope s_law_spoilt):=⟨rfl,rfl,rfl,by decide +kernel,rfl,by decide +kernel,by decide +kernel⟩
abbrev s_law_is_run:Stmt:=top 30
abbrev N_law_is_run:List Str:=["thing"]
theorem sc_law_is_run:FnScope N_law_is_run ["thing"] (defScope s_law_is_run):=⟨rfl,rfl,rfl,by decide +kernel,rfl,by decide +kernel,by decide +kernel⟩
abbrev s_law_due:Stmt:=top 31
abbrev N_law_due:List Str:=["thing"]
theorem sc_law_due:FnScope N_law_due ["thing"] (defScope s_law_due):=⟨rfl,rfl,rfl,by decide +kernel,rfl,by decide +kernel,by decide +kernel⟩
abbrev s_law_told:Stmt:=top 32
abbrev N_law_told:List Str:=["thing", "found", "e", "others"]
theorem sc_law_told:FnScope N_law_told ["thing"] (defScope s_law_told):=⟨rfl,rfl,rfl,by decide +kernel,rfl,by decide +kernel,by decide +kernel⟩
abbrev s_law:Stmt:=top 33
abbrev N_law:List Str:=["script", "k", "pot", "text", "runs", "told", "turn", "thing", "handed"]
theorem sc_law:FnScope N_law ["script"] (defScope s_law):=⟨rfl,rfl,rfl,by decide +kernel,rfl,by decide +kernel,by decide +kernel⟩
structure Blt7 (mg:Str→Option Value):Prop extends Blt mg where
  sum:mg "sum" = none
  ValueError_:mg "ValueError" = none
  all:mg "all" = none
  repr:mg "repr" = none
  letters:∃ u,mg "LETTERS" = some u∧RelV (.str "abcdefghijklmnopqrstuvwxyz") u
  most:∃ u,mg "MOST_LETTERS" = some u∧RelV (.int 4000) u
theorem bt_sum:bootBuiltins "sum" = some (.builtin "sum"):=by decide +kernel
theorem bt_ValueError:bootBuiltins "ValueError" = some (.type "ValueError"):=by decide +kernel
theorem line_le {n:Nat} (h:n≤1000):n≤sizeLine:=Nat.le_of_lt (small1000 h)
abbrev Rn:=W39.Rn
abbrev Rc:=W38.Rc
abbrev Lw (c:Nat):Prop:=97≤c∧c < 123
def Pt (H:Hp) (p:Addr) (c:Int):Prop:=∃ x y z:Int,H p=some (.lst [.int x,.int y,.int z])∧0≤y∧y < 2147483648∧0≤z∧z≤c
structure Kt (p:Addr) (c:Int) (H H':Hp):Prop where
  pt:Pt H' p c
  keep:∀ b o,b≠p→H b=some o→H' b=some o
section
variable {p q:Addr} {c d:Int} {H H1 H2:Hp} {o:HO}
theorem Pt.mono (h:Pt H p c) (e:c≤d):Pt H p d:=let ⟨x,y,z,a,b,f,g,i⟩:=h;⟨x,y,z,a,b,f,g,Int.le_trans i e⟩
theorem Kt.mono (h:Kt p c H H1) (e:c≤d):Kt p d H H1:=⟨h.pt.mono e,h.keep⟩
theorem Kt.refl (h:Pt H p c):Kt p c H H:=⟨h,fun _ _ _ e=>e⟩
theorem Kt.trans (a:Kt p c H H1) (b:Kt p d H1 H2):Kt p d H H2:=⟨b.pt,fun k u hc e=>b.keep k u hc (a.keep k u hc e)⟩
theorem Pt.ne (h:Pt H p c) (hq:H q=none):q≠p:=fun e=>by
  obtain ⟨x,y,z,a,_⟩:=h
  rw [e,a] at hq;cases hq
theorem Pt.neT {xs:List V} (h:Pt H p c) (hq:H q=some (.tup xs)):q≠p:=fun e=>by
  obtain ⟨x,y,z,a,_⟩:=h
  rw [e,a] at hq;cases hq
theorem Kt.same (a:Kt p c H H1) (s:Same H1 H2):Kt p c H H2:=by
  obtain ⟨⟨x,y,z,e,r⟩,k⟩:=a
  exact ⟨⟨x,y,z,s _ _ e,r⟩,fun b u hb h=>s _ _ (k b u hb h)⟩
end
section
variable {P:Program} {w:World} {K:PySem.W.Frag} {mg:Str→Option Value} {base:Heap} {k:Nat}
theorem ints_at {us:List Int} {i:Int} (h0:0≤i) (h1:i < (us.length:Int)):atI (us.map V.int) i=some (.int (us.getD i.toNat 0)):=by
  have hk:i.toNat < us.length:=by omega
  have e:=atI_nat (xs:=us.map V.int) (j:=i.toNat) (v:=.int (us.getD i.toNat 0)) (by rw [List.getElem?_map,List.getElem?_eq_getElem hk,List.getD_eq_getElem?_getD,List.getElem?_eq_getElem hk];rfl)
  rw [show ((i.toNat:Nat):Int)=i by omega] at e
  exact e
theorem alph_at {i:Int} (h0:0≤i) (h1:i < 26):∃ c,atI (Str.ofString "abcdefghijklmnopqrstuvwxyz").cps.toList i=some c∧Lw c:=by
  have hl:(Str.ofString "abcdefghijklmnopqrstuvwxyz").cps.toList.length=26:=by decide +kernel
  have hk:i.toNat < (Str.ofString "abcdefghijklmnopqrstuvwxyz").cps.toList.length:=by omega
  have e:=atI_nat (xs:=(Str.ofString "abcdefghijklmnopqrstuvwxyz").cps.toList) (j:=i.toNat) (List.getElem?_eq_getElem hk)
  rw [show ((i.toNat:Nat):Int)=i by omega] at e
  have all:∀ c∈(Str.ofString "abcdefghijklmnopqrstuvwxyz").cps.toList,Lw c:=by decide +kernel
  exact ⟨_,e,all _ (List.getElem_mem hk)⟩
theorem menu {us:List Int} {n lo hi:Int} (h0:0≤n) (h1:n < (us.length:Int)) (hb:∀ v∈us,lo≤v∧v≤hi):∃ v:Int,atI (us.map V.int) n=some (.int v)∧lo≤v∧v≤hi:=by
  refine ⟨_,ints_at h0 h1,?_⟩
  have hk:n.toNat < us.length:=by omega
  rw [List.getD_eq_getElem?_getD,List.getElem?_eq_getElem hk]
  exact hb _ (List.getElem_mem hk)
theorem big18 {m:Int} (h:m < 1000000000000000000):m < bigL:=by
  have e:(1000000000000000000:Int) < bigL:=by unfold bigL;decide +kernel
  exact Int.lt_trans h e
theorem big60:IntMulOk ((10:Int) ^ (60:Int).toNat) ((10:Int) ^ (60:Int).toNat):=.of_bits (by decide +kernel) (by decide +kernel)
theorem big120:IntMulOk ((10:Int) ^ (60:Int).toNat * (10:Int) ^ (60:Int).toNat) ((10:Int) ^ (60:Int).toNat):=.of_bits (by decide +kernel) (by decide +kernel)
def sp_pot:PySem.W.Frag→Sp:=fun K vs H Q _=>∃ (a:Addr) (ns:List Int) (i:Int),vs=[.ref a,.int i]∧SqL K H a (ns.map V.int)∧ns.length≤63∧0≤i∧i≤63∧∀ (p:Addr) (H':Hp),H p=none→Same H H'→Pt H' p 0→Q (.ref p) H'
theorem has_pot (D:Df K mg "_law_pot" s_law_pot) (B:Blt7 mg):Has P w K mg base "_law_pot" (k+1) ["script", "k"] (sp_pot K):=by
  refine D.has sc_law_pot (fun _ _ _ _ _ _ us hl=>match us,hl with | [_,_],_=>rfl) (fun vs H Q E h=>by obtain ⟨a,ns,i,rfl,_⟩:=h;rfl) (fun f cdv A outer s H vs Q E hr h=>?_)
  obtain ⟨a,ns,i,rfl,hS,n63,i0,i63,q⟩:=h
  refine ⟨_,(pss_cons (ps_set (i:=2) sc_law_pot.nd rfl (by first | exact Or.inl rfl | exact Or.inr rfl) pe_int)
  (pss_cons (ps_if (pt_cmpR op_lt (pv 1) (pe_callB call_len_seq rfl B.len bt_len (pa_cons (pv 0) pa_nil)) (nomark _))
  (pss_one (ps_set (i:=2) sc_law_pot.nd rfl (by first | exact Or.inl rfl | exact Or.inr rfl) (pe_op op_mod (pe_ix ix_list (pv 0) (pv 1) (fun _ _=>rfl)) (pe_op op_mulB (pe_op op_mulB (pe_op op_pow pe_int pe_int) (pe_op op_pow pe_int pe_int)) (pe_op op_pow pe_int pe_int)))))
  pss_nil)
  (pss_cons (ps_set (i:=3) sc_law_pot.nd rfl (by first | exact Or.inl rfl | exact Or.inr rfl) (pe_ix ix_list (pe_lst (pa_cons pe_int (pa_cons pe_int (pa_cons pe_int (pa_cons pe_int (pa_cons pe_int pa_nil)))))) (pe_op op_mod (pv 1) pe_int) (fun _ _=>rfl)))
  (pss_one (ps_ret (pe_lst (pa_cons (pe_callB (call_max2 rfl) rfl B.max bt_max (pa_cons pe_int (pa_cons (pe_op op_sub (pv 2) (pe_op op_pow pe_int pe_int)) pa_nil))) (pa_cons (pe_op op_mod (pe_op op_pow (pe_op op_add (pe_op op_add (pe_op op_mod (pv 2) (pv 3)) (pe_op op_mul pe_int (pv 1))) pe_int) pe_int) pe_int) (pa_cons pe_int pa_nil))))))))),?_⟩
  have nl:(ns.map V.int).length=ns.length:=List.length_map _
  refine mid (fun σ' H'=>σ'=[some (.ref a),some (.int i),some (.int 5),none]∧H'=H) ?_ fun E nx=>nx _ _ ⟨rfl,rfl⟩
  rintro σ1 H1 ⟨rfl,rfl⟩
  refine mid (fun σ' H'=>∃ cell:Int,σ'=[some (.ref a),some (.int i),some (.int cell),none]∧H'=H1) ?_ fun E nx=>?_
  rotate_left
  · refine ⟨_,rfl,_,rfl,a,_,rfl,.inl hS,_,_,rfl,rfl,_,rfl,ite2 (fun c=>?_) (fun c=>?_)⟩
    · have c':=of_decide_eq_true c
      refine ⟨_,rfl,_,rfl,a,_,_,_,rfl,rfl,hS,ints_at i0 (by omega),_,_,rfl,rfl,⟨by decide,by decide,by decide⟩,_,_,rfl,rfl,⟨by decide,by decide,by decide⟩,_,_,rfl,rfl,big60,_,_,rfl,rfl,⟨by decide,by decide,by decide⟩,_,_,rfl,rfl,big120,_,_,rfl,rfl,(by show (0:Int) < 10 ^ (60:Int).toNat * 10 ^ (60:Int).toNat * 10 ^ (60:Int).toNat;decide +kernel),?_⟩
      exact nx _ _ ⟨_,rfl,rfl⟩
    · exact nx _ _ ⟨_,rfl,rfl⟩
  rintro σ1 H1' ⟨cell,rfl,rfl⟩
  refine ⟨line_le (show 5≤1000 by omega),fun l hl=>?_⟩
  generalize hJ:upd H1' l _=H2
  have s2:Same H1' H2:=by rw [← hJ];exact (Same.refl H1').new hl
  have g2:H2 l=some (.lst ([2147483629,2147483587,2147483579,2147483563,2147483549].map V.int)):=by rw [← hJ];exact upd_same
  clear hJ
  obtain ⟨v,hv,v0,v1⟩:=menu (us:=[2147483629,2147483587,2147483579,2147483563,2147483549]) (n:=i % 5) (lo:=1) (hi:=2147483647) (Int.emod_nonneg _ (by decide)) (Int.emod_lt_of_pos _ (by decide)) (by decide)
  refine ⟨_,rfl,_,_,rfl,rfl,(by decide:(0:Int) < 5),l,_,_,_,rfl,rfl,SqL.of g2,hv,?_⟩
  refine ⟨_,rfl,_,_,rfl,rfl,⟨by decide,by decide,by decide⟩,_,_,rfl,rfl,_,_,rfl,?_⟩
  have y1:=Int.emod_nonneg cell (show v≠0 by omega)
  have y2:=Int.emod_lt_of_pos cell (show 0 < v by omega)
  refine ⟨_,rfl,_,rfl,_,_,rfl,rfl,(show 0 < v by omega),_,rfl,_,_,rfl,rfl,.inl ⟨by decide,by decide⟩,_,_,rfl,rfl,_,_,rfl,rfl,_,_,rfl,rfl,⟨by decide,by decide,by omega⟩,_,_,rfl,rfl,(by decide:(0:Int) < 2147483647),line_le (show 3≤1000 by omega),fun p hp=>?_⟩
  exact q p _ (s2.free hp) (s2.new hp) ⟨_,_,0,upd_same,Int.emod_nonneg _ (by decide),Int.lt_trans (Int.emod_lt_of_pos _ (by decide)) (by decide),Int.le_refl _,Int.le_refl _⟩
def sp_take:Sp:=fun vs H Q _=>∃ (p:Addr) (m c:Int),vs=[.ref p,.int m]∧Pt H p c∧c < 1000000∧0 < m∧m < 1000000000000000000∧∀ (n:Int) (H':Hp),0≤n→n < m→Kt p (c+1) H H'→Q (.int n) H'
theorem has_take (D:Df K mg "_law_take" s_law_take) (B:Blt7 mg):Has P w K mg base "_law_take" (k+1) ["pot", "many"] sp_take:=by
  refine D.has sc_law_take (fun _ _ _ _ _ _ us hl=>match us,hl with | [_,_],_=>rfl) (fun vs H Q E h=>by obtain ⟨p,m,c,rfl,_⟩:=h;rfl) (fun f cdv A outer s H vs Q E hr h=>?_)
  obtain ⟨p,m,c,rfl,⟨x,y,z,hp,y0,y1,z0,z1⟩,c6,m0,m1,q⟩:=h
  refine ⟨_,(pss_cons (ps_if (pt_cmpR op_gt (pe_ix ix_list (pv 0) pe_int (fun _ _=>rfl)) pe_int (nomark _))
  (pss_cons (ps_set (i:=2) sc_law_take.nd rfl (by first | exact Or.inl rfl | exact Or.inr rfl) (pe_op op_mod (pe_ix ix_list (pv 0) pe_int (fun _ _=>rfl)) (pv 1)))
  (pss_cons (ps_asg (pe_op op_fdivL (pe_ix ix_list (pv 0) pe_int (fun _ _=>rfl)) (pv 1)) (pg_sub (pv 0) pe_int set_list))
  (pss_one (ps_ret (pv 2)))))
  pss_nil)
  (pss_cons (ps_set (i:=3) sc_law_take.nd rfl (by first | exact Or.inl rfl | exact Or.inr rfl) (pe_op op_add (pe_ix ix_list (pv 0) pe_int (fun _ _=>rfl)) pe_int))
  (pss_cons (ps_asg (pv 3) (pg_sub (pv 0) pe_int set_list))
  (pss_cons (ps_set (i:=4) sc_law_take.nd rfl (by first | exact Or.inl rfl | exact Or.inr rfl) (pe_op op_mod (pe_op op_pow (pe_op op_add (pe_op op_add (pe_op op_add (pe_ix ix_list (pv 0) pe_int (fun _ _=>rfl)) (pe_op op_mul (pe_op op_mul pe_int (pv 3)) (pv 3))) (pe_op op_mul pe_int (pv 3))) pe_int) pe_int) pe_int))
  (pss_cons (ps_set (i:=5) sc_law_take.nd rfl (by first | exact Or.inl rfl | exact Or.inr rfl) (pe_op op_mod (pe_op op_pow (pe_op op_add (pe_op op_mul (pv 4) (pe_op op_add (pv 3) pe_int)) pe_int) pe_int) pe_int))
  (pss_one (ps_ret (pe_op op_mod (pe_op op_fdivL (pv 5) pe_int) (pv 1))))))))),?_⟩
  refine ⟨_,rfl,p,_,_,_,rfl,rfl,SqL.of hp,rfl,_,_,rfl,rfl,_,rfl,ite2 (fun cnd=>?_) (fun cnd=>?_)⟩
  · refine ⟨_,rfl,p,_,_,_,rfl,rfl,SqL.of hp,rfl,_,rfl,_,_,rfl,rfl,m0,?_⟩
    refine ⟨_,rfl,p,_,_,_,rfl,rfl,SqL.of hp,rfl,_,rfl,_,_,rfl,rfl,⟨m0,big18 m1⟩,?_⟩
    refine ⟨_,rfl,p,_,_,0,rfl,rfl,hp,rfl,_,rfl,?_⟩
    exact q _ _ (Int.emod_nonneg _ (by omega)) (Int.emod_lt_of_pos _ m0) ⟨⟨_,y,z,upd_same,y0,y1,z0,by omega⟩,fun b o hb e=>by rw [upd_ne hb];exact e⟩
  · refine ⟨_,rfl,p,_,_,_,rfl,rfl,SqL.of hp,rfl,_,_,rfl,rfl,?_⟩
    refine ⟨_,rfl,_,rfl,p,_,_,2,rfl,rfl,hp,rfl,?_⟩
    have hp':upd H p (.lst [.int x,.int y,.int (z+1)]) p=some (.lst [.int x,.int y,.int (z+1)]):=upd_same
    have hk':∀ b o,b≠p→H b=some o→upd H p (.lst [.int x,.int y,.int (z+1)]) b=some o:=fun b o hb e=>by rw [upd_ne hb];exact e
    show (fun HH=>_) (upd H p (.lst [.int x,.int y,.int (z+1)]))
    generalize upd H p (.lst [.int x,.int y,.int (z+1)])=H1 at hp' hk'
    have zz:0≤(z+1) * (z+1)∧(z+1) * (z+1)≤1000001 * 1000001:=⟨Int.mul_nonneg (by omega) (by omega),Int.mul_le_mul (by omega) (by omega) (by omega) (by omega)⟩
    have ez:7919 * (z+1) * (z+1)=7919 * ((z+1) * (z+1)):=Int.mul_assoc _ _ _
    have big:(y+7919 * (z+1) * (z+1)+104729 * (z+1)+5).natAbs < 2 ^ 64:=by
      rw [ez]
      have e64:(2:Nat) ^ 64=18446744073709551616:=by decide
      rw [e64]
      omega
    refine ⟨_,rfl,p,_,_,_,rfl,rfl,SqL.of hp',rfl,_,rfl,_,_,rfl,rfl,.inl ⟨by decide,by decide⟩,_,rfl,_,_,rfl,rfl,.inr ⟨by omega,by omega⟩,_,_,rfl,rfl,_,rfl,_,_,rfl,rfl,.inl ⟨by decide,by decide⟩,_,_,rfl,rfl,_,_,rfl,rfl,_,_,rfl,rfl,⟨by decide,by decide,big⟩,_,_,rfl,rfl,(by decide:(0:Int) < 2147483629),?_⟩
    generalize (y+7919 * (z+1) * (z+1)+104729 * (z+1)+5) ^ (3:Int).toNat=yy
    have o1:=Int.emod_nonneg yy (show (2147483629:Int)≠0 by decide)
    have o2:=Int.emod_lt_of_pos yy (show (0:Int) < 2147483629 by decide)
    generalize hoo:yy % 2147483629=oo at o1 o2
    have oz:0≤oo * (z+1+40692)∧oo * (z+1+40692)≤2147483629 * 1040693:=⟨Int.mul_nonneg (by omega) (by omega),Int.mul_le_mul (by omega) (by omega) (by omega) (by omega)⟩
    refine ⟨_,rfl,_,rfl,_,_,rfl,rfl,_,_,rfl,rfl,.inr ⟨by omega,by omega⟩,_,_,rfl,rfl,_,_,rfl,rfl,⟨by decide,by decide,by
      show (yy % 2147483629 * (z+1+40692)+11).natAbs < 2 ^ 64
      rw [hoo]
      have e64:(2:Nat) ^ 64=18446744073709551616:=by decide
      rw [e64]
      omega⟩,_,_,rfl,rfl,(by decide:(0:Int) < 2147483563),?_⟩
    refine ⟨_,rfl,_,_,rfl,rfl,⟨by decide,big18 (by decide)⟩,_,rfl,_,_,rfl,rfl,m0,?_⟩
    exact q _ _ (Int.emod_nonneg _ (by omega)) (Int.emod_lt_of_pos _ m0) ⟨⟨x,y,z+1,hp',y0,y1,by omega,by omega⟩,hk'⟩
end
end S38
namespace S38
open PySem L2
def RunAt (H:Hp) (a:Addr) (r:Rn):Prop:=H a=some (.tup [.str r.1,.int r.2])
def RsAt (H:Hp) (as:List Addr) (rs:List Rn):Prop:=as.length=rs.length∧∀ (i:Nat) (a:Addr) (r:Rn),as[i]?=some a→rs[i]?=some r→RunAt H a r
theorem RsAt.keep {H H':Hp} {as:List Addr} {rs:List Rn} (h:RsAt H as rs) (s:∀ a xs,H a=some (.tup xs)→H' a=some (.tup xs)):RsAt H' as rs:=⟨h.1,fun i a r x y=>s _ _ (h.2 i a r x y)⟩
theorem RsAt.same {H H':Hp} {as:List Addr} {rs:List Rn} (h:RsAt H as rs) (s:Same H H'):RsAt H' as rs:=h.keep fun _ _ e=>s _ _ e
theorem RsAt.kt {H H':Hp} {as:List Addr} {rs:List Rn} {p:Addr} {c d:Int} (h:RsAt H as rs) (pt:Pt H p d) (k:Kt p c H H'):RsAt H' as rs:=h.keep fun _ _ e=>k.keep _ _ (pt.neT e) e
theorem RsAt.snoc {H:Hp} {as:List Addr} {rs:List Rn} {a:Addr} {r:Rn} (h:RsAt H as rs) (k:RunAt H a r):RsAt H (as++[a]) (rs++[r]):=by
  refine ⟨by rw [List.length_append,List.length_append,h.1];rfl,fun i b m x y=>?_⟩
  rcases Nat.lt_or_ge i as.length with lt | ge
  · rw [List.getElem?_append_left lt] at x
    rw [List.getElem?_append_left (by rw [← h.1];exact lt)] at y
    exact h.2 i b m x y
  · rw [List.getElem?_append_right ge] at x
    rw [List.getElem?_append_right (by rw [← h.1];exact ge),← h.1] at y
    cases e:i - as.length with
    | zero=>
      rw [e] at x y
      cases x;cases y
      exact k
    | succ n=>rw [e] at x;cases x
theorem RsAt.get {H:Hp} {as:List Addr} {rs:List Rn} (h:RsAt H as rs) {i:Nat} {x:V} (e:(as.map V.ref)[i]?=some x):∃ a r,x=.ref a∧as[i]?=some a∧rs[i]?=some r∧H a=some (.tup [.str r.1,.int r.2]):=by
  rw [List.getElem?_map] at e
  cases e1:as[i]? with
  | none=>rw [e1] at e;cases e
  | some a=>
    rw [e1] at e
    cases e
    have il:=(List.getElem?_eq_some_iff.mp e1).1
    have e2:rs[i]?=some (rs[i]'(by rw [← h.1];exact il)):=List.getElem?_eq_getElem _
    exact ⟨a,_,rfl,rfl,e2,h.2 i a _ e1 e2⟩
def RunsAt (H:Hp) (t:Addr) (rs:List Rn):Prop:=∃ as:List Addr,H t=some (.tup (as.map V.ref))∧RsAt H as rs
theorem RunsAt.same {H H':Hp} {t:Addr} {rs:List Rn} (h:RunsAt H t rs) (s:Same H H'):RunsAt H' t rs:=let ⟨as,x,y⟩:=h;⟨as,s _ _ x,y.same s⟩
theorem RunsAt.kt {H H':Hp} {t:Addr} {rs:List Rn} {p:Addr} {c d:Int} (h:RunsAt H t rs) (pt:Pt H p d) (k:Kt p c H H'):RunsAt H' t rs:=let ⟨as,x,y⟩:=h;⟨as,k.keep _ _ (pt.neT x) x,y.kt pt k⟩
theorem glue_cps:∀ (ss:List Str) (acc:Array Nat),(List.foldl (fun acc (p:Str)=>acc++(Str.ofString "").cps++p.cps) acc ss).toList=acc.toList++(ss.map fun z:Str=>z.cps.toList).flatten
  | [],acc=>by simp
  | x :: r,acc=>by
    rw [List.foldl_cons,glue_cps r,Array.toList_append,Array.toList_append]
    have e:(Str.ofString "").cps.toList=[]:=rfl
    rw [e,List.append_nil,List.map_cons,List.flatten_cons,List.append_assoc]
theorem join_cps (ss:List Str):(Txt.join (Str.ofString "") ss).cps.toList=(ss.map fun z:Str=>z.cps.toList).flatten:=by
  cases ss with
  | nil=>rfl
  | cons x r=>
    have:=glue_cps r x.cps
    rw [List.map_cons,List.flatten_cons]
    exact this
theorem foldl_app (xs:Array Nat):∀ (n:Nat) (acc:Array Nat),((List.replicate n xs).foldl (·++·) acc).toList=acc.toList++(List.replicate n xs.toList).flatten
  | 0,acc=>by simp
  | n+1,acc=>by
    rw [List.replicate_succ,List.foldl_cons,foldl_app xs n,Array.toList_append,List.replicate_succ,List.flatten_cons,List.append_assoc]
theorem rep_one (c:Nat):∀ n:Nat,(List.replicate n [c]).flatten=List.replicate n c
  | 0=>rfl
  | n+1=>by rw [List.replicate_succ,List.flatten_cons,rep_one c n,List.replicate_succ];rfl
theorem mul_cps {c:Nat} {n:Int} (h:0≤n):(Txt.mul ⟨#[c]⟩ n).cps.toList=List.replicate n.toNat c:=by
  unfold Txt.mul
  split
  · have:n.toNat=0:=by omega
    rw [this];rfl
  · split
    · rename_i h1 h2
      have h3:n=1:=by
        simp only [Bool.or_eq_true,beq_iff_eq] at h2
        rcases h2 with h2 | h2
        · exact h2
        · have h4:(⟨#[c]⟩:Str).length=1:=rfl
          omega
      subst h3;rfl
    · show (List.foldl (·++·) #[] (List.replicate n.toNat #[c])).toList=_
      rw [foldl_app]
      show []++(List.replicate n.toNat [c]).flatten=_
      rw [rep_one];rfl
theorem str_ext {a b:Str} (h:a.cps.toList=b.cps.toList):a=b:=by
  cases a;cases b
  congr
  exact Array.toList_inj.mp h
theorem cps_len (z:Str):z.cps.toList.length=z.length:=by simp [Str.length]
theorem mulok {c:Nat} {n:Int} (h0:0≤n) (h1:n≤4000):MulOk (⟨#[c]⟩:Str) n:=PyProof.Rows.mulOk_of 1 4000 (by show 1≤1;omega) (by omega) (by omega) (by decide) (by decide)
section
variable {P:Program} {w:World} {K:PySem.W.Frag} {mg:Str→Option Value} {base:Heap} {k:Nat}
structure Tx (n m:Nat) (z:Str):Prop where
  le:z.length≤n
  lw:∀ c∈z.cps.toList,Lw c
  few:(W38.enc z.cps.toList).length≤m
theorem Tx.add {n m:Nat} {z:Str} (h:Tx n m z) {c:Nat} (lw:Lw c) {i:Int} (i0:0≤i) (i1:i≤900):Tx (n+900) (m+1) (z++Txt.mul ⟨#[c]⟩ i):=by
  have e:(z++Txt.mul ⟨#[c]⟩ i).cps.toList=z.cps.toList++List.replicate i.toNat c:=by rw [app_list,mul_cps i0]
  refine ⟨?_,fun x hx=>?_,?_⟩
  · rw [← cps_len,e,List.length_append,List.length_replicate,cps_len];have:=h.le;omega
  · rw [e] at hx
    rcases List.mem_append.mp hx with hx | hx
    · exact h.lw x hx
    · rw [List.eq_of_mem_replicate hx];exact lw
  · rw [e];exact Nat.le_trans (W38.enc_rep _ _ _) (by have:=h.few;omega)
def sp_text:Sp:=fun vs H Q _=>∃ (p:Addr) (c:Int),vs=[.ref p]∧Pt H p c∧0≤c∧c < 900000∧∀ (z:Str) (H':Hp),Kt p (c+200) H H'→Tx 4000 15 z→Q (.str z) H'
theorem has_text (D:Df K mg "_law_text" s_law_text) (B:Blt7 mg) (G_law_take:Has P w K mg base "_law_take" k ["pot", "many"] sp_take):Has P w K mg base "_law_text" (k+1) ["pot"] sp_text:=by
  refine D.has sc_law_text (fun _ _ _ _ _ _ us hl=>match us,hl with | [_],_=>rfl) (fun vs H Q E h=>by obtain ⟨p,c,rfl,_⟩:=h;rfl) (fun f cdv A outer s H vs Q E hr h=>?_)
  obtain ⟨p,c,rfl,pt,c0,c9,q⟩:=h
  refine ⟨_,(pss_cons (ps_set (i:=1) sc_law_text.nd rfl (by first | exact Or.inl rfl | exact Or.inr rfl) pe_str)
  (pss_cons (ps_set (i:=2) sc_law_text.nd rfl (by first | exact Or.inl rfl | exact Or.inr rfl) (pe_ix ix_list (pe_lst (pa_cons pe_int (pa_cons pe_int (pa_cons pe_int (pa_cons pe_int pa_nil))))) (pe_callH G_law_take hr rfl (pa_cons (pv 0) (pa_cons pe_int pa_nil))) (fun _ _=>rfl)))
  (pss_cons (ps_set (i:=3) sc_law_text.nd rfl (by first | exact Or.inl rfl | exact Or.inr rfl) (pe_callH G_law_take hr rfl (pa_cons (pv 0) (pa_cons (pe_op op_sub pe_int (pv 2)) pa_nil))))
  (pss_cons (ps_set (i:=4) sc_law_text.nd rfl (by first | exact Or.inl rfl | exact Or.inr rfl) pe_str)
  (pss_cons (ps_if (pt_cmpR op_eq (pe_callH G_law_take hr rfl (pa_cons (pv 0) (pa_cons pe_int pa_nil))) pe_int (nomark _))
  (pss_one (ps_set (i:=4) sc_law_text.nd rfl (by first | exact Or.inl rfl | exact Or.inr rfl) (pe_op op_mul_str (pe_ix ix_str (pv 1) (pv 3) (fun _ _=>rfl)) pe_int)))
  pss_nil)
  (pss_cons (ps_for PassesOwn.never rfl (pi_range1 rfl B.range (pa_cons (pe_callH G_law_take hr rfl (pa_cons (pv 0) (pa_cons pe_int pa_nil))) pa_nil)) (pg_name (i:=5) sc_law_text.nd rfl (by first | exact Or.inl rfl | exact Or.inr rfl))
  (pss_cons (ps_set (i:=6) sc_law_text.nd rfl (by first | exact Or.inl rfl | exact Or.inr rfl) (pe_ix ix_list (pe_lst (pa_cons pe_int (pa_cons (pe_op op_add pe_int (pe_callH G_law_take hr rfl (pa_cons (pv 0) (pa_cons pe_int pa_nil)))) (pa_cons (pe_op op_add pe_int (pe_callH G_law_take hr rfl (pa_cons (pv 0) (pa_cons pe_int pa_nil)))) (pa_cons (pe_op op_add pe_int (pe_callH G_law_take hr rfl (pa_cons (pv 0) (pa_cons pe_int pa_nil)))) pa_nil))))) (pe_callH G_law_take hr rfl (pa_cons (pv 0) (pa_cons pe_int pa_nil))) (fun _ _=>rfl)))
  (pss_one (ps_set (i:=4) sc_law_text.nd rfl (by first | exact Or.inl rfl | exact Or.inr rfl) (pe_op op_add_str (pv 4) (pe_op op_mul_str (pe_ix ix_str (pv 1) (pe_op op_add (pv 3) (pe_callH G_law_take hr rfl (pa_cons (pv 0) (pa_cons (pv 2) pa_nil)))) (fun _ _=>rfl)) (pv 6)))))))
  (pss_one (ps_ret (pe_slice sl_str (pv 4) po_none (po_some pe_int)))))))))),?_⟩
  refine mid (fun σ' H'=>σ'=[some (.ref p),some (.str (Str.ofString "abcdefghijklmnopqrstuvwxyz")),none,none,none,none,none]∧H'=H) ?_ fun E nx=>nx _ _ ⟨rfl,rfl⟩
  rintro σ1 H1 ⟨rfl,rfl⟩
  refine ⟨line_le (show 4≤1000 by omega),fun m1 hm1=>?_⟩
  generalize hJ:upd H1 m1 _=J1
  have s1:Same H1 J1:=by rw [← hJ];exact (Same.refl H1).new hm1
  have g1:J1 m1=some (.lst ([1,2,3,26].map V.int)):=by rw [← hJ];exact upd_same
  clear hJ
  have kt1:=(Kt.refl pt).same s1
  refine ⟨_,rfl,p,4,c,rfl,kt1.pt,by omega,by decide,by decide,fun i1 J2 a0 a1 k2=>?_⟩
  obtain ⟨wide,hv,w0,w1⟩:=menu (us:=[1,2,3,26]) (n:=i1) (lo:=1) (hi:=26) a0 a1 (by decide)
  refine ⟨m1,_,_,_,rfl,rfl,SqL.of (k2.keep _ _ (pt.ne hm1) g1),hv,?_⟩
  have k02:=kt1.trans k2
  refine ⟨_,rfl,_,rfl,_,_,rfl,rfl,p,_,_,rfl,k02.pt,by omega,by omega,by omega,fun bs J3 b0 b1 k3=>?_⟩
  have k03:=k02.trans k3
  refine mid (fun σ' H'=>σ'=[some (.ref p),some (.str (Str.ofString "abcdefghijklmnopqrstuvwxyz")),some (.int wide),some (.int bs),none,none,none]∧H'=J3) ?_ fun E nx=>nx _ _ ⟨rfl,rfl⟩
  rintro σ1 J3' ⟨rfl,rfl⟩
  refine mid (fun σ' H'=>σ'=[some (.ref p),some (.str (Str.ofString "abcdefghijklmnopqrstuvwxyz")),some (.int wide),some (.int bs),some (.str (Str.ofString "")),none,none]∧H'=J3') ?_ fun E nx=>nx _ _ ⟨rfl,rfl⟩
  rintro σ1 J3 ⟨rfl,rfl⟩
  obtain ⟨cb,hcb,lcb⟩:=alph_at (i:=bs) b0 (by omega)
  refine mid (fun σ' H'=>∃ z:Str,σ'=[some (.ref p),some (.str (Str.ofString "abcdefghijklmnopqrstuvwxyz")),some (.int wide),some (.int bs),some (.str z),none,none]∧Kt p (c+1+1+1) H1 H'∧Tx 3990 1 z) ?_ fun E nx=>?_
  rotate_left
  · refine ⟨_,rfl,p,_,_,rfl,k03.pt,by omega,by decide,by decide,fun x1 J4 c0' c1 k4=>?_⟩
    refine ⟨rfl,_,rfl,ite2 (fun cc=>?_) (fun cc=>?_)⟩
    · refine ⟨_,rfl,_,rfl,_,_,cb,rfl,rfl,(by decide +kernel),hcb,_,_,rfl,rfl,mulok (by decide) (by decide),?_⟩
      refine nx _ _ ⟨_,rfl,k03.trans k4,?_⟩
      have e:(Txt.mul ⟨#[cb]⟩ 3990).cps.toList=List.replicate 3990 cb:=mul_cps (by decide)
      refine ⟨?_,fun x hx=>?_,?_⟩
      · rw [← cps_len,e,List.length_replicate];exact Nat.le_refl _
      · rw [e] at hx;rw [List.eq_of_mem_replicate hx];exact lcb
      · rw [e]
        have:=W38.enc_rep [] cb 3990
        rw [List.nil_append] at this
        exact this
    · exact nx _ _ ⟨_,rfl,k03.trans k4,⟨by decide,(fun c hc=>by cases hc),by decide⟩⟩
  rintro σ1 J4 ⟨z0,rfl,k04,tx0⟩
  refine ⟨_,rfl,p,_,_,rfl,k04.pt,by omega,by decide,by decide,fun n J7 e0 e1 k7=>?_⟩
  have k07:=k04.trans k7
  refine ⟨n,rfl,by omega,by omega,?_⟩
  refine for_range (lo:=0) (n:=n.toNat) (fun i σ HX=>∃ (z:Str) (o5 o6:Option V),σ=[some (.ref p),some (.str (Str.ofString "abcdefghijklmnopqrstuvwxyz")),some (.int wide),some (.int bs),some (.str z),o5,o6]∧Kt p (c+4+5 * i) H1 HX∧Tx (3990+900 * i) (1+i) z)
    ⟨z0,none,none,rfl,k07.mono (by omega),tx0⟩ ?_ ?_
  rotate_left
  · rintro σ HX ⟨z,o5,o6,rfl,kX,tx⟩
    have tl:=tx.le
    refine ⟨_,rfl,_,rfl,z,rfl,(by rw [sizeLine_eq];omega),?_⟩
    have e:(cutS z none (some 4000)).cps.toList=z.cps.toList.take 4000:=cutS_to z 4000
    refine q _ _ (kX.mono (by omega)) ⟨?_,fun x hx=>?_,?_⟩
    · rw [← cps_len,e,List.length_take];omega
    · rw [e] at hx;exact tx.lw x (List.mem_of_mem_take hx)
    · rw [e];exact Nat.le_trans (W38.enc_take _ _) (by have:=tx.few;omega)
  rintro i σ HX hi ⟨z,o5,o6,rfl,kX,tx⟩
  refine ⟨_,rfl,p,_,_,rfl,kX.pt,by omega,by decide,by decide,fun x1 Y2 f2 f3 q2=>?_⟩
  have kY2:=kX.trans q2
  refine ⟨_,_,rfl,rfl,?_⟩
  refine ⟨_,rfl,p,_,_,rfl,kY2.pt,by omega,by decide,by decide,fun x2 Y3 f4 f5 q3=>?_⟩
  have kY3:=kY2.trans q3
  refine ⟨_,_,rfl,rfl,?_⟩
  refine ⟨_,rfl,p,_,_,rfl,kY3.pt,by omega,by decide,by decide,fun x3 Y4 f6 f7 q4=>?_⟩
  have kY4:=kY3.trans q4
  refine ⟨_,_,rfl,rfl,?_⟩
  refine ⟨line_le (show 4≤1000 by omega),fun m2 hm2=>?_⟩
  generalize hJ:upd Y4 m2 _=Y5
  have s5:Same Y4 Y5:=by rw [← hJ];exact (Same.refl Y4).new hm2
  have g5:Y5 m2=some (.lst ([1,1+x1,1+x2,1+x3].map V.int)):=by rw [← hJ];exact upd_same
  clear hJ
  have kY5:=kY4.same s5
  have m2p:m2≠p:=kY4.pt.ne hm2
  refine ⟨_,rfl,p,_,_,rfl,kY5.pt,by omega,by decide,by decide,fun x4 Y6 f8 f9 q6=>?_⟩
  have kY6:=kY5.trans q6
  obtain ⟨sz,hsz,sz0,sz1⟩:=menu (us:=[1,1+x1,1+x2,1+x3]) (lo:=0) (hi:=900) f8 f9 (fun v hv=>by
    simp only [List.mem_cons,List.not_mem_nil,or_false] at hv
    rcases hv with rfl | rfl | rfl | rfl <;> omega)
  refine ⟨m2,_,_,_,rfl,rfl,SqL.of (q6.keep _ _ m2p g5),hsz,?_⟩
  refine ⟨_,rfl,_,rfl,_,rfl,_,rfl,_,rfl,p,_,_,rfl,kY6.pt,by omega,by omega,by omega,fun x5 Y7 z0 z1 q7=>?_⟩
  obtain ⟨ch,hch,lch⟩:=alph_at (i:=bs+x5) (by omega) (by omega)
  have t1:=tx.add lch sz0 sz1
  have tl:=tx.le
  have ml:(Txt.mul ⟨#[ch]⟩ sz).length=sz.toNat:=by rw [← cps_len,mul_cps sz0,List.length_replicate]
  refine ⟨_,_,rfl,rfl,_,_,ch,rfl,rfl,(by decide +kernel),hch,_,rfl,_,_,rfl,rfl,mulok sz0 (by omega),_,_,rfl,rfl,(by rw [ml,sizeLine_eq];omega),?_⟩
  exact ⟨_,_,_,rfl,(kY6.trans q7).mono (by omega),⟨Nat.le_trans t1.le (by omega),t1.lw,Nat.le_trans t1.few (by omega)⟩⟩
end
end S38
namespace S38
open PySem L2
structure Exs (K:PySem.W.Frag) (mg:Str→Option Value) where
  c_UpError:Addr
  m_UpError:mg "UpError" = some (.ref c_UpError)
  c_NoPlace:Addr
  m_NoPlace:mg "NoPlace" = some (.ref c_NoPlace)
  c_NoNumber:Addr
  m_NoNumber:mg "NoNumber" = some (.ref c_NoNumber)
  c_NoWord:Addr
  m_NoWord:mg "NoWord" = some (.ref c_NoWord)
  c_NoRows:Addr
  m_NoRows:mg "NoRows" = some (.ref c_NoRows)
  c_NoRuns:Addr
  m_NoRuns:mg "NoRuns" = some (.ref c_NoRuns)
  c_NoCover:Addr
  m_NoCover:mg "NoCover" = some (.ref c_NoCover)
  c_NoText:Addr
  m_NoText:mg "NoText" = some (.ref c_NoText)
  c_TooMany:Addr
  m_TooMany:mg "TooMany" = some (.ref c_TooMany)
  c_NoTree:Addr
  m_NoTree:mg "NoTree" = some (.ref c_NoTree)
  q_NoRuns:PySem.W.excIn K c_NoRuns bmV "ValueError.__new__" = true
  z_NoRuns:ExK K c_NoRuns
  u_NoRuns:PySem.W.exmOne K (.ref c_NoRuns) (.ref c_UpError)=some true
  xm:PySem.W.exmOne K (.ref c_NoRuns) (.ref c_NoRuns)=some true
  p0:PySem.W.kitOne K (.ref c_NoRuns) (.ref c_UpError)=some true
  pv:PySem.W.kitOne K (.ref c_NoRuns) (.type "ValueError")=some true
  pa:PySem.W.kitAny K (.ref c_NoRuns) ([c_NoCover,c_NoNumber,c_NoPlace,c_NoRows,c_NoText,c_NoTree,c_NoWord,c_TooMany].map Value.ref)=some false
def lwB (c:Nat):Bool:=decide (97≤c) && decide (c < 123)
theorem lwB_iff {c:Nat}:lwB c=true ↔ Lw c:=by unfold lwB Lw;rw [Bool.and_eq_true,decide_eq_true_eq,decide_eq_true_eq]
theorem in_abc {c:Nat} (h:c < 1000):(!(Builtin.Str.occurrences (Str.ofString "abcdefghijklmnopqrstuvwxyz") ⟨#[c]⟩ 0 (Str.ofString "abcdefghijklmnopqrstuvwxyz").length 1).isEmpty)=lwB c:=by
  have all:∀ c:Nat,c < 1000→(!(Builtin.Str.occurrences (Str.ofString "abcdefghijklmnopqrstuvwxyz") ⟨#[c]⟩ 0 (Str.ofString "abcdefghijklmnopqrstuvwxyz").length 1).isEmpty)=lwB c:=by decide +kernel
  exact all c h
def letD:PyData→Bool
  | .str z=>z.cps.toList.all lwB
  | _=>false
def Short (d:PyData):Prop:=∀ z,d=.str z→z.length≤900∧∀ c∈z.cps.toList,c < 1000
def OneD (d:PyData):Prop:=∃ c,d=.str ⟨#[c]⟩∧Lw c
theorem one_str {z:Str} (h:z.cps.toList.all lwB=true) (l:z.length=1):OneD (.str z):=by
  have e:z.cps.toList.length=1:=by rw [Array.length_toList];exact l
  obtain ⟨c,hc⟩:=List.length_eq_one_iff.mp e
  refine ⟨c,?_,lwB_iff.mp (List.all_eq_true.mp h c (by rw [hc];simp))⟩
  congr 1
  apply str_ext
  rw [hc]
section
variable {P:Program} {w:World} {K:PySem.W.Frag} {mg:Str→Option Value} {base:Heap} {k:Nat}
def sp_wholeT:Sp:=fun vs H Q _=>∃ (v:V) (d:PyData),vs=[v]∧Td H v d∧Q (.bl (wholeD d)) H
theorem has_wholeT (D:Df K mg "is_whole" s_is_whole) (B:Blt7 mg):Has P w K mg base "is_whole" (k+1) ["thing"] sp_wholeT:=by
  refine D.has sc_is_whole (fun _ _ _ _ _ _ us hl=>match us,hl with | [_],_=>rfl) (fun vs H Q E h=>by obtain ⟨x,d,rfl,_⟩:=h;rfl) (fun f cdv A outer s H vs Q E hr h=>?_)
  obtain ⟨v,d,rfl,td,q⟩:=h
  refine ⟨_,(pss_one (ps_ret (pe_and (pe_callB call_isinst rfl B.isinstance bt_isinstance (pa_cons (pv 0) (pa_cons (pe_bltn (v:=.ty "int") rfl B.int_ bt_int rfl) pa_nil))) (pe_one (pe_not (pe_callB call_isinst rfl B.isinstance bt_isinstance (pa_cons (pv 0) (pa_cons (pe_bltn (v:=.ty "bool") rfl B.bool_ bt_bool rfl) pa_nil)))))))),?_⟩
  obtain ⟨t1,a1,a2⟩:=td_int (K:=K) td
  obtain ⟨t2,b1,b2⟩:=td_bl (K:=K) td
  refine ⟨_,rfl,_,t1, "int", _,rfl,a1,a2,_,rfl,ite2 (fun c=>?_) (fun c=>?_)⟩
  · refine ⟨_,rfl,_,t2, "bool", _,rfl,b1,b2,_,rfl,?_⟩
    have e:wholeD d=!isBlD d:=by cases d <;> first | rfl | cases c
    rw [← e];exact q
  · have e:wholeD d=false:=by cases d <;> first | rfl | (exact absurd rfl c)
    rw [e] at q;exact q
def sp_lettersT:Sp:=fun vs H Q _=>∃ (v:V) (d:PyData),vs=[v]∧Td H v d∧Short d∧∀ H',Same H H'→Q (.bl (letD d)) H'
theorem has_lettersT (D:Df K mg "is_letters" s_is_letters) (B:Blt7 mg):Has P w K mg base "is_letters" (k+1) ["thing"] sp_lettersT:=by
  refine D.has sc_is_letters (fun _ _ _ _ _ _ us hl=>match us,hl with | [_],_=>rfl) (fun vs H Q E h=>by obtain ⟨x,d,rfl,_⟩:=h;rfl) (fun f cdv A outer s H vs Q E hr h=>?_)
  obtain ⟨v,d,rfl,td,sh,q⟩:=h
  obtain ⟨u2,h_LETTERS,r_LETTERS⟩:=B.letters
  refine ⟨_,(pss_one (ps_ret (pe_and (pe_callB call_isinst rfl B.isinstance bt_isinstance (pa_cons (pv 0) (pa_cons (pe_bltn (v:=.ty "str") rfl B.str_ bt_str rfl) pa_nil))) (pe_one (pe_callB (call_all rfl) rfl B.all bt_all (pa_cons (pe_comp rfl (pi_str (pv 0)) (NL:=["sign"]) (ix:=[]) (csc (defScope s_is_letters) N_is_letters) (fun cl C s₃ H₃ fp pins=>⟨(pg_name (i:=0) (show List.Nodup (["sign"]:List Str) from by decide +kernel) rfl (by first | exact Or.inl rfl | exact Or.inr rfl)),pifs_nil,(pe_cmpR op_in_str (pv 0) (pe_glob (v:=.str "abcdefghijklmnopqrstuvwxyz") rfl h_LETTERS r_LETTERS) (by with_unfolding_all rfl))⟩)) pa_nil)))))),?_⟩
  obtain ⟨t1,a1,a2⟩:=td_str (K:=K) td
  refine ⟨_,rfl,_,t1, "str", _,rfl,a1,a2,_,rfl,ite2 (fun c=>?_) (fun c=>?_)⟩
  rotate_left
  · have e:letD d=false:=by cases d <;> first | rfl | (exact absurd rfl c)
    have:=q H (Same.refl H)
    rw [e] at this;exact this
  obtain ⟨z,rfl,rfl⟩:=isStr_ex td c
  obtain ⟨zl,zc⟩:=sh z rfl
  have zs:z.cps.size≤900:=zl
  refine ⟨_,rfl,_,rfl,fun a1 ha1=>?_⟩
  refine comp_str (by omega) (fun i ys HX=>HX a1=some (.lst ys)∧Same H HX∧ys=((z.cps.toList.take i).map lwB).map V.bl)
    (fun i ys HX h=>⟨h.1,by rw [h.2.2,List.length_map,List.length_map,List.length_take];exact Nat.min_le_left _ _⟩) ⟨upd_same,(Same.refl H).new ha1,rfl⟩ ?_ ?_
  rotate_left
  · rintro i ch ys HX hc ⟨g1,g2,rfl⟩
    have hc':z.cps.toList[i]?=some ch:=by rw [← Array.getElem?_toList] at hc;exact hc
    refine ⟨rfl,_,rfl,_,_,rfl,rfl,?_⟩
    rw [in_abc (zc ch (List.mem_of_getElem? hc'))]
    refine ⟨g1,upd_same,g2.write ha1,?_⟩
    rw [List.take_succ,hc',List.map_append,List.map_append];rfl
  rintro ys H1 ⟨g1,s1,rfl⟩
  refine ⟨a1,_,rfl,SqL.of g1,?_⟩
  have e:(((z.cps.toList.take z.cps.size).map lwB).all id)=letD (.str z):=by
    show _=z.cps.toList.all lwB
    rw [← Array.length_toList,List.take_length,List.all_map];rfl
  rw [e]
  exact q _ s1
def sp_oneT:Sp:=fun vs H Q _=>∃ (v:V) (d:PyData),vs=[v]∧Td H v d∧Short d∧∀ (b:Bool) (H':Hp),Same H H'→(b=true ↔ OneD d)→Q (.bl b) H'
theorem has_oneT (D:Df K mg "is_letter" s_is_letter) (B:Blt7 mg) (G_is_letters:Has P w K mg base "is_letters" k ["thing"] sp_lettersT):Has P w K mg base "is_letter" (k+1) ["thing"] sp_oneT:=by
  refine D.has sc_is_letter (fun _ _ _ _ _ _ us hl=>match us,hl with | [_],_=>rfl) (fun vs H Q E h=>by obtain ⟨x,d,rfl,_⟩:=h;rfl) (fun f cdv A outer s H vs Q E hr h=>?_)
  obtain ⟨v,d,rfl,td,sh,q⟩:=h
  refine ⟨_,(pss_one (ps_ret (pe_and (pe_callH G_is_letters hr rfl (pa_cons (pv 0) pa_nil)) (pe_one (pe_cmpR op_eq (pe_callB call_len_str rfl B.len bt_len (pa_cons (pv 0) pa_nil)) pe_int (nomark _)))))),?_⟩
  refine ⟨_,rfl,v,d,rfl,td,sh,fun H1 s1=>⟨_,rfl,ite2 (fun c=>?_) (fun c=>?_)⟩⟩
  rotate_left
  · refine q false H1 s1 ⟨(fun z=>by cases z),fun ⟨ch,e2,lw⟩=>?_⟩
    subst e2
    exact absurd (show letD (.str ⟨#[ch]⟩)=true by show [ch].all lwB=true;simp [lwB_iff.mpr lw]) c
  have hs:isStrD d=true:=by cases d <;> first | rfl | cases c
  obtain ⟨z,rfl,rfl⟩:=isStr_ex td hs
  obtain ⟨zl,_⟩:=sh z rfl
  refine ⟨_,rfl,z,rfl,Nat.le_of_lt (small1000 (by omega)),rfl,?_⟩
  refine q _ H1 s1 ⟨fun h=>?_,fun ⟨ch,e2,lw⟩=>?_⟩
  · have h2:(V.int ((z.length:Nat):Int)=V.int 1):=of_decide_eq_true h
    injection h2 with h2
    exact one_str c (by omega)
  · injection e2 with e2
    subst e2
    rfl
theorem rs_len {H:Hp} {as:List Addr} {rs:List Rn} (h:RsAt H as rs):(as.map V.ref).length=rs.length:=by rw [List.length_map,h.1]
theorem sums {rs:List Rn} {i:Nat} {r:Rn} (h:rs[i]?=some r):((rs.take (i+1)).map (·.2))=((rs.take i).map (·.2))++[r.2]:=by
  rw [W39.take_succ h,List.map_append];rfl
def sp_len:Sp:=fun vs H Q _=>∃ (t:Addr) (rs:List Rn),vs=[.ref t]∧RunsAt H t rs∧rs.length≤900∧∀ H',Same H H'→Q (.int (W39.tot rs)) H'
theorem has_len (D:Df K mg "length_of" s_length_of) (B:Blt7 mg):Has P w K mg base "length_of" (k+1) ["runs"] sp_len:=by
  refine D.has sc_length_of (fun _ _ _ _ _ _ us hl=>match us,hl with | [_],_=>rfl) (fun vs H Q E h=>by obtain ⟨t,rs,rfl,_⟩:=h;rfl) (fun f cdv A outer s H vs Q E hr h=>?_)
  obtain ⟨t,rs,rfl,⟨as,ht,ra⟩,l12,q⟩:=h
  refine ⟨_,(pss_one (ps_ret (pe_callB (call_sumA K rfl) rfl B.sum bt_sum (pa_cons (pe_comp rfl (pi_tup (pv 0)) (NL:=["run"]) (ix:=[]) (csc (defScope s_length_of) N_length_of) (fun cl C s₃ H₃ fp pins=>⟨(pg_name (i:=0) (show List.Nodup (["run"]:List Str) from by decide +kernel) rfl (by first | exact Or.inl rfl | exact Or.inr rfl)),pifs_nil,(pe_ix (ix_tupK K) (pv 0) pe_int (fun _ _=>rfl))⟩)) pa_nil)))),?_⟩
  have al:=rs_len ra
  refine ⟨_,rfl,t,rfl,⟨_,SqT.of ht⟩,fun acc hacc=>?_⟩
  refine comp_tupI (K:=K) (a:=t) (xs:=as.map V.ref) (by omega) (fun i ys HX=>HX acc=some (.lst ys)∧Same H HX∧ys=(((rs.take i).map (·.2)).map V.int)) (fun i ys HX h=>SqT.of (h.2.1 _ _ ht)) (fun i ys HX h=>⟨h.1,by rw [h.2.2,List.length_map,List.length_map,List.length_take];omega⟩) ⟨upd_same,(Same.refl H).new hacc,rfl⟩ ?_ ?_
  · rintro ys HX ⟨g1,sX,rfl⟩
    rw [al,List.take_length] at g1
    exact ⟨acc,_,rfl,SqL.of g1,q HX sX⟩
  · rintro i x ys HX hx ⟨g1,sX,rfl⟩
    obtain ⟨a,r,rfl,_,er,ha⟩:=(ra.same sX).get hx
    exact ⟨rfl,_,rfl,a,_,_,_,rfl,rfl,SqT.of ha,rfl,g1,upd_same,sX.write hacc,by rw [sums er,List.map_append];rfl⟩
def rD (r:Rc):PyData:=.tuple [.str ⟨#[r.1]⟩,.int (r.2:Int)]
def toRn (r:Rc):Rn:=(⟨#[r.1]⟩,(r.2:Int))
def RunD (d:PyData):Prop:=∃ r:Rc,d=rD r∧Lw r.1∧1≤r.2
def ShK (d:PyData):Prop:=∀ x r,d=.tuple (x :: r)→Short x
def sp_isrun:Sp:=fun vs H Q _=>∃ (v:V) (d:PyData),vs=[v]∧Td H v d∧ShK d∧∀ (b:Bool) (H':Hp),Same H H'→(b=true ↔ RunD d)→Q (.bl b) H'
theorem has_isrun (D:Df K mg "is_run" s_is_run) (B:Blt7 mg) (G_is_letter:Has P w K mg base "is_letter" k ["thing"] sp_oneT) (G_is_whole:Has P w K mg base "is_whole" k ["thing"] sp_wholeT):Has P w K mg base "is_run" (k+1) ["thing"] sp_isrun:=by
  refine D.has sc_is_run (fun _ _ _ _ _ _ us hl=>match us,hl with | [_],_=>rfl) (fun vs H Q E h=>by obtain ⟨x,d,rfl,_⟩:=h;rfl) (fun f cdv A outer s H vs Q E hr h=>?_)
  obtain ⟨v,d,rfl,td,sh,q⟩:=h
  refine ⟨_,(pss_cons (ps_if (PW.pt (pw_or (pt_not (pt_val (pe_callB call_isinst rfl B.isinstance bt_isinstance (pa_cons (pv 0) (pa_cons (pe_bltn (v:=.ty "tuple") rfl B.tuple_ bt_tuple rfl) pa_nil))))) (pw_or1 (pt_cmpR op_ne (pe_callB call_len_seq rfl B.len bt_len (pa_cons (pv 0) pa_nil)) pe_int (nomark _)))))
  (pss_one (ps_ret pe_bl))
  pss_nil)
  (pss_one (ps_ret (pe_and (pe_callH G_is_letter hr rfl (pa_cons (pe_ix ix_tup (pv 0) pe_int (fun _ _=>rfl)) pa_nil)) (pe_and (pe_callH G_is_whole hr rfl (pa_cons (pe_ix ix_tup (pv 0) pe_int (fun _ _=>rfl)) pa_nil)) (pe_one (pe_cmpR op_ge (pe_ix ix_tup (pv 0) pe_int (fun _ _=>rfl)) pe_int (nomark _)))))))),?_⟩
  have no:¬ RunD d→(false=true ↔ RunD d):=fun n=>⟨(fun z=>by cases z),fun z=>absurd z n⟩
  obtain ⟨t1,a1,a2⟩:=td_tup (K:=K) td
  refine ⟨_,rfl,_,t1, "tuple", _,rfl,a1,a2,_,rfl,?_⟩
  by_cases ct:isTupD d=true
  rotate_left
  · refine iteA (by rw [Bool.eq_false_iff.mpr ct];rfl) ?_
    exact q false H (Same.refl H) (no fun ⟨_,e,_⟩=>ct (by rw [e];rfl))
  refine L2.iteB (by rw [ct];rfl) ?_
  obtain ⟨a,xs,ds,rfl,rfl,ha,tds⟩:=isTup_ex td ct
  have xl:=tds.len
  refine ⟨_,rfl,a,_,rfl,.inr (SqT.of ha),rfl,_,rfl,?_⟩
  by_cases cl2:xs.length=2
  rotate_left
  · refine iteA (by simp;omega) ?_
    exact q false H (Same.refl H) (no fun ⟨r,e,_⟩=>cl2 (by unfold rD at e;injection e with e;rw [xl,e];rfl))
  refine L2.iteB (by rw [cl2];rfl) ?_
  obtain ⟨v0,v1,rfl⟩:∃ v0 v1,xs=[v0,v1]:=by
    match xs,cl2 with
    | [x,y],_=>exact ⟨x,y,rfl⟩
  obtain ⟨d0,d1,rfl,td0,td1⟩:∃ d0 d1,ds=[d0,d1]∧Td H v0 d0∧Td H v1 d1:=by
    cases tds with
    | cons t0 r=>cases r with
      | cons t1 r=>cases r;exact ⟨_,_,rfl,t0,t1⟩
  refine ⟨_,rfl,a,_,_,_,rfl,rfl,SqT.of ha,rfl,v0,d0,rfl,td0,sh _ _ rfl,fun b H1 s1 hb=>?_⟩
  refine ⟨_,rfl,?_⟩
  by_cases cb:b=true
  rotate_left
  · refine L2.iteB (Bool.eq_false_iff.mpr cb) ?_
    refine q _ H1 s1 ?_
    refine no fun ⟨r,e,lw,_⟩=>cb (hb.mpr ?_)
    unfold rD at e
    injection e with e
    injection e with e _
    exact ⟨r.1,e,lw⟩
  refine iteA cb ?_
  obtain ⟨c,rfl,lw⟩:=hb.mp cb
  refine ⟨_,rfl,a,_,_,_,rfl,rfl,SqT.of (s1 _ _ ha),rfl,v1,d1,rfl,td1.same s1,?_⟩
  refine ⟨_,rfl,?_⟩
  by_cases cw:wholeD d1=true
  rotate_left
  · refine L2.iteB (Bool.eq_false_iff.mpr cw) ?_
    refine q _ H1 s1 (no fun ⟨r,e,_,_⟩=>cw ?_)
    unfold rD at e
    injection e with e
    injection e with _ e
    injection e with e _
    rw [e];rfl
  refine iteA cw ?_
  cases td1 with
  | int i=>
    refine ⟨_,rfl,a,_,_,_,rfl,rfl,SqT.of (s1 _ _ ha),rfl,_,_,rfl,rfl,?_⟩
    refine q _ H1 s1 ?_
    rw [decide_eq_true_eq]
    constructor
    · intro h
      have h':(1:Int)≤i:=h
      refine ⟨(c,i.toNat),?_,lw,by show 1≤i.toNat;omega⟩
      unfold rD
      rw [show ((i.toNat:Nat):Int)=i by omega]
    · rintro ⟨r,e,_,r1⟩
      unfold rD at e
      injection e with e
      injection e with _ e
      injection e with e _
      injection e with e
      show (1:Int)≤i
      omega
  | _=>cases cw
def RunsD (d:PyData):Prop:=∃ rs:List Rc,d=.tuple (rs.map rD)∧W38.Good Lw rs
def ShN (d:PyData):Prop:=∀ ks,d=.tuple ks→ks.length≤200∧∀ kd∈ks,ShK kd
theorem runs_all:∀ {ds:List PyData},(∀ d∈ds,RunD d)→∃ rs:List Rc,ds=rs.map rD∧(∀ r∈rs,Lw r.1)∧∀ r∈rs,1≤r.2
  | [],_=>⟨[],rfl,(fun _ h=>nomatch h),fun _ h=>nomatch h⟩
  | d :: ds,h=>by
    obtain ⟨r,rfl,lw,r1⟩:=h d List.mem_cons_self
    obtain ⟨rs,rfl,a,b⟩:=runs_all (ds:=ds) fun x hx=>h x (List.mem_cons_of_mem _ hx)
    exact ⟨r :: rs,rfl,(fun q hq=>(List.mem_cons.mp hq).elim (fun e=>e ▸ lw) (a q)),fun q hq=>(List.mem_cons.mp hq).elim (fun e=>e ▸ r1) (b q)⟩
theorem rD_inj:∀ {rs qs:List Rc},rs.map rD=qs.map rD→rs=qs
  | [],[],_=>rfl
  | [],_ :: _,h=>by cases h
  | _ :: _,[],h=>by cases h
  | (a,b) :: rs,(c,d) :: qs,h=>by
    rw [List.map_cons,List.map_cons] at h
    injection h with h1 h2
    rw [rD_inj h2]
    unfold rD at h1
    injection h1 with h1
    injection h1 with h1 h3
    injection h1 with h1
    injection h3 with h3 _
    injection h3 with h3
    have h1':#[a]=#[c]:=by injection h1
    have h1'':a=c:=by simpa using h1'
    have h3':b=d:=by omega
    rw [h1'',h3']
theorem td_runs {H:Hp}:∀ {xs:List V} {rs:List Rc},Tds H xs (rs.map rD)→∃ as:List Addr,xs=as.map V.ref∧RsAt H as (rs.map toRn)
  | _,[],t=>by cases t;exact ⟨[],rfl,rfl,fun i a r x=>by simp at x⟩
  | _,r :: rs,t=>by
    cases t with
    | cons t u=>
      obtain ⟨as,rfl,ra⟩:=td_runs u
      unfold rD at t
      obtain ⟨a,ys,ds',rfl,e,ha,tt⟩:=isTup_ex t rfl
      injection e with e
      subst e
      cases tt with
      | cons t0 tt=>cases tt with
        | cons t1 tt=>
          cases tt
          cases t0;cases t1
          refine ⟨a :: as,rfl,by rw [List.length_cons,List.map_cons,List.length_cons,ra.1],fun i b q x y=>?_⟩
          cases i with
          | zero=>cases x;cases y;exact ha
          | succ i=>exact ra.2 i b q (by simpa using x) (by simpa using y)
theorem all_bs {bs:List Bool} {ds:List PyData} {Pr:PyData→Prop} (l:bs.length=ds.length) (h:∀ (i:Nat) (b:Bool) (d:PyData),bs[i]?=some b→ds[i]?=some d→(b=true ↔ Pr d)):bs.all id=true ↔ ∀ d∈ds,Pr d:=by
  rw [List.all_eq_true]
  constructor
  · intro g d hd
    obtain ⟨i,hi,e⟩:=List.getElem_of_mem hd
    have ib:i < bs.length:=by omega
    exact (h i bs[i] d (List.getElem?_eq_getElem ib) (by rw [List.getElem?_eq_getElem hi,e])).mp (g _ (List.getElem_mem ib))
  · intro g b hb
    obtain ⟨i,hi,e⟩:=List.getElem_of_mem hb
    have id':i < ds.length:=by omega
    exact (h i b ds[i] (by rw [List.getElem?_eq_getElem hi,e]) (List.getElem?_eq_getElem id')).mpr (g _ (List.getElem_mem id'))
theorem rn_at {rs:List Rc} {i:Nat} (h:i < rs.length):(rs.map toRn)[i]?=some (toRn rs[i]):=by rw [List.getElem?_map,List.getElem?_eq_getElem h];rfl
theorem RsAt.at {H:Hp} {as:List Addr} {rs:List Rc} (h:RsAt H as (rs.map toRn)) {i:Nat} (hi:i < rs.length):∃ a,atI (as.map V.ref) (i:Int)=some (.ref a)∧H a=some (.tup [.str ⟨#[rs[i].1]⟩,.int (rs[i].2:Int)]):=by
  have al:=h.1
  rw [List.length_map] at al
  have e:as[i]?=some (as[i]'(by omega)):=List.getElem?_eq_getElem (by omega)
  exact ⟨as[i]'(by omega),atI_nat (by rw [List.getElem?_map,e];rfl),h.2 i _ _ e (rn_at hi)⟩
theorem nb_all {rs:List Rc} {bs:List Bool} (l:bs.length=rs.length - 1) (h:∀ (j:Nat) (b:Bool),bs[j]?=some b→∀ x y,rs[j]?=some x→rs[j+1]?=some y→(b=true ↔ x.1≠y.1)):bs.all id=true ↔ W38.Nb rs:=by
  rw [List.all_eq_true]
  constructor
  · intro g i a b x y
    have il:=(List.getElem?_eq_some_iff.mp y).1
    have ib:i < bs.length:=by omega
    exact (h i bs[i] (List.getElem?_eq_getElem ib) a b x y).mp (g _ (List.getElem_mem ib))
  · intro g b hb
    obtain ⟨i,hi,e⟩:=List.getElem_of_mem hb
    have i1:i < rs.length:=by omega
    have i2:i+1 < rs.length:=by omega
    exact (h i b (by rw [List.getElem?_eq_getElem hi,e]) _ _ (List.getElem?_eq_getElem i1) (List.getElem?_eq_getElem i2)).mpr (g i _ _ (List.getElem?_eq_getElem i1) (List.getElem?_eq_getElem i2))
def sp_isruns:Sp:=fun vs H Q _=>∃ (v:V) (d:PyData),vs=[v]∧Td H v d∧ShN d∧∀ (b:Bool) (H':Hp),Same H H'→(b=true ↔ RunsD d)→Q (.bl b) H'
theorem has_isruns (D:Df K mg "is_runs" s_is_runs) (B:Blt7 mg) (G_is_run:Has P w K mg base "is_run" k ["thing"] sp_isrun):Has P w K mg base "is_runs" (k+1) ["thing"] sp_isruns:=by
  refine D.has sc_is_runs (fun _ _ _ _ _ _ us hl=>match us,hl with | [_],_=>rfl) (fun vs H Q E h=>by obtain ⟨x,d,rfl,_⟩:=h;rfl) (fun f cdv A outer s H vs Q E hr h=>?_)
  obtain ⟨v,d,rfl,td,sh,q⟩:=h
  refine ⟨_,(pss_cons (ps_if (PW.pt (pw_or (pt_not (pt_val (pe_callB call_isinst rfl B.isinstance bt_isinstance (pa_cons (pv 0) (pa_cons (pe_bltn (v:=.ty "tuple") rfl B.tuple_ bt_tuple rfl) pa_nil))))) (pw_or1 (pt_not (pt_val (pe_callB (call_all rfl) rfl B.all bt_all (pa_cons (pe_comp rfl (pi_tup (pv 0)) (NL:=["part"]) (ix:=[]) (csc (defScope s_is_runs) N_is_runs) (fun cl C s₃ H₃ fp pins=>⟨(pg_name (i:=0) (show List.Nodup (["part"]:List Str) from by decide +kernel) rfl (by first | exact Or.inl rfl | exact Or.inr rfl)),pifs_nil,(pe_callH G_is_run hr rfl (pa_cons (pv 0) pa_nil))⟩)) pa_nil)))))))
  (pss_one (ps_ret pe_bl))
  pss_nil)
  (pss_one (ps_ret (pe_callB (call_all rfl) rfl B.all bt_all (pa_cons (pe_comp rfl (pi_range2 rfl B.range (pa_cons pe_int (pa_cons (pe_callB call_len_seq rfl B.len bt_len (pa_cons (pv 0) pa_nil)) pa_nil))) (NL:=["k"]) (ix:=[0]) (csc (defScope s_is_runs) N_is_runs) (fun cl C s₃ H₃ fp pins=>⟨(pg_name (i:=0) (show List.Nodup (["k", "thing"]:List Str) from by decide +kernel) rfl (by first | exact Or.inl rfl | exact Or.inr rfl)),pifs_nil,(pe_cmpR op_ne (pe_ix (ix_tupK K) (pe_ix (ix_tupK K) (pv 1) (pe_op op_sub (pv 0) pe_int) (fun _ _=>rfl)) pe_int (fun _ _=>rfl)) (pe_ix (ix_tupK K) (pe_ix (ix_tupK K) (pv 1) (pv 0) (fun _ _=>rfl)) pe_int (fun _ _=>rfl)) (nomark _))⟩)) pa_nil))))),?_⟩
  have no:¬ RunsD d→(false=true ↔ RunsD d):=fun n=>⟨(fun z=>by cases z),fun z=>absurd z n⟩
  obtain ⟨t1,a1,a2⟩:=td_tup (K:=K) td
  refine ⟨_,rfl,_,t1, "tuple", _,rfl,a1,a2,_,rfl,?_⟩
  by_cases ct:isTupD d=true
  rotate_left
  · refine iteA (by rw [Bool.eq_false_iff.mpr ct];rfl) ?_
    exact q false H (Same.refl H) (no fun ⟨_,e,_⟩=>ct (by rw [e];rfl))
  refine L2.iteB (by rw [ct];rfl) ?_
  obtain ⟨a,xs,ds,rfl,rfl,ha,tds⟩:=isTup_ex td ct
  have xl:=tds.len
  obtain ⟨ds2,shk⟩:=sh ds rfl
  refine ⟨_,rfl,a,rfl,⟨_,SqT.of ha⟩,fun acc hacc=>?_⟩
  refine comp_tupI (K:=K) (a:=a) (xs:=xs) (by omega) (fun i ys HX=>HX acc=some (.lst ys)∧Same H HX∧∃ bs:List Bool,ys=bs.map V.bl∧bs.length=i∧∀ (j:Nat) (b:Bool) (d:PyData),bs[j]?=some b→ds[j]?=some d→(b=true ↔ RunD d)) (fun i ys HX h=>SqT.of (h.2.1 _ _ ha)) (fun i ys HX h=>⟨h.1,by obtain ⟨_,_,bs,rfl,e,_⟩:=h;rw [List.length_map];omega⟩) ⟨upd_same,(Same.refl H).new hacc,[],rfl,rfl,fun j b d h=>by simp at h⟩ ?_ ?_
  rotate_left
  · rintro i x ys HX hx ⟨g1,sX,bs,rfl,bl,bb⟩
    have il:=(List.getElem?_eq_some_iff.mp hx).1
    have ed:ds[i]?=some (ds[i]'(by omega)):=List.getElem?_eq_getElem (by omega)
    have tdx:Td H x (ds[i]'(by omega)):=by
      obtain ⟨d',e',t'⟩:=tds.get hx
      rw [ed] at e';cases e';exact t'
    refine ⟨rfl,_,rfl,x,_,rfl,tdx.same sX,shk _ (List.getElem_mem _),fun b H2 s2 hb=>?_⟩
    refine ⟨s2 _ _ g1,upd_same,(sX.trans s2).write hacc,bs++[b],by rw [List.map_append];rfl,by rw [List.length_append,bl];rfl,fun j b' d' x1 x2=>?_⟩
    rcases Nat.lt_or_ge j bs.length with lt | ge
    · rw [List.getElem?_append_left lt] at x1
      exact bb j b' d' x1 x2
    · rw [List.getElem?_append_right ge] at x1
      cases e:j - bs.length with
      | zero=>
        rw [e] at x1
        cases x1
        obtain rfl:j=i:=by omega
        rw [ed] at x2
        cases x2
        exact hb
      | succ n=>rw [e] at x1;cases x1
  rintro ys H1 ⟨g1,s1,bs,rfl,bl,bb⟩
  have ab:=all_bs (Pr:=RunD) (by omega) bb
  refine ⟨acc,bs,rfl,SqL.of g1,_,rfl,?_⟩
  by_cases ca:bs.all id=true
  rotate_left
  · refine iteA (by rw [Bool.eq_false_iff.mpr ca];rfl) ?_
    refine q false H1 s1 (no fun ⟨rs,e,g⟩=>ca (ab.mpr fun d hd=>?_))
    injection e with e
    rw [e] at hd
    obtain ⟨r,hr,rfl⟩:=List.mem_map.mp hd
    exact ⟨r,rfl,g.lt r hr,g.pos r hr⟩
  refine L2.iteB (by rw [ca];rfl) ?_
  obtain ⟨rs,rfl,lws,pos⟩:=runs_all (ab.mp ca)
  obtain ⟨as,rfl,ra⟩:=td_runs tds
  have rl:rs.length=(as.map V.ref).length:=by rw [xl,List.length_map]
  have rb:rs.length≤200:=by rw [List.length_map] at ds2;exact ds2
  have ra1:=ra.same s1
  refine ⟨_,rfl,a,_,rfl,.inr (SqT.of (s1 _ _ ha)),1,_,rfl,⟨by decide,by decide,by omega,by omega⟩,fun ac2 hac2=>?_⟩
  have en:((((as.map V.ref).length:Nat):Int) - 1).toNat=rs.length - 1:=by omega
  rw [en]
  refine comp_by (rs.length - 1) (by omega) (fun i ys HX=>HX ac2=some (.lst ys)∧Same H1 HX∧∃ bs:List Bool,ys=bs.map V.bl∧bs.length=i∧∀ (j:Nat) (b:Bool),bs[j]?=some b→∀ x y,rs[j]?=some x→rs[j+1]?=some y→(b=true ↔ x.1≠y.1)) (fun i ys HX h=>⟨h.1,by obtain ⟨_,_,bs,rfl,e,_⟩:=h;rw [List.length_map];omega⟩) ⟨upd_same,(Same.refl H1).new hac2,[],rfl,rfl,fun j b h=>by simp at h⟩ ?_ ?_
  · rintro ys H2 ⟨g2,s2,b2,rfl,bl2,bb2⟩
    refine ⟨Nat.le_refl _,?_⟩
    refine ⟨ac2,b2,rfl,SqL.of g2,?_⟩
    refine q _ H2 (s1.trans s2) ?_
    rw [nb_all bl2 bb2]
    exact ⟨fun h=>⟨rs,rfl,lws,pos,h⟩,fun ⟨qs,e,g⟩=>by injection e with e;rw [rD_inj e];exact g.nb⟩
  · rintro i ys HX hi ⟨g2,sX,b2,rfl,bl2,bb2⟩
    refine ⟨hi,?_⟩
    rintro x' HX' ⟨rfl,rfl⟩
    have hx:=sX _ _ (s1 _ _ ha)
    obtain ⟨r0,e0,h0⟩:=(ra1.same sX).at (i:=i) (by omega)
    obtain ⟨r1,e1,h1⟩:=(ra1.same sX).at (i:=i+1) (by omega)
    refine ⟨rfl,_,rfl,_,rfl,_,_,rfl,rfl,a,_,_,_,rfl,rfl,SqT.of hx,(by rw [show (1+(i:Int) - 1)=(i:Int) by omega];exact e0),r0,_,_,_,rfl,rfl,SqT.of h0,rfl,_,rfl,_,rfl,a,_,_,_,rfl,rfl,SqT.of hx,(by rw [show (1+(i:Int))=((i+1:Nat):Int) by omega];exact e1),r1,_,_,_,rfl,rfl,SqT.of h1,rfl,rfl,?_⟩
    refine ⟨g2,upd_same,sX.write hac2,b2++[_],by rw [List.map_append];rfl,by rw [List.length_append,bl2];rfl,fun j b' x1 x y hx1 hy1=>?_⟩
    rcases Nat.lt_or_ge j b2.length with lt | ge
    · rw [List.getElem?_append_left lt] at x1
      exact bb2 j b' x1 x y hx1 hy1
    · rw [List.getElem?_append_right ge] at x1
      cases e:j - b2.length with
      | zero=>
        rw [e] at x1
        cases x1
        obtain rfl:j=i:=by omega
        rw [List.getElem?_eq_getElem (by omega)] at hx1 hy1
        cases hx1;cases hy1
        have hd:∀ a b:Nat,(V.str (⟨#[a]⟩:Str)=V.str (⟨#[b]⟩:Str)) ↔ a=b:=fun a b=>⟨fun h=>by
          injection h with h
          injection h with h
          simpa using h,fun h=>by rw [h]⟩
        rw [Bool.not_eq_true',decide_eq_false_iff_not,hd]
      | succ n=>rw [e] at x1;cases x1
def mk (l:List Nat):Str:=⟨l.toArray⟩
theorem mk_cps (l:List Nat):(mk l).cps.toList=l:=rfl
theorem tot_len:∀ rs:List Rc,W39.tot (rs.map toRn)=(W38.len rs:Int)
  | []=>rfl
  | r :: rs=>by
    rw [List.map_cons,W39.tot_cons,tot_len rs]
    show (r.2:Int)+_=_
    unfold W38.len
    rw [List.map_cons,List.sum_cons]
    omega
theorem len_mem:∀ {rs:List Rc} {r:Rc},r∈rs→r.2≤W38.len rs
  | q :: rs,r,h=>by
    unfold W38.len
    rw [List.map_cons,List.sum_cons]
    rcases List.mem_cons.mp h with rfl | h
    · omega
    · have:=len_mem h;unfold W38.len at this;omega
def TxD (d:PyData) (rs:List Rc):Prop:=d=.tuple (rs.map rD)∧W38.Good Lw rs∧W38.len rs≤4000
def pieces (rs:List Rc):List Str:=rs.map fun r=>Txt.mul ⟨#[r.1]⟩ (r.2:Int)
theorem pieces_cps (rs:List Rc):((pieces rs).map fun z:Str=>z.cps.toList).flatten=W38.dec rs:=by
  unfold pieces W38.dec
  rw [List.map_map,List.flatMap]
  congr 1
  apply List.map_congr_left
  intro r _
  show (Txt.mul ⟨#[r.1]⟩ (r.2:Int)).cps.toList=_
  rw [mul_cps (by omega),Int.toNat_natCast]
theorem pieces_join (rs:List Rc):Txt.join (Str.ofString "") (pieces rs)=mk (W38.dec rs):=str_ext (by rw [join_cps,pieces_cps];rfl)
theorem pieces_sum (rs:List Rc):((pieces rs).map (·.length)).sum=W38.len rs:=by
  unfold pieces W38.len
  rw [List.map_map]
  congr 1
  apply List.map_congr_left
  intro r _
  show (Txt.mul ⟨#[r.1]⟩ (r.2:Int)).length=r.2
  rw [← cps_len,mul_cps (by omega),List.length_replicate,Int.toNat_natCast]
theorem pieces_ok {rs:List Rc} (l:W38.len rs≤4000):((pieces rs).map (·.length)).sum+(pieces rs).length * (Str.ofString "").length≤16777216:=by
  have e:(Str.ofString "").length=0:=rfl
  rw [pieces_sum,e];omega
def sp_tby (cP:Addr):Sp:=fun vs H Q E=>∃ (v:V) (d:PyData),vs=[v]∧Td H v d∧ShN d∧(∀ rs,TxD d rs→∀ H',Same H H'→Q (.str (mk (W38.dec rs))) H')∧((∀ rs,¬ TxD d rs)→∀ a H',Same H H'→H' a=none→E (.ref a) (some cP) H')
theorem has_tby (EX:Exs K mg) (D:Df K mg "text_by" s_text_by) (B:Blt7 mg) (G_is_runs:Has P w K mg base "is_runs" k ["thing"] sp_isruns) (G_length_of:Has P w K mg base "length_of" k ["runs"] sp_len):HasX P w K mg base "text_by" (k+1) ["runs"] (sp_tby EX.c_NoRuns):=by
  refine D.hasX sc_text_by (fun _ _ _ _ _ _ us hl=>match us,hl with | [_],_=>rfl) (fun vs H Q E h=>by obtain ⟨v,d,rfl,_⟩:=h;rfl) (fun f cdv A outer s H vs Q E hr h=>?_)
  obtain ⟨v,d,rfl,td,sh,q,qe⟩:=h
  obtain ⟨u2,h_MOST_LETTERS,r_MOST_LETTERS⟩:=B.most
  refine ⟨_,(pss_cons (ps_if (PW.pt (pw_or (pt_not (pt_val (pe_callH G_is_runs hr rfl (pa_cons (pv 0) pa_nil)))) (pw_or1 (pt_cmpR op_gt (pe_callH G_length_of hr rfl (pa_cons (pv 0) pa_nil)) (pe_glob (v:=.int 4000) rfl h_MOST_LETTERS r_MOST_LETTERS) (nomark _)))))
  (pss_one (ps_raise raises_cx EX.m_NoRuns EX.q_NoRuns rfl (pa_cons pe_str pa_nil)))
  pss_nil)
  (pss_one (ps_ret (pe_bm PySem.F.plainAttrs_str PySem.F.slot_str_join PySem.F.type_str_join mt_join pe_str (pa_cons (pe_comp rfl (pi_tup (pv 0)) (NL:=["run"]) (ix:=[]) (csc (defScope s_text_by) N_text_by) (fun cl C s₃ H₃ fp pins=>⟨(pg_name (i:=0) (show List.Nodup (["run"]:List Str) from by decide +kernel) rfl (by first | exact Or.inl rfl | exact Or.inr rfl)),pifs_nil,(pe_op op_mul_str (pe_ix (ix_tupK K) (pv 0) pe_int (fun _ _=>rfl)) (pe_ix (ix_tupK K) (pv 0) pe_int (fun _ _=>rfl)))⟩)) pa_nil))))),?_⟩
  refine ⟨_,rfl,v,d,rfl,td,sh,fun b H1 s1 hb=>?_⟩
  refine ⟨_,rfl,?_⟩
  by_cases cb:b=true
  rotate_left
  · refine iteA (by rw [Bool.eq_false_iff.mpr cb];rfl) ?_
    exact ⟨line_le (show 1≤1000 by omega),fun a ha=>qe (fun rs h=>cb (hb.mpr ⟨rs,h.1,h.2.1⟩)) a H1 s1 ha⟩
  refine L2.iteB (by rw [cb];rfl) ?_
  obtain ⟨rs,rfl,good⟩:=hb.mp cb
  obtain ⟨a,xs,ds,rfl,e,ha,tds⟩:=isTup_ex td rfl
  injection e with e
  subst e
  obtain ⟨as,rfl,ra⟩:=td_runs tds
  have rb:=(sh _ rfl).1
  rw [List.length_map] at rb
  have rl:(as.map V.ref).length=rs.length:=by rw [rs_len ra,List.length_map]
  refine ⟨_,rfl,a,rs.map toRn,rfl,⟨as,s1 _ _ ha,ra.same s1⟩,by rw [List.length_map];omega,fun H2 s2=>?_⟩
  rw [tot_len]
  refine ⟨_,_,rfl,rfl,_,rfl,ite2 (fun c=>?_) (fun c=>?_)⟩
  · have c':=of_decide_eq_true c
    refine ⟨line_le (show 1≤1000 by omega),fun x hx=>qe (fun qs h=>?_) x H2 (s1.trans s2) hx⟩
    have e:=h.1
    injection e with e
    have:=h.2.2
    rw [← rD_inj e] at this
    omega
  · have c':W38.len rs≤4000:=by
      by_cases h:W38.len rs≤4000
      · exact h
      · exact absurd (decide_eq_true (by omega)) c
    have s12:=s1.trans s2
    refine ⟨rfl,_,rfl,a,rfl,⟨_,SqT.of (s12 _ _ ha)⟩,fun acc hacc=>?_⟩
    refine comp_tupI (K:=K) (a:=a) (xs:=as.map V.ref) (by omega) (fun i ys HX=>HX acc=some (.lst ys)∧Same H2 HX∧ys=((pieces (rs.take i)).map V.str)) (fun i ys HX h=>SqT.of (h.2.1 _ _ (s12 _ _ ha))) (fun i ys HX h=>⟨h.1,by rw [h.2.2,List.length_map];unfold pieces;rw [List.length_map,List.length_take];omega⟩) ⟨upd_same,(Same.refl H2).new hacc,rfl⟩ ?_ ?_
    · rintro ys H3 ⟨g3,s3,rfl⟩
      rw [rl,List.take_length] at g3
      refine ⟨_,acc,_,rfl,rfl,SqL.of g3,pieces_ok c',?_⟩
      rw [pieces_join]
      exact q rs ⟨rfl,good,c'⟩ H3 (s12.trans s3)
    · rintro i x ys HX hx ⟨g3,sX,rfl⟩
      have il:=(List.getElem?_eq_some_iff.mp hx).1
      obtain ⟨b0,r,rfl,_,er,hb0⟩:=(ra.same (s12.trans sX)).get hx
      rw [rn_at (by omega)] at er
      cases er
      have mm:=len_mem (rs:=rs) (List.getElem_mem (show i < rs.length by omega))
      refine ⟨rfl,_,rfl,b0,_,_,_,rfl,rfl,SqT.of hb0,rfl,_,rfl,b0,_,_,_,rfl,rfl,SqT.of hb0,rfl,_,_,rfl,rfl,mulok (by show (0:Int)≤((rs[i].2:Nat):Int);omega) (by show ((rs[i].2:Nat):Int)≤4000;omega),g3,upd_same,sX.write hacc,?_⟩
      unfold pieces
      rw [List.take_succ,List.getElem?_eq_getElem (by omega:i < rs.length),List.map_append,List.map_append]
      rfl
end
end S38
namespace S38
open PySem L2
theorem RsAt.unsnoc {H:Hp} {as:List Addr} {rs:List Rn} {r:Rn} (h:RsAt H as (rs++[r])):∃ as' a,as=as'++[a]∧RsAt H as' rs∧RunAt H a r:=by
  have l:=h.1
  rw [List.length_append] at l
  rcases List.eq_nil_or_concat as with e | ⟨as',a,e⟩
  · rw [e] at l;simp at l
  · have e':as=as'++[a]:=by rw [e];simp
    subst e'
    rw [List.length_append] at l
    have l':as'.length=rs.length:=by simpa using l
    refine ⟨as',a,rfl,⟨l',fun i b q x y=>?_⟩,?_⟩
    · exact h.2 i b q (by rw [List.getElem?_append_left (List.getElem?_eq_some_iff.mp x).1];exact x) (by rw [List.getElem?_append_left (List.getElem?_eq_some_iff.mp y).1];exact y)
    · exact h.2 as'.length a r (by rw [List.getElem?_append_right (Nat.le_refl _),Nat.sub_self];rfl) (by rw [List.getElem?_append_right (by omega),show as'.length - rs.length=0 by omega];rfl)
theorem last_ref {as:List Addr} {a:Addr}:atI ((as++[a]).map V.ref) (-1)=some (.ref a):=by
  unfold atI ixN
  rw [if_neg (by decide),List.length_map,List.length_append,if_pos (by show -(((as.length+1:Nat)):Int)≤-1;omega)]
  show ((as++[a]).map V.ref)[((-1:Int)+((as.length+1:Nat):Int)).toNat]?=_
  rw [show ((-1:Int)+((as.length+1:Nat):Int)).toNat=as.length by omega,List.map_append,List.getElem?_append_right (by rw [List.length_map];exact Nat.le_refl _),List.length_map,Nat.sub_self]
  rfl
theorem last_ix {n:Nat}:ixN (n+1) (-1)=some n:=by
  unfold ixN
  rw [if_neg (by decide),if_pos (by omega)]
  congr 1
  omega
section
variable {P:Program} {w:World} {K:PySem.W.Frag} {mg:Str→Option Value} {base:Heap} {k:Nat}
def sp_rof:Sp:=fun vs H Q _=>∃ z:Str,vs=[.str z]∧z.length≤4000∧(W38.enc z.cps.toList).length≤500∧∀ (t:Addr) (H':Hp),H t=none→Same H H'→RunsAt H' t ((W38.enc z.cps.toList).map toRn)→Q (.ref t) H'
theorem has_rof (D:Df K mg "runs_of" s_runs_of) (B:Blt7 mg):Has P w K mg base "runs_of" (k+1) ["text"] sp_rof:=by
  refine D.has sc_runs_of (fun _ _ _ _ _ _ us hl=>match us,hl with | [_],_=>rfl) (fun vs H Q E h=>by obtain ⟨z,rfl,_⟩:=h;rfl) (fun f cdv A outer s H vs Q E hr h=>?_)
  obtain ⟨z,rfl,zl,ze,q⟩:=h
  refine ⟨_,(pss_cons (ps_set (i:=1) sc_runs_of.nd rfl (by first | exact Or.inl rfl | exact Or.inr rfl) (pe_lst pa_nil))
  (pss_cons (ps_for PassesOwn.never rfl (pi_str (pv 0)) (pg_name (i:=2) sc_runs_of.nd rfl (by first | exact Or.inl rfl | exact Or.inr rfl))
  (pss_one (ps_if (PW.pt (pw_and (pt_truth (pv 1) (fun _=>rfl)) (pw_and1 (pt_cmpR op_eq (pe_ix ix_tup (pe_ix ix_list (pv 1) (pe_un un_neg pe_int) (fun _ _=>rfl)) pe_int (fun _ _=>rfl)) (pv 2) (nomark _)))))
  (pss_one (ps_asg (pe_tup (pa_cons (pv 2) (pa_cons (pe_op op_add (pe_ix ix_tup (pe_ix ix_list (pv 1) (pe_un un_neg pe_int) (fun _ _=>rfl)) pe_int (fun _ _=>rfl)) pe_int) pa_nil))) (pg_sub (pv 1) (pe_un un_neg pe_int) set_list)))
  (pss_one (ps_expr (pe_bm PySem.F.plainAttrs_list PySem.F.slot_list_append PySem.F.type_list_append mt_append (pv 1) (pa_cons (pe_tup (pa_cons (pv 2) (pa_cons pe_int pa_nil))) pa_nil)))))))
  (pss_one (ps_ret (pe_callTy call_tuple_of rfl B.tuple_ bt_tuple (pa_cons (pv 1) pa_nil)))))),?_⟩
  refine ⟨line_le (show 0≤1000 by omega),fun l hl=>?_⟩
  have s0:Same H (upd H l (.lst [])):=(Same.refl H).new hl
  have g0:upd H l (.lst []) l=some (.lst []):=upd_same
  show (fun HH=>_) (upd H l (.lst []))
  generalize upd H l (.lst [])=H0 at s0 g0
  have ele:∀ i,(W38.enc (z.cps.toList.take i)).length≤500:=fun i=>Nat.le_trans (W38.enc_take _ _) ze
  refine ⟨_,rfl,_,rfl,?_⟩
  refine for_str (z:=z) (fun i σ HX=>∃ (o2:Option V) (as:List Addr),σ=[some (.str z),some (.ref l),o2]∧Same H HX∧HX l=some (.lst (as.map V.ref))∧RsAt HX as ((W38.enc (z.cps.toList.take i)).map toRn)) ⟨none,[],rfl,s0,g0,rfl,fun i a r h=>by simp at h⟩ ?_ ?_
  rotate_left
  · rintro σ HX ⟨o2,as,rfl,sX,gX,rX⟩
    rw [List.take_length] at rX
    refine ⟨_,rfl,l,_,rfl,.inl ⟨SqL.of gX,fun t ht=>?_⟩⟩
    have sT:Same HX (upd HX t (.tup (as.map V.ref))):=(Same.refl HX).new ht
    exact q t _ (sX.free ht) (sX.trans sT) ⟨as,upd_same,rX.same sT⟩
  rintro i c σ HX hc ⟨o2,as,rfl,sX,gX,rX⟩
  have et:W38.enc (z.cps.toList.take (i+1))=W38.step (W38.enc (z.cps.toList.take i)) c:=by rw [List.take_succ,hc];exact W38.enc_snoc _ _
  have al:as.length≤500:=by rw [rX.1,List.length_map];exact ele i
  have app:∀ {HY:Hp},Same HX HY→∀ b,HY b=none→W38.step (W38.enc (z.cps.toList.take i)) c=W38.enc (z.cps.toList.take i)++[(c,1)]→upd HY b (.tup [.str ⟨#[c]⟩,.int 1]) l=some (.lst (as.map V.ref))∧Same H (upd (upd HY b (.tup [.str ⟨#[c]⟩,.int 1])) l (.lst (as.map V.ref++[.ref b])))∧upd (upd HY b (.tup [.str ⟨#[c]⟩,.int 1])) l (.lst (as.map V.ref++[.ref b])) l=some (.lst ((as++[b]).map V.ref))∧RsAt (upd (upd HY b (.tup [.str ⟨#[c]⟩,.int 1])) l (.lst (as.map V.ref++[.ref b]))) (as++[b]) ((W38.enc (z.cps.toList.take (i+1))).map toRn):=fun {HY} sY b hb es=>by
    have s1:Same HY (upd HY b (.tup [.str ⟨#[c]⟩,.int 1])):=(Same.refl HY).new hb
    have g1:upd HY b (.tup [.str ⟨#[c]⟩,.int 1]) b=some (.tup [.str ⟨#[c]⟩,.int 1]):=upd_same
    generalize upd HY b (.tup [.str ⟨#[c]⟩,.int 1])=H1 at s1 g1
    have gl:=s1 _ _ (sY _ _ gX)
    have kp:∀ a xs,H1 a=some (.tup xs)→upd H1 l (.lst (as.map V.ref++[.ref b])) a=some (.tup xs):=fun a xs e=>by
      rw [upd_ne (fun z=>by rw [z,gl] at e;cases e)];exact e
    refine ⟨gl,((sX.trans sY).trans s1).write hl,by rw [upd_same,List.map_append];rfl,?_⟩
    rw [et,es,List.map_append]
    exact ((rX.same (sY.trans s1)).keep kp).snoc (kp _ _ g1)
  refine ⟨_,rfl,_,.inl ⟨_,SqL.of gX,rfl⟩,?_⟩
  rcases W38.snoc_or (W38.enc (z.cps.toList.take i)) with e0 | ⟨ys,r,e0⟩
  · have as0:as=[]:=by
      have:=rX.1
      rw [e0] at this
      exact List.length_eq_zero_iff.mp this
    refine L2.iteB (by rw [as0];rfl) ?_
    refine ⟨_,rfl,.inl ⟨rfl,_,SqL.of gX⟩,_,rfl,line_le (show 2≤1000 by omega),fun b hb=>?_⟩
    obtain ⟨x1,x2,x3,x4⟩:=app (Same.refl HX) b hb (by rw [e0];rfl)
    exact ⟨l,_,_,rfl,rfl,x1,small1000 (by rw [List.length_map];omega),_,as++[b],rfl,x2,x3,x4⟩
  · rw [e0,List.map_append] at rX
    obtain ⟨as',a,rfl,rX',ra⟩:=rX.unsnoc
    refine iteA (by rw [List.map_append];cases as'.map V.ref <;> rfl) ?_
    refine ⟨_,rfl,_,rfl,l,_,_,_,rfl,rfl,SqL.of gX,last_ref,a,_,_,_,rfl,rfl,SqT.of ra,rfl,_,rfl,rfl,_,rfl,ite2 (fun cc=>?_) (fun cc=>?_)⟩
    · have c':=of_decide_eq_true cc
      injection c' with c'
      injection c' with c'
      have c'':r.1=c:=by simpa using c'
      refine ⟨_,rfl,_,rfl,_,rfl,l,_,_,_,rfl,rfl,SqL.of gX,last_ref,a,_,_,_,rfl,rfl,SqT.of ra,rfl,_,_,rfl,rfl,line_le (show 2≤1000 by omega),fun b hb=>?_⟩
      generalize hJ:upd HX b _=H1
      have s1:Same HX H1:=by rw [← hJ];exact (Same.refl HX).new hb
      have g1:H1 b=some (.tup [.str ⟨#[c]⟩,.int ((r.2:Int)+1)]):=by rw [← hJ];exact upd_same
      clear hJ
      have gl:=s1 _ _ gX
      refine ⟨_,rfl,_,rfl,l,_,_,as'.length,rfl,rfl,gl,(by rw [List.length_map,List.length_append];exact last_ix),?_⟩
      have eset:((as'++[a]).map V.ref).set as'.length (.ref b)=(as'++[b]).map V.ref:=by
        rw [List.map_append,List.map_append,List.set_append_right _ _ (by rw [List.length_map];exact Nat.le_refl _),List.length_map,Nat.sub_self]
        rfl
      rw [eset]
      have kp:∀ x xs,H1 x=some (.tup xs)→upd H1 l (.lst ((as'++[b]).map V.ref)) x=some (.tup xs):=fun x xs e=>by
        rw [upd_ne (fun z=>by rw [z,gl] at e;cases e)];exact e
      refine ⟨_,as'++[b],rfl,(sX.trans s1).write hl,upd_same,?_⟩
      rw [et,e0,W38.step_snoc,if_pos c'',List.map_append (f:=toRn)]
      exact RsAt.snoc (a:=b) (r:=toRn (c,r.2+1)) ((rX'.same s1).keep kp) (by
        have:=kp _ _ g1
        show _=some (HO.tup [.str ⟨#[c]⟩,.int (((r.2+1:Nat)):Int)])
        rw [show (((r.2+1:Nat)):Int)=(r.2:Int)+1 by omega]
        exact this)
    · have c':¬ r.1=c:=fun h=>cc (decide_eq_true (by show V.str ⟨#[r.1]⟩=V.str ⟨#[c]⟩;rw [h]))
      refine ⟨_,rfl,.inl ⟨rfl,_,SqL.of gX⟩,_,rfl,line_le (show 2≤1000 by omega),fun b hb=>?_⟩
      obtain ⟨x1,x2,x3,x4⟩:=app (Same.refl HX) b hb (by rw [e0,W38.step_snoc,if_neg c'])
      exact ⟨l,_,_,rfl,rfl,x1,small1000 (by rw [List.length_map];omega),_,as'++[a]++[b],rfl,x2,x3,x4⟩
def sp_walk:Sp:=sp_rof
theorem at_str {z:Str} {i:Nat} (h:i < z.cps.toList.length):atI z.cps.toList (i:Int)=some (z.cps.toList.getD i 0):=atI_nat (by rw [List.getElem?_eq_getElem h,List.getD_eq_getElem?_getD,List.getElem?_eq_getElem h];rfl)
theorem take_at {l:List Nat} {i:Nat} (h:i < l.length):l.take (i+1)=l.take i++[l.getD i 0]:=by
  rw [List.take_succ,List.getElem?_eq_getElem h,List.getD_eq_getElem?_getD,List.getElem?_eq_getElem h];rfl
theorem has_walk (D:Df K mg "_law_walked" s_law_walked) (B:Blt7 mg):Has P w K mg base "_law_walked" (k+1) ["text"] sp_walk:=by
  refine D.has sc_law_walked (fun _ _ _ _ _ _ us hl=>match us,hl with | [_],_=>rfl) (fun vs H Q E h=>by obtain ⟨z,rfl,_⟩:=h;rfl) (fun f cdv A outer s H vs Q E hr h=>?_)
  obtain ⟨z,rfl,zl,ze,q⟩:=h
  refine ⟨_,(pss_cons (ps_set (i:=1) sc_law_walked.nd rfl (by first | exact Or.inl rfl | exact Or.inr rfl) (pe_lst pa_nil))
  (pss_cons (ps_set (i:=2) sc_law_walked.nd rfl (by first | exact Or.inl rfl | exact Or.inr rfl) pe_int)
  (pss_cons (ps_for PassesOwn.never rfl (pi_range2 rfl B.range (pa_cons pe_int (pa_cons (pe_op op_add (pe_callB call_len_str rfl B.len bt_len (pa_cons (pv 0) pa_nil)) pe_int) pa_nil))) (pg_name (i:=3) sc_law_walked.nd rfl (by first | exact Or.inl rfl | exact Or.inr rfl))
  (pss_one (ps_if (PW.pt (pw_or (pt_cmpR op_eq (pv 3) (pe_callB call_len_str rfl B.len bt_len (pa_cons (pv 0) pa_nil)) (nomark _)) (pw_or1 (pt_cmpR op_ne (pe_ix ix_str (pv 0) (pv 3) (fun _ _=>rfl)) (pe_ix ix_str (pv 0) (pv 2) (fun _ _=>rfl)) (nomark _)))))
  (pss_cons (ps_expr (pe_bm PySem.F.plainAttrs_list PySem.F.slot_list_append PySem.F.type_list_append mt_append (pv 1) (pa_cons (pe_tup (pa_cons (pe_ix ix_str (pv 0) (pv 2) (fun _ _=>rfl)) (pa_cons (pe_op op_sub (pv 3) (pv 2)) pa_nil))) pa_nil)))
  (pss_one (ps_set (i:=2) sc_law_walked.nd rfl (by first | exact Or.inl rfl | exact Or.inr rfl) (pv 3))))
  pss_nil)))
  (pss_one (ps_ret (pe_callTy call_tuple_of rfl B.tuple_ bt_tuple (pa_cons (pv 1) pa_nil))))))),?_⟩
  have zc:=cps_len z
  have zs:z.length≤sizeLine:=by rw [sizeLine_eq];omega
  refine ⟨line_le (show 0≤1000 by omega),fun l hl=>?_⟩
  refine mid (fun σ' H'=>σ'=[some (.str z),some (.ref l),none,none]∧Same H H'∧H' l=some (.lst [])) ?_ fun E nx=>nx _ _ ⟨rfl,(Same.refl H).new hl,upd_same⟩
  rintro σ1 H0 ⟨rfl,s0,g0⟩
  refine mid (fun σ' H'=>σ'=[some (.str z),some (.ref l),some (.int 0),none]∧H'=H0) ?_ fun E nx=>nx _ _ ⟨rfl,rfl⟩
  rintro σ1 H0' ⟨rfl,rfl⟩
  have ele:∀ i,(W38.enc (z.cps.toList.take i)).length≤500:=fun i=>Nat.le_trans (W38.enc_take _ _) ze
  refine ⟨_,rfl,z,rfl,zs,_,_,rfl,rfl,1,_,rfl,⟨by decide,by decide,by omega,by omega⟩,?_⟩
  have en:(((z.length:Nat):Int)+1 - 1).toNat=z.length:=by omega
  rw [en]
  refine for_range (lo:=1) (n:=z.length) (fun i σ HX=>∃ (o3:Option V) (fi:Nat) (as:List Addr) (rs:List Rc),σ=[some (.str z),some (.ref l),some (.int (fi:Int)),o3]∧Same H HX∧HX l=some (.lst (as.map V.ref))∧RsAt HX as (rs.map toRn)∧rs.length≤500∧(i < z.length→fi≤i∧W38.enc (z.cps.toList.take (i+1))=rs++[(z.cps.toList.getD fi 0,i+1 - fi)])∧(i=z.length→rs=W38.enc z.cps.toList)) ⟨none,0,[],[],rfl,s0,g0,⟨rfl,fun i a r h=>by simp at h⟩,by simp,fun h=>⟨Nat.le_refl _,by rw [take_at (by omega)];rfl⟩,fun h=>by rw [List.length_eq_zero_iff.mp (zc.trans h.symm)];rfl⟩ ?_ ?_
  rotate_left
  · rintro σ HX ⟨o3,fi,as,rs,rfl,sX,gX,rX,_,_,e⟩
    rw [e rfl] at rX
    refine ⟨_,rfl,l,_,rfl,.inl ⟨SqL.of gX,fun t ht=>?_⟩⟩
    have sT:Same HX (upd HX t (.tup (as.map V.ref))):=(Same.refl HX).new ht
    exact q t _ (sX.free ht) (sX.trans sT) ⟨as,upd_same,rX.same sT⟩
  rintro i σ HX hi ⟨o3,fi,as,rs,rfl,sX,gX,rX,rl,inv,_⟩
  obtain ⟨fl,ei⟩:=inv hi
  have al:as.length≤500:=by rw [rX.1,List.length_map];exact rl
  have afi:=at_str (z:=z) (i:=fi) (by omega)
  have put:∀ b,HX b=none→∃ HZ:Hp,upd (upd HX b (.tup [.str ⟨#[z.cps.toList.getD fi 0]⟩,.int (1+(i:Int) - (fi:Int))])) l (.lst (as.map V.ref++[.ref b]))=HZ∧upd HX b (.tup [.str ⟨#[z.cps.toList.getD fi 0]⟩,.int (1+(i:Int) - (fi:Int))]) l=some (.lst (as.map V.ref))∧Same H HZ∧HZ l=some (.lst ((as++[b]).map V.ref))∧RsAt HZ (as++[b]) ((W38.enc (z.cps.toList.take (i+1))).map toRn):=fun b hb=>by
    have s1:Same HX (upd HX b (.tup [.str ⟨#[z.cps.toList.getD fi 0]⟩,.int (1+(i:Int) - (fi:Int))])):=(Same.refl HX).new hb
    have g1:upd HX b (.tup [.str ⟨#[z.cps.toList.getD fi 0]⟩,.int (1+(i:Int) - (fi:Int))]) b=some (.tup [.str ⟨#[z.cps.toList.getD fi 0]⟩,.int (1+(i:Int) - (fi:Int))]):=upd_same
    generalize upd HX b (.tup [.str ⟨#[z.cps.toList.getD fi 0]⟩,.int (1+(i:Int) - (fi:Int))])=H1 at s1 g1
    have gl:=s1 _ _ gX
    have kp:∀ a xs,H1 a=some (.tup xs)→upd H1 l (.lst (as.map V.ref++[.ref b])) a=some (.tup xs):=fun a xs e=>by
      rw [upd_ne (fun z=>by rw [z,gl] at e;cases e)];exact e
    refine ⟨_,rfl,gl,(sX.trans s1).write hl,by rw [upd_same,List.map_append];rfl,?_⟩
    rw [ei,List.map_append]
    exact ((rX.same s1).keep kp).snoc (by
      have:=kp _ _ g1
      show _=some (HO.tup [.str ⟨#[z.cps.toList.getD fi 0]⟩,.int (((i+1 - fi:Nat)):Int)])
      rw [show (((i+1 - fi:Nat)):Int)=1+(i:Int) - (fi:Int) by omega]
      exact this)
  have el:(W38.enc (z.cps.toList.take (i+1))).length≤500:=ele _
  refine ⟨_,rfl,_,rfl,z,rfl,zs,rfl,_,rfl,?_⟩
  by_cases c0:i+1=z.length
  · refine iteA (decide_eq_true (by rw [show (1+(i:Int))=((z.length:Nat):Int) by omega])) ?_
    refine ⟨_,rfl,.inl ⟨rfl,_,SqL.of gX⟩,_,rfl,_,rfl,_,_,_,rfl,rfl,zs,afi,_,rfl,_,rfl,_,_,rfl,rfl,line_le (show 2≤1000 by omega),fun b hb=>?_⟩
    obtain ⟨HZ,eZ,x1,x2,x3,x4⟩:=put b hb
    refine ⟨l,_,_,rfl,rfl,x1,small1000 (by rw [List.length_map];omega),?_⟩
    rw [eZ]
    refine ⟨_,rfl,?_⟩
    refine ⟨_,i+1,as++[b],_,by show [_,_,some (V.int (1+(i:Int))),_]=_;rw [show (1+(i:Int))=((i+1:Nat):Int) by omega],x2,x3,x4,el,fun h=>absurd h (by omega),fun _=>?_⟩
    rw [c0,← zc,List.take_length]
  · have c0':¬ V.int (1+(i:Int))=V.int ((z.length:Nat):Int):=fun h=>by injection h with h;omega
    refine L2.iteB (decide_eq_false c0') ?_
    have ai1:=at_str (z:=z) (i:=i+1) (by omega)
    have e2:W38.enc (z.cps.toList.take (i+1+1))=W38.step (rs++[(z.cps.toList.getD fi 0,i+1 - fi)]) (z.cps.toList.getD (i+1) 0):=by rw [take_at (by omega),W38.enc_snoc,ei]
    refine ⟨_,rfl,_,rfl,_,_,_,rfl,rfl,zs,(by rw [show (1+(i:Int))=((i+1:Nat):Int) by omega];exact ai1),_,rfl,_,rfl,_,_,_,rfl,rfl,zs,afi,rfl,_,rfl,ite2 (fun cc=>?_) (fun cc=>?_)⟩
    · have ne:¬ z.cps.toList.getD fi 0=z.cps.toList.getD (i+1) 0:=fun h=>by
        rw [h,decide_eq_true rfl] at cc;cases cc
      refine ⟨_,rfl,.inl ⟨rfl,_,SqL.of gX⟩,_,rfl,_,rfl,_,_,_,rfl,rfl,zs,afi,_,rfl,_,rfl,_,_,rfl,rfl,line_le (show 2≤1000 by omega),fun b hb=>?_⟩
      obtain ⟨HZ,eZ,x1,x2,x3,x4⟩:=put b hb
      refine ⟨l,_,_,rfl,rfl,x1,small1000 (by rw [List.length_map];omega),?_⟩
      rw [eZ]
      refine ⟨_,rfl,?_⟩
      refine ⟨_,i+1,as++[b],_,by show [_,_,some (V.int (1+(i:Int))),_]=_;rw [show (1+(i:Int))=((i+1:Nat):Int) by omega],x2,x3,x4,el,fun h=>⟨Nat.le_refl _,?_⟩,fun h=>absurd h c0⟩
      rw [e2,W38.step_snoc,if_neg ne,ei,show i+1+1 - (i+1)=1 by omega]
    · have ne:z.cps.toList.getD fi 0=z.cps.toList.getD (i+1) 0:=by
        by_cases h:z.cps.toList.getD fi 0=z.cps.toList.getD (i+1) 0
        · exact h
        · exfalso
          refine cc ?_
          rw [decide_eq_false (fun x=>h ?_)]
          · rfl
          · injection x with x
            injection x with x
            have:z.cps.toList.getD (i+1) 0=z.cps.toList.getD fi 0:=by simpa using x
            exact this.symm
      refine ⟨_,fi,as,rs,rfl,sX,gX,rX,rl,fun h=>⟨by omega,?_⟩,fun h=>absurd h c0⟩
      rw [e2,W38.step_snoc,if_pos ne,← ne]
      congr 2
      show (_,i+1 - fi+1)=(_,i+1+1 - fi)
      rw [show i+1 - fi+1=i+1+1 - fi by omega]
end
end S38
namespace S38
open PySem L2
section
variable {P:Program} {w:World} {K:PySem.W.Frag} {mg:Str→Option Value} {base:Heap} {k:Nat}
theorem has_lisrun (D:Df K mg "_law_is_run" s_law_is_run) (B:Blt7 mg):Has P w K mg base "_law_is_run" (k+1) ["thing"] sp_isrun:=by
  refine D.has sc_law_is_run (fun _ _ _ _ _ _ us hl=>match us,hl with | [_],_=>rfl) (fun vs H Q E h=>by obtain ⟨x,d,rfl,_⟩:=h;rfl) (fun f cdv A outer s H vs Q E hr h=>?_)
  obtain ⟨v,d,rfl,td,sh,q⟩:=h
  refine ⟨_,(pss_cons (ps_if (PW.pt (pw_or (pt_not (pt_val (pe_callB call_isinst rfl B.isinstance bt_isinstance (pa_cons (pv 0) (pa_cons (pe_bltn (v:=.ty "tuple") rfl B.tuple_ bt_tuple rfl) pa_nil))))) (pw_or (pt_cmpR op_ne (pe_callB call_len_seq rfl B.len bt_len (pa_cons (pv 0) pa_nil)) pe_int (nomark _)) (pw_or (pt_not (pt_val (pe_callB call_isinst rfl B.isinstance bt_isinstance (pa_cons (pe_ix ix_tup (pv 0) pe_int (fun _ _=>rfl)) (pa_cons (pe_bltn (v:=.ty "str") rfl B.str_ bt_str rfl) pa_nil))))) (pw_or1 (pt_cmpR op_ne (pe_callB call_len_str rfl B.len bt_len (pa_cons (pe_ix ix_tup (pv 0) pe_int (fun _ _=>rfl)) pa_nil)) pe_int (nomark _)))))))
  (pss_one (ps_ret pe_bl))
  pss_nil)
  (pss_cons (ps_if (PW.pt (pw_or (pt_not (pt_val (pe_callB call_isinst rfl B.isinstance bt_isinstance (pa_cons (pe_ix ix_tup (pv 0) pe_int (fun _ _=>rfl)) (pa_cons (pe_bltn (v:=.ty "int") rfl B.int_ bt_int rfl) pa_nil))))) (pw_or (pt_val (pe_callB call_isinst rfl B.isinstance bt_isinstance (pa_cons (pe_ix ix_tup (pv 0) pe_int (fun _ _=>rfl)) (pa_cons (pe_bltn (v:=.ty "bool") rfl B.bool_ bt_bool rfl) pa_nil)))) (pw_or1 (pt_cmpR op_lt (pe_ix ix_tup (pv 0) pe_int (fun _ _=>rfl)) pe_int (nomark _))))))
  (pss_one (ps_ret pe_bl))
  pss_nil)
  (pss_one (ps_ret (pe_cmpR op_in_str (pe_ix ix_tup (pv 0) pe_int (fun _ _=>rfl)) pe_str (by with_unfolding_all rfl)))))),?_⟩
  have no:¬ RunD d→(false=true ↔ RunD d):=fun n=>⟨(fun z=>by cases z),fun z=>absurd z n⟩
  obtain ⟨t1,a1,a2⟩:=td_tup (K:=K) td
  refine ⟨_,rfl,_,t1, "tuple", _,rfl,a1,a2,_,rfl,?_⟩
  by_cases ct:isTupD d=true
  rotate_left
  · refine iteA (by rw [Bool.eq_false_iff.mpr ct];rfl) ?_
    exact q false H (Same.refl H) (no fun ⟨_,e,_⟩=>ct (by rw [e];rfl))
  refine L2.iteB (by rw [ct];rfl) ?_
  obtain ⟨a,xs,ds,rfl,rfl,ha,tds⟩:=isTup_ex td ct
  have xl:=tds.len
  refine ⟨_,rfl,a,_,rfl,.inr (SqT.of ha),rfl,_,rfl,?_⟩
  by_cases cl2:xs.length=2
  rotate_left
  · refine iteA (by simp;omega) ?_
    exact q false H (Same.refl H) (no fun ⟨r,e,_⟩=>cl2 (by unfold rD at e;injection e with e;rw [xl,e];rfl))
  refine L2.iteB (by rw [cl2];rfl) ?_
  obtain ⟨v0,v1,rfl⟩:∃ v0 v1,xs=[v0,v1]:=by
    match xs,cl2 with
    | [x,y],_=>exact ⟨x,y,rfl⟩
  obtain ⟨d0,d1,rfl,td0,td1⟩:∃ d0 d1,ds=[d0,d1]∧Td H v0 d0∧Td H v1 d1:=by
    cases tds with
    | cons t0 r=>cases r with
      | cons t1 r=>cases r;exact ⟨_,_,rfl,t0,t1⟩
  have one:RunD (.tuple [d0,d1])→∃ c,d0=.str ⟨#[c]⟩∧Lw c∧∃ n:Nat,d1=.int (n:Int)∧1≤n:=fun ⟨r,e,lw,r1⟩=>by
    unfold rD at e
    injection e with e
    injection e with e e2
    injection e2 with e2 _
    exact ⟨r.1,e,lw,r.2,e2,r1⟩
  obtain ⟨t2,b1,b2⟩:=td_str (K:=K) td0
  refine ⟨_,rfl,a,_,_,_,rfl,rfl,SqT.of ha,rfl,_,t2, "str", _,rfl,b1,b2,_,rfl,?_⟩
  by_cases cs:isStrD d0=true
  rotate_left
  · refine iteA (by rw [Bool.eq_false_iff.mpr cs];rfl) ?_
    exact q false H (Same.refl H) (no fun h=>by obtain ⟨c,e,_⟩:=one h;exact cs (by rw [e];rfl))
  refine L2.iteB (by rw [cs];rfl) ?_
  obtain ⟨z,rfl,rfl⟩:=isStr_ex td0 cs
  obtain ⟨zl,zc⟩:=sh _ _ rfl z rfl
  refine ⟨_,rfl,a,_,_,_,rfl,rfl,SqT.of ha,rfl,z,rfl,line_le (by omega),rfl,_,rfl,?_⟩
  by_cases c1:z.length=1
  rotate_left
  · refine iteA (by
      have:¬ V.int ((z.length:Nat):Int)=V.int 1:=fun h=>by injection h with h;omega
      rw [decide_eq_false this];rfl) ?_
    exact q false H (Same.refl H) (no fun h=>by
      obtain ⟨c,e,_⟩:=one h
      injection e with e
      rw [e] at c1
      exact c1 rfl)
  refine L2.iteB (by rw [decide_eq_true (by rw [c1];rfl)];rfl) ?_
  obtain ⟨c,rfl⟩:∃ c,z=⟨#[c]⟩:=by
    have e:z.cps.toList.length=1:=by rw [cps_len];exact c1
    obtain ⟨c,hc⟩:=List.length_eq_one_iff.mp e
    exact ⟨c,str_ext (by rw [hc])⟩
  have c1000:=zc c (by simp)
  obtain ⟨t3,i1,i2⟩:=td_int (K:=K) td1
  refine ⟨_,rfl,a,_,_,_,rfl,rfl,SqT.of ha,rfl,_,t3, "int", _,rfl,i1,i2,_,rfl,?_⟩
  by_cases ci:isIntD d1=true
  rotate_left
  · refine iteA (by rw [Bool.eq_false_iff.mpr ci];rfl) ?_
    exact q false H (Same.refl H) (no fun h=>by obtain ⟨_,_,_,n,e,_⟩:=one h;exact ci (by rw [e];rfl))
  refine L2.iteB (by rw [ci];rfl) ?_
  obtain ⟨t4,j1,j2⟩:=td_bl (K:=K) td1
  refine ⟨_,rfl,a,_,_,_,rfl,rfl,SqT.of ha,rfl,_,t4, "bool", _,rfl,j1,j2,_,rfl,?_⟩
  by_cases cb:isBlD d1=true
  · refine iteA cb ?_
    exact q false H (Same.refl H) (no fun h=>by obtain ⟨_,_,_,n,e,_⟩:=one h;rw [e] at cb;cases cb)
  refine L2.iteB (Bool.eq_false_iff.mpr cb) ?_
  obtain ⟨i,rfl,rfl⟩:∃ i,d1=.int i∧v1=.int i:=by
    cases td1 with
    | int i=>exact ⟨i,rfl,rfl⟩
    | bl b=>exact absurd rfl cb
    | _=>cases ci
  refine ⟨_,rfl,a,_,_,_,rfl,rfl,SqT.of ha,rfl,_,_,rfl,rfl,_,rfl,ite2 (fun c2=>?_) (fun c2=>?_)⟩
  · have c2':=of_decide_eq_true c2
    exact q false H (Same.refl H) (no fun h=>by
      obtain ⟨_,_,_,n,e,n1⟩:=one h
      injection e with e
      omega)
  · have c2':¬ i < 1:=fun h=>c2 (decide_eq_true h)
    refine ⟨_,rfl,a,_,_,_,rfl,rfl,SqT.of ha,rfl,_,_,rfl,rfl,?_⟩
    rw [in_abc c1000]
    refine q _ H (Same.refl H) ?_
    rw [lwB_iff]
    constructor
    · intro lw
      refine ⟨(c,i.toNat),?_,lw,by show 1≤i.toNat;omega⟩
      unfold rD
      rw [show ((i.toNat:Nat):Int)=i by omega]
    · intro h
      obtain ⟨c',e,lw,_⟩:=one h
      injection e with e
      have e':(⟨#[c]⟩:Str).cps=(⟨#[c']⟩:Str).cps:=by rw [e]
      have e'':c=c':=by simpa using e'
      rw [e''];exact lw
def refV:List V:=[.str "refused"]
def sp_due:Sp:=fun vs H Q E=>∃ (v:V) (d:PyData),vs=[v]∧Td H v d∧ShN d∧(∀ rs,TxD d rs→∀ H',Same H H'→Q (.str (mk (W38.dec rs))) H')∧((∀ rs,¬ TxD d rs)→∀ a H',Same H H'→H' a=some (.lst refV)→Q (.ref a) H')
theorem has_due (D:Df K mg "_law_due" s_law_due) (B:Blt7 mg) (G_law_is_run:Has P w K mg base "_law_is_run" k ["thing"] sp_isrun):Has P w K mg base "_law_due" (k+1) ["thing"] sp_due:=by
  refine D.has sc_law_due (fun _ _ _ _ _ _ us hl=>match us,hl with | [_],_=>rfl) (fun vs H Q E h=>by obtain ⟨x,d,rfl,_⟩:=h;rfl) (fun f cdv A outer s H vs Q E hr h=>?_)
  obtain ⟨v,d,rfl,td,sh,q,qe⟩:=h
  refine ⟨_,(pss_cons (ps_if (PW.pt (pw_or (pt_not (pt_val (pe_callB call_isinst rfl B.isinstance bt_isinstance (pa_cons (pv 0) (pa_cons (pe_bltn (v:=.ty "tuple") rfl B.tuple_ bt_tuple rfl) pa_nil))))) (pw_or1 (pt_not (pt_val (pe_callB (call_all rfl) rfl B.all bt_all (pa_cons (pe_comp rfl (pi_tup (pv 0)) (NL:=["one"]) (ix:=[]) (csc (defScope s_law_due) N_law_due) (fun cl C s₃ H₃ fp pins=>⟨(pg_name (i:=0) (show List.Nodup (["one"]:List Str) from by decide +kernel) rfl (by first | exact Or.inl rfl | exact Or.inr rfl)),pifs_nil,(pe_callH G_law_is_run hr rfl (pa_cons (pv 0) pa_nil))⟩)) pa_nil)))))))
  (pss_one (ps_ret (pe_lst (pa_cons pe_str pa_nil))))
  pss_nil)
  (pss_cons (ps_if (pt_cmpR (op_ne_lst hr.units0) (pe_comp rfl (pi_range2 rfl B.range (pa_cons pe_int (pa_cons (pe_callB call_len_seq rfl B.len bt_len (pa_cons (pv 0) pa_nil)) pa_nil))) (NL:=["at"]) (ix:=[0]) (csc (defScope s_law_due) N_law_due) (fun cl C s₃ H₃ fp pins=>⟨(pg_name (i:=0) (show List.Nodup (["at", "thing"]:List Str) from by decide +kernel) rfl (by first | exact Or.inl rfl | exact Or.inr rfl)),(pifs_one (pt_cmpR op_eq (pe_ix (ix_tupK K) (pe_ix (ix_tupK K) (pv 1) (pe_op op_sub (pv 0) pe_int) (fun _ _=>rfl)) pe_int (fun _ _=>rfl)) (pe_ix (ix_tupK K) (pe_ix (ix_tupK K) (pv 1) (pv 0) (fun _ _=>rfl)) pe_int (fun _ _=>rfl)) (nomark _))),(pv 0)⟩)) (pe_lst pa_nil) (nomark _))
  (pss_one (ps_ret (pe_lst (pa_cons pe_str pa_nil))))
  pss_nil)
  (pss_cons (ps_if (pt_cmpR op_gt (pe_callB (call_sumA K rfl) rfl B.sum bt_sum (pa_cons (pe_comp rfl (pi_tup (pv 0)) (NL:=["letter", "many"]) (ix:=[]) (csc (defScope s_law_due) N_law_due) (fun cl C s₃ H₃ fp pins=>⟨(pg_tupK K (n:=2) rfl (pgs_cons (pg_name (i:=0) (show List.Nodup (["letter", "many"]:List Str) from by decide +kernel) rfl (by first | exact Or.inl rfl | exact Or.inr rfl)) (pgs_cons (pg_name (i:=1) (show List.Nodup (["letter", "many"]:List Str) from by decide +kernel) rfl (by first | exact Or.inl rfl | exact Or.inr rfl)) pgs_nil))),pifs_nil,(pv 1)⟩)) pa_nil)) pe_int (nomark _))
  (pss_one (ps_ret (pe_lst (pa_cons pe_str pa_nil))))
  pss_nil)
  (pss_one (ps_ret (pe_bm PySem.F.plainAttrs_str PySem.F.slot_str_join PySem.F.type_str_join mt_join pe_str (pa_cons (pe_comp rfl (pi_tup (pv 0)) (NL:=["letter", "many"]) (ix:=[]) (csc (defScope s_law_due) N_law_due) (fun cl C s₃ H₃ fp pins=>⟨(pg_tupK K (n:=2) rfl (pgs_cons (pg_name (i:=0) (show List.Nodup (["letter", "many"]:List Str) from by decide +kernel) rfl (by first | exact Or.inl rfl | exact Or.inr rfl)) (pgs_cons (pg_name (i:=1) (show List.Nodup (["letter", "many"]:List Str) from by decide +kernel) rfl (by first | exact Or.inl rfl | exact Or.inr rfl)) pgs_nil))),pifs_nil,(pe_op op_mul_str (pv 0) (pv 1))⟩)) pa_nil))))))),?_⟩
  have ref:∀ {HY:Hp},Same H HY→(∀ rs,¬ TxD d rs)→∀ a,HY a=none→Q (.ref a) (upd HY a (.lst refV)):=fun {HY} sY n a ha=>qe n a _ (sY.new ha) upd_same
  obtain ⟨t1,a1,a2⟩:=td_tup (K:=K) td
  refine ⟨_,rfl,_,t1, "tuple", _,rfl,a1,a2,_,rfl,?_⟩
  by_cases ct:isTupD d=true
  rotate_left
  · refine iteA (by rw [Bool.eq_false_iff.mpr ct];rfl) ?_
    exact ⟨line_le (show 1≤1000 by omega),fun a ha=>ref (Same.refl H) (fun rs h=>ct (by rw [h.1];rfl)) a ha⟩
  refine L2.iteB (by rw [ct];rfl) ?_
  obtain ⟨a,xs,ds,rfl,rfl,ha,tds⟩:=isTup_ex td ct
  have xl:=tds.len
  obtain ⟨ds2,shk⟩:=sh ds rfl
  refine ⟨_,rfl,a,rfl,⟨_,SqT.of ha⟩,fun acc hacc=>?_⟩
  refine comp_tupI (K:=K) (a:=a) (xs:=xs) (by omega) (fun i ys HX=>HX acc=some (.lst ys)∧Same H HX∧∃ bs:List Bool,ys=bs.map V.bl∧bs.length=i∧∀ (j:Nat) (b:Bool) (d:PyData),bs[j]?=some b→ds[j]?=some d→(b=true ↔ RunD d)) (fun i ys HX h=>SqT.of (h.2.1 _ _ ha)) (fun i ys HX h=>⟨h.1,by obtain ⟨_,_,bs,rfl,e,_⟩:=h;rw [List.length_map];omega⟩) ⟨upd_same,(Same.refl H).new hacc,[],rfl,rfl,fun j b d h=>by simp at h⟩ ?_ ?_
  rotate_left
  · rintro i x ys HX hx ⟨g1,sX,bs,rfl,bl,bb⟩
    have il:=(List.getElem?_eq_some_iff.mp hx).1
    have ed:ds[i]?=some (ds[i]'(by omega)):=List.getElem?_eq_getElem (by omega)
    have tdx:Td H x (ds[i]'(by omega)):=by
      obtain ⟨d',e',t'⟩:=tds.get hx
      rw [ed] at e';cases e';exact t'
    refine ⟨rfl,_,rfl,x,_,rfl,tdx.same sX,shk _ (List.getElem_mem _),fun b H2 s2 hb=>?_⟩
    refine ⟨s2 _ _ g1,upd_same,(sX.trans s2).write hacc,bs++[b],by rw [List.map_append];rfl,by rw [List.length_append,bl];rfl,fun j b' d' x1 x2=>?_⟩
    rcases Nat.lt_or_ge j bs.length with lt | ge
    · rw [List.getElem?_append_left lt] at x1
      exact bb j b' d' x1 x2
    · rw [List.getElem?_append_right ge] at x1
      cases e:j - bs.length with
      | zero=>
        rw [e] at x1
        cases x1
        obtain rfl:j=i:=by omega
        rw [ed] at x2
        cases x2
        exact hb
      | succ n=>rw [e] at x1;cases x1
  rintro ys H1 ⟨g1,s1,bs,rfl,bl,bb⟩
  have ab:=all_bs (Pr:=RunD) (by omega) bb
  refine ⟨acc,bs,rfl,SqL.of g1,_,rfl,?_⟩
  by_cases ca:bs.all id=true
  rotate_left
  · refine iteA (by rw [Bool.eq_false_iff.mpr ca];rfl) ?_
    refine ⟨line_le (show 1≤1000 by omega),fun x hx=>ref s1 (fun rs h=>ca (ab.mpr fun d hd=>?_)) x hx⟩
    have e:=h.1
    injection e with e
    rw [e] at hd
    obtain ⟨r,hr,rfl⟩:=List.mem_map.mp hd
    exact ⟨r,rfl,h.2.1.lt r hr,h.2.1.pos r hr⟩
  refine L2.iteB (by rw [ca];rfl) ?_
  obtain ⟨rs,rfl,lws,pos⟩:=runs_all (ab.mp ca)
  obtain ⟨as,rfl,ra⟩:=td_runs tds
  have rl:rs.length=(as.map V.ref).length:=by rw [xl,List.length_map]
  have rb:rs.length≤200:=by rw [List.length_map] at ds2;exact ds2
  have ra1:=ra.same s1
  refine ⟨_,rfl,a,_,rfl,.inr (SqT.of (s1 _ _ ha)),1,_,rfl,⟨by decide,by decide,by omega,by omega⟩,fun ac2 hac2=>?_⟩
  have en:((((as.map V.ref).length:Nat):Int) - 1).toNat=rs.length - 1:=by omega
  rw [en]
  refine comp_by (rs.length - 1) (by omega) (fun i ys HX=>HX ac2=some (.lst ys)∧Same H1 HX∧∃ is:List Int,ys=is.map V.int∧is.length≤i∧(is=[] ↔ ∀ (j:Nat),j < i→∀ x y,rs[j]?=some x→rs[j+1]?=some y→x.1≠y.1)) (fun i ys HX h=>⟨h.1,by obtain ⟨_,_,is,rfl,e,_⟩:=h;rw [List.length_map];omega⟩) ⟨upd_same,(Same.refl H1).new hac2,[],rfl,Nat.le_refl _,⟨(fun _ j h=>absurd h (Nat.not_lt_zero _)),fun _=>rfl⟩⟩ ?_ ?_
  rotate_left
  · rintro i ys HX hi ⟨g2,sX,is,rfl,il,ie⟩
    refine ⟨hi,?_⟩
    rintro x' HX' ⟨rfl,rfl⟩
    have hx:=sX _ _ (s1 _ _ ha)
    obtain ⟨r0,e0,h0⟩:=(ra1.same sX).at (i:=i) (by omega)
    obtain ⟨r1,e1,h1⟩:=(ra1.same sX).at (i:=i+1) (by omega)
    have i0:i < rs.length:=by omega
    have i1:i+1 < rs.length:=by omega
    have hd:∀ a b:Nat,(V.str (⟨#[a]⟩:Str)=V.str (⟨#[b]⟩:Str)) ↔ a=b:=fun a b=>⟨fun h=>by
      injection h with h
      injection h with h
      simpa using h,fun h=>by rw [h]⟩
    refine ⟨rfl,_,rfl,_,rfl,_,_,rfl,rfl,a,_,_,_,rfl,rfl,SqT.of hx,(by rw [show (1+(i:Int) - 1)=(i:Int) by omega];exact e0),r0,_,_,_,rfl,rfl,SqT.of h0,rfl,_,rfl,_,rfl,a,_,_,_,rfl,rfl,SqT.of hx,(by rw [show (1+(i:Int))=((i+1:Nat):Int) by omega];exact e1),r1,_,_,_,rfl,rfl,SqT.of h1,rfl,rfl,_,rfl,ite2 (fun cc=>?_) (fun cc=>?_)⟩
    · have c':=(hd _ _).mp (of_decide_eq_true cc)
      refine ⟨_,rfl,g2,upd_same,sX.write hac2,is++[_],by rw [List.map_append];rfl,by rw [List.length_append];show _+1≤_;omega,?_⟩
      refine ⟨fun h=>absurd h (by simp),fun h=>?_⟩
      exact absurd c' (h i (by omega) _ _ (List.getElem?_eq_getElem i0) (List.getElem?_eq_getElem i1))
    · have c':¬ rs[i].1=rs[i+1].1:=fun h=>cc (decide_eq_true ((hd _ _).mpr h))
      refine ⟨g2,sX,is,rfl,by omega,?_⟩
      rw [ie]
      constructor
      · intro h j hj x y hx1 hy1
        rcases Nat.lt_or_ge j i with lt | ge
        · exact h j lt x y hx1 hy1
        · obtain rfl:j=i:=by omega
          rw [List.getElem?_eq_getElem i0] at hx1
          rw [List.getElem?_eq_getElem i1] at hy1
          cases hx1;cases hy1
          exact c'
      · intro h j hj
        exact h j (by omega)
  rintro ys H2 ⟨g2,s2,is,rfl,il,ie⟩
  refine ⟨Nat.le_refl _,?_⟩
  have nb:is=[] ↔ W38.Nb rs:=by
    rw [ie]
    exact ⟨fun h i a b x y=>h i (by have:=(List.getElem?_eq_some_iff.mp y).1;omega) a b x y,fun h j _ x y hx1 hy1=>h j x y hx1 hy1⟩
  have s12:=s1.trans s2
  refine ⟨line_le (show 0≤1000 by omega),fun nl hnl=>?_⟩
  have s3:Same H2 (upd H2 nl (.lst [])):=(Same.refl H2).new hnl
  have g3:upd H2 nl (.lst []) nl=some (.lst []):=upd_same
  show (fun HH=>_) (upd H2 nl (.lst []))
  generalize upd H2 nl (.lst [])=H3 at s3 g3
  have s13:=s12.trans s3
  refine ⟨ac2,nl,_,_,rfl,rfl,SqL.of (s3 _ _ g2),SqL.of g3,flat_ints _,rfl,_,rfl,?_⟩
  rw [show eqVs (is.map V.int) ([]:List V)=decide (is=[]) from eqVs_ints _ []]
  by_cases ce:is=[]
  rotate_left
  · refine iteA (by rw [decide_eq_false ce];rfl) ?_
    refine ⟨line_le (show 1≤1000 by omega),fun x hx=>ref s13 (fun qs h=>ce (nb.mpr ?_)) x hx⟩
    have e:=h.1
    injection e with e
    rw [rD_inj e];exact h.2.1.nb
  refine L2.iteB (by rw [decide_eq_true ce];rfl) ?_
  have good:W38.Good Lw rs:=⟨lws,pos,nb.mp ce⟩
  refine ⟨_,rfl,a,rfl,⟨_,SqT.of (s13 _ _ ha)⟩,fun ac3 hac3=>?_⟩
  refine comp_tupI (K:=K) (a:=a) (xs:=as.map V.ref) (by omega) (fun i ys HX=>HX ac3=some (.lst ys)∧Same H3 HX∧ys=((((rs.map toRn).take i).map (·.2)).map V.int)) (fun i ys HX h=>SqT.of (h.2.1 _ _ (s13 _ _ ha))) (fun i ys HX h=>⟨h.1,by rw [h.2.2,List.length_map,List.length_map,List.length_take];omega⟩) ⟨upd_same,(Same.refl H3).new hac3,rfl⟩ ?_ ?_
  rotate_left
  · rintro i x ys HX hx ⟨g4,sX,rfl⟩
    obtain ⟨b0,r,rfl,_,er,hb0⟩:=(ra.same (s13.trans sX)).get hx
    exact ⟨b0,_,rfl,SqT.of hb0,rfl,_,_,rfl,_,_,rfl,rfl,rfl,_,rfl,g4,upd_same,sX.write hac3,by rw [sums er,List.map_append];rfl⟩
  rintro ys H4 ⟨g4,s4,rfl⟩
  rw [show (as.map V.ref).length=(rs.map toRn).length by rw [List.length_map (f:=toRn)];exact rl.symm,List.take_length] at g4
  refine ⟨ac3,_,rfl,SqL.of g4,?_⟩
  have et:(((rs.map toRn).map (·.2)).sum)=W39.tot (rs.map toRn):=rfl
  rw [et,tot_len]
  have s14:=s13.trans s4
  refine ⟨_,_,rfl,rfl,_,rfl,ite2 (fun c=>?_) (fun c=>?_)⟩
  · have c':=of_decide_eq_true c
    refine ⟨line_le (show 1≤1000 by omega),fun x hx=>ref s14 (fun qs h=>?_) x hx⟩
    have e:=h.1
    injection e with e
    have:=h.2.2
    rw [← rD_inj e] at this
    omega
  · have c':W38.len rs≤4000:=by
      by_cases h:W38.len rs≤4000
      · exact h
      · exact absurd (decide_eq_true (by omega)) c
    refine ⟨rfl,_,rfl,a,rfl,⟨_,SqT.of (s14 _ _ ha)⟩,fun ac5 hac5=>?_⟩
    refine comp_tupI (K:=K) (a:=a) (xs:=as.map V.ref) (by omega) (fun i ys HX=>HX ac5=some (.lst ys)∧Same H4 HX∧ys=((pieces (rs.take i)).map V.str)) (fun i ys HX h=>SqT.of (h.2.1 _ _ (s14 _ _ ha))) (fun i ys HX h=>⟨h.1,by rw [h.2.2,List.length_map];unfold pieces;rw [List.length_map,List.length_take];omega⟩) ⟨upd_same,(Same.refl H4).new hac5,rfl⟩ ?_ ?_
    · rintro ys H5 ⟨g5,s5,rfl⟩
      rw [← rl,List.take_length] at g5
      refine ⟨_,ac5,_,rfl,rfl,SqL.of g5,pieces_ok c',?_⟩
      rw [pieces_join]
      exact q rs ⟨rfl,good,c'⟩ H5 (s14.trans s5)
    · rintro i x ys HX hx ⟨g5,sX,rfl⟩
      have il:=(List.getElem?_eq_some_iff.mp hx).1
      obtain ⟨b0,r,rfl,_,er,hb0⟩:=(ra.same (s14.trans sX)).get hx
      rw [rn_at (by omega)] at er
      cases er
      have mm:=len_mem (rs:=rs) (List.getElem_mem (show i < rs.length by omega))
      refine ⟨b0,_,rfl,SqT.of hb0,rfl,_,_,rfl,_,_,rfl,rfl,rfl,_,rfl,_,rfl,_,_,rfl,rfl,mulok (by show (0:Int)≤((rs[i].2:Nat):Int);omega) (by show ((rs[i].2:Nat):Int)≤4000;omega),g5,upd_same,sX.write hac5,?_⟩
      unfold pieces
      rw [List.take_succ,List.getElem?_eq_getElem (by omega:i < rs.length),List.map_append,List.map_append]
      rfl
theorem has_told (EX:Exs K mg) (D:Df K mg "_law_told" s_law_told) (B:Blt7 mg) (G_text_by:HasX P w K mg base "text_by" k ["runs"] (sp_tby EX.c_NoRuns)):Has P w K mg base "_law_told" (k+1) ["thing"] sp_due:=by
  refine D.has sc_law_told (fun _ _ _ _ _ _ us hl=>match us,hl with | [_],_=>rfl) (fun vs H Q E h=>by obtain ⟨x,d,rfl,_⟩:=h;rfl) (fun f cdv A outer s H vs Q E hr h=>?_)
  obtain ⟨v,d,rfl,td,sh,q,qe⟩:=h
  refine ⟨_,(pss_cons (ps_set (i:=1) sc_law_told.nd rfl (by first | exact Or.inl rfl | exact Or.inr rfl) (pe_lst (pa_cons pe_str pa_nil)))
  (pss_cons (ps_try (fun pn xe E σ0 hx=>(pss_one (ps_set (i:=1) sc_law_told.nd rfl (by first | exact Or.inl rfl | exact Or.inr rfl) (pe_callX G_text_by hx hr rfl (pa_cons (pv 0) pa_nil)))))
  (ph_as rfl EX.m_NoRuns sc_law_told.nd (i:=2) rfl rfl (fun a=>(pss_cons (ps_set (i:=3) sc_law_told.nd rfl (by first | exact Or.inl rfl | exact Or.inr rfl) (pe_callB (call_isinstET K) rfl B.isinstance bt_isinstance (pa_cons (pv 2) (pa_cons (pe_tup (pa_cons (pe_glob (x := "NoCover") (v:=.ref EX.c_NoCover) rfl EX.m_NoCover rfl) (pa_cons (pe_glob (x := "NoNumber") (v:=.ref EX.c_NoNumber) rfl EX.m_NoNumber rfl) (pa_cons (pe_glob (x := "NoPlace") (v:=.ref EX.c_NoPlace) rfl EX.m_NoPlace rfl) (pa_cons (pe_glob (x := "NoRows") (v:=.ref EX.c_NoRows) rfl EX.m_NoRows rfl) (pa_cons (pe_glob (x := "NoText") (v:=.ref EX.c_NoText) rfl EX.m_NoText rfl) (pa_cons (pe_glob (x := "NoTree") (v:=.ref EX.c_NoTree) rfl EX.m_NoTree rfl) (pa_cons (pe_glob (x := "NoWord") (v:=.ref EX.c_NoWord) rfl EX.m_NoWord rfl) (pa_cons (pe_glob (x := "TooMany") (v:=.ref EX.c_TooMany) rfl EX.m_TooMany rfl) pa_nil))))))))) pa_nil))))
  (pss_one (ps_if (PW.pt (pw_and (pt_val (pe_callB (call_isinstE K) rfl B.isinstance bt_isinstance (pa_cons (pv 2) (pa_cons (pe_glob (x := "UpError") (v:=.ref EX.c_UpError) rfl EX.m_UpError rfl) pa_nil)))) (pw_and (pt_val (pe_callB (call_isinstEB K) rfl B.isinstance bt_isinstance (pa_cons (pv 2) (pa_cons (pe_bltn (v:=.ty "ValueError") rfl B.ValueError_ bt_ValueError rfl) pa_nil)))) (pw_and1 (pt_not (pt_val (pv 3)))))))
  (pss_one (ps_set (i:=1) sc_law_told.nd rfl (by first | exact Or.inl rfl | exact Or.inr rfl) (pe_lst (pa_cons pe_str pa_nil))))
  pss_nil))))))
  (pss_one (ps_ret (pv 1))))),?_⟩
  refine ⟨line_le (show 1≤1000 by omega),fun l0 hl0=>?_⟩
  refine mid (fun σ' H'=>σ'=[some v,some (.ref l0),none,none]∧Same H H') ?_ fun E nx=>nx _ _ ⟨rfl,(Same.refl H).new hl0⟩
  rintro σ1 H0 ⟨rfl,s0⟩
  refine ⟨rfl,_,rfl,v,d,rfl,td.same s0,sh,fun rs tx H1 s1=>?_,fun n a H1 s1 ha=>?_⟩
  · exact ⟨_,rfl,q rs tx H1 (s0.trans s1)⟩
  · refine ⟨a,EX.c_NoRuns,rfl,rfl,EX.xm,?_⟩
    have sA:Same H (upd H1 a (excO a EX.c_NoRuns)):=(s0.trans s1).new ha
    have hA:upd H1 a (excO a EX.c_NoRuns) a=some (excO a EX.c_NoRuns):=upd_same
    generalize upd H1 a (excO a EX.c_NoRuns)=HA at sA hA
    refine ⟨_,rfl,line_le (show 8≤1000 by omega),fun t7 ht7=>?_⟩
    have sC:Same HA (upd HA t7 (.tup ([EX.c_NoCover,EX.c_NoNumber,EX.c_NoPlace,EX.c_NoRows,EX.c_NoText,EX.c_NoTree,EX.c_NoWord,EX.c_TooMany].map V.ref))):=(Same.refl HA).new ht7
    refine ⟨a,EX.c_NoRuns,t7,[EX.c_NoCover,EX.c_NoNumber,EX.c_NoPlace,EX.c_NoRows,EX.c_NoText,EX.c_NoTree,EX.c_NoWord,EX.c_TooMany],false,rfl,sC _ _ hA,upd_same,EX.z_NoRuns,EX.pa,?_⟩
    have hC:=sC _ _ hA
    have sHC:=sA.trans sC
    show (fun HH=>_) (upd HA t7 (.tup ([EX.c_NoCover,EX.c_NoNumber,EX.c_NoPlace,EX.c_NoRows,EX.c_NoText,EX.c_NoTree,EX.c_NoWord,EX.c_TooMany].map V.ref)))
    generalize upd HA t7 (.tup ([EX.c_NoCover,EX.c_NoNumber,EX.c_NoPlace,EX.c_NoRows,EX.c_NoText,EX.c_NoTree,EX.c_NoWord,EX.c_TooMany].map V.ref))=HC at hC sHC
    refine ⟨_,rfl,a,EX.c_NoRuns,_,true,rfl,hC,EX.z_NoRuns,EX.p0,_,rfl,iteT ?_⟩
    refine ⟨_,rfl,a,EX.c_NoRuns, "ValueError", true,rfl,hC,EX.z_NoRuns,EX.pv,_,rfl,iteT ?_⟩
    refine ⟨_,rfl,_,rfl,iteT ?_⟩
    refine ⟨line_le (show 1≤1000 by omega),fun l hl=>?_⟩
    exact ⟨_,rfl,qe n l _ (sHC.new hl) upd_same⟩
end
end S38
namespace S38
open PySem L2
theorem dlk {H H':Hp} {p:Addr} {c:Int} (h:Kt p c H H'):Same (dl [p] H) (dl [p] H'):=dl_keep fun b o n e=>h.keep b o (fun z=>n (by simp [z])) e
theorem dls {H H':Hp} {p:Addr} (h:Same H H'):Same (dl [p] H) (dl [p] H'):=dl_keep fun b o n e=>h b o e
def Tg (p:Addr) (H:Hp) (hd hl:Bool) (c e:Nat) (v:V):Prop:=∃ d,Td (dl [p] H) v d∧Gd hd hl c e d
def Tgs (p:Addr) (H:Hp) (hd hl:Bool) (c e:Nat) (xs:List V):Prop:=∃ ds,Tds (dl [p] H) xs ds∧Gs hd hl c e ds
def Tw (p:Addr) (H:Hp) (hd hl:Bool) (c e:Nat) (v:V):Prop:=∃ d,Td (dl [p] H) v d∧Gd hd hl c e d∧ShK d
def Tws (p:Addr) (H:Hp) (hd hl:Bool) (c e:Nat) (xs:List V):Prop:=∃ ds,Tds (dl [p] H) xs ds∧Gs hd hl c e ds∧∀ d∈ds,ShK d
def Th (p:Addr) (H:Hp) (v:V):Prop:=∃ hd hl,(hd=false∨hl=false)∧∃ d,Td (dl [p] H) v d∧Gd hd hl 150000 9 d∧ShN d
section
variable {p r:Addr} {H H':Hp} {hd hl:Bool} {c c' e e':Nat} {v x:V} {xs ys:List V}
theorem Tg.mono (h:Tg p H hd hl c e v) (hc:c≤c') (he:e≤e'):Tg p H hd hl c' e' v:=let ⟨d,t,g⟩:=h;⟨d,t,g.mono hc he⟩
theorem Tw.mono (h:Tw p H hd hl c e v) (hc:c≤c') (he:e≤e'):Tw p H hd hl c' e' v:=let ⟨d,t,g,s⟩:=h;⟨d,t,g.mono hc he,s⟩
theorem Tw.on (h:Tw p H hd hl c e v) (s:Same (dl [p] H) (dl [p] H')):Tw p H' hd hl c e v:=let ⟨d,t,g,k⟩:=h;⟨d,t.same s,g,k⟩
theorem Th.on (h:Th p H v) (s:Same (dl [p] H) (dl [p] H')):Th p H' v:=let ⟨a,b,o,d,t,g,k⟩:=h;⟨a,b,o,d,t.same s,g,k⟩
theorem Th.ask (h:Th p H v):∃ d,Td H v d∧ShN d∧Fit d:=let ⟨_,_,o,d,t,g,k⟩:=h;⟨d,t.same (dl_same _ _),k,g.fit o (by omega) (by omega)⟩
theorem Tgs.one (h:Tg p H hd hl c e v):Tgs p H hd hl (c+1) e [v]:=let ⟨d,t,g⟩:=h;⟨[d],.one t,Gs.one g⟩
theorem Tws.one (h:Tw p H hd hl c e v):Tws p H hd hl (c+1) e [v]:=let ⟨d,t,g,s⟩:=h;⟨[d],.one t,Gs.one g,fun x hx=>by rw [List.mem_singleton.mp hx];exact s⟩
theorem Tgs.append (h:Tgs p H hd hl c e xs) (g:Tgs p H hd hl c' e ys):Tgs p H hd hl (c+c') e (xs++ys):=let ⟨d,t,g1⟩:=h;let ⟨ds,t2,g2⟩:=g;⟨d++ds,t.append t2,g1.append g2⟩
theorem Tws.append (h:Tws p H hd hl c e xs) (g:Tws p H hd hl c' e ys):Tws p H hd hl (c+c') e (xs++ys):=let ⟨d,t,g1,k1⟩:=h;let ⟨ds,t2,g2,k2⟩:=g;⟨d++ds,t.append t2,g1.append g2,fun x hx=>(List.mem_append.mp hx).elim (k1 x) (k2 x)⟩
theorem Tws.nil:Tws p H hd hl 0 e []:=⟨[],.nil,Gs.nil.mono (Nat.le_refl _) (Nat.zero_le _),fun _ h=>nomatch h⟩
theorem Tgs.nil:Tgs p H hd hl 0 e []:=⟨[],.nil,Gs.nil.mono (Nat.le_refl _) (Nat.zero_le _)⟩
theorem Tws.all:∀ {xs:List V},(∀ x∈xs,Tw p H hd hl c e x)→Tws p H hd hl ((c+1) * xs.length) e xs
  | [],_=>by
    obtain ⟨d,t,g,k⟩:=(Tws.nil:Tws p H hd hl 0 e [])
    exact ⟨d,t,g.mono (Nat.zero_le _) (Nat.le_refl _),k⟩
  | x :: xs,h=>by
    obtain ⟨d,t,g,k⟩:=(Tws.one (h x List.mem_cons_self)).append (Tws.all fun y hy=>h y (List.mem_cons_of_mem _ hy))
    exact ⟨d,t,g.mono (by rw [List.length_cons,Nat.mul_add];omega) (Nat.le_refl _),k⟩
theorem Tws.all_le {n:Nat} (h:∀ x∈xs,Tw p H hd hl c e x) (l:xs.length≤n):Tws p H hd hl ((c+1) * n) e xs:=by
  obtain ⟨d,t,g,k⟩:=Tws.all h
  exact ⟨d,t,g.mono (Nat.mul_le_mul_left _ l) (Nat.le_refl _),k⟩
theorem tg_int {i:Int} (h:i.natAbs < 10 ^ 60):Tg p H hd hl 201 e (.int i):=⟨_,.int i,(Gd.big h).mono (Nat.le_refl _) (Nat.zero_le _)⟩
theorem tg_non:Tg p H hd hl 0 e .non:=⟨_,.non,Gd.non.mono (Nat.le_refl _) (Nat.zero_le _)⟩
theorem tg_bl (b:Bool):Tg p H hd hl 0 e (.bl b):=⟨_,.bl b,(Gd.bl b).mono (Nat.le_refl _) (Nat.zero_le _)⟩
theorem tg_str {z:Str} (h:LowC z) (l:z.length≤c):Tg p H hd hl c e (.str z):=⟨_,.str z,(Gd.low h).mono l (Nat.zero_le _)⟩
theorem tg_tup (h:H r=some (.tup xs)) (n:r≠p) (t:Tgs p H hd hl c e xs):Tg p H hd hl c (e+1) (.ref r):=by
  obtain ⟨ds,t,g⟩:=t
  exact ⟨_,.tup (dl_at h (by simpa using n)) t,Gd.tup g⟩
theorem tg_lst (h:H r=some (.lst xs)) (n:r≠p) (t:Tgs p H hd true c e xs):Tg p H hd true c (e+1) (.ref r):=by
  obtain ⟨ds,t,g⟩:=t
  exact ⟨_,.lst (dl_at h (by simpa using n)) t,Gd.lst g⟩
theorem Tg.no (h:Tg p H hd hl c e v) (n:∀ a xs,v=.ref a→H a=some (.tup xs)→False):Tw p H hd hl c e v:=by
  obtain ⟨d,t,g⟩:=h
  refine ⟨d,t,g,fun x r z=>?_⟩
  subst z
  obtain ⟨a,xs,ds',rfl,_,ha,_⟩:=isTup_ex t rfl
  exact (n a xs rfl (dl_same _ _ _ _ ha)).elim
theorem tw_tup (h:H r=some (.tup (x :: xs))) (n:r≠p) (s:∀ z,x=.str z→z.length≤900∧∀ c∈z.cps.toList,c < 1000) (t1:Tg p H hd hl c e x) (t:Tgs p H hd hl c' e xs):Tw p H hd hl (c+1+c') (e+1) (.ref r):=by
  obtain ⟨d,td,g⟩:=t1
  obtain ⟨ds,tds,gs⟩:=t
  refine ⟨_,.tup (dl_at h (by simpa using n)) (.cons td tds),Gd.tup (Gs.cons g gs),fun y q z=>?_⟩
  injection z with z
  injection z with z _
  subst z
  intro zz ez
  subst ez
  cases td
  exact s zz rfl
theorem Tws.g (h:Tws p H hd hl c e xs):Tgs p H hd hl c e xs:=let ⟨d,t,g,_⟩:=h;⟨d,t,g⟩
theorem th_tup (o:hd=false∨hl=false) (h:H r=some (.tup xs)) (n:r≠p) (l:xs.length≤200) (t:Tws p H hd hl c e xs) (hc:c≤150000) (he:e≤8):Th p H (.ref r):=by
  obtain ⟨ds,t,g,k⟩:=t
  refine ⟨hd,hl,o,_,.tup (dl_at h (by simpa using n)) t,(Gd.tup g).mono hc (by omega),fun ks z=>?_⟩
  cases z
  exact ⟨by have:=t.len;omega,k⟩
theorem th_no (o:hd=false∨hl=false) (t:Tg p H hd hl c e v) (hc:c≤150000) (he:e≤9) (n:∀ a xs,v=.ref a→H a=some (.tup xs)→False):Th p H v:=by
  obtain ⟨d,t,g⟩:=t
  refine ⟨hd,hl,o,d,t,g.mono hc he,fun ks z=>?_⟩
  subst z
  obtain ⟨a,xs,ds',rfl,_,ha,_⟩:=isTup_ex t rfl
  exact (n a xs rfl (dl_same _ _ _ _ ha)).elim
end
theorem low_small {z:Str} (h:∀ c∈z.cps.toList,c < 1000):LowC z:=fun c hc=>by
  have:=h c hc
  have e:(16:Nat) ^ 8=4294967296:=by decide
  omega
theorem one_low {c:Nat} (h:Lw c):∀ x∈(⟨#[c]⟩:Str).cps.toList,x < 1000:=fun x hx=>by
  have:x=c:=by simpa using hx
  rw [this];have:=h.2;omega
theorem str_int_len {i:Int} (h:i.natAbs < 10 ^ 12):(Str.ofString (toString i)).length≤3000:=by
  have g:=Gd.int (hd:=false) (hl:=false) h
  have l:=PyData.shown_le 61 (by decide) _ g.lv
  have w:=g.wt
  have e:(PyData.int i).shown=Str.ofString (toString i):=by rw [PyData.shown]
  rw [e] at l
  omega
theorem int60 {i:Int} (h:i.natAbs≤10000):i.natAbs < 10 ^ 60:=Nat.lt_of_le_of_lt h (by decide)
section
variable {P:Program} {w:World} {K:PySem.W.Frag} {mg:Str→Option Value} {base:Heap} {k:Nat}
def sp_odd:Sp:=fun vs H Q _=>∃ (p a:Addr) (c:Int) (ch n:Nat),vs=[.ref p,.ref a]∧Pt H p c∧c < 900000∧H a=some (.tup [.str ⟨#[ch]⟩,.int (n:Int)])∧Lw ch∧1≤n∧n≤4000∧∀ (v:V) (H':Hp),Kt p (c+2) H H'→Tw p H' false true 5000 3 v→Q v H'
theorem has_odd (D:Df K mg "_law_odd" s_law_odd) (B:Blt7 mg) (G_law_take:Has P w K mg base "_law_take" k ["pot", "many"] sp_take):Has P w K mg base "_law_odd" (k+1) ["pot", "run"] sp_odd:=by
  refine D.has sc_law_odd (fun _ _ _ _ _ _ us hl=>match us,hl with | [_,_],_=>rfl) (fun vs H Q E h=>by obtain ⟨p,a,c,ch,n,rfl,_⟩:=h;rfl) (fun f cdv A outer s H vs Q E hr h=>?_)
  obtain ⟨p,a,c,ch,n,rfl,pt,c9,ha,lw,n1,n4,q⟩:=h
  refine exw ?_
  refine ⟨_,(w_cons (Pw.mk (ps_asg (pv 1) (pg_tup rfl (pgs_cons (pg_name (i:=2) sc_law_odd.nd rfl (by first | exact Or.inl rfl | exact Or.inr rfl)) (pgs_cons (pg_name (i:=3) sc_law_odd.nd rfl (by first | exact Or.inl rfl | exact Or.inr rfl)) pgs_nil)))))
  (w_cons (w_set (i:=4) sc_law_odd.nd rfl (by first | exact Or.inl rfl | exact Or.inr rfl) (w_ix ix_str w_str (PEw.mk (pe_callH G_law_take hr rfl (pa_cons (pv 0) (pa_cons pe_int pa_nil)))) (fun _ _=>rfl)))
  (w_cons (Pw.mk (ps_set (i:=5) sc_law_odd.nd rfl (by first | exact Or.inl rfl | exact Or.inr rfl) (pe_lst (pa_cons (pe_tup (pa_cons (pv 2) (pa_cons (pe_op op_add (pv 3) pe_int) pa_nil))) (pa_cons (pe_tup (pa_cons (pv 2) (pa_cons pe_int pa_nil))) (pa_cons (pe_tup (pa_cons (pv 2) (pa_cons (pe_un un_neg pe_int) pa_nil))) (pa_cons (pe_tup (pa_cons (pv 2) (pa_cons pe_bl pa_nil))) (pa_cons (pe_tup (pa_cons (pv 2) (pa_cons (pe_callTy call_str_int rfl B.str_ bt_str (pa_cons (pv 3) pa_nil)) pa_nil))) (pa_cons (pe_tup (pa_cons (pv 2) (pa_cons pe_non pa_nil))) pa_nil)))))))))
  (w_cons (w_set (i:=5) sc_law_odd.nd rfl (by first | exact Or.inl rfl | exact Or.inr rfl) (w_op op_cat (PEw.mk (pv 5)) (w_lst (w_acons (PEw.mk (pe_tup (pa_cons (pv 2) (pa_cons pe_int pa_nil)))) (w_acons (PEw.mk (pe_tup (pa_cons (pe_upper (pv 2)) (pa_cons (pv 3) pa_nil)))) (w_acons (PEw.mk (pe_tup (pa_cons (pe_op op_add_str (pv 2) (pv 2)) (pa_cons (pv 3) pa_nil)))) (w_acons (w_tup (w_acons w_str (w_acons (PEw.mk (pv 3)) w_anil))) (w_acons (PEw.mk (pe_tup (pa_cons (pv 3) (pa_cons (pv 2) pa_nil)))) w_anil))))))))
  (w_cons (Pw.mk (ps_set (i:=5) sc_law_odd.nd rfl (by first | exact Or.inl rfl | exact Or.inr rfl) (pe_op op_cat (pv 5) (pe_lst (pa_cons (pe_tup (pa_cons (pv 2) pa_nil)) (pa_cons (pe_tup (pa_cons (pv 2) (pa_cons (pv 3) (pa_cons (pv 3) pa_nil)))) (pa_cons (pe_lst (pa_cons (pv 2) (pa_cons (pv 3) pa_nil))) (pa_cons (pv 2) (pa_cons pe_non (pa_cons (pe_tup (pa_cons (pv 4) (pa_cons (pv 3) pa_nil))) (pa_cons (pe_tup (pa_cons (pv 4) (pa_cons pe_int pa_nil))) pa_nil)))))))))))
  (w_cons (Pw.mk (ps_expr (pe_bm PySem.F.plainAttrs_list PySem.F.slot_list_append PySem.F.type_list_append mt_append (pv 5) (pa_cons (pe_tup (pa_cons pe_str (pa_cons (pv 3) pa_nil))) pa_nil))))
  (w_cons (Pw.mk (ps_set (i:=5) sc_law_odd.nd rfl (by first | exact Or.inl rfl | exact Or.inr rfl) (pe_op op_cat (pv 5) (pe_lst (pa_cons (pe_tup (pa_cons (pv 2) (pa_cons (pe_tup (pa_cons (pv 3) pa_nil)) pa_nil))) (pa_cons (pe_tup (pa_cons (pv 2) (pa_cons pe_int pa_nil))) (pa_cons (pe_tup (pa_cons (pv 2) (pa_cons (pe_op op_pow pe_int pe_int) pa_nil))) (pa_cons (pe_tup (pa_cons (pv 2) (pa_cons (pe_callB (call_max2 rfl) rfl B.max bt_max (pa_cons pe_int (pa_cons (pe_op op_sub (pv 3) pe_int) pa_nil))) pa_nil))) (pa_cons (pe_tup (pa_cons pe_non (pa_cons (pv 3) pa_nil))) pa_nil)))))))))
  (w_one (Pw.mk (ps_ret (pe_ix ix_list (pv 5) (pe_callH G_law_take hr rfl (pa_cons (pv 0) (pa_cons (pe_callB call_len_seq rfl B.len bt_len (pa_cons (pv 5) pa_nil)) pa_nil))) (fun _ _=>rfl)))))))))))),?_⟩
  refine ⟨_,rfl,a,_,rfl,SqT.of ha,rfl,_,_,rfl,_,_,rfl,rfl,?_⟩
  refine ⟨_,rfl,p,_,_,rfl,pt,by omega,by decide,by decide,fun i1 J0 x0 x1 k0=>?_⟩
  obtain ⟨co,hco,lco⟩:=alph_at x0 x1
  refine ⟨_,_,co,rfl,rfl,(by decide +kernel),hco,?_⟩
  have e12:(10:Nat) ^ 12=1000000000000:=by decide
  refine ⟨_,rfl,_,rfl,_,_,rfl,rfl,line_le (show 2≤1000 by omega),fun r1 hr1=>?_⟩
  generalize hJ:upd J0 r1 _=J1
  have s1:Same J0 J1:=by rw [← hJ];exact (Same.refl J0).new hr1
  have g1:J1 r1=some (.tup [.str ⟨#[ch]⟩,.int ((n:Int)+1)]):=by rw [← hJ];exact upd_same
  clear hJ
  refine ⟨_,rfl,line_le (show 2≤1000 by omega),fun r2 hr2=>?_⟩
  generalize hJ:upd J1 r2 _=J2
  have s2:Same J1 J2:=by rw [← hJ];exact (Same.refl J1).new hr2
  have g2:J2 r2=some (.tup [.str ⟨#[ch]⟩,.int 0]):=by rw [← hJ];exact upd_same
  clear hJ
  refine ⟨_,rfl,_,rfl,line_le (show 2≤1000 by omega),fun r3 hr3=>?_⟩
  generalize hJ:upd J2 r3 _=J3
  have s3:Same J2 J3:=by rw [← hJ];exact (Same.refl J2).new hr3
  have g3:J3 r3=some (.tup [.str ⟨#[ch]⟩,.int (-1)]):=by rw [← hJ];exact upd_same
  clear hJ
  refine ⟨_,rfl,line_le (show 2≤1000 by omega),fun r4 hr4=>?_⟩
  generalize hJ:upd J3 r4 _=J4
  have s4:Same J3 J4:=by rw [← hJ];exact (Same.refl J3).new hr4
  have g4:J4 r4=some (.tup [.str ⟨#[ch]⟩,.bl true]):=by rw [← hJ];exact upd_same
  clear hJ
  refine ⟨_,rfl,_,rfl,_,rfl,(by have:=Nat.log2_lt (n:=n) (k:=12) (by omega);have:=this.mpr (by omega);show n.log2 < 1920;omega),line_le (show 2≤1000 by omega),fun r5 hr5=>?_⟩
  generalize hJ:upd J4 r5 _=J5
  have s5:Same J4 J5:=by rw [← hJ];exact (Same.refl J4).new hr5
  have g5:J5 r5=some (.tup [.str ⟨#[ch]⟩,.str (Str.ofString (toString (n:Int)))]):=by rw [← hJ];exact upd_same
  clear hJ
  refine ⟨_,rfl,line_le (show 2≤1000 by omega),fun r6 hr6=>?_⟩
  generalize hJ:upd J5 r6 _=J6
  have s6:Same J5 J6:=by rw [← hJ];exact (Same.refl J5).new hr6
  have g6:J6 r6=some (.tup [.str ⟨#[ch]⟩,.non]):=by rw [← hJ];exact upd_same
  clear hJ
  refine ⟨line_le (show 6≤1000 by omega),fun r7 hr7=>?_⟩
  generalize hJ:upd J6 r7 _=J7
  have s7:Same J6 J7:=by rw [← hJ];exact (Same.refl J6).new hr7
  have g7:J7 r7=some (.lst [.ref r1,.ref r2,.ref r3,.ref r4,.ref r5,.ref r6]):=by rw [← hJ];exact upd_same
  clear hJ
  refine ⟨_,rfl,_,rfl,line_le (show 2≤1000 by omega),fun r8 hr8=>?_⟩
  generalize hJ:upd J7 r8 _=J8
  have s8:Same J7 J8:=by rw [← hJ];exact (Same.refl J7).new hr8
  have g8:J8 r8=some (.tup [.str ⟨#[ch]⟩,.int 4001]):=by rw [← hJ];exact upd_same
  clear hJ
  refine ⟨_,rfl,rfl,ch,rfl,rfl,lw.1,lw.2,_,rfl,line_le (show 2≤1000 by omega),fun r9 hr9=>?_⟩
  generalize hJ:upd J8 r9 _=J9
  have s9:Same J8 J9:=by rw [← hJ];exact (Same.refl J8).new hr9
  have g9:J9 r9=some (.tup [.str ⟨#[ch - 32]⟩,.int (n:Int)]):=by rw [← hJ];exact upd_same
  clear hJ
  refine ⟨_,rfl,_,rfl,_,_,rfl,rfl,line_le (show 2≤1000 by omega),_,rfl,line_le (show 2≤1000 by omega),fun r10 hr10=>?_⟩
  generalize hJ:upd J9 r10 _=J10
  have s10:Same J9 J10:=by rw [← hJ];exact (Same.refl J9).new hr10
  have g10:J10 r10=some (.tup [.str ((⟨#[ch]⟩:Str)++(⟨#[ch]⟩:Str)),.int (n:Int)]):=by rw [← hJ];exact upd_same
  clear hJ
  refine ⟨_,rfl,line_le (show 2≤1000 by omega),fun r11 hr11=>?_⟩
  generalize hJ:upd J10 r11 _=J11
  have s11:Same J10 J11:=by rw [← hJ];exact (Same.refl J10).new hr11
  have g11:J11 r11=some (.tup [.str (Str.ofString ""),.int (n:Int)]):=by rw [← hJ];exact upd_same
  clear hJ
  refine ⟨_,rfl,_,rfl,line_le (show 2≤1000 by omega),fun r12 hr12=>?_⟩
  generalize hJ:upd J11 r12 _=J12
  have s12:Same J11 J12:=by rw [← hJ];exact (Same.refl J11).new hr12
  have g12:J12 r12=some (.tup [.int (n:Int),.str ⟨#[ch]⟩]):=by rw [← hJ];exact upd_same
  clear hJ
  refine ⟨line_le (show 5≤1000 by omega),fun r13 hr13=>?_⟩
  generalize hJ:upd J12 r13 _=J13
  have s13:Same J12 J13:=by rw [← hJ];exact (Same.refl J12).new hr13
  have g13:J13 r13=some (.lst [.ref r8,.ref r9,.ref r10,.ref r11,.ref r12]):=by rw [← hJ];exact upd_same
  clear hJ
  refine ⟨r7,r13,_,_,rfl,rfl,(s13 _ _ (s12 _ _ (s11 _ _ (s10 _ _ (s9 _ _ (s8 _ _ g7)))))),g13,line_le (show 6+5≤1000 by omega),fun r14 hr14=>?_⟩
  generalize hJ:upd J13 r14 _=J14
  have s14:Same J13 J14:=by rw [← hJ];exact (Same.refl J13).new hr14
  have g14:J14 r14=some (.lst [.ref r1,.ref r2,.ref r3,.ref r4,.ref r5,.ref r6,.ref r8,.ref r9,.ref r10,.ref r11,.ref r12]):=by rw [← hJ];exact upd_same
  clear hJ
  refine ⟨_,rfl,_,rfl,line_le (show 1≤1000 by omega),fun r15 hr15=>?_⟩
  generalize hJ:upd J14 r15 _=J15
  have s15:Same J14 J15:=by rw [← hJ];exact (Same.refl J14).new hr15
  have g15:J15 r15=some (.tup [.str ⟨#[ch]⟩]):=by rw [← hJ];exact upd_same
  clear hJ
  refine ⟨_,rfl,_,rfl,_,rfl,line_le (show 3≤1000 by omega),fun r16 hr16=>?_⟩
  generalize hJ:upd J15 r16 _=J16
  have s16:Same J15 J16:=by rw [← hJ];exact (Same.refl J15).new hr16
  have g16:J16 r16=some (.tup [.str ⟨#[ch]⟩,.int (n:Int),.int (n:Int)]):=by rw [← hJ];exact upd_same
  clear hJ
  refine ⟨_,rfl,_,rfl,line_le (show 2≤1000 by omega),fun r17 hr17=>?_⟩
  generalize hJ:upd J16 r17 _=J17
  have s17:Same J16 J17:=by rw [← hJ];exact (Same.refl J16).new hr17
  have g17:J17 r17=some (.lst [.str ⟨#[ch]⟩,.int (n:Int)]):=by rw [← hJ];exact upd_same
  clear hJ
  refine ⟨_,rfl,_,rfl,_,rfl,line_le (show 2≤1000 by omega),fun r18 hr18=>?_⟩
  generalize hJ:upd J17 r18 _=J18
  have s18:Same J17 J18:=by rw [← hJ];exact (Same.refl J17).new hr18
  have g18:J18 r18=some (.tup [.str ⟨#[co]⟩,.int (n:Int)]):=by rw [← hJ];exact upd_same
  clear hJ
  refine ⟨_,rfl,line_le (show 2≤1000 by omega),fun r19 hr19=>?_⟩
  generalize hJ:upd J18 r19 _=J19
  have s19:Same J18 J19:=by rw [← hJ];exact (Same.refl J18).new hr19
  have g19:J19 r19=some (.tup [.str ⟨#[co]⟩,.int 1]):=by rw [← hJ];exact upd_same
  clear hJ
  refine ⟨line_le (show 7≤1000 by omega),fun r20 hr20=>?_⟩
  generalize hJ:upd J19 r20 _=J20
  have s20:Same J19 J20:=by rw [← hJ];exact (Same.refl J19).new hr20
  have g20:J20 r20=some (.lst [.ref r15,.ref r16,.ref r17,.str ⟨#[ch]⟩,.non,.ref r18,.ref r19]):=by rw [← hJ];exact upd_same
  clear hJ
  refine ⟨r14,r20,_,_,rfl,rfl,(s20 _ _ (s19 _ _ (s18 _ _ (s17 _ _ (s16 _ _ (s15 _ _ g14)))))),g20,line_le (show 11+7≤1000 by omega),fun r21 hr21=>?_⟩
  generalize hJ:upd J20 r21 _=J21
  have s21:Same J20 J21:=by rw [← hJ];exact (Same.refl J20).new hr21
  have g21:J21 r21=some (.lst [.ref r1,.ref r2,.ref r3,.ref r4,.ref r5,.ref r6,.ref r8,.ref r9,.ref r10,.ref r11,.ref r12,.ref r15,.ref r16,.ref r17,.str ⟨#[ch]⟩,.non,.ref r18,.ref r19]):=by rw [← hJ];exact upd_same
  clear hJ
  refine ⟨_,rfl,.inl ⟨rfl,_,SqL.of g21⟩,_,rfl,line_le (show 2≤1000 by omega),fun r22 hr22=>?_⟩
  generalize hJ:upd J21 r22 _=J22
  have s22:Same J21 J22:=by rw [← hJ];exact (Same.refl J21).new hr22
  have g22:J22 r22=some (.tup [.str (Str.ofString "-"),.int (n:Int)]):=by rw [← hJ];exact upd_same
  clear hJ
  refine ⟨r21,_,_,rfl,rfl,(s22 _ _ g21),small1000 (show 18≤1000 by omega),?_⟩
  generalize hJ:upd J22 r21 _=J23
  have sw:Same J20 J23:=by rw [← hJ];exact (s21.trans s22).write hr21
  have gw:J23 r21=some (.lst [.ref r1,.ref r2,.ref r3,.ref r4,.ref r5,.ref r6,.ref r8,.ref r9,.ref r10,.ref r11,.ref r12,.ref r15,.ref r16,.ref r17,.str ⟨#[ch]⟩,.non,.ref r18,.ref r19,.ref r22]):=by rw [← hJ];exact upd_same
  have gr:J23 r22=some (.tup [.str (Str.ofString "-"),.int (n:Int)]):=by rw [← hJ,upd_ne (ne_of_none (g21) hr22).symm];exact g22
  clear hJ
  refine ⟨_,rfl,_,rfl,_,rfl,line_le (show 1≤1000 by omega),fun r24 hr24=>?_⟩
  generalize hJ:upd J23 r24 _=J24
  have s24:Same J23 J24:=by rw [← hJ];exact (Same.refl J23).new hr24
  have g24:J24 r24=some (.tup [.int (n:Int)]):=by rw [← hJ];exact upd_same
  clear hJ
  refine ⟨line_le (show 2≤1000 by omega),fun r25 hr25=>?_⟩
  generalize hJ:upd J24 r25 _=J25
  have s25:Same J24 J25:=by rw [← hJ];exact (Same.refl J24).new hr25
  have g25:J25 r25=some (.tup [.str ⟨#[ch]⟩,.ref r24]):=by rw [← hJ];exact upd_same
  clear hJ
  refine ⟨_,rfl,line_le (show 2≤1000 by omega),fun r26 hr26=>?_⟩
  generalize hJ:upd J25 r26 _=J26
  have s26:Same J25 J26:=by rw [← hJ];exact (Same.refl J25).new hr26
  have g26:J26 r26=some (.tup [.str ⟨#[ch]⟩,.int 4000]):=by rw [← hJ];exact upd_same
  clear hJ
  refine ⟨_,rfl,_,_,rfl,rfl,⟨by decide,by decide,by decide⟩,line_le (show 2≤1000 by omega),fun r27 hr27=>?_⟩
  generalize hJ:upd J26 r27 _=J27
  have s27:Same J26 J27:=by rw [← hJ];exact (Same.refl J26).new hr27
  have g27:J27 r27=some (.tup [.str ⟨#[ch]⟩,.int (10 ^ (59:Int).toNat)]):=by rw [← hJ];exact upd_same
  clear hJ
  refine ⟨_,rfl,_,rfl,_,_,rfl,rfl,_,_,rfl,line_le (show 2≤1000 by omega),fun r28 hr28=>?_⟩
  generalize hJ:upd J27 r28 _=J28
  have s28:Same J27 J28:=by rw [← hJ];exact (Same.refl J27).new hr28
  have g28:J28 r28=some (.tup [.str ⟨#[ch]⟩,.int (if (n:Int) - 1 > 1 then (n:Int) - 1 else 1)]):=by rw [← hJ];exact upd_same
  clear hJ
  refine ⟨_,rfl,line_le (show 2≤1000 by omega),fun r29 hr29=>?_⟩
  generalize hJ:upd J28 r29 _=J29
  have s29:Same J28 J29:=by rw [← hJ];exact (Same.refl J28).new hr29
  have g29:J29 r29=some (.tup [.non,.int (n:Int)]):=by rw [← hJ];exact upd_same
  clear hJ
  refine ⟨line_le (show 5≤1000 by omega),fun r30 hr30=>?_⟩
  generalize hJ:upd J29 r30 _=J30
  have s30:Same J29 J30:=by rw [← hJ];exact (Same.refl J29).new hr30
  have g30:J30 r30=some (.lst [.ref r25,.ref r26,.ref r27,.ref r28,.ref r29]):=by rw [← hJ];exact upd_same
  clear hJ
  refine ⟨r21,r30,_,_,rfl,rfl,(s30 _ _ (s29 _ _ (s28 _ _ (s27 _ _ (s26 _ _ (s25 _ _ (s24 _ _ gw))))))),g30,line_le (show 19+5≤1000 by omega),fun r31 hr31=>?_⟩
  generalize hJ:upd J30 r31 _=J31
  have s31:Same J30 J31:=by rw [← hJ];exact (Same.refl J30).new hr31
  have g31:J31 r31=some (.lst [.ref r1,.ref r2,.ref r3,.ref r4,.ref r5,.ref r6,.ref r8,.ref r9,.ref r10,.ref r11,.ref r12,.ref r15,.ref r16,.ref r17,.str ⟨#[ch]⟩,.non,.ref r18,.ref r19,.ref r22,.ref r25,.ref r26,.ref r27,.ref r28,.ref r29]):=by rw [← hJ];exact upd_same
  clear hJ
  have e31:Same J31 J31:=Same.refl _
  have e30:Same J30 J31:=s31.trans e31
  have e29:Same J29 J31:=s30.trans e30
  have e28:Same J28 J31:=s29.trans e29
  have e27:Same J27 J31:=s28.trans e28
  have e26:Same J26 J31:=s27.trans e27
  have e25:Same J25 J31:=s26.trans e26
  have e24:Same J24 J31:=s25.trans e25
  have e23:Same J23 J31:=s24.trans e24
  have e20:Same J20 J31:=sw.trans e23
  have e19:Same J19 J31:=s20.trans e20
  have e18:Same J18 J31:=s19.trans e19
  have e17:Same J17 J31:=s18.trans e18
  have e16:Same J16 J31:=s17.trans e17
  have e15:Same J15 J31:=s16.trans e16
  have e14:Same J14 J31:=s15.trans e15
  have e13:Same J13 J31:=s14.trans e14
  have e12:Same J12 J31:=s13.trans e13
  have e11:Same J11 J31:=s12.trans e12
  have e10:Same J10 J31:=s11.trans e11
  have e9:Same J9 J31:=s10.trans e10
  have e8:Same J8 J31:=s9.trans e9
  have e7:Same J7 J31:=s8.trans e8
  have e6:Same J6 J31:=s7.trans e7
  have e5:Same J5 J31:=s6.trans e6
  have e4:Same J4 J31:=s5.trans e5
  have e3:Same J3 J31:=s4.trans e4
  have e2:Same J2 J31:=s3.trans e3
  have e1:Same J1 J31:=s2.trans e2
  have e0:Same J0 J31:=s1.trans e1
  have kf:Kt p (c+1) H J31:=k0.same e0
  have ptf:=kf.pt
  have one:∀ {x:Nat},x < 1000→∀ {z:Str},V.str ⟨#[x]⟩=.str z→z.length≤900∧∀ c∈z.cps.toList,c < 1000:=fun {x} hx {z} e=>by
    injection e with e
    subst e
    exact ⟨by show 1 ≤ 900; omega, fun c hc => by have:c=x:=by simpa using hc
                                                  omega⟩
  have tgi:∀ {i:Int},i.natAbs≤10000→Tg p J31 false true 201 1 (.int i):=fun h=>tg_int (int60 h)
  have tgs1:∀ {x:Nat},x < 1000→Tg p J31 false true 201 1 (.str ⟨#[x]⟩):=fun {x} hx=>tg_str (low_small (one hx rfl).2) (by show 1≤201;omega)
  have ca:ch < 1000:=by have:=lw.2;omega
  have co':co < 1000:=by have:=lco.2;omega
  have tN:Tg p J31 false true 201 1 (.int (n:Int)):=tgi (by omega)
  have aa:∀ z,V.str ((⟨#[ch]⟩:Str)++(⟨#[ch]⟩:Str))=.str z→z.length≤900∧∀ c∈z.cps.toList,c < 1000:=fun z e=>by
    injection e with e
    subst e
    refine ⟨by show 2≤900;omega,fun c hc=>?_⟩
    rw [app_list] at hc
    have:c=ch:=by simpa using hc
    omega
  have taa:Tg p J31 false true 201 1 (.str ((⟨#[ch]⟩:Str)++(⟨#[ch]⟩:Str))):=tg_str (low_small (aa _ rfl).2) (by show 2≤201;omega)
  have ee:∀ z,V.str (Str.ofString "")=.str z→z.length≤900∧∀ c∈z.cps.toList,c < 1000:=fun z e=>by
    injection e with e
    subst e
    exact ⟨by decide,fun c hc=>by cases hc⟩
  have tee:Tg p J31 false true 201 1 (.str (Str.ofString "")):=tg_str (low_of _) (by decide)
  have mm:∀ z,V.str (Str.ofString "-")=.str z→z.length≤900∧∀ c∈z.cps.toList,c < 1000:=fun z e=>by
    injection e with e
    subst e
    exact ⟨by decide +kernel,by decide +kernel⟩
  have tmm:Tg p J31 false true 201 1 (.str (Str.ofString "-")):=tg_str (low_of _) (by decide +kernel)
  have tsn:Tg p J31 false true 3000 1 (.str (Str.ofString (toString (n:Int)))):=tg_str (low_of _) (str_int_len (by omega))
  have tin:Tg p J31 false true 202 2 (.ref r24):=tg_tup (hd:=false) (hl:=true) (e24 _ _ g24) (ptf.neT (e24 _ _ g24)) (Tgs.one tN)
  have nrl:r17≠p:=(k0.same (((((((((((((((s1.trans s2).trans s3).trans s4).trans s5).trans s6).trans s7).trans s8).trans s9).trans s10).trans s11).trans s12).trans s13).trans s14).trans s15).trans s16)).pt.ne hr17
  have bag:∀ v∈[V.ref r1,.ref r2,.ref r3,.ref r4,.ref r5,.ref r6,.ref r8,.ref r9,.ref r10,.ref r11,.ref r12,.ref r15,.ref r16,.ref r17,.str ⟨#[ch]⟩,.non,.ref r18,.ref r19,.ref r22,.ref r25,.ref r26,.ref r27,.ref r28,.ref r29],Tw p J31 false true 5000 3 v:=fun v hv=>by
    simp only [List.mem_cons,List.not_mem_nil,or_false] at hv
    rcases hv with rfl | rfl | rfl | rfl | rfl | rfl | rfl | rfl | rfl | rfl | rfl | rfl | rfl | rfl | rfl | rfl | rfl | rfl | rfl | rfl | rfl | rfl | rfl | rfl
    · exact (tw_tup (hd:=false) (hl:=true) (x:=.str ⟨#[ch]⟩) (xs:=[.int ((n:Int)+1)]) (e1 _ _ g1) (ptf.neT (e1 _ _ g1)) (fun z e=>one ca e) (tgs1 ca) ((Tgs.one (tgi (by omega))).append Tgs.nil)).mono (by omega) (by omega)
    · exact (tw_tup (hd:=false) (hl:=true) (x:=.str ⟨#[ch]⟩) (xs:=[.int 0]) (e2 _ _ g2) (ptf.neT (e2 _ _ g2)) (fun z e=>one ca e) (tgs1 ca) ((Tgs.one (tgi (by omega))).append Tgs.nil)).mono (by omega) (by omega)
    · exact (tw_tup (hd:=false) (hl:=true) (x:=.str ⟨#[ch]⟩) (xs:=[.int (-1)]) (e3 _ _ g3) (ptf.neT (e3 _ _ g3)) (fun z e=>one ca e) (tgs1 ca) ((Tgs.one (tgi (by omega))).append Tgs.nil)).mono (by omega) (by omega)
    · exact (tw_tup (hd:=false) (hl:=true) (x:=.str ⟨#[ch]⟩) (xs:=[.bl true]) (e4 _ _ g4) (ptf.neT (e4 _ _ g4)) (fun z e=>one ca e) (tgs1 ca) ((Tgs.one ((tg_bl true:Tg p J31 false true 0 1 (.bl true)))).append Tgs.nil)).mono (by omega) (by omega)
    · exact (tw_tup (hd:=false) (hl:=true) (x:=.str ⟨#[ch]⟩) (xs:=[.str (Str.ofString (toString (n:Int)))]) (e5 _ _ g5) (ptf.neT (e5 _ _ g5)) (fun z e=>one ca e) (tgs1 ca) ((Tgs.one (tsn)).append Tgs.nil)).mono (by omega) (by omega)
    · exact (tw_tup (hd:=false) (hl:=true) (x:=.str ⟨#[ch]⟩) (xs:=[.non]) (e6 _ _ g6) (ptf.neT (e6 _ _ g6)) (fun z e=>one ca e) (tgs1 ca) ((Tgs.one ((tg_non:Tg p J31 false true 0 1 .non))).append Tgs.nil)).mono (by omega) (by omega)
    · exact (tw_tup (hd:=false) (hl:=true) (x:=.str ⟨#[ch]⟩) (xs:=[.int 4001]) (e8 _ _ g8) (ptf.neT (e8 _ _ g8)) (fun z e=>one ca e) (tgs1 ca) ((Tgs.one (tgi (by omega))).append Tgs.nil)).mono (by omega) (by omega)
    · exact (tw_tup (hd:=false) (hl:=true) (x:=.str ⟨#[ch - 32]⟩) (xs:=[.int (n:Int)]) (e9 _ _ g9) (ptf.neT (e9 _ _ g9)) (fun z e=>one (by omega) e) (tgs1 (by omega)) ((Tgs.one (tN)).append Tgs.nil)).mono (by omega) (by omega)
    · exact (tw_tup (hd:=false) (hl:=true) (x:=.str ((⟨#[ch]⟩:Str)++(⟨#[ch]⟩:Str))) (xs:=[.int (n:Int)]) (e10 _ _ g10) (ptf.neT (e10 _ _ g10)) (fun z e=>aa z e) (taa) ((Tgs.one (tN)).append Tgs.nil)).mono (by omega) (by omega)
    · exact (tw_tup (hd:=false) (hl:=true) (x:=.str (Str.ofString "")) (xs:=[.int (n:Int)]) (e11 _ _ g11) (ptf.neT (e11 _ _ g11)) (fun z e=>ee z e) (tee) ((Tgs.one (tN)).append Tgs.nil)).mono (by omega) (by omega)
    · exact (tw_tup (hd:=false) (hl:=true) (x:=.int (n:Int)) (xs:=[.str ⟨#[ch]⟩]) (e12 _ _ g12) (ptf.neT (e12 _ _ g12)) (fun z e=>by cases e) (tN) ((Tgs.one (tgs1 ca)).append Tgs.nil)).mono (by omega) (by omega)
    · exact (tw_tup (hd:=false) (hl:=true) (x:=.str ⟨#[ch]⟩) (xs:=[]) (e15 _ _ g15) (ptf.neT (e15 _ _ g15)) (fun z e=>one ca e) (tgs1 ca) Tgs.nil).mono (by omega) (by omega)
    · exact (tw_tup (hd:=false) (hl:=true) (x:=.str ⟨#[ch]⟩) (xs:=[.int (n:Int),.int (n:Int)]) (e16 _ _ g16) (ptf.neT (e16 _ _ g16)) (fun z e=>one ca e) (tgs1 ca) ((Tgs.one (tN)).append ((Tgs.one (tN)).append Tgs.nil))).mono (by omega) (by omega)
    · exact ((tg_lst (hd:=false) (e17 _ _ g17) nrl ((Tgs.one (tgs1 ca)).append (Tgs.one tN))).mono (by omega) (by omega)).no (fun a xs ea h=>by cases ea;rw [e17 _ _ g17] at h;cases h)
    · exact ((tgs1 ca).mono (by omega) (by omega)).no (fun a xs ea=>by cases ea)
    · exact (tg_non.mono (Nat.zero_le _) (Nat.zero_le _)).no (fun a xs ea=>by cases ea)
    · exact (tw_tup (hd:=false) (hl:=true) (x:=.str ⟨#[co]⟩) (xs:=[.int (n:Int)]) (e18 _ _ g18) (ptf.neT (e18 _ _ g18)) (fun z e=>one co' e) (tgs1 co') ((Tgs.one (tN)).append Tgs.nil)).mono (by omega) (by omega)
    · exact (tw_tup (hd:=false) (hl:=true) (x:=.str ⟨#[co]⟩) (xs:=[.int 1]) (e19 _ _ g19) (ptf.neT (e19 _ _ g19)) (fun z e=>one co' e) (tgs1 co') ((Tgs.one (tgi (by omega))).append Tgs.nil)).mono (by omega) (by omega)
    · exact (tw_tup (hd:=false) (hl:=true) (x:=.str (Str.ofString "-")) (xs:=[.int (n:Int)]) (e23 _ _ gr) (ptf.neT (e23 _ _ gr)) (fun z e=>mm z e) (tmm) ((Tgs.one (tN)).append Tgs.nil)).mono (by omega) (by omega)
    · exact (tw_tup (hd:=false) (hl:=true) (x:=.str ⟨#[ch]⟩) (xs:=[.ref r24]) (e25 _ _ g25) (ptf.neT (e25 _ _ g25)) (fun z e=>one ca e) ((tgs1 ca).mono (Nat.le_refl _) (by omega:1≤2)) (Tgs.one tin)).mono (by omega) (by omega)
    · exact (tw_tup (hd:=false) (hl:=true) (x:=.str ⟨#[ch]⟩) (xs:=[.int 4000]) (e26 _ _ g26) (ptf.neT (e26 _ _ g26)) (fun z e=>one ca e) (tgs1 ca) ((Tgs.one (tgi (by omega))).append Tgs.nil)).mono (by omega) (by omega)
    · exact (tw_tup (hd:=false) (hl:=true) (x:=.str ⟨#[ch]⟩) (xs:=[.int (10 ^ (59:Int).toNat)]) (e27 _ _ g27) (ptf.neT (e27 _ _ g27)) (fun z e=>one ca e) (tgs1 ca) ((Tgs.one (tg_int (by decide))).append Tgs.nil)).mono (by omega) (by omega)
    · exact (tw_tup (hd:=false) (hl:=true) (x:=.str ⟨#[ch]⟩) (xs:=[.int (if (n:Int) - 1 > 1 then (n:Int) - 1 else 1)]) (e28 _ _ g28) (ptf.neT (e28 _ _ g28)) (fun z e=>one ca e) (tgs1 ca) ((Tgs.one (tgi (by split <;> omega))).append Tgs.nil)).mono (by omega) (by omega)
    · exact (tw_tup (hd:=false) (hl:=true) (x:=.non) (xs:=[.int (n:Int)]) (e29 _ _ g29) (ptf.neT (e29 _ _ g29)) (fun z e=>by cases e) ((tg_non:Tg p J31 false true 0 1 .non)) ((Tgs.one (tN)).append Tgs.nil)).mono (by omega) (by omega)
  have bl:([.ref r1,.ref r2,.ref r3,.ref r4,.ref r5,.ref r6,.ref r8,.ref r9,.ref r10,.ref r11,.ref r12,.ref r15,.ref r16,.ref r17,.str ⟨#[ch]⟩,.non,.ref r18,.ref r19,.ref r22,.ref r25,.ref r26,.ref r27,.ref r28,.ref r29]:List V).length=24:=rfl
  generalize [V.ref r1,.ref r2,.ref r3,.ref r4,.ref r5,.ref r6,.ref r8,.ref r9,.ref r10,.ref r11,.ref r12,.ref r15,.ref r16,.ref r17,.str ⟨#[ch]⟩,.non,.ref r18,.ref r19,.ref r22,.ref r25,.ref r26,.ref r27,.ref r28,.ref r29]=ths at g31 bag bl
  have lfp:r31≠p:=(k0.same ((((((((((((((((((((((((((((s1.trans s2).trans s3).trans s4).trans s5).trans s6).trans s7).trans s8).trans s9).trans s10).trans s11).trans s12).trans s13).trans s14).trans s15).trans s16).trans s17).trans s18).trans s19).trans s20).trans sw).trans s24).trans s25).trans s26).trans s27).trans s28).trans s29).trans s30))).pt.ne hr31
  refine ⟨_,rfl,_,rfl,_,rfl,r31,_,rfl,.inl (SqL.of g31),p,_,_,rfl,ptf,by omega,by omega,by omega,fun n9 Jf y0 y1 kc=>?_⟩
  have nl:n9.toNat < ths.length:=by omega
  have en:=atI_nat (List.getElem?_eq_getElem nl)
  rw [show ((n9.toNat:Nat):Int)=n9 by omega] at en
  refine ⟨r31,_,_,_,rfl,rfl,SqL.of (kc.keep _ _ lfp g31),en,?_⟩
  exact q _ _ ((kf.trans kc).mono (by omega)) ((bag _ (List.getElem_mem nl)).on (dlk kc))
end
end S38
namespace S38
open PySem L2
theorem cut_mem {xs:List V} {lo hi:Option Int} {x:V} (h:x∈cutV xs lo hi):x∈xs:=List.mem_of_mem_drop (List.mem_of_mem_take h)
theorem cut_le (xs:List V) (lo hi:Option Int):(cutV xs lo hi).length≤xs.length:=by
  unfold cutV
  rw [List.length_take,List.length_drop]
  omega
theorem cut_len1 {xs:List V} {i:Int} (h0:0≤i):(cutV xs none (some i)).length+(cutV xs (some i) none).length≤xs.length:=by
  obtain ⟨j,rfl⟩:∃ j:Nat,i=(j:Int):=⟨i.toNat,by omega⟩
  unfold cutV
  rw [HT.sIx_nat,HT.sIx_nat,HT.sIx_none,HT.sIx_none,List.length_take,List.length_take,List.length_drop,List.length_drop]
  omega
theorem cut_len2 {xs:List V} {i:Int} (h0:0≤i):(cutV xs none (some i)).length+(cutV xs (some (i+1)) none).length≤xs.length:=by
  obtain ⟨j,rfl⟩:∃ j:Nat,i=(j:Int):=⟨i.toNat,by omega⟩
  rw [show ((j:Int)+1)=((j+1:Nat):Int) by omega]
  unfold cutV
  rw [HT.sIx_nat,HT.sIx_nat,HT.sIx_none,HT.sIx_none,List.length_take,List.length_take,List.length_drop,List.length_drop]
  omega
theorem cut_len3 {xs:List V} {i:Int} (h0:0≤i):(cutV xs none (some i)).length+(cutV xs (some i) (some (i+2))).length+(cutV xs (some (i+2)) none).length≤xs.length:=by
  obtain ⟨j,rfl⟩:∃ j:Nat,i=(j:Int):=⟨i.toNat,by omega⟩
  rw [show ((j:Int)+2)=((j+2:Nat):Int) by omega]
  unfold cutV
  rw [HT.sIx_nat,HT.sIx_nat,HT.sIx_nat,HT.sIx_nat,HT.sIx_none,HT.sIx_none,List.length_take,List.length_take,List.length_take,List.length_drop,List.length_drop,List.length_drop]
  omega
theorem shk_refs {H:Hp} {as:List Addr} {ds:List PyData} (t:Tds H (as.map V.ref) ds):ShK (.tuple ds):=fun x r z zz ez=>by
  injection z with z
  subst z
  subst ez
  cases as with
  | nil=>cases t
  | cons a as=>cases t with
    | cons t _=>cases t
theorem tw_run {p a:Addr} {H:Hp} {hd hl:Bool} {ch n:Nat} {c:Int} (pt:Pt H p c) (h:H a=some (.tup [.str ⟨#[ch]⟩,.int (n:Int)])) (lw:Lw ch) (n4:n≤4000):Tw p H hd hl 250 2 (.ref a):=
  (tw_tup (x:=.str ⟨#[ch]⟩) (xs:=[.int (n:Int)]) h (pt.neT h) (fun z e=>by
    injection e with e
    subst e
    exact ⟨by show 1≤900;omega,one_low lw⟩) (tg_str (c:=1) (e:=1) (low_small (one_low lw)) (Nat.le_refl _)) (Tgs.one (tg_int (int60 (by omega))))).mono (by omega) (by omega)
section
variable {P:Program} {w:World} {K:PySem.W.Frag} {mg:Str→Option Value} {base:Heap} {k:Nat}
def sp_spoilt:Sp:=fun vs H Q _=>∃ (p t:Addr) (c:Int) (rs:List Rc),vs=[.ref p,.ref t]∧Pt H p c∧c < 800000∧RunsAt H t (rs.map toRn)∧W38.Good Lw rs∧W38.len rs≤4000∧rs.length≤20∧∀ (v:V) (H':Hp),Kt p (c+6) H H'→Th p H' v→Q v H'
theorem has_spoilt (D:Df K mg "_law_spoilt" s_law_spoilt) (B:Blt7 mg) (G_law_take:Has P w K mg base "_law_take" k ["pot", "many"] sp_take) (G_law_odd:Has P w K mg base "_law_odd" k ["pot", "run"] sp_odd):Has P w K mg base "_law_spoilt" (k+1) ["pot", "runs"] sp_spoilt:=by
  refine D.has sc_law_spoilt (fun _ _ _ _ _ _ us hl=>match us,hl with | [_,_],_=>rfl) (fun vs H Q E h=>by obtain ⟨p,t,c,rs,rfl,_⟩:=h;rfl) (fun f cdv A outer s H vs Q E hr h=>?_)
  obtain ⟨p,t,c,rs,rfl,pt,c8,ra,good,len4,l20,q⟩:=h
  refine exw ?_
  refine ⟨_,(w_cons (Pw.mk (ps_set (i:=2) sc_law_spoilt.nd rfl (by first | exact Or.inl rfl | exact Or.inr rfl) (pe_callH G_law_take hr rfl (pa_cons (pv 0) (pa_cons pe_int pa_nil)))))
  (w_cons (Pw.mk (ps_set (i:=3) sc_law_spoilt.nd rfl (by first | exact Or.inl rfl | exact Or.inr rfl) (pe_callH G_law_take hr rfl (pa_cons (pv 0) (pa_cons (pe_op op_add (pe_callB call_len_seq rfl B.len bt_len (pa_cons (pv 1) pa_nil)) pe_int) pa_nil)))))
  (w_cons (w_set (i:=4) sc_law_spoilt.nd rfl (by first | exact Or.inl rfl | exact Or.inr rfl) (w_ix ix_tup (w_op op_catU (PEw.mk (pv 1)) (w_tup (w_acons (w_tup (w_acons w_str (w_acons (PEw.mk pe_int) w_anil))) w_anil))) (PEw.mk (pv 3)) (fun _ _=>rfl)))
  (w_cons (Pw.mk (ps_if (pt_cmpR op_lt (pv 2) pe_int (nomark _))
  (pss_one (ps_ret (pe_op op_catU (pe_op op_catU (pe_slice sl_tupU (pv 1) po_none (po_some (pv 3))) (pe_tup (pa_cons (pe_callH G_law_odd hr rfl (pa_cons (pv 0) (pa_cons (pv 4) pa_nil))) pa_nil))) (pe_slice sl_tupU (pv 1) (po_some (pe_op op_add (pv 3) pe_int)) po_none))))
  pss_nil))
  (w_cons (Pw.mk (ps_if (pt_cmpR op_eq (pv 2) pe_int (nomark _))
  (pss_one (ps_ret (pe_op op_catU (pe_op op_catU (pe_slice sl_tupU (pv 1) po_none (po_some (pv 3))) (pe_tup (pa_cons (pe_callH G_law_odd hr rfl (pa_cons (pv 0) (pa_cons (pv 4) pa_nil))) pa_nil))) (pe_slice sl_tupU (pv 1) (po_some (pv 3)) po_none))))
  pss_nil))
  (w_cons (Pw.mk (ps_if (pt_cmpR op_eq (pv 2) pe_int (nomark _))
  (pss_one (ps_ret (pe_op op_catU (pe_slice sl_tupU (pv 1) po_none (po_some (pv 3))) (pe_slice sl_tupU (pv 1) (po_some (pe_op op_add (pv 3) pe_int)) po_none))))
  pss_nil))
  (w_cons (Pw.mk (ps_if (pt_cmpR op_eq (pv 2) pe_int (nomark _))
  (pss_one (ps_ret (pe_op op_catU (pe_op op_catU (pe_slice sl_tupU (pv 1) po_none (po_some (pv 3))) (pe_tup (pa_cons (pv 4) pa_nil))) (pe_slice sl_tupU (pv 1) (po_some (pv 3)) po_none))))
  pss_nil))
  (w_cons (Pw.mk (ps_if (pt_cmpR op_eq (pv 2) pe_int (nomark _))
  (pss_one (ps_ret (pe_op op_catU (pe_op op_catU (pe_slice sl_tupU (pv 1) po_none (po_some (pv 3))) (pe_revT K (pe_slice sl_tupU (pv 1) (po_some (pv 3)) (po_some (pe_op op_add (pv 3) pe_int))) (po_some (pe_un un_neg pe_int)))) (pe_slice sl_tupU (pv 1) (po_some (pe_op op_add (pv 3) pe_int)) po_none))))
  pss_nil))
  (w_cons (Pw.mk (ps_if (pt_cmpR op_eq (pv 2) pe_int (nomark _)) (pss_one (ps_ret (pe_ix ix_list (pe_lst (pa_cons (pe_callTy call_list_of rfl B.list_ bt_list (pa_cons (pv 1) pa_nil)) (pa_cons pe_non (pa_cons pe_str (pa_cons (pe_tup pa_nil) (pa_cons pe_dnewK (pa_cons pe_int (pa_cons pe_bl (pa_cons (pe_tup (pa_cons (pv 1) pa_nil)) (pa_cons pe_str (pa_cons (pe_lst (pa_cons (pe_tup (pa_cons pe_str (pa_cons pe_int pa_nil))) pa_nil)) pa_nil))))))))))) (pe_callH G_law_take hr rfl (pa_cons (pv 0) (pa_cons pe_int pa_nil))) (fun _ _=>rfl)))) pss_nil))
  (w_cons (Pw.mk (ps_set (i:=5) sc_law_spoilt.nd rfl (by first | exact Or.inl rfl | exact Or.inr rfl) (pe_op op_sub pe_int (pe_callB (call_sumA K rfl) rfl B.sum bt_sum (pa_cons (pe_comp rfl (pi_tup (pv 1)) (NL:=["letter", "many"]) (ix:=[]) (csc (defScope s_law_spoilt) N_law_spoilt) (fun cl C s₃ H₃ fp pins=>⟨(pg_tupK K (n:=2) rfl (pgs_cons (pg_name (i:=0) (show List.Nodup (["letter", "many"]:List Str) from by decide +kernel) rfl (by first | exact Or.inl rfl | exact Or.inr rfl)) (pgs_cons (pg_name (i:=1) (show List.Nodup (["letter", "many"]:List Str) from by decide +kernel) rfl (by first | exact Or.inl rfl | exact Or.inr rfl)) pgs_nil))),pifs_nil,(pv 1)⟩)) pa_nil)))))
  (w_one (w_ret (w_op op_catU (PEw.mk (pv 1)) (w_tup (w_acons (w_tup (w_acons (w_ix ix_str w_str (PEw.mk (pe_callH G_law_take hr rfl (pa_cons (pv 0) (pa_cons pe_int pa_nil)))) (fun _ _=>rfl)) (w_acons (PEw.mk (pv 5)) w_anil))) w_anil))))))))))))))),?_⟩
  obtain ⟨as,ht,rr⟩:=id ra
  have al:(as.map V.ref).length=rs.length:=by rw [rs_len rr,List.length_map]
  have tp:t≠p:=pt.neT ht
  refine ⟨_,rfl,p,_,_,rfl,pt,by omega,by decide,by decide,fun way H1 w0 w1 k1=>?_⟩
  have ht1:=k1.keep _ _ tp ht
  refine ⟨_,rfl,_,rfl,t,_,rfl,.inr (SqT.of ht1),_,_,rfl,rfl,p,_,_,rfl,k1.pt,by omega,by omega,by omega,fun at_ H2 a0 a1 k2=>?_⟩
  have k02:=k1.trans k2
  have ht2:=k02.keep _ _ tp ht
  refine ⟨_,rfl,line_le (show 2≤1000 by omega),fun b1 hb1=>?_⟩
  generalize hJ:upd H2 b1 _=H3
  have s3:Same H2 H3:=by rw [← hJ];exact (Same.refl H2).new hb1
  have g3:H3 b1=some (.tup [.str ⟨#[97]⟩,.int ((1:Nat):Int)]):=by rw [← hJ];exact upd_same
  clear hJ
  refine ⟨line_le (show 1≤1000 by omega),fun b2 hb2=>?_⟩
  generalize hJ:upd H3 b2 _=H4
  have s4:Same H3 H4:=by rw [← hJ];exact (Same.refl H3).new hb2
  have g4:H4 b2=some (.tup [.ref b1]):=by rw [← hJ];exact upd_same
  clear hJ
  refine ⟨t,b2,_,_,rfl,rfl,s4 _ _ (s3 _ _ ht2),g4,line_le (by rw [al];show _+1≤1000;omega),fun b3 H5 s5 g5=>?_⟩
  have s25:=(s3.trans s4).trans s5
  have k05:=k02.same s25
  have ht5:=s25 _ _ ht2
  have rr5:RsAt H5 as (rs.map toRn):=(rr.kt pt k05)
  have g5':H5 b3=some (.tup ((as++[b1]).map V.ref)):=by rw [g5,List.map_append];rfl
  have good1:∀ r∈rs++[(97,1)],Lw r.1∧1≤r.2∧r.2≤4000:=fun r hr=>by
    rcases List.mem_append.mp hr with hr | hr
    · exact ⟨good.lt r hr,good.pos r hr,Nat.le_trans (len_mem hr) len4⟩
    · rw [List.mem_singleton.mp hr];exact ⟨⟨by decide,by decide⟩,by decide,by decide⟩
  have rq:RsAt H5 (as++[b1]) ((rs++[((97:Nat),(1:Nat))]).map toRn):=by
    rw [List.map_append]
    exact rr5.snoc (show RunAt H5 b1 (toRn (97,1)) from s5 _ _ (s4 _ _ g3))
  have nl:at_.toNat < (rs++[((97:Nat),(1:Nat))]).length:=by rw [List.length_append];show _ < _+1;omega
  obtain ⟨a8,e8,ha8⟩:=rq.at nl
  rw [show ((at_.toNat:Nat):Int)=at_ by omega] at e8
  obtain ⟨lw8,p8,n8⟩:=good1 _ (List.getElem_mem nl)
  generalize ((rs++[((97:Nat),(1:Nat))])[at_.toNat]).1=ch at lw8 ha8
  generalize ((rs++[((97:Nat),(1:Nat))])[at_.toNat]).2=n at p8 n8 ha8
  refine ⟨_,rfl,b3,_,_,_,rfl,rfl,SqT.of g5',e8,?_⟩
  have tk:∀ {hd hl:Bool} {J:Hp} {d:Int},Kt p d H5 J→∀ x∈as.map V.ref,Tw p J hd hl 250 2 x:=fun {hd hl J d} kJ x hx=>by
    obtain ⟨a,ha,rfl⟩:=List.mem_map.mp hx
    obtain ⟨i,hi,ei⟩:=List.getElem_of_mem ha
    have il:i < rs.length:=by rw [← al,List.length_map];exact hi
    have hr:=rr5.2 i a _ (by rw [List.getElem?_eq_getElem hi,ei]) (rn_at il)
    exact tw_run kJ.pt (kJ.keep _ _ (k05.pt.neT hr) hr) (good.lt _ (List.getElem_mem il)) (Nat.le_trans (len_mem (List.getElem_mem il)) len4)
  have t8:∀ {hd hl:Bool} {J:Hp} {d:Int},Kt p d H5 J→Tw p J hd hl 250 2 (.ref a8):=fun kJ=>tw_run kJ.pt (kJ.keep _ _ (k05.pt.neT ha8) ha8) lw8 n8
  have fin:∀ {J:Hp} {x:Addr} {ys:List V} {d:Int},Kt p d H5 J→d≤c+6→J x=some (.tup ys)→(∀ y∈ys,Tw p J false true 5000 3 y)→ys.length≤25→Q (.ref x) J:=fun {J x ys d} kJ dl g h l=>q _ _ ((k05.trans kJ).mono dl) (th_tup (hd:=false) (hl:=true) (.inl rfl) g (kJ.pt.neT g) (by omega) (Tws.all_le h l) (by omega) (by omega))
  have tk':∀ {J:Hp} {d:Int},Kt p d H5 J→∀ x∈as.map V.ref,Tw p J false true 5000 3 x:=fun kJ x hx=>(tk kJ x hx).mono (by omega) (by omega)
  have r5:Kt p (c+1+1) H5 H5:=Kt.refl k05.pt
  have htJ:∀ {J:Hp} {d:Int},Kt p d H5 J→J t=some (.tup (as.map V.ref)):=fun kJ=>kJ.keep _ _ tp ht5
  have cl:=cut_le (as.map V.ref)
  refine ⟨_,rfl,_,_,rfl,rfl,_,rfl,ite2 (fun cc=>?_) (fun cc=>?_)⟩
  · refine ⟨_,rfl,_,rfl,_,rfl,t,_,rfl,ht5,fun x1 J1 s1 g1=>?_⟩
    have kJ1:=r5.same s1
    refine ⟨_,rfl,_,rfl,p,a8,_,ch,n,rfl,kJ1.pt,by omega,s1 _ _ ha8,lw8,p8,n8,fun v J2 k2 tv=>?_⟩
    have kJ2:=kJ1.trans k2
    refine ⟨line_le (show 1≤1000 by omega),fun x2 hx2=>?_⟩
    generalize hJ:upd J2 x2 _=J3
    have s3:Same J2 J3:=by rw [← hJ];exact (Same.refl J2).new hx2
    have g3:J3 x2=some (.tup [v]):=by rw [← hJ];exact upd_same
    clear hJ
    have kJ3:=kJ2.same s3
    have g1':=s3 _ _ (k2.keep _ _ (kJ1.pt.neT g1) g1)
    refine ⟨x1,x2,_,_,rfl,rfl,g1',g3,line_le (by have:=cl none (some at_);show _+1≤1000;omega),fun x3 J4 s4 g4=>?_⟩
    have kJ4:=kJ3.same s4
    refine ⟨_,rfl,_,rfl,_,_,rfl,rfl,_,rfl,t,_,rfl,htJ kJ4,fun x4 J5 s5 g5=>?_⟩
    have kJ5:=kJ4.same s5
    refine ⟨x3,x4,_,_,rfl,rfl,s5 _ _ g4,g5,line_le (by have:=cl none (some at_);have:=cl (some (at_+1)) none;rw [List.length_append];show _+1+_≤1000;omega),fun x5 J6 s6 g6=>?_⟩
    have kJ6:=kJ5.same s6
    refine fin kJ6 (by omega) g6 (fun y hy=>?_) (by
      have e:=cut_len2 (xs:=as.map V.ref) (i:=at_) a0
      rw [List.length_append,List.length_append];show _+1+_≤25
      omega)
    rcases List.mem_append.mp hy with hy | hy
    · rcases List.mem_append.mp hy with hy | hy
      · exact tk' kJ6 y (cut_mem hy)
      · rw [List.mem_singleton.mp hy]
        exact tv.on (dls ((s3.trans s4).trans (s5.trans s6)))
    · exact tk' kJ6 y (cut_mem hy)
  refine ⟨_,rfl,rfl,_,rfl,ite2 (fun cc=>?_) (fun cc=>?_)⟩
  · refine ⟨_,rfl,_,rfl,_,rfl,t,_,rfl,ht5,fun x1 J1 s1 g1=>?_⟩
    have kJ1:=r5.same s1
    refine ⟨_,rfl,_,rfl,p,a8,_,ch,n,rfl,kJ1.pt,by omega,s1 _ _ ha8,lw8,p8,n8,fun v J2 k2 tv=>?_⟩
    have kJ2:=kJ1.trans k2
    refine ⟨line_le (show 1≤1000 by omega),fun x2 hx2=>?_⟩
    generalize hJ:upd J2 x2 _=J3
    have s3:Same J2 J3:=by rw [← hJ];exact (Same.refl J2).new hx2
    have g3:J3 x2=some (.tup [v]):=by rw [← hJ];exact upd_same
    clear hJ
    have kJ3:=kJ2.same s3
    have g1':=s3 _ _ (k2.keep _ _ (kJ1.pt.neT g1) g1)
    refine ⟨x1,x2,_,_,rfl,rfl,g1',g3,line_le (by have:=cl none (some at_);show _+1≤1000;omega),fun x3 J4 s4 g4=>?_⟩
    have kJ4:=kJ3.same s4
    refine ⟨_,rfl,_,rfl,_,rfl,t,_,rfl,htJ kJ4,fun x4 J5 s5 g5=>?_⟩
    have kJ5:=kJ4.same s5
    refine ⟨x3,x4,_,_,rfl,rfl,s5 _ _ g4,g5,line_le (by have:=cl none (some at_);have:=cl (some at_) none;rw [List.length_append];show _+1+_≤1000;omega),fun x5 J6 s6 g6=>?_⟩
    have kJ6:=kJ5.same s6
    refine fin kJ6 (by omega) g6 (fun y hy=>?_) (by
      have e:=cut_len1 (xs:=as.map V.ref) (i:=at_) a0
      rw [List.length_append,List.length_append];show _+1+_≤25
      omega)
    rcases List.mem_append.mp hy with hy | hy
    · rcases List.mem_append.mp hy with hy | hy
      · exact tk' kJ6 y (cut_mem hy)
      · rw [List.mem_singleton.mp hy]
        exact tv.on (dls ((s3.trans s4).trans (s5.trans s6)))
    · exact tk' kJ6 y (cut_mem hy)
  refine ⟨_,rfl,rfl,_,rfl,ite2 (fun cc=>?_) (fun cc=>?_)⟩
  · refine ⟨_,rfl,_,rfl,_,rfl,t,_,rfl,ht5,fun x1 J1 s1 g1=>?_⟩
    have kJ1:=r5.same s1
    refine ⟨_,rfl,_,rfl,_,_,rfl,rfl,_,rfl,t,_,rfl,htJ kJ1,fun x4 J5 s5 g5=>?_⟩
    have kJ5:=kJ1.same s5
    refine ⟨x1,x4,_,_,rfl,rfl,s5 _ _ g1,g5,line_le (by have:=cl none (some at_);have:=cl (some (at_+1)) none;omega),fun x5 J6 s6 g6=>?_⟩
    have kJ6:=kJ5.same s6
    refine fin kJ6 (by omega) g6 (fun y hy=>?_) (by
      have e:=cut_len2 (xs:=as.map V.ref) (i:=at_) a0
      rw [List.length_append]
      omega)
    rcases List.mem_append.mp hy with hy | hy
    · exact tk' kJ6 y (cut_mem hy)
    · exact tk' kJ6 y (cut_mem hy)
  refine ⟨_,rfl,rfl,_,rfl,ite2 (fun cc=>?_) (fun cc=>?_)⟩
  · refine ⟨_,rfl,_,rfl,_,rfl,t,_,rfl,ht5,fun x1 J1 s1 g1=>?_⟩
    have kJ1:=r5.same s1
    refine ⟨_,rfl,line_le (show 1≤1000 by omega),fun x2 hx2=>?_⟩
    generalize hJ:upd J1 x2 _=J3
    have s3:Same J1 J3:=by rw [← hJ];exact (Same.refl J1).new hx2
    have g3:J3 x2=some (.tup [.ref a8]):=by rw [← hJ];exact upd_same
    clear hJ
    have kJ3:=kJ1.same s3
    refine ⟨x1,x2,_,_,rfl,rfl,s3 _ _ g1,g3,line_le (by have:=cl none (some at_);show _+1≤1000;omega),fun x3 J4 s4 g4=>?_⟩
    have kJ4:=kJ3.same s4
    refine ⟨_,rfl,_,rfl,_,rfl,t,_,rfl,htJ kJ4,fun x4 J5 s5 g5=>?_⟩
    have kJ5:=kJ4.same s5
    refine ⟨x3,x4,_,_,rfl,rfl,s5 _ _ g4,g5,line_le (by have:=cl none (some at_);have:=cl (some at_) none;rw [List.length_append];show _+1+_≤1000;omega),fun x5 J6 s6 g6=>?_⟩
    have kJ6:=kJ5.same s6
    refine fin kJ6 (by omega) g6 (fun y hy=>?_) (by
      have e:=cut_len1 (xs:=as.map V.ref) (i:=at_) a0
      rw [List.length_append,List.length_append];show _+1+_≤25
      omega)
    rcases List.mem_append.mp hy with hy | hy
    · rcases List.mem_append.mp hy with hy | hy
      · exact tk' kJ6 y (cut_mem hy)
      · rw [List.mem_singleton.mp hy]
        exact (t8 kJ6).mono (by omega) (by omega)
    · exact tk' kJ6 y (cut_mem hy)
  refine ⟨_,rfl,rfl,_,rfl,ite2 (fun cc=>?_) (fun cc=>?_)⟩
  · refine ⟨_,rfl,_,rfl,_,rfl,t,_,rfl,ht5,fun x1 J1 s1 g1=>?_⟩
    have kJ1:=r5.same s1
    refine ⟨_,rfl,_,rfl,_,rfl,_,rfl,_,_,rfl,rfl,_,rfl,t,_,rfl,htJ kJ1,fun x2 J2 s2 g2=>?_⟩
    have kJ2:=kJ1.same s2
    refine ⟨_,rfl,_,rfl,x2,_,rfl,rfl,SqT.of g2,fun x3 hx3=>?_⟩
    generalize hJ:upd J2 x3 _=J3
    have s3:Same J2 J3:=by rw [← hJ];exact (Same.refl J2).new hx3
    have g3:J3 x3=some (.tup (cutV (as.map V.ref) (some at_) (some (at_+2))).reverse):=by rw [← hJ];exact upd_same
    clear hJ
    have kJ3:=kJ2.same s3
    refine ⟨x1,x3,_,_,rfl,rfl,s3 _ _ (s2 _ _ g1),g3,line_le (by have:=cl none (some at_);have:=cl (some at_) (some (at_+2));rw [List.length_reverse];omega),fun x4 J4 s4 g4=>?_⟩
    have kJ4:=kJ3.same s4
    refine ⟨_,rfl,_,rfl,_,_,rfl,rfl,_,rfl,t,_,rfl,htJ kJ4,fun x5 J5 s5 g5=>?_⟩
    have kJ5:=kJ4.same s5
    refine ⟨x4,x5,_,_,rfl,rfl,s5 _ _ g4,g5,line_le (by have:=cl none (some at_);have:=cl (some at_) (some (at_+2));have:=cl (some (at_+2)) none;rw [List.length_append,List.length_reverse];omega),fun x6 J6 s6 g6=>?_⟩
    have kJ6:=kJ5.same s6
    refine fin kJ6 (by omega) g6 (fun y hy=>?_) (by
      have e:=cut_len3 (xs:=as.map V.ref) (i:=at_) a0
      rw [List.length_append,List.length_append,List.length_reverse]
      omega)
    rcases List.mem_append.mp hy with hy | hy
    · rcases List.mem_append.mp hy with hy | hy
      · exact tk' kJ6 y (cut_mem hy)
      · exact tk' kJ6 y (cut_mem (List.mem_reverse.mp hy))
    · exact tk' kJ6 y (cut_mem hy)
  refine ⟨_,rfl,rfl,_,rfl,ite2 (fun cc=>?_) (fun cc=>?_)⟩
  · refine ⟨_,rfl,t,_,rfl,.inr (SqT.of ht5),fun x1 hx1=>?_⟩
    generalize hJ:upd H5 x1 _=J1
    have s1:Same H5 J1:=by rw [← hJ];exact (Same.refl H5).new hx1
    have g1:J1 x1=some (.lst (as.map V.ref)):=by rw [← hJ];exact upd_same
    clear hJ
    have kJ1:=r5.same s1
    refine ⟨line_le (show 0≤1000 by omega),fun x2 hx2=>?_⟩
    generalize hJ:upd J1 x2 _=J2
    have s2:Same J1 J2:=by rw [← hJ];exact (Same.refl J1).new hx2
    have g2:J2 x2=some (.tup []):=by rw [← hJ];exact upd_same
    clear hJ
    have kJ2:=kJ1.same s2
    refine fun x3 hx3=>?_
    generalize hJ:upd J2 x3 _=J3
    have s3:Same J2 J3:=by rw [← hJ];exact (Same.refl J2).new hx3
    have g3:J3 x3=some (.dK []):=by rw [← hJ];exact upd_same
    clear hJ
    have kJ3:=kJ2.same s3
    refine ⟨_,rfl,line_le (show 1≤1000 by omega),fun x4 hx4=>?_⟩
    generalize hJ:upd J3 x4 _=J4
    have s4:Same J3 J4:=by rw [← hJ];exact (Same.refl J3).new hx4
    have g4:J4 x4=some (.tup [.ref t]):=by rw [← hJ];exact upd_same
    clear hJ
    have kJ4:=kJ3.same s4
    refine ⟨line_le (show 2≤1000 by omega),fun x5 hx5=>?_⟩
    generalize hJ:upd J4 x5 _=J5
    have s5:Same J4 J5:=by rw [← hJ];exact (Same.refl J4).new hx5
    have g5:J5 x5=some (.tup [.str ⟨#[97]⟩,.int ((1:Nat):Int)]):=by rw [← hJ];exact upd_same
    clear hJ
    have kJ5:=kJ4.same s5
    refine ⟨line_le (show 1≤1000 by omega),fun x6 hx6=>?_⟩
    generalize hJ:upd J5 x6 _=J6
    have s6:Same J5 J6:=by rw [← hJ];exact (Same.refl J5).new hx6
    have g6:J6 x6=some (.lst [.ref x5]):=by rw [← hJ];exact upd_same
    clear hJ
    have kJ6:=kJ5.same s6
    refine ⟨line_le (show 10≤1000 by omega),fun x7 hx7=>?_⟩
    generalize hJ:upd J6 x7 _=J7
    have s7:Same J6 J7:=by rw [← hJ];exact (Same.refl J6).new hx7
    have g7:J7 x7=some (.lst [.ref x1,.non,.str (Str.ofString ""),.ref x2,.ref x3,.int 0,.bl true,.ref x4,.str (Str.ofString "aab"),.ref x6]):=by rw [← hJ];exact upd_same
    clear hJ
    have kJ7:=kJ6.same s7
    have e6:Same J6 J7:=s7
    have e5:=s6.trans e6
    have e4:=s5.trans e5
    have e3:=s4.trans e4
    have e2:=s3.trans e3
    have e1:=s2.trans e2
    have tl7:Tws p J7 false true ((250+1) * 20) 2 (as.map V.ref):=Tws.all_le (tk kJ7) (by omega)
    have bag:∀ v∈[V.ref x1,.non,.str (Str.ofString ""),.ref x2,.ref x3,.int 0,.bl true,.ref x4,.str (Str.ofString "aab"),.ref x6],Th p J7 v:=fun v hv=>by
      simp only [List.mem_cons,List.not_mem_nil,or_false] at hv
      rcases hv with rfl | rfl | rfl | rfl | rfl | rfl | rfl | rfl | rfl | rfl
      · have g:=e1 _ _ g1
        exact th_no (hd:=false) (.inl rfl) (tg_lst g (k05.pt.ne hx1) tl7.g) (by omega) (by omega) (fun a xs ea h=>by cases ea;rw [g] at h;cases h)
      · exact th_no (hd:=false) (hl:=true) (.inl rfl) (tg_non (e:=0)) (by omega) (by omega) (fun a xs ea=>by cases ea)
      · exact th_no (hd:=false) (hl:=true) (.inl rfl) (tg_str (c:=5) (e:=0) (low_of _) (by decide)) (by omega) (by omega) (fun a xs ea=>by cases ea)
      · exact th_tup (hd:=false) (hl:=true) (.inl rfl) (e2 _ _ g2) (kJ7.pt.neT (e2 _ _ g2)) (by decide) (Tws.nil (e:=0)) (by omega) (by omega)
      · have g:=e3 _ _ g3
        refine th_no (hd:=true) (hl:=false) (c:=0) (e:=1) (.inr rfl) ⟨_,.dct (ps:=[]) (dl_at g (by simpa using kJ2.pt.ne hx3)) .nil .nil,Gd.dct0⟩ (by omega) (by omega) (fun a xs ea h=>by cases ea;rw [g] at h;cases h)
      · exact th_no (hd:=false) (hl:=true) (.inl rfl) (tg_int (e:=0) (by decide)) (by omega) (by omega) (fun a xs ea=>by cases ea)
      · exact th_no (hd:=false) (hl:=true) (.inl rfl) (tg_bl true (e:=0)) (by omega) (by omega) (fun a xs ea=>by cases ea)
      · have g:=e4 _ _ g4
        have tt:Tw p J7 false true ((250+1) * 20) 3 (.ref t):=by
          obtain ⟨ds,tds,gs,_⟩:=tl7
          exact ⟨_,.tup (dl_at (htJ kJ7) (by simpa using tp)) tds,Gd.tup gs,shk_refs tds⟩
        exact th_tup (hd:=false) (hl:=true) (.inl rfl) g (kJ7.pt.neT g) (by show 1≤200;omega) (Tws.one tt) (by omega) (by omega)
      · exact th_no (hd:=false) (hl:=true) (.inl rfl) (tg_str (c:=5) (e:=0) (low_of _) (by decide +kernel)) (by omega) (by omega) (fun a xs ea=>by cases ea)
      · have g:=e6 _ _ g6
        have g5':=e5 _ _ g5
        obtain ⟨d,td,gd,_⟩:=tw_run (hd:=false) (hl:=true) kJ7.pt g5' ⟨by decide,by decide⟩ (by decide)
        exact th_no (hd:=false) (.inl rfl) (tg_lst g (kJ5.pt.ne hx6) (Tgs.one ⟨d,td,gd⟩)) (by omega) (by omega) (fun a xs ea h=>by cases ea;rw [g] at h;cases h)
    have bl:([V.ref x1,.non,.str (Str.ofString ""),.ref x2,.ref x3,.int 0,.bl true,.ref x4,.str (Str.ofString "aab"),.ref x6]:List V).length=10:=rfl
    generalize [V.ref x1,.non,.str (Str.ofString ""),.ref x2,.ref x3,.int 0,.bl true,.ref x4,.str (Str.ofString "aab"),.ref x6]=ths at g7 bag bl
    have x7p:x7≠p:=kJ6.pt.ne hx7
    refine ⟨_,rfl,p,_,_,rfl,kJ7.pt,by omega,by decide,by decide,fun n9 J8 y0 y1 k8=>?_⟩
    have nl9:n9.toNat < ths.length:=by omega
    have en:=atI_nat (List.getElem?_eq_getElem nl9)
    rw [show ((n9.toNat:Nat):Int)=n9 by omega] at en
    refine ⟨x7,_,_,_,rfl,rfl,SqL.of (k8.keep _ _ x7p g7),en,?_⟩
    exact q _ _ ((k05.trans (kJ7.trans k8)).mono (by omega)) ((bag _ (List.getElem_mem nl9)).on (dlk k8))
  refine ⟨_,rfl,t,rfl,⟨_,SqT.of ht5⟩,fun ac hac=>?_⟩
  refine comp_tupI (K:=K) (a:=t) (xs:=as.map V.ref) (by omega) (fun i ys HX=>HX ac=some (.lst ys)∧Same H5 HX∧ys=((((rs.map toRn).take i).map (·.2)).map V.int)) (fun i ys HX h=>SqT.of (h.2.1 _ _ ht5)) (fun i ys HX h=>⟨h.1,by rw [h.2.2,List.length_map,List.length_map,List.length_take];omega⟩) ⟨upd_same,(Same.refl H5).new hac,rfl⟩ ?_ ?_
  rotate_left
  · rintro i x ys HX hx ⟨g9,sX,rfl⟩
    obtain ⟨b0,r,rfl,_,er,hb0⟩:=(rr5.same sX).get hx
    exact ⟨b0,_,rfl,SqT.of hb0,rfl,_,_,rfl,_,_,rfl,rfl,rfl,_,rfl,g9,upd_same,sX.write hac,by rw [sums er,List.map_append];rfl⟩
  rintro ys J1 ⟨g9,s1,rfl⟩
  rw [show (as.map V.ref).length=(rs.map toRn).length by rw [List.length_map (f:=toRn)];exact al,List.take_length] at g9
  refine ⟨ac,_,rfl,SqL.of g9,?_⟩
  have et:(((rs.map toRn).map (·.2)).sum)=W39.tot (rs.map toRn):=rfl
  rw [et,tot_len]
  have kJ1:=r5.same s1
  refine ⟨_,_,rfl,rfl,?_⟩
  refine ⟨_,rfl,_,rfl,p,_,_,rfl,kJ1.pt,by omega,by decide,by decide,fun n9 J2 y0 y1 k2=>?_⟩
  have kJ2:=kJ1.trans k2
  obtain ⟨co,hco,lco⟩:=alph_at y0 y1
  refine ⟨_,_,co,rfl,rfl,(by decide +kernel),hco,_,rfl,line_le (show 2≤1000 by omega),fun x1 hx1=>?_⟩
  generalize hJ:upd J2 x1 _=J3
  have s3:Same J2 J3:=by rw [← hJ];exact (Same.refl J2).new hx1
  have g3:J3 x1=some (.tup [.str ⟨#[co]⟩,.int (4000 - (W38.len rs:Int))]):=by rw [← hJ];exact upd_same
  clear hJ
  refine ⟨line_le (show 1≤1000 by omega),fun x2 hx2=>?_⟩
  generalize hJ:upd J3 x2 _=J4
  have s4:Same J3 J4:=by rw [← hJ];exact (Same.refl J3).new hx2
  have g4:J4 x2=some (.tup [.ref x1]):=by rw [← hJ];exact upd_same
  clear hJ
  have kJ4:=(kJ2.same s3).same s4
  refine ⟨t,x2,_,_,rfl,rfl,htJ kJ4,g4,line_le (by rw [al];show _+1≤1000;omega),fun x3 J5 s5 g5=>?_⟩
  have kJ5:=kJ4.same s5
  refine fin kJ5 (by omega) g5 (fun y hy=>?_) (by rw [List.length_append,al];show _+1≤25;omega)
  rcases List.mem_append.mp hy with hy | hy
  · exact tk' kJ5 y hy
  · rw [List.mem_singleton.mp hy]
    have e:(4000 - (W38.len rs:Int))=((4000 - W38.len rs:Nat):Int):=by omega
    rw [e] at g3
    exact (tw_run kJ5.pt (s5 _ _ (s4 _ _ g3)) lco (by omega)).mono (by omega) (by omega)
end
end S38
namespace S38
open PySem L2
theorem runs_td {H:Hp}:∀ {as:List Addr} {rs:List Rc},RsAt H as (rs.map toRn)→Tds H (as.map V.ref) (rs.map rD)
  | [],[],_=>.nil
  | [],_ :: _,h=>by have:=h.1;simp at this
  | _ :: _,[],h=>by have:=h.1;simp at this
  | a :: as,r :: rs,h=>by
    have ha:=h.2 0 a (toRn r) rfl rfl
    refine .cons (.tup ha (.cons (.str _) (.one (.int _)))) (runs_td ⟨by have:=h.1;simpa using this,fun i b q x y=>h.2 (i+1) b q (by simpa using x) (by simpa using y)⟩)
theorem runs_gd {rs:List Rc} (good:W38.Good Lw rs) (l:W38.len rs≤4000) (n:rs.length≤20):Fit (.tuple (rs.map rD)):=by
  refine (Gd.tup ((Gs.all (hd:=false) (hl:=false) (c:=300) (e:=1) fun d hd=>?_).mono (show _≤6020 by rw [List.length_map];omega) (Nat.le_refl _))).fit (.inl rfl) (by omega) (by omega)
  obtain ⟨r,hr,rfl⟩:=List.mem_map.mp hd
  have lw:=good.lt r hr
  have n4:=Nat.le_trans (len_mem hr) l
  exact (Gd.tup ((Gs.one ((Gd.low (low_small (one_low lw))).mono (Nat.le_refl _) (Nat.zero_le _))).append (Gs.one ((Gd.big (int60 (by omega))).mono (Nat.le_refl _) (Nat.zero_le 0))))).mono (by show 1+1+_≤300;omega) (by omega)
theorem runs_shn {rs:List Rc} (good:W38.Good Lw rs) (n:rs.length≤20):ShN (.tuple (rs.map rD)):=fun ks e=>by
  injection e with e
  subst e
  refine ⟨by rw [List.length_map];omega,fun kd hk x q z=>?_⟩
  obtain ⟨r,hr,rfl⟩:=List.mem_map.mp hk
  unfold rD at z
  injection z with z
  injection z with z _
  subst z
  intro zz ez
  injection ez with ez
  subst ez
  exact ⟨by show 1≤900;omega,one_low (good.lt r hr)⟩
theorem TxD.one {d:PyData} {rs qs:List Rc} (h:TxD d rs) (g:TxD d qs):rs=qs:=by
  have e:=h.1.symm.trans g.1
  injection e with e
  exact rD_inj e
theorem enc_str (z:Str):mk (W38.dec (W38.enc z.cps.toList))=z:=str_ext (by rw [mk_cps,W38.dec_enc])
section
variable {P:Program} {w:World} {K:PySem.W.Frag} {mg:Str→Option Value} {base:Heap} {k:Nat}
def sp_law:PySem.W.Frag→Sp:=fun K vs H Q _=>∃ (a:Addr) (ns:List Int),vs=[.ref a]∧SqL K H a (ns.map V.int)∧ns.length≤63∧∀ H',Q (.bl true) H'
theorem ok_law (EX:Exs K mg) {f:Addr} {fd:FuncData} (F:Fun K "law" "law" s_law f fd) (B:Blt7 mg) (G_law_pot:Has P w K mg base "_law_pot" k ["script", "k"] (sp_pot K)) (G_law_text:Has P w K mg base "_law_text" k ["pot"] sp_text) (G_law_walked:Has P w K mg base "_law_walked" k ["text"] sp_walk) (G_runs_of:Has P w K mg base "runs_of" k ["text"] sp_rof) (G_text_by:HasX P w K mg base "text_by" k ["runs"] (sp_tby EX.c_NoRuns)) (G_law_spoilt:Has P w K mg base "_law_spoilt" k ["pot", "runs"] sp_spoilt) (G_law_told:Has P w K mg base "_law_told" k ["thing"] sp_due) (G_law_due:Has P w K mg base "_law_due" k ["thing"] sp_due) :
    FnOk P w K mg base CX0 (k+1) f fd ["script"] (sp_law K):=by
  refine F.ok sc_law (fun vs H Q E h=>by obtain ⟨a,ns,rfl,_⟩:=h;rfl) (fun cdv A outer s H vs Q E hr h=>?_)
  obtain ⟨a,ns,rfl,hS,h63,q⟩:=h
  refine exw ?_
  refine ⟨_,(w_cons (Pw.mk (ps_for PassesOwn.never rfl (pi_range1 rfl B.range (pa_cons (pe_callB (call_max2 rfl) rfl B.max bt_max (pa_cons pe_int (pa_cons (pe_callB (call_min2 rfl) rfl B.min bt_min (pa_cons pe_int (pa_cons (pe_callB call_len_seq rfl B.len bt_len (pa_cons (pv 0) pa_nil)) pa_nil))) pa_nil))) pa_nil)) (pg_name (i:=1) sc_law.nd rfl (by first | exact Or.inl rfl | exact Or.inr rfl))
  (pss_cons (ps_set (i:=2) sc_law.nd rfl (by first | exact Or.inl rfl | exact Or.inr rfl) (pe_callH G_law_pot hr rfl (pa_cons (pv 0) (pa_cons (pv 1) pa_nil))))
  (pss_cons (ps_set (i:=3) sc_law.nd rfl (by first | exact Or.inl rfl | exact Or.inr rfl) (pe_callH G_law_text hr rfl (pa_cons (pv 2) pa_nil)))
  (pss_cons (ps_set (i:=4) sc_law.nd rfl (by first | exact Or.inl rfl | exact Or.inr rfl) (pe_callH G_law_walked hr rfl (pa_cons (pv 3) pa_nil)))
  (pss_cons (ps_set (i:=5) sc_law.nd rfl (by first | exact Or.inl rfl | exact Or.inr rfl) (pe_callH G_runs_of hr rfl (pa_cons (pv 3) pa_nil)))
  (pss_cons (ps_if (PW.pt (pw_or (pt_not (pt_val (pe_callB call_isinst rfl B.isinstance bt_isinstance (pa_cons (pv 5) (pa_cons (pe_bltn (v:=.ty "tuple") rfl B.tuple_ bt_tuple rfl) pa_nil))))) (pw_or (pt_cmpR op_ne (pe_callB (call_repr_any hr) rfl B.repr bt_repr (pa_cons (pv 5) pa_nil)) (pe_callB (call_repr_any hr) rfl B.repr bt_repr (pa_cons (pv 4) pa_nil)) (nomark _)) (pw_or1 (pt_cmpR op_ne (pe_callE G_text_by passes_no hr rfl (pa_cons (pv 4) pa_nil)) (pv 3) (nomark _))))))
  (pss_one (ps_ret pe_bl))
  pss_nil)
  (pss_one (ps_for PassesOwn.never rfl (pi_range1 rfl B.range (pa_cons pe_int pa_nil)) (pg_name (i:=6) sc_law.nd rfl (by first | exact Or.inl rfl | exact Or.inr rfl))
  (pss_cons (ps_set (i:=7) sc_law.nd rfl (by first | exact Or.inl rfl | exact Or.inr rfl) (pe_callH G_law_spoilt hr rfl (pa_cons (pv 2) (pa_cons (pv 4) pa_nil))))
  (pss_cons (ps_set (i:=8) sc_law.nd rfl (by first | exact Or.inl rfl | exact Or.inr rfl) (pe_callB (call_repr_any hr) rfl B.repr bt_repr (pa_cons (pv 7) pa_nil)))
  (pss_one (ps_if (PW.pt (pw_or (pt_cmpR (OpR.or op_ne (op_ne_lst hr.units0)) (pe_callH G_law_told hr rfl (pa_cons (pv 7) pa_nil)) (pe_callH G_law_due hr rfl (pa_cons (pv 7) pa_nil)) (nomark _)) (pw_or1 (pt_cmpR op_ne (pe_callB (call_repr_any hr) rfl B.repr bt_repr (pa_cons (pv 7) pa_nil)) (pv 8) (nomark _)))))
  (pss_one (ps_ret pe_bl))
  pss_nil)))))))))))))
  (w_one (w_ret (PEw.mk (pe_and (PEw.h (PEw.mk (pe_cmpR (op_eq_nest K hr) (PEw.h (PEw.mk (pe_callH G_runs_of hr rfl (PAw.h (w_acons w_str w_anil))))) (PEw.h (PEw.mk (pe_tup pa_nil))) (nomark _)))) (pe_and (pe_cmpR op_eq (pe_callE G_text_by passes_no hr rfl (pa_cons (pe_tup pa_nil) pa_nil)) pe_str (nomark _)) (pe_one (pe_cmpR (op_eq_nest K hr) (pe_callH G_runs_of hr rfl (pa_cons pe_str pa_nil)) (pe_tup (pa_cons (pe_tup (pa_cons pe_str (pa_cons pe_int pa_nil))) (pa_cons (pe_tup (pa_cons pe_str (pa_cons pe_int pa_nil))) pa_nil))) (nomark _))))))))),?_⟩
  have hl:(ns.map V.int).length=ns.length:=List.length_map _
  refine ⟨_,rfl,a,_,rfl,.inl hS,_,_,rfl,_,_,rfl,_,rfl,?_,?_,?_⟩
  · split <;> (try split) <;> omega
  · split <;> (try split) <;> omega
  have hbound:(if (if (((ns.map V.int).length:Nat):Int) < 6 then (((ns.map V.int).length:Nat):Int) else 6) > 2 then (if (((ns.map V.int).length:Nat):Int) < 6 then (((ns.map V.int).length:Nat):Int) else 6) else 2:Int).toNat≤6:=by
    split <;> (try split) <;> omega
  generalize (if (if (((ns.map V.int).length:Nat):Int) < 6 then (((ns.map V.int).length:Nat):Int) else 6) > 2 then (if (((ns.map V.int).length:Nat):Int) < 6 then (((ns.map V.int).length:Nat):Int) else 6) else 2:Int).toNat=n at hbound
  refine for_range (lo:=0) (n:=n) (fun i σ HX=>∃ o1 o2 o3 o4 o5 o6 o7 o8:Option V,σ=[some (.ref a),o1,o2,o3,o4,o5,o6,o7,o8]∧Same H HX) ⟨none,none,none,none,none,none,none,none,rfl,Same.refl H⟩ ?_ ?_
  rotate_left
  · rintro σ HX ⟨o1,o2,o3,o4,o5,o6,o7,o8,rfl,_⟩
    refine ⟨Str.ofString "", rfl,by decide,by decide,fun t0 H1 f0 s1 ⟨as,ht,rr⟩=>?_⟩
    have as0:as=[]:=List.length_eq_zero_iff.mp rr.1
    subst as0
    refine ⟨line_le (show 0≤1000 by omega),fun t1 ht1=>?_⟩
    have sT:Same H1 (upd H1 t1 (.tup [])):=(Same.refl H1).new ht1
    refine ⟨t0,t1,_,_,fun _=>true,rfl,rfl,ne_of_none ht ht1,SqT.of (sT _ _ ht),SqT.of upd_same,rfl,fun i x y hx=>?_,_,rfl,iteA ?_ ?_⟩
    · simp at hx
    · rfl
    refine ⟨line_le (show 0≤1000 by omega),fun t2 ht2=>?_⟩
    have emp:TxD (.tuple []) []:=⟨rfl,⟨(fun _ h=>nomatch h),(fun _ h=>nomatch h),fun i a b x=>by simp at x⟩,by decide⟩
    refine ⟨.ref t2,.tuple [],rfl,.tup upd_same .nil,(fun ks e=>by injection e with e;subst e;exact ⟨by decide,fun _ h=>nomatch h⟩),fun rs tx H2 s2=>?_,fun n=>absurd emp (n [])⟩
    obtain rfl:=tx.one emp
    refine ⟨rfl,_,rfl,iteA (decide_eq_true rfl) ?_⟩
    refine ⟨Str.ofString "aab", rfl,by decide +kernel,by decide +kernel,fun t3 H3 f3 s3 ⟨as,ht,rr⟩=>?_⟩
    have ee:(W38.enc (Str.ofString "aab").cps.toList)=[(97,2),(98,1)]:=by decide +kernel
    rw [ee] at rr
    obtain ⟨a1,a2,rfl⟩:∃ a1 a2,as=[a1,a2]:=by
      have:=rr.1
      match as,this with
      | [x,y],_=>exact ⟨x,y,rfl⟩
    have h1:H3 a1=some (.tup [.str ⟨#[97]⟩,.int 2]):=rr.2 0 a1 _ rfl rfl
    have h2:H3 a2=some (.tup [.str ⟨#[98]⟩,.int 1]):=rr.2 1 a2 _ rfl rfl
    refine ⟨line_le (show 2≤1000 by omega),fun b1 hb1=>?_⟩
    generalize hJ:upd H3 b1 _=J1
    have j1:Same H3 J1:=by rw [← hJ];exact (Same.refl H3).new hb1
    have k1:J1 b1=some (.tup [.str ⟨#[97]⟩,.int 2]):=by rw [← hJ];exact upd_same
    clear hJ
    refine ⟨line_le (show 2≤1000 by omega),fun b2 hb2=>?_⟩
    generalize hJ:upd J1 b2 _=J2
    have j2:Same J1 J2:=by rw [← hJ];exact (Same.refl J1).new hb2
    have k2:J2 b2=some (.tup [.str ⟨#[98]⟩,.int 1]):=by rw [← hJ];exact upd_same
    clear hJ
    refine ⟨line_le (show 2≤1000 by omega),fun b3 hb3=>?_⟩
    generalize hJ:upd J2 b3 _=J3
    have j3:Same J2 J3:=by rw [← hJ];exact (Same.refl J2).new hb3
    have k3:J3 b3=some (.tup [.ref b1,.ref b2]):=by rw [← hJ];exact upd_same
    clear hJ
    have j13:=(j1.trans j2).trans j3
    refine ⟨t3,b3,_,_,fun _=>true,rfl,rfl,ne_of_none (j2 _ _ (j1 _ _ ht)) hb3,SqT.of (j13 _ _ ht),SqT.of k3,rfl,fun i x y hx hy=>?_,?_⟩
    · match i with
      | 0=>
        cases hx;cases hy
        exact .inr ⟨a1,b1,_,_,rfl,rfl,SqT.of (j13 _ _ h1),SqT.of (j3 _ _ (j2 _ _ k1)),rfl,rfl,by decide +kernel⟩
      | 1=>
        cases hx;cases hy
        exact .inr ⟨a2,b2,_,_,rfl,rfl,SqT.of (j13 _ _ h2),SqT.of (j3 _ _ k2),rfl,rfl,by decide +kernel⟩
      | i+2=>simp at hx
    · exact q _
  rintro i σ HX hi ⟨o1,o2,o3,o4,o5,o6,o7,o8,rfl,sX⟩
  refine ⟨_,rfl,_,rfl,a,ns,0+(i:Int),rfl,sX.seq hS,h63,by omega,by omega,fun p H1 fp s1 pt1=>?_⟩
  refine ⟨_,rfl,p,0,rfl,pt1,by decide,by decide,fun z H2 k2 tx=>?_⟩
  have hp0:∀ b o,HX b=some o→b≠p:=fun b o e=>ne_of_none e fp
  have keepX:∀ {c:Int} {HY:Hp},Kt p c H1 HY→Same H HY:=fun {c HY} kk b o e=>kk.keep b o (hp0 b o (sX b o e)) (s1 _ _ (sX b o e))
  have good:W38.Good Lw (W38.enc z.cps.toList):=W38.good_enc _ tx.lw
  have len4:W38.len (W38.enc z.cps.toList)≤4000:=by rw [W38.len_enc,cps_len];exact tx.le
  have few:=tx.few
  refine ⟨_,rfl,z,rfl,tx.le,by omega,fun t H3 f3 s3 rt=>?_⟩
  refine ⟨_,rfl,z,rfl,tx.le,by omega,fun t' H4 f4 s4 rt'=>?_⟩
  obtain ⟨as,ht,rr⟩:=rt.same s4
  obtain ⟨as',ht',rr'⟩:=rt'
  have k4:=(k2.same s3).same s4
  have td:Td H4 (.ref t) (.tuple ((W38.enc z.cps.toList).map rD)):=.tup ht (runs_td rr)
  have td':Td H4 (.ref t') (.tuple ((W38.enc z.cps.toList).map rD)):=.tup ht' (runs_td rr')
  have fit:=runs_gd good len4 (by omega)
  have shn:=runs_shn good (by omega)
  have raR:RunsAt H4 t ((W38.enc z.cps.toList).map toRn):=⟨as,ht,rr⟩
  have txd:TxD (.tuple ((W38.enc z.cps.toList).map rD)) (W38.enc z.cps.toList):=⟨rfl,good,len4⟩
  have es:=enc_str z
  generalize hrs:W38.enc z.cps.toList=rs at *
  refine ⟨_,rfl,_,.type "tuple", "tuple", true,rfl,.tup ht',kit_same _ _,_,rfl,L2.iteB rfl ?_⟩
  refine ⟨_,rfl,.ref t',_,rfl,td',fit,_,rfl,.ref t,_,rfl,td,fit,rfl,_,rfl,L2.iteB (by simp) ?_⟩
  refine ⟨_,rfl,.ref t,_,rfl,td,shn,fun qs txq H5 s5=>?_,fun n=>absurd txd (n _)⟩
  obtain rfl:=txq.one txd
  rw [es]
  refine ⟨_,rfl,rfl,_,rfl,L2.iteB (by simp) ?_⟩
  have k5:=k4.same s5
  have ra5:=raR.same s5
  refine ⟨10,rfl,by decide,by decide,?_⟩
  refine for_range (lo:=0) (n:=(10:Int).toNat) (fun j σ HY=>∃ o6 o7 o8:Option V,σ=[some (.ref a),some (.int (0+(i:Int))),some (.ref p),some (.str z),some (.ref t),some (.ref t'),o6,o7,o8]∧Kt p (200+6 * j) H1 HY∧RunsAt HY t (qs.map toRn)) ⟨_,_,_,rfl,k5.mono (by omega),ra5⟩ ?_ ?_
  rotate_left
  · rintro σ HY ⟨o6,o7,o8,rfl,kY,_⟩
    exact ⟨_,_,_,_,_,_,_,_,rfl,keepX kY⟩
  rintro j σ HY hj ⟨o6,o7,o8,rfl,kY,rY⟩
  have hj:j < 10:=hj
  refine ⟨_,rfl,_,rfl,p,t,_,qs,rfl,kY.pt,by omega,rY,good,len4,by omega,fun v H6 k6 th=>?_⟩
  have kY6:=kY.trans k6
  have rY6:=rY.kt kY.pt k6
  obtain ⟨d,tdv,shv,fitv⟩:=th.ask
  refine ⟨_,rfl,v,d,rfl,tdv,fitv,?_⟩
  have fin:∀ {H8:Hp},Same H6 H8→∃ o6 o7 o8:Option V,[some (V.ref a),some (.int (0+(i:Int))),some (.ref p),some (.str z),some (.ref t),some (.ref t'),some (.int (0+(j:Int))),some v,some (.str d.shown)]=[some (.ref a),some (.int (0+(i:Int))),some (.ref p),some (.str z),some (.ref t),some (.ref t'),o6,o7,o8]∧Kt p (200+6 * (j+1:Nat)) H1 H8∧RunsAt H8 t (qs.map toRn):=fun {H8} s8=>⟨_,_,_,rfl,(kY6.same s8).mono (by omega),rY6.same s8⟩
  refine ⟨_,rfl,v,d,rfl,tdv,shv,fun r1 x1 H7 s7=>?_,fun n1 a1 H7 s7 h7=>?_⟩
  · refine ⟨_,rfl,v,d,rfl,tdv.same s7,shv,fun r2 x2 H8 s8=>?_,fun n2=>absurd x1 (n2 _)⟩
    obtain rfl:=x1.one x2
    refine .inl ⟨rfl,_,rfl,L2.iteB (by simp) ?_⟩
    have s68:=s7.trans s8
    refine ⟨_,rfl,v,d,rfl,tdv.same s68,fitv,_,rfl,rfl,_,rfl,L2.iteB (by simp) ?_⟩
    exact fin s68
  · refine ⟨_,rfl,v,d,rfl,tdv.same s7,shv,fun r2 x2=>absurd x2 (n1 _),fun n2 a2 H8 s8 h8=>?_⟩
    refine .inr ⟨a1,a2,refV,refV,rfl,rfl,SqL.of (s8 _ _ h7),SqL.of h8,rfl,rfl,_,rfl,L2.iteB (by rfl) ?_⟩
    have s68:=s7.trans s8
    refine ⟨_,rfl,v,d,rfl,tdv.same s68,fitv,_,rfl,rfl,_,rfl,L2.iteB (by simp) ?_⟩
    exact fin s68
end
end S38
namespace S38
open PySem L2
theorem df_mk {K:PySem.W.Frag} {h:Heap} {mg:Str→Option Value} {x:Str} {st:Stmt} {f:Addr} {oc:Value} {od an:Option Addr} {osl:Array (Option Value)} {kV doc pm cdv ct:Value} (X:K.In h) (G:h.Ns mainGlobals mg)
    (a:PySem.W.nsIn K mainGlobals x=some (some (.ref f))) (l:K.lookup f=some ⟨oc,od,.func (PySem.W.fnOf x x (defArgs st) (defBody st) (defScope st) .none kV doc pm an cdv ct),osl⟩) (c:PySem.W.codeIn K cdv x=true) (kk:PySem.W.keepIn K (.ref f)=true):Df K mg x st:=
  ⟨f,_,fun_mk l c kk,PySem.W.mg_of X G a⟩
def exs_mk {K:PySem.W.Frag} {h:Heap} {mg:Str→Option Value} (X:K.In h) (G:h.Ns mainGlobals mg) {UpError NoPlace NoNumber NoWord NoRows NoRuns NoCover NoText TooMany NoTree:Addr}
    (a_UpError:PySem.W.nsIn K mainGlobals "UpError" = some (some (.ref UpError)))
    (a_NoPlace:PySem.W.nsIn K mainGlobals "NoPlace" = some (some (.ref NoPlace)))
    (a_NoNumber:PySem.W.nsIn K mainGlobals "NoNumber" = some (some (.ref NoNumber)))
    (a_NoWord:PySem.W.nsIn K mainGlobals "NoWord" = some (some (.ref NoWord)))
    (a_NoRows:PySem.W.nsIn K mainGlobals "NoRows" = some (some (.ref NoRows)))
    (a_NoRuns:PySem.W.nsIn K mainGlobals "NoRuns" = some (some (.ref NoRuns)))
    (a_NoCover:PySem.W.nsIn K mainGlobals "NoCover" = some (some (.ref NoCover)))
    (a_NoText:PySem.W.nsIn K mainGlobals "NoText" = some (some (.ref NoText)))
    (a_TooMany:PySem.W.nsIn K mainGlobals "TooMany" = some (some (.ref TooMany)))
    (a_NoTree:PySem.W.nsIn K mainGlobals "NoTree" = some (some (.ref NoTree)))
    (q_NoRuns:PySem.W.excIn K NoRuns bmV "ValueError.__new__" = true)
    (ga_NoRuns:PySem.W.findIn K (.ref NoRuns) "__getattribute__" = some (some (.builtin "BaseException.__getattribute__")))
    (gn_NoRuns:PySem.W.findIn K (.ref NoRuns) "__getattr__" = some none)
    (cl_NoRuns:PySem.W.findIn K (.ref NoRuns) "__class__" = some (some (.builtin "object.__class__")))
    (ob_NoRuns:PySem.W.mroIn K NoRuns (.type "object")=some true)
    (be_NoRuns:PySem.W.mroIn K NoRuns (.type "BaseException")=some true)
    (cd_NoRuns:(PySem.W.clsIn K NoRuns).isSome=true)
    (u_NoRuns:PySem.W.exmOne K (.ref NoRuns) (.ref UpError)=some true)
    (gt:PySem.W.specialIn K (.builtin "object.__class__") "__get__" = some (some (.builtin "getset_descriptor.__get__")))
    (tk:PySem.W.takesIn K (.builtin "object.__class__")=some true)
    (xm:PySem.W.exmOne K (.ref NoRuns) (.ref NoRuns)=some true)
    (p0:PySem.W.kitOne K (.ref NoRuns) (.ref UpError)=some true)
    (pv:PySem.W.kitOne K (.ref NoRuns) (.type "ValueError")=some true)
    (pa:PySem.W.kitAny K (.ref NoRuns) ([NoCover,NoNumber,NoPlace,NoRows,NoText,NoTree,NoWord,TooMany].map Value.ref)=some false):Exs K mg where
  c_UpError:=UpError
  m_UpError:=PySem.W.mg_of X G a_UpError
  c_NoPlace:=NoPlace
  m_NoPlace:=PySem.W.mg_of X G a_NoPlace
  c_NoNumber:=NoNumber
  m_NoNumber:=PySem.W.mg_of X G a_NoNumber
  c_NoWord:=NoWord
  m_NoWord:=PySem.W.mg_of X G a_NoWord
  c_NoRows:=NoRows
  m_NoRows:=PySem.W.mg_of X G a_NoRows
  c_NoRuns:=NoRuns
  m_NoRuns:=PySem.W.mg_of X G a_NoRuns
  c_NoCover:=NoCover
  m_NoCover:=PySem.W.mg_of X G a_NoCover
  c_NoText:=NoText
  m_NoText:=PySem.W.mg_of X G a_NoText
  c_TooMany:=TooMany
  m_TooMany:=PySem.W.mg_of X G a_TooMany
  c_NoTree:=NoTree
  m_NoTree:=PySem.W.mg_of X G a_NoTree
  q_NoRuns:=q_NoRuns
  z_NoRuns:=⟨ga_NoRuns,gn_NoRuns,cl_NoRuns,gt,tk,ob_NoRuns,be_NoRuns,cd_NoRuns⟩
  u_NoRuns:=u_NoRuns
  xm:=xm
  p0:=p0
  pv:=pv
  pa:=pa
theorem blt_mk {K:PySem.W.Frag} {h:Heap} {mg:Str→Option Value} (X:K.In h) (G:h.Ns mainGlobals mg)
    (z1:PySem.W.nsIn K mainGlobals "len" = some none) (z2:PySem.W.nsIn K mainGlobals "range" = some none) (z3:PySem.W.nsIn K mainGlobals "zip" = some none) (z4:PySem.W.nsIn K mainGlobals "enumerate" = some none)
    (z5:PySem.W.nsIn K mainGlobals "max" = some none) (z6:PySem.W.nsIn K mainGlobals "min" = some none) (z7:PySem.W.nsIn K mainGlobals "int" = some none) (z8:PySem.W.nsIn K mainGlobals "str" = some none)
    (z9:PySem.W.nsIn K mainGlobals "bool" = some none) (z10:PySem.W.nsIn K mainGlobals "list" = some none) (z11:PySem.W.nsIn K mainGlobals "tuple" = some none) (z12:PySem.W.nsIn K mainGlobals "isinstance" = some none):Blt mg:=
  ⟨PySem.W.mg_none_of X G z1,PySem.W.mg_none_of X G z2,PySem.W.mg_none_of X G z3,PySem.W.mg_none_of X G z4,PySem.W.mg_none_of X G z5,PySem.W.mg_none_of X G z6,PySem.W.mg_none_of X G z7,PySem.W.mg_none_of X G z8,
    PySem.W.mg_none_of X G z9,PySem.W.mg_none_of X G z10,PySem.W.mg_none_of X G z11,PySem.W.mg_none_of X G z12⟩
theorem all_ok {P:Program} {w:World} {K:PySem.W.Frag} {mg:Str→Option Value} {fa:Addr} (hfa:mg "law" = some (.ref fa)) (B:Blt7 mg)
    (d1:Df K mg "is_whole" s_is_whole) (d2:Df K mg "is_letters" s_is_letters) (d3:Df K mg "is_letter" s_is_letter) (d4:Df K mg "runs_of" s_runs_of) (d5:Df K mg "text_by" s_text_by) (d6:Df K mg "is_runs" s_is_runs) (d7:Df K mg "is_run" s_is_run) (d8:Df K mg "length_of" s_length_of) (d9:Df K mg "_law_pot" s_law_pot) (d10:Df K mg "_law_take" s_law_take) (d11:Df K mg "_law_text" s_law_text) (d12:Df K mg "_law_walked" s_law_walked) (d13:Df K mg "_law_odd" s_law_odd) (d14:Df K mg "_law_spoilt" s_law_spoilt) (d15:Df K mg "_law_is_run" s_law_is_run) (d16:Df K mg "_law_due" s_law_due) (d17:Df K mg "_law_told" s_law_told) (d18:Df K mg "law" s_law) (EX:Exs K mg) :
    ∃ fd:FuncData,(∀ (s:Shared) (v:Value),BindsTo s fd ⟨[v],[]⟩ [("script", v)])∧∀ base:Heap,FnOk P w K mg base CX0 12 fa fd ["script"] (sp_law K):=by
  obtain ⟨f,fd,F,m⟩:=d18
  have e:=hfa.symm.trans m
  cases e
  refine ⟨fd,?_,fun base=>?_⟩
  · obtain ⟨oc,od,kV,doc,pm,an,cdv,ct,osl,rfl,_,_⟩:=F.ex
    exact fun s v=>.of_eq rfl
  have g_pot:=has_pot (P:=P) (w:=w) (base:=base) (k:=0) d9 B
  have g_take:=has_take (P:=P) (w:=w) (base:=base) (k:=0) d10 B
  have g_text:=has_text (k:=1) d11 B g_take
  have g_whole:=has_wholeT (P:=P) (w:=w) (base:=base) (k:=0) d1 B
  have g_letters:=has_lettersT (P:=P) (w:=w) (base:=base) (k:=0) d2 B
  have g_one:=has_oneT (k:=1) d3 B g_letters
  have g_isrun:=has_isrun (k:=2) d7 B g_one (g_whole.mono (by decide))
  have g_isruns:=has_isruns (k:=3) d6 B g_isrun
  have g_len:=has_len (P:=P) (w:=w) (base:=base) (k:=0) d8 B
  have g_tby:=has_tby (k:=4) EX d5 B g_isruns (g_len.mono (by decide))
  have g_rof:=has_rof (P:=P) (w:=w) (base:=base) (k:=0) d4 B
  have g_walk:=has_walk (P:=P) (w:=w) (base:=base) (k:=0) d12 B
  have g_lisrun:=has_lisrun (P:=P) (w:=w) (base:=base) (k:=0) d15 B
  have g_due:=has_due (k:=1) d16 B g_lisrun
  have g_told:=has_told (k:=5) EX d17 B g_tby
  have g_odd:=has_odd (k:=1) d13 B g_take
  have g_spoilt:=has_spoilt (k:=2) d14 B (g_take.mono (by decide)) g_odd
  exact (ok_law (k:=6) EX F B (g_pot.mono (by decide)) (g_text.mono (by decide)) (g_walk.mono (by decide)) (g_rof.mono (by decide)) (g_tby.mono (by decide)) (g_spoilt.mono (by decide)) g_told (g_due.mono (by decide))).mono (by decide)
end S38
open PySem PySem.W PyProof.Rows
set_option maxRecDepth 100000 in
set_option maxHeartbeats 0 in
theorem PySem.Challenge.cw_upwords_k38_runs_told_and_back_holds : PySem.Challenge.rw_upwords_k38_runs_told_and_back.Holds := by
  w_on; o_law; k_head; (case hw => w_witness2)
  k_fill
  refine L2.walk_ofK (l := PySem.Challenge.rw_upwords_k38_runs_told_and_back) (n := 63) (k := 12) (x := "script") (CX := L2.CX0) (sp := S38.sp_law) rfl (by decide) rfl ⟨rfl, by decide, by decide, rfl⟩ (fun w h Y => PySem.W.kIn_of Y) ?F
    (fun K H a ns hl _ hS => ⟨a, ns, rfl, hS, hl, fun _ => rfl⟩) (fun _ _ _ _ z => z)
  case F =>
    intro w mg fa h KX G hmg
    have B : L2.Blt mg := by
      refine' S38.blt_mk KX G ?z1 ?z2 ?z3 ?z4 ?z5 ?z6 ?z7 ?z8 ?z9 ?z10 ?z11 ?z12
      (case z1 => k_is); (case z2 => k_is); (case z3 => k_is); (case z4 => k_is); (case z5 => k_is); (case z6 => k_is); (case z7 => k_is); (case z8 => k_is); (case z9 => k_is); (case z10 => k_is); (case z11 => k_is); (case z12 => k_is)
    have Bx0 : mg "sum" = none := by
      refine' PySem.W.mg_none_of KX G ?z
      (case z => k_is)
    have Bx1 : mg "ValueError" = none := by
      refine' PySem.W.mg_none_of KX G ?z
      (case z => k_is)
    have Bx2 : mg "all" = none := by
      refine' PySem.W.mg_none_of KX G ?z
      (case z => k_is)
    have Bx3 : mg "repr" = none := by
      refine' PySem.W.mg_none_of KX G ?z
      (case z => k_is)
    have Bx4 : ∃ u, mg "LETTERS" = some u ∧ L2.RelV (.str "abcdefghijklmnopqrstuvwxyz") u := by
      refine' ⟨_, PySem.W.mg_of KX G ?z, ?r⟩
      (case z => k_is)
      (case r => exact ⟨_, rfl⟩)
    have Bx5 : ∃ u, mg "MOST_LETTERS" = some u ∧ L2.RelV (.int 4000) u := by
      refine' ⟨_, PySem.W.mg_of KX G ?z, ?r⟩
      (case z => k_is)
      (case r => exact ⟨_, rfl⟩)
    have d1 : L2.Df (L2.KOf KX) mg "is_whole" S38.s_is_whole := by
      dsimp only [L2.KOf]; refine' S38.df_mk KX G ?a ?l ?c ?k
      (case a => k_is); (case l => k_is); (case c => k_is); (case k => k_is)
    have d2 : L2.Df (L2.KOf KX) mg "is_letters" S38.s_is_letters := by
      dsimp only [L2.KOf]; refine' S38.df_mk KX G ?a ?l ?c ?k
      (case a => k_is); (case l => k_is); (case c => k_is); (case k => k_is)
    have d3 : L2.Df (L2.KOf KX) mg "is_letter" S38.s_is_letter := by
      dsimp only [L2.KOf]; refine' S38.df_mk KX G ?a ?l ?c ?k
      (case a => k_is); (case l => k_is); (case c => k_is); (case k => k_is)
    have d4 : L2.Df (L2.KOf KX) mg "runs_of" S38.s_runs_of := by
      dsimp only [L2.KOf]; refine' S38.df_mk KX G ?a ?l ?c ?k
      (case a => k_is); (case l => k_is); (case c => k_is); (case k => k_is)
    have d5 : L2.Df (L2.KOf KX) mg "text_by" S38.s_text_by := by
      dsimp only [L2.KOf]; refine' S38.df_mk KX G ?a ?l ?c ?k
      (case a => k_is); (case l => k_is); (case c => k_is); (case k => k_is)
    have d6 : L2.Df (L2.KOf KX) mg "is_runs" S38.s_is_runs := by
      dsimp only [L2.KOf]; refine' S38.df_mk KX G ?a ?l ?c ?k
      (case a => k_is); (case l => k_is); (case c => k_is); (case k => k_is)
    have d7 : L2.Df (L2.KOf KX) mg "is_run" S38.s_is_run := by
      dsimp only [L2.KOf]; refine' S38.df_mk KX G ?a ?l ?c ?k
      (case a => k_is); (case l => k_is); (case c => k_is); (case k => k_is)
    have d8 : L2.Df (L2.KOf KX) mg "length_of" S38.s_length_of := by
      dsimp only [L2.KOf]; refine' S38.df_mk KX G ?a ?l ?c ?k
      (case a => k_is); (case l => k_is); (case c => k_is); (case k => k_is)
    have d9 : L2.Df (L2.KOf KX) mg "_law_pot" S38.s_law_pot := by
      dsimp only [L2.KOf]; refine' S38.df_mk KX G ?a ?l ?c ?k
      (case a => k_is); (case l => k_is); (case c => k_is); (case k => k_is)
    have d10 : L2.Df (L2.KOf KX) mg "_law_take" S38.s_law_take := by
      dsimp only [L2.KOf]; refine' S38.df_mk KX G ?a ?l ?c ?k
      (case a => k_is); (case l => k_is); (case c => k_is); (case k => k_is)
    have d11 : L2.Df (L2.KOf KX) mg "_law_text" S38.s_law_text := by
      dsimp only [L2.KOf]; refine' S38.df_mk KX G ?a ?l ?c ?k
      (case a => k_is); (case l => k_is); (case c => k_is); (case k => k_is)
    have d12 : L2.Df (L2.KOf KX) mg "_law_walked" S38.s_law_walked := by
      dsimp only [L2.KOf]; refine' S38.df_mk KX G ?a ?l ?c ?k
      (case a => k_is); (case l => k_is); (case c => k_is); (case k => k_is)
    have d13 : L2.Df (L2.KOf KX) mg "_law_odd" S38.s_law_odd := by
      dsimp only [L2.KOf]; refine' S38.df_mk KX G ?a ?l ?c ?k
      (case a => k_is); (case l => k_is); (case c => k_is); (case k => k_is)
    have d14 : L2.Df (L2.KOf KX) mg "_law_spoilt" S38.s_law_spoilt := by
      dsimp only [L2.KOf]; refine' S38.df_mk KX G ?a ?l ?c ?k
      (case a => k_is); (case l => k_is); (case c => k_is); (case k => k_is)
    have d15 : L2.Df (L2.KOf KX) mg "_law_is_run" S38.s_law_is_run := by
      dsimp only [L2.KOf]; refine' S38.df_mk KX G ?a ?l ?c ?k
      (case a => k_is); (case l => k_is); (case c => k_is); (case k => k_is)
    have d16 : L2.Df (L2.KOf KX) mg "_law_due" S38.s_law_due := by
      dsimp only [L2.KOf]; refine' S38.df_mk KX G ?a ?l ?c ?k
      (case a => k_is); (case l => k_is); (case c => k_is); (case k => k_is)
    have d17 : L2.Df (L2.KOf KX) mg "_law_told" S38.s_law_told := by
      dsimp only [L2.KOf]; refine' S38.df_mk KX G ?a ?l ?c ?k
      (case a => k_is); (case l => k_is); (case c => k_is); (case k => k_is)
    have d18 : L2.Df (L2.KOf KX) mg "law" S38.s_law := by
      dsimp only [L2.KOf]; refine' S38.df_mk KX G ?a ?l ?c ?k
      (case a => k_is); (case l => k_is); (case c => k_is); (case k => k_is)
    have EX : S38.Exs (L2.KOf KX) mg := by
      dsimp only [L2.KOf]; refine' S38.exs_mk KX G ?a_UpError ?a_NoPlace ?a_NoNumber ?a_NoWord ?a_NoRows ?a_NoRuns ?a_NoCover ?a_NoText ?a_TooMany ?a_NoTree ?q_NoRuns ?ga_NoRuns ?gn_NoRuns ?cl_NoRuns ?ob_NoRuns ?be_NoRuns ?cd_NoRuns ?u_NoRuns ?gt ?tk ?xm ?p0 ?pv ?pa
      (case a_UpError => k_is); (case a_NoPlace => k_is); (case a_NoNumber => k_is); (case a_NoWord => k_is); (case a_NoRows => k_is); (case a_NoRuns => k_is); (case a_NoCover => k_is); (case a_NoText => k_is); (case a_TooMany => k_is); (case a_NoTree => k_is); (case q_NoRuns => first | k_exc | k_is); (case ga_NoRuns => k_is); (case gn_NoRuns => k_is); (case cl_NoRuns => k_is); (case ob_NoRuns => k_is); (case be_NoRuns => k_is); (case cd_NoRuns => first | k_is | kernel_rfl); (case u_NoRuns => first | k_is | kernel_rfl); (case gt => k_is); (case tk => k_is); (case xm => first | k_is | kernel_rfl); (case p0 => first | k_is | kernel_rfl); (case pv => first | k_is | kernel_rfl); (case pa => first | k_is | kernel_rfl)
    obtain ⟨fd, h1, h2⟩ := S38.all_ok (P := PySem.Challenge.rw_upwords_k38_runs_told_and_back.prog) (w := w) hmg ⟨B, Bx0, Bx1, Bx2, Bx3, Bx4, Bx5⟩ d1 d2 d3 d4 d5 d6 d7 d8 d9 d10 d11 d12 d13 d14 d15 d16 d17 d18 EX
    exact ⟨fd, h1, fun base _ _ => h2 base⟩
