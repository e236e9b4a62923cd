import PyProof.Rows.All
import Wide.All
import OpenK.AllK
import Wide.FinOn
import Lean
import PyProof.EqAt
import PyProof.EqKinds
import PyProof.TupleCall
import PyProof.WalkInts
import PyProof.NeKinds
import KE.KDictOf
import KE.KDictSum
import PyProof.Rows.Range3
import PyProof.SumAny
import PyProof.ListMulRoad
import PyProof.FactsAll.tuple
import PyProof.FactsAll.tuple_2
import PyProof.TupleKey
import PyProof.DictRoadsH
import PySem.Challenge.RW_upwords_k50_trees_folded
set_option Elab.async false
set_option linter.all false
set_option maxRecDepth 100000
namespace L2
open PySem PySem.Spec PyProof.Rows
abbrev Key:=Sum Int Str
def keyIs:Key→Value→Bool
  | .inl k,v=>Value.isInt k v
  | .inr x,v=>Value.isStrOf x v
def keyH (w:World):Key→Int
  | .inl k=>hashInt k
  | .inr x=>hashStr w x
theorem keyIs_shape:∀ {k:Key} {v:Value},keyIs k v=true→(∃ i t,k=Sum.inl i∧v=Value.int i t)∨(∃ x t,k=Sum.inr x∧v=Value.str x t)
  | .inl i,v,h=>by
    obtain ⟨t,e⟩:=Value.isInt_shape (k:=i) (v:=v) h
    exact .inl ⟨i,t,rfl,e⟩
  | .inr x,v,h=>by
    obtain ⟨t,e⟩:=Value.isStrOf_shape (x:=x) (v:=v) h
    exact .inr ⟨x,t,rfl,e⟩
theorem keyIs_int (i:Int) (t:Tok):keyIs (.inl i) (.int i t)=true:=by simp [keyIs,Value.isInt]
theorem keyIs_str (x:Str) (t:Tok):keyIs (.inr x) (.str x t)=true:=by simp [keyIs,Value.isStrOf]
theorem key_ll (a b:Int):decide ((Sum.inl a:Key)=Sum.inl b)=(a == b):=by
  by_cases e:a=b
  · subst e;simp
  · have h:¬ (Sum.inl a:Key)=Sum.inl b:=fun q=>e (Sum.inl.inj q)
    rw [decide_eq_false h]
    exact (beq_eq_false_iff_ne.mpr e).symm
theorem key_rr (a b:Str):decide ((Sum.inr a:Key)=Sum.inr b)=decide (a=b):=by
  by_cases e:a=b
  · subst e;simp
  · have h:¬ (Sum.inr a:Key)=Sum.inr b:=fun q=>e (Sum.inr.inj q)
    rw [decide_eq_false h,decide_eq_false e]
theorem key_lr (a:Int) (b:Str):decide ((Sum.inl a:Key)=Sum.inr b)=false:=decide_eq_false (fun q=>nomatch q)
theorem key_rl (a:Str) (b:Int):decide ((Sum.inr a:Key)=Sum.inl b)=false:=decide_eq_false (fun q=>nomatch q)
def mixKind (prog:Program) (w:World):PySem.KeyKind prog w Key where
  is:=keyIs
  hash:=keyH w
  inj:=fun v a b ha hb=>by
    rcases keyIs_shape ha with ⟨i,t,rfl,rfl⟩ | ⟨x,t,rfl,rfl⟩
    · rcases keyIs_shape hb with ⟨j,u,rfl,e⟩ | ⟨y,u,rfl,e⟩
      · injection e with e1 _;rw [e1]
      · exact nomatch e
    · rcases keyIs_shape hb with ⟨j,u,rfl,e⟩ | ⟨y,u,rfl,e⟩
      · exact nomatch e
      · injection e with e1 _;rw [e1]
  byValue:=fun k v h=>by
    rcases keyIs_shape h with ⟨i,t,rfl,rfl⟩ | ⟨x,t,rfl,rfl⟩ <;> rfl
  pyHash:=fun hv h=>by
    rcases keyIs_shape hv with ⟨i,t,rfl,rfl⟩ | ⟨x,t,rfl,rfl⟩
    · exact wpAny_pyHash_int h
    · exact wpAny_pyHash_str h
  eqBool:=fun hu hv h=>by
    rcases keyIs_shape hu with ⟨i,t,rfl,rfl⟩ | ⟨x,t,rfl,rfl⟩
    · rcases keyIs_shape hv with ⟨j,u,rfl,rfl⟩ | ⟨y,u,rfl,rfl⟩
      · rw [key_ll] at h;exact wpAny_eqBool_int h
      · rw [key_lr] at h;exact SeqAt.EqAt.int_str i t y u _ _ _ _ h
    · rcases keyIs_shape hv with ⟨j,u,rfl,rfl⟩ | ⟨y,u,rfl,rfl⟩
      · rw [key_rl] at h;exact SeqAt.EqAt.str_int x t j u _ _ _ _ h
      · rw [key_rr] at h;exact wpAny_eqBool_str h
  «strs»:=fun k x t v h=>by
    rcases keyIs_shape h with ⟨i,u,rfl,e⟩ | ⟨y,u,rfl,e⟩
    · exact nomatch e
    · injection e with e1 _
      subst e1
      cases v <;> rfl
theorem mixKind_int (prog:Program) (w:World) (i:Int) (t:Tok):(mixKind prog w).is (.inl i) (.int i t)=true:=keyIs_int i t
theorem mixKind_str (prog:Program) (w:World) (x:Str) (t:Tok):(mixKind prog w).is (.inr x) (.str x t)=true:=keyIs_str x t
end L2
namespace L2
open PySem PySem.Spec PyProof.Rows
inductive V where
  | non | bl (b:Bool) | int (i:Int) | str (x:Str) | byt (b:Array UInt8) | flt (b:UInt64) | ref (a:Addr) | ty (n:String)
  deriving DecidableEq
def RelV:V→Value→Prop
  | .non,u=>u=Value.none
  | .bl b,u=>u=Value.bool b
  | .int i,u=>∃ t,u=Value.int i t
  | .str x,u=>∃ t,u=Value.str x t
  | .byt b,u=>∃ t,u=Value.bytes b t
  | .flt b,u=>∃ t,u=Value.float b t
  | .ref a,u=>u=Value.ref a
  | .ty n,u=>u=Value.type n
abbrev Vals:List V→List Value→Prop:=Paired RelV
theorem Vals.length {xs:List V} {us:List Value} (r:Vals xs us):xs.length=us.length:=Paired.length r
theorem Vals.get:∀ {xs:List V} {us:List Value} {i:Nat} {x:V},Vals xs us→xs[i]?=some x→∃ u,us[i]?=some u∧RelV x u
  | _,_,_,_,.nil,e=>by simp at e
  | _,_,0,_,.cons r _,e=>by simp at e;subst e;exact ⟨_,rfl,r⟩
  | _,_,i+1,x,.cons _ t,e=>by
    obtain ⟨u,h1,h2⟩:=Vals.get (i:=i) (x:=x) t (by simpa using e)
    exact ⟨u,by simpa using h1,h2⟩
theorem Vals.set {x:V} {u:Value} (r:RelV x u):∀ {xs:List V} {us:List Value} (i:Nat),Vals xs us→Vals (xs.set i x) (us.set i u)
  | _,_,_,.nil=>.nil
  | _,_,0,.cons _ t=>.cons r t
  | _,_,i+1,.cons q t=>.cons q (Vals.set r i t)
theorem Vals.append:∀ {xs ys:List V} {us ws:List Value},Vals xs us→Vals ys ws→Vals (xs++ys) (us++ws)
  | _,_,_,_,.nil,s=>s
  | _,_,_,_,.cons r t,s=>.cons r (Vals.append t s)
theorem Vals.take:∀ {xs:List V} {us:List Value} (n:Nat),Vals xs us→Vals (xs.take n) (us.take n)
  | _,_,0,_=>.nil
  | _,_,_+1,.nil=>.nil
  | _,_,n+1,.cons r t=>.cons r (Vals.take n t)
theorem Vals.drop:∀ {xs:List V} {us:List Value} (n:Nat),Vals xs us→Vals (xs.drop n) (us.drop n)
  | _,_,0,r=>r
  | _,_,_+1,.nil=>.nil
  | _,_,n+1,.cons _ t=>Vals.drop n t
def RelO:Option V→Option Value→Prop
  | some v,some u=>RelV v u
  | none,none=>True
  | _,_=>False
def KV {κ:Type}:List (κ × V)→List (κ × Value)→Prop:=Paired fun (p:κ × V) (q:κ × Value)=>p.1=q.1∧RelV p.2 q.2
def kV:Key→V
  | .inl i=>.int i
  | .inr x=>.str x
inductive HO where
    | lst (xs:List V)
    | tup (xs:List V)
    | dK (kvs:List (Key × V)) | dT (kvs:List (List Key × V))
    | set (S:Int→Bool) (n:Nat)
    | ins (C dx:Addr) (fs:List (Str × V))
    | own (x:Addr)
    | xd (fs:List (Str × V))
    | met (f x:Addr)
    | rng (lo hi:Int)
    | frz (o:Obj) (u:HO)
    | tbl (ps:Array Value)
    | ext (φ:Heap→Prop)
abbrev Hp:=Addr→Option HO
def upd (H:Hp) (a:Addr) (o:HO):Hp:=fun b=>if b=a then some o else H b
theorem upd_same {H:Hp} {a:Addr} {o:HO}:upd H a o a=some o:=by unfold upd;rw [if_pos rfl]
theorem upd_ne {H:Hp} {a b:Addr} {o:HO} (h:b≠a):upd H a o b=H b:=by unfold upd;rw [if_neg h]
theorem ne_of {H:Hp} {a b:Addr} {o u:HO} (h:H a=some o) (h':H b=some u) (d:o≠u):a≠b:=by
  intro e;subst e;rw [h] at h';exact d (Option.some.inj h')
theorem ne_of_none {H:Hp} {a b:Addr} {o:HO} (h:H a=some o) (h':H b=none):a≠b:=by
  intro e;subst e;rw [h] at h';cases h'
section
variable (P:Program) (w:World)
def ObjOk (H:Hp) (h:Heap) (a:Addr):HO→Prop
  | .lst xs=>xs.length≤sizeLine∧∃ (its:List Value) (n:Nat),Vals xs its∧h.get? a=some { cls:=.type "list", data:=.seq its.toArray n }
  | .tup xs=>(xs.length≤sizeLine∧∃ o,h.get? a=some o∧o.dict=none)∧∃ its:List Value,Vals xs its∧IsTup h a its.toArray
  | .dK kvs=>kvs.length≤sizeLine∧(a == sysModules)=false∧∃ vs,KV kvs vs∧h.DictOf (mixKind P w) a vs
  | .dT kvs=>kvs.length≤sizeLine∧(a == sysModules)=false∧∃ xs:List (List Key × Addr × Value),
      Paired (fun (p:List Key × V) (q:List Key × Addr × Value)=>p.1=q.1∧H q.2.1=some (.tup (p.1.map kV))∧RelV p.2 q.2.2) kvs xs ∧
      ∃ o es ep,h.get? a=some o∧o.ExactDict∧o.data=.dict es ep∧es.toList=xs.map (entryOfKey (tupleKind (mixKind P w)))∧(xs.map (·.1)).Nodup
  | .set S n=>h.SetOf (intKind P w) a S n
  | .ins C dx fs=>H dx=some (.own a)∧fs.length≤1000∧dx≠a∧h.get? a=some (PySem.W.instObj C dx) ∧
      ∃ mA,h.Ns1 dx mA∧(∀ f,RelO (fs.lookup f) (mA f))∧PySem.Within mA (fs.map (·.1))
  | .own _=>∃ o,h.get? a=some o
  | .xd fs=>∃ mA,h.Ns1 a mA∧∀ f,RelO (fs.lookup f) (mA f)
  | .rng lo hi=>∃ t u v,h.get? a=some { cls:=.type "range", data:=.fields #[.int lo t,.int hi u,.int 1 v] }
  | .frz o u=>h.get? a=some o∧ObjOk H h a u
  | .tbl ps=>h.get? a=some { cls:=.none,data:=.fields ps }
  | .met f x=>h.get? a=some (PySem.W.methodObj (.ref f) (.ref x))
  | .ext φ=>φ h∧(∃ o,h.get? a=some o)∧∀ h1 h2:Heap,φ h1→(∀ o,h1.get? a=some o→h2.get? a=some o)→φ h2
def HOk (H:Hp) (h:Heap):Prop:=∀ a o,H a=some o→ObjOk P w H h a o
end
section
variable {P:Program} {w:World} {H H':Hp} {h h':Heap} {a:Addr} {o:HO}
theorem ObjOk.lt (x:ObjOk P w H h a o):a < h.objs.size:=by
  cases o with
  | lst xs=>obtain ⟨_,_,_,_,e⟩:=x;exact Heap.lt_size e
  | tup xs=>obtain ⟨_,_,_,p⟩:=x;exact p.lt
  | dK kvs=>obtain ⟨_,_,_,_,o,_,_,e,_⟩:=x;exact Heap.lt_size e
  | dT kvs=>obtain ⟨_,_,_,_,o,_,_,e,_⟩:=x;exact Heap.lt_size e
  | set S n=>obtain ⟨o,_,_,_,e,_⟩:=x;exact Heap.lt_size e
  | ins C dx fs=>obtain ⟨_,_,_,e,_⟩:=x;exact Heap.lt_size e
  | own y=>obtain ⟨_,e⟩:=x;exact Heap.lt_size e
  | xd fs=>obtain ⟨_,⟨_,_,_,e,_⟩,_⟩:=x;exact Heap.lt_size e
  | rng lo hi=>obtain ⟨_,_,_,e⟩:=x;exact Heap.lt_size e
  | frz ob u=>obtain ⟨e,_⟩:=x;exact Heap.lt_size e
  | tbl ps=>exact Heap.lt_size (show h.get? a=some _ from x)
  | met f y=>exact Heap.lt_size (show h.get? a=some _ from x)
  | ext φ=>obtain ⟨_,⟨_,e⟩,_⟩:=x;exact Heap.lt_size e
theorem Paired.mapP {α β:Type} {F G:α→β→Prop}:∀ {l₁:List α} {l₂:List β},Paired F l₁ l₂→(∀ a b,F a b→G a b)→Paired G l₁ l₂
  | _,_,.nil,_=>.nil
  | _,_,.cons r t,f=>.cons (f _ _ r) (Paired.mapP t f)
theorem ObjOk.stay (x:ObjOk P w H h a o) (k:∀ b u,(b=a∨H b=some (.own a))→h.get? b=some u→h'.get? b=some u)
    (ho:∀ b,H b=some (.own a)→H' b=some (.own a)) (ht:∀ b xs,H b=some (.tup xs)→H' b=some (.tup xs)):ObjOk P w H' h' a o:=by
  induction o with
  | lst xs=>obtain ⟨z,its,n,r,e⟩:=x;exact ⟨z,its,n,r,k _ _ (.inl rfl) e⟩
  | tup xs=>obtain ⟨⟨z,o1,e1,c1⟩,its,r,ob,e,c⟩:=x;exact ⟨⟨z,o1,k _ _ (.inl rfl) e1,c1⟩,its,r,ob,k _ _ (.inl rfl) e,c⟩
  | dK kvs=>obtain ⟨z,y,vs,r,ob,es,ep,e,c⟩:=x;exact ⟨z,y,vs,r,ob,es,ep,k _ _ (.inl rfl) e,c⟩
  | dT kvs=>
    obtain ⟨z,y,xs,r,ob,es,ep,e,c⟩:=x
    exact ⟨z,y,xs,Paired.mapP r fun p q z=>⟨z.1,ht _ _ z.2.1,z.2.2⟩,ob,es,ep,k _ _ (.inl rfl) e,c⟩
  | set S n=>obtain ⟨ob,es,ep,t,e,c⟩:=x;exact ⟨ob,es,ep,t,k _ _ (.inl rfl) e,c⟩
  | ins C dx fs=>
    obtain ⟨d,z,ne,e,mA,⟨od,es,ep,e2,c⟩,r⟩:=x
    exact ⟨ho _ d,z,ne,k _ _ (.inl rfl) e,mA,⟨od,es,ep,k _ _ (.inr d) e2,c⟩,r⟩
  | own y=>obtain ⟨ob,e⟩:=x;exact ⟨ob,k _ _ (.inl rfl) e⟩
  | xd fs=>obtain ⟨mA,⟨od,es,ep,e,c⟩,r⟩:=x;exact ⟨mA,⟨od,es,ep,k _ _ (.inl rfl) e,c⟩,r⟩
  | rng lo hi=>obtain ⟨t,u,v,e⟩:=x;exact ⟨t,u,v,k _ _ (.inl rfl) e⟩
  | frz ob u ih=>obtain ⟨e,q⟩:=x;exact ⟨k _ _ (.inl rfl) e,ih q⟩
  | tbl ps=>
    have e:h.get? a=some { cls:=.none,data:=.fields ps }:=x
    show h'.get? a=some { cls:=.none,data:=.fields ps }
    exact k a _ (.inl rfl) e
  | met f y=>
    have e:h.get? a=some (PySem.W.methodObj (.ref f) (.ref y)):=x
    show h'.get? a=some (PySem.W.methodObj (.ref f) (.ref y))
    exact k a _ (.inl rfl) e
  | ext φ=>obtain ⟨p,⟨o,e⟩,st⟩:=x;exact ⟨st _ _ p fun o q=>k _ _ (.inl rfl) q,⟨o,k _ _ (.inl rfl) e⟩,st⟩
theorem HOk.lt (x:HOk P w H h) (e:H a=some o):a < h.objs.size:=(x a o e).lt
theorem HOk.fresh (x:HOk P w H h) (e:h.objs.size≤a):H a=none:=by
  cases q:H a with
  | none=>rfl
  | some u=>exact absurd (Nat.lt_of_lt_of_le (x.lt q) e) (Nat.lt_irrefl _)
theorem HOk.kept (x:HOk P w H h) (k:∀ b u,h.get? b=some u→h'.get? b=some u):HOk P w H h':=fun a o e=>
  (x a o e).stay (fun b u _ q=>k b u q) (fun _ q=>q) fun _ _ q=>q
theorem HOk.laid (x:HOk P w H h) (k:∀ b u,h.get? b=some u→h'.get? b=some u) (hp:h.objs.size≤a) (new:ObjOk P w (upd H a o) h' a o):HOk P w (upd H a o) h':=fun b u e=>by
  have hn:=x.fresh hp
  by_cases hb:b=a
  · subst hb;rw [upd_same] at e;cases e;exact new
  · rw [upd_ne hb] at e
    exact (x b u e).stay (fun c v _ q=>k c v q) (fun c q=>by rw [upd_ne (ne_of_none q hn)];exact q) fun c xs q=>by rw [upd_ne (ne_of_none q hn)];exact q
end
def Rd (H:Hp) (a:Addr) (u:HO):Prop:=H a=some u∨∃ o,H a=some (.frz o u)
theorem Rd.ok {P:Program} {w:World} {H:Hp} {h:Heap} {a:Addr} {u:HO} (r:Rd H a u) (x:HOk P w H h):ObjOk P w H h a u:=by
  rcases r with r | ⟨o,r⟩
  · exact x a u r
  · obtain ⟨_,q⟩:=x a _ r
    exact q
def Mut:Option HO→Prop
  | some (.lst _)=>True
  | some (.dK _)=>True
  | some (.dT _)=>True
  | some (.set _ _)=>True
  | some (.ins _ _ _)=>True
  | some (.ext _)=>True
  | _=>False
section
variable {P:Program} {w:World} {H:Hp} {h h':Heap} {x e:Addr} {o':HO}
theorem HOk.write (ok:HOk P w H h) (mu:Mut (H x)) (he:e=x∨H e=some (.own x)) (k:∀ b u,b≠e→h.get? b=some u→h'.get? b=some u) (heo:∃ u,h'.get? e=some u)
    (new:ObjOk P w (upd H x o') h' x o'):HOk P w (upd H x o') h':=fun b u q=>by
  have nown:∀ c y,H c=some (.own y)→c≠x:=fun c y r z=>by subst z;rw [r] at mu;exact mu
  have ntup:∀ c xs,H c=some (.tup xs)→c≠x:=fun c xs r z=>by subst z;rw [r] at mu;exact mu
  by_cases hb:b=x
  · subst hb;rw [upd_same] at q;cases q;exact new
  · rw [upd_ne hb] at q
    by_cases hbe:b=e
    · have q':H b=some (.own x):=by
        rcases he with z | z
        · exact absurd (hbe.trans z) hb
        · rw [hbe];exact z
      rw [q] at q';cases q'
      obtain ⟨v,hv⟩:=heo
      exact ⟨v,by rw [hbe];exact hv⟩
    · refine (ok b u q).stay (fun c v hc r=>k c v ?_ r) (fun c r=>by rw [upd_ne (nown c b r)];exact r) fun c xs r=>by rw [upd_ne (ntup c xs r)];exact r
      rcases hc with rfl | hc
      · exact hbe
      · rintro rfl
        rcases he with z | z
        · exact nown c b hc z
        · rw [hc] at z;cases z;exact hb rfl
end
structure Un (fs ex:List Addr) (H H':Hp) (h h':Heap):Prop where
  keep:∀ b o,h.get? b=some o→H b=none→b ∉ fs→b ∉ ex→h'.get? b=some o
  slot:∀ b o,h.get? b=some o→H b=none→b∈fs→b ∉ ex→∃ sl,h'.get? b=some { o with slots:=sl }
  free:∀ b o,h.get? b=some o→H b=none→b ∉ ex→H' b=none
  there:∀ b o,h.get? b=some o→b ∉ ex→∃ o',h'.get? b=some o'
  tups:∀ b xs,H b=some (.tup xs)→H' b=some (.tup xs)
  frzs:∀ b o u,H b=some (.frz o u)→H' b=some (.frz o u)
  tbls:∀ b ps,H b=some (.tbl ps)→∃ more,H' b=some (.tbl (ps++more))
section
variable {fs fs' ex ex':List Addr} {H H1 H2:Hp} {h h1 h2 h':Heap} {a x e:Addr} {o:HO}
theorem Un.any (u:Un fs ex H H1 h h1) {b:Addr} {ob:Obj} (q:h.get? b=some ob) (n:H b=none) (hx:b ∉ ex):∃ sl,h1.get? b=some { ob with slots:=sl }:=by
  by_cases hb:b∈fs
  · exact u.slot b ob q n hb hx
  · exact ⟨ob.slots,u.keep b ob q n hb hx⟩
theorem Un.kept (k:∀ b u,h.get? b=some u→h'.get? b=some u):Un fs ex H H h h':=
  ⟨fun b ob q _ _ _=>k b ob q,fun b ob q _ _ _=>⟨ob.slots,k b ob q⟩,fun _ _ _ n _=>n,fun b ob q _=>⟨ob,k b ob q⟩,fun _ _ q=>q,fun _ _ _ q=>q,fun _ ps q=>⟨#[],by rw [q];simp⟩⟩
theorem Un.refl:Un fs ex H H h h:=Un.kept fun _ _ q=>q
theorem Un.laid (k:∀ b u,h.get? b=some u→h'.get? b=some u) (hp:h.objs.size≤a) (hn:H a=none):Un fs ex H (upd H a o) h h' where
  keep:=fun b u q _ _ _=>k b u q
  slot:=fun b u q _ _ _=>⟨u.slots,k b u q⟩
  free:=fun b u q n _=>by rw [upd_ne (Nat.ne_of_lt (Nat.lt_of_lt_of_le (Heap.lt_size q) hp))];exact n
  there:=fun b u q _=>⟨u,k b u q⟩
  tups:=fun b xs q=>by rw [upd_ne (ne_of_none q hn)];exact q
  frzs:=fun b u xs q=>by rw [upd_ne (ne_of_none q hn)];exact q
  tbls:=fun b ps q=>⟨#[],by rw [upd_ne (ne_of_none q hn),q];simp⟩
theorem Un.write (mu:Mut (H x)) (he:e=x∨H e=some (.own x)) (k:∀ b u,b≠e→h.get? b=some u→h'.get? b=some u) (heo:∃ u,h'.get? e=some u):Un fs ex H (upd H x o) h h':=by
  have hx:∀ b,H b=none→b≠x:=fun b n z=>by subst z;rw [n] at mu;exact mu
  have hb:∀ b,H b=none→b≠e:=fun b n z=>by
    subst z
    rcases he with r | r
    · exact hx b n r
    · rw [n] at r;cases r
  have hm:∀ b u,H b=some u→¬ Mut (some u)→b≠x:=fun b u q nm z=>by subst z;rw [q] at mu;exact nm mu
  refine ⟨fun b u q n _ _=>k b u (hb b n) q,fun b u q n _ _=>⟨u.slots,k b u (hb b n) q⟩,fun b u q n _=>by rw [upd_ne (hx b n)];exact n,fun b u q _=>?_,
    fun b xs q=>by rw [upd_ne (hm b _ q fun z=>z)];exact q,fun b u xs q=>by rw [upd_ne (hm b _ q fun z=>z)];exact q,fun b ps q=>⟨#[],by rw [upd_ne (hm b _ q fun z=>z),q];simp⟩⟩
  by_cases hbe:b=e
  · subst hbe;exact heo
  · exact ⟨u,k b u hbe q⟩
end
def trk (h:Heap) (H:Hp):List Addr:=(List.range h.objs.size).filter fun a=>(H a).isSome
def hidT (h:Heap) (H:Hp):Heap:=PySem.W.hideAll h (trk h H)
theorem hidT_size (h:Heap) (H:Hp):(hidT h H).objs.size=h.objs.size:=PySem.W.hideAll_size _ _
theorem hidT_get {h:Heap} {H:Hp} {b:Addr} {o:Obj} (e:h.get? b=some o) (n:H b=none):(hidT h H).get? b=some o:=
  PySem.W.hideAll_get _ e fun hm=>by
    have q:(H b).isSome=true:=(List.mem_filter.mp hm).2
    rw [n] at q;simp at q
theorem of_hidT {h:Heap} {H:Hp} {b:Addr} {o:Obj} (e:(hidT h H).get? b=some o):h.get? b=some o∧H b=none:=by
  have e':h.get? b=some o:=PySem.W.of_hideAll (trk h H) e
  refine ⟨e',?_⟩
  cases q:H b with
  | none=>rfl
  | some x=>
    have hm:b∈trk h H:=List.mem_filter.mpr ⟨List.mem_range.mpr (Heap.lt_size e'),by simp [q]⟩
    have z:(hidT h H).get? b=none:=PySem.W.hideAll_none (trk h H) hm
    rw [z] at e;cases e
end L2
namespace L2
open PySem PySem.Spec PyProof.Rows
structure Mod (K:PySem.W.Frag) (mg:Str→Option Value) (base:Heap):Prop where
  kin:K.In base
  glob:base.Ns mainGlobals mg
  blt:∃ mb,base.Ns builtinsNs mb∧∀ x:Str,x ≠ "__name__" → mb x=bootBuiltins x
  nolimit:base.NoLimit
structure Cx where
  prog:Program
  w:World
  K:PySem.W.Frag
  mg:Str→Option Value
  base:Heap
  A:Around
  N:List Str
  s₀:Shared
  H₀:Hp
  env:Env
  outer:List Env
  stack:List Env
  ex:List Addr
  fn:Str→Bool
  calm:Bool
  pn:List (Addr × Obj)
  xe:Value→Shared→Prop
def frs (l:List Env):List Addr:=l.filterMap (·.frame)
abbrev Cx.fs (X:Cx):List Addr:=frs X.outer
def Vis (sc:Scope) (x:Str):Prop:=sc.names.lookup x=some .local∨sc.names.lookup x=some .cell∨sc.names.lookup x=some .free
def Loc (sc:Scope) (x:Str):Prop:=sc.names.lookup x=some .local∨sc.names.lookup x=some .cell
def Look (env:Env) (h:Heap) (m:Str→Option Value) (x:Str) (u:Value):Prop:=
  (env.kindOf x=some .local∧m x=some u)∨((env.kindOf x=some .cell∨env.kindOf x=some .free)∧∃ c,env.cells.lookup x=some c∧h.IsCell c (some u))
structure Cx.Ok (X:Cx):Prop where
  mod:Mod X.K X.mg X.base
  kind:X.env.scope.kind=.function
  glob:X.env.globals=mainGlobals
  blt:X.env.builtins=builtinsNs
  above:X.s₀.heap.objs.size≤X.env.locals
  inj:∀ x y c,X.env.cells.lookup x=some c→X.env.cells.lookup y=some c→x=y
  has:∀ x,(X.env.kindOf x=some .cell∨X.env.kindOf x=some .free)→∃ c,X.env.cells.lookup x=some c
  cab:∀ x c,X.fn x=true→X.env.cells.lookup x=some c→X.s₀.heap.objs.size≤c
  hd:X.calm=true→X.A.handled=none
  frames:X.A.frames=some X.stack
  stk:X.stack=X.outer∨(X.stack=X.env :: X.outer∧X.env.frame=some X.env.locals)
  exf:∀ b∈X.ex,b≠X.env.locals∧∀ x c,X.env.cells.lookup x=some c→c≠b
  bs:∀ b o,X.base.get? b=some o→X.s₀.heap.get? b=some o∧X.H₀ b=none
  bsz:X.base.objs.size≤X.s₀.heap.objs.size
  noex:∀ b o,X.base.get? b=some o→b ∉ X.ex
  exfs:∀ b∈X.ex,b ∉ X.fs
  funs:X.s₀.heap.FunFrames X.base X.outer
  frf:∀ b∈X.fs,X.H₀ b=none
structure Inv (X:Cx) (pins:List (Addr × Obj)) (σ:List (Option V)) (H:Hp) (s:Shared):Prop where
  ok:X.Ok
  os:s.os=X.s₀.os
  bare:AllBare s.gens
  base:Un X.fs X.ex X.H₀ H X.s₀.heap s.heap
  loc:∃ m,s.heap.Ns X.env.locals m∧∀ (i:Nat) (x:Str) (v:V),X.N[i]?=some x→σ[i]?=some (some v)→Vis X.env.scope x→∃ u,RelV v u∧Look X.env s.heap m x u
  cell:∀ x c,X.env.cells.lookup x=some c→∃ v,s.heap.IsCell c v
  free:H X.env.locals=none
  freeC:∀ x c,X.env.cells.lookup x=some c→H c=none
  pin:∀ p∈X.pn++pins,s.heap.get? p.1=some p.2∧H p.1=none∧p.1≠X.env.locals∧p.1 ∉ X.fs∧∀ v,p.2.data≠.cell v
  hok:HOk X.prog X.w H s.heap
  len:σ.length=X.N.length
section
variable {X:Cx} {pins:List (Addr × Obj)} {σ:List (Option V)} {H H':Hp} {s:Shared} {h':Heap}
theorem Cx.Ok.nofr (ok:X.Ok) {b:Addr} {o:Obj} (e:X.base.get? b=some o):b ∉ X.fs:=fun hb=>by
  have:=(ok.funs.mem hb).1
  rw [e] at this;cases this
theorem Inv.bs (I:Inv X pins σ H s):∀ b o,X.base.get? b=some o→s.heap.get? b=some o∧H b=none:=fun b o e=>
  ⟨I.base.keep b o (I.ok.bs b o e).1 (I.ok.bs b o e).2 (I.ok.nofr e) (I.ok.noex b o e),I.base.free b o (I.ok.bs b o e).1 (I.ok.bs b o e).2 (I.ok.noex b o e)⟩
theorem Inv.bk (I:Inv X pins σ H s):∀ b o,X.base.get? b=some o→s.heap.get? b=some o:=fun b o e=>(I.bs b o e).1
theorem Inv.mod (I:Inv X pins σ H s):Mod X.K X.mg X.base:=I.ok.mod
theorem Inv.kIn (I:Inv X pins σ H s):X.K.In s.heap:=I.ok.mod.kin.keeps I.bk
theorem Inv.fr (I:Inv X pins σ H s):∃ m,Fr X.base X.env.locals s.heap m:=
  let ⟨m,hn,_⟩:=I.loc
  ⟨m,hn,I.bk,Nat.le_trans I.ok.bsz I.ok.above⟩
theorem Inv.lt (I:Inv X pins σ H s):X.env.locals < s.heap.objs.size:=let ⟨_,hn,_⟩:=I.loc;hn.lt
theorem Inv.sz (I:Inv X pins σ H s):X.s₀.heap.objs.size≤s.heap.objs.size:=Nat.le_trans I.ok.above (Nat.le_of_lt I.lt)
theorem Inv.nofs (I:Inv X pins σ H s) {a:Addr} (h:s.heap.objs.size≤a):a ∉ X.fs:=fun hb=>by
  obtain ⟨_,o,ho,_⟩:=I.ok.funs.mem hb
  exact absurd (Nat.lt_of_lt_of_le (Heap.lt_size ho) (Nat.le_trans I.sz h)) (Nat.lt_irrefl _)
theorem Inv.cne (I:Inv X pins σ H s):∀ x c,X.env.cells.lookup x=some c→c≠X.env.locals:=fun x c e z=>by
  obtain ⟨v,o,ho,hd⟩:=I.cell x c e
  obtain ⟨m,⟨o',es,ep,ho',hd',_⟩,_⟩:=I.loc
  rw [z,ho'] at ho;cases ho;rw [hd'] at hd;cases hd
theorem Inv.funs (I:Inv X pins σ H s):s.heap.FunFrames X.base X.outer:=by
  have all:∀ (l:List Env),(∀ b∈frs l,b∈X.fs)→X.s₀.heap.FunFrames X.base l→s.heap.FunFrames X.base l:=by
    intro l
    induction l with
    | nil=>intro _ _;trivial
    | cons env r ih=>
      intro hs hl
      obtain ⟨hk,⟨L,o,hf,hn,ho,hd⟩,hr⟩:=hl
      have hL:L∈X.fs:=hs L (by unfold frs;rw [List.filterMap_cons,hf];exact List.mem_cons_self)
      obtain ⟨sl,e⟩:=I.base.slot L o ho (I.ok.frf L hL) hL fun z=>I.ok.exfs L z hL
      exact ⟨hk,⟨L,_,hf,hn,e,hd⟩,ih (fun b hb=>hs b (by unfold frs;rw [List.filterMap_cons,hf];exact List.mem_cons_of_mem _ hb)) hr⟩
  exact all X.outer (fun _ hb=>hb) I.ok.funs
theorem Inv.stack (I:Inv X pins σ H s):s.heap.FunFrames X.base X.stack:=by
  rcases I.ok.stk with e | ⟨e,hf⟩
  · rw [e];exact I.funs
  · rw [e]
    obtain ⟨m,hn,_⟩:=I.loc
    refine .cons (by rw [I.ok.kind];decide) hf hn ?_ I.funs
    exact Heap.get?_none_of_le (Nat.le_trans I.ok.bsz I.ok.above)
theorem Inv.stkSub (I:Inv X pins σ H s):∀ b∈frs X.stack,b∈X.env.locals :: X.fs:=fun b hb=>by
  rcases I.ok.stk with e | ⟨e,hf⟩
  · rw [e] at hb;exact List.mem_cons_of_mem _ hb
  · rw [e] at hb
    unfold frs at hb
    rw [List.filterMap_cons,hf] at hb
    exact hb
theorem Inv.stkFree (I:Inv X pins σ H s):∀ b∈frs X.stack,H b=none:=fun b hb=>by
  rcases List.mem_cons.mp (I.stkSub b hb) with e | hb
  · rw [e];exact I.free
  · obtain ⟨_,o,ho,_⟩:=I.ok.funs.mem hb
    exact I.base.free b o ho (I.ok.frf b hb) fun z=>I.ok.exfs b z hb
theorem Inv.step {g':Array GenState} {t':Nat} {d':Drawn} {ch:List Addr} (I:Inv X pins σ H s)
    (hch:∀ b∈ch,(b∈X.ex∨X.s₀.heap.objs.size≤b)∧b≠X.env.locals∧(∀ x c,X.env.cells.lookup x=some c→c≠b)∧∀ p∈X.pn++pins,p.1≠b)
    (keep:∀ b o,b≠X.env.locals→b ∉ X.fs→b ∉ ch→s.heap.get? b=some o→H b=none→h'.get? b=some o)
    (slot:∀ b o,b≠X.env.locals→b∈X.fs→b ∉ ch→s.heap.get? b=some o→H b=none→∃ sl,h'.get? b=some { o with slots:=sl }) (free:∀ b o,b ∉ ch→s.heap.get? b=some o→H b=none→H' b=none)
    (there:∀ b o,b ∉ ch→s.heap.get? b=some o→∃ o',h'.get? b=some o')
    (tups:∀ b xs,H b=some (.tup xs)→H' b=some (.tup xs)) (frzs:∀ b o u,H b=some (.frz o u)→H' b=some (.frz o u)) (tbls:∀ b ps,H b=some (.tbl ps)→∃ more,H' b=some (.tbl (ps++more)))
    (ns:∀ m,s.heap.Ns X.env.locals m→h'.Ns X.env.locals m) (hok:HOk X.prog X.w H' h') (hg:AllBare g') :
    Inv X pins σ H' { s with heap:=h',gens:=g',drawn:=d',toks:=t' }:=by
  have neL:∀ b o,X.s₀.heap.get? b=some o→b≠X.env.locals:=fun b o e=>Nat.ne_of_lt (Nat.lt_of_lt_of_le (Heap.lt_size e) I.ok.above)
  have neC:∀ b o,X.s₀.heap.get? b=some o→b ∉ X.ex→b ∉ ch:=fun b o e hx hb=>by
    rcases (hch b hb).1 with z | z
    · exact hx z
    · exact absurd (Nat.lt_of_lt_of_le (Heap.lt_size e) z) (Nat.lt_irrefl _)
  have cellK:∀ x c,X.env.cells.lookup x=some c→∀ v,s.heap.IsCell c v→h'.IsCell c v:=fun x c e v ⟨o,ho,hd⟩=>by
    have nch:c ∉ ch:=fun z=>(hch c z).2.2.1 x c e rfl
    by_cases hc:c∈X.fs
    · obtain ⟨sl,q⟩:=slot c o (I.cne x c e) hc nch ho (I.freeC x c e)
      exact ⟨_,q,hd⟩
    · exact ⟨o,keep c o (I.cne x c e) hc nch ho (I.freeC x c e),hd⟩
  refine ⟨I.ok,I.os,hg,⟨fun b o e n hb hx=>?_,fun b o e n hb hx=>?_,fun b o e n hx=>?_,fun b o e hx=>?_,fun b xs e=>tups b xs (I.base.tups b xs e),fun b o xs e=>frzs b o xs (I.base.frzs b o xs e),fun b ps e=>?_⟩,?_,fun x c e=>?_,?_,fun x c e=>?_,fun p hp=>?_,hok,I.len⟩
  · exact keep b o (neL b o e) hb (neC b o e hx) (I.base.keep b o e n hb hx) (I.base.free b o e n hx)
  · obtain ⟨sl,e1⟩:=I.base.slot b o e n hb hx
    obtain ⟨sl',e2⟩:=slot b _ (neL b o e) hb (neC b o e hx) e1 (I.base.free b o e n hx)
    exact ⟨sl',e2⟩
  · obtain ⟨o',e1⟩:=I.base.there b o e hx
    exact free b o' (neC b o e hx) e1 (I.base.free b o e n hx)
  · obtain ⟨o',e1⟩:=I.base.there b o e hx
    exact there b o' (neC b o e hx) e1
  · obtain ⟨m1,e1⟩:=I.base.tbls b ps e
    obtain ⟨m2,e2⟩:=tbls b _ e1
    exact ⟨m1++m2,by rw [e2,Array.append_assoc]⟩
  · obtain ⟨m,hn,hl⟩:=I.loc
    refine ⟨m,ns m hn,fun i x v e1 e2 e3=>?_⟩
    obtain ⟨u,r,l⟩:=hl i x v e1 e2 e3
    refine ⟨u,r,?_⟩
    rcases l with l | ⟨k,c,e,z⟩
    · exact .inl l
    · exact .inr ⟨k,c,e,cellK x c e _ z⟩
  · obtain ⟨v,z⟩:=I.cell x c e
    exact ⟨v,cellK x c e v z⟩
  · obtain ⟨m,⟨o,_,_,ho,_⟩,_⟩:=I.loc
    exact free _ o (fun z=>(hch _ z).2.1 rfl) ho I.free
  · obtain ⟨v,o,ho,hd⟩:=I.cell x c e
    exact free c o (fun z=>(hch c z).2.2.1 x c e rfl) ho (I.freeC x c e)
  · obtain ⟨e,n,ne,nf,d⟩:=I.pin p hp
    have nch:p.1 ∉ ch:=fun z=>(hch p.1 z).2.2.2 p hp rfl
    exact ⟨keep p.1 p.2 ne nf nch e n,free p.1 p.2 nch e n,ne,nf,d⟩
theorem Inv.un {t':Nat} (I:Inv X pins σ H s) (u:Un X.fs [] H H' s.heap h') (hok:HOk X.prog X.w H' h'):Inv X pins σ H' { s with heap:=h',toks:=t' }:=by
  obtain ⟨m,⟨o,es,ep,ho,r⟩,_⟩:=id I.loc
  obtain ⟨sl,hL⟩:=u.any ho I.free (by simp)
  exact I.step (g':=s.gens) (d':=s.drawn) (ch:=[]) (fun _ z=>nomatch z) (fun b o _ hb _ e n=>u.keep b o e n hb (by simp)) (fun b o _ hb _ e n=>u.slot b o e n hb (by simp)) (fun b o _ e n=>u.free b o e n (by simp)) (fun b o _ e=>u.there b o e (by simp)) u.tups u.frzs u.tbls (fun m' hm=>by
    obtain ⟨o',es',ep',ho',r'⟩:=hm
    rw [ho] at ho';cases ho'
    exact ⟨_,es',ep',hL,r'⟩) hok I.bare
theorem Inv.call {g':Array GenState} {t':Nat} {d':Drawn} {ch:List Addr} (I:Inv X pins σ H s) (u:Un (frs X.stack) ch H H' s.heap h') (hok:HOk X.prog X.w H' h') (hg:AllBare g')
    (hch:∀ b∈ch,(b∈X.ex∨X.s₀.heap.objs.size≤b)∧b≠X.env.locals∧(∀ x c,X.env.cells.lookup x=some c→c≠b)∧∀ p∈X.pn++pins,p.1≠b) :
    Inv X pins σ H' { s with heap:=h',gens:=g',drawn:=d',toks:=t' }:=by
  obtain ⟨m,⟨o,es,ep,ho,r⟩,_⟩:=id I.loc
  obtain ⟨sl,hL⟩:=u.any ho I.free fun z=>(hch _ z).2.1 rfl
  exact I.step (ch:=ch) hch (fun b o hL hb hc e n=>u.keep b o e n (fun z=>(List.mem_cons.mp (I.stkSub b z)).elim hL hb) hc) (fun b o _ _ hc e n=>u.any e n hc) (fun b o hc e n=>u.free b o e n hc) (fun b o hc e=>u.there b o e hc) u.tups u.frzs u.tbls (fun m' hm=>by
    obtain ⟨o',es',ep',ho',r'⟩:=hm
    rw [ho] at ho';cases ho'
    exact ⟨_,es',ep',hL,r'⟩) hok hg
theorem Inv.turned {t':Nat} {it:Addr} (I:Inv X pins σ H s) (k:∀ b o,b≠it→s.heap.get? b=some o→h'.get? b=some o) (hn:H it=none) (hL:it≠X.env.locals)
    (h1:it∈X.ex∨X.s₀.heap.objs.size≤it) (h2:∀ x c,X.env.cells.lookup x=some c→c≠it) (h3:∀ p∈X.pn++pins,p.1≠it):Inv X pins σ H { s with heap:=h',toks:=t' }:=by
  have nit:∀ b u,H b=some u→b≠it:=fun b u e z=>by rw [z,hn] at e;cases e
  refine I.step (g':=s.gens) (d':=s.drawn) (ch:=[it]) (fun b hb=>?_) (fun b o _ _ hc e _=>k b o (fun z=>hc (by simp [z])) e) (fun b o _ _ hc e _=>⟨o.slots,k b o (fun z=>hc (by simp [z])) e⟩) (fun _ _ _ _ n=>n)
    (fun b o hc e=>⟨o,k b o (fun z=>hc (by simp [z])) e⟩) (fun _ _ e=>e) (fun _ _ _ e=>e) (fun b ps e=>⟨#[],by rw [e];simp⟩) (fun m hm=>?_) (fun b u e=>?_) I.bare
  · have e:b=it:=by simpa using hb
    subst e
    exact ⟨h1,hL,h2,h3⟩
  · obtain ⟨o,es,ep,ho,r⟩:=hm
    exact ⟨o,es,ep,k _ o (Ne.symm hL) ho,r⟩
  · refine (I.hok b u e).stay (fun c v hc q=>k c v ?_ q) (fun _ q=>q) fun _ _ q=>q
    rcases hc with z | z
    · rw [z];exact nit b u e
    · exact nit c _ z
theorem Inv.tok (I:Inv X pins σ H s) (t:Nat):Inv X pins σ H { s with toks:=t }:=I.un (h':=s.heap) (t':=t) Un.refl I.hok
theorem Inv.kept {t':Nat} (I:Inv X pins σ H s) (k:∀ b u,s.heap.get? b=some u→h'.get? b=some u):Inv X pins σ H { s with heap:=h',toks:=t' }:=I.un (Un.kept k) (I.hok.kept k)
theorem Inv.laid {a:Addr} {o:HO} {t':Nat} (I:Inv X pins σ H s) (k:∀ b u,s.heap.get? b=some u→h'.get? b=some u) (hp:s.heap.objs.size≤a) (new:ObjOk X.prog X.w (upd H a o) h' a o) :
    Inv X pins σ (upd H a o) { s with heap:=h',toks:=t' }:=I.un (Un.laid k hp (I.hok.fresh hp)) (I.hok.laid k hp new)
theorem Inv.write {x e:Addr} {o:HO} {t':Nat} (I:Inv X pins σ H s) (mu:Mut (H x)) (he:e=x∨H e=some (.own x)) (k:∀ b u,b≠e→s.heap.get? b=some u→h'.get? b=some u) (heo:∃ u,h'.get? e=some u)
    (new:ObjOk X.prog X.w (upd H x o) h' x o):Inv X pins σ (upd H x o) { s with heap:=h',toks:=t' }:=I.un (Un.write mu he k heo) (I.hok.write mu he k heo new)
theorem Inv.weak {σ':List (Option V)} (I:Inv X pins σ H s) (hl:σ'.length=σ.length) (w:∀ (i:Nat) v,σ'[i]?=some (some v)→σ[i]?=some (some v)):Inv X pins σ' H s:=
  ⟨I.ok,I.os,I.bare,I.base,let ⟨m,hn,hl'⟩:=I.loc;⟨m,hn,fun i x v e1 e2 e3=>hl' i x v e1 (w i v e2) e3⟩,I.cell,I.free,I.freeC,I.pin,I.hok,hl.trans I.len⟩
theorem Inv.pins_of {pins':List (Addr × Obj)} (I:Inv X pins σ H s) (h:∀ p∈pins',s.heap.get? p.1=some p.2∧H p.1=none∧p.1≠X.env.locals∧p.1 ∉ X.fs∧∀ v,p.2.data≠.cell v):Inv X pins' σ H s:=
  ⟨I.ok,I.os,I.bare,I.base,I.loc,I.cell,I.free,I.freeC,fun p hp=>(List.mem_append.mp hp).elim (fun z=>I.pin p (List.mem_append_left _ z)) (h p),I.hok,I.len⟩
theorem nodup_ix {N:List Str} (hN:N.Nodup) {i j:Nat} {x:Str} (a:N[i]?=some x) (b:N[j]?=some x):i=j:=by
  obtain ⟨h1,e1⟩:=List.getElem?_eq_some_iff.mp a
  obtain ⟨h2,e2⟩:=List.getElem?_eq_some_iff.mp b
  exact (List.getElem_inj hN).mp (e1.trans e2.symm)
theorem store_ok2 {M:Model} {A:Around} {E:Value→Shared→Prop} {i:Nat} {x:Str} {v:V} {u:Value} {Q:Unit→Shared→Prop} (I:Inv X pins σ H s) (hN:X.N.Nodup) (hi:X.N[i]?=some x) (hx:Loc X.env.scope x) (r:RelV v u)
    (h:∀ s',Inv X pins (σ.set i (some v)) H s'→(∃ a,Heap.SameBut a s.heap s'.heap∧(a=X.env.locals∨X.env.cells.lookup x=some a))→Q () s') (hf:X.fn x=true∨X.env.scope.names.lookup x=some .local:=by first | exact .inl rfl | exact .inr rfl | assumption):wpAny M A (storeName X.env x u) Q E s:=by
  obtain ⟨m,hn,hl⟩:=id I.loc
  have hcls:(X.env.scope.kind == .class || (X.env.scope.kind == .module && X.env.locals != X.env.globals))=false:=by rw [I.ok.kind];rfl
  have hiσ:i < σ.length:=by rw [I.len];exact (List.getElem?_eq_some_iff.mp hi).1
  have cne:=I.cne
  have tracked:∀ {a:Addr} {h':Heap},(∃ o,s.heap.get? a=some o∧H a=none)→Heap.SameBut a s.heap h'→HOk X.prog X.w H h':=fun {a h'} ha hs b ob e=>by
    obtain ⟨_,_,hfree⟩:=ha
    refine (I.hok b ob e).stay (fun c w' hc q=>(hs.2 c ?_).trans q) (fun _ q=>q) fun _ _ q=>q
    rintro rfl
    rcases hc with rfl | hc
    · rw [hfree] at e;cases e
    · rw [hfree] at hc;cases hc
  rcases hx with hk | hk
  · refine wpAny_storeName_local hk hn (fun h' hn' hs=>?_) hcls
    obtain ⟨oL,_,_,hoL,_⟩:=id hn
    refine h _ ⟨I.ok,I.os,I.bare,⟨fun b o e n hb hx=>?_,fun b o e n hb hx=>?_,I.base.free,fun b o e hx=>?_,I.base.tups,I.base.frzs,I.base.tbls⟩,⟨_,hn',fun j y v' e1 e2 e3=>?_⟩,fun y c e=>?_,I.free,I.freeC,fun p hp=>?_,tracked ⟨oL,hoL,I.free⟩ hs,by simpa using I.len⟩ ⟨_,hs,.inl rfl⟩
    · exact (hs.2 b (Nat.ne_of_lt (Nat.lt_of_lt_of_le (Heap.lt_size e) I.ok.above))).trans (I.base.keep b o e n hb hx)
    · obtain ⟨sl,e1⟩:=I.base.slot b o e n hb hx
      exact ⟨sl,(hs.2 b (Nat.ne_of_lt (Nat.lt_of_lt_of_le (Heap.lt_size e) I.ok.above))).trans e1⟩
    · obtain ⟨o',e1⟩:=I.base.there b o e hx
      exact ⟨o',(hs.2 b (Nat.ne_of_lt (Nat.lt_of_lt_of_le (Heap.lt_size e) I.ok.above))).trans e1⟩
    · by_cases hj:j=i
      · subst hj
        rw [hi] at e1;cases e1
        rw [List.getElem?_set_self hiσ] at e2
        cases e2
        exact ⟨u,r,.inl ⟨hk,by simp⟩⟩
      · rw [List.getElem?_set_ne (Ne.symm hj)] at e2
        obtain ⟨u',r',q⟩:=hl j y v' e1 e2 e3
        refine ⟨u',r',?_⟩
        rcases q with ⟨k,e⟩ | ⟨k,c,e,z⟩
        · refine .inl ⟨k,?_⟩
          have:y≠x:=fun e=>hj (nodup_ix hN e1 (e ▸ hi))
          simp [this,e]
        · exact .inr ⟨k,c,e,z.sameBut hs (cne y c e)⟩
    · obtain ⟨w',z⟩:=I.cell y c e
      exact ⟨w',z.sameBut hs (cne y c e)⟩
    · obtain ⟨e,n,ne,nf,d⟩:=I.pin p hp
      exact ⟨(hs.2 p.1 ne).trans e,n,ne,nf,d⟩
  · have hfn:X.fn x=true:=by
      rcases hf with z | z
      · exact z
      · rw [z] at hk;cases hk
    obtain ⟨c,hc⟩:=I.ok.has x (.inl hk)
    obtain ⟨w',z⟩:=I.cell x c hc
    refine wpAny_storeName_cell I.ok.kind hk hc z (fun h' hc' hs=>?_)
    obtain ⟨oc,hoc,hocd⟩:=id z
    refine h { s with heap:=h' } ⟨I.ok,I.os,I.bare,⟨fun b o e n hb hx=>?_,fun b o e n hb hx=>?_,I.base.free,fun b o e hx=>?_,I.base.tups,I.base.frzs,I.base.tbls⟩,⟨m,hn.sameBut hs (Ne.symm (cne x c hc)),fun j y v' e1 e2 e3=>?_⟩,fun y c' e=>?_,I.free,I.freeC,fun p hp=>?_,tracked ⟨oc,hoc,I.freeC x c hc⟩ hs,by simpa using I.len⟩ ⟨c,hs,.inr hc⟩
    · exact (hs.2 b (Nat.ne_of_lt (Nat.lt_of_lt_of_le (Heap.lt_size e) (I.ok.cab x c hfn hc)))).trans (I.base.keep b o e n hb hx)
    · obtain ⟨sl,e1⟩:=I.base.slot b o e n hb hx
      exact ⟨sl,(hs.2 b (Nat.ne_of_lt (Nat.lt_of_lt_of_le (Heap.lt_size e) (I.ok.cab x c hfn hc)))).trans e1⟩
    · obtain ⟨o',e1⟩:=I.base.there b o e hx
      exact ⟨o',(hs.2 b (Nat.ne_of_lt (Nat.lt_of_lt_of_le (Heap.lt_size e) (I.ok.cab x c hfn hc)))).trans e1⟩
    · by_cases hj:j=i
      · subst hj
        rw [hi] at e1;cases e1
        rw [List.getElem?_set_self hiσ] at e2
        cases e2
        exact ⟨u,r,.inr ⟨.inl hk,c,hc,hc'⟩⟩
      · rw [List.getElem?_set_ne (Ne.symm hj)] at e2
        obtain ⟨u',r',q⟩:=hl j y v' e1 e2 e3
        refine ⟨u',r',?_⟩
        rcases q with q | ⟨k,c',e,z'⟩
        · exact .inl q
        · refine .inr ⟨k,c',e,z'.sameBut hs ?_⟩
          rintro rfl
          exact hj (nodup_ix hN e1 (I.ok.inj _ _ _ e hc ▸ hi))
    · by_cases hcc:c'=c
      · subst hcc;exact ⟨_,hc'⟩
      · obtain ⟨w2,z2⟩:=I.cell y c' e
        exact ⟨w2,z2.sameBut hs hcc⟩
    · obtain ⟨e,n,ne,nf,d⟩:=I.pin p hp
      refine ⟨(hs.2 p.1 ?_).trans e,n,ne,nf,d⟩
      intro q
      rw [q,hoc] at e
      have q':oc=p.2:=Option.some.inj e
      exact d w' (by rw [← q'];exact hocd)
theorem store_ok {M:Model} {A:Around} {E:Value→Shared→Prop} {i:Nat} {x:Str} {v:V} {u:Value} {Q:Unit→Shared→Prop} (I:Inv X pins σ H s) (hN:X.N.Nodup) (hi:X.N[i]?=some x) (hx:Loc X.env.scope x) (r:RelV v u)
    (h:∀ s',Inv X pins (σ.set i (some v)) H s'→Q () s') (hf:X.fn x=true∨X.env.scope.names.lookup x=some .local:=by first | exact .inl rfl | exact .inr rfl | assumption):wpAny M A (storeName X.env x u) Q E s:=
  store_ok2 I hN hi hx r (fun s' I' _=>h s' I') hf
theorem Inv.call' {s':Shared} {ch:List Addr} (I:Inv X pins σ H s) (ho:s'.os=s.os) (u:Un (frs X.stack) ch H H' s.heap s'.heap) (hok:HOk X.prog X.w H' s'.heap) (hg:AllBare s'.gens)
    (hch:∀ b∈ch,(b∈X.ex∨X.s₀.heap.objs.size≤b)∧b≠X.env.locals∧(∀ x c,X.env.cells.lookup x=some c→c≠b)∧∀ p∈X.pn++pins,p.1≠b):Inv X pins σ H' s':=by
  obtain ⟨h',g',d',t',o'⟩:=s'
  have e:o'=s.os:=ho
  subst e
  exact I.call (g':=g') (t':=t') (d':=d') u hok hg hch
end
abbrev XK:=Value→Option Addr→Hp→Prop
abbrev St:=List (Option V)
abbrev VK:=V→Hp→Prop
abbrev TE:=St→Hp→VK→Prop
abbrev TT:=St→Hp→(Bool→Hp→Prop)→Prop
abbrev TA:=St→Hp→(List V→Hp→Prop)→Prop
structure Ends where
  nx:St→Hp→Prop
  rt:VK
  bk:St→Hp→Prop:=fun _ _=>False
  ct:St→Hp→Prop:=fun _ _=>False
abbrev TS:=Ends→St→Hp→Prop
def EP (X:Cx) (pins:List (Addr × Obj)) (σ:St) (Q:VK) (u:Value) (s':Shared):Prop:=∃ v H',Inv X pins σ H' s'∧RelV v u∧Q v H'
def TP (X:Cx) (pins:List (Addr × Obj)) (σ:St) (Q:Bool→Hp→Prop) (b:Bool) (s':Shared):Prop:=∃ H',Inv X pins σ H' s'∧Q b H'
def AP (X:Cx) (pins:List (Addr × Obj)) (σ:St) (Q:List V→Hp→Prop) (us:List Value) (s':Shared):Prop:=∃ vs H',Inv X pins σ H' s'∧Vals vs us∧Q vs H'
def SP (X:Cx) (pins:List (Addr × Obj)) (D:Ends) (f:Flow) (s':Shared):Prop:=
  match f with
  | .next=>∃ σ' H',Inv X pins σ' H' s'∧D.nx σ' H'
  | .brk=>∃ σ' H',Inv X pins σ' H' s'∧D.bk σ' H'
  | .cont=>∃ σ' H',Inv X pins σ' H' s'∧D.ct σ' H'
  | .ret u=>∃ v σ' H',Inv X pins σ' H' s'∧RelV v u∧D.rt v H'
def PE (X:Cx) (e:Expr) (t:TE):Prop:=
  ∀ (pins:List (Addr × Obj)) (s:Shared) (σ:St) (H:Hp) (Q:VK),Inv X pins σ H s→t σ H Q→wpAny (model X.prog X.w) X.A (eval e X.env) (EP X pins σ Q) X.xe s
def PT (X:Cx) (e:Expr) (t:TT):Prop:=
  ∀ (pins:List (Addr × Obj)) (s:Shared) (σ:St) (H:Hp) (Q:Bool→Hp→Prop),Inv X pins σ H s→t σ H Q→wpAny (model X.prog X.w) X.A (isTrue e X.env (eval e X.env)) (TP X pins σ Q) X.xe s
def PW (X:Cx) (e:Expr) (t:TT):Prop:=
  ∀ (whole:Sem Value) (pins:List (Addr × Obj)) (s:Shared) (σ:St) (H:Hp) (Q:Bool→Hp→Prop),Inv X pins σ H s→t σ H Q→wpAny (model X.prog X.w) X.A (isTrue e X.env whole) (TP X pins σ Q) X.xe s
theorem PW.pt {X:Cx} {e:Expr} {t:TT} (h:PW X e t):PT X e t:=h _
def PA (X:Cx) (es:List Expr) (t:TA):Prop:=
  ∀ (pos:Pos) (pins:List (Addr × Obj)) (s:Shared) (σ:St) (H:Hp) (Q:List V→Hp→Prop),Inv X pins σ H s→t σ H Q→wpAny (model X.prog X.w) X.A (spliced (backTo pos (starEach es X.env))) (AP X pins σ Q) X.xe s
def PS (X:Cx) (st:Stmt) (t:TS):Prop:=
  ∀ (pins:List (Addr × Obj)) (s:Shared) (σ:St) (H:Hp) (D:Ends),Inv X pins σ H s→t D σ H→wpAny (model X.prog X.w) X.A (exec st X.env) (SP X pins D) X.xe s
def PSs (X:Cx) (st:List Stmt) (t:TS):Prop:=
  ∀ (pins:List (Addr × Obj)) (s:Shared) (σ:St) (H:Hp) (D:Ends),Inv X pins σ H s→t D σ H→wpAny (model X.prog X.w) X.A (execs st X.env) (SP X pins D) X.xe s
theorem thn {α:Type} {t:Sem α} {Q Q':α→Shared→Prop} {M:Model} {A:Around} {E:Value→Shared→Prop} {s:Shared} (h:wpAny M A t Q E s) (hQ:∀ a s,Q a s→Q' a s):wpAny M A t Q' E s:=wpAny_mono h hQ fun _ _ x=>x
end L2
namespace L2
open PySem PySem.Spec PyProof.Rows
section
variable {X:Cx}
def tVar (i:Nat):TE:=fun σ H Q=>∃ v,σ[i]?=some (some v)∧Q v H
def tC (v:V):TE:=fun _ H Q=>Q v H
theorem pe_var {i:Nat} {x:Str} {pos:Pos} (hN:X.N[i]?=some x) (hv:Vis X.env.scope x) (hd:(x == ("__debug__" : Str))=false:=by decide) (hcd:(x == ("__classdict__" : Str))=false:=by decide):PE X (.Name x pos) (tVar i):=by
  intro pins s σ H Q I h
  obtain ⟨v,e,h⟩:=h
  obtain ⟨m,hn,hl⟩:=I.loc
  obtain ⟨u,r,l⟩:=hl i x v hN e hv
  have fin:EP X pins σ Q u s:=⟨v,H,I,r,h⟩
  rcases l with ⟨hk,hm⟩ | ⟨hk,c,hc,hcell⟩
  · exact wpAny_Name (wpAny_loadName_local I.ok.kind hk hn hm fin) hd
  · rcases hk with hk | hk
    · exact wpAny_Name (wpAny_loadName_cell I.ok.kind hk hc hcell fin) hd
    · exact wpAny_Name (wpAny_loadName_free I.ok.kind hk hc hcell fin hcd) hd
theorem pe_int {i j pos}:PE X (.Constant (.int i) j pos) (tC (.int i)):=fun _ _ _ H _ I h=>wpAny_Constant_int ⟨.int i,H,I.tok _,⟨_,rfl⟩,h⟩
theorem pe_bl {b j pos}:PE X (.Constant (.bool b) j pos) (tC (.bl b)):=fun _ _ _ H _ I h=>Constant_bool ⟨.bl b,H,I,rfl,h⟩
theorem pe_non {j pos}:PE X (.Constant .none j pos) (tC .non):=fun _ _ _ H _ I h=>Constant_none ⟨.non,H,I,rfl,h⟩
theorem pe_str {x j pos}:PE X (.Constant (.str x) j pos) (tC (.str x)):=fun _ _ _ H _ I h=>Calls.Constant_str ⟨.str x,H,I.tok _,⟨_,rfl⟩,h⟩
def Gl (X:Cx) (x:Str):Prop:=X.env.kindOf x=some .globalImplicit
theorem ld_glob {E:Value→Shared→Prop} {pins:List (Addr × Obj)} {s:Shared} {σ:St} {H:Hp} {x:Str} {u:Value} {pos:Pos} {Q:Value→Shared→Prop} (I:Inv X pins σ H s) (hg:Gl X x) (hm:X.mg x=some u) (h:Q u s)
    (hd:(x == ("__debug__" : Str))=false:=by decide):wpAny (model X.prog X.w) X.A (eval (.Name x pos) X.env) Q E s:=
  Calls.Name_function_global I.ok.kind hg (Calls.loadGlobal_global (by rw [I.ok.glob];exact I.mod.glob.keeps I.bk) hm h) hd
theorem ld_blt {E:Value→Shared→Prop} {pins:List (Addr × Obj)} {s:Shared} {σ:St} {H:Hp} {x:Str} {u:Value} {pos:Pos} {Q:Value→Shared→Prop} (I:Inv X pins σ H s) (hg:Gl X x) (hm:X.mg x=none) (hv:bootBuiltins x=some u) (h:Q u s)
    (hn:x ≠ "__name__" := by decide) (hd:(x == ("__debug__" : Str))=false:=by decide):wpAny (model X.prog X.w) X.A (eval (.Name x pos) X.env) Q E s:=by
  obtain ⟨mb,h1,h2⟩:=I.mod.blt
  exact Calls.Name_function_global I.ok.kind hg (Calls.loadGlobal_builtin (by rw [I.ok.glob];exact I.mod.glob.keeps I.bk) hm (by rw [I.ok.blt];exact h1.keeps I.bk) ((h2 x hn).trans hv) h) hd
theorem pe_bltn {x:Str} {v:V} {u:Value} {pos:Pos} (hg:Gl X x) (hm:X.mg x=none) (hv:bootBuiltins x=some u) (r:RelV v u) (hn:x ≠ "__name__" := by decide) (hd:(x == ("__debug__" : Str))=false:=by decide):PE X (.Name x pos) (tC v):=
  fun _ _ _ H _ I h=>ld_blt I hg hm hv ⟨v,H,I,r,h⟩ hn hd
variable {a b:Expr} {ta tb:TE} {pos:Pos}
def PC (X:Cx) (op:CmpOp) (a b:Expr) (t:TE):Prop:=
  ∀ (pins:List (Addr × Obj)) (s:Shared) (σ:St) (H:Hp) (Q:VK),Inv X pins σ H s→t σ H Q →
    wpAny (model X.prog X.w) X.A (eval a X.env) (fun v s₁=>wpAny (model X.prog X.w) X.A (eval b X.env) (fun u s₂=>wpAny (model X.prog X.w) X.A (compareOp op v u) (EP X pins σ Q) X.xe s₂) X.xe s₁) X.xe s
def tB (t:TE):TT:=fun σ H Q=>t σ H fun x H1=>∃ c,x=.bl c∧Q c H1
theorem pt_cmp {op:CmpOp} {t:TE} (h:PC X op a b t) (h1:behindInMarks op b=false:=by first | exact nobehind _ (by decide) (by decide) | rfl):PT X (.Compare a [op] [b] pos) (tB t):=by
  intro pins s σ H Q I hw
  refine wpAny_isTrue_Compare1 (thn (h pins s σ H _ I hw) fun v s1 h1=>thn h1 fun u s2 h2=>thn h2 fun c s3 ⟨x,H1,I1,r1,q1⟩=>?_) h1
  obtain ⟨d,rfl,q⟩:=q1
  cases r1
  exact wpAny_truthy_bool ⟨H1,I1,q⟩
theorem pt_val {e:Expr} {t:TE} (h:PE X e t) (he:∀ whole,isTrue e X.env whole=(do let v ← whole;standAt e.pos;holding [v] (truthy v)):=by intro _;rfl):PT X e (tB t):=by
  intro pins s σ H Q I hw
  refine isTrue_plain (thn (h pins s σ H _ I hw) fun v s1 ⟨x,H1,I1,r1,q1⟩=>?_) (he _)
  obtain ⟨d,rfl,q⟩:=q1
  cases r1
  exact wpAny_truthy_bool ⟨H1,I1,q⟩
variable {tA tB':TT} {rest:List Expr}
def tAnd (t u:TT):TT:=fun σ H Q=>t σ H fun c H1=>if c=true then u σ H1 Q else Q false H1
def tOr (t u:TT):TT:=fun σ H Q=>t σ H fun c H1=>if c=true then Q true H1 else u σ H1 Q
def tNot (t:TT):TT:=fun σ H Q=>t σ H fun c H1=>Q (!c) H1
theorem pw_and1 (ha:PT X a tA):PW X (.BoolOp .And [a] pos) tA:=by
  intro wh pins s σ H Q I h
  refine isTrue_and (thn (ha pins s σ H Q I h) fun c s1 e=>?_)
  cases c with
  | true=>exact isTrue_and_nil e
  | false=>exact e
theorem pw_or1 (ha:PT X a tA):PW X (.BoolOp .Or [a] pos) tA:=by
  intro wh pins s σ H Q I h
  refine isTrue_or (thn (ha pins s σ H Q I h) fun c s1 e=>?_)
  cases c with
  | false=>exact isTrue_or_nil e
  | true=>exact e
theorem pw_and (ha:PT X a tA) (hb:PW X (.BoolOp .And (b :: rest) pos) tB'):PW X (.BoolOp .And (a :: b :: rest) pos) (tAnd tA tB'):=by
  intro wh pins s σ H Q I h
  refine isTrue_and (thn (ha pins s σ H _ I h) fun c s1 ⟨H1,I1,q1⟩=>?_)
  cases c with
  | true=>exact hb wh pins s1 σ H1 Q I1 q1
  | false=>exact ⟨H1,I1,q1⟩
theorem pw_or (ha:PT X a tA) (hb:PW X (.BoolOp .Or (b :: rest) pos) tB'):PW X (.BoolOp .Or (a :: b :: rest) pos) (tOr tA tB'):=by
  intro wh pins s σ H Q I h
  refine isTrue_or (thn (ha pins s σ H _ I h) fun c s1 ⟨H1,I1,q1⟩=>?_)
  cases c with
  | true=>exact ⟨H1,I1,q1⟩
  | false=>exact hb wh pins s1 σ H1 Q I1 q1
theorem pt_not (ha:PT X a tA):PT X (.UnaryOp .Not a pos) (tNot tA):=by
  intro pins s σ H Q I h
  exact isTrue_not (ha pins s σ H (fun c H1=>Q (!c) H1) I h)
def tIf (t:TT) (ta tb:TE):TE:=fun σ H Q=>t σ H fun c H1=>if c=true then ta σ H1 Q else tb σ H1 Q
theorem pe_ifExp {c:Expr} (hc:PT X c tA) (ha:PE X a ta) (hb:PE X b tb):PE X (.IfExp c a b pos) (tIf tA ta tb):=by
  intro pins s σ H Q I h
  refine wpAny_IfExp (thn (hc pins s σ H _ I h) fun d s1 ⟨H1,I1,q1⟩=>?_)
  cases d with
  | true=>exact ha pins s1 σ H1 Q I1 q1
  | false=>exact hb pins s1 σ H1 Q I1 q1
end
end L2
namespace L2
open PySem PySem.Spec PyProof.Rows
def SqL (K:PySem.W.Frag) (H:Hp) (a:Addr) (xs:List V):Prop:=
  Rd H a (.lst xs) ∨
    ∃ (o:Obj) (its:Array Value) (n:Nat),K.lookup a=some o∧o.cls=.type "list" ∧ o.dict=none∧o.data=.seq its n∧its.size≤sizeLine∧Vals xs its.toList
def SqT (K:PySem.W.Frag) (H:Hp) (a:Addr) (xs:List V):Prop:=
  Rd H a (.tup xs) ∨
    ∃ (o:Obj) (its:Array Value) (n:Nat),K.lookup a=some o∧o.cls=.type "tuple" ∧ o.data=.seq its n∧its.size≤sizeLine∧Vals xs its.toList
def absV:Value→Option V
  | .none=>some .non
  | .bool b=>some (.bl b)
  | .int i _=>some (.int i)
  | .str x _=>some (.str x)
  | .bytes b _=>some (.byt b)
  | .float b _=>some (.flt b)
  | .ref a=>some (.ref a)
  | .type n=>some (.ty n)
  | _=>none
theorem RelV.abs {x:V} {u:Value} (r:RelV x u):absV u=some x:=by
  cases x with
  | non=>cases r;rfl
  | bl _=>cases r;rfl
  | int _=>obtain ⟨t,rfl⟩:=r;rfl
  | str _=>obtain ⟨t,rfl⟩:=r;rfl
  | byt _=>obtain ⟨t,rfl⟩:=r;rfl
  | flt _=>obtain ⟨t,rfl⟩:=r;rfl
  | ref _=>cases r;rfl
  | ty _=>cases r;rfl
theorem RelV.inj {x y:V} {u:Value} (r:RelV x u) (q:RelV y u):x=y:=Option.some.inj (r.abs.symm.trans q.abs)
theorem Vals.inj:∀ {xs ys:List V} {us:List Value},Vals xs us→Vals ys us→xs=ys
  | _,_,_,.nil,.nil=>rfl
  | _,_,_,.cons r t,.cons r' t'=>by rw [r.inj r',Vals.inj t t']
section
variable {X:Cx} {pins:List (Addr × Obj)} {σ:St} {H:Hp} {s:Shared} {a:Addr} {xs ys:List V}
theorem SqL.of {K:PySem.W.Frag} (h:H a=some (.lst xs)):SqL K H a xs:=.inl (.inl h)
theorem SqT.of {K:PySem.W.Frag} (h:H a=some (.tup xs)):SqT K H a xs:=.inl (.inl h)
theorem Inv.list (I:Inv X pins σ H s) (h:SqL X.K H a xs):∃ its:List Value,Vals xs its∧PlainL s.heap a its.toArray∧xs.length≤sizeLine:=by
  rcases h with h | ⟨o,its,n,hk,hc,hd,hs,hz,r⟩
  · obtain ⟨z,its,n,r,e⟩:=h.ok I.hok
    exact ⟨its,r,⟨_,n,e,rfl,rfl,rfl⟩,z⟩
  · refine ⟨its.toList,r,⟨o,n,I.kIn a o hk,hc,hd,by simpa using hs⟩,?_⟩
    have e:=r.length
    simp only [Array.length_toList] at e
    omega
theorem Inv.tuple (I:Inv X pins σ H s) (h:SqT X.K H a xs):∃ its:List Value,Vals xs its∧IsTup s.heap a its.toArray∧xs.length≤sizeLine:=by
  rcases h with h | ⟨o,its,n,hk,hc,hs,hz,r⟩
  · obtain ⟨z,its,r,p⟩:=h.ok I.hok
    exact ⟨its,r,p,z.1⟩
  · refine ⟨its.toList,r,⟨o,I.kIn a o hk,hc,n,by simpa using hs⟩,?_⟩
    have e:=r.length
    simp only [Array.length_toList] at e
    omega
theorem Inv.list_inj (I:Inv X pins σ H s) (h:SqL X.K H a xs) (h':SqL X.K H a ys):xs=ys:=by
  obtain ⟨its,r,⟨o,n,e,_,_,d⟩,_⟩:=I.list h
  obtain ⟨its',r',⟨o',n',e',_,_,d'⟩,_⟩:=I.list h'
  rw [e] at e';cases e'
  rw [d] at d'
  injection d' with d1 _
  have:its=its':=by simpa using congrArg Array.toList d1
  subst this
  exact r.inj r'
theorem Inv.tuple_inj (I:Inv X pins σ H s) (h:SqT X.K H a xs) (h':SqT X.K H a ys):xs=ys:=by
  obtain ⟨its,r,⟨o,e,_,n,d⟩,_⟩:=I.tuple h
  obtain ⟨its',r',⟨o',e',_,n',d'⟩,_⟩:=I.tuple h'
  rw [e] at e';cases e'
  rw [d] at d'
  injection d' with d1 _
  have:its=its':=by simpa using congrArg Array.toList d1
  subst this
  exact r.inj r'
end
abbrev Cx.wish (X:Cx) (E:Value→Shared→Prop):Cx:={ X with xe:=E }
abbrev Cx.nox (X:Cx):Cx:=X.wish fun _ _=>False
theorem Cx.Ok.wish {X:Cx} (ok:X.Ok) (E:Value→Shared→Prop):(X.wish E).Ok:=
  ⟨ok.mod,ok.kind,ok.glob,ok.blt,ok.above,ok.inj,ok.has,ok.cab,ok.hd,ok.frames,ok.stk,ok.exf,ok.bs,ok.bsz,ok.noex,ok.exfs,ok.funs,ok.frf⟩
theorem Cx.Ok.unwish {X:Cx} {E:Value→Shared→Prop} (ok:(X.wish E).Ok):X.Ok:=
  ⟨ok.mod,ok.kind,ok.glob,ok.blt,ok.above,ok.inj,ok.has,ok.cab,ok.hd,ok.frames,ok.stk,ok.exf,ok.bs,ok.bsz,ok.noex,ok.exfs,ok.funs,ok.frf⟩
section
variable {X:Cx} {pins:List (Addr × Obj)} {σ:St} {H:Hp} {s:Shared} {E:Value→Shared→Prop}
theorem Inv.wish (I:Inv X pins σ H s) (E:Value→Shared→Prop):Inv (X.wish E) pins σ H s:=⟨I.ok.wish E,I.os,I.bare,I.base,I.loc,I.cell,I.free,I.freeC,I.pin,I.hok,I.len⟩
theorem Inv.unwish (I:Inv (X.wish E) pins σ H s):Inv X pins σ H s:=⟨I.ok.unwish,I.os,I.bare,I.base,I.loc,I.cell,I.free,I.freeC,I.pin,I.hok,I.len⟩
theorem SP.unwish {D:Ends} {f:Flow} {s':Shared} (h:SP (X.wish E) pins D f s'):SP X pins D f s':=by
  cases f with
  | next=>obtain ⟨σ',H',I,q⟩:=h;exact ⟨σ',H',I.unwish,q⟩
  | brk=>obtain ⟨σ',H',I,q⟩:=h;exact ⟨σ',H',I.unwish,q⟩
  | cont=>obtain ⟨σ',H',I,q⟩:=h;exact ⟨σ',H',I.unwish,q⟩
  | ret u=>obtain ⟨v,σ',H',I,r,q⟩:=h;exact ⟨v,σ',H',I.unwish,r,q⟩
theorem PSs.nox {st:List Stmt} {t:TS} (h:PSs X.nox st t):PSs X st t:=fun pins s σ H D I hw=>
  wpAny_mono (h pins s σ H D (I.wish _) hw) (fun _ _ q=>q.unwish) fun _ _ z=>False.elim z
end
section
variable {X:Cx} {st:Stmt} {rest:List Stmt} {t u:TS} {e:Expr} {te:TE} {pos:Pos}
def tNext:TS:=fun D σ H=>D.nx σ H
def tSeq (t u:TS):TS:=fun D σ H=>t { D with nx:=u D } σ H
theorem pss_nil:PSs X [] tNext:=fun _ _ σ H _ I h=>wpAny_execs_nil ⟨σ,H,I,h⟩
theorem pss_cons (h1:PS X st t) (h2:PSs X rest u):PSs X (st :: rest) (tSeq t u):=by
  intro pins s σ H D I h
  refine wpAny_execs_cons (thn (h1 pins s σ H { D with nx:=u D } I h) fun f s1 q=>?_)
  cases f with
  | next=>
    obtain ⟨σ',H',I',q⟩:=q
    exact h2 pins s1 σ' H' D I' q
  | ret v=>exact q
  | brk=>exact q
  | cont=>exact q
theorem pss_one (h1:PS X st t):PSs X [st] t:=by
  intro pins s σ H D I h
  refine wpAny_execs_cons (thn (h1 pins s σ H D I h) fun f s1 q=>?_)
  cases f with
  | next=>exact wpAny_execs_nil q
  | ret v=>exact q
  | brk=>exact q
  | cont=>exact q
theorem Inv.quiet {pins:List (Addr × Obj)} {σ:St} {H:Hp} {s:Shared} (I:Inv X pins σ H s):interactive X.env=false:=by simp [interactive,I.ok.kind]
def tDrop (te:TE):TS:=fun D σ H=>te σ H fun _ H1=>D.nx σ H1
theorem ps_expr (he:PE X e te) (hs:swapsWith e none pos.line X.env=pure false:=by rfl):PS X (.Expr e pos) (tDrop te):=by
  intro pins s σ H D I h
  exact wpAny_Expr_any (thn (he pins s σ H _ I h) fun v s1 ⟨x,H1,I1,r1,q1⟩=>⟨σ,H1,I1,q1⟩) I.quiet hs
def tRet (te:TE):TS:=fun D σ H=>te σ H D.rt
theorem ps_ret (he:PE X e te):PS X (.Return (some e) pos) (tRet te):=by
  intro pins s σ H D I h
  exact wpAny_Return_some (thn (he pins s σ H _ I h) fun v s1 ⟨x,H1,I1,r1,q1⟩=>⟨x,σ,H1,I1,r1,q1⟩)
def tIfS (c:TT) (t u:TS):TS:=fun D σ H=>c σ H fun b H1=>if b=true then t D σ H1 else u D σ H1
theorem ps_if {c:Expr} {a b:List Stmt} {tc:TT} (hc:PT X c tc) (ha:PSs X a t) (hb:PSs X b u):PS X (.If c a b pos) (tIfS tc t u):=by
  intro pins s σ H D I h
  refine wpAny_If (thn (hc pins s σ H _ I h) fun d s1 ⟨H1,I1,q1⟩=>?_)
  cases d with
  | true=>exact ha pins s1 σ H1 D I1 q1
  | false=>exact hb pins s1 σ H1 D I1 q1
end
abbrev TG:=V→St→Hp→(St→Hp→Prop)→Prop
abbrev TGs:=List V→St→Hp→(St→Hp→Prop)→Prop
def PG (X:Cx) (target:Expr) (t:TG):Prop:=
  ∀ (pins:List (Addr × Obj)) (s:Shared) (σ:St) (H:Hp) (v:V) (u:Value) (Q:St→Hp→Prop),Inv X pins σ H s→RelV v u→t v σ H Q →
    wpAny (model X.prog X.w) X.A (assign target X.env u) (fun _ s'=>∃ σ' H',Inv X pins σ' H' s'∧Q σ' H') X.xe s
def PGs (X:Cx) (ts:List Expr) (t:TGs):Prop:=
  ∀ (pins:List (Addr × Obj)) (s:Shared) (σ:St) (H:Hp) (vs:List V) (us:List Value) (Q:St→Hp→Prop),Inv X pins σ H s→Vals vs us→t vs σ H Q →
    wpAny (model X.prog X.w) X.A (assignInOrder ((assignEach ts X.env).map (·.2)) us) (fun _ s'=>∃ σ' H',Inv X pins σ' H' s'∧Q σ' H') X.xe s
abbrev TSet:=V→V→V→Hp→(Hp→Prop)→Prop
def PSet (X:Cx) (t:TSet):Prop:=
  ∀ (pins:List (Addr × Obj)) (s:Shared) (σ:St) (H:Hp) (o i v:V) (ov iv u:Value) (Q:Hp→Prop),Inv X pins σ H s→RelV o ov→RelV i iv→RelV v u→t o i v H Q →
    wpAny (model X.prog X.w) X.A (setItem ov iv u) (fun _ s'=>∃ H',Inv X pins σ H' s'∧Q H') X.xe s
section
variable {X:Cx} {pos:Pos}
def gName (i:Nat):TG:=fun v σ H Q=>Q (σ.set i (some v)) H
theorem pg_name {i:Nat} {x:Str} (hN:X.N.Nodup) (hi:X.N[i]?=some x) (hx:Loc X.env.scope x) (hf:X.fn x=true∨X.env.scope.names.lookup x=some .local:=by first | exact .inl rfl | exact .inr rfl | assumption):PG X (.Name x pos) (gName i):=by
  intro pins s σ H v u Q I r h
  exact wpAny_assign_Name (store_ok I hN hi hx r (fun s' I'=>⟨_,H,I',h⟩) hf)
def gNil:TGs:=fun vs σ H Q=>vs=[]∧Q σ H
def gCons (t:TG) (u:TGs):TGs:=fun vs σ H Q=>∃ v r,vs=v :: r∧t v σ H fun σ' H'=>u r σ' H' Q
theorem pgs_nil:PGs X [] gNil:=by
  intro pins s σ H vs us Q I r h
  obtain ⟨e,h⟩:=h
  subst e
  cases r
  exact assignInOrder_nil ⟨σ,H,I,h⟩
theorem pgs_cons {e:Expr} {es:List Expr} {t:TG} {u:TGs} (h1:PG X e t) (h2:PGs X es u)
    (hs:(assignEach (e :: es) X.env).map (·.2)=assign e X.env :: (assignEach es X.env).map (·.2):=by rfl):PGs X (e :: es) (gCons t u):=by
  intro pins s σ H vs us Q I r h
  obtain ⟨v,vr,e1,h⟩:=h
  subst e1
  cases r with
  | cons r rr=>
    rw [hs]
    refine assignInOrder_cons (thn (h1 pins s σ H _ _ _ I r h) fun _ s1 ⟨σ1,H1,I1,q1⟩=>?_)
    exact h2 pins s1 σ1 H1 _ _ Q I1 rr q1
def gTup (K:PySem.W.Frag) (n:Nat) (t:TGs):TG:=fun v σ H Q=>∃ a xs,v=.ref a∧SqT K H a xs∧xs.length=n∧t xs σ H Q
theorem pg_tup {es:List Expr} {k:Nat} {t:TGs} {n:Nat} (hc:X.calm=true) (h:PGs X es t)
    (hn:(assignEach es X.env).length=n:=by rfl) (hst:(assignEach es X.env).findIdx? (·.1)=none:=by rfl):PG X (.Tuple es k pos) (gTup X.K n t):=by
  intro pins s σ H v u Q I r hw
  obtain ⟨a,xs,e1,hq,hl,hw⟩:=hw
  subst e1
  cases r
  obtain ⟨its,rv,ht,hz⟩:=I.tuple hq
  refine assign_Tuple_tuple (I.ok.hd hc) ht (by simp [hn,← hl,rv.length]) hst fun h' hx=>?_
  have I1:Inv X pins σ H { s with heap:=h' }:=I.kept (t':=s.toks) fun b o e=>hx b o (Nat.ne_of_lt (Heap.lt_size e)) e
  exact h pins _ σ H xs _ Q I1 (by simpa using rv) hw
def gSub (to ti:TE) (t:TSet):TG:=fun v σ H Q=>to σ H fun o H1=>ti σ H1 fun i H2=>t o i v H2 fun H3=>Q σ H3
theorem pg_sub {o i:Expr} {to ti:TE} {t:TSet} (ho:PE X o to) (hi:PE X i ti) (hs:PSet X t)
    (ha:∀ v,assign (.Subscript o i pos) X.env v=(do
      let ov ← holding [v] (eval o X.env)
      let iv ← holding [v,ov] (eval i X.env)
      standAt pos
      holding [v,ov,iv] (setItem ov iv v)
      release [v,ov,iv] []):=by intro _;rfl):PG X (.Subscript o i pos) (gSub to ti t):=by
  intro pins s σ H v u Q I r h
  rw [ha]
  refine wpAny_bind (wpAny_holding (thn (ho pins s σ H _ I h) fun ov s1 ⟨x,H1,I1,r1,q1⟩=>?_))
  refine wpAny_bind (wpAny_holding (thn (hi pins s1 σ H1 _ I1 q1) fun iv s2 ⟨y,H2,I2,r2,q2⟩=>?_))
  refine wpAny_bind (wpAny_standAt (wpAny_bind (wpAny_holding (thn (hs pins s2 σ H2 x y v ov iv u _ I2 r1 r2 r q2) fun _ s3 ⟨H3,I3,q3⟩=>?_))))
  exact wpAny_release ⟨σ,H3,I3,q3⟩
def tAsg (te:TE) (g:TG):TS:=fun D σ H=>te σ H fun x H1=>g x σ H1 D.nx
theorem ps_asg {tg e:Expr} {te:TE} {g:TG} (he:PE X e te) (hg:PG X tg g) (hs:swapsWithSole [tg] e pos.line X.env=pure false:=by rfl) (hw:swappedStores [tg] e X.env=pure none:=by rfl)
    (h1:(assignEach [tg] X.env).map (·.2)=[assign tg X.env]:=by rfl):PS X (.Assign [tg] e pos) (tAsg te g):=by
  intro pins s σ H D I h
  refine wpAny_Assign_stores (thn (he pins s σ H _ I h) fun v s1 ⟨x,H1,I1,r1,q1⟩=>?_) hs hw
  rw [h1]
  exact thn (hg pins s1 σ H1 x v _ I1 r1 q1) fun _ s2 q=>q
theorem ps_set {i:Nat} {x:Str} {e:Expr} {te:TE} {pos':Pos} (hN:X.N.Nodup) (hi:X.N[i]?=some x) (hx:Loc X.env.scope x) (he:PE X e te) (hs:swapsWith e (some (.Name x pos')) pos.line X.env=pure false:=by rfl) (hf:X.fn x=true∨X.env.scope.names.lookup x=some .local:=by first | exact .inl rfl | exact .inr rfl | assumption) :
    PS X (.Assign [.Name x pos'] e pos) (tAsg te (gName i)):=by
  intro pins s σ H D I h
  refine wpAny_Assign_Name (thn (he pins s σ H _ I h) fun v s1 ⟨y,H1,I1,r1,q1⟩=>?_) hs
  exact store_ok I1 hN hi hx r1 (fun s2 I2=>⟨_,H1,I2,q1⟩) hf
end
section
variable {X:Cx} {pos:Pos}
def tWhile (c:TT) (tb:TS):TS:=fun D σ H=>∃ W:Nat→St→Hp→Prop,(∃ m,W m σ H)∧∀ m σ H,W m σ H →
  c σ H fun b H1=>if b=true then ∃ N:St→Hp→Prop,(∀ σ' H',N σ' H'→∃ m',m' < m∧W m' σ' H')∧tb { D with nx:=N,ct:=N,bk:=D.nx } σ H1 else D.nx σ H1
theorem ps_while {c:Expr} {body:List Stmt} {tc:TT} {tb:TS} (hp:PassesOwn (model X.prog X.w) X.A X.env X.xe) (hc:PT X c tc) (hb:PSs X body tb):PS X (.While c body [] pos) (tWhile tc tb):=by
  intro pins s σ H D I h
  obtain ⟨W,⟨m0,w0⟩,turn⟩:=h
  refine wpAny_While (codeAny_whileLoop (fun n s'=>∃ σ' H',Inv X pins σ' H' s'∧W n σ' H') ?_ m0 ⟨σ,H,I,w0⟩)
  rintro n s1 ⟨σ1,H1,I1,w1⟩
  refine wpAny_passesOwn hp (thn (hc pins s1 σ1 H1 _ I1 (turn n σ1 H1 w1)) fun b s2 ⟨H2,I2,q2⟩=>?_)
  cases b with
  | true=>
    obtain ⟨N,hN,q2⟩:=q2
    rw [if_pos rfl]
    refine wpAny_passesOwn hp (thn (hb pins s2 σ1 H2 _ I2 q2) fun f s3 q3=>?_)
    cases f with
    | next=>
      obtain ⟨σ3,H3,I3,n3⟩:=q3
      obtain ⟨m',hm,w3⟩:=hN σ3 H3 n3
      exact ⟨m',hm,σ3,H3,I3,w3⟩
    | cont=>
      obtain ⟨σ3,H3,I3,n3⟩:=q3
      obtain ⟨m',hm,w3⟩:=hN σ3 H3 n3
      exact ⟨m',hm,σ3,H3,I3,w3⟩
    | brk=>exact q3
    | ret v=>exact q3
  | false=>
    rw [if_neg Bool.false_ne_true]
    exact wpAny_execs_nil ⟨σ1,H2,I2,q2⟩
end
structure It where
  go:Nat→Hp→Prop
  yld:Nat→Hp→V→Hp→Prop
  stop:Nat→Hp→Prop
def FpOk (X:Cx) (pins:List (Addr × Obj)) (H:Hp) (b:Addr):Prop:=
  H b=none∧b≠X.env.locals∧b ∉ X.fs∧(b∈X.ex∨X.s₀.heap.objs.size≤b)∧(∀ x c,X.env.cells.lookup x=some c→c≠b)∧∀ p∈X.pn++pins,p.1≠b
theorem Inv.fpOk {X:Cx} {pins:List (Addr × Obj)} {σ:St} {H H':Hp} {s:Shared} {b:Addr} (I:Inv X pins σ H s) (hb:s.heap.objs.size≤b) (hn:H' b=none):FpOk X pins H' b:=by
  refine ⟨hn,Nat.ne_of_gt (Nat.lt_of_lt_of_le I.lt hb),I.nofs hb,.inr (Nat.le_trans I.sz hb),fun x c e z=>?_,fun p hp z=>?_⟩
  · obtain ⟨v,q⟩:=I.cell x c e
    exact absurd (Nat.lt_of_lt_of_le q.lt (by rw [z];exact hb)) (Nat.lt_irrefl _)
  · exact absurd (Nat.lt_of_lt_of_le (Heap.lt_size (I.pin p hp).1) (by rw [z];exact hb)) (Nat.lt_irrefl _)
structure Turn (P:Program) (w:World) (K:PySem.W.Frag) (tg:Expr) (J:It) (fp:List Addr) (it:Addr) (tn:Nat→Heap→Prop):Prop where
  mem:it∈fp
  obj:∀ i h,tn i h→∀ b∈fp,∃ o,h.get? b=some o∧∀ v,o.data≠.cell v
  keep:∀ i h h',tn i h→(∀ b∈fp,∀ o,h.get? b=some o→h'.get? b=some o)→tn i h'
  item:∀ (X:Cx),X.prog=P→X.w=w→X.K=K→X.calm=true→∀ (i:Nat) (pins:List (Addr × Obj)) (s:Shared) (σ:St) (H:Hp) (E:Value→Shared→Prop),Inv X pins σ H s→(∀ b∈fp,FpOk X pins H b)→tn i s.heap→J.go i H →
    wpAny (model P w) X.A (pyNext (.ref it)) (fun r s1=>∃ u,r=some u ∧
      wpAny (model P w) X.A (letOwnedTupleGo tg (.ref it) u) (fun _ s2=>∃ x H',Inv X pins σ H' s2∧RelV x u∧J.yld i H x H'∧tn (i+1) s2.heap∧∀ b∈fp,H' b=none) E s1) E s
  done:∀ (X:Cx),X.prog=P→X.w=w→X.K=K→X.calm=true→∀ (i:Nat) (pins:List (Addr × Obj)) (s:Shared) (σ:St) (H:Hp) (E:Value→Shared→Prop),Inv X pins σ H s→(∀ b∈fp,FpOk X pins H b)→tn i s.heap→J.stop i H →
    wpAny (model P w) X.A (pyNext (.ref it)) (fun r s1=>r=none∧Inv X pins σ H s1) E s
  self:∀ (A:Around) (i:Nat) (s:Shared) (Q:Value→Shared→Prop) (E:Value→Shared→Prop),tn i s.heap→Q (.ref it) s→wpAny (model P w) A (pyIter (.ref it)) Q E s
abbrev TI:=St→Hp→(It→Hp→Prop)→Prop
def PIE (X:Cx) (pins:List (Addr × Obj)) (σ:St) (tg:Expr) (R:It→Hp→Prop) (itv:Value) (s2:Shared):Prop:=
  ∃ (it:Addr) (fp:List Addr) (tn:Nat→Heap→Prop) (J:It) (H':Hp),itv=.ref it∧Inv X pins σ H' s2∧Turn X.prog X.w X.K tg J fp it tn∧tn 0 s2.heap∧(∀ b∈fp,FpOk X pins H' b)∧R J H'
def PI (X:Cx) (tg iter:Expr) (wi:TI):Prop:=
  ∀ (pins:List (Addr × Obj)) (s:Shared) (σ:St) (H:Hp) (R:It→Hp→Prop),Inv X pins σ H s→wi σ H R →
    wpAny (model X.prog X.w) X.A (eval iter X.env) (fun v s1=>wpAny (model X.prog X.w) X.A (pyIter v) (PIE X pins σ tg R) X.xe s1) X.xe s
theorem go_of {M:Model} {A:Around} {E:Value→Shared→Prop} {s:Shared} {tg:Expr} {it:Addr} {u:Value} {o:Obj} {n:String} {vs:Array Value} {Q:Unit→Shared→Prop} (ho:s.heap.get? it=some o) (hc:o.cls=.type n) (hd:o.data=.fields vs)
    (hn:["enumerate", "zip", "dict_itemiterator", "dict_reverseitemiterator", "odict_iterator", "itertools.zip_longest", "itertools.pairwise"].contains n=false) (hQ:Q () s):wpAny M A (letOwnedTupleGo tg (.ref it) u) Q E s:=by
  unfold letOwnedTupleGo
  cases tg <;> first
    | exact wpAny_pure hQ
    | (cases u <;> first
        | exact wpAny_pure hQ
        | (refine wpAny_bind (wpAny_load ho ?_)
           rw [hc,hd]
           show wpAny M A (if (["enumerate", "zip", "dict_itemiterator", "dict_reverseitemiterator", "odict_iterator", "itertools.zip_longest", "itertools.pairwise"].contains n && vs[0]? == some (rawInt _))=true then _ else _) Q E s
           rw [if_neg (by intro h;rw [hn,Bool.false_and] at h;cases h)]
           exact wpAny_pure hQ))
def Itl (K:PySem.W.Frag) (a:Addr):It:=
  ⟨fun i H=>∃ xs x,SqL K H a xs∧xs[i]?=some x,fun i H x H'=>H'=H∧∀ xs,SqL K H a xs→xs[i]?=some x,fun i H=>∃ xs,SqL K H a xs∧xs.length≤i⟩
def Itt (K:PySem.W.Frag) (a:Addr):It:=
  ⟨fun i H=>∃ xs x,SqT K H a xs∧xs[i]?=some x,fun i H x H'=>H'=H∧∀ xs,SqT K H a xs→xs[i]?=some x,fun i H=>∃ xs,SqT K H a xs∧xs.length≤i⟩
def Itr (lo:Int) (n:Nat):It:=⟨fun i _=>i < n,fun i H x H'=>H'=H∧x=.int (lo+i),fun i _=>n≤i⟩
theorem turn_list {P:Program} {w:World} {K:PySem.W.Frag} {tg:Expr} (a it:Addr):Turn P w K tg (Itl K a) [it] it (fun i h=>h.IsListIter it a i) where
  mem:=by simp
  obj:=fun i h st b hb=>by
    have e:b=it:=by simpa using hb
    subst e
    obtain ⟨o,e,c,d⟩:=st
    exact ⟨o,e,fun v z=>by rw [d] at z;cases z⟩
  keep:=fun i h h' st k=>st.at fun o e=>k it (by simp) o e
  item:=by
    intro X hP hw hK hc i pins s σ H E I hf st hg
    subst hP hw hK
    obtain ⟨xs,x,hq,hx⟩:=hg
    obtain ⟨its,rv,p,hz⟩:=I.list hq
    obtain ⟨u,hu,ru⟩:=rv.get hx
    obtain ⟨f0,f1,f2,f3,f4,f5⟩:=hf it (by simp)
    refine wpAny_pyNext_list_item st p.isList (x:=u) (by simpa using hu) fun h' st' sb=>?_
    have I1:Inv X pins σ H { s with heap:=h' }:=I.turned (t':=s.toks) (fun b o hb e=>(sb.2 b hb).trans e) f0 f1 f3 f4 f5
    obtain ⟨o,e,c,d⟩:=id st'
    exact ⟨u,rfl,go_of (s:={ s with heap:=h' }) e c d (by decide) ⟨x,H,I1,ru,⟨rfl,fun ys hy=>by rw [I.list_inj hy hq];exact hx⟩,st',fun b hb=>(hf b hb).1⟩⟩
  done:=by
    intro X hP hw hK hc i pins s σ H E I hf st hg
    subst hP hw hK
    obtain ⟨xs,hq,hx⟩:=hg
    obtain ⟨its,rv,p,hz⟩:=I.list hq
    obtain ⟨f0,f1,f2,f3,f4,f5⟩:=hf it (by simp)
    have hl:=rv.length
    exact wpAny_pyNext_list_end (I.ok.hd hc) st p.isList (by simp;omega) fun h' eb=>⟨rfl,I.turned (t':=s.toks) (fun b o hb e=>eb b o hb e) f0 f1 f3 f4 f5⟩
  self:=fun _ _ _ _ _ st h=>wpAny_pyIter_listiter st h
theorem turn_tuple {P:Program} {w:World} {K:PySem.W.Frag} {tg:Expr} (a it:Addr):Turn P w K tg (Itt K a) [it] it (fun i h=>h.IsTupleIter it a i) where
  mem:=by simp
  obj:=fun i h st b hb=>by
    have e:b=it:=by simpa using hb
    subst e
    obtain ⟨o,e,c,d⟩:=st
    exact ⟨o,e,fun v z=>by rw [d] at z;cases z⟩
  keep:=fun i h h' st k=>st.at fun o e=>k it (by simp) o e
  item:=by
    intro X hP hw hK hc i pins s σ H E I hf st hg
    subst hP hw hK
    obtain ⟨xs,x,hq,hx⟩:=hg
    obtain ⟨its,rv,p,hz⟩:=I.tuple hq
    obtain ⟨u,hu,ru⟩:=rv.get hx
    obtain ⟨f0,f1,f2,f3,f4,f5⟩:=hf it (by simp)
    refine wpAny_pyNext_tuple_item st (show s.heap.IsTuple a its.toArray from p) (x:=u) (by simpa using hu) fun h' st' sb=>?_
    have I1:Inv X pins σ H { s with heap:=h' }:=I.turned (t':=s.toks) (fun b o hb e=>(sb.2 b hb).trans e) f0 f1 f3 f4 f5
    obtain ⟨o,e,c,d⟩:=id st'
    exact ⟨u,rfl,go_of (s:={ s with heap:=h' }) e c d (by decide) ⟨x,H,I1,ru,⟨rfl,fun ys hy=>by rw [I.tuple_inj hy hq];exact hx⟩,st',fun b hb=>(hf b hb).1⟩⟩
  done:=by
    intro X hP hw hK hc i pins s σ H E I hf st hg
    subst hP hw hK
    obtain ⟨xs,hq,hx⟩:=hg
    obtain ⟨its,rv,p,hz⟩:=I.tuple hq
    obtain ⟨f0,f1,f2,f3,f4,f5⟩:=hf it (by simp)
    have hl:=rv.length
    exact wpAny_pyNext_tuple_end (I.ok.hd hc) st (show s.heap.IsTuple a its.toArray from p) (by simp;omega) fun h' eb=>⟨rfl,I.turned (t':=s.toks) (fun b o hb e=>eb b o hb e) f0 f1 f3 f4 f5⟩
  self:=fun _ _ _ _ _ st h=>wpAny_pyIter_tupleiter st h
theorem turn_range {P:Program} {w:World} {K:PySem.W.Frag} {tg:Expr} (it:Addr) (lo:Int) (n:Nat):Turn P w K tg (Itr lo n) [it] it (fun i h=>IsRangeIter h it (lo+(i:Nat) * 1) ((n:Int) - (i:Nat)) 1) where
  mem:=by simp
  obj:=fun i h st b hb=>by
    have e:b=it:=by simpa using hb
    subst e
    exact ⟨_,st,fun v z=>by
      have z':Data.fields _=Data.cell v:=z
      cases z'⟩
  keep:=fun i h h' st k=>k it (by simp) _ st
  item:=by
    intro X hP hw hK hc i pins s σ H E I hf st hg
    subst hP hw hK
    obtain ⟨f0,f1,f2,f3,f4,f5⟩:=hf it (by simp)
    have W:=Walks.range (prog:=X.prog) (w:=X.w) (I.ok.hd hc) it lo 1 n
    refine W.item i s _ _ hg st fun v h' tk hv st' kk=>?_
    obtain ⟨t,rfl⟩:=hv
    have I1:Inv X pins σ H { s with heap:=h',toks:=tk }:=I.turned (fun b o hb e=>kk b o (by simpa using hb) e) f0 f1 f3 f4 f5
    refine ⟨_,rfl,go_of (s:={ s with heap:=h',toks:=tk }) (n := "range_iterator") st' rfl rfl (by decide) ⟨.int (lo+i),H,I1,⟨t,?_⟩,⟨rfl,rfl⟩,st',fun b hb=>(hf b hb).1⟩⟩
    rw [Int.mul_one]
  done:=by
    intro X hP hw hK hc i pins s σ H E I hf st hg
    subst hP hw hK
    obtain ⟨f0,f1,f2,f3,f4,f5⟩:=hf it (by simp)
    exact wpAny_pyNext_range_end (I.ok.hd hc) st (by have:n≤i:=hg;omega) fun h' eb=>⟨rfl,I.turned (t':=s.toks) (fun b o hb e=>eb b o hb e) f0 f1 f3 f4 f5⟩
  self:=fun _ _ _ _ _ st h=>wpAny_pyIter_rangeiter st h
end L2
namespace L2
open PySem PySem.Spec PyProof.Rows
section
variable {X:Cx} {tg:Expr}
def iList (K:PySem.W.Frag) (tl:TE):TI:=fun σ H R=>tl σ H fun x H1=>∃ a,x=.ref a∧(∃ xs,SqL K H1 a xs)∧R (Itl K a) H1
def iTup (K:PySem.W.Frag) (tl:TE):TI:=fun σ H R=>tl σ H fun x H1=>∃ a,x=.ref a∧(∃ xs,SqT K H1 a xs)∧R (Itt K a) H1
theorem pi_list {l:Expr} {tl:TE} (hl:PE X l tl):PI X tg l (iList X.K tl):=by
  intro pins s σ H R I h
  refine thn (hl pins s σ H _ I h) fun v s1 ⟨x,H1,I1,r1,q1⟩=>?_
  obtain ⟨a,e,⟨xs,hq⟩,q⟩:=q1
  subst e
  cases r1
  obtain ⟨its,rv,p,hz⟩:=I1.list hq
  refine wpAny_pyIter_list p.isList ?_
  refine ⟨s1.heap.objs.size,[s1.heap.objs.size],_,_,H1,rfl,I1.kept (t':=s1.toks) fun b o e=>Heap.get?_push_of_some _ e,turn_list a _,⟨_,Heap.get?_push_size _ rfl,rfl,rfl⟩,fun b hb=>?_,q⟩
  have e:b=s1.heap.objs.size:=by simpa using hb
  subst e
  exact I1.fpOk (Nat.le_refl _) (I1.hok.fresh (Nat.le_refl _))
theorem pi_tup {l:Expr} {tl:TE} (hl:PE X l tl):PI X tg l (iTup X.K tl):=by
  intro pins s σ H R I h
  refine thn (hl pins s σ H _ I h) fun v s1 ⟨x,H1,I1,r1,q1⟩=>?_
  obtain ⟨a,e,⟨xs,hq⟩,q⟩:=q1
  subst e
  cases r1
  obtain ⟨its,rv,p,hz⟩:=I1.tuple hq
  refine wpAny_pyIter_tuple (show s1.heap.IsTuple a its.toArray from p) ?_
  refine ⟨s1.heap.objs.size,[s1.heap.objs.size],_,_,H1,rfl,I1.kept (t':=s1.toks) fun b o e=>Heap.get?_push_of_some _ e,turn_tuple a _,⟨_,Heap.get?_push_size _ rfl,rfl,rfl⟩,fun b hb=>?_,q⟩
  have e:b=s1.heap.objs.size:=by simpa using hb
  subst e
  exact I1.fpOk (Nat.le_refl _) (I1.hok.fresh (Nat.le_refl _))
theorem range_it {pins:List (Addr × Obj)} {σ:St} {H:Hp} {s:Shared} {R:It→Hp→Prop} {E:Value→Shared→Prop} {lo hi:Int} {t u v:Tok} {tk:Nat} (I:Inv X pins σ H s) (h1:-(2 ^ 62)≤lo) (h2:lo < 2 ^ 62) (h3:-(2 ^ 62)≤hi) (h4:hi < 2 ^ 62)
    (q:R (Itr lo (hi - lo).toNat) H):wpAny (model X.prog X.w) X.A (pyIter (.ref s.heap.objs.size)) (PIE X pins σ tg R) E { s with heap:=s.heap.push { cls:=.type "range", data:=.fields #[.int lo t,.int hi u,.int 1 v] },toks:=tk }:=by
  refine wpAny_pyIter_range (IsRange.new ..) (small_one h1 h2 h3 h4) ?_
  have I1:Inv X pins σ H { s with heap:=s.heap.push { cls:=.type "range", data:=.fields #[.int lo t,.int hi u,.int 1 v] },toks:=tk }:=I.kept fun b o e=>Heap.get?_push_of_some _ e
  refine ⟨(s.heap.push { cls:=.type "range", data:=.fields #[.int lo t,.int hi u,.int 1 v] }).objs.size,[(s.heap.push { cls:=.type "range", data:=.fields #[.int lo t,.int hi u,.int 1 v] }).objs.size],_,_,H,rfl,
    I1.kept (t':=tk) fun b o e=>Heap.get?_push_of_some _ e,turn_range _ lo (hi - lo).toNat,?_,fun b hb=>?_,q⟩
  · have e1:lo+((0:Nat):Int) * 1=lo:=by simp
    have e2:(((hi - lo).toNat:Nat):Int) - ((0:Nat):Int)=Builtin.Range.rangeSize lo hi 1:=by rw [rangeSize_one];split <;> omega
    show IsRangeIter _ _ (lo+((0:Nat):Int) * 1) ((((hi - lo).toNat:Nat):Int) - ((0:Nat):Int)) 1
    rw [e1,e2]
    exact Heap.get?_push_size _ rfl
  · have e:b=(s.heap.push { cls:=.type "range", data:=.fields #[.int lo t,.int hi u,.int 1 v] }).objs.size:=by simpa using hb
    subst e
    exact I1.fpOk (Nat.le_refl _) (I1.hok.fresh (Nat.le_refl _))
def iRng1 (ta:TA):TI:=fun σ H R=>ta σ H fun vs H1=>∃ j:Int,vs=[.int j]∧-(2 ^ 62)≤j∧j < 2 ^ 62∧R (Itr 0 j.toNat) H1
def iRng2 (ta:TA):TI:=fun σ H R=>ta σ H fun vs H1=>∃ i j:Int,vs=[.int i,.int j]∧(-(2 ^ 62)≤i∧i < 2 ^ 62∧-(2 ^ 62)≤j∧j < 2 ^ 62)∧R (Itr i (j - i).toNat) H1
theorem pi_range1 {a:Expr} {ta:TA} {p pos:Pos} (hg:Gl X "range") (hm:X.mg "range" = none) (ha:PA X [a] ta) (hs:starEach [a] X.env=[(false,eval a X.env)]:=by rfl):PI X tg (.Call (.Name "range" p) [a] [] pos) (iRng1 ta):=by
  intro pins s σ H R I h
  refine Call_ (ld_blt I hg hm boot_range (PyProof.Rows.callWith_type1 (thn (ha pos pins s σ H _ I h) fun us s1 ⟨vs,H1,I1,r1,q1⟩=>?_) hs rfl))
  obtain ⟨j,e,q1,q2,q⟩:=q1
  subst e
  cases r1 with
  | cons r rr=>
    cases rr
    obtain ⟨t,rfl⟩:=r
    exact call_range_1 (range_it I1 (by omega) (by omega) q1 q2 (by simpa using q))
theorem pi_range2 {a b:Expr} {ta:TA} {p pos:Pos} (hg:Gl X "range") (hm:X.mg "range" = none) (ha:PA X [a,b] ta) (hs:starEach [a,b] X.env=[(false,eval a X.env),(false,eval b X.env)]:=by rfl) (hs2:starEach [b] X.env=[(false,eval b X.env)]:=by rfl) :
    PI X tg (.Call (.Name "range" p) [a,b] [] pos) (iRng2 ta):=by
  intro pins s σ H R I h
  refine Call_ (ld_blt I hg hm boot_range (PyProof.Rows.callWith_type1 (thn (ha pos pins s σ H _ I h) fun us s1 ⟨vs,H1,I1,r1,q1⟩=>?_) (by rw [hs,hs2]) (by rw [hs2];rfl)))
  obtain ⟨i,j,e,⟨q1,q2,q3,q4⟩,q⟩:=q1
  subst e
  cases r1 with
  | cons r rr=>
    cases rr with
    | cons r' rr=>
      cases rr
      obtain ⟨t,rfl⟩:=r
      obtain ⟨t',rfl⟩:=r'
      exact call_range_2 (range_it I1 q1 q2 q3 q4 q)
def tFor (wi:TI) (g:TG) (tb:TS):TS:=fun D σ H=>wi σ H fun J H1=>∃ W:Nat→Nat→St→Hp→Prop,(∃ m,W 0 m σ H1)∧∀ i m σ H,W i m σ H →
  (J.stop i H∧D.nx σ H)∨(J.go i H∧∃ N:St→Hp→Prop,(∀ σ' H',N σ' H'→∃ m',m' < m∧W (i+1) m' σ' H')∧∀ x H',J.yld i H x H'→g x σ H' fun σ2 H2=>tb { D with nx:=N,ct:=N,bk:=D.nx } σ2 H2)
def pinsAt (fp:List Addr) (h:Heap):List (Addr × Obj):=fp.filterMap fun b=>(h.get? b).map fun o=>(b,o)
theorem mem_pinsAt {fp:List Addr} {h:Heap} {b:Addr} {o:Obj} (hb:b∈fp) (e:h.get? b=some o):(b,o)∈pinsAt fp h:=List.mem_filterMap.mpr ⟨b,hb,by rw [e];rfl⟩
theorem of_pinsAt {fp:List Addr} {h:Heap} {p:Addr × Obj} (hp:p∈pinsAt fp h):p.1∈fp∧h.get? p.1=some p.2:=by
  obtain ⟨b,hb,e⟩:=List.mem_filterMap.mp hp
  cases q:h.get? b with
  | none=>rw [q] at e;cases e
  | some o=>
    rw [q] at e
    have e':(b,o)=p:=Option.some.inj e
    subst e'
    exact ⟨hb,q⟩
theorem Inv.pinned {pins:List (Addr × Obj)} {σ:St} {H:Hp} {s:Shared} {fp:List Addr} (I:Inv X pins σ H s) (hf:∀ b∈fp,FpOk X pins H b) (ho:∀ b∈fp,∃ o,s.heap.get? b=some o∧∀ v,o.data≠.cell v):Inv X (pins++pinsAt fp s.heap) σ H s:=
  I.pins_of fun p hp=>(List.mem_append.mp hp).elim (fun z=>I.pin p (List.mem_append_right _ z)) fun z=>by
    obtain ⟨hb,e⟩:=of_pinsAt z
    obtain ⟨f0,f1,f2,_⟩:=hf p.1 hb
    obtain ⟨o,e',d⟩:=ho p.1 hb
    rw [e] at e';cases e'
    exact ⟨e,f0,f1,f2,d⟩
theorem Inv.unpinned {pins pl:List (Addr × Obj)} {σ:St} {H:Hp} {s:Shared} (I:Inv X (pins++pl) σ H s):Inv X pins σ H s:=I.pins_of fun p hp=>I.pin p (List.mem_append_right _ (List.mem_append_left _ hp))
theorem ps_for {iter:Expr} {body:List Stmt} {wi:TI} {g:TG} {tb:TS} {pos:Pos} (hp:PassesOwn (model X.prog X.w) X.A X.env X.xe) (hc:X.calm=true) (hi:PI X tg iter wi) (hg:PG X tg g) (hb:PSs X body tb)
    (hs:∀ x,foldedSetIterable iter X.env x=pure x:=by intro _;rfl):PS X (.For tg iter body [] pos) (tFor wi g tb):=by
  intro pins s σ H D I h
  refine wpAny_For (thn (hi pins s σ H _ I h) fun v s1 h1=>thn h1 fun itv s2 h2=>?_) hs
  obtain ⟨it,fp,tn,J,H2,e,I2,T,st2,f2,W,⟨m0,w0⟩,turn⟩:=h2
  subst e
  have stat:∀ {H':Hp},(∀ b∈fp,H' b=none)→∀ b∈fp,FpOk X pins H' b:=fun hn b hb=>⟨hn b hb,(f2 b hb).2⟩
  refine codeAny_forLoop_any (fun n s'=>∃ i σ' H',Inv X pins σ' H' s'∧tn i s'.heap∧(∀ b∈fp,H' b=none)∧W i n σ' H') ?_ m0 ⟨0,σ,H2,I2,st2,fun b hb=>(f2 b hb).1,w0⟩
  rintro n s3 ⟨i,σ3,H3,I3,st3,fr3,w3⟩
  rcases turn i n σ3 H3 w3 with ⟨stop,qn⟩ | ⟨go,N,hN,step⟩
  · refine wpAny_passesOwn hp (thn (T.done X rfl rfl rfl hc i pins s3 σ3 H3 X.xe I3 (stat fr3) st3 stop) fun r s4 ⟨hr,I4⟩=>?_)
    subst hr
    exact wpAny_execs_nil ⟨σ3,H3,I4,qn⟩
  · refine wpAny_passesOwn hp (thn (T.item X rfl rfl rfl hc i pins s3 σ3 H3 X.xe I3 (stat fr3) st3 go) fun r s4 ⟨u,hr,h4⟩=>?_)
    subst hr
    refine wpAny_passesOwn hp (thn h4 fun _ s5 ⟨x,H5,I5,r5,y5,st5,fr5⟩=>?_)
    have I5':=I5.pinned (stat fr5) (T.obj _ _ st5)
    refine wpAny_passesOwn hp (thn (hg _ s5 σ3 H5 x u _ I5' r5 (step x H5 y5)) fun _ s6 ⟨σ6,H6,I6,q6⟩=>?_)
    refine wpAny_passesOwn hp (thn (hb _ s6 σ6 H6 _ I6 q6) fun f s7 q7=>?_)
    have again:∀ {σ7:St} {H7:Hp},Inv X (pins++pinsAt fp s5.heap) σ7 H7 s7→N σ7 H7→∃ m,m < n∧∃ i σ' H',Inv X pins σ' H' s7∧tn i s7.heap∧(∀ b∈fp,H' b=none)∧W i m σ' H':=fun {σ7 H7} I7 n7=>by
      obtain ⟨m',hm,w7⟩:=hN σ7 H7 n7
      refine ⟨m',hm,i+1,σ7,H7,I7.unpinned,T.keep _ _ _ st5 fun b hb o e=>(I7.pin (b,o) (List.mem_append_right _ (List.mem_append_right _ (mem_pinsAt hb e)))).1,fun b hb=>?_,w7⟩
      obtain ⟨o,e,d⟩:=T.obj _ _ st5 b hb
      exact (I7.pin (b,o) (List.mem_append_right _ (List.mem_append_right _ (mem_pinsAt hb e)))).2.1
    cases f with
    | next=>obtain ⟨σ7,H7,I7,n7⟩:=q7;exact again I7 n7
    | cont=>obtain ⟨σ7,H7,I7,n7⟩:=q7;exact again I7 n7
    | brk=>obtain ⟨σ7,H7,I7,q7⟩:=q7;exact ⟨σ7,H7,I7.unpinned,q7⟩
    | ret v=>obtain ⟨x7,σ7,H7,I7,r7,q7⟩:=q7;exact ⟨x7,σ7,H7,I7.unpinned,r7,q7⟩
end
theorem for_list {K:PySem.W.Frag} {a:Addr} {xs:List V} {g:TG} {tb:TS} {D:Ends} {σ:St} {H:Hp} (Pv:Nat→St→Hp→Prop) (h0:Pv 0 σ H) (hl:∀ i σ H,i≤xs.length→Pv i σ H→SqL K H a xs)
    (hs:∀ i x σ H,xs[i]?=some x→Pv i σ H→g x σ H fun σ2 H2=>tb { D with nx:=Pv (i+1),ct:=Pv (i+1),bk:=D.nx } σ2 H2) (hd:∀ σ H,Pv xs.length σ H→D.nx σ H) :
    ∃ W:Nat→Nat→St→Hp→Prop,(∃ m,W 0 m σ H)∧∀ i m σ H,W i m σ H →
      ((Itl K a).stop i H∧D.nx σ H)∨((Itl K a).go i H∧∃ N:St→Hp→Prop,(∀ σ' H',N σ' H'→∃ m',m' < m∧W (i+1) m' σ' H')∧∀ x H',(Itl K a).yld i H x H'→g x σ H' fun σ2 H2=>tb { D with nx:=N,ct:=N,bk:=D.nx } σ2 H2):=by
  refine ⟨fun i m σ H=>m=xs.length - i∧i≤xs.length∧Pv i σ H,⟨xs.length,by simp,Nat.zero_le _,h0⟩,?_⟩
  rintro i m σ H ⟨rfl,hi,p⟩
  have q:=hl i σ H hi p
  by_cases hlt:i < xs.length
  · refine .inr ⟨⟨xs,xs[i],q,by simp [hlt]⟩,Pv (i+1),fun σ' H' p'=>⟨xs.length - (i+1),by omega,rfl,hlt,p'⟩,fun x H' y=>?_⟩
    obtain ⟨e,y⟩:=y
    subst e
    exact hs i x σ _ (y xs q) p
  · have e:i=xs.length:=by omega
    subst e
    exact .inl ⟨⟨xs,q,Nat.le_refl _⟩,hd σ H p⟩
theorem for_tup {K:PySem.W.Frag} {a:Addr} {xs:List V} {g:TG} {tb:TS} {D:Ends} {σ:St} {H:Hp} (Pv:Nat→St→Hp→Prop) (h0:Pv 0 σ H) (hl:∀ i σ H,i≤xs.length→Pv i σ H→SqT K H a xs)
    (hs:∀ i x σ H,xs[i]?=some x→Pv i σ H→g x σ H fun σ2 H2=>tb { D with nx:=Pv (i+1),ct:=Pv (i+1),bk:=D.nx } σ2 H2) (hd:∀ σ H,Pv xs.length σ H→D.nx σ H) :
    ∃ W:Nat→Nat→St→Hp→Prop,(∃ m,W 0 m σ H)∧∀ i m σ H,W i m σ H →
      ((Itt K a).stop i H∧D.nx σ H)∨((Itt K a).go i H∧∃ N:St→Hp→Prop,(∀ σ' H',N σ' H'→∃ m',m' < m∧W (i+1) m' σ' H')∧∀ x H',(Itt K a).yld i H x H'→g x σ H' fun σ2 H2=>tb { D with nx:=N,ct:=N,bk:=D.nx } σ2 H2):=by
  refine ⟨fun i m σ H=>m=xs.length - i∧i≤xs.length∧Pv i σ H,⟨xs.length,by simp,Nat.zero_le _,h0⟩,?_⟩
  rintro i m σ H ⟨rfl,hi,p⟩
  have q:=hl i σ H hi p
  by_cases hlt:i < xs.length
  · refine .inr ⟨⟨xs,xs[i],q,by simp [hlt]⟩,Pv (i+1),fun σ' H' p'=>⟨xs.length - (i+1),by omega,rfl,hlt,p'⟩,fun x H' y=>?_⟩
    obtain ⟨e,y⟩:=y
    subst e
    exact hs i x σ _ (y xs q) p
  · have e:i=xs.length:=by omega
    subst e
    exact .inl ⟨⟨xs,q,Nat.le_refl _⟩,hd σ H p⟩
theorem for_range {lo:Int} {n:Nat} {g:TG} {tb:TS} {D:Ends} {σ:St} {H:Hp} (Pv:Nat→St→Hp→Prop) (h0:Pv 0 σ H)
    (hs:∀ i σ H,i < n→Pv i σ H→g (.int (lo+i)) σ H fun σ2 H2=>tb { D with nx:=Pv (i+1),ct:=Pv (i+1),bk:=D.nx } σ2 H2) (hd:∀ σ H,Pv n σ H→D.nx σ H) :
    ∃ W:Nat→Nat→St→Hp→Prop,(∃ m,W 0 m σ H)∧∀ i m σ H,W i m σ H →
      ((Itr lo n).stop i H∧D.nx σ H)∨((Itr lo n).go i H∧∃ N:St→Hp→Prop,(∀ σ' H',N σ' H'→∃ m',m' < m∧W (i+1) m' σ' H')∧∀ x H',(Itr lo n).yld i H x H'→g x σ H' fun σ2 H2=>tb { D with nx:=N,ct:=N,bk:=D.nx } σ2 H2):=by
  refine ⟨fun i m σ H=>m=n - i∧i≤n∧Pv i σ H,⟨n,by simp,Nat.zero_le _,h0⟩,?_⟩
  rintro i m σ H ⟨rfl,hi,p⟩
  by_cases hlt:i < n
  · refine .inr ⟨hlt,Pv (i+1),fun σ' H' p'=>⟨n - (i+1),by omega,rfl,hlt,p'⟩,fun x H' y=>?_⟩
    obtain ⟨e,y⟩:=y
    subst e y
    exact hs i σ _ hlt p
  · have e:i=n:=by omega
    subst e
    exact .inl ⟨Nat.le_refl _,hd σ H p⟩
theorem while_by {c:TT} {tb:TS} {D:Ends} {σ:St} {H:Hp} (Pv:St→Hp→Prop) (μ:St→Hp→Nat) (h0:Pv σ H)
    (hs:∀ σ H,Pv σ H→c σ H fun b H1=>if b=true then tb { D with nx:=fun σ' H'=>Pv σ' H'∧μ σ' H' < μ σ H,ct:=fun σ' H'=>Pv σ' H'∧μ σ' H' < μ σ H,bk:=D.nx } σ H1 else D.nx σ H1)
    (mono:∀ σ H Q Q',(∀ b H1,Q b H1→Q' b H1)→c σ H Q→c σ H Q'):tWhile c tb D σ H:=by
  refine ⟨fun m σ H=>m=μ σ H∧Pv σ H,⟨_,rfl,h0⟩,?_⟩
  rintro m σ H ⟨rfl,p⟩
  refine mono σ H _ _ (fun b H1 q=>?_) (hs σ H p)
  cases b with
  | true=>exact ⟨_,fun σ' H' ⟨p',l⟩=>⟨_,l,rfl,p'⟩,q⟩
  | false=>exact q
end L2
namespace L2
open PySem PySem.Spec PyProof.Rows
abbrev R2:=V→V→Hp→VK→Prop
def OpR (X:Cx) (f:Value→Value→Sem Value) (r:R2):Prop:=
  ∀ (pins:List (Addr × Obj)) (s:Shared) (σ:St) (H:Hp) (x y:V) (v u:Value) (Q:VK),Inv X pins σ H s→RelV x v→RelV y u→r x y H Q →
    wpAny (model X.prog X.w) X.A (f v u) (EP X pins σ Q) X.xe s
def UnR (X:Cx) (f:Value→Sem Value) (r:V→Hp→VK→Prop):Prop:=
  ∀ (pins:List (Addr × Obj)) (s:Shared) (σ:St) (H:Hp) (x:V) (v:Value) (Q:VK),Inv X pins σ H s→RelV x v→r x H Q →
    wpAny (model X.prog X.w) X.A (f v) (EP X pins σ Q) X.xe s
def CallR (X:Cx) (f:Value) (r:List V→Hp→VK→Prop):Prop:=
  ∀ (pins:List (Addr × Obj)) (s:Shared) (σ:St) (H:Hp) (xs:List V) (us:List Value) (Q:VK),Inv X pins σ H s→Vals xs us→r xs H Q →
    wpAny (model X.prog X.w) X.A (call f us) (EP X pins σ Q) X.xe s
def tOp (r:R2) (ta tb:TE):TE:=fun σ H Q=>ta σ H fun x H1=>tb σ H1 fun y H2=>r x y H2 Q
def tUn (r:V→Hp→VK→Prop) (ta:TE):TE:=fun σ H Q=>ta σ H fun x H1=>r x H1 Q
def rI (C:Int→Int→Prop) (g:Int→Int→V):R2:=fun x y H Q=>∃ i j,x=.int i∧y=.int j∧C i j∧Q (g i j) H
def rI0 (g:Int→Int→V):R2:=fun x y H Q=>∃ i j,x=.int i∧y=.int j∧Q (g i j) H
def rU (g:Int→V):V→Hp→VK→Prop:=fun x H Q=>∃ i,x=.int i∧Q (g i) H
section
variable {X:Cx} {a b c:Expr} {ta tb tc:TE} {pos:Pos}
theorem binT (ha:PE X a ta) (hb:PE X b tb) {pins:List (Addr × Obj)} {s:Shared} {σ:St} {H:Hp} {R:V→V→Hp→Prop} (I:Inv X pins σ H s)
    (h:ta σ H fun x H1=>tb σ H1 fun y H2=>R x y H2) {Q:Value→Shared→Prop} {f:Value→Value→Sem Value}
    (hf:∀ v u s2 x y H2,Inv X pins σ H2 s2→RelV x v→RelV y u→R x y H2→wpAny (model X.prog X.w) X.A (f v u) Q X.xe s2) :
    wpAny (model X.prog X.w) X.A (eval a X.env) (fun v s₁=>wpAny (model X.prog X.w) X.A (eval b X.env) (fun u s₂=>wpAny (model X.prog X.w) X.A (f v u) Q X.xe s₂) X.xe s₁) X.xe s:=by
  refine thn (ha pins s σ H _ I h) fun v s1 ⟨x,H1,I1,r1,q1⟩=>?_
  refine thn (hb pins s1 σ H1 _ I1 q1) fun u s2 ⟨y,H2,I2,r2,q2⟩=>?_
  exact hf v u s2 x y H2 I2 r1 r2 q2
theorem pe_op {op:Operator} {r:R2} (ho:OpR X (binaryOp op) r) (ha:PE X a ta) (hb:PE X b tb):PE X (.BinOp a op b pos) (tOp r ta tb):=by
  intro pins s σ H Q I h
  exact wpAny_BinOp (binT ha hb I h fun v u s2 x y H2 I2 rx ry q=>ho pins s2 σ H2 x y v u Q I2 rx ry q)
theorem pe_un {op:UnaryOp} {r:V→Hp→VK→Prop} (ho:UnR X (unaryOp op) r) (ha:PE X a ta):PE X (.UnaryOp op a pos) (tUn r ta):=by
  intro pins s σ H Q I h
  exact UnaryOp_ (thn (ha pins s σ H _ I h) fun v s1 ⟨x,H1,I1,r1,q1⟩=>ho pins s1 σ H1 x v Q I1 r1 q1)
theorem opI {f:Value→Value→Sem Value} {C:Int→Int→Prop} {g:Int→Int→Int}
    (rule:∀ (i j:Int) (t u:Tok) (s:Shared) (Q:Value→Shared→Prop) (E:Value→Shared→Prop),C i j→Q (.int (g i j) s.toks) { s with toks:=s.toks+1 }→wpAny (model X.prog X.w) X.A (f (.int i t) (.int j u)) Q E s) :
    OpR X f (rI C fun i j=>.int (g i j)):=by
  intro pins s σ H x y v u Q I rx ry h
  obtain ⟨i,j,rfl,rfl,hc,q⟩:=h
  obtain ⟨t,rfl⟩:=rx
  obtain ⟨t',rfl⟩:=ry
  exact rule i j t t' s _ _ hc ⟨.int (g i j),H,I.tok _,⟨_,rfl⟩,q⟩
theorem opI0 {f:Value→Value→Sem Value} {g:Int→Int→Int}
    (rule:∀ (i j:Int) (t u:Tok) (s:Shared) (Q:Value→Shared→Prop) (E:Value→Shared→Prop),Q (.int (g i j) s.toks) { s with toks:=s.toks+1 }→wpAny (model X.prog X.w) X.A (f (.int i t) (.int j u)) Q E s) :
    OpR X f (rI0 fun i j=>.int (g i j)):=by
  intro pins s σ H x y v u Q I rx ry h
  obtain ⟨i,j,rfl,rfl,q⟩:=h
  obtain ⟨t,rfl⟩:=rx
  obtain ⟨t',rfl⟩:=ry
  exact rule i j t t' s _ _ ⟨.int (g i j),H,I.tok _,⟨_,rfl⟩,q⟩
theorem opB0 {f:Value→Value→Sem Value} {g:Int→Int→Bool}
    (rule:∀ (i j:Int) (t u:Tok) (s:Shared) (Q:Value→Shared→Prop) (E:Value→Shared→Prop),Q (.bool (g i j)) s→wpAny (model X.prog X.w) X.A (f (.int i t) (.int j u)) Q E s) :
    OpR X f (rI0 fun i j=>.bl (g i j)):=by
  intro pins s σ H x y v u Q I rx ry h
  obtain ⟨i,j,rfl,rfl,q⟩:=h
  obtain ⟨t,rfl⟩:=rx
  obtain ⟨t',rfl⟩:=ry
  exact rule i j t t' s _ _ ⟨.bl (g i j),H,I,rfl,q⟩
def CPow (i j:Int):Prop:=0≤j∧j≤1000000∧i.natAbs < 2 ^ 64
def CMul (i j:Int):Prop:=(-(2 ^ 64) < i∧i < 2 ^ 64)∨(-(2 ^ 64) < j∧j < 2 ^ 64)
theorem CMul.ok {i j:Int} (h:CMul i j):IntMulOk i j:=by
  rcases h with ⟨h1,h2⟩ | ⟨h1,h2⟩
  · exact .of_left (intBits_le_64 h1 h2)
  · exact .of_right (intBits_le_64 h1 h2)
theorem op_add:OpR X (binaryOp .Add) (rI0 fun i j=>.int (i+j)):=opI0 fun _ _ _ _ _ _ _ q=>add_int q
theorem op_sub:OpR X (binaryOp .Sub) (rI0 fun i j=>.int (i - j)):=opI0 fun _ _ _ _ _ _ _ q=>sub_int q
theorem op_mul:OpR X (binaryOp .Mult) (rI CMul fun i j=>.int (i * j)):=opI fun _ _ _ _ _ _ _ hc q=>mul_int q hc.ok
theorem op_mod:OpR X (binaryOp .Mod) (rI (fun _ j=>0 < j) fun i j=>.int (i % j)):=opI fun i j _ _ _ _ _ hc q=>by
  have h1:(0:Int) < j:=hc
  exact mod_int' (by omega) (by rw [Int.fmod_eq_emod_of_nonneg i (by omega)];exact q)
theorem op_pow:OpR X (binaryOp .Pow) (rI CPow fun i j=>.int (i ^ j.toNat)):=opI fun _ _ _ _ _ _ _ hc q=>pow_int_small hc.1 hc.2.1 hc.2.2 q
theorem unI {f:Value→Sem Value} {g:Int→Int}
    (rule:∀ (i:Int) (t:Tok) (s:Shared) (Q:Value→Shared→Prop) (E:Value→Shared→Prop),Q (.int (g i) s.toks) { s with toks:=s.toks+1 }→wpAny (model X.prog X.w) X.A (f (.int i t)) Q E s) :
    UnR X f (rU fun i=>.int (g i)):=by
  intro pins s σ H x v Q I rx h
  obtain ⟨i,rfl,q⟩:=h
  obtain ⟨t,rfl⟩:=rx
  exact rule i t s _ _ ⟨.int (g i),H,I.tok _,⟨_,rfl⟩,q⟩
theorem un_neg:UnR X (unaryOp .USub) (rU fun i=>.int (-i)):=unI fun _ _ _ _ _ q=>neg_int q
end
def scal:V→V→Bool
  | .non,.non=>true | .non,.int _=>true | .int _,.non=>true | .non,.bl _=>true | .bl _,.non=>true | .non,.str _=>true | .str _,.non=>true
  | .int _,.int _=>true | .bl _,.bl _=>true | .str _,.str _=>true | .byt _,.byt _=>true
  | .int _,.str _=>true | .str _,.int _=>true | .bl _,.str _=>true | .str _,.bl _=>true
  | _,_=>false
def rEq:R2:=fun x y H Q=>scal x y=true∧Q (.bl (decide (x=y))) H
def rNe:R2:=fun x y H Q=>scal x y=true∧Q (.bl (!decide (x=y))) H
theorem dec_int {i j:Int}:decide (V.int i=V.int j)=(i == j):=by
  rw [Bool.eq_iff_iff]
  simp
theorem dec_bl {i j:Bool}:decide (V.bl i=V.bl j)=(i == j):=by
  rw [Bool.eq_iff_iff]
  simp
theorem dec_str {i j:Str}:decide (V.str i=V.str j)=(i == j):=by
  rw [Bool.eq_iff_iff]
  simp
theorem dec_byt {i j:Array UInt8}:decide (V.byt i=V.byt j)=(i.toList == j.toList):=by
  rw [Bool.eq_iff_iff]
  cases i
  cases j
  simp
section
variable {X:Cx} {a b c:Expr} {ta tb tc:TE} {pos:Pos}
theorem fin_bl {pins:List (Addr × Obj)} {σ:St} {H:Hp} {s:Shared} {Q:VK} {k k':Bool} (I:Inv X pins σ H s) (q:Q (.bl k) H) (e:k=k'):EP X pins σ Q (.bool k') s:=by
  subst e
  exact ⟨.bl k,H,I,rfl,q⟩
theorem op_eq:OpR X (compareOp .Eq) rEq:=by
  intro pins s σ H x y v u Q I rx ry h
  obtain ⟨hs,q⟩:=h
  cases x with
  | non=>
    cases rx
    cases y with
    | non=>cases ry;exact PySem.EqNone.eq_none_none (fin_bl I q (by simp))
    | bl j=>cases ry;exact PySem.EqNone.eq_none_bool (fin_bl I q (by simp))
    | int j=>obtain ⟨t',rfl⟩:=ry;exact PySem.EqNone.eq_none_int (fin_bl I q (by simp))
    | str j=>obtain ⟨t',rfl⟩:=ry;exact PySem.EqNone.eq_none_str (fin_bl I q (by simp))
    | _=>exact absurd (show false=true from hs) Bool.false_ne_true
  | bl i=>
    cases rx
    cases y with
    | non=>cases ry;exact PySem.EqNone.eq_bool_none (fin_bl I q (by simp))
    | bl j=>cases ry;exact eq_bool (fin_bl I q dec_bl)
    | str j=>obtain ⟨t',rfl⟩:=ry;exact PySem.EqMixed.eq_bool_str (fin_bl I q (by simp))
    | _=>exact absurd (show false=true from hs) Bool.false_ne_true
  | int i=>
    obtain ⟨t,rfl⟩:=rx
    cases y with
    | non=>cases ry;exact PySem.EqNone.eq_int_none (fin_bl I q (by simp))
    | int j=>obtain ⟨t',rfl⟩:=ry;exact eq_int (fin_bl I q dec_int)
    | str j=>obtain ⟨t',rfl⟩:=ry;exact PySem.EqMixed.eq_int_str (fin_bl I q (by simp))
    | _=>exact absurd (show false=true from hs) Bool.false_ne_true
  | str i=>
    obtain ⟨t,rfl⟩:=rx
    cases y with
    | non=>cases ry;exact PySem.EqNone.eq_str_none (fin_bl I q (by simp))
    | bl j=>cases ry;exact PySem.EqMixed.eq_str_bool (fin_bl I q (by simp))
    | int j=>obtain ⟨t',rfl⟩:=ry;exact PySem.EqMixed.eq_str_int (fin_bl I q (by simp))
    | str j=>obtain ⟨t',rfl⟩:=ry;exact eq_str (fin_bl I q dec_str)
    | _=>exact absurd (show false=true from hs) Bool.false_ne_true
  | byt i=>
    obtain ⟨t,rfl⟩:=rx
    cases y with
    | byt j=>obtain ⟨t',rfl⟩:=ry;exact PySem.W.eq_bytes (fin_bl I q dec_byt)
    | _=>exact absurd (show false=true from hs) Bool.false_ne_true
  | _=>cases y <;> exact absurd (show false=true from hs) Bool.false_ne_true
theorem op_ne:OpR X (compareOp .NotEq) rNe:=by
  intro pins s σ H x y v u Q I rx ry h
  obtain ⟨hs,q⟩:=h
  cases x with
  | non=>
    cases rx
    cases y with
    | non=>cases ry;exact PySem.EqNone.ne_none_none (fin_bl I q (by simp))
    | bl j=>cases ry;exact PySem.EqNone.ne_none_bool (fin_bl I q (by simp))
    | int j=>obtain ⟨t',rfl⟩:=ry;exact PySem.EqNone.ne_none_int (fin_bl I q (by simp))
    | str j=>obtain ⟨t',rfl⟩:=ry;exact PySem.EqNone.ne_none_str (fin_bl I q (by simp))
    | _=>exact absurd (show false=true from hs) Bool.false_ne_true
  | bl i=>
    cases rx
    cases y with
    | non=>cases ry;exact PySem.EqNone.ne_bool_none (fin_bl I q (by simp))
    | bl j=>cases ry;exact ne_bool (fin_bl I q (congrArg not dec_bl))
    | str j=>obtain ⟨t',rfl⟩:=ry;exact PySem.EqMixed.ne_bool_str (fin_bl I q (by simp))
    | _=>exact absurd (show false=true from hs) Bool.false_ne_true
  | int i=>
    obtain ⟨t,rfl⟩:=rx
    cases y with
    | non=>cases ry;exact PySem.EqNone.ne_int_none (fin_bl I q (by simp))
    | int j=>obtain ⟨t',rfl⟩:=ry;exact ne_int (fin_bl I q (congrArg not dec_int))
    | str j=>obtain ⟨t',rfl⟩:=ry;exact PySem.EqMixed.ne_int_str (fin_bl I q (by simp))
    | _=>exact absurd (show false=true from hs) Bool.false_ne_true
  | str i=>
    obtain ⟨t,rfl⟩:=rx
    cases y with
    | non=>cases ry;exact PySem.EqNone.ne_str_none (fin_bl I q (by simp))
    | bl j=>cases ry;exact PySem.EqMixed.ne_str_bool (fin_bl I q (by simp))
    | int j=>obtain ⟨t',rfl⟩:=ry;exact PySem.EqMixed.ne_str_int (fin_bl I q (by simp))
    | str j=>obtain ⟨t',rfl⟩:=ry;exact ne_str (fin_bl I q (congrArg not dec_str))
    | _=>exact absurd (show false=true from hs) Bool.false_ne_true
  | byt i=>
    obtain ⟨t,rfl⟩:=rx
    cases y with
    | byt j=>obtain ⟨t',rfl⟩:=ry;exact PySem.W.ne_bytes (fin_bl I q (congrArg not dec_byt))
    | _=>exact absurd (show false=true from hs) Bool.false_ne_true
  | _=>cases y <;> exact absurd (show false=true from hs) Bool.false_ne_true
theorem op_lt:OpR X (compareOp .Lt) (rI0 fun i j=>.bl (decide (i < j))):=opB0 fun _ _ _ _ _ _ _ q=>lt_int q
theorem op_le:OpR X (compareOp .LtE) (rI0 fun i j=>.bl (decide (i≤j))):=opB0 fun _ _ _ _ _ _ _ q=>le_int q
theorem op_gt:OpR X (compareOp .Gt) (rI0 fun i j=>.bl (decide (j < i))):=opB0 fun _ _ _ _ _ _ _ q=>gt_int q
theorem op_ge:OpR X (compareOp .GtE) (rI0 fun i j=>.bl (decide (j≤i))):=opB0 fun _ _ _ _ _ _ _ q=>ge_int q
theorem nomark (b:Expr) {op:CmpOp} (h:op≠.In:=by decide) (h2:op≠.NotIn:=by decide):behindInMarks op b=false:=by
  have e1:(op == CmpOp.In)=false:=by cases op <;> first | rfl | exact absurd rfl h
  have e2:(op == CmpOp.NotIn)=false:=by cases op <;> first | rfl | exact absurd rfl h2
  cases b <;> simp [behindInMarks,e1,e2]
theorem pe_cmpR {op:CmpOp} {r:R2} (ho:OpR X (compareOp op) r) (ha:PE X a ta) (hb:PE X b tb) (hm:behindInMarks op b=false):PE X (.Compare a [op] [b] pos) (tOp r ta tb):=by
  intro pins s σ H Q I h
  exact wpAny_Compare1 (binT ha hb I h fun v u s2 x y H2 I2 rx ry q=>ho pins s2 σ H2 x y v u Q I2 rx ry q) hm
def tTest (t:TE):TT:=fun σ H Q=>t σ H fun x H'=>∃ k,x=.bl k∧Q k H'
theorem pt_cmpR {op:CmpOp} {r:R2} (ho:OpR X (compareOp op) r) (ha:PE X a ta) (hb:PE X b tb) (hm:behindInMarks op b=false):PT X (.Compare a [op] [b] pos) (tTest (tOp r ta tb)):=by
  intro pins s σ H Q I h
  refine wpAny_isTrue_Compare1 (thn (ha pins s σ H _ I h) fun v s1 ⟨x,H1,I1,r1,q1⟩=>thn (hb pins s1 σ H1 _ I1 q1) fun u s2 ⟨y,H2,I2,r2,q2⟩=>
    thn (ho pins s2 σ H2 x y v u _ I2 r1 r2 q2) fun c s3 ⟨z,H3,I3,r3,k,e,q3⟩=>?_) hm
  subst e
  cases r3
  exact wpAny_truthy_bool ⟨H3,I3,q3⟩
theorem line63:(sizeLine:Nat) < 2 ^ 63:=by rw [sizeLine_eq];decide
theorem op_add_str:OpR X (binaryOp .Add) (fun x y H Q=>∃ i j,x=.str i∧y=.str j∧i.length+j.length≤sizeLine∧Q (.str (i++j)) H):=by
  intro pins s σ H x y v u Q I rx ry h
  obtain ⟨i,j,rfl,rfl,hz,q⟩:=h
  obtain ⟨t,rfl⟩:=rx
  obtain ⟨t',rfl⟩:=ry
  exact add_str (fun t' tk=>⟨.str (i++j),H,I.tok _,⟨_,rfl⟩,q⟩) hz
theorem vals1 {x:V} {us:List Value} (r:Vals [x] us):∃ u,us=[u]∧RelV x u:=by
  cases r with
  | cons r1 r2=>cases r2;exact ⟨_,rfl,r1⟩
theorem vals2 {x y:V} {us:List Value} (r:Vals [x,y] us):∃ u w',us=[u,w']∧RelV x u∧RelV y w':=by
  cases r with
  | cons r1 r2=>
    cases r2 with
    | cons r3 r4=>cases r4;exact ⟨_,_,rfl,r1,r3⟩
theorem call_max2 (hc:X.calm=true):CallR X (.builtin "max") (fun xs H Q=>∃ i j,xs=[.int i,.int j]∧Q (.int (if j > i then j else i)) H):=by
  intro pins s σ H xs us Q I r h
  obtain ⟨i,j,rfl,q⟩:=h
  obtain ⟨u,w',rfl,⟨t,rfl⟩,⟨t',rfl⟩⟩:=vals2 r
  refine max_two_ints (I.ok.hd hc) fun h' tk k=>⟨_,H,I.kept k,?_,q⟩
  by_cases hj:j > i
  · rw [if_pos hj,if_pos hj];exact ⟨_,rfl⟩
  · rw [if_neg hj,if_neg hj];exact ⟨_,rfl⟩
theorem call_int1:CallR X (.type "int") (fun xs H Q=>(∃ i,xs=[.int i]∧Q (.int i) H)∨∃ k,xs=[.bl k]∧Q (.int (if k then 1 else 0)) H):=by
  intro pins s σ H xs us Q I r h
  rcases h with ⟨i,rfl,q⟩ | ⟨k,rfl,q⟩
  · obtain ⟨u,rfl,t,rfl⟩:=vals1 r
    exact call_int_int ⟨.int i,H,I,⟨_,rfl⟩,q⟩
  · obtain ⟨u,rfl,r1⟩:=vals1 r
    cases r1
    exact call_int_bool ⟨.int (if k then 1 else 0),H,I.tok _,⟨_,rfl⟩,q⟩
end
end L2
namespace L2
open PySem PySem.Spec PyProof.Rows
structure ObjM (h:Heap) (x dx C:Addr) (mA:Str→Option Value):Prop where
  obj:h.get? x=some (PySem.W.instObj C dx)
  ns:h.Ns1 dx mA
  ne:dx≠x
theorem lookIn_ns {h:Heap} {dx:Addr} {mA:Str→Option Value} (n:h.Ns1 dx mA):∃ od,h.get? dx=some od∧∀ name,PySem.W.lookIn name od=some (mA name):=by
  obtain ⟨o,es,ep,ho,hd,hk,_,hm⟩:=n
  refine ⟨o,ho,fun name=>?_⟩
  have e:=hm name
  unfold nsFind findBy at e
  rw [← Array.find?_toList] at e
  unfold PySem.W.lookIn
  rw [hd]
  dsimp only
  split
  · rename_i y q
    rw [q] at e
    exact congrArg some e
  · rename_i q
    rw [q] at e
    have a:es.toList.any (·.refKey)=false:=by
      rw [List.any_eq_false]
      intro y hy
      obtain ⟨z,t,hkey⟩:=hk y (Array.mem_toList_iff.mp hy)
      simp [DictEntry.refKey,hkey]
    have a':¬ es.toList.any (·.refKey)=true:=by rw [a];exact Bool.false_ne_true
    rw [if_neg a']
    exact congrArg some e
theorem ObjM.look {h:Heap} {x dx C:Addr} {mA:Str→Option Value} (I:ObjM h x dx C mA):∃ od,PySem.W.InstAt h x (PySem.W.instObj C dx) C (some od)∧∀ name,PySem.W.lookIn name od=some (mA name):=
  let ⟨od,ho,hl⟩:=lookIn_ns I.ns
  ⟨od,⟨I.obj,rfl,rfl,ho⟩,hl⟩
section
variable {prog:Program} {w:World} {A:Around} {E:Value→Shared→Prop} {s:Shared} {K:PySem.W.Frag} {x dx C f:Addr} {mA:Str→Option Value} {name:Str} {v:Value}
theorem get_map {expr:Bool} {Q:Value→Shared→Prop} (X:K.In s.heap) (I:ObjM s.heap x dx C mA) (hg:PySem.W.plainGet K C name=true) (hh:PySem.W.hasDictIn K C=true)
    (ha:PySem.W.findIn K (.ref C) name=some none) (hv:mA name=some v) (hv':PySem.W.handedIn v=true) (h:Q v { s with toks:=s.toks+1 }) :
    wpAny (model prog w) A (getAttr (.ref x) name expr) Q E s:=by
  obtain ⟨od,J,hl⟩:=I.look
  exact PySem.W.get_value X J (PySem.W.plainGet_of hg).1 (PySem.W.findObj_own hh ha rfl (by rw [hl,hv])) hv' h
theorem get_meth {pl:Sem Bool} {Q:Value × List Value→Shared→Prop} (X:K.In s.heap) (I:ObjM s.heap x dx C mA) (hg:PySem.W.plainGet K C name=true)
    (hf:PySem.W.findIn K (.ref C) name=some (some (.ref f))) (ht:PySem.W.isFn K (.ref f)=true) (hv:mA name=none) (h:Q (.ref f,[.ref x]) s) :
    wpAny (model prog w) A (getMethod (.ref x) name pl) Q E s:=by
  obtain ⟨od,J,hl⟩:=I.look
  exact PySem.W.method_fn X J (PySem.W.plainGet_of hg).1 (PySem.W.plainGet_of hg).2 hf (beq_iff_eq.mp ht) (by show (PySem.W.lookIn name od).map (·.isSome)=some false;rw [hl,hv];rfl) h
theorem set_map {ns:List Str} {Q:Unit→Shared→Prop} (X:K.In s.heap) (I:ObjM s.heap x dx C mA)
    (hs:PySem.W.findIn K (.ref C) "__setattr__" = some (some (.builtin "object.__setattr__"))) (hp:PySem.W.plainOver K C=true) (ht:PySem.W.takerIn K C name=some none) (hh:PySem.W.hasDictIn K C=true)
    (hw:PySem.Within mA ns) (hsz:ns.length≤sizeLine)
    (h:∀ h',ObjM h' x dx C (fun y=>if y=name then some v else mA y)→Heap.SameBut dx s.heap h'→Q () { s with heap:=h',toks:=s.toks+2 }) :
    wpAny (model prog w) A (setAttr (.ref x) name v) Q E s:=by
  obtain ⟨od,J,hl⟩:=I.look
  refine PySem.W.set_plain X J hs (PySem.W.osa_open (s:={ s with toks:=s.toks+1 }) (r:=none) X J hp ht fun b=>?_)
  obtain ⟨cd,hc,hd'⟩:=PySem.W.any_some hh
  have hx:s.heap.get? x=some ⟨.ref C,some dx,.plain,#[]⟩:=I.obj
  refine wpAny_bind (wpAny_pure (wpAny_bind (wpAny_bind (wpAny_loadPart hx (wpAny_bind (PySem.W.Looks.here (s:={ s with toks:=s.toks+1 }) (PySem.W.looks_clsIn X hc) ?_))))))
  rw [hd']
  refine wpAny_pure (a:=some dx) (wpAny_bind (wpAny_pure (wpAny_bind ?_)))
  refine wpAny_nsSet1 (s:={ s with toks:=s.toks+1 }) I.ns fun h' hn2 hs2=>?_
  obtain ⟨oD,esD,epD,hoD,hdD,hcD⟩:=hn2.count (PySem.Within.cons name v hw)
  refine wpAny_bind (wpAny_lookBehind hoD (by rw [hdD];exact pastItsLine_dict (Nat.le_trans hcD (by rw [List.length_cons];omega))) ?_)
  exact wpAny_pure (h _ ⟨(hs2.2 _ (Ne.symm I.ne)).trans I.obj,hn2,I.ne⟩ hs2)
theorem make_map {R:Result→Shared→Prop} {vs:List Value} {kw:List (Str × Value)} (X:K.In s.heap) (hm:PySem.W.makesIn K C=true)
    (hi:PySem.W.findIn K (.ref C) "__init__" = some (some (.ref f))) (hf:PySem.W.typeIn K (.ref f)=some (.type "function"))
    (h:codeAny (model prog w) (A.under (.builtin "type.__call__" ⟨.ref C :: vs,kw⟩)) (.call (.ref f) ⟨.ref (s.heap.objs.size+1) :: vs,kw⟩) (PySem.W.InitBack (s.heap.objs.size+1) R)
      { s with heap:=(s.heap.push PySem.W.emptyDict).push (PySem.W.instObj C s.heap.objs.size) }) :
    codeAny (model prog w) A (.call (.ref C) ⟨vs,kw⟩) R s:=by
  obtain ⟨hh,g,d,t,os⟩:=s
  exact PySem.W.make_core (PySem.W.makes_of X hm) (PySem.W.looks_findIn X hi) (fun self=>PySem.W.bind_fn X self hf) (.inl rfl) h
end
def putF (f:Str) (v:V):List (Str × V)→List (Str × V)
  | []=>[(f,v)]
  | (g,x) :: r=>if g=f then (g,v) :: r else (g,x) :: putF f v r
theorem lookup_putF (f g:Str) (v:V):∀ fs:List (Str × V),(putF f v fs).lookup g=if g=f then some v else fs.lookup g
  | []=>by
    show List.lookup g [(f,v)]=_
    by_cases h:g=f
    · have hb:(g == f)=true:=beq_iff_eq.mpr h
      simp only [List.lookup,hb,if_pos h]
    · have hb:(g == f)=false:=beq_eq_false_iff_ne.mpr h
      simp only [List.lookup,hb,if_neg h]
  | (k,x) :: r=>by
    have ih:=lookup_putF f g v r
    rw [show putF f v ((k,x) :: r)=(if k=f then (k,v) :: r else (k,x) :: putF f v r) from rfl]
    by_cases hk:k=f
    · rw [if_pos hk]
      by_cases h:g=k
      · have hb:(g == k)=true:=beq_iff_eq.mpr h
        simp only [List.lookup,hb,if_pos (h.trans hk)]
      · have hb:(g == k)=false:=beq_eq_false_iff_ne.mpr h
        simp only [List.lookup,hb,if_neg (fun e:g=f=>h (e.trans hk.symm))]
    · rw [if_neg hk]
      by_cases h:g=k
      · have hb:(g == k)=true:=beq_iff_eq.mpr h
        simp only [List.lookup,hb,if_neg (fun e:g=f=>hk (h.symm.trans e))]
      · have hb:(g == k)=false:=beq_eq_false_iff_ne.mpr h
        simp only [List.lookup,hb]
        exact ih
theorem keys_putF (f:Str) (v:V):∀ fs:List (Str × V),f∈(putF f v fs).map (·.1)∧∀ g,g∈fs.map (·.1)→g∈(putF f v fs).map (·.1)
  | []=>⟨by simp [putF],fun g h=>by simp at h⟩
  | (k,x) :: r=>by
    obtain ⟨i1,i2⟩:=keys_putF f v r
    rw [show putF f v ((k,x) :: r)=(if k=f then (k,v) :: r else (k,x) :: putF f v r) from rfl]
    by_cases hk:k=f
    · rw [if_pos hk]
      subst hk
      exact ⟨by simp,fun g h=>by simpa using h⟩
    · rw [if_neg hk]
      refine ⟨?_,fun g h=>?_⟩
      · rw [List.map_cons]
        exact List.mem_cons_of_mem _ i1
      · rw [List.map_cons] at h ⊢
        rcases List.mem_cons.mp h with e | e
        · exact List.mem_cons.mpr (.inl e)
        · exact List.mem_cons_of_mem _ (i2 g e)
theorem length_putF (f:Str) (v:V):∀ fs:List (Str × V),(putF f v fs).length≤fs.length+1
  | []=>by simp [putF]
  | (k,x) :: r=>by
    have ih:=length_putF f v r
    rw [show putF f v ((k,x) :: r)=(if k=f then (k,v) :: r else (k,x) :: putF f v r) from rfl]
    by_cases hk:k=f
    · rw [if_pos hk,List.length_cons,List.length_cons];omega
    · rw [if_neg hk,List.length_cons,List.length_cons];omega
theorem RelO.some_of {v:V} {o:Option Value} (r:RelO (some v) o):∃ u,o=some u∧RelV v u:=by
  cases o with
  | none=>exact (show False from r).elim
  | some u=>exact ⟨u,rfl,r⟩
theorem RelO.none_of {o:Option Value} (r:RelO none o):o=none:=by
  cases o with
  | none=>rfl
  | some u=>exact (show False from r).elim
theorem handed_of {v:V} {u:Value} (r:RelV v u):PySem.W.handedIn u=true:=by
  cases v with
  | non=>cases (show u=Value.none from r);rfl
  | bl b=>cases (show u=Value.bool b from r);rfl
  | int i=>obtain ⟨t,e⟩:=(show ∃ t,u=Value.int i t from r);cases e;rfl
  | str x=>obtain ⟨t,e⟩:=(show ∃ t,u=Value.str x t from r);cases e;rfl
  | byt b=>obtain ⟨t,e⟩:=(show ∃ t,u=Value.bytes b t from r);cases e;rfl
  | flt b=>obtain ⟨t,e⟩:=(show ∃ t,u=Value.float b t from r);cases e;rfl
  | ref a=>cases (show u=Value.ref a from r);rfl
  | ty n=>cases (show u=Value.type n from r);rfl
section
variable {P:Program} {w:World} {H H':Hp} {h h':Heap} {a C dx:Addr} {fs fs':List (Str × V)}
theorem ins_get (hok:HOk P w H h) (e:H a=some (.ins C dx fs)):∃ mA,ObjM h a dx C mA∧(∀ f,RelO (fs.lookup f) (mA f))∧PySem.Within mA (fs.map (·.1))∧fs.length≤1000∧H dx=some (.own a):=by
  obtain ⟨d,z,ne,ob,mA,n,r,q⟩:=(show ObjOk P w H h a (.ins C dx fs) from hok a _ e)
  exact ⟨mA,⟨ob,n,ne⟩,r,q,z,d⟩
end
structure Cls (K:PySem.W.Frag) (C:Addr):Prop where
  pg:PySem.W.plainGet K C Str.empty=true
  hd:PySem.W.hasDictIn K C=true
  po:PySem.W.plainOver K C=true
  sa:PySem.W.findIn K (.ref C) "__setattr__" = some (some (.builtin "object.__setattr__"))
theorem Cls.get {K:PySem.W.Frag} {C:Addr} (c:Cls K C) (f:Str):PySem.W.plainGet K C f=true:=c.pg
def NoAttr (K:PySem.W.Frag) (C:Addr) (f:Str):Prop:=PySem.W.findIn K (.ref C) f=some none
theorem NoAttr.taker {K:PySem.W.Frag} {C:Addr} {f:Str} (n:NoAttr K C f):PySem.W.takerIn K C f=some none:=by
  unfold PySem.W.takerIn
  rw [show PySem.W.findIn K (.ref C) f=some none from n]
  rfl
structure Meth (K:PySem.W.Frag) (C:Addr) (m:Str) (f:Addr):Prop where
  at_:PySem.W.findIn K (.ref C) m=some (some (.ref f))
  fn:PySem.W.isFn K (.ref f)=true
  kp:PySem.W.keepIn K (.ref f)=true
section
variable {X:Cx} {pins:List (Addr × Obj)} {σ:St} {H:Hp} {s:Shared} {a C dx:Addr} {fs:List (Str × V)} {f:Str} {v:V} {A:Around} {E:Value→Shared→Prop}
theorem getattr_ok {b:Bool} {Q:Value→Shared→Prop} (I:Inv X pins σ H s) (e:H a=some (.ins C dx fs)) (c:Cls X.K C) (n:NoAttr X.K C f) (l:fs.lookup f=some v)
    (h:∀ u s',Inv X pins σ H s'→RelV v u→Q u s'):wpAny (model X.prog X.w) A (getAttr (.ref a) f b) Q E s:=by
  obtain ⟨mA,O,r,_,_,_⟩:=ins_get I.hok e
  obtain ⟨u,hu,ru⟩:=RelO.some_of (v:=v) (o:=mA f) (by rw [← l];exact r f)
  exact get_map I.kIn O (c.get f) c.hd n hu (handed_of ru) (h u _ (I.tok _) ru)
theorem getmeth_ok {m:Str} {g:Addr} {pl:Sem Bool} {Q:Value × List Value→Shared→Prop} (I:Inv X pins σ H s) (e:H a=some (.ins C dx fs)) (c:Cls X.K C) (k:Meth X.K C m g) (l:fs.lookup m=none)
    (h:Q (.ref g,[.ref a]) s):wpAny (model X.prog X.w) A (getMethod (.ref a) m pl) Q E s:=by
  obtain ⟨mA,O,r,_,_,_⟩:=ins_get I.hok e
  have hn:mA m=none:=RelO.none_of (by rw [← l];exact r m)
  exact get_meth I.kIn O (c.get m) k.at_ k.fn hn h
theorem setattr_ok {y:V} {u:Value} {Q:Unit→Shared→Prop} (I:Inv X pins σ H s) (e:H a=some (.ins C dx fs)) (c:Cls X.K C) (n:NoAttr X.K C f) (hl:fs.length < 1000) (ry:RelV y u)
    (h:∀ s',Inv X pins σ (upd H a (.ins C dx (putF f y fs))) s'→Q () s'):wpAny (model X.prog X.w) A (setAttr (.ref a) f u) Q E s:=by
  obtain ⟨mA,O,r,wi,_,ho⟩:=ins_get I.hok e
  have hz:(fs.map (·.1)).length≤sizeLine:=by rw [List.length_map,sizeLine_eq];omega
  refine set_map I.kIn O c.sa c.po n.taker c.hd wi hz fun h' O' sb=>h _ ?_
  have hd:∃ o,h'.get? dx=some o:=let ⟨o,_,_,e',_⟩:=O'.ns;⟨o,e'⟩
  refine I.write (x:=a) (e:=dx) (by rw [e];exact True.intro) (.inr ho) (fun b q hb z=>(sb.2 b hb).trans z) hd ?_
  refine ⟨by rw [upd_ne O.ne];exact ho,?_,O.ne,O'.obj,_,O'.ns,fun g=>?_,fun g hg=>?_⟩
  · have:=length_putF f y fs;omega
  · show RelO ((putF f y fs).lookup g) (if g=f then some u else mA g)
    rw [lookup_putF]
    by_cases q:g=f
    · rw [if_pos q,if_pos q];exact ry
    · rw [if_neg q,if_neg q];exact r g
  · by_cases q:g=f
    · rw [q];exact (keys_putF f y fs).1
    · refine (keys_putF f y fs).2 g (wi g fun z=>hg ?_)
      show (if g=f then some u else mA g)=none
      rw [if_neg q];exact z
theorem Inv.made (I:Inv X pins σ H s):Inv X pins σ (upd (upd H s.heap.objs.size (.own (s.heap.objs.size+1))) (s.heap.objs.size+1) (.ins C s.heap.objs.size []))
    { s with heap:=(s.heap.push PySem.W.emptyDict).push (PySem.W.instObj C s.heap.objs.size) }:=by
  have e1:(s.heap.push PySem.W.emptyDict).get? s.heap.objs.size=some PySem.W.emptyDict:=Heap.get?_push_size s.heap rfl
  have e2:((s.heap.push PySem.W.emptyDict).push (PySem.W.instObj C s.heap.objs.size)).get? (s.heap.objs.size+1)=some (PySem.W.instObj C s.heap.objs.size):=by
    have:=Heap.get?_push_size (s.heap.push PySem.W.emptyDict) (o:=PySem.W.instObj C s.heap.objs.size) rfl
    rwa [Heap.size_push] at this
  have e3:(s.heap.push PySem.W.emptyDict).Ns s.heap.objs.size (fun _=>none):=⟨PySem.W.emptyDict,#[],_,e1,rfl,(fun e he=>absurd he (by simp)),fun _=>rfl⟩
  have I1:=I.laid (a:=s.heap.objs.size) (o:=.own (s.heap.objs.size+1)) (h':=s.heap.push PySem.W.emptyDict) (t':=s.toks) (fun b u q=>Heap.get?_push_of_some _ q) (Nat.le_refl _) ⟨_,e1⟩
  refine I1.laid (a:=s.heap.objs.size+1) (o:=.ins C s.heap.objs.size []) (t':=s.toks) (fun b u q=>Heap.get?_push_of_some _ q) (Nat.le_of_eq (Heap.size_push _ _)) ?_
  have ne:s.heap.objs.size≠s.heap.objs.size+1:=Nat.ne_of_lt (Nat.lt_succ_self _)
  refine ⟨by rw [upd_ne ne,upd_same],Nat.zero_le _,ne,e2,fun _=>none,(Heap.Ns1.of_empty e3).at fun o q=>Heap.get?_push_of_some _ q,fun _=>True.intro,fun y hy=>absurd rfl hy⟩
theorem attr_of {prog:Program} {w:World} {env:Env} {e:Expr} {f:Str} {pos:Pos} {s:Shared} {Q:Value→Shared→Prop} (hb:attributeBase e f env (eval e env)=eval e env)
    (h:wpAny (model prog w) A (eval e env) (fun o s₁=>wpAny (model prog w) A (getAttr o f true) Q E s₁) E s):wpAny (model prog w) A (eval (.Attribute e f pos) env) Q E s:=
  Attribute_any_ h (by rw [arm_eval_Attribute,hb])
end
def tFld (K:PySem.W.Frag) (ta:TE) (f:Str):TE:=fun σ H Q=>ta σ H fun x H1=>∃ a C dx fs v,x=.ref a∧H1 a=some (.ins C dx fs)∧Cls K C∧NoAttr K C f∧fs.lookup f=some v∧Q v H1
def sFld (K:PySem.W.Frag) (ta tv:TE) (f:Str):TS:=fun D σ H=>tv σ H fun y H1=>ta σ H1 fun x H2=>∃ a C dx fs,x=.ref a∧H2 a=some (.ins C dx fs)∧Cls K C∧NoAttr K C f∧fs.length < 1000 ∧
  D.nx σ (upd H2 a (.ins C dx (putF f y fs)))
section
variable {X:Cx} {o e value:Expr} {f:Str} {pos pos' tpos:Pos} {ta tv:TE}
theorem pe_fld (he:PE X e ta) (hb:attributeBase e f X.env (eval e X.env)=eval e X.env):PE X (.Attribute e f pos) (tFld X.K ta f):=by
  intro pins s σ H Q I h
  refine attr_of hb (thn (he pins s σ H _ I h) fun u s1 ⟨x,H1,I1,rx,a,C,dx,fs,v,ex,ea,c,n,l,q⟩=>?_)
  subst ex
  obtain rfl:u=Value.ref a:=rx
  exact getattr_ok I1 ea c n l fun u' s2 I2 ru=>⟨v,H1,I2,ru,q⟩
theorem ps_fld (ha:PE X o ta) (hv:PE X value tv) (hs:swapsWith value (some (.Attribute o f pos')) pos.line X.env=pure false):PS X (.Assign [.Attribute o f pos'] value pos) (sFld X.K ta tv f):=by
  intro pins s σ H D I h
  refine plainObj_wpAny_Assign_Attribute (thn (hv pins s σ H _ I h) fun u s1 ⟨y,H1,I1,ry,q⟩=>thn (ha pins s1 σ H1 _ I1 q) fun ov s2 ⟨x,H2,I2,rx,a,C,dx,fs,ex,ea,c,n,l,q2⟩=>?_) hs
  subst ex
  obtain rfl:ov=Value.ref a:=rx
  exact setattr_ok I2 ea c n l ry fun s3 I3=>⟨σ,_,I3,q2⟩
end
section
variable {X:Cx} {pins:List (Addr × Obj)} {σ:St} {H:Hp} {s:Shared} {A:Around} {E:Value→Shared→Prop} {Q:Value→Shared→Prop} {c:Value} {b:Bool}
inductive TyOf (K:PySem.W.Frag) (H:Hp):V→Value→Prop where
  | non:TyOf K H .non (.type "NoneType")
  | bl (x:Bool):TyOf K H (.bl x) (.type "bool")
  | int (i:Int):TyOf K H (.int i) (.type "int")
  | str (x:Str):TyOf K H (.str x) (.type "str")
  | flt (x:UInt64):TyOf K H (.flt x) (.type "float")
  | lst {a:Addr} {xs:List V} (e:H a=some (.lst xs)):TyOf K H (.ref a) (.type "list")
  | frz {a:Addr} {o:Obj} {xs:List V} (e:H a=some (.frz o (.lst xs))):TyOf K H (.ref a) (.type "list")
  | tup {a:Addr} {xs:List V} (e:H a=some (.tup xs)):TyOf K H (.ref a) (.type "tuple")
  | dK {a:Addr} {kvs:List (Key × V)} (e:H a=some (.dK kvs)):TyOf K H (.ref a) (.type "dict")
  | dT {a:Addr} {kvs:List (List Key × V)} (e:H a=some (.dT kvs)):TyOf K H (.ref a) (.type "dict")
  | ins {a C dx:Addr} {fs:List (Str × V)} (e:H a=some (.ins C dx fs)) (cl:Cls K C) (ha:PySem.W.findIn K (.ref C) "__class__" = some (some (.builtin "object.__class__")))
      (hn:PySem.W.specialIn K (.builtin "object.__class__") "__get__" = some (some (.builtin "getset_descriptor.__get__"))) (htk:PySem.W.takesIn K (.builtin "object.__class__")=some true)
      (hm:PySem.W.mroIn K C (.type "object")=some true):TyOf K H (.ref a) (.ref C)
theorem isinst_ok {x:V} {u t:Value} (I:Inv X pins σ H s) (rx:RelV x u) (ty:TyOf X.K H x t) (e:PySem.W.kitOne X.K t c=some b) (h:∀ tk,Q (.bool b) { s with toks:=tk }) :
    wpAny (model X.prog X.w) A (call (.builtin "isinstance") [u,c]) Q E s:=by
  cases ty with
  | non=>cases (show u=Value.none from rx);exact PySem.W.kia_one PySem.W.kitx_none I.kIn True.intro e (fun z=>nomatch z) h
  | bl y=>cases (show u=Value.bool y from rx);exact PySem.W.kia_one PySem.W.kitx_bool I.kIn True.intro e (fun z=>nomatch z) h
  | int i=>obtain ⟨t,q⟩:=(show ∃ t,u=Value.int i t from rx);cases q;exact PySem.W.kia_one PySem.W.kitx_int I.kIn True.intro e (fun z=>nomatch z) h
  | str y=>obtain ⟨t,q⟩:=(show ∃ t,u=Value.str y t from rx);cases q;exact PySem.W.kia_one PySem.W.kitx_str I.kIn True.intro e (fun z=>nomatch z) h
  | flt y=>obtain ⟨t,q⟩:=(show ∃ t,u=Value.float y t from rx);cases q;exact PySem.W.kia_one PySem.W.kitx_float I.kIn True.intro e (fun z=>nomatch z) h
  | @lst a xs ea=>
    cases (show u=Value.ref a from rx)
    obtain ⟨_,_,n,_,h1⟩:=(show ObjOk X.prog X.w H s.heap a (.lst xs) from I.hok a _ ea)
    exact PySem.W.kia_one PySem.W.kitx_list I.kIn ⟨_,h1,rfl⟩ e (fun z=>nomatch z) h
  | @frz a ob xs ea=>
    cases (show u=Value.ref a from rx)
    obtain ⟨_,_,_,n,_,h1⟩:=(show ObjOk X.prog X.w H s.heap a (.frz ob (.lst xs)) from I.hok a _ ea)
    exact PySem.W.kia_one PySem.W.kitx_list I.kIn ⟨_,h1,rfl⟩ e (fun z=>nomatch z) h
  | @tup a xs ea=>
    cases (show u=Value.ref a from rx)
    obtain ⟨_,_,_,p⟩:=(show ObjOk X.prog X.w H s.heap a (.tup xs) from I.hok a _ ea)
    obtain ⟨o,h1,h2,_⟩:=p
    exact PySem.W.kia_one PySem.W.kitx_tuple I.kIn ⟨o,h1,h2⟩ e (fun z=>nomatch z) h
  | @dK a kvs ea=>
    cases (show u=Value.ref a from rx)
    obtain ⟨_,_,vs,_,p⟩:=(show ObjOk X.prog X.w H s.heap a (.dK kvs) from I.hok a _ ea)
    obtain ⟨o,es,ep,h1,h2,_⟩:=p
    exact PySem.W.kia_one PySem.W.kitx_dict I.kIn ⟨o,h1,h2.1⟩ e (fun z=>nomatch z) h
  | @dT a kvs ea=>
    cases (show u=Value.ref a from rx)
    obtain ⟨_,_,xs,_,o,es,ep,h1,h2,_⟩:=(show ObjOk X.prog X.w H s.heap a (.dT kvs) from I.hok a _ ea)
    exact PySem.W.kia_one PySem.W.kitx_dict I.kIn ⟨o,h1,h2.1⟩ e (fun z=>nomatch z) h
  | @ins a C dx fs ea cl ha hn htk hm=>
    cases (show u=Value.ref a from rx)
    obtain ⟨mA,O,_⟩:=ins_get I.hok ea
    obtain ⟨od,J,_⟩:=O.look
    exact PySem.W.kia_one (PySem.W.kitx_own (cl.get _) cl.hd ha hn htk hm) I.kIn J e (fun z=>nomatch z) h
end
end L2
namespace L2
open PySem PySem.Spec PyProof.Rows
structure Room (k:Nat) (A:Around):Prop where
  hd:A.handled=none
  dp:A.depth+3 * k+5 < recursionLimit
  un:A.units+16 * k+200 < cLine
  gd:A.guards=some []
theorem Room.mono {j k:Nat} {A:Around} (r:Room k A) (h:j≤k):Room j A:=⟨r.hd,by have:=r.dp;omega,by have:=r.un;omega,by first | exact r.gd | (simpa [Around.under,Code.isGuard,guardIds] using r.gd)⟩
theorem Room.deeper {k:Nat} {A:Around} (r:Room (k+1) A) (env:Env):Room k (A.deeper env):=
  ⟨r.hd,by have:=r.dp;show A.depth+1+3 * k+5 < _;omega,by have:=r.un;show A.units+3+16 * k+200 < _;omega,by first | exact r.gd | (simpa [Around.under,Code.isGuard,guardIds] using r.gd)⟩
theorem make_depth {A:Around} {C:Addr} {us:List Value} {kw:List (Str × Value)}:(A.under (.builtin "type.__call__" ⟨.ref C :: us,kw⟩)).depth=A.depth+1:=by
  first | rfl | simp [Around.under,Code.weight,Code.isCreation,Code.isGuard,Code.isCaller,Code.frames,Code.isFrame,guardIds]
theorem make_units {A:Around} {C:Addr} {us:List Value} {kw:List (Str × Value)}:(A.under (.builtin "type.__call__" ⟨.ref C :: us,kw⟩)).units=A.units+1:=by
  first | rfl | simp [Around.under,Code.cUnits,Code.frames,Code.isFrame]
theorem Room.make {k:Nat} {A:Around} (r:Room (k+1) A) (C:Addr) (us:List Value) (kw:List (Str × Value)):Room k (A.under (.builtin "type.__call__" ⟨.ref C :: us,kw⟩)):=
  ⟨r.hd,by have:=r.dp;rw [make_depth];omega,by have:=r.un;rw [make_units];omega,by first | exact r.gd | (simpa [Around.under,Code.isGuard,guardIds] using r.gd)⟩
theorem Room.depth {k:Nat} {A:Around} (r:Room k A):A.depth < recursionLimit:=by have:=r.dp;omega
theorem Room.units {k:Nat} {A:Around} (r:Room k A):A.units+64 < cLine:=by have:=r.un;omega
theorem Room.units0 {k:Nat} {A:Around} (r:Room k A):A.units < cLine:=by have:=r.un;omega
def tNil:TA:=fun _ H Q=>Q [] H
def tCons (ta:TE) (tr:TA):TA:=fun σ H Q=>ta σ H fun x H1=>tr σ H1 fun xs H2=>Q (x :: xs) H2
section
variable {X:Cx} {e:Expr} {es:List Expr} {te:TE} {t:TA} {pos:Pos}
theorem pa_nil:PA X [] tNil:=fun _ _ _ _ H Q I h=>Calls.spliced_nil ⟨[],H,I,.nil,h⟩
theorem pa_cons (ha:PE X e te) (hr:PA X es t) (hs:starEach (e :: es) X.env=(false,eval e X.env) :: starEach es X.env:=by rfl):PA X (e :: es) (tCons te t):=by
  intro pos pins s σ H Q I h
  rw [hs]
  show wpAny _ _ (spliced ((false,eval e X.env) :: backTo pos (starEach es X.env))) _ _ s
  refine Calls.spliced_cons (thn (ha pins s σ H _ I h) fun u s1 ⟨x,H1,I1,r1,q1⟩=>?_)
  exact thn (hr pos pins s1 σ H1 _ I1 q1) fun us s2 ⟨xs,H2,I2,r2,q2⟩=>⟨x :: xs,H2,I2,.cons r1 r2,q2⟩
def tTup (t:TA):TE:=fun σ H Q=>t σ H fun xs H1=>xs.length≤sizeLine∧∀ p,H1 p=none→Q (.ref p) (upd H1 p (.tup xs))
def tLst (t:TA):TE:=fun σ H Q=>t σ H fun xs H1=>xs.length≤sizeLine∧∀ p,H1 p=none→Q (.ref p) (upd H1 p (.lst xs))
theorem pe_tup {x1} (h:PA X es t):PE X (.Tuple es x1 pos) (tTup t):=by
  intro pins s σ H Q I hq
  refine wpAny_Tuple_spliced (thn (h pos pins s σ H _ I hq) fun us s1 ⟨xs,H1,I1,r,z,q⟩=>⟨by rw [← r.length];exact z,?_⟩)
  have hf:H1 s1.heap.objs.size=none:=I1.hok.fresh (Nat.le_refl _)
  refine ⟨.ref s1.heap.objs.size,upd H1 s1.heap.objs.size (.tup xs),I1.laid (t':=s1.toks) (fun b u e=>Heap.get?_push_of_some _ e) (Nat.le_refl _) ?_,rfl,q _ hf⟩
  exact ⟨⟨z,_,Heap.get?_push_size _ rfl,rfl⟩,us,r,⟨_,Heap.get?_push_size _ rfl,rfl,_,rfl⟩⟩
theorem pe_lst (h:PA X es t):PE X (.List es pos) (tLst t):=by
  intro pins s σ H Q I hq
  refine wpAny_List_spliced (thn (h pos pins s σ H _ I hq) fun us s1 ⟨xs,H1,I1,r,z,q⟩=>⟨by rw [← r.length];exact z,?_⟩)
  have hf:H1 s1.heap.objs.size=none:=I1.hok.fresh (Nat.le_refl _)
  refine ⟨.ref s1.heap.objs.size,upd H1 s1.heap.objs.size (.lst xs),I1.laid (t':=s1.toks) (fun b u e=>Heap.get?_push_of_some _ e) (Nat.le_refl _) ?_,rfl,q _ hf⟩
  exact ⟨z,us,0,r,Heap.get?_push_size _ rfl⟩
end
abbrev Sp:=List V→Hp→VK→XK→Prop
abbrev CXT:=List Env→Hp→Shared→XK→Value→Shared→Prop
structure Env0 (P:Program) (w:World) (K:PySem.W.Frag) (mg:Str→Option Value) (base:Heap) (A:Around) (outer:List Env) (s:Shared) (H:Hp):Prop where
  frames:A.frames=some outer
  mod:Mod K mg base
  bs:∀ b o,base.get? b=some o→s.heap.get? b=some o∧H b=none
  bsz:base.objs.size≤s.heap.objs.size
  funs:s.heap.FunFrames base outer
  frf:∀ b∈frs outer,H b=none
  hok:HOk P w H s.heap
  bare:AllBare s.gens
def CE (outer:List Env) (P:Program) (w:World) (H:Hp) (s:Shared) (Q:VK) (u:Value) (s':Shared):Prop:=
  ∃ v H',s'.os=s.os∧AllBare s'.gens∧Un (frs outer) [] H H' s.heap s'.heap∧HOk P w H' s'.heap∧RelV v u∧Q v H'
def CR (CX:CXT) (outer:List Env) (P:Program) (w:World) (H:Hp) (s:Shared) (Q:VK) (E:XK) (r:Result) (s':Shared):Prop:=
  match r with
  | .ok (.ret u)=>CE outer P w H s Q u s'
  | .ok _=>False
  | .error e=>CX outer H s E e s'
structure FnOk (P:Program) (w:World) (K:PySem.W.Frag) (mg:Str→Option Value) (base:Heap) (CX:CXT) (k:Nat) (f:Addr) (fd:FuncData) (ps:List Str) (sp:Sp):Prop where
  len:∀ vs H Q E,sp vs H Q E→vs.length=ps.length
  run:∀ (A:Around) (outer:List Env) (s:Shared) (H:Hp) (args:Args) (us:List Value) (vs:List V) (Q:VK) (E:XK),Room k A→Env0 P w K mg base A outer s H→BindsTo s fd args (ps.zip us)→Vals vs us→sp vs H Q E →
    codeAny (model P w) A (.call (.ref f) args) (CR CX outer P w H s Q E) s
theorem FnOk.mono {P:Program} {w:World} {K:PySem.W.Frag} {mg:Str→Option Value} {base:Heap} {CX:CXT} {j k:Nat} {f:Addr} {fd:FuncData} {ps:List Str} {sp:Sp} (F:FnOk P w K mg base CX j f fd ps sp) (h:j≤k) :
    FnOk P w K mg base CX k f fd ps sp:=⟨F.len,fun A outer s H args us vs Q E hr=>F.run A outer s H args us vs Q E (hr.mono h)⟩
theorem Env0.make {P:Program} {w:World} {K:PySem.W.Frag} {mg:Str→Option Value} {base:Heap} {A:Around} {outer:List Env} {s:Shared} {H:Hp} (e:Env0 P w K mg base A outer s H) (C:Addr) (us:List Value) (kw:List (Str × Value)) :
    Env0 P w K mg base (A.under (.builtin "type.__call__" ⟨.ref C :: us,kw⟩)) outer s H:=⟨by first | exact e.frames | (simpa [Around.under,Code.envs,Code.isFrame,pushEnvs] using e.frames),e.mod,e.bs,e.bsz,e.funs,e.frf,e.hok,e.bare⟩
section
variable {X:Cx} {pins:List (Addr × Obj)} {σ:St} {H:Hp} {s s':Shared}
theorem Inv.env0 (I:Inv X pins σ H s):Env0 X.prog X.w X.K X.mg X.base X.A X.stack s H:=
  ⟨I.ok.frames,I.ok.mod,I.bs,Nat.le_trans I.ok.bsz I.sz,I.stack,I.stkFree,I.hok,I.bare⟩
theorem Inv.after {Q:VK} {u:Value} (I:Inv X pins σ H s) (h:CE X.stack X.prog X.w H s Q u s'):EP X pins σ Q u s':=by
  obtain ⟨v,H',os,bare,un,hok,r,q⟩:=h
  obtain ⟨hh,g,d,t,os'⟩:=s'
  obtain rfl:os'=s.os:=os
  exact ⟨v,H',I.call (h':=hh) (g':=g) (d':=d) (t':=t) (ch:=[]) un hok bare (fun b z=>absurd z (by simp)),r,q⟩
end
def tCall (sp:Sp) (dvs:List V) (E:XK) (t:TA):TE:=fun σ H Q=>t σ H fun vs H1=>sp (vs++dvs) H1 Q E
def tMeth (C:Addr) (m:Str) (sp:Sp) (dvs:List V) (E:XK) (ta:TE) (t:TA):TE:=fun σ H Q=>ta σ H fun x H1=>∃ a dx fs,x=.ref a∧H1 a=some (.ins C dx fs)∧fs.lookup m=none ∧
  t σ H1 fun vs H2=>sp (x :: (vs++dvs)) H2 Q E
def tMake (C:Addr) (sp:Sp) (dvs:List V) (E:XK) (t:TA):TE:=fun σ H Q=>t σ H fun vs H1=>∀ x dx,H1 x=none→H1 dx=none→dx≠x →
  sp (.ref x :: (vs++dvs)) (upd (upd H1 dx (.own x)) x (.ins C dx [])) (fun v H2=>v=.non∧Q (.ref x) H2) E
def Binds (K:PySem.W.Frag) (fd:FuncData) (ps:List Str) (ds:List Value):Prop:=
  ∀ (s:Shared) (us:List Value),K.In s.heap→(us++ds).length=ps.length→BindsTo s fd ⟨us,[]⟩ (ps.zip (us++ds))
theorem Binds.all {K:PySem.W.Frag} {fd:FuncData} {ps:List Str} (h:∀ us:List Value,us.length=ps.length→bindArgs fd ⟨us,[]⟩=pure (ps.zip us)):Binds K fd ps []:=fun s us _ hl=>by
  rw [List.append_nil] at hl ⊢
  exact .of_eq (h us hl)
def Passes (CX:CXT) (X:Cx) (E:XK):Prop:=∀ (pins:List (Addr × Obj)) (σ:St) (H:Hp) (s:Shared) (e:Value) (s':Shared),Inv X pins σ H s→CX X.stack H s E e s'→X.xe e s'
section
variable {X:Cx} {CX:CXT} {k:Nat} {f C:Addr} {fd:FuncData} {ps:List Str} {sp:Sp} {dvs:List V} {ds:List Value} {E:XK} {x m:Str} {p pos apos:Pos} {e o:Expr} {es:List Expr} {ta:TE} {t:TA}
theorem run_fn {pins:List (Addr × Obj)} {σ:St} {H:Hp} {s:Shared} {Q:VK} {us:List Value} {vs:List V} (F:FnOk X.prog X.w X.K X.mg X.base CX k f fd ps sp) (hr:Room k X.A) (hb:Binds X.K fd ps ds) (hd:Vals dvs ds) (hx:Passes CX X E)
    (I:Inv X pins σ H s) (r:Vals vs us) (h:sp (vs++dvs) H Q E):wpAny (model X.prog X.w) X.A (call (.ref f) us) (EP X pins σ Q) X.xe s:=by
  have r2:Vals (vs++dvs) (us++ds):=r.append hd
  have hl:(us++ds).length=ps.length:=by rw [← r2.length];exact F.len _ _ _ _ h
  refine wpAny_call (codeAny_mono (F.run X.A X.stack s H ⟨us,[]⟩ (us++ds) (vs++dvs) Q E hr I.env0 (hb s us I.kIn hl) r2 h) fun r s' hq=>?_)
  cases r with
  | error e=>exact hx pins σ H s e s' I hq
  | ok fl=>
    cases fl with
    | ret u=>exact I.after hq
    | next=>exact False.elim hq
    | brk=>exact False.elim hq
    | cont=>exact False.elim hq
theorem pe_call (F:FnOk X.prog X.w X.K X.mg X.base CX k f fd ps sp) (hr:Room k X.A) (hg:Gl X x) (hm:X.mg x=some (.ref f)) (hk:PySem.W.keepIn X.K (.ref f)=true) (hb:Binds X.K fd ps ds) (hd:Vals dvs ds) (hx:Passes CX X E)
    (ha:PA X (e :: es) t) (hdb:(x == ("__debug__" : Str))=false:=by decide) (he:starEach (e :: es) X.env=(false,eval e X.env) :: starEach es X.env:=by rfl) (hpl:(backTo pos (starEach es X.env)).any (·.1)=false:=by rfl) :
    PE X (.Call (.Name x p) (e :: es) [] pos) (tCall sp dvs E t):=by
  intro pins s σ H Q I h
  refine wpAny_Call_Name_kw (ld_glob I hg hm ?_ hdb)
  refine PySem.W.callWith_K (h₀:=X.base) I.ok.mod.kin hk (thn (ha pos pins s σ H _ I h) fun us s1 ⟨vs,H1,I1,r,q⟩=>⟨I1.kIn,?_⟩) he hpl
  exact run_fn F hr hb hd hx I1 r q
theorem pe_meth {pl:Sem Bool} (he:PE X o ta) (c:Cls X.K C) (hm:Meth X.K C m f) (F:FnOk X.prog X.w X.K X.mg X.base CX k f fd ps sp) (hr:Room k X.A) (hb:Binds X.K fd ps ds) (hd:Vals dvs ds) (hx:Passes CX X E) (ha:PA X (e :: es) t)
    (hst:starEach (e :: es) X.env=(false,eval e X.env) :: starEach es X.env:=by rfl) (hpl:(backTo pos (starEach es X.env)).any (·.1)=false:=by rfl)
    (ht:eval (.Call (.Attribute o m apos) (e :: es) [] pos) X.env=(do
      let ov ← eval o X.env
      standAt apos.atName
      let (f,first) ← holding [ov] (getMethod ov m pl)
      callWith pos f first (backTo pos (starEach (e :: es) X.env)) (backToKw pos (keywordEach [] X.env))):=by rfl) :
    PE X (.Call (.Attribute o m apos) (e :: es) [] pos) (tMeth C m sp dvs E ta t):=by
  intro pins s σ H Q I h
  refine PySem.W.methodCall_KW (pl:=pl) (thn (he pins s σ H _ I h) fun u s1 ⟨x,H1,I1,rx,a,dx,fs,ex,ea,l,q⟩=>?_) ht
  subst ex
  obtain rfl:u=Value.ref a:=rx
  refine getmeth_ok I1 ea c hm l ?_
  refine PySem.W.callWith_K (first:=[.ref a]) (h₀:=X.base) I.ok.mod.kin hm.kp (thn (ha pos pins s1 σ H1 _ I1 q) fun us s2 ⟨vs,H2,I2,r,q2⟩=>⟨I2.kIn,?_⟩) hst hpl
  exact run_fn (us:=.ref a :: us) (vs:=.ref a :: vs) F hr hb hd hx I2 (.cons rfl r) q2
theorem pe_meth0 {pl:Sem Bool} (he:PE X o ta) (c:Cls X.K C) (hm:Meth X.K C m f) (F:FnOk X.prog X.w X.K X.mg X.base CX k f fd ps sp) (hr:Room k X.A) (hb:Binds X.K fd ps ds) (hd:Vals dvs ds) (hx:Passes CX X E)
    (ht:eval (.Call (.Attribute o m apos) [] [] pos) X.env=(do
      let ov ← eval o X.env
      standAt apos.atName
      let (f,first) ← holding [ov] (getMethod ov m pl)
      callWith pos f first (backTo pos (starEach [] X.env)) (backToKw pos (keywordEach [] X.env))):=by rfl) :
    PE X (.Call (.Attribute o m apos) [] [] pos) (tMeth C m sp dvs E ta tNil):=by
  intro pins s σ H Q I h
  refine PySem.W.methodCall_KW (pl:=pl) (thn (he pins s σ H _ I h) fun u s1 ⟨x,H1,I1,rx,a,dx,fs,ex,ea,l,q⟩=>?_) ht
  subst ex
  obtain rfl:u=Value.ref a:=rx
  refine getmeth_ok I1 ea c hm l ?_
  exact PySem.W.callWith_K0 (first:=[.ref a]) I1.kIn hm.kp (run_fn (us:=[.ref a]) (vs:=[.ref a]) F hr hb hd hx I1 (.cons rfl .nil) q)
structure Mk (K:PySem.W.Frag) (C f:Addr):Prop where
  makes:PySem.W.makesIn K C=true
  init:PySem.W.findIn K (.ref C) "__init__" = some (some (.ref f))
  fn:PySem.W.isFn K (.ref f)=true
  kp:PySem.W.keepIn K (.ref C)=true
theorem run_make {pins:List (Addr × Obj)} {σ:St} {H:Hp} {s:Shared} {Q:VK} {us:List Value} {vs:List V} (M:Mk X.K C f) (F:FnOk X.prog X.w X.K X.mg X.base CX k f fd ps sp) (hr:Room (k+1) X.A) (hb:Binds X.K fd ps ds) (hd:Vals dvs ds)
    (hx:Passes CX X E) (I:Inv X pins σ H s) (r:Vals vs us)
    (h:∀ x dx,H x=none→H dx=none→dx≠x→sp (.ref x :: (vs++dvs)) (upd (upd H dx (.own x)) x (.ins C dx [])) (fun v H2=>v=.non∧Q (.ref x) H2) E) :
    wpAny (model X.prog X.w) X.A (call (.ref C) us) (EP X pins σ Q) X.xe s:=by
  have hq:=h (s.heap.objs.size+1) s.heap.objs.size (I.hok.fresh (Nat.le_succ _)) (I.hok.fresh (Nat.le_refl _)) (Nat.ne_of_lt (Nat.lt_succ_self _))
  have I2:=Inv.made (C:=C) I
  have r2:Vals (V.ref (s.heap.objs.size+1) :: (vs++dvs)) (Value.ref (s.heap.objs.size+1) :: (us++ds)):=.cons rfl (r.append hd)
  have hl:(Value.ref (s.heap.objs.size+1) :: us++ds).length=ps.length:=by
    have e:=r2.length
    rw [F.len _ _ _ _ hq] at e
    exact e.symm
  refine wpAny_call (make_map (f:=f) I.kIn M.makes M.init (beq_iff_eq.mp M.fn) (codeAny_mono (F.run _ X.stack _ _ ⟨Value.ref (s.heap.objs.size+1) :: us,[]⟩ (Value.ref (s.heap.objs.size+1) :: (us++ds)) _ _ E (hr.make C us [])
    (I2.env0.make C us []) (hb _ (Value.ref (s.heap.objs.size+1) :: us) I2.kIn hl) r2 hq) fun r s' hq'=>?_))
  cases r with
  | error e=>exact hx pins σ _ _ e s' I2 hq'
  | ok fl=>
    cases fl with
    | ret u=>
      obtain ⟨v,H',I3,rv,ev,q3⟩:=I2.after hq'
      subst ev
      exact ⟨rv,⟨V.ref (s.heap.objs.size+1),H',I3,rfl,q3⟩⟩
    | next=>exact False.elim hq'
    | brk=>exact False.elim hq'
    | cont=>exact False.elim hq'
theorem pe_make0 (M:Mk X.K C f) (F:FnOk X.prog X.w X.K X.mg X.base CX k f fd ps sp) (hr:Room (k+1) X.A) (hg:Gl X x) (hm:X.mg x=some (.ref C)) (hb:Binds X.K fd ps ds) (hd:Vals dvs ds) (hx:Passes CX X E)
    (hdb:(x == ("__debug__" : Str))=false:=by decide):PE X (.Call (.Name x p) [] [] pos) (tMake C sp dvs E tNil):=by
  intro pins s σ H Q I h
  refine wpAny_Call_Name_kw (ld_glob I hg hm ?_ hdb)
  exact PySem.W.callWith_K0 I.kIn M.kp (run_make (us:=[]) M F hr hb hd hx I .nil h)
end
section
variable {X:Cx} {CX:CXT} {k:Nat} {f C:Addr} {fd:FuncData} {ps ks:List Str} {sp:Sp} {E:XK} {x m:Str} {p pos apos kpos:Pos} {e o:Expr} {es:List Expr} {kws:List Keyword} {te ta:TE} {t tk:TA} {nm:Option Str}
variable {g:List Value→List Value→List Value} {gV:List V→List V→List V}
end
structure FnScope (N P:List Str) (sc:Scope):Prop where
  kind:sc.kind=.function
  co:sc.isCoroutine=false
  gen:sc.isGenerator=false
  nd:N.Nodup
  pre:N.take P.length=P
  par:∀ x∈P,sc.names.lookup x=some .local∨sc.names.lookup x=some .cell
  nofree:∀ y∈sc.names,y.2≠.free
theorem bindL_out {kindOf:Str→Option NameKind} {x:Str}:∀ {binds:List (Str × Value)} {m:Str→Option Value},(∀ v,(x,v) ∉ binds)→bindL kindOf binds m x=m x
  | [],_,_=>rfl
  | (n,v) :: r,m,h=>by
    unfold bindL
    rw [bindL_out fun w hw=>h w (List.mem_cons_of_mem _ hw)]
    split
    · have:x≠n:=by rintro rfl;exact h v List.mem_cons_self
      simp [this]
    · rfl
theorem bindC_out {kindOf:Str→Option NameKind} {x:Str}:∀ {binds:List (Str × Value)} {m:Str→Option Value},(∀ v,(x,v) ∉ binds)→bindC kindOf binds m x=m x
  | [],_,_=>rfl
  | (n,v) :: r,m,h=>by
    unfold bindC
    rw [bindC_out fun w hw=>h w (List.mem_cons_of_mem _ hw)]
    split
    · rfl
    · have:x≠n:=by rintro rfl;exact h v List.mem_cons_self
      simp [this]
theorem bindL_get {kindOf:Str→Option NameKind} {x:Str} {v:Value}:∀ {P:List Str} {vs:List Value} {i:Nat} {m:Str→Option Value},P.Nodup→P[i]?=some x→vs[i]?=some v→kindOf x=some .local →
    bindL kindOf (P.zip vs) m x=some v
  | [],_,_,_,_,h,_,_=>by simp at h
  | _ :: _,[],_,_,_,_,h,_=>by simp at h
  | p :: P,w :: vs,0,m,nd,h1,h2,hk=>by
    simp at h1 h2;subst h1;subst h2
    show bindL kindOf ((p,w) :: P.zip vs) m p=_
    unfold bindL
    rw [bindL_out fun v hv=>(List.nodup_cons.mp nd).1 (List.of_mem_zip hv).1,if_pos hk]
    simp
  | p :: P,w :: vs,i+1,m,nd,h1,h2,hk=>by
    show bindL kindOf ((p,w) :: P.zip vs) m x=_
    unfold bindL
    exact bindL_get (i:=i) (List.nodup_cons.mp nd).2 (by simpa using h1) (by simpa using h2) hk
theorem bindC_get {kindOf:Str→Option NameKind} {x:Str} {v:Value}:∀ {P:List Str} {vs:List Value} {i:Nat} {m:Str→Option Value},P.Nodup→P[i]?=some x→vs[i]?=some v→kindOf x≠some .local →
    bindC kindOf (P.zip vs) m x=some v
  | [],_,_,_,_,h,_,_=>by simp at h
  | _ :: _,[],_,_,_,_,h,_=>by simp at h
  | p :: P,w :: vs,0,m,nd,h1,h2,hk=>by
    simp at h1 h2;subst h1;subst h2
    show bindC kindOf ((p,w) :: P.zip vs) m p=_
    unfold bindC
    rw [bindC_out fun v hv=>(List.nodup_cons.mp nd).1 (List.of_mem_zip hv).1,if_neg hk]
    simp
  | p :: P,w :: vs,i+1,m,nd,h1,h2,hk=>by
    show bindC kindOf ((p,w) :: P.zip vs) m x=_
    unfold bindC
    exact bindC_get (i:=i) (List.nodup_cons.mp nd).2 (by simpa using h1) (by simpa using h2) hk
def start (N:List Str) (vs:List V):St:=vs.map some++List.replicate (N.length - vs.length) none
def cxOf (CX:CXT) (P:Program) (w:World) (K:PySem.W.Frag) (mg:Str→Option Value) (base:Heap) (N:List Str) (qual:Str) (scope:Scope) (f:Addr) (cd:Value) (A:Around) (outer:List Env) (s:Shared) (H:Hp) (E:XK):Cx where
  prog:=P
  w:=w
  K:=K
  mg:=mg
  base:=base
  A:=A.deeper (envOfC qual scope s.heap.objs.size f cd)
  N:=N
  s₀:=s
  H₀:=H
  env:=envOfC qual scope s.heap.objs.size f cd
  outer:=outer
  stack:=envOfC qual scope s.heap.objs.size f cd :: outer
  ex:=[]
  calm:=true
  fn:=fun _=>true
  pn:=[]
  xe:=fun e s'=>wpAny (model P w) (A.deeper (envOfC qual scope s.heap.objs.size f cd)) (leaving (envOfC qual scope s.heap.objs.size f cd) e) (fun _ s''=>CX outer H s E e s'') (fun e' s''=>CX outer H s E e' s'') s'
theorem cell_has {sc:Scope} {n:Nat} {x:Str} (h:sc.names.lookup x=some .cell):∃ c,(cellsFrom n sc.names []).lookup x=some c:=by
  have q:=PySem.W.cellsFrom_some sc.names n [] (.inl h)
  exact Option.isSome_iff_exists.mp q
theorem inv_start {CX:CXT} {P:Program} {w:World} {K:PySem.W.Frag} {mg:Str→Option Value} {base:Heap} {N ps:List Str} {qual:Str} {scope:Scope} {f:Addr} {cd:Value} {A:Around} {outer:List Env} {s s1:Shared} {H:Hp} {E:XK} {us:List Value} {vs:List V}
    (S:FnScope N ps scope) (hd:A.handled=none) (e0:Env0 P w K mg base A outer s H) (hl:vs.length=ps.length) (r:Vals vs us)
    (x:InCallC s s.heap.objs.size (bindL (envOfC qual scope s.heap.objs.size f cd).kindOf (ps.zip us) fun _=>none) (cellsFrom (s.heap.objs.size+1) scope.names []) (bindC (envOfC qual scope s.heap.objs.size f cd).kindOf (ps.zip us) fun _=>none) s1) :
    Inv (cxOf CX P w K mg base N qual scope f cd A outer s H E) [] (start N vs) H s1:=by
  have hpl:ps.length≤N.length:=by have:=congrArg List.length S.pre;rw [List.length_take] at this;omega
  obtain ⟨h1,tk,rfl,hk⟩:=x.done
  have noA:∀ b:Addr,b ∉ (cxOf CX P w K mg base N qual scope f cd A outer s H E).ex:=fun b z=>absurd (show b∈([]:List Addr) from z) (by simp)
  refine ⟨⟨e0.mod,S.kind,rfl,rfl,Nat.le_refl _,fun y z c h1 h2=>?_,fun y hy=>?_,fun y c _ h=>?_,fun _=>hd,Around.frames_deeper e0.frames,.inr ⟨rfl,rfl⟩,fun b z=>absurd z (noA b),e0.bs,e0.bsz,fun b _ _=>noA b,fun b z=>absurd z (noA b),e0.funs,e0.frf⟩,
    rfl,e0.bare,Un.kept hk,⟨_,x.toInCall.ns,fun i y v h1 h2 h3=>?_⟩,fun y c h=>⟨_,x.cell y c h⟩,e0.hok.fresh (Nat.le_refl _),fun y c h=>?_,fun p hp=>absurd (show p∈([]:List (Addr × Obj)) from hp) (by simp),e0.hok.kept hk,?_⟩
  · exact name_of_addr x.apart (PySem.mem_of_lookup h1) (PySem.mem_of_lookup h2)
  · have hy:scope.names.lookup y=some .cell∨scope.names.lookup y=some .free:=hy
    rcases hy with hy | hy
    · exact cell_has hy
    · exact absurd rfl (S.nofree _ (PySem.mem_of_lookup hy))
  · exact Nat.le_of_lt (x.above y c (PySem.mem_of_lookup h))
  · have hi:i < vs.length:=by
      unfold start at h2
      by_cases hi:i < vs.length
      · exact hi
      · rw [List.getElem?_append_right (by simpa using hi)] at h2
        rw [List.getElem?_replicate] at h2
        split at h2 <;> cases h2
    have ha:vs[i]?=some v:=by
      unfold start at h2
      rw [List.getElem?_append_left (by simpa using hi),List.getElem?_map] at h2
      cases e:vs[i]? with
      | none=>rw [e] at h2;cases h2
      | some a=>rw [e] at h2;cases h2;rfl
    obtain ⟨u,hu,rv⟩:=r.get ha
    have hp:ps[i]?=some y:=by
      rw [← S.pre,List.getElem?_take_of_lt (by omega)];exact h1
    have ndP:ps.Nodup:=by rw [← S.pre];exact S.nd.sublist (List.take_sublist _ _)
    refine ⟨u,rv,?_⟩
    rcases S.par y (List.mem_of_getElem? hp) with k | k
    · exact .inl ⟨k,bindL_get ndP hp hu k⟩
    · obtain ⟨c,e⟩:=cell_has (n:=s.heap.objs.size+1) k
      refine .inr ⟨.inl k,c,e,?_⟩
      have q:=x.cell y c e
      rw [bindC_get ndP hp hu (by show scope.names.lookup y≠_;rw [k];decide)] at q
      exact q
  · exact e0.hok.fresh (Nat.le_of_lt (x.above y c (PySem.mem_of_lookup h)))
  · unfold start
    show _=N.length
    rw [List.length_append,List.length_map,List.length_replicate]
    omega
theorem fn_of {CX:CXT} {P:Program} {w:World} {K:PySem.W.Frag} {mg:Str→Option Value} {base:Heap} {k:Nat} {f:Addr} {name qual:Str} {params:Arguments} {body:List Stmt} {scope:Scope} {dV kV doc pm cdv ct oc:Value} {an od:Option Addr}
    {osl:Array (Option Value)} {N ps:List Str} {sp:Sp} (lk:K.lookup f=some ⟨oc,od,.func (PySem.W.fnOf name qual params body scope dV kV doc pm an cdv ct),osl⟩) (hcd:PySem.W.codeIn K cdv qual=true) (S:FnScope N ps scope)
    (len:∀ vs H Q E,sp vs H Q E→vs.length=ps.length)
    (hbody:∀ (A:Around) (outer:List Env) (s:Shared) (H:Hp) (vs:List V) (Q:VK) (E:XK),Room k (A.deeper (envOfC qual scope s.heap.objs.size f cdv))→sp vs H Q E →
      ∃ t,PSs (cxOf CX P w K mg base N qual scope f cdv A outer s H E) body t∧t { nx:=fun _ H'=>Q .non H',rt:=Q } (start N vs) H) :
    FnOk P w K mg base CX (k+1) f (PySem.W.fnOf name qual params body scope dV kV doc pm an cdv ct) ps sp:=by
  refine ⟨len,fun A outer s H args us vs Q E hr e0 hb r hsp=>?_⟩
  have hl:=len _ _ _ _ hsp
  have KX:K.In s.heap:=e0.mod.kin.keeps fun b o e=>(e0.bs b o e).1
  have lim:s.heap.NoLimit:=e0.mod.nolimit.keeps fun b o e=>(e0.bs b o e).1
  have hkind:∀ y∈ps.zip us,scope.names.lookup y.1=some .local∨(scope.names.lookup y.1=some .cell∧((cellsFrom (s.heap.objs.size+1) scope.names []).lookup y.1).isSome=true):=fun ⟨n,v⟩ hy=>by
    rcases S.par n (List.of_mem_zip hy).1 with q | q
    · exact .inl q
    · exact .inr ⟨q,PySem.W.cellsFrom_some _ _ _ (.inl q)⟩
  refine codeAny_call_function hr.depth (KX _ _ lk) rfl S.co S.gen rfl (PySem.W.codeRec_of KX hcd) (hb _ _ _ _ ?_)
  refine wpAny_newFunctionEnv_cells S.kind hkind fun env he s1 x=>?_
  subst he
  refine ⟨lim.keeps x.toInCall.keep,codeAny_func ?_⟩
  obtain ⟨t,ht,hq⟩:=hbody A outer s H vs Q E (hr.deeper _) hsp
  have I:Inv (cxOf CX P w K mg base N qual scope f cdv A outer s H E) [] (start N vs) H s1:=inv_start S hr.hd e0 hl r x
  refine wpAny_mono (ht [] s1 (start N vs) H _ I hq) (fun fl s' hs=>?_) fun e s' hs=>hs
  have fin:∀ {σ':St} {H':Hp} {v:V} {u:Value},Inv (cxOf CX P w K mg base N qual scope f cdv A outer s H E) [] σ' H' s'→RelV v u→Q v H'→CE outer P w H s Q u s':=
    fun {σ' H' v u} J rv q=>⟨v,H',J.os,J.bare,J.base,J.hok,rv,q⟩
  cases fl with
  | ret u=>
    obtain ⟨v,σ',H',J,rv,q⟩:=hs
    exact fin J rv q
  | next=>
    obtain ⟨σ',H',J,q⟩:=hs
    exact fin (v:=V.non) (u:=Value.none) J rfl q
  | brk=>
    obtain ⟨_,_,_,q⟩:=hs
    exact False.elim q
  | cont=>
    obtain ⟨_,_,_,q⟩:=hs
    exact False.elim q
end L2
namespace L2
open PySem PySem.Spec PyProof.Rows
section
variable {X:Cx} {x:Str} {p pos:Pos} {e:Expr} {es:List Expr} {t:TA} {id T:String} {r:List V→Hp→VK→Prop}
def tCB (r:List V→Hp→VK→Prop) (t:TA):TE:=fun σ H Q=>t σ H fun vs H1=>r vs H1 Q
theorem pe_callB (hc:CallR X (.builtin id) r) (hg:Gl X x) (hm:X.mg x=none) (hv:bootBuiltins x=some (.builtin id)) (ha:PA X (e :: es) t) (hn:x ≠ "__name__" := by decide) (hdb:(x == ("__debug__" : Str))=false:=by decide)
    (he:starEach (e :: es) X.env=(false,eval e X.env) :: starEach es X.env:=by rfl) (hpl:(backTo pos (starEach es X.env)).any (·.1)=false:=by rfl):PE X (.Call (.Name x p) (e :: es) [] pos) (tCB r t):=by
  intro pins s σ H Q I h
  refine wpAny_Call_Name_kw (ld_blt I hg hm hv ?_ hn hdb)
  exact PyProof.Rows.callWith_builtin1 (thn (ha pos pins s σ H _ I h) fun us s1 ⟨vs,H1,I1,r1,q1⟩=>hc pins s1 σ H1 vs us Q I1 r1 q1) he hpl
theorem pe_callTy (hc:CallR X (.type T) r) (hg:Gl X x) (hm:X.mg x=none) (hv:bootBuiltins x=some (.type T)) (ha:PA X (e :: es) t) (hn:x ≠ "__name__" := by decide) (hdb:(x == ("__debug__" : Str))=false:=by decide)
    (he:starEach (e :: es) X.env=(false,eval e X.env) :: starEach es X.env:=by rfl) (hpl:(backTo pos (starEach es X.env)).any (·.1)=false:=by rfl):PE X (.Call (.Name x p) (e :: es) [] pos) (tCB r t):=by
  intro pins s σ H Q I h
  refine wpAny_Call_Name_kw (ld_blt I hg hm hv ?_ hn hdb)
  exact PyProof.Rows.callWith_type1 (thn (ha pos pins s σ H _ I h) fun us s1 ⟨vs,H1,I1,r1,q1⟩=>hc pins s1 σ H1 vs us Q I1 r1 q1) he hpl
end
end L2
namespace HT
open PySem PyProof.Rows
section
open PySem.SeqAt
open PySem.AutoSeq1 (wpAny_loadPart')
open PySem.MeetsSeq PySem.MeetsSeq2 PySem.MeetsSeq3
end
section
variable {prog:Program} {w:World} {A:Around} {E:Value→Shared→Prop} {s:Shared}
theorem cat_tup {t b:Addr} {vs ws:List Value} {Q:Value→Shared→Prop} (ht:IsTup s.heap t vs.toArray) (hb:IsTup s.heap b ws.toArray) (hv:vs≠[])
    (h1:ws=[]→Q (.ref t) s) (h2:ws≠[]→Q (.ref s.heap.objs.size) { s with heap:=s.heap.push { cls:=.type "tuple", data:=.seq (vs++ws).toArray } })
    (hsz:vs.length+ws.length≤sizeLine):wpAny (model prog w) A (binaryOp .Add (.ref t) (.ref b)) Q E s:=by
  obtain ⟨⟨cls,dd,data,sl⟩,ho,hc,n,hd⟩:=id ht
  obtain ⟨⟨cls2,dd2,data2,sl2⟩,ho2,hc2,n2,hd2⟩:=id hb
  simp only at hc hd hc2 hd2
  subst hc hd hc2 hd2
  have e:vs.toArray++ws.toArray=(vs++ws).toArray:=by simp
  by_cases hw:ws=[]
  · exact concat_meets ⟨_,ho,rfl⟩ ⟨_,ho2,rfl⟩ noFill_tuple_add seq_tuple_add PySem.F.slot_tuple_add PySem.F.entry_tuple_add (PySem.F.args_tuple_add_2 _ _)
      (tuple_addW1 t b vs.toArray ws.toArray n n2 dd dd2 sl sl2 (by simpa using hv) (by simp [hw])) ⟨ho,ho2,h1 hw⟩
  · refine concat_meets ⟨_,ho,rfl⟩ ⟨_,ho2,rfl⟩ noFill_tuple_add seq_tuple_add PySem.F.slot_tuple_add PySem.F.entry_tuple_add (PySem.F.args_tuple_add_2 _ _)
      (tuple_addW2 t b vs.toArray ws.toArray n n2 dd dd2 sl sl2 (by simpa using hv) (by simpa using hw) (by rw [List.size_toArray,List.size_toArray];exact hsz)) ⟨ho,ho2,?_⟩
    rw [e]
    exact h2 hw
def sIx (n d:Nat):Option Int→Nat
  | none=>d
  | some v=>if v < 0 then (v+(n:Int)).toNat else min v.toNat n
theorem sIx_le (n d:Nat) (hd:d≤n) (o:Option Int):sIx n d o≤n:=by
  cases o with
  | none=>exact hd
  | some v=>
    show (if v < 0 then (v+(n:Int)).toNat else min v.toNat n)≤n
    by_cases hv:v < 0
    · rw [if_pos hv];omega
    · rw [if_neg hv];exact Nat.min_le_right _ _
theorem clip_eq (v:Int) (n d:Nat):(if v < 0 then max (v+(n:Int)) 0 else min v (n:Int))=((sIx n d (some v):Nat):Int):=by
  show (if v < 0 then max (v+(n:Int)) 0 else min v (n:Int))=(((if v < 0 then (v+(n:Int)).toNat else min v.toNat n):Nat):Int)
  by_cases hv:v < 0
  · simp only [if_pos hv];omega
  · simp only [if_neg hv];omega
theorem adjust_gen (lo hi:Option Int) (n:Nat):Builtin.Slice.sliceAdjust lo hi 1 (n:Int)=(((sIx n 0 lo:Nat):Int),((sIx n n hi:Nat):Int)):=by
  have h1:¬ ((1:Int) < 0):=by omega
  unfold Builtin.Slice.sliceAdjust
  simp only [h1,if_false]
  refine Prod.ext ?_ ?_
  · cases lo with
    | none=>rfl
    | some v=>exact clip_eq v n 0
  · cases hi with
    | none=>rfl
    | some v=>exact clip_eq v n n
theorem places_gen (i j:Nat):Builtin.Slice.slicePlaces (i:Int) (j:Int) 1=j - i:=by
  unfold Builtin.Slice.slicePlaces
  have h1:(1:Int) > 0:=by omega
  simp only [h1,if_true,Int.ediv_one]
  split <;> omega
theorem slicePart_ {v:Value} {o:Option Int} {Q:Option Int→Shared→Prop} (p:IsPart v o) (h:Q o s):wpAny (model prog w) A (Builtin.Slice.slicePartIndex v) Q E s:=by
  cases p with
  | none=>exact slicePart_none h
  | int i t=>exact slicePart_int h
theorem sliceApplied_gen {sl:Addr} {vl vu:Value} {lo hi:Option Int} {n:Nat} {Q:Int × Int × Nat→Shared→Prop} (hs:s.heap.IsSliceOf sl vl vu .none) (pl:IsPart vl lo) (pu:IsPart vu hi)
    (h:Q (((sIx n 0 lo:Nat):Int),1,sIx n n hi - sIx n 0 lo) s):wpAny (model prog w) A (Builtin.Slice.sliceApplied (.ref sl) (pure (n:Int))) Q E s:=by
  obtain ⟨os,hos,hcs,hds⟩:=id hs
  unfold Builtin.Slice.sliceApplied Builtin.Slice.sliceFields
  refine wpAny_bind (wpAny_bind (wpAny_field hos hds (x:=vl) rfl (wpAny_bind (wpAny_field hos hds (x:=vu) rfl (wpAny_bind (wpAny_field hos hds (x:=.none) rfl (wpAny_pure ?_)))))))
  refine wpAny_bind (slicePart_none ?_)
  show wpAny _ _ (if ((1:Int) == 0)=true then _ else _) _ _ s
  rw [if_neg (by decide)]
  refine wpAny_bind (slicePart_ pl (wpAny_bind (slicePart_ pu (wpAny_bind (wpAny_pure ?_)))))
  show wpAny _ _ (match Builtin.Slice.sliceAdjust lo hi 1 (n:Int) with | (lo,hi)=>pure (lo,(1:Int),Builtin.Slice.slicePlaces lo hi 1)) _ _ s
  rw [adjust_gen lo hi n]
  show wpAny _ _ (pure (((sIx n 0 lo:Nat):Int),(1:Int),Builtin.Slice.slicePlaces ((sIx n 0 lo:Nat):Int) ((sIx n n hi:Nat):Int) 1)) _ _ s
  rw [places_gen]
  exact wpAny_pure h
theorem pick_gen (xs:Array Value) (i k:Nat):((List.range k).filterMap fun (m:Nat)=>xs[((i:Int)+(m:Int) * 1).toNat]?).toArray=((xs.toList.drop i).take k).toArray:=by
  have e:(fun (m:Nat)=>xs[((i:Int)+(m:Int) * 1).toNat]?)=fun m=>xs[i+m]?:=by
    funext m
    have:((i:Int)+(m:Int) * 1).toNat=i+m:=by omega
    rw [this]
  rw [e]
  have:=pick_run xs i k
  rw [List.filterMap_map] at this
  have e2:((fun x=>xs[x]?) ∘ fun x=>i+x)=fun m=>xs[i+m]?:=rfl
  rw [e2] at this
  rw [this]
theorem getItem_tuple_cut {t sl:Addr} {items:Array Value} {vl vu:Value} {lo hi:Option Int} {Q:Value→Shared→Prop} (ht:IsTup s.heap t items) (hs:s.heap.IsSliceOf sl vl vu .none) (pl:IsPart vl lo) (pu:IsPart vu hi)
    (hw:¬ (sIx items.size 0 lo=0∧sIx items.size items.size hi=items.size))
    (h:Q (.ref s.heap.objs.size) { s with heap:=s.heap.push { cls:=.type "tuple", data:=.seq ((items.toList.drop (sIx items.size 0 lo)).take (sIx items.size items.size hi - sIx items.size 0 lo)).toArray } })
    (hsz:items.size≤sizeLine):wpAny (model prog w) A (getItem (.ref t) (.ref sl)) Q E s:=by
  have htake:sizeOk (.seq ((items.toList.drop (sIx items.size 0 lo)).take (sIx items.size items.size hi - sIx items.size 0 lo)).toArray):=by
    show ((items.toList.drop (sIx items.size 0 lo)).take (sIx items.size items.size hi - sIx items.size 0 lo)).toArray.size≤sizeLine
    rw [List.size_toArray,List.length_take,List.length_drop,Array.length_toList]
    omega
  have hj:sIx items.size items.size hi≤items.size:=sIx_le _ _ (Nat.le_refl _) hi
  obtain ⟨os,hos,hcs,hds⟩:=id hs
  have hTs:s.TypeIs (.ref sl) "slice" := ⟨os,hos,hcs⟩
  unfold getItem
  try with_reducible refine wpAny_holding ?_
  first | refine wpAny_bind (wpAny_pure ?_) | skip
  refine wpAny_bind (wpAny_sequenceKey ht.typeIs (by decide) ?_)
  refine wpAny_bind (wpAny_callSpecial?_slot (name:=Str.ofString "__getitem__") ht.typeIs PyProof.Rows.slot_tuple_getitem
    (wpAny_call_entry PyProof.Rows.slot_tuple_getitem ht.typeIs entry_tuple_getitem ?_ (args_tuple_getitem _ _)))
  show wpAny _ _ (Builtin.Tuple.tupleItemsOf (.ref t) >>= _) _ _ s
  refine wpAny_bind (tupleItemsOf_ ht ?_)
  refine wpAny_bind (wpAny_typeOf hTs ?_)
  rw [if_pos (by decide)]
  refine wpAny_bind (sliceApplied_gen hs pl pu ?_)
  have hno:¬ ((((sIx items.size 0 lo:Nat):Int) == 0 && (1:Int) == 1 && (sIx items.size items.size hi - sIx items.size 0 lo) == items.size)=true):=by
    intro q
    rw [Bool.and_eq_true,Bool.and_eq_true] at q
    have q1:((sIx items.size 0 lo:Nat):Int)=0:=eq_of_beq q.1.1
    have q2:sIx items.size items.size hi - sIx items.size 0 lo=items.size:=eq_of_beq q.2
    exact hw ⟨by omega,by omega⟩
  show wpAny _ _ (if (((sIx items.size 0 lo:Nat):Int) == 0 && (1:Int) == 1 && (sIx items.size items.size hi - sIx items.size 0 lo) == items.size)=true then _ else _) _ _ s
  rw [if_neg hno,pick_gen]
  first
    | exact wpAny_bind (m:=Builtin.Tuple.tupleExact _) (wpAny_newObj_type (wpAny_pure ⟨_,rfl,wpAny_pure h⟩) htake)
    | exact wpAny_bind (m:=Builtin.Tuple.tupleExact _) (wpAny_newObj_type (wpAny_bind (wpAny_pure (wpAny_pure ⟨_,rfl,wpAny_pure h⟩))) htake)
    | exact wpAny_bind (wpAny_bind (m:=Builtin.Tuple.tupleExact _) (wpAny_newObj_type (wpAny_pure (wpAny_pure ⟨_,rfl,wpAny_pure h⟩)) htake))
    | exact wpAny_bind (wpAny_bind (m:=Builtin.Tuple.tupleExact _) (wpAny_newObj_type (wpAny_pure ⟨_,rfl,wpAny_pure h⟩) htake))
end
end HT
namespace L2
open PySem PySem.Spec PyProof.Rows
abbrev TO:=St→Hp→(Option Int→Hp→Prop)→Prop
def PO (X:Cx) (e:Option Expr) (t:TO):Prop:=
  ∀ (pins:List (Addr × Obj)) (s:Shared) (σ:St) (H:Hp) (Q:Option Int→Hp→Prop),Inv X pins σ H s→t σ H Q →
    wpAny (model X.prog X.w) X.A (evalPart e X.env) (fun u s'=>∃ o H',Inv X pins σ H' s'∧IsPart u o∧Q o H') X.xe s
def tNoPart:TO:=fun _ H Q=>Q none H
def tPart (t:TE):TO:=fun σ H Q=>t σ H fun x H1=>∃ i,x=.int i∧Q (some i) H1
section
variable {X:Cx} {e:Expr} {te:TE} {lo hi:Option Expr} {tl th:TO} {pos p2:Pos}
theorem po_none:PO X none tNoPart:=by
  intro pins s σ H Q I h
  rw [evalPart_none]
  exact wpAny_pure ⟨none,H,I,.none,h⟩
theorem po_some (h:PE X e te):PO X (some e) (tPart te):=by
  intro pins s σ H Q I hw
  rw [evalPart_some]
  refine thn (h pins s σ H _ I hw) fun u s1 ⟨x,H1,I1,r1,q1⟩=>?_
  obtain ⟨i,rfl,q⟩:=q1
  obtain ⟨t,rfl⟩:=r1
  exact ⟨some i,H1,I1,.int i t,q⟩
def SlR (X:Cx) (r:V→Option Int→Option Int→Hp→VK→Prop):Prop:=
  ∀ (pins:List (Addr × Obj)) (s:Shared) (σ:St) (H:Hp) (x:V) (v vl vu:Value) (lo hi:Option Int) (sl:Addr) (Q:VK),Inv X pins σ H s→RelV x v→s.heap.IsSliceOf sl vl vu .none→IsPart vl lo→IsPart vu hi→r x lo hi H Q →
    ∃ T id,typeLookup (.type T) "__getitem__" = pure (some (.builtin id))∧s.TypeIs v T∧wpAny (model X.prog X.w) X.A (getItem v (.ref sl)) (EP X pins σ Q) X.xe s
def tSl (r:V→Option Int→Option Int→Hp→VK→Prop) (te:TE) (tl th:TO):TE:=fun σ H Q=>te σ H fun x H1=>tl σ H1 fun l H2=>th σ H2 fun u H3=>r x l u H3 Q
theorem pe_slice {r:V→Option Int→Option Int→Hp→VK→Prop} (hr:SlR X r) (he:PE X e te) (hl:PO X lo tl) (hu:PO X hi th):PE X (.Subscript e (.Slice lo hi none p2) pos) (tSl r te tl th):=by
  intro pins s σ H Q I h
  refine Subscript_ (thn (he pins s σ H _ I h) fun v s1 ⟨x,H1,I1,r1,q1⟩=>?_)
  refine wpAny_Slice (thn (hl pins s1 σ H1 _ I1 q1) fun vl s2 ⟨l,H2,I2,pl,q2⟩=>thn (hu pins s2 σ H2 _ I2 q2) fun vu s3 ⟨u,H3,I3,pu,q3⟩=>?_)
  rw [evalPart_none]
  refine wpAny_pure ?_
  have I4:Inv X pins σ H3 { s3 with heap:=s3.heap.push { cls:=.type "slice", data:=.fields #[vl,vu,.none] } }:=I3.kept (t':=s3.toks) fun b ob q=>Heap.get?_push_of_some _ q
  obtain ⟨T,id,hT,ht,hg⟩:=hr pins { s3 with heap:=s3.heap.push { cls:=.type "slice", data:=.fields #[vl,vu,.none] } } σ H3 x v vl vu l u s3.heap.objs.size Q I4 r1 (Heap.IsSliceOf.new ..) pl pu q3
  show wpAny (model X.prog X.w) X.A (subscriptTail e (.Slice lo hi none p2) v (.ref s3.heap.objs.size)) (EP X pins σ Q) X.xe { s3 with heap:=s3.heap.push { cls:=.type "slice", data:=.fields #[vl,vu,.none] } }
  exact tail_any (ops:=[.ref s3.heap.objs.size,v]) ht hT hg (by with_unfolding_all rfl)
def cutV (xs:List V) (lo hi:Option Int):List V:=(xs.drop (HT.sIx xs.length 0 lo)).take (HT.sIx xs.length xs.length hi - HT.sIx xs.length 0 lo)
theorem cutV_length (xs:List V) (lo hi:Option Int):(cutV xs lo hi).length≤xs.length:=by
  unfold cutV
  rw [List.length_take,List.length_drop]
  omega
def rSlT (K:PySem.W.Frag):V→Option Int→Option Int→Hp→VK→Prop:=fun x lo hi H Q=>∃ a xs,x=.ref a∧SqT K H a xs ∧
  ¬ (HT.sIx xs.length 0 lo=0∧HT.sIx xs.length xs.length hi=xs.length)∧∀ p,H p=none→Q (.ref p) (upd H p (.tup (cutV xs lo hi)))
theorem sl_tup:SlR X (rSlT X.K):=by
  intro pins s σ H x v vl vu lo hi sl Q I rx hs pl pu h
  obtain ⟨a,xs,rfl,hx,hw,q⟩:=h
  cases rx
  obtain ⟨its,r,ht,hz⟩:=I.tuple hx
  have hlen:its.toArray.size=xs.length:=by rw [List.size_toArray];exact r.length.symm
  refine ⟨"tuple", _,PyProof.Rows.slot_tuple_getitem.lookup,ht.typeIs,?_⟩
  refine HT.getItem_tuple_cut ht hs pl pu (by rw [hlen];exact hw) ?_ (by rw [hlen];exact hz)
  rw [hlen]
  refine ⟨.ref s.heap.objs.size,_,I.laid (t':=s.toks) (o:=.tup (cutV xs lo hi)) (fun b ob q=>Heap.get?_push_of_some _ q) (Nat.le_refl _) ?_,rfl,q _ (I.hok.fresh (Nat.le_refl _))⟩
  exact ⟨⟨Nat.le_trans (cutV_length xs lo hi) hz,_,Heap.get?_push_size _ rfl,rfl⟩,_,(r.drop (HT.sIx xs.length 0 lo)).take (HT.sIx xs.length xs.length hi - HT.sIx xs.length 0 lo),IsTup.new _ _⟩
def rCatT (K:PySem.W.Frag):R2:=fun x y H Q=>∃ a b xs ys,x=.ref a∧y=.ref b∧SqT K H a xs∧SqT K H b ys∧xs≠[]∧xs.length+ys.length≤sizeLine ∧
  (ys=[]→Q (.ref a) H)∧(ys≠[]→∀ p,H p=none→Q (.ref p) (upd H p (.tup (xs++ys))))
theorem Vals.nil_iff {xs:List V} {us:List Value} (r:Vals xs us):us=[] ↔ xs=[]:=by
  cases r with
  | nil=>simp
  | cons _ _=>simp
theorem op_catT:OpR X (binaryOp .Add) (rCatT X.K):=by
  intro pins s σ H x y v u Q I rx ry h
  obtain ⟨a,b,xs,ys,rfl,rfl,ha,hb,hx,hz,q1,q2⟩:=h
  cases rx
  cases ry
  obtain ⟨its,r1,p1,_⟩:=I.tuple ha
  obtain ⟨its2,r2,p2,_⟩:=I.tuple hb
  refine HT.cat_tup p1 p2 (fun z=>hx (r1.nil_iff.mp z)) (fun z=>⟨.ref a,H,I,rfl,q1 (r2.nil_iff.mp z)⟩) (fun z=>?_) (by rw [← r1.length,← r2.length];exact hz)
  refine ⟨.ref s.heap.objs.size,_,I.laid (t':=s.toks) (o:=.tup (xs++ys)) (fun b ob q=>Heap.get?_push_of_some _ q) (Nat.le_refl _) ?_,rfl,q2 (fun w=>z (r2.nil_iff.mpr w)) _ (I.hok.fresh (Nat.le_refl _))⟩
  exact ⟨⟨by rw [List.length_append];exact hz,_,Heap.get?_push_size _ rfl,rfl⟩,_,r1.append r2,IsTup.new _ _⟩
end
end L2
namespace L2
open PySem PySem.Spec PyProof.Rows
def ixN (n:Nat) (i:Int):Option Nat:=if 0≤i then (if i < n then some i.toNat else none) else if -(n:Int)≤i then some (i+n).toNat else none
def atI {α:Type} (xs:List α) (i:Int):Option α:=(ixN xs.length i).bind fun j=>xs[j]?
theorem ixN_seq {n:Nat} {i:Int} {j:Nat} (h:ixN n i=some j):seqIndex? i n=some j∧j < n∧-(n:Int)≤i∧i < n:=by
  unfold ixN at h
  by_cases h0:0≤i
  · rw [if_pos h0] at h
    by_cases h1:i < n
    · rw [if_pos h1] at h
      have e:i.toNat=j:=Option.some.inj h
      exact ⟨by rw [seqIndex_of h0 h1,e],by omega,by omega,h1⟩
    · rw [if_neg h1] at h;cases h
  · rw [if_neg h0] at h
    by_cases h1:-(n:Int)≤i
    · rw [if_pos h1] at h
      have e:(i+n).toNat=j:=Option.some.inj h
      exact ⟨by rw [seqIndex_neg (by omega) h1,e],by omega,h1,by omega⟩
    · rw [if_neg h1] at h;cases h
theorem atI_get {α:Type} {xs:List α} {i:Int} {v:α} (h:atI xs i=some v):∃ j,seqIndex? i xs.length=some j∧xs[j]?=some v∧j < xs.length∧-(xs.length:Int)≤i∧i < xs.length:=by
  unfold atI at h
  cases e:ixN xs.length i with
  | none=>rw [e] at h;cases h
  | some j=>
    rw [e] at h
    obtain ⟨h1,h2,h3,h4⟩:=ixN_seq e
    exact ⟨j,h1,h,h2,h3,h4⟩
theorem atI_nat {α:Type} {xs:List α} {j:Nat} {v:α} (h:xs[j]?=some v):atI xs (j:Int)=some v:=by
  have hj:j < xs.length:=(List.getElem?_eq_some_iff.mp h).1
  have e:ixN xs.length (j:Int)=some j:=by
    unfold ixN
    rw [if_pos (by omega),if_pos (by omega)];simp
  unfold atI;rw [e];exact h
def PlainIx (b:Expr):Prop:=∀ o i,subscripted b false o i=operate [o,i] (getItem o i)
def IxR (X:Cx) (r:R2):Prop:=
  ∀ (value slice:Expr) (pins:List (Addr × Obj)) (s:Shared) (σ:St) (H:Hp) (x y:V) (v u:Value) (Q:VK),Inv X pins σ H s→RelV x v→RelV y u→r x y H Q →
    subscripted slice false v u=operate [v,u] (getItem v u)→wpAny (model X.prog X.w) X.A (subscriptTail value slice v u) (EP X pins σ Q) X.xe s
def MtR (X:Cx) (id:String) (r:V→List V→Hp→VK→Prop):Prop:=
  ∀ (pins:List (Addr × Obj)) (s:Shared) (σ:St) (H:Hp) (x:V) (xs:List V) (v:Value) (us:List Value) (Q:VK),Inv X pins σ H s→RelV x v→Vals xs us→r x xs H Q →
    wpAny (model X.prog X.w) X.A (call (.builtin id) (v :: us)) (EP X pins σ Q) X.xe s
section
variable {X:Cx} {a b:Expr} {ta tb:TE} {pos:Pos}
theorem pe_ix {r:R2} (hr:IxR X r) (ha:PE X a ta) (hb:PE X b tb) (hs:PlainIx b):PE X (.Subscript a b pos) (tOp r ta tb):=by
  intro pins s σ H Q I h
  exact Subscript_ (binT ha hb I h fun v u s2 x y H2 I2 rx ry q=>hr a b pins s2 σ H2 x y v u Q I2 rx ry q (hs _ _))
def rIxL (K:PySem.W.Frag):R2:=fun x y H Q=>∃ p xs i v,x=.ref p∧y=.int i∧SqL K H p xs∧atI xs i=some v∧Q v H
def rIxT (K:PySem.W.Frag):R2:=fun x y H Q=>∃ p xs i v,x=.ref p∧y=.int i∧SqT K H p xs∧atI xs i=some v∧Q v H
def rIxS:R2:=fun x y H Q=>∃ z i c,x=.str z∧y=.int i∧z.length≤sizeLine∧atI z.cps.toList i=some c∧Q (.str ⟨#[c]⟩) H
theorem ix_list:IxR X (rIxL X.K):=by
  intro value slice pins s σ H x y v u Q I rx ry h hs
  obtain ⟨p,xs,i,z,rfl,rfl,hq,he,q⟩:=h
  cases rx
  obtain ⟨t,rfl⟩:=ry
  obtain ⟨its,r,pl,hz⟩:=I.list hq
  obtain ⟨j,h1,h2,h3,h4,h5⟩:=atI_get he
  obtain ⟨w,ew,rw'⟩:=r.get h2
  have hl:=r.length
  have hn:=line63
  have fin:EP X pins σ Q w s:=⟨z,H,I,rw',q⟩
  by_cases h0:0≤i
  · have hj:i.toNat=j:=by
      rw [seqIndex_of h0 h5] at h1
      exact Option.some.inj h1
    exact item_listR pl.isList h0 (by omega) (by rw [hj];simpa using ew) fin hs
  · have hj:(i+(its.toArray.size:Int)).toNat=j:=by
      rw [seqIndex_neg (by omega) h4] at h1
      rw [List.size_toArray,← hl]
      exact Option.some.inj h1
    exact subscriptTail_builtinR (x:=w) pl.isList.typeIs slot_list_getitem.lookup
      (wpAny_getItem_list_neg (Q:=fun r s'=>r=w∧EP X pins σ Q r s') pl.isList (by omega) (by rw [List.size_toArray] <;> omega) (by omega) (by rw [hj];simpa using ew) ⟨rfl,fin⟩) hs
theorem ix_tup:IxR X (rIxT X.K):=by
  intro value slice pins s σ H x y v u Q I rx ry h hs
  obtain ⟨p,xs,i,z,rfl,rfl,hq,he,q⟩:=h
  cases rx
  obtain ⟨t,rfl⟩:=ry
  obtain ⟨its,r,pl,hz⟩:=I.tuple hq
  obtain ⟨j,h1,h2,h3,h4,h5⟩:=atI_get he
  obtain ⟨w,ew,rw'⟩:=r.get h2
  have hl:=r.length
  have hn:=line63
  have fin:EP X pins σ Q w s:=⟨z,H,I,rw',q⟩
  exact subscriptTail_builtinR (x:=w) pl.typeIs slot_tuple_getitem.lookup
    (getItem_tuple (j:=j) (Q:=fun r s'=>r=w∧EP X pins σ Q r s') pl (by omega) (by omega) (by rw [List.size_toArray,← hl];exact h1) (by simpa using ew) ⟨rfl,fin⟩) hs
theorem ix_str:IxR X rIxS:=by
  intro value slice pins s σ H x y v u Q I rx ry h hs
  obtain ⟨z,i,c,rfl,rfl,hz,he,q⟩:=h
  obtain ⟨t,rfl⟩:=rx
  obtain ⟨t',rfl⟩:=ry
  obtain ⟨j,h1,h2,h3,h4,h5⟩:=atI_get he
  have hl:z.cps.toList.length=z.length:=by simp [Str.length]
  rw [hl] at h1 h4 h5
  have hn:=line63
  exact tail_any (typeIs_str s z t) slot_str_getitem.lookup (getItem_str (c:=c) (by
    have e1:decide (i < -(2 ^ 63:Int))=false:=decide_eq_false (by omega)
    have e2:decide (i ≥ 2 ^ 63)=false:=decide_eq_false (by omega)
    rw [e1,e2,Bool.or_false]) (by rw [h1];simpa using h2) ⟨.str ⟨#[c]⟩,H,I.tok _,⟨_,rfl⟩,q⟩) hs
theorem mapSeq_set (its:List Value) (n j:Nat) (u:Value):Obj.mapSeq (·.setIfInBounds j u) { cls:=.type "list", data:=.seq its.toArray n }={ cls:=.type "list", data:=.seq (its.set j u).toArray n }:=by
  simp [Obj.mapSeq]
theorem Inv.lst {pins:List (Addr × Obj)} {σ:St} {H:Hp} {s:Shared} {p:Addr} {xs:List V} (I:Inv X pins σ H s) (h:H p=some (.lst xs)) :
    ∃ (its:List Value) (n:Nat),Vals xs its∧s.heap.get? p=some { cls:=.type "list", data:=.seq its.toArray n }∧xs.length≤sizeLine:=by
  obtain ⟨z,its,n,r,e⟩:=I.hok p _ h
  exact ⟨its,n,r,e,z⟩
theorem Inv.lstUpd {pins:List (Addr × Obj)} {σ:St} {H:Hp} {s:Shared} {p:Addr} {xs ys:List V} {its its':List Value} {n n':Nat} {f:Obj→Obj} (I:Inv X pins σ H s) (h:H p=some (.lst xs))
    (ho:s.heap.get? p=some { cls:=.type "list", data:=.seq its.toArray n }) (hf:f { cls:=.type "list", data:=.seq its.toArray n }={ cls:=.type "list", data:=.seq its'.toArray n' }) (r:Vals ys its') (hz:ys.length≤sizeLine) (t:Nat) :
    Inv X pins σ (upd H p (.lst ys)) { s with heap:=s.heap.update p f,toks:=t }:=by
  have e:(s.heap.update p f).get? p=some { cls:=.type "list", data:=.seq its'.toArray n' }:=by
    rw [Heap.get?_update_self f ho (by rw [hf] <;> rfl),hf]
  refine I.write (x:=p) (e:=p) (by rw [h];trivial) (.inl rfl) (fun b u hb q=>(Heap.get?_update_other _ _ (Ne.symm hb)).trans q) ⟨_,e⟩ ?_
  exact ⟨hz,its',n',r,e⟩
def rSetL:V→V→V→Hp→(Hp→Prop)→Prop:=fun o i v H Q=>∃ p xs k j,o=.ref p∧i=.int k∧H p=some (.lst xs)∧ixN xs.length k=some j∧Q (upd H p (.lst (xs.set j v)))
theorem set_list:PSet X rSetL:=by
  intro pins s σ H o i v ov iv u Q I ro ri rv h
  obtain ⟨p,xs,k,j,rfl,rfl,hp,hj,q⟩:=h
  cases ro
  obtain ⟨t,rfl⟩:=ri
  obtain ⟨its,n,r,ho,hz⟩:=I.lst hp
  obtain ⟨h1,h2,h3,h4⟩:=ixN_seq hj
  have hl:=r.length
  have hn:=line63
  have I':Inv X pins σ (upd H p (.lst (xs.set j v))) { s with heap:=s.heap.update p (Obj.mapSeq (·.setIfInBounds j u)) }:=
    I.lstUpd hp ho (mapSeq_set its n j u) (r.set rv j) (by rw [List.length_set];exact hz) s.toks
  by_cases h0:0≤k
  · have hk:k.toNat=j:=by
      rw [seqIndex_of h0 h4] at h1
      exact Option.some.inj h1
    exact PySem.W.ki_setAt ho h0 (by omega) (by rw [List.size_toArray,← hl];exact h4) (by rw [hk];exact ⟨_,I',q⟩)
  · have hk:(k+(its.toArray.size:Int)).toNat=j:=by
      rw [seqIndex_neg (by omega) h3] at h1
      rw [List.size_toArray,← hl]
      exact Option.some.inj h1
    exact PySem.W.ki_setBack ho (by omega) (by rw [List.size_toArray,← hl];exact h3) (by omega) (by rw [hk];exact ⟨_,I',q⟩)
theorem slice_bounds (lo hi:Option Int) (n:Nat):(sliceBounds lo hi none n).1=((HT.sIx n 0 lo:Nat):Int)∧(sliceBounds lo hi none n).2.1=((HT.sIx n n hi:Nat):Int)∧(sliceBounds lo hi none n).2.2=1:=by
  refine ⟨?_,?_,rfl⟩
  · cases lo with
    | none=>simp [sliceBounds,HT.sIx]
    | some i=>
      simp only [sliceBounds,HT.sIx,Option.getD_none,show (1:Int) > 0 by decide,if_true]
      by_cases h:i < 0
      · simp only [h,if_true] <;> omega
      · simp only [h,if_false] <;> omega
  · cases hi with
    | none=>simp [sliceBounds,HT.sIx]
    | some i=>
      simp only [sliceBounds,HT.sIx,Option.getD_none,show (1:Int) > 0 by decide,if_true]
      by_cases h:i < 0
      · simp only [h,if_true] <;> omega
      · simp only [h,if_false] <;> omega
theorem slicePick_cut (its:List Value) (lo hi:Option Int):slicePick its.toArray lo hi none=((its.drop (HT.sIx its.length 0 lo)).take (HT.sIx its.length its.length hi - HT.sIx its.length 0 lo)).toArray:=by
  obtain ⟨h1,h2,h3⟩:=slice_bounds lo hi its.toArray.size
  unfold slicePick
  rw [h1,h2,h3]
  simp only [sliceRange_one,pick_run,List.size_toArray] <;> rfl
def rSlL (K:PySem.W.Frag):V→Option Int→Option Int→Hp→VK→Prop:=fun x lo hi H Q=>∃ a xs,x=.ref a∧SqL K H a xs∧∀ p,H p=none→Q (.ref p) (upd H p (.lst (cutV xs lo hi)))
theorem sl_list:SlR X (rSlL X.K):=by
  intro pins s σ H x v vl vu lo hi sl Q I rx hs pl pu h
  obtain ⟨a,xs,rfl,hx,q⟩:=h
  cases rx
  obtain ⟨its,r,ht,hz⟩:=I.list hx
  have hlen:=r.length
  refine ⟨"list", _,slot_list_getitem.lookup,ht.isList.typeIs,?_⟩
  refine wpAny_getItem_list_slice ht.isList hs pl pu .none (by simp) ?_ (by rw [List.size_toArray] <;> omega)
  rw [slicePick_cut,← hlen]
  refine ⟨.ref s.heap.objs.size,_,I.laid (t':=s.toks) (o:=.lst (cutV xs lo hi)) (fun b ob q=>Heap.get?_push_of_some _ q) (Nat.le_refl _) ?_,rfl,q _ (I.hok.fresh (Nat.le_refl _))⟩
  exact ⟨Nat.le_trans (cutV_length xs lo hi) hz,_,0,(r.drop (HT.sIx xs.length 0 lo)).take (HT.sIx xs.length xs.length hi - HT.sIx xs.length 0 lo),Heap.get?_push_size _ rfl⟩
def flatV:V→Bool
  | .non=>true
  | .bl _=>true
  | .int _=>true
  | .str _=>true
  | _=>false
def eqV:V→V→Bool
  | .non,.non=>true
  | .bl a,.bl b=>a == b
  | .bl a,.int b=>(if a then 1 else 0) == b
  | .int a,.bl b=>a == (if b then 1 else 0)
  | .int a,.int b=>a == b
  | .str a,.str b=>a == b
  | _,_=>false
theorem eqAt_V {A:Around} {s:Shared} {y x:V} {u v:Value} (ry:RelV y u) (rx:RelV x v) (fy:flatV y=true) (fx:flatV x=true):SeqAt.EqAt A s u v (eqV y x):=by
  cases y with
  | non=>
    cases ry
    cases x with
    | non=>cases rx;exact SeqAt.EqAt.same _
    | bl b=>cases rx;exact SeqAt.EqAt.none_bool b
    | int b=>obtain ⟨t,rfl⟩:=rx;exact SeqAt.EqAt.none_int b t
    | str b=>obtain ⟨t,rfl⟩:=rx;exact SeqAt.EqAt.none_str b t
    | _=>exact absurd (show false=true from fx) Bool.false_ne_true
  | bl a=>
    cases ry
    cases x with
    | non=>cases rx;exact SeqAt.EqAt.bool_none a
    | bl b=>cases rx;exact SeqAt.EqAt.bool_bool a b
    | int b=>obtain ⟨t,rfl⟩:=rx;exact SeqAt.EqAt.bool_int a b t
    | str b=>obtain ⟨t,rfl⟩:=rx;exact SeqAt.EqAt.bool_str a b t
    | _=>exact absurd (show false=true from fx) Bool.false_ne_true
  | int a=>
    obtain ⟨t',rfl⟩:=ry
    cases x with
    | non=>cases rx;exact SeqAt.EqAt.int_none a t'
    | bl b=>cases rx;exact SeqAt.EqAt.int_bool a t' b
    | int b=>obtain ⟨t,rfl⟩:=rx;exact SeqAt.EqAt.int_int a t' b t
    | str b=>obtain ⟨t,rfl⟩:=rx;exact SeqAt.EqAt.int_str a t' b t
    | _=>exact absurd (show false=true from fx) Bool.false_ne_true
  | str a=>
    obtain ⟨t',rfl⟩:=ry
    cases x with
    | non=>cases rx;exact SeqAt.EqAt.str_none a t'
    | bl b=>cases rx;exact SeqAt.EqAt.str_bool a t' b
    | int b=>obtain ⟨t,rfl⟩:=rx;exact SeqAt.EqAt.str_int a t' b t
    | str b=>obtain ⟨t,rfl⟩:=rx;exact SeqAt.EqAt.str_str a t' b t
    | _=>exact absurd (show false=true from fx) Bool.false_ne_true
  | _=>exact absurd (show false=true from fy) Bool.false_ne_true
theorem call_len_seq:CallR X (.builtin "len") (fun xs H Q=>∃ p ys,xs=[.ref p]∧(SqL X.K H p ys∨SqT X.K H p ys)∧Q (.int ys.length) H):=by
  intro pins s σ H xs us Q I r h
  obtain ⟨p,ys,rfl,hq,q⟩:=h
  obtain ⟨u,rfl,rx⟩:=vals1 r
  cases rx
  have hn:=line63
  rcases hq with hq | hq
  · obtain ⟨its,r',pl,hz⟩:=I.list hq
    have hlen:=r'.length
    exact Calls.call_len_list pl.isList (by simp only [List.size_toArray] <;> omega) ⟨.int ys.length,H,I.tok _,⟨s.toks+1,by rw [List.size_toArray,hlen]⟩,q⟩
  · obtain ⟨its,r',pl,hz⟩:=I.tuple hq
    have hlen:=r'.length
    exact len_tuple pl (by simp only [List.size_toArray] <;> omega) ⟨.int ys.length,H,I.tok _,⟨s.toks+1,by rw [List.size_toArray,hlen]⟩,q⟩
theorem call_len_str:CallR X (.builtin "len") (fun xs H Q=>∃ z,xs=[.str z]∧z.length≤sizeLine∧Q (.int z.length) H):=by
  intro pins s σ H xs us Q I r h
  obtain ⟨z,rfl,hz,q⟩:=h
  obtain ⟨u,rfl,t,rfl⟩:=vals1 r
  have hn:=line63
  exact len_str (by omega) ⟨.int z.length,H,I.tok _,⟨_,rfl⟩,q⟩
theorem call_tuple_of:CallR X (.type "tuple") (fun xs H Q=>∃ p ys,xs=[.ref p]∧((SqL X.K H p ys∧∀ l,H l=none→Q (.ref l) (upd H l (.tup ys)))∨(SqT X.K H p ys∧Q (.ref p) H))):=by
  intro pins s σ H xs us Q I r h
  obtain ⟨p,ys,rfl,h⟩:=h
  obtain ⟨u,rfl,rx⟩:=vals1 r
  cases rx
  rcases h with ⟨hq,q⟩ | ⟨hq,q⟩
  · obtain ⟨its,r',pl,hz⟩:=I.list hq
    have hlen:=r'.length
    refine call_tuple_list pl.isList (fun h' kp=>?_) (by simp only [List.size_toArray] <;> omega)
    have I1:Inv X pins σ H { s with heap:=h' }:=I.kept (t':=s.toks) kp
    have I2:Inv X pins σ (upd H h'.objs.size (.tup ys)) { s with heap:=h'.push { cls:=.type "tuple", data:=.seq its.toArray } }:=
      I1.laid (t':=s.toks) (fun b o e=>Heap.get?_push_of_some _ e) (Nat.le_refl _) (show ObjOk X.prog X.w _ _ _ (.tup ys) from ⟨⟨hz,_,Heap.get?_push_size _ rfl,rfl⟩,its,r',IsTup.new _ _⟩)
    exact ⟨.ref h'.objs.size,_,I2,rfl,q _ (I1.hok.fresh (Nat.le_refl _))⟩
  · obtain ⟨its,r',pl,hz⟩:=I.tuple hq
    exact call_tuple_same pl ⟨.ref p,H,I,rfl,q⟩
def tyV (K:PySem.W.Frag) (T:String) (x:V) (H:Hp):Prop:=match x with
  | .str _=>T = "str"
  | .int _=>T = "int"
  | .ref p=>(T = "list" ∧ ∃ xs,SqL K H p xs)∨(T = "tuple" ∧ ∃ o,K.lookup p=some o∧o.cls=.type "tuple" ∧ o.dict=none) ∨
      (T = "dict" ∧ ((∃ kvs,H p=some (.dK kvs))∨∃ kvs,H p=some (.dT kvs)))∨(T = "set" ∧ ∃ S n,H p=some (.set S n))
  | _=>False
theorem tyV_is {pins:List (Addr × Obj)} {σ:St} {H:Hp} {s:Shared} {T:String} {x:V} {v:Value} (I:Inv X pins σ H s) (r:RelV x v) (ty:tyV X.K T x H) :
    s.TypeIs v T∧∀ a,v=.ref a→∃ ob,s.heap.get? a=some ob∧ob.dict=none:=by
  cases x with
  | str z=>
    obtain ⟨t,rfl⟩:=r
    cases (show T = "str" from ty)
    exact ⟨typeIs_str s z t,fun _ e=>nomatch e⟩
  | int i=>
    obtain ⟨t,rfl⟩:=r
    cases (show T = "int" from ty)
    exact ⟨typeIs_int s i t,fun _ e=>nomatch e⟩
  | ref p=>
    cases r
    rcases ty with ⟨rfl,xs,hq⟩ | ⟨rfl,o,hk,hc,hd⟩ | ⟨rfl,hk⟩ | ⟨rfl,S,n,hk⟩
    · obtain ⟨its,_,pl,_⟩:=I.list hq
      refine ⟨pl.isList.typeIs,fun a e=>?_⟩
      cases e
      obtain ⟨o,n,e,c,hd,_⟩:=pl
      exact ⟨o,e,hd⟩
    · refine ⟨⟨o,I.kIn p o hk,hc⟩,fun a e=>?_⟩
      cases e
      exact ⟨o,I.kIn _ o hk,hd⟩
    · have z:∃ o,s.heap.get? p=some o∧o.ExactDict:=by
        rcases hk with ⟨kvs,hk⟩ | ⟨kvs,hk⟩
        · obtain ⟨_,_,_,_,o,_,_,e,ex,_⟩:=I.hok p _ hk
          exact ⟨o,e,ex⟩
        · obtain ⟨_,_,_,_,o,_,_,e,ex,_⟩:=I.hok p _ hk
          exact ⟨o,e,ex⟩
      obtain ⟨o,e,ex⟩:=z
      refine ⟨⟨o,e,ex.1⟩,fun a e2=>?_⟩
      cases e2
      exact ⟨o,e,ex.2.1⟩
    · obtain ⟨o,_,_,_,e,ex,_⟩:=I.hok p _ hk
      refine ⟨⟨o,e,ex.1⟩,fun a e2=>?_⟩
      cases e2
      exact ⟨o,e,ex.2.1⟩
  | _=>exact False.elim ty
def tBM0 (K:PySem.W.Frag) (T:String) (r:V→List V→Hp→VK→Prop) (to:TE):TE:=fun σ H Q=>to σ H fun x H1=>tyV K T x H1∧r x [] H1 Q
def tBM (K:PySem.W.Frag) (T:String) (r:V→List V→Hp→VK→Prop) (to:TE) (t:TA):TE:=fun σ H Q=>to σ H fun x H1=>tyV K T x H1∧t σ H1 fun xs H2=>r x xs H2 Q
variable {o e:Expr} {es:List Expr} {to:TE} {t:TA} {name:Str} {apos cpos:Pos} {T id:String} {r:V→List V→Hp→VK→Prop}
theorem pe_bm0 (pa:PlainAttrs T) (slot:Slot T name id) (hty:typeOf (.builtin id)=pure (.type "method_descriptor")) (hm:MtR X id r) (ho:PE X o to)
    (hbase:attributeBase o name X.env (eval o X.env)=eval o X.env:=by rfl) (hline:(apos.endLine == cpos.line)=true:=by rfl):PE X (.Call (.Attribute o name apos) [] [] cpos) (tBM0 X.K T r to):=by
  intro pins s σ H Q I h
  refine wpAny_Call_method0_late hbase hline (thn (ho pins s σ H _ I h) fun v s1 ⟨x,H1,I1,r1,ty,q1⟩=>?_)
  obtain ⟨h1,h2⟩:=tyV_is I1 r1 ty
  exact ⟨T,id,pa,slot,hty,h1,h2,Calls.callWith_builtin rfl (PySem.evalArgs_none (hm pins s1 σ H1 x [] v [] Q I1 r1 .nil q1))⟩
theorem pe_bm (pa:PlainAttrs T) (slot:Slot T name id) (hty:typeOf (.builtin id)=pure (.type "method_descriptor")) (hm:MtR X id r) (ho:PE X o to) (ha:PA X (e :: es) t)
    (hbase:attributeBase o name X.env (eval o X.env)=eval o X.env:=by rfl)
    (hfew:((backTo cpos (starEach (e :: es) X.env)).all (fun x=>!x.1) && (backToKw cpos (keywordEach [] X.env)).all (fun x=>x.1.isSome)
      && decide ((e :: es).length+([]:List Keyword).length+(if ([]:List Keyword).isEmpty then 0 else 1) < 30))=true:=by rfl)
    (hline:(apos.endLine == cpos.line)=true:=by rfl) (hs:starEach (e :: es) X.env=(false,eval e X.env) :: starEach es X.env:=by rfl) (hplain:(backTo cpos (starEach es X.env)).any (·.1)=false:=by rfl) :
    PE X (.Call (.Attribute o name apos) (e :: es) [] cpos) (tBM X.K T r to t):=by
  intro pins s σ H Q I h
  refine wpAny_Call_method_late hbase hfew hline rfl (thn (ho pins s σ H _ I h) fun v s1 ⟨x,H1,I1,r1,ty,q1⟩=>?_)
  obtain ⟨h1,h2⟩:=tyV_is I1 r1 ty
  refine ⟨T,id,pa,slot,hty,h1,h2,?_⟩
  have hA:=ha cpos pins s1 σ H1 _ I1 q1
  rw [hs] at hA ⊢
  refine Calls.callWith_builtin (by show (false || (backTo cpos (starEach es X.env)).any (·.1))=false;rw [hplain] <;> rfl) (Calls.evalArgs_plain ?_)
  exact thn hA fun us s2 ⟨vs,H2,I2,r2,q2⟩=>hm pins s2 σ H2 x vs v us Q I2 r1 r2 q2
/- xs.append(e),list.index on a module's tuple .. are MtR facts of 06m -/
end
end L2
namespace L2
open PySem PySem.Spec PyProof.Rows
def MtM (X:Cx) (id:String) (r:V→List V→Hp→VK→Prop):Prop:=
  ∀ (pins:List (Addr × Obj)) (s:Shared) (σ:St) (H:Hp) (x:V) (xs:List V) (v:Value) (us:List Value) (Q:VK),Inv X pins σ H s→RelV x v→Vals xs us→r x xs H Q →
    wpAny (model X.prog X.w) X.A (call (.builtin id) (v :: us)) (EP X pins σ Q) X.xe s
theorem Vals.one:∀ {x:V} {us:List Value},Vals [x] us→∃ u,us=[u]∧RelV x u
  | _,_,.cons r .nil=>⟨_,rfl,r⟩
theorem Vals.zero:∀ {us:List Value},Vals [] us→us=[]
  | _,.nil=>rfl
theorem Vals.dropLast {xs:List V} {us:List Value} (h:Vals xs us):Vals xs.dropLast us.dropLast:=by
  induction h with
  | nil=>exact .nil
  | cons r t ih=>
    cases t with
    | nil=>exact .nil
    | cons q t'=>exact .cons r ih
theorem Vals.rep {xs:List V} {us:List Value} (h:Vals xs us):∀ k:Nat,Vals (List.replicate k xs).flatten (List.replicate k us).flatten
  | 0=>.nil
  | k+1=>by
    rw [List.replicate_succ,List.replicate_succ,List.flatten_cons,List.flatten_cons]
    exact Vals.append h (Vals.rep h k)
theorem erase_last {α:Type} (l:List α):l.eraseIdx (l.length - 1)=l.dropLast:=by
  induction l with
  | nil=>rfl
  | cons a r ih=>
    cases r with
    | nil=>rfl
    | cons b r=>
      have e:(a :: b :: r).length - 1=((b :: r).length - 1)+1:=by
        have h1:(a :: b :: r).length=r.length+2:=rfl
        have h2:(b :: r).length=r.length+1:=rfl
        omega
      rw [e,List.eraseIdx_cons_succ,ih]
      all_goals rfl
theorem foldl_rep (its:List Value):∀ (k:Nat) (acc:List Value),
    List.foldl (fun x1 x2=>x1++x2) acc.toArray (List.replicate k its.toArray)=(acc++(List.replicate k its).flatten).toArray
  | 0,acc=>by simp
  | k+1,acc=>by
    have e:acc.toArray++its.toArray=(acc++its).toArray:=by simp
    have e2:(acc++its)++(List.replicate k its).flatten=acc++(List.replicate (k+1) its).flatten:=by
      rw [List.replicate_succ,List.flatten_cons,List.append_assoc]
    rw [← e2,← foldl_rep its k (acc++its),← e,List.replicate_succ,List.foldl_cons]
section
variable {X:Cx} {pins:List (Addr × Obj)} {σ:St} {H:Hp} {s:Shared} {l b:Addr} {xs ys zs:List V}
theorem Inv.lset {its its':List Value} {n:Nat} {f:Array Value→Array Value} {t':Nat} (I:Inv X pins σ H s) (hH:H l=some (.lst xs))
    (e:s.heap.get? l=some { cls:=.type "list", data:=.seq its.toArray n }) (hf:f its.toArray=its'.toArray) (hv:Vals ys its') (hz:ys.length≤sizeLine) :
    Inv X pins σ (upd H l (.lst ys)) { s with heap:=s.heap.update l (Obj.mapSeq f),toks:=t' }:=by
  have q:=PySem.IsL.update e f
  rw [hf] at q
  refine I.write (x:=l) (e:=l) (by rw [hH];exact trivial) (.inl rfl) (fun b' u hb hu=>(Heap.get?_update_other s.heap (Obj.mapSeq f) (Ne.symm hb)).trans hu) ⟨_,q⟩ ?_
  exact ⟨hz,its',_,hv,q⟩
theorem Inv.lnew {its:List Value} {t':Nat} (I:Inv X pins σ H s) (hv:Vals ys its) (hz:ys.length≤sizeLine) :
    Inv X pins σ (upd H s.heap.objs.size (.lst ys)) { s with heap:=s.heap.push { cls:=.type "list", data:=.seq its.toArray },toks:=t' }:=
  I.laid (fun _ _ q=>Heap.get?_push_of_some _ q) (Nat.le_refl _) ⟨hz,its,0,hv,Heap.get?_push_size _ rfl⟩
theorem Inv.fresh (I:Inv X pins σ H s):H s.heap.objs.size=none:=I.hok.fresh (Nat.le_refl _)
theorem Inv.lstM (I:Inv X pins σ H s) (hH:H l=some (.lst xs)):xs.length≤sizeLine∧∃ (its:List Value) (n:Nat),Vals xs its∧xs.length=its.length∧s.heap.get? l=some { cls:=.type "list", data:=.seq its.toArray n }:=by
  obtain ⟨z,its,n,r,e⟩:=I.hok l _ hH
  exact ⟨z,its,n,r,r.length,e⟩
theorem notLongL {n:Nat} (h:n≤sizeLine):Builtin.List.listTooLong n=false:=by
  unfold Builtin.List.listTooLong
  exact decide_eq_false (by omega)
end
section
variable {X:Cx}
def rAppend:V→List V→Hp→VK→Prop:=fun x vs H Q=>∃ l xs y,x=.ref l∧vs=[y]∧H l=some (.lst xs)∧xs.length < sizeLine∧Q .non (upd H l (.lst (xs++[y])))
theorem mt_append:MtM X "list.append" rAppend:=by
  intro pins s σ H x vs v us Q I rx rv h
  obtain ⟨l,xs,y,rfl,rfl,hH,hz,q⟩:=h
  cases rx
  obtain ⟨u,rfl,ru⟩:=rv.one
  obtain ⟨z,its,n,r,hl,e⟩:=I.lstM hH
  refine call_meets F.slot_list_append ⟨_,e,rfl⟩ F.entry_list_append (F.args_list_append_2 _ _) (PySem.list_append l its.toArray n u (by rw [List.size_toArray];omega)) ⟨e,?_⟩
  refine ⟨.non,_,I.lset (its':=its++[u]) hH e (by simp) (r.append (.cons ru .nil)) ?_,rfl,q⟩
  rw [List.length_append,List.length_singleton]
  omega
def rPop:V→List V→Hp→VK→Prop:=fun x vs H Q=>∃ l xs y,x=.ref l∧vs=[]∧H l=some (.lst xs)∧xs[xs.length - 1]?=some y∧Q y (upd H l (.lst xs.dropLast))
theorem mt_pop:MtM X "list.pop" rPop:=by
  intro pins s σ H x vs v us Q I rx rv h
  obtain ⟨l,xs,y,rfl,rfl,hH,hy,q⟩:=h
  cases rx
  have hus:=rv.zero
  subst hus
  obtain ⟨z,its,n,r,hl,e⟩:=I.lstM hH
  obtain ⟨u,hu,ru⟩:=r.get hy
  have hy':its.toArray[its.toArray.size - 1]?=some u:=by
    show its.toArray[its.length - 1]?=some u
    rw [← Array.getElem?_toList,← hl]
    exact hu
  refine call_meets F.slot_list_pop ⟨_,e,rfl⟩ F.entry_list_pop (F.args_list_pop_1 _) (MeetsSeq.list_pop_last l its.toArray n u hy' (by rw [List.size_toArray];omega)) ⟨e,?_⟩
  refine ⟨y,_,I.lset (its':=its.dropLast) hH e ?_ r.dropLast ?_,ru,q⟩
  · show its.toArray.eraseIdxIfInBounds (its.toArray.size - 1)=its.dropLast.toArray
    rw [List.size_toArray,List.eraseIdxIfInBounds_toArray,erase_last]
  · rw [List.length_dropLast]
    omega
def rCat:R2:=fun x y H Q=>∃ l b xs zs,x=.ref l∧y=.ref b∧H l=some (.lst xs)∧H b=some (.lst zs)∧xs.length+zs.length≤sizeLine∧∀ p,H p=none→Q (.ref p) (upd H p (.lst (xs++zs)))
theorem op_cat:OpR X (binaryOp .Add) rCat:=by
  intro pins s σ H x y v u Q I rx ry h
  obtain ⟨l,b,xs,zs,rfl,rfl,hH,hB,hz,q⟩:=h
  cases rx
  cases ry
  obtain ⟨z,its,n,r,hl,e⟩:=I.lstM hH
  obtain ⟨z2,its2,n2,r2,hl2,e2⟩:=I.lstM hB
  refine PySem.P.add_list e e2 ?_ (by rw [List.size_toArray,List.size_toArray];omega)
  have ea:its.toArray++its2.toArray=(its++its2).toArray:=by simp
  rw [ea]
  exact ⟨.ref _,_,I.lnew (t':=s.toks) (r.append r2) (by rw [List.length_append];omega),rfl,q _ I.fresh⟩
def rRep:R2:=fun x y H Q=>∃ l k xs,x=.ref l∧y=.int k∧H l=some (.lst xs)∧-(2 ^ 63)≤k∧k < 2 ^ 63∧xs.length * k.toNat≤sizeLine ∧
  ∀ p,H p=none→Q (.ref p) (upd H p (.lst (List.replicate k.toNat xs).flatten))
theorem len_rep {α:Type} (xs:List α) (k:Nat):(List.replicate k xs).flatten.length=k * xs.length:=by
  induction k with
  | zero=>simp
  | succ k ih=>rw [List.replicate_succ,List.flatten_cons,List.length_append,ih,Nat.succ_mul,Nat.add_comm]
theorem op_rep:OpR X (binaryOp .Mult) rRep:=by
  intro pins s σ H x y v u Q I rx ry h
  obtain ⟨l,k,xs,rfl,rfl,hH,h1,h2,hz,q⟩:=h
  cases rx
  obtain ⟨t,rfl⟩:=ry
  obtain ⟨z,its,n,r,hl,e⟩:=I.lstM hH
  have hlen:its.toArray.size * k.toNat≤sizeLine:=by rw [List.size_toArray,← hl];exact hz
  have hcap:¬ its.toArray.size * k.toNat > (2 ^ 63 - 1) / 8:=by
    have:(sizeLine:Nat)≤(2 ^ 63 - 1) / 8:=by decide
    omega
  have hfit:¬ (!Builtin.List.listFitsIndex k)=true:=by
    rw [fitsIndex_both h1 h2]
    exact Bool.false_ne_true
  have hlong:¬ Builtin.List.listTooLong (its.toArray.size * k.toNat)=true:=by
    rw [notLongL hlen]
    exact Bool.false_ne_true
  have hnew:List.foldl (fun x1 x2=>x1++x2) #[] (List.replicate (if its.toArray.isEmpty=true then 0 else k.toNat) its.toArray)=(List.replicate k.toNat its).flatten.toArray:=by
    have f0:∀ m:Nat,List.foldl (fun x1 x2=>x1++x2) #[] (List.replicate m its.toArray)=(List.replicate m its).flatten.toArray:=fun m=>by
      have:=foldl_rep its m []
      rw [List.nil_append] at this
      exact this
    rw [f0]
    cases its with
    | nil=>simp
    | cons a r'=>rw [if_neg (by simp)]
  refine wpAny_binaryOp_repeat_ref (T := "list") (U := "int") (by decide) ⟨_,e,rfl⟩ (fun s'=>typeIs_int s' k t) noFill_list_mul F.fills_int_mul F.slot_int_rmul repeat_list F.slot_int_index.lookup
    (call_meets F.slot_int_rmul (typeIs_int s k t) F.entry_int_rmul (F.args_int_rmul_2 _ _) (int___rmul___int_list k t l its.toArray n)
      ⟨e,rfl,⟨_,e,rfl⟩,call_meets F.slot_list_mul ⟨_,e,rfl⟩ F.entry_list_mul (F.args_list_mul_2 _ _) (AutoListH.list___mul___list_int_3 l its.toArray n k t hfit hcap hlong) ⟨e,?_⟩⟩)
  rw [hnew]
  exact ⟨.ref _,_,I.lnew (t':=s.toks) (r.rep k.toNat) (by rw [len_rep,Nat.mul_comm];exact hz),rfl,q _ I.fresh⟩
end
section
variable {prog:Program} {w:World} {A:Around} {E:Value→Shared→Prop} {s:Shared}
end
section
variable {X:Cx}
end
end L2
namespace Att
open PySem PySem.W PySem.Calls PyProof.Rows
theorem ints_of_wellAll {P:Params} {h:Heap}:∀ (ns:List Int) (vs:List Value),WellAll P h vs (ns.map WData.int)→IntsAre vs ns:=by
  intro ns
  induction ns with
  | nil=>
    intro vs w
    rw [List.map_nil] at w
    cases w
    exact .nil
  | cons n ns ih=>
    intro vs w
    rw [List.map_cons] at w
    cases w with
    | cons a b=>
      cases a
      exact .cons _ _ (ih _ b)
theorem script_of {l:OpenLaw} {n:Nat} (hn:l.most=some n) {P:Params} {h:Heap} {args:List WData} {vals:List Value}
    (hpre:l.row.toRowW.claim.pre args=true) (hwl:WellAll P h vals args) :
    ∃ a vs ns,vals=[Value.ref a]∧args=[WData.list (ns.map WData.int)]∧h.get? a=some { cls:=.type "list", data:=.seq vs.toArray }∧IntsAre vs ns∧ns.length≤n:=by
  have hsh:WShape.hasAll [] args [.list .int]=true:=(pre_splitW hpre).1
  have hc:l.pre.holds [] { args:=args }=true:=(pre_splitW hpre).2
  obtain ⟨d,r,rfl,h1,h2⟩:=hasAllW_cons hsh
  obtain rfl:=hasAllW_nil h2
  obtain ⟨xs,rfl,h3⟩:=hasW_list h1
  obtain ⟨ns,rfl⟩:=items_int h3
  have hlen:ns.length≤n:=by
    unfold OpenLaw.pre at hc
    have h4:(WTm.not (.lt (.lit (.int (n:Int))) (.len (.arg 0)))).holds [] { args:=[.list (ns.map .int)] }=true:=by
      have h4:=(holds_andW hc).1
      rw [hn] at h4
      exact h4
    have h5:=condW_of h4 (w_not (w_lt w_lit (w_len_list (w_arg rfl))))
    rw [List.length_map] at h5
    refine Nat.le_of_not_lt fun q=>?_
    have q':(n:Int) < ((ns.length:Nat):Int):=by omega
    first
      | (rw [decide_eq_true q'] at h5;exact absurd h5 (by decide))
      | (simp at h5;omega)
  cases hwl with
  | cons w1 w2=>
    cases w2
    cases w1 with
    | list ho hall=>exact ⟨_,_,ns,rfl,rfl,ho,ints_of_wellAll ns _ hall,hlen⟩
theorem post_true (l:OpenLaw) (args:List WData):l.row.toRowW.claim.post args (.bool true) args=true:=
  postW_of (r:=l.row.toRowW) (X:=(true == true))
    (show WShape.has [] (.bool true) .bool=true by first | rfl | decide | simp [WShape.has,WShape.arms,WShape.armsAll])
    (show (WTm.eq .res (.lit (.bool true))).value [] { args:=args,res:=some (.bool true),after:=args }=some (.bool (true == true)) from w_eq_bool (w_res rfl) w_lit) rfl
theorem attach_call {l:OpenLaw} {n:Nat} {q:Program} {loose:List Str} {XP:(Str→Option Value)→Heap→Prop} {YP:World→Heap→Prop} {d:DefRec}
    (hn:l.most=some n) (hdf:d.params.defaults=[])
    (call:∀ (w:World) (s₀ s₁:Shared) (mg mb:Str→Option Value) (fa:Addr) (o:Obj) (pm cd doc:Value) (a:Addr) (vs:List Value) (ns:List Int),
      Ground q loose [] XP w s₀ mg mb s₁.heap→YP w s₁.heap →
      s₁.heap.get? fa=some o→o.data=.func (docDef d.name d.params d.body d.scope pm cd doc)→s₁.heap.CodeRec cd d.name→mg d.name=some (.ref fa) →
      s₁.heap.get? a=some { cls:=.type "list", data:=.seq vs.toArray }→IntsAre vs ns→ns.length≤n→s₁.gens=#[] →
      codeAny (model l.prog w) callerA (.call (.ref fa) ⟨[.ref a],[]⟩) (fun r s'=>r=.ok (.ret (.bool true))∧OldK s₁.heap s'.heap∧s'.os=s₁.os∧AllBare s'.gens) s₁) :
    WalkO q loose XP YP l.row.toRowW d [] (fun f vs=>PySem.call f vs):=by
  intro w s₀ s₁ mg mb G Y fa o pm cd doc dV kV ho hd hcd hD hmg hg args vals as hpre hlay hrd hwl hlo
  obtain rfl:dV=.none:=Dflts.none hD hdf
  obtain rfl:kV=.none:=Dflts.noKw hD
  obtain ⟨a,vs,ns,rfl,rfl,hobj,hints,hlen⟩:=script_of hn hpre hwl
  refine enter_call (codeAny_mono (call w s₀ s₁ mg mb fa o pm cd doc a vs ns G Y ho (fd_plain hd) hcd hmg hobj hints hlen hg) fun r s' hq=>?_)
  obtain ⟨rfl,h2,h3,h4⟩:=hq
  exact ⟨.inl ⟨.bool true,.bool true,[],rfl,fun _=>rfl,.bool true,post_true l _,fun _=>⟨List.Pairwise.nil,fun _ hm=>(nomatch hm)⟩⟩,h2,h3,h4⟩
section
variable {prog:Program} {w:World} {A:Around} {E:Value→Shared→Prop} {s:Shared} {K:Frag}
end
end Att
namespace L2
open PySem PySem.Spec PyProof.Rows
theorem vals_ints:∀ {vs:List Value} {ns:List Int},IntsAre vs ns→Vals (ns.map V.int) vs
  | _,_,.nil=>.nil
  | _,_,.cons n t h=>.cons ⟨t,rfl⟩ (vals_ints h)
def Only (H:Hp):Prop:=∀ b,H b=none∨∃ o xs,H b=some (.frz o (.lst xs))
theorem law_call {P:Program} {w:World} {K:PySem.W.Frag} {mg mb:Str→Option Value} {CX:CXT} {k:Nat} {fa a:Addr} {fd:FuncData} {x:Str} {sp:Sp} {s₁:Shared} {vs:List Value} {ns:List Int}
    (KX:K.In s₁.heap) (hns:s₁.heap.Ns mainGlobals mg) (hb:s₁.heap.Ns builtinsNs mb) (hbb:∀ x:Str,x ≠ "__name__" → mb x=bootBuiltins x) (hlim:s₁.heap.NoLimit) (hg:s₁.gens=#[])
    (ha:s₁.heap.get? a=some { cls:=.type "list", data:=.seq vs.toArray }) (hi:IntsAre vs ns) (hl:ns.length≤sizeLine) (hr:Room k callerA)
    (F:∀ base:Heap,K.In base→base.Ns mainGlobals mg→FnOk P w K mg base CX k fa fd [x] sp) (hbind:∀ (s:Shared) (u:Value),BindsTo s fd ⟨[u],[]⟩ [(x,u)])
    (hsp:∀ H:Hp,Only H→SqL K H a (ns.map V.int)→sp [.ref a] H (fun v _=>v=.bl true) fun _ _ _=>False)
    (hCX:∀ H e s',CX [] H s₁ (fun _ _ _=>False) e s'→False) :
    codeAny (model P w) callerA (.call (.ref fa) ⟨[.ref a],[]⟩) (fun r s'=>r=.ok (.ret (.bool true))∧OldK s₁.heap s'.heap∧s'.os=s₁.os∧AllBare s'.gens) s₁:=by
  have rv:=vals_ints hi
  have lenV:=hi.length
  have core:∀ H:Hp,Only H→SqL K H a (ns.map V.int)→HOk P w H s₁.heap→(∀ b,H b≠none→b=a)→(H a≠none→K.lookup a=none) →
      codeAny (model P w) callerA (.call (.ref fa) ⟨[.ref a],[]⟩) (fun r s'=>r=.ok (.ret (.bool true))∧OldK s₁.heap s'.heap∧s'.os=s₁.os∧AllBare s'.gens) s₁:=by
    intro H hO hS hok hA hK
    have base_of:∀ {b:Addr} {o:Obj},s₁.heap.get? b=some o→H b=none→(hidT s₁.heap H).get? b=some o:=fun e n=>hidT_get e n
    have noA:∀ {b:Addr} {o:Obj} {es:Array DictEntry} {ep:Nat},s₁.heap.get? b=some o→o.data=.dict es ep→H b=none:=fun {b o es ep} e d=>by
      cases q:H b with
      | none=>rfl
      | some u=>
        have e':b=a:=hA b (by rw [q];simp)
        subst e'
        rw [ha] at e;cases e
        have d':Data.seq vs.toArray _=Data.dict es ep:=d
        cases d'
    have nsK:∀ {b:Addr} {m:Str→Option Value},s₁.heap.Ns b m→(hidT s₁.heap H).Ns b m:=fun {b m} ⟨o,es,ep,e,d,r⟩=>⟨o,es,ep,base_of e (noA e d),d,r⟩
    have hKb:K.In (hidT s₁.heap H):=fun b o e=>base_of (KX b o e) (by
      cases q:H b with
      | none=>rfl
      | some u=>
        have e':b=a:=hA b (by rw [q];simp)
        subst e'
        rw [hK (by rw [q];simp)] at e;cases e)
    have hM:Mod K mg (hidT s₁.heap H):=⟨hKb,nsK hns,⟨mb,nsK hb,hbb⟩,let ⟨mc,h1,h2⟩:=hlim;⟨mc,nsK h1,h2⟩⟩
    have e0:Env0 P w K mg (hidT s₁.heap H) callerA [] s₁ H:=⟨rfl,hM,fun b o e=>of_hidT e,Nat.le_of_eq (hidT_size _ _),trivial,fun b hb=>absurd (show b∈([]:List Addr) from hb) (by simp),hok,.of_eq hg⟩
    refine codeAny_mono ((F _ hKb (nsK hns)).run callerA [] s₁ H ⟨[.ref a],[]⟩ [.ref a] [.ref a] _ _ hr e0 (hbind s₁ (.ref a)) (.cons rfl .nil) (hsp H hO hS)) fun r s' h=>?_
    cases r with
    | error e=>exact (hCX H e s' h).elim
    | ok fl=>
      cases fl with
      | next=>exact False.elim h
      | brk=>exact False.elim h
      | cont=>exact False.elim h
      | ret u=>
        obtain ⟨v,H',os,bare,un,hok',r',q⟩:=h
        have q':v=.bl true:=q
        subst q'
        obtain rfl:u=Value.bool true:=r'
        refine ⟨rfl,OldK.of_keep fun b o e=>?_,os,bare⟩
        cases q:H b with
        | none=>exact un.keep b o e q (by intro z;exact absurd (show b∈([]:List Addr) from z) (by simp)) (by simp)
        | some u=>
          rcases hO b with z | ⟨ob,xs,z⟩
          · rw [q] at z;cases z
          · have z2:=un.frzs b ob _ z
            obtain ⟨e1,_⟩:=hok b _ z
            obtain ⟨e2,_⟩:=hok' b _ z2
            rw [e] at e1;cases e1
            exact e2
  cases hk:K.lookup a with
  | some o=>
    have e:=KX a o hk
    rw [ha] at e
    cases e
    refine core (fun _=>none) (fun _=>.inl rfl) (.inr ⟨_,vs.toArray,_,hk,rfl,rfl,rfl,by rw [List.size_toArray,lenV];exact hl,by simpa using rv⟩) (fun b u z=>by have z':(none:Option HO)=some u:=z;cases z') (fun b z=>absurd rfl z) fun z=>absurd rfl z
  | none=>
    refine core (fun b=>if b=a then some (.frz { cls:=.type "list", data:=.seq vs.toArray } (.lst (ns.map V.int))) else none) (fun b=>?_) (.inl (.inr ⟨{ cls:=.type "list", data:=.seq vs.toArray },if_pos rfl⟩)) (fun b u z=>?_) (fun b z=>?_) fun _=>hk
    · by_cases hb:b=a
      · exact .inr ⟨_,_,if_pos hb⟩
      · exact .inl (if_neg hb)
    · by_cases hb:b=a
      · have z':=(if_pos hb).symm.trans z
        cases z'
        subst hb
        exact ⟨ha,by rw [List.length_map];exact hl,vs,_,rv,ha⟩
      · have z':=(if_neg hb).symm.trans z
        cases z'
    · by_cases hb:b=a
      · exact hb
      · exact absurd (if_neg hb) z
end L2
namespace L2
open PySem PySem.Spec PyProof.Rows
abbrev KOf {K:PySem.W.Frag} {h:Heap} (_:K.In h):PySem.W.Frag:=K
theorem walk_of {l:PySem.W.OpenLaw} {n k:Nat} {q:Program} {loose:List Str} {XP:(Str→Option Value)→Heap→Prop} {YP:World→Heap→Prop} {d:DefRec} {K:Params→PySem.W.Frag} {CX:World→CXT} {sp:World→Sp} {x:Str}
    (hn:l.most=some n) (hn2:n≤sizeLine) (hdf:d.params.defaults=[]) (hr:Room k callerA)
    (hY:∀ (w:World) (h:Heap),YP w h→(K w.params).In h)
    (F:∀ (w:World) (mg:Str→Option Value) (fa:Addr) (h:Heap),(K w.params).In h→h.Ns mainGlobals mg→mg d.name=some (.ref fa) →
      ∃ fd:FuncData,(∀ (s:Shared) (u:Value),BindsTo s fd ⟨[u],[]⟩ [(x,u)]) ∧
        ∀ base:Heap,(K w.params).In base→base.Ns mainGlobals mg→FnOk l.prog w (K w.params) mg base (CX w) k fa fd [x] (sp w))
    (hsp:∀ (w:World) (H:Hp) (a:Addr) (ns:List Int),ns.length≤n→Only H→SqL (K w.params) H a (ns.map V.int)→sp w [.ref a] H (fun v _=>v=.bl true) fun _ _ _=>False)
    (hCX:∀ (w:World) (H:Hp) (s:Shared) (e:Value) (s':Shared),CX w [] H s (fun _ _ _=>False) e s'→False) :
    PySem.W.WalkO q loose XP YP l.row.toRowW d [] (fun f vs=>PySem.call f vs):=by
  refine Att.attach_call hn hdf fun w s₀ s₁ mg mb fa o pm cd doc a vs ns G Y ho hd hcd hmg hobj hints hlen hg=>?_
  have KX:=hY w _ Y
  obtain ⟨fd,hb,hF⟩:=F w mg fa _ KX G.T.g hmg
  exact law_call KX G.T.g G.T.b G.T.builtins G.T.nolimit hg hobj hints (Nat.le_trans hlen hn2) hr hF hb (fun H hO hS=>hsp w H a ns hlen hO hS) fun H e s'=>hCX w H s₁ e s'
theorem walk_ofK {l:PySem.W.OpenLaw} {n k:Nat} {q:Program} {loose:List Str} {XP:(Str→Option Value)→Heap→Prop} {YP:World→Heap→Prop} {d:DefRec} {K:Params→PySem.W.Frag} {CX:CXT} {sp:PySem.W.Frag→Sp} {x:Str}
    (hn:l.most=some n) (hn2:n≤sizeLine) (hdf:d.params.defaults=[]) (hr:Room k callerA)
    (hY:∀ (w:World) (h:Heap),YP w h→(K w.params).In h)
    (F:∀ (w:World) (mg:Str→Option Value) (fa:Addr) (h:Heap),(K w.params).In h→h.Ns mainGlobals mg→mg d.name=some (.ref fa) →
      ∃ fd:FuncData,(∀ (s:Shared) (u:Value),BindsTo s fd ⟨[u],[]⟩ [(x,u)]) ∧
        ∀ base:Heap,(K w.params).In base→base.Ns mainGlobals mg→FnOk l.prog w (K w.params) mg base CX k fa fd [x] (sp (K w.params)))
    (hsp:∀ (K:PySem.W.Frag) (H:Hp) (a:Addr) (ns:List Int),ns.length≤n→Only H→SqL K H a (ns.map V.int)→sp K [.ref a] H (fun v _=>v=.bl true) fun _ _ _=>False)
    (hCX:∀ (H:Hp) (s:Shared) (e:Value) (s':Shared),CX [] H s (fun _ _ _=>False) e s'→False) :
    PySem.W.WalkO q loose XP YP l.row.toRowW d [] (fun f vs=>PySem.call f vs):=
  walk_of (K:=K) (CX:=fun _=>CX) (sp:=fun w=>sp (K w.params)) hn hn2 hdf hr hY F (fun w H a ns h1 h2 h3=>hsp (K w.params) H a ns h1 h2 h3) fun _ H s e s'=>hCX H s e s'
end L2
namespace L2
open PySem PySem.Spec PyProof.Rows
def inClass (s:Stmt) (j:Nat):Stmt:=match s with
  | .ClassDef _ _ _ body _ _ _ _ _ _ _=>body.getD j (.Pass ⟨0,0,0,0⟩)
  | _=>.Pass ⟨0,0,0,0⟩
def defArgs (s:Stmt):Arguments:=match s with
  | .FunctionDef _ a _ _ _ _ _ _ _ _=>a
  | _=>{ posonlyargs:=[],args:=[],vararg:=none,kwonlyargs:=[],kw_defaults:=[],kwarg:=none,defaults:=[] }
def defBody (s:Stmt):List Stmt:=match s with
  | .FunctionDef _ _ b _ _ _ _ _ _ _=>b
  | _=>[]
def defScope (s:Stmt):Scope:=match s with
  | .FunctionDef _ _ _ _ _ _ sc _ _ _=>sc
  | _=>{ kind:=.function,names:=[],isGenerator:=false,isCoroutine:=false }
abbrev CX0:CXT:=fun _ _ _ _ _ _=>False
abbrev E0:XK:=fun _ _ _=>False
theorem pass0 {X:Cx}:Passes CX0 X E0:=fun _ _ _ _ _ _ _ h=>h.elim
structure Fun (K:PySem.W.Frag) (x qual:Str) (st:Stmt) (f:Addr) (fd:FuncData):Prop where
  ex:∃ (oc:Value) (od:Option Addr) (kV doc pm:Value) (an:Option Addr) (cdv ct:Value) (osl:Array (Option Value)),
    fd=PySem.W.fnOf x qual (defArgs st) (defBody st) (defScope st) .none kV doc pm an cdv ct∧K.lookup f=some ⟨oc,od,.func fd,osl⟩∧PySem.W.codeIn K cdv qual=true
  kp:PySem.W.keepIn K (.ref f)=true
section
variable {P:Program} {w:World} {K:PySem.W.Frag} {mg:Str→Option Value} {base:Heap}
theorem Fun.ok {x qual:Str} {st:Stmt} {f:Addr} {fd:FuncData} {N ps:List Str} {k:Nat} {sp:Sp} (F:Fun K x qual st f fd) (S:FnScope N ps (defScope st)) (len:∀ vs H Q E,sp vs H Q E→vs.length=ps.length)
    (hbody:∀ (cdv:Value) (A:Around) (outer:List Env) (s:Shared) (H:Hp) (vs:List V) (Q:VK) (E:XK),Room k (A.deeper (envOfC qual (defScope st) s.heap.objs.size f cdv))→sp vs H Q E →
      ∃ t,PSs (cxOf CX0 P w K mg base N qual (defScope st) f cdv A outer s H E).nox (defBody st) t∧t { nx:=fun _ H'=>Q .non H',rt:=Q } (start N vs) H):FnOk P w K mg base CX0 (k+1) f fd ps sp:=by
  obtain ⟨oc,od,kV,doc,pm,an,cdv,ct,osl,rfl,lk,hcd⟩:=F.ex
  refine fn_of lk hcd S len fun A outer s H vs Q E hr hsp=>?_
  obtain ⟨t,h,q⟩:=hbody cdv A outer s H vs Q E hr hsp
  exact ⟨t,h.nox,q⟩
theorem Fun.binds {x qual:Str} {st:Stmt} {f:Addr} {fd:FuncData} {ps:List Str} (F:Fun K x qual st f fd)
    (h:∀ (kV doc pm:Value) (an:Option Addr) (cdv ct:Value) (us:List Value),us.length=ps.length→bindArgs (PySem.W.fnOf x qual (defArgs st) (defBody st) (defScope st) .none kV doc pm an cdv ct) ⟨us,[]⟩=pure (ps.zip us)):Binds K fd ps []:=by
  obtain ⟨oc,od,kV,doc,pm,an,cdv,ct,osl,rfl,lk,hcd⟩:=F.ex
  exact .all (h kV doc pm an cdv ct)
theorem fun_mk {x qual:Str} {st:Stmt} {f:Addr} {oc:Value} {od an:Option Addr} {osl:Array (Option Value)} {kV doc pm cdv ct:Value} (l:K.lookup f=some ⟨oc,od,.func (PySem.W.fnOf x qual (defArgs st) (defBody st) (defScope st) .none kV doc pm an cdv ct),osl⟩)
    (c:PySem.W.codeIn K cdv qual=true) (k:PySem.W.keepIn K (.ref f)=true):Fun K x qual st f (PySem.W.fnOf x qual (defArgs st) (defBody st) (defScope st) .none kV doc pm an cdv ct):=⟨⟨oc,od,kV,doc,pm,an,cdv,ct,osl,rfl,l,c⟩,k⟩
end
theorem hu_of {A:Around} {k:Nat} (hr:Room k A):A.units+1 < cLine:=Nat.lt_of_le_of_lt (Nat.add_le_add_left (by decide:1≤64) _) hr.units
theorem small1000 {n:Nat} (h:n≤1000):n < sizeLine:=Nat.lt_of_le_of_lt h (by decide)
section
variable {X:Cx}
theorem pv (i:Nat) {x:Str} {pos:Pos} (hN:X.N[i]?=some x:=by rfl) (hv:Vis X.env.scope x:=by first | exact Or.inl rfl | exact Or.inr (Or.inl rfl) | exact Or.inr (Or.inr rfl)) (hd:(x == ("__debug__" : Str))=false:=by decide)
    (hcd:(x == ("__classdict__" : Str))=false:=by decide):PE X (.Name x pos) (tVar i):=pe_var hN hv hd hcd
end
theorem iteF {A B:Prop} (h:B):if false=true then A else B:=by
  rw [if_neg Bool.false_ne_true]
  exact h
theorem ite2 {c A B:Prop} [Decidable c] (h1:c→A) (h2:¬ c→B):if c then A else B:=by
  by_cases h:c
  · rw [if_pos h]
    exact h1 h
  · rw [if_neg h]
    exact h2 h
def Same (H H':Hp):Prop:=∀ b o,H b=some o→H' b=some o
theorem Same.refl (H:Hp):Same H H:=fun _ _ h=>h
theorem Same.trans {H H1 H2:Hp} (a:Same H H1) (b:Same H1 H2):Same H H2:=fun c o h=>b c o (a c o h)
theorem Same.free {H H':Hp} (e:Same H H') {l:Addr} (h:H' l=Option.none):H l=Option.none:=by
  cases q:H l with
  | none=>rfl
  | some o=>
    rw [e l o q] at h
    cases h
end L2
set_option maxHeartbeats 16000000
namespace L2
open PySem PySem.Spec PyProof.Rows
theorem lookup_mem {α:Type}:∀ {cl:List (Str × α)} {x:Str} {c:α},cl.lookup x=some c→(x,c)∈cl
  | [],_,_,h=>by simp at h
  | (y,d) :: r,x,c,h=>by
    rw [List.lookup_cons] at h
    cases e:x == y with
    | true=>
      rw [e] at h
      have e':x=y:=eq_of_beq e
      cases h
      rw [e'];exact List.mem_cons_self
    | false=>
      rw [e] at h
      exact List.mem_cons_of_mem _ (lookup_mem h)
theorem lookup_of_mem {α:Type}:∀ {cl:List (Str × α)} {x:Str} {c:α},(x,c)∈cl→∃ c',cl.lookup x=some c'
  | [],_,_,h=>nomatch h
  | (y,d) :: r,x,c,h=>by
    rw [List.lookup_cons]
    cases e:x == y with
    | true=>exact ⟨d,rfl⟩
    | false=>
      rcases List.mem_cons.mp h with h | h
      · cases h
        simp at e
      · exact lookup_of_mem h
theorem closure_go {env:Env} {f:(Str × NameKind)→List (Str × Addr)→Sem (ForInStep (List (Str × Addr)))}
    (h1:∀ x k cs,k≠NameKind.free→f (x,k) cs=pure (.yield cs)) (h2:∀ x cs c,env.cells.lookup x=some c→f (x,NameKind.free) cs=pure (.yield ((x,c) :: cs))) :
    ∀ (names:List (Str × NameKind)) (acc:List (Str × Addr)),(∀ x,(x,NameKind.free)∈names→∃ c,env.cells.lookup x=some c) →
      ∃ cl,forIn names acc f=pure cl∧(∀ p∈cl,p∈acc∨env.cells.lookup p.1=some p.2)∧(∀ p∈acc,p∈cl)∧∀ x,(x,NameKind.free)∈names→∃ c,(x,c)∈cl
  | [],acc,_=>⟨acc,rfl,fun _ h=>.inl h,fun _ h=>h,fun _ h=>nomatch h⟩
  | (x,k) :: r,acc,h=>by
    by_cases hk:k=NameKind.free
    · subst hk
      obtain ⟨c,hc⟩:=h x List.mem_cons_self
      obtain ⟨cl,e,a,b,d⟩:=closure_go h1 h2 r ((x,c) :: acc) fun y hy=>h y (List.mem_cons_of_mem _ hy)
      refine ⟨cl,?_,fun p hp=>?_,fun p hp=>b p (List.mem_cons_of_mem _ hp),fun y hy=>?_⟩
      · rw [List.forIn_cons,h2 x acc c hc,pure_bind];exact e
      · rcases a p hp with q | q
        · rcases List.mem_cons.mp q with q | q
          · subst q;exact .inr hc
          · exact .inl q
        · exact .inr q
      · rcases List.mem_cons.mp hy with q | q
        · cases q;exact ⟨c,b _ List.mem_cons_self⟩
        · exact d y q
    · obtain ⟨cl,e,a,b,d⟩:=closure_go h1 h2 r acc fun y hy=>h y (List.mem_cons_of_mem _ hy)
      refine ⟨cl,?_,a,b,fun y hy=>?_⟩
      · rw [List.forIn_cons,h1 x k acc hk,pure_bind];exact e
      · rcases List.mem_cons.mp hy with q | q
        · cases q;exact absurd rfl hk
        · exact d y q
theorem closure_ok {scope:Scope} {env:Env} (h:∀ x,(x,NameKind.free)∈scope.names→∃ c,env.cells.lookup x=some c) :
    ∃ cl,closureFor scope env=pure cl∧(∀ x c,cl.lookup x=some c→env.cells.lookup x=some c)∧∀ x,(x,NameKind.free)∈scope.names→∃ c,cl.lookup x=some c:=by
  have go:=closure_go (env:=env) (f:=fun x cs=>match x with | (name,kind)=>if (kind == NameKind.free)=true then do let a ← cellOf env name;pure (.yield ((name,a) :: cs)) else pure (.yield cs))
    (fun x k cs hk=>by
      have:(k == NameKind.free)=false:=by simpa using hk
      simp only [this,Bool.false_eq_true,if_false])
    (fun x cs c hc=>by
      simp only [beq_self_eq_true,if_true]
      unfold cellOf
      rw [hc,pure_bind])
    scope.names [] h
  obtain ⟨cl,e,a,_,d⟩:=go
  refine ⟨cl,?_,fun x c hx=>?_,fun x hx=>?_⟩
  · unfold closureFor
    simp only [bind_pure]
    exact e
  · rcases a _ (lookup_mem hx) with q | q
    · exact nomatch q
    · exact q
  · obtain ⟨c,hc⟩:=d x hx
    exact lookup_of_mem hc
theorem relabel_lookup {env:Env} {x:Str} {k:NameKind}:∀ {names:List (Str × NameKind)},
    (names.map fun (n,k)=>if (k == NameKind.free && env.scope.kind == .function && env.kindOf n == some .cell) then (n,NameKind.cell) else (n,k)).lookup x=some k →
      names.lookup x=some k∨(k=.cell∧names.lookup x=some .free)
  | [],h=>by simp at h
  | (n,j) :: r,h=>by
    have ih:=@relabel_lookup env x k r
    rw [List.lookup_cons]
    change List.lookup x ((if (j == NameKind.free && env.scope.kind == .function && env.kindOf n == some .cell)=true then (n,NameKind.cell) else (n,j)) :: _)=_ at h
    by_cases hc:(j == NameKind.free && env.scope.kind == .function && env.kindOf n == some .cell)=true
    · rw [if_pos hc,List.lookup_cons] at h
      have hj:j=NameKind.free:=by
        simp only [Bool.and_eq_true] at hc
        exact eq_of_beq hc.1.1
      cases hx:x == n with
      | true=>rw [hx] at h;cases h;exact .inr ⟨rfl,by rw [hj]⟩
      | false=>rw [hx] at h;exact ih h
    · rw [if_neg hc,List.lookup_cons] at h
      cases hx:x == n with
      | true=>rw [hx] at h;exact .inl h
      | false=>rw [hx] at h;exact ih h
def cxComp (X:Cx) (scope:Scope) (NL:List Str) (ix:List Nat) (cl:List (Str × Addr)) (C:Addr) (s₃:Shared) (H₃:Hp) (fp:List Addr) (pins:List (Addr × Obj)):Cx where
  prog:=X.prog
  w:=X.w
  K:=X.K
  mg:=X.mg
  base:=X.base
  A:=X.A
  N:=NL++ix.map fun j=>X.N.getD j ""
  s₀:=s₃
  H₀:=H₃
  env:=compEnvC scope cl C X.env
  outer:=X.stack
  stack:=X.stack
  ex:=fp
  fn:=fun _=>false
  calm:=X.calm
  pn:=X.pn++pins
  xe:=fun _ _=>False
def comp0 (NL:List Str) (ix:List Nat) (σ:St):St:=NL.map (fun _=>none)++ix.map fun j=>σ.getD j none
def PIfs (X:Cx) (ifs:List Expr) (t:TT):Prop:=
  ∀ (pins:List (Addr × Obj)) (s:Shared) (σ:St) (H:Hp) (Q:Bool→Hp→Prop),Inv X pins σ H s→t σ H Q →
    wpAny (model X.prog X.w) X.A (forIn ifs true fun c r=>if r=true then do let ok ← isTrue c X.env (eval c X.env);pure (ForInStep.yield ok) else pure (ForInStep.yield r)) (TP X pins σ Q) X.xe s
def tYes:TT:=fun _ H Q=>Q true H
theorem pifs_nil {X:Cx}:PIfs X [] tYes:=fun _ _ _ H _ I h=>wpAny_tests_nil ⟨H,I,h⟩
theorem pifs_one {X:Cx} {c:Expr} {t:TT} (h:PT X c t):PIfs X [c] t:=fun pins s σ H Q I q=>wpAny_tests_one (h pins s σ H Q I q)
def tComp (NL:List Str) (ix:List Nat) (wi:TI) (g:TG) (tt:TT) (te:TE):TE:=fun σ H Q=>
  wi σ H fun J H1=>∀ acc,H1 acc=none→∃ W:Nat→Nat→List V→Hp→Prop,(∃ m,W 0 m [] (upd H1 acc (.lst []))) ∧
    ∀ i m ys H2,W i m ys H2→H2 acc=some (.lst ys)∧ys.length < sizeLine ∧
      ((J.stop i H2∧Q (.ref acc) H2)∨(J.go i H2∧∃ N:List V→Hp→Prop,(∀ ys' H',N ys' H'→∃ m',m' < m∧W (i+1) m' ys' H') ∧
        ∀ x H3,J.yld i H2 x H3→g x (comp0 NL ix σ) H3 fun σ' H4=>σ'.drop NL.length=ix.map (fun j=>σ.getD j none)∧tt σ' H4 fun b H5=>
          if b=true then te σ' H5 fun v H6=>H6 acc=some (.lst ys)∧N (ys++[v]) (upd H6 acc (.lst (ys++[v]))) else N ys H5))
section
variable {X:Cx} {pins:List (Addr × Obj)} {σ:St} {H:Hp} {s:Shared}
structure CompScope (X:Cx) (scope:Scope) (NL:List Str) (ix:List Nat):Prop where
  kind:scope.kind=.function
  cell:∀ y∈scope.names,y.2≠.cell
  names:∀ y∈scope.names,y.2=.local→scope.names.lookup y.1=some .local
  free:∀ y∈scope.names,y.2=.free→X.env.kindOf y.1=some .cell∨X.env.kindOf y.1=some .free
  cap:∀ j∈ix,∃ x,X.N[j]?=some x∧scope.names.lookup x=some .free
theorem comp_inv {scope:Scope} {NL:List Str} {ix:List Nat} {cl:List (Str × Addr)} {fp:List Addr} {tn:Nat→Heap→Prop} {s₃:Shared} {h₁:Heap} {m:Str→Option Value} {tk:Nat}
    (S:CompScope X scope NL ix) (I:Inv X pins σ H s₃) (c1:∀ x c,cl.lookup x=some c→X.env.cells.lookup x=some c) (c2:∀ x,(x,NameKind.free)∈scope.names→∃ c,cl.lookup x=some c)
    (hf:∀ b∈fp,FpOk X pins H b) (ho:∀ b∈fp,∃ o,s₃.heap.get? b=some o) (hn:h₁.Ns s₃.heap.objs.size m) (old:∀ b o,s₃.heap.get? b=some o→h₁.get? b=some o) :
    Inv (cxComp X scope NL ix cl s₃.heap.objs.size s₃ H fp pins) [] (comp0 NL ix σ) H { s₃ with heap:=h₁,toks:=tk }:=by
  have e0:=I.env0
  have lt:∀ b o,s₃.heap.get? b=some o→b≠s₃.heap.objs.size:=fun b o e=>Nat.ne_of_lt (Heap.lt_size e)
  have nst:∀ b,b≠X.env.locals→b ∉ X.fs→b ∉ frs X.stack:=fun b h1 h2 h3=>(List.mem_cons.mp (I.stkSub b h3)).elim h1 h2
  have ok:(cxComp X scope NL ix cl s₃.heap.objs.size s₃ H fp pins).Ok:=
    { mod:=I.ok.mod
      kind:=S.kind
      glob:=I.ok.glob
      blt:=I.ok.blt
      above:=Nat.le_refl _
      inj:=fun x y c h1 h2=>I.ok.inj x y c (c1 x c h1) (c1 y c h2)
      has:=fun x hx=>by
        have hfree:scope.names.lookup x=some .free:=by
          rcases hx with hx | hx
          · rcases relabel_lookup hx with q | ⟨_,q⟩
            · exact absurd rfl (S.cell _ (lookup_mem q))
            · exact q
          · rcases relabel_lookup hx with q | ⟨z,_⟩
            · exact q
            · cases z
        exact c2 x (lookup_mem hfree)
      cab:=fun _ _ z=>nomatch z
      hd:=I.ok.hd
      frames:=I.ok.frames
      stk:=.inl rfl
      exf:=fun b hb=>⟨let ⟨o,e⟩:=ho b hb;lt b o e,fun x c hx=>(hf b hb).2.2.2.2.1 x c (c1 x c hx)⟩
      bs:=I.bs
      bsz:=e0.bsz
      noex:=fun b o e hb=>by
        rcases (hf b hb).2.2.2.1 with z | z
        · exact I.ok.noex b o e z
        · exact absurd (Nat.lt_of_lt_of_le (Heap.lt_size e) (Nat.le_trans I.ok.bsz z)) (Nat.lt_irrefl _)
      exfs:=fun b hb=>nst b (hf b hb).2.1 (hf b hb).2.2.1
      funs:=e0.funs
      frf:=e0.frf }
  refine ⟨ok,rfl,I.bare,Un.kept old,⟨m,hn,fun i x v e1 e2 e3=>?_⟩,fun x c e=>?_,I.hok.fresh (Nat.le_refl _),fun x c e=>I.freeC x c (c1 x c e),fun p hp=>?_,I.hok.kept old,?_⟩
  · have hl:NL.length≤i:=by
      rcases Nat.lt_or_ge i NL.length with z | z
      · exfalso
        unfold comp0 at e2
        rw [List.getElem?_append_left (by simpa using z),List.getElem?_map] at e2
        cases q:NL[i]? with
        | none=>rw [q] at e2;cases e2
        | some y=>rw [q] at e2;cases e2
      · exact z
    unfold comp0 at e2
    rw [List.getElem?_append_right (by simpa using hl),List.length_map,List.getElem?_map] at e2
    change (NL++ix.map fun j=>X.N.getD j "")[i]?=some x at e1
    rw [List.getElem?_append_right hl,List.getElem?_map] at e1
    cases q:ix[i - NL.length]? with
    | none=>rw [q] at e1;cases e1
    | some j=>
      rw [q] at e1 e2
      have e1':X.N.getD j "" = x:=Option.some.inj e1
      have e2':σ.getD j none=some v:=Option.some.inj e2
      obtain ⟨x',hx',hfr⟩:=S.cap j (List.mem_of_getElem? q)
      have exx:x'=x:=by
        rw [← e1',List.getD_eq_getElem?_getD,hx'];rfl
      subst exx
      have hσ:σ[j]?=some (some v):=by
        rw [List.getD_eq_getElem?_getD] at e2'
        cases z:σ[j]? with
        | none=>rw [z] at e2';cases e2'
        | some o=>rw [z] at e2';exact congrArg some e2'
      have kd:=S.free _ (lookup_mem hfr) rfl
      have vis:Vis X.env.scope x':=by
        rcases kd with z | z
        · exact .inr (.inl z)
        · exact .inr (.inr z)
      obtain ⟨m',hn',hl'⟩:=I.loc
      obtain ⟨u,r,l⟩:=hl' j x' v hx' hσ vis
      refine ⟨u,r,.inr ?_⟩
      have hk':(compEnvC scope cl s₃.heap.objs.size X.env).kindOf x'=some .cell∨(compEnvC scope cl s₃.heap.objs.size X.env).kindOf x'=some .free:=by
        rcases e3 with z | z | z
        · rcases relabel_lookup z with w | ⟨w,_⟩
          · rw [hfr] at w;cases w
          · cases w
        · exact .inl z
        · exact .inr z
      refine ⟨hk',?_⟩
      obtain ⟨c,hc⟩:=c2 x' (lookup_mem hfr)
      rcases l with ⟨k,_⟩ | ⟨k,c',ec,o,ho',hd⟩
      · rcases kd with z | z
        · rw [k] at z;cases z
        · rw [k] at z;cases z
      · have:c'=c:=by
          have:=c1 x' c hc
          rw [ec] at this
          exact Option.some.inj this
        subst this
        exact ⟨c',hc,o,old _ _ ho',hd⟩
  · obtain ⟨v,o,ho',hd⟩:=I.cell x c (c1 x c e)
    exact ⟨v,o,old _ _ ho',hd⟩
  · have hp':p∈X.pn++pins:=by
      rcases List.mem_append.mp hp with z | z
      · exact z
      · exact nomatch z
    obtain ⟨e,n,ne,nf,d⟩:=I.pin p hp'
    exact ⟨old _ _ e,n,lt _ _ e,nst _ ne nf,d⟩
  · show (NL.map (fun _=>(none:Option V))++ix.map fun j=>σ.getD j none).length=(NL++ix.map fun j=>X.N.getD j "").length
    simp
theorem comp_run {scope:Scope} {NL:List Str} {ix:List Nat} {elt tg iter:Expr} {ifs:List Expr} {pos:Pos} {g:TG} {tt:TT} {te:TE} {cl:List (Str × Addr)} {fp:List Addr} {it:Addr} {tn:Nat→Heap→Prop} {J:It} {Q:VK}
    {E:Value→Shared→Prop} {RR:Value→Addr→Result→Shared→Prop}
    (hc:X.calm=true) (S:CompScope X scope NL ix) (c1:∀ x c,cl.lookup x=some c→X.env.cells.lookup x=some c) (c2:∀ x,(x,NameKind.free)∈scope.names→∃ c,cl.lookup x=some c)
    (hb:∀ (cl:List (Str × Addr)) (C:Addr) (s₃:Shared) (H₃:Hp) (fp:List Addr) (pins:List (Addr × Obj)),PG (cxComp X scope NL ix cl C s₃ H₃ fp pins) tg g∧PIfs (cxComp X scope NL ix cl C s₃ H₃ fp pins) ifs tt∧PE (cxComp X scope NL ix cl C s₃ H₃ fp pins) elt te)
    (I:Inv X pins σ H s) (T:Turn X.prog X.w X.K tg J fp it tn) (st:tn 0 s.heap) (hf:∀ b∈fp,FpOk X pins H b)
    (q:∀ acc,H acc=none→∃ W:Nat→Nat→List V→Hp→Prop,(∃ m,W 0 m [] (upd H acc (.lst []))) ∧
      ∀ i m ys H2,W i m ys H2→H2 acc=some (.lst ys)∧ys.length < sizeLine ∧
      ((J.stop i H2∧Q (.ref acc) H2)∨(J.go i H2∧∃ N:List V→Hp→Prop,(∀ ys' H',N ys' H'→∃ m',m' < m∧W (i+1) m' ys' H') ∧
        ∀ x H3,J.yld i H2 x H3→g x (comp0 NL ix σ) H3 fun σ' H4=>σ'.drop NL.length=ix.map (fun j=>σ.getD j none)∧tt σ' H4 fun b H5=>
          if b=true then te σ' H5 fun v H6=>H6 acc=some (.lst ys)∧N (ys++[v]) (upd H6 acc (.lst (ys++[v]))) else N ys H5)))
    (hRR:∀ (acc C:Addr) (H':Hp) (s':Shared) (m':Str→Option Value),Inv X pins σ H' s'→s'.heap.Ns C m'→FpOk X pins H' C→Q (.ref acc) H'→RR (.ref acc) C (.ok .next) s') :
    wpAny (model X.prog X.w) X.A (newList []) (fun acc s₃=>wpAny (model X.prog X.w) X.A (newFunctionEnv scope X.env.globals cl [] X.env.qual none .none (some X.env)) (fun cenv s₄=>
      codeAny (model X.prog X.w) X.A (.compStart (.ListComp elt [⟨tg,iter,ifs,0⟩] scope pos) 0 (.ref it) acc { cenv with scope:=relabel scope X.env }) (RR acc cenv.locals) s₄) E s₃) E s:=by
  refine wpAny_newObj_type (wpAny_newFunctionEnv S.cell (by intro y hy;simp at hy) (fun h₁ hns₁ hsb₁=>?_) S.kind)
  have I3:Inv X pins σ (upd H s.heap.objs.size (.lst [])) { s with heap:=s.heap.push { cls:=.type "list", data:=.seq ([]:List Value).toArray },toks:=s.toks }:=I.lnew (its:=[]) .nil (Nat.zero_le _)
  have hfr:H s.heap.objs.size=none:=I.hok.fresh (Nat.le_refl _)
  generalize hs3:({ s with heap:=s.heap.push { cls:=.type "list", data:=.seq ([]:List Value).toArray },toks:=s.toks }:Shared)=s₃ at I3
  have hsz:s₃.heap.objs.size=s.heap.objs.size+1:=by rw [← hs3];exact Heap.size_push ..
  have old1:∀ b o,s.heap.get? b=some o→s₃.heap.get? b=some o:=fun b o e=>by rw [← hs3];exact Heap.get?_push_of_some _ e
  have key:codeAny (model X.prog X.w) X.A (.compStart (.ListComp elt [⟨tg,iter,ifs,0⟩] scope pos) 0 (.ref it) (.ref s.heap.objs.size) (compEnvC scope cl s₃.heap.objs.size X.env))
      (RR (.ref s.heap.objs.size) s₃.heap.objs.size) { s₃ with heap:=h₁,toks:=s₃.toks+0 }:=by
    have hns:h₁.Ns s₃.heap.objs.size (fun _=>none):=by
      have:=hns₁
      rw [← hs3]
      exact this
    have hsb:Heap.SameBut s₃.heap.objs.size (s₃.heap.push { cls:=.type "dict", data:=.dict #[] }) h₁:=by
      have:=hsb₁
      rw [← hs3]
      exact this
    have old:∀ b o,s₃.heap.get? b=some o→h₁.get? b=some o:=fun b o e=>hsb.extBut b o (Nat.ne_of_lt (Heap.lt_size e)) (Heap.get?_push_of_some _ e)
    have hf3:∀ b∈fp,FpOk X pins (upd H s.heap.objs.size (.lst [])) b:=fun b hb'=>by
      obtain ⟨o,e,_⟩:=T.obj 0 _ st b hb'
      have ne:b≠s.heap.objs.size:=Nat.ne_of_lt (Heap.lt_size e)
      exact ⟨by rw [upd_ne ne];exact (hf b hb').1,(hf b hb').2⟩
    have ho3:∀ b∈fp,∃ o,s₃.heap.get? b=some o:=fun b hb'=>by
      obtain ⟨o,e,_⟩:=T.obj 0 _ st b hb'
      exact ⟨o,old1 b o e⟩
    have st1:tn 0 h₁:=T.keep 0 _ _ st fun b hb' o e=>old b o (old1 b o e)
    have I4:=comp_inv (tn:=tn) (tk:=s₃.toks+0) S I3 c1 c2 hf3 ho3 hns old
    obtain ⟨W,⟨m0,w0⟩,turn⟩:=q s.heap.objs.size hfr
    obtain ⟨hg,ht,he⟩:=hb cl s₃.heap.objs.size s₃ (upd H s.heap.objs.size (.lst [])) fp pins
    generalize hX':cxComp X scope NL ix cl s₃.heap.objs.size s₃ (upd H s.heap.objs.size (.lst [])) fp pins=X' at I4 hg ht he
    have p1:X'.prog=X.prog:=by rw [← hX'];rfl
    have p2:X'.w=X.w:=by rw [← hX'];rfl
    have p3:X'.K=X.K:=by rw [← hX'];rfl
    have p4:X'.A=X.A:=by rw [← hX'];rfl
    have p5:X'.env=compEnvC scope cl s₃.heap.objs.size X.env:=by rw [← hX'];rfl
    have p6:X'.calm=true:=by rw [← hX'];exact hc
    have p7:X'.xe=fun _ _=>False:=by rw [← hX'];rfl
    have stat:∀ {H':Hp},(∀ b∈fp,H' b=none)→∀ b∈fp,FpOk X' [] H' b:=fun {H'} hn b hb'=>by
      have z:=hf3 b hb'
      obtain ⟨o,eo⟩:=ho3 b hb'
      rw [← hX']
      refine ⟨hn b hb',Nat.ne_of_lt (Heap.lt_size eo),fun q=>(List.mem_cons.mp (I3.stkSub b q)).elim z.2.1 z.2.2.1,.inl hb',fun x c hx=>z.2.2.2.2.1 x c (c1 x c hx),fun p hp=>?_⟩
      rcases List.mem_append.mp hp with w | w
      · exact z.2.2.2.2.2 p w
      · exact nomatch w
    have fin:∀ i n ys H' s',Inv X' [] (comp0 NL ix σ) H' s'→W i n ys H'→Q (.ref s.heap.objs.size) H'→RR (.ref s.heap.objs.size) s₃.heap.objs.size (.ok .next) s':=fun i n ys H' s' I' w' q'=>by
      obtain ⟨m',hn',_⟩:=I'.loc
      have hos:s'.os=s₃.os:=by have:=I'.os;rw [← hX'] at this;exact this
      have hu:Un (frs X.stack) fp (upd H s.heap.objs.size (.lst [])) H' s₃.heap s'.heap:=by have:=I'.base;rw [← hX'] at this;exact this
      have hk:HOk X.prog X.w H' s'.heap:=by have:=I'.hok;rw [← hX'] at this;exact this
      have hfC:H' s₃.heap.objs.size=none:=by have:=I'.free;rw [← hX'] at this;exact this
      have hnC:s'.heap.Ns s₃.heap.objs.size m':=by rw [p5] at hn';exact hn'
      exact hRR _ _ H' s' m' (I3.call' hos hu hk I'.bare fun b hb'=>⟨(hf3 b hb').2.2.2.1,(hf3 b hb').2.1,(hf3 b hb').2.2.2.2.1,(hf3 b hb').2.2.2.2.2⟩) hnC (I3.fpOk (Nat.le_refl _) hfC) q'
    have loop:∀ s₄:Shared,Inv X' [] (comp0 NL ix σ) (upd H s.heap.objs.size (.lst [])) s₄→tn 0 s₄.heap→codeAny (model X.prog X.w) X.A (.compLoop (.ListComp elt [⟨tg,iter,ifs,0⟩] scope pos) 0 (.ref it) (.ref s.heap.objs.size) (compEnvC scope cl s₃.heap.objs.size X.env))
        (RR (.ref s.heap.objs.size) s₃.heap.objs.size) s₄:=fun s₄ I4 st1=>by
      refine codeAny_loop rfl (fun n s'=>∃ i ys H',Inv X' [] (comp0 NL ix σ) H' s'∧tn i s'.heap∧(∀ b∈fp,H' b=none)∧W i n ys H') (fun n s' hI=>?_) m0 ⟨0,[],_,I4,st1,fun b hb'=>(hf3 b hb').1,w0⟩
      obtain ⟨i,ys,H',I',st',fr',w'⟩:=hI
      show wpAny _ X.A ((compTurn (.ListComp elt [⟨tg,iter,ifs,0⟩] scope pos) 0 (.ref it) (.ref s.heap.objs.size) (compEnvC scope cl s₃.heap.objs.size X.env)).onRaise (fun x=>do noteFrame x (compEnvC scope cl s₃.heap.objs.size X.env);theTreesLotGoes x)) _ _ s'
      refine wpAny_noted ?_
      rw [compTurn_list]
      obtain ⟨hacc,hz8,alt⟩:=turn i n ys H' w'
      rcases alt with ⟨stop,qn⟩ | ⟨go,N,hN,step⟩
      · have d:=T.done X' p1 p2 p3 p6 i [] s' (comp0 NL ix σ) H' (notedBy (model X.prog X.w) X.A (compEnvC scope cl s₃.heap.objs.size X.env) fun e s'=>RR (.ref s.heap.objs.size) s₃.heap.objs.size (.error e) s') I' (stat fr') st' stop
        rw [p4] at d
        refine wpAny_bind (wpAny_standAt (wpAny_bind (thn d fun r s1 ⟨hr,I1⟩=>?_)))
        subst hr
        exact wpAny_pure (fin i n ys H' s1 I1 w' qn)
      · have d:=T.item X' p1 p2 p3 p6 i [] s' (comp0 NL ix σ) H' (notedBy (model X.prog X.w) X.A (compEnvC scope cl s₃.heap.objs.size X.env) fun e s'=>RR (.ref s.heap.objs.size) s₃.heap.objs.size (.error e) s') I' (stat fr') st' go
        rw [p4] at d
        refine wpAny_bind (wpAny_standAt (wpAny_bind (thn d fun r s1 ⟨u,hr,h4⟩=>?_)))
        subst hr
        refine wpAny_bind (thn h4 fun _ s5 ⟨x,H5,I5,r5,y5,st5,fr5⟩=>?_)
        have I5':=I5.pinned (stat fr5) (T.obj _ _ st5)
        have nofail:∀ {α:Type} {t:Sem α} {R:α→Shared→Prop} {sx:Shared},wpAny (model X'.prog X'.w) X'.A t R X'.xe sx→wpAny (model X.prog X.w) X.A t R (notedBy (model X.prog X.w) X.A (compEnvC scope cl s₃.heap.objs.size X.env) fun e s'=>RR (.ref s.heap.objs.size) s₃.heap.objs.size (.error e) s') sx:=fun {α t R sx} hh=>by
          rw [p1,p2,p4,p7] at hh
          exact wpAny_mono hh (fun _ _ z=>z) fun _ _ z=>z.elim
        have again:∀ {σ7:St} {H7:Hp} {s7:Shared} {ys':List V},σ7.drop NL.length=ix.map (fun j=>σ.getD j none)→Inv X' ([]++pinsAt fp s5.heap) σ7 H7 s7→(∃ m',m' < n∧W (i+1) m' ys' H7)→∃ m,m < n∧∃ i ys H',Inv X' [] (comp0 NL ix σ) H' s7∧tn i s7.heap∧(∀ b∈fp,H' b=none)∧W i m ys H':=fun {σ7 H7 s7 ys'} hσ I7 n7=>by
          obtain ⟨m',hm,w7⟩:=n7
          have Iw:Inv X' ([]++pinsAt fp s5.heap) (comp0 NL ix σ) H7 s7:=I7.weak (by rw [I7.len,I'.len]) fun j v hj=>by
            have hlj:NL.length≤j:=by
              rcases Nat.lt_or_ge j NL.length with z | z
              · exfalso
                unfold comp0 at hj
                rw [List.getElem?_append_left (by simpa using z),List.getElem?_map] at hj
                cases q:NL[j]? with
                | none=>rw [q] at hj;cases hj
                | some y=>rw [q] at hj;cases hj
              · exact z
            unfold comp0 at hj
            rw [List.getElem?_append_right (by simpa using hlj),List.length_map,← hσ,List.getElem?_drop] at hj
            rw [← hj]
            congr 1
            omega
          refine ⟨m',hm,i+1,ys',H7,Iw.unpinned,T.keep _ _ _ st5 fun b hb' o e=>(I7.pin (b,o) (List.mem_append_right _ (List.mem_append_right _ (mem_pinsAt hb' e)))).1,fun b hb'=>?_,w7⟩
          obtain ⟨o,e,d⟩:=T.obj _ _ st5 b hb'
          exact (I7.pin (b,o) (List.mem_append_right _ (List.mem_append_right _ (mem_pinsAt hb' e)))).2.1
        have hg':=nofail (hg _ s5 (comp0 NL ix σ) H5 x u _ I5' r5 (step x H5 y5))
        rw [p5] at hg'
        refine wpAny_bind (thn hg' fun _ s6 ⟨σ6,H6,I6,hσ6,q6⟩=>?_)
        have ht':=nofail (ht _ s6 σ6 H6 _ I6 q6)
        rw [p5] at ht'
        refine wpAny_bind (thn ht' fun ok s7 ⟨H7,I7,q7⟩=>?_)
        cases ok with
        | false=>
          have q7':N ys H7:=by simpa using q7
          exact wpAny_pure ⟨rfl,again hσ6 I7 (hN _ _ q7')⟩
        | true=>
          have q7':=(if_pos rfl).mp q7
          have he':=nofail (he _ s7 σ6 H7 _ I7 q7')
          rw [p5] at he'
          refine wpAny_bind (wpAny_bind (thn he' fun v s8 ⟨y,H8,I8,r8,ha8,q8⟩=>?_))
          have ap:=nofail (mt_append _ s8 σ6 H8 (.ref s.heap.objs.size) [y] (.ref s.heap.objs.size) [v] (fun _ H9=>H9=upd H8 s.heap.objs.size (.lst (ys++[y]))) I8 rfl (.cons r8 .nil) ⟨_,ys,y,rfl,rfl,ha8,hz8,rfl⟩)
          refine wpAny_bind (thn ap fun _ s9 ⟨z,H9,I9,r9,e9⟩=>wpAny_pure (wpAny_pure ⟨rfl,?_⟩))
          subst e9
          exact again hσ6 I9 (hN _ _ q8)
    exact codeAny_compStart_list (loop _ I4 st1) (T.self X.A 0 _ _ _ st1 (loop _ I4 st1))
  exact key
theorem pe_comp {scope:Scope} {NL:List Str} {ix:List Nat} {elt tg iter:Expr} {ifs:List Expr} {pos:Pos} {wi:TI} {g:TG} {tt:TT} {te:TE}
    (hc:X.calm=true) (hi:PI X tg iter wi) (S:CompScope X scope NL ix)
    (hb:∀ (cl:List (Str × Addr)) (C:Addr) (s₃:Shared) (H₃:Hp) (fp:List Addr) (pins:List (Addr × Obj)),PG (cxComp X scope NL ix cl C s₃ H₃ fp pins) tg g∧PIfs (cxComp X scope NL ix cl C s₃ H₃ fp pins) ifs tt∧PE (cxComp X scope NL ix cl C s₃ H₃ fp pins) elt te)
    (hs:∀ x,foldedSetIterable iter X.env x=pure x:=by intro _;rfl):PE X (.ListComp elt [⟨tg,iter,ifs,0⟩] scope pos) (tComp NL ix wi g tt te):=by
  intro pins s σ H Q I h
  obtain ⟨cl,hcl,c1,c2⟩:=closure_ok (scope:=scope) (env:=X.env) fun x hx=>by
    rcases S.free _ hx rfl with z | z
    · exact I.ok.has x (.inl z)
    · exact I.ok.has x (.inr z)
  rw [eval_ListComp]
  refine wpAny_comprehension_free (use:=none) rfl hs hcl S.kind S.names (thn (hi pins s σ H _ I h) fun xv s1 h1=>thn h1 fun itv s2 h2=>?_)
  obtain ⟨it,fp,tn,J,H2,rfl,I2,T,st2,f2,q⟩:=h2
  refine comp_run (RR:=fun acc C=>compPost (model X.prog X.w) X.A X.xe none (EP X pins σ Q) acc C) hc S c1 c2 hb I2 T st2 f2 q ?_
  intro acc C H' s' m' I' hn fC q'
  refine ⟨m',hn,fun h' sb=>⟨.ref acc,H',?_,rfl,q'⟩⟩
  exact I'.turned (t':=s'.toks) (fun b o hb e=>sb.extBut b o hb e) fC.1 fC.2.1 fC.2.2.2.1 fC.2.2.2.2.1 fC.2.2.2.2.2
theorem ps_comp {i:Nat} {y:Str} {py spos:Pos} {scope:Scope} {NL:List Str} {ix:List Nat} {elt tg iter:Expr} {ifs:List Expr} {pos:Pos} {wi:TI} {g:TG} {tt:TT} {te:TE}
    (hN:X.N.Nodup) (hiy:X.N[i]?=some y) (hy:Loc X.env.scope y)
    (hc:X.calm=true) (hi:PI X tg iter wi) (S:CompScope X scope NL ix)
    (hb:∀ (cl:List (Str × Addr)) (C:Addr) (s₃:Shared) (H₃:Hp) (fp:List Addr) (pins:List (Addr × Obj)),PG (cxComp X scope NL ix cl C s₃ H₃ fp pins) tg g∧PIfs (cxComp X scope NL ix cl C s₃ H₃ fp pins) ifs tt∧PE (cxComp X scope NL ix cl C s₃ H₃ fp pins) elt te)
    (hsw:swapsWith (.ListComp elt [⟨tg,iter,ifs,0⟩] scope pos) (some (.Name y py)) spos.line X.env=pure true:=by rfl)
    (hs:∀ x,foldedSetIterable iter X.env x=pure x:=by intro _;rfl)
    (hf:X.fn y=true∨X.env.scope.names.lookup y=some .local:=by first | exact .inl rfl | exact .inr rfl | assumption) :
    PS X (.Assign [.Name y py] (.ListComp elt [⟨tg,iter,ifs,0⟩] scope pos) spos) (tAsg (tComp NL ix wi g tt te) (gName i)):=by
  intro pins s σ H D I h
  obtain ⟨cl,hcl,c1,c2⟩:=closure_ok (scope:=scope) (env:=X.env) fun x hx=>by
    rcases S.free _ hx rfl with z | z
    · exact I.ok.has x (.inl z)
    · exact I.ok.has x (.inr z)
  rw [exec_Assign_Name_used _ _ _ _ hsw]
  refine wpAny_bind (wpAny_standAt (wpAny_bind ?_))
  show wpAny _ X.A (do let _ ← comprehension (.ListComp elt [⟨tg,iter,ifs,0⟩] scope pos) scope X.env _ (newList []) false (eval iter X.env) (some (assign (.Name y py) X.env))) _ _ s
  refine wpAny_bind (thn (wpAny_comprehension_free (use:=some (assign (.Name y py) X.env)) (Q:=fun _ s'=>SP X pins D .next s') rfl hs hcl S.kind S.names
    (thn (hi pins s σ H _ I h) fun xv s1 h1=>thn h1 fun itv s2 h2=>?_)) fun _ s' hq=>wpAny_pure (wpAny_pure hq))
  obtain ⟨it,fp,tn,J,H2,rfl,I2,T,st2,f2,q⟩:=h2
  refine comp_run (RR:=fun acc C=>compPost (model X.prog X.w) X.A X.xe (some (assign (.Name y py) X.env)) (fun _ s'=>SP X pins D .next s') acc C) (Q:=fun x H1=>gName i x σ H1 D.nx) hc S c1 c2 hb I2 T st2 f2 q ?_
  intro acc C H' s' m' I' hn fC q'
  show wpAny _ X.A (assign (.Name y py) X.env (.ref acc)) _ _ _
  refine wpAny_assign_Name (store_ok2 I' hN hiy hy (v:=.ref acc) rfl (fun s'' I'' hsb=>?_) hf)
  obtain ⟨a,sb,ha⟩:=hsb
  have hne:C≠a:=by
    rcases ha with z | z
    · rw [z];exact fC.2.1
    · exact fun w=>fC.2.2.2.2.1 y a z w.symm
  refine ⟨m',hn.sameBut sb hne,fun h' sb'=>⟨_,H',?_,q'⟩⟩
  exact I''.turned (t':=s''.toks) (fun b o hb e=>sb'.extBut b o hb e) fC.1 fC.2.1 fC.2.2.2.1 fC.2.2.2.2.1 fC.2.2.2.2.2
theorem comp_by {J:It} {NL:List Str} {ix:List Nat} {g:TG} {tt:TT} {te:TE} {σ:St} {H1:Hp} {Qs:Hp→Prop} {acc:Addr} (n:Nat) (hn:n < 1000) (Pv:Nat→List V→Hp→Prop)
    (hacc:∀ i ys H2,Pv i ys H2→H2 acc=some (.lst ys)∧ys.length≤i) (h0:Pv 0 [] (upd H1 acc (.lst []))) (hstop:∀ ys H2,Pv n ys H2→J.stop n H2∧Qs H2)
    (hturn:∀ i ys H2,i < n→Pv i ys H2→J.go i H2∧∀ x H3,J.yld i H2 x H3→g x (comp0 NL ix σ) H3 fun σ' H4=>σ'.drop NL.length=ix.map (fun j=>σ.getD j none)∧tt σ' H4 fun b H5=>
      if b=true then te σ' H5 fun v H6=>H6 acc=some (.lst ys)∧Pv (i+1) (ys++[v]) (upd H6 acc (.lst (ys++[v]))) else Pv (i+1) ys H5) :
    ∃ W:Nat→Nat→List V→Hp→Prop,(∃ m,W 0 m [] (upd H1 acc (.lst []))) ∧
    ∀ i m ys H2,W i m ys H2→H2 acc=some (.lst ys)∧ys.length < sizeLine ∧
      ((J.stop i H2∧Qs H2)∨(J.go i H2∧∃ N:List V→Hp→Prop,(∀ ys' H',N ys' H'→∃ m',m' < m∧W (i+1) m' ys' H') ∧
        ∀ x H3,J.yld i H2 x H3→g x (comp0 NL ix σ) H3 fun σ' H4=>σ'.drop NL.length=ix.map (fun j=>σ.getD j none)∧tt σ' H4 fun b H5=>
          if b=true then te σ' H5 fun v H6=>H6 acc=some (.lst ys)∧N (ys++[v]) (upd H6 acc (.lst (ys++[v]))) else N ys H5)):=by
  refine ⟨fun i m ys H2=>i≤n∧m=n - i∧Pv i ys H2,⟨n,Nat.zero_le _,rfl,h0⟩,fun i m ys H2 ⟨hi,hm,hp⟩=>?_⟩
  obtain ⟨a1,a2⟩:=hacc i ys H2 hp
  refine ⟨a1,small1000 (by omega),?_⟩
  rcases Nat.lt_or_ge i n with lt | ge
  · obtain ⟨go,tn⟩:=hturn i ys H2 lt hp
    exact .inr ⟨go,Pv (i+1),fun ys' H' hN=>⟨n - (i+1),by omega,by omega,rfl,hN⟩,tn⟩
  · have e:i=n:=by omega
    subst e
    exact .inl (hstop ys H2 hp)
end
end L2
namespace L2
open PySem PySem.Spec PyProof.Rows
section
variable {prog:Program} {w:World} {A:Around} {E:Value→Shared→Prop} {s:Shared}
theorem nextOf_tuple_item {it t:Addr} {i:Nat} {items:Array Value} {x:Value} {Q:Value→Shared→Prop} (hit:s.heap.IsTupleIter it t i)
    (ht:s.heap.IsTuple t items) (hx:items[i]?=some x)
    (hQ:∀ h',h'.IsTupleIter it t (i+1)→Heap.SameBut it s.heap h'→Q x { s with heap:=h' }) :
    wpAny (model prog w) A (Builtin.SmallTypes.nextOf (.ref it)) Q E s:=by
  obtain ⟨o,ho,hc,hd⟩:=id hit
  obtain ⟨ol,hol,_,nl,hdl⟩:=ht
  unfold Builtin.SmallTypes.nextOf
  refine wpAny_bind (wpAny_callSpecial?_slot (name:=Str.ofString "__next__") hit.typeIs F.slot_tuple_iterator_next
    (wpAny_call_entry F.slot_tuple_iterator_next hit.typeIs F.entry_tuple_iterator_next ?_ (F.args_tuple_iterator_next_1 _)))
  show wpAny _ _ (field (.ref it) 0 >>= _) _ _ s
  refine wpAny_bind (wpAny_field ho hd (x:=.ref t) rfl ?_)
  show wpAny _ _ (if (Value.ref t == Value.none)=true then _ else _) _ _ s
  rw [if_neg (show ¬ ((Value.ref t == Value.none)=true) from Bool.false_ne_true)]
  show wpAny _ _ (field (.ref it) 1 >>= _) _ _ s
  refine wpAny_bind (wpAny_field ho hd (x:=.int i 0) rfl ?_)
  show wpAny _ _ (seqItems? (.ref t) >>= _) _ _ s
  refine wpAny_bind (wpAny_seqItems hol hdl ?_)
  simp only [Int.toNat_natCast,hx]
  refine wpAny_bind (wpAny_setField ho hd (by simp) (wpAny_pure ⟨x,rfl,wpAny_pure (hQ _ ?_ (Heap.SameBut.update ..))⟩))
  exact ⟨_,Heap.get?_update_self _ ho (Obj.isFreed_of_fields (Obj.data_mapFields hd _)),(Obj.cls_mapFields ..).trans hc,by
    rw [Obj.data_mapFields hd];simp [rawInt]⟩
theorem nextOf_tuple_end {it t:Addr} {i:Nat} {items:Array Value} {Q:Value→Shared→Prop} (hh:A.handled=none)
    (hit:s.heap.IsTupleIter it t i) (ht:s.heap.IsTuple t items) (hx:items[i]?=none)
    (hE:∀ h' e,Heap.ExtBut it s.heap h'→(∃ o,h'.get? e=some o∧o.cls=.type "StopIteration")→E (.ref e) { s with heap:=h' }) :
    wpAny (model prog w) A (Builtin.SmallTypes.nextOf (.ref it)) Q E s:=by
  obtain ⟨o,ho,hc,hd⟩:=id hit
  obtain ⟨ol,hol,_,nl,hdl⟩:=ht
  unfold Builtin.SmallTypes.nextOf
  refine wpAny_bind (wpAny_callSpecial?_slot (name:=Str.ofString "__next__") hit.typeIs F.slot_tuple_iterator_next
    (wpAny_call_entry F.slot_tuple_iterator_next hit.typeIs F.entry_tuple_iterator_next ?_ (F.args_tuple_iterator_next_1 _)))
  show wpAny _ _ (field (.ref it) 0 >>= _) _ _ s
  refine wpAny_bind (wpAny_field ho hd (x:=.ref t) rfl ?_)
  show wpAny _ _ (if (Value.ref t == Value.none)=true then _ else _) _ _ s
  rw [if_neg (show ¬ ((Value.ref t == Value.none)=true) from Bool.false_ne_true)]
  show wpAny _ _ (field (.ref it) 1 >>= _) _ _ s
  refine wpAny_bind (wpAny_field ho hd (x:=.int i 0) rfl ?_)
  show wpAny _ _ (seqItems? (.ref t) >>= _) _ _ s
  refine wpAny_bind (wpAny_seqItems hol hdl ?_)
  simp only [Int.toNat_natCast,hx]
  refine wpAny_bind (wpAny_rule (wpAny_bind (wpAny_setField ho hd (by simp) ?_)))
  show wpAny _ _ (newExc (.type "StopIteration") [] >>= _) _ _ _
  refine wpAny_bind ?_
  simp only [newExc,newTuple]
  refine wpAny_bind (wpAny_newObj_type ?_ (by size_fits))
  refine wpAny_bind (m:=firstArgMember _ _) (wpAny_of_eq (a:=Value.none) (by first | rfl | (simp only [firstArgMember];rfl)) ?_)
  refine wpAny_newObj_type ?_ (by size_fits)
  simp only [raiseNew]
  refine wpAny_bind (wpAny_handled ?_)
  first | rw [show A.in1.handled=none from hh] | rw [hh]
  refine wpAny_bind (wpAny_pure (wpAny_throw ?_))
  exact hE _ _ (((Heap.SameBut.update ..).extBut.push _).push _) ⟨_,Heap.get?_push_size _ rfl,rfl⟩
end
theorem draws_tuple {prog:Program} {w:World} {A:Around} (hh:A.handled=none) (it l:Addr) (hne:l≠it) (items:Array Value) :
    Draws prog w A it [it,l] items.size (fun i v=>items[i]?=some v) (fun i h=>h.IsTupleIter it l i∧h.IsTuple l items) where
  live:=fun _ _ st=>let ⟨o,ho,_⟩:=st.1;⟨o,ho⟩
  frame:=fun _ _ _ st hk=>⟨st.1.at fun o e=>hk it (by simp) o e,let ⟨o,ho,r⟩:=st.2;⟨o,hk l (by simp) o ho,r⟩⟩
  item:=fun i s Q E hi st hQ=>by
    refine nextOf_tuple_item st.1 st.2 (x:=items[i]) (by simp [hi]) fun h' hit' hs'=>?_
    exact hQ _ h' s.toks (by simp [hi]) ⟨hit',st.2.extBut hs'.extBut hne⟩ hs'
  done:=fun s Q E st hE=>nextOf_tuple_end hh st.1 st.2 (by simp) hE
theorem draws_str {prog:Program} {w:World} {A:Around} (hh:A.handled=none) (it:Addr) (x:Str) (t:Tok) :
    Draws prog w A it [it] x.cps.size (fun i v=>∃ c u,x.cps[i]?=some c∧v=.str ⟨#[c]⟩ u) (fun i h=>h.IsStrIter it (strIterType x) x t i):=by
  unfold strIterType
  cases x.cps.all (· < 128) with
  | true=>exact Draws.strAscii hh it x t
  | false=>exact Draws.strWide hh it x t
inductive SK where
  | lst (a:Addr) | tup (a:Addr) | str (x:Str)
def SK.val:SK→V
  | .lst a=>.ref a
  | .tup a=>.ref a
  | .str x=>.str x
def signs (x:Str):List V:=x.cps.toList.map fun c=>.str ⟨#[c]⟩
def SK.has (H:Hp):SK→List V→Prop
  | .lst a,xs=>Rd H a (.lst xs)
  | .tup a,xs=>Rd H a (.tup xs)
  | .str x,xs=>xs=signs x
def SK.own (it:Addr) (k:Nat) (h:Heap):SK→Prop
  | .lst a=>h.IsListIter it a k
  | .tup a=>h.IsTupleIter it a k
  | .str x=>∃ t,h.IsStrIter it (strIterType x) x t k
theorem SK.own_at {it:Addr} {k:Nat} {h h':Heap} {κ:SK} (x:κ.own it k h) (e:∀ o,h.get? it=some o→h'.get? it=some o):κ.own it k h':=by
  cases κ with
  | lst a=>exact Heap.IsListIter.at x e
  | tup a=>exact Heap.IsTupleIter.at x e
  | str y=>obtain ⟨t,o,ho,r⟩:=x;exact ⟨t,o,e o ho,r⟩
theorem SK.own_obj {it:Addr} {k:Nat} {h:Heap} {κ:SK} (x:κ.own it k h):∃ o,h.get? it=some o∧(∀ v,o.data≠.cell v)∧o.cls≠.type "tuple" ∧ o.cls≠.type "zip" ∧ o.cls≠.type "enumerate" := by
  cases κ with
  | lst a=>obtain ⟨o,ho,c,d⟩:=x;exact ⟨o,ho,(fun v z=>by rw [d] at z;cases z),(fun z=>by rw [c] at z;simp at z),(fun z=>by rw [c] at z;simp at z),(fun z=>by rw [c] at z;simp at z)⟩
  | tup a=>obtain ⟨o,ho,c,d⟩:=x;exact ⟨o,ho,(fun v z=>by rw [d] at z;cases z),(fun z=>by rw [c] at z;simp at z),(fun z=>by rw [c] at z;simp at z),(fun z=>by rw [c] at z;simp at z)⟩
  | str y=>
    obtain ⟨t,o,ho,c,d⟩:=x
    refine ⟨o,ho,(fun v z=>by rw [d] at z;cases z),?_,?_,?_⟩ <;>
    · intro z
      rw [c] at z
      unfold strIterType at z
      split at z <;> simp at z
theorem Rd.inj {H:Hp} {a:Addr} {u v:HO} (hu:∀ o w,u≠.frz o w) (hv:∀ o w,v≠.frz o w) (x:Rd H a u) (y:Rd H a v):u=v:=by
  rcases x with x | ⟨o,x⟩ <;> rcases y with y | ⟨p,y⟩ <;> rw [x] at y
  · exact Option.some.inj y
  · exact absurd (Option.some.inj y) (hu p v)
  · exact absurd (Option.some.inj y).symm (hv o u)
  · have:=Option.some.inj y
    injection this
theorem SK.inj {H:Hp} {κ:SK} {xs ys:List V} (x:κ.has H xs) (y:κ.has H ys):xs=ys:=by
  cases κ with
  | lst a=>have:=Rd.inj (u:=.lst xs) (v:=.lst ys) (fun _ _ z=>nomatch z) (fun _ _ z=>nomatch z) x y;injection this
  | tup a=>have:=Rd.inj (u:=.tup xs) (v:=.tup ys) (fun _ _ z=>nomatch z) (fun _ _ z=>nomatch z) x y;injection this
  | str z=>exact Eq.trans x (Eq.symm y)
def SK.box:SK→List Addr
  | .lst a=>[a]
  | .tup a=>[a]
  | .str _=>[]
theorem SK.box_some {H:Hp} {κ:SK} {xs:List V} (x:κ.has H xs) {b:Addr} (hb:b∈κ.box):H b≠none:=by
  cases κ with
  | lst a => have e:b=a:=by simpa [SK.box] using hb
             subst e;intro z;rcases x with q | ⟨o,q⟩ <;> (rw [z] at q;cases q)
  | tup a => have e:b=a:=by simpa [SK.box] using hb
             subst e;intro z;rcases x with q | ⟨o,q⟩ <;> (rw [z] at q;cases q)
  | str z=>simp [SK.box] at hb
section
variable {X:Cx} {pins:List (Addr × Obj)} {σ:St} {H:Hp} {s:Shared}
theorem sk_draws {κ:SK} {it:Addr} {k:Nat} {xs:List V} {A:Around} (I:Inv X pins σ H s) (hv:κ.has H xs) (hit:κ.own it k s.heap) (hn:H it=none) (hh:A.handled=none) :
    ∃ (P:Nat→Value→Prop) (St:Nat→Heap→Prop),Draws X.prog X.w A it (it :: κ.box) xs.length P St∧St k s.heap∧(∀ i u,P i u→∃ x,xs[i]?=some x∧RelV x u)∧(∀ i h,St i h→κ.own it i h):=by
  have ne:∀ b∈κ.box,b≠it:=fun b hb z=>SK.box_some hv hb (by rw [z];exact hn)
  cases κ with
  | lst a=>
    obtain ⟨_,its,n,r,e⟩:=Rd.ok hv I.hok
    have hl:s.heap.IsList a its.toArray:=⟨_,e,rfl,n,rfl⟩
    have D:=Draws.list (prog:=X.prog) (w:=X.w) hh it a (ne a (by simp [SK.box])) its.toArray
    rw [List.size_toArray,← r.length] at D
    refine ⟨_,_,D,⟨hit,hl⟩,fun i u hu=>?_,fun i h st=>st.1⟩
    · have hu':its[i]?=some u:=by simpa using hu
      have hlt:i < xs.length:=by rw [r.length];exact (List.getElem?_eq_some_iff.mp hu').1
      obtain ⟨u',e1,e2⟩:=r.get (List.getElem?_eq_getElem hlt)
      rw [hu'] at e1;cases e1
      exact ⟨_,List.getElem?_eq_getElem hlt,e2⟩
  | tup a=>
    obtain ⟨_,its,r,ht⟩:=Rd.ok hv I.hok
    have hl:s.heap.IsTuple a its.toArray:=ht
    have D:=draws_tuple (prog:=X.prog) (w:=X.w) hh it a (ne a (by simp [SK.box])) its.toArray
    rw [List.size_toArray,← r.length] at D
    refine ⟨_,_,D,⟨hit,hl⟩,fun i u hu=>?_,fun i h st=>st.1⟩
    · have hu':its[i]?=some u:=by simpa using hu
      have hlt:i < xs.length:=by rw [r.length];exact (List.getElem?_eq_some_iff.mp hu').1
      obtain ⟨u',e1,e2⟩:=r.get (List.getElem?_eq_getElem hlt)
      rw [hu'] at e1;cases e1
      exact ⟨_,List.getElem?_eq_getElem hlt,e2⟩
  | str z=>
    obtain ⟨t,hit⟩:=hit
    have hv':xs=signs z:=hv
    subst hv'
    have D:=draws_str (prog:=X.prog) (w:=X.w) hh it z t
    have e:(signs z).length=z.cps.size:=by simp [signs]
    rw [← e] at D
    refine ⟨_,_,D,hit,fun i u hu=>?_,fun i h st=>⟨t,st⟩⟩
    · obtain ⟨c,u',hc,rfl⟩:=hu
      refine ⟨.str ⟨#[c]⟩,?_,⟨u',rfl⟩⟩
      simp only [signs,List.getElem?_map,Array.getElem?_toList,hc,Option.map_some]
theorem Inv.turnedNew {ch:List Addr} {p:Addr} {o:HO} {h':Heap} {tk:Nat} (I:Inv X pins σ H s)
    (hch:∀ b∈ch,FpOk X pins H b) (k:∀ b ob,b ∉ ch→s.heap.get? b=some ob→h'.get? b=some ob) (hp:s.heap.objs.size≤p) (new:ObjOk X.prog X.w (upd H p o) h' p o) :
    Inv X pins σ (upd H p o) { s with heap:=h',toks:=tk }:=by
  have hn:H p=none:=I.hok.fresh hp
  refine I.call (g':=s.gens) (d':=s.drawn) (ch:=ch) ⟨fun b u q _ _ hx=>k b u hx q,fun b u q _ _ hx=>⟨u.slots,k b u hx q⟩,fun b u q n _=>?_,fun b u q hx=>⟨u,k b u hx q⟩,fun b xs q=>?_,fun b u xs q=>?_,fun b ps q=>⟨#[],?_⟩⟩ (fun b u e=>?_) I.bare
    fun b hb=>⟨(hch b hb).2.2.2.1,(hch b hb).2.1,(hch b hb).2.2.2.2.1,(hch b hb).2.2.2.2.2⟩
  · rw [upd_ne (Nat.ne_of_lt (Nat.lt_of_lt_of_le (Heap.lt_size q) hp))];exact n
  · rw [upd_ne (ne_of_none q hn)];exact q
  · rw [upd_ne (ne_of_none q hn)];exact q
  · rw [upd_ne (ne_of_none q hn),q];simp
  · by_cases hb:b=p
    · subst hb;rw [upd_same] at e;cases e;exact new
    · rw [upd_ne hb] at e
      refine (I.hok b u e).stay (fun c v hc q=>k c v (fun hm=>?_) q) (fun c q=>by rw [upd_ne (ne_of_none q hn)];exact q) fun c xs q=>by rw [upd_ne (ne_of_none q hn)];exact q
      have z:=(hch c hm).1
      rcases hc with hc | hc
      · rw [hc,e] at z;cases z
      · rw [hc] at z;cases z
end
def Ite (κ:SK):It:=
  ⟨fun i H=>∃ xs x,κ.has H xs∧xs[i]?=some x,fun i H v H'=>∃ p x,v=.ref p∧H p=none∧H'=upd H p (.tup [.int i,x])∧∀ xs,κ.has H xs→xs[i]?=some x,fun i H=>∃ xs,κ.has H xs∧xs.length=i⟩
theorem turn_enum {P:Program} {w:World} {K:PySem.W.Frag} {elts:List Expr} {x1:Nat} {tpos:Pos} (κ:SK) (e it:Addr) (hei:e≠it) :
    Turn P w K (.Tuple elts x1 tpos) (Ite κ) [e,it] e (fun i h=>(∃ old,IsEnum h e it i old)∧κ.own it i h) where
  mem:=by simp
  obj:=fun i h st b hb=>by
    obtain ⟨⟨old,he⟩,ho⟩:=st
    simp only [List.mem_cons,List.not_mem_nil,or_false] at hb
    rcases hb with rfl | rfl
    · exact ⟨_,he,fun v z=>by
        have z':Data.fields _=Data.cell v:=z
        cases z'⟩
    · obtain ⟨o,h1,h2,_⟩:=SK.own_obj ho
      exact ⟨o,h1,h2⟩
  keep:=fun i h h' st k=>by
    obtain ⟨⟨old,he⟩,ho⟩:=st
    exact ⟨⟨old,k e (by simp) _ he⟩,SK.own_at ho fun o q=>k it (by simp) o q⟩
  item:=by
    intro X hP hw hK hc i pins s σ H E I hf st hg
    subst hP hw hK
    obtain ⟨⟨old,he⟩,ho⟩:=st
    obtain ⟨xs,x,hx,hxi⟩:=hg
    have hlt:i < xs.length:=(List.getElem?_eq_some_iff.mp hxi).1
    have hh:X.A.in1.handled=none:=I.ok.hd hc
    obtain ⟨Pp,St,D,hst,hrel,hown⟩:=sk_draws (A:=X.A.in1) I hx ho (hf it (by simp)).1 hh
    have hef:e ∉ it :: κ.box:=fun z=>by
      rcases List.mem_cons.mp z with z | z
      · exact hei z
      · exact SK.box_some hx z (hf e (by simp)).1
    refine wpAny_pyNext_enum_itemD D he hst hlt hei hef fun y h' tk hy ho' hst' hT hsz hk=>⟨_,rfl,?_⟩
    refine wpAny_letOwnedTupleGo_enum ho' fun h'' he'' hs''=>?_
    obtain ⟨x',hx',rx⟩:=hrel i y hy
    have exx:x'=x:=Option.some.inj (hx'.symm.trans hxi)
    subst exx
    have kk:∀ b ob,b ∉ [e,it]→s.heap.get? b=some ob→h''.get? b=some ob:=fun b ob hb q=>
      (hs''.2 b (fun z=>hb (by simp [z]))).trans (hk b ob (fun z=>hb (by simp [z])) (fun z=>hb (by simp [z])) q)
    have ne:s.heap.objs.size≠e:=Nat.ne_of_gt (Heap.lt_size he)
    have hT':h''.get? s.heap.objs.size=some { cls:=.type "tuple", data:=.seq #[.int i tk,y] }:=(hs''.2 _ ne).trans hT
    refine ⟨.ref s.heap.objs.size,upd H s.heap.objs.size (.tup [.int i,x']),I.turnedNew (tk:=tk+1) hf kk (Nat.le_refl _) ⟨⟨(by show 2≤sizeLine;decide),_,hT',rfl⟩,[.int i tk,y],.cons ⟨tk,rfl⟩ (.cons rx .nil),_,hT',rfl,0,rfl⟩,rfl,
      ⟨_,x',rfl,I.hok.fresh (Nat.le_refl _),rfl,fun ys hy'=>by rw [SK.inj hy' hx];exact hxi⟩,⟨⟨y,by simpa using he''⟩,SK.own_at (hown _ _ hst') fun o q=>(hs''.2 it (Ne.symm hei)).trans q⟩,fun b hb=>?_⟩
    obtain ⟨o,hob,_⟩:∃ o,s.heap.get? b=some o∧True:=by
      simp only [List.mem_cons,List.not_mem_nil,or_false] at hb
      rcases hb with rfl | rfl
      · exact ⟨_,he,trivial⟩
      · obtain ⟨o,h1,_⟩:=SK.own_obj ho;exact ⟨o,h1,trivial⟩
    rw [upd_ne (Nat.ne_of_lt (Heap.lt_size hob))]
    exact (hf b hb).1
  done:=by
    intro X hP hw hK hc i pins s σ H E I hf st hg
    subst hP hw hK
    obtain ⟨⟨old,he⟩,ho⟩:=st
    obtain ⟨xs,hx,hlen⟩:=hg
    have hh:X.A.in1.handled=none:=I.ok.hd hc
    obtain ⟨Pp,St,D,hst,hrel,hown⟩:=sk_draws (A:=X.A.in1) I hx ho (hf it (by simp)).1 hh
    have hst':St xs.length s.heap:=by rw [hlen];exact hst
    refine wpAny_pyNext_enum_endD D he hst' fun h' hx'=>⟨rfl,?_⟩
    have f:=hf it (by simp)
    exact I.turned (t':=s.toks) (fun b o hb q=>hx' b o hb q) f.1 f.2.1 f.2.2.2.1 f.2.2.2.2.1 f.2.2.2.2.2
  self:=fun _ _ _ _ _ st h=>let ⟨⟨_,he⟩,_⟩:=st;wpAny_pyIter_enum he h
open AutoSeq1 (wpAny_loadPart') in
set_option maxHeartbeats 4000000 in
theorem meets_enumerate_newT (l:Addr) (items:Array Value) (n:Nat) (dct:Option Addr) (sl:Array (Option Value)) :
    Meets (Builtin.«enumerate.__new__» ⟨[.type "enumerate", .ref l],[]⟩) (fun _ R s=>s.heap.get? l=some { cls:=.type "tuple", dict:=dct,data:=.seq items n,slots:=sl } ∧
      R (.ok (.ret (.ref (s.heap.push { cls:=.type "tuple_iterator", data:=.fields #[.ref l,.int 0 0] }).objs.size)))
        { s with heap:=(s.heap.push { cls:=.type "tuple_iterator", data:=.fields #[.ref l,.int 0 0] }).push { cls:=.type "enumerate", data:=.fields #[.none,.bool false,.ref s.heap.objs.size,rawInt 0,.none,.none] } }):=
  .of_wp fun prog w A R s h=>by
    obtain ⟨hp,g,d,tk,os⟩:=s;obtain ⟨hl,h⟩:=h
    have hsub:=sub_enumerate
    have hL:Heap.IsTuple (Shared.heap ⟨hp,g,d,tk,os⟩) l items:=⟨_,hl,rfl,n,rfl⟩
    wp_walk using wpAny_loadPart' hl
    refine wpAny_stack_any fun st=>wpAny_pure ?_
    split
    · rename_i c _ _ _ _ _
      cases (c == Value.type "enumerate")
      · wp_walk using wpAny_loadPart' hl,wpAny_pyIter_tuple hL
        exact ⟨_,rfl,h⟩
      · wp_walk using wpAny_loadPart' hl,wpAny_pyIter_tuple hL
        exact ⟨_,rfl,h⟩
    · wp_walk using wpAny_loadPart' hl,wpAny_pyIter_tuple hL
      exact ⟨_,rfl,h⟩
theorem call_enumerate_tuple {prog:Program} {w:World} {A:Around} {E:Value→Shared→Prop} {s:Shared} {l:Addr} {items:Array Value} {Q:Value→Shared→Prop} (hL:s.heap.IsTuple l items)
    (h:∀ h',IsEnum h' (s.heap.objs.size+1) s.heap.objs.size 0 .none→h'.IsTupleIter s.heap.objs.size l 0→h'.objs.size=s.heap.objs.size+2 →
      (∀ b o,s.heap.get? b=some o→h'.get? b=some o)→Q (.ref (s.heap.objs.size+1)) { s with heap:=h' }) :
    wpAny (model prog w) A (call (.type "enumerate") [.ref l]) Q E s:=by
  obtain ⟨⟨c,dct,dt,sl⟩,hl,hc,n,hd⟩:=hL
  replace hc:c=.type "tuple" := hc
  replace hd:dt=.seq items n:=hd
  subst hc hd
  refine callType_new F.called_enumerate (by decide) (F.typeCall_enumerate_1 _) (F.newCall_enumerate_1 _) (fun obj=>F.args_object_init_2 obj _) F.entry_enumerate_new
    (meets_enumerate_newT l items n dct sl) ⟨hl,?_⟩
  have hz:(s.heap.push { cls:=.type "tuple_iterator", data:=.fields #[.ref l,.int 0 0] }).objs.size=s.heap.objs.size+1:=Heap.size_push ..
  show _∧_
  rw [hz]
  have he:IsEnum ((s.heap.push { cls:=.type "tuple_iterator", data:=.fields #[.ref l,.int 0 0] }).push
      { cls:=.type "enumerate", data:=.fields #[.none,.bool false,.ref s.heap.objs.size,rawInt 0,.none,.none] }) (s.heap.objs.size+1) s.heap.objs.size 0 .none:=by
    have:=Heap.get?_push_size (s.heap.push { cls:=.type "tuple_iterator", data:=.fields #[.ref l,.int 0 0] })
      (o:={ cls:=.type "enumerate", data:=.fields #[.none,.bool false,.ref s.heap.objs.size,rawInt 0,.none,.none] }) rfl
    rw [hz] at this;exact this
  refine ⟨⟨_,he,rfl⟩,h _ he ⟨_,Heap.get?_push_of_some _ (Heap.get?_push_size _ rfl),rfl,rfl⟩ (by rw [Heap.size_push,hz]) fun b o x=>Heap.get?_push_of_some _ (Heap.get?_push_of_some _ x)⟩
section
variable {X:Cx} {pins:List (Addr × Obj)} {σ:St} {H:Hp} {s:Shared}
theorem call_enum {κ:SK} {xs:List V} {u:Value} {E:Value→Shared→Prop} {Q:Value→Shared→Prop} (I:Inv X pins σ H s) (hv:κ.has H xs) (r:RelV κ.val u)
    (h:∀ h',IsEnum h' (s.heap.objs.size+1) s.heap.objs.size 0 .none→κ.own s.heap.objs.size 0 h'→(∀ b o,s.heap.get? b=some o→h'.get? b=some o)→Q (.ref (s.heap.objs.size+1)) { s with heap:=h' }) :
    wpAny (model X.prog X.w) X.A (call (.type "enumerate") [u]) Q E s:=by
  cases κ with
  | lst a=>
    cases (show u=Value.ref a from r)
    obtain ⟨_,its,n,rr,e⟩:=Rd.ok hv I.hok
    exact call_enumerate_list ⟨_,e,rfl,n,rfl⟩ fun h' a1 a2 _ a4=>h h' a1 a2 a4
  | tup a=>
    cases (show u=Value.ref a from r)
    obtain ⟨_,its,rr,e⟩:=Rd.ok hv I.hok
    exact call_enumerate_tuple e fun h' a1 a2 _ a4=>h h' a1 a2 a4
  | str x=>
    obtain ⟨t,q⟩:=(show ∃ t,u=Value.str x t from r)
    subst q
    exact call_enumerate_str fun h' a1 a2 _ a4=>h h' a1 ⟨t,a2⟩ a4
def iEnum (ta:TA):TI:=fun σ H R=>ta σ H fun vs H1=>∃ κ:SK,vs=[κ.val]∧(∃ xs,κ.has H1 xs)∧R (Ite κ) H1
theorem pi_enum {a:Expr} {ta:TA} {p pos:Pos} {elts:List Expr} {x1:Nat} {tpos:Pos} (hg:Gl X "enumerate") (hm:X.mg "enumerate" = none) (ha:PA X [a] ta)
    (hs:starEach [a] X.env=[(false,eval a X.env)]:=by rfl):PI X (.Tuple elts x1 tpos) (.Call (.Name "enumerate" p) [a] [] pos) (iEnum ta):=by
  intro pins s σ H R I h
  refine Call_ (ld_blt I hg hm boot_enumerate (PyProof.Rows.callWith_type1 (thn (ha pos pins s σ H _ I h) fun us s1 ⟨vs,H1,I1,r1,q1⟩=>?_) hs rfl))
  obtain ⟨κ,e,⟨xs,hx⟩,q⟩:=q1
  subst e
  obtain ⟨u,rfl,ru⟩:=vals1 r1
  refine call_enum I1 hx ru fun h' he hi hk=>?_
  refine wpAny_pyIter_enum he ⟨s1.heap.objs.size+1,[s1.heap.objs.size+1,s1.heap.objs.size],_,_,H1,rfl,I1.kept (t':=s1.toks) hk,turn_enum κ _ _ (Nat.ne_of_gt (Nat.lt_succ_self _)),⟨⟨_,he⟩,hi⟩,fun b hb=>?_,q⟩
  have hge:s1.heap.objs.size≤b:=by
    simp only [List.mem_cons,List.not_mem_nil,or_false] at hb
    rcases hb with rfl | rfl
    · exact Nat.le_succ _
    · exact Nat.le_refl _
  exact I1.fpOk hge (I1.hok.fresh hge)
end
section
variable {prog:Program} {w:World} {A:Around} {E:Value→Shared→Prop} {s:Shared}
end
section
variable {X:Cx}
end
theorem call_isinst {X:Cx}:CallR X (.builtin "isinstance") (fun vs H Q=>∃ x t T b,vs=[x,.ty T]∧TyOf X.K H x t∧PySem.W.kitOne X.K t (.type T)=some b∧Q (.bl b) H):=by
  intro pins s σ H xs us Q I r h
  obtain ⟨x,t,T,b,rfl,ty,e,q⟩:=h
  obtain ⟨u,v,rfl,ru,rv⟩:=vals2 r
  cases (show v=Value.type T from rv)
  exact isinst_ok I ru ty e fun tk=>⟨.bl b,H,I.tok tk,rfl,q⟩
end L2
namespace L2
open PySem PySem.Spec PyProof.Rows
theorem csc {X:Cx} {scope:Scope} {NL:List Str} {ix:List Nat} (esc:Scope) (N:List Str) (h1:X.env.scope=esc:=by rfl) (h2:X.N=N:=by rfl) (c1:scope.kind=.function:=by rfl)
    (c2:∀ y∈scope.names,y.2≠.cell:=by decide +kernel) (c3:∀ y∈scope.names,y.2=.local→scope.names.lookup y.1=some .local:=by decide +kernel)
    (c4:∀ y∈scope.names,y.2=.free→esc.names.lookup y.1=some .cell∨esc.names.lookup y.1=some .free:=by decide +kernel)
    (c5:∀ j∈ix,(N[j]?).bind (fun x=>scope.names.lookup x)=some .free:=by decide +kernel):CompScope X scope NL ix where
  kind:=c1
  cell:=c2
  names:=c3
  free:=fun y hy hf=>by
    have:=c4 y hy hf
    rw [← h1] at this
    exact this
  cap:=fun j hj=>by
    have:=c5 j hj
    rw [h2]
    cases e:N[j]? with
    | none=>rw [e] at this;cases this
    | some x=>rw [e] at this;exact ⟨x,rfl,this⟩
def Has (P:Program) (w:World) (K:PySem.W.Frag) (mg:Str→Option Value) (base:Heap) (x:Str) (k:Nat) (ps:List Str) (sp:Sp):Prop:=
  ∃ f fd,FnOk P w K mg base CX0 k f fd ps sp∧Binds K fd ps []∧PySem.W.keepIn K (.ref f)=true∧mg x=some (.ref f)
section
variable {P:Program} {w:World} {K:PySem.W.Frag} {mg:Str→Option Value} {base:Heap}
theorem Has.mono {x:Str} {j k:Nat} {ps:List Str} {sp:Sp} (G:Has P w K mg base x j ps sp) (h:j≤k):Has P w K mg base x k ps sp:=
  let ⟨f,fd,F,r⟩:=G;⟨f,fd,F.mono h,r⟩
def Df (K:PySem.W.Frag) (mg:Str→Option Value) (x:Str) (st:Stmt):Prop:=∃ f fd,Fun K x x st f fd∧mg x=some (.ref f)
theorem Df.has {x:Str} {st:Stmt} {N ps:List Str} {k:Nat} {sp:Sp} (D:Df K mg x st) (S:FnScope N ps (defScope st))
    (hb:∀ (kV doc pm:Value) (an:Option Addr) (cdv ct:Value) (us:List Value),us.length=ps.length→bindArgs (PySem.W.fnOf x x (defArgs st) (defBody st) (defScope st) .none kV doc pm an cdv ct) ⟨us,[]⟩=pure (ps.zip us))
    (len:∀ vs H Q E,sp vs H Q E→vs.length=ps.length)
    (hbody:∀ (f:Addr) (cdv:Value) (A:Around) (outer:List Env) (s:Shared) (H:Hp) (vs:List V) (Q:VK) (E:XK),Room k (A.deeper (envOfC x (defScope st) s.heap.objs.size f cdv))→sp vs H Q E →
      ∃ t,PSs (cxOf CX0 P w K mg base N x (defScope st) f cdv A outer s H E).nox (defBody st) t∧t { nx:=fun _ H'=>Q .non H',rt:=Q } (start N vs) H):Has P w K mg base x (k+1) ps sp:=by
  obtain ⟨f,fd,F,m⟩:=D
  exact ⟨f,fd,F.ok S len fun cdv A outer s H vs Q E hr h=>hbody f cdv A outer s H vs Q E hr h,F.binds hb,F.kp,m⟩
end
theorem pe_callH {X:Cx} {x:Str} {k:Nat} {ps:List Str} {sp:Sp} {p pos:Pos} {e:Expr} {es:List Expr} {t:TA} (G:Has X.prog X.w X.K X.mg X.base x k ps sp) (hr:Room k X.A) (hg:Gl X x) (ha:PA X (e :: es) t)
    (hdb:(x == ("__debug__" : Str))=false:=by decide) (he:starEach (e :: es) X.env=(false,eval e X.env) :: starEach es X.env:=by rfl) (hpl:(backTo pos (starEach es X.env)).any (·.1)=false:=by rfl) :
    PE X (.Call (.Name x p) (e :: es) [] pos) (tCall sp [] E0 t):=by
  obtain ⟨f,fd,F,b,kp,m⟩:=G
  exact pe_call F hr hg m kp b .nil pass0 ha hdb he hpl
structure Blt (mg:Str→Option Value):Prop where
  len:mg "len" = none
  range:mg "range" = none
  zip:mg "zip" = none
  enumerate:mg "enumerate" = none
  max:mg "max" = none
  min:mg "min" = none
  int_:mg "int" = none
  str_:mg "str" = none
  bool_:mg "bool" = none
  list_:mg "list" = none
  tuple_:mg "tuple" = none
  isinstance:mg "isinstance" = none
section
variable {p q:Addr} {H H1 H2:Hp} {o:HO}
end
theorem bt_len:bootBuiltins "len" = some (.builtin "len"):=by decide +kernel
theorem bt_max:bootBuiltins "max" = some (.builtin "max"):=by decide +kernel
theorem bt_isinstance:bootBuiltins "isinstance" = some (.builtin "isinstance"):=by decide +kernel
theorem bt_int:bootBuiltins "int" = some (.type "int"):=by decide +kernel
theorem bt_list:bootBuiltins "list" = some (.type "list"):=by decide +kernel
theorem bt_tuple:bootBuiltins "tuple" = some (.type "tuple"):=by decide +kernel
theorem Same.new {H0 H:Hp} {q:Addr} {o:HO} (h:Same H0 H) (hq:H q=none):Same H0 (upd H q o):=fun b u e=>by
  have:=h b u e
  rw [upd_ne (ne_of_none this hq)];exact this
theorem Same.write {H0 H:Hp} {q:Addr} {o:HO} (h:Same H0 H) (hq:H0 q=none):Same H0 (upd H q o):=fun b u e=>by
  rw [upd_ne (ne_of_none e hq)];exact h b u e
end L2
namespace L2
open PySem PySem.Spec PyProof.Rows
section
variable {X:Cx}
theorem pg_tupK (K:PySem.W.Frag) {es:List Expr} {k:Nat} {t:TGs} {n:Nat} {pos:Pos} (hc:X.calm=true) (h:PGs X es t) (hK:X.K=K:=by rfl) (hn:(assignEach es X.env).length=n:=by rfl)
    (hst:(assignEach es X.env).findIdx? (·.1)=none:=by rfl):PG X (.Tuple es k pos) (gTup K n t):=by
  subst hK
  exact pg_tup hc h hn hst
theorem strsAre_of:∀ {ys:List Str} {us:List Value},Vals (ys.map V.str) us→StrsAre us ys
  | [],[],_=>.nil
  | [],_ :: _,h=>nomatch h
  | _ :: _,[],h=>nomatch h
  | y :: r,u :: us,h=>by
    cases h with
    | cons a b=>
      obtain ⟨t,rfl⟩:=a
      exact .cons y t (strsAre_of b)
theorem mt_join:MtR X "str.join" (fun x vs H Q=>∃ z a ys,x=.str z∧vs=[.ref a]∧SqL X.K H a (ys.map V.str)∧(ys.map (·.length)).sum+ys.length * z.length≤16777216∧Q (.str (Txt.join z ys)) H):=by
  intro pins s σ H x xs v us Q I rx rv h
  obtain ⟨z,a,ys,rfl,rfl,hl,hok,q⟩:=h
  obtain ⟨t,rfl⟩:=rx
  obtain ⟨u,rfl,ru⟩:=rv.one
  cases (show u=Value.ref a from ru)
  obtain ⟨its,r,ht,hz⟩:=I.list hl
  exact join_list ht.isList (strsAre_of (by simpa using r)) hok fun t' k=>⟨.str _,H,I.tok k,⟨t',rfl⟩,q⟩
theorem op_mul_str:OpR X (binaryOp .Mult) (fun x y H Q=>∃ z n,x=.str z∧y=.int n∧MulOk z n∧Q (.str (Txt.mul z n)) H):=by
  intro pins s σ H x y v u Q I rx ry h
  obtain ⟨z,n,rfl,rfl,hok,q⟩:=h
  obtain ⟨t,rfl⟩:=rx
  obtain ⟨t',rfl⟩:=ry
  exact SB.mul hok fun t' k=>⟨.str _,H,I.tok k,⟨t',rfl⟩,q⟩
def eqAtJ (xs ys:List V) (j:Nat):Bool:=match xs[j]?,ys[j]? with
  | some x,some y=>eqV x y
  | _,_=>false
def eqVs (xs ys:List V):Bool:=xs.length == ys.length && (List.range xs.length).all (eqAtJ xs ys)
theorem eqAt_items {A:Around} {s:Shared} {xs ys:List V} {us ws:List Value} (r1:Vals xs us) (r2:Vals ys ws) (f1:xs.all flatV=true) (f2:ys.all flatV=true) (j:Nat) (h1:j < us.toArray.size) (h2:j < ws.toArray.size) :
    SeqAt.EqAt A s us.toArray[j] ws.toArray[j] (eqAtJ xs ys j):=by
  have g1:j < xs.length:=by rw [r1.length];simpa using h1
  have g2:j < ys.length:=by rw [r2.length];simpa using h2
  obtain ⟨u,e1,q1⟩:=r1.get (List.getElem?_eq_getElem g1)
  obtain ⟨v,e2,q2⟩:=r2.get (List.getElem?_eq_getElem g2)
  have d1:us.toArray[j]=u:=by
    rw [List.getElem?_eq_getElem (by simpa using h1)] at e1
    simpa using Option.some.inj e1
  have d2:ws.toArray[j]=v:=by
    rw [List.getElem?_eq_getElem (by simpa using h2)] at e2
    simpa using Option.some.inj e2
  rw [d1,d2]
  unfold eqAtJ
  rw [List.getElem?_eq_getElem g1,List.getElem?_eq_getElem g2]
  exact eqAt_V q1 q2 (List.all_eq_true.mp f1 _ (List.getElem_mem g1)) (List.all_eq_true.mp f2 _ (List.getElem_mem g2))
theorem op_eq_lst (hu:X.A.units < cLine):OpR X (compareOp .Eq) (fun x y H Q=>∃ a b xs ys,x=.ref a∧y=.ref b∧SqL X.K H a xs∧SqL X.K H b ys∧xs.all flatV=true∧ys.all flatV=true∧Q (.bl (eqVs xs ys)) H):=by
  intro pins s σ H x y v u Q I rx ry h
  obtain ⟨a,b,xs,ys,rfl,rfl,h1,h2,f1,f2,q⟩:=h
  cases (show v=Value.ref a from rx)
  cases (show u=Value.ref b from ry)
  obtain ⟨us,r1,l1,_⟩:=I.list h1
  obtain ⟨ws,r2,l2,_⟩:=I.list h2
  have e1:=r1.length
  have e2:=r2.length
  by_cases hl:xs.length=ys.length
  · refine SeqAt.eq_listAt (e:=eqAtJ xs ys) l1.isList l2.isList (by simp;omega) hu (fun j g1 g2=>eqAt_items r1 r2 f1 f2 j g1 g2) ⟨.bl _,H,I,rfl,?_⟩
    have:eqVs xs ys=(List.range us.toArray.size).all (eqAtJ xs ys):=by
      unfold eqVs
      rw [List.size_toArray,← e1,beq_iff_eq.mpr hl,Bool.true_and]
    rw [← this];exact q
  · refine SeqAt.eq_list_lengthsAt l1.isList l2.isList (by simp;omega) hu ⟨.bl _,H,I,rfl,?_⟩
    have:eqVs xs ys=false:=by
      unfold eqVs
      have:(xs.length == ys.length)=false:=by simpa using hl
      rw [this];rfl
    rw [this] at q;exact q
end
section
variable {NL:List Str} {ix:List Nat} {g:TG} {tt:TT} {te:TE} {σ:St} {H1:Hp} {Qs:Hp→Prop} {acc:Addr}
theorem comp_lst {K:PySem.W.Frag} {a:Addr} {xs:List V} (hn:xs.length < 1000) (Pv:Nat→List V→Hp→Prop)
    (hl:∀ i ys H2,Pv i ys H2→SqL K H2 a xs) (hacc:∀ i ys H2,Pv i ys H2→H2 acc=some (.lst ys)∧ys.length≤i) (h0:Pv 0 [] (upd H1 acc (.lst []))) (hstop:∀ ys H2,Pv xs.length ys H2→Qs H2)
    (hturn:∀ i x ys H2,xs[i]?=some x→Pv i ys H2→g x (comp0 NL ix σ) H2 fun σ' H4=>σ'.drop NL.length=ix.map (fun j=>σ.getD j none)∧tt σ' H4 fun b H5=>
      if b=true then te σ' H5 fun v H6=>H6 acc=some (.lst ys)∧Pv (i+1) (ys++[v]) (upd H6 acc (.lst (ys++[v]))) else Pv (i+1) ys H5) :
    ∃ W:Nat→Nat→List V→Hp→Prop,(∃ m,W 0 m [] (upd H1 acc (.lst []))) ∧
    ∀ i m ys H2,W i m ys H2→H2 acc=some (.lst ys)∧ys.length < sizeLine ∧
      (((Itl K a).stop i H2∧Qs H2)∨((Itl K a).go i H2∧∃ N:List V→Hp→Prop,(∀ ys' H',N ys' H'→∃ m',m' < m∧W (i+1) m' ys' H') ∧
        ∀ x H3,(Itl K a).yld i H2 x H3→g x (comp0 NL ix σ) H3 fun σ' H4=>σ'.drop NL.length=ix.map (fun j=>σ.getD j none)∧tt σ' H4 fun b H5=>
          if b=true then te σ' H5 fun v H6=>H6 acc=some (.lst ys)∧N (ys++[v]) (upd H6 acc (.lst (ys++[v]))) else N ys H5)):=by
  refine comp_by xs.length hn Pv hacc h0 (fun ys H2 hp=>⟨⟨xs,hl _ _ _ hp,Nat.le_refl _⟩,hstop ys H2 hp⟩) fun i ys H2 hi hp=>?_
  have hs:=hl _ _ _ hp
  refine ⟨⟨xs,xs[i],hs,List.getElem?_eq_getElem hi⟩,?_⟩
  rintro x H3 ⟨rfl,hx⟩
  exact hturn i x ys H3 (hx xs hs) hp
theorem comp_enum {κ:SK} {xs:List V} (hn:xs.length < 1000) (Pv:Nat→List V→Hp→Prop)
    (hl:∀ i ys H2,Pv i ys H2→κ.has H2 xs) (hacc:∀ i ys H2,Pv i ys H2→H2 acc=some (.lst ys)∧ys.length≤i) (h0:Pv 0 [] (upd H1 acc (.lst []))) (hstop:∀ ys H2,Pv xs.length ys H2→Qs H2)
    (hturn:∀ (i:Nat) x ys H2 p,xs[i]?=some x→Pv i ys H2→H2 p=none→g (.ref p) (comp0 NL ix σ) (upd H2 p (.tup [.int i,x])) fun σ' H4=>σ'.drop NL.length=ix.map (fun j=>σ.getD j none)∧tt σ' H4 fun b H5=>
      if b=true then te σ' H5 fun v H6=>H6 acc=some (.lst ys)∧Pv (i+1) (ys++[v]) (upd H6 acc (.lst (ys++[v]))) else Pv (i+1) ys H5) :
    ∃ W:Nat→Nat→List V→Hp→Prop,(∃ m,W 0 m [] (upd H1 acc (.lst []))) ∧
    ∀ i m ys H2,W i m ys H2→H2 acc=some (.lst ys)∧ys.length < sizeLine ∧
      (((Ite κ).stop i H2∧Qs H2)∨((Ite κ).go i H2∧∃ N:List V→Hp→Prop,(∀ ys' H',N ys' H'→∃ m',m' < m∧W (i+1) m' ys' H') ∧
        ∀ x H3,(Ite κ).yld i H2 x H3→g x (comp0 NL ix σ) H3 fun σ' H4=>σ'.drop NL.length=ix.map (fun j=>σ.getD j none)∧tt σ' H4 fun b H5=>
          if b=true then te σ' H5 fun v H6=>H6 acc=some (.lst ys)∧N (ys++[v]) (upd H6 acc (.lst (ys++[v]))) else N ys H5)):=by
  refine comp_by xs.length hn Pv hacc h0 (fun ys H2 hp=>⟨⟨xs,hl _ _ _ hp,rfl⟩,hstop ys H2 hp⟩) fun i ys H2 hi hp=>?_
  have hs:=hl _ _ _ hp
  refine ⟨⟨xs,xs[i],hs,List.getElem?_eq_getElem hi⟩,?_⟩
  rintro x H3 ⟨p,x',rfl,hpn,rfl,hx⟩
  exact hturn i x' ys H2 p (hx xs hs) hp hpn
end
theorem kit_same (K:PySem.W.Frag) (T:String):PySem.W.kitOne K (.type T) (.type T)=some true:=by
  unfold PySem.W.kitOne
  rw [if_pos (beq_self_eq_true _)]
abbrev Deck (H:Hp) (p:Addr) (c:Int):Prop:=∃ x y z:Int,H p=some (.lst [.int x,.int y,.int z])∧0≤z∧z≤c
structure Kd (p:Addr) (c:Int) (H H':Hp):Prop where
  deck:Deck H' p c
  keep:∀ b o,b≠p→H b=some o→H' b=some o
section
variable {p q:Addr} {H H1 H2:Hp} {o:HO} {c d:Int}
theorem Deck.mono (h:Deck H p c) (e:c≤d):Deck H p d:=let ⟨x,y,z,a,b,f⟩:=h;⟨x,y,z,a,b,Int.le_trans f e⟩
theorem Kd.mono (h:Kd p c H H1) (e:c≤d):Kd p d H H1:=⟨h.deck.mono e,h.keep⟩
theorem Kd.refl (h:Deck H p c):Kd p c H H:=⟨h,fun _ _ _ e=>e⟩
theorem Kd.trans (a:Kd p c H H1) (b:Kd p d H1 H2):Kd p d H H2:=⟨b.deck,fun k u hc e=>b.keep k u hc (a.keep k u hc e)⟩
theorem Kd.new (a:Kd p c H H1) (hq:H1 q=none):Kd p c H (upd H1 q o):=by
  obtain ⟨⟨x,y,z,e,r⟩,k⟩:=a
  refine ⟨⟨x,y,z,by rw [upd_ne (ne_of_none e hq)];exact e,r⟩,fun b u hc h=>?_⟩
  have:=k b u hc h
  rw [upd_ne (ne_of_none this hq)];exact this
theorem Kd.write (a:Kd p c H H1) (hq:H q=none) (hp:q≠p):Kd p c H (upd H1 q o):=by
  obtain ⟨⟨x,y,z,e,r⟩,k⟩:=a
  refine ⟨⟨x,y,z,by rw [upd_ne (Ne.symm hp)];exact e,r⟩,fun b u hc h=>?_⟩
  rw [upd_ne (ne_of_none h hq)];exact k b u hc h
theorem Deck.ne (h:Deck H p c) (hq:H q=none):q≠p:=by
  obtain ⟨x,y,z,e,_⟩:=h
  exact Ne.symm (ne_of_none e hq)
theorem Kd.same (a:Kd p c H H1) (s:Same H1 H2):Kd p c H H2:=by
  obtain ⟨⟨x,y,z,e,r⟩,k⟩:=a
  exact ⟨⟨x,y,z,s _ _ e,r⟩,fun b u hc h=>s _ _ (k b u hc h)⟩
theorem Kd.fresh (a:Kd p c H H1) (hq:H1 q=none):H q=none:=by
  cases e:H q with
  | none=>rfl
  | some u=>
    have:=a.keep q u (a.deck.ne hq) e
    rw [hq] at this;cases this
theorem ne_deck {o:HO} (h:Deck H p c) (e:H q=some o) (ho:∀ x y z:Int,o≠.lst [.int x,.int y,.int z]):q≠p:=fun k=>by
  obtain ⟨x,y,z,hp,_⟩:=h
  subst k
  rw [hp] at e
  exact ho x y z (Option.some.inj e).symm
end
end L2
namespace L2
open PySem PySem.Spec PyProof.Rows
section
variable {X:Cx}
theorem op_ne_lst (hu:X.A.units < cLine):OpR X (compareOp .NotEq) (fun x y H Q=>∃ a b xs ys,x=.ref a∧y=.ref b∧SqL X.K H a xs∧SqL X.K H b ys∧xs.all flatV=true∧ys.all flatV=true∧Q (.bl (!eqVs xs ys)) H):=by
  intro pins s σ H x y v u Q I rx ry h
  obtain ⟨a,b,xs,ys,rfl,rfl,h1,h2,f1,f2,q⟩:=h
  cases (show v=Value.ref a from rx)
  cases (show u=Value.ref b from ry)
  obtain ⟨us,r1,l1,_⟩:=I.list h1
  obtain ⟨ws,r2,l2,_⟩:=I.list h2
  have e1:=r1.length
  have e2:=r2.length
  by_cases hl:xs.length=ys.length
  · refine SeqAt.RcNeAt.lists (e:=eqAtJ xs ys) l1.isList l2.isList (by simp;omega) hu (fun j g1 g2=>eqAt_items r1 r2 f1 f2 j g1 g2) _ _ _ _ ⟨.bl _,H,I,rfl,?_⟩
    have:eqVs xs ys=(List.range us.toArray.size).all (eqAtJ xs ys):=by
      unfold eqVs
      rw [List.size_toArray,← e1,beq_iff_eq.mpr hl,Bool.true_and]
    rw [← this];exact q
  · refine SeqAt.RcNeAt.lists_lengths l1.isList l2.isList (by simp;omega) hu _ _ _ _ ⟨.bl _,H,I,rfl,?_⟩
    have:eqVs xs ys=false:=by
      unfold eqVs
      have:(xs.length == ys.length)=false:=by simpa using hl
      rw [this];rfl
    rw [this] at q;exact q
end
end L2
namespace L2
open PySem PySem.Spec PyProof.Rows PySem.W
section
variable {prog:Program} {w:World} {A:Around} {E:Value→Shared→Prop} {s:Shared}
theorem collect_rng {r:Addr} {lo hi:Int} {t u v:Tok} {n:Nat} {Q:List Value→Shared→Prop} (hh:A.handled=none) (hr:IsRange s.heap r lo hi 1 t u v) (hsmall:Builtin.Range.small lo hi 1=true) (hn:Builtin.Range.rangeSize lo hi 1=n) (hlen:n≤2 ^ 24)
    (h:∀ (h':Heap) (tk:Nat) (acc:Array Value),(∀ b o,s.heap.get? b=some o→h'.get? b=some o)→s.heap.objs.size≤h'.objs.size→ItemsOf (fun i v=>∃ t,v=.int (lo+i * 1) t) acc n→Q acc.toList { s with heap:=h',toks:=tk }) :
    wpAny (model prog w) A (collect (.ref r)) Q E s:=by
  unfold collect
  refine wpAny_bind (wpAny_runValue (codeAny_builtin F.entry_proto_collect ?_))
  rw [Around.under_plainId F.plain_proto_collect _]
  show wpAny _ A.in1 (newList [] >>= fun l=>again (.builtin "list.__iadd__" ⟨[l,.ref r],[]⟩)) _ _ s
  refine wpAny_bind (wpAny_newObj_type ?_)
  refine wpAny_pure ⟨plainId_quiet F.plain_list_iadd _,codeAny_builtin F.entry_list_iadd ?_⟩
  rw [Around.under_plainId F.plain_list_iadd _]
  show wpAny _ A.in1 (Builtin.List.listExtendWith (.ref s.heap.objs.size) (.ref r) (.ref s.heap.objs.size)) _ _ _
  have hS₁:(s.heap.push { cls:=.type "list", data:=.seq ([]:List Value).toArray }).get? s.heap.objs.size=some { cls:=.type "list", data:=.seq #[] 0 }:=Heap.get?_push_size _ rfl
  refine wpAny_mono (wpAny_extend_range (s:={ s with heap:=s.heap.push { cls:=.type "list", data:=.seq ([]:List Value).toArray } }) (R:=fun r' s'=>r'=.ok (.ret (.ref s.heap.objs.size))∧∃ h' tk acc' c',s'={ s with heap:=h',toks:=tk }∧(∀ b o,b≠s.heap.objs.size→(s.heap.push { cls:=.type "list", data:=.seq ([]:List Value).toArray }).get? b=some o→h'.get? b=some o) ∧
      h'.get? s.heap.objs.size=some { cls:=.type "list", dict:=none,data:=.seq acc' c',slots:=#[] }∧ItemsOf (fun i v=>∃ t,v=.int (lo+i * 1) t) acc' n)
    hh (Heap.get?_push_of_some _ hr) hsmall hn hlen s.heap.objs.size (.ref s.heap.objs.size) 0 hS₁ fun h' tk acc' c' kp hS' hacc=>⟨rfl,h',tk,acc',c',rfl,kp,hS',hacc⟩) (fun fin s' hf=>?_) (fun e s' hf=>?_)
  · have key:∀ {f:Flow} {s':Shared},((Except.ok f:Result)=.ok (.ret (.ref s.heap.objs.size))∧∃ h' tk acc' c',s'={ s with heap:=h',toks:=tk }∧(∀ b o,b≠s.heap.objs.size→(s.heap.push { cls:=.type "list", data:=.seq ([]:List Value).toArray }).get? b=some o→h'.get? b=some o) ∧
      h'.get? s.heap.objs.size=some { cls:=.type "list", dict:=none,data:=.seq acc' c',slots:=#[] }∧ItemsOf (fun i v=>∃ t,v=.int (lo+i * 1) t) acc' n)→f=.ret (.ref s.heap.objs.size)∧wpAny (model prog w) A (do
          let __do_lift ← load s.heap.objs.size
          match __do_lift.data with
            | .seq xs _=>pure xs.toList
            | _=>unsupported "internal:collect") Q E s':=fun {f s'} hz=>by
      obtain ⟨e1,h',tk,acc',c',rfl,kp,hS',hacc⟩:=hz
      refine ⟨by injection e1,?_⟩
      refine wpAny_bind (wpAny_load (s:={ s with heap:=h',toks:=tk }) hS' ?_)
      exact wpAny_pure (h h' tk acc' (fun b o e=>kp b o (Nat.ne_of_lt (Heap.lt_size e)) (Heap.get?_push_of_some _ e)) (Nat.le_of_lt (Heap.lt_size hS')) hacc)
    cases fin with
    | done f=>
      obtain ⟨rfl,hw⟩:=key hf
      exact hw
    | again c'=>
      refine ⟨hf.1,codeAny_mono hf.2 fun r' s'' hr'=>?_⟩
      cases r' with
      | error e=>exact absurd hr'.1 (by intro z;cases z)
      | ok f=>
        obtain ⟨rfl,hw⟩:=key hr'
        exact hw
  · exact absurd hf.1 (by intro z;cases z)
end
theorem vals_at:∀ {xs:List V} {us:List Value},xs.length=us.length→(∀ (i:Nat) (x:V) (u:Value),xs[i]?=some x→us[i]?=some u→RelV x u)→Vals xs us
  | [],[],_,_=>.nil
  | [],_ :: _,h,_=>by cases h
  | _ :: _,[],h,_=>by cases h
  | x :: xs,u :: us,h,k=>.cons (k 0 x u rfl rfl) (vals_at (by simpa using h) fun i y v a b=>k (i+1) y v (by simpa using a) (by simpa using b))
section
variable {X:Cx}
def tRng2 (ta:TA):TE:=fun σ H Q=>ta σ H fun vs H1=>∃ i j:Int,vs=[.int i,.int j]∧∀ r,H1 r=none→Q (.ref r) (upd H1 r (.rng i j))
theorem pe_rng2 {a b:Expr} {ta:TA} {p pos:Pos} (hg:Gl X "range") (hm:X.mg "range" = none) (ha:PA X [a,b] ta) (hs:starEach [a,b] X.env=[(false,eval a X.env),(false,eval b X.env)]:=by rfl) (hs2:starEach [b] X.env=[(false,eval b X.env)]:=by rfl) :
    PE X (.Call (.Name "range" p) [a,b] [] pos) (tRng2 ta):=by
  intro pins s σ H Q I h
  refine Call_ (ld_blt I hg hm boot_range (PyProof.Rows.callWith_type1 (thn (ha pos pins s σ H _ I h) fun us s1 ⟨vs,H1,I1,r1,q1⟩=>?_) (by rw [hs,hs2]) (by rw [hs2];rfl)))
  obtain ⟨i,j,e,q⟩:=q1
  subst e
  cases r1 with
  | cons r rr=>
    cases rr with
    | cons r' rr=>
      cases rr
      obtain ⟨t,rfl⟩:=r
      obtain ⟨t',rfl⟩:=r'
      exact call_range_2 ⟨.ref s1.heap.objs.size,_,I1.laid (o:=.rng i j) (t':=s1.toks+1) (fun b o e=>Heap.get?_push_of_some _ e) (Nat.le_refl _) ⟨_,_,_,Heap.get?_push_size _ rfl⟩,rfl,q _ I1.fresh⟩
end
end L2
namespace L2
open PySem PySem.Spec PyProof.Rows PySem.W
end L2
namespace L2
open PySem PySem.Spec PyProof.Rows PySem.W
theorem ix_listK {X:Cx} (K:PySem.W.Frag) (hK:X.K=K:=by rfl):IxR X (rIxL K):=by
  subst hK;exact ix_list
end L2
namespace L2
open PySem PySem.Spec PyProof.Rows PySem.W
theorem ints_showable {ns:List Int} (h:∀ n∈ns,n.natAbs < 10 ^ 12):PyData.showable (.list (ns.map .int))=true:=by
  simp only [PyData.showable]
  refine PyData.showableAll_ints ns fun n hn=>?_
  rcases Nat.eq_zero_or_pos n.natAbs with z | z
  · rw [z];decide
  · exact (Nat.log2_lt (by omega)).mpr (Nat.lt_of_lt_of_le (Nat.lt_trans (h n hn) (show 10 ^ 12 < 2 ^ 40 by decide)) (Nat.pow_le_pow_right (by decide) (by decide)))
section
variable {X:Cx} {k:Nat}
theorem bt_repr:bootBuiltins "repr" = some (.builtin "repr"):=by kernel_rfl
end
end L2
namespace L2
open PySem PySem.Spec PyProof.Rows PySem.W
theorem SqL.keepS {K:PySem.W.Frag} {H H1:Hp} {q:Addr} {xs:List V} (h:SqL K H q xs) (s:Same H H1):SqL K H1 q xs:=by
  rcases h with (h | ⟨ob,h⟩) | h
  · exact .inl (.inl (s _ _ h))
  · exact .inl (.inr ⟨ob,s _ _ h⟩)
  · exact .inr h
end L2
namespace L2
open PySem PySem.Spec PyProof.Rows PySem.W
theorem weight_ints:∀ ns:List Int,(∀ n∈ns,n.natAbs < 10 ^ 12)→PyData.weightAll (ns.map .int)≤42 * ns.length
  | [],_=>by simp [PyData.weightAll]
  | n :: r,h=>by
    have a:=weight_ints r fun m hm=>h m (List.mem_cons_of_mem _ hm)
    have b:PyData.weight (.int n)≤41:=by
      simp only [PyData.weight]
      split
      · omega
      · rename_i z
        have nz:n.natAbs≠0:=fun e=>z (by rw [Int.natAbs_eq_zero.mp e];rfl)
        have:=(Nat.log2_lt nz (k:=40)).mpr (Nat.lt_trans (h n List.mem_cons_self) (by decide))
        omega
    simp only [List.map_cons,PyData.weightAll,List.length_cons]
    omega
section
variable {X:Cx} {k:Nat}
end
end L2
namespace L2
open PySem PySem.Spec PyProof.Rows PySem.W
section
variable {X:Cx}
abbrev rngV (lo:Int) (n:Nat):List V:=(List.range n).map fun i:Nat=>V.int (lo+(i:Int))
theorem rng_vals {lo:Int} {n:Nat} {acc:Array Value} (hacc:ItemsOf (fun i v=>∃ t,v=.int (lo+i * 1) t) acc n):Vals (rngV lo n) acc.toList:=by
  have la:acc.toList.length=n:=by rw [Array.length_toList];exact hacc.1
  refine vals_at (by rw [List.length_map,List.length_range,la]) ?_
  intro i x u hx' hu
  rw [List.getElem?_map] at hx'
  cases e1:(List.range n)[i]? with
  | none=>rw [e1] at hx';cases hx'
  | some j=>
    rw [e1] at hx'
    have ej:j=i:=by
      obtain ⟨a,b⟩:=List.getElem?_eq_some_iff.mp e1
      rw [List.getElem_range] at b;exact b.symm
    subst ej
    cases hx'
    obtain ⟨tt,e2⟩:=hacc.2 j u (by rw [← Array.getElem?_toList];exact hu)
    rw [Int.mul_one] at e2
    exact ⟨tt,e2⟩
end
end L2
namespace L2
open PySem PySem.Spec PyProof.Rows
section
variable {κ:Type} [DecidableEq κ]
def valV (kvs:List (κ × V)) (k:κ):Option V:=(kvs.find? fun kv=>decide (kv.1=k)).map (·.2)
def putK (kvs:List (κ × V)) (k:κ) (v:V):List (κ × V):=
  if (kvs.any fun kv=>decide (kv.1=k))=true then kvs.map (fun kv=>if kv.1=k then (kv.1,v) else kv) else kvs++[(k,v)]
theorem valV_pos {p:κ × V} {r:List (κ × V)} {k:κ} (e:p.1=k):valV (p :: r) k=some p.2:=by simp [valV,List.find?_cons,e]
theorem valV_neg {p:κ × V} {r:List (κ × V)} {k:κ} (e:¬ p.1=k):valV (p :: r) k=valV r k:=by simp [valV,List.find?_cons,e]
theorem valV_any (k:κ):∀ kvs:List (κ × V),(kvs.any fun kv=>decide (kv.1=k))=(valV kvs k).isSome
  | []=>rfl
  | p :: r=>by
    rw [List.any_cons]
    by_cases e:p.1=k
    · simp only [valV_pos e,decide_eq_true e,Bool.true_or,Option.isSome_some]
    · rw [valV_neg e,decide_eq_false e,Bool.false_or];exact valV_any k r
theorem valV_map (k j:κ) (y:V):∀ kvs:List (κ × V),valV (kvs.map fun kv=>if kv.1=k then (kv.1,y) else kv) j=(valV kvs j).map fun x=>if j=k then y else x
  | []=>rfl
  | p :: r=>by
    have ih:=valV_map k j y r
    rw [List.map_cons]
    by_cases h:p.1=k
    · rw [if_pos h]
      by_cases e:p.1=j
      · rw [valV_pos (p:=(p.1,y)) e,valV_pos e,Option.map_some,if_pos (e.symm.trans h)]
      · rw [valV_neg (p:=(p.1,y)) e,valV_neg e,ih]
    · rw [if_neg h]
      by_cases e:p.1=j
      · rw [valV_pos (p:=p) e,valV_pos e,Option.map_some,if_neg (fun z=>h (e.trans z))]
      · rw [valV_neg (p:=p) e,valV_neg e,ih]
theorem valV_snoc (k j:κ) (y:V):∀ kvs:List (κ × V),valV kvs k=none→valV (kvs++[(k,y)]) j=if j=k then some y else valV kvs j
  | [],_=>by
    by_cases e:k=j
    · rw [if_pos e.symm];exact valV_pos (p:=(k,y)) e
    · rw [if_neg (fun z=>e z.symm)];exact valV_neg (p:=(k,y)) e
  | p :: r,hn=>by
    rw [List.cons_append]
    have hk:¬ p.1=k:=fun z=>by rw [valV_pos z] at hn;cases hn
    rw [valV_neg hk] at hn
    have ih:=valV_snoc k j y r hn
    by_cases e:p.1=j
    · rw [valV_pos e,valV_pos e,if_neg (fun z=>hk (e.trans z))]
    · rw [valV_neg e,valV_neg e,ih]
theorem valV_put (kvs:List (κ × V)) (k j:κ) (y:V):valV (putK kvs k y) j=if j=k then some y else valV kvs j:=by
  unfold putK
  by_cases a:(kvs.any fun kv=>decide (kv.1=k))=true
  · rw [if_pos a,valV_map]
    rw [valV_any] at a
    by_cases e:j=k
    · obtain ⟨x,hx⟩:=Option.isSome_iff_exists.mp a
      rw [if_pos e,e,hx,Option.map_some,if_pos rfl]
    · rw [if_neg e]
      cases valV kvs j with
      | none=>rfl
      | some x=>rw [Option.map_some,if_neg e]
  · rw [if_neg a]
    refine valV_snoc k j y kvs ?_
    rw [valV_any] at a
    cases q:valV kvs k with
    | none=>rfl
    | some x=>rw [q] at a;exact (a rfl).elim
theorem length_putK (kvs:List (κ × V)) (k:κ) (v:V):(putK kvs k v).length≤kvs.length+1:=by
  unfold putK
  split
  · rw [List.length_map];omega
  · rw [List.length_append,List.length_cons,List.length_nil];omega
theorem RelO.isSome_eq {o:Option V} {u:Option Value} (r:RelO o u):o.isSome=u.isSome:=by
  cases o with
  | none=>cases u with
    | none=>rfl
    | some _=>exact (show False from r).elim
  | some _=>cases u with
    | none=>exact (show False from r).elim
    | some _=>rfl
theorem KV.val {kvs:List (κ × V)} {vs:List (κ × Value)} (r:KV kvs vs) (k:κ):RelO (valV kvs k) (valueAt vs k):=by
  unfold KV at r
  induction r with
  | nil=>exact True.intro
  | @cons p q ps qs h t ih=>
    obtain ⟨h1,h2⟩:=h
    by_cases e:p.1=k
    · have e':q.1=k:=h1.symm.trans e
      have b:valueAt (q :: qs) k=some q.2:=by simp [valueAt,List.find?_cons,e']
      rw [valV_pos e,b];exact h2
    · have e':¬ q.1=k:=fun z=>e (h1.trans z)
      have b:valueAt (q :: qs) k=valueAt qs k:=by simp [valueAt,List.find?_cons,e']
      rw [valV_neg e,b];exact ih
theorem KV.any {kvs:List (κ × V)} {vs:List (κ × Value)} (r:KV kvs vs) (k:κ):(kvs.any fun kv=>decide (kv.1=k))=vs.any fun kv=>decide (kv.1=k):=by
  unfold KV at r
  induction r with
  | nil=>rfl
  | cons h t ih=>rw [List.any_cons,List.any_cons,ih,h.1]
theorem KV.repl {kvs:List (κ × V)} {vs:List (κ × Value)} (r:KV kvs vs) (k:κ) {y:V} {u:Value} (ry:RelV y u) :
    KV (kvs.map fun kv=>if kv.1=k then (kv.1,y) else kv) (vs.map fun kv=>if kv.1=k then (kv.1,u) else kv):=by
  unfold KV at r ⊢
  induction r with
  | nil=>exact .nil
  | @cons p q ps qs h t ih=>
    rw [List.map_cons,List.map_cons]
    refine .cons ?_ ih
    obtain ⟨h1,h2⟩:=h
    by_cases e:p.1=k
    · rw [if_pos e,if_pos (h1.symm.trans e)];exact ⟨h1,ry⟩
    · rw [if_neg e,if_neg (fun z=>e (h1.trans z))];exact ⟨h1,h2⟩
theorem KV.put {kvs:List (κ × V)} {vs:List (κ × Value)} (r:KV kvs vs) (k:κ) {y:V} {u:Value} (ry:RelV y u):KV (putK kvs k y) (stored vs k u):=by
  unfold putK stored
  rw [r.any k]
  by_cases e:(vs.any fun kv=>decide (kv.1=k))=true
  · rw [if_pos e,if_pos e];exact r.repl k ry
  · rw [if_neg e,if_neg e];exact Paired.snoc r ⟨rfl,ry⟩
theorem KV.length {kvs:List (κ × V)} {vs:List (κ × Value)} (r:KV kvs vs):kvs.length=vs.length:=Paired.length r
end
theorem kV_is {P:Program} {w:World} {k:Key} {u:Value} (r:RelV (kV k) u):(mixKind P w).is k u=true:=by
  cases k with
  | inl i=>obtain ⟨t,e⟩:=(show ∃ t,u=Value.int i t from r);subst e;exact mixKind_int P w i t
  | inr x=>obtain ⟨t,e⟩:=(show ∃ t,u=Value.str x t from r);subst e;exact mixKind_str P w x t
theorem items_are {P:Program} {w:World}:∀ {ks:List Key} {us:List Value},Vals (ks.map kV) us→ItemsAre (mixKind P w) ks us
  | [],_,r=>by rw [List.map_nil] at r;cases r;exact .nil
  | k :: ks,_,r=>by
    rw [List.map_cons] at r
    cases r with
    | cons h t=>exact .cons (kV_is h) (items_are t)
abbrev KT (H:Hp):List (List Key × V)→List (List Key × Addr × Value)→Prop:=Paired fun p q=>p.1=q.1∧H q.2.1=some (.tup (p.1.map kV))∧RelV p.2 q.2.2
theorem KT.val {H:Hp} {kvs:List (List Key × V)} {xs:List (List Key × Addr × Value)} (r:KT H kvs xs) (k:List Key):RelO (valV kvs k) ((atKey xs k).map (·.2)):=by
  induction r with
  | nil=>exact True.intro
  | @cons p q ps qs h t ih=>
    obtain ⟨h1,_,h2⟩:=h
    by_cases e:p.1=k
    · have e':q.1=k:=h1.symm.trans e
      have b:atKey (q :: qs) k=some q.2:=by simp [atKey,List.find?_cons,e']
      rw [valV_pos e,b];exact h2
    · have e':¬ q.1=k:=fun z=>e (h1.trans z)
      have b:atKey (q :: qs) k=atKey qs k:=by simp [atKey,List.find?_cons,e']
      rw [valV_neg e,b];exact ih
theorem KT.repl {H:Hp} {kvs:List (List Key × V)} {xs:List (List Key × Addr × Value)} (r:KT H kvs xs) (k:List Key) {y:V} {u:Value} (ry:RelV y u) :
    KT H (kvs.map fun kv=>if kv.1=k then (kv.1,y) else kv) (xs.map (putAt k u)):=by
  induction r with
  | nil=>exact .nil
  | @cons p q ps qs h t ih=>
    rw [List.map_cons,List.map_cons]
    refine .cons ?_ ih
    obtain ⟨h1,h2,h3⟩:=h
    unfold putAt
    by_cases e:p.1=k
    · rw [if_pos e,if_pos (h1.symm.trans e)];exact ⟨h1,h2,ry⟩
    · rw [if_neg e,if_neg (fun z=>e (h1.trans z))];exact ⟨h1,h2,h3⟩
theorem KT.put {H:Hp} {kvs:List (List Key × V)} {xs:List (List Key × Addr × Value)} (r:KT H kvs xs) (k:List Key) {b:Addr} {y:V} {u:Value} (hb:H b=some (.tup (k.map kV))) (ry:RelV y u) :
    KT H (putK kvs k y) (storedH xs k b u):=by
  have e:(kvs.any fun kv=>decide (kv.1=k))=(atKey xs k).isSome:=by
    rw [valV_any,(r.val k).isSome_eq,Option.isSome_map]
  unfold putK storedH
  rw [e]
  by_cases q:(atKey xs k).isSome=true
  · rw [if_pos q,if_pos q];exact r.repl k ry
  · rw [if_neg q,if_neg q];exact Paired.snoc r ⟨rfl,hb,ry⟩
theorem KT.keeps {H H':Hp} {kvs:List (List Key × V)} {xs:List (List Key × Addr × Value)} (r:KT H kvs xs) (ht:∀ b ys,H b=some (.tup ys)→H' b=some (.tup ys)):KT H' kvs xs:=
  Paired.mapP r fun _ _ z=>⟨z.1,ht _ _ z.2.1,z.2.2⟩
section
variable {P:Program} {w:World} {H:Hp} {h:Heap} {a:Addr}
theorem rd_of {u:HO} (ok:HOk P w H h) (e:Rd H a u):ObjOk P w H h a u:=e.ok ok
theorem dk_rd {kvs:List (Key × V)} (ok:HOk P w H h) (e:Rd H a (.dK kvs)):kvs.length≤sizeLine∧(a == sysModules)=false∧∃ vs,KV kvs vs∧h.DictOf (mixKind P w) a vs:=
  show ObjOk P w H h a (.dK kvs) from rd_of ok e
theorem dk_of {kvs:List (Key × V)} (ok:HOk P w H h) (e:H a=some (.dK kvs)):kvs.length≤sizeLine∧(a == sysModules)=false∧∃ vs,KV kvs vs∧h.DictOf (mixKind P w) a vs:=dk_rd ok (.inl e)
theorem key_of {ks:List Key} (ok:HOk P w H h) (e:H a=some (.tup (ks.map kV))):(tupleKind (mixKind P w)).is h ks a:=by
  obtain ⟨_,its,r,o,h1,h2,n,h3⟩:=(show ObjOk P w H h a (.tup (ks.map kV)) from ok a _ e)
  exact ⟨o,its.toArray,n,h1,h2,h3,by simpa using items_are r⟩
theorem dt_rd {kvs:List (List Key × V)} (ok:HOk P w H h) (e:Rd H a (.dT kvs)):kvs.length≤sizeLine∧(a == sysModules)=false ∧
    ∃ xs,KT H kvs xs∧h.DictOfH (tupleKind (mixKind P w)) a xs:=by
  obtain ⟨z,y,xs,r,o,es,ep,h1,h2,h3,h4,h5⟩:=(show ObjOk P w H h a (.dT kvs) from rd_of ok e)
  refine ⟨z,y,xs,r,o,es,ep,h1,h2,h3,h4,fun x hx=>?_,h5⟩
  have all:∀ {l:List (List Key × V)} {m:List (List Key × Addr × Value)},KT H l m→∀ x∈m,(tupleKind (mixKind P w)).is h x.1 x.2.1:=by
    intro l m q
    induction q with
    | nil=>intro x hx;exact nomatch hx
    | @cons p q ps qs hq t ih=>
      intro x hx
      rcases List.mem_cons.mp hx with e | hx
      · subst e
        exact key_of ok (by rw [← hq.1];exact hq.2.1)
      · exact ih x hx
  exact all r x hx
theorem dt_of {kvs:List (List Key × V)} (ok:HOk P w H h) (e:H a=some (.dT kvs)):kvs.length≤sizeLine∧(a == sysModules)=false ∧
    ∃ xs,KT H kvs xs∧h.DictOfH (tupleKind (mixKind P w)) a xs:=dt_rd ok (.inl e)
end
def DGet (H:Hp) (a:Addr) (y:V) (r:Option V):Prop:=
  (∃ kvs k,Rd H a (.dK kvs)∧y=kV k∧r=valV kvs k)∨∃ kvs k b,Rd H a (.dT kvs)∧y=.ref b∧H b=some (.tup (k.map kV))∧r=valV kvs k
def DPut (H:Hp) (a:Addr) (y v:V) (H':Hp):Prop:=
  (∃ kvs k,H a=some (.dK kvs)∧y=kV k∧kvs.length < sizeLine∧H'=upd H a (.dK (putK kvs k v))) ∨
  ∃ kvs k b,H a=some (.dT kvs)∧y=.ref b∧H b=some (.tup (k.map kV))∧kvs.length < sizeLine∧H'=upd H a (.dT (putK kvs k v))
theorem DGet.k {H:Hp} {a:Addr} {kvs:List (Key × V)} {k:Key} (e:H a=some (.dK kvs)):DGet H a (kV k) (valV kvs k):=.inl ⟨kvs,k,.inl e,rfl,rfl⟩
theorem DPut.k {H:Hp} {a:Addr} {kvs:List (Key × V)} {k:Key} {v:V} (e:H a=some (.dK kvs)) (hl:kvs.length < sizeLine):DPut H a (kV k) v (upd H a (.dK (putK kvs k v))):=.inl ⟨kvs,k,e,rfl,hl,rfl⟩
section
variable {X:Cx} {pins:List (Addr × Obj)} {σ:St} {H:Hp} {s:Shared} {a:Addr} {y v:V} {u r:Value} {o:Option V} {A:Around} {E:Value→Shared→Prop}
theorem Inv.big (I:Inv X pins σ H s):sysModules < s.heap.objs.size:=by
  have h:mainGlobals < s.heap.objs.size:=(I.mod.glob.keeps I.bk).lt
  exact Nat.lt_trans (by decide) h
theorem d_getItem {Q:Value→Shared→Prop} (hu:A.units+1 < cLine) (I:Inv X pins σ H s) (g:DGet H a y (some v)) (ry:RelV y u) (h:∀ w' s',Inv X pins σ H s'→RelV v w'→Q w' s') :
    wpAny (model X.prog X.w) A (getItem (.ref a) u) Q E s:=by
  rcases g with ⟨kvs,k,e,ey,l⟩ | ⟨kvs,k,b,e,ey,eb,l⟩
  · subst ey
    obtain ⟨z,hd,vs,rel,dd⟩:=dk_rd I.hok e
    obtain ⟨w',hw,rw'⟩:=RelO.some_of (v:=v) (o:=valueAt vs k) (by rw [l];exact rel.val k)
    exact wpAny_getItem_of (kV_is ry) dd.mapOf hw (h w' _ (I.tok _) rw')
  · subst ey
    cases (show u=Value.ref b from ry)
    obtain ⟨z,hd,xs,rel,dd⟩:=dt_rd I.hok e
    obtain ⟨w',hw,rw'⟩:=RelO.some_of (v:=v) (o:=(atKey xs k).map (·.2)) (by rw [l];exact rel.val k)
    obtain ⟨p,hp,hp2⟩:=Option.map_eq_some_iff.mp hw
    refine wpAny_getItem_heap (tupleKind_room_in1 hu) (key_of I.hok eb) dd hp ?_
    rw [hp2]
    exact h w' _ (I.tok _) rw'
theorem d_notIn {Q:Value→Shared→Prop} (hu:A.units+1 < cLine) (I:Inv X pins σ H s) (g:DGet H a y o) (ry:RelV y u) (h:∀ s',Inv X pins σ H s'→Q (.bool (!o.isSome)) s') :
    wpAny (model X.prog X.w) A (compareOp .NotIn u (.ref a)) Q E s:=by
  rcases g with ⟨kvs,k,e,ey,l⟩ | ⟨kvs,k,b,e,ey,eb,l⟩
  · subst ey
    obtain ⟨z,hd,vs,rel,dd⟩:=dk_rd I.hok e
    refine wpAny_notIn_of (kV_is ry) hd dd.mapOf ?_
    rw [← (rel.val k).isSome_eq,← l]
    exact h _ (I.tok _)
  · subst ey
    cases (show u=Value.ref b from ry)
    obtain ⟨z,hd,xs,rel,dd⟩:=dt_rd I.hok e
    refine wpAny_notIn_heap (tupleKind_room_in1 hu) (key_of I.hok eb) hd dd ?_
    have q:=(rel.val k).isSome_eq
    rw [Option.isSome_map] at q
    rw [← q,← l]
    exact h _ (I.tok _)
theorem d_write {h':Heap} {t':Nat} {ob:HO} (I:Inv X pins σ H s) (mu:Mut (H a)) (hs:Heap.SameBut a s.heap h') (he:∃ q,h'.get? a=some q) (new:ObjOk X.prog X.w (upd H a ob) h' a ob) :
    Inv X pins σ (upd H a ob) { s with heap:=h',toks:=t' }:=
  I.write (x:=a) (e:=a) mu (.inl rfl) (fun b q hb z=>(hs.2 b hb).trans z) he new
theorem dk_new {P:Program} {w:World} {H':Hp} {h':Heap} {kvs:List (Key × V)} {vs:List (Key × Value)} (z:kvs.length≤sizeLine) (hd:(a == sysModules)=false) (rel:KV kvs vs) (dd:h'.DictOf (mixKind P w) a vs) :
    ObjOk P w H' h' a (.dK kvs):=⟨z,hd,vs,rel,dd⟩
theorem d_setItem {H':Hp} {Q:Unit→Shared→Prop} (hu:A.units+1 < cLine) (I:Inv X pins σ H s) (g:DPut H a y v H') (ry:RelV y u) (rv:RelV v r) (h:∀ s',Inv X pins σ H' s'→Q () s') :
    wpAny (model X.prog X.w) A (setItem (.ref a) u r) Q E s:=by
  rcases g with ⟨kvs,k,e,ey,l,eH⟩ | ⟨kvs,k,b,e,ey,eb,l,eH⟩
  · subst ey eH
    obtain ⟨z,hd,vs,rel,dd⟩:=dk_of I.hok e
    have hz:vs.length≤sizeLine:=by rw [← rel.length];exact z
    have hl:(putK kvs k v).length≤sizeLine:=by have:=length_putK kvs k v;omega
    refine wpAny_setItem_pairs (hsz:=hz) (kV_is ry) dd fun h' dd' hs=>h _ ?_
    have he:∃ q,h'.get? a=some q:=let ⟨q,_,_,hq,_⟩:=dd';⟨q,hq⟩
    exact d_write I (by rw [e];exact True.intro) hs he (dk_new hl hd (rel.put k rv) dd')
  · subst ey eH
    cases (show u=Value.ref b from ry)
    obtain ⟨z,hd,xs,rel,dd⟩:=dt_of I.hok e
    have hz:xs.length≤sizeLine:=by rw [← Paired.length rel];exact z
    have hl:(putK kvs k v).length≤sizeLine:=by have:=length_putK kvs k v;omega
    refine wpAny_setItem_heap (hsz:=hz) (tupleKind_room_in1 hu) (key_of I.hok eb) dd fun h' dd' hs=>h _ ?_
    obtain ⟨q,es,ep,hq,h2,h3,h4,_,h5⟩:=dd'
    refine d_write I (by rw [e];exact True.intro) hs ⟨q,hq⟩ ⟨hl,hd,_,(rel.put k eb rv).keeps fun c ys ec=>?_,q,es,ep,hq,h2,h3,h4,h5⟩
    rw [upd_ne (ne_of ec e (fun z=>nomatch z))]
    exact ec
end
section
variable {X:Cx} {pins:List (Addr × Obj)} {σ:St} {H:Hp} {s:Shared} {a:Addr} {kvs:List (Key × V)} {k:Key} {u:Value} {A:Around} {E:Value→Shared→Prop}
end
def NoSl (i:Expr):Prop:=∀ ov iv,subscripted i false ov iv=operate [ov,iv] (getItem ov iv)
theorem subD_of {prog:Program} {w:World} {A:Around} {E:Value→Shared→Prop} {s:Shared} {env:Env} {value slice:Expr} {pos:Pos} {T id:String} {Q:Value→Shared→Prop}
    (hl:typeLookup (.type T) "__getitem__" = pure (some (.builtin id))) (hs:NoSl slice)
    (h:wpAny (model prog w) A (eval value env) (fun o s₁=>wpAny (model prog w) A (eval slice env) (fun i s₂=>s₂.TypeIs o T∧wpAny (model prog w) A (getItem o i) Q E s₂) E s₁) E s) :
    wpAny (model prog w) A (eval (.Subscript value slice pos) env) Q E s:=by
  refine Subscript_ (wpAny_mono h (fun o s₁ h₁=>wpAny_mono h₁ (fun i s₂ h₂=>?_) fun _ _ x=>x) fun _ _ x=>x)
  obtain ⟨hT,h₂⟩:=h₂
  unfold subscriptTail
  refine wpAny_bind ?_
  rw [getitemInPython_of_ne hT.not_modules]
  refine wpAny_bind (wpAny_specialOf hT hl ?_)
  have fin:wpAny (model prog w) A (subscripted slice false o i) (fun r s₃=>wpAny (model prog w) A (letTemporaryGo value o r >>= fun _=>pure r) Q E s₃) E s₂:=by
    rw [hs o i]
    exact wpAny_operating (wpAny_mono h₂ (fun r s₃ h₃=>wpAny_bind (wpAny_letTemporaryGo (wpAny_pure h₃))) fun _ _ x=>x)
  first
    | exact wpAny_pure (wpAny_bind fin)
    | exact wpAny_bind (wpAny_pure (wpAny_bind fin))
    | exact wpAny_bind fin
theorem dict_typeIs {X:Cx} {pins:List (Addr × Obj)} {σ:St} {H:Hp} {s:Shared} {a:Addr} {y:V} {o:Option V} (I:Inv X pins σ H s) (g:DGet H a y o):s.TypeIs (.ref a) "dict" := by
  rcases g with ⟨kvs,k,e,_,_⟩ | ⟨kvs,k,b,e,_,_,_⟩
  · obtain ⟨_,_,vs,_,dd⟩:=dk_rd I.hok e
    exact dd.typeIs
  · obtain ⟨_,_,xs,_,dd⟩:=dt_rd I.hok e
    exact dd.typeIs
def tDGet (td ty:TE):TE:=fun σ H Q=>td σ H fun x H1=>ty σ H1 fun y H2=>∃ a v,x=.ref a∧DGet H2 a y (some v)∧Q v H2
def tDNotIn (ty td:TE):TE:=fun σ H Q=>ty σ H fun y H1=>td σ H1 fun x H2=>∃ a o,x=.ref a∧DGet H2 a y o∧Q (.bl (!o.isSome)) H2
def sDPut (td ty tv:TE):TS:=fun D σ H=>tv σ H fun v H1=>td σ H1 fun x H2=>ty σ H2 fun y H3=>∃ a H4,x=.ref a∧DPut H3 a y v H4∧D.nx σ H4
section
variable {X:Cx} {o i e value:Expr} {pos pos' tpos:Pos} {td ty tv:TE}
theorem pe_dget (hu:X.A.units+1 < cLine) (ho:PE X o td) (hi:PE X i ty) (hs:NoSl i):PE X (.Subscript o i pos) (tDGet td ty):=by
  intro pins s σ H Q I h
  refine subD_of PySem.F.slot_dict_getitem.lookup hs (thn (ho pins s σ H _ I h) fun u s1 ⟨x,H1,I1,rx,q1⟩=>thn (hi pins s1 σ H1 _ I1 q1) fun iv s2 ⟨y,H2,I2,ry,a,v,ex,g,q2⟩=>?_)
  subst ex
  obtain rfl:u=Value.ref a:=rx
  exact ⟨dict_typeIs I2 g,d_getItem hu I2 g ry fun w' s3 I3 rw'=>⟨v,H2,I3,rw',q2⟩⟩
theorem pc_dnotin (hu:X.A.units+1 < cLine) (hi:PE X i ty) (ho:PE X o td):PC X .NotIn i o (tDNotIn ty td):=by
  intro pins s σ H Q I h
  refine thn (hi pins s σ H _ I h) fun iv s1 ⟨y,H1,I1,ry,q1⟩=>thn (ho pins s1 σ H1 _ I1 q1) fun u s2 ⟨x,H2,I2,rx,a,ov,ex,g,q2⟩=>?_
  subst ex
  obtain rfl:u=Value.ref a:=rx
  exact d_notIn hu I2 g ry fun s3 I3=>⟨.bl (!ov.isSome),H2,I3,rfl,q2⟩
theorem ps_dput (hu:X.A.units+1 < cLine) (ho:PE X o td) (hi:PE X i ty) (hv:PE X value tv) (hs:swapsWith value (some (.Subscript o i pos')) pos.line X.env=pure false) :
    PS X (.Assign [.Subscript o i pos'] value pos) (sDPut td ty tv):=by
  intro pins s σ H D I h
  refine wpAny_Assign_Subscript (thn (hv pins s σ H _ I h) fun r s1 ⟨v,H1,I1,rv,q1⟩=>thn (ho pins s1 σ H1 _ I1 q1) fun u s2 ⟨x,H2,I2,rx,q2⟩=>thn (hi pins s2 σ H2 _ I2 q2) fun iv s3 ⟨y,H3,I3,ry,a,H4,ex,g,q3⟩=>?_) hs
  subst ex
  obtain rfl:u=Value.ref a:=rx
  exact d_setItem hu I3 g ry rv fun s4 I4=>⟨σ,H4,I4,q3⟩
end
theorem dk_empty {P:Program} {w:World} {H:Hp} (h:Heap) (hb:sysModules < h.objs.size):ObjOk P w H (h.push { cls:=.type "dict", data:=.dict #[] }) h.objs.size (.dK []):=
  ⟨Nat.zero_le _,beq_eq_false_iff_ne.mpr (Ne.symm (Nat.ne_of_lt hb)),[],.nil,Heap.DictOf.new h⟩
def tDNewK:TE:=fun _ H Q=>∀ p,H p=none→Q (.ref p) (upd H p (.dK []))
section
variable {X:Cx} {pos:Pos}
theorem pe_dnewK:PE X (.Dict [] [] pos) tDNewK:=fun pins s σ H Q I h=>
  wpAny_Dict_empty ⟨.ref s.heap.objs.size,_,I.laid (a:=s.heap.objs.size) (o:=.dK []) (t':=s.toks) (fun _ _ q=>Heap.get?_push_of_some _ q) (Nat.le_refl _) (dk_empty s.heap I.big),rfl,h _ (I.hok.fresh (Nat.le_refl _))⟩
end
structure M2 (X:Cx) (o:Expr) (m:Str) (apos:Pos) (e f:Expr) (cpos:Pos):Prop where
  base:attributeBase o m X.env (eval o X.env)=eval o X.env
  few:((backTo cpos (starEach [e,f] X.env)).all (fun x=>!x.1) && (backToKw cpos (keywordEach [] X.env)).all (fun x=>x.1.isSome)
    && decide (([e,f]:List Expr).length+([]:List Keyword).length+(if ([]:List Keyword).isEmpty then 0 else 1) < 30))=true
  line:(apos.endLine == cpos.line)=true
  trees:backTo cpos (starEach [e,f] X.env)=[(false,eval e X.env),(false,eval f X.env)]
section
variable {X:Cx} {pins:List (Addr × Obj)} {σ:St} {H:Hp} {s:Shared} {a:Addr} {y d:V} {u r:Value} {o:Option V} {A:Around} {E:Value→Shared→Prop}
end
section
variable {X:Cx} {o e f:Expr} {apos cpos:Pos} {td ty tx:TE}
end
section
variable {X:Cx} {pins:List (Addr × Obj)} {σ:St} {H:Hp} {s:Shared} {a:Addr} {kvs:List (Key × V)} {A:Around} {E:Value→Shared→Prop}
end
section
variable {X:Cx} {pins:List (Addr × Obj)} {σ:St} {H:Hp} {s:Shared} {a:Addr} {y:V} {u:Value} {A:Around} {E:Value→Shared→Prop}
end
end L2
namespace L2
open PySem PySem.Spec PyProof.Rows PySem.W
section
variable {prog:Program} {w:World} {A:Around} {E:Value→Shared→Prop} {s:Shared}
end
section
variable {prog:Program} {w:World} {A:Around} {E:Value→Shared→Prop} {s:Shared} {T:String} {r d:Addr} {n:Nat} {P:Nat→Value→Prop} {OK:Heap→Prop}
theorem collect_src {R:List Value→Shared→Prop} (K:KdlSrc prog w T r d n P OK) (hh:A.handled=none) (hok:OK s.heap) (hn:n≤sizeLine)
    (h:∀ (g:Heap) (tk:Nat) (acc:Array Value),s.heap.objs.size≤g.objs.size→(∀ b o,s.heap.get? b=some o→g.get? b=some o)→ItemsOf P acc n→R acc.toList { s with heap:=g,toks:=tk }) :
    wpAny (model prog w) A (collect (.ref r)) R E s:=by
  obtain ⟨l1,l2⟩:=K.there _ hok
  unfold collect
  refine wpAny_bind (wpAny_runValue (codeAny_builtin F.entry_proto_collect ?_))
  rw [Around.under_plainId F.plain_proto_collect _]
  refine wpAny_bind (wpAny_newObj_type (wpAny_pure ⟨plainId_quiet F.plain_list_iadd _,codeAny_builtin F.entry_list_iadd ?_⟩))
  rw [Around.under_plainId F.plain_list_iadd _]
  have g0:(s.heap.push { cls:=.type "list", data:=.seq ([]:List Value).toArray }).get? s.heap.objs.size=some { cls:=.type "list", data:=.seq #[] }:=Heap.get?_push_size _ rfl
  refine wpAny_mono (kdl_extend (A:=A) (s:={ s with heap:=s.heap.push { cls:=.type "list", data:=.seq ([]:List Value).toArray } })
    (R:=fun (q:Result) (s':Shared)=>∃ (g:Heap) (tk:Nat) (xs:Array Value) (c':Nat),q=.ok (.ret (.ref s.heap.objs.size))∧s'={ s with heap:=g,toks:=tk }∧(∀ b o,s.heap.get? b=some o→g.get? b=some o) ∧
      g.get? s.heap.objs.size=some { cls:=.type "list", dict:=none,data:=.seq xs c',slots:=#[] }∧ItemsOf P xs n)
    K hh (K.keep _ _ hok fun b _ o e=>Heap.get?_push_of_some _ e) s.heap.objs.size (Nat.ne_of_gt l1) (Nat.ne_of_gt l2) (.ref s.heap.objs.size) 0 g0
    (fun g tk xs c' k1 k2 k3=>⟨g,tk,xs,c',rfl,rfl,fun b o e=>k1 b o (Nat.ne_of_lt (Heap.lt_size e)) (Heap.get?_push_of_some _ e),k2,k3⟩) hn) (fun f s' x=>?_) fun e s' x=>?_
  · cases f with
    | done f=>
      obtain ⟨g,tk,xs,c',e,rfl,k1,k2,k3⟩:=x
      cases e
      exact wpAny_bind (wpAny_load k2 (wpAny_pure (h g tk xs (Nat.le_of_lt (Heap.lt_size k2)) k1 k3)))
    | again c₁=>
      refine ⟨x.1,codeAny_mono x.2 fun q s₂ y=>?_⟩
      obtain ⟨g,tk,xs,c',rfl,rfl,k1,k2,k3⟩:=y
      exact wpAny_bind (wpAny_load k2 (wpAny_pure (h g tk xs (Nat.le_of_lt (Heap.lt_size k2)) k1 k3)))
  · obtain ⟨_,_,_,_,z,_⟩:=x
    cases z
end
section
variable {X:Cx}
end
end L2
namespace L2
open PySem PySem.Spec PyProof.Rows
theorem size_down (n:Nat):Builtin.Range.rangeSize ((n:Int) - 1) (-1) (-1)=(n:Int):=by
  unfold Builtin.Range.rangeSize
  rw [if_neg (by decide)]
  split
  · rw [show (-(-1:Int))=1 by decide,Int.ediv_one];omega
  · omega
def Itn (lo:Int) (n:Nat):It:=⟨fun i _=>i < n,fun i H x H'=>H'=H∧x=.int (lo - i),fun i _=>n≤i⟩
theorem turn_down {P:Program} {w:World} {K:PySem.W.Frag} {tg:Expr} (it:Addr) (lo:Int) (n:Nat):Turn P w K tg (Itn lo n) [it] it (fun i h=>IsRangeIter h it (lo+(i:Nat) * (-1)) ((n:Int) - (i:Nat)) (-1)) where
  mem:=by simp
  obj:=fun i h st b hb=>by
    have e:b=it:=by simpa using hb
    subst e
    exact ⟨_,st,fun v z=>by
      have z':Data.fields _=Data.cell v:=z
      cases z'⟩
  keep:=fun i h h' st k=>k it (by simp) _ st
  item:=by
    intro X hP hw hK hc i pins s σ H E I hf st hg
    subst hP hw hK
    obtain ⟨f0,f1,f2,f3,f4,f5⟩:=hf it (by simp)
    have W:=Walks.range (prog:=X.prog) (w:=X.w) (I.ok.hd hc) it lo (-1) n
    refine W.item i s _ _ hg st fun v h' tk hv st' kk=>?_
    obtain ⟨t,rfl⟩:=hv
    have I1:Inv X pins σ H { s with heap:=h',toks:=tk }:=I.turned (fun b o hb e=>kk b o (by simpa using hb) e) f0 f1 f3 f4 f5
    refine ⟨_,rfl,go_of (s:={ s with heap:=h',toks:=tk }) (n := "range_iterator") st' rfl rfl (by decide) ⟨.int (lo - i),H,I1,⟨t,?_⟩,⟨rfl,rfl⟩,st',fun b hb=>(hf b hb).1⟩⟩
    congr 1
    omega
  done:=by
    intro X hP hw hK hc i pins s σ H E I hf st hg
    subst hP hw hK
    obtain ⟨f0,f1,f2,f3,f4,f5⟩:=hf it (by simp)
    exact wpAny_pyNext_range_end (I.ok.hd hc) st (by have:n≤i:=hg;omega) fun h' eb=>⟨rfl,I.turned (t':=s.toks) (fun b o hb e=>eb b o hb e) f0 f1 f3 f4 f5⟩
  self:=fun _ _ _ _ _ st h=>wpAny_pyIter_rangeiter st h
section
variable {X:Cx} {tg:Expr}
def iDown (ta:TA):TI:=fun σ H R=>ta σ H fun vs H1=>∃ n:Nat,vs=[.int ((n:Int) - 1),.int (-1),.int (-1)]∧n < 10000∧R (Itn ((n:Int) - 1) n) H1
theorem pi_down {a b c:Expr} {ta:TA} {p pos:Pos} (hg:Gl X "range") (hm:X.mg "range" = none) (ha:PA X [a,b,c] ta) (hs:starEach [a,b,c] X.env=[(false,eval a X.env),(false,eval b X.env),(false,eval c X.env)]:=by rfl) (hs2:starEach [b,c] X.env=[(false,eval b X.env),(false,eval c X.env)]:=by rfl) :
    PI X tg (.Call (.Name "range" p) [a,b,c] [] pos) (iDown ta):=by
  intro pins s σ H R I h
  refine Call_ (ld_blt I hg hm boot_range (PyProof.Rows.callWith_type1 (thn (ha pos pins s σ H _ I h) fun us s1 ⟨vs,H1,I1,r1,q1⟩=>?_) (by rw [hs,hs2]) (by rw [hs2];rfl)))
  obtain ⟨n,e,hn,q⟩:=q1
  subst e
  cases r1 with
  | cons r rr=>
    cases rr with
    | cons r' rr=>
      cases rr with
      | cons r'' rr=>
      cases rr
      obtain ⟨t,rfl⟩:=r
      obtain ⟨t',rfl⟩:=r'
      obtain ⟨t'',rfl⟩:=r''
      refine call_range_3 (by decide) ?_ (Or.inl (PyProof.noPylong_small (by omega)))
      have I2:Inv X pins σ H1 { s1 with heap:=s1.heap.push { cls:=.type "range", data:=.fields #[.int ((n:Int) - 1) t,.int (-1) t',.int (-1) t''] } }:=I1.kept (t':=s1.toks) fun b o e=>Heap.get?_push_of_some _ e
      refine wpAny_pyIter_range (IsRange.new ..) ?_ ?_
      · unfold Builtin.Range.small
        rw [size_down]
        simp only [Builtin.Range.rangeFitsLong,Bool.and_eq_true,Bool.or_eq_true,decide_eq_true_eq,beq_iff_eq]
        rw [if_neg (by decide)]
        refine ⟨⟨⟨⟨?_,?_⟩,?_⟩,?_⟩,.inr ?_⟩ <;> (try simp only [Bool.and_eq_true,decide_eq_true_eq]) <;> omega
      · refine ⟨(s1.heap.push { cls:=.type "range", data:=.fields #[.int ((n:Int) - 1) t,.int (-1) t',.int (-1) t''] }).objs.size,[(s1.heap.push { cls:=.type "range", data:=.fields #[.int ((n:Int) - 1) t,.int (-1) t',.int (-1) t''] }).objs.size],_,_,H1,rfl,
          I2.kept (t':=s1.toks) fun b o e=>Heap.get?_push_of_some _ e,turn_down _ ((n:Int) - 1) n,?_,fun b hb=>?_,q⟩
        · have e2:=size_down n
          show IsRangeIter _ _ ((n:Int) - 1+((0:Nat):Int) * (-1)) ((n:Int) - ((0:Nat):Int)) (-1)
          rw [show (n:Int) - 1+((0:Nat):Int) * (-1)=(n:Int) - 1 by omega,show (n:Int) - ((0:Nat):Int)=(n:Int) by omega]
          have:=Heap.get?_push_size (s1.heap.push { cls:=.type "range", data:=.fields #[.int ((n:Int) - 1) t,.int (-1) t',.int (-1) t''] }) (o:={ cls:=.type "range_iterator", data:=.fields #[rawInt ((n:Int) - 1),rawInt (Builtin.Range.rangeSize ((n:Int) - 1) (-1) (-1)),rawInt (-1)] }) rfl
          exact Eq.mp (congrArg (fun z=>IsRangeIter _ _ ((n:Int) - 1) z (-1)) e2) this
        · have e:b=(s1.heap.push { cls:=.type "range", data:=.fields #[.int ((n:Int) - 1) t,.int (-1) t',.int (-1) t''] }).objs.size:=by simpa using hb
          subst e
          exact I2.fpOk (Nat.le_refl _) (I2.hok.fresh (Nat.le_refl _))
theorem for_down {lo:Int} {n:Nat} {g:TG} {tb:TS} {D:Ends} {σ:St} {H:Hp} (Pv:Nat→St→Hp→Prop) (h0:Pv 0 σ H)
    (hs:∀ (i:Nat) σ H,i < n→Pv i σ H→g (.int (lo - i)) σ H fun σ2 H2=>tb { D with nx:=Pv (i+1),ct:=Pv (i+1),bk:=D.nx } σ2 H2) (hd:∀ σ H,Pv n σ H→D.nx σ H) :
    ∃ W:Nat→Nat→St→Hp→Prop,(∃ m,W 0 m σ H)∧∀ i m σ H,W i m σ H →
      ((Itn lo n).stop i H∧D.nx σ H)∨((Itn lo n).go i H∧∃ N:St→Hp→Prop,(∀ σ' H',N σ' H'→∃ m',m' < m∧W (i+1) m' σ' H')∧∀ x H',(Itn lo n).yld i H x H'→g x σ H' fun σ2 H2=>tb { D with nx:=N,ct:=N,bk:=D.nx } σ2 H2):=by
  refine ⟨fun i m σ H=>m=n - i∧i≤n∧Pv i σ H,⟨n,by simp,Nat.zero_le _,h0⟩,?_⟩
  rintro i m σ H ⟨rfl,hi,p⟩
  by_cases hlt:i < n
  · refine .inr ⟨hlt,Pv (i+1),fun σ' H' p'=>⟨n - (i+1),by omega,rfl,hlt,p'⟩,fun x H' y=>?_⟩
    obtain ⟨e,y⟩:=y
    subst e y
    exact hs i σ _ hlt p
  · have e:i=n:=by omega
    subst e
    exact .inl ⟨Nat.le_refl _,hd σ H p⟩
end
end L2
namespace L2
open PySem PySem.Spec PyProof.Rows PySem.W
@[irreducible] def bigL:Int:=2 ^ 1000
section
variable {X:Cx}
theorem op_fdivL:OpR X (binaryOp .FloorDiv) (rI (fun _ j=>0 < j∧j < bigL) fun i j=>.int (i / j)):=opI fun i j _ _ _ _ _ hc q=>by
  have h1:(0:Int) < j:=hc.1
  have h2:j < 2 ^ 1000:=by have:=hc.2;unfold bigL at this;exact this
  refine floordiv_int (by omega) (by rw [Int.fdiv_eq_ediv_of_nonneg i (by omega)];exact q) (.inl (PyProof.noPylong_of_log2 ?_))
  have h3:j.natAbs < 2 ^ 1000:=by
    have:(j.natAbs:Int) < ((2 ^ 1000:Nat):Int):=by
      rw [Int.natAbs_of_nonneg (by omega)]
      exact_mod_cast h2
    exact_mod_cast this
  have h4:=(Nat.log2_lt (by omega)).mpr h3
  omega
end
end L2
namespace L2
open PySem PySem.Spec PyProof.Rows PySem.W
section
variable {X:Cx}
end
end L2
namespace L2
section
variable {NL:List PySem.Str} {ix:List Nat} {g:TG} {tt:TT} {te:TE} {σ:St} {H1:Hp} {Qs:Hp→Prop} {acc:PySem.Addr}
theorem comp_tupI {K:PySem.W.Frag} {a:PySem.Addr} {xs:List V} (hn:xs.length < 1000) (Pv:Nat→List V→Hp→Prop)
    (hl:∀ i ys H2,Pv i ys H2→SqT K H2 a xs) (hacc:∀ i ys H2,Pv i ys H2→H2 acc=some (.lst ys)∧ys.length≤i) (h0:Pv 0 [] (upd H1 acc (.lst []))) (hstop:∀ ys H2,Pv xs.length ys H2→Qs H2)
    (hturn:∀ i x ys H2,xs[i]?=some x→Pv i ys H2→g x (comp0 NL ix σ) H2 fun σ' H4=>σ'.drop NL.length=ix.map (fun j=>σ.getD j none)∧tt σ' H4 fun b H5=>
      if b=true then te σ' H5 fun v H6=>H6 acc=some (.lst ys)∧Pv (i+1) (ys++[v]) (upd H6 acc (.lst (ys++[v]))) else Pv (i+1) ys H5) :
    ∃ W:Nat→Nat→List V→Hp→Prop,(∃ m,W 0 m [] (upd H1 acc (.lst []))) ∧
    ∀ i m ys H2,W i m ys H2→H2 acc=some (.lst ys)∧ys.length < PySem.sizeLine ∧
      (((Itt K a).stop i H2∧Qs H2)∨((Itt K a).go i H2∧∃ N:List V→Hp→Prop,(∀ ys' H',N ys' H'→∃ m',m' < m∧W (i+1) m' ys' H') ∧
        ∀ x H3,(Itt K a).yld i H2 x H3→g x (comp0 NL ix σ) H3 fun σ' H4=>σ'.drop NL.length=ix.map (fun j=>σ.getD j none)∧tt σ' H4 fun b H5=>
          if b=true then te σ' H5 fun v H6=>H6 acc=some (.lst ys)∧N (ys++[v]) (upd H6 acc (.lst (ys++[v]))) else N ys H5)):=by
  refine comp_by xs.length hn Pv hacc h0 (fun ys H2 hp=>⟨⟨xs,hl _ _ _ hp,Nat.le_refl _⟩,hstop ys H2 hp⟩) fun i ys H2 hi hp=>?_
  have hs:=hl _ _ _ hp
  refine ⟨⟨xs,xs[i],hs,List.getElem?_eq_getElem hi⟩,?_⟩
  rintro x H3 ⟨rfl,hx⟩
  exact hturn i x ys H3 (hx xs hs) hp
end
end L2
namespace L2
open PySem PySem.Spec PyProof.Rows PySem.W
section
variable {X:Cx}
theorem op_eq_nil (hu:X.A.units < cLine):OpR X (compareOp .Eq) (fun x y H Q=>∃ a b xs,x=.ref a∧y=.ref b∧SqL X.K H a xs∧SqL X.K H b []∧Q (.bl xs.isEmpty) H):=by
  intro pins s σ H x y v u Q I rx ry h
  obtain ⟨a,b,xs,rfl,rfl,h1,h2,q⟩:=h
  cases xs with
  | nil=>exact op_eq_lst hu pins s σ H _ _ v u Q I rx ry ⟨a,b,[],[],rfl,rfl,h1,h2,rfl,rfl,q⟩
  | cons z zs=>
    cases (show v=Value.ref a from rx)
    cases (show u=Value.ref b from ry)
    obtain ⟨us,r1,l1,_⟩:=I.list h1
    obtain ⟨ws,r2,l2,_⟩:=I.list h2
    have e1:=r1.length
    have e2:=r2.length
    rw [List.length_cons] at e1
    rw [List.length_nil] at e2
    exact SeqAt.eq_list_lengthsAt l1.isList l2.isList (by simp;omega) hu ⟨.bl _,H,I,rfl,q⟩
theorem op_ne_nil (hu:X.A.units < cLine):OpR X (compareOp .NotEq) (fun x y H Q=>∃ a b xs,x=.ref a∧y=.ref b∧SqL X.K H a xs∧SqL X.K H b []∧Q (.bl (!xs.isEmpty)) H):=by
  intro pins s σ H x y v u Q I rx ry h
  obtain ⟨a,b,xs,rfl,rfl,h1,h2,q⟩:=h
  cases xs with
  | nil=>exact op_ne_lst hu pins s σ H _ _ v u Q I rx ry ⟨a,b,[],[],rfl,rfl,h1,h2,rfl,rfl,q⟩
  | cons z zs=>
    cases (show v=Value.ref a from rx)
    cases (show u=Value.ref b from ry)
    obtain ⟨us,r1,l1,_⟩:=I.list h1
    obtain ⟨ws,r2,l2,_⟩:=I.list h2
    have e1:=r1.length
    have e2:=r2.length
    rw [List.length_cons] at e1
    rw [List.length_nil] at e2
    exact SeqAt.RcNeAt.lists_lengths l1.isList l2.isList (by simp;omega) hu _ _ _ _ ⟨.bl _,H,I,rfl,q⟩
end
end L2
namespace L2
open PySem PySem.Spec PyProof.Rows PySem.W
section
variable {X:Cx}
theorem preSum_take (ns:List Int):∀ j,j≤ns.length→preSum (fun i=>ns.getD i 0) j=(ns.take j).sum
  | 0,_=>rfl
  | j+1,h=>by
    show preSum _ j+ns.getD j 0=_
    rw [preSum_take ns j (by omega),List.take_succ,List.getElem?_eq_getElem (by omega),List.sum_append,List.getD_eq_getElem?_getD,List.getElem?_eq_getElem (by omega)]
    simp
end
end L2
namespace L2
open PySem PySem.Spec PyProof.Rows PySem.W
section
variable {X:Cx}
theorem meets_tuple_rng (r:Addr) (lo hi:Int) (t u v:Tok) (n:Nat):Meets (Builtin.«tuple.__new__» ⟨[.type "tuple", .ref r],[]⟩) (fun A R s=>A.handled=none∧IsRange s.heap r lo hi 1 t u v∧Builtin.Range.small lo hi 1=true∧Builtin.Range.rangeSize lo hi 1=n∧n≤2 ^ 24 ∧
    ∀ (h':Heap) (tk:Nat) (acc:Array Value),(∀ b o,s.heap.get? b=some o→h'.get? b=some o)→s.heap.objs.size≤h'.objs.size→ItemsOf (fun i v=>∃ t,v=.int (lo+i * 1) t) acc n→R (.ok (.ret (.ref h'.objs.size))) { s with heap:=h'.push { cls:=.type "tuple", data:=.seq acc },toks:=tk }):=
  .of_wp fun prog w A R s h=>by
    obtain ⟨hh,hr,h1,h2,h3,h⟩:=h
    have hT:s.TypeIs (.ref r) "range" := ⟨_,hr,rfl⟩
    have g:∀ (Q:List Value→Shared→Prop) (E:Value→Shared→Prop),(∀ (h':Heap) (tk:Nat) (acc:Array Value),(∀ b o,s.heap.get? b=some o→h'.get? b=some o)→s.heap.objs.size≤h'.objs.size→ItemsOf (fun i v=>∃ t,v=.int (lo+i * 1) t) acc n→Q acc.toList { s with heap:=h',toks:=tk })→wpAny (model prog w) A.in1 (collect (.ref r)) Q E s:=fun Q E q=>collect_rng (A:=A.in1) hh hr h1 h2 h3 q
    have f2:=AutoSeq1.sub_tuple_tuple
    have f3:Bind.madeHere "tuple.__new__" (.type "tuple")=pure ():=by kernel_rfl
    have f4:=F.called_tuple.init.lookup
    wp_walk using g _ _
    intro h' tk acc kp sz it
    refine wpAny_bind (wpAny_pure ?_)
    show wpAny _ _ (newTuple acc.toList >>= _) _ _ _
    refine wpAny_bind (wpAny_newTuple (wpAny_pure ⟨_,rfl,h h' tk acc kp sz it⟩) ?_)
    rw [Array.length_toList,it.1,sizeLine_eq];exact h3
theorem call_tuple_rng (hc:X.calm=true):CallR X (.type "tuple") (fun xs H Q=>∃ (r:Addr) (lo hi:Int),xs=[.ref r]∧H r=some (.rng lo hi)∧(-(2 ^ 62)≤lo∧lo < 2 ^ 62∧-(2 ^ 62)≤hi∧hi < 2 ^ 62)∧(hi - lo).toNat≤1000∧∀ l,H l=none→Q (.ref l) (upd H l (.tup (rngV lo (hi - lo).toNat)))):=by
  intro pins s σ H xs us Q I r h
  obtain ⟨a,lo,hi,rfl,hr,⟨l1,l2,l3,l4⟩,hn,q⟩:=h
  obtain ⟨u,rfl,rx⟩:=vals1 r
  cases rx
  obtain ⟨t,t',t'',hr2⟩:=I.hok a _ hr
  have en:Builtin.Range.rangeSize lo hi 1=(((hi - lo).toNat:Nat):Int):=by rw [rangeSize_one];split <;> omega
  refine callType_new F.called_tuple (by decide) (F.typeCall_tuple_1 _) (F.newCall_tuple_1 _) (fun obj=>F.args_object_init_2 obj _) F.entry_tuple_new (meets_tuple_rng a lo hi t t' t'' (hi - lo).toNat) ⟨I.ok.hd hc,hr2,small_one l1 l2 l3 l4,en,by omega,fun h' tk acc kp sz hacc=>⟨⟨_,Heap.get?_push_size _ rfl,rfl⟩,?_⟩⟩
  have v:=rng_vals hacc
  have ls:(rngV lo (hi - lo).toNat).length≤sizeLine:=by
    rw [List.length_map,List.length_range]
    exact Nat.le_of_lt (Nat.lt_of_le_of_lt hn (by decide +kernel))
  have I1:Inv X pins σ H { s with heap:=h',toks:=tk }:=I.kept (t':=tk) kp
  have et:(h'.push { cls:=.type "tuple", data:=.seq acc }).get? h'.objs.size=some { cls:=.type "tuple", data:=.seq acc }:=Heap.get?_push_size _ rfl
  exact ⟨.ref h'.objs.size,_,I1.laid (t':=tk) (o:=.tup (rngV lo (hi - lo).toNat)) (fun b o e=>Heap.get?_push_of_some _ e) (Nat.le_refl _) ⟨⟨ls,_,et,rfl⟩,acc.toList,v,_,et,rfl,0,by simp⟩,rfl,q _ (I1.hok.fresh (Nat.le_refl _))⟩
end
end L2
namespace L2
open PySem PySem.Spec PyProof.Rows PySem.W
theorem rev_pick (items:Array Value):(List.filterMap (fun k:Nat=>items[((items.size:Int) - 1+(k:Int) * -1).toNat]?) (List.range items.size))=items.toList.reverse:=by
  apply List.ext_getElem?
  intro i
  have e:(List.range items.size).filterMap (fun k:Nat=>items[((items.size:Int) - 1+(k:Int) * -1).toNat]?)=(List.range items.size).map fun k=>items.getD (items.size - 1 - k) .none:=by
    have go:∀ l:List Nat,(∀ k∈l,k < items.size)→l.filterMap (fun k:Nat=>items[((items.size:Int) - 1+(k:Int) * -1).toNat]?)=l.map fun k=>items.getD (items.size - 1 - k) .none:=fun l=>by
      induction l with
      | nil=>intro _;rfl
      | cons k l ih=>
        intro hl
        have hk:=hl k List.mem_cons_self
        rw [List.filterMap_cons,List.map_cons,ih fun x hx=>hl x (List.mem_cons_of_mem _ hx),show ((items.size:Int) - 1+(k:Int) * -1).toNat=items.size - 1 - k by omega,Array.getElem?_eq_getElem (by omega),Array.getD_eq_getD_getElem?,Array.getElem?_eq_getElem (by omega)]
        rfl
    exact go _ fun k hk=>List.mem_range.mp hk
  rw [e,List.getElem?_map]
  rcases Nat.lt_or_ge i items.size with c | c
  · rw [List.getElem?_range c,List.getElem?_reverse (by simpa using c),Array.length_toList,Array.getElem?_toList,Array.getElem?_eq_getElem (by omega)]
    show some (items.getD (items.size - 1 - i) .none)=some _
    rw [Array.getD_eq_getD_getElem?,Array.getElem?_eq_getElem (by omega)];rfl
  · rw [List.getElem?_eq_none (by simpa using c),List.getElem?_eq_none (by simpa using c)];rfl
theorem places_rev (n:Nat):Builtin.Slice.slicePlaces ((n:Int) - 1) (-1) (-1)=n:=by
  unfold Builtin.Slice.slicePlaces
  rw [if_neg (by decide)]
  split
  · rename_i h
    have:((n:Int) - 1 - -1 - 1) / - -1=(n:Int) - 1:=by
      rw [show (- -1:Int)=1 by decide,Int.ediv_one];omega
    rw [this];omega
  · omega
section
variable {prog:Program} {w:World} {A:Around} {E:Value→Shared→Prop} {s:Shared}
theorem part_none {Q:Option Int→Shared→Prop} (h:Q none s):wpAny (model prog w) A (Builtin.Slice.slicePartIndex .none) Q E s:=wpAny_pure h
theorem part_int {i:Int} {tk:Tok} {Q:Option Int→Shared→Prop} (h:Q (some i) s):wpAny (model prog w) A (Builtin.Slice.slicePartIndex (.int i tk)) Q E s:=by
  unfold Builtin.Slice.slicePartIndex
  rw [if_neg (by show ¬ (false=true);decide)]
  refine wpAny_bind (wpAny_specialOf_val (T := "int") rfl (r:=some (.builtin "int.__index__")) (by kernel_rfl) ?_)
  rw [if_neg (by decide)]
  show wpAny _ _ (pure i >>= _) _ _ _
  exact wpAny_bind (wpAny_pure (wpAny_pure h))
theorem getItem_tuple_rev {t sl:Addr} {items:Array Value} {tk:Tok} {Q:Value→Shared→Prop} (ht:IsTup s.heap t items) (hs:s.heap.get? sl=some { cls:=.type "slice", data:=.fields #[.none,.none,.int (-1) tk] }) (hz:items.size≤sizeLine)
    (h:Q (.ref s.heap.objs.size) { s with heap:=s.heap.push { cls:=.type "tuple", data:=.seq items.toList.reverse.toArray } }):wpAny (model prog w) A (getItem (.ref t) (.ref sl)) Q E s:=by
  have hT:s.TypeIs (.ref t) "tuple" := ht.typeIs
  have hTs:s.TypeIs (.ref sl) "slice" := ⟨_,hs,rfl⟩
  refine wpAny_getItem_slot hT (by decide) PyProof.Rows.slot_tuple_getitem (wpAny_call_entry PyProof.Rows.slot_tuple_getitem hT PyProof.Rows.entry_tuple_getitem ?_ (PyProof.Rows.args_tuple_getitem _ _))
  obtain ⟨o,ho,hc,n,hd⟩:=id ht
  have f1:wpAny (model prog w) A.in1 (Builtin.Slice.sliceApplied (.ref sl) (pure (items.size:Int))) (fun r s'=>r=((items.size:Int) - 1,-1,items.size)∧s'=s) E s:=by
    unfold Builtin.Slice.sliceApplied Builtin.Slice.sliceFields
    refine wpAny_bind (wpAny_bind (wpAny_field hs rfl (x:=.none) rfl (wpAny_bind (wpAny_field hs rfl (x:=.none) rfl (wpAny_bind (wpAny_field hs rfl (x:=.int (-1) tk) rfl (wpAny_pure ?_)))))))
    dsimp only
    refine wpAny_bind (part_int ?_)
    show wpAny _ _ (Builtin.Slice.slicePartIndex .none >>= _) _ _ _
    refine wpAny_bind (part_none ?_)
    refine wpAny_bind (part_none ?_)
    refine wpAny_bind (wpAny_pure ?_)
    show wpAny _ _ (pure ((items.size:Int) - 1,(-1:Int),Builtin.Slice.slicePlaces ((items.size:Int) - 1) (-1) (-1))) _ _ _
    rw [places_rev]
    exact wpAny_pure ⟨rfl,rfl⟩
  show wpAny _ _ (Builtin.Tuple.tupleItemsOf (.ref t) >>= _) _ _ _
  refine wpAny_bind (PyProof.Rows.tupleItemsOf_ ht ?_)
  refine wpAny_bind (wpAny_typeOf hTs ?_)
  rw [if_pos (by decide)]
  refine wpAny_bind (thn f1 fun r s' hr=>?_)
  obtain ⟨rfl,rfl⟩:=hr
  dsimp only
  have nb:¬ (((items.size:Int) - 1 == 0 && (-1:Int) == 1 && items.size == items.size)=true):=by simp
  rw [if_neg nb,rev_pick]
  show wpAny _ _ (newTuple items.toList.reverse >>= _) _ _ _
  exact wpAny_bind (wpAny_newTuple (wpAny_pure ⟨_,rfl,h⟩) (by rw [List.length_reverse,Array.length_toList];exact hz))
end
section
variable {X:Cx} {e st:Expr} {te:TE} {ts:TO} {pos p2:Pos}
def tRevT (K:PySem.W.Frag) (te:TE) (ts:TO):TE:=fun σ H Q=>te σ H fun x H1=>ts σ H1 fun o H2=>∃ (a:Addr) (xs:List V),o=some (-1)∧x=.ref a∧SqT K H2 a xs∧∀ r:Addr,H2 r=none→Q (.ref r) (upd H2 r (.tup xs.reverse))
theorem vals_rev:∀ {xs:List V} {us:List Value},Vals xs us→Vals xs.reverse us.reverse
  | [],_,.nil=>.nil
  | x :: xs,_,.cons r t=>by
    rw [List.reverse_cons,List.reverse_cons]
    exact (vals_rev t).append (.cons r .nil)
theorem pe_revT (K:PySem.W.Frag) (he:PE X e te) (hs:PO X (some st) ts) (hK:X.K=K:=by rfl):PE X (.Subscript e (.Slice none none (some st) p2) pos) (tRevT K te ts):=by
  subst hK
  intro pins s σ H Q I h
  refine Subscript_ (thn (he pins s σ H _ I h) fun v s1 ⟨x,H1,I1,r1,q1⟩=>?_)
  refine wpAny_Slice ?_
  rw [evalPart_none]
  refine wpAny_pure (wpAny_pure ?_)
  refine thn (hs pins s1 σ H1 _ I1 q1) fun vs s3 ⟨o,H3,I3,po,q3⟩=>?_
  obtain ⟨a,xs,rfl,rfl,hq,q⟩:=q3
  cases r1
  cases po with
  | int i tk=>
  have I4:Inv X pins σ H3 { s3 with heap:=s3.heap.push { cls:=.type "slice", data:=.fields #[.none,.none,.int (-1) tk] } }:=I3.kept (t':=s3.toks) fun b ob q=>Heap.get?_push_of_some _ q
  show wpAny (model X.prog X.w) X.A (subscriptTail e (.Slice none none (some st) p2) (.ref a) (.ref s3.heap.objs.size)) (EP X pins σ Q) X.xe { s3 with heap:=s3.heap.push { cls:=.type "slice", data:=.fields #[.none,.none,.int (-1) tk] } }
  obtain ⟨its,r,ht,hz⟩:=I4.tuple hq
  have hlen:=r.length
  refine tail_any (ops:=[.ref a,.ref s3.heap.objs.size]) (T := "tuple") ht.typeIs PyProof.Rows.slot_tuple_getitem.lookup ?_ (by with_unfolding_all rfl)
  refine getItem_tuple_rev ht (Heap.get?_push_size _ rfl) (by rw [List.size_toArray];omega) ?_
  have rl:its.toArray.toList.reverse=its.reverse:=by simp
  rw [rl]
  refine ⟨.ref _,_,I4.laid (t':=s3.toks) (o:=.tup xs.reverse) (fun b ob q=>Heap.get?_push_of_some _ q) (Nat.le_refl _) ?_,rfl,q _ (I4.hok.fresh (Nat.le_refl _))⟩
  exact ⟨⟨by rw [List.length_reverse];exact hz,_,Heap.get?_push_size _ rfl,rfl⟩,its.reverse,vals_rev r,_,Heap.get?_push_size _ rfl,rfl,0,rfl⟩
end
end L2
namespace L2
open PySem
theorem mid {t u:TS} {D:Ends} {σ:St} {H:Hp} (P:St→Hp→Prop) (h2:∀ σ' H',P σ' H'→u D σ' H') (h1:∀ E:Ends,(∀ σ' H',P σ' H'→E.nx σ' H')→t E σ H):tSeq t u D σ H:=h1 { D with nx:=u D } h2
end L2
namespace L2
open PySem PySem.Spec PyProof.Rows PySem.W
section
variable {prog:Program} {w:World} {A:Around} {E:Value→Shared→Prop} {s:Shared}
theorem draw_list {it t:Addr} {items:Array Value} (hne:t≠it):∀ (n i:Nat) (s:Shared) (Q:List Value→Shared→Prop),s.heap.IsListIter it t i→s.heap.IsList t items→i+n≤items.size →
    (∀ h',h'.IsListIter it t (i+n)→Heap.SameBut it s.heap h'→Q ((items.toList.drop i).take n) { s with heap:=h' })→wpAny (model prog w) A (draw (.ref it) n) Q E s
  | 0,i,s,Q,hit,_,_,hQ=>by
    show wpAny _ _ (pure []) Q E s
    exact wpAny_pure (by simpa using hQ s.heap hit (Heap.SameBut.refl ..))
  | n+1,i,s,Q,hit,ht,hle,hQ=>by
    have hlt:i < items.size:=by omega
    show wpAny _ _ (pyNext (.ref it) >>= _) Q E s
    refine wpAny_bind (wpAny_pyNext_list_item hit ht (x:=items[i]) (by simp [hlt]) fun h₁ hit₁ hs₁=>?_)
    refine wpAny_bind (wpAny_holding (draw_list hne n (i+1) _ _ hit₁ (ht.extBut hs₁.extBut hne) (by omega) fun h₂ hit₂ hs₂=>wpAny_pure ?_))
    have hd:items.toList.drop i=items[i] :: items.toList.drop (i+1):=by simp [List.drop_eq_getElem_cons,hlt]
    have:=hQ h₂ (by rw [show i+(n+1)=i+1+n by omega];exact hit₂) (hs₁.trans hs₂)
    rw [hd,List.take_succ_cons] at this
    exact this
theorem unpackItems_list {t:Addr} {items:Array Value} {Q:List Value→Shared→Prop} (hh:A.handled=none) (ht:s.heap.IsList t items)
    (hQ:∀ h',Heap.ExtBut s.heap.objs.size s.heap h'→Q items.toList { s with heap:=h' }):wpAny (model prog w) A (unpackItems (.ref t) items.size none) Q E s:=by
  have hlt:t≠s.heap.objs.size:=by obtain ⟨o,ho,_⟩:=ht;exact Nat.ne_of_lt (Heap.lt_size ho)
  unfold unpackItems
  refine wpAny_bind ?_
  unfold notIterableAtAll
  refine wpAny_bind (wpAny_specialOf ht.typeIs slot_list_iter.lookup ?_)
  refine wpAny_pure ?_
  simp only [Bool.false_eq_true,if_false]
  refine wpAny_bind (wpAny_holding (wpAny_pyIter_list ht ?_))
  refine wpAny_bind (wpAny_holding (draw_list hlt items.size 0 _ _ ⟨_,Heap.get?_push_size _ rfl,rfl,rfl⟩ (Heap.IsList.push ht _) (by omega) fun h₁ hit₁ hs₁=>?_))
  have hall:List.take items.size (List.drop 0 items.toList)=items.toList:=by
    rw [List.drop_zero];exact List.take_of_length_le (by simp)
  rw [hall]
  rw [if_neg (by simp)]
  have ht₁:h₁.IsList t items:=(Heap.IsList.push ht _).extBut hs₁.extBut hlt
  refine wpAny_bind (wpAny_holding (wpAny_pyNext_list_end hh hit₁ ht₁ (by simp) fun h₂ he₂=>?_))
  simp only [Option.isSome_none,Bool.false_eq_true,if_false]
  refine wpAny_pure (hQ h₂ fun b o hb e=>he₂ b o hb (hs₁.extBut b o hb (Heap.get?_push_of_some _ e)))
theorem assign_Tuple_list {env:Env} {elts:List Expr} {x1} {pos:Pos} {t:Addr} {items:Array Value} {Q:Unit→Shared→Prop} (hh:A.handled=none) (ht:s.heap.IsList t items)
    (hn:(assignEach elts env).length=items.size) (hstar:(assignEach elts env).findIdx? (·.1)=none)
    (h:∀ h',Heap.ExtBut s.heap.objs.size s.heap h'→wpAny (model prog w) A (assignInOrder ((assignEach elts env).map (·.2)) items.toList) Q E { s with heap:=h' }) :
    wpAny (model prog w) A (assign (.Tuple elts x1 pos) env (.ref t)) Q E s:=by
  rw [assign_Tuple]
  refine wpAny_bind (wpAny_standAt ?_)
  unfold unpack
  rw [hn,hstar]
  exact wpAny_bind (wpAny_holding (unpackItems_list hh ht h))
end
section
variable {X:Cx} {pos:Pos}
def gLst (K:PySem.W.Frag) (n:Nat) (t:TGs):TG:=fun v σ H Q=>∃ a xs,v=.ref a∧SqL K H a xs∧xs.length=n∧t xs σ H Q
theorem pg_lst {es:List Expr} {k:Nat} {t:TGs} {n:Nat} (hc:X.calm=true) (h:PGs X es t)
    (hn:(assignEach es X.env).length=n:=by rfl) (hst:(assignEach es X.env).findIdx? (·.1)=none:=by rfl):PG X (.Tuple es k pos) (gLst X.K n t):=by
  intro pins s σ H v u Q I r hw
  obtain ⟨a,xs,e1,hq,hl,hw⟩:=hw
  subst e1
  cases r
  obtain ⟨its,rv,ht,hz⟩:=I.list hq
  refine assign_Tuple_list (I.ok.hd hc) ht.isList (by simp [hn,← hl,rv.length]) hst fun h' hx=>?_
  have I1:Inv X pins σ H { s with heap:=h' }:=I.kept (t':=s.toks) fun b o e=>hx b o (Nat.ne_of_lt (Heap.lt_size e)) e
  exact h pins _ σ H xs _ Q I1 (by simpa using rv) hw
theorem call_sumA (K:PySem.W.Frag) (hc:X.calm=true) (hK:X.K=K:=by rfl):CallR X (.builtin "sum") (fun vs H Q=>∃ (a:Addr) (ns:List Int),vs=[.ref a]∧SqL K H a (ns.map V.int)∧Q (.int ns.sum) H):=by
  subst hK
  intro pins s σ H xs us Q I r h
  obtain ⟨a,ns,rfl,hl,q⟩:=h
  obtain ⟨u,rfl,ru⟩:=vals1 r
  cases (show u=Value.ref a from ru)
  obtain ⟨its,rv,ht,hz⟩:=I.list hl
  have hlen:=rv.length
  rw [List.length_map] at hlen
  have hh:X.A.in1.handled=none:=I.ok.hd hc
  have hlt:a < s.heap.objs.size:=by obtain ⟨o,e,_⟩:=ht.isList;exact Heap.lt_size e
  refine call_sum_walkAnyS (wpAny_pyIter_list ht.isList ⟨s.heap.objs.size,_,_,_,_,_,_,(fun i=>ns.getD i 0),rfl,(Walks.list hh s.heap.objs.size a (Nat.ne_of_lt hlt) its.toArray).toS,?_,?_,?_,?_⟩)
  · exact ⟨⟨_,Heap.get?_push_size _ rfl,rfl,rfl⟩,Heap.IsList.push ht.isList _⟩
  · intro b hb
    have:b=s.heap.objs.size∨b=a:=by simpa using hb
    show b < (s.heap.objs.push _).size
    rw [Array.size_push]
    rcases this with rfl | rfl
    · exact Nat.lt_succ_self _
    · exact Nat.lt_succ_of_lt hlt
  · intro i v hv
    have hv':its[i]?=some v:=by simpa using hv
    have hi:i < (ns.map V.int).length:=by rw [List.length_map,hlen];exact (List.getElem?_eq_some_iff.mp hv').1
    obtain ⟨u',e1,e2⟩:=rv.get (List.getElem?_eq_getElem hi)
    rw [hv'] at e1
    cases e1
    rw [List.getElem_map] at e2
    obtain ⟨t,e2⟩:∃ t,v=Value.int _ t:=e2
    have hb:ns.getD i 0=ns[i]'(by simpa using hi):=by rw [List.getD_eq_getElem?_getD,List.getElem?_eq_getElem (by simpa using hi)];rfl
    exact ⟨t,by show v=Value.int (ns.getD i 0) t;rw [hb];exact e2⟩
  · intro s' t' hm
    rw [List.size_toArray,← hlen,preSum_take ns _ (Nat.le_refl _),List.take_length]
    obtain ⟨h',g',d',tk,os'⟩:=s'
    have e1:=hm.gens
    have e2:=hm.drawn
    have e3:=hm.os
    dsimp only at e1 e2 e3
    subst e1 e2 e3
    exact ⟨.int _,H,I.kept (t':=tk) fun b o e=>hm.heap b o (by simp;exact Nat.ne_of_lt (Heap.lt_size e)) (Heap.get?_push_of_some _ e),⟨_,rfl⟩,q⟩
theorem noFill_tuple_mul:fillsNumberSlot (.type "tuple") "mul" = pure false:=
  PySem.fillsNumberSlot_seq (id := "tuple.__mul__") (r:=some (.builtin "tuple.__rmul__")) PySem.F.slot_tuple_mul.lookup (by decide +kernel) PySem.F.slot_tuple_rmul.lookup (by decide +kernel)
theorem repeat_tuple:seqRepeat? (.type "tuple")=pure (some (.builtin "tuple.__mul__")):=by
  unfold seqRepeat?
  rw [PySem.seqSlot_of (T := "tuple") (name := "__mul__") (id := "tuple.__mul__") PySem.F.slot_tuple_mul.lookup (by decide +kernel),PySem.seqSlot_of (T := "tuple") (name := "__rmul__") (id := "tuple.__rmul__") PySem.F.slot_tuple_rmul.lookup (by decide +kernel)]
  rfl
theorem int_rmul_tup (a:Int) (t:Tok) (l:Addr) (items:Array Value) (n:Nat) (dd:Option Addr) (sl:Array (Option Value)) :
    Meets (Builtin.«int.__rmul__» ⟨[.int a t,.ref l],[]⟩) (fun _ R s=>s.heap.get? l=some { cls:=.type "tuple", dict:=dd,data:=.seq items n,slots:=sl }∧R (.ok (.ret Value.notImplemented)) s):=
  .of_wp fun prog w A R s h=>by obtain ⟨hp,g,d,tk,os⟩:=s;obtain ⟨hl,h⟩:=h;wp_walk;exact ⟨_,rfl,h⟩
theorem tup_mul_one (l:Addr) (x:Value) (n:Nat) (dd:Option Addr) (sl:Array (Option Value)) (k:Int) (t:Tok) (h2:2≤k) (h3:k≤1000) :
    Meets (Builtin.«tuple.__mul__» ⟨[.ref l,.int k t],[]⟩) (fun _ R s=>s.heap.get? l=some { cls:=.type "tuple", dict:=dd,data:=.seq #[x] n,slots:=sl }∧R (.ok (.ret (.ref s.heap.objs.size))) { s with heap:=s.heap.push { cls:=.type "tuple", data:=.seq (List.replicate k.toNat x).toArray } }):=
  .of_wp fun prog w A R s h=>by
    obtain ⟨hp,g,d,tk,os⟩:=s
    obtain ⟨hl,h⟩:=h
    wp_walk
    rw [if_neg (by rw [Bool.or_eq_true,decide_eq_true_eq,decide_eq_true_eq];omega)]
    have f2:=AutoSeq1.sub_tuple_tuple
    wp_walk using wpAny_loadPart' hl
    rw [if_neg (by
      intro e
      rcases Bool.or_eq_true _ _ ▸ e with e | e
      · cases e
      · have:k=1:=eq_of_beq e
        omega)]
    dsimp only
    rw [if_neg (by
      intro e
      rcases Bool.or_eq_true _ _ ▸ e with e | e
      · have:=of_decide_eq_true e
        omega
      · cases e)]
    have sz:((#[x]:Array Value).size:Int)=1:=rfl
    rw [if_neg (by rw [sz];omega)]
    skip
    have tm:¬ Builtin.Tuple.tupleTooMany (((#[x]:Array Value).size:Int) * k)=true:=by
      rw [sz];unfold Builtin.Tuple.tupleTooMany
      intro e
      have:=of_decide_eq_true e
      have h:(1000:Int)≤(sizeLine:Int):=by decide
      omega
    rw [if_neg tm]
    have fe:∀ (m:Nat) (acc:List Value),List.foldl (fun x1 x2=>x1++x2) acc.toArray (List.replicate m #[x])=(acc++List.replicate m x).toArray:=by
      intro m
      induction m with
      | zero=>intro acc;simp
      | succ m ih=>
        intro acc
        rw [List.replicate_succ,List.foldl_cons]
        have:=ih (acc++[x])
        rw [show acc.toArray++#[x]=(acc++[x]).toArray by simp,this,List.replicate_succ,List.append_assoc]
        rfl
    have fe0:=fe k.toNat []
    rw [List.nil_append] at fe0
    rw [show (List.foldl (fun x1 x2=>x1++x2) #[] (List.replicate k.toNat #[x]))=(List.replicate k.toNat x).toArray from fe0]
    unfold Builtin.Tuple.tupleExact
    refine wpAny_bind (wpAny_newObj_type (wpAny_pure ⟨_,rfl,h⟩) ?_)
    show (List.replicate k.toNat x).toArray.size≤sizeLine
    rw [List.size_toArray,List.length_replicate]
    have h:(1000:Nat)≤sizeLine:=by decide
    omega
def rRepT (K:PySem.W.Frag):R2:=fun x y H Q=>∃ a k v,x=.ref a∧y=.int k∧SqT K H a [v]∧2≤k∧k≤1000∧∀ p,H p=none→Q (.ref p) (upd H p (.tup (List.replicate k.toNat v)))
theorem vals_rep {v:V} {u:Value} (r:RelV v u):∀ n,Vals (List.replicate n v) (List.replicate n u)
  | 0=>.nil
  | n+1=>.cons r (vals_rep r n)
theorem op_repT:OpR X (binaryOp .Mult) (rRepT X.K):=by
  intro pins s σ H x y v u Q I rx ry h
  obtain ⟨a,k,z,rfl,rfl,ha,k2,k3,q⟩:=h
  cases rx
  obtain ⟨t,rfl⟩:=ry
  obtain ⟨its,r1,p1,_⟩:=I.tuple ha
  obtain ⟨u,rfl,ru⟩:=vals1 r1
  obtain ⟨o,ho,hc,hd⟩:=id p1
  obtain ⟨cl,dd,dt,sl⟩:=o
  dsimp only at hc hd
  obtain ⟨n,hd⟩:=hd
  subst hc hd
  refine wpAny_binaryOp_repeat_ref (T := "tuple") (U := "int") (by decide) ⟨_,ho,rfl⟩ (fun s'=>typeIs_int s' k t) noFill_tuple_mul PySem.F.fills_int_mul PySem.F.slot_int_rmul repeat_tuple PySem.F.slot_int_index.lookup
    (call_meets PySem.F.slot_int_rmul (typeIs_int s k t) PySem.F.entry_int_rmul (PySem.F.args_int_rmul_2 _ _) (int_rmul_tup k t a _ n dd sl)
      ⟨ho,rfl,⟨_,ho,rfl⟩,call_meets PySem.F.slot_tuple_mul ⟨_,ho,rfl⟩ PySem.F.entry_tuple_mul (PySem.F.args_tuple_mul_2 _ _) (tup_mul_one a u n dd sl k t k2 k3) ⟨ho,?_⟩⟩)
  refine ⟨.ref s.heap.objs.size,_,I.laid (t':=s.toks) (o:=.tup (List.replicate k.toNat z)) (fun b ob q=>Heap.get?_push_of_some _ q) (Nat.le_refl _) ?_,rfl,q _ (I.hok.fresh (Nat.le_refl _))⟩
  refine ⟨⟨?_,_,Heap.get?_push_size _ rfl,rfl⟩,_,vals_rep ru _,IsTup.new _ _⟩
  rw [List.length_replicate]
  have h:(1000:Nat)≤sizeLine:=by decide
  omega
end
end L2
namespace HT
open PySem PySem.Spec PyProof.Rows
section
variable {prog:Program} {w:World} {A:Around} {E:Value→Shared→Prop} {s:Shared}
theorem getItem_tuple_all {t sl:Addr} {items:Array Value} {vl vu:Value} {lo hi:Option Int} {Q:Value→Shared→Prop} (ht:IsTup s.heap t items) (hs:s.heap.IsSliceOf sl vl vu .none) (pl:IsPart vl lo) (pu:IsPart vu hi)
    (h1:sIx items.size 0 lo=0) (h2:sIx items.size items.size hi=items.size) (h:Q (.ref t) s):wpAny (model prog w) A (getItem (.ref t) (.ref sl)) Q E s:=by
  obtain ⟨os,hos,hcs,hds⟩:=id hs
  have hTs:s.TypeIs (.ref sl) "slice" := ⟨os,hos,hcs⟩
  unfold getItem
  try with_reducible refine wpAny_holding ?_
  first | refine wpAny_bind (wpAny_pure ?_) | skip
  refine wpAny_bind (wpAny_sequenceKey ht.typeIs (by decide) ?_)
  refine wpAny_bind (wpAny_callSpecial?_slot (name:=Str.ofString "__getitem__") ht.typeIs PyProof.Rows.slot_tuple_getitem
    (wpAny_call_entry PyProof.Rows.slot_tuple_getitem ht.typeIs entry_tuple_getitem ?_ (args_tuple_getitem _ _)))
  show wpAny _ _ (Builtin.Tuple.tupleItemsOf (.ref t) >>= _) _ _ s
  refine wpAny_bind (tupleItemsOf_ ht ?_)
  refine wpAny_bind (wpAny_typeOf hTs ?_)
  rw [if_pos (by decide)]
  refine wpAny_bind (sliceApplied_gen hs pl pu ?_)
  have hyes:((((sIx items.size 0 lo:Nat):Int) == 0 && (1:Int) == 1 && (sIx items.size items.size hi - sIx items.size 0 lo) == items.size)=true):=by
    rw [h1,h2];simp
  show wpAny _ _ (if (((sIx items.size 0 lo:Nat):Int) == 0 && (1:Int) == 1 && (sIx items.size items.size hi - sIx items.size 0 lo) == items.size)=true then _ else _) _ _ s
  rw [if_pos hyes]
  unfold Builtin.Tuple.tupleIsExact
  refine wpAny_bind (wpAny_bind (wpAny_typeOf ht.typeIs (wpAny_pure ?_)))
  rw [if_pos (by decide)]
  refine wpAny_bind (wpAny_rule ?_)
  first
    | exact wpAny_pure ⟨_,rfl,wpAny_pure h⟩
    | exact wpAny_bind (wpAny_pure (wpAny_pure ⟨_,rfl,wpAny_pure h⟩))
end
end HT
namespace L2
open PySem PySem.Spec PyProof.Rows
section
variable {X:Cx}
def rSlTA (K:PySem.W.Frag):V→Option Int→Option Int→Hp→VK→Prop:=fun x lo hi H Q=>∃ a xs,x=.ref a∧SqT K H a xs ∧
  ((HT.sIx xs.length 0 lo=0∧HT.sIx xs.length xs.length hi=xs.length)→Q (.ref a) H)∧(¬ (HT.sIx xs.length 0 lo=0∧HT.sIx xs.length xs.length hi=xs.length)→∀ p,H p=none→Q (.ref p) (upd H p (.tup (cutV xs lo hi))))
theorem sl_tupA:SlR X (rSlTA X.K):=by
  intro pins s σ H x v vl vu lo hi sl Q I rx hs pl pu h
  obtain ⟨a,xs,rfl,hx,q1,q2⟩:=h
  by_cases hw:HT.sIx xs.length 0 lo=0∧HT.sIx xs.length xs.length hi=xs.length
  · cases rx
    obtain ⟨its,r,ht,hz⟩:=I.tuple hx
    have hlen:its.toArray.size=xs.length:=by rw [List.size_toArray];exact r.length.symm
    refine ⟨"tuple", _,PyProof.Rows.slot_tuple_getitem.lookup,ht.typeIs,?_⟩
    exact HT.getItem_tuple_all ht hs pl pu (by rw [hlen];exact hw.1) (by rw [hlen];exact hw.2) ⟨.ref a,H,I,rfl,q1 hw⟩
  · exact sl_tup pins s σ H _ v vl vu lo hi sl Q I rx hs pl pu ⟨a,xs,rfl,hx,hw,q2 hw⟩
end
end L2
namespace L2
open PySem PySem.Spec PyProof.Rows PySem.W
mutual
inductive Td (H:Hp):V→PyData→Prop
  | non:Td H .non .none
  | bl (b:Bool):Td H (.bl b) (.bool b)
  | int (i:Int):Td H (.int i) (.int i)
  | str (z:Str):Td H (.str z) (.str z)
  | lst {a:Addr} {xs:List V} {ds:List PyData}:H a=some (.lst xs)→Tds H xs ds→Td H (.ref a) (.list ds)
  | tup {a:Addr} {xs:List V} {ds:List PyData}:H a=some (.tup xs)→Tds H xs ds→Td H (.ref a) (.tuple ds)
  | dct {a:Addr} {kvs:List (Key × V)} {ps:List (PyData × PyData)}:H a=some (.dK kvs)→Tds H (kvs.map fun p=>kV p.1) (ps.map (·.1))→Tds H (kvs.map (·.2)) (ps.map (·.2))→Td H (.ref a) (.dict ps)
inductive Tds (H:Hp):List V→List PyData→Prop
  | nil:Tds H [] []
  | cons {v:V} {d:PyData} {vs:List V} {ds:List PyData}:Td H v d→Tds H vs ds→Tds H (v :: vs) (d :: ds)
end
mutual
theorem Td.same {H H':Hp} (s:Same H H'):∀ {v:V} {d:PyData},Td H v d→Td H' v d
  | _,_,.non=>.non
  | _,_,.bl b=>.bl b
  | _,_,.int i=>.int i
  | _,_,.str z=>.str z
  | _,_,.lst e t=>.lst (s _ _ e) (t.same s)
  | _,_,.tup e t=>.tup (s _ _ e) (t.same s)
  | _,_,.dct e t u=>.dct (s _ _ e) (t.same s) (u.same s)
theorem Tds.same {H H':Hp} (s:Same H H'):∀ {vs:List V} {ds:List PyData},Tds H vs ds→Tds H' vs ds
  | _,_,.nil=>.nil
  | _,_,.cons t u=>.cons (t.same s) (u.same s)
end
mutual
def noList:PyData→Bool
  | .none | .bool _ | .int _ | .str _=>true
  | .list _=>false
  | .tuple xs=>noListAll xs
  | .dict kvs=>noListKv kvs
def noListAll:List PyData→Bool
  | []=>true
  | x :: xs=>noList x && noListAll xs
def noListKv:List (PyData × PyData)→Bool
  | []=>true
  | (k,v) :: r=>noList k && noList v && noListKv r
end
theorem noListKv_keys:∀ kvs:List (PyData × PyData),noListKv kvs=true→noListAll (kvs.map (·.1))=true∧noListAll (kvs.map (·.2))=true
  | [],_=>⟨by simp only [List.map_nil,noListAll],by simp only [List.map_nil,noListAll]⟩
  | (k,v) :: r,h=>by
    simp only [noListKv,Bool.and_eq_true] at h
    obtain ⟨a,b⟩:=noListKv_keys r h.2
    simp only [List.map_cons,noListAll,Bool.and_eq_true]
    exact ⟨⟨h.1.1,a⟩,⟨h.1.2,b⟩⟩
theorem pairs_vals {P:Program} {w:World} {es:List DictEntry} {vs:List (Key × Value)} (h:Pairs (mixKind P w) es vs):∀ {kvs:List (Key × V)},KV kvs vs→Vals (kvs.map fun p=>kV p.1) (es.map (·.key))∧Vals (kvs.map (·.2)) (es.map (·.val)):=by
  induction h with
  | nil=>intro kvs r;cases r;exact ⟨.nil,.nil⟩
  | cons hk hv _ ih=>
    intro kvs r
    cases r with
    | cons r1 r2=>
      obtain ⟨a,b⟩:=ih r2
      refine ⟨.cons ?_ a,.cons (by show RelV _ _;simp only [hv];exact r1.2) b⟩
      show RelV (kV _) _
      simp only [r1.1]
      rcases keyIs_shape hk with ⟨i,t,e,e'⟩ | ⟨x,t,e,e'⟩
      · rw [e,e'];exact ⟨t,rfl⟩
      · rw [e,e'];exact ⟨t,rfl⟩
section
variable {X:Cx} {pins:List (Addr × Obj)} {σ:St} {H:Hp} {s:Shared}
mutual
theorem reads_td (I:Inv X pins σ H s):∀ {v:V} {d:PyData},Td H v d→∀ {u:Value},RelV v u→∃ as,Reads s.heap u d as∧(noList d=true→sysModules ∉ as)
  | _,_,.non,_,r=>by cases r;exact ⟨[],.none,fun _ h=>by cases h⟩
  | _,_,.bl b,_,r=>by cases r;exact ⟨[],.bool b,fun _ h=>by cases h⟩
  | _,_,.int i,_,r=>by obtain ⟨t,rfl⟩:=r;exact ⟨[],.int i t,fun _ h=>by cases h⟩
  | _,_,.str z,_,r=>by obtain ⟨t,rfl⟩:=r;exact ⟨[],.str z t,fun _ h=>by cases h⟩
  | _,_,.lst e t,_,r=>by
    cases r
    obtain ⟨_,its,n,rv,g⟩:=I.hok _ _ e
    obtain ⟨as,ra,_⟩:=reads_tds I t rv
    exact ⟨_,.list g rfl rfl ra,fun h=>by simp only [noList] at h;cases h⟩
  | _,_,.tup e t,_,r=>by
    cases r
    obtain ⟨_,its,rv,o,g,c,n,dd⟩:=I.hok _ _ e
    obtain ⟨as,ra,na⟩:=reads_tds I t rv
    exact ⟨as,.tuple g c dd ra,fun h=>na (by simpa only [noList] using h)⟩
  | _,_,.dct e t u,_,r=>by
    cases r
    obtain ⟨_,hs,vs,kv,o,es,ep,g,ex,dd,_,pr,_⟩:=I.hok _ _ e
    obtain ⟨v1,v2⟩:=pairs_vals pr kv
    obtain ⟨as,ra,na⟩:=reads_tds I t v1
    obtain ⟨bs,rb,nb⟩:=reads_tds I u v2
    refine ⟨_,.dict g ex.1 dd ra rb,fun h=>?_⟩
    simp only [noList] at h
    obtain ⟨h1,h2⟩:=noListKv_keys _ h
    intro m
    rcases List.mem_append.mp m with m | m
    · rcases List.mem_cons.mp m with m | m
      · exact beq_eq_false_iff_ne.mp hs m.symm
      · exact na h1 m
    · exact nb h2 m
theorem reads_tds (I:Inv X pins σ H s):∀ {vs:List V} {ds:List PyData},Tds H vs ds→∀ {us:List Value},Vals vs us→∃ as,ReadsAll s.heap us ds as∧(noListAll ds=true→sysModules ∉ as)
  | _,_,.nil,_,r=>by cases r;exact ⟨[],.nil,fun _ h=>by cases h⟩
  | _,_,.cons t u,_,r=>by
    cases r with
    | cons r1 r2=>
      obtain ⟨as,ra,na⟩:=reads_td I t r1
      obtain ⟨bs,rb,nb⟩:=reads_tds I u r2
      refine ⟨as++bs,.cons ra rb,fun h=>?_⟩
      simp only [noListAll,Bool.and_eq_true] at h
      intro m
      rcases List.mem_append.mp m with m | m
      · exact na h.1 m
      · exact nb h.2 m
end
structure Fit (d:PyData):Prop where
  sh:d.showable=true
  lv:d.leavesShort 61=true
  wt:d.weight≤200000
  dp:d.depth≤20
  md:d.hasDict=false∨noList d=true
theorem Fit.sz {d:PyData} (f:Fit d):d.shown.length≤sizeLine:=by
  have h:=PyData.shown_le 61 (by decide) d f.lv
  have:=f.wt
  rw [sizeLine_eq]
  omega
variable {k:Nat}
theorem call_repr_any (hr:Room k X.A):CallR X (.builtin "repr") (fun xs H Q=>∃ v d,xs=[v]∧Td H v d∧Fit d∧Q (.str d.shown) H):=by
  intro pins s σ H xs us Q I r h
  obtain ⟨v,d,rfl,t,f,q⟩:=h
  obtain ⟨u,rfl,rx⟩:=vals1 r
  have fin:∀ (h':Heap) (u:Tok) (tk:Tok),(∀ b o,s.heap.get? b=some o→h'.get? b=some o)→EP X pins σ Q (.str d.shown u) { s with heap:=h',toks:=tk }:=fun h' u tk hk=>⟨.str d.shown,H,I.kept (t':=tk) hk,⟨u,rfl⟩,q⟩
  have sz:=f.sz
  have ref:∀ a:Addr,u=.ref a→wpAny (model X.prog X.w) X.A (call (.builtin "repr") [u]) (EP X pins σ Q) X.xe s:=fun a e=>by
    subst e
    obtain ⟨as,rd,na⟩:=reads_td I t rx
    have un:=hr.un
    have dp:=f.dp
    refine repr_of_reads' rd f.sh (fun z=>?_) hr.gd (by omega) (fun _ _ e=>e) (fun h' u tk hk=>fin h' u tk hk) sz
    rcases f.md with m | m
    · rw [m] at z;cases z
    · exact na m
  cases t with
  | non=>cases rx;exact P.repr_of_none (fin _ _ _ fun _ _ e=>e)
  | bl b=>cases rx;exact P.repr_of_bool (by cases b <;> exact fin _ _ _ fun _ _ e=>e)
  | int i=>obtain ⟨t,rfl⟩:=rx;exact P.repr_of_int (of_decide_eq_true f.sh) (fin _ _ _ fun _ _ e=>e)
  | str z=>obtain ⟨t,rfl⟩:=rx;exact P.repr_of_str (fin _ _ _ fun _ _ e=>e) sz
  | lst e t=>cases rx;exact ref _ rfl
  | tup e t=>cases rx;exact ref _ rfl
  | dct e t u=>cases rx;exact ref _ rfl
end
section
variable {H:Hp}
theorem Tds.ints (ns:List Int):Tds H (ns.map V.int) (ns.map PyData.int):=by
  induction ns with
  | nil=>exact .nil
  | cons n ns ih=>exact .cons (.int n) ih
end
structure Gd (hd hl:Bool) (c e:Nat) (d:PyData):Prop where
  sh:d.showable=true
  lv:d.leavesShort 61=true
  wt:d.weight≤c
  dp:d.depth≤e
  nd:hd=false→d.hasDict=false
  nl:hl=false→noList d=true
structure Gs (hd hl:Bool) (c e:Nat) (ds:List PyData):Prop where
  sh:PyData.showableAll ds=true
  lv:PyData.leavesShortAll 61 ds=true
  wt:PyData.weightAll ds≤c
  dp:PyData.depthAll ds≤e
  nd:hd=false→PyData.hasDictAll ds=false
  nl:hl=false→noListAll ds=true
section
variable {hd hl:Bool} {c c' e e':Nat} {d:PyData} {ds es:List PyData}
theorem Gd.fit (g:Gd hd hl c e d) (h:hd=false∨hl=false) (hc:c≤200000) (he:e≤20):Fit d:=
  ⟨g.sh,g.lv,Nat.le_trans g.wt hc,Nat.le_trans g.dp he,h.imp g.nd g.nl⟩
theorem Gd.mono (g:Gd hd hl c e d) (hc:c≤c') (he:e≤e'):Gd hd hl c' e' d:=⟨g.sh,g.lv,Nat.le_trans g.wt hc,Nat.le_trans g.dp he,g.nd,g.nl⟩
theorem Gs.mono (g:Gs hd hl c e ds) (hc:c≤c') (he:e≤e'):Gs hd hl c' e' ds:=⟨g.sh,g.lv,Nat.le_trans g.wt hc,Nat.le_trans g.dp he,g.nd,g.nl⟩
theorem Gs.nil:Gs hd hl 0 0 []:=⟨by simp only [PyData.showableAll],by simp only [PyData.leavesShortAll],by simp only [PyData.weightAll];omega,by simp only [PyData.depthAll];omega,fun _=>by simp only [PyData.hasDictAll],fun _=>by simp only [noListAll]⟩
theorem Gs.cons (g:Gd hd hl c e d) (h:Gs hd hl c' e ds):Gs hd hl (c+1+c') e (d :: ds):=by
  have:=g.wt;have:=h.wt;have:=g.dp;have:=h.dp
  refine ⟨?_,?_,?_,?_,fun z=>?_,fun z=>?_⟩
  · simp only [PyData.showableAll,g.sh,h.sh,Bool.and_self]
  · simp only [PyData.leavesShortAll,g.lv,h.lv,Bool.and_self]
  · simp only [PyData.weightAll];omega
  · simp only [PyData.depthAll];omega
  · simp only [PyData.hasDictAll,g.nd z,h.nd z,Bool.or_self]
  · simp only [noListAll,g.nl z,h.nl z,Bool.and_self]
theorem Gs.one (g:Gd hd hl c e d):Gs hd hl (c+1) e [d]:=(Gs.cons g (Gs.nil.mono (Nat.le_refl 0) (Nat.zero_le e))).mono (by omega) (Nat.le_refl _)
theorem Gs.all:∀ {ds:List PyData},(∀ d∈ds,Gd hd hl c e d)→Gs hd hl ((c+1) * ds.length) e ds
  | [],_=>Gs.nil.mono (Nat.zero_le _) (Nat.zero_le _)
  | d :: ds,h=>by
    refine (Gs.cons (h d List.mem_cons_self) (Gs.all (ds:=ds) fun x hx=>h x (List.mem_cons_of_mem _ hx))).mono ?_ (Nat.le_refl _)
    rw [List.length_cons,Nat.mul_succ];omega
theorem Gd.tup (g:Gs hd hl c e ds):Gd hd hl c (e+1) (.tuple ds):=
  ⟨by simp only [PyData.showable];exact g.sh,by simp only [PyData.leavesShort];exact g.lv,by simp only [PyData.weight];exact g.wt,by simp only [PyData.depth];have:=g.dp;omega,fun z=>by simp only [PyData.hasDict];exact g.nd z,fun z=>by simp only [noList];exact g.nl z⟩
theorem Gd.lst (g:Gs hd true c e ds):Gd hd true c (e+1) (.list ds):=
  ⟨by simp only [PyData.showable];exact g.sh,by simp only [PyData.leavesShort];exact g.lv,by simp only [PyData.weight];exact g.wt,by simp only [PyData.depth];have:=g.dp;omega,fun z=>by simp only [PyData.hasDict];exact g.nd z,fun z=>by cases z⟩
theorem Gd.str {z:Str} (h:∀ c∈z.cps.toList,c < 1000):Gd hd hl z.cps.size 0 (.str z):=⟨by simp only [PyData.showable],by
    simp only [PyData.leavesShort,List.all_eq_true,decide_eq_true_eq]
    intro c hc
    have:=h c hc
    have e:16 ^ 8=4294967296:=by decide
    omega,by simp only [PyData.weight];omega,by simp only [PyData.depth];omega,fun _=>by simp only [PyData.hasDict],fun _=>by simp only [noList]⟩
end
end L2
namespace L2N
open PySem PySem.Spec PyProof.Rows PySem.W L2
abbrev NK:=Str × List Int
def inKs (ns:List Int):List Key:=ns.map Sum.inl
theorem inKs_inj {a b:List Int} (h:inKs a=inKs b):a=b:=by
  induction a generalizing b with
  | nil=>cases b with
    | nil=>rfl
    | cons y b=>cases h
  | cons x a ih=>cases b with
    | nil=>cases h
    | cons y b=>
      simp only [inKs,List.map_cons,List.cons.injEq,Sum.inl.injEq] at h
      rw [h.1,ih h.2]
theorem inKs_kV (ns:List Int):(inKs ns).map kV=ns.map V.int:=by unfold inKs;rw [List.map_map];rfl
section
variable {prog:Program} {w:World}
def IsNest (prog:Program) (w:World) (h:Heap) (k:NK) (a:Addr):Prop:=
  ∃ o items n t b,h.get? a=some o∧o.cls=.type "tuple" ∧ o.data=.seq items n∧items.toList=[.str k.1 t,.ref b]∧IsTupleKey (mixKind prog w) h (inKs k.2) b
theorem IsNest.typeIs {s:Shared} {k:NK} {a:Addr} (x:IsNest prog w s.heap k a):s.TypeIs (.ref a) "tuple" := let ⟨o,_,_,_,_,ho,hc,_⟩:=x;⟨o,ho,hc⟩
theorem IsNest.inj {h:Heap} {a:Addr} {x y:NK} (hx:IsNest prog w h x a) (hy:IsNest prog w h y a):x=y:=by
  obtain ⟨o,items,n,t,b,ho,_,hd,hi,hk⟩:=hx
  obtain ⟨o',items',n',t',b',ho',_,hd',hi',hk'⟩:=hy
  obtain rfl:o=o':=Option.some.inj (ho.symm.trans ho')
  rw [hd] at hd'
  injection hd' with h1 _
  subst h1
  rw [hi] at hi'
  simp only [List.cons.injEq,Value.str.injEq,Value.ref.injEq,and_true] at hi'
  obtain ⟨⟨e1,_⟩,rfl⟩:=hi'
  exact Prod.ext e1 (inKs_inj (hk.inj hk'))
theorem IsNest.keeps {h h':Heap} {k:NK} {a d:Addr} {o:Obj} {es ep} (x:IsNest prog w h k a) (ho:h.get? d=some o) (hd:o.data=.dict es ep) (hs:Heap.SameBut d h h'):IsNest prog w h' k a:=by
  obtain ⟨o',items,n,t,b,ho',hc,hd',hi,hk⟩:=x
  have hne:a≠d:=by
    rintro rfl
    obtain rfl:o'=o:=Option.some.inj (ho'.symm.trans ho)
    rw [hd] at hd';exact nomatch hd'
  exact ⟨o',items,n,t,b,(hs.2 a hne).trans ho',hc,hd',hi,hk.keeps ho hd hs⟩
def nestHash (prog:Program) (w:World) (k:NK):Int:=reduceHash (Builtin.Tuple.tupleHashOf [hashStr w k.1,tupleKeyHash (mixKind prog w) (inKs k.2)])
variable {A:Around} {E:Value→Shared→Prop} {s:Shared}
theorem mix_str (x:Str) (t:Tok):(mixKind prog w).is (Sum.inr x) (.str x t)=true:=(beq_self_eq_true x:(x == x)=true)
theorem pyHash_nest {k:NK} {a:Addr} {Q:Int→Shared→Prop} (hu:A.units+4 < cLine) (hk:IsNest prog w s.heap k a) (h:Q (nestHash prog w k) { s with toks:=s.toks+(k.2.length+3) }) :
    wpAny (model prog w) A (pyHash (.ref a)) Q E s:=by
  have hT:=hk.typeIs
  obtain ⟨o,items,n,t,b,ho,_,hd,hi,hb⟩:=hk
  unfold pyHash
  first | unfold pyHashByItsType | skip
  first | refine wpAny_bind (wpAny_cRoomFor_or (.inr (by omega)) ?_) | skip
  refine wpAny_bind (wpAny_specialOf hT F.slot_tuple_hash.lookup ?_)
  show wpAny _ _ (if (some (Value.builtin "tuple.__hash__") == some Value.none)=true then _ else _) Q E s
  rw [if_neg (by rw [beq_builtin_none];exact Bool.false_ne_true)]
  refine wpAny_bind (wpAny_specialOf hT F.slot_tuple_hash.lookup ?_)
  show wpAny _ _ (callSpecialIfBoundUnlessNone? (.ref a) "__hash__" _ >>= _) Q E s
  refine wpAny_bind (wpAny_callSpecialIfBoundUnlessNone?_slot hT F.slot_tuple_hash (wpAny_call_entry F.slot_tuple_hash hT F.entry_tuple_hash ?_ (F.args_tuple_hash_1 _)))
  show wpAny _ _ (Builtin.Tuple.tupleItemsOf (.ref a) >>= _) _ _ s
  refine wpAny_bind (wpAny_tupleItemsOf ho hd ?_)
  refine wpAny_bind ?_
  rw [← Array.forIn_toList,hi]
  have ht:tupleKeyHash (mixKind prog w) (inKs k.2)=tupleKeyHash (mixKind prog w) (inKs k.2):=rfl
  have lk:(inKs k.2).length=k.2.length:=by unfold inKs;rw [List.length_map]
  refine wpAny_forIn_list _
    (fun rest (z:Array Int) s'=>(rest=[.str k.1 t,.ref b]∧z.toList=[]∧s'=s)∨(rest=[.ref b]∧z.toList=[hashStr w k.1]∧s'={ s with toks:=s.toks+1 }) ∨
      (rest=[]∧z.toList=[hashStr w k.1,tupleKeyHash (mixKind prog w) (inKs k.2)]∧s'={ s with toks:=s.toks+(k.2.length+2) }))
    _ ?_ ?_ _ _ (.inl ⟨rfl,rfl,rfl⟩)
  · rintro x rest z s' (⟨e,hz,rfl⟩ | ⟨e,hz,rfl⟩ | ⟨e,_⟩)
    · simp only [List.cons.injEq] at e
      obtain ⟨rfl,rfl⟩:=e
      refine wpAny_bind ((mixKind prog w).pyHash (mix_str k.1 t) ?_)
      have g:(z.push (hashStr w k.1)).toList=[hashStr w k.1]:=by simp [hz]
      first
        | exact wpAny_pure (.inr (.inl ⟨rfl,g,rfl⟩))
        | exact wpAny_bind (wpAny_pure (wpAny_pure (.inr (.inl ⟨rfl,g,rfl⟩))))
    · simp only [List.cons.injEq] at e
      obtain ⟨rfl,rfl⟩:=e
      refine wpAny_bind (wpAny_pyHash_tuple (s:={ s with toks:=s.toks+1 }) (show A.units+1 < cLine by omega) hb ?_)
      have g:(z.push (tupleKeyHash (mixKind prog w) (inKs k.2))).toList=[hashStr w k.1,tupleKeyHash (mixKind prog w) (inKs k.2)]:=by simp [hz]
      have g2:({ s with toks:=s.toks+1+((inKs k.2).length+1) }:Shared)={ s with toks:=s.toks+(k.2.length+2) }:=by rw [lk,show s.toks+1+(k.2.length+1)=s.toks+(k.2.length+2) by omega]
      first
        | exact wpAny_pure (.inr (.inr ⟨rfl,g,g2⟩))
        | exact wpAny_bind (wpAny_pure (wpAny_pure (.inr (.inr ⟨rfl,g,g2⟩))))
    · cases e
  · rintro z s' (⟨e,_⟩ | ⟨e,_⟩ | ⟨_,hz,rfl⟩)
    · cases e
    · cases e
    show wpAny _ _ (retInt (Builtin.Tuple.tupleHashOf z.toList)) _ _ _
    rw [hz]
    refine wpAny_ret_mkInt ?_
    show wpAny _ _ (if (decide (-(2:Int) ^ 63≤Builtin.Tuple.tupleHashOf [hashStr w k.1,tupleKeyHash (mixKind prog w) (inKs k.2)]) && decide (Builtin.Tuple.tupleHashOf [hashStr w k.1,tupleKeyHash (mixKind prog w) (inKs k.2)] < 2 ^ 63))=true then _ else _) Q E _
    unfold nestHash reduceHash at h
    have tk:s.toks+(k.2.length+2)+1=s.toks+(k.2.length+3):=by omega
    by_cases hr:(decide (-(2:Int) ^ 63≤Builtin.Tuple.tupleHashOf [hashStr w k.1,tupleKeyHash (mixKind prog w) (inKs k.2)]) && decide (Builtin.Tuple.tupleHashOf [hashStr w k.1,tupleKeyHash (mixKind prog w) (inKs k.2)] < 2 ^ 63))=true
    · rw [if_pos hr]
      rw [if_pos hr] at h
      exact wpAny_pure (by simpa [tk] using h)
    · rw [if_neg hr]
      rw [if_neg hr] at h
      exact wpAny_bind (wpAny_rule (wpAny_pure (by simpa [tk] using h)))
theorem nest_eq_tree {x y:NK} {a b:Addr} {P:Fin→Shared→Prop} (hu:A.units < cLine) (hx:IsNest prog w s.heap x a) (hy:IsNest prog w s.heap y b) (h:P (.done (.ret (.bool (decide (x=y))))) s) :
    wpAny (model prog w) A (Builtin.«tuple.__eq__» ⟨[.ref a,.ref b],[]⟩) P E s:=by
  have hTb:=hy.typeIs
  obtain ⟨oa,xs,na,ta,ba,hoa,_,hda,hia,hka⟩:=hx
  obtain ⟨ob,ys,nb,tb,bb,hob,_,hdb,hib,hkb⟩:=hy
  show wpAny _ _ (isInstance (.ref b) (.type "tuple") >>= _) _ _ s
  refine wpAny_bind (wpAny_isInstance hTb isSubtype_tuple_tuple ?_)
  simp only [Bool.not_true,Bool.false_eq_true,if_false]
  refine wpAny_bind (wpAny_tupleItemsOf hoa hda ?_)
  refine wpAny_bind (wpAny_tupleItemsOf hob hdb ?_)
  refine wpAny_bind ?_
  have d1:decide (x=y)=(decide (x.1=y.1) && decide (inKs x.2=inKs y.2)):=by
    rw [Bool.eq_iff_iff,Bool.and_eq_true,decide_eq_true_iff,decide_eq_true_iff,decide_eq_true_iff]
    exact ⟨fun e=>⟨congrArg Prod.fst e,congrArg (fun z:NK=>inKs z.2) e⟩,fun e=>Prod.ext e.1 (inKs_inj e.2)⟩
  have sz:(xs.size == ys.size)=true:=by rw [← Array.length_toList,← Array.length_toList,hia,hib];rfl
  rw [hia,hib]
  refine wpAny_forIn_list _
    (fun rest r s'=>r.1=none∧s'=s∧(rest=[(.str x.1 ta,.str y.1 tb),(.ref ba,.ref bb)]∨(rest=[(.ref ba,.ref bb)]∧x.1=y.1)∨(rest=[]∧x=y)))
    _ ?_ ?_ _ _ ⟨rfl,rfl,.inl rfl⟩
  · rintro ⟨u,v⟩ rest r s' ⟨hr,rfl,e | ⟨e,e1⟩ | ⟨e,_⟩⟩
    · simp only [List.cons.injEq,Prod.mk.injEq] at e
      obtain ⟨⟨rfl,rfl⟩,rfl⟩:=e
      refine wpAny_bind ((mixKind prog w).eqBool (a:=Sum.inr x.1) (b:=Sum.inr y.1) (mix_str x.1 ta) (mix_str y.1 tb) ?_)
      by_cases hk:x.1=y.1
      · have:decide ((Sum.inr x.1:Key)=Sum.inr y.1)=true:=decide_eq_true (by rw [hk])
        rw [this]
        simp only [Bool.not_true,Bool.false_eq_true,if_false]
        exact wpAny_pure ⟨rfl,rfl,.inr (.inl ⟨trivial,hk⟩)⟩
      · have:decide ((Sum.inr x.1:Key)=Sum.inr y.1)=false:=decide_eq_false fun e=>hk (by injection e)
        rw [this]
        simp only [Bool.not_false,if_true]
        rw [d1,decide_eq_false hk,Bool.false_and] at h
        exact wpAny_bind (wpAny_pure (wpAny_pure (wpAny_pure h)))
    · simp only [List.cons.injEq,Prod.mk.injEq] at e
      obtain ⟨⟨rfl,rfl⟩,rfl⟩:=e
      refine wpAny_bind (wpAny_eqBool_tuple hu hka hkb ?_)
      by_cases hk:inKs x.2=inKs y.2
      · rw [decide_eq_true hk]
        simp only [Bool.not_true,Bool.false_eq_true,if_false]
        exact wpAny_pure ⟨rfl,rfl,.inr (.inr ⟨trivial,Prod.ext e1 (inKs_inj hk)⟩)⟩
      · rw [decide_eq_false hk]
        simp only [Bool.not_false,if_true]
        rw [d1,decide_eq_false hk,Bool.and_false] at h
        exact wpAny_bind (wpAny_pure (wpAny_pure (wpAny_pure h)))
    · cases e
  · rintro ⟨r1,r2⟩ s' ⟨hr,rfl,e | ⟨e,_⟩ | ⟨_,e⟩⟩
    · cases e
    · cases e
    simp only at hr
    subst hr
    refine wpAny_pure ?_
    show P (.done (.ret (.bool (xs.size == ys.size)))) s'
    rw [sz]
    rw [decide_eq_true e] at h
    exact h
theorem eqBool_nest {x y:NK} {a b:Addr} {Q:Bool→Shared→Prop} (hu:A.units+4 < cLine) (hx:IsNest prog w s.heap x a) (hy:IsNest prog w s.heap y b) (h:Q (decide (x=y)) s) :
    wpAny (model prog w) A (eqBool (.ref a) (.ref b)) Q E s:=by
  unfold eqBool
  try with_reducible refine wpAny_holding ?_
  show wpAny _ _ (if (Value.ref a == Value.ref b)=true then _ else _) Q E s
  by_cases hab:(Value.ref a == Value.ref b)=true
  · rw [if_pos hab]
    have e:a=b:=by have:=eq_of_beq hab;injection this
    subst e
    obtain rfl:=hx.inj hy
    exact wpAny_bind (wpAny_rule (wpAny_pure (by simpa using h)))
  · rw [if_neg hab]
    exact wpAny_bind (wpAny_richCompare_same_room (op:=.Eq) hx.typeIs hy.typeIs F.slot_tuple_eq
      (wpAny_call_entry F.slot_tuple_eq hx.typeIs F.entry_tuple_eq (nest_eq_tree (show A.units+1 < cLine by omega) hx hy ⟨_,rfl,(fun e=>nomatch e),wpAny_truthy_bool h⟩) (F.args_tuple_eq_2 _ _)) (by omega))
theorem quiet_tuple {ks:List Key} {a:Addr} {Q:Bool→Shared→Prop} (n:Nat) (hk:IsTupleKey (mixKind prog w) s.heap ks a) (h:Q true s):wpAny (model prog w) A (eqIsQuiet (n+1) (.ref a)) Q E s:=by
  have hT:=hk.typeIs
  obtain ⟨o,items,m,ho,_,hd,hi⟩:=hk
  unfold eqIsQuiet
  refine wpAny_bind (wpAny_specialOf hT F.slot_tuple_eq.lookup ?_)
  show wpAny _ _ (isInstance (.ref a) (.type "tuple") >>= _) _ _ s
  refine wpAny_bind (wpAny_isInstance hT isSubtype_tuple_tuple ?_)
  simp only [Bool.not_true,Bool.false_eq_true,if_false]
  refine wpAny_bind (wpAny_seqItems ho hd ?_)
  refine wpAny_bind ?_
  show wpAny _ _ (forIn items _ _) _ _ s
  rw [← Array.forIn_toList]
  refine wpAny_forIn_list _ (fun rest r s'=>r.1=none∧s'=s∧∀ v∈rest,carriedByValue v=true) _ ?_ ?_ _ _ ⟨rfl,rfl,hi.byValue⟩
  · rintro v rest r s' ⟨hr,rfl,hall⟩
    rw [eqIsQuiet_byValue _ (hall v List.mem_cons_self)]
    refine wpAny_bind (wpAny_pure ?_)
    simp only [Bool.not_true,Bool.false_eq_true,if_false]
    exact wpAny_pure ⟨rfl,rfl,fun u hu'=>hall u (List.mem_cons_of_mem _ hu')⟩
  · rintro ⟨r1,r2⟩ s' ⟨hr,rfl,_⟩
    simp only at hr
    subst hr
    exact wpAny_pure h
theorem quiet_nest {k:NK} {a:Addr} {Q:Bool→Shared→Prop} (hk:IsNest prog w s.heap k a) (h:Q true s):wpAny (model prog w) A (eqIsQuiet 8 (.ref a)) Q E s:=by
  have hT:=hk.typeIs
  obtain ⟨o,items,m,t,b,ho,_,hd,hi,hb⟩:=hk
  unfold eqIsQuiet
  refine wpAny_bind (wpAny_specialOf hT F.slot_tuple_eq.lookup ?_)
  show wpAny _ _ (isInstance (.ref a) (.type "tuple") >>= _) _ _ s
  refine wpAny_bind (wpAny_isInstance hT isSubtype_tuple_tuple ?_)
  simp only [Bool.not_true,Bool.false_eq_true,if_false]
  refine wpAny_bind (wpAny_seqItems ho hd ?_)
  refine wpAny_bind ?_
  show wpAny _ _ (forIn items _ _) _ _ s
  rw [← Array.forIn_toList,hi]
  refine wpAny_forIn_list _ (fun rest r s'=>r.1=none∧s'=s∧∀ v∈rest,carriedByValue v=true∨v=.ref b) _ ?_ ?_ _ _ ⟨rfl,rfl,fun v hv=>?_⟩
  · rintro v rest r s' ⟨hr,rfl,hall⟩
    rcases hall v List.mem_cons_self with hv | rfl
    · rw [eqIsQuiet_byValue _ hv]
      refine wpAny_bind (wpAny_pure ?_)
      simp only [Bool.not_true,Bool.false_eq_true,if_false]
      exact wpAny_pure ⟨rfl,rfl,fun u hu'=>hall u (List.mem_cons_of_mem _ hu')⟩
    · refine wpAny_bind (quiet_tuple 6 hb ?_)
      simp only [Bool.not_true,Bool.false_eq_true,if_false]
      exact wpAny_pure ⟨rfl,rfl,fun u hu'=>hall u (List.mem_cons_of_mem _ hu')⟩
  · rintro ⟨r1,r2⟩ s' ⟨hr,rfl,_⟩
    simp only at hr
    subst hr
    exact wpAny_pure h
  · simp only [List.mem_cons,List.not_mem_nil,or_false] at hv
    rcases hv with rfl | rfl
    · exact .inl rfl
    · exact .inr rfl
def nestKind (prog:Program) (w:World):HeapKind prog w NK where
  is:=IsNest prog w
  hash:=nestHash prog w
  draws:=fun k=>k.2.length+3
  room:=fun A=>A.units+4 < cLine
  inj:=fun hx hy=>hx.inj hy
  keeps:=fun x ho hd hs=>x.keeps ho hd hs
  pyHash:=fun hu hk h=>pyHash_nest hu hk h
  eqBool:=fun hu hx hy h=>eqBool_nest hu hx hy h
  quiet:=fun hk h=>quiet_nest hk h
end
section
variable {prog:Program} {w:World} {K:Type} [DecidableEq K] {knd:HeapKind prog w K} {A:Around} {E:Value→Shared→Prop} {s:Shared}
theorem setDefault_heap {d a:Addr} {xs:List (K × Addr × Value)} {k:K} {v:Value} {Q:Value→Shared→Prop} (hu:knd.room A) (hkey:knd.is s.heap k a) (hm:s.heap.DictOfH knd d xs)
    (h1:∀ p,atKey xs k=some p→Q p.2 { s with toks:=s.toks+knd.draws k })
    (h2:atKey xs k=none→∀ h',h'.DictOfH knd d (xs++[(k,a,v)])→Heap.SameBut d s.heap h'→Q v { s with heap:=h',toks:=s.toks+knd.draws k })
    (hsz:xs.length≤sizeLine) :
    wpAny (model prog w) A (dictSetDefault d (.ref a) v) Q E s:=by
  obtain ⟨o,es,ep,ho,hc,hd,he,his,hn⟩:=hm
  unfold dictSetDefault
  try with_reducible refine wpAny_holding ?_
  refine wpAny_bind (knd.pyHash hu hkey ?_)
  refine wpAny_bind (wpAny_dictFind_heap (s:={ s with toks:=s.toks+knd.draws k }) hu hkey ho hd he his hn ?_ ?_)
  · intro hno
    have hnot:k ∉ xs.map (·.1):=not_mem_keys_of_get hno
    refine wpAny_bind (wpAny_rule (wpAny_bind (wpAny_updateDictKeys (hz:=by have e:=size_of_entries he;omega) (s:={ s with toks:=s.toks+knd.draws k }) ho hd (wpAny_pure (h2 (atKey_none_of_get hno) _ ⟨_,_,ep+1,Heap.get?_update_self _ ho (Obj.isFreed_of_dict (Obj.data_mapDictKeys hd _)),
      hc.mapDictKeys _,Obj.data_mapDictKeys hd _,?_,?_,?_⟩ (Heap.SameBut.update ..))))))
    · simp [he,entryOfKey]
    · intro x hx
      rcases List.mem_append.mp hx with hx | hx
      · exact knd.keeps (his x hx) ho hd (Heap.SameBut.update ..)
      · simp only [List.mem_singleton] at hx
        subst hx
        exact knd.keeps hkey ho hd (Heap.SameBut.update ..)
    · rw [List.map_append,List.nodup_append]
      refine ⟨hn,by simp,?_⟩
      intro x hx y hy
      simp only [List.map_cons,List.map_nil,List.mem_singleton] at hy
      subst hy
      exact fun e=>hnot (e ▸ hx)
  · intro j p hj
    refine wpAny_bind (wpAny_dictEntries (s:={ s with toks:=s.toks+knd.draws k }) ho hd ?_)
    rw [entry_at he j,hj]
    exact wpAny_bind (wpAny_rule (wpAny_pure (h1 p (atKey_of_get hn hj))))
end
end L2N
namespace L2N
open PySem PySem.Spec PyProof.Rows PySem.W L2
def DAt (h:Heap) (d:Addr) (es:Array DictEntry) (ep:Nat):Prop:=∃ o,h.get? d=some o∧o.ExactDict∧o.data=.dict es ep
theorem DAt.typeIs {s:Shared} {d:Addr} {es:Array DictEntry} {ep:Nat} (x:DAt s.heap d es ep):s.TypeIs (.ref d) "dict" := let ⟨o,ho,hc,_⟩:=x;⟨o,ho,hc.1⟩
theorem DAt.keep {h h':Heap} {d:Addr} {es:Array DictEntry} {ep:Nat} (x:DAt h d es ep) (k:∀ o,h.get? d=some o→h'.get? d=some o):DAt h' d es ep:=let ⟨o,ho,r⟩:=x;⟨o,k o ho,r⟩
theorem DAt.lt {h:Heap} {d:Addr} {es:Array DictEntry} {ep:Nat} (x:DAt h d es ep):d < h.objs.size:=let ⟨_,ho,_⟩:=x;Heap.lt_size ho
section
variable {prog:Program} {w:World} {A:Around} {E:Value→Shared→Prop} {s:Shared} {d it:Addr} {es:Array DictEntry} {ep i:Nat}
theorem iter_any {Q:Value→Shared→Prop} (hd:(d == sysModules)=false) (hm:DAt s.heap d es ep)
    (hQ:Q (.ref s.heap.objs.size) { s with heap:=s.heap.push { cls:=.type "dict_keyiterator", data:=.fields #[.ref d,.int 0 0,.int es.size 0,.int ep 0] } }) :
    wpAny (model prog w) A (pyIter (.ref d)) Q E s:=by
  have hT:=hm.typeIs
  obtain ⟨o,ho,_,hdat⟩:=id hm
  refine wpAny_pyIter_slot hT F.slot_dict_iter (wpAny_call_entry F.slot_dict_iter hT F.entry_dict_iter ?_ (F.args_dict_iter_1 _))
  unfold Builtin.«dict.__iter__»
  refine wpAny_bind ?_
  unfold Builtin.Dict.dictSlotNone
  refine wpAny_bind (wpAny_notOrdered_dict hT ?_)
  show wpAny _ _ (pure (Value.ref d)) _ _ s
  refine wpAny_pure ?_
  show wpAny _ _ (Builtin.Dict.showsAll d >>= _) _ _ s
  unfold Builtin.Dict.showsAll
  rw [if_neg (by rw [hd];exact Bool.false_ne_true)]
  refine wpAny_bind (wpAny_pure ?_)
  refine wpAny_bind (wpAny_dictEntries ho hdat ?_)
  refine wpAny_bind (wpAny_dictEpoch ho hdat ?_)
  refine wpAny_bind (wpAny_newObj_type (wpAny_pure ⟨_,rfl, "dict_keyiterator", _,⟨_,Heap.get?_push_size _ rfl,rfl⟩,F.slot_dict_keyiterator_next.lookup,?_⟩))
  simpa [rawInt] using hQ
theorem next_any {Q:Option Value→Shared→Prop} (hit:s.heap.IsKeyIter it d i es.size ep) (hm:DAt s.heap d es ep) (hi:i < es.size)
    (hQ:∀ h',h'.IsKeyIter it d (i+1) es.size ep→Heap.SameBut it s.heap h'→Q (some es[i].key) { s with heap:=h' }):wpAny (model prog w) A (pyNext (.ref it)) Q E s:=by
  obtain ⟨o,ho,hc,hd⟩:=id hit
  obtain ⟨od,hod,_,hdd⟩:=id hm
  unfold pyNext
  refine wpAny_bind (wpAny_attempt (wpAny_callSpecial?_slot (name:=Str.ofString "__next__") hit.typeIs F.slot_dict_keyiterator_next
    (wpAny_call_entry F.slot_dict_keyiterator_next hit.typeIs F.entry_dict_keyiterator_next ?_ (F.args_dict_keyiterator_next_1 _))))
  refine wpAny_bind (wpAny_pure ?_)
  refine wpAny_bind ?_
  refine wpAny_bind ?_
  first | refine wpAny_bind (wpAny_typeNameOfWhole_keyiter hit.typeIs (wpAny_pure ?_)) | refine wpAny_bind (wpAny_typeNameOf_keyiter hit.typeIs (wpAny_pure ?_))
  refine wpAny_bind (wpAny_fieldsOf ho hd ?_)
  have hown:Builtin.Dict_items.ownsTuple "dict_keyiterator" = false:=by decide
  simp only [hown,Bool.false_eq_true,if_false]
  show wpAny _ _ (if (Value.ref d == Value.none)=true then _ else _) _ _ s
  rw [if_neg (show ¬ ((Value.ref d == Value.none)=true) from Bool.false_ne_true)]
  refine wpAny_bind (wpAny_pure ?_)
  refine wpAny_bind (wpAny_dictEntries hod hdd ?_)
  rw [if_neg (by simp)]
  refine wpAny_bind (wpAny_pure ?_)
  refine wpAny_bind (wpAny_dictEpoch hod hdd ?_)
  rw [if_neg (by simp)]
  refine wpAny_pure ?_
  simp only [show ¬ ((i:Int) < 0) from by omega,if_false,Int.toNat_natCast,Array.getElem?_eq_getElem hi]
  refine wpAny_bind ?_
  first | refine wpAny_bind (wpAny_typeNameOfWhole_keyiter hit.typeIs (wpAny_pure ?_)) | refine wpAny_bind (wpAny_typeNameOf_keyiter hit.typeIs (wpAny_pure ?_))
  refine wpAny_bind (wpAny_isOneOf_keyiter hit.typeIs ?_)
  show wpAny _ _ (setField (.ref it) 1 (rawInt ((i:Int)+1)) >>= _) _ _ s
  refine wpAny_bind (wpAny_setField ho hd (by simp) ?_)
  have hit':(s.heap.update it (Obj.mapFields (·.setIfInBounds 1 (rawInt ((i:Int)+1))))).IsKeyIter it d (i+1) es.size ep:=
    ⟨_,Heap.get?_update_self _ ho (Obj.isFreed_of_fields (Obj.data_mapFields hd _)),(Obj.cls_mapFields ..).trans hc,by rw [Obj.data_mapFields hd];simp [rawInt]⟩
  refine wpAny_bind (wpAny_holding ?_)
  refine wpAny_bind (wpAny_isOneOf_keyiter (s:={ s with heap:=s.heap.update it (Obj.mapFields (·.setIfInBounds 1 (rawInt ((i:Int)+1)))) }) hit'.typeIs ?_)
  show wpAny _ _ (pure es[i].key) _ _ _
  exact wpAny_pure (wpAny_pure ⟨_,rfl,wpAny_pure (hQ _ hit' (Heap.SameBut.update ..))⟩)
theorem end_any {Q:Option Value→Shared→Prop} (hh:A.handled=none) (hit:s.heap.IsKeyIter it d es.size es.size ep) (hm:DAt s.heap d es ep)
    (hQ:∀ h',Heap.ExtBut it s.heap h'→Q none { s with heap:=h' }):wpAny (model prog w) A (pyNext (.ref it)) Q E s:=by
  obtain ⟨o,ho,hc,hd⟩:=id hit
  obtain ⟨od,hod,_,hdd⟩:=id hm
  unfold pyNext
  refine wpAny_bind (wpAny_attempt (wpAny_callSpecial?_slot (name:=Str.ofString "__next__") hit.typeIs F.slot_dict_keyiterator_next
    (wpAny_call_entry F.slot_dict_keyiterator_next hit.typeIs F.entry_dict_keyiterator_next ?_ (F.args_dict_keyiterator_next_1 _))))
  refine wpAny_bind (wpAny_pure ?_)
  refine wpAny_bind ?_
  refine wpAny_bind ?_
  first | refine wpAny_bind (wpAny_typeNameOfWhole_keyiter hit.typeIs (wpAny_pure ?_)) | refine wpAny_bind (wpAny_typeNameOf_keyiter hit.typeIs (wpAny_pure ?_))
  refine wpAny_bind (wpAny_fieldsOf ho hd ?_)
  have hown:Builtin.Dict_items.ownsTuple "dict_keyiterator" = false:=by decide
  simp only [hown,Bool.false_eq_true,if_false]
  show wpAny _ _ (if (Value.ref d == Value.none)=true then _ else _) _ _ s
  rw [if_neg (show ¬ ((Value.ref d == Value.none)=true) from Bool.false_ne_true)]
  refine wpAny_bind (wpAny_pure ?_)
  refine wpAny_bind (wpAny_dictEntries hod hdd ?_)
  rw [if_neg (by simp)]
  refine wpAny_bind (wpAny_pure ?_)
  refine wpAny_bind (wpAny_dictEpoch hod hdd ?_)
  rw [if_neg (by simp)]
  refine wpAny_pure ?_
  simp only [show ¬ ((es.size:Int) < 0) from by omega,if_false,Int.toNat_natCast,Array.getElem?_eq_none (Nat.le_refl es.size)]
  refine wpAny_bind ?_
  first | refine wpAny_bind (wpAny_typeNameOfWhole_keyiter hit.typeIs (wpAny_pure ?_)) | refine wpAny_bind (wpAny_typeNameOf_keyiter hit.typeIs (wpAny_pure ?_))
  show wpAny _ _ (setField (.ref it) 0 .none >>= _) _ _ s
  refine wpAny_bind (wpAny_setField ho hd (by simp) ?_)
  show wpAny _ _ (newExc (.type "StopIteration") [] >>= _) _ _ _
  refine wpAny_bind ?_
  simp only [newExc,newTuple]
  refine wpAny_bind (wpAny_newObj_type ?_ (by size_fits))
  refine wpAny_bind (m:=firstArgMember _ _) (wpAny_of_eq (a:=Value.none) (by first | rfl | (simp only [firstArgMember];rfl)) ?_)
  refine wpAny_newObj_type ?_ (by size_fits)
  simp only [raiseNew]
  refine wpAny_bind (wpAny_handled ?_)
  rw [show A.in1.handled=none from hh]
  refine wpAny_bind (wpAny_pure (wpAny_throw ?_))
  refine wpAny_bind (wpAny_isInstance (T := "StopIteration") (b:=true) ⟨_,Heap.get?_push_size _ rfl,rfl⟩ isSubtype_stop ?_)
  exact wpAny_pure (hQ _ (((Heap.SameBut.update ..).extBut.push _).push _))
theorem walks_any (hh:A.handled=none) (I:Addr) (hne:d≠I) :
    Walks prog w A I [I,d] [I] es.size (fun i v=>∃ e,es[i]?=some e∧v=e.key) (fun i h=>h.IsKeyIter I d i es.size ep∧DAt h d es ep) where
  sub:=fun b hb=>by simp at hb;simp [hb]
  frame:=fun _ _ _ st hk=>⟨st.1.at fun o e=>hk I (by simp) o e,st.2.keep fun o e=>hk d (by simp) o e⟩
  item:=fun i s Q E hi st hQ=>by
    refine next_any st.1 st.2 hi fun h' hit' hs'=>?_
    exact hQ _ h' s.toks ⟨_,Array.getElem?_eq_getElem hi,rfl⟩ ⟨hit',st.2.keep fun o e=>(hs'.2 d hne).trans e⟩ fun b o hb e=>hs'.extBut b o (fun h=>hb (by simp [h])) e
  done:=fun s Q E st hQ=>end_any hh st.1 st.2 fun h' he'=>hQ h' s.toks fun b o hb e=>he' b o (fun h=>hb (by simp [h])) e
  self:=fun _ _ _ _ st hQ=>wpAny_pyIter_keyiter st.1 hQ
theorem src_any (lo:(d == sysModules)=false):KdlSrc prog w "dict" d d es.size (fun i v=>∃ e,es[i]?=some e∧v=e.key) (fun h=>DAt h d es ep) where
  type:=fun _ hm=>hm.typeIs
  there:=fun _ hm=>⟨hm.lt,hm.lt⟩
  keep:=fun _ _ hm hk=>hm.keep fun o e=>hk d (.inl rfl) o e
  notList:=by decide
  notTuple:=by decide
  hint:=fun _ _ _ _ hm hq=>kdl_hint_dict hm.typeIs hq
  iter:=fun _ _ hh hm=>⟨_,_,(fun _ _ hq=>iter_any lo hm hq),walks_any hh _ (Nat.ne_of_lt hm.lt),⟨⟨_,Heap.get?_push_size _ rfl,rfl,rfl⟩,hm.keep fun o e=>Heap.get?_push_of_some _ e⟩⟩
end
theorem meets_tuple_any (d:Addr) (es:Array DictEntry) (ep:Nat) (lo:(d == sysModules)=false):Meets (Builtin.«tuple.__new__» ⟨[.type "tuple", .ref d],[]⟩) (fun A R s=>A.handled=none∧DAt s.heap d es ep∧es.size≤sizeLine ∧
    ∀ (h':Heap) (tk:Nat) (acc:Array Value),(∀ b o,s.heap.get? b=some o→h'.get? b=some o)→s.heap.objs.size≤h'.objs.size→ItemsOf (fun i v=>∃ e,es[i]?=some e∧v=e.key) acc es.size→R (.ok (.ret (.ref h'.objs.size))) { s with heap:=h'.push { cls:=.type "tuple", data:=.seq acc },toks:=tk }):=
  .of_wp fun prog w A R s h=>by
    obtain ⟨hh,hr,h3,h⟩:=h
    have hT:s.TypeIs (.ref d) "dict" := hr.typeIs
    have g:∀ (Q:List Value→Shared→Prop) (E:Value→Shared→Prop),(∀ (h':Heap) (tk:Nat) (acc:Array Value),s.heap.objs.size≤h'.objs.size→(∀ b o,s.heap.get? b=some o→h'.get? b=some o)→ItemsOf (fun i v=>∃ e,es[i]?=some e∧v=e.key) acc es.size→Q acc.toList { s with heap:=h',toks:=tk })→wpAny (model prog w) A.in1 (collect (.ref d)) Q E s:=fun Q E q=>collect_src (A:=A.in1) (src_any lo) hh hr h3 q
    have f2:=AutoSeq1.sub_tuple_tuple
    have f3:Bind.madeHere "tuple.__new__" (.type "tuple")=pure ():=by kernel_rfl
    have f4:=F.called_tuple.init.lookup
    wp_walk using g _ _
    intro h' tk acc sz kp it
    refine wpAny_bind (wpAny_pure ?_)
    show wpAny _ _ (newTuple acc.toList >>= _) _ _ _
    refine wpAny_bind (wpAny_newTuple (wpAny_pure ⟨_,rfl,h h' tk acc kp sz it⟩) ?_)
    rw [Array.length_toList,it.1];exact h3
end L2N
namespace L2N
open PySem PySem.Spec PyProof.Rows PySem.W L2
theorem slot_sd:Slot "dict" "setdefault" "dict.setdefault" :=
  .of (owner := "dict") (n := "setdefault") (by rw [typeLookup_type,builtinLookup_eq_fast];kernel_rfl) (by decide +kernel) (by decide +kernel) (by decide +kernel)
    (by first | exact .inl (by decide +kernel) | exact .inr (by decide +kernel)) (by rw [isSubtype_type];kernel_rfl)
theorem type_sd:typeOf (.builtin "dict.setdefault")=pure (.type "method_descriptor"):=by show builtinType _=_;rw [builtinType_eq_fast];kernel_rfl
theorem entry_sd:entryFor table "dict.setdefault" = some Builtin.«dict.setdefault»:=entryFor_of_tree (by kernel_rfl)
theorem args_sd (a b c:Value):argsOk "dict.setdefault" ⟨[a,b,c],[]⟩:=by
  unfold argsOk;rw [signature?_of (id := "dict.setdefault") (n:=['t','l','u','a','f','e','d','t','e','s']) (o:=['t','c','i','d']) (by kernel_rfl) F.owner_dict];kernel_rfl
section
variable {prog:Program} {w:World} {K:Type} [DecidableEq K] (knd:HeapKind prog w K) (d a:Addr)
theorem meetsH_sd (hd:(d == sysModules)=false) (v:Value) :
    MeetsIn prog w (Builtin.«dict.setdefault» ⟨[.ref d,.ref a,v],[]⟩) (fun A R s=>knd.room A.in1∧∃ k xs,knd.is s.heap k a∧s.heap.DictOfH knd d xs∧xs.length≤sizeLine ∧
      (∀ p,atKey xs k=some p→R (.ok (.ret p.2)) { s with toks:=s.toks+knd.draws k }) ∧
      (atKey xs k=none→∀ h',h'.DictOfH knd d (xs++[(k,a,v)])→Heap.SameBut d s.heap h'→R (.ok (.ret v)) { s with heap:=h',toks:=s.toks+knd.draws k })):=
  .of_wp fun A R s ⟨hu,k,xs,hkey,hm,hl,h1,h2⟩=>by
    unfold Builtin.«dict.setdefault»
    refine wpAny_bind ?_
    unfold Builtin.Dict.keyAndDefault
    refine wpAny_bind (wpAny_notOrdered_dict hm.typeIs ?_)
    show wpAny _ _ (pure (d,Value.ref a,some v)) _ _ s
    refine wpAny_pure ?_
    dsimp only
    rw [hd,if_neg Bool.false_ne_true]
    show wpAny _ _ (dictSetDefault d (.ref a) v >>= _) _ _ s
    refine wpAny_bind (setDefault_heap hu hkey hm (fun p hp=>?_) (fun hn h' hm' hs=>?_) hl)
    · exact wpAny_pure ⟨_,rfl,h1 p hp⟩
    · exact wpAny_pure ⟨_,rfl,h2 hn h' hm' hs⟩
end
section
variable {prog:Program} {w:World} {A:Around} {E:Value→Shared→Prop} {s:Shared}
theorem meets_len_any (d:Addr) (hd:(d == sysModules)=false):MeetsIn prog w (Builtin.«dict.__len__» ⟨[.ref d],[]⟩) (fun _ R s=>∃ es ep,DAt s.heap d es ep∧R (.ok (.ret (.int es.size s.toks))) { s with toks:=s.toks+1 }):=
  .of_wp fun A R s ⟨es,ep,hm,h⟩=>by
    have hT:=hm.typeIs
    obtain ⟨o,ho,_,hdat⟩:=id hm
    show wpAny _ _ (dictSize d >>= _) _ _ s
    unfold dictSize
    refine wpAny_bind (wpAny_bind (wpAny_dictEntries ho hdat (wpAny_pure ?_)))
    show wpAny _ _ (Builtin.Dict.pendingCount d >>= _) _ _ s
    refine wpAny_bind (wpAny_pendingCount_other hd ?_)
    refine wpAny_ret_mkInt ?_
    rw [Nat.add_zero];exact h
theorem len_any {d:Addr} {es:Array DictEntry} {ep:Nat} {Q:Value→Shared→Prop} (hd:(d == sysModules)=false) (hm:DAt s.heap d es ep) (hfit:(es.size:Int) < 2 ^ 63)
    (h:Q (.int es.size (s.toks+1)) { s with toks:=s.toks+1+1 }):wpAny (model prog w) A (call (.builtin "len") [.ref d]) Q E s:=by
  refine Calls.call_function_entry kind_len plain_len entry_len (args_len1 _) ?_
  unfold Builtin.«len»
  refine wpAny_bind (m:=oneArg "len" _) (wpAny_pure ?_)
  refine wpAny_bind (m:=callSpecial? (.ref d) (Str.ofString "__len__")) (wpAny_callSpecial?_slot (name:=Str.ofString "__len__") hm.typeIs F.slot_dict_len
    (call_meetsIn F.slot_dict_len hm.typeIs F.entry_dict_len (F.args_dict_len_1 _) (meets_len_any d hd) ⟨es,ep,hm,?_⟩))
  show wpAny _ _ _ _ _ { s with toks:=s.toks+1 }
  refine wpAny_bind (wpAny_holding (wpAny_pure ?_))
  refine wpAny_bind (wpAny_letGo ?_)
  show wpAny _ _ (if ((es.size:Nat):Int) < 0 then _ else _) _ _ _
  rw [if_neg (by omega)]
  show wpAny _ _ (if ((es.size:Nat):Int) ≥ 2 ^ 63 then _ else _) _ _ _
  rw [if_neg (by omega)]
  exact wpAny_bind (wpAny_mkInt (wpAny_pure ⟨_,rfl,h⟩))
end
abbrev NX:=List (NK × Addr × Int)
abbrev Like (x:NK × Addr × Int) (q:NK × Addr × Value):Prop:=x.1=q.1∧x.2.1=q.2.1∧∃ t,q.2.2=.int x.2.2 t
def NestOf (P:Program) (w:World) (d:Addr) (xs:NX) (h:Heap):Prop:=(d == sysModules)=false∧xs.length≤sizeLine∧(xs.map (·.1)).Nodup ∧
  ∃ o es ep vs,h.get? d=some o∧o.ExactDict∧o.data=.dict es ep∧es.toList=vs.map (entryOfKey (nestKind P w))∧Paired Like xs vs
def nestO (P:Program) (w:World) (d:Addr) (xs:NX):HO:=.ext (NestOf P w d xs)
theorem nestO_ok {P:Program} {w:World} {H:Hp} {h:Heap} {d:Addr} {xs:NX} (x:NestOf P w d xs h):ObjOk P w H h d (nestO P w d xs):=by
  refine ⟨x,let ⟨_,_,_,o,_,_,_,e,_⟩:=x;⟨o,e⟩,fun h1 h2 a k=>?_⟩
  obtain ⟨a1,a2,a3,o,es,ep,vs,e,r⟩:=a
  exact ⟨a1,a2,a3,o,es,ep,vs,k _ e,r⟩
def NKat (H:Hp) (a:Addr) (k:NK):Prop:=∃ b,H a=some (.tup [.str k.1,.ref b])∧H b=some (.tup (k.2.map V.int))
theorem NKat.tups {H H':Hp} {a:Addr} {k:NK} (h:NKat H a k) (s:∀ b ys,H b=some (.tup ys)→H' b=some (.tup ys)):NKat H' a k:=let ⟨b,x,y⟩:=h;⟨b,s _ _ x,s _ _ y⟩
theorem nkat_is {P:Program} {w:World} {H:Hp} {h:Heap} {a:Addr} {k:NK} (ok:HOk P w H h) (e:NKat H a k):(nestKind P w).is h k a:=by
  obtain ⟨b,e1,e2⟩:=e
  have kb:=key_of (P:=P) (w:=w) (ks:=inKs k.2) ok (by rw [inKs_kV];exact e2)
  obtain ⟨_,its,r,o,h1,h2,n,h3⟩:=(show ObjOk P w H h a (.tup [.str k.1,.ref b]) from ok a _ e1)
  cases r with
  | cons r1 r=>
    cases r with
    | cons r2 r=>
      cases r
      obtain ⟨t,rfl⟩:=r1
      cases r2
      exact ⟨o,_,n,t,b,h1,h2,h3,rfl,kb⟩
def lookN (xs:NX) (k:NK):Option Int:=(xs.find? fun x=>decide (x.1=k)).map (·.2.2)
theorem look_at {k:NK}:∀ {xs:NX} {vs:List (NK × Addr × Value)},Paired Like xs vs→(lookN xs k=none→atKey vs k=none)∧∀ i,lookN xs k=some i→∃ p t,atKey vs k=some p∧p.2=.int i t
  | _,_,.nil=>⟨fun _=>rfl,fun i h=>by cases h⟩
  | x :: xs,v :: vs,.cons r t=>by
    obtain ⟨e1,e2,tk,e3⟩:=r
    have ih:=look_at (k:=k) t
    unfold lookN atKey at ih ⊢
    rw [List.find?_cons,List.find?_cons,← e1]
    by_cases c:x.1=k
    · rw [decide_eq_true c]
      refine ⟨fun h=>(by cases h),fun i h=>⟨v.2,tk,rfl,?_⟩⟩
      cases h
      exact e3
    · rw [decide_eq_false c]
      exact ih
theorem like_keys {xs:NX} {vs:List (NK × Addr × Value)} (h:Paired Like xs vs):xs.map (·.1)=vs.map (·.1):=by
  induction h with
  | nil=>rfl
  | cons r _ ih=>rw [List.map_cons,List.map_cons,ih,r.1]
theorem like_is {P:Program} {w:World} {H:Hp} {h:Heap} {xs:NX} {vs:List (NK × Addr × Value)} (ok:HOk P w H h) (l:Paired Like xs vs) (a:∀ x∈xs,NKat H x.2.1 x.1):∀ v∈vs,(nestKind P w).is h v.1 v.2.1:=by
  induction l with
  | nil=>intro v hv;cases hv
  | @cons x v xs vs r _ ih=>
    intro u hu
    rcases List.mem_cons.mp hu with rfl | hu
    · rw [← r.1,← r.2.1];exact nkat_is ok (a x List.mem_cons_self)
    · exact ih (fun y hy=>a y (List.mem_cons_of_mem _ hy)) u hu
section
variable {X:Cx} {o e f:Expr} {apos cpos:Pos} {td ty tx:TE}
theorem nest_at {pins:List (Addr × Obj)} {σ:L2.St} {H:Hp} {s:Shared} {d:Addr} {xs:NX} (I:Inv X pins σ H s) (h:H d=some (nestO X.prog X.w d xs)):NestOf X.prog X.w d xs s.heap:=(I.hok d _ h).1
def tDNewN (P:Program) (w:World):TE:=fun _ H Q=>∀ p,H p=none→Q (.ref p) (upd H p (nestO P w p []))
theorem pe_dnewN {pos:Pos}:PE X (.Dict [] [] pos) (tDNewN X.prog X.w):=fun pins s σ H Q I h=>
  wpAny_Dict_empty ⟨.ref s.heap.objs.size,_,I.laid (a:=s.heap.objs.size) (o:=nestO X.prog X.w s.heap.objs.size []) (t':=s.toks) (fun _ _ q=>Heap.get?_push_of_some _ q) (Nat.le_refl _)
    (nestO_ok ⟨beq_eq_false_iff_ne.mpr (Ne.symm (Nat.ne_of_lt I.big)),Nat.zero_le _,List.nodup_nil,_,_,_,[],Heap.get?_push_size _ rfl,⟨rfl,rfl,rfl⟩,rfl,rfl,.nil⟩),rfl,h _ (I.hok.fresh (Nat.le_refl _))⟩
def tSetD (P:Program) (w:World) (td tk tv:TE):TE:=fun σ H Q=>td σ H fun x H1=>∃ a,x=.ref a∧(∃ xs,H1 a=some (nestO P w a xs))∧tk σ H1 fun y H2=>tv σ H2 fun z H3=>
  ∃ (xs:NX) (b:Addr) (k:NK) (v:Int),H3 a=some (nestO P w a xs)∧y=.ref b∧NKat H3 b k∧(∀ x∈xs,NKat H3 x.2.1 x.1)∧z=.int v∧xs.length < 1000 ∧
    (∀ i,lookN xs k=some i→Q (.int i) H3)∧(lookN xs k=none→Q (.int v) (upd H3 a (nestO P w a (xs++[(k,b,v)]))))
theorem pe_setdN (hu:X.A.units+64 < cLine) (ho:PE X o td) (he:PE X e ty) (hf:PE X f tx) (m:M2 X o "setdefault" apos e f cpos):PE X (.Call (.Attribute o "setdefault" apos) [e,f] [] cpos) (tSetD X.prog X.w td ty tx):=by
  intro pins s σ H Q I h
  refine wpAny_Call_method m.base m.few m.line PySem.F.plainAttrs_dict slot_sd type_sd (thn (ho pins s σ H _ I h) fun u s1 ⟨x,H1,I1,rx,a,ex,⟨xs1,d⟩,q1⟩=>?_)
  subst ex
  obtain rfl:u=Value.ref a:=rx
  obtain ⟨n1,n2,n3,ob,es,ep,vs,g1,g2,g3,g4,g5⟩:=nest_at I1 d
  refine ⟨⟨ob,g1,g2.1⟩,fun b q=>by cases q;exact ⟨ob,g1,g2.2.1⟩,?_⟩
  rw [m.trees]
  refine Calls.callWith_builtin rfl (Calls.evalArgs_plain (Calls.spliced_cons (thn (he pins s1 σ H1 _ I1 q1) fun iv s2 ⟨y,H2,I2,ry,q2⟩=>
    Calls.spliced_cons (thn (hf pins s2 σ H2 _ I2 q2) fun fv s3 ⟨z,H3,I3,rz,xs,b,k,v,e3,ey,nk,all,ez,hl,q3,q4⟩=>Calls.spliced_nil ?_))))
  subst ey ez
  obtain rfl:iv=Value.ref b:=ry
  obtain ⟨t,rfl⟩:=rz
  obtain ⟨n1,n2,n3,ob,es,ep,vs,g1,g2,g3,g4,g5⟩:=nest_at I3 e3
  have dm:s3.heap.DictOfH (nestKind X.prog X.w) a vs:=⟨ob,es,ep,g1,g2,g3,g4,like_is I3.hok g5 all,by rw [← like_keys g5];exact n3⟩
  have lk:=look_at (k:=k) g5
  have vl:vs.length=xs.length:=(Paired.length g5).symm
  have sl:1000 < sizeLine:=by decide
  refine call_meetsIn slot_sd dm.typeIs entry_sd (args_sd _ _ _) (meetsH_sd (nestKind X.prog X.w) a b n1 _) ⟨show X.A.in1.units+4 < cLine from by show X.A.units+1+4 < cLine;omega,k,vs,nkat_is I3.hok nk,dm,by omega,fun p hp=>?_,fun hn h' dd hs=>?_⟩
  · cases e:lookN xs k with
    | none=>rw [lk.1 e] at hp;cases hp
    | some i=>
      obtain ⟨p',t',e1,e2⟩:=lk.2 i e
      rw [hp] at e1
      cases e1
      rw [e2]
      exact ⟨.int i,H3,I3.tok _,⟨t',rfl⟩,q3 i e⟩
  · have hnone:lookN xs k=none:=by
      cases e:lookN xs k with
      | none=>rfl
      | some i=>obtain ⟨p',t',e1,_⟩:=lk.2 i e;rw [hn] at e1;cases e1
    obtain ⟨o2,es2,ep2,k1,k2,k3,k4,k5,k6⟩:=dd
    refine ⟨.int v,_,I3.write (x:=a) (e:=a) (by rw [e3];exact True.intro) (.inl rfl) (fun c q hc z=>(hs.2 c hc).trans z) ⟨o2,k1⟩ (nestO_ok ⟨n1,by rw [List.length_append,List.length_singleton];omega,?_,o2,es2,ep2,_,k1,k2,k3,k4,?_⟩),⟨t,rfl⟩,q4 hnone⟩
    · rw [List.map_append,← like_keys g5] at k6
      show (List.map (fun x:NK × Addr × Int=>x.1) (xs++[(k,b,v)])).Nodup
      rw [List.map_append]
      exact k6
    · exact Paired.snoc g5 ⟨rfl,rfl,t,rfl⟩
theorem call_len_nest:CallR X (.builtin "len") (fun vs H Q=>∃ (d:Addr) (xs:NX),vs=[.ref d]∧H d=some (nestO X.prog X.w d xs)∧Q (.int xs.length) H):=by
  intro pins s σ H xs us Q I r h
  obtain ⟨d,ys,rfl,hd,q⟩:=h
  obtain ⟨u,rfl,ru⟩:=vals1 r
  cases (show u=Value.ref d from ru)
  obtain ⟨n1,n2,n3,ob,es,ep,vs,g1,g2,g3,g4,g5⟩:=nest_at I hd
  have el:es.size=ys.length:=by rw [← Array.length_toList,g4,List.length_map,Paired.length g5]
  have sl:=sizeLine_eq
  refine len_any n1 ⟨ob,g1,g2,g3⟩ (by omega) ?_
  rw [el]
  exact ⟨.int ys.length,H,I.tok _,⟨_,rfl⟩,q⟩
theorem call_tuple_nest (hc:X.calm=true):CallR X (.type "tuple") (fun vs H Q=>∃ (d:Addr) (xs:NX),vs=[.ref d]∧H d=some (nestO X.prog X.w d xs)∧∀ l,H l=none→Q (.ref l) (upd H l (.tup (xs.map fun x=>V.ref x.2.1)))):=by
  intro pins s σ H xs us Q I r h
  obtain ⟨d,ys,rfl,hd,q⟩:=h
  obtain ⟨u,rfl,ru⟩:=vals1 r
  cases (show u=Value.ref d from ru)
  obtain ⟨n1,n2,n3,ob,es,ep,vs,g1,g2,g3,g4,g5⟩:=nest_at I hd
  have el:es.size=ys.length:=by rw [← Array.length_toList,g4,List.length_map,Paired.length g5]
  refine callType_new F.called_tuple (by decide) (F.typeCall_tuple_1 _) (F.newCall_tuple_1 _) (fun obj=>F.args_object_init_2 obj _) F.entry_tuple_new (meets_tuple_any d es ep n1) ⟨I.ok.hd hc,⟨ob,g1,g2,g3⟩,by omega,fun h' tk acc kp sz hacc=>⟨⟨_,Heap.get?_push_size _ rfl,rfl⟩,?_⟩⟩
  have at_:∀ (i:Nat) (x:NK × Addr × Int),ys[i]?=some x→∃ e,es[i]?=some e∧e.key=.ref x.2.1:=by
    have go:∀ {ys:NX} {vs:List (NK × Addr × Value)},Paired Like ys vs→∀ (i:Nat) (x:NK × Addr × Int),ys[i]?=some x→∃ v,vs[i]?=some v∧v.2.1=x.2.1:=by
      intro ys vs l
      induction l with
      | nil=>intro i x hx;cases hx
      | @cons y v ys vs r _ ih=>
        intro i x hx
        cases i with
        | zero=>cases hx;exact ⟨v,rfl,r.2.1.symm⟩
        | succ i=>exact ih i x (by simpa using hx)
    intro i x hx
    obtain ⟨v,hv,ev⟩:=go g5 i x hx
    refine ⟨entryOfKey (nestKind X.prog X.w) v,?_,by show Value.ref v.2.1=_;rw [ev]⟩
    rw [← Array.getElem?_toList,g4,List.getElem?_map,hv];rfl
  have v:Vals (ys.map fun x=>V.ref x.2.1) acc.toList:=by
    refine vals_at (by rw [List.length_map,Array.length_toList];exact el.symm.trans hacc.1.symm) fun i x u hx hu=>?_
    rw [List.getElem?_map] at hx
    cases ey:ys[i]? with
    | none=>rw [ey] at hx;cases hx
    | some y=>
      rw [ey] at hx
      cases hx
      obtain ⟨e,e1,e2⟩:=at_ i y ey
      obtain ⟨e',e3,e4⟩:=hacc.2 i u (by rw [← Array.getElem?_toList];exact hu)
      rw [e1] at e3
      cases e3
      rw [e4,e2]
      exact rfl
  have ls:(ys.map fun x=>V.ref x.2.1).length≤sizeLine:=by rw [List.length_map];exact n2
  have I1:Inv X pins σ H { s with heap:=h',toks:=tk }:=I.kept (t':=tk) kp
  have et:(h'.push { cls:=.type "tuple", data:=.seq acc }).get? h'.objs.size=some { cls:=.type "tuple", data:=.seq acc }:=Heap.get?_push_size _ rfl
  exact ⟨.ref h'.objs.size,_,I1.laid (t':=tk) (o:=.tup (ys.map fun x=>V.ref x.2.1)) (fun b o e=>Heap.get?_push_of_some _ e) (Nat.le_refl _) ⟨⟨ls,_,et,rfl⟩,acc.toList,v,_,et,rfl,0,by simp⟩,rfl,q _ (I1.hok.fresh (Nat.le_refl _))⟩
end
end L2N
namespace W7
end W7
namespace W47
abbrev Knot:=Nat × List Int
def bel (net:List Knot) (k:Nat):List Nat:=(net.getD k (0,[])).2.map Int.toNat
def U (net:List Knot):Nat→Nat→List Nat
  | 0,_=>[]
  | f+1,k=>k :: ((bel net k).map (U net f)).flatten
def u (net:List Knot) (k:Nat):List Nat:=U net (k+1) k
structure Net (net:List Knot):Prop where
  num:∀ k,k < net.length→∀ l∈bel net k,l < k
variable {net:List Knot}
theorem Net.at' (h:Net net) (k:Nat):∀ l∈bel net k,l < k:=fun l hl=>by
  rcases Nat.lt_or_ge k net.length with c | c
  · exact h.num k c l hl
  · unfold bel at hl
    rw [List.getD_eq_getElem?_getD,List.getElem?_eq_none c] at hl
    cases hl
theorem U_eq (h:Net net):∀ (n k:Nat),k < n→∀ f,k < f→U net f k=u net k
  | 0,_,hn,_,_=>absurd hn (Nat.not_lt_zero _)
  | n+1,k,hn,f,hf=>by
    obtain ⟨g,rfl⟩:∃ g,f=g+1:=⟨f - 1,by omega⟩
    show k :: ((bel net k).map (U net g)).flatten=k :: ((bel net k).map (U net k)).flatten
    congr 2
    refine List.map_congr_left fun l hl=>?_
    have:=h.at' k l hl
    rw [U_eq h n l (by omega) g (by omega),U_eq h n l (by omega) k (by omega)]
theorem u_eq (h:Net net) (k:Nat):u net k=k :: ((bel net k).map (u net)).flatten:=by
  show k :: ((bel net k).map (U net k)).flatten=_
  congr 2
  refine List.map_congr_left fun l hl=>?_
  exact U_eq h (l+1) l (Nat.lt_succ_self _) k (h.at' k l hl)
theorem u_pos (h:Net net) (k:Nat):0 < (u net k).length:=by rw [u_eq h];exact Nat.succ_pos _
theorem u_mem (h:Net net):∀ (n k:Nat),k < n→∀ x∈u net k,x≤k
  | 0,_,hn,_,_=>absurd hn (Nat.not_lt_zero _)
  | n+1,k,hn,x,hx=>by
    rw [u_eq h] at hx
    rcases List.mem_cons.mp hx with e | e
    · omega
    · obtain ⟨l,hl,hx⟩:=List.mem_flatten.mp e
      obtain ⟨y,hy,rfl⟩:=List.mem_map.mp hl
      have:=h.at' k y hy
      have:=u_mem h n y (by omega) x hx
      omega
def sz (net:List Knot) (k:Nat):Int:=((u net k).length:Nat)
theorem sum_len (l:List Nat) (f:Nat→List Nat):((l.map f).flatten.length:Int)=(l.map fun x=>((f x).length:Int)).sum:=by
  induction l with
  | nil=>rfl
  | cons a l ih=>rw [List.map_cons,List.flatten_cons,List.length_append,List.map_cons,List.sum_cons,← ih];omega
theorem sz_eq (h:Net net) (k:Nat):sz net k=1+((bel net k).map (sz net)).sum:=by
  unfold sz
  rw [u_eq h,List.length_cons]
  have:=sum_len (bel net k) (u net)
  rw [← this]
  omega
theorem last_lt (h:Net net) (p:0 < net.length):∀ x∈u net (net.length - 1),x < net.length:=fun x hx=>by
  have:=u_mem h (net.length - 1+1) _ (Nat.lt_succ_self _) x hx
  omega
abbrev St:=List (Nat × Int) × List Int × List Nat
def step (net:List Knot):St→St
  | ((r,a) :: st,us,ks)=>((bel net r).map (fun l=>(l,(us.length:Int)))++st,us++[a],ks++[r])
  | s=>s
def run (net:List Knot):Nat→St
  | 0=>([(net.length - 1,-1)],[],[])
  | i+1=>step net (run net i)
theorem run_inv (h:Net net):∀ i,i≤(u net (net.length - 1)).length→(run net i).2.1.length=i∧(run net i).2.2.length=i∧(run net i).2.2++((run net i).1.map fun p=>u net p.1).flatten=u net (net.length - 1)
  | 0,_=>by
    refine ⟨rfl,rfl,?_⟩
    show []++[u net (net.length - 1)].flatten=_
    simp
  | i+1,hi=>by
    obtain ⟨a,b,c⟩:=run_inv h i (by omega)
    cases e:run net i with
    | mk st r=>
      obtain ⟨us,ks⟩:=r
      rw [e] at a b c
      show (step net (run net i)).2.1.length=_∧_
      rw [show run net (i+1)=step net (run net i) from rfl,e]
      cases st with
      | nil=>
        exfalso
        have:=congrArg List.length c
        simp at this
        have b':ks.length=i:=b
        omega
      | cons q st=>
        obtain ⟨r,ab⟩:=q
        refine ⟨by show (us++[ab]).length=_;rw [List.length_append];have a':us.length=i:=a;simp [a'],by show (ks++[r]).length=_;rw [List.length_append];have b':ks.length=i:=b;simp [b'],?_⟩
        show (ks++[r])++(((bel net r).map (fun l=>(l,(us.length:Int)))++st).map fun p=>u net p.1).flatten=_
        rw [← c]
        show _=ks++(u net r :: st.map fun p=>u net p.1).flatten
        rw [List.flatten_cons,u_eq h r,List.map_append,List.flatten_append,List.map_map]
        simp
        rfl
theorem run_ne (h:Net net) {i:Nat} (hi:i < (u net (net.length - 1)).length):(run net i).1≠[]:=fun e=>by
  obtain ⟨_,b,c⟩:=run_inv h i (by omega)
  rw [e] at c
  have:=congrArg List.length c
  simp at this
  omega
theorem flat_pos (h:Net net):∀ l:List (Nat × Int),l.length≤((l.map fun p=>u net p.1).flatten).length
  | []=>Nat.le_refl _
  | a :: l=>by
    rw [List.map_cons,List.flatten_cons,List.length_append,List.length_cons]
    have:=flat_pos h l
    have:=u_pos h a.1
    omega
theorem run_few (h:Net net) {i:Nat} (hi:i≤(u net (net.length - 1)).length):i+(run net i).1.length≤(u net (net.length - 1)).length:=by
  obtain ⟨_,b,c⟩:=run_inv h i hi
  have:=congrArg List.length c
  rw [List.length_append] at this
  have:=flat_pos h (run net i).1
  omega
theorem run_end (h:Net net):(run net (u net (net.length - 1)).length).1=[]∧(run net (u net (net.length - 1)).length).2.2=u net (net.length - 1):=by
  obtain ⟨_,b,c⟩:=run_inv h _ (Nat.le_refl _)
  have f:=run_few h (Nat.le_refl (u net (net.length - 1)).length)
  have e:(run net (u net (net.length - 1)).length).1=[]:=List.eq_nil_of_length_eq_zero (by omega)
  rw [e] at c
  refine ⟨e,?_⟩
  simpa using c
theorem run_row (h:Net net) (p:0 < net.length) {i:Nat} (hi:i≤(u net (net.length - 1)).length):∀ q∈(run net i).1,q.1 < net.length:=fun q hq=>by
  obtain ⟨_,b,c⟩:=run_inv h i hi
  refine last_lt h p q.1 ?_
  rw [← c]
  refine List.mem_append_right _ (List.mem_flatten.mpr ⟨u net q.1,List.mem_map.mpr ⟨q,hq,rfl⟩,?_⟩)
  rw [u_eq h];exact List.mem_cons_self
theorem run_step (h:Net net) {i:Nat} (hi:i < (u net (net.length - 1)).length):∃ r up rest,(run net i).1=(r,up) :: rest∧(run net (i+1)).1=(bel net r).map (fun l=>(l,(i:Int)))++rest∧(run net (i+1)).2.1=(run net i).2.1++[up]∧(run net (i+1)).2.2=(run net i).2.2++[r]:=by
  obtain ⟨a,b,c⟩:=run_inv h i (by omega)
  have ne:=run_ne h hi
  rw [show run net (i+1)=step net (run net i) from rfl]
  cases e:run net i with
  | mk st x=>
    obtain ⟨us,ks⟩:=x
    rw [e] at a ne
    cases st with
    | nil=>exact absurd rfl ne
    | cons q st=>
      obtain ⟨r,ab⟩:=q
      have a':us.length=i:=a
      refine ⟨r,ab,st,rfl,?_,rfl,rfl⟩
      show (bel net r).map (fun l=>(l,(us.length:Int)))++st=_
      rw [a']
end W47
namespace W50
def kids (us:List Int) (q p:Nat):List Nat:=(List.range' q (us.length - q)).filter fun k=>decide (us.getD k (-1)=(p:Int))
structure Ok (us:List Int) (ls:List Nat):Prop where
  len:ls.length=us.length
  pos:0 < us.length
  most:us.length≤60
  root:us.getD 0 (-1)=-1
  up:∀ k,0 < k→k < us.length→0≤us.getD k (-1)∧us.getD k (-1) < (k:Int)
  low:∀ c∈ls,97≤c∧c < 123
variable {us:List Int} {ls:List Nat}
theorem kids_step {q p:Nat} (h:q < us.length):kids us q p=(if us.getD q (-1)=(p:Int) then [q] else [])++kids us (q+1) p:=by
  unfold kids
  rw [show us.length - q=(us.length - (q+1))+1 by omega,List.range'_succ,List.filter_cons]
  by_cases c:us.getD q (-1)=(p:Int)
  · rw [decide_eq_true c,if_pos c];rfl
  · rw [decide_eq_false c,if_neg c];rfl
theorem kids_end (p:Nat):kids us us.length p=[]:=by unfold kids;rw [Nat.sub_self];rfl
theorem kids_mem {q p k:Nat}:k∈kids us q p ↔ q≤k∧k < us.length∧us.getD k (-1)=(p:Int):=by
  unfold kids
  rw [List.mem_filter,List.mem_range',decide_eq_true_iff]
  constructor
  · rintro ⟨⟨i,h,e⟩,g⟩;exact ⟨by omega,by omega,g⟩
  · rintro ⟨a,b,c⟩;exact ⟨⟨k - q,by omega,by omega⟩,c⟩
theorem kid_gt (ok:Ok us ls) {q p k:Nat} (h:k∈kids us q p):p < k:=by
  obtain ⟨_,b,c⟩:=kids_mem.mp h
  rcases Nat.eq_zero_or_pos k with z | z
  · subst z;rw [ok.root] at c;omega
  · have:=ok.up k z b;omega
theorem kid_lt {q p k:Nat} (h:k∈kids us q p):k < us.length:=(kids_mem.mp h).2.1
theorem kids_from (ok:Ok us ls) {p:Nat}:∀ q,q≤p+1→q≤us.length→kids us q p=kids us 0 p
  | 0,_,_=>rfl
  | q+1,h,g=>by
    rw [← kids_from ok q (by omega) (by omega),kids_step (by omega:q < us.length)]
    have n:¬ us.getD q (-1)=(p:Int):=by
      rcases Nat.eq_zero_or_pos q with z | z
      · subst z;rw [ok.root];omega
      · have:=ok.up q z (by omega);omega
    rw [if_neg n];rfl
def lt (ls:List Nat) (p:Nat):Nat:=ls.getD p 0
theorem lt_low (ok:Ok us ls) {p:Nat} (h:p < us.length):97≤lt ls p∧lt ls p < 123:=by
  unfold lt
  rw [List.getD_eq_getElem?_getD,List.getElem?_eq_getElem (by rw [ok.len];exact h)]
  exact ok.low _ (List.getElem_mem _)
def T (us:List Int) (ls:List Nat):Nat→Nat→List Nat
  | 0,_=>[]
  | f+1,p=>lt ls p :: 40 :: (((kids us 0 p).map (T us ls f)).flatten++[41])
def tx (us:List Int) (ls:List Nat) (p:Nat):List Nat:=T us ls (us.length - p) p
theorem T_eq (ok:Ok us ls):∀ (m p:Nat),us.length - p≤m→∀ f,us.length - p≤f→p < us.length→T us ls f p=tx us ls p
  | 0,p,hm,_,_,hp=>absurd hm (by omega)
  | m+1,p,hm,f,hf,hp=>by
    obtain ⟨g,rfl⟩:∃ g,f=g+1:=⟨f - 1,by omega⟩
    obtain ⟨g',hg⟩:∃ g',us.length - p=g'+1:=⟨us.length - p - 1,by omega⟩
    unfold tx
    rw [hg]
    show _ :: _ :: (((kids us 0 p).map (T us ls g)).flatten++[41])=_ :: _ :: (((kids us 0 p).map (T us ls g')).flatten++[41])
    congr 3
    congr 1
    refine List.map_congr_left fun k hk=>?_
    have a:=kid_gt ok hk
    have b:=kid_lt hk
    rw [T_eq ok m k (by omega) g (by omega) b,T_eq ok m k (by omega) g' (by omega) b]
theorem tx_eq (ok:Ok us ls) {p:Nat} (hp:p < us.length):tx us ls p=lt ls p :: 40 :: (((kids us 0 p).map (tx us ls)).flatten++[41]):=by
  obtain ⟨g,hg⟩:∃ g,us.length - p=g+1:=⟨us.length - p - 1,by omega⟩
  show T us ls (us.length - p) p=_
  rw [hg]
  show _ :: _ :: (((kids us 0 p).map (T us ls g)).flatten++[41])=_
  congr 3
  congr 1
  refine List.map_congr_left fun k hk=>?_
  have a:=kid_gt ok hk
  exact T_eq ok _ k (Nat.le_refl _) g (by omega) (kid_lt hk)
theorem flat_pre {f:Nat→List Nat} {P:Nat→Prop} (hd:∀ c,P c→∃ x y,f c=x :: y∧x≠41):∀ (cs ds:List Nat) (r r':List Nat),(∀ c∈cs,P c∧∀ d,P d→∀ r r',f c++r=f d++r'→f c=f d∧r=r')→(∀ d∈ds,P d) →
    (cs.map f).flatten++41 :: r=(ds.map f).flatten++41 :: r'→cs.map f=ds.map f∧r=r'
  | [],[],r,r',_,_,e=>by
    simp only [List.map_nil,List.flatten_nil,List.nil_append,List.cons.injEq,true_and] at e
    exact ⟨rfl,e⟩
  | [],d :: ds,r,r',_,hD,e=>by
    obtain ⟨x,y,e1,e2⟩:=hd d (hD d List.mem_cons_self)
    rw [List.map_cons,List.flatten_cons,e1] at e
    simp only [List.map_nil,List.flatten_nil,List.nil_append,List.cons_append,List.cons.injEq] at e
    exact absurd e.1.symm e2
  | c :: cs,[],r,r',hC,_,e=>by
    obtain ⟨x,y,e1,e2⟩:=hd c (hC c List.mem_cons_self).1
    rw [List.map_cons,List.flatten_cons,e1] at e
    simp only [List.map_nil,List.flatten_nil,List.nil_append,List.cons_append,List.cons.injEq] at e
    exact absurd e.1 e2
  | c :: cs,d :: ds,r,r',hC,hD,e=>by
    rw [List.map_cons,List.map_cons,List.flatten_cons,List.flatten_cons,List.append_assoc,List.append_assoc] at e
    obtain ⟨a,b⟩:=(hC c List.mem_cons_self).2 d (hD d List.mem_cons_self) _ _ e
    obtain ⟨a',b'⟩:=flat_pre hd cs ds r r' (fun x hx=>hC x (List.mem_cons_of_mem _ hx)) (fun x hx=>hD x (List.mem_cons_of_mem _ hx)) b
    exact ⟨by rw [List.map_cons,List.map_cons,a,a'],b'⟩
theorem tx_pre (ok:Ok us ls):∀ (m p:Nat),us.length - p≤m→p < us.length→∀ p',p' < us.length→∀ r r',tx us ls p++r=tx us ls p'++r'→(lt ls p=lt ls p'∧(kids us 0 p).map (tx us ls)=(kids us 0 p').map (tx us ls))∧r=r'
  | 0,p,hm,hp,_,_,_,_,_=>absurd hm (by omega)
  | m+1,p,hm,hp,p',hp',r,r',e=>by
    rw [tx_eq ok hp,tx_eq ok hp'] at e
    simp only [List.cons_append,List.cons.injEq,true_and,List.append_assoc,List.singleton_append,List.nil_append] at e
    obtain ⟨e1,e2⟩:=e
    obtain ⟨a,b⟩:=flat_pre (f:=tx us ls) (P:=fun c=>c < us.length) (fun c hc=>⟨_,_,tx_eq ok hc,by have:=lt_low ok hc;omega⟩) _ _ r r'
      (fun c hc=>⟨kid_lt hc,fun d hd s s' es=>by
        have g:=kid_gt ok hc
        obtain ⟨x,y⟩:=tx_pre ok m c (by omega) (kid_lt hc) d hd s s' es
        exact ⟨by rw [tx_eq ok (kid_lt hc),tx_eq ok hd,x.1,x.2],y⟩⟩) (fun d hd=>kid_lt hd) e2
    exact ⟨⟨e1,a⟩,b⟩
theorem tx_iff (ok:Ok us ls) {p p':Nat} (hp:p < us.length) (hp':p' < us.length):tx us ls p=tx us ls p' ↔ lt ls p=lt ls p'∧(kids us 0 p).map (tx us ls)=(kids us 0 p').map (tx us ls):=by
  constructor
  · intro e
    exact (tx_pre ok _ p (Nat.le_refl _) hp p' hp' [] [] (by rw [e])).1
  · rintro ⟨a,b⟩
    rw [tx_eq ok hp,tx_eq ok hp',a,b]
def R (us:List Int) (ls:List Nat):Nat→List Nat
  | 0=>[]
  | i+1=>if tx us ls (us.length - 1 - i)∈(R us ls i).map (tx us ls) then R us ls i else R us ls i++[us.length - 1 - i]
def S (us:List Int) (ls:List Nat) (i:Nat):List (List Nat):=(R us ls i).map (tx us ls)
def num (us:List Int) (ls:List Nat) (p:Nat):Nat:=(S us ls us.length).idxOf (tx us ls p)
def key (us:List Int) (ls:List Nat) (p:Nat):Nat × List Nat:=(lt ls p,(kids us 0 p).map (num us ls))
theorem R_lt (h:0 < us.length):∀ i,∀ p∈R us ls i,p < us.length
  | 0,p,hp=>by cases hp
  | i+1,p,hp=>by
    unfold R at hp
    split at hp
    · exact R_lt h i p hp
    · rcases List.mem_append.mp hp with hp | hp
      · exact R_lt h i p hp
      · rw [List.mem_singleton.mp hp];omega
theorem R_len:∀ i,(R us ls i).length≤i
  | 0=>Nat.le_refl _
  | i+1=>by
    unfold R
    have:=R_len i
    split
    · omega
    · rw [List.length_append];show _+1≤_;omega
theorem S_pre (i:Nat):∀ d,S us ls i <+: S us ls (i+d)
  | 0=>List.prefix_rfl
  | d+1=>by
    refine (S_pre i d).trans ?_
    show S us ls (i+d) <+: (R us ls (i+d+1)).map _
    unfold R
    split
    · exact List.prefix_rfl
    · rw [List.map_append];exact List.prefix_append _ _
theorem S_mem {i p:Nat} (hp:p < us.length) (hi:us.length - 1 - p < i):tx us ls p∈S us ls i:=by
  obtain ⟨d,rfl⟩:∃ d,i=(us.length - 1 - p)+1+d:=⟨i - (us.length - 1 - p) - 1,by omega⟩
  refine (S_pre _ d).subset ?_
  show tx us ls p∈(R us ls (us.length - 1 - p+1)).map _
  have e:us.length - 1 - (us.length - 1 - p)=p:=by omega
  unfold R
  rw [e]
  split
  · assumption
  · rw [List.map_append];exact List.mem_append_right _ (List.mem_singleton.mpr rfl)
theorem idx_pre {α:Type} [BEq α] [LawfulBEq α] {a b:List α} {x:α} (h:a <+: b) (m:x∈a):b.idxOf x=a.idxOf x:=by
  obtain ⟨c,rfl⟩:=h
  rw [List.idxOf_append,if_pos m]
theorem num_at {i p:Nat} (hi:i≤us.length) (m:tx us ls p∈S us ls i):num us ls p=(S us ls i).idxOf (tx us ls p):=by
  obtain ⟨d,hd⟩:∃ d,us.length=i+d:=⟨us.length - i,by omega⟩
  unfold num
  have:=S_pre (us:=us) (ls:=ls) i d
  rw [← hd] at this
  exact idx_pre this m
theorem num_new {i:Nat} (hi:i < us.length) (m:tx us ls (us.length - 1 - i) ∉ S us ls i):num us ls (us.length - 1 - i)=(R us ls i).length:=by
  have e:S us ls (i+1)=S us ls i++[tx us ls (us.length - 1 - i)]:=by
    show (R us ls (i+1)).map _=_
    unfold R
    rw [if_neg (show ¬ tx us ls (us.length - 1 - i)∈(R us ls i).map (tx us ls) from m),List.map_append];rfl
  have mm:tx us ls (us.length - 1 - i)∈S us ls (i+1):=by rw [e];exact List.mem_append_right _ (List.mem_singleton.mpr rfl)
  rw [num_at (by omega) mm,e,List.idxOf_append,if_neg m]
  simp [S]
theorem num_lt {p:Nat} (hp:p < us.length):num us ls p < us.length:=by
  have m:tx us ls p∈S us ls us.length:=S_mem hp (by omega)
  have:=List.idxOf_lt_length_of_mem m
  have l:=R_len (us:=us) (ls:=ls) us.length
  unfold num
  have sl:(S us ls us.length).length=(R us ls us.length).length:=List.length_map _
  omega
theorem num_inj {p p':Nat} (hp:p < us.length) (hp':p' < us.length) (e:num us ls p=num us ls p'):tx us ls p=tx us ls p':=by
  have m:tx us ls p∈S us ls us.length:=S_mem hp (by omega)
  have m':tx us ls p'∈S us ls us.length:=S_mem hp' (by omega)
  have a:=List.getElem_idxOf (List.idxOf_lt_length_of_mem m)
  have b:=List.getElem_idxOf (List.idxOf_lt_length_of_mem m')
  unfold num at e
  rw [← a,← b]
  congr 1
theorem map_iff {α β:Type} {f:Nat→α} {g:Nat→β}:∀ {cs ds:List Nat},(∀ c∈cs,∀ d∈ds,f c=f d ↔ g c=g d)→(cs.map f=ds.map f ↔ cs.map g=ds.map g)
  | [],[],_=>by simp
  | [],_ :: _,_=>by simp
  | _ :: _,[],_=>by simp
  | c :: cs,d :: ds,h=>by
    rw [List.map_cons,List.map_cons,List.map_cons,List.map_cons,List.cons.injEq,List.cons.injEq,
      h c List.mem_cons_self d List.mem_cons_self,map_iff fun x hx y hy=>h x (List.mem_cons_of_mem _ hx) y (List.mem_cons_of_mem _ hy)]
theorem key_iff (ok:Ok us ls) {p p':Nat} (hp:p < us.length) (hp':p' < us.length):key us ls p=key us ls p' ↔ tx us ls p=tx us ls p':=by
  rw [tx_iff ok hp hp']
  unfold key
  rw [Prod.mk.injEq]
  refine and_congr Iff.rfl ?_
  refine map_iff fun c hc d hd=>⟨num_inj (kid_lt hc) (kid_lt hd),fun e=>by unfold num;rw [e]⟩
def A (us:List Int) (ls:List Nat) (q x:Nat):List Nat:=((kids us q x).map (tx us ls)).flatten
theorem A_end (x:Nat):A us ls us.length x=[]:=by unfold A;rw [kids_end];rfl
theorem A_step (ok:Ok us ls) {p:Nat} (hp:p < us.length) (x:Nat):A us ls p x=(if us.getD p (-1)=(x:Int) then tx us ls p else [])++A us ls (p+1) x:=by
  unfold A
  rw [kids_step hp,List.map_append,List.flatten_append]
  split
  · simp
  · rfl
theorem A_tx (ok:Ok us ls) {p:Nat} (hp:p < us.length):tx us ls p=lt ls p :: 40 :: (A us ls (p+1) p++[41]):=by
  unfold A
  rw [kids_from ok (p+1) (Nat.le_refl _) (by omega)]
  exact tx_eq ok hp
theorem sum_one (n u L:Nat) (f g:Nat→Nat) (hu:u < n) (h:∀ x,g x=(if u=x then L else 0)+f x):((List.range n).map g).sum=L+((List.range n).map f).sum:=by
  induction n with
  | zero=>omega
  | succ n ih=>
    rw [List.range_succ,List.map_append,List.map_append,List.sum_append,List.sum_append]
    by_cases e:u=n
    · subst e
      have z:∀ m,m≤u→((List.range m).map g).sum=((List.range m).map f).sum:=by
        intro m
        induction m with
        | zero=>intro _;rfl
        | succ m im=>
          intro hm
          rw [List.range_succ,List.map_append,List.map_append,List.sum_append,List.sum_append,im (by omega)]
          simp [h m,show ¬ u=m by omega]
      rw [z u (Nat.le_refl _)]
      simp [h u];omega
    · rw [ih (by omega)]
      simp [h n,e];omega
theorem A_sum (ok:Ok us ls):∀ m,m < us.length→((List.range (us.length - m)).map fun x=>(A us ls (us.length - m) x).length).sum=3 * m
  | 0,_=>by
    rw [Nat.sub_zero]
    have:(fun x=>(A us ls us.length x).length)=fun _=>0:=funext fun x=>by rw [A_end];rfl
    rw [this]
    induction us.length with
    | zero=>rfl
    | succ n ih=>rw [List.range_succ,List.map_append,List.sum_append,ih];rfl
  | m+1,h=>by
    have ih:=A_sum ok m (by omega)
    obtain ⟨p,hp⟩:∃ p,us.length - m=p+1:=⟨us.length - m - 1,by omega⟩
    have ep:us.length - (m+1)=p:=by omega
    rw [hp,List.range_succ,List.map_append,List.sum_append] at ih
    have pl:p < us.length:=by omega
    have pp:0 < p:=by omega
    have up:=ok.up p pp pl
    rw [ep,sum_one p (us.getD p (-1)).toNat (tx us ls p).length (fun x=>(A us ls (p+1) x).length) _ (by omega) fun x=>by
      rw [A_step ok pl,List.length_append]
      by_cases c:us.getD p (-1)=(x:Int)
      · rw [if_pos c,if_pos (by omega)]
      · rw [if_neg c,if_neg (by omega)];rfl]
    rw [A_tx ok pl]
    simp only [List.length_cons,List.length_append,List.length_nil,List.map_cons,List.map_nil,List.sum_cons,List.sum_nil] at ih ⊢
    omega
theorem sum_mem (n:Nat) (f:Nat→Nat) {x:Nat} (h:x < n):f x≤((List.range n).map f).sum:=by
  induction n with
  | zero=>omega
  | succ n ih=>
    rw [List.range_succ,List.map_append,List.sum_append]
    by_cases e:x=n
    · subst e;simp
    · have:=ih (by omega);omega
theorem A_len (ok:Ok us ls) {q x:Nat} (hq:0 < q) (hl:q≤us.length) (hx:x < q):(A us ls q x).length≤180:=by
  have:=A_sum ok (us.length - q) (by omega)
  rw [show us.length - (us.length - q)=q by omega] at this
  have h2:(A us ls q x).length≤_:=sum_mem q (fun x=>(A us ls q x).length) hx
  have h3:=ok.most
  omega
theorem tx_len (ok:Ok us ls) {p:Nat} (hp:p < us.length):(tx us ls p).length≤183:=by
  rw [A_tx ok hp]
  have:=A_len ok (q:=p+1) (x:=p) (by omega) (by omega) (by omega)
  simp only [List.length_cons,List.length_append,List.length_nil]
  omega
end W50
namespace S50
open PySem L2 W7
def top (i:Nat):Stmt:=PySem.Challenge.pw_upwords_k50_trees_folded.main.body.getD i (.Pass ⟨0,0,0,0⟩)
abbrev s_beneath_of:Stmt:=top 1
abbrev N_beneath_of:List Str:=["tree", "place"]
theorem sc_beneath_of:FnScope N_beneath_of ["tree", "place"] (defScope s_beneath_of):=⟨rfl,rfl,rfl,by decide +kernel,rfl,by decide +kernel,by decide +kernel⟩
abbrev s_fold_tree:Stmt:=top 4
abbrev N_fold_tree:List Str:=["folding", "tree", "numbers", "place", "beneath"]
theorem sc_fold_tree:FnScope N_fold_tree ["folding", "tree"] (defScope s_fold_tree):=⟨rfl,rfl,rfl,by decide +kernel,rfl,by decide +kernel,by decide +kernel⟩
abbrev s_folded_net:Stmt:=top 5
abbrev N_folded_net:List Str:=["tree", "folding"]
theorem sc_folded_net:FnScope N_folded_net ["tree"] (defScope s_folded_net):=⟨rfl,rfl,rfl,by decide +kernel,rfl,by decide +kernel,by decide +kernel⟩
abbrev s_knots_of:Stmt:=top 6
abbrev N_knots_of:List Str:=["tree"]
theorem sc_knots_of:FnScope N_knots_of ["tree"] (defScope s_knots_of):=⟨rfl,rfl,rfl,by decide +kernel,rfl,by decide +kernel,by decide +kernel⟩
abbrev s_law_store:Stmt:=top 8
abbrev N_law_store:List Str:=["cell", "k"]
theorem sc_law_store:FnScope N_law_store ["cell", "k"] (defScope s_law_store):=⟨rfl,rfl,rfl,by decide +kernel,rfl,by decide +kernel,by decide +kernel⟩
abbrev s_law_draw:Stmt:=top 9
abbrev N_law_draw:List Str:=["store", "many", "got", "prime", "part"]
theorem sc_law_draw:FnScope N_law_draw ["store", "many"] (defScope s_law_draw):=⟨rfl,rfl,rfl,by decide +kernel,rfl,by decide +kernel,by decide +kernel⟩
abbrev s_law_net:Stmt:=top 10
abbrev N_law_net:List Str:=["store", "most", "way", "many", "letters", "net", "k", "few", "here", "beneath"]
theorem sc_law_net:FnScope N_law_net ["store", "most"] (defScope s_law_net):=⟨rfl,rfl,rfl,by decide +kernel,rfl,by decide +kernel,by decide +kernel⟩
abbrev s_law_sizes:Stmt:=top 11
abbrev N_law_sizes:List Str:=["net", "found", "here", "beneath"]
theorem sc_law_sizes:FnScope N_law_sizes ["net"] (defScope s_law_sizes):=⟨rfl,rfl,rfl,by decide +kernel,rfl,by decide +kernel,by decide +kernel⟩
abbrev s_law_cut:Stmt:=top 12
abbrev N_law_cut:List Str:=["net", "most", "sizes", "good"]
theorem sc_law_cut:FnScope N_law_cut ["net", "most"] (defScope s_law_cut):=⟨rfl,rfl,rfl,by decide +kernel,rfl,by decide +kernel,by decide +kernel⟩
abbrev s_law_unfolded:Stmt:=top 13
abbrev N_law_unfolded:List Str:=["net", "ups", "labels", "knots", "waiting", "knot", "above", "number"]
theorem sc_law_unfolded:FnScope N_law_unfolded ["net"] (defScope s_law_unfolded):=⟨rfl,rfl,rfl,by decide +kernel,rfl,by decide +kernel,by decide +kernel⟩
abbrev s_law_tree:Stmt:=top 14
abbrev N_law_tree:List Str:=["store", "way", "many", "letters", "ups", "labels", "knots", "k", "above", "turn"]
theorem sc_law_tree:FnScope N_law_tree ["store"] (defScope s_law_tree):=⟨rfl,rfl,rfl,by decide +kernel,rfl,by decide +kernel,by decide +kernel⟩
abbrev s_law_folded:Stmt:=top 15
abbrev N_law_folded:List Str:=["tree", "ups", "labels", "texts", "beneath", "knots", "known", "net", "place"]
theorem sc_law_folded:FnScope N_law_folded ["tree"] (defScope s_law_folded):=⟨rfl,rfl,rfl,by decide +kernel,rfl,by decide +kernel,by decide +kernel⟩
abbrev s_law_right:Stmt:=top 16
abbrev N_law_right:List Str:=["tree", "net", "knots", "kept", "again", "told"]
theorem sc_law_right:FnScope N_law_right ["tree"] (defScope s_law_right):=⟨rfl,rfl,rfl,by decide +kernel,rfl,by decide +kernel,by decide +kernel⟩
abbrev s_law:Stmt:=top 17
abbrev N_law:List Str:=["script", "cell", "rows"]
theorem sc_law:FnScope N_law ["script"] (defScope s_law):=⟨rfl,rfl,rfl,by decide +kernel,rfl,by decide +kernel,by decide +kernel⟩
abbrev s_Folding___init__:Stmt:=inClass (top 3) 0
abbrev N_Folding___init__:List Str:=["self"]
theorem sc_Folding___init__:FnScope N_Folding___init__ ["self"] (defScope s_Folding___init__):=⟨rfl,rfl,rfl,by decide +kernel,rfl,by decide +kernel,by decide +kernel⟩
abbrev s_Folding_knot_for:Stmt:=inClass (top 3) 1
abbrev N_Folding_knot_for:List Str:=["self", "letter", "beneath"]
theorem sc_Folding_knot_for:FnScope N_Folding_knot_for ["self", "letter", "beneath"] (defScope s_Folding_knot_for):=⟨rfl,rfl,rfl,by decide +kernel,rfl,by decide +kernel,by decide +kernel⟩
abbrev s_Folding_told_knots:Stmt:=inClass (top 3) 2
abbrev N_Folding_told_knots:List Str:=["self"]
theorem sc_Folding_told_knots:FnScope N_Folding_told_knots ["self"] (defScope s_Folding_told_knots):=⟨rfl,rfl,rfl,by decide +kernel,rfl,by decide +kernel,by decide +kernel⟩
structure Blt7 (mg:Str→Option Value):Prop extends Blt mg where
  sum:mg "sum" = none
  repr:mg "repr" = none
theorem bt_sum:bootBuiltins "sum" = some (.builtin "sum"):=by decide +kernel
abbrev Lw (c:Nat):Prop:=97≤c∧c < 123
abbrev Knot:=W47.Knot
def KnotAt (H:Hp) (a:Addr) (kn:Knot):Prop:=∃ b,H a=some (.tup [.str ⟨#[kn.1]⟩,.ref b])∧H b=some (.tup (kn.2.map V.int))
theorem KnotAt.same {H H':Hp} {a:Addr} {kn:Knot} (h:KnotAt H a kn) (s:Same H H'):KnotAt H' a kn:=let ⟨b,x,y⟩:=h;⟨b,s _ _ x,s _ _ y⟩
def KnotsAt (H:Hp) (as:List Addr) (net:List Knot):Prop:=as.length=net.length∧∀ (i:Nat) (a:Addr) (kn:Knot),as[i]?=some a→net[i]?=some kn→KnotAt H a kn
theorem KnotsAt.same {H H':Hp} {as:List Addr} {net:List Knot} (h:KnotsAt H as net) (s:Same H H'):KnotsAt H' as net:=⟨h.1,fun i a kn x y=>(h.2 i a kn x y).same s⟩
theorem KnotsAt.snoc {H:Hp} {as:List Addr} {net:List Knot} {a:Addr} {kn:Knot} (h:KnotsAt H as net) (k:KnotAt H a kn):KnotsAt H (as++[a]) (net++[kn]):=by
  refine ⟨by rw [List.length_append,List.length_append,h.1];rfl,fun i b m x y=>?_⟩
  rcases Nat.lt_or_ge i as.length with lt | ge
  · rw [List.getElem?_append_left lt] at x
    rw [List.getElem?_append_left (by rw [← h.1];exact lt)] at y
    exact h.2 i b m x y
  · rw [List.getElem?_append_right ge] at x
    rw [List.getElem?_append_right (by rw [← h.1];exact ge),← h.1] at y
    cases e:i - as.length with
    | zero=>
      rw [e] at x y
      cases x;cases y
      exact k
    | succ n=>rw [e] at x;cases x
def NetAt (H:Hp) (t:Addr) (net:List Knot):Prop:=∃ as:List Addr,H t=some (.tup (as.map V.ref))∧KnotsAt H as net
theorem NetAt.same {H H':Hp} {t:Addr} {net:List Knot} (h:NetAt H t net) (s:Same H H'):NetAt H' t net:=let ⟨as,x,y⟩:=h;⟨as,s _ _ x,y.same s⟩
structure NetOk (net:List Knot):Prop where
  pos:0 < net.length
  most:net.length≤60
  low:∀ kn∈net,Lw kn.1
  few:∀ kn∈net,kn.2.length≤60
  num:∀ (k:Nat) (kn:Knot),net[k]?=some kn→∀ n∈kn.2,0≤n∧n < (k:Int)
section
variable {P:Program} {w:World} {K:PySem.W.Frag} {mg:Str→Option Value} {base:Heap} {k:Nat}
theorem ints_at {us:List Int} {i:Int} (h0:0≤i) (h1:i < (us.length:Int)):atI (us.map V.int) i=some (.int (us.getD i.toNat 0)):=by
  have hk:i.toNat < us.length:=by omega
  have e:=atI_nat (xs:=us.map V.int) (j:=i.toNat) (v:=.int (us.getD i.toNat 0)) (by rw [List.getElem?_map,List.getElem?_eq_getElem hk,List.getD_eq_getElem?_getD,List.getElem?_eq_getElem hk];rfl)
  rw [show ((i.toNat:Nat):Int)=i by omega] at e
  exact e
theorem menu {us:List Int} {n lo hi:Int} (h0:0≤n) (h1:n < (us.length:Int)) (hb:∀ v∈us,lo≤v∧v≤hi):∃ v:Int,atI (us.map V.int) n=some (.int v)∧lo≤v∧v≤hi:=by
  refine ⟨_,ints_at h0 h1,?_⟩
  have hk:n.toNat < us.length:=by omega
  rw [List.getD_eq_getElem?_getD,List.getElem?_eq_getElem hk]
  exact hb _ (List.getElem_mem hk)
theorem big18 {m:Int} (h:m < 1000000000000000000):m < bigL:=by
  have e:(1000000000000000000:Int) < bigL:=by unfold bigL;decide +kernel
  exact Int.lt_trans h e
def sp_store:Sp:=fun vs H Q _=>∃ (cell kk:Int),vs=[.int cell,.int kk]∧0≤kk∧kk≤63∧∀ (p:Addr) (H':Hp),H p=none→Same H H'→Deck H' p kk→Q (.ref p) H'
theorem has_store (D:Df K mg "_law_store" s_law_store) (B:Blt7 mg):Has P w K mg base "_law_store" (k+1) ["cell", "k"] sp_store:=by
  refine D.has sc_law_store (fun _ _ _ _ _ _ us hl=>match us,hl with | [_,_],_=>rfl) (fun vs H Q E h=>by obtain ⟨a,kk,rfl,_⟩:=h;rfl) (fun f cdv A outer s H vs Q E hr h=>?_)
  obtain ⟨cell,kk,rfl,k0,k63,q⟩:=h
  refine ⟨_,(pss_one (ps_ret (pe_lst (pa_cons (pe_callB (call_max2 rfl) rfl B.max bt_max (pa_cons pe_int (pa_cons (pe_op op_sub (pv 0) (pe_op op_pow pe_int pe_int)) pa_nil))) (pa_cons (pe_op op_mod (pv 0) pe_int) (pa_cons (pv 1) pa_nil)))))),?_⟩
  refine ⟨_,rfl,_,_,rfl,rfl,⟨by decide,by decide,by decide⟩,_,_,rfl,rfl,_,_,rfl,?_⟩
  refine ⟨_,rfl,_,_,rfl,rfl,(by decide:(0:Int) < 1000000000000000009),_,rfl,(by show 3≤sizeLine;decide),fun p hp=>?_⟩
  exact q p _ hp ((Same.refl H).new hp) ⟨_,_,kk,upd_same,k0,Int.le_refl _⟩
def sp_draw:Sp:=fun vs H Q _=>∃ (p:Addr) (m c:Int),vs=[.ref p,.int m]∧Deck H p c∧c < 1000000∧0 < m∧m < 1000000000000000000∧∀ (n:Int) (H':Hp),0≤n→n < m→Kd p (c+1) H H'→Q (.int n) H'
theorem has_draw (D:Df K mg "_law_draw" s_law_draw) (B:Blt7 mg):Has P w K mg base "_law_draw" (k+1) ["store", "many"] sp_draw:=by
  refine D.has sc_law_draw (fun _ _ _ _ _ _ us hl=>match us,hl with | [_,_],_=>rfl) (fun vs H Q E h=>by obtain ⟨p,m,c,rfl,_⟩:=h;rfl) (fun f cdv A outer s H vs Q E hr h=>?_)
  obtain ⟨p,m,c,rfl,⟨x,y,z,hp,z0,z1⟩,c6,m0,m1,q⟩:=h
  refine ⟨_,(pss_cons (ps_if (pt_cmpR op_gt (pe_ix ix_list (pv 0) pe_int (fun _ _=>rfl)) pe_int (nomark _))
  (pss_cons (ps_set (i:=2) sc_law_draw.nd rfl (by first | exact Or.inl rfl | exact Or.inr rfl) (pe_op op_mod (pe_ix ix_list (pv 0) pe_int (fun _ _=>rfl)) (pv 1)))
  (pss_cons (ps_asg (pe_op op_fdivL (pe_ix ix_list (pv 0) pe_int (fun _ _=>rfl)) (pv 1)) (pg_sub (pv 0) pe_int set_list))
  (pss_one (ps_ret (pv 2)))))
  pss_nil)
  (pss_cons (ps_asg (pe_op op_add (pe_ix ix_list (pv 0) pe_int (fun _ _=>rfl)) pe_int) (pg_sub (pv 0) pe_int set_list))
  (pss_cons (ps_set (i:=3) sc_law_draw.nd rfl (by first | exact Or.inl rfl | exact Or.inr rfl) (pe_ix ix_list (pe_lst (pa_cons pe_int (pa_cons pe_int (pa_cons pe_int (pa_cons pe_int (pa_cons pe_int (pa_cons pe_int (pa_cons pe_int pa_nil)))))))) (pe_op op_mod (pe_ix ix_list (pv 0) pe_int (fun _ _=>rfl)) pe_int) (fun _ _=>rfl)))
  (pss_cons (ps_set (i:=4) sc_law_draw.nd rfl (by first | exact Or.inl rfl | exact Or.inr rfl) (pe_op op_mod (pe_op op_add (pe_op op_add (pe_op op_mul (pe_ix ix_list (pv 0) pe_int (fun _ _=>rfl)) pe_int) (pe_op op_mul pe_int (pe_ix ix_list (pv 0) pe_int (fun _ _=>rfl)))) pe_int) (pv 3)))
  (pss_cons (ps_set (i:=4) sc_law_draw.nd rfl (by first | exact Or.inl rfl | exact Or.inr rfl) (pe_op op_mod (pe_op op_add (pe_op op_add (pe_op op_pow (pv 4) pe_int) (pe_op op_mul pe_int (pe_ix ix_list (pv 0) pe_int (fun _ _=>rfl)))) pe_int) pe_int))
  (pss_one (ps_ret (pe_op op_mod (pe_op op_fdivL (pe_op op_mod (pe_op op_mul (pv 4) (pv 4)) pe_int) pe_int) (pv 1))))))))),?_⟩
  refine ⟨_,rfl,p,_,_,_,rfl,rfl,SqL.of hp,rfl,_,_,rfl,rfl,_,rfl,ite2 (fun cnd=>?_) (fun cnd=>?_)⟩
  · refine ⟨_,rfl,p,_,_,_,rfl,rfl,SqL.of hp,rfl,_,rfl,_,_,rfl,rfl,m0,?_⟩
    refine ⟨_,rfl,p,_,_,_,rfl,rfl,SqL.of hp,rfl,_,rfl,_,_,rfl,rfl,⟨m0,big18 m1⟩,?_⟩
    refine ⟨_,rfl,p,_,_,0,rfl,rfl,hp,rfl,_,rfl,?_⟩
    exact q _ _ (Int.emod_nonneg _ (by omega)) (Int.emod_lt_of_pos _ m0) ⟨⟨_,y,z,upd_same,z0,by omega⟩,fun b o hb e=>by rw [upd_ne hb];exact e⟩
  · refine ⟨_,rfl,p,_,_,_,rfl,rfl,SqL.of hp,rfl,_,_,rfl,rfl,?_⟩
    refine ⟨_,rfl,p,_,_,2,rfl,rfl,hp,rfl,?_⟩
    have hp':upd H p (.lst [.int x,.int y,.int (z+1)]) p=some (.lst [.int x,.int y,.int (z+1)]):=upd_same
    have hk':∀ b o,b≠p→H b=some o→upd H p (.lst [.int x,.int y,.int (z+1)]) b=some o:=fun b o hb e=>by rw [upd_ne hb];exact e
    show (fun HH=>_) (upd H p (.lst [.int x,.int y,.int (z+1)]))
    generalize upd H p (.lst [.int x,.int y,.int (z+1)])=H1 at hp' hk'
    refine ⟨(by show 7≤sizeLine;decide),fun r1 hr1=>?_⟩
    have rp:p≠r1:=ne_of_none hp' hr1
    refine ⟨_,rfl,p,_,_,_,rfl,rfl,SqL.of (by rw [upd_ne rp];exact hp'),rfl,_,_,rfl,rfl,(by decide:(0:Int) < 7),?_⟩
    obtain ⟨v,hv,v0,v1⟩:=menu (us:=[2147483647,2147483629,2147483587,2147483579,2147483563,2147483549,2147483543]) (n:=(z+1) % 7) (lo:=1) (hi:=2147483647) (Int.emod_nonneg _ (by decide)) (Int.emod_lt_of_pos _ (by decide)) (by decide)
    refine ⟨r1,_,_,_,rfl,rfl,SqL.of upd_same,hv,?_⟩
    have hp2:upd H1 r1 (.lst ([2147483647,2147483629,2147483587,2147483579,2147483563,2147483549,2147483543].map V.int)) p=some (.lst [.int x,.int y,.int (z+1)]):=by rw [upd_ne rp];exact hp'
    have hk2:∀ b o,b≠p→H b=some o→upd H1 r1 (.lst ([2147483647,2147483629,2147483587,2147483579,2147483563,2147483549,2147483543].map V.int)) b=some o:=fun b o hb e=>by
      have:=hk' b o hb e
      rw [upd_ne (ne_of_none this hr1)];exact this
    show (fun HH=>_) (upd H1 r1 (.lst ([2147483647,2147483629,2147483587,2147483579,2147483563,2147483549,2147483543].map V.int)))
    generalize upd H1 r1 (.lst ([2147483647,2147483629,2147483587,2147483579,2147483563,2147483549,2147483543].map V.int))=H2 at hp2 hk2
    refine ⟨_,rfl,p,_,_,_,rfl,rfl,SqL.of hp2,rfl,_,_,rfl,rfl,.inr ⟨by decide,by decide⟩,_,rfl,p,_,_,_,rfl,rfl,SqL.of hp2,rfl,_,_,rfl,rfl,.inl ⟨by decide,by decide⟩,_,_,rfl,rfl,_,_,rfl,rfl,_,rfl,_,_,rfl,rfl,(show 0 < v by omega),?_⟩
    have y1:=Int.emod_nonneg (y * 69621+104729 * (z+1)+1013) (show v≠0 by omega)
    have y2:=Int.emod_lt_of_pos (y * 69621+104729 * (z+1)+1013) (show 0 < v by omega)
    generalize hyy:(y * 69621+104729 * (z+1)+1013) % v=yy at y1 y2
    refine ⟨_,rfl,_,_,rfl,rfl,⟨by decide,by decide,by rw [hyy];omega⟩,_,rfl,p,_,_,_,rfl,rfl,SqL.of hp2,rfl,_,_,rfl,rfl,.inl ⟨by decide,by decide⟩,_,_,rfl,rfl,_,_,rfl,rfl,_,_,rfl,rfl,(by decide:(0:Int) < 2305843009213693951),?_⟩
    rw [hyy]
    have w1:=Int.emod_nonneg (yy ^ (3:Int).toNat+31 * (z+1)+7) (show (2305843009213693951:Int)≠0 by decide)
    have w2:=Int.emod_lt_of_pos (yy ^ (3:Int).toNat+31 * (z+1)+7) (show (0:Int) < 2305843009213693951 by decide)
    refine ⟨_,rfl,_,rfl,_,_,rfl,rfl,.inl ⟨by omega,by omega⟩,_,_,rfl,rfl,(by decide:(0:Int) < 2305843009213693921),_,_,rfl,rfl,⟨by decide,big18 (by decide)⟩,_,rfl,_,_,rfl,rfl,m0,?_⟩
    exact q _ _ (Int.emod_nonneg _ (by omega)) (Int.emod_lt_of_pos _ m0) ⟨⟨x,_,z+1,hp2,by omega,by omega⟩,hk2⟩
end
end S50
namespace S50
open PySem L2 W7
theorem KnotsAt.tups {H H':Hp} {as:List Addr} {net:List Knot} (h:KnotsAt H as net) (t:∀ a xs,H a=some (.tup xs)→H' a=some (.tup xs)):KnotsAt H' as net:=
  ⟨h.1,fun i a kn x y=>let ⟨b,p,q⟩:=h.2 i a kn x y;⟨b,t _ _ p,t _ _ q⟩⟩
theorem kd_tups {p:Addr} {c d:Int} {H H':Hp} (h:Deck H p d) (k:Kd p c H H'):∀ a xs,H a=some (.tup xs)→H' a=some (.tup xs):=fun a xs e=>k.keep _ _ (ne_deck h e (by intro _ _ _ z;cases z)) e
structure Nts (p u:Addr) (i:Nat) (as:List Addr) (net:List Knot) (H':Hp):Prop where
  at':H' u=some (.lst (as.map V.ref))
  kn:KnotsAt H' as net
  len:net.length=i
  low:∀ kn∈net,Lw kn.1
  few:∀ kn∈net,kn.2.length≤60
  num:∀ (k:Nat) (kn:Knot),net[k]?=some kn→∀ n∈kn.2,0≤n∧n < (k:Int)
theorem Nts.kd {p u:Addr} {i:Nat} {as:List Addr} {net:List Knot} {H1 H2:Hp} {c d:Int} (h:Nts p u i as net H1) (up:u≠p) (dk:Deck H1 p c) (k:Kd p d H1 H2):Nts p u i as net H2:=
  ⟨k.keep _ _ up h.at',h.kn.tups (kd_tups dk k),h.len,h.low,h.few,h.num⟩
theorem Nts.same {p u:Addr} {i:Nat} {as:List Addr} {net:List Knot} {H1 H2:Hp} (h:Nts p u i as net H1) (k:Same H1 H2):Nts p u i as net H2:=
  ⟨k _ _ h.at',h.kn.same k,h.len,h.low,h.few,h.num⟩
structure Ben (p b:Addr) (i:Nat) (nums:List Int) (H':Hp):Prop where
  at':H' b=some (.lst (nums.map V.int))∨H' b=some (.tup (nums.map V.int))
  np:b≠p
  few:nums.length≤60
  num:0 < i→∀ n∈nums,0≤n∧n < (i:Int)
theorem Ben.kd {p b:Addr} {i:Nat} {nums:List Int} {H1 H2:Hp} {d:Int} (h:Ben p b i nums H1) (k:Kd p d H1 H2):Ben p b i nums H2:=
  ⟨h.at'.imp (k.keep _ _ h.np) (k.keep _ _ h.np),h.np,h.few,h.num⟩
theorem let4 {n:Int} (h0:0≤n) (h1:n < 4):∃ L:Str,atI [V.str (Str.ofString "abcdefghijklmnopqrstuvwxyz"),.str (Str.ofString "ab"),.str (Str.ofString "z"),.str (Str.ofString "abc")] n=some (.str L)∧(∀ c∈L.cps.toList,Lw c)∧0 < L.length∧L.length≤26:=by
  have:n=0∨n=1∨n=2∨n=3:=by omega
  rcases this with rfl | rfl | rfl | rfl <;> exact ⟨_,rfl,by decide +kernel,by decide +kernel,by decide +kernel⟩
theorem str_at {L:Str} {i:Int} (al:∀ c∈L.cps.toList,Lw c) (h0:0≤i) (h1:i < (L.length:Int)):∃ c,atI L.cps.toList i=some c∧Lw c:=by
  have hl:L.cps.toList.length=L.length:=by simp [Str.length]
  have hk:i.toNat < L.cps.toList.length:=by omega
  have e:=atI_nat (xs:=L.cps.toList) (j:=i.toNat) (List.getElem?_eq_getElem hk)
  rw [show ((i.toNat:Nat):Int)=i by omega] at e
  exact ⟨_,e,al _ (List.getElem_mem hk)⟩
section
variable {P:Program} {w:World} {K:PySem.W.Frag} {mg:Str→Option Value} {base:Heap} {k:Nat}
def sp_net:Sp:=fun vs H Q _=>∃ (p:Addr) (c:Int),vs=[.ref p,.int 60]∧Deck H p c∧0≤c∧c < 900000∧∀ (t:Addr) (net:List Knot) (H':Hp),Kd p (c+5000) H H'→NetAt H' t net→NetOk net→Q (.ref t) H'
theorem has_net (D:Df K mg "_law_net" s_law_net) (B:Blt7 mg) (G_law_draw:Has P w K mg base "_law_draw" k ["store", "many"] sp_draw):Has P w K mg base "_law_net" (k+1) ["store", "most"] sp_net:=by
  refine D.has sc_law_net (fun _ _ _ _ _ _ us hl=>match us,hl with | [_,_],_=>rfl) (fun vs H Q E h=>by obtain ⟨p,c,rfl,_⟩:=h;rfl) (fun f cdv A outer s H vs Q E hr h=>?_)
  obtain ⟨p,c,rfl,hd,cc0,cc1,q⟩:=h
  refine ⟨_,(pss_cons (ps_set (i:=2) sc_law_net.nd rfl (by first | exact Or.inl rfl | exact Or.inr rfl) (pe_callH G_law_draw hr rfl (pa_cons (pv 0) (pa_cons pe_int pa_nil))))
  (pss_cons (ps_set (i:=3) sc_law_net.nd rfl (by first | exact Or.inl rfl | exact Or.inr rfl) (pe_ix ix_list (pe_lst (pa_cons (pe_op op_add pe_int (pe_callH G_law_draw hr rfl (pa_cons (pv 0) (pa_cons pe_int pa_nil)))) (pa_cons (pe_op op_add pe_int (pe_callH G_law_draw hr rfl (pa_cons (pv 0) (pa_cons (pv 1) pa_nil)))) (pa_cons (pv 1) pa_nil)))) (pe_callH G_law_draw hr rfl (pa_cons (pv 0) (pa_cons pe_int pa_nil))) (fun _ _=>rfl)))
  (pss_cons (ps_set (i:=4) sc_law_net.nd rfl (by first | exact Or.inl rfl | exact Or.inr rfl) (pe_ix ix_list (pe_lst (pa_cons pe_str (pa_cons pe_str (pa_cons pe_str (pa_cons pe_str pa_nil))))) (pe_callH G_law_draw hr rfl (pa_cons (pv 0) (pa_cons pe_int pa_nil))) (fun _ _=>rfl)))
  (pss_cons (ps_set (i:=5) sc_law_net.nd rfl (by first | exact Or.inl rfl | exact Or.inr rfl) (pe_lst pa_nil))
  (pss_cons (ps_for PassesOwn.never rfl (pi_range1 rfl B.range (pa_cons (pv 3) pa_nil)) (pg_name (i:=6) sc_law_net.nd rfl (by first | exact Or.inl rfl | exact Or.inr rfl))
  (pss_cons (ps_set (i:=7) sc_law_net.nd rfl (by first | exact Or.inl rfl | exact Or.inr rfl) (pe_callH G_law_draw hr rfl (pa_cons (pv 0) (pa_cons pe_int pa_nil))))
  (pss_cons (ps_set (i:=8) sc_law_net.nd rfl (by first | exact Or.inl rfl | exact Or.inr rfl) (pe_ix ix_str (pv 4) (pe_callH G_law_draw hr rfl (pa_cons (pv 0) (pa_cons (pe_callB call_len_str rfl B.len bt_len (pa_cons (pv 4) pa_nil)) pa_nil))) (fun _ _=>rfl)))
  (pss_cons (ps_comp (i:=9) sc_law_net.nd rfl (by first | exact Or.inl rfl | exact Or.inr rfl) rfl (pi_range1 rfl B.range (pa_cons (pe_ix ix_list (pe_lst (pa_cons pe_int (pa_cons pe_int (pa_cons pe_int (pa_cons (pv 7) (pa_cons (pv 7) (pa_cons (pv 7) (pa_cons (pv 7) pa_nil)))))))) (pv 2) (fun _ _=>rfl)) pa_nil)) (NL:=["j"]) (ix:=[6]) (csc (defScope s_law_net) N_law_net) (fun cl C s₃ H₃ fp pins=>⟨(pg_name (i:=0) (show List.Nodup (["j", "k"]:List Str) from by decide +kernel) rfl (by first | exact Or.inl rfl | exact Or.inr rfl)),pifs_nil,(pe_op op_add (pe_callB (call_max2 rfl) rfl B.max bt_max (pa_cons pe_int (pa_cons (pe_op op_sub (pv 1) pe_int) pa_nil))) (pe_op op_mul pe_int (pv 0)))⟩))
  (pss_cons (ps_if (pt_cmpR op_gt (pv 2) pe_int (nomark _))
  (pss_one (ps_comp (i:=9) sc_law_net.nd rfl (by first | exact Or.inl rfl | exact Or.inr rfl) rfl (pi_list (pv 9)) (NL:=["j"]) (ix:=[0,6]) (csc (defScope s_law_net) N_law_net) (fun cl C s₃ H₃ fp pins=>⟨(pg_name (i:=0) (show List.Nodup (["j", "store", "k"]:List Str) from by decide +kernel) rfl (by first | exact Or.inl rfl | exact Or.inr rfl)),pifs_nil,(pe_callH G_law_draw hr rfl (pa_cons (pv 1) (pa_cons (pe_op op_add (pv 2) (pe_callTy call_int1 rfl B.int_ bt_int (pa_cons (pe_cmpR op_eq (pv 2) pe_int (nomark _)) pa_nil))) pa_nil)))⟩)))
  pss_nil)
  (pss_cons (ps_if (pt_cmpR op_eq (pv 2) pe_int (nomark _))
  (pss_one (ps_comp (i:=9) sc_law_net.nd rfl (by first | exact Or.inl rfl | exact Or.inr rfl) rfl (pi_range1 rfl B.range (pa_cons (pv 7) pa_nil)) (NL:=["j"]) (ix:=[6]) (csc (defScope s_law_net) N_law_net) (fun cl C s₃ H₃ fp pins=>⟨(pg_name (i:=0) (show List.Nodup (["j", "k"]:List Str) from by decide +kernel) rfl (by first | exact Or.inl rfl | exact Or.inr rfl)),pifs_nil,(pe_callB (call_max2 rfl) rfl B.max bt_max (pa_cons pe_int (pa_cons (pe_op op_sub (pe_op op_sub (pv 1) pe_int) (pv 0)) pa_nil)))⟩)))
  pss_nil)
  (pss_cons (ps_if (PW.pt (pw_and (pt_cmpR op_eq (pv 2) pe_int (nomark _)) (pw_and (pt_cmpR op_gt (pv 6) pe_int (nomark _)) (pw_and1 (pt_cmpR op_eq (pe_callH G_law_draw hr rfl (pa_cons (pv 0) (pa_cons pe_int pa_nil))) pe_int (nomark _))))))
  (pss_one (ps_asg (pe_ix ix_list (pv 5) (pe_callH G_law_draw hr rfl (pa_cons (pv 0) (pa_cons (pv 6) pa_nil))) (fun _ _=>rfl)) (pg_tup rfl (pgs_cons (pg_name (i:=8) sc_law_net.nd rfl (by first | exact Or.inl rfl | exact Or.inr rfl)) (pgs_cons (pg_name (i:=9) sc_law_net.nd rfl (by first | exact Or.inl rfl | exact Or.inr rfl)) pgs_nil)))))
  pss_nil)
  (pss_cons (ps_if (PW.pt (pw_and (pt_cmpR op_eq (pv 2) pe_int (nomark _)) (pw_and1 (pt_cmpR op_gt (pv 6) pe_int (nomark _)))))
  (pss_one (ps_set (i:=9) sc_law_net.nd rfl (by first | exact Or.inl rfl | exact Or.inr rfl) (pe_op op_cat (pe_op op_cat (pe_lst (pa_cons (pe_op op_sub (pv 6) pe_int) pa_nil)) (pv 9)) (pe_lst (pa_cons (pe_op op_sub (pv 6) pe_int) pa_nil)))))
  pss_nil)
  (pss_one (ps_expr (pe_bm PySem.F.plainAttrs_list PySem.F.slot_list_append PySem.F.type_list_append mt_append (pv 5) (pa_cons (pe_tup (pa_cons (pv 8) (pa_cons (pe_ifExp (pt_cmpR op_gt (pv 6) pe_int (nomark _)) (pe_callTy call_tuple_of rfl B.tuple_ bt_tuple (pa_cons (pv 9) pa_nil)) (pe_tup pa_nil)) pa_nil))) pa_nil))))))))))))
  (pss_one (ps_ret (pe_callTy call_tuple_of rfl B.tuple_ bt_tuple (pa_cons (pv 5) pa_nil))))))))),?_⟩
  refine ⟨_,rfl,p,7,c,rfl,hd,by omega,by decide,by decide,fun way H1 w0 w1 kd1=>?_⟩
  refine ⟨_,rfl,p,5,_,rfl,kd1.deck,by omega,by decide,by decide,fun n1 H2 a0 a1 kd2=>?_⟩
  refine ⟨_,_,rfl,rfl,_,rfl,_,rfl,p,60,_,rfl,kd2.deck,by omega,by decide,by decide,fun n2 H3 b0 b1 kd3=>?_⟩
  refine ⟨_,_,rfl,rfl,_,rfl,(by show 3≤sizeLine;decide),fun r1 hr1=>?_⟩
  have kq3:=(((kd1.trans kd2).trans kd3).new (o:=.lst [.int (1+n1),.int (1+n2),.int 60]) hr1)
  refine ⟨_,rfl,p,3,_,rfl,kq3.deck,by omega,by decide,by decide,fun n3 H4 d0 d1 kd4=>?_⟩
  have ku4:=kq3.trans kd4
  obtain ⟨many,hmany,mn1,mn60⟩:=menu (us:=[1+n1,1+n2,60]) (n:=n3) (lo:=1) (hi:=60) d0 d1 (by
    intro z hz
    simp only [List.mem_cons,List.not_mem_nil,or_false] at hz
    rcases hz with rfl | rfl | rfl <;> omega)
  refine ⟨r1,_,_,_,rfl,rfl,SqL.of (kd4.keep _ _ (kd3.deck.ne hr1) upd_same),hmany,?_⟩
  refine ⟨(by show 4≤sizeLine;decide),fun r2 hr2=>?_⟩
  have kq4:=ku4.new (o:=.lst [V.str (Str.ofString "abcdefghijklmnopqrstuvwxyz"),.str (Str.ofString "ab"),.str (Str.ofString "z"),.str (Str.ofString "abc")]) hr2
  refine ⟨_,rfl,p,4,_,rfl,kq4.deck,by omega,by decide,by decide,fun n4 H5 g0 g1 kd5=>?_⟩
  obtain ⟨L,hL,Ll,L0,L26⟩:=let4 g0 g1
  refine ⟨r2,_,_,_,rfl,rfl,SqL.of (kd5.keep _ _ (ku4.deck.ne hr2) upd_same),hL,?_⟩
  have ku5:=kq4.trans kd5
  refine ⟨(by show 0≤sizeLine;decide),fun u hu0=>?_⟩
  have hup:u≠p:=ku5.deck.ne hu0
  have hHu:H u=none:=ku5.fresh hu0
  refine ⟨_,rfl,many,rfl,by omega,by omega,?_⟩
  refine for_range (lo:=0) (n:=many.toNat) (fun i σ H'=>∃ (as:List Addr) (net:List Knot) (o6 o7 o8 o9:Option V),
      σ=[some (.ref p),some (.int 60),some (.int way),some (.int many),some (.str L),some (.ref u),o6,o7,o8,o9]∧Kd p (c+6+66 * i) H H'∧Nts p u i as net H')
    ⟨[],[],none,none,none,none,rfl,(ku5.new hu0).mono (by omega),upd_same,⟨rfl,fun i a kn x=>by cases x⟩,rfl,by simp,by simp,fun k kn x=>by cases x⟩ ?_ ?_
  · rintro i σ H' hi ⟨as,net,o6,o7,o8,o9,rfl,kd,nts⟩
    have i60:i < 60:=by omega
    have kone:(if decide (V.int (0+(i:Int))=V.int 0)=true then (1:Int) else 0)=if i=0 then 1 else 0:=by
      by_cases z:i=0
      · subst z;rfl
      · rw [if_neg z,if_neg (by rw [decide_eq_true_eq];intro e;injection e with e;omega)]
    refine ⟨_,rfl,p,4,_,rfl,kd.deck,by omega,by decide,by decide,fun few G1 f0 f1 e1=>?_⟩
    refine ⟨_,rfl,_,rfl,_,rfl,_,rfl,by exact Nat.le_of_lt (small1000 (by omega)),p,_,_,rfl,e1.deck,by omega,by omega,by omega,fun n G2 p0 p1 e2=>?_⟩
    obtain ⟨ch,hch,chl⟩:=str_at Ll p0 p1
    refine ⟨_,_,_,rfl,rfl,by exact Nat.le_of_lt (small1000 (by omega)),hch,?_⟩
    have kd2:=(kd.trans e1).trans e2
    have nts2:=(nts.kd hup kd.deck e1).kd hup e1.deck e2
    dsimp only [gName]
    refine mid (fun σ HX=>∃ (b:Addr) (nums:List Int),σ=[some (.ref p),some (.int 60),some (.int way),some (.int many),some (.str L),some (.ref u),some (.int (0+(i:Int))),some (.int few),some (.str ⟨#[ch]⟩),some (.ref b)]∧Kd p (c+6+66 * i+2) H HX∧Nts p u i as net HX∧Ben p b i nums HX∧HX b=some (.lst (nums.map V.int))∧(way=3∨way=4∨way=5∨way=6→nums.length≤3)) ?_ fun E nx=>?_
    rotate_left
    · refine ⟨_,rfl,_,rfl,_,rfl,_,rfl,(by show 7≤sizeLine;decide),fun r3 hr3=>?_⟩
      have kd3:=kd2.new (o:=.lst ([V.int 1,.int 2,.int 60,.int few,.int few,.int few,.int few])) hr3
      have nts3:=nts2.same ((Same.refl G2).new (o:=.lst ([V.int 1,.int 2,.int 60,.int few,.int few,.int few,.int few])) hr3)
      have at3:upd G2 r3 (.lst [V.int 1,.int 2,.int 60,.int few,.int few,.int few,.int few]) r3=some (.lst [V.int 1,.int 2,.int 60,.int few,.int few,.int few,.int few]):=upd_same
      show (fun HH=>_) (upd G2 r3 (.lst [V.int 1,.int 2,.int 60,.int few,.int few,.int few,.int few]))
      generalize upd G2 r3 (.lst [V.int 1,.int 2,.int 60,.int few,.int few,.int few,.int few])=G3 at kd3 nts3 at3
      have hmn:∃ m:Int,atI ([V.int 1,.int 2,.int 60,.int few,.int few,.int few,.int few]) way=some (.int m)∧0≤m∧m≤60∧(way=3∨way=4∨way=5∨way=6→m≤3):=by
        have:way=0∨way=1∨way=2∨way=3∨way=4∨way=5∨way=6:=by omega
        rcases this with rfl | rfl | rfl | rfl | rfl | rfl | rfl <;> exact ⟨_,rfl,by omega,by omega,by omega⟩
      obtain ⟨m,hm,m0,m60,m3⟩:=hmn
      refine ⟨_,rfl,r3,_,_,_,rfl,rfl,SqL.of at3,hm,?_⟩
      refine ⟨m,rfl,by omega,by omega,fun acc hacc=>?_⟩
      refine comp_by m.toNat (by omega) (fun j ys HX=>∃ nums:List Int,HX acc=some (.lst ys)∧ys=nums.map V.int∧nums.length=j∧(0 < i→∀ n∈nums,0≤n∧n < (i:Int))∧Same G3 HX) (fun j ys HX h=>by obtain ⟨nums,h1,rfl,h2,_⟩:=h;exact ⟨h1,by rw [List.length_map];omega⟩) ⟨[],upd_same,rfl,rfl,(fun _ n hn=>by cases hn),(Same.refl G3).new hacc⟩ ?_ ?_
      · rintro ys HX ⟨nums,h1,rfl,h2,h3,h4⟩
        have kdX:Kd p (c+6+66 * i+2) H HX:=(kd3.same h4).mono (by omega)
        exact ⟨Nat.le_refl _,nx _ _ ⟨acc,nums,rfl,kdX,nts3.same h4,⟨.inl h1,kd3.deck.ne hacc,by omega,h3⟩,h1,fun z=>by have:=m3 z;omega⟩⟩
      · rintro j ys HX hj ⟨nums,h1,rfl,h2,h3,h4⟩
        refine ⟨hj,?_⟩
        rintro x H'' ⟨rfl,rfl⟩
        refine ⟨rfl,?_⟩
        refine ⟨_,rfl,_,_,rfl,rfl,_,_,rfl,_,rfl,_,_,rfl,rfl,.inl ⟨by decide,by decide⟩,_,_,rfl,rfl,h1,?_⟩
        refine ⟨nums++[_],upd_same,by rw [List.map_append];rfl,by rw [List.length_append,h2];rfl,fun i0 n hn=>?_,h4.write hacc⟩
        rcases List.mem_append.mp hn with hn | hn
        · exact h3 i0 n hn
        · rw [List.mem_singleton.mp hn]
          split <;> omega
    rintro σ HX ⟨b,nums,rfl,kdX,ntsX,ben,hb,nl3⟩
    refine mid (fun σ HX=>∃ (b:Addr) (nums:List Int),σ=[some (.ref p),some (.int 60),some (.int way),some (.int many),some (.str L),some (.ref u),some (.int (0+(i:Int))),some (.int few),some (.str ⟨#[ch]⟩),some (.ref b)]∧Kd p (c+6+66 * i+62) H HX∧Nts p u i as net HX∧Ben p b i nums HX∧HX b=some (.lst (nums.map V.int))∧(way=3∨way=4∨way=5∨way=6→nums.length≤3)) ?_ fun E nx=>?_
    rotate_left
    · refine ⟨_,rfl,_,_,rfl,rfl,_,rfl,ite2 (fun cnd=>?_) (fun cnd=>?_)⟩
      · refine ⟨_,rfl,b,rfl,⟨_,SqL.of hb⟩,fun acc hacc=>?_⟩
        refine comp_lst (xs:=nums.map V.int) (by rw [List.length_map];have:=ben.few;omega) (fun j ys HY=>∃ nn:List Int,HY acc=some (.lst ys)∧ys=nn.map V.int∧nn.length=j∧(0 < i→∀ n∈nn,0≤n∧n < (i:Int))∧Kd p (c+6+66 * i+2+j) HX HY∧j≤nums.length)
          (fun j ys HY h=>by obtain ⟨nn,_,_,_,_,h5,_⟩:=h;exact SqL.of (h5.keep _ _ ben.np hb)) (fun j ys HY h=>by obtain ⟨nn,h1,rfl,h2,_⟩:=h;exact ⟨h1,by rw [List.length_map];omega⟩) ⟨[],upd_same,rfl,rfl,(fun _ n hn=>by cases hn),((Kd.refl kdX.deck).new hacc).mono (by omega),Nat.zero_le _⟩ ?_ ?_
        · rintro ys HY ⟨nn,h1,rfl,h2,h3,h4,h5⟩
          rw [List.length_map] at h2 h4
          have bf:=ben.few
          refine nx _ _ ⟨acc,nn,rfl,(kdX.trans h4).mono (by omega),ntsX.kd hup kdX.deck h4,⟨.inl h1,kdX.deck.ne hacc,by omega,h3⟩,h1,fun z=>by have:=nl3 z;omega⟩
        · rintro j x ys HY hx ⟨nn,h1,rfl,h2,h3,h4,h5⟩
          have jl:=(List.getElem?_eq_some_iff.mp hx).1
          rw [List.length_map] at jl
          have bf:=ben.few
          refine ⟨rfl,?_⟩
          refine ⟨_,rfl,_,rfl,_,rfl,rfl,.inr ⟨_,rfl,_,_,rfl,rfl,p,_,_,rfl,h4.deck,by omega,?_,?_,fun n G n0 n1 e=>?_⟩⟩
          · rw [kone];split <;> omega
          · rw [kone];split <;> omega
          have hacG:G acc=some (.lst (nn.map V.int)):=e.keep _ _ (kdX.deck.ne hacc) h1
          refine ⟨hacG,nn++[n],upd_same,by rw [List.map_append];rfl,by rw [List.length_append,h2];rfl,fun i0 z hz=>?_,((h4.trans e).mono (by omega)).write hacc (kdX.deck.ne hacc),by omega⟩
          rcases List.mem_append.mp hz with hz | hz
          · exact h3 i0 z hz
          · rw [List.mem_singleton.mp hz]
            refine ⟨n0,?_⟩
            rw [kone,if_neg (by omega)] at n1
            omega
      · exact nx _ _ ⟨b,nums,rfl,kdX.mono (by omega),ntsX,ben,hb,nl3⟩
    clear nl3 hb ben ntsX kdX
    rintro σ HX ⟨b,nums,rfl,kdX,ntsX,ben,hb,nl3⟩
    refine mid (fun σ HX=>∃ (b:Addr) (nums:List Int),σ=[some (.ref p),some (.int 60),some (.int way),some (.int many),some (.str L),some (.ref u),some (.int (0+(i:Int))),some (.int few),some (.str ⟨#[ch]⟩),some (.ref b)]∧Kd p (c+6+66 * i+62) H HX∧Nts p u i as net HX∧Ben p b i nums HX∧HX b=some (.lst (nums.map V.int))∧(way=3∨way=4∨way=5∨way=6→nums.length≤3)) ?_ fun E nx=>?_
    rotate_left
    · refine ⟨_,rfl,rfl,_,rfl,ite2 (fun cnd=>?_) (fun cnd=>?_)⟩
      · refine ⟨_,rfl,few,rfl,by omega,by omega,fun acc hacc=>?_⟩
        refine comp_by few.toNat (by omega) (fun j ys HY=>∃ nn:List Int,HY acc=some (.lst ys)∧ys=nn.map V.int∧nn.length=j∧(0 < i→∀ n∈nn,0≤n∧n < (i:Int))∧Same HX HY) (fun j ys HY h=>by obtain ⟨nn,h1,rfl,h2,_⟩:=h;exact ⟨h1,by rw [List.length_map];omega⟩) ⟨[],upd_same,rfl,rfl,(fun _ n hn=>by cases hn),(Same.refl HX).new hacc⟩ ?_ ?_
        · rintro ys HY ⟨nn,h1,rfl,h2,h3,h4⟩
          exact ⟨Nat.le_refl _,nx _ _ ⟨acc,nn,rfl,kdX.same h4,ntsX.same h4,⟨.inl h1,kdX.deck.ne hacc,by omega,h3⟩,h1,fun z=>by omega⟩⟩
        · rintro j ys HY hj ⟨nn,h1,rfl,h2,h3,h4⟩
          refine ⟨hj,?_⟩
          rintro x H'' ⟨rfl,rfl⟩
          refine ⟨rfl,?_⟩
          refine ⟨_,rfl,_,_,rfl,rfl,_,rfl,_,_,rfl,rfl,_,_,rfl,h1,?_⟩
          refine ⟨nn++[_],upd_same,by rw [List.map_append];rfl,by rw [List.length_append,h2];rfl,fun i0 n hn=>?_,h4.write hacc⟩
          rcases List.mem_append.mp hn with hn | hn
          · exact h3 i0 n hn
          · rw [List.mem_singleton.mp hn]
            split <;> omega
      · exact nx _ _ ⟨b,nums,rfl,kdX,ntsX,ben,hb,nl3⟩
    clear nl3 hb ben ntsX kdX
    rintro σ HX ⟨b,nums,rfl,kdX,ntsX,ben,hb,nl3⟩
    refine mid (fun σ HX=>∃ (c8:Nat) (b:Addr) (nums:List Int),σ=[some (.ref p),some (.int 60),some (.int way),some (.int many),some (.str L),some (.ref u),some (.int (0+(i:Int))),some (.int few),some (.str ⟨#[c8]⟩),some (.ref b)]∧Lw c8∧Kd p (c+6+66 * i+64) H HX∧Nts p u i as net HX∧Ben p b i nums HX∧(way=6→HX b=some (.lst (nums.map V.int))∧nums.length≤3)) ?_ fun E nx=>?_
    rotate_left
    · refine ⟨_,rfl,rfl,_,rfl,ite2 (fun c5=>?_) (fun c5=>?_)⟩
      · have w5:way=5:=by have:=of_decide_eq_true c5;injection this
        refine ⟨_,rfl,_,_,rfl,rfl,_,rfl,ite2 (fun ck=>?_) (fun ck=>?_)⟩
        · have ik:0 < i:=by have:=of_decide_eq_true ck;omega
          refine ⟨_,rfl,p,3,_,rfl,kdX.deck,by omega,by decide,by decide,fun n5 G5 q0 q1 e5=>?_⟩
          refine ⟨rfl,_,rfl,ite2 (fun cd=>?_) (fun cd=>?_)⟩
          · refine ⟨_,rfl,_,rfl,_,rfl,p,_,_,rfl,e5.deck,by omega,by omega,by omega,fun n6 G6 q2 q3 e6=>?_⟩
            have nts6:=(ntsX.kd hup kdX.deck e5).kd hup e5.deck e6
            have al:=nts6.kn.1
            have nl:=nts6.len
            have h6:n6.toNat < as.length:=by omega
            have h6':n6.toNat < net.length:=by omega
            have ea:as[n6.toNat]?=some as[n6.toNat]:=List.getElem?_eq_getElem h6
            have en:net[n6.toNat]?=some net[n6.toNat]:=List.getElem?_eq_getElem h6'
            obtain ⟨b6,k1,k2⟩:=nts6.kn.2 _ _ _ ea en
            have hat:=atI_nat (xs:=as.map V.ref) (j:=n6.toNat) (v:=.ref as[n6.toNat]) (by rw [List.getElem?_map,ea];rfl)
            rw [show ((n6.toNat:Nat):Int)=n6 by omega] at hat
            refine ⟨u,_,_,_,rfl,rfl,SqL.of nts6.at',hat,?_⟩
            refine ⟨_,_,rfl,SqT.of k1,rfl,_,_,rfl,_,_,rfl,rfl,?_⟩
            refine nx _ _ ⟨net[n6.toNat].1,b6,net[n6.toNat].2,rfl,nts6.low _ (List.getElem_mem h6'),((kdX.trans e5).trans e6).mono (by omega),nts6,⟨.inr k2,ne_deck e6.deck k2 (by intro _ _ _ z;cases z),nts6.few _ (List.getElem_mem h6'),fun _ z hz=>?_⟩,fun z=>by omega⟩
            have:=nts6.num _ _ en z hz
            omega
          · exact nx _ _ ⟨ch,b,nums,rfl,chl,(kdX.trans e5).mono (by omega),ntsX.kd hup kdX.deck e5,ben.kd e5,fun z=>by omega⟩
        · exact nx _ _ ⟨ch,b,nums,rfl,chl,kdX.mono (by omega),ntsX,ben,fun z=>by omega⟩
      · exact nx _ _ ⟨ch,b,nums,rfl,chl,kdX.mono (by omega),ntsX,ben,fun z=>⟨hb,nl3 (by omega)⟩⟩
    clear nl3 hb ben ntsX kdX
    rintro σ HX ⟨c8,b,nums,rfl,lc8,kdX,ntsX,ben,nl3⟩
    refine mid (fun σ HX=>∃ (b:Addr) (nums:List Int),σ=[some (.ref p),some (.int 60),some (.int way),some (.int many),some (.str L),some (.ref u),some (.int (0+(i:Int))),some (.int few),some (.str ⟨#[c8]⟩),some (.ref b)]∧Kd p (c+6+66 * i+64) H HX∧Nts p u i as net HX∧Ben p b i nums HX) ?_ fun E nx=>?_
    rotate_left
    · refine ⟨_,rfl,rfl,_,rfl,ite2 (fun c6=>?_) (fun c6=>?_)⟩
      · have w6:way=6:=by have:=of_decide_eq_true c6;injection this
        obtain ⟨hb,n3⟩:=nl3 w6
        refine ⟨_,rfl,_,_,rfl,rfl,_,rfl,ite2 (fun ck=>?_) (fun ck=>?_)⟩
        · have ik:1 < i:=by have:=of_decide_eq_true ck;omega
          have hk1:(0:Int)+(i:Int) - 1=((i - 1:Nat):Int):=by omega
          refine ⟨_,rfl,_,_,rfl,rfl,(by show 1≤sizeLine;decide),fun r1 hr1=>?_⟩
          have s1:Same HX (upd HX r1 (.lst [.int (0+(i:Int) - 1)])):=(Same.refl HX).new hr1
          have a1:upd HX r1 (.lst [.int (0+(i:Int) - 1)]) r1=some (.lst [.int (0+(i:Int) - 1)]):=upd_same
          show (fun HH=>_) (upd HX r1 (.lst [.int (0+(i:Int) - 1)]))
          generalize upd HX r1 (.lst [.int (0+(i:Int) - 1)])=G1 at s1 a1
          refine ⟨_,rfl,r1,b,_,_,rfl,rfl,a1,s1 _ _ hb,by rw [List.length_map];show 1+_≤_;exact Nat.le_of_lt (small1000 (by omega)),fun r2 hr2=>?_⟩
          have s2:Same G1 (upd G1 r2 (.lst ([.int (0+(i:Int) - 1)]++nums.map V.int))):=(Same.refl G1).new hr2
          have a2:upd G1 r2 (.lst ([.int (0+(i:Int) - 1)]++nums.map V.int)) r2=some (.lst ([.int (0+(i:Int) - 1)]++nums.map V.int)):=upd_same
          show (fun HH=>_) (upd G1 r2 (.lst ([.int (0+(i:Int) - 1)]++nums.map V.int)))
          generalize upd G1 r2 (.lst ([.int (0+(i:Int) - 1)]++nums.map V.int))=G2' at s2 a2
          refine ⟨_,rfl,_,_,rfl,rfl,(by show 1≤sizeLine;decide),fun r3 hr3=>?_⟩
          have s3:Same G2' (upd G2' r3 (.lst [.int (0+(i:Int) - 1)])):=(Same.refl G2').new hr3
          have a3:upd G2' r3 (.lst [.int (0+(i:Int) - 1)]) r3=some (.lst [.int (0+(i:Int) - 1)]):=upd_same
          show (fun HH=>_) (upd G2' r3 (.lst [.int (0+(i:Int) - 1)]))
          generalize upd G2' r3 (.lst [.int (0+(i:Int) - 1)])=G3' at s3 a3
          refine ⟨r2,r3,_,_,rfl,rfl,s3 _ _ a2,a3,by rw [List.length_append,List.length_map];show 1+_+1≤_;exact Nat.le_of_lt (small1000 (by omega)),fun r4 hr4=>?_⟩
          have s4:Same G3' (upd G3' r4 (.lst ([.int (0+(i:Int) - 1)]++nums.map V.int++[.int (0+(i:Int) - 1)]))):=(Same.refl G3').new hr4
          have a4:upd G3' r4 (.lst ([.int (0+(i:Int) - 1)]++nums.map V.int++[.int (0+(i:Int) - 1)])) r4=some (.lst (([0+(i:Int) - 1]++nums++[0+(i:Int) - 1]).map V.int)):=by rw [upd_same];simp
          have sA:=((s1.trans s2).trans s3).trans s4
          refine nx _ _ ⟨r4,[0+(i:Int) - 1]++nums++[0+(i:Int) - 1],rfl,kdX.same sA,ntsX.same sA,⟨.inl a4,(kdX.same ((s1.trans s2).trans s3)).deck.ne hr4,?_,fun i0 n hn=>?_⟩⟩
          · rw [List.length_append,List.length_append];show 1+_+1≤_;omega
          · rcases List.mem_append.mp hn with hn | hn
            · rcases List.mem_append.mp hn with hn | hn
              · rw [List.mem_singleton.mp hn];omega
              · exact ben.num i0 n hn
            · rw [List.mem_singleton.mp hn];omega
        · exact nx _ _ ⟨b,nums,rfl,kdX,ntsX,ben⟩
      · exact nx _ _ ⟨b,nums,rfl,kdX,ntsX,ben⟩
    clear nl3 ben ntsX kdX
    rintro σ HX ⟨b,nums,rfl,kdX,ntsX,ben⟩
    have huX:=ntsX.at'
    have al:=ntsX.kn.1
    have nl:=ntsX.len
    have fin:∀ (a:Addr) (nn:List Int) (HA:Hp),Kd p (c+6+66 * i+64) H HA→Nts p u i as net HA→KnotAt HA a (c8,nn)→nn.length≤60→(∀ n∈nn,0≤n∧n < (i:Int)) →
        ∃ (as':List Addr) (net':List Knot),upd HA u (.lst (as.map V.ref++[.ref a])) u=some (.lst (as'.map V.ref))∧Kd p (c+6+66 * (i+1:Nat)) H (upd HA u (.lst (as.map V.ref++[.ref a])))∧Nts p u (i+1) as' net' (upd HA u (.lst (as.map V.ref++[.ref a]))):=by
      intro a nn HA kA nA hA fA mA
      have tU:∀ x xs,HA x=some (.tup xs)→upd HA u (.lst (as.map V.ref++[.ref a])) x=some (.tup xs):=fun x xs e=>by
        rw [upd_ne (ne_of e nA.at' (by intro z;cases z))];exact e
      refine ⟨as++[a],net++[(c8,nn)],by rw [upd_same,List.map_append];rfl,(kA.mono (by omega)).write hHu hup,by rw [upd_same,List.map_append];rfl,(nA.kn.snoc hA).tups tU,by rw [List.length_append,nA.len];rfl,fun kn hk=>?_,fun kn hk=>?_,fun z kn hz=>?_⟩
      · rcases List.mem_append.mp hk with hk | hk
        · exact nA.low kn hk
        · rw [List.mem_singleton.mp hk];exact lc8
      · rcases List.mem_append.mp hk with hk | hk
        · exact nA.few kn hk
        · rw [List.mem_singleton.mp hk];exact fA
      · rcases Nat.lt_or_ge z net.length with lt | ge
        · rw [List.getElem?_append_left lt] at hz
          exact nA.num z kn hz
        · rw [List.getElem?_append_right ge] at hz
          cases e:z - net.length with
          | zero=>
            rw [e] at hz
            cases hz
            intro n hn
            have:=mA n hn
            omega
          | succ y=>rw [e] at hz;cases hz
    refine ⟨_,rfl,.inl ⟨rfl,_,SqL.of huX⟩,_,rfl,_,rfl,_,_,rfl,rfl,_,rfl,ite2 (fun ck=>?_) (fun ck=>?_)⟩
    · have ik:0 < i:=by have:=of_decide_eq_true ck;omega
      have bnum:=ben.num ik
      have bfew:=ben.few
      rcases ben.at' with hb | hb
      · refine ⟨_,rfl,b,_,rfl,.inl ⟨SqL.of hb,fun b1 hb1=>?_⟩⟩
        refine ⟨(by show 2≤sizeLine;decide),fun a1 ha1=>?_⟩
        have sA:Same HX (upd (upd HX b1 (.tup (nums.map V.int))) a1 (.tup [.str ⟨#[c8]⟩,.ref b1])):=((Same.refl HX).new hb1).new ha1
        have hA:KnotAt (upd (upd HX b1 (.tup (nums.map V.int))) a1 (.tup [.str ⟨#[c8]⟩,.ref b1])) a1 (c8,nums):=⟨b1,upd_same,by rw [upd_ne (ne_of_none upd_same ha1)];exact upd_same⟩
        show (fun HH=>_) (upd (upd HX b1 (.tup (nums.map V.int))) a1 (.tup [.str ⟨#[c8]⟩,.ref b1]))
        generalize upd (upd HX b1 (.tup (nums.map V.int))) a1 (.tup [.str ⟨#[c8]⟩,.ref b1])=HA at sA hA
        refine ⟨u,_,_,rfl,rfl,sA _ _ huX,by rw [List.length_map];exact small1000 (by omega),?_⟩
        obtain ⟨as',net',f1,f2,f3⟩:=fin a1 nums HA (kdX.same sA) (ntsX.same sA) hA bfew bnum
        exact ⟨as',net',_,_,_,_,rfl,f2,f3⟩
      · refine ⟨_,rfl,b,_,rfl,.inr ⟨SqT.of hb,?_⟩⟩
        refine ⟨(by show 2≤sizeLine;decide),fun a1 ha1=>?_⟩
        have sA:Same HX (upd HX a1 (.tup [.str ⟨#[c8]⟩,.ref b])):=(Same.refl HX).new ha1
        have hA:KnotAt (upd HX a1 (.tup [.str ⟨#[c8]⟩,.ref b])) a1 (c8,nums):=⟨b,upd_same,sA _ _ hb⟩
        show (fun HH=>_) (upd HX a1 (.tup [.str ⟨#[c8]⟩,.ref b]))
        generalize upd HX a1 (.tup [.str ⟨#[c8]⟩,.ref b])=HA at sA hA
        refine ⟨u,_,_,rfl,rfl,sA _ _ huX,by rw [List.length_map];exact small1000 (by omega),?_⟩
        obtain ⟨as',net',f1,f2,f3⟩:=fin a1 nums HA (kdX.same sA) (ntsX.same sA) hA bfew bnum
        exact ⟨as',net',_,_,_,_,rfl,f2,f3⟩
    · refine ⟨(by show 0≤sizeLine;decide),fun b1 hb1=>?_⟩
      refine ⟨(by show 2≤sizeLine;decide),fun a1 ha1=>?_⟩
      have sA:Same HX (upd (upd HX b1 (.tup [])) a1 (.tup [.str ⟨#[c8]⟩,.ref b1])):=((Same.refl HX).new hb1).new ha1
      have hA:KnotAt (upd (upd HX b1 (.tup [])) a1 (.tup [.str ⟨#[c8]⟩,.ref b1])) a1 (c8,[]):=⟨b1,upd_same,by rw [upd_ne (ne_of_none upd_same ha1)];exact upd_same⟩
      show (fun HH=>_) (upd (upd HX b1 (.tup [])) a1 (.tup [.str ⟨#[c8]⟩,.ref b1]))
      generalize upd (upd HX b1 (.tup [])) a1 (.tup [.str ⟨#[c8]⟩,.ref b1])=HA at sA hA
      refine ⟨u,_,_,rfl,rfl,sA _ _ huX,by rw [List.length_map];exact small1000 (by omega),?_⟩
      obtain ⟨as',net',f1,f2,f3⟩:=fin a1 [] HA (kdX.same sA) (ntsX.same sA) hA (by decide) (by simp)
      exact ⟨as',net',_,_,_,_,rfl,f2,f3⟩
  · rintro σ H' ⟨as,net,o6,o7,o8,o9,rfl,kd,nts⟩
    refine ⟨_,rfl,u,_,rfl,.inl ⟨SqL.of nts.at',fun t ht=>?_⟩⟩
    have sT:Same H' (upd H' t (.tup (as.map V.ref))):=(Same.refl H').new ht
    exact q t net _ ((kd.new ht).mono (by omega)) ⟨as,upd_same,nts.kn.same sT⟩ ⟨by have:=nts.len;omega,by have:=nts.len;omega,nts.low,nts.few,nts.num⟩
end
end S50
namespace S50
open PySem L2 W7
theorem NetOk.net {net:List Knot} (ok:NetOk net):W47.Net net:=⟨fun k hk l hl=>by
  have e:net[k]?=some net[k]:=List.getElem?_eq_getElem hk
  unfold W47.bel at hl
  rw [List.getD_eq_getElem?_getD,e] at hl
  obtain ⟨n,hn,rfl⟩:=List.mem_map.mp hl
  have:=ok.num k _ e n hn
  omega⟩
theorem bel_at {net:List Knot} {k:Nat} {kn:Knot} (e:net[k]?=some kn):W47.bel net k=kn.2.map Int.toNat:=by
  unfold W47.bel;rw [List.getD_eq_getElem?_getD,e];rfl
theorem NetOk.bfew {net:List Knot} (ok:NetOk net) (k:Nat):(W47.bel net k).length≤60:=by
  unfold W47.bel
  rw [List.length_map,List.getD_eq_getElem?_getD]
  cases e:net[k]? with
  | none=>exact Nat.zero_le _
  | some kn=>exact ok.few kn (List.mem_of_getElem? e)
theorem NetAt.knot {H:Hp} {t:Addr} {net:List Knot} (h:NetAt H t net):∃ as:List Addr,H t=some (.tup (as.map V.ref))∧as.length=net.length∧∀ k,k < net.length→∃ a b kn,as[k]?=some a∧net[k]?=some kn∧H a=some (.tup [.str ⟨#[kn.1]⟩,.ref b])∧H b=some (.tup (kn.2.map V.int)):=by
  obtain ⟨as,h1,h2,h3⟩:=h
  refine ⟨as,h1,h2,fun k hk=>?_⟩
  have ea:as[k]?=some as[k]:=List.getElem?_eq_getElem (by omega)
  have en:net[k]?=some net[k]:=List.getElem?_eq_getElem hk
  obtain ⟨b,x,y⟩:=h3 k _ _ ea en
  exact ⟨_,b,_,ea,en,x,y⟩
def szV (net:List Knot) (i:Nat):List V:=(List.range i).map fun k=>.int (W47.sz net k)
theorem szV_len (net:List Knot) (i:Nat):(szV net i).length=i:=by unfold szV;simp
theorem szV_succ (net:List Knot) (i:Nat):szV net (i+1)=szV net i++[.int (W47.sz net i)]:=by unfold szV;rw [List.range_succ,List.map_append];rfl
theorem szV_at {net:List Knot} {i:Nat} {n:Int} (h0:0≤n) (h1:n < (i:Int)):atI (szV net i) n=some (.int (W47.sz net n.toNat)):=by
  have e:=atI_nat (xs:=szV net i) (j:=n.toNat) (v:=.int (W47.sz net n.toNat)) (by unfold szV;rw [List.getElem?_map,List.getElem?_range (by omega)];rfl)
  rw [show ((n.toNat:Nat):Int)=n by omega] at e
  exact e
section
variable {P:Program} {w:World} {K:PySem.W.Frag} {mg:Str→Option Value} {base:Heap} {k:Nat}
def sp_sizes:Sp:=fun vs H Q _=>∃ (t:Addr) (net:List Knot),vs=[.ref t]∧NetAt H t net∧NetOk net∧∀ (r:Addr) (H':Hp),H r=none→Same H H'→H' r=some (.lst (szV net net.length))→Q (.ref r) H'
theorem has_lsizes (D:Df K mg "_law_sizes" s_law_sizes) (B:Blt7 mg):Has P w K mg base "_law_sizes" (k+1) ["net"] sp_sizes:=by
  refine D.has sc_law_sizes (fun _ _ _ _ _ _ us hl=>match us,hl with | [_],_=>rfl) (fun vs H Q E h=>by obtain ⟨t,net,rfl,_⟩:=h;rfl) (fun f cdv A outer s H vs Q E hr h=>?_)
  obtain ⟨t,net,rfl,na,ok,q⟩:=h
  refine ⟨_,(pss_cons (ps_set (i:=1) sc_law_sizes.nd rfl (by first | exact Or.inl rfl | exact Or.inr rfl) (pe_lst pa_nil))
  (pss_cons (ps_for PassesOwn.never rfl (pi_tup (pv 0)) (pg_tup rfl (pgs_cons (pg_name (i:=2) sc_law_sizes.nd rfl (by first | exact Or.inl rfl | exact Or.inr rfl)) (pgs_cons (pg_name (i:=3) sc_law_sizes.nd rfl (by first | exact Or.inl rfl | exact Or.inr rfl)) pgs_nil)))
  (pss_one (ps_expr (pe_bm PySem.F.plainAttrs_list PySem.F.slot_list_append PySem.F.type_list_append mt_append (pv 1) (pa_cons (pe_op op_add pe_int (pe_callB (call_sumA K rfl) rfl B.sum bt_sum (pa_cons (pe_comp rfl (pi_tup (pv 3)) (NL:=["number"]) (ix:=[1]) (csc (defScope s_law_sizes) N_law_sizes) (fun cl C s₃ H₃ fp pins=>⟨(pg_name (i:=0) (show List.Nodup (["number", "found"]:List Str) from by decide +kernel) rfl (by first | exact Or.inl rfl | exact Or.inr rfl)),pifs_nil,(pe_ix (ix_listK K) (pv 1) (pv 0) (fun _ _=>rfl))⟩)) pa_nil))) pa_nil)))))
  (pss_one (ps_ret (pv 1))))),?_⟩
  obtain ⟨as,ht,al,kns⟩:=na.knot
  have N:=ok.net
  have l60:=ok.most
  refine ⟨(by show 0≤sizeLine;decide),fun r hr0=>?_⟩
  refine ⟨_,rfl,t,rfl,⟨_,SqT.of (by rw [upd_ne (ne_of_none ht hr0)];exact ht)⟩,?_⟩
  refine for_tup (K:=K) (xs:=as.map V.ref) (fun i σ HX=>∃ o2 o3:Option V,σ=[some (.ref t),some (.ref r),o2,o3]∧Same H HX∧HX r=some (.lst (szV net i)))
    ⟨none,none,rfl,(Same.refl H).new hr0,upd_same⟩ (fun i σ HX _ h=>by obtain ⟨_,_,_,s,_⟩:=h;exact SqT.of (s _ _ ht)) ?_ ?_
  · rintro i x σ HX hx ⟨o2,o3,rfl,sX,hrX⟩
    have il:i < as.length:=by have:=(List.getElem?_eq_some_iff.mp hx).1;rw [List.length_map] at this;exact this
    obtain ⟨a,b,kn,ea,en,ha,hb⟩:=kns i (by omega)
    rw [List.getElem?_map,ea] at hx
    cases hx
    refine ⟨_,_,rfl,SqT.of (sX _ _ ha),rfl,_,_,rfl,_,_,rfl,rfl,?_⟩
    refine ⟨_,rfl,.inl ⟨rfl,_,SqL.of hrX⟩,_,rfl,b,rfl,⟨_,SqT.of (sX _ _ hb)⟩,fun acc hacc=>?_⟩
    have kf:=ok.few kn (List.mem_of_getElem? en)
    have knn:=ok.num i kn en
    refine comp_tupI (xs:=kn.2.map V.int) (by rw [List.length_map];omega) (fun j ys HY=>HY acc=some (.lst ys)∧ys=((kn.2.take j).map fun n=>W47.sz net n.toNat).map V.int∧j≤kn.2.length∧Same HX HY)
      (fun j ys HY h=>SqT.of (h.2.2.2 _ _ (sX _ _ hb))) (fun j ys HY h=>⟨h.1,by rw [h.2.1,List.length_map,List.length_map,List.length_take];omega⟩) ⟨upd_same,rfl,Nat.zero_le _,(Same.refl HX).new hacc⟩ ?_ ?_
    · rintro ys HY ⟨g1,rfl,g3,g4⟩
      rw [List.length_map,List.take_length] at g1
      refine ⟨acc,_,rfl,SqL.of g1,_,_,rfl,rfl,r,_,_,rfl,rfl,g4 _ _ hrX,by rw [szV_len];exact small1000 (by omega),?_⟩
      refine ⟨_,_,rfl,(sX.trans g4).write hr0,?_⟩
      rw [upd_same,szV_succ,W47.sz_eq N,bel_at en,List.map_map]
      rfl
    · rintro j x ys HY hx ⟨g1,rfl,g3,g4⟩
      rw [List.getElem?_map] at hx
      cases en2:kn.2[j]? with
      | none=>rw [en2] at hx;cases hx
      | some n=>
        rw [en2] at hx
        cases hx
        have jl:=(List.getElem?_eq_some_iff.mp en2).1
        have nb:=knn n (List.mem_of_getElem? en2)
        refine ⟨rfl,?_⟩
        refine ⟨_,rfl,_,rfl,r,_,_,_,rfl,rfl,SqL.of (g4 _ _ hrX),szV_at nb.1 nb.2,g1,upd_same,?_,by omega,g4.write hacc⟩
        rw [List.take_succ,en2,List.map_append,List.map_append];rfl
  · rintro σ HX ⟨o2,o3,rfl,sX,hrX⟩
    rw [List.length_map,al] at hrX
    exact ⟨_,rfl,q r HX hr0 sX hrX⟩
end
end S50
namespace S50
open PySem L2 W7
theorem ixN_at {n:Nat} {i:Int} (h0:0≤i) (h1:i < (n:Int)):ixN n i=some i.toNat:=by unfold ixN;rw [if_pos h0,if_pos h1]
theorem ixN_last {n:Nat} (h:0 < n):ixN n (-1)=some (n - 1):=by
  unfold ixN;rw [if_neg (by decide),if_pos (by omega)];congr 1;omega
end S50
namespace S50
open PySem L2 W7
def mk (l:List Nat):Str:=⟨l.toArray⟩
theorem mk_cps (l:List Nat):(mk l).cps.toList=l:=rfl
theorem str_ext {a b:Str} (h:a.cps.toList=b.cps.toList):a=b:=by
  cases a with
  | mk x=>cases b with
    | mk y=>exact congrArg Str.mk (Array.toList_inj.mp h)
def oneV (cs:List Nat):List V:=cs.map fun c=>.str ⟨#[c]⟩
theorem oneV_len (cs:List Nat):(oneV cs).length=cs.length:=List.length_map _
def natV (l:List Nat):List V:=l.map fun i:Nat=>.int (i:Int)
def Sk (net:List Knot) (i:Nat):List (Nat × Int):=(W47.run net i).1
def Us (net:List Knot) (i:Nat):List Int:=(W47.run net i).2.1
def Ks (net:List Knot) (i:Nat):List Nat:=(W47.run net i).2.2
def lt (net:List Knot) (r:Nat):Nat:=(net.getD r (0,[])).1
def Ls (net:List Knot) (i:Nat):List Nat:=(Ks net i).map (lt net)
def Ln (net:List Knot):Nat:=(W47.u net (net.length - 1)).length
section
variable {net:List Knot}
theorem Us_len (N:W47.Net net) {i:Nat} (h:i≤Ln net):(Us net i).length=i:=(W47.run_inv N i h).1
theorem Ks_len (N:W47.Net net) {i:Nat} (h:i≤Ln net):(Ks net i).length=i:=(W47.run_inv N i h).2.1
theorem Ls_len (N:W47.Net net) {i:Nat} (h:i≤Ln net):(Ls net i).length=i:=by unfold Ls;rw [List.length_map,Ks_len N h]
theorem sk_step (N:W47.Net net) {i:Nat} (h:i < Ln net):∃ r up rest,Sk net i=(r,up) :: rest∧Sk net (i+1)=(W47.bel net r).map (fun l=>(l,(i:Int)))++rest∧Us net (i+1)=Us net i++[up]∧Ks net (i+1)=Ks net i++[r]∧Ls net (i+1)=Ls net i++[lt net r]:=by
  obtain ⟨r,up,rest,a,b,c,d⟩:=W47.run_step N h
  refine ⟨r,up,rest,a,b,c,d,?_⟩
  unfold Ls
  rw [show Ks net (i+1)=Ks net i++[r] from d,List.map_append];rfl
theorem sk_end (N:W47.Net net):Sk net (Ln net)=[]:=(W47.run_end N).1
theorem sk_ne (N:W47.Net net) {i:Nat} (h:i < Ln net):Sk net i≠[]:=W47.run_ne N h
theorem sk_few (N:W47.Net net) {i:Nat} (h:i≤Ln net):i+(Sk net i).length≤Ln net:=W47.run_few N h
theorem sk_row (N:W47.Net net) (p:0 < net.length) {i:Nat} (h:i≤Ln net):∀ q∈Sk net i,q.1 < net.length:=W47.run_row N p h
end
section
variable {P:Program} {w:World} {K:PySem.W.Frag} {mg:Str→Option Value} {base:Heap} {k:Nat}
theorem glue_cps:∀ (ss:List Str) (acc:Array Nat),(List.foldl (fun acc (p:Str)=>acc++(Str.ofString "").cps++p.cps) acc ss).toList=acc.toList++(ss.map fun z:Str=>z.cps.toList).flatten
  | [],acc=>by simp
  | x :: r,acc=>by
    rw [List.foldl_cons,glue_cps r,Array.toList_append,Array.toList_append]
    have e:(Str.ofString "").cps.toList=[]:=rfl
    rw [e,List.append_nil,List.map_cons,List.flatten_cons,List.append_assoc]
theorem join_cps (ss:List Str):(Txt.join (Str.ofString "") ss).cps.toList=(ss.map fun z:Str=>z.cps.toList).flatten:=by
  cases ss with
  | nil=>rfl
  | cons x r=>
    have:=glue_cps r x.cps
    rw [List.map_cons,List.flatten_cons]
    exact this
theorem join_mk (l:List Nat):Txt.join (Str.ofString "") (l.map fun c=>(⟨#[c]⟩:Str))=mk l:=by
  apply str_ext
  rw [join_cps,mk_cps,List.map_map]
  induction l with
  | nil=>rfl
  | cons a l ih=>rw [List.map_cons,List.flatten_cons,ih];rfl
theorem ones_sum (l:List Nat):((l.map fun c=>(⟨#[c]⟩:Str)).map fun x=>x.length).sum=l.length:=by
  induction l with
  | nil=>rfl
  | cons a l ih=>rw [List.map_cons,List.map_cons,List.sum_cons,ih,List.length_cons];show 1+_=_;omega
def pairN (p:Nat × Int):List V:=[.int ((p.1:Nat):Int),.int p.2]
def PrW (H:Hp) (ws:List Addr) (ps:List (Nat × Int)):Prop:=ws.length=ps.length∧∀ (i:Nat) (a:Addr) (p:Nat × Int),ws[i]?=some a→ps[i]?=some p→H a=some (.tup (pairN p))
theorem PrW.same {H H':Hp} {ws:List Addr} {ps:List (Nat × Int)} (h:PrW H ws ps) (s:∀ b xs,H b=some (.tup xs)→H' b=some (.tup xs)):PrW H' ws ps:=⟨h.1,fun i a p e1 e2=>s _ _ (h.2 i a p e1 e2)⟩
theorem PrW.app {H:Hp} {ws vs:List Addr} {ps qs:List (Nat × Int)} (h:PrW H ws ps) (g:PrW H vs qs):PrW H (ws++vs) (ps++qs):=by
  refine ⟨by simp [h.1,g.1],fun i a p e1 e2=>?_⟩
  rcases Nat.lt_or_ge i ws.length with c | c
  · rw [List.getElem?_append_left c] at e1
    rw [List.getElem?_append_left (by rw [← h.1];exact c)] at e2
    exact h.2 i a p e1 e2
  · rw [List.getElem?_append_right c] at e1
    rw [List.getElem?_append_right (by rw [← h.1];exact c),← h.1] at e2
    exact g.2 _ a p e1 e2
theorem PrW.init {H:Hp} {ws:List Addr} {a:Addr} {ps:List (Nat × Int)} {p:Nat × Int} (h:PrW H (ws++[a]) (ps++[p])):PrW H ws ps∧H a=some (.tup (pairN p)):=by
  have l:ws.length=ps.length:=by have:=h.1;simpa using this
  refine ⟨⟨l,fun i b q e1 e2=>?_⟩,?_⟩
  · have i1:=(List.getElem?_eq_some_iff.mp e1).1
    exact h.2 i b q (by rw [List.getElem?_append_left i1];exact e1) (by rw [List.getElem?_append_left (by omega)];exact e2)
  · exact h.2 ws.length a p (by simp) (by rw [l];simp)
theorem knots_at {H:Hp} {t:Addr} {net:List Knot} (na:NetAt H t net) (ok:NetOk net):∃ as:List Addr,H t=some (.tup (as.map V.ref))∧as.length=net.length∧∀ (r:Nat) (a:Addr),as[r]?=some a→∃ c,H a=some (.tup [.str ⟨#[lt net r]⟩,.ref c])∧H c=some (.tup (natV (W47.bel net r))):=by
  obtain ⟨as,h1,h2,h3⟩:=na.knot
  refine ⟨as,h1,h2,fun r a ea=>?_⟩
  have rl:=(List.getElem?_eq_some_iff.mp ea).1
  obtain ⟨a',b,kn,e1,e2,x,y⟩:=h3 r (by omega)
  rw [ea] at e1
  cases e1
  have e3:lt net r=kn.1:=by unfold lt;rw [List.getD_eq_getElem?_getD,e2];rfl
  refine ⟨b,by rw [e3];exact x,?_⟩
  rw [y,bel_at e2]
  unfold natV
  rw [List.map_map]
  congr 2
  refine List.map_congr_left fun n hn=>?_
  have:=ok.num r kn e2 n hn
  show V.int n=V.int ((n.toNat:Nat):Int)
  rw [show ((n.toNat:Nat):Int)=n by omega]
end
end S50
namespace S50
open PySem L2 W7
section
variable {P:Program} {w:World} {K:PySem.W.Frag} {mg:Str→Option Value} {base:Heap} {k:Nat}
def sp_unf:Sp:=fun vs H Q _=>∃ (kn:Addr) (net:List Knot),vs=[.ref kn]∧NetAt H kn net∧NetOk net∧Ln net≤300 ∧
  ∀ (r a b c:Addr) (H':Hp),Same H H'→H' r=some (.lst [.ref a,.ref b,.ref c])→H' a=some (.lst ((Us net (Ln net)).map V.int))→H' b=some (.lst (oneV (Ls net (Ln net))))→H' c=some (.lst (natV (W47.u net (net.length - 1))))→Q (.ref r) H'
theorem natV_len (l:List Nat):(natV l).length=l.length:=List.length_map _
theorem has_unf (D:Df K mg "_law_unfolded" s_law_unfolded) (B:Blt7 mg):Has P w K mg base "_law_unfolded" (k+1) ["net"] sp_unf:=by
  refine D.has sc_law_unfolded (fun _ _ _ _ _ _ us hl=>match us,hl with | [_],_=>rfl) (fun vs H Q E h=>by obtain ⟨kn,net,rfl,_⟩:=h;rfl) (fun f cdv A outer s H vs Q E hr h=>?_)
  obtain ⟨kn,net,rfl,na,ok,n300,q⟩:=h
  have N:=ok.net
  have l60:=ok.most
  have pos:=ok.pos
  obtain ⟨as,hkn,al,hat⟩:=knots_at na ok
  have asl:(as.map V.ref).length=net.length:=by rw [List.length_map,al]
  refine ⟨_,(pss_cons (ps_set (i:=1) sc_law_unfolded.nd rfl (by first | exact Or.inl rfl | exact Or.inr rfl) (pe_lst pa_nil))
  (pss_cons (ps_set (i:=2) sc_law_unfolded.nd rfl (by first | exact Or.inl rfl | exact Or.inr rfl) (pe_lst pa_nil))
  (pss_cons (ps_set (i:=3) sc_law_unfolded.nd rfl (by first | exact Or.inl rfl | exact Or.inr rfl) (pe_lst pa_nil))
  (pss_cons (ps_set (i:=4) sc_law_unfolded.nd rfl (by first | exact Or.inl rfl | exact Or.inr rfl) (pe_lst (pa_cons (pe_tup (pa_cons (pe_op op_sub (pe_callB call_len_seq rfl B.len bt_len (pa_cons (pv 0) pa_nil)) pe_int) (pa_cons (pe_un un_neg pe_int) pa_nil))) pa_nil)))
  (pss_cons (ps_while PassesOwn.never (pt_cmpR (op_ne_nil hr.units0) (pv 4) (pe_lst pa_nil) (nomark _))
  (pss_cons (ps_asg (pe_bm0 PySem.F.plainAttrs_list PySem.F.slot_list_pop PySem.F.type_list_pop mt_pop (pv 4)) (pg_tup rfl (pgs_cons (pg_name (i:=5) sc_law_unfolded.nd rfl (by first | exact Or.inl rfl | exact Or.inr rfl)) (pgs_cons (pg_name (i:=6) sc_law_unfolded.nd rfl (by first | exact Or.inl rfl | exact Or.inr rfl)) pgs_nil))))
  (pss_cons (ps_for PassesOwn.never rfl (pi_tup (pe_revT K (pe_ix ix_tup (pe_ix ix_tup (pv 0) (pv 5) (fun _ _=>rfl)) pe_int (fun _ _=>rfl)) (po_some (pe_un un_neg pe_int)))) (pg_name (i:=7) sc_law_unfolded.nd rfl (by first | exact Or.inl rfl | exact Or.inr rfl))
  (pss_one (ps_expr (pe_bm PySem.F.plainAttrs_list PySem.F.slot_list_append PySem.F.type_list_append mt_append (pv 4) (pa_cons (pe_tup (pa_cons (pv 7) (pa_cons (pe_callB call_len_seq rfl B.len bt_len (pa_cons (pv 1) pa_nil)) pa_nil))) pa_nil)))))
  (pss_cons (ps_expr (pe_bm PySem.F.plainAttrs_list PySem.F.slot_list_append PySem.F.type_list_append mt_append (pv 1) (pa_cons (pv 6) pa_nil)))
  (pss_cons (ps_expr (pe_bm PySem.F.plainAttrs_list PySem.F.slot_list_append PySem.F.type_list_append mt_append (pv 2) (pa_cons (pe_ix ix_tup (pe_ix ix_tup (pv 0) (pv 5) (fun _ _=>rfl)) pe_int (fun _ _=>rfl)) pa_nil)))
  (pss_one (ps_expr (pe_bm PySem.F.plainAttrs_list PySem.F.slot_list_append PySem.F.type_list_append mt_append (pv 3) (pa_cons (pv 5) pa_nil)))))))))
  (pss_one (ps_ret (pe_lst (pa_cons (pv 1) (pa_cons (pv 2) (pa_cons (pv 3) pa_nil))))))))))),?_⟩
  refine ⟨Nat.zero_le _,fun u hu=>?_⟩
  have s1:Same H (upd H u (.lst [])):=(Same.refl H).new hu
  have h1:upd H u (.lst []) u=some (.lst []):=upd_same
  generalize upd H u (.lst [])=H1 at s1 h1
  refine ⟨Nat.zero_le _,fun l hl=>?_⟩
  have nl:H l=none:=s1.free hl
  have ul:u≠l:=ne_of_none h1 hl
  have s2:Same H1 (upd H1 l (.lst [])):=(Same.refl H1).new hl
  have h2:upd H1 l (.lst []) l=some (.lst []):=upd_same
  generalize upd H1 l (.lst [])=H2 at s2 h2
  refine ⟨Nat.zero_le _,fun c hc=>?_⟩
  have nc:H c=none:=s1.free (s2.free hc)
  have uc:u≠c:=ne_of_none (s2 _ _ h1) hc
  have lc:l≠c:=ne_of_none h2 hc
  have s3:Same H2 (upd H2 c (.lst [])):=(Same.refl H2).new hc
  have h3:upd H2 c (.lst []) c=some (.lst []):=upd_same
  generalize upd H2 c (.lst [])=H3 at s3 h3
  refine ⟨_,rfl,kn,_,rfl,.inr (SqT.of (s3 _ _ (s2 _ _ (s1 _ _ hkn)))),_,_,rfl,rfl,_,rfl,(by show 2≤sizeLine;decide),fun p0 hp0=>?_⟩
  generalize hg4:upd H3 p0 _=H4
  have s4:Same H3 H4:=by rw [← hg4];exact (Same.refl H3).new hp0
  have h4:H4 p0=some (.tup (pairN (net.length - 1,-1))):=by
    rw [← hg4,upd_same]
    show some (HO.tup [.int (((as.map V.ref).length:Int) - 1),.int (-1)])=_
    unfold pairN
    rw [asl,show (((net.length - 1:Nat)):Int)=(net.length:Int) - 1 by omega]
  clear hg4
  refine ⟨(by show 1≤sizeLine;decide),fun wt hwt=>?_⟩
  have nw:H wt=none:=s1.free (s2.free (s3.free (s4.free hwt)))
  have uw:u≠wt:=ne_of_none (s4 _ _ (s3 _ _ (s2 _ _ h1))) hwt
  have lw:l≠wt:=ne_of_none (s4 _ _ (s3 _ _ h2)) hwt
  have cw:c≠wt:=ne_of_none (s4 _ _ h3) hwt
  have s5:Same H4 (upd H4 wt (.lst [.ref p0])):=(Same.refl H4).new hwt
  have h5:upd H4 wt (.lst [.ref p0]) wt=some (.lst ([p0].map V.ref)):=upd_same
  generalize upd H4 wt (.lst [.ref p0])=H5 at s5 h5
  have s05:Same H H5:=(((s1.trans s2).trans s3).trans s4).trans s5
  dsimp only [gName]
  refine while_by (fun σ HX=>∃ (i:Nat) (ws:List Addr) (o5 o6 o7:Option V),σ=[some (.ref kn),some (.ref u),some (.ref l),some (.ref c),some (.ref wt),o5,o6,o7]∧i≤Ln net∧Same H HX∧HX u=some (.lst ((Us net i).map V.int))∧HX l=some (.lst (oneV (Ls net i)))∧HX c=some (.lst (natV (Ks net i)))∧HX wt=some (.lst (ws.map V.ref))∧PrW HX ws (Sk net i).reverse)
    (fun σ HX=>match HX u with | some (.lst xs)=>300 - xs.length | _=>0) ⟨0,[p0],none,none,none,rfl,Nat.zero_le _,s05,s5 _ _ (s4 _ _ (s3 _ _ (s2 _ _ h1))),s5 _ _ (s4 _ _ (s3 _ _ h2)),s5 _ _ (s4 _ _ h3),h5,?_⟩ ?_ ?_
  · refine ⟨rfl,fun i a p e1 e2=>?_⟩
    have i0:i=0:=by have:=(List.getElem?_eq_some_iff.mp e1).1;simp at this;exact this
    subst i0
    cases e1;cases e2
    exact s5 _ _ h4
  · rintro σ HX ⟨i,ws,o5,o6,o7,rfl,hi,sX,hu',hl',hc',hw',pw⟩
    refine ⟨_,rfl,(by show 0≤sizeLine;decide),fun em hem=>?_⟩
    have sE:Same HX (upd HX em (.lst [])):=(Same.refl HX).new hem
    have hE:upd HX em (.lst []) em=some (.lst []):=upd_same
    have mu:upd HX em (.lst []) u=HX u:=upd_ne (ne_of_none hu' hem)
    show (fun HH=>_) (upd HX em (.lst []))
    generalize upd HX em (.lst [])=HZ at sE hE mu
    refine ⟨wt,em,_,rfl,rfl,SqL.of (sE _ _ hw'),SqL.of hE,_,rfl,ite2 (fun cnd=>?_) (fun cnd=>?_)⟩
    · have wne:ws≠[]:=fun e=>by rw [e] at cnd;cases cnd
      have lt':i < Ln net:=by
        rcases Nat.eq_or_lt_of_le hi with e | e
        · rw [e,sk_end N] at pw;exact absurd (List.eq_nil_of_length_eq_zero pw.1) wne
        · exact e
      obtain ⟨r,up,rest,est,e1,e2,e2',e3⟩:=sk_step N lt'
      obtain ⟨ws0,a0,rfl⟩:∃ ws0 a0,ws=ws0++[a0]:=⟨ws.dropLast,ws.getLast wne,(List.dropLast_concat_getLast wne).symm⟩
      rw [est,List.reverse_cons] at pw
      obtain ⟨pw0,ha0⟩:=pw.init
      have rn:r < net.length:=sk_row N pos hi (r,up) (by rw [est];exact List.mem_cons_self)
      have ei:(Us net i).length=i:=Us_len N hi
      have ei2:(Ls net i).length=i:=Ls_len N hi
      have ei3:(Ks net i).length=i:=Ks_len N hi
      have ra:as[r]?=some (as[r]'(by omega)):=List.getElem?_eq_getElem (by omega)
      obtain ⟨cc,hk1,hk2⟩:=hat r _ ra
      generalize as[r]'(by omega)=ar at ra hk1
      have hix:=atI_nat (xs:=as.map V.ref) (j:=r) (v:=.ref ar) (by rw [List.getElem?_map,ra];rfl)
      have wl:ws0.length≤300:=by
        have:=pw0.1
        have:=sk_few N hi
        rw [est,List.length_cons] at this
        rw [List.length_reverse] at *
        omega
      have bf:=ok.bfew r
      have hw2:HZ wt=some (.lst (ws0.map V.ref++[.ref a0])):=by rw [sE _ _ hw',List.map_append];rfl
      refine ⟨_,rfl,.inl ⟨rfl,_,SqL.of hw2⟩,wt,_,.ref a0,rfl,rfl,hw2,by simp,?_⟩
      rw [List.dropLast_concat]
      have t1:∀ b xs,HX b=some (.tup xs)→upd HZ wt (.lst (ws0.map V.ref)) b=some (.tup xs):=fun b xs e=>by rw [upd_ne (ne_of (sE _ _ e) hw2 (by intro z;cases z))];exact sE _ _ e
      have u1:upd HZ wt (.lst (ws0.map V.ref)) u=some (.lst ((Us net i).map V.int)):=by rw [upd_ne uw];exact sE _ _ hu'
      have l1:upd HZ wt (.lst (ws0.map V.ref)) l=some (.lst (oneV (Ls net i))):=by rw [upd_ne lw];exact sE _ _ hl'
      have c1:upd HZ wt (.lst (ws0.map V.ref)) c=some (.lst (natV (Ks net i))):=by rw [upd_ne cw];exact sE _ _ hc'
      have w1:upd HZ wt (.lst (ws0.map V.ref)) wt=some (.lst (ws0.map V.ref)):=upd_same
      have sA:Same H (upd HZ wt (.lst (ws0.map V.ref))):=(sX.trans sE).write nw
      show (fun HH=>_) (upd HZ wt (.lst (ws0.map V.ref)))
      generalize upd HZ wt (.lst (ws0.map V.ref))=HA at t1 u1 l1 c1 w1 sA
      refine ⟨a0,_,rfl,SqT.of (t1 _ _ ha0),rfl,_,_,rfl,_,_,rfl,rfl,?_⟩
      refine ⟨_,rfl,_,rfl,kn,_,_,_,rfl,rfl,SqT.of (sA _ _ hkn),hix,ar,_,_,_,rfl,rfl,SqT.of (sA _ _ hk1),rfl,_,rfl,_,rfl,cc,_,rfl,rfl,SqT.of (sA _ _ hk2),fun rv hrv=>?_⟩
      have en:(natV (W47.bel net r)).reverse=natV (W47.bel net r).reverse:=by unfold natV;rw [List.map_reverse]
      rw [en]
      have sB:Same HA (upd HA rv (.tup (natV (W47.bel net r).reverse))):=(Same.refl HA).new hrv
      have hB:upd HA rv (.tup (natV (W47.bel net r).reverse)) rv=some (.tup (natV (W47.bel net r).reverse)):=upd_same
      show (fun HH=>_) (upd HA rv (.tup (natV (W47.bel net r).reverse)))
      generalize upd HA rv (.tup (natV (W47.bel net r).reverse))=HB at sB hB
      refine ⟨rv,rfl,⟨_,SqT.of hB⟩,?_⟩
      refine for_tup (K:=K) (xs:=natV (W47.bel net r).reverse) (fun j σ HY=>∃ (o7:Option V) (vs:List Addr),σ=[some (.ref kn),some (.ref u),some (.ref l),some (.ref c),some (.ref wt),some (.int ((r:Nat):Int)),some (.int up),o7]∧Same H HY∧HY u=some (.lst ((Us net i).map V.int))∧HY l=some (.lst (oneV (Ls net i)))∧HY c=some (.lst (natV (Ks net i)))∧HY wt=some (.lst ((ws0++vs).map V.ref))∧PrW HY vs (((W47.bel net r).reverse.take j).map fun l=>(l,(i:Int)))∧PrW HY ws0 rest.reverse∧HY rv=some (.tup (natV (W47.bel net r).reverse)))
        ⟨o7,[],rfl,sA.trans sB,sB _ _ u1,sB _ _ l1,sB _ _ c1,by rw [List.append_nil];exact sB _ _ w1,⟨rfl,fun i a p e=>by simp at e⟩,pw0.same fun b xs e=>sB _ _ (t1 _ _ e),hB⟩ (fun j σ HY _ h=>by obtain ⟨_,_,_,_,_,_,_,_,_,_,h⟩:=h;exact SqT.of h) ?_ ?_
      · rintro j x σ HY hx ⟨o7',vs,rfl,sY,uY,lY,cY,wY,pv,pw3,rY⟩
        unfold natV at hx
        rw [List.getElem?_map] at hx
        cases ex:(W47.bel net r).reverse[j]? with
        | none=>rw [ex] at hx;cases hx
        | some lo=>
          rw [ex] at hx
          cases hx
          have vl:vs.length≤60:=by rw [pv.1,List.length_map,List.length_take,List.length_reverse];omega
          refine ⟨_,rfl,.inl ⟨rfl,_,SqL.of wY⟩,_,rfl,_,rfl,u,_,rfl,.inl (SqL.of uY),(by show 2≤sizeLine;decide),fun e he=>?_⟩
          have ew:wt≠e:=ne_of_none wY he
          have lenU:(((Us net i).map V.int).length:Int)=(i:Int):=by rw [List.length_map,ei]
          rw [lenU]
          refine ⟨wt,_,_,rfl,rfl,by rw [upd_ne ew];exact wY,by rw [List.length_map,List.length_append];exact small1000 (by omega),?_⟩
          have keep:∀ b xs,HY b=some (.tup xs)→upd (upd HY e (.tup [.int ((lo:Nat):Int),.int (i:Int)])) wt (.lst ((ws0++vs).map V.ref++[.ref e])) b=some (.tup xs):=fun b xs eb=>by
            rw [upd_ne (ne_of eb wY (by intro z;cases z)),upd_ne (ne_of_none eb he)];exact eb
          have keepL:∀ b o,b≠wt→HY b=some o→upd (upd HY e (.tup [.int ((lo:Nat):Int),.int (i:Int)])) wt (.lst ((ws0++vs).map V.ref++[.ref e])) b=some o:=fun b o nb eb=>by
            rw [upd_ne nb,upd_ne (ne_of_none eb he)];exact eb
          refine ⟨_,vs++[e],rfl,(sY.new he).write nw,keepL _ _ uw uY,keepL _ _ lw lY,keepL _ _ cw cY,by rw [upd_same,← List.append_assoc,List.map_append (l₁:=ws0++vs)];rfl,?_,pw3.same keep,keep _ _ rY⟩
          have e4:((W47.bel net r).reverse.take (j+1)).map (fun l=>(l,(i:Int)))=((W47.bel net r).reverse.take j).map (fun l=>(l,(i:Int)))++[(lo,(i:Int))]:=by rw [List.take_succ,ex,List.map_append];rfl
          rw [e4]
          refine PrW.app (vs:=[e]) (qs:=[(lo,(i:Int))]) (pv.same keep) ⟨rfl,fun i' a p e1 e2=>?_⟩
          have i0:i'=0:=by have:=(List.getElem?_eq_some_iff.mp e1).1;simp at this;exact this
          subst i0
          cases e1;cases e2
          rw [upd_ne (Ne.symm ew)];exact upd_same
      · rintro σ HY ⟨o7',vs,rfl,sY,uY,lY,cY,wY,pv,pw3,rY⟩
        have full:((W47.bel net r).reverse.take (natV (W47.bel net r).reverse).length).map (fun l=>(l,(i:Int)))=((W47.bel net r).map fun l=>(l,(i:Int))).reverse:=by
          rw [← List.map_reverse]
          congr 1
          rw [natV_len];exact List.take_length
        rw [full] at pv
        refine ⟨_,rfl,.inl ⟨rfl,_,SqL.of uY⟩,_,rfl,u,_,_,rfl,rfl,uY,by rw [List.length_map,ei];exact small1000 (by omega),?_⟩
        have t2:∀ b o,b≠u→HY b=some o→upd HY u (.lst ((Us net i).map V.int++[.int up])) b=some o:=fun b o nb e=>by rw [upd_ne nb];exact e
        have tt2:∀ b xs,HY b=some (.tup xs)→upd HY u (.lst ((Us net i).map V.int++[.int up])) b=some (.tup xs):=fun b xs e=>by rw [upd_ne (ne_of e uY (by intro z;cases z))];exact e
        have sC:Same H (upd HY u (.lst ((Us net i).map V.int++[.int up]))):=sY.write hu
        have u2:upd HY u (.lst ((Us net i).map V.int++[.int up])) u=some (.lst ((Us net (i+1)).map V.int)):=by rw [upd_same,e2,List.map_append];rfl
        show (fun HH=>_) (upd HY u (.lst ((Us net i).map V.int++[.int up])))
        generalize upd HY u (.lst ((Us net i).map V.int++[.int up]))=HC at t2 tt2 sC u2
        have l2:=t2 _ _ (Ne.symm ul) lY
        have c2:=t2 _ _ (Ne.symm uc) cY
        have w2:=t2 _ _ (Ne.symm uw) wY
        refine ⟨_,rfl,.inl ⟨rfl,_,SqL.of l2⟩,_,rfl,_,rfl,kn,_,_,_,rfl,rfl,SqT.of (sC _ _ hkn),hix,ar,_,_,_,rfl,rfl,SqT.of (sC _ _ hk1),rfl,l,_,_,rfl,rfl,l2,by rw [oneV_len,ei2];exact small1000 (by omega),?_⟩
        have t3:∀ b o,b≠l→HC b=some o→upd HC l (.lst (oneV (Ls net i)++[.str ⟨#[lt net r]⟩])) b=some o:=fun b o nb e=>by rw [upd_ne nb];exact e
        have tt3:∀ b xs,HC b=some (.tup xs)→upd HC l (.lst (oneV (Ls net i)++[.str ⟨#[lt net r]⟩])) b=some (.tup xs):=fun b xs e=>by rw [upd_ne (ne_of e l2 (by intro z;cases z))];exact e
        have sD:Same H (upd HC l (.lst (oneV (Ls net i)++[.str ⟨#[lt net r]⟩]))):=sC.write nl
        have l3:upd HC l (.lst (oneV (Ls net i)++[.str ⟨#[lt net r]⟩])) l=some (.lst (oneV (Ls net (i+1)))):=by rw [upd_same,e3];unfold oneV;rw [List.map_append];rfl
        show (fun HH=>_) (upd HC l (.lst (oneV (Ls net i)++[.str ⟨#[lt net r]⟩])))
        generalize upd HC l (.lst (oneV (Ls net i)++[.str ⟨#[lt net r]⟩]))=HD at t3 tt3 sD l3
        have u3:=t3 _ _ ul u2
        have c3:=t3 _ _ (Ne.symm lc) c2
        have w3:=t3 _ _ (Ne.symm lw) w2
        refine ⟨_,rfl,.inl ⟨rfl,_,SqL.of c3⟩,_,rfl,c,_,_,rfl,rfl,c3,by rw [natV_len,ei3];exact small1000 (by omega),?_⟩
        have tt4:∀ b xs,HD b=some (.tup xs)→upd HD c (.lst (natV (Ks net i)++[.int ((r:Nat):Int)])) b=some (.tup xs):=fun b xs e=>by rw [upd_ne (ne_of e c3 (by intro z;cases z))];exact e
        have tk:∀ b xs,HY b=some (.tup xs)→upd HD c (.lst (natV (Ks net i)++[.int ((r:Nat):Int)])) b=some (.tup xs):=fun b xs e=>tt4 _ _ (tt3 _ _ (tt2 _ _ e))
        refine ⟨⟨i+1,ws0++vs,_,_,_,rfl,lt',sD.write nc,by rw [upd_ne uc];exact u3,by rw [upd_ne lc];exact l3,?_,by rw [upd_ne (Ne.symm cw)];exact w3,?_⟩,?_⟩
        · rw [upd_same,e2'];unfold natV;rw [List.map_append];rfl
        · rw [e1,List.reverse_append]
          exact (pw3.same tk).app (pv.same tk)
        · show (match upd HD c (.lst (natV (Ks net i)++[.int ((r:Nat):Int)])) u with | some (.lst xs)=>300 - xs.length | _=>0) < (match HX u with | some (.lst xs)=>300 - xs.length | _=>0)
          rw [upd_ne uc,u3,hu']
          show 300 - ((Us net (i+1)).map V.int).length < 300 - ((Us net i).map V.int).length
          rw [List.length_map,List.length_map,Us_len N (by omega),ei];omega
    · have w0:ws=[]:=by
        cases ws with
        | nil=>rfl
        | cons a b=>exact absurd rfl cnd
      have en:i=Ln net:=by
        rcases Nat.eq_or_lt_of_le hi with e | e
        · exact e
        · have:=pw.1
          rw [w0,List.length_reverse] at this
          exact absurd (List.eq_nil_of_length_eq_zero this.symm) (sk_ne N e)
      subst en
      have ke:Ks net (Ln net)=W47.u net (net.length - 1):=(W47.run_end N).2
      rw [ke] at hc'
      refine ⟨_,rfl,_,rfl,_,rfl,(by show 3≤sizeLine;decide),fun rr hrr=>?_⟩
      have sR:Same HZ (upd HZ rr (.lst [.ref u,.ref l,.ref c])):=(Same.refl HZ).new hrr
      exact q rr u l c _ ((sX.trans sE).trans sR) upd_same (sR _ _ (sE _ _ hu')) (sR _ _ (sE _ _ hl')) (sR _ _ (sE _ _ hc'))
  · intro σ HX Q1 Q2 hq h
    obtain ⟨v,e,hz,h⟩:=h
    refine ⟨v,e,hz,fun em hem=>?_⟩
    obtain ⟨a,b,xs,e1,e2,e3,e4,kk,e5,h⟩:=h em hem
    exact ⟨a,b,xs,e1,e2,e3,e4,kk,e5,hq _ _ h⟩
end
end S50
namespace S50
open PySem L2 W7
theorem cutV_to {xs:List V} {i:Int} (h0:0≤i) (h1:i≤(xs.length:Int)):cutV xs none (some i)=xs.take i.toNat:=by
  unfold cutV
  have e:HT.sIx xs.length xs.length (some i)=i.toNat:=by
    simp only [HT.sIx];rw [if_neg (by omega)];omega
  rw [e];simp [HT.sIx]
theorem sIx_to {n:Nat} {i:Int} (h0:0≤i) (h1:i≤(n:Int)):HT.sIx n n (some i)=i.toNat:=by
  simp only [HT.sIx];rw [if_neg (by omega)];omega
theorem NetAt.take {H:Hp} {as:List Addr} {net:List Knot} (h:KnotsAt H as net) (n:Nat):KnotsAt H (as.take n) (net.take n):=by
  refine ⟨by rw [List.length_take,List.length_take,h.1],fun i a kn e1 e2=>?_⟩
  rw [List.getElem?_take] at e1 e2
  split at e1
  · rename_i c
    rw [if_pos c] at e2
    exact h.2 i a kn e1 e2
  · cases e1
theorem NetOk.take {net:List Knot} (ok:NetOk net) {n:Nat} (h:0 < n):NetOk (net.take n):=by
  refine ⟨?_,?_,fun kn hk=>ok.low kn (List.mem_of_mem_take hk),fun kn hk=>ok.few kn (List.mem_of_mem_take hk),fun k kn e=>?_⟩
  · rw [List.length_take];have:=ok.pos;omega
  · rw [List.length_take];have:=ok.most;omega
  · rw [List.getElem?_take] at e
    split at e
    · exact ok.num k kn e
    · cases e
theorem bel_take {net:List Knot} {n k:Nat} (h:k < n):W47.bel (net.take n) k=W47.bel net k:=by
  unfold W47.bel
  rw [List.getD_eq_getElem?_getD,List.getD_eq_getElem?_getD,List.getElem?_take,if_pos h]
theorem net_take {net:List Knot} (N:W47.Net net) (n:Nat):W47.Net (net.take n):=⟨fun k hk l hl=>by
  rw [List.length_take] at hk
  rw [bel_take (by omega)] at hl
  exact N.at' k l hl⟩
theorem u_take {net:List Knot} (N:W47.Net net) {n:Nat}:∀ (q k:Nat),k < q→k < n→W47.u (net.take n) k=W47.u net k
  | 0,_,hq,_=>absurd hq (Nat.not_lt_zero _)
  | q+1,k,hq,hk=>by
    rw [W47.u_eq (net_take N n),W47.u_eq N,bel_take hk]
    congr 2
    refine List.map_congr_left fun l hl=>?_
    have:=N.at' k l hl
    exact u_take N q l (by omega) (by omega)
theorem sz_take {net:List Knot} (N:W47.Net net) {n k:Nat} (h:k < n):W47.sz (net.take n) k=W47.sz net k:=by
  unfold W47.sz;rw [u_take N _ _ (Nat.lt_succ_self _) h]
theorem sz_zero {net:List Knot} (N:W47.Net net):W47.sz net 0=1:=by
  rw [W47.sz_eq N]
  have:W47.bel net 0=[]:=List.eq_nil_iff_forall_not_mem.mpr fun l hl=>by have:=N.at' 0 l hl;omega
  rw [this];rfl
section
variable {P:Program} {w:World} {K:PySem.W.Frag} {mg:Str→Option Value} {base:Heap} {k:Nat}
def sp_cut:Sp:=fun vs H Q _=>∃ (t:Addr) (net:List Knot) (m:Int),vs=[.ref t,.int m]∧NetAt H t net∧NetOk net∧1≤m∧∀ (r:Addr) (net':List Knot) (H':Hp),Same H H'→NetAt H' r net'→NetOk net'→W47.sz net' (net'.length - 1)≤m→Q (.ref r) H'
theorem has_cut (D:Df K mg "_law_cut" s_law_cut) (B:Blt7 mg) (G_law_sizes:Has P w K mg base "_law_sizes" k ["net"] sp_sizes):Has P w K mg base "_law_cut" (k+1) ["net", "most"] sp_cut:=by
  refine D.has sc_law_cut (fun _ _ _ _ _ _ us hl=>match us,hl with | [_,_],_=>rfl) (fun vs H Q E h=>by obtain ⟨t,net,m,rfl,_⟩:=h;rfl) (fun f cdv A outer s H vs Q E hr h=>?_)
  obtain ⟨t,net,m,rfl,na,ok,m1,q⟩:=h
  refine ⟨_,(pss_cons (ps_set (i:=2) sc_law_cut.nd rfl (by first | exact Or.inl rfl | exact Or.inr rfl) (pe_callH G_law_sizes hr rfl (pa_cons (pv 0) pa_nil)))
  (pss_cons (ps_comp (i:=3) sc_law_cut.nd rfl (by first | exact Or.inl rfl | exact Or.inr rfl) rfl (pi_range1 rfl B.range (pa_cons (pe_callB call_len_seq rfl B.len bt_len (pa_cons (pv 0) pa_nil)) pa_nil)) (NL:=["k"]) (ix:=[2,1]) (csc (defScope s_law_cut) N_law_cut) (fun cl C s₃ H₃ fp pins=>⟨(pg_name (i:=0) (show List.Nodup (["k", "sizes", "most"]:List Str) from by decide +kernel) rfl (by first | exact Or.inl rfl | exact Or.inr rfl)),(pifs_one (pt_cmpR op_le (pe_ix (ix_listK K) (pv 1) (pv 0) (fun _ _=>rfl)) (pv 2) (nomark _))),(pv 0)⟩))
  (pss_one (ps_ret (pe_slice sl_tupA (pv 0) po_none (po_some (pe_op op_add (pe_ix ix_list (pv 3) (pe_un un_neg pe_int) (fun _ _=>rfl)) pe_int))))))),?_⟩
  have N:=ok.net
  have pos:=ok.pos
  have l60:=ok.most
  obtain ⟨as,ht,kns⟩:=id na
  have asl:(as.map V.ref).length=net.length:=by rw [List.length_map,kns.1]
  refine ⟨_,rfl,t,net,rfl,na,ok,fun r H1 fr s1 h1=>?_⟩
  refine ⟨_,rfl,t,_,rfl,.inr (SqT.of (s1 _ _ ht)),?_⟩
  rw [asl]
  refine ⟨((net.length:Nat):Int),rfl,by omega,by omega,fun acc hacc=>?_⟩
  refine comp_by net.length (by omega) (fun j ys HX=>∃ gs:List Nat,HX acc=some (.lst ys)∧ys=natV gs∧gs.length≤j∧(∀ g∈gs,g < j∧W47.sz net g≤m)∧(0 < j→gs≠[])∧Same H1 HX) (fun j ys HX h=>by obtain ⟨gs,h1,rfl,h2,_⟩:=h;exact ⟨h1,by rw [natV_len];exact h2⟩) ⟨[],upd_same,rfl,Nat.zero_le _,(fun g hg=>by cases hg),(fun z=>absurd z (Nat.lt_irrefl _)),(Same.refl H1).new hacc⟩ ?_ ?_
  · rintro ys HX ⟨gs,g1,rfl,g2,g3,g4,g5⟩
    refine ⟨by rw [Int.toNat_natCast];exact Nat.le_refl _,?_⟩
    have gne:=g4 pos
    obtain ⟨glt,gsz⟩:=g3 _ (List.getLast_mem gne)
    have hat:atI (natV gs) (-1)=some (.int ((gs.getLast gne:Nat):Int)):=by
      have gl:0 < gs.length:=List.length_pos_iff.mpr gne
      unfold atI
      rw [natV_len,ixN_last gl]
      show (natV gs)[gs.length - 1]?=_
      unfold natV
      rw [List.getElem?_map,List.getElem?_eq_getElem (by omega),← List.getLast_eq_getElem];rfl
    have sX:=s1.trans g5
    refine ⟨_,rfl,_,rfl,_,rfl,acc,_,_,_,rfl,rfl,SqL.of g1,hat,_,_,rfl,rfl,_,rfl,t,_,rfl,SqT.of (sX _ _ ht),fun wh=>?_,fun nw p hp=>?_⟩
    · have ge:net.length - 1=gs.getLast gne:=by
        have:=wh.2
        rw [sIx_to (by omega) (by rw [asl];omega),asl] at this
        omega
      exact q t net HX sX (na.same sX) ok (by rw [ge];exact gsz)
    · have e:cutV (as.map V.ref) none (some (((gs.getLast gne:Nat):Int)+1))=(as.take (gs.getLast gne+1)).map V.ref:=by
        rw [cutV_to (by omega) (by rw [asl];omega),List.map_take]
        congr 1
      have sP:Same HX (upd HX p (.tup (cutV (as.map V.ref) none (some (((gs.getLast gne:Nat):Int)+1))))):=(Same.refl HX).new hp
      exact q p (net.take (gs.getLast gne+1)) _ (sX.trans sP) ⟨as.take (gs.getLast gne+1),by rw [← e];exact upd_same,(NetAt.take kns _).same (sX.trans sP)⟩ (ok.take (Nat.succ_pos _)) (by rw [List.length_take,Nat.min_eq_left (by omega),Nat.add_sub_cancel,sz_take N (Nat.lt_succ_self _)];exact gsz)
  · rintro j ys HX hj ⟨gs,g1,rfl,g2,g3,g4,g5⟩
    refine ⟨by rw [Int.toNat_natCast];exact hj,?_⟩
    rintro x H'' ⟨rfl,rfl⟩
    refine ⟨rfl,?_⟩
    have zj:(0:Int)+(j:Int)=((j:Nat):Int):=by omega
    have at1:atI (szV net net.length) (0+(j:Int))=some (.int (W47.sz net j)):=by
      have:=szV_at (net:=net) (i:=net.length) (n:=0+(j:Int)) (by omega) (by omega)
      rw [show ((0:Int)+(j:Int)).toNat=j by omega] at this
      exact this
    refine ⟨_,rfl,_,rfl,r,_,_,_,rfl,rfl,SqL.of (g5 _ _ h1),at1,_,rfl,_,_,rfl,rfl,_,rfl,ite2 (fun cnd=>?_) (fun cnd=>?_)⟩
    · refine ⟨_,rfl,g1,gs++[j],upd_same,?_,by rw [List.length_append];show _+1≤_;omega,fun g hg=>?_,fun _=>by simp,g5.write hacc⟩
      · unfold natV;rw [List.map_append,zj];rfl
      · rcases List.mem_append.mp hg with hg | hg
        · have:=g3 g hg;exact ⟨by omega,this.2⟩
        · rw [List.mem_singleton.mp hg];exact ⟨by omega,of_decide_eq_true cnd⟩
    · refine ⟨gs,g1,rfl,by omega,fun g hg=>by have:=g3 g hg;exact ⟨by omega,this.2⟩,fun _=>?_,g5⟩
      rcases Nat.eq_zero_or_pos j with z | z
      · subst z
        exfalso
        apply cnd
        rw [sz_zero N]
        exact decide_eq_true m1
      · exact g4 z
end
end S50
namespace S50
open PySem L2 W7
def Trr (H:Hp) (t:Addr) (us:List Int) (ls:List Nat):Prop:=∃ u:Addr,H t=some (.tup [.ref u,.str (mk ls)])∧H u=some (.tup (us.map V.int))
theorem Trr.same {H H':Hp} {t:Addr} {us:List Int} {ls:List Nat} (h:Trr H t us ls) (s:Same H H'):Trr H' t us ls:=let ⟨u,a,b⟩:=h;⟨u,s _ _ a,s _ _ b⟩
theorem up_at {us:List Int} {p:Nat} (h:p < us.length):atI (us.map V.int) (p:Int)=some (.int (us.getD p (-1))):=by
  refine atI_nat (xs:=us.map V.int) (j:=p) ?_
  rw [List.getElem?_map,List.getElem?_eq_getElem h,List.getD_eq_getElem?_getD,List.getElem?_eq_getElem h];rfl
theorem lt_at {ls:List Nat} {p:Nat} (h:p < ls.length):atI ls (p:Int)=some (W50.lt ls p):=by
  refine atI_nat (xs:=ls) (j:=p) ?_
  unfold W50.lt
  rw [List.getElem?_eq_getElem h,List.getD_eq_getElem?_getD,List.getElem?_eq_getElem h];rfl
def pre (us:List Int) (p m:Nat):List Nat:=(List.range m).filter fun k=>decide (us.getD k (-1)=(p:Int))
theorem pre_succ (us:List Int) (p m:Nat):pre us p (m+1)=if us.getD m (-1)=(p:Int) then pre us p m++[m] else pre us p m:=by
  unfold pre
  rw [List.range_succ,List.filter_append]
  by_cases h:us.getD m (-1)=(p:Int)
  · rw [if_pos h,List.filter_cons_of_pos (by simpa using h)];rfl
  · rw [if_neg h,List.filter_cons_of_neg (by simpa using h)];simp
theorem pre_le (us:List Int) (p m:Nat):(pre us p m).length≤m:=by
  have:=List.length_filter_le (fun k=>decide (us.getD k (-1)=(p:Int))) (List.range m)
  simpa [pre] using this
theorem pre_all (us:List Int) (p:Nat):pre us p us.length=W50.kids us 0 p:=by
  unfold pre W50.kids
  rw [List.range_eq_range',Nat.sub_zero]
theorem kids_len (us:List Int) (q p:Nat):(W50.kids us q p).length≤us.length - q:=by
  have:=List.length_filter_le (fun k=>decide (us.getD k (-1)=(p:Int))) (List.range' q (us.length - q))
  rw [List.length_range'] at this
  exact this
section
variable {P:Program} {w:World} {K:PySem.W.Frag} {mg:Str→Option Value} {base:Heap} {k:Nat}
def sp_ben:Sp:=fun vs H Q _=>∃ (t:Addr) (us:List Int) (ls:List Nat) (p:Nat),vs=[.ref t,.int (p:Int)]∧Trr H t us ls∧W50.Ok us ls ∧
  ∀ (r:Addr) (H':Hp),Same H H'→H r=none→H' r=some (.lst (natV (W50.kids us 0 p)))→Q (.ref r) H'
theorem has_ben (D:Df K mg "beneath_of" s_beneath_of) (B:Blt7 mg):Has P w K mg base "beneath_of" (k+1) ["tree", "place"] sp_ben:=by
  refine D.has sc_beneath_of (fun _ _ _ _ _ _ us hl=>match us,hl with | [_,_],_=>rfl) (fun vs H Q E h=>by obtain ⟨t,us,ls,p,rfl,_⟩:=h;rfl) (fun f cdv A outer s H vs Q E hr h=>?_)
  obtain ⟨t,us,ls,p,rfl,⟨u,ht,hu⟩,ok,q⟩:=h
  refine ⟨_,(pss_one (ps_ret (pe_comp rfl (pi_enum rfl B.enumerate (pa_cons (pe_ix ix_tup (pv 0) pe_int (fun _ _=>rfl)) pa_nil)) (NL:=["other", "up"]) (ix:=[1]) (csc (defScope s_beneath_of) N_beneath_of) (fun cl C s₃ H₃ fp pins=>⟨(pg_tupK K (n:=2) rfl (pgs_cons (pg_name (i:=0) (show List.Nodup (["other", "up", "place"]:List Str) from by decide +kernel) rfl (by first | exact Or.inl rfl | exact Or.inr rfl)) (pgs_cons (pg_name (i:=1) (show List.Nodup (["other", "up", "place"]:List Str) from by decide +kernel) rfl (by first | exact Or.inl rfl | exact Or.inr rfl)) pgs_nil))),(pifs_one (pt_cmpR op_eq (pv 1) (pv 2) (nomark _))),(pv 0)⟩)))),?_⟩
  have m60:=ok.most
  refine ⟨_,rfl,t,_,_,_,rfl,rfl,SqT.of ht,rfl,.tup u,rfl,⟨_,.inl hu⟩,fun acc hacc=>?_⟩
  refine comp_enum (xs:=us.map V.int) (by rw [List.length_map];omega) (fun i ys H2=>H2 acc=some (.lst ys)∧ys=natV (pre us p i)∧Same H H2)
    (fun i ys H2 h=>.inl (h.2.2 _ _ hu)) (fun i ys H2 h=>⟨h.1,by rw [h.2.1,natV,List.length_map];exact pre_le _ _ _⟩) ⟨upd_same,rfl,(Same.refl H).new hacc⟩ ?_ ?_
  · rintro ys H2 ⟨g1,rfl,g3⟩
    rw [List.length_map,pre_all] at g1
    exact q acc H2 g3 hacc g1
  · rintro i x ys H2 pp hx ⟨g1,rfl,g3⟩ hpp
    rw [List.getElem?_map] at hx
    cases e1:us[i]? with
    | none=>rw [e1] at hx;cases hx
    | some v=>
      rw [e1] at hx
      cases hx
      have ev:us.getD i (-1)=v:=by rw [List.getD_eq_getElem?_getD,e1];rfl
      refine ⟨pp,_,rfl,SqT.of upd_same,rfl,_,_,rfl,_,_,rfl,rfl,?_⟩
      refine ⟨rfl,?_⟩
      have g1':upd H2 pp (.tup [.int (i:Int),.int v]) acc=some (.lst (natV (pre us p i))):=by rw [upd_ne (ne_of_none g1 hpp)];exact g1
      refine ⟨_,rfl,_,rfl,rfl,_,rfl,ite2 (fun cnd=>?_) (fun cnd=>?_)⟩
      · have ec:v=(p:Int):=by
          have:=of_decide_eq_true cnd
          injection this
        exact ⟨_,rfl,g1',upd_same,by rw [pre_succ,if_pos (ev.trans ec),natV,natV,List.map_append];rfl,(g3.new hpp).write hacc⟩
      · have ec:v≠(p:Int):=fun z=>cnd (by rw [z];exact decide_eq_true rfl)
        exact ⟨g1',by rw [pre_succ,if_neg (by rw [ev];exact ec)],g3.new hpp⟩
end
end S50
namespace W50
open W47
theorem run_tree {net:List Knot} (h:Net net):∀ i,i≤(u net (net.length - 1)).length→(∀ (k:Nat) (a:Int),(run net i).2.1[k]?=some a→(k=0→a=-1)∧(0 < k→0≤a∧a < (k:Int)))∧∀ p∈(run net i).1,(i=0→p.2=-1)∧(0 < i→0≤p.2∧p.2 < (i:Int))
  | 0,_=>by
    refine ⟨fun k a e=>(by cases e),fun p hp=>?_⟩
    have:p=(net.length - 1,-1):=List.mem_singleton.mp hp
    subst this
    exact ⟨fun _=>rfl,fun z=>absurd z (Nat.lt_irrefl _)⟩
  | i+1,hi=>by
    obtain ⟨a,b⟩:=run_tree h i (by omega)
    obtain ⟨r,up,rest,e1,e2,e3,e4⟩:=run_step h (i:=i) (by omega)
    have li:(run net i).2.1.length=i:=(run_inv h i (by omega)).1
    have bu:=b (r,up) (by rw [e1];exact List.mem_cons_self)
    refine ⟨fun k x e=>?_,fun p hp=>?_⟩
    · rw [e3] at e
      rcases Nat.lt_or_ge k i with lt | ge
      · rw [List.getElem?_append_left (by omega)] at e
        exact a k x e
      · rw [List.getElem?_append_right (by omega),li] at e
        have:k - i=0:=by
          rcases Nat.eq_zero_or_pos (k - i) with z | z
          · exact z
          · rw [List.getElem?_eq_none (by show 1≤_;omega)] at e;cases e
        rw [this] at e
        cases e
        obtain rfl:k=i:=by omega
        exact bu
    · rw [e2] at hp
      refine ⟨fun z=>by omega,fun _=>?_⟩
      rcases List.mem_append.mp hp with hp | hq
      · obtain ⟨l,_,rfl⟩:=List.mem_map.mp hp
        exact ⟨by show (0:Int)≤(i:Int);omega,by show (i:Int) < ((i+1:Nat):Int);omega⟩
      · have bp:=b p (by rw [e1];exact List.mem_cons_of_mem _ hq)
        rcases Nat.eq_zero_or_pos i with z | z
        · subst z
          have:rest=[]:=by
            have e0:(run net 0).1=[(net.length - 1,-1)]:=rfl
            rw [e0] at e1
            injection e1 with _ e1
            exact e1.symm
          exact absurd hq (by rw [this];exact List.not_mem_nil)
        · have:=bp.2 z;omega
theorem run_ok {net:List Knot} (h:Net net) {ls:List Nat} (hl:ls.length=(u net (net.length - 1)).length) (few:(u net (net.length - 1)).length≤60) (low:∀ c∈ls,97≤c∧c < 123):Ok (run net (u net (net.length - 1)).length).2.1 ls:=by
  have li:(run net (u net (net.length - 1)).length).2.1.length=(u net (net.length - 1)).length:=(run_inv h _ (Nat.le_refl _)).1
  have pos:=u_pos h (net.length - 1)
  obtain ⟨a,_⟩:=run_tree h _ (Nat.le_refl _)
  refine ⟨by omega,by omega,by omega,?_,fun k k0 kl=>?_,low⟩
  · have e:=List.getElem?_eq_getElem (l:=(run net (u net (net.length - 1)).length).2.1) (i:=0) (by omega)
    rw [List.getD_eq_getElem?_getD,e]
    exact (a 0 _ e).1 rfl
  · have e:=List.getElem?_eq_getElem (l:=(run net (u net (net.length - 1)).length).2.1) (i:=k) (by omega)
    rw [List.getD_eq_getElem?_getD,e]
    exact (a k _ e).2 k0
end W50
namespace S50
open PySem L2 W7
theorem unf_ok {net:List Knot} (ok:NetOk net) (few:Ln net≤60):W50.Ok (Us net (Ln net)) (Ls net (Ln net)):=by
  refine W50.run_ok ok.net (Ls_len ok.net (Nat.le_refl _)) few fun c hc=>?_
  unfold Ls at hc
  obtain ⟨r,hr,rfl⟩:=List.mem_map.mp hc
  have e:Ks net (Ln net)=W47.u net (net.length - 1):=(W47.run_end ok.net).2
  rw [e] at hr
  have rl:=W47.last_lt ok.net ok.pos r hr
  have:net[r]?=some net[r]:=List.getElem?_eq_getElem rl
  unfold lt
  rw [List.getD_eq_getElem?_getD,this]
  exact ok.low _ (List.getElem_mem _)
structure Gu (us:List Int):Prop where
  root:us.getD 0 (-1)=-1
  up:∀ k,0 < k→k < us.length→0≤us.getD k (-1)∧us.getD k (-1) < (k:Int)
theorem gu_one:Gu [-1]:=⟨rfl,fun k k0 kl=>by have:k < 1:=kl;omega⟩
theorem Gu.snoc {us:List Int} {a:Nat} (g:Gu us) (h:a < us.length):Gu (us++[(a:Int)]):=by
  refine ⟨?_,fun k k0 kl=>?_⟩
  · have:=g.root
    rw [List.getD_eq_getElem?_getD,List.getElem?_append_left (by omega),← List.getD_eq_getElem?_getD];exact this
  · rw [List.length_append] at kl
    rw [List.getD_eq_getElem?_getD]
    by_cases c:k < us.length
    · rw [List.getElem?_append_left c,← List.getD_eq_getElem?_getD];exact g.up k k0 c
    · have e:k=us.length:=by have:k < us.length+1:=kl;omega
      rw [List.getElem?_append_right (by omega),e,Nat.sub_self]
      show 0≤(a:Int)∧(a:Int) < _
      omega
section
variable {P:Program} {w:World} {K:PySem.W.Frag} {mg:Str→Option Value} {base:Heap} {k:Nat}
def sp_tree:Sp:=fun vs H Q _=>∃ (p:Addr) (c:Int),vs=[.ref p]∧Deck H p c∧0≤c∧c < 100∧∀ (t:Addr) (us:List Int) (ls:List Nat) (H':Hp),Kd p (c+10000) H H'→Trr H' t us ls→W50.Ok us ls→Q (.ref t) H'
theorem has_tree (D:Df K mg "_law_tree" s_law_tree) (B:Blt7 mg) (G_law_draw:Has P w K mg base "_law_draw" k ["store", "many"] sp_draw) (G_law_net:Has P w K mg base "_law_net" k ["store", "most"] sp_net) (G_law_cut:Has P w K mg base "_law_cut" k ["net", "most"] sp_cut) (G_law_unfolded:Has P w K mg base "_law_unfolded" k ["net"] sp_unf) :
    Has P w K mg base "_law_tree" (k+1) ["store"] sp_tree:=by
  refine D.has sc_law_tree (fun _ _ _ _ _ _ us hl=>match us,hl with | [_],_=>rfl) (fun vs H Q E h=>by obtain ⟨p,c,rfl,_⟩:=h;rfl) (fun f cdv A outer s H vs Q E hr h=>?_)
  obtain ⟨p,c,rfl,hd,cc0,cc1,q⟩:=h
  refine ⟨_,(pss_cons (ps_set (i:=1) sc_law_tree.nd rfl (by first | exact Or.inl rfl | exact Or.inr rfl) (pe_callH G_law_draw hr rfl (pa_cons (pv 0) (pa_cons pe_int pa_nil))))
  (pss_cons (ps_set (i:=2) sc_law_tree.nd rfl (by first | exact Or.inl rfl | exact Or.inr rfl) (pe_ix ix_list (pe_lst (pa_cons (pe_op op_add pe_int (pe_callH G_law_draw hr rfl (pa_cons (pv 0) (pa_cons pe_int pa_nil)))) (pa_cons pe_int (pa_cons (pe_op op_add pe_int (pe_callH G_law_draw hr rfl (pa_cons (pv 0) (pa_cons pe_int pa_nil)))) pa_nil)))) (pe_callH G_law_draw hr rfl (pa_cons (pv 0) (pa_cons pe_int pa_nil))) (fun _ _=>rfl)))
  (pss_cons (ps_set (i:=3) sc_law_tree.nd rfl (by first | exact Or.inl rfl | exact Or.inr rfl) (pe_ix ix_list (pe_lst (pa_cons pe_str (pa_cons pe_str (pa_cons pe_str (pa_cons pe_str pa_nil))))) (pe_callH G_law_draw hr rfl (pa_cons (pv 0) (pa_cons pe_int pa_nil))) (fun _ _=>rfl)))
  (pss_cons (ps_if (pt_cmpR op_lt (pv 1) pe_int (nomark _))
  (pss_cons (ps_asg (pe_callH G_law_unfolded hr rfl (pa_cons (pe_callH G_law_cut hr rfl (pa_cons (pe_callH G_law_net hr rfl (pa_cons (pv 0) (pa_cons pe_int pa_nil))) (pa_cons pe_int pa_nil))) pa_nil)) (pg_lst rfl (pgs_cons (pg_name (i:=4) sc_law_tree.nd rfl (by first | exact Or.inl rfl | exact Or.inr rfl)) (pgs_cons (pg_name (i:=5) sc_law_tree.nd rfl (by first | exact Or.inl rfl | exact Or.inr rfl)) (pgs_cons (pg_name (i:=6) sc_law_tree.nd rfl (by first | exact Or.inl rfl | exact Or.inr rfl)) pgs_nil)))))
  (pss_one (ps_ret (pe_tup (pa_cons (pe_callTy call_tuple_of rfl B.tuple_ bt_tuple (pa_cons (pv 4) pa_nil)) (pa_cons (pe_bm PySem.F.plainAttrs_str PySem.F.slot_str_join PySem.F.type_str_join mt_join pe_str (pa_cons (pv 5) pa_nil)) pa_nil))))))
  pss_nil)
  (pss_cons (ps_set (i:=4) sc_law_tree.nd rfl (by first | exact Or.inl rfl | exact Or.inr rfl) (pe_lst (pa_cons (pe_un un_neg pe_int) pa_nil)))
  (pss_cons (ps_for PassesOwn.never rfl (pi_range2 rfl B.range (pa_cons pe_int (pa_cons (pv 2) pa_nil))) (pg_name (i:=7) sc_law_tree.nd rfl (by first | exact Or.inl rfl | exact Or.inr rfl))
  (pss_cons (ps_set (i:=8) sc_law_tree.nd rfl (by first | exact Or.inl rfl | exact Or.inr rfl) (pe_op op_sub (pv 7) pe_int))
  (pss_cons (ps_for PassesOwn.never rfl (pi_range1 rfl B.range (pa_cons (pe_op op_mul (pe_ix ix_list (pe_lst (pa_cons pe_int (pa_cons pe_int (pa_cons pe_int pa_nil)))) (pe_op op_sub (pv 1) pe_int) (fun _ _=>rfl)) (pe_callTy call_int1 rfl B.int_ bt_int (pa_cons (pe_cmpR op_gt (pe_callH G_law_draw hr rfl (pa_cons (pv 0) (pa_cons pe_int pa_nil))) pe_int (nomark _)) pa_nil))) pa_nil)) (pg_name (i:=9) sc_law_tree.nd rfl (by first | exact Or.inl rfl | exact Or.inr rfl))
  (pss_one (ps_set (i:=8) sc_law_tree.nd rfl (by first | exact Or.inl rfl | exact Or.inr rfl) (pe_ifExp (PW.pt (pw_and (pt_cmpR op_ge (pe_ix ix_list (pv 4) (pv 8) (fun _ _=>rfl)) pe_int (nomark _)) (pw_and1 (pt_cmpR op_gt (pe_callH G_law_draw hr rfl (pa_cons (pv 0) (pa_cons pe_int pa_nil))) pe_int (nomark _))))) (pe_ix ix_list (pv 4) (pv 8) (fun _ _=>rfl)) (pv 8)))))
  (pss_one (ps_expr (pe_bm PySem.F.plainAttrs_list PySem.F.slot_list_append PySem.F.type_list_append mt_append (pv 4) (pa_cons (pv 8) pa_nil)))))))
  (pss_one (ps_ret (pe_tup (pa_cons (pe_callTy call_tuple_of rfl B.tuple_ bt_tuple (pa_cons (pv 4) pa_nil)) (pa_cons (pe_bm PySem.F.plainAttrs_str PySem.F.slot_str_join PySem.F.type_str_join mt_join pe_str (pa_cons (pe_comp rfl (pi_range1 rfl B.range (pa_cons (pv 2) pa_nil)) (NL:=["k"]) (ix:=[3,0]) (csc (defScope s_law_tree) N_law_tree) (fun cl C s₃ H₃ fp pins=>⟨(pg_name (i:=0) (show List.Nodup (["k", "letters", "store"]:List Str) from by decide +kernel) rfl (by first | exact Or.inl rfl | exact Or.inr rfl)),pifs_nil,(pe_ix ix_str (pv 1) (pe_callH G_law_draw hr rfl (pa_cons (pv 2) (pa_cons (pe_callB call_len_str rfl B.len bt_len (pa_cons (pv 1) pa_nil)) pa_nil))) (fun _ _=>rfl))⟩)) pa_nil)) pa_nil))))))))))),?_⟩
  refine ⟨_,rfl,p,5,c,rfl,hd,by omega,by decide,by decide,fun way H1 w0 w1 kd1=>?_⟩
  refine ⟨_,rfl,p,60,_,rfl,kd1.deck,by omega,by decide,by decide,fun n1 H2 a0 a1 kd2=>?_⟩
  refine ⟨_,_,rfl,rfl,_,rfl,p,8,_,rfl,kd2.deck,by omega,by decide,by decide,fun n2 H3 b0 b1 kd3=>?_⟩
  refine ⟨_,_,rfl,rfl,(by show 3≤sizeLine;decide),fun r1 hr1=>?_⟩
  have kq3:=(((kd1.trans kd2).trans kd3).new (o:=.lst [.int (1+n1),.int 60,.int (1+n2)]) hr1)
  refine ⟨_,rfl,p,3,_,rfl,kq3.deck,by omega,by decide,by decide,fun n3 H4 d0 d1 kd4=>?_⟩
  have ku4:=kq3.trans kd4
  obtain ⟨many,hmany,mn1,mn60⟩:=menu (us:=[1+n1,60,1+n2]) (n:=n3) (lo:=1) (hi:=60) d0 d1 (by
    intro z hz
    simp only [List.mem_cons,List.not_mem_nil,or_false] at hz
    rcases hz with rfl | rfl | rfl <;> omega)
  refine ⟨r1,_,_,_,rfl,rfl,SqL.of (kd4.keep _ _ (kd3.deck.ne hr1) upd_same),hmany,?_⟩
  refine ⟨(by show 4≤sizeLine;decide),fun r2 hr2=>?_⟩
  have kq4:=ku4.new (o:=.lst [V.str (Str.ofString "abcdefghijklmnopqrstuvwxyz"),.str (Str.ofString "ab"),.str (Str.ofString "z"),.str (Str.ofString "abc")]) hr2
  refine ⟨_,rfl,p,4,_,rfl,kq4.deck,by omega,by decide,by decide,fun n4 H5 g0 g1 kd5=>?_⟩
  obtain ⟨L,hL,Ll,L0,L26⟩:=let4 g0 g1
  refine ⟨r2,_,_,_,rfl,rfl,SqL.of (kd5.keep _ _ (ku4.deck.ne hr2) upd_same),hL,?_⟩
  have ku5:=kq4.trans kd5
  refine ⟨_,rfl,_,_,rfl,rfl,_,rfl,ite2 (fun cnd=>?_) (fun cnd=>?_)⟩
  · refine ⟨_,rfl,p,_,rfl,ku5.deck,by omega,by omega,fun tn net H6 kd6 na ok=>?_⟩
    refine ⟨tn,net,60,rfl,na,ok,by decide,fun tc nt H7 s7 na7 ok7 sz7=>?_⟩
    have l6:Ln nt≤60:=by have:((Ln nt:Nat):Int)≤60:=sz7;omega
    have tok:=unf_ok ok7 l6
    refine ⟨tc,nt,rfl,na7,ok7,by omega,fun r2 a b cc H8 s8 h1 h2 h3 h4=>?_⟩
    refine ⟨r2,_,rfl,SqL.of h1,rfl,_,_,rfl,_,_,rfl,_,_,rfl,rfl,?_⟩
    have ll:=Ls_len ok7.net (Nat.le_refl (Ln nt))
    refine ⟨_,rfl,a,_,rfl,.inl ⟨SqL.of h2,fun ru hru=>?_⟩⟩
    have s5:Same H8 (upd H8 ru (.tup ((Us nt (Ln nt)).map V.int))):=(Same.refl H8).new hru
    have h5:upd H8 ru (.tup ((Us nt (Ln nt)).map V.int)) ru=some (.tup ((Us nt (Ln nt)).map V.int)):=upd_same
    generalize upd H8 ru (.tup ((Us nt (Ln nt)).map V.int))=HY at s5 h5
    have ho:oneV (Ls nt (Ln nt))=((Ls nt (Ln nt)).map fun c=>(⟨#[c]⟩:Str)).map V.str:=by unfold oneV;rw [List.map_map];rfl
    rw [ho] at h3
    refine ⟨rfl,_,rfl,_,b,_,rfl,rfl,SqL.of (s5 _ _ h3),?_,?_⟩
    · rw [ones_sum,List.length_map]
      show (Ls nt (Ln nt)).length+(Ls nt (Ln nt)).length * 0≤_
      rw [ll];exact Nat.le_of_lt (small1000 (by omega))
    refine ⟨(by show 2≤sizeLine;decide),fun t3 ht3=>?_⟩
    rw [join_mk]
    have s6:Same HY (upd HY t3 (.tup [.ref ru,.str (mk (Ls nt (Ln nt)))])):=(Same.refl HY).new ht3
    exact q t3 (Us nt (Ln nt)) (Ls nt (Ln nt)) _ (((ku5.trans kd6).same (((s7.trans s8).trans s5).trans s6)).mono (by omega)) ⟨ru,upd_same,s6 _ _ h5⟩ tok
  refine ⟨_,rfl,(by show 1≤sizeLine;decide),fun u hu0=>?_⟩
  have hup:u≠p:=ku5.deck.ne hu0
  have hHu:H u=none:=ku5.fresh hu0
  have kuu:=ku5.new (o:=.lst [.int (-1)]) hu0
  have huu:upd H5 u (.lst [.int (-1)]) u=some (.lst [.int (-1)]):=upd_same
  show (fun HH=>_) (upd H5 u (.lst [.int (-1)]))
  generalize upd H5 u (.lst [.int (-1)])=H6 at kuu huu
  have w2:2≤way:=by
    have:¬ way < 2:=fun z=>cnd (decide_eq_true z)
    omega
  refine ⟨_,rfl,1,many,rfl,⟨by decide,by decide,by omega,by omega⟩,?_⟩
  refine for_range (lo:=1) (n:=(many - 1).toNat) (fun i σ HX=>∃ (us:List Int) (o7 o8 o9:Option V),σ=[some (.ref p),some (.int way),some (.int many),some (.str L),some (.ref u),none,none,o7,o8,o9]∧Kd p (c+10+62 * i) H HX∧HX u=some (.lst (us.map V.int))∧us.length=i+1∧Gu us)
    ⟨[-1],none,none,none,rfl,kuu.mono (by omega),huu,rfl,gu_one⟩ ?_ ?_
  · rintro i σ HX hi ⟨us,o7,o8,o9,rfl,kdX,huX,ul,gu⟩
    have i59:i < 59:=by omega
    refine ⟨_,rfl,_,_,rfl,rfl,?_⟩
    refine ⟨(by show 3≤sizeLine;decide),fun r3 hr3=>?_⟩
    have kd3:=kdX.new (o:=.lst [.int 1,.int 3,.int 60]) hr3
    have at3:upd HX r3 (.lst [.int 1,.int 3,.int 60]) r3=some (.lst [.int 1,.int 3,.int 60]):=upd_same
    have hu3:upd HX r3 (.lst [.int 1,.int 3,.int 60]) u=some (.lst (us.map V.int)):=by rw [upd_ne (ne_of_none huX hr3)];exact huX
    show (fun HH=>_) (upd HX r3 (.lst [.int 1,.int 3,.int 60]))
    generalize upd HX r3 (.lst [.int 1,.int 3,.int 60])=H7 at kd3 at3 hu3
    obtain ⟨v,hv,v1,v60⟩:=menu (us:=[1,3,60]) (n:=way - 2) (lo:=1) (hi:=60) (by omega) (by show way - 2 < 3;omega) (by
      intro z hz
      simp only [List.mem_cons,List.not_mem_nil,or_false] at hz
      rcases hz with rfl | rfl | rfl <;> omega)
    refine ⟨_,rfl,_,_,rfl,rfl,r3,_,_,_,rfl,rfl,SqL.of at3,hv,?_⟩
    refine ⟨_,rfl,p,3,_,rfl,kd3.deck,by omega,by decide,by decide,fun n5 H8 x0 x1 kd8=>?_⟩
    have kd9:=kd3.trans kd8
    have hu8:=kd8.keep _ _ hup hu3
    refine ⟨_,_,rfl,rfl,.inr ⟨_,rfl,?_⟩⟩
    obtain ⟨e,he,e01⟩:∃ e:Int,(if decide (0 < n5)=true then (1:Int) else 0)=e∧(e=0∨e=1):=by
      by_cases z:decide (0 < n5)=true
      · exact ⟨1,if_pos z,.inr rfl⟩
      · exact ⟨0,if_neg z,.inl rfl⟩
    refine ⟨v,e,rfl,by rw [he],?_,?_⟩
    · rcases e01 with rfl | rfl <;> exact .inl ⟨by omega,by omega⟩
    have m0:0≤v * e:=by rcases e01 with rfl | rfl <;> omega
    have m60:v * e≤60:=by rcases e01 with rfl | rfl <;> omega
    refine ⟨v * e,rfl,by omega,by omega,?_⟩
    refine for_range (lo:=0) (n:=(v * e).toNat) (fun j σ HY=>∃ (a:Int) (o9:Option V),σ=[some (.ref p),some (.int way),some (.int many),some (.str L),some (.ref u),none,none,some (.int (1+(i:Int))),some (.int a),o9]∧0≤a∧a≤(i:Int)∧Kd p (c+10+62 * i+1+j) H HY∧HY u=some (.lst (us.map V.int)))
      ⟨1+(i:Int) - 1,o9,rfl,by omega,by omega,kd9.mono (by omega),hu8⟩ ?_ ?_
    · rintro j σ HY hj ⟨a,o9',rfl,a0,ai,kdY,huY⟩
      obtain ⟨b,rfl⟩:∃ b:Nat,a=(b:Int):=⟨a.toNat,by omega⟩
      have hat:=up_at (us:=us) (p:=b) (by omega)
      refine ⟨_,rfl,_,rfl,u,_,_,_,rfl,rfl,SqL.of huY,hat,_,_,rfl,rfl,_,rfl,ite2 (fun c1=>?_) (fun c1=>?_)⟩
      · have ge:=of_decide_eq_true c1
        refine ⟨_,rfl,p,4,_,rfl,kdY.deck,by omega,by decide,by decide,fun n6 H9 y0 y1 kdZ=>?_⟩
        have huZ:=kdZ.keep _ _ hup huY
        refine ⟨_,_,rfl,rfl,_,rfl,ite2 (fun c2=>?_) (fun c2=>?_)⟩
        · refine ⟨_,rfl,_,rfl,u,_,_,_,rfl,rfl,SqL.of huZ,hat,?_⟩
          have lt:us.getD b (-1) < (b:Int)∨b=0:=by
            rcases Nat.eq_zero_or_pos b with z | z
            · exact .inr z
            · exact .inl (gu.up b z (by omega)).2
          refine ⟨us.getD b (-1),_,rfl,ge,?_,(kdY.trans kdZ).mono (by omega),huZ⟩
          rcases lt with l | l
          · omega
          · have:=gu.root;rw [l] at ge ⊢;omega
        · exact ⟨_,rfl,b,_,rfl,a0,ai,(kdY.trans kdZ).mono (by omega),huZ⟩
      · exact ⟨_,rfl,b,_,rfl,a0,ai,kdY.mono (by omega),huY⟩
    · rintro σ HY ⟨a,o9',rfl,a0,ai,kdY,huY⟩
      obtain ⟨b,rfl⟩:∃ b:Nat,a=(b:Int):=⟨a.toNat,by omega⟩
      refine ⟨_,rfl,.inl ⟨rfl,_,SqL.of huY⟩,_,rfl,u,_,_,rfl,rfl,huY,by rw [List.length_map];exact small1000 (by omega),?_⟩
      refine ⟨us++[(b:Int)],_,_,_,rfl,(kdY.mono (by omega)).write hHu hup,?_,by rw [List.length_append];show us.length+1=_;omega,gu.snoc (by omega)⟩
      rw [upd_same,List.map_append];rfl
  · rintro σ HX ⟨us,o7,o8,o9,rfl,kdX,huX,ul,gu⟩
    have um:us.length=many.toNat:=by omega
    refine ⟨_,rfl,u,_,rfl,.inl ⟨SqL.of huX,fun ru hru=>?_⟩⟩
    have kd5':=kdX.new (o:=.tup (us.map V.int)) hru
    have h5:upd HX ru (.tup (us.map V.int)) ru=some (.tup (us.map V.int)):=upd_same
    show (fun HH=>_) (upd HX ru (.tup (us.map V.int)))
    generalize upd HX ru (.tup (us.map V.int))=HY at kd5' h5
    have hrp:ru≠p:=kdX.deck.ne hru
    refine ⟨rfl,_,rfl,many,rfl,by omega,by omega,fun acc hacc=>?_⟩
    refine comp_by many.toNat (by omega) (fun j ys HZ=>∃ cs:List Nat,HZ acc=some (.lst ys)∧ys=oneV cs∧cs.length=j∧(∀ x∈cs,Lw x)∧Kd p (c+10+62 * 60+j) H HZ∧HZ ru=some (.tup (us.map V.int)))
      (fun j ys HZ h=>by obtain ⟨cs,h1,rfl,h2,_⟩:=h;exact ⟨h1,by rw [oneV_len];omega⟩) ⟨[],upd_same,rfl,rfl,(fun x hx=>by cases hx),(kd5'.new hacc).mono (by omega),by rw [upd_ne (ne_of_none h5 hacc)];exact h5⟩ ?_ ?_
    · rintro ys HZ ⟨cs,g1,rfl,g2,g3,g4,g5⟩
      have ho:oneV cs=(cs.map fun c=>(⟨#[c]⟩:Str)).map V.str:=by unfold oneV;rw [List.map_map];rfl
      rw [ho] at g1
      refine ⟨Nat.le_refl _,_,acc,_,rfl,rfl,SqL.of g1,?_,?_⟩
      · rw [ones_sum,List.length_map]
        show cs.length+cs.length * 0≤_
        omega
      refine ⟨(by show 2≤sizeLine;decide),fun t3 ht3=>?_⟩
      rw [join_mk]
      have s6:Same HZ (upd HZ t3 (.tup [.ref ru,.str (mk cs)])):=(Same.refl HZ).new ht3
      exact q t3 us cs _ ((g4.new ht3).mono (by omega)) ⟨ru,upd_same,s6 _ _ g5⟩ ⟨by omega,by omega,by omega,gu.root,gu.up,g3⟩
    · rintro j ys HZ hj ⟨cs,g1,rfl,g2,g3,g4,g5⟩
      refine ⟨hj,?_⟩
      rintro x H'' ⟨rfl,rfl⟩
      refine ⟨rfl,?_⟩
      refine ⟨_,rfl,_,rfl,_,rfl,_,rfl,by exact Nat.le_of_lt (small1000 (by omega)),p,_,_,rfl,g4.deck,by omega,by omega,by omega,fun n G p0 p1 e2=>?_⟩
      obtain ⟨ch,hch,chl⟩:=str_at Ll p0 p1
      refine ⟨_,_,_,rfl,rfl,by exact Nat.le_of_lt (small1000 (by omega)),hch,?_⟩
      have hap:acc≠p:=kd5'.deck.ne hacc
      have ga:=e2.keep _ _ hap g1
      refine ⟨ga,cs++[ch],upd_same,by unfold oneV;rw [List.map_append];rfl,by rw [List.length_append,g2];rfl,fun z hz=>?_,?_,?_⟩
      · rcases List.mem_append.mp hz with hz | hz
        · exact g3 z hz
        · rw [List.mem_singleton.mp hz];exact chl
      · exact ((g4.trans e2).mono (by omega)).write (kd5'.fresh hacc) hap
      · rw [upd_ne (ne_of_none h5 hacc)];exact e2.keep _ _ hrp g5
end
end S50
namespace S50
open PySem L2 W7
def flds (d:Addr):List (Str × V):=putF "known" (.ref d) []
theorem f_known {d:Addr}:(flds d).lookup ("known" : Str)=some (.ref d):=by
  unfold flds
  rw [lookup_putF,if_pos rfl]
theorem f_no {d:Addr} {m:Str} (h1:¬ m = "known"):(flds d).lookup m=none:=by
  unfold flds
  rw [lookup_putF,if_neg h1]
  rfl
structure Tx (K:PySem.W.Frag) (mg:Str→Option Value) (C:Addr):Prop where
  cl:Cls K C
  nK:NoAttr K C "known"
  mgC:mg "Folding" = some (.ref C)
abbrev NX:=L2N.NX
structure FoAt (P:Program) (w:World) (C:Addr) (H:Hp) (p dx d:Addr) (xs:NX):Prop where
  ob:H p=some (.ins C dx (flds d))
  hd:H d=some (L2N.nestO P w d xs)
  at':∀ x∈xs,L2N.NKat H x.2.1 x.1
  pd:p≠d
section
variable {P:Program} {w:World} {K:PySem.W.Frag} {mg:Str→Option Value} {base:Heap} {k:Nat} {C f:Addr} {fd:FuncData}
theorem FoAt.same {H H':Hp} {p dx d:Addr} {xs:NX} (h:FoAt P w C H p dx d xs) (s:Same H H'):FoAt P w C H' p dx d xs:=⟨s _ _ h.ob,s _ _ h.hd,fun x hx=>(h.at' x hx).tups fun _ _=>s _ _,h.pd⟩
def sp_init (P:Program) (w:World) (C:Addr):Sp:=fun vs H Q _=>∃ (p dx:Addr),vs=[.ref p]∧H p=some (.ins C dx [])∧∀ (d:Addr) (H':Hp),H d=none→FoAt P w C H' p dx d []→(∀ b o,H b=some o→b≠p→H' b=some o)→Q .non H'
def keyN (c:Nat) (ns:List Nat):L2N.NK:=(⟨#[c]⟩,ns.map fun i:Nat=>(i:Int))
def asked (xs:NX) (k:L2N.NK) (b:Addr):NX:=match L2N.lookN xs k with | some _=>xs | none=>xs++[(k,b,(xs.length:Int))]
def numN (xs:NX) (k:L2N.NK):Int:=(L2N.lookN xs k).getD (xs.length:Int)
def sp_knot (P:Program) (w:World) (C:Addr):Sp:=fun vs H Q _=>∃ (p dx d:Addr) (xs:NX) (c:Nat) (b:Addr) (ns:List Nat),vs=[.ref p,.str ⟨#[c]⟩,.ref b]∧FoAt P w C H p dx d xs∧H b=some (.tup (natV ns))∧xs.length < 1000 ∧
  ∀ (a:Addr) (H':Hp),FoAt P w C H' p dx d (asked xs (keyN c ns) a)→(∀ e o,H e=some o→e≠d→H' e=some o)→Q (.int (numN xs (keyN c ns))) H'
def sp_tell (P:Program) (w:World) (C:Addr):Sp:=fun vs H Q _=>∃ (p dx d:Addr) (xs:NX),vs=[.ref p]∧FoAt P w C H p dx d xs∧∀ l,H l=none→Q (.ref l) (upd H l (.tup (xs.map fun x=>V.ref x.2.1)))
theorem ok_init (F:Fun K "__init__" "Folding.__init__" s_Folding___init__ f fd) (T:Tx K mg C):FnOk P w K mg base CX0 (k+1) f fd ["self"] (sp_init P w C):=by
  refine F.ok sc_Folding___init__ (fun vs H Q E h=>by obtain ⟨p,dx,rfl,_⟩:=h;rfl) (fun cdv A outer s H vs Q E hr h=>?_)
  obtain ⟨p,dx,rfl,hp,q⟩:=h
  refine ⟨_,(pss_one (ps_fld (pv 0) (L2N.pe_dnewN) rfl)),?_⟩
  refine fun u hu=>?_
  have pu:p≠u:=ne_of_none hp hu
  refine ⟨_,rfl,p,C,dx,[],rfl,(by rw [upd_ne pu];exact hp),T.cl,T.nK,(by show 0 < 1000;decide),?_⟩
  refine q u _ hu ⟨upd_same,(by rw [upd_ne pu.symm,upd_same];rfl),fun x hx=>(by cases hx),pu⟩ fun b o e hb=>?_
  rw [upd_ne hb,upd_ne (ne_of_none e hu)];exact e
theorem ok_knot (F:Fun K "knot_for" "Folding.knot_for" s_Folding_knot_for f fd) (T:Tx K mg C) (B:Blt7 mg):FnOk P w K mg base CX0 (k+1) f fd ["self", "letter", "beneath"] (sp_knot P w C):=by
  refine F.ok sc_Folding_knot_for (fun vs H Q E h=>by obtain ⟨p,dx,d,xs,c,b,ns,rfl,_⟩:=h;rfl) (fun cdv A outer s H vs Q E hr h=>?_)
  obtain ⟨p,dx,d,xs,c,b,ns,rfl,S,hb,hl,q⟩:=h
  refine ⟨_,(pss_one (ps_ret (L2N.pe_setdN hr.units (pe_fld (pv 0) rfl) (pe_tup (pa_cons (pv 1) (pa_cons (pv 2) pa_nil))) (pe_callB L2N.call_len_nest rfl B.len bt_len (pa_cons (pe_fld (pv 0) rfl) pa_nil)) ⟨rfl,rfl,rfl,rfl⟩))),?_⟩
  refine ⟨_,rfl,p,C,dx,_,_,rfl,S.ob,T.cl,T.nK,f_known,d,rfl,⟨xs,S.hd⟩,?_⟩
  refine ⟨_,rfl,_,rfl,(by show 2≤sizeLine;decide),fun a ha=>?_⟩
  have s1:Same H (upd H a (.tup [.str ⟨#[c]⟩,.ref b])):=(Same.refl H).new ha
  have h1:upd H a (.tup [.str ⟨#[c]⟩,.ref b]) a=some (.tup [.str ⟨#[c]⟩,.ref b]):=upd_same
  generalize upd H a (.tup [.str ⟨#[c]⟩,.ref b])=H1 at s1 h1
  have S1:=S.same s1
  have nk:L2N.NKat H1 a (keyN c ns):=⟨b,h1,by have:=s1 _ _ hb;rw [this];unfold keyN natV;rw [List.map_map];rfl⟩
  have da:a≠d:=fun e=>by have:=S.hd;rw [← e,ha] at this;cases this
  refine ⟨_,rfl,p,C,dx,_,_,rfl,S1.ob,T.cl,T.nK,f_known,d,xs,rfl,S1.hd,?_⟩
  refine ⟨xs,a,keyN c ns,(xs.length:Int),S1.hd,rfl,nk,S1.at',rfl,hl,fun i hi=>?_,fun hn=>?_⟩
  · have e1:numN xs (keyN c ns)=i:=by unfold numN;rw [hi];rfl
    have e2:asked xs (keyN c ns) a=xs:=by unfold asked;rw [hi]
    have q:=q a H1
    rw [e1,e2] at q
    exact q S1 fun e o he hd=>s1 _ _ he
  · have e1:numN xs (keyN c ns)=(xs.length:Int):=by unfold numN;rw [hn];rfl
    have e2:asked xs (keyN c ns) a=xs++[(keyN c ns,a,(xs.length:Int))]:=by unfold asked;rw [hn]
    have q:=q a (upd H1 d (L2N.nestO P w d (xs++[(keyN c ns,a,(xs.length:Int))])))
    rw [e1,e2] at q
    have tups:∀ b ys,H1 b=some (.tup ys)→upd H1 d (L2N.nestO P w d (xs++[(keyN c ns,a,(xs.length:Int))])) b=some (.tup ys):=fun b ys e=>by
      rw [upd_ne (fun z=>by rw [z,S1.hd] at e;cases e)];exact e
    refine q ⟨by rw [upd_ne S1.pd];exact S1.ob,upd_same,fun x hx=>?_,S1.pd⟩ fun e o he hd=>by rw [upd_ne hd];exact s1 _ _ he
    rcases List.mem_append.mp hx with hx | hx
    · exact (S1.at' x hx).tups tups
    · rw [List.mem_singleton.mp hx];exact nk.tups tups
theorem ok_tell (F:Fun K "told_knots" "Folding.told_knots" s_Folding_told_knots f fd) (T:Tx K mg C) (B:Blt7 mg):FnOk P w K mg base CX0 (k+1) f fd ["self"] (sp_tell P w C):=by
  refine F.ok sc_Folding_told_knots (fun vs H Q E h=>by obtain ⟨p,dx,d,xs,rfl,_⟩:=h;rfl) (fun cdv A outer s H vs Q E hr h=>?_)
  obtain ⟨p,dx,d,xs,rfl,S,q⟩:=h
  refine ⟨_,(pss_one (ps_ret (pe_callTy (L2N.call_tuple_nest rfl) rfl B.tuple_ bt_tuple (pa_cons (pe_fld (pv 0) rfl) pa_nil)))),?_⟩
  exact ⟨_,rfl,p,C,dx,_,_,rfl,S.ob,T.cl,T.nK,f_known,d,xs,rfl,S.hd,q⟩
end
end S50
namespace S50
open PySem L2 W7
def kN (us:List Int) (ls:List Nat) (p:Nat):L2N.NK:=keyN (W50.lt ls p) ((W50.kids us 0 p).map (W50.num us ls))
theorem kN_iff {us:List Int} {ls:List Nat} (ok:W50.Ok us ls) {p r:Nat} (hp:p < us.length) (hr:r < us.length):kN us ls p=kN us ls r ↔ W50.tx us ls p=W50.tx us ls r:=by
  rw [← W50.key_iff ok hp hr]
  unfold kN keyN W50.key
  rw [Prod.mk.injEq,Prod.mk.injEq]
  constructor
  · rintro ⟨a,b⟩
    refine ⟨?_,?_⟩
    · injection a with a;injection a with a;injection a
    · refine List.map_inj_right (f:=fun i:Nat=>(i:Int)) (fun x y h=>by omega) |>.mp b
  · rintro ⟨a,b⟩
    exact ⟨by rw [a],by rw [b]⟩
def Par (us:List Int) (ls:List Nat):NX→List Nat→Nat→Prop
  | [],[],_=>True
  | x :: xs,r :: rs,m=>x.1=kN us ls r∧x.2.2=(m:Int)∧r < us.length∧Par us ls xs rs (m+1)
  | _,_,_=>False
theorem Par.len {us:List Int} {ls:List Nat}:∀ {xs:NX} {rs:List Nat} {m:Nat},Par us ls xs rs m→xs.length=rs.length
  | [],[],_,_=>rfl
  | [],_ :: _,_,h=>h.elim
  | _ :: _,[],_,h=>h.elim
  | _ :: _,_ :: _,_,h=>congrArg (·+1) h.2.2.2.len
theorem Par.snoc {us:List Int} {ls:List Nat} {x:L2N.NK × Addr × Int} {r:Nat}:∀ {xs:NX} {rs:List Nat} {m:Nat},Par us ls xs rs m→x.1=kN us ls r→x.2.2=((m+rs.length:Nat):Int)→r < us.length→Par us ls (xs++[x]) (rs++[r]) m
  | [],[],m,_,a,b,c=>⟨a,by simpa using b,c,True.intro⟩
  | [],_ :: _,_,h,_,_,_=>h.elim
  | _ :: _,[],_,h,_,_,_=>h.elim
  | y :: ys,s :: rs,m,h,a,b,c=>⟨h.1,h.2.1,h.2.2.1,h.2.2.2.snoc a (by rw [b];simp only [List.length_cons];congr 1;omega) c⟩
theorem Par.look {us:List Int} {ls:List Nat} (ok:W50.Ok us ls) {p:Nat} (hp:p < us.length):∀ {xs:NX} {rs:List Nat} {m:Nat},Par us ls xs rs m →
    L2N.lookN xs (kN us ls p)=if W50.tx us ls p∈rs.map (W50.tx us ls) then some (((m+(rs.map (W50.tx us ls)).idxOf (W50.tx us ls p):Nat)):Int) else none
  | [],[],m,_=>by simp [L2N.lookN]
  | [],_ :: _,_,h=>h.elim
  | _ :: _,[],_,h=>h.elim
  | x :: xs,r :: rs,m,h=>by
    obtain ⟨e1,e2,hr,h⟩:=h
    have ih:=h.look ok hp
    have ki:=kN_iff ok hp hr
    unfold L2N.lookN at ih ⊢
    rw [List.find?_cons,List.map_cons,e1]
    by_cases c:W50.tx us ls p=W50.tx us ls r
    · have c':=ki.mpr c
      rw [decide_eq_true c'.symm,if_pos (by rw [c];exact List.mem_cons_self),c,List.idxOf_cons_self]
      show some x.2.2=_
      rw [e2];rfl
    · have c':¬ kN us ls r=kN us ls p:=fun z=>c (ki.mp z.symm)
      rw [decide_eq_false c',ih]
      by_cases mm:W50.tx us ls p∈rs.map (W50.tx us ls)
      · rw [if_pos mm,if_pos (List.mem_cons_of_mem _ mm),show (W50.tx us ls r :: rs.map (W50.tx us ls)).idxOf (W50.tx us ls p)=(rs.map (W50.tx us ls)).idxOf (W50.tx us ls p)+1 from by rw [List.idxOf_cons,show (W50.tx us ls r == W50.tx us ls p)=false from beq_eq_false_iff_ne.mpr fun z=>c z.symm];rfl]
        congr 1;congr 1;omega
      · rw [if_neg mm,if_neg (fun z=>by rcases List.mem_cons.mp z with z | z;exact c z;exact mm z)]
theorem Par.step {us:List Int} {ls:List Nat} (ok:W50.Ok us ls) {i:Nat} (hi:i < us.length) {xs:NX} (h:Par us ls xs (W50.R us ls i) 0) (a:Addr) :
    numN xs (kN us ls (us.length - 1 - i))=((W50.num us ls (us.length - 1 - i):Nat):Int)∧Par us ls (asked xs (kN us ls (us.length - 1 - i)) a) (W50.R us ls (i+1)) 0:=by
  have lk:=h.look ok (p:=us.length - 1 - i) (by omega)
  have len:=h.len
  unfold numN asked
  by_cases c:W50.tx us ls (us.length - 1 - i)∈(W50.R us ls i).map (W50.tx us ls)
  · rw [if_pos c] at lk
    rw [lk]
    refine ⟨?_,?_⟩
    · show (((0+_:Nat)):Int)=_
      rw [Nat.zero_add,W50.num_at (i:=i) (by omega) c];rfl
    · show Par us ls xs (W50.R us ls (i+1)) 0
      unfold W50.R;rw [if_pos c];exact h
  · rw [if_neg c] at lk
    rw [lk]
    refine ⟨?_,?_⟩
    · show ((xs.length:Nat):Int)=_
      rw [W50.num_new hi c,len]
    · show Par us ls (xs++[_]) (W50.R us ls (i+1)) 0
      unfold W50.R;rw [if_neg c]
      exact h.snoc rfl (by show ((xs.length:Nat):Int)=_;rw [len,Nat.zero_add]) (by omega)
def nV (us:List Int) (ls:List Nat) (i:Nat):List V:=(List.range us.length).map fun x=>if us.length - i≤x then V.int ((W50.num us ls x:Nat):Int) else V.non
theorem nV_len (us:List Int) (ls:List Nat) (i:Nat):(nV us ls i).length=us.length:=by unfold nV;simp
theorem nV_zero (us:List Int) (ls:List Nat):nV us ls 0=List.replicate us.length V.non:=by
  refine List.ext_getElem (by rw [nV_len];simp) fun j h1 h2=>?_
  have hj:j < us.length:=by rw [nV_len] at h1;exact h1
  simp [nV]
  omega
theorem nV_step {us:List Int} {ls:List Nat} {i:Nat} (hi:i < us.length):(nV us ls i).set (us.length - 1 - i) (.int ((W50.num us ls (us.length - 1 - i):Nat):Int))=nV us ls (i+1):=by
  refine List.ext_getElem (by rw [List.length_set,nV_len,nV_len]) fun j h1 h2=>?_
  have hj:j < us.length:=by rw [nV_len] at h2;exact h2
  rw [List.getElem_set]
  simp only [nV,List.getElem_map,List.getElem_range]
  by_cases e:us.length - 1 - i=j
  · rw [if_pos e,if_pos (by omega),e]
  · rw [if_neg e]
    by_cases c:us.length - i≤j
    · rw [if_pos c,if_pos (by omega)]
    · rw [if_neg c,if_neg (by omega)]
theorem nV_at {us:List Int} {ls:List Nat} {i x:Nat} (h:us.length - i≤x) (hx:x < us.length):atI (nV us ls i) (x:Int)=some (.int ((W50.num us ls x:Nat):Int)):=by
  refine atI_nat (xs:=nV us ls i) (j:=x) ?_
  unfold nV
  rw [List.getElem?_map,List.getElem?_range hx]
  show some (if us.length - i≤x then _ else _)=_
  rw [if_pos h]
theorem nV_all (us:List Int) (ls:List Nat):nV us ls us.length=natV ((List.range us.length).map (W50.num us ls)):=by
  refine List.ext_getElem (by unfold natV;rw [nV_len];simp) fun j h1 h2=>?_
  simp [nV,natV]
theorem FoAt.lists {P:Program} {w:World} {C:Addr} {H H':Hp} {p dx d:Addr} {xs:NX} (h:FoAt P w C H p dx d xs) (k:∀ e o,H e=some o→(∀ ys,o≠.lst ys)→H' e=some o):FoAt P w C H' p dx d xs:=
  ⟨k _ _ h.ob (fun _ z=>by cases z),k _ _ h.hd (fun _ z=>by cases z),fun x hx=>(h.at' x hx).tups fun _ _ e=>k _ _ e (fun _ z=>by cases z),h.pd⟩
section
variable {P:Program} {w:World} {K:PySem.W.Frag} {mg:Str→Option Value} {base:Heap} {k:Nat}
def sp_fold (P:Program) (w:World) (C:Addr):Sp:=fun vs H Q _=>∃ (x dx d t:Addr) (us:List Int) (ls:List Nat),vs=[.ref x,.ref t]∧FoAt P w C H x dx d []∧Trr H t us ls∧W50.Ok us ls ∧
  ∀ (r:Addr) (xs:NX) (H':Hp),FoAt P w C H' x dx d xs→Par us ls xs (W50.R us ls us.length) 0→(∀ e o,H e=some o→e≠d→H' e=some o)→H r=none→H' r=some (.lst (natV ((List.range us.length).map (W50.num us ls))))→Q (.ref r) H'
theorem has_fold {C fK:Addr} {dK:FuncData} (D:Df K mg "fold_tree" s_fold_tree) (B:Blt7 mg) (T:Tx K mg C) (m_Folding_knot_for:Meth K C "knot_for" fK) (F_K:Fun K "knot_for" "Folding.knot_for" s_Folding_knot_for fK dK)
    (G_beneath_of:Has P w K mg base "beneath_of" (k+1) ["tree", "place"] sp_ben):Has P w K mg base "fold_tree" (k+1+1) ["folding", "tree"] (sp_fold P w C):=by
  have G_Folding_knot_for:FnOk P w K mg base CX0 (k+1) fK dK ["self", "letter", "beneath"] (sp_knot P w C):=ok_knot F_K T B
  have b_Folding_knot_for:=F_K.binds (ps:=["self", "letter", "beneath"]) (fun _ _ _ _ _ _ us hl=>match us,hl with | [_,_,_],_=>rfl)
  refine D.has sc_fold_tree (fun _ _ _ _ _ _ us hl=>match us,hl with | [_,_],_=>rfl) (fun vs H Q E h=>by obtain ⟨x,dx,d,t,us,ls,rfl,_⟩:=h;rfl) (fun f cdv A outer s H vs Q E hr h=>?_)
  obtain ⟨x,dx,d,t,us,ls,rfl,S,tr,ok,q⟩:=h
  refine ⟨_,(pss_cons (ps_set (i:=2) sc_fold_tree.nd rfl (by first | exact Or.inl rfl | exact Or.inr rfl) (pe_op op_rep (pe_lst (pa_cons pe_non pa_nil)) (pe_callB call_len_str rfl B.len bt_len (pa_cons (pe_ix ix_tup (pv 1) pe_int (fun _ _=>rfl)) pa_nil))))
  (pss_cons (ps_for PassesOwn.never rfl (pi_down rfl B.range (pa_cons (pe_op op_sub (pe_callB call_len_str rfl B.len bt_len (pa_cons (pe_ix ix_tup (pv 1) pe_int (fun _ _=>rfl)) pa_nil)) pe_int) (pa_cons (pe_un un_neg pe_int) (pa_cons (pe_un un_neg pe_int) pa_nil)))) (pg_name (i:=3) sc_fold_tree.nd rfl (by first | exact Or.inl rfl | exact Or.inr rfl))
  (pss_cons (ps_set (i:=4) sc_fold_tree.nd rfl (by first | exact Or.inl rfl | exact Or.inr rfl) (pe_callTy call_tuple_of rfl B.tuple_ bt_tuple (pa_cons (pe_comp rfl (pi_list (pe_callH G_beneath_of hr rfl (pa_cons (pv 1) (pa_cons (pv 3) pa_nil)))) (NL:=["lower"]) (ix:=[2]) (csc (defScope s_fold_tree) N_fold_tree) (fun cl C s₃ H₃ fp pins=>⟨(pg_name (i:=0) (show List.Nodup (["lower", "numbers"]:List Str) from by decide +kernel) rfl (by first | exact Or.inl rfl | exact Or.inr rfl)),pifs_nil,(pe_ix (ix_listK K) (pv 1) (pv 0) (fun _ _=>rfl))⟩)) pa_nil)))
  (pss_one (ps_asg (pe_meth (pv 0) T.cl m_Folding_knot_for G_Folding_knot_for hr b_Folding_knot_for .nil pass0 (pa_cons (pe_ix ix_str (pe_ix ix_tup (pv 1) pe_int (fun _ _=>rfl)) (pv 3) (fun _ _=>rfl)) (pa_cons (pv 4) pa_nil))) (pg_sub (pv 2) (pv 3) set_list)))))
  (pss_one (ps_ret (pv 2))))),?_⟩
  obtain ⟨u,ht,hu⟩:=id tr
  have m60:=ok.most
  have pos:=ok.pos
  have ll:=ok.len
  have ml:(mk ls).length=us.length:=ll
  refine ⟨(by show 1≤sizeLine;decide),fun r0 hr0=>?_⟩
  have s0:Same H (upd H r0 (.lst [.non])):=(Same.refl H).new hr0
  have h0:upd H r0 (.lst [.non]) r0=some (.lst [.non]):=upd_same
  show (fun HH=>_) (upd H r0 (.lst [.non]))
  generalize upd H r0 (.lst [.non])=H0 at s0 h0
  refine ⟨_,rfl,t,_,_,_,rfl,rfl,SqT.of (s0 _ _ ht),rfl,_,rfl,by rw [ml];exact Nat.le_of_lt (small1000 (by omega)),?_⟩
  rw [ml]
  refine ⟨r0,_,_,rfl,rfl,h0,by omega,by omega,?_,fun r hr1=>?_⟩
  · show 1 * _≤_;rw [Int.toNat_natCast];exact Nat.le_of_lt (small1000 (by omega))
  have fr:H r=none:=s0.free hr1
  have s1:Same H (upd H0 r (.lst (List.replicate ((us.length:Nat):Int).toNat [V.non]).flatten)):=s0.new hr1
  have h1:upd H0 r (.lst (List.replicate ((us.length:Nat):Int).toNat [V.non]).flatten) r=some (.lst (nV us ls 0)):=by
    rw [upd_same,Int.toNat_natCast,nV_zero]
    congr 2
    simp
  show (fun HH=>_) (upd H0 r (.lst (List.replicate ((us.length:Nat):Int).toNat [V.non]).flatten))
  generalize upd H0 r (.lst (List.replicate ((us.length:Nat):Int).toNat [V.non]).flatten)=H1 at s1 h1
  have S1:=S.same s1
  have rd:r≠d:=fun e=>by have:=S.hd;rw [← e,fr] at this;cases this
  refine ⟨_,rfl,t,_,_,_,rfl,rfl,SqT.of (s1 _ _ ht),rfl,_,rfl,by rw [ml];exact Nat.le_of_lt (small1000 (by omega)),_,_,rfl,rfl,_,rfl,_,rfl,us.length,by rw [ml],by omega,?_⟩
  refine for_down (lo:=(us.length:Int) - 1) (n:=us.length) (fun i σ HX=>∃ (o3 o4:Option V) (xs:NX),σ=[some (.ref x),some (.ref t),some (.ref r),o3,o4]∧FoAt P w C HX x dx d xs∧Par us ls xs (W50.R us ls i) 0∧HX r=some (.lst (nV us ls i))∧(∀ e o,H e=some o→e≠d→HX e=some o))
    ⟨none,none,[],rfl,S1,True.intro,h1,fun e o he _=>s1 _ _ he⟩ ?_ ?_
  · rintro i σ HX hi ⟨o3,o4,xs,rfl,SX,px,hrX,kX⟩
    have num:(us.length:Int) - 1 - (i:Int)=((us.length - 1 - i:Nat):Int):=by omega
    rw [num]
    generalize hp:us.length - 1 - i=p
    have pl:p < us.length:=by omega
    have td:t≠d:=fun e=>by have:=S.hd;rw [← e,ht] at this;cases this
    have ud:u≠d:=fun e=>by have:=S.hd;rw [← e,hu] at this;cases this
    have htX:=kX _ _ ht td
    have trX:Trr HX t us ls:=⟨u,htX,kX _ _ hu ud⟩
    refine ⟨_,rfl,_,rfl,t,us,ls,p,rfl,trX,ok,fun rb H2 s2 fr2 h2=>?_⟩
    refine ⟨rb,rfl,⟨_,SqL.of h2⟩,fun acc hacc=>?_⟩
    refine comp_lst (xs:=natV (W50.kids us 0 p)) (by rw [natV_len];have:=kids_len us 0 p;omega) (fun j ys HY=>HY acc=some (.lst ys)∧ys=natV (((W50.kids us 0 p).take j).map (W50.num us ls))∧Same H2 HY)
      (fun j ys HY h=>SqL.of (h.2.2 _ _ h2)) (fun j ys HY h=>⟨h.1,by rw [h.2.1,natV_len,List.length_map,List.length_take];omega⟩) ⟨upd_same,rfl,(Same.refl H2).new hacc⟩ ?_ ?_
    · rintro ys HY ⟨g1,rfl,g3⟩
      rw [natV_len,List.take_length] at g1
      refine ⟨acc,_,rfl,.inl ⟨SqL.of g1,fun b hb=>?_⟩⟩
      have s3:Same HY (upd HY b (.tup (natV ((W50.kids us 0 p).map (W50.num us ls))))):=(Same.refl HY).new hb
      have h3:upd HY b (.tup (natV ((W50.kids us 0 p).map (W50.num us ls)))) b=some (.tup (natV ((W50.kids us 0 p).map (W50.num us ls)))):=upd_same
      show (fun HH=>_) (upd HY b (.tup (natV ((W50.kids us 0 p).map (W50.num us ls)))))
      generalize upd HY b (.tup (natV ((W50.kids us 0 p).map (W50.num us ls))))=H3 at s3 h3
      have sX:=(s2.trans g3).trans s3
      have S3:=SX.same sX
      have lat:atI (mk ls).cps.toList (p:Int)=some (W50.lt ls p):=lt_at (ls:=ls) (by omega)
      have pxl:=px.len
      have rl:=W50.R_len (us:=us) (ls:=ls) i
      refine ⟨_,rfl,x,dx,_,rfl,S3.ob,f_no (by decide +kernel),_,rfl,t,_,_,_,rfl,rfl,SqT.of (sX _ _ htX),rfl,_,rfl,_,_,_,rfl,rfl,by rw [ml];exact Nat.le_of_lt (small1000 (by omega)),lat,_,rfl,
        x,dx,d,xs,W50.lt ls p,b,_,rfl,S3,h3,by omega,fun a H4 S4 k4=>?_⟩
      obtain ⟨e1,e2⟩:=px.step ok hi a
      rw [hp] at e1 e2
      have k04:∀ e o,H e=some o→e≠d→H4 e=some o:=fun e o he hd=>k4 e o (sX _ _ (kX e o he hd)) hd
      have hr4:H4 r=some (.lst (nV us ls i)):=k4 _ _ (sX _ _ hrX) rd
      refine ⟨_,rfl,_,rfl,r,_,_,_,rfl,rfl,hr4,by rw [nV_len];exact ixN_at (by omega) (by omega),?_⟩
      refine ⟨_,_,_,rfl,S4.lists fun e o he hn=>?_,e2,?_,fun e o he hd=>?_⟩
      · rw [upd_ne (fun z=>by rw [z,hr4] at he;cases he;exact hn _ rfl)];exact he
      · rw [upd_same]
        show some (HO.lst ((nV us ls i).set (p:Int).toNat (.int (numN xs (kN us ls p)))))=_
        rw [e1,Int.toNat_natCast,← hp,nV_step hi]
      · rw [upd_ne (ne_of_none he fr)];exact k04 e o he hd
    · rintro j y ys HY hy ⟨g1,rfl,g3⟩
      unfold natV at hy
      rw [List.getElem?_map] at hy
      cases e1:(W50.kids us 0 p)[j]? with
      | none=>rw [e1] at hy;cases hy
      | some c=>
        rw [e1] at hy
        cases hy
        have cm:=List.mem_of_getElem? e1
        have cg:=W50.kid_gt ok cm
        have cl:=W50.kid_lt cm
        refine ⟨rfl,?_⟩
        refine ⟨_,rfl,_,rfl,r,_,_,_,rfl,rfl,SqL.of (g3 _ _ (s2 _ _ hrX)),nV_at (by omega) cl,?_⟩
        refine ⟨g1,upd_same,?_,g3.write hacc⟩
        rw [List.take_succ,e1,List.map_append,natV,natV,List.map_append];rfl
  · rintro σ HX ⟨o3,o4,xs,rfl,SX,px,hrX,kX⟩
    rw [nV_all] at hrX
    exact ⟨_,rfl,q r xs HX SX px kX fr hrX⟩
end
end S50
namespace S50
open PySem L2 W7
def knK (us:List Int) (ls:List Nat) (r:Nat):Knot:=(W50.lt ls r,((W50.kids us 0 r).map (W50.num us ls)).map fun i:Nat=>(i:Int))
def netK (us:List Int) (ls:List Nat):List Knot:=(W50.R us ls us.length).map (knK us ls)
def kV (us:List Int) (ls:List Nat):List V:=natV ((List.range us.length).map (W50.num us ls))
theorem Par.get {us:List Int} {ls:List Nat}:∀ {xs:NX} {rs:List Nat} {m:Nat},Par us ls xs rs m→∀ (i:Nat) (x:L2N.NK × Addr × Int) (r:Nat),xs[i]?=some x→rs[i]?=some r→x.1=kN us ls r
  | [],_,_,_,i,x,r,h,_=>by cases h
  | _ :: _,[],_,h,_,_,_,_,_=>h.elim
  | y :: ys,s :: rs,m,h,0,x,r,a,b=>by cases a;cases b;exact h.1
  | y :: ys,s :: rs,m,h,i+1,x,r,a,b=>h.2.2.2.get i x r (by simpa using a) (by simpa using b)
theorem net_of {H:Hp} {l:Addr} {us:List Int} {ls:List Nat} {xs:NX} (px:Par us ls xs (W50.R us ls us.length) 0) (at':∀ x∈xs,L2N.NKat H x.2.1 x.1) (hl:H l=some (.tup (xs.map fun x=>V.ref x.2.1))):NetAt H l (netK us ls):=by
  refine ⟨xs.map (·.2.1),by rw [hl,List.map_map];rfl,by unfold netK;rw [List.length_map,List.length_map];exact px.len,fun i a kn e1 e2=>?_⟩
  unfold netK at e2
  rw [List.getElem?_map] at e1 e2
  cases ex:xs[i]? with
  | none=>rw [ex] at e1;cases e1
  | some x=>
    cases er:(W50.R us ls us.length)[i]? with
    | none=>rw [er] at e2;cases e2
    | some r=>
      rw [ex] at e1
      rw [er] at e2
      cases e1
      cases e2
      have k:=px.get i x r ex er
      obtain ⟨b,h1,h2⟩:=at' x (List.mem_of_getElem? ex)
      rw [k] at h1 h2
      exact ⟨b,h1,h2⟩
section
variable {P:Program} {w:World} {K:PySem.W.Frag} {mg:Str→Option Value} {base:Heap} {k:Nat}
def Made (K:PySem.W.Frag) (mg:Str→Option Value):Prop:=∃ (C fI fK fT:Addr) (dI dK dT:FuncData),Tx K mg C∧Mk K C fI∧Fun K "__init__" "Folding.__init__" s_Folding___init__ fI dI ∧
  Meth K C "knot_for" fK∧Fun K "knot_for" "Folding.knot_for" s_Folding_knot_for fK dK∧Meth K C "told_knots" fT∧Fun K "told_knots" "Folding.told_knots" s_Folding_told_knots fT dT
def sp_fnet:Sp:=fun vs H Q _=>∃ (t:Addr) (us:List Int) (ls:List Nat),vs=[.ref t]∧Trr H t us ls∧W50.Ok us ls∧∀ (r:Addr) (H':Hp),Same H H'→NetAt H' r (netK us ls)→Q (.ref r) H'
def sp_knots:Sp:=fun vs H Q _=>∃ (t:Addr) (us:List Int) (ls:List Nat),vs=[.ref t]∧Trr H t us ls∧W50.Ok us ls∧∀ (r:Addr) (H':Hp),Same H H'→H r=none→H' r=some (.lst (kV us ls))→Q (.ref r) H'
theorem has_fnet (D:Df K mg "folded_net" s_folded_net) (Df':Df K mg "fold_tree" s_fold_tree) (B:Blt7 mg) (M:Made K mg) (G_beneath_of:Has P w K mg base "beneath_of" (k+1) ["tree", "place"] sp_ben):Has P w K mg base "folded_net" (k+1+1+1) ["tree"] sp_fnet:=by
  obtain ⟨C,fI,fK,fT,dI,dK,dT,T,Mk_Folding,F_I,m_Folding_knot_for,F_K,m_Folding_told_knots,F_T⟩:=M
  have G_Folding___init__:FnOk P w K mg base CX0 (k+1) fI dI ["self"] (sp_init P w C):=ok_init F_I T
  have G_Folding_told_knots:FnOk P w K mg base CX0 (k+1+1) fT dT ["self"] (sp_tell P w C):=ok_tell F_T T B
  have b_Folding___init__:=F_I.binds (ps:=["self"]) (fun _ _ _ _ _ _ us hl=>match us,hl with | [_],_=>rfl)
  have b_Folding_told_knots:=F_T.binds (ps:=["self"]) (fun _ _ _ _ _ _ us hl=>match us,hl with | [_],_=>rfl)
  have G_fold_tree:=has_fold (P:=P) (w:=w) (base:=base) Df' B T m_Folding_knot_for F_K G_beneath_of
  refine D.has sc_folded_net (fun _ _ _ _ _ _ us hl=>match us,hl with | [_],_=>rfl) (fun vs H Q E h=>by obtain ⟨t,us,ls,rfl,_⟩:=h;rfl) (fun f cdv A outer s H vs Q E hr h=>?_)
  obtain ⟨t,us,ls,rfl,tr,ok,q⟩:=h
  refine ⟨_,(pss_cons (ps_set (i:=1) sc_folded_net.nd rfl (by first | exact Or.inl rfl | exact Or.inr rfl) (pe_make0 Mk_Folding G_Folding___init__ hr rfl T.mgC b_Folding___init__ .nil pass0))
  (pss_cons (ps_expr (pe_callH G_fold_tree hr rfl (pa_cons (pv 1) (pa_cons (pv 0) pa_nil))))
  (pss_one (ps_ret (pe_meth0 (pv 1) T.cl m_Folding_told_knots G_Folding_told_knots hr b_Folding_told_knots .nil pass0))))),?_⟩
  intro x dx nx ndx nex
  refine ⟨x,dx,rfl,upd_same,fun d H1 fd S1 kp=>⟨rfl,?_⟩⟩
  have s0:Same H (upd (upd H dx (.own x)) x (.ins C dx [])):=fun b o e=>by
    rw [upd_ne (ne_of_none e nx),upd_ne (ne_of_none e ndx)]
    exact e
  have s1:Same H H1:=fun b o e=>kp b o (s0 b o e) (ne_of_none e nx)
  have fd0:H d=none:=s0.free fd
  refine ⟨_,rfl,_,rfl,x,dx,d,t,us,ls,rfl,S1,tr.same s1,ok,fun r xs H2 S2 px k2 fr2 h2=>?_⟩
  have s2:Same H H2:=fun b o e=>k2 b o (s1 b o e) (ne_of_none e fd0)
  refine ⟨_,rfl,x,dx,_,rfl,S2.ob,f_no (by decide +kernel),x,dx,d,xs,rfl,S2,fun l hl=>?_⟩
  have s3:Same H2 (upd H2 l (.tup (xs.map fun x=>V.ref x.2.1))):=(Same.refl H2).new hl
  exact q l _ (s2.trans s3) (net_of px (fun x hx=>(S2.at' x hx).tups fun _ _=>s3 _ _) upd_same)
theorem has_knots (D:Df K mg "knots_of" s_knots_of) (Df':Df K mg "fold_tree" s_fold_tree) (B:Blt7 mg) (M:Made K mg) (G_beneath_of:Has P w K mg base "beneath_of" (k+1) ["tree", "place"] sp_ben):Has P w K mg base "knots_of" (k+1+1+1) ["tree"] sp_knots:=by
  obtain ⟨C,fI,fK,fT,dI,dK,dT,T,Mk_Folding,F_I,m_Folding_knot_for,F_K,m_Folding_told_knots,F_T⟩:=M
  have G_Folding___init__:FnOk P w K mg base CX0 (k+1) fI dI ["self"] (sp_init P w C):=ok_init F_I T
  have b_Folding___init__:=F_I.binds (ps:=["self"]) (fun _ _ _ _ _ _ us hl=>match us,hl with | [_],_=>rfl)
  have G_fold_tree:=has_fold (P:=P) (w:=w) (base:=base) Df' B T m_Folding_knot_for F_K G_beneath_of
  refine D.has sc_knots_of (fun _ _ _ _ _ _ us hl=>match us,hl with | [_],_=>rfl) (fun vs H Q E h=>by obtain ⟨t,us,ls,rfl,_⟩:=h;rfl) (fun f cdv A outer s H vs Q E hr h=>?_)
  obtain ⟨t,us,ls,rfl,tr,ok,q⟩:=h
  refine ⟨_,(pss_one (ps_ret (pe_callH G_fold_tree hr rfl (pa_cons (pe_make0 Mk_Folding G_Folding___init__ hr rfl T.mgC b_Folding___init__ .nil pass0) (pa_cons (pv 0) pa_nil))))),?_⟩
  intro x dx nx ndx nex
  refine ⟨x,dx,rfl,upd_same,fun d H1 fd S1 kp=>⟨rfl,?_⟩⟩
  have s0:Same H (upd (upd H dx (.own x)) x (.ins C dx [])):=fun b o e=>by
    rw [upd_ne (ne_of_none e nx),upd_ne (ne_of_none e ndx)]
    exact e
  have s1:Same H H1:=fun b o e=>kp b o (s0 b o e) (ne_of_none e nx)
  have fd0:H d=none:=s0.free fd
  refine ⟨_,rfl,x,dx,d,t,us,ls,rfl,S1,tr.same s1,ok,fun r xs H2 S2 px k2 fr2 h2=>?_⟩
  have s2:Same H H2:=fun b o e=>k2 b o (s1 b o e) (ne_of_none e fd0)
  exact q r H2 s2 (s1.free fr2) h2
end
end S50
namespace S50
open PySem L2 W7
def tF (us:List Int) (ls:List Nat) (q m y:Nat):List Nat:=if q≤y then W50.tx us ls y else W50.A us ls m y
def tV (us:List Int) (ls:List Nat) (q m:Nat):List V:=(List.range us.length).map fun y=>V.str (mk (tF us ls q m y))
theorem tV_len (us:List Int) (ls:List Nat) (q m:Nat):(tV us ls q m).length=us.length:=by unfold tV;simp
theorem tV_at {us:List Int} {ls:List Nat} {q m y:Nat} (h:y < us.length):atI (tV us ls q m) (y:Int)=some (.str (mk (tF us ls q m y))):=by
  refine atI_nat (xs:=tV us ls q m) (j:=y) ?_
  unfold tV
  rw [List.getElem?_map,List.getElem?_range h];rfl
theorem tV_set {us:List Int} {ls:List Nat} {q m q' m' y:Nat} {z:List Nat} (h1:∀ x,x < us.length→x≠y→tF us ls q m x=tF us ls q' m' x) (h2:z=tF us ls q' m' y):(tV us ls q m).set y (.str (mk z))=tV us ls q' m':=by
  refine List.ext_getElem (by rw [List.length_set,tV_len,tV_len]) fun j g1 g2=>?_
  have hj:j < us.length:=by rw [tV_len] at g2;exact g2
  rw [List.getElem_set]
  simp only [tV,List.getElem_map,List.getElem_range]
  by_cases e:y=j
  · subst e;rw [if_pos rfl,h2]
  · rw [if_neg e,h1 j hj (fun z=>e z.symm)]
theorem tF_own {us:List Int} {ls:List Nat} (ok:W50.Ok us ls) {p:Nat} (hp:p < us.length):W50.tx us ls p=tF us ls p (p+1) p:=by unfold tF;rw [if_pos (Nat.le_refl _)]
theorem tF_one {us:List Int} {ls:List Nat} {p x:Nat} (hx:x≠p):tF us ls (p+1) (p+1) x=tF us ls p (p+1) x:=by
  unfold tF
  by_cases c:p+1≤x
  · rw [if_pos c,if_pos (by omega)]
  · rw [if_neg c,if_neg (by omega)]
theorem tF_two {us:List Int} {ls:List Nat} (ok:W50.Ok us ls) {p x:Nat} (hp:p < us.length) (hx:us.getD p (-1)≠(x:Int)):tF us ls p (p+1) x=tF us ls p p x:=by
  unfold tF
  by_cases c:p≤x
  · rw [if_pos c,if_pos c]
  · rw [if_neg c,if_neg c,W50.A_step ok hp,if_neg hx];rfl
theorem tF_up {us:List Int} {ls:List Nat} (ok:W50.Ok us ls) {p x:Nat} (hp:p < us.length) (hx:us.getD p (-1)=(x:Int)) (xp:x < p):W50.tx us ls p++tF us ls p (p+1) x=tF us ls p p x:=by
  unfold tF
  rw [if_neg (by omega),if_neg (by omega),W50.A_step ok hp,if_pos hx]
theorem tF_len {us:List Int} {ls:List Nat} (ok:W50.Ok us ls) {q m y:Nat} (hy:y < us.length) (hq:q≤m) (h0:y < q→y < m) (hm:m≤us.length) (m0:0 < m):(tF us ls q m y).length≤183:=by
  unfold tF
  split
  · exact W50.tx_len ok hy
  · have:=W50.A_len ok (q:=m) (x:=y) m0 hm (by omega);omega
def bN (us:List Int) (ls:List Nat) (q y:Nat):List V:=natV ((W50.kids us q y).map (W50.num us ls))
theorem bN_up {us:List Int} {ls:List Nat} {p x:Nat} (hp:p < us.length) (hx:us.getD p (-1)=(x:Int)):V.int ((W50.num us ls p:Nat):Int) :: bN us ls (p+1) x=bN us ls p x:=by
  unfold bN
  rw [W50.kids_step hp,if_pos hx];rfl
theorem bN_no {us:List Int} {ls:List Nat} {p x:Nat} (hp:p < us.length) (hx:us.getD p (-1)≠(x:Int)):bN us ls (p+1) x=bN us ls p x:=by
  unfold bN
  rw [W50.kids_step hp,if_neg hx];rfl
theorem bN_end (us:List Int) (ls:List Nat) (y:Nat):bN us ls us.length y=[]:=by unfold bN;rw [W50.kids_end];rfl
theorem bN_len (us:List Int) (ls:List Nat) (q y:Nat):(bN us ls q y).length≤us.length:=by
  unfold bN;rw [natV_len,List.length_map];have:=kids_len us q y;omega
def kF (us:List Int) (ls:List Nat) (q:Nat):List V:=(List.range us.length).map fun y=>if q≤y then V.int ((W50.num us ls y:Nat):Int) else V.int 0
theorem kF_len (us:List Int) (ls:List Nat) (q:Nat):(kF us ls q).length=us.length:=by unfold kF;simp
theorem kF_end (us:List Int) (ls:List Nat):kF us ls us.length=List.replicate us.length (V.int 0):=by
  refine List.ext_getElem (by rw [kF_len];simp) fun j h1 h2=>?_
  have hj:j < us.length:=by rw [kF_len] at h1;exact h1
  simp [kF]
  omega
theorem kF_all (us:List Int) (ls:List Nat):kF us ls 0=kV us ls:=by
  refine List.ext_getElem (by unfold kV natV;rw [kF_len];simp) fun j h1 h2=>?_
  simp [kF,kV,natV]
theorem kF_step {us:List Int} {ls:List Nat} {p:Nat} (hp:p < us.length):(kF us ls (p+1)).set p (.int ((W50.num us ls p:Nat):Int))=kF us ls p:=by
  refine List.ext_getElem (by rw [List.length_set,kF_len,kF_len]) fun j h1 h2=>?_
  have hj:j < us.length:=by rw [kF_len] at h2;exact h2
  rw [List.getElem_set]
  simp only [kF,List.getElem_map,List.getElem_range]
  by_cases e:p=j
  · rw [if_pos e,if_pos (by omega),e]
  · rw [if_neg e]
    by_cases c:p+1≤j
    · rw [if_pos c,if_pos (by omega)]
    · rw [if_neg c,if_neg (by omega)]
theorem kF_at {us:List Int} {ls:List Nat} {p:Nat} (hp:p < us.length):atI (kF us ls p) (p:Int)=some (.int ((W50.num us ls p:Nat):Int)):=by
  refine atI_nat (xs:=kF us ls p) (j:=p) ?_
  unfold kF
  rw [List.getElem?_map,List.getElem?_range hp]
  show some (if p≤p then _ else _)=_
  rw [if_pos (Nat.le_refl _)]
def KnF (us:List Int) (ls:List Nat) (i:Nat) (kvs:List (Key × V)):Prop:=kvs.length≤i∧∀ z:List Nat,valV kvs (Sum.inr (mk z))=if z∈W50.S us ls i then some (.int (((W50.S us ls i).idxOf z:Nat):Int)) else none
theorem mk_inj {a b:List Nat} (h:mk a=mk b):a=b:=by
  have:=congrArg (fun z:Str=>z.cps.toList) h
  exact this
theorem KnF.old {us:List Int} {ls:List Nat} {i:Nat} {kvs:List (Key × V)} (h:KnF us ls i kvs) (c:W50.tx us ls (us.length - 1 - i)∈W50.S us ls i):KnF us ls (i+1) kvs∧W50.R us ls (i+1)=W50.R us ls i:=by
  have e:W50.R us ls (i+1)=W50.R us ls i:=by
    show (if _ then _ else _)=_
    exact if_pos (show W50.tx us ls (us.length - 1 - i)∈(W50.R us ls i).map (W50.tx us ls) from c)
  have e2:W50.S us ls (i+1)=W50.S us ls i:=by unfold W50.S;rw [e]
  exact ⟨⟨by have:=h.1;omega,fun z=>by rw [e2];exact h.2 z⟩,e⟩
theorem KnF.new {us:List Int} {ls:List Nat} {i:Nat} {kvs:List (Key × V)} (h:KnF us ls i kvs) (c:W50.tx us ls (us.length - 1 - i) ∉ W50.S us ls i) :
    KnF us ls (i+1) (putK kvs (Sum.inr (mk (W50.tx us ls (us.length - 1 - i)))) (.int (((W50.R us ls i).length:Nat):Int)))∧W50.R us ls (i+1)=W50.R us ls i++[us.length - 1 - i]:=by
  have e:W50.R us ls (i+1)=W50.R us ls i++[us.length - 1 - i]:=by
    show (if _ then _ else _)=_
    exact if_neg (show ¬ W50.tx us ls (us.length - 1 - i)∈(W50.R us ls i).map (W50.tx us ls) from c)
  have e2:W50.S us ls (i+1)=W50.S us ls i++[W50.tx us ls (us.length - 1 - i)]:=by unfold W50.S;rw [e,List.map_append];rfl
  have sl:(W50.S us ls i).length=(W50.R us ls i).length:=List.length_map _
  refine ⟨⟨by have:=length_putK kvs (Sum.inr (mk (W50.tx us ls (us.length - 1 - i)))) (V.int (((W50.R us ls i).length:Nat):Int));have:=h.1;omega,fun z=>?_⟩,e⟩
  rw [valV_put,e2]
  by_cases cz:z=W50.tx us ls (us.length - 1 - i)
  · subst cz
    rw [if_pos rfl,if_pos (List.mem_append_right _ (List.mem_singleton.mpr rfl)),List.idxOf_append,if_neg c,sl]
    simp
  · rw [if_neg (fun q=>cz (mk_inj (by injection q))),h.2 z]
    by_cases m:z∈W50.S us ls i
    · rw [if_pos m,if_pos (List.mem_append_left _ m),List.idxOf_append,if_pos m]
    · rw [if_neg m,if_neg (fun q=>by rcases List.mem_append.mp q with q | q;exact m q;exact cz (List.mem_singleton.mp q))]
end S50
namespace S50
open PySem L2 W7
structure Ad (H:Hp) (x b kk d nn:Addr):Prop where
  fx:H x=none
  fb:H b=none
  fk:H kk=none
  fd:H d=none
  fn:H nn=none
  xb:x≠b
  xk:x≠kk
  xd:x≠d
  xn:x≠nn
  bk:b≠kk
  bd:b≠d
  bn:b≠nn
  kd:kk≠d
  kn:kk≠nn
  dn:d≠nn
structure Fo (us:List Int) (ls:List Nat) (H:Hp) (x b kk d nn:Addr) (q m qb qk i:Nat) (bs as:List Addr) (kvs:List (Key × V)) (HX:Hp):Prop where
  s:Same H HX
  hx:HX x=some (.lst (tV us ls q m))
  hb:HX b=some (.lst (bs.map V.ref))
  bl:bs.length=us.length
  be:∀ (y:Nat) (a:Addr),bs[y]?=some a→HX a=some (.lst (bN us ls qb y))∧a≠x∧a≠b∧a≠kk∧a≠nn
  hk:HX kk=some (.lst (kF us ls qk))
  hd:HX d=some (.dK kvs)
  kn:KnF us ls i kvs
  hn:HX nn=some (.lst (as.map V.ref))
  ks:KnotsAt HX as ((W50.R us ls i).map (knK us ls))
section
variable {us:List Int} {ls:List Nat} {H:Hp} {x b kk d nn:Addr} {q m qb qk i:Nat} {bs as:List Addr} {kvs:List (Key × V)} {HX:Hp}
theorem Fo.same {HY:Hp} (f:Fo us ls H x b kk d nn q m qb qk i bs as kvs HX) (s:Same HX HY):Fo us ls H x b kk d nn q m qb qk i bs as kvs HY:=
  ⟨f.s.trans s,s _ _ f.hx,s _ _ f.hb,f.bl,fun y a e=>⟨s _ _ (f.be y a e).1,(f.be y a e).2⟩,s _ _ f.hk,s _ _ f.hd,f.kn,s _ _ f.hn,f.ks.same s⟩
theorem notup {a:Addr} {o:HO} {ob:HO} (h:HX a=some o) (no:∀ ys,o≠.tup ys):∀ c ys,HX c=some (.tup ys)→upd HX a ob c=some (.tup ys):=fun c ys e=>by
  rw [upd_ne (fun z=>by rw [z,h] at e;cases e;exact no _ rfl)];exact e
theorem Fo.texts (A:Ad H x b kk d nn) (f:Fo us ls H x b kk d nn q m qb qk i bs as kvs HX) {q' m':Nat} {ys:List V} (h:ys=tV us ls q' m'):Fo us ls H x b kk d nn q' m' qb qk i bs as kvs (upd HX x (.lst ys)):=by
  subst h
  refine ⟨f.s.write A.fx,upd_same,by rw [upd_ne A.xb.symm];exact f.hb,f.bl,fun y a e=>?_,by rw [upd_ne A.xk.symm];exact f.hk,by rw [upd_ne A.xd.symm];exact f.hd,f.kn,by rw [upd_ne A.xn.symm];exact f.hn,f.ks.tups (notup f.hx fun ys z=>by cases z)⟩
  obtain ⟨h1,h2⟩:=f.be y a e
  exact ⟨by rw [upd_ne h2.1];exact h1,h2⟩
theorem Fo.knots (A:Ad H x b kk d nn) (f:Fo us ls H x b kk d nn q m qb qk i bs as kvs HX) {qk':Nat} {ys:List V} (h:ys=kF us ls qk'):Fo us ls H x b kk d nn q m qb qk' i bs as kvs (upd HX kk (.lst ys)):=by
  subst h
  refine ⟨f.s.write A.fk,by rw [upd_ne A.xk];exact f.hx,by rw [upd_ne A.bk];exact f.hb,f.bl,fun y a e=>?_,upd_same,by rw [upd_ne A.kd.symm];exact f.hd,f.kn,by rw [upd_ne A.kn.symm];exact f.hn,f.ks.tups (notup f.hk fun ys z=>by cases z)⟩
  obtain ⟨h1,h2⟩:=f.be y a e
  exact ⟨by rw [upd_ne h2.2.2.1];exact h1,h2⟩
theorem Fo.known (A:Ad H x b kk d nn) (f:Fo us ls H x b kk d nn q m qb qk i bs as kvs HX) {kvs':List (Key × V)} {a:Addr} {r:Nat} {G:Hp} (hk:KnF us ls (i+1) kvs') (e:W50.R us ls (i+1)=W50.R us ls i++[r]) (sG:Same (upd HX d (.dK kvs')) G) (ka:KnotAt G a (knK us ls r)) :
    Fo us ls H x b kk d nn q m qb qk (i+1) bs (as++[a]) kvs' (upd G nn (.lst (as.map V.ref++[.ref a]))):=by
  have t1:∀ c ys,HX c=some (.tup ys)→G c=some (.tup ys):=fun c ys h=>sG _ _ (notup f.hd (fun ys z=>by cases z) c ys h)
  have hn1:G nn=some (.lst (as.map V.ref)):=sG _ _ (by rw [upd_ne A.dn.symm];exact f.hn)
  have t2:∀ c ys,G c=some (.tup ys)→upd G nn (.lst (as.map V.ref++[.ref a])) c=some (.tup ys):=notup hn1 fun ys z=>by cases z
  refine ⟨((f.s.write A.fd).trans sG).write A.fn,by rw [upd_ne A.xn];exact sG _ _ (by rw [upd_ne A.xd];exact f.hx),by rw [upd_ne A.bn];exact sG _ _ (by rw [upd_ne A.bd];exact f.hb),f.bl,fun y c e=>?_,by rw [upd_ne A.kn];exact sG _ _ (by rw [upd_ne A.kd];exact f.hk),by rw [upd_ne A.dn];exact sG _ _ upd_same,hk,by rw [upd_same,List.map_append];rfl,?_⟩
  · obtain ⟨h1,h2⟩:=f.be y c e
    exact ⟨by rw [upd_ne h2.2.2.2];exact sG _ _ (by rw [upd_ne (fun z=>by rw [z,f.hd] at h1;cases h1)];exact h1),h2⟩
  · rw [e,List.map_append]
    refine KnotsAt.snoc (f.ks.tups fun c ys h=>t2 c ys (t1 c ys h)) ?_
    obtain ⟨b',h1,h2⟩:=ka
    exact ⟨b',t2 _ _ h1,t2 _ _ h2⟩
theorem Fo.again (f:Fo us ls H x b kk d nn q m qb qk i bs as kvs HX) (hk:KnF us ls (i+1) kvs) (e:W50.R us ls (i+1)=W50.R us ls i):Fo us ls H x b kk d nn q m qb qk (i+1) bs as kvs HX:=
  ⟨f.s,f.hx,f.hb,f.bl,f.be,f.hk,f.hd,hk,f.hn,by rw [e];exact f.ks⟩
theorem Fo.beneath (A:Ad H x b kk d nn) {p v:Nat} (f:Fo us ls H x b kk d nn q m (p+1) qk i bs as kvs HX) (hp:p < us.length) (hv:us.getD p (-1)=(v:Int)) (vl:v < us.length) {c:Addr} (fc:HX c=none) :
    Fo us ls H x b kk d nn q m p qk i (bs.set v c) as kvs (upd (upd HX c (.lst (V.int ((W50.num us ls p:Nat):Int) :: bN us ls (p+1) v))) b (.lst ((bs.map V.ref).set v (.ref c)))):=by
  have sc:Same HX (upd HX c (.lst (V.int ((W50.num us ls p:Nat):Int) :: bN us ls (p+1) v))):=(Same.refl HX).new fc
  have cx:c≠x:=fun z=>by rw [z,f.hx] at fc;cases fc
  have cb:c≠b:=fun z=>by rw [z,f.hb] at fc;cases fc
  have ck:c≠kk:=fun z=>by rw [z,f.hk] at fc;cases fc
  have cn:c≠nn:=fun z=>by rw [z,f.hn] at fc;cases fc
  have hb1:=sc _ _ f.hb
  refine ⟨(f.s.trans sc).write A.fb,by rw [upd_ne A.xb];exact sc _ _ f.hx,by rw [upd_same,List.map_set],by rw [List.length_set];exact f.bl,fun y a e=>?_,by rw [upd_ne A.bk.symm];exact sc _ _ f.hk,by rw [upd_ne A.bd.symm];exact sc _ _ f.hd,f.kn,
    by rw [upd_ne A.bn.symm];exact sc _ _ f.hn,(f.ks.same sc).tups (notup hb1 fun ys z=>by cases z)⟩
  rw [List.getElem?_set] at e
  by_cases vy:v=y
  · subst vy
    rw [if_pos rfl,if_pos (by rw [f.bl];exact vl)] at e
    cases e
    exact ⟨by rw [upd_ne cb,upd_same,bN_up hp hv],cx,cb,ck,cn⟩
  · rw [if_neg vy] at e
    obtain ⟨h1,h2⟩:=f.be y a e
    refine ⟨?_,h2⟩
    rw [upd_ne h2.2.1,sc _ _ h1,bN_no hp (fun z=>vy (by rw [hv] at z;omega))]
end
theorem mk_app (a b:List Nat):mk a++mk b=mk (a++b):=str_ext (by show (a.toArray++b.toArray).toList=_;simp [mk])
theorem iteN' {c:Bool} {A B:Prop} (h:c=false) (q:B):if c=true then A else B:=by rw [h];exact iteF q
theorem iteB' {c:Bool} {A B:Prop} (h:c=true) (q:A):if c=true then A else B:=by rw [if_pos h];exact q
section
variable {P:Program} {w:World} {K:PySem.W.Frag} {mg:Str→Option Value} {base:Heap} {k:Nat}
def sp_folded:Sp:=fun vs H Q _=>∃ (t:Addr) (us:List Int) (ls:List Nat),vs=[.ref t]∧Trr H t us ls∧W50.Ok us ls ∧
  ∀ (r a b:Addr) (H':Hp),Same H H'→H' r=some (.lst [.ref a,.ref b])→NetAt H' a (netK us ls)→H' b=some (.lst (kV us ls))→Q (.ref r) H'
theorem has_folded (D:Df K mg "_law_folded" s_law_folded) (B:Blt7 mg):Has P w K mg base "_law_folded" (k+1) ["tree"] sp_folded:=by
  refine D.has sc_law_folded (fun _ _ _ _ _ _ us hl=>match us,hl with | [_],_=>rfl) (fun vs H Q E h=>by obtain ⟨t,us,ls,rfl,_⟩:=h;rfl) (fun f cdv A outer s H vs Q E hr h=>?_)
  obtain ⟨t,us,ls,rfl,tr,ok,Qq⟩:=h
  refine ⟨_,(pss_cons (ps_asg (pv 0) (pg_tup rfl (pgs_cons (pg_name (i:=1) sc_law_folded.nd rfl (by first | exact Or.inl rfl | exact Or.inr rfl)) (pgs_cons (pg_name (i:=2) sc_law_folded.nd rfl (by first | exact Or.inl rfl | exact Or.inr rfl)) pgs_nil))))
  (pss_cons (ps_set (i:=3) sc_law_folded.nd rfl (by first | exact Or.inl rfl | exact Or.inr rfl) (pe_op op_rep (pe_lst (pa_cons pe_str pa_nil)) (pe_callB call_len_seq rfl B.len bt_len (pa_cons (pv 1) pa_nil))))
  (pss_cons (ps_set (i:=4) sc_law_folded.nd rfl (by first | exact Or.inl rfl | exact Or.inr rfl) (pe_op op_rep (pe_lst (pa_cons (pe_lst pa_nil) pa_nil)) (pe_callB call_len_seq rfl B.len bt_len (pa_cons (pv 1) pa_nil))))
  (pss_cons (ps_set (i:=5) sc_law_folded.nd rfl (by first | exact Or.inl rfl | exact Or.inr rfl) (pe_op op_rep (pe_lst (pa_cons pe_int pa_nil)) (pe_callB call_len_seq rfl B.len bt_len (pa_cons (pv 1) pa_nil))))
  (pss_cons (ps_set (i:=6) sc_law_folded.nd rfl (by first | exact Or.inl rfl | exact Or.inr rfl) pe_dnewK)
  (pss_cons (ps_set (i:=7) sc_law_folded.nd rfl (by first | exact Or.inl rfl | exact Or.inr rfl) (pe_lst pa_nil))
  (pss_cons (ps_for PassesOwn.never rfl (pi_down rfl B.range (pa_cons (pe_op op_sub (pe_callB call_len_seq rfl B.len bt_len (pa_cons (pv 1) pa_nil)) pe_int) (pa_cons (pe_un un_neg pe_int) (pa_cons (pe_un un_neg pe_int) pa_nil)))) (pg_name (i:=8) sc_law_folded.nd rfl (by first | exact Or.inl rfl | exact Or.inr rfl))
  (pss_cons (ps_asg (pe_op op_add_str (pe_op op_add_str (pe_op op_add_str (pe_ix ix_str (pv 2) (pv 8) (fun _ _=>rfl)) pe_str) (pe_ix ix_list (pv 3) (pv 8) (fun _ _=>rfl))) pe_str) (pg_sub (pv 3) (pv 8) set_list))
  (pss_cons (ps_if (pt_cmp (pc_dnotin (hu_of hr) (pe_ix ix_list (pv 3) (pv 8) (fun _ _=>rfl)) (pv 6)) (by with_unfolding_all rfl))
  (pss_cons (ps_dput (hu_of hr) (pv 6) (pe_ix ix_list (pv 3) (pv 8) (fun _ _=>rfl)) (pe_callB call_len_seq rfl B.len bt_len (pa_cons (pv 7) pa_nil)) rfl)
  (pss_one (ps_expr (pe_bm PySem.F.plainAttrs_list PySem.F.slot_list_append PySem.F.type_list_append mt_append (pv 7) (pa_cons (pe_tup (pa_cons (pe_ix ix_str (pv 2) (pv 8) (fun _ _=>rfl)) (pa_cons (pe_callTy call_tuple_of rfl B.tuple_ bt_tuple (pa_cons (pe_ix ix_list (pv 4) (pv 8) (fun _ _=>rfl)) pa_nil)) pa_nil))) pa_nil)))))
  pss_nil)
  (pss_cons (ps_asg (pe_dget (hu_of hr) (pv 6) (pe_ix ix_list (pv 3) (pv 8) (fun _ _=>rfl)) (fun _ _=>rfl)) (pg_sub (pv 5) (pv 8) set_list))
  (pss_one (ps_if (pt_cmpR op_gt (pv 8) pe_int (nomark _))
  (pss_cons (ps_asg (pe_op op_add_str (pe_ix ix_list (pv 3) (pv 8) (fun _ _=>rfl)) (pe_ix ix_list (pv 3) (pe_ix ix_tup (pv 1) (pv 8) (fun _ _=>rfl)) (fun _ _=>rfl))) (pg_sub (pv 3) (pe_ix ix_tup (pv 1) (pv 8) (fun _ _=>rfl)) set_list))
  (pss_one (ps_asg (pe_op op_cat (pe_lst (pa_cons (pe_ix ix_list (pv 5) (pv 8) (fun _ _=>rfl)) pa_nil)) (pe_ix ix_list (pv 4) (pe_ix ix_tup (pv 1) (pv 8) (fun _ _=>rfl)) (fun _ _=>rfl))) (pg_sub (pv 4) (pe_ix ix_tup (pv 1) (pv 8) (fun _ _=>rfl)) set_list))))
  pss_nil))))))
  (pss_one (ps_ret (pe_lst (pa_cons (pe_callTy call_tuple_of rfl B.tuple_ bt_tuple (pa_cons (pv 7) pa_nil)) (pa_cons (pv 5) pa_nil)))))))))))),?_⟩
  obtain ⟨u,ht,hu⟩:=id tr
  have m60:=ok.most
  have pos:=ok.pos
  have ll:=ok.len
  have ml:(mk ls).length=us.length:=ll
  have ul:(us.map V.int).length=us.length:=List.length_map _
  refine ⟨_,rfl,t,_,rfl,SqT.of ht,rfl,_,_,rfl,_,_,rfl,rfl,?_⟩
  refine ⟨(by show 1≤sizeLine;decide),fun r0 hr0=>?_⟩
  have s0:Same H (upd H r0 (.lst [.str (Str.ofString "")])):=(Same.refl H).new hr0
  have h0:upd H r0 (.lst [.str (Str.ofString "")]) r0=some (.lst [.str (Str.ofString "")]):=upd_same
  show (fun HH=>_) (upd H r0 (.lst [.str (Str.ofString "")]))
  generalize upd H r0 (.lst [.str (Str.ofString "")])=H0 at s0 h0
  refine ⟨_,rfl,u,_,rfl,.inr (SqT.of (s0 _ _ hu)),?_⟩
  rw [ul]
  refine ⟨r0,_,_,rfl,rfl,h0,by omega,by omega,?_,fun x hx=>?_⟩
  · show 1 * _≤_;rw [Int.toNat_natCast];exact Nat.le_of_lt (small1000 (by omega))
  have fx:H x=none:=s0.free hx
  have s1:Same H (upd H0 x (.lst (List.replicate ((us.length:Nat):Int).toNat [V.str (Str.ofString "")]).flatten)):=s0.new hx
  have h1:upd H0 x (.lst (List.replicate ((us.length:Nat):Int).toNat [V.str (Str.ofString "")]).flatten) x=some (.lst (tV us ls us.length us.length)):=by
    rw [upd_same,Int.toNat_natCast]
    congr 2
    refine List.ext_getElem (by rw [tV_len];simp) fun j g1 g2=>?_
    have hj:j < us.length:=by rw [tV_len] at g2;exact g2
    simp only [tV,List.getElem_map,List.getElem_range]
    unfold tF
    rw [if_neg (by omega),W50.A_end]
    simp
    rfl
  show (fun HH=>_) (upd H0 x (.lst (List.replicate ((us.length:Nat):Int).toNat [V.str (Str.ofString "")]).flatten))
  generalize upd H0 x (.lst (List.replicate ((us.length:Nat):Int).toNat [V.str (Str.ofString "")]).flatten)=H1 at s1 h1
  refine ⟨Nat.zero_le _,fun e he=>?_⟩
  have s2:Same H1 (upd H1 e (.lst [])):=(Same.refl H1).new he
  have h2:upd H1 e (.lst []) e=some (.lst []):=upd_same
  have xe:e≠x:=(ne_of_none h1 he).symm
  show (fun HH=>_) (upd H1 e (.lst []))
  generalize upd H1 e (.lst [])=H2 at s2 h2
  refine ⟨(by show 1≤sizeLine;decide),fun r1 hr1=>?_⟩
  have s3:Same H2 (upd H2 r1 (.lst [.ref e])):=(Same.refl H2).new hr1
  have h3:upd H2 r1 (.lst [.ref e]) r1=some (.lst [.ref e]):=upd_same
  show (fun HH=>_) (upd H2 r1 (.lst [.ref e]))
  generalize upd H2 r1 (.lst [.ref e])=H3 at s3 h3
  have s03:=(s1.trans s2).trans s3
  refine ⟨_,rfl,u,_,rfl,.inr (SqT.of (s03 _ _ hu)),?_⟩
  rw [ul]
  refine ⟨r1,_,_,rfl,rfl,h3,by omega,by omega,?_,fun b hb=>?_⟩
  · show 1 * _≤_;rw [Int.toNat_natCast];exact Nat.le_of_lt (small1000 (by omega))
  have s4:Same H3 (upd H3 b (.lst (List.replicate ((us.length:Nat):Int).toNat [V.ref e]).flatten)):=(Same.refl H3).new hb
  have h4:upd H3 b (.lst (List.replicate ((us.length:Nat):Int).toNat [V.ref e]).flatten) b=some (.lst ((List.replicate us.length e).map V.ref)):=by
    rw [upd_same,Int.toNat_natCast]
    congr 2
    simp
  have h1b:=(s2.trans s3) _ _ h1
  have h2b:=s3 _ _ h2
  have bx:b≠x:=(ne_of_none h1b hb).symm
  have be:e≠b:=ne_of_none h2b hb
  have fb:H b=none:=s03.free hb
  show (fun HH=>_) (upd H3 b (.lst (List.replicate ((us.length:Nat):Int).toNat [V.ref e]).flatten))
  generalize upd H3 b (.lst (List.replicate ((us.length:Nat):Int).toNat [V.ref e]).flatten)=H4 at s4 h4
  have s04:=s03.trans s4
  refine ⟨(by show 1≤sizeLine;decide),fun r2 hr2=>?_⟩
  have s5:Same H4 (upd H4 r2 (.lst [.int 0])):=(Same.refl H4).new hr2
  have h5:upd H4 r2 (.lst [.int 0]) r2=some (.lst [.int 0]):=upd_same
  show (fun HH=>_) (upd H4 r2 (.lst [.int 0]))
  generalize upd H4 r2 (.lst [.int 0])=H5 at s5 h5
  have s05:=s04.trans s5
  refine ⟨_,rfl,u,_,rfl,.inr (SqT.of (s05 _ _ hu)),?_⟩
  rw [ul]
  refine ⟨r2,_,_,rfl,rfl,h5,by omega,by omega,?_,fun kk hkk=>?_⟩
  · show 1 * _≤_;rw [Int.toNat_natCast];exact Nat.le_of_lt (small1000 (by omega))
  have s6:Same H5 (upd H5 kk (.lst (List.replicate ((us.length:Nat):Int).toNat [V.int 0]).flatten)):=(Same.refl H5).new hkk
  have h6:upd H5 kk (.lst (List.replicate ((us.length:Nat):Int).toNat [V.int 0]).flatten) kk=some (.lst (kF us ls us.length)):=by
    rw [upd_same,Int.toNat_natCast,kF_end]
    congr 2
    simp
  have h1k:=(s4.trans s5) _ _ h1b
  have h2k:=(s4.trans s5) _ _ h2b
  have h4k:=s5 _ _ h4
  have kx:kk≠x:=(ne_of_none h1k hkk).symm
  have ke:e≠kk:=ne_of_none h2k hkk
  have kb:kk≠b:=(ne_of_none h4k hkk).symm
  have fk:H kk=none:=s05.free hkk
  show (fun HH=>_) (upd H5 kk (.lst (List.replicate ((us.length:Nat):Int).toNat [V.int 0]).flatten))
  generalize upd H5 kk (.lst (List.replicate ((us.length:Nat):Int).toNat [V.int 0]).flatten)=H6 at s6 h6
  have s06:=s05.trans s6
  refine fun d hd=>?_
  have s7:Same H6 (upd H6 d (.dK [])):=(Same.refl H6).new hd
  have h7:upd H6 d (.dK []) d=some (.dK []):=upd_same
  have fd:H d=none:=s06.free hd
  have dx:x≠d:=ne_of_none (s6 _ _ h1k) hd
  have db:b≠d:=ne_of_none (s6 _ _ h4k) hd
  have dk:kk≠d:=ne_of_none h6 hd
  show (fun HH=>_) (upd H6 d (.dK []))
  generalize upd H6 d (.dK [])=H7 at s7 h7
  have s07:=s06.trans s7
  refine ⟨Nat.zero_le _,fun nn hn=>?_⟩
  have s8:Same H7 (upd H7 nn (.lst [])):=(Same.refl H7).new hn
  have h8:upd H7 nn (.lst []) nn=some (.lst []):=upd_same
  have fn:H nn=none:=s07.free hn
  have nx:x≠nn:=ne_of_none ((s6.trans s7) _ _ h1k) hn
  have ne:e≠nn:=ne_of_none ((s6.trans s7) _ _ h2k) hn
  have nb:b≠nn:=ne_of_none ((s6.trans s7) _ _ h4k) hn
  have nk:kk≠nn:=ne_of_none (s7 _ _ h6) hn
  have nd:d≠nn:=ne_of_none h7 hn
  show (fun HH=>_) (upd H7 nn (.lst []))
  generalize upd H7 nn (.lst [])=H8 at s8 h8
  have s08:=s07.trans s8
  have A:Ad H x b kk d nn:=⟨fx,fb,fk,fd,fn,bx.symm,kx.symm,dx,nx,kb.symm,db,nb,dk,nk,nd⟩
  have s68:=(s6.trans s7).trans s8
  have f0:Fo us ls H x b kk d nn us.length us.length us.length us.length 0 (List.replicate us.length e) [] [] H8:=
    ⟨s08,s68 _ _ h1k,s68 _ _ h4k,List.length_replicate ..,fun y a ea=>by
      have:a=e:=List.eq_of_mem_replicate (List.mem_of_getElem? ea)
      subst this
      exact ⟨by rw [bN_end];exact s68 _ _ h2k,xe,be,ke,ne⟩,(s7.trans s8) _ _ h6,s8 _ _ h7,⟨Nat.le_refl _,fun z=>rfl⟩,h8,⟨rfl,fun i a kn z=>by cases z⟩⟩
  refine ⟨_,rfl,u,_,rfl,.inr (SqT.of (s08 _ _ hu)),_,_,rfl,rfl,_,rfl,_,rfl,us.length,by rw [ul],by omega,?_⟩
  refine for_down (lo:=(us.length:Int) - 1) (n:=us.length) (fun i σ HX=>∃ (o8:Option V) (bs as:List Addr) (kvs:List (Key × V)),σ=[some (.ref t),some (.ref u),some (.str (mk ls)),some (.ref x),some (.ref b),some (.ref kk),some (.ref d),some (.ref nn),o8] ∧
      Fo us ls H x b kk d nn (us.length - i) (us.length - i) (us.length - i) (us.length - i) i bs as kvs HX)
    ⟨none,_,_,_,rfl,f0⟩ ?_ ?_
  · rintro i σ HX hi ⟨o8,bs,as,kvs,rfl,F⟩
    have num:(us.length:Int) - 1 - (i:Int)=((us.length - 1 - i:Nat):Int):=by omega
    rw [num]
    have q1:us.length - i=us.length - 1 - i+1:=by omega
    rw [q1] at F
    rw [show us.length - (i+1)=us.length - 1 - i by omega]
    have pl:us.length - 1 - i < us.length:=by omega
    have pi:us.length - 1 - (us.length - 1 - i)=i:=by omega
    have sm:=W50.S_mem (us:=us) (ls:=ls) (i:=i+1) pl (by omega)
    have nat':=W50.num_at (us:=us) (ls:=ls) (i:=i+1) (by omega) sm
    have kold:=fun c=>F.kn.old (us:=us) (ls:=ls) (i:=i) c
    have knew:=fun c=>F.kn.new (us:=us) (ls:=ls) (i:=i) c
    generalize us.length - 1 - i=p at F pl pi sm nat' kold knew ⊢
    have lat:atI (mk ls).cps.toList (p:Int)=some (W50.lt ls p):=lt_at (ls:=ls) (by omega)
    have o1:tF us ls (p+1) (p+1) p=W50.A us ls (p+1) p:=by unfold tF;rw [if_neg (by omega)]
    have hat0:=tV_at (us:=us) (ls:=ls) (q:=p+1) (m:=p+1) pl
    rw [o1] at hat0
    have al:(W50.A us ls (p+1) p).length≤180:=W50.A_len ok (by omega) (by omega) (by omega)
    have tl:=W50.tx_len ok pl
    have hat1:=tV_at (us:=us) (ls:=ls) (q:=p) (m:=p+1) pl
    rw [← tF_own ok pl] at hat1
    refine ⟨_,rfl,_,rfl,_,_,_,rfl,rfl,by rw [ml];exact Nat.le_of_lt (small1000 (by omega)),lat,_,_,rfl,rfl,(by show 1+1≤sizeLine;decide),_,rfl,_,rfl,x,_,_,_,rfl,rfl,SqL.of F.hx,hat0,_,_,rfl,rfl,?_,_,_,rfl,rfl,?_,?_⟩
    · show 2+(W50.A us ls (p+1) p).length≤sizeLine;exact Nat.le_of_lt (small1000 (by omega))
    · rw [show (⟨#[W50.lt ls p]⟩:Str)=mk [W50.lt ls p] from rfl,show Str.ofString "(" = mk [40] from rfl,mk_app,mk_app]
      show (([W50.lt ls p]++[40])++W50.A us ls (p+1) p).length+1≤sizeLine
      refine Nat.le_of_lt (small1000 ?_)
      simp only [List.length_append,List.length_cons,List.length_nil]
      omega
    have etx:((⟨#[W50.lt ls p]⟩:Str)++Str.ofString "(" ++ mk (W50.A us ls (p+1) p))++Str.ofString ")" = mk (W50.tx us ls p):=by
      rw [show (⟨#[W50.lt ls p]⟩:Str)=mk [W50.lt ls p] from rfl,show Str.ofString "(" = mk [40] from rfl,show Str.ofString ")" = mk [41] from rfl,mk_app,mk_app,mk_app,W50.A_tx ok pl]
      simp
    refine ⟨_,rfl,_,rfl,x,_,_,_,rfl,rfl,F.hx,by rw [tV_len];exact ixN_at (by omega) (by omega),?_⟩
    have F1:=F.texts A (q':=p) (m':=p+1) (ys:=(tV us ls (p+1) (p+1)).set (p:Int).toNat (.str (((⟨#[W50.lt ls p]⟩:Str)++Str.ofString "(" ++ mk (W50.A us ls (p+1) p))++Str.ofString ")"))) (by
      rw [etx,Int.toNat_natCast];exact tV_set (fun y _ hy=>tF_one hy) (tF_own ok pl))
    dsimp only
    refine mid (fun σ HZ=>∃ (bs as:List Addr) (kvs:List (Key × V)),σ=[some (.ref t),some (.ref u),some (.str (mk ls)),some (.ref x),some (.ref b),some (.ref kk),some (.ref d),some (.ref nn),some (.int (p:Int))]∧Fo us ls H x b kk d nn p (p+1) (p+1) (p+1) (i+1) bs as kvs HZ) ?_ fun E nx=>?_
    rotate_left
    · generalize upd HX x _=G1 at F1 ⊢
      refine ⟨_,rfl,_,rfl,x,_,_,_,rfl,rfl,SqL.of F1.hx,hat1,_,rfl,d,_,rfl,DGet.k (k:=Sum.inr (mk (W50.tx us ls p))) F1.hd,_,rfl,?_⟩
      have kv:=F1.kn.2 (W50.tx us ls p)
      by_cases c:W50.tx us ls p∈W50.S us ls i
      · rw [if_pos c] at kv
        obtain ⟨k1,k2⟩:=kold c
        exact iteN' (by rw [kv];rfl) (nx _ _ ⟨bs,as,kvs,rfl,F1.again k1 k2⟩)
      · rw [if_neg c] at kv
        obtain ⟨k1,k2⟩:=knew c
        refine iteB' (by rw [kv];rfl) ?_
        have asl:as.length=(W50.R us ls i).length:=by have:=F1.ks.1;rw [List.length_map] at this;exact this
        have rl:=W50.R_len (us:=us) (ls:=ls) i
        refine ⟨_,rfl,nn,_,rfl,.inl (SqL.of F1.hn),?_⟩
        rw [List.length_map,asl]
        refine ⟨_,rfl,_,rfl,_,rfl,x,_,_,_,rfl,rfl,SqL.of F1.hx,hat1,d,_,rfl,DPut.k (k:=Sum.inr (mk (W50.tx us ls p))) F1.hd (small1000 (by have:=F1.kn.1;omega)),?_⟩
        have hG2:∀ y o,y≠d→G1 y=some o→upd G1 d (.dK (putK kvs (Sum.inr (mk (W50.tx us ls p))) (.int (((W50.R us ls i).length:Nat):Int)))) y=some o:=fun y o hy e=>by rw [upd_ne hy];exact e
        generalize hGG:upd G1 d (.dK (putK kvs (Sum.inr (mk (W50.tx us ls p))) (.int (((W50.R us ls i).length:Nat):Int))))=G2 at hG2
        obtain ⟨a,ea⟩:∃ a,bs[p]?=some a:=⟨_,List.getElem?_eq_getElem (by rw [F1.bl];exact pl)⟩
        obtain ⟨ha,n1,n2,n3,n4⟩:=F1.be p a ea
        have ad:a≠d:=fun z=>by rw [z,F1.hd] at ha;cases ha
        have bat:atI (bs.map V.ref) (p:Int)=some (.ref a):=atI_nat (xs:=bs.map V.ref) (j:=p) (by rw [List.getElem?_map,ea];rfl)
        have bown:bN us ls (p+1) p=natV ((W50.kids us 0 p).map (W50.num us ls)):=by unfold bN;rw [W50.kids_from ok (p+1) (Nat.le_refl _) (by omega)]
        refine ⟨_,rfl,.inl ⟨rfl,_,SqL.of (hG2 _ _ A.dn.symm F1.hn)⟩,_,rfl,_,rfl,_,_,_,rfl,rfl,by rw [ml];exact Nat.le_of_lt (small1000 (by omega)),lat,_,rfl,_,rfl,b,_,_,_,rfl,rfl,SqL.of (hG2 _ _ A.bd F1.hb),bat,a,_,rfl,.inl ⟨SqL.of (hG2 _ _ ad ha),fun tb htb=>?_⟩⟩
        have sT:Same G2 (upd G2 tb (.tup (bN us ls (p+1) p))):=(Same.refl G2).new htb
        have hT:upd G2 tb (.tup (bN us ls (p+1) p)) tb=some (.tup (bN us ls (p+1) p)):=upd_same
        show (fun HH=>_) (upd G2 tb (.tup (bN us ls (p+1) p)))
        generalize upd G2 tb (.tup (bN us ls (p+1) p))=G3 at sT hT
        refine ⟨(by show 2≤sizeLine;decide),fun ta hta=>?_⟩
        have sU:Same G3 (upd G3 ta (.tup [.str ⟨#[W50.lt ls p]⟩,.ref tb])):=(Same.refl G3).new hta
        have hU:upd G3 ta (.tup [.str ⟨#[W50.lt ls p]⟩,.ref tb]) ta=some (.tup [.str ⟨#[W50.lt ls p]⟩,.ref tb]):=upd_same
        show (fun HH=>_) (upd G3 ta (.tup [.str ⟨#[W50.lt ls p]⟩,.ref tb]))
        generalize upd G3 ta (.tup [.str ⟨#[W50.lt ls p]⟩,.ref tb])=G4 at sU hU
        have s24:=sT.trans sU
        refine ⟨nn,_,_,rfl,rfl,s24 _ _ (hG2 _ _ A.dn.symm F1.hn),by rw [List.length_map];exact small1000 (by omega),?_⟩
        exact nx _ _ ⟨bs,_,_,rfl,F1.known A k1 k2 (by rw [hGG];exact s24) ⟨tb,hU,by rw [sU _ _ hT,bown];unfold natV knK;simp only [List.map_map];rfl⟩⟩
    rintro σ HZ ⟨bs,as,kvs,rfl,F2⟩
    have kv2:=F2.kn.2 (W50.tx us ls p)
    rw [if_pos sm,← nat'] at kv2
    have dg:DGet HZ d (.str (mk (W50.tx us ls p))) (some (.int ((W50.num us ls p:Nat):Int))):=by
      have:=DGet.k (k:=Sum.inr (mk (W50.tx us ls p))) F2.hd
      rw [kv2] at this;exact this
    refine ⟨_,rfl,_,rfl,_,rfl,x,_,_,_,rfl,rfl,SqL.of F2.hx,hat1,d,_,rfl,dg,_,rfl,_,rfl,kk,_,_,_,rfl,rfl,F2.hk,by rw [kF_len];exact ixN_at (by omega) (by omega),?_⟩
    have F3:=F2.knots A (qk':=p) (ys:=(kF us ls (p+1)).set (p:Int).toNat (.int ((W50.num us ls p:Nat):Int))) (by rw [Int.toNat_natCast];exact kF_step pl)
    show (fun HH=>_) (upd HZ kk (.lst ((kF us ls (p+1)).set (p:Int).toNat (.int ((W50.num us ls p:Nat):Int)))))
    generalize upd HZ kk (.lst ((kF us ls (p+1)).set (p:Int).toNat (.int ((W50.num us ls p:Nat):Int))))=G5 at F3
    refine ⟨_,rfl,_,_,rfl,rfl,_,rfl,ite2 (fun cnd=>?_) (fun cnd=>?_)⟩
    · have p0:0 < p:=by have:=of_decide_eq_true cnd;omega
      obtain ⟨u0,u1⟩:=ok.up p p0 pl
      obtain ⟨v,hv⟩:∃ v:Nat,us.getD p (-1)=(v:Int):=⟨(us.getD p (-1)).toNat,by omega⟩
      have vp:v < p:=by omega
      have vl:v < us.length:=by omega
      have upat:atI (us.map V.int) (p:Int)=some (.int (v:Int)):=by rw [up_at pl,hv]
      have hatv:=tV_at (us:=us) (ls:=ls) (q:=p) (m:=p+1) vl
      have vlen:=tF_len ok (q:=p) (m:=p+1) vl (by omega) (fun _=>by omega) (by omega) (by omega)
      refine ⟨_,rfl,_,rfl,x,_,_,_,rfl,rfl,SqL.of F3.hx,hat1,_,rfl,_,rfl,_,rfl,u,_,_,_,rfl,rfl,SqT.of (F3.s _ _ hu),upat,x,_,_,_,rfl,rfl,SqL.of F3.hx,hatv,_,_,rfl,rfl,?_,?_⟩
      · show (W50.tx us ls p).length+(tF us ls p (p+1) v).length≤sizeLine
        exact Nat.le_of_lt (small1000 (by omega))
      refine ⟨_,rfl,_,rfl,_,rfl,u,_,_,_,rfl,rfl,SqT.of (F3.s _ _ hu),upat,x,_,_,_,rfl,rfl,F3.hx,by rw [tV_len];exact ixN_at (by omega) (by omega),?_⟩
      have F4:=F3.texts A (q':=p) (m':=p) (ys:=(tV us ls p (p+1)).set (v:Int).toNat (.str (mk (W50.tx us ls p)++mk (tF us ls p (p+1) v)))) (by
        rw [mk_app,Int.toNat_natCast];exact tV_set (fun y _ hy=>tF_two ok pl (by rw [hv];omega)) (tF_up ok pl hv vp))
      show (fun HH=>_) (upd G5 x (.lst ((tV us ls p (p+1)).set (v:Int).toNat (.str (mk (W50.tx us ls p)++mk (tF us ls p (p+1) v))))))
      generalize upd G5 x (.lst ((tV us ls p (p+1)).set (v:Int).toNat (.str (mk (W50.tx us ls p)++mk (tF us ls p (p+1) v)))))=G6 at F4
      obtain ⟨a,ea⟩:∃ a,bs[v]?=some a:=⟨_,List.getElem?_eq_getElem (by rw [F4.bl];exact vl)⟩
      have bat:atI (bs.map V.ref) (v:Int)=some (.ref a):=atI_nat (xs:=bs.map V.ref) (j:=v) (by rw [List.getElem?_map,ea];rfl)
      refine ⟨_,rfl,_,rfl,kk,_,_,_,rfl,rfl,SqL.of F4.hk,kF_at pl,(by show 1≤sizeLine;decide),fun l hl=>?_⟩
      have sl:Same G6 (upd G6 l (.lst [.int ((W50.num us ls p:Nat):Int)])):=(Same.refl G6).new hl
      have hl1:upd G6 l (.lst [.int ((W50.num us ls p:Nat):Int)]) l=some (.lst [.int ((W50.num us ls p:Nat):Int)]):=upd_same
      have F5:=F4.same sl
      show (fun HH=>_) (upd G6 l (.lst [.int ((W50.num us ls p:Nat):Int)]))
      generalize upd G6 l (.lst [.int ((W50.num us ls p:Nat):Int)])=G7 at sl hl1 F5
      have bl2:=bN_len us ls (p+1) v
      refine ⟨_,rfl,_,rfl,_,rfl,u,_,_,_,rfl,rfl,SqT.of (F5.s _ _ hu),upat,b,_,_,_,rfl,rfl,SqL.of F5.hb,bat,l,a,_,_,rfl,rfl,hl1,(F5.be v a ea).1,?_,fun c hc=>?_⟩
      · show 1+(bN us ls (p+1) v).length≤sizeLine
        exact Nat.le_of_lt (small1000 (by omega))
      have hbn:=((Same.refl G7).new (o:=.lst ([V.int ((W50.num us ls p:Nat):Int)]++bN us ls (p+1) v)) hc) _ _ F5.hb
      refine ⟨_,rfl,_,rfl,_,rfl,u,_,_,_,rfl,rfl,SqT.of (((Same.refl G7).new hc) _ _ (F5.s _ _ hu)),upat,b,_,_,_,rfl,rfl,hbn,by rw [List.length_map,F5.bl];exact ixN_at (by omega) (by omega),?_⟩
      exact ⟨_,_,as,kvs,rfl,F5.beneath A pl hv vl hc⟩
    · have p0:p=0:=by
        rcases Nat.eq_zero_or_pos p with z | z
        · exact z
        · exact absurd (decide_eq_true (by omega)) cnd
      subst p0
      refine ⟨_,bs,as,kvs,rfl,F3.s,?_,F3.hb,F3.bl,fun y a e=>?_,F3.hk,F3.hd,F3.kn,F3.hn,F3.ks⟩
      · rw [F3.hx]
        congr 2
      · obtain ⟨h1,h2⟩:=F3.be y a e
        refine ⟨?_,h2⟩
        rw [h1,bN_no pl (by rw [ok.root];omega)]
  · rintro σ HX ⟨o8,bs,as,kvs,rfl,F⟩
    rw [Nat.sub_self] at F
    refine ⟨_,rfl,nn,_,rfl,.inl ⟨SqL.of F.hn,fun tn htn=>?_⟩⟩
    have sT:Same HX (upd HX tn (.tup (as.map V.ref))):=(Same.refl HX).new htn
    have hT:upd HX tn (.tup (as.map V.ref)) tn=some (.tup (as.map V.ref)):=upd_same
    show (fun HH=>_) (upd HX tn (.tup (as.map V.ref)))
    generalize upd HX tn (.tup (as.map V.ref))=G1 at sT hT
    refine ⟨_,rfl,(by show 2≤sizeLine;decide),fun r hr0=>?_⟩
    have sU:Same G1 (upd G1 r (.lst [.ref tn,.ref kk])):=(Same.refl G1).new hr0
    exact Qq r tn kk _ ((F.s.trans sT).trans sU) upd_same ⟨as,sU _ _ hT,F.ks.same (sT.trans sU)⟩ ((sT.trans sU) _ _ (by rw [F.hk,kF_all]))
end
end S50
namespace W56
open PySem
end W56
namespace W56
open PySem
end W56
namespace L2
open PySem PySem.Spec PyProof.Rows PySem.W
section
variable {X:Cx}
end
theorem Gd.int {hd hl:Bool} {i:Int} (h:i.natAbs < 10 ^ 12):Gd hd hl 41 0 (.int i):=by
  have s1:=ints_showable (ns:=[i]) (fun n hn=>by rw [List.mem_singleton.mp hn];exact h)
  simp only [PyData.showable,List.map_cons,List.map_nil,PyData.showableAll,Bool.and_true] at s1
  refine ⟨by simp only [PyData.showable];exact s1,?_,?_,by simp only [PyData.depth];omega,fun _=>by simp only [PyData.hasDict],fun _=>by simp only [noList]⟩
  · simp only [PyData.leavesShort,decide_eq_true_eq]
    exact Nat.le_trans (PyData.shown_int_le h) (by decide)
  · have:=weight_ints [i] (fun n hn=>by rw [List.mem_singleton.mp hn];exact h)
    simp only [List.map_cons,List.map_nil,PyData.weightAll,List.length_singleton] at this
    omega
end L2
namespace S50
open PySem L2 W7
def treeD (us:List Int) (ls:List Nat):PyData:=.tuple [.tuple (us.map .int),.str (mk ls)]
def knD (kn:Knot):PyData:=.tuple [.str ⟨#[kn.1]⟩,.tuple (kn.2.map .int)]
def netD (us:List Int) (ls:List Nat):PyData:=.tuple ((netK us ls).map knD)
def knotsD (us:List Int) (ls:List Nat):PyData:=.list (((List.range us.length).map fun p=>((W50.num us ls p:Nat):Int)).map .int)
theorem tree_td {H:Hp} {t:Addr} {us:List Int} {ls:List Nat} (h:Trr H t us ls):Td H (.ref t) (treeD us ls):=by
  obtain ⟨u,e1,e2⟩:=h
  exact .tup e1 (.cons (.tup e2 (Tds.ints _)) (.cons (.str _) .nil))
theorem knots_td {H:Hp}:∀ {as:List Addr} {net:List Knot},KnotsAt H as net→Tds H (as.map V.ref) (net.map knD)
  | [],[],_=>.nil
  | [],_ :: _,h=>by have:=h.1;cases this
  | _ :: _,[],h=>by have:=h.1;cases this
  | a :: as,kn :: net,h=>by
    obtain ⟨b,e1,e2⟩:=h.2 0 a kn rfl rfl
    exact .cons (.tup e1 (.cons (.str _) (.cons (.tup e2 (Tds.ints _)) .nil))) (knots_td ⟨by have:=h.1;simpa using this,fun i a kn x y=>h.2 (i+1) a kn (by simpa using x) (by simpa using y)⟩)
theorem net_td {H:Hp} {t:Addr} {us:List Int} {ls:List Nat} (h:NetAt H t (netK us ls)):Td H (.ref t) (netD us ls):=let ⟨_,e,k⟩:=h;.tup e (knots_td k)
theorem knots_td' {H:Hp} {t:Addr} {us:List Int} {ls:List Nat} (h:H t=some (.lst (kV us ls))):Td H (.ref t) (knotsD us ls):=by
  refine .lst h ?_
  have e:kV us ls=((List.range us.length).map fun p=>((W50.num us ls p:Nat):Int)).map V.int:=by unfold kV natV;rw [List.map_map,List.map_map];rfl
  rw [e]
  exact Tds.ints _
theorem ok_us {us:List Int} {ls:List Nat} (ok:W50.Ok us ls):∀ n∈us,n.natAbs≤60:=fun n hn=>by
  obtain ⟨i,hi,e⟩:=List.getElem_of_mem hn
  have eg:us.getD i (-1)=n:=by rw [List.getD_eq_getElem?_getD,List.getElem?_eq_getElem hi];exact e
  have m:=ok.most
  rcases Nat.eq_zero_or_pos i with z | z
  · rw [z,ok.root] at eg;omega
  · have:=ok.up i z hi;omega
theorem ints_gd {ns:List Int} (h:∀ n∈ns,n.natAbs≤60):Gs false true ((41+1) * ns.length) 0 (ns.map PyData.int):=by
  have:=Gs.all (hd:=false) (hl:=true) (c:=41) (e:=0) (ds:=ns.map PyData.int) fun d hd=>by
    obtain ⟨n,hn,rfl⟩:=List.mem_map.mp hd
    exact Gd.int (Nat.lt_of_le_of_lt (h n hn) (by decide))
  rw [List.length_map] at this
  exact this
theorem tree_fit {us:List Int} {ls:List Nat} (ok:W50.Ok us ls):Fit (treeD us ls):=by
  have m:=ok.most
  have l:=ok.len
  have gs:Gd false true (mk ls).cps.size 0 (.str (mk ls)):=Gd.str fun c hc=>by have:=ok.low c hc;omega
  have sz:(mk ls).cps.size=ls.length:=rfl
  rw [sz] at gs
  exact (Gd.tup (Gs.cons (Gd.tup (ints_gd (ok_us ok))) (Gs.one (gs.mono (Nat.le_refl _) (Nat.zero_le 1))))).fit (.inl rfl) (by omega) (by omega)
theorem num_few {us:List Int} {ls:List Nat} (ok:W50.Ok us ls) {r:Nat}:∀ n∈(knK us ls r).2,n.natAbs≤60:=fun n hn=>by
  unfold knK at hn
  obtain ⟨i,hi,rfl⟩:=List.mem_map.mp hn
  obtain ⟨c,hc,rfl⟩:=List.mem_map.mp hi
  have:=W50.num_lt (us:=us) (ls:=ls) (W50.kid_lt hc)
  have:=ok.most
  omega
theorem net_fit {us:List Int} {ls:List Nat} (ok:W50.Ok us ls):Fit (netD us ls):=by
  have m:=ok.most
  have each:∀ d∈(netK us ls).map knD,Gd false true 2600 2 d:=fun d hd=>by
    obtain ⟨kn,hk,rfl⟩:=List.mem_map.mp hd
    unfold netK at hk
    obtain ⟨r,hr,rfl⟩:=List.mem_map.mp hk
    have rl:=W50.R_lt ok.pos _ r hr
    have lw:=W50.lt_low ok rl
    have gs:Gd false true (⟨#[(knK us ls r).1]⟩:Str).cps.size 0 (.str ⟨#[(knK us ls r).1]⟩):=Gd.str fun c hc=>by
      have:c=W50.lt ls r:=by simpa [knK] using hc
      omega
    have few:(knK us ls r).2.length≤60:=by
      unfold knK
      rw [List.length_map,List.length_map]
      have:=kids_len us 0 r
      omega
    have sz:(⟨#[(knK us ls r).1]⟩:Str).cps.size=1:=rfl
    rw [sz] at gs
    exact (Gd.tup (Gs.cons (gs.mono (Nat.le_refl _) (Nat.zero_le 1)) (Gs.one (Gd.tup (ints_gd (num_few ok)))))).mono (by omega) (Nat.le_refl _)
  have g:=Gd.tup (Gs.all each)
  have rl:=W50.R_len (us:=us) (ls:=ls) us.length
  unfold netK at g
  rw [List.length_map,List.length_map] at g
  exact g.fit (.inl rfl) (by omega) (by omega)
theorem knots_fit {us:List Int} {ls:List Nat} (ok:W50.Ok us ls):Fit (knotsD us ls):=by
  have m:=ok.most
  have:=ints_gd (ns:=(List.range us.length).map fun p=>((W50.num us ls p:Nat):Int)) fun n hn=>by
    obtain ⟨p,hp,rfl⟩:=List.mem_map.mp hn
    have:=W50.num_lt (us:=us) (ls:=ls) (List.mem_range.mp hp)
    omega
  rw [List.length_map,List.length_range] at this
  exact (Gd.lst this).fit (.inl rfl) (by omega) (by omega)
section
variable {P:Program} {w:World} {K:PySem.W.Frag} {mg:Str→Option Value} {base:Heap} {k:Nat}
def sp_right:Sp:=fun vs H Q _=>∃ (t:Addr) (us:List Int) (ls:List Nat),vs=[.ref t]∧Trr H t us ls∧W50.Ok us ls∧∀ H',Same H H'→Q (.bl true) H'
theorem has_right (D:Df K mg "_law_right" s_law_right) (B:Blt7 mg) (G_law_folded:Has P w K mg base "_law_folded" k ["tree"] sp_folded) (G_knots_of:Has P w K mg base "knots_of" k ["tree"] sp_knots) (G_folded_net:Has P w K mg base "folded_net" k ["tree"] sp_fnet):Has P w K mg base "_law_right" (k+1) ["tree"] sp_right:=by
  refine D.has sc_law_right (fun _ _ _ _ _ _ us hl=>match us,hl with | [_],_=>rfl) (fun vs H Q E h=>by obtain ⟨t,us,ls,rfl,_⟩:=h;rfl) (fun f cdv A outer s H vs Q E hr h=>?_)
  obtain ⟨t,us,ls,rfl,tr,ok,q⟩:=h
  refine ⟨_,(pss_cons (ps_asg (pe_callH G_law_folded hr rfl (pa_cons (pv 0) pa_nil)) (pg_lst rfl (pgs_cons (pg_name (i:=1) sc_law_right.nd rfl (by first | exact Or.inl rfl | exact Or.inr rfl)) (pgs_cons (pg_name (i:=2) sc_law_right.nd rfl (by first | exact Or.inl rfl | exact Or.inr rfl)) pgs_nil))))
  (pss_cons (ps_set (i:=3) sc_law_right.nd rfl (by first | exact Or.inl rfl | exact Or.inr rfl) (pe_callB (call_repr_any hr) rfl B.repr bt_repr (pa_cons (pv 0) pa_nil)))
  (pss_cons (ps_for PassesOwn.never rfl (pi_range1 rfl B.range (pa_cons pe_int pa_nil)) (pg_name (i:=4) sc_law_right.nd rfl (by first | exact Or.inl rfl | exact Or.inr rfl))
  (pss_cons (ps_set (i:=5) sc_law_right.nd rfl (by first | exact Or.inl rfl | exact Or.inr rfl) (pe_callH G_knots_of hr rfl (pa_cons (pv 0) pa_nil)))
  (pss_cons (ps_if (PW.pt (pw_or (pt_cmpR op_ne (pe_callB (call_repr_any hr) rfl B.repr bt_repr (pa_cons (pe_callH G_folded_net hr rfl (pa_cons (pv 0) pa_nil)) pa_nil)) (pe_callB (call_repr_any hr) rfl B.repr bt_repr (pa_cons (pv 1) pa_nil)) (nomark _)) (pw_or (pt_not (pt_val (pe_callB call_isinst rfl B.isinstance bt_isinstance (pa_cons (pv 5) (pa_cons (pe_bltn (v:=.ty "list") rfl B.list_ bt_list rfl) pa_nil))))) (pw_or1 (pt_cmpR op_ne (pe_callB (call_repr_any hr) rfl B.repr bt_repr (pa_cons (pv 5) pa_nil)) (pe_callB (call_repr_any hr) rfl B.repr bt_repr (pa_cons (pv 2) pa_nil)) (nomark _))))))
  (pss_one (ps_ret pe_bl))
  pss_nil)
  (pss_cons (ps_expr (pe_bm PySem.F.plainAttrs_list PySem.F.slot_list_append PySem.F.type_list_append mt_append (pv 5) (pa_cons pe_int pa_nil)))
  (pss_one (ps_asg (pe_un un_neg pe_int) (pg_sub (pv 5) pe_int set_list)))))))
  (pss_one (ps_ret (pe_cmpR op_eq (pe_callB (call_repr_any hr) rfl B.repr bt_repr (pa_cons (pv 0) pa_nil)) (pv 3) (nomark _))))))),?_⟩
  have m60:=ok.most
  have pos:=ok.pos
  refine ⟨_,rfl,t,us,ls,rfl,tr,ok,fun r a b H1 s1 h1 na hk=>?_⟩
  refine ⟨r,_,rfl,SqL.of h1,rfl,_,_,rfl,_,_,rfl,rfl,?_⟩
  have tr1:=tr.same s1
  refine ⟨_,rfl,_,_,rfl,tree_td tr1,tree_fit ok,?_⟩
  refine ⟨2,rfl,by decide,by decide,?_⟩
  refine for_range (lo:=0) (n:=2) (fun i σ HX=>∃ o4 o5:Option V,σ=[some (.ref t),some (.ref a),some (.ref b),some (.str (treeD us ls).shown),o4,o5]∧Same H1 HX) ⟨none,none,rfl,Same.refl H1⟩ ?_ ?_
  · rintro i σ HX hi ⟨o4,o5,rfl,sX⟩
    have trX:=tr1.same sX
    refine ⟨_,rfl,t,us,ls,rfl,trX,ok,fun r2 H2 s2 fr2 h2=>?_⟩
    refine ⟨_,rfl,t,us,ls,rfl,trX.same s2,ok,fun n3 H3 s3 na3=>?_⟩
    have h23:=s3 _ _ h2
    have s13:=(sX.trans s2).trans s3
    refine ⟨_,_,rfl,net_td na3,net_fit ok,_,rfl,_,_,rfl,net_td (na.same s13),net_fit ok,rfl,_,rfl,iteN' (by rw [decide_eq_true rfl];rfl) ?_⟩
    refine ⟨_,rfl,_,.type "list", "list", true,rfl,.lst h23,kit_same _ _,_,rfl,iteF ?_⟩
    refine ⟨_,rfl,_,_,rfl,knots_td' h23,knots_fit ok,_,rfl,_,_,rfl,knots_td' (s13 _ _ hk),knots_fit ok,rfl,_,rfl,iteN' (by rw [decide_eq_true rfl];rfl) ?_⟩
    have fr:H1 r2=none:=sX.free fr2
    have kl:(kV us ls).length=us.length:=by unfold kV;rw [natV_len,List.length_map,List.length_range]
    refine ⟨_,rfl,.inl ⟨rfl,_,SqL.of h23⟩,r2,_,_,rfl,rfl,h23,by rw [kl];exact small1000 (by omega),?_⟩
    have s5:Same H1 (upd H3 r2 (.lst (kV us ls++[.int 0]))):=s13.write fr
    have h5:upd H3 r2 (.lst (kV us ls++[.int 0])) r2=some (.lst (kV us ls++[.int 0])):=upd_same
    show (fun HH=>_) (upd H3 r2 (.lst (kV us ls++[.int 0])))
    generalize upd H3 r2 (.lst (kV us ls++[.int 0]))=H5 at s5 h5
    refine ⟨_,rfl,_,rfl,r2,_,_,0,rfl,rfl,h5,?_,?_⟩
    · rw [List.length_append];exact ixN_at (by decide) (by show (0:Int) < ((_+1:Nat):Int);omega)
    · exact ⟨_,_,rfl,s5.write fr⟩
  · rintro σ HX ⟨o4,o5,rfl,sX⟩
    refine ⟨_,rfl,_,_,rfl,tree_td (tr1.same sX),tree_fit ok,_,rfl,rfl,?_⟩
    rw [decide_eq_true (rfl:V.str (treeD us ls).shown=V.str (treeD us ls).shown)]
    exact q HX (s1.trans sX)
end
end S50
namespace S50
open PySem L2 W7
def okB (us:List Int) (ls:List Nat):Bool:=decide (ls.length=us.length) && decide (0 < us.length) && decide (us.length≤60) && decide (us.getD 0 (-1)=-1) && ((List.range us.length).all fun k=>decide (k=0) || (decide (0≤us.getD k (-1)) && decide (us.getD k (-1) < (k:Int)))) && (ls.all fun c=>decide (97≤c) && decide (c < 123))
theorem ok_of {us:List Int} {ls:List Nat} (h:okB us ls=true):W50.Ok us ls:=by
  unfold okB at h
  simp only [Bool.and_eq_true,decide_eq_true_eq] at h
  obtain ⟨⟨⟨⟨⟨h1,h2⟩,h3⟩,h4⟩,h5⟩,h6⟩:=h
  refine ⟨h1,h2,h3,h4,fun k k0 kl=>?_,fun c hc=>?_⟩
  · have:=List.all_eq_true.mp h5 k (List.mem_range.mpr kl)
    rw [Bool.or_eq_true,decide_eq_true_eq,Bool.and_eq_true,decide_eq_true_eq,decide_eq_true_eq] at this
    rcases this with z | z
    · omega
    · exact z
  · have:=List.all_eq_true.mp h6 c hc
    rw [Bool.and_eq_true,decide_eq_true_eq,decide_eq_true_eq] at this
    exact this
theorem mul_ok {z:Str} {n:Int} (hz:z.length≤2) (h0:-100000≤n) (h1:n≤61):MulOk z n:=by
  by_cases h:n < 1
  · exact ⟨by rw [decide_eq_false (by omega),decide_eq_false (by omega)];rfl,fun k=>absurd h k,fun k=>absurd h k⟩
  · exact PyProof.Rows.mulOk_of 2 61 hz (by omega) (by omega) (by decide) (by decide)
def RowAt (H:Hp) (v:V):Prop:=∃ (t:Addr) (us:List Int) (ls:List Nat),v=.ref t∧Trr H t us ls∧W50.Ok us ls
theorem RowAt.same {H H':Hp} {v:V} (h:RowAt H v) (s:Same H H'):RowAt H' v:=let ⟨t,us,ls,e,x,o⟩:=h;⟨t,us,ls,e,x.same s,o⟩
theorem RowAt.tups {H H':Hp} {v:V} (h:RowAt H v) (s:∀ c ys,H c=some (.tup ys)→H' c=some (.tup ys)):RowAt H' v:=let ⟨t,us,ls,e,⟨u,a,b⟩,o⟩:=h;⟨t,us,ls,e,⟨u,s _ _ a,s _ _ b⟩,o⟩
theorem row_of {H:Hp} {t u:Addr} {us:List Int} {ls:List Nat} {xs:List V} {z:Str} (ht:H t=some (.tup [.ref u,.str z])) (hu:H u=some (.tup xs)) (e1:xs=us.map V.int) (e2:z=mk ls) (h:okB us ls=true):RowAt H (.ref t):=by
  subst e1 e2
  exact ⟨t,us,ls,rfl,⟨u,ht,hu⟩,ok_of h⟩
section
variable {P:Program} {w:World} {K:PySem.W.Frag} {mg:Str→Option Value} {base:Heap} {k:Nat}
def sp_law (K:PySem.W.Frag):Sp:=fun vs H Q _=>∃ (a:Addr) (ns:List Int),vs=[.ref a]∧SqL K H a (ns.map V.int)∧ns.length≤63∧∀ H',Q (.bl true) H'
theorem ok_law {f:Addr} {fd:FuncData} (F:Fun K "law" "law" s_law f fd) (B:Blt7 mg) (G_law_store:Has P w K mg base "_law_store" k ["cell", "k"] sp_store) (G_law_tree:Has P w K mg base "_law_tree" k ["store"] sp_tree) (G_law_right:Has P w K mg base "_law_right" k ["tree"] sp_right):FnOk P w K mg base CX0 (k+1) f fd ["script"] (sp_law K):=by
  refine F.ok sc_law (fun vs H Q E h=>by obtain ⟨a,ns,rfl,_⟩:=h;rfl) (fun cdv A outer s H vs Q E hr h=>?_)
  obtain ⟨a,ns,rfl,hS,h63,q⟩:=h
  refine ⟨_,(pss_cons (ps_for PassesOwn.never rfl (pi_list (pe_op op_cat (pe_slice sl_list (pv 0) po_none (po_some pe_int)) (pe_lst (pa_cons (pe_callB call_len_seq rfl B.len bt_len (pa_cons (pv 0) pa_nil)) pa_nil)))) (pg_name (i:=1) sc_law.nd rfl (by first | exact Or.inl rfl | exact Or.inr rfl))
  (pss_one (ps_if (pt_not (pt_val (pe_callH G_law_right hr rfl (pa_cons (pe_callH G_law_tree hr rfl (pa_cons (pe_callH G_law_store hr rfl (pa_cons (pv 1) (pa_cons (pe_callB call_len_seq rfl B.len bt_len (pa_cons (pv 0) pa_nil)) pa_nil))) pa_nil)) pa_nil))))
  (pss_one (ps_ret pe_bl))
  pss_nil)))
  (pss_cons (ps_set (i:=2) sc_law.nd rfl (by first | exact Or.inl rfl | exact Or.inr rfl) (pe_lst (pa_cons (pe_tup (pa_cons (pe_callTy (call_tuple_rng rfl) rfl B.tuple_ bt_tuple (pa_cons (pe_rng2 rfl B.range (pa_cons (pe_un un_neg pe_int) (pa_cons pe_int pa_nil))) pa_nil)) (pa_cons (pe_op op_mul_str pe_str pe_int) pa_nil))) (pa_cons (pe_tup (pa_cons (pe_op op_catT (pe_tup (pa_cons (pe_un un_neg pe_int) pa_nil)) (pe_op op_repT (pe_tup (pa_cons pe_int pa_nil)) pe_int)) (pa_cons (pe_op op_mul_str pe_str pe_int) pa_nil))) (pa_cons (pe_tup (pa_cons (pe_tup (pa_cons (pe_un un_neg pe_int) pa_nil)) (pa_cons pe_str pa_nil))) (pa_cons (pe_tup (pa_cons (pe_tup (pa_cons (pe_un un_neg pe_int) (pa_cons pe_int (pa_cons pe_int (pa_cons pe_int pa_nil))))) (pa_cons pe_str pa_nil))) pa_nil))))))
  (pss_cons (ps_set (i:=2) sc_law.nd rfl (by first | exact Or.inl rfl | exact Or.inr rfl) (pe_op op_cat (pv 2) (pe_lst (pa_cons (pe_tup (pa_cons (pe_tup (pa_cons (pe_un un_neg pe_int) (pa_cons pe_int (pa_cons pe_int (pa_cons pe_int (pa_cons pe_int pa_nil)))))) (pa_cons pe_str pa_nil))) (pa_cons (pe_tup (pa_cons (pe_tup (pa_cons (pe_un un_neg pe_int) (pa_cons pe_int (pa_cons pe_int (pa_cons pe_int (pa_cons pe_int (pa_cons pe_int (pa_cons pe_int pa_nil)))))))) (pa_cons pe_str pa_nil))) pa_nil)))))
  (pss_cons (ps_expr (pe_bm PySem.F.plainAttrs_list PySem.F.slot_list_append PySem.F.type_list_append mt_append (pv 2) (pa_cons (pe_tup (pa_cons (pe_tup (pa_cons (pe_un un_neg pe_int) (pa_cons pe_int (pa_cons pe_int (pa_cons pe_int (pa_cons pe_int (pa_cons pe_int (pa_cons pe_int pa_nil)))))))) (pa_cons pe_str pa_nil))) pa_nil)))
  (pss_one (ps_ret (pe_cmpR (op_eq_nil hr.units0) (pe_comp rfl (pi_list (pv 2)) (NL:=["tree"]) (ix:=[]) (csc (defScope s_law) N_law) (fun cl C s₃ H₃ fp pins=>⟨(pg_name (i:=0) (show List.Nodup (["tree"]:List Str) from by decide +kernel) rfl (by first | exact Or.inl rfl | exact Or.inr rfl)),(pifs_one (pt_not (pt_val (pe_callH G_law_right hr rfl (pa_cons (pv 0) pa_nil))))),(pv 0)⟩)) (pe_lst pa_nil) (nomark _)))))))),?_⟩
  refine ⟨_,rfl,_,rfl,a,_,rfl,hS,fun r1 hr1=>?_⟩
  obtain ⟨zs,ez,zl⟩:∃ zs:List Int,cutV (ns.map V.int) none (some 16)=zs.map V.int∧zs.length≤63:=by
    refine ⟨(ns.drop (HT.sIx (ns.map V.int).length 0 none)).take (HT.sIx (ns.map V.int).length (ns.map V.int).length (some 16) - HT.sIx (ns.map V.int).length 0 none),?_,?_⟩
    · unfold cutV;rw [List.map_take,List.map_drop]
    · rw [List.length_take,List.length_drop];omega
  rw [ez]
  have s1:Same H (upd H r1 (.lst (zs.map V.int))):=(Same.refl H).new hr1
  have h1a:upd H r1 (.lst (zs.map V.int)) r1=some (.lst (zs.map V.int)):=upd_same
  show (fun HH=>_) (upd H r1 (.lst (zs.map V.int)))
  generalize upd H r1 (.lst (zs.map V.int))=H1 at s1 h1a
  refine ⟨_,rfl,a,_,rfl,.inl (SqL.keepS hS s1),(by show 1≤sizeLine;decide),fun r2 hr2=>?_⟩
  rw [List.length_map]
  have s2:Same H1 (upd H1 r2 (.lst [.int (ns.length:Int)])):=(Same.refl H1).new hr2
  have h2a:upd H1 r2 (.lst [.int (ns.length:Int)]) r2=some (.lst [.int (ns.length:Int)]):=upd_same
  show (fun HH=>_) (upd H1 r2 (.lst [.int (ns.length:Int)]))
  generalize upd H1 r2 (.lst [.int (ns.length:Int)])=H2 at s2 h2a
  refine ⟨r1,r2,_,_,rfl,rfl,s2 _ _ h1a,h2a,by rw [List.length_map];show _+1≤_;exact Nat.le_of_lt (small1000 (by omega)),fun r hr3=>?_⟩
  have s3:Same H2 (upd H2 r (.lst (zs.map V.int++[.int (ns.length:Int)]))):=(Same.refl H2).new hr3
  have h3a:upd H2 r (.lst (zs.map V.int++[.int (ns.length:Int)])) r=some (.lst (zs.map V.int++[.int (ns.length:Int)])):=upd_same
  show (fun HH=>_) (upd H2 r (.lst (zs.map V.int++[.int (ns.length:Int)])))
  generalize upd H2 r (.lst (zs.map V.int++[.int (ns.length:Int)]))=H3 at s3 h3a
  have s03:Same H H3:=(s1.trans s2).trans s3
  refine ⟨r,rfl,⟨_,SqL.of h3a⟩,?_⟩
  refine for_list (K:=K) (xs:=zs.map V.int++[.int (ns.length:Int)]) (fun i σ HX=>∃ o1:Option V,σ=[some (.ref a),o1,none]∧Same H3 HX) ⟨none,rfl,Same.refl H3⟩ (fun i σ HX _ h=>by obtain ⟨_,_,s⟩:=h;exact SqL.of (s _ _ h3a)) ?_ ?_
  · rintro i x σ HX hx ⟨o1,rfl,sX⟩
    obtain ⟨cell,rfl⟩:∃ cell:Int,x=.int cell:=by
      have:=List.mem_of_getElem? hx
      rcases List.mem_append.mp this with m | m
      · obtain ⟨c,_,rfl⟩:=List.mem_map.mp m;exact ⟨c,rfl⟩
      · exact ⟨_,List.mem_singleton.mp m⟩
    have s0X:=s03.trans sX
    refine ⟨_,rfl,_,rfl,a,_,rfl,.inl (SqL.keepS hS s0X),cell,_,rfl,by rw [List.length_map];omega,by rw [List.length_map];omega,fun p G1 fp e1 dk=>?_⟩
    rw [List.length_map] at dk
    refine ⟨p,_,rfl,dk,by omega,by omega,fun t us ls G2 kd tr ok=>?_⟩
    have e2:Same HX G2:=fun b o e=>kd.keep b o (ne_of_none e fp) (e1 b o e)
    refine ⟨t,us,ls,rfl,tr,ok,fun G3 e3=>⟨_,rfl,iteF ?_⟩⟩
    exact ⟨_,rfl,sX.trans (e2.trans e3)⟩
  rintro σ HX ⟨o1,rfl,sX⟩
  refine ⟨_,rfl,_,_,rfl,fun rg hrg=>?_⟩
  generalize hg1:upd HX rg _=G1
  have e1:Same HX G1:=by rw [← hg1];exact (Same.refl HX).new hrg
  have w1:G1 rg=some (.rng (-1) 59):=by rw [← hg1];exact upd_same
  clear hg1
  refine ⟨rg,_,_,rfl,w1,⟨by decide,by decide,by decide,by decide⟩,by decide,fun t1 ht1=>?_⟩
  generalize hg2:upd G1 t1 _=G2
  have e2:Same G1 G2:=by rw [← hg2];exact (Same.refl G1).new ht1
  have w2:G2 t1=some (.tup (rngV (-1) 60)):=by rw [← hg2];exact upd_same
  clear hg2
  refine ⟨_,_,rfl,rfl,mul_ok (by decide) (by decide) (by decide),?_⟩
  refine ⟨(by show 2≤sizeLine;decide),fun p1 hp1=>?_⟩
  generalize hg3:upd G2 p1 _=G3
  have e3:Same G2 G3:=by rw [← hg3];exact (Same.refl G2).new hp1
  have w3:G3 p1=some (.tup [.ref t1,.str (Txt.mul (Str.ofString "ab") 30)]):=by rw [← hg3];exact upd_same
  clear hg3
  have row1:RowAt G3 (.ref p1):=row_of (us:=((List.range 60).map fun i:Nat=>(i:Int) - 1)) (ls:=(List.replicate 30 [97,98]).flatten) w3 (e3 _ _ w2) (by decide +kernel) (by decide +kernel) (by decide +kernel)
  refine ⟨_,rfl,(by show 1≤sizeLine;decide),fun a1 ha1=>?_⟩
  generalize hg4:upd G3 a1 _=G4
  have e4:Same G3 G4:=by rw [← hg4];exact (Same.refl G3).new ha1
  have w4:G4 a1=some (.tup [.int (-1)]):=by rw [← hg4];exact upd_same
  clear hg4
  refine ⟨(by show 1≤sizeLine;decide),fun a2 ha2=>?_⟩
  generalize hg5:upd G4 a2 _=G5
  have e5:Same G4 G5:=by rw [← hg5];exact (Same.refl G4).new ha2
  have w5:G5 a2=some (.tup [.int 0]):=by rw [← hg5];exact upd_same
  clear hg5
  refine ⟨a2,_,_,rfl,rfl,SqT.of w5,by decide,by decide,fun a3 ha3=>?_⟩
  generalize hg6:upd G5 a3 _=G6
  have e6:Same G5 G6:=by rw [← hg6];exact (Same.refl G5).new ha3
  have w6:G6 a3=some (.tup (List.replicate 59 (V.int 0))):=by rw [← hg6];exact upd_same
  clear hg6
  refine ⟨a1,a3,_,_,rfl,rfl,SqT.of ((e5.trans e6) _ _ w4),SqT.of w6,(fun z=>by cases z),(by decide),(fun z=>by cases z),fun _ t2 ht2=>?_⟩
  generalize hg7:upd G6 t2 _=G7
  have e7:Same G6 G7:=by rw [← hg7];exact (Same.refl G6).new ht2
  have w7:G7 t2=some (.tup ([V.int (-1)]++List.replicate 59 (V.int 0))):=by rw [← hg7];exact upd_same
  clear hg7
  refine ⟨_,_,rfl,rfl,mul_ok (by decide) (by decide) (by decide),?_⟩
  refine ⟨(by show 2≤sizeLine;decide),fun p2 hp2=>?_⟩
  generalize hg8:upd G7 p2 _=G8
  have e8:Same G7 G8:=by rw [← hg8];exact (Same.refl G7).new hp2
  have w8:G8 p2=some (.tup [.ref t2,.str (Txt.mul (Str.ofString "a") 60)]):=by rw [← hg8];exact upd_same
  clear hg8
  have row2:RowAt G8 (.ref p2):=row_of (us:=([-1]++List.replicate 59 0)) (ls:=(List.replicate 60 97)) w8 (e8 _ _ w7) (by decide +kernel) (by decide +kernel) (by decide +kernel)
  refine ⟨_,rfl,(by show 1≤sizeLine;decide),fun t3 ht3=>?_⟩
  generalize hg9:upd G8 t3 _=G9
  have e9:Same G8 G9:=by rw [← hg9];exact (Same.refl G8).new ht3
  have w9:G9 t3=some (.tup [V.int (-1)]):=by rw [← hg9];exact upd_same
  clear hg9
  refine ⟨(by show 2≤sizeLine;decide),fun p3 hp3=>?_⟩
  generalize hg10:upd G9 p3 _=G10
  have e10:Same G9 G10:=by rw [← hg10];exact (Same.refl G9).new hp3
  have w10:G10 p3=some (.tup [.ref t3,.str (Str.ofString "z")]):=by rw [← hg10];exact upd_same
  clear hg10
  have row3:RowAt G10 (.ref p3):=row_of (us:=[-1]) (ls:=[122]) w10 (e10 _ _ w9) rfl rfl (by decide +kernel)
  refine ⟨_,rfl,(by show 4≤sizeLine;decide),fun t4 ht4=>?_⟩
  generalize hg11:upd G10 t4 _=G11
  have e11:Same G10 G11:=by rw [← hg11];exact (Same.refl G10).new ht4
  have w11:G11 t4=some (.tup [V.int (-1),V.int 0,V.int 0,V.int 2]):=by rw [← hg11];exact upd_same
  clear hg11
  refine ⟨(by show 2≤sizeLine;decide),fun p4 hp4=>?_⟩
  generalize hg12:upd G11 p4 _=G12
  have e12:Same G11 G12:=by rw [← hg12];exact (Same.refl G11).new hp4
  have w12:G12 p4=some (.tup [.ref t4,.str (Str.ofString "abab")]):=by rw [← hg12];exact upd_same
  clear hg12
  have row4:RowAt G12 (.ref p4):=row_of (us:=[-1,0,0,2]) (ls:=[97,98,97,98]) w12 (e12 _ _ w11) rfl rfl (by decide +kernel)
  refine ⟨(by show 4≤sizeLine;decide),fun l1 hl1=>?_⟩
  generalize hg13:upd G12 l1 _=G13
  have e13:Same G12 G13:=by rw [← hg13];exact (Same.refl G12).new hl1
  have w13:G13 l1=some (.lst [.ref p1,.ref p2,.ref p3,.ref p4]):=by rw [← hg13];exact upd_same
  clear hg13
  refine ⟨_,rfl,?_⟩
  refine ⟨_,rfl,(by show 5≤sizeLine;decide),fun t5 ht5=>?_⟩
  generalize hg14:upd G13 t5 _=G14
  have e14:Same G13 G14:=by rw [← hg14];exact (Same.refl G13).new ht5
  have w14:G14 t5=some (.tup [V.int (-1),V.int 0,V.int 1,V.int 0,V.int 3]):=by rw [← hg14];exact upd_same
  clear hg14
  refine ⟨(by show 2≤sizeLine;decide),fun p5 hp5=>?_⟩
  generalize hg15:upd G14 p5 _=G15
  have e15:Same G14 G15:=by rw [← hg15];exact (Same.refl G14).new hp5
  have w15:G15 p5=some (.tup [.ref t5,.str (Str.ofString "aabab")]):=by rw [← hg15];exact upd_same
  clear hg15
  have row5:RowAt G15 (.ref p5):=row_of (us:=[-1,0,1,0,3]) (ls:=[97,97,98,97,98]) w15 (e15 _ _ w14) rfl rfl (by decide +kernel)
  refine ⟨_,rfl,(by show 7≤sizeLine;decide),fun t6 ht6=>?_⟩
  generalize hg16:upd G15 t6 _=G16
  have e16:Same G15 G16:=by rw [← hg16];exact (Same.refl G15).new ht6
  have w16:G16 t6=some (.tup [V.int (-1),V.int 0,V.int 1,V.int 1,V.int 0,V.int 4,V.int 4]):=by rw [← hg16];exact upd_same
  clear hg16
  refine ⟨(by show 2≤sizeLine;decide),fun p6 hp6=>?_⟩
  generalize hg17:upd G16 p6 _=G17
  have e17:Same G16 G17:=by rw [← hg17];exact (Same.refl G16).new hp6
  have w17:G17 p6=some (.tup [.ref t6,.str (Str.ofString "abcdbcd")]):=by rw [← hg17];exact upd_same
  clear hg17
  have row6:RowAt G17 (.ref p6):=row_of (us:=[-1,0,1,1,0,4,4]) (ls:=[97,98,99,100,98,99,100]) w17 (e17 _ _ w16) rfl rfl (by decide +kernel)
  refine ⟨(by show 2≤sizeLine;decide),fun l2 hl2=>?_⟩
  generalize hg18:upd G17 l2 _=G18
  have e18:Same G17 G18:=by rw [← hg18];exact (Same.refl G17).new hl2
  have w18:G18 l2=some (.lst [.ref p5,.ref p6]):=by rw [← hg18];exact upd_same
  clear hg18
  refine ⟨l1,l2,_,_,rfl,rfl,(((((e14.trans e15).trans e16).trans e17).trans e18) _ _ w13),w18,(by show 4+2≤sizeLine;decide),fun l3 hl3=>?_⟩
  generalize hg19:upd G18 l3 _=G19
  have e19:Same G18 G19:=by rw [← hg19];exact (Same.refl G18).new hl3
  have w19:G19 l3=some (.lst ([.ref p1,.ref p2,.ref p3,.ref p4]++[.ref p5,.ref p6])):=by rw [← hg19];exact upd_same
  clear hg19
  refine ⟨_,rfl,.inl ⟨rfl,_,SqL.of w19⟩,?_⟩
  refine ⟨_,rfl,(by show 7≤sizeLine;decide),fun t7 ht7=>?_⟩
  generalize hg20:upd G19 t7 _=G20
  have e20:Same G19 G20:=by rw [← hg20];exact (Same.refl G19).new ht7
  have w20:G20 t7=some (.tup [V.int (-1),V.int 0,V.int 1,V.int 1,V.int 0,V.int 4,V.int 4]):=by rw [← hg20];exact upd_same
  clear hg20
  refine ⟨(by show 2≤sizeLine;decide),fun p7 hp7=>?_⟩
  generalize hg21:upd G20 p7 _=G21
  have e21:Same G20 G21:=by rw [← hg21];exact (Same.refl G20).new hp7
  have w21:G21 p7=some (.tup [.ref t7,.str (Str.ofString "abcdbdc")]):=by rw [← hg21];exact upd_same
  clear hg21
  have row7:RowAt G21 (.ref p7):=row_of (us:=[-1,0,1,1,0,4,4]) (ls:=[97,98,99,100,98,100,99]) w21 (e21 _ _ w20) rfl rfl (by decide +kernel)
  refine ⟨l3,_,_,rfl,rfl,((e20.trans e21) _ _ w19),(by show 6 < sizeLine;decide),?_⟩
  generalize hg22:upd G21 l3 _=GL
  have wl:GL l3=some (.lst ([.ref p1,.ref p2,.ref p3,.ref p4]++[.ref p5,.ref p6]++[.ref p7])):=by rw [← hg22];exact upd_same
  have kt:∀ c ys,G21 c=some (.tup ys)→GL c=some (.tup ys):=fun c ys e=>by rw [← hg22,upd_ne (fun z=>by rw [z,((e20.trans e21) _ _ w19)] at e;cases e)];exact e
  clear hg22
  have all:∀ (x:V) (j:Nat),([V.ref p1,.ref p2,.ref p3,.ref p4]++[.ref p5,.ref p6]++[.ref p7])[j]?=some x→RowAt GL x:=by
    intro x j hx
    have:=List.mem_of_getElem? hx
    simp only [List.cons_append,List.nil_append,List.mem_cons,List.not_mem_nil,or_false] at this
    rcases this with rfl | rfl | rfl | rfl | rfl | rfl | rfl
    · exact (row1.same (((((((((((((((((e4.trans e5).trans e6).trans e7).trans e8).trans e9).trans e10).trans e11).trans e12).trans e13).trans e14).trans e15).trans e16).trans e17).trans e18).trans e19).trans e20).trans e21)).tups kt
    · exact (row2.same ((((((((((((e9.trans e10).trans e11).trans e12).trans e13).trans e14).trans e15).trans e16).trans e17).trans e18).trans e19).trans e20).trans e21)).tups kt
    · exact (row3.same ((((((((((e11.trans e12).trans e13).trans e14).trans e15).trans e16).trans e17).trans e18).trans e19).trans e20).trans e21)).tups kt
    · exact (row4.same ((((((((e13.trans e14).trans e15).trans e16).trans e17).trans e18).trans e19).trans e20).trans e21)).tups kt
    · exact (row5.same (((((e16.trans e17).trans e18).trans e19).trans e20).trans e21)).tups kt
    · exact (row6.same (((e18.trans e19).trans e20).trans e21)).tups kt
    · exact row7.tups kt
  refine ⟨_,rfl,l3,rfl,⟨_,SqL.of wl⟩,fun acc hacc=>?_⟩
  refine comp_lst (xs:=[V.ref p1,.ref p2,.ref p3,.ref p4]++[.ref p5,.ref p6]++[.ref p7]) (by show 7 < 1000;decide) (fun j ys HY=>HY acc=some (.lst ys)∧ys=[]∧Same GL HY)
    (fun j ys HY h=>SqL.of (h.2.2 _ _ wl)) (fun j ys HY h=>⟨h.1,by rw [h.2.1];exact Nat.zero_le _⟩) ⟨upd_same,rfl,(Same.refl GL).new hacc⟩ ?_ ?_
  · rintro ys HY ⟨g1,rfl,g3⟩
    refine ⟨(by show 0≤sizeLine;decide),fun e he=>?_⟩
    exact ⟨acc,e,[],rfl,rfl,SqL.of (((Same.refl HY).new he) _ _ g1),SqL.of upd_same,q _⟩
  · rintro j x ys HY hx ⟨g1,rfl,g3⟩
    obtain ⟨t,us,ls,rfl,tr,ok⟩:=(all x j hx).same g3
    refine ⟨rfl,?_⟩
    refine ⟨_,rfl,t,us,ls,rfl,tr,ok,fun G3 e3=>⟨true,rfl,iteF ?_⟩⟩
    exact ⟨e3 _ _ g1,rfl,g3.trans e3⟩
end
end S50
namespace S50
open PySem L2 W7
theorem df_mk {K:PySem.W.Frag} {h:Heap} {mg:Str→Option Value} {x:Str} {st:Stmt} {f:Addr} {oc:Value} {od an:Option Addr} {osl:Array (Option Value)} {kV doc pm cdv ct:Value} (X:K.In h) (G:h.Ns mainGlobals mg)
    (a:PySem.W.nsIn K mainGlobals x=some (some (.ref f))) (l:K.lookup f=some ⟨oc,od,.func (PySem.W.fnOf x x (defArgs st) (defBody st) (defScope st) .none kV doc pm an cdv ct),osl⟩) (c:PySem.W.codeIn K cdv x=true) (kk:PySem.W.keepIn K (.ref f)=true):Df K mg x st:=
  ⟨f,_,fun_mk l c kk,PySem.W.mg_of X G a⟩
theorem made_mkFolding {K:PySem.W.Frag} {h:Heap} {mg:Str→Option Value} {C f1 f2 f3:Addr} (X:K.In h) (G:h.Ns mainGlobals mg) {od1 an1 od2 an2 od3 an3:Option Addr} {sl1 sl2 sl3:Array (Option Value)} {oc1 kV1 dc1 pm1 cd1 ct1 oc2 kV2 dc2 pm2 cd2 ct2 oc3 kV3 dc3 pm3 cd3 ct3:Value}
    (aC:PySem.W.nsIn K mainGlobals "Folding" = some (some (.ref C)))
     (a1:PySem.W.findIn K (.ref C) "__init__" = some (some (.ref f1))) (i1:PySem.W.isFn K (.ref f1)=true) (l1:K.lookup f1=some ⟨oc1,od1,.func (PySem.W.fnOf "__init__" "Folding.__init__" (defArgs s_Folding___init__) (defBody s_Folding___init__) (defScope s_Folding___init__) .none kV1 dc1 pm1 an1 cd1 ct1),sl1⟩) (c1:PySem.W.codeIn K cd1 "Folding.__init__" = true) (k1:PySem.W.keepIn K (.ref f1)=true)
     (a2:PySem.W.findIn K (.ref C) "knot_for" = some (some (.ref f2))) (i2:PySem.W.isFn K (.ref f2)=true) (l2:K.lookup f2=some ⟨oc2,od2,.func (PySem.W.fnOf "knot_for" "Folding.knot_for" (defArgs s_Folding_knot_for) (defBody s_Folding_knot_for) (defScope s_Folding_knot_for) .none kV2 dc2 pm2 an2 cd2 ct2),sl2⟩) (c2:PySem.W.codeIn K cd2 "Folding.knot_for" = true) (k2:PySem.W.keepIn K (.ref f2)=true)
     (a3:PySem.W.findIn K (.ref C) "told_knots" = some (some (.ref f3))) (i3:PySem.W.isFn K (.ref f3)=true) (l3:K.lookup f3=some ⟨oc3,od3,.func (PySem.W.fnOf "told_knots" "Folding.told_knots" (defArgs s_Folding_told_knots) (defBody s_Folding_told_knots) (defScope s_Folding_told_knots) .none kV3 dc3 pm3 an3 cd3 ct3),sl3⟩) (c3:PySem.W.codeIn K cd3 "Folding.told_knots" = true) (k3:PySem.W.keepIn K (.ref f3)=true)
    (pg:PySem.W.plainGet K C Str.empty=true) (hd:PySem.W.hasDictIn K C=true) (po:PySem.W.plainOver K C=true) (sa:PySem.W.findIn K (.ref C) "__setattr__" = some (some (.builtin "object.__setattr__"))) (mk:PySem.W.makesIn K C=true) (kc:PySem.W.keepIn K (.ref C)=true) (nknown:PySem.W.findIn K (.ref C) "known" = some none):Made K mg:=
  ⟨C,f1,f2,f3,_,_,_,⟨⟨pg,hd,po,sa⟩,nknown,PySem.W.mg_of X G aC⟩,⟨mk,a1,i1,kc⟩,fun_mk l1 c1 k1,⟨a2,i2,k2⟩,fun_mk l2 c2 k2,⟨a3,i3,k3⟩,fun_mk l3 c3 k3⟩
theorem blt_mk {K:PySem.W.Frag} {h:Heap} {mg:Str→Option Value} (X:K.In h) (G:h.Ns mainGlobals mg)
    (z1:PySem.W.nsIn K mainGlobals "len" = some none) (z2:PySem.W.nsIn K mainGlobals "range" = some none) (z3:PySem.W.nsIn K mainGlobals "zip" = some none) (z4:PySem.W.nsIn K mainGlobals "enumerate" = some none)
    (z5:PySem.W.nsIn K mainGlobals "max" = some none) (z6:PySem.W.nsIn K mainGlobals "min" = some none) (z7:PySem.W.nsIn K mainGlobals "int" = some none) (z8:PySem.W.nsIn K mainGlobals "str" = some none)
    (z9:PySem.W.nsIn K mainGlobals "bool" = some none) (z10:PySem.W.nsIn K mainGlobals "list" = some none) (z11:PySem.W.nsIn K mainGlobals "tuple" = some none) (z12:PySem.W.nsIn K mainGlobals "isinstance" = some none):Blt mg:=
  ⟨PySem.W.mg_none_of X G z1,PySem.W.mg_none_of X G z2,PySem.W.mg_none_of X G z3,PySem.W.mg_none_of X G z4,PySem.W.mg_none_of X G z5,PySem.W.mg_none_of X G z6,PySem.W.mg_none_of X G z7,PySem.W.mg_none_of X G z8,
    PySem.W.mg_none_of X G z9,PySem.W.mg_none_of X G z10,PySem.W.mg_none_of X G z11,PySem.W.mg_none_of X G z12⟩
theorem all_ok {P:Program} {w:World} {K:PySem.W.Frag} {mg:Str→Option Value} {fa:Addr} (hfa:mg "law" = some (.ref fa)) (B:Blt7 mg)
    (d1:Df K mg "beneath_of" s_beneath_of) (d2:Df K mg "fold_tree" s_fold_tree) (d3:Df K mg "folded_net" s_folded_net) (d4:Df K mg "knots_of" s_knots_of) (d5:Df K mg "_law_store" s_law_store) (d6:Df K mg "_law_draw" s_law_draw) (d7:Df K mg "_law_net" s_law_net) (d8:Df K mg "_law_sizes" s_law_sizes) (d9:Df K mg "_law_cut" s_law_cut) (d10:Df K mg "_law_unfolded" s_law_unfolded) (d11:Df K mg "_law_tree" s_law_tree) (d12:Df K mg "_law_folded" s_law_folded) (d13:Df K mg "_law_right" s_law_right) (d14:Df K mg "law" s_law) (M:Made K mg) :
    ∃ fd:FuncData,(∀ (s:Shared) (v:Value),BindsTo s fd ⟨[v],[]⟩ [("script", v)])∧∀ base:Heap,FnOk P w K mg base CX0 12 fa fd ["script"] (sp_law K):=by
  obtain ⟨f,fd,F,m⟩:=d14
  have e:=hfa.symm.trans m
  cases e
  refine ⟨fd,?_,fun base=>?_⟩
  · obtain ⟨oc,od,kV,doc,pm,an,cdv,ct,osl,rfl,_,_⟩:=F.ex
    exact fun s v=>.of_eq rfl
  have g_store:=has_store (P:=P) (w:=w) (base:=base) (k:=0) d5 B
  have g_draw:=has_draw (P:=P) (w:=w) (base:=base) (k:=0) d6 B
  have g_net:=has_net (k:=1) d7 B g_draw
  have g_lsizes:=has_lsizes (P:=P) (w:=w) (base:=base) (k:=0) d8 B
  have g_unf:=has_unf (P:=P) (w:=w) (base:=base) (k:=0) d10 B
  have g_cut:=has_cut (k:=1) d9 B g_lsizes
  have g_tree:=has_tree (k:=2) d11 B (g_draw.mono (by decide)) g_net g_cut (g_unf.mono (by decide))
  have g_ben:=has_ben (P:=P) (w:=w) (base:=base) (k:=0) d1 B
  have g_fnet:=has_fnet (k:=0) d3 d2 B M g_ben
  have g_knots:=has_knots (k:=0) d4 d2 B M g_ben
  have g_folded:=has_folded (P:=P) (w:=w) (base:=base) (k:=0) d12 B
  have g_right:=has_right (k:=3) d13 B (g_folded.mono (by decide)) g_knots g_fnet
  exact (ok_law (k:=4) F B (g_store.mono (by decide)) (g_tree.mono (by decide)) g_right).mono (by decide)
end S50
open PySem PySem.W PyProof.Rows
set_option maxRecDepth 100000 in
set_option maxHeartbeats 0 in
theorem PySem.Challenge.cw_upwords_k50_trees_folded_holds : PySem.Challenge.rw_upwords_k50_trees_folded.Holds := by
  w_on; o_law; k_head; (case hw => w_witness2)
  k_fill
  refine L2.walk_ofK (l := PySem.Challenge.rw_upwords_k50_trees_folded) (n := 63) (k := 12) (x := "script") (CX := L2.CX0) (sp := S50.sp_law) rfl (by decide) rfl ⟨rfl, by decide, by decide, rfl⟩ (fun w h Y => PySem.W.kIn_of Y) ?F
    (fun K H a ns hl _ hS => ⟨a, ns, rfl, hS, hl, fun _ => rfl⟩) (fun _ _ _ _ z => z)
  case F =>
    intro w mg fa h KX G hmg
    have B : L2.Blt mg := by
      refine' S50.blt_mk KX G ?z1 ?z2 ?z3 ?z4 ?z5 ?z6 ?z7 ?z8 ?z9 ?z10 ?z11 ?z12
      (case z1 => k_is); (case z2 => k_is); (case z3 => k_is); (case z4 => k_is); (case z5 => k_is); (case z6 => k_is); (case z7 => k_is); (case z8 => k_is); (case z9 => k_is); (case z10 => k_is); (case z11 => k_is); (case z12 => k_is)
    have Bx0 : mg "sum" = none := by
      refine' PySem.W.mg_none_of KX G ?z
      (case z => k_is)
    have Bx1 : mg "repr" = none := by
      refine' PySem.W.mg_none_of KX G ?z
      (case z => k_is)
    have d1 : L2.Df (L2.KOf KX) mg "beneath_of" S50.s_beneath_of := by
      dsimp only [L2.KOf]; refine' S50.df_mk KX G ?a ?l ?c ?k
      (case a => k_is); (case l => k_is); (case c => k_is); (case k => k_is)
    have d2 : L2.Df (L2.KOf KX) mg "fold_tree" S50.s_fold_tree := by
      dsimp only [L2.KOf]; refine' S50.df_mk KX G ?a ?l ?c ?k
      (case a => k_is); (case l => k_is); (case c => k_is); (case k => k_is)
    have d3 : L2.Df (L2.KOf KX) mg "folded_net" S50.s_folded_net := by
      dsimp only [L2.KOf]; refine' S50.df_mk KX G ?a ?l ?c ?k
      (case a => k_is); (case l => k_is); (case c => k_is); (case k => k_is)
    have d4 : L2.Df (L2.KOf KX) mg "knots_of" S50.s_knots_of := by
      dsimp only [L2.KOf]; refine' S50.df_mk KX G ?a ?l ?c ?k
      (case a => k_is); (case l => k_is); (case c => k_is); (case k => k_is)
    have d5 : L2.Df (L2.KOf KX) mg "_law_store" S50.s_law_store := by
      dsimp only [L2.KOf]; refine' S50.df_mk KX G ?a ?l ?c ?k
      (case a => k_is); (case l => k_is); (case c => k_is); (case k => k_is)
    have d6 : L2.Df (L2.KOf KX) mg "_law_draw" S50.s_law_draw := by
      dsimp only [L2.KOf]; refine' S50.df_mk KX G ?a ?l ?c ?k
      (case a => k_is); (case l => k_is); (case c => k_is); (case k => k_is)
    have d7 : L2.Df (L2.KOf KX) mg "_law_net" S50.s_law_net := by
      dsimp only [L2.KOf]; refine' S50.df_mk KX G ?a ?l ?c ?k
      (case a => k_is); (case l => k_is); (case c => k_is); (case k => k_is)
    have d8 : L2.Df (L2.KOf KX) mg "_law_sizes" S50.s_law_sizes := by
      dsimp only [L2.KOf]; refine' S50.df_mk KX G ?a ?l ?c ?k
      (case a => k_is); (case l => k_is); (case c => k_is); (case k => k_is)
    have d9 : L2.Df (L2.KOf KX) mg "_law_cut" S50.s_law_cut := by
      dsimp only [L2.KOf]; refine' S50.df_mk KX G ?a ?l ?c ?k
      (case a => k_is); (case l => k_is); (case c => k_is); (case k => k_is)
    have d10 : L2.Df (L2.KOf KX) mg "_law_unfolded" S50.s_law_unfolded := by
      dsimp only [L2.KOf]; refine' S50.df_mk KX G ?a ?l ?c ?k
      (case a => k_is); (case l => k_is); (case c => k_is); (case k => k_is)
    have d11 : L2.Df (L2.KOf KX) mg "_law_tree" S50.s_law_tree := by
      dsimp only [L2.KOf]; refine' S50.df_mk KX G ?a ?l ?c ?k
      (case a => k_is); (case l => k_is); (case c => k_is); (case k => k_is)
    have d12 : L2.Df (L2.KOf KX) mg "_law_folded" S50.s_law_folded := by
      dsimp only [L2.KOf]; refine' S50.df_mk KX G ?a ?l ?c ?k
      (case a => k_is); (case l => k_is); (case c => k_is); (case k => k_is)
    have d13 : L2.Df (L2.KOf KX) mg "_law_right" S50.s_law_right := by
      dsimp only [L2.KOf]; refine' S50.df_mk KX G ?a ?l ?c ?k
      (case a => k_is); (case l => k_is); (case c => k_is); (case k => k_is)
    have d14 : L2.Df (L2.KOf KX) mg "law" S50.s_law := by
      dsimp only [L2.KOf]; refine' S50.df_mk KX G ?a ?l ?c ?k
      (case a => k_is); (case l => k_is); (case c => k_is); (case k => k_is)
    have M : S50.Made (L2.KOf KX) mg := by
      dsimp only [L2.KOf]; refine' S50.made_mkFolding KX G ?aC ?a1 ?i1 ?l1 ?c1 ?k1 ?a2 ?i2 ?l2 ?c2 ?k2 ?a3 ?i3 ?l3 ?c3 ?k3 ?pg ?hd ?po ?sa ?mk ?kc ?nknown
      (case aC => k_is); (case a1 => k_is); (case i1 => k_is); (case l1 => k_is); (case c1 => k_is); (case k1 => k_is); (case a2 => k_is); (case i2 => k_is); (case l2 => k_is); (case c2 => k_is); (case k2 => k_is); (case a3 => k_is); (case i3 => k_is); (case l3 => k_is); (case c3 => k_is); (case k3 => k_is); (case pg => k_is); (case hd => k_is); (case po => k_is); (case sa => k_is); (case mk => k_is); (case kc => k_is); (case nknown => k_is)
    obtain ⟨fd, h1, h2⟩ := S50.all_ok (P := PySem.Challenge.rw_upwords_k50_trees_folded.prog) (w := w) hmg ⟨B, Bx0, Bx1⟩ d1 d2 d3 d4 d5 d6 d7 d8 d9 d10 d11 d12 d13 d14 M
    exact ⟨fd, h1, fun base _ _ => h2 base⟩
