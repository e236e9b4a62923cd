import PyProof.Rows.All
import Wide.All
import OpenK.AllK
import Wide.FinOn
import Lean
import PyProof.EqAt
import PyProof.EqKinds
import PyProof.TupleCall
import PyProof.WalkInts
import PyProof.NeKinds
import KE.KSortTup
import KE.KLam
import PyProof.ListRange
import KE.KDictOf
import PyProof.DictWalks
import PyProof.AttrMissSeq
import KE.KDictSum
import PyProof.Rows.TupAdd
import PyProof.Rows.RuleIs
import KE.KTryOn
import PyProof.NsDelKeeps
import PyProof.ExcAttrAll.ValueError
import KE.KMinKey
import PyProof.SumAny
import PyProof.ListMulRoad
import PyProof.FactsAll.tuple
import PyProof.FactsAll.tuple_2
import PyProof.ListStr
import PyProof.StrWalks
import PySem.Challenge.RW_upwords_k67_marks_looked_at
set_option Elab.async false
set_option linter.all false
set_option maxRecDepth 100000
namespace L2
open PySem PySem.Spec PyProof.Rows
abbrev Key:=Sum Int Str
def keyIs:Key→Value→Bool
  | .inl k,v=>Value.isInt k v
  | .inr x,v=>Value.isStrOf x v
def keyH (w:World):Key→Int
  | .inl k=>hashInt k
  | .inr x=>hashStr w x
theorem keyIs_shape:∀ {k:Key} {v:Value},keyIs k v=true→(∃ i t,k=Sum.inl i∧v=Value.int i t)∨(∃ x t,k=Sum.inr x∧v=Value.str x t)
  | .inl i,v,h=>by
    obtain ⟨t,e⟩:=Value.isInt_shape (k:=i) (v:=v) h
    exact .inl ⟨i,t,rfl,e⟩
  | .inr x,v,h=>by
    obtain ⟨t,e⟩:=Value.isStrOf_shape (x:=x) (v:=v) h
    exact .inr ⟨x,t,rfl,e⟩
theorem keyIs_int (i:Int) (t:Tok):keyIs (.inl i) (.int i t)=true:=by simp [keyIs,Value.isInt]
theorem keyIs_str (x:Str) (t:Tok):keyIs (.inr x) (.str x t)=true:=by simp [keyIs,Value.isStrOf]
theorem key_ll (a b:Int):decide ((Sum.inl a:Key)=Sum.inl b)=(a == b):=by
  by_cases e:a=b
  · subst e;simp
  · have h:¬ (Sum.inl a:Key)=Sum.inl b:=fun q=>e (Sum.inl.inj q)
    rw [decide_eq_false h]
    exact (beq_eq_false_iff_ne.mpr e).symm
theorem key_rr (a b:Str):decide ((Sum.inr a:Key)=Sum.inr b)=decide (a=b):=by
  by_cases e:a=b
  · subst e;simp
  · have h:¬ (Sum.inr a:Key)=Sum.inr b:=fun q=>e (Sum.inr.inj q)
    rw [decide_eq_false h,decide_eq_false e]
theorem key_lr (a:Int) (b:Str):decide ((Sum.inl a:Key)=Sum.inr b)=false:=decide_eq_false (fun q=>nomatch q)
theorem key_rl (a:Str) (b:Int):decide ((Sum.inr a:Key)=Sum.inl b)=false:=decide_eq_false (fun q=>nomatch q)
def mixKind (prog:Program) (w:World):PySem.KeyKind prog w Key where
  is:=keyIs
  hash:=keyH w
  inj:=fun v a b ha hb=>by
    rcases keyIs_shape ha with ⟨i,t,rfl,rfl⟩ | ⟨x,t,rfl,rfl⟩
    · rcases keyIs_shape hb with ⟨j,u,rfl,e⟩ | ⟨y,u,rfl,e⟩
      · injection e with e1 _;rw [e1]
      · exact nomatch e
    · rcases keyIs_shape hb with ⟨j,u,rfl,e⟩ | ⟨y,u,rfl,e⟩
      · exact nomatch e
      · injection e with e1 _;rw [e1]
  byValue:=fun k v h=>by
    rcases keyIs_shape h with ⟨i,t,rfl,rfl⟩ | ⟨x,t,rfl,rfl⟩ <;> rfl
  pyHash:=fun hv h=>by
    rcases keyIs_shape hv with ⟨i,t,rfl,rfl⟩ | ⟨x,t,rfl,rfl⟩
    · exact wpAny_pyHash_int h
    · exact wpAny_pyHash_str h
  eqBool:=fun hu hv h=>by
    rcases keyIs_shape hu with ⟨i,t,rfl,rfl⟩ | ⟨x,t,rfl,rfl⟩
    · rcases keyIs_shape hv with ⟨j,u,rfl,rfl⟩ | ⟨y,u,rfl,rfl⟩
      · rw [key_ll] at h;exact wpAny_eqBool_int h
      · rw [key_lr] at h;exact SeqAt.EqAt.int_str i t y u _ _ _ _ h
    · rcases keyIs_shape hv with ⟨j,u,rfl,rfl⟩ | ⟨y,u,rfl,rfl⟩
      · rw [key_rl] at h;exact SeqAt.EqAt.str_int x t j u _ _ _ _ h
      · rw [key_rr] at h;exact wpAny_eqBool_str h
  «strs»:=fun k x t v h=>by
    rcases keyIs_shape h with ⟨i,u,rfl,e⟩ | ⟨y,u,rfl,e⟩
    · exact nomatch e
    · injection e with e1 _
      subst e1
      cases v <;> rfl
theorem mixKind_int (prog:Program) (w:World) (i:Int) (t:Tok):(mixKind prog w).is (.inl i) (.int i t)=true:=keyIs_int i t
theorem mixKind_str (prog:Program) (w:World) (x:Str) (t:Tok):(mixKind prog w).is (.inr x) (.str x t)=true:=keyIs_str x t
end L2
namespace L2
open PySem PySem.Spec PyProof.Rows
inductive V where
  | non | bl (b:Bool) | int (i:Int) | str (x:Str) | byt (b:Array UInt8) | flt (b:UInt64) | ref (a:Addr) | ty (n:String)
  deriving DecidableEq
def RelV:V→Value→Prop
  | .non,u=>u=Value.none
  | .bl b,u=>u=Value.bool b
  | .int i,u=>∃ t,u=Value.int i t
  | .str x,u=>∃ t,u=Value.str x t
  | .byt b,u=>∃ t,u=Value.bytes b t
  | .flt b,u=>∃ t,u=Value.float b t
  | .ref a,u=>u=Value.ref a
  | .ty n,u=>u=Value.type n
abbrev Vals:List V→List Value→Prop:=Paired RelV
theorem Vals.length {xs:List V} {us:List Value} (r:Vals xs us):xs.length=us.length:=Paired.length r
theorem Vals.get:∀ {xs:List V} {us:List Value} {i:Nat} {x:V},Vals xs us→xs[i]?=some x→∃ u,us[i]?=some u∧RelV x u
  | _,_,_,_,.nil,e=>by simp at e
  | _,_,0,_,.cons r _,e=>by simp at e;subst e;exact ⟨_,rfl,r⟩
  | _,_,i+1,x,.cons _ t,e=>by
    obtain ⟨u,h1,h2⟩:=Vals.get (i:=i) (x:=x) t (by simpa using e)
    exact ⟨u,by simpa using h1,h2⟩
theorem Vals.set {x:V} {u:Value} (r:RelV x u):∀ {xs:List V} {us:List Value} (i:Nat),Vals xs us→Vals (xs.set i x) (us.set i u)
  | _,_,_,.nil=>.nil
  | _,_,0,.cons _ t=>.cons r t
  | _,_,i+1,.cons q t=>.cons q (Vals.set r i t)
theorem Vals.append:∀ {xs ys:List V} {us ws:List Value},Vals xs us→Vals ys ws→Vals (xs++ys) (us++ws)
  | _,_,_,_,.nil,s=>s
  | _,_,_,_,.cons r t,s=>.cons r (Vals.append t s)
theorem Vals.take:∀ {xs:List V} {us:List Value} (n:Nat),Vals xs us→Vals (xs.take n) (us.take n)
  | _,_,0,_=>.nil
  | _,_,_+1,.nil=>.nil
  | _,_,n+1,.cons r t=>.cons r (Vals.take n t)
theorem Vals.drop:∀ {xs:List V} {us:List Value} (n:Nat),Vals xs us→Vals (xs.drop n) (us.drop n)
  | _,_,0,r=>r
  | _,_,_+1,.nil=>.nil
  | _,_,n+1,.cons _ t=>Vals.drop n t
def RelO:Option V→Option Value→Prop
  | some v,some u=>RelV v u
  | none,none=>True
  | _,_=>False
def KV {κ:Type}:List (κ × V)→List (κ × Value)→Prop:=Paired fun (p:κ × V) (q:κ × Value)=>p.1=q.1∧RelV p.2 q.2
def kV:Key→V
  | .inl i=>.int i
  | .inr x=>.str x
inductive HO where
    | lst (xs:List V)
    | tup (xs:List V)
    | dK (kvs:List (Key × V)) | dT (kvs:List (List Key × V))
    | set (S:Int→Bool) (n:Nat)
    | ins (C dx:Addr) (fs:List (Str × V))
    | own (x:Addr)
    | xd (fs:List (Str × V))
    | met (f x:Addr)
    | rng (lo hi:Int)
    | frz (o:Obj) (u:HO)
    | tbl (ps:Array Value)
    | ext (φ:Heap→Prop)
abbrev Hp:=Addr→Option HO
def upd (H:Hp) (a:Addr) (o:HO):Hp:=fun b=>if b=a then some o else H b
theorem upd_same {H:Hp} {a:Addr} {o:HO}:upd H a o a=some o:=by unfold upd;rw [if_pos rfl]
theorem upd_ne {H:Hp} {a b:Addr} {o:HO} (h:b≠a):upd H a o b=H b:=by unfold upd;rw [if_neg h]
theorem upd_upd {H:Hp} {a:Addr} {o u:HO}:upd (upd H a o) a u=upd H a u:=by
  funext b;unfold upd;split <;> rfl
theorem ne_of {H:Hp} {a b:Addr} {o u:HO} (h:H a=some o) (h':H b=some u) (d:o≠u):a≠b:=by
  intro e;subst e;rw [h] at h';exact d (Option.some.inj h')
theorem ne_of_none {H:Hp} {a b:Addr} {o:HO} (h:H a=some o) (h':H b=none):a≠b:=by
  intro e;subst e;rw [h] at h';cases h'
section
variable (P:Program) (w:World)
def ObjOk (H:Hp) (h:Heap) (a:Addr):HO→Prop
  | .lst xs=>xs.length≤sizeLine∧∃ (its:List Value) (n:Nat),Vals xs its∧h.get? a=some { cls:=.type "list", data:=.seq its.toArray n }
  | .tup xs=>(xs.length≤sizeLine∧∃ o,h.get? a=some o∧o.dict=none)∧∃ its:List Value,Vals xs its∧IsTup h a its.toArray
  | .dK kvs=>kvs.length≤sizeLine∧(a == sysModules)=false∧∃ vs,KV kvs vs∧h.DictOf (mixKind P w) a vs
  | .dT kvs=>kvs.length≤sizeLine∧(a == sysModules)=false∧∃ xs:List (List Key × Addr × Value),
      Paired (fun (p:List Key × V) (q:List Key × Addr × Value)=>p.1=q.1∧H q.2.1=some (.tup (p.1.map kV))∧RelV p.2 q.2.2) kvs xs ∧
      ∃ o es ep,h.get? a=some o∧o.ExactDict∧o.data=.dict es ep∧es.toList=xs.map (entryOfKey (tupleKind (mixKind P w)))∧(xs.map (·.1)).Nodup
  | .set S n=>h.SetOf (intKind P w) a S n
  | .ins C dx fs=>H dx=some (.own a)∧fs.length≤1000∧dx≠a∧h.get? a=some (PySem.W.instObj C dx) ∧
      ∃ mA,h.Ns1 dx mA∧(∀ f,RelO (fs.lookup f) (mA f))∧PySem.Within mA (fs.map (·.1))
  | .own _=>∃ o,h.get? a=some o
  | .xd fs=>∃ mA,h.Ns1 a mA∧∀ f,RelO (fs.lookup f) (mA f)
  | .rng lo hi=>∃ t u v,h.get? a=some { cls:=.type "range", data:=.fields #[.int lo t,.int hi u,.int 1 v] }
  | .frz o u=>h.get? a=some o∧ObjOk H h a u
  | .tbl ps=>h.get? a=some { cls:=.none,data:=.fields ps }
  | .met f x=>h.get? a=some (PySem.W.methodObj (.ref f) (.ref x))
  | .ext φ=>φ h∧(∃ o,h.get? a=some o)∧∀ h1 h2:Heap,φ h1→(∀ o,h1.get? a=some o→h2.get? a=some o)→φ h2
def HOk (H:Hp) (h:Heap):Prop:=∀ a o,H a=some o→ObjOk P w H h a o
end
section
variable {P:Program} {w:World} {H H':Hp} {h h':Heap} {a:Addr} {o:HO}
theorem ObjOk.lt (x:ObjOk P w H h a o):a < h.objs.size:=by
  cases o with
  | lst xs=>obtain ⟨_,_,_,_,e⟩:=x;exact Heap.lt_size e
  | tup xs=>obtain ⟨_,_,_,p⟩:=x;exact p.lt
  | dK kvs=>obtain ⟨_,_,_,_,o,_,_,e,_⟩:=x;exact Heap.lt_size e
  | dT kvs=>obtain ⟨_,_,_,_,o,_,_,e,_⟩:=x;exact Heap.lt_size e
  | set S n=>obtain ⟨o,_,_,_,e,_⟩:=x;exact Heap.lt_size e
  | ins C dx fs=>obtain ⟨_,_,_,e,_⟩:=x;exact Heap.lt_size e
  | own y=>obtain ⟨_,e⟩:=x;exact Heap.lt_size e
  | xd fs=>obtain ⟨_,⟨_,_,_,e,_⟩,_⟩:=x;exact Heap.lt_size e
  | rng lo hi=>obtain ⟨_,_,_,e⟩:=x;exact Heap.lt_size e
  | frz ob u=>obtain ⟨e,_⟩:=x;exact Heap.lt_size e
  | tbl ps=>exact Heap.lt_size (show h.get? a=some _ from x)
  | met f y=>exact Heap.lt_size (show h.get? a=some _ from x)
  | ext φ=>obtain ⟨_,⟨_,e⟩,_⟩:=x;exact Heap.lt_size e
theorem Paired.mapP {α β:Type} {F G:α→β→Prop}:∀ {l₁:List α} {l₂:List β},Paired F l₁ l₂→(∀ a b,F a b→G a b)→Paired G l₁ l₂
  | _,_,.nil,_=>.nil
  | _,_,.cons r t,f=>.cons (f _ _ r) (Paired.mapP t f)
theorem ObjOk.stay (x:ObjOk P w H h a o) (k:∀ b u,(b=a∨H b=some (.own a))→h.get? b=some u→h'.get? b=some u)
    (ho:∀ b,H b=some (.own a)→H' b=some (.own a)) (ht:∀ b xs,H b=some (.tup xs)→H' b=some (.tup xs)):ObjOk P w H' h' a o:=by
  induction o with
  | lst xs=>obtain ⟨z,its,n,r,e⟩:=x;exact ⟨z,its,n,r,k _ _ (.inl rfl) e⟩
  | tup xs=>obtain ⟨⟨z,o1,e1,c1⟩,its,r,ob,e,c⟩:=x;exact ⟨⟨z,o1,k _ _ (.inl rfl) e1,c1⟩,its,r,ob,k _ _ (.inl rfl) e,c⟩
  | dK kvs=>obtain ⟨z,y,vs,r,ob,es,ep,e,c⟩:=x;exact ⟨z,y,vs,r,ob,es,ep,k _ _ (.inl rfl) e,c⟩
  | dT kvs=>
    obtain ⟨z,y,xs,r,ob,es,ep,e,c⟩:=x
    exact ⟨z,y,xs,Paired.mapP r fun p q z=>⟨z.1,ht _ _ z.2.1,z.2.2⟩,ob,es,ep,k _ _ (.inl rfl) e,c⟩
  | set S n=>obtain ⟨ob,es,ep,t,e,c⟩:=x;exact ⟨ob,es,ep,t,k _ _ (.inl rfl) e,c⟩
  | ins C dx fs=>
    obtain ⟨d,z,ne,e,mA,⟨od,es,ep,e2,c⟩,r⟩:=x
    exact ⟨ho _ d,z,ne,k _ _ (.inl rfl) e,mA,⟨od,es,ep,k _ _ (.inr d) e2,c⟩,r⟩
  | own y=>obtain ⟨ob,e⟩:=x;exact ⟨ob,k _ _ (.inl rfl) e⟩
  | xd fs=>obtain ⟨mA,⟨od,es,ep,e,c⟩,r⟩:=x;exact ⟨mA,⟨od,es,ep,k _ _ (.inl rfl) e,c⟩,r⟩
  | rng lo hi=>obtain ⟨t,u,v,e⟩:=x;exact ⟨t,u,v,k _ _ (.inl rfl) e⟩
  | frz ob u ih=>obtain ⟨e,q⟩:=x;exact ⟨k _ _ (.inl rfl) e,ih q⟩
  | tbl ps=>
    have e:h.get? a=some { cls:=.none,data:=.fields ps }:=x
    show h'.get? a=some { cls:=.none,data:=.fields ps }
    exact k a _ (.inl rfl) e
  | met f y=>
    have e:h.get? a=some (PySem.W.methodObj (.ref f) (.ref y)):=x
    show h'.get? a=some (PySem.W.methodObj (.ref f) (.ref y))
    exact k a _ (.inl rfl) e
  | ext φ=>obtain ⟨p,⟨o,e⟩,st⟩:=x;exact ⟨st _ _ p fun o q=>k _ _ (.inl rfl) q,⟨o,k _ _ (.inl rfl) e⟩,st⟩
theorem HOk.lt (x:HOk P w H h) (e:H a=some o):a < h.objs.size:=(x a o e).lt
theorem HOk.fresh (x:HOk P w H h) (e:h.objs.size≤a):H a=none:=by
  cases q:H a with
  | none=>rfl
  | some u=>exact absurd (Nat.lt_of_lt_of_le (x.lt q) e) (Nat.lt_irrefl _)
theorem HOk.kept (x:HOk P w H h) (k:∀ b u,h.get? b=some u→h'.get? b=some u):HOk P w H h':=fun a o e=>
  (x a o e).stay (fun b u _ q=>k b u q) (fun _ q=>q) fun _ _ q=>q
theorem HOk.laid (x:HOk P w H h) (k:∀ b u,h.get? b=some u→h'.get? b=some u) (hp:h.objs.size≤a) (new:ObjOk P w (upd H a o) h' a o):HOk P w (upd H a o) h':=fun b u e=>by
  have hn:=x.fresh hp
  by_cases hb:b=a
  · subst hb;rw [upd_same] at e;cases e;exact new
  · rw [upd_ne hb] at e
    exact (x b u e).stay (fun c v _ q=>k c v q) (fun c q=>by rw [upd_ne (ne_of_none q hn)];exact q) fun c xs q=>by rw [upd_ne (ne_of_none q hn)];exact q
end
def Rd (H:Hp) (a:Addr) (u:HO):Prop:=H a=some u∨∃ o,H a=some (.frz o u)
theorem Rd.ok {P:Program} {w:World} {H:Hp} {h:Heap} {a:Addr} {u:HO} (r:Rd H a u) (x:HOk P w H h):ObjOk P w H h a u:=by
  rcases r with r | ⟨o,r⟩
  · exact x a u r
  · obtain ⟨_,q⟩:=x a _ r
    exact q
def Mut:Option HO→Prop
  | some (.lst _)=>True
  | some (.dK _)=>True
  | some (.dT _)=>True
  | some (.set _ _)=>True
  | some (.ins _ _ _)=>True
  | some (.ext _)=>True
  | _=>False
section
variable {P:Program} {w:World} {H:Hp} {h h':Heap} {x e:Addr} {o':HO}
theorem HOk.write (ok:HOk P w H h) (mu:Mut (H x)) (he:e=x∨H e=some (.own x)) (k:∀ b u,b≠e→h.get? b=some u→h'.get? b=some u) (heo:∃ u,h'.get? e=some u)
    (new:ObjOk P w (upd H x o') h' x o'):HOk P w (upd H x o') h':=fun b u q=>by
  have nown:∀ c y,H c=some (.own y)→c≠x:=fun c y r z=>by subst z;rw [r] at mu;exact mu
  have ntup:∀ c xs,H c=some (.tup xs)→c≠x:=fun c xs r z=>by subst z;rw [r] at mu;exact mu
  by_cases hb:b=x
  · subst hb;rw [upd_same] at q;cases q;exact new
  · rw [upd_ne hb] at q
    by_cases hbe:b=e
    · have q':H b=some (.own x):=by
        rcases he with z | z
        · exact absurd (hbe.trans z) hb
        · rw [hbe];exact z
      rw [q] at q';cases q'
      obtain ⟨v,hv⟩:=heo
      exact ⟨v,by rw [hbe];exact hv⟩
    · refine (ok b u q).stay (fun c v hc r=>k c v ?_ r) (fun c r=>by rw [upd_ne (nown c b r)];exact r) fun c xs r=>by rw [upd_ne (ntup c xs r)];exact r
      rcases hc with rfl | hc
      · exact hbe
      · rintro rfl
        rcases he with z | z
        · exact nown c b hc z
        · rw [hc] at z;cases z;exact hb rfl
end
structure Un (fs ex:List Addr) (H H':Hp) (h h':Heap):Prop where
  keep:∀ b o,h.get? b=some o→H b=none→b ∉ fs→b ∉ ex→h'.get? b=some o
  slot:∀ b o,h.get? b=some o→H b=none→b∈fs→b ∉ ex→∃ sl,h'.get? b=some { o with slots:=sl }
  free:∀ b o,h.get? b=some o→H b=none→b ∉ ex→H' b=none
  there:∀ b o,h.get? b=some o→b ∉ ex→∃ o',h'.get? b=some o'
  tups:∀ b xs,H b=some (.tup xs)→H' b=some (.tup xs)
  frzs:∀ b o u,H b=some (.frz o u)→H' b=some (.frz o u)
  tbls:∀ b ps,H b=some (.tbl ps)→∃ more,H' b=some (.tbl (ps++more))
section
variable {fs fs' ex ex':List Addr} {H H1 H2:Hp} {h h1 h2 h':Heap} {a x e:Addr} {o:HO}
theorem Un.any (u:Un fs ex H H1 h h1) {b:Addr} {ob:Obj} (q:h.get? b=some ob) (n:H b=none) (hx:b ∉ ex):∃ sl,h1.get? b=some { ob with slots:=sl }:=by
  by_cases hb:b∈fs
  · exact u.slot b ob q n hb hx
  · exact ⟨ob.slots,u.keep b ob q n hb hx⟩
theorem Un.kept (k:∀ b u,h.get? b=some u→h'.get? b=some u):Un fs ex H H h h':=
  ⟨fun b ob q _ _ _=>k b ob q,fun b ob q _ _ _=>⟨ob.slots,k b ob q⟩,fun _ _ _ n _=>n,fun b ob q _=>⟨ob,k b ob q⟩,fun _ _ q=>q,fun _ _ _ q=>q,fun _ ps q=>⟨#[],by rw [q];simp⟩⟩
theorem Un.refl:Un fs ex H H h h:=Un.kept fun _ _ q=>q
theorem Un.laid (k:∀ b u,h.get? b=some u→h'.get? b=some u) (hp:h.objs.size≤a) (hn:H a=none):Un fs ex H (upd H a o) h h' where
  keep:=fun b u q _ _ _=>k b u q
  slot:=fun b u q _ _ _=>⟨u.slots,k b u q⟩
  free:=fun b u q n _=>by rw [upd_ne (Nat.ne_of_lt (Nat.lt_of_lt_of_le (Heap.lt_size q) hp))];exact n
  there:=fun b u q _=>⟨u,k b u q⟩
  tups:=fun b xs q=>by rw [upd_ne (ne_of_none q hn)];exact q
  frzs:=fun b u xs q=>by rw [upd_ne (ne_of_none q hn)];exact q
  tbls:=fun b ps q=>⟨#[],by rw [upd_ne (ne_of_none q hn),q];simp⟩
theorem Un.write (mu:Mut (H x)) (he:e=x∨H e=some (.own x)) (k:∀ b u,b≠e→h.get? b=some u→h'.get? b=some u) (heo:∃ u,h'.get? e=some u):Un fs ex H (upd H x o) h h':=by
  have hx:∀ b,H b=none→b≠x:=fun b n z=>by subst z;rw [n] at mu;exact mu
  have hb:∀ b,H b=none→b≠e:=fun b n z=>by
    subst z
    rcases he with r | r
    · exact hx b n r
    · rw [n] at r;cases r
  have hm:∀ b u,H b=some u→¬ Mut (some u)→b≠x:=fun b u q nm z=>by subst z;rw [q] at mu;exact nm mu
  refine ⟨fun b u q n _ _=>k b u (hb b n) q,fun b u q n _ _=>⟨u.slots,k b u (hb b n) q⟩,fun b u q n _=>by rw [upd_ne (hx b n)];exact n,fun b u q _=>?_,
    fun b xs q=>by rw [upd_ne (hm b _ q fun z=>z)];exact q,fun b u xs q=>by rw [upd_ne (hm b _ q fun z=>z)];exact q,fun b ps q=>⟨#[],by rw [upd_ne (hm b _ q fun z=>z),q];simp⟩⟩
  by_cases hbe:b=e
  · subst hbe;exact heo
  · exact ⟨u,k b u hbe q⟩
end
def trk (h:Heap) (H:Hp):List Addr:=(List.range h.objs.size).filter fun a=>(H a).isSome
def hidT (h:Heap) (H:Hp):Heap:=PySem.W.hideAll h (trk h H)
theorem hidT_size (h:Heap) (H:Hp):(hidT h H).objs.size=h.objs.size:=PySem.W.hideAll_size _ _
theorem hidT_get {h:Heap} {H:Hp} {b:Addr} {o:Obj} (e:h.get? b=some o) (n:H b=none):(hidT h H).get? b=some o:=
  PySem.W.hideAll_get _ e fun hm=>by
    have q:(H b).isSome=true:=(List.mem_filter.mp hm).2
    rw [n] at q;simp at q
theorem of_hidT {h:Heap} {H:Hp} {b:Addr} {o:Obj} (e:(hidT h H).get? b=some o):h.get? b=some o∧H b=none:=by
  have e':h.get? b=some o:=PySem.W.of_hideAll (trk h H) e
  refine ⟨e',?_⟩
  cases q:H b with
  | none=>rfl
  | some x=>
    have hm:b∈trk h H:=List.mem_filter.mpr ⟨List.mem_range.mpr (Heap.lt_size e'),by simp [q]⟩
    have z:(hidT h H).get? b=none:=PySem.W.hideAll_none (trk h H) hm
    rw [z] at e;cases e
def allNews (g h:Heap) (L:Addr):List (Addr × Obj):=(List.range h.objs.size).filterMap fun a=>if a=L∨(g.get? a).isSome=true then none else (h.get? a).map fun o=>(a,o)
def rest (g h:Heap) (L d:Addr):List (Addr × Obj):=(allNews g h L).filter fun p=>decide (p.1≠d)
end L2
namespace L2
open PySem PySem.Spec PyProof.Rows
structure Mod (K:PySem.W.Frag) (mg:Str→Option Value) (base:Heap):Prop where
  kin:K.In base
  glob:base.Ns mainGlobals mg
  blt:∃ mb,base.Ns builtinsNs mb∧∀ x:Str,x ≠ "__name__" → mb x=bootBuiltins x
  nolimit:base.NoLimit
structure Cx where
  prog:Program
  w:World
  K:PySem.W.Frag
  mg:Str→Option Value
  base:Heap
  A:Around
  N:List Str
  s₀:Shared
  H₀:Hp
  env:Env
  outer:List Env
  stack:List Env
  ex:List Addr
  fn:Str→Bool
  calm:Bool
  pn:List (Addr × Obj)
  xe:Value→Shared→Prop
def frs (l:List Env):List Addr:=l.filterMap (·.frame)
abbrev Cx.fs (X:Cx):List Addr:=frs X.outer
def Vis (sc:Scope) (x:Str):Prop:=sc.names.lookup x=some .local∨sc.names.lookup x=some .cell∨sc.names.lookup x=some .free
def Loc (sc:Scope) (x:Str):Prop:=sc.names.lookup x=some .local∨sc.names.lookup x=some .cell
def Look (env:Env) (h:Heap) (m:Str→Option Value) (x:Str) (u:Value):Prop:=
  (env.kindOf x=some .local∧m x=some u)∨((env.kindOf x=some .cell∨env.kindOf x=some .free)∧∃ c,env.cells.lookup x=some c∧h.IsCell c (some u))
structure Cx.Ok (X:Cx):Prop where
  mod:Mod X.K X.mg X.base
  kind:X.env.scope.kind=.function
  glob:X.env.globals=mainGlobals
  blt:X.env.builtins=builtinsNs
  above:X.s₀.heap.objs.size≤X.env.locals
  inj:∀ x y c,X.env.cells.lookup x=some c→X.env.cells.lookup y=some c→x=y
  has:∀ x,(X.env.kindOf x=some .cell∨X.env.kindOf x=some .free)→∃ c,X.env.cells.lookup x=some c
  cab:∀ x c,X.fn x=true→X.env.cells.lookup x=some c→X.s₀.heap.objs.size≤c
  hd:X.calm=true→X.A.handled=none
  frames:X.A.frames=some X.stack
  stk:X.stack=X.outer∨(X.stack=X.env :: X.outer∧X.env.frame=some X.env.locals)
  exf:∀ b∈X.ex,b≠X.env.locals∧∀ x c,X.env.cells.lookup x=some c→c≠b
  bs:∀ b o,X.base.get? b=some o→X.s₀.heap.get? b=some o∧X.H₀ b=none
  bsz:X.base.objs.size≤X.s₀.heap.objs.size
  noex:∀ b o,X.base.get? b=some o→b ∉ X.ex
  exfs:∀ b∈X.ex,b ∉ X.fs
  funs:X.s₀.heap.FunFrames X.base X.outer
  frf:∀ b∈X.fs,X.H₀ b=none
structure Inv (X:Cx) (pins:List (Addr × Obj)) (σ:List (Option V)) (H:Hp) (s:Shared):Prop where
  ok:X.Ok
  os:s.os=X.s₀.os
  bare:AllBare s.gens
  base:Un X.fs X.ex X.H₀ H X.s₀.heap s.heap
  loc:∃ m,s.heap.Ns X.env.locals m∧∀ (i:Nat) (x:Str) (v:V),X.N[i]?=some x→σ[i]?=some (some v)→Vis X.env.scope x→∃ u,RelV v u∧Look X.env s.heap m x u
  cell:∀ x c,X.env.cells.lookup x=some c→∃ v,s.heap.IsCell c v
  free:H X.env.locals=none
  freeC:∀ x c,X.env.cells.lookup x=some c→H c=none
  pin:∀ p∈X.pn++pins,s.heap.get? p.1=some p.2∧H p.1=none∧p.1≠X.env.locals∧p.1 ∉ X.fs∧∀ v,p.2.data≠.cell v
  hok:HOk X.prog X.w H s.heap
  len:σ.length=X.N.length
section
variable {X:Cx} {pins:List (Addr × Obj)} {σ:List (Option V)} {H H':Hp} {s:Shared} {h':Heap}
theorem Cx.Ok.nofr (ok:X.Ok) {b:Addr} {o:Obj} (e:X.base.get? b=some o):b ∉ X.fs:=fun hb=>by
  have:=(ok.funs.mem hb).1
  rw [e] at this;cases this
theorem Inv.bs (I:Inv X pins σ H s):∀ b o,X.base.get? b=some o→s.heap.get? b=some o∧H b=none:=fun b o e=>
  ⟨I.base.keep b o (I.ok.bs b o e).1 (I.ok.bs b o e).2 (I.ok.nofr e) (I.ok.noex b o e),I.base.free b o (I.ok.bs b o e).1 (I.ok.bs b o e).2 (I.ok.noex b o e)⟩
theorem Inv.bk (I:Inv X pins σ H s):∀ b o,X.base.get? b=some o→s.heap.get? b=some o:=fun b o e=>(I.bs b o e).1
theorem Inv.mod (I:Inv X pins σ H s):Mod X.K X.mg X.base:=I.ok.mod
theorem Inv.kIn (I:Inv X pins σ H s):X.K.In s.heap:=I.ok.mod.kin.keeps I.bk
theorem Inv.nolimit (I:Inv X pins σ H s):s.heap.NoLimit:=I.ok.mod.nolimit.keeps I.bk
theorem Inv.fr (I:Inv X pins σ H s):∃ m,Fr X.base X.env.locals s.heap m:=
  let ⟨m,hn,_⟩:=I.loc
  ⟨m,hn,I.bk,Nat.le_trans I.ok.bsz I.ok.above⟩
theorem Inv.lt (I:Inv X pins σ H s):X.env.locals < s.heap.objs.size:=let ⟨_,hn,_⟩:=I.loc;hn.lt
theorem Inv.sz (I:Inv X pins σ H s):X.s₀.heap.objs.size≤s.heap.objs.size:=Nat.le_trans I.ok.above (Nat.le_of_lt I.lt)
theorem Inv.nofs (I:Inv X pins σ H s) {a:Addr} (h:s.heap.objs.size≤a):a ∉ X.fs:=fun hb=>by
  obtain ⟨_,o,ho,_⟩:=I.ok.funs.mem hb
  exact absurd (Nat.lt_of_lt_of_le (Heap.lt_size ho) (Nat.le_trans I.sz h)) (Nat.lt_irrefl _)
theorem Inv.cne (I:Inv X pins σ H s):∀ x c,X.env.cells.lookup x=some c→c≠X.env.locals:=fun x c e z=>by
  obtain ⟨v,o,ho,hd⟩:=I.cell x c e
  obtain ⟨m,⟨o',es,ep,ho',hd',_⟩,_⟩:=I.loc
  rw [z,ho'] at ho;cases ho;rw [hd'] at hd;cases hd
theorem Inv.funs (I:Inv X pins σ H s):s.heap.FunFrames X.base X.outer:=by
  have all:∀ (l:List Env),(∀ b∈frs l,b∈X.fs)→X.s₀.heap.FunFrames X.base l→s.heap.FunFrames X.base l:=by
    intro l
    induction l with
    | nil=>intro _ _;trivial
    | cons env r ih=>
      intro hs hl
      obtain ⟨hk,⟨L,o,hf,hn,ho,hd⟩,hr⟩:=hl
      have hL:L∈X.fs:=hs L (by unfold frs;rw [List.filterMap_cons,hf];exact List.mem_cons_self)
      obtain ⟨sl,e⟩:=I.base.slot L o ho (I.ok.frf L hL) hL fun z=>I.ok.exfs L z hL
      exact ⟨hk,⟨L,_,hf,hn,e,hd⟩,ih (fun b hb=>hs b (by unfold frs;rw [List.filterMap_cons,hf];exact List.mem_cons_of_mem _ hb)) hr⟩
  exact all X.outer (fun _ hb=>hb) I.ok.funs
theorem Inv.stack (I:Inv X pins σ H s):s.heap.FunFrames X.base X.stack:=by
  rcases I.ok.stk with e | ⟨e,hf⟩
  · rw [e];exact I.funs
  · rw [e]
    obtain ⟨m,hn,_⟩:=I.loc
    refine .cons (by rw [I.ok.kind];decide) hf hn ?_ I.funs
    exact Heap.get?_none_of_le (Nat.le_trans I.ok.bsz I.ok.above)
theorem Inv.stkSub (I:Inv X pins σ H s):∀ b∈frs X.stack,b∈X.env.locals :: X.fs:=fun b hb=>by
  rcases I.ok.stk with e | ⟨e,hf⟩
  · rw [e] at hb;exact List.mem_cons_of_mem _ hb
  · rw [e] at hb
    unfold frs at hb
    rw [List.filterMap_cons,hf] at hb
    exact hb
theorem Inv.stkFree (I:Inv X pins σ H s):∀ b∈frs X.stack,H b=none:=fun b hb=>by
  rcases List.mem_cons.mp (I.stkSub b hb) with e | hb
  · rw [e];exact I.free
  · obtain ⟨_,o,ho,_⟩:=I.ok.funs.mem hb
    exact I.base.free b o ho (I.ok.frf b hb) fun z=>I.ok.exfs b z hb
theorem Inv.step {g':Array GenState} {t':Nat} {d':Drawn} {ch:List Addr} (I:Inv X pins σ H s)
    (hch:∀ b∈ch,(b∈X.ex∨X.s₀.heap.objs.size≤b)∧b≠X.env.locals∧(∀ x c,X.env.cells.lookup x=some c→c≠b)∧∀ p∈X.pn++pins,p.1≠b)
    (keep:∀ b o,b≠X.env.locals→b ∉ X.fs→b ∉ ch→s.heap.get? b=some o→H b=none→h'.get? b=some o)
    (slot:∀ b o,b≠X.env.locals→b∈X.fs→b ∉ ch→s.heap.get? b=some o→H b=none→∃ sl,h'.get? b=some { o with slots:=sl }) (free:∀ b o,b ∉ ch→s.heap.get? b=some o→H b=none→H' b=none)
    (there:∀ b o,b ∉ ch→s.heap.get? b=some o→∃ o',h'.get? b=some o')
    (tups:∀ b xs,H b=some (.tup xs)→H' b=some (.tup xs)) (frzs:∀ b o u,H b=some (.frz o u)→H' b=some (.frz o u)) (tbls:∀ b ps,H b=some (.tbl ps)→∃ more,H' b=some (.tbl (ps++more)))
    (ns:∀ m,s.heap.Ns X.env.locals m→h'.Ns X.env.locals m) (hok:HOk X.prog X.w H' h') (hg:AllBare g') :
    Inv X pins σ H' { s with heap:=h',gens:=g',drawn:=d',toks:=t' }:=by
  have neL:∀ b o,X.s₀.heap.get? b=some o→b≠X.env.locals:=fun b o e=>Nat.ne_of_lt (Nat.lt_of_lt_of_le (Heap.lt_size e) I.ok.above)
  have neC:∀ b o,X.s₀.heap.get? b=some o→b ∉ X.ex→b ∉ ch:=fun b o e hx hb=>by
    rcases (hch b hb).1 with z | z
    · exact hx z
    · exact absurd (Nat.lt_of_lt_of_le (Heap.lt_size e) z) (Nat.lt_irrefl _)
  have cellK:∀ x c,X.env.cells.lookup x=some c→∀ v,s.heap.IsCell c v→h'.IsCell c v:=fun x c e v ⟨o,ho,hd⟩=>by
    have nch:c ∉ ch:=fun z=>(hch c z).2.2.1 x c e rfl
    by_cases hc:c∈X.fs
    · obtain ⟨sl,q⟩:=slot c o (I.cne x c e) hc nch ho (I.freeC x c e)
      exact ⟨_,q,hd⟩
    · exact ⟨o,keep c o (I.cne x c e) hc nch ho (I.freeC x c e),hd⟩
  refine ⟨I.ok,I.os,hg,⟨fun b o e n hb hx=>?_,fun b o e n hb hx=>?_,fun b o e n hx=>?_,fun b o e hx=>?_,fun b xs e=>tups b xs (I.base.tups b xs e),fun b o xs e=>frzs b o xs (I.base.frzs b o xs e),fun b ps e=>?_⟩,?_,fun x c e=>?_,?_,fun x c e=>?_,fun p hp=>?_,hok,I.len⟩
  · exact keep b o (neL b o e) hb (neC b o e hx) (I.base.keep b o e n hb hx) (I.base.free b o e n hx)
  · obtain ⟨sl,e1⟩:=I.base.slot b o e n hb hx
    obtain ⟨sl',e2⟩:=slot b _ (neL b o e) hb (neC b o e hx) e1 (I.base.free b o e n hx)
    exact ⟨sl',e2⟩
  · obtain ⟨o',e1⟩:=I.base.there b o e hx
    exact free b o' (neC b o e hx) e1 (I.base.free b o e n hx)
  · obtain ⟨o',e1⟩:=I.base.there b o e hx
    exact there b o' (neC b o e hx) e1
  · obtain ⟨m1,e1⟩:=I.base.tbls b ps e
    obtain ⟨m2,e2⟩:=tbls b _ e1
    exact ⟨m1++m2,by rw [e2,Array.append_assoc]⟩
  · obtain ⟨m,hn,hl⟩:=I.loc
    refine ⟨m,ns m hn,fun i x v e1 e2 e3=>?_⟩
    obtain ⟨u,r,l⟩:=hl i x v e1 e2 e3
    refine ⟨u,r,?_⟩
    rcases l with l | ⟨k,c,e,z⟩
    · exact .inl l
    · exact .inr ⟨k,c,e,cellK x c e _ z⟩
  · obtain ⟨v,z⟩:=I.cell x c e
    exact ⟨v,cellK x c e v z⟩
  · obtain ⟨m,⟨o,_,_,ho,_⟩,_⟩:=I.loc
    exact free _ o (fun z=>(hch _ z).2.1 rfl) ho I.free
  · obtain ⟨v,o,ho,hd⟩:=I.cell x c e
    exact free c o (fun z=>(hch c z).2.2.1 x c e rfl) ho (I.freeC x c e)
  · obtain ⟨e,n,ne,nf,d⟩:=I.pin p hp
    have nch:p.1 ∉ ch:=fun z=>(hch p.1 z).2.2.2 p hp rfl
    exact ⟨keep p.1 p.2 ne nf nch e n,free p.1 p.2 nch e n,ne,nf,d⟩
theorem Inv.un {t':Nat} (I:Inv X pins σ H s) (u:Un X.fs [] H H' s.heap h') (hok:HOk X.prog X.w H' h'):Inv X pins σ H' { s with heap:=h',toks:=t' }:=by
  obtain ⟨m,⟨o,es,ep,ho,r⟩,_⟩:=id I.loc
  obtain ⟨sl,hL⟩:=u.any ho I.free (by simp)
  exact I.step (g':=s.gens) (d':=s.drawn) (ch:=[]) (fun _ z=>nomatch z) (fun b o _ hb _ e n=>u.keep b o e n hb (by simp)) (fun b o _ hb _ e n=>u.slot b o e n hb (by simp)) (fun b o _ e n=>u.free b o e n (by simp)) (fun b o _ e=>u.there b o e (by simp)) u.tups u.frzs u.tbls (fun m' hm=>by
    obtain ⟨o',es',ep',ho',r'⟩:=hm
    rw [ho] at ho';cases ho'
    exact ⟨_,es',ep',hL,r'⟩) hok I.bare
theorem Inv.call {g':Array GenState} {t':Nat} {d':Drawn} {ch:List Addr} (I:Inv X pins σ H s) (u:Un (frs X.stack) ch H H' s.heap h') (hok:HOk X.prog X.w H' h') (hg:AllBare g')
    (hch:∀ b∈ch,(b∈X.ex∨X.s₀.heap.objs.size≤b)∧b≠X.env.locals∧(∀ x c,X.env.cells.lookup x=some c→c≠b)∧∀ p∈X.pn++pins,p.1≠b) :
    Inv X pins σ H' { s with heap:=h',gens:=g',drawn:=d',toks:=t' }:=by
  obtain ⟨m,⟨o,es,ep,ho,r⟩,_⟩:=id I.loc
  obtain ⟨sl,hL⟩:=u.any ho I.free fun z=>(hch _ z).2.1 rfl
  exact I.step (ch:=ch) hch (fun b o hL hb hc e n=>u.keep b o e n (fun z=>(List.mem_cons.mp (I.stkSub b z)).elim hL hb) hc) (fun b o _ _ hc e n=>u.any e n hc) (fun b o hc e n=>u.free b o e n hc) (fun b o hc e=>u.there b o e hc) u.tups u.frzs u.tbls (fun m' hm=>by
    obtain ⟨o',es',ep',ho',r'⟩:=hm
    rw [ho] at ho';cases ho'
    exact ⟨_,es',ep',hL,r'⟩) hok hg
theorem Inv.turned {t':Nat} {it:Addr} (I:Inv X pins σ H s) (k:∀ b o,b≠it→s.heap.get? b=some o→h'.get? b=some o) (hn:H it=none) (hL:it≠X.env.locals)
    (h1:it∈X.ex∨X.s₀.heap.objs.size≤it) (h2:∀ x c,X.env.cells.lookup x=some c→c≠it) (h3:∀ p∈X.pn++pins,p.1≠it):Inv X pins σ H { s with heap:=h',toks:=t' }:=by
  have nit:∀ b u,H b=some u→b≠it:=fun b u e z=>by rw [z,hn] at e;cases e
  refine I.step (g':=s.gens) (d':=s.drawn) (ch:=[it]) (fun b hb=>?_) (fun b o _ _ hc e _=>k b o (fun z=>hc (by simp [z])) e) (fun b o _ _ hc e _=>⟨o.slots,k b o (fun z=>hc (by simp [z])) e⟩) (fun _ _ _ _ n=>n)
    (fun b o hc e=>⟨o,k b o (fun z=>hc (by simp [z])) e⟩) (fun _ _ e=>e) (fun _ _ _ e=>e) (fun b ps e=>⟨#[],by rw [e];simp⟩) (fun m hm=>?_) (fun b u e=>?_) I.bare
  · have e:b=it:=by simpa using hb
    subst e
    exact ⟨h1,hL,h2,h3⟩
  · obtain ⟨o,es,ep,ho,r⟩:=hm
    exact ⟨o,es,ep,k _ o (Ne.symm hL) ho,r⟩
  · refine (I.hok b u e).stay (fun c v hc q=>k c v ?_ q) (fun _ q=>q) fun _ _ q=>q
    rcases hc with z | z
    · rw [z];exact nit b u e
    · exact nit c _ z
theorem Inv.tok (I:Inv X pins σ H s) (t:Nat):Inv X pins σ H { s with toks:=t }:=I.un (h':=s.heap) (t':=t) Un.refl I.hok
theorem Inv.kept {t':Nat} (I:Inv X pins σ H s) (k:∀ b u,s.heap.get? b=some u→h'.get? b=some u):Inv X pins σ H { s with heap:=h',toks:=t' }:=I.un (Un.kept k) (I.hok.kept k)
theorem Inv.laid {a:Addr} {o:HO} {t':Nat} (I:Inv X pins σ H s) (k:∀ b u,s.heap.get? b=some u→h'.get? b=some u) (hp:s.heap.objs.size≤a) (new:ObjOk X.prog X.w (upd H a o) h' a o) :
    Inv X pins σ (upd H a o) { s with heap:=h',toks:=t' }:=I.un (Un.laid k hp (I.hok.fresh hp)) (I.hok.laid k hp new)
theorem Inv.write {x e:Addr} {o:HO} {t':Nat} (I:Inv X pins σ H s) (mu:Mut (H x)) (he:e=x∨H e=some (.own x)) (k:∀ b u,b≠e→s.heap.get? b=some u→h'.get? b=some u) (heo:∃ u,h'.get? e=some u)
    (new:ObjOk X.prog X.w (upd H x o) h' x o):Inv X pins σ (upd H x o) { s with heap:=h',toks:=t' }:=I.un (Un.write mu he k heo) (I.hok.write mu he k heo new)
theorem Inv.weak {σ':List (Option V)} (I:Inv X pins σ H s) (hl:σ'.length=σ.length) (w:∀ (i:Nat) v,σ'[i]?=some (some v)→σ[i]?=some (some v)):Inv X pins σ' H s:=
  ⟨I.ok,I.os,I.bare,I.base,let ⟨m,hn,hl'⟩:=I.loc;⟨m,hn,fun i x v e1 e2 e3=>hl' i x v e1 (w i v e2) e3⟩,I.cell,I.free,I.freeC,I.pin,I.hok,hl.trans I.len⟩
theorem Inv.pins_of {pins':List (Addr × Obj)} (I:Inv X pins σ H s) (h:∀ p∈pins',s.heap.get? p.1=some p.2∧H p.1=none∧p.1≠X.env.locals∧p.1 ∉ X.fs∧∀ v,p.2.data≠.cell v):Inv X pins' σ H s:=
  ⟨I.ok,I.os,I.bare,I.base,I.loc,I.cell,I.free,I.freeC,fun p hp=>(List.mem_append.mp hp).elim (fun z=>I.pin p (List.mem_append_left _ z)) (h p),I.hok,I.len⟩
theorem nodup_ix {N:List Str} (hN:N.Nodup) {i j:Nat} {x:Str} (a:N[i]?=some x) (b:N[j]?=some x):i=j:=by
  obtain ⟨h1,e1⟩:=List.getElem?_eq_some_iff.mp a
  obtain ⟨h2,e2⟩:=List.getElem?_eq_some_iff.mp b
  exact (List.getElem_inj hN).mp (e1.trans e2.symm)
theorem store_ok2 {M:Model} {A:Around} {E:Value→Shared→Prop} {i:Nat} {x:Str} {v:V} {u:Value} {Q:Unit→Shared→Prop} (I:Inv X pins σ H s) (hN:X.N.Nodup) (hi:X.N[i]?=some x) (hx:Loc X.env.scope x) (r:RelV v u)
    (h:∀ s',Inv X pins (σ.set i (some v)) H s'→(∃ a,Heap.SameBut a s.heap s'.heap∧(a=X.env.locals∨X.env.cells.lookup x=some a))→Q () s') (hf:X.fn x=true∨X.env.scope.names.lookup x=some .local:=by first | exact .inl rfl | exact .inr rfl | assumption):wpAny M A (storeName X.env x u) Q E s:=by
  obtain ⟨m,hn,hl⟩:=id I.loc
  have hcls:(X.env.scope.kind == .class || (X.env.scope.kind == .module && X.env.locals != X.env.globals))=false:=by rw [I.ok.kind];rfl
  have hiσ:i < σ.length:=by rw [I.len];exact (List.getElem?_eq_some_iff.mp hi).1
  have cne:=I.cne
  have tracked:∀ {a:Addr} {h':Heap},(∃ o,s.heap.get? a=some o∧H a=none)→Heap.SameBut a s.heap h'→HOk X.prog X.w H h':=fun {a h'} ha hs b ob e=>by
    obtain ⟨_,_,hfree⟩:=ha
    refine (I.hok b ob e).stay (fun c w' hc q=>(hs.2 c ?_).trans q) (fun _ q=>q) fun _ _ q=>q
    rintro rfl
    rcases hc with rfl | hc
    · rw [hfree] at e;cases e
    · rw [hfree] at hc;cases hc
  rcases hx with hk | hk
  · refine wpAny_storeName_local hk hn (fun h' hn' hs=>?_) hcls
    obtain ⟨oL,_,_,hoL,_⟩:=id hn
    refine h _ ⟨I.ok,I.os,I.bare,⟨fun b o e n hb hx=>?_,fun b o e n hb hx=>?_,I.base.free,fun b o e hx=>?_,I.base.tups,I.base.frzs,I.base.tbls⟩,⟨_,hn',fun j y v' e1 e2 e3=>?_⟩,fun y c e=>?_,I.free,I.freeC,fun p hp=>?_,tracked ⟨oL,hoL,I.free⟩ hs,by simpa using I.len⟩ ⟨_,hs,.inl rfl⟩
    · exact (hs.2 b (Nat.ne_of_lt (Nat.lt_of_lt_of_le (Heap.lt_size e) I.ok.above))).trans (I.base.keep b o e n hb hx)
    · obtain ⟨sl,e1⟩:=I.base.slot b o e n hb hx
      exact ⟨sl,(hs.2 b (Nat.ne_of_lt (Nat.lt_of_lt_of_le (Heap.lt_size e) I.ok.above))).trans e1⟩
    · obtain ⟨o',e1⟩:=I.base.there b o e hx
      exact ⟨o',(hs.2 b (Nat.ne_of_lt (Nat.lt_of_lt_of_le (Heap.lt_size e) I.ok.above))).trans e1⟩
    · by_cases hj:j=i
      · subst hj
        rw [hi] at e1;cases e1
        rw [List.getElem?_set_self hiσ] at e2
        cases e2
        exact ⟨u,r,.inl ⟨hk,by simp⟩⟩
      · rw [List.getElem?_set_ne (Ne.symm hj)] at e2
        obtain ⟨u',r',q⟩:=hl j y v' e1 e2 e3
        refine ⟨u',r',?_⟩
        rcases q with ⟨k,e⟩ | ⟨k,c,e,z⟩
        · refine .inl ⟨k,?_⟩
          have:y≠x:=fun e=>hj (nodup_ix hN e1 (e ▸ hi))
          simp [this,e]
        · exact .inr ⟨k,c,e,z.sameBut hs (cne y c e)⟩
    · obtain ⟨w',z⟩:=I.cell y c e
      exact ⟨w',z.sameBut hs (cne y c e)⟩
    · obtain ⟨e,n,ne,nf,d⟩:=I.pin p hp
      exact ⟨(hs.2 p.1 ne).trans e,n,ne,nf,d⟩
  · have hfn:X.fn x=true:=by
      rcases hf with z | z
      · exact z
      · rw [z] at hk;cases hk
    obtain ⟨c,hc⟩:=I.ok.has x (.inl hk)
    obtain ⟨w',z⟩:=I.cell x c hc
    refine wpAny_storeName_cell I.ok.kind hk hc z (fun h' hc' hs=>?_)
    obtain ⟨oc,hoc,hocd⟩:=id z
    refine h { s with heap:=h' } ⟨I.ok,I.os,I.bare,⟨fun b o e n hb hx=>?_,fun b o e n hb hx=>?_,I.base.free,fun b o e hx=>?_,I.base.tups,I.base.frzs,I.base.tbls⟩,⟨m,hn.sameBut hs (Ne.symm (cne x c hc)),fun j y v' e1 e2 e3=>?_⟩,fun y c' e=>?_,I.free,I.freeC,fun p hp=>?_,tracked ⟨oc,hoc,I.freeC x c hc⟩ hs,by simpa using I.len⟩ ⟨c,hs,.inr hc⟩
    · exact (hs.2 b (Nat.ne_of_lt (Nat.lt_of_lt_of_le (Heap.lt_size e) (I.ok.cab x c hfn hc)))).trans (I.base.keep b o e n hb hx)
    · obtain ⟨sl,e1⟩:=I.base.slot b o e n hb hx
      exact ⟨sl,(hs.2 b (Nat.ne_of_lt (Nat.lt_of_lt_of_le (Heap.lt_size e) (I.ok.cab x c hfn hc)))).trans e1⟩
    · obtain ⟨o',e1⟩:=I.base.there b o e hx
      exact ⟨o',(hs.2 b (Nat.ne_of_lt (Nat.lt_of_lt_of_le (Heap.lt_size e) (I.ok.cab x c hfn hc)))).trans e1⟩
    · by_cases hj:j=i
      · subst hj
        rw [hi] at e1;cases e1
        rw [List.getElem?_set_self hiσ] at e2
        cases e2
        exact ⟨u,r,.inr ⟨.inl hk,c,hc,hc'⟩⟩
      · rw [List.getElem?_set_ne (Ne.symm hj)] at e2
        obtain ⟨u',r',q⟩:=hl j y v' e1 e2 e3
        refine ⟨u',r',?_⟩
        rcases q with q | ⟨k,c',e,z'⟩
        · exact .inl q
        · refine .inr ⟨k,c',e,z'.sameBut hs ?_⟩
          rintro rfl
          exact hj (nodup_ix hN e1 (I.ok.inj _ _ _ e hc ▸ hi))
    · by_cases hcc:c'=c
      · subst hcc;exact ⟨_,hc'⟩
      · obtain ⟨w2,z2⟩:=I.cell y c' e
        exact ⟨w2,z2.sameBut hs hcc⟩
    · obtain ⟨e,n,ne,nf,d⟩:=I.pin p hp
      refine ⟨(hs.2 p.1 ?_).trans e,n,ne,nf,d⟩
      intro q
      rw [q,hoc] at e
      have q':oc=p.2:=Option.some.inj e
      exact d w' (by rw [← q'];exact hocd)
theorem store_ok {M:Model} {A:Around} {E:Value→Shared→Prop} {i:Nat} {x:Str} {v:V} {u:Value} {Q:Unit→Shared→Prop} (I:Inv X pins σ H s) (hN:X.N.Nodup) (hi:X.N[i]?=some x) (hx:Loc X.env.scope x) (r:RelV v u)
    (h:∀ s',Inv X pins (σ.set i (some v)) H s'→Q () s') (hf:X.fn x=true∨X.env.scope.names.lookup x=some .local:=by first | exact .inl rfl | exact .inr rfl | assumption):wpAny M A (storeName X.env x u) Q E s:=
  store_ok2 I hN hi hx r (fun s' I' _=>h s' I') hf
theorem Inv.call' {s':Shared} {ch:List Addr} (I:Inv X pins σ H s) (ho:s'.os=s.os) (u:Un (frs X.stack) ch H H' s.heap s'.heap) (hok:HOk X.prog X.w H' s'.heap) (hg:AllBare s'.gens)
    (hch:∀ b∈ch,(b∈X.ex∨X.s₀.heap.objs.size≤b)∧b≠X.env.locals∧(∀ x c,X.env.cells.lookup x=some c→c≠b)∧∀ p∈X.pn++pins,p.1≠b):Inv X pins σ H' s':=by
  obtain ⟨h',g',d',t',o'⟩:=s'
  have e:o'=s.os:=ho
  subst e
  exact I.call (g':=g') (t':=t') (d':=d') u hok hg hch
end
abbrev XK:=Value→Option Addr→Hp→Prop
abbrev St:=List (Option V)
abbrev VK:=V→Hp→Prop
abbrev TE:=St→Hp→VK→Prop
abbrev TT:=St→Hp→(Bool→Hp→Prop)→Prop
abbrev TA:=St→Hp→(List V→Hp→Prop)→Prop
structure Ends where
  nx:St→Hp→Prop
  rt:VK
  bk:St→Hp→Prop:=fun _ _=>False
  ct:St→Hp→Prop:=fun _ _=>False
abbrev TS:=Ends→St→Hp→Prop
def EP (X:Cx) (pins:List (Addr × Obj)) (σ:St) (Q:VK) (u:Value) (s':Shared):Prop:=∃ v H',Inv X pins σ H' s'∧RelV v u∧Q v H'
def TP (X:Cx) (pins:List (Addr × Obj)) (σ:St) (Q:Bool→Hp→Prop) (b:Bool) (s':Shared):Prop:=∃ H',Inv X pins σ H' s'∧Q b H'
def AP (X:Cx) (pins:List (Addr × Obj)) (σ:St) (Q:List V→Hp→Prop) (us:List Value) (s':Shared):Prop:=∃ vs H',Inv X pins σ H' s'∧Vals vs us∧Q vs H'
def SP (X:Cx) (pins:List (Addr × Obj)) (D:Ends) (f:Flow) (s':Shared):Prop:=
  match f with
  | .next=>∃ σ' H',Inv X pins σ' H' s'∧D.nx σ' H'
  | .brk=>∃ σ' H',Inv X pins σ' H' s'∧D.bk σ' H'
  | .cont=>∃ σ' H',Inv X pins σ' H' s'∧D.ct σ' H'
  | .ret u=>∃ v σ' H',Inv X pins σ' H' s'∧RelV v u∧D.rt v H'
def PE (X:Cx) (e:Expr) (t:TE):Prop:=
  ∀ (pins:List (Addr × Obj)) (s:Shared) (σ:St) (H:Hp) (Q:VK),Inv X pins σ H s→t σ H Q→wpAny (model X.prog X.w) X.A (eval e X.env) (EP X pins σ Q) X.xe s
def PT (X:Cx) (e:Expr) (t:TT):Prop:=
  ∀ (pins:List (Addr × Obj)) (s:Shared) (σ:St) (H:Hp) (Q:Bool→Hp→Prop),Inv X pins σ H s→t σ H Q→wpAny (model X.prog X.w) X.A (isTrue e X.env (eval e X.env)) (TP X pins σ Q) X.xe s
def PW (X:Cx) (e:Expr) (t:TT):Prop:=
  ∀ (whole:Sem Value) (pins:List (Addr × Obj)) (s:Shared) (σ:St) (H:Hp) (Q:Bool→Hp→Prop),Inv X pins σ H s→t σ H Q→wpAny (model X.prog X.w) X.A (isTrue e X.env whole) (TP X pins σ Q) X.xe s
theorem PW.pt {X:Cx} {e:Expr} {t:TT} (h:PW X e t):PT X e t:=h _
def PA (X:Cx) (es:List Expr) (t:TA):Prop:=
  ∀ (pos:Pos) (pins:List (Addr × Obj)) (s:Shared) (σ:St) (H:Hp) (Q:List V→Hp→Prop),Inv X pins σ H s→t σ H Q→wpAny (model X.prog X.w) X.A (spliced (backTo pos (starEach es X.env))) (AP X pins σ Q) X.xe s
def PS (X:Cx) (st:Stmt) (t:TS):Prop:=
  ∀ (pins:List (Addr × Obj)) (s:Shared) (σ:St) (H:Hp) (D:Ends),Inv X pins σ H s→t D σ H→wpAny (model X.prog X.w) X.A (exec st X.env) (SP X pins D) X.xe s
def PSs (X:Cx) (st:List Stmt) (t:TS):Prop:=
  ∀ (pins:List (Addr × Obj)) (s:Shared) (σ:St) (H:Hp) (D:Ends),Inv X pins σ H s→t D σ H→wpAny (model X.prog X.w) X.A (execs st X.env) (SP X pins D) X.xe s
theorem thn {α:Type} {t:Sem α} {Q Q':α→Shared→Prop} {M:Model} {A:Around} {E:Value→Shared→Prop} {s:Shared} (h:wpAny M A t Q E s) (hQ:∀ a s,Q a s→Q' a s):wpAny M A t Q' E s:=wpAny_mono h hQ fun _ _ x=>x
end L2
namespace L2
open PySem PySem.Spec PyProof.Rows
section
variable {X:Cx}
def tVar (i:Nat):TE:=fun σ H Q=>∃ v,σ[i]?=some (some v)∧Q v H
def tC (v:V):TE:=fun _ H Q=>Q v H
theorem pe_var {i:Nat} {x:Str} {pos:Pos} (hN:X.N[i]?=some x) (hv:Vis X.env.scope x) (hd:(x == ("__debug__" : Str))=false:=by decide) (hcd:(x == ("__classdict__" : Str))=false:=by decide):PE X (.Name x pos) (tVar i):=by
  intro pins s σ H Q I h
  obtain ⟨v,e,h⟩:=h
  obtain ⟨m,hn,hl⟩:=I.loc
  obtain ⟨u,r,l⟩:=hl i x v hN e hv
  have fin:EP X pins σ Q u s:=⟨v,H,I,r,h⟩
  rcases l with ⟨hk,hm⟩ | ⟨hk,c,hc,hcell⟩
  · exact wpAny_Name (wpAny_loadName_local I.ok.kind hk hn hm fin) hd
  · rcases hk with hk | hk
    · exact wpAny_Name (wpAny_loadName_cell I.ok.kind hk hc hcell fin) hd
    · exact wpAny_Name (wpAny_loadName_free I.ok.kind hk hc hcell fin hcd) hd
theorem pe_int {i j pos}:PE X (.Constant (.int i) j pos) (tC (.int i)):=fun _ _ _ H _ I h=>wpAny_Constant_int ⟨.int i,H,I.tok _,⟨_,rfl⟩,h⟩
theorem pe_bl {b j pos}:PE X (.Constant (.bool b) j pos) (tC (.bl b)):=fun _ _ _ H _ I h=>Constant_bool ⟨.bl b,H,I,rfl,h⟩
theorem pe_non {j pos}:PE X (.Constant .none j pos) (tC .non):=fun _ _ _ H _ I h=>Constant_none ⟨.non,H,I,rfl,h⟩
theorem pe_str {x j pos}:PE X (.Constant (.str x) j pos) (tC (.str x)):=fun _ _ _ H _ I h=>Calls.Constant_str ⟨.str x,H,I.tok _,⟨_,rfl⟩,h⟩
def Gl (X:Cx) (x:Str):Prop:=X.env.kindOf x=some .globalImplicit
theorem ld_glob {E:Value→Shared→Prop} {pins:List (Addr × Obj)} {s:Shared} {σ:St} {H:Hp} {x:Str} {u:Value} {pos:Pos} {Q:Value→Shared→Prop} (I:Inv X pins σ H s) (hg:Gl X x) (hm:X.mg x=some u) (h:Q u s)
    (hd:(x == ("__debug__" : Str))=false:=by decide):wpAny (model X.prog X.w) X.A (eval (.Name x pos) X.env) Q E s:=
  Calls.Name_function_global I.ok.kind hg (Calls.loadGlobal_global (by rw [I.ok.glob];exact I.mod.glob.keeps I.bk) hm h) hd
theorem ld_blt {E:Value→Shared→Prop} {pins:List (Addr × Obj)} {s:Shared} {σ:St} {H:Hp} {x:Str} {u:Value} {pos:Pos} {Q:Value→Shared→Prop} (I:Inv X pins σ H s) (hg:Gl X x) (hm:X.mg x=none) (hv:bootBuiltins x=some u) (h:Q u s)
    (hn:x ≠ "__name__" := by decide) (hd:(x == ("__debug__" : Str))=false:=by decide):wpAny (model X.prog X.w) X.A (eval (.Name x pos) X.env) Q E s:=by
  obtain ⟨mb,h1,h2⟩:=I.mod.blt
  exact Calls.Name_function_global I.ok.kind hg (Calls.loadGlobal_builtin (by rw [I.ok.glob];exact I.mod.glob.keeps I.bk) hm (by rw [I.ok.blt];exact h1.keeps I.bk) ((h2 x hn).trans hv) h) hd
theorem pe_glob {x:Str} {v:V} {u:Value} {pos:Pos} (hg:Gl X x) (hm:X.mg x=some u) (r:RelV v u) (hd:(x == ("__debug__" : Str))=false:=by decide):PE X (.Name x pos) (tC v):=
  fun _ _ _ H _ I h=>ld_glob I hg hm ⟨v,H,I,r,h⟩ hd
theorem pe_bltn {x:Str} {v:V} {u:Value} {pos:Pos} (hg:Gl X x) (hm:X.mg x=none) (hv:bootBuiltins x=some u) (r:RelV v u) (hn:x ≠ "__name__" := by decide) (hd:(x == ("__debug__" : Str))=false:=by decide):PE X (.Name x pos) (tC v):=
  fun _ _ _ H _ I h=>ld_blt I hg hm hv ⟨v,H,I,r,h⟩ hn hd
variable {a b:Expr} {ta tb:TE} {pos:Pos}
def PC (X:Cx) (op:CmpOp) (a b:Expr) (t:TE):Prop:=
  ∀ (pins:List (Addr × Obj)) (s:Shared) (σ:St) (H:Hp) (Q:VK),Inv X pins σ H s→t σ H Q →
    wpAny (model X.prog X.w) X.A (eval a X.env) (fun v s₁=>wpAny (model X.prog X.w) X.A (eval b X.env) (fun u s₂=>wpAny (model X.prog X.w) X.A (compareOp op v u) (EP X pins σ Q) X.xe s₂) X.xe s₁) X.xe s
theorem nobehind (b:Expr) {op:CmpOp} (h:op≠.In) (h2:op≠.NotIn):behindInMarks op b=false:=by
  have e1:(op == CmpOp.In)=false:=by cases op <;> first | rfl | exact absurd rfl h
  have e2:(op == CmpOp.NotIn)=false:=by cases op <;> first | rfl | exact absurd rfl h2
  cases b <;> simp [behindInMarks,e1,e2]
def tB (t:TE):TT:=fun σ H Q=>t σ H fun x H1=>∃ c,x=.bl c∧Q c H1
theorem pt_cmp {op:CmpOp} {t:TE} (h:PC X op a b t) (h1:behindInMarks op b=false:=by first | exact nobehind _ (by decide) (by decide) | rfl):PT X (.Compare a [op] [b] pos) (tB t):=by
  intro pins s σ H Q I hw
  refine wpAny_isTrue_Compare1 (thn (h pins s σ H _ I hw) fun v s1 h1=>thn h1 fun u s2 h2=>thn h2 fun c s3 ⟨x,H1,I1,r1,q1⟩=>?_) h1
  obtain ⟨d,rfl,q⟩:=q1
  cases r1
  exact wpAny_truthy_bool ⟨H1,I1,q⟩
theorem pt_val {e:Expr} {t:TE} (h:PE X e t) (he:∀ whole,isTrue e X.env whole=(do let v ← whole;standAt e.pos;holding [v] (truthy v)):=by intro _;rfl):PT X e (tB t):=by
  intro pins s σ H Q I hw
  refine isTrue_plain (thn (h pins s σ H _ I hw) fun v s1 ⟨x,H1,I1,r1,q1⟩=>?_) (he _)
  obtain ⟨d,rfl,q⟩:=q1
  cases r1
  exact wpAny_truthy_bool ⟨H1,I1,q⟩
variable {tA tB':TT} {rest:List Expr}
def tAnd (t u:TT):TT:=fun σ H Q=>t σ H fun c H1=>if c=true then u σ H1 Q else Q false H1
def tOr (t u:TT):TT:=fun σ H Q=>t σ H fun c H1=>if c=true then Q true H1 else u σ H1 Q
def tNot (t:TT):TT:=fun σ H Q=>t σ H fun c H1=>Q (!c) H1
theorem pw_and1 (ha:PT X a tA):PW X (.BoolOp .And [a] pos) tA:=by
  intro wh pins s σ H Q I h
  refine isTrue_and (thn (ha pins s σ H Q I h) fun c s1 e=>?_)
  cases c with
  | true=>exact isTrue_and_nil e
  | false=>exact e
theorem pw_or1 (ha:PT X a tA):PW X (.BoolOp .Or [a] pos) tA:=by
  intro wh pins s σ H Q I h
  refine isTrue_or (thn (ha pins s σ H Q I h) fun c s1 e=>?_)
  cases c with
  | false=>exact isTrue_or_nil e
  | true=>exact e
theorem pw_and (ha:PT X a tA) (hb:PW X (.BoolOp .And (b :: rest) pos) tB'):PW X (.BoolOp .And (a :: b :: rest) pos) (tAnd tA tB'):=by
  intro wh pins s σ H Q I h
  refine isTrue_and (thn (ha pins s σ H _ I h) fun c s1 ⟨H1,I1,q1⟩=>?_)
  cases c with
  | true=>exact hb wh pins s1 σ H1 Q I1 q1
  | false=>exact ⟨H1,I1,q1⟩
theorem pw_or (ha:PT X a tA) (hb:PW X (.BoolOp .Or (b :: rest) pos) tB'):PW X (.BoolOp .Or (a :: b :: rest) pos) (tOr tA tB'):=by
  intro wh pins s σ H Q I h
  refine isTrue_or (thn (ha pins s σ H _ I h) fun c s1 ⟨H1,I1,q1⟩=>?_)
  cases c with
  | true=>exact ⟨H1,I1,q1⟩
  | false=>exact hb wh pins s1 σ H1 Q I1 q1
theorem pt_not (ha:PT X a tA):PT X (.UnaryOp .Not a pos) (tNot tA):=by
  intro pins s σ H Q I h
  exact isTrue_not (ha pins s σ H (fun c H1=>Q (!c) H1) I h)
def tAndV (ta tb:TE):TE:=fun σ H Q=>ta σ H fun x H1=>∃ c,x=.bl c∧if c=true then tb σ H1 Q else Q (.bl false) H1
def tOrV (ta tb:TE):TE:=fun σ H Q=>ta σ H fun x H1=>∃ c,x=.bl c∧if c=true then Q (.bl true) H1 else tb σ H1 Q
def tNotV (ta:TE):TE:=fun σ H Q=>ta σ H fun x H1=>∃ c,x=.bl c∧Q (.bl (!c)) H1
theorem pe_one {op} {t:TE} (h:PE X a t):PE X (.BoolOp op [a] pos) t:=fun pins s σ H Q I hw=>BoolOp_one (h pins s σ H Q I hw)
theorem pe_and (ha:PE X a ta) (hb:PE X (.BoolOp .And (b :: rest) pos) tb):PE X (.BoolOp .And (a :: b :: rest) pos) (tAndV ta tb):=by
  intro pins s σ H Q I h
  refine BoolOp_and (thn (ha pins s σ H _ I h) fun v s1 ⟨x,H1,I1,r1,q1⟩=>?_)
  obtain ⟨c,rfl,q1⟩:=q1
  cases r1
  refine wpAny_truthy_bool ?_
  cases c with
  | true=>exact hb pins s1 σ H1 Q I1 q1
  | false=>exact ⟨.bl false,H1,I1,rfl,q1⟩
theorem pe_or (ha:PE X a ta) (hb:PE X (.BoolOp .Or (b :: rest) pos) tb):PE X (.BoolOp .Or (a :: b :: rest) pos) (tOrV ta tb):=by
  intro pins s σ H Q I h
  refine BoolOp_or (thn (ha pins s σ H _ I h) fun v s1 ⟨x,H1,I1,r1,q1⟩=>?_)
  obtain ⟨c,rfl,q1⟩:=q1
  cases r1
  refine wpAny_truthy_bool ?_
  cases c with
  | false=>exact hb pins s1 σ H1 Q I1 q1
  | true=>exact ⟨.bl true,H1,I1,rfl,q1⟩
theorem pe_not (ha:PE X a ta):PE X (.UnaryOp .Not a pos) (tNotV ta):=by
  intro pins s σ H Q I h
  refine UnaryOp_ (thn (ha pins s σ H _ I h) fun v s1 ⟨x,H1,I1,r1,q1⟩=>?_)
  obtain ⟨c,rfl,q1⟩:=q1
  cases r1
  exact not_of (wpAny_truthy_bool ⟨.bl (!c),H1,I1,rfl,q1⟩)
def tIf (t:TT) (ta tb:TE):TE:=fun σ H Q=>t σ H fun c H1=>if c=true then ta σ H1 Q else tb σ H1 Q
theorem pe_ifExp {c:Expr} (hc:PT X c tA) (ha:PE X a ta) (hb:PE X b tb):PE X (.IfExp c a b pos) (tIf tA ta tb):=by
  intro pins s σ H Q I h
  refine wpAny_IfExp (thn (hc pins s σ H _ I h) fun d s1 ⟨H1,I1,q1⟩=>?_)
  cases d with
  | true=>exact ha pins s1 σ H1 Q I1 q1
  | false=>exact hb pins s1 σ H1 Q I1 q1
end
end L2
namespace L2
open PySem PySem.Spec PyProof.Rows
def SqL (K:PySem.W.Frag) (H:Hp) (a:Addr) (xs:List V):Prop:=
  Rd H a (.lst xs) ∨
    ∃ (o:Obj) (its:Array Value) (n:Nat),K.lookup a=some o∧o.cls=.type "list" ∧ o.dict=none∧o.data=.seq its n∧its.size≤sizeLine∧Vals xs its.toList
def SqT (K:PySem.W.Frag) (H:Hp) (a:Addr) (xs:List V):Prop:=
  Rd H a (.tup xs) ∨
    ∃ (o:Obj) (its:Array Value) (n:Nat),K.lookup a=some o∧o.cls=.type "tuple" ∧ o.data=.seq its n∧its.size≤sizeLine∧Vals xs its.toList
def absV:Value→Option V
  | .none=>some .non
  | .bool b=>some (.bl b)
  | .int i _=>some (.int i)
  | .str x _=>some (.str x)
  | .bytes b _=>some (.byt b)
  | .float b _=>some (.flt b)
  | .ref a=>some (.ref a)
  | .type n=>some (.ty n)
  | _=>none
theorem RelV.abs {x:V} {u:Value} (r:RelV x u):absV u=some x:=by
  cases x with
  | non=>cases r;rfl
  | bl _=>cases r;rfl
  | int _=>obtain ⟨t,rfl⟩:=r;rfl
  | str _=>obtain ⟨t,rfl⟩:=r;rfl
  | byt _=>obtain ⟨t,rfl⟩:=r;rfl
  | flt _=>obtain ⟨t,rfl⟩:=r;rfl
  | ref _=>cases r;rfl
  | ty _=>cases r;rfl
theorem RelV.inj {x y:V} {u:Value} (r:RelV x u) (q:RelV y u):x=y:=Option.some.inj (r.abs.symm.trans q.abs)
theorem Vals.inj:∀ {xs ys:List V} {us:List Value},Vals xs us→Vals ys us→xs=ys
  | _,_,_,.nil,.nil=>rfl
  | _,_,_,.cons r t,.cons r' t'=>by rw [r.inj r',Vals.inj t t']
section
variable {X:Cx} {pins:List (Addr × Obj)} {σ:St} {H:Hp} {s:Shared} {a:Addr} {xs ys:List V}
theorem SqL.of {K:PySem.W.Frag} (h:H a=some (.lst xs)):SqL K H a xs:=.inl (.inl h)
theorem SqT.of {K:PySem.W.Frag} (h:H a=some (.tup xs)):SqT K H a xs:=.inl (.inl h)
theorem Inv.list (I:Inv X pins σ H s) (h:SqL X.K H a xs):∃ its:List Value,Vals xs its∧PlainL s.heap a its.toArray∧xs.length≤sizeLine:=by
  rcases h with h | ⟨o,its,n,hk,hc,hd,hs,hz,r⟩
  · obtain ⟨z,its,n,r,e⟩:=h.ok I.hok
    exact ⟨its,r,⟨_,n,e,rfl,rfl,rfl⟩,z⟩
  · refine ⟨its.toList,r,⟨o,n,I.kIn a o hk,hc,hd,by simpa using hs⟩,?_⟩
    have e:=r.length
    simp only [Array.length_toList] at e
    omega
theorem Inv.tuple (I:Inv X pins σ H s) (h:SqT X.K H a xs):∃ its:List Value,Vals xs its∧IsTup s.heap a its.toArray∧xs.length≤sizeLine:=by
  rcases h with h | ⟨o,its,n,hk,hc,hs,hz,r⟩
  · obtain ⟨z,its,r,p⟩:=h.ok I.hok
    exact ⟨its,r,p,z.1⟩
  · refine ⟨its.toList,r,⟨o,I.kIn a o hk,hc,n,by simpa using hs⟩,?_⟩
    have e:=r.length
    simp only [Array.length_toList] at e
    omega
theorem Inv.list_inj (I:Inv X pins σ H s) (h:SqL X.K H a xs) (h':SqL X.K H a ys):xs=ys:=by
  obtain ⟨its,r,⟨o,n,e,_,_,d⟩,_⟩:=I.list h
  obtain ⟨its',r',⟨o',n',e',_,_,d'⟩,_⟩:=I.list h'
  rw [e] at e';cases e'
  rw [d] at d'
  injection d' with d1 _
  have:its=its':=by simpa using congrArg Array.toList d1
  subst this
  exact r.inj r'
theorem Inv.tuple_inj (I:Inv X pins σ H s) (h:SqT X.K H a xs) (h':SqT X.K H a ys):xs=ys:=by
  obtain ⟨its,r,⟨o,e,_,n,d⟩,_⟩:=I.tuple h
  obtain ⟨its',r',⟨o',e',_,n',d'⟩,_⟩:=I.tuple h'
  rw [e] at e';cases e'
  rw [d] at d'
  injection d' with d1 _
  have:its=its':=by simpa using congrArg Array.toList d1
  subst this
  exact r.inj r'
end
abbrev Cx.wish (X:Cx) (E:Value→Shared→Prop):Cx:={ X with xe:=E }
abbrev Cx.nox (X:Cx):Cx:=X.wish fun _ _=>False
theorem Cx.Ok.wish {X:Cx} (ok:X.Ok) (E:Value→Shared→Prop):(X.wish E).Ok:=
  ⟨ok.mod,ok.kind,ok.glob,ok.blt,ok.above,ok.inj,ok.has,ok.cab,ok.hd,ok.frames,ok.stk,ok.exf,ok.bs,ok.bsz,ok.noex,ok.exfs,ok.funs,ok.frf⟩
theorem Cx.Ok.unwish {X:Cx} {E:Value→Shared→Prop} (ok:(X.wish E).Ok):X.Ok:=
  ⟨ok.mod,ok.kind,ok.glob,ok.blt,ok.above,ok.inj,ok.has,ok.cab,ok.hd,ok.frames,ok.stk,ok.exf,ok.bs,ok.bsz,ok.noex,ok.exfs,ok.funs,ok.frf⟩
section
variable {X:Cx} {pins:List (Addr × Obj)} {σ:St} {H:Hp} {s:Shared} {E:Value→Shared→Prop}
theorem Inv.wish (I:Inv X pins σ H s) (E:Value→Shared→Prop):Inv (X.wish E) pins σ H s:=⟨I.ok.wish E,I.os,I.bare,I.base,I.loc,I.cell,I.free,I.freeC,I.pin,I.hok,I.len⟩
theorem Inv.unwish (I:Inv (X.wish E) pins σ H s):Inv X pins σ H s:=⟨I.ok.unwish,I.os,I.bare,I.base,I.loc,I.cell,I.free,I.freeC,I.pin,I.hok,I.len⟩
theorem SP.unwish {D:Ends} {f:Flow} {s':Shared} (h:SP (X.wish E) pins D f s'):SP X pins D f s':=by
  cases f with
  | next=>obtain ⟨σ',H',I,q⟩:=h;exact ⟨σ',H',I.unwish,q⟩
  | brk=>obtain ⟨σ',H',I,q⟩:=h;exact ⟨σ',H',I.unwish,q⟩
  | cont=>obtain ⟨σ',H',I,q⟩:=h;exact ⟨σ',H',I.unwish,q⟩
  | ret u=>obtain ⟨v,σ',H',I,r,q⟩:=h;exact ⟨v,σ',H',I.unwish,r,q⟩
theorem PSs.nox {st:List Stmt} {t:TS} (h:PSs X.nox st t):PSs X st t:=fun pins s σ H D I hw=>
  wpAny_mono (h pins s σ H D (I.wish _) hw) (fun _ _ q=>q.unwish) fun _ _ z=>False.elim z
end
section
variable {X:Cx} {st:Stmt} {rest:List Stmt} {t u:TS} {e:Expr} {te:TE} {pos:Pos}
def tNext:TS:=fun D σ H=>D.nx σ H
def tSeq (t u:TS):TS:=fun D σ H=>t { D with nx:=u D } σ H
theorem pss_nil:PSs X [] tNext:=fun _ _ σ H _ I h=>wpAny_execs_nil ⟨σ,H,I,h⟩
theorem pss_cons (h1:PS X st t) (h2:PSs X rest u):PSs X (st :: rest) (tSeq t u):=by
  intro pins s σ H D I h
  refine wpAny_execs_cons (thn (h1 pins s σ H { D with nx:=u D } I h) fun f s1 q=>?_)
  cases f with
  | next=>
    obtain ⟨σ',H',I',q⟩:=q
    exact h2 pins s1 σ' H' D I' q
  | ret v=>exact q
  | brk=>exact q
  | cont=>exact q
theorem pss_one (h1:PS X st t):PSs X [st] t:=by
  intro pins s σ H D I h
  refine wpAny_execs_cons (thn (h1 pins s σ H D I h) fun f s1 q=>?_)
  cases f with
  | next=>exact wpAny_execs_nil q
  | ret v=>exact q
  | brk=>exact q
  | cont=>exact q
theorem Inv.quiet {pins:List (Addr × Obj)} {σ:St} {H:Hp} {s:Shared} (I:Inv X pins σ H s):interactive X.env=false:=by simp [interactive,I.ok.kind]
def tDrop (te:TE):TS:=fun D σ H=>te σ H fun _ H1=>D.nx σ H1
theorem ps_expr (he:PE X e te) (hs:swapsWith e none pos.line X.env=pure false:=by rfl):PS X (.Expr e pos) (tDrop te):=by
  intro pins s σ H D I h
  exact wpAny_Expr_any (thn (he pins s σ H _ I h) fun v s1 ⟨x,H1,I1,r1,q1⟩=>⟨σ,H1,I1,q1⟩) I.quiet hs
def tRet (te:TE):TS:=fun D σ H=>te σ H D.rt
theorem ps_ret (he:PE X e te):PS X (.Return (some e) pos) (tRet te):=by
  intro pins s σ H D I h
  exact wpAny_Return_some (thn (he pins s σ H _ I h) fun v s1 ⟨x,H1,I1,r1,q1⟩=>⟨x,σ,H1,I1,r1,q1⟩)
def tIfS (c:TT) (t u:TS):TS:=fun D σ H=>c σ H fun b H1=>if b=true then t D σ H1 else u D σ H1
theorem ps_if {c:Expr} {a b:List Stmt} {tc:TT} (hc:PT X c tc) (ha:PSs X a t) (hb:PSs X b u):PS X (.If c a b pos) (tIfS tc t u):=by
  intro pins s σ H D I h
  refine wpAny_If (thn (hc pins s σ H _ I h) fun d s1 ⟨H1,I1,q1⟩=>?_)
  cases d with
  | true=>exact ha pins s1 σ H1 D I1 q1
  | false=>exact hb pins s1 σ H1 D I1 q1
end
abbrev TG:=V→St→Hp→(St→Hp→Prop)→Prop
abbrev TGs:=List V→St→Hp→(St→Hp→Prop)→Prop
def PG (X:Cx) (target:Expr) (t:TG):Prop:=
  ∀ (pins:List (Addr × Obj)) (s:Shared) (σ:St) (H:Hp) (v:V) (u:Value) (Q:St→Hp→Prop),Inv X pins σ H s→RelV v u→t v σ H Q →
    wpAny (model X.prog X.w) X.A (assign target X.env u) (fun _ s'=>∃ σ' H',Inv X pins σ' H' s'∧Q σ' H') X.xe s
def PGs (X:Cx) (ts:List Expr) (t:TGs):Prop:=
  ∀ (pins:List (Addr × Obj)) (s:Shared) (σ:St) (H:Hp) (vs:List V) (us:List Value) (Q:St→Hp→Prop),Inv X pins σ H s→Vals vs us→t vs σ H Q →
    wpAny (model X.prog X.w) X.A (assignInOrder ((assignEach ts X.env).map (·.2)) us) (fun _ s'=>∃ σ' H',Inv X pins σ' H' s'∧Q σ' H') X.xe s
abbrev TSet:=V→V→V→Hp→(Hp→Prop)→Prop
def PSet (X:Cx) (t:TSet):Prop:=
  ∀ (pins:List (Addr × Obj)) (s:Shared) (σ:St) (H:Hp) (o i v:V) (ov iv u:Value) (Q:Hp→Prop),Inv X pins σ H s→RelV o ov→RelV i iv→RelV v u→t o i v H Q →
    wpAny (model X.prog X.w) X.A (setItem ov iv u) (fun _ s'=>∃ H',Inv X pins σ H' s'∧Q H') X.xe s
section
variable {X:Cx} {pos:Pos}
def gName (i:Nat):TG:=fun v σ H Q=>Q (σ.set i (some v)) H
theorem pg_name {i:Nat} {x:Str} (hN:X.N.Nodup) (hi:X.N[i]?=some x) (hx:Loc X.env.scope x) (hf:X.fn x=true∨X.env.scope.names.lookup x=some .local:=by first | exact .inl rfl | exact .inr rfl | assumption):PG X (.Name x pos) (gName i):=by
  intro pins s σ H v u Q I r h
  exact wpAny_assign_Name (store_ok I hN hi hx r (fun s' I'=>⟨_,H,I',h⟩) hf)
def gNil:TGs:=fun vs σ H Q=>vs=[]∧Q σ H
def gCons (t:TG) (u:TGs):TGs:=fun vs σ H Q=>∃ v r,vs=v :: r∧t v σ H fun σ' H'=>u r σ' H' Q
theorem pgs_nil:PGs X [] gNil:=by
  intro pins s σ H vs us Q I r h
  obtain ⟨e,h⟩:=h
  subst e
  cases r
  exact assignInOrder_nil ⟨σ,H,I,h⟩
theorem pgs_cons {e:Expr} {es:List Expr} {t:TG} {u:TGs} (h1:PG X e t) (h2:PGs X es u)
    (hs:(assignEach (e :: es) X.env).map (·.2)=assign e X.env :: (assignEach es X.env).map (·.2):=by rfl):PGs X (e :: es) (gCons t u):=by
  intro pins s σ H vs us Q I r h
  obtain ⟨v,vr,e1,h⟩:=h
  subst e1
  cases r with
  | cons r rr=>
    rw [hs]
    refine assignInOrder_cons (thn (h1 pins s σ H _ _ _ I r h) fun _ s1 ⟨σ1,H1,I1,q1⟩=>?_)
    exact h2 pins s1 σ1 H1 _ _ Q I1 rr q1
def gTup (K:PySem.W.Frag) (n:Nat) (t:TGs):TG:=fun v σ H Q=>∃ a xs,v=.ref a∧SqT K H a xs∧xs.length=n∧t xs σ H Q
theorem pg_tup {es:List Expr} {k:Nat} {t:TGs} {n:Nat} (hc:X.calm=true) (h:PGs X es t)
    (hn:(assignEach es X.env).length=n:=by rfl) (hst:(assignEach es X.env).findIdx? (·.1)=none:=by rfl):PG X (.Tuple es k pos) (gTup X.K n t):=by
  intro pins s σ H v u Q I r hw
  obtain ⟨a,xs,e1,hq,hl,hw⟩:=hw
  subst e1
  cases r
  obtain ⟨its,rv,ht,hz⟩:=I.tuple hq
  refine assign_Tuple_tuple (I.ok.hd hc) ht (by simp [hn,← hl,rv.length]) hst fun h' hx=>?_
  have I1:Inv X pins σ H { s with heap:=h' }:=I.kept (t':=s.toks) fun b o e=>hx b o (Nat.ne_of_lt (Heap.lt_size e)) e
  exact h pins _ σ H xs _ Q I1 (by simpa using rv) hw
def gSub (to ti:TE) (t:TSet):TG:=fun v σ H Q=>to σ H fun o H1=>ti σ H1 fun i H2=>t o i v H2 fun H3=>Q σ H3
theorem pg_sub {o i:Expr} {to ti:TE} {t:TSet} (ho:PE X o to) (hi:PE X i ti) (hs:PSet X t)
    (ha:∀ v,assign (.Subscript o i pos) X.env v=(do
      let ov ← holding [v] (eval o X.env)
      let iv ← holding [v,ov] (eval i X.env)
      standAt pos
      holding [v,ov,iv] (setItem ov iv v)
      release [v,ov,iv] []):=by intro _;rfl):PG X (.Subscript o i pos) (gSub to ti t):=by
  intro pins s σ H v u Q I r h
  rw [ha]
  refine wpAny_bind (wpAny_holding (thn (ho pins s σ H _ I h) fun ov s1 ⟨x,H1,I1,r1,q1⟩=>?_))
  refine wpAny_bind (wpAny_holding (thn (hi pins s1 σ H1 _ I1 q1) fun iv s2 ⟨y,H2,I2,r2,q2⟩=>?_))
  refine wpAny_bind (wpAny_standAt (wpAny_bind (wpAny_holding (thn (hs pins s2 σ H2 x y v ov iv u _ I2 r1 r2 r q2) fun _ s3 ⟨H3,I3,q3⟩=>?_))))
  exact wpAny_release ⟨σ,H3,I3,q3⟩
def tAsg (te:TE) (g:TG):TS:=fun D σ H=>te σ H fun x H1=>g x σ H1 D.nx
theorem ps_asg {tg e:Expr} {te:TE} {g:TG} (he:PE X e te) (hg:PG X tg g) (hs:swapsWithSole [tg] e pos.line X.env=pure false:=by rfl) (hw:swappedStores [tg] e X.env=pure none:=by rfl)
    (h1:(assignEach [tg] X.env).map (·.2)=[assign tg X.env]:=by rfl):PS X (.Assign [tg] e pos) (tAsg te g):=by
  intro pins s σ H D I h
  refine wpAny_Assign_stores (thn (he pins s σ H _ I h) fun v s1 ⟨x,H1,I1,r1,q1⟩=>?_) hs hw
  rw [h1]
  exact thn (hg pins s1 σ H1 x v _ I1 r1 q1) fun _ s2 q=>q
theorem ps_set {i:Nat} {x:Str} {e:Expr} {te:TE} {pos':Pos} (hN:X.N.Nodup) (hi:X.N[i]?=some x) (hx:Loc X.env.scope x) (he:PE X e te) (hs:swapsWith e (some (.Name x pos')) pos.line X.env=pure false:=by rfl) (hf:X.fn x=true∨X.env.scope.names.lookup x=some .local:=by first | exact .inl rfl | exact .inr rfl | assumption) :
    PS X (.Assign [.Name x pos'] e pos) (tAsg te (gName i)):=by
  intro pins s σ H D I h
  refine wpAny_Assign_Name (thn (he pins s σ H _ I h) fun v s1 ⟨y,H1,I1,r1,q1⟩=>?_) hs
  exact store_ok I1 hN hi hx r1 (fun s2 I2=>⟨_,H1,I2,q1⟩) hf
end
section
variable {X:Cx} {pos:Pos}
def tWhile (c:TT) (tb:TS):TS:=fun D σ H=>∃ W:Nat→St→Hp→Prop,(∃ m,W m σ H)∧∀ m σ H,W m σ H →
  c σ H fun b H1=>if b=true then ∃ N:St→Hp→Prop,(∀ σ' H',N σ' H'→∃ m',m' < m∧W m' σ' H')∧tb { D with nx:=N,ct:=N,bk:=D.nx } σ H1 else D.nx σ H1
theorem ps_while {c:Expr} {body:List Stmt} {tc:TT} {tb:TS} (hp:PassesOwn (model X.prog X.w) X.A X.env X.xe) (hc:PT X c tc) (hb:PSs X body tb):PS X (.While c body [] pos) (tWhile tc tb):=by
  intro pins s σ H D I h
  obtain ⟨W,⟨m0,w0⟩,turn⟩:=h
  refine wpAny_While (codeAny_whileLoop (fun n s'=>∃ σ' H',Inv X pins σ' H' s'∧W n σ' H') ?_ m0 ⟨σ,H,I,w0⟩)
  rintro n s1 ⟨σ1,H1,I1,w1⟩
  refine wpAny_passesOwn hp (thn (hc pins s1 σ1 H1 _ I1 (turn n σ1 H1 w1)) fun b s2 ⟨H2,I2,q2⟩=>?_)
  cases b with
  | true=>
    obtain ⟨N,hN,q2⟩:=q2
    rw [if_pos rfl]
    refine wpAny_passesOwn hp (thn (hb pins s2 σ1 H2 _ I2 q2) fun f s3 q3=>?_)
    cases f with
    | next=>
      obtain ⟨σ3,H3,I3,n3⟩:=q3
      obtain ⟨m',hm,w3⟩:=hN σ3 H3 n3
      exact ⟨m',hm,σ3,H3,I3,w3⟩
    | cont=>
      obtain ⟨σ3,H3,I3,n3⟩:=q3
      obtain ⟨m',hm,w3⟩:=hN σ3 H3 n3
      exact ⟨m',hm,σ3,H3,I3,w3⟩
    | brk=>exact q3
    | ret v=>exact q3
  | false=>
    rw [if_neg Bool.false_ne_true]
    exact wpAny_execs_nil ⟨σ1,H2,I2,q2⟩
end
structure It where
  go:Nat→Hp→Prop
  yld:Nat→Hp→V→Hp→Prop
  stop:Nat→Hp→Prop
def FpOk (X:Cx) (pins:List (Addr × Obj)) (H:Hp) (b:Addr):Prop:=
  H b=none∧b≠X.env.locals∧b ∉ X.fs∧(b∈X.ex∨X.s₀.heap.objs.size≤b)∧(∀ x c,X.env.cells.lookup x=some c→c≠b)∧∀ p∈X.pn++pins,p.1≠b
theorem Inv.fpOk {X:Cx} {pins:List (Addr × Obj)} {σ:St} {H H':Hp} {s:Shared} {b:Addr} (I:Inv X pins σ H s) (hb:s.heap.objs.size≤b) (hn:H' b=none):FpOk X pins H' b:=by
  refine ⟨hn,Nat.ne_of_gt (Nat.lt_of_lt_of_le I.lt hb),I.nofs hb,.inr (Nat.le_trans I.sz hb),fun x c e z=>?_,fun p hp z=>?_⟩
  · obtain ⟨v,q⟩:=I.cell x c e
    exact absurd (Nat.lt_of_lt_of_le q.lt (by rw [z];exact hb)) (Nat.lt_irrefl _)
  · exact absurd (Nat.lt_of_lt_of_le (Heap.lt_size (I.pin p hp).1) (by rw [z];exact hb)) (Nat.lt_irrefl _)
structure Turn (P:Program) (w:World) (K:PySem.W.Frag) (tg:Expr) (J:It) (fp:List Addr) (it:Addr) (tn:Nat→Heap→Prop):Prop where
  mem:it∈fp
  obj:∀ i h,tn i h→∀ b∈fp,∃ o,h.get? b=some o∧∀ v,o.data≠.cell v
  keep:∀ i h h',tn i h→(∀ b∈fp,∀ o,h.get? b=some o→h'.get? b=some o)→tn i h'
  item:∀ (X:Cx),X.prog=P→X.w=w→X.K=K→X.calm=true→∀ (i:Nat) (pins:List (Addr × Obj)) (s:Shared) (σ:St) (H:Hp) (E:Value→Shared→Prop),Inv X pins σ H s→(∀ b∈fp,FpOk X pins H b)→tn i s.heap→J.go i H →
    wpAny (model P w) X.A (pyNext (.ref it)) (fun r s1=>∃ u,r=some u ∧
      wpAny (model P w) X.A (letOwnedTupleGo tg (.ref it) u) (fun _ s2=>∃ x H',Inv X pins σ H' s2∧RelV x u∧J.yld i H x H'∧tn (i+1) s2.heap∧∀ b∈fp,H' b=none) E s1) E s
  done:∀ (X:Cx),X.prog=P→X.w=w→X.K=K→X.calm=true→∀ (i:Nat) (pins:List (Addr × Obj)) (s:Shared) (σ:St) (H:Hp) (E:Value→Shared→Prop),Inv X pins σ H s→(∀ b∈fp,FpOk X pins H b)→tn i s.heap→J.stop i H →
    wpAny (model P w) X.A (pyNext (.ref it)) (fun r s1=>r=none∧Inv X pins σ H s1) E s
  self:∀ (A:Around) (i:Nat) (s:Shared) (Q:Value→Shared→Prop) (E:Value→Shared→Prop),tn i s.heap→Q (.ref it) s→wpAny (model P w) A (pyIter (.ref it)) Q E s
abbrev TI:=St→Hp→(It→Hp→Prop)→Prop
def PIE (X:Cx) (pins:List (Addr × Obj)) (σ:St) (tg:Expr) (R:It→Hp→Prop) (itv:Value) (s2:Shared):Prop:=
  ∃ (it:Addr) (fp:List Addr) (tn:Nat→Heap→Prop) (J:It) (H':Hp),itv=.ref it∧Inv X pins σ H' s2∧Turn X.prog X.w X.K tg J fp it tn∧tn 0 s2.heap∧(∀ b∈fp,FpOk X pins H' b)∧R J H'
def PI (X:Cx) (tg iter:Expr) (wi:TI):Prop:=
  ∀ (pins:List (Addr × Obj)) (s:Shared) (σ:St) (H:Hp) (R:It→Hp→Prop),Inv X pins σ H s→wi σ H R →
    wpAny (model X.prog X.w) X.A (eval iter X.env) (fun v s1=>wpAny (model X.prog X.w) X.A (pyIter v) (PIE X pins σ tg R) X.xe s1) X.xe s
theorem go_of {M:Model} {A:Around} {E:Value→Shared→Prop} {s:Shared} {tg:Expr} {it:Addr} {u:Value} {o:Obj} {n:String} {vs:Array Value} {Q:Unit→Shared→Prop} (ho:s.heap.get? it=some o) (hc:o.cls=.type n) (hd:o.data=.fields vs)
    (hn:["enumerate", "zip", "dict_itemiterator", "dict_reverseitemiterator", "odict_iterator", "itertools.zip_longest", "itertools.pairwise"].contains n=false) (hQ:Q () s):wpAny M A (letOwnedTupleGo tg (.ref it) u) Q E s:=by
  unfold letOwnedTupleGo
  cases tg <;> first
    | exact wpAny_pure hQ
    | (cases u <;> first
        | exact wpAny_pure hQ
        | (refine wpAny_bind (wpAny_load ho ?_)
           rw [hc,hd]
           show wpAny M A (if (["enumerate", "zip", "dict_itemiterator", "dict_reverseitemiterator", "odict_iterator", "itertools.zip_longest", "itertools.pairwise"].contains n && vs[0]? == some (rawInt _))=true then _ else _) Q E s
           rw [if_neg (by intro h;rw [hn,Bool.false_and] at h;cases h)]
           exact wpAny_pure hQ))
def Itl (K:PySem.W.Frag) (a:Addr):It:=
  ⟨fun i H=>∃ xs x,SqL K H a xs∧xs[i]?=some x,fun i H x H'=>H'=H∧∀ xs,SqL K H a xs→xs[i]?=some x,fun i H=>∃ xs,SqL K H a xs∧xs.length≤i⟩
def Itt (K:PySem.W.Frag) (a:Addr):It:=
  ⟨fun i H=>∃ xs x,SqT K H a xs∧xs[i]?=some x,fun i H x H'=>H'=H∧∀ xs,SqT K H a xs→xs[i]?=some x,fun i H=>∃ xs,SqT K H a xs∧xs.length≤i⟩
def Itr (lo:Int) (n:Nat):It:=⟨fun i _=>i < n,fun i H x H'=>H'=H∧x=.int (lo+i),fun i _=>n≤i⟩
theorem turn_list {P:Program} {w:World} {K:PySem.W.Frag} {tg:Expr} (a it:Addr):Turn P w K tg (Itl K a) [it] it (fun i h=>h.IsListIter it a i) where
  mem:=by simp
  obj:=fun i h st b hb=>by
    have e:b=it:=by simpa using hb
    subst e
    obtain ⟨o,e,c,d⟩:=st
    exact ⟨o,e,fun v z=>by rw [d] at z;cases z⟩
  keep:=fun i h h' st k=>st.at fun o e=>k it (by simp) o e
  item:=by
    intro X hP hw hK hc i pins s σ H E I hf st hg
    subst hP hw hK
    obtain ⟨xs,x,hq,hx⟩:=hg
    obtain ⟨its,rv,p,hz⟩:=I.list hq
    obtain ⟨u,hu,ru⟩:=rv.get hx
    obtain ⟨f0,f1,f2,f3,f4,f5⟩:=hf it (by simp)
    refine wpAny_pyNext_list_item st p.isList (x:=u) (by simpa using hu) fun h' st' sb=>?_
    have I1:Inv X pins σ H { s with heap:=h' }:=I.turned (t':=s.toks) (fun b o hb e=>(sb.2 b hb).trans e) f0 f1 f3 f4 f5
    obtain ⟨o,e,c,d⟩:=id st'
    exact ⟨u,rfl,go_of (s:={ s with heap:=h' }) e c d (by decide) ⟨x,H,I1,ru,⟨rfl,fun ys hy=>by rw [I.list_inj hy hq];exact hx⟩,st',fun b hb=>(hf b hb).1⟩⟩
  done:=by
    intro X hP hw hK hc i pins s σ H E I hf st hg
    subst hP hw hK
    obtain ⟨xs,hq,hx⟩:=hg
    obtain ⟨its,rv,p,hz⟩:=I.list hq
    obtain ⟨f0,f1,f2,f3,f4,f5⟩:=hf it (by simp)
    have hl:=rv.length
    exact wpAny_pyNext_list_end (I.ok.hd hc) st p.isList (by simp;omega) fun h' eb=>⟨rfl,I.turned (t':=s.toks) (fun b o hb e=>eb b o hb e) f0 f1 f3 f4 f5⟩
  self:=fun _ _ _ _ _ st h=>wpAny_pyIter_listiter st h
theorem turn_tuple {P:Program} {w:World} {K:PySem.W.Frag} {tg:Expr} (a it:Addr):Turn P w K tg (Itt K a) [it] it (fun i h=>h.IsTupleIter it a i) where
  mem:=by simp
  obj:=fun i h st b hb=>by
    have e:b=it:=by simpa using hb
    subst e
    obtain ⟨o,e,c,d⟩:=st
    exact ⟨o,e,fun v z=>by rw [d] at z;cases z⟩
  keep:=fun i h h' st k=>st.at fun o e=>k it (by simp) o e
  item:=by
    intro X hP hw hK hc i pins s σ H E I hf st hg
    subst hP hw hK
    obtain ⟨xs,x,hq,hx⟩:=hg
    obtain ⟨its,rv,p,hz⟩:=I.tuple hq
    obtain ⟨u,hu,ru⟩:=rv.get hx
    obtain ⟨f0,f1,f2,f3,f4,f5⟩:=hf it (by simp)
    refine wpAny_pyNext_tuple_item st (show s.heap.IsTuple a its.toArray from p) (x:=u) (by simpa using hu) fun h' st' sb=>?_
    have I1:Inv X pins σ H { s with heap:=h' }:=I.turned (t':=s.toks) (fun b o hb e=>(sb.2 b hb).trans e) f0 f1 f3 f4 f5
    obtain ⟨o,e,c,d⟩:=id st'
    exact ⟨u,rfl,go_of (s:={ s with heap:=h' }) e c d (by decide) ⟨x,H,I1,ru,⟨rfl,fun ys hy=>by rw [I.tuple_inj hy hq];exact hx⟩,st',fun b hb=>(hf b hb).1⟩⟩
  done:=by
    intro X hP hw hK hc i pins s σ H E I hf st hg
    subst hP hw hK
    obtain ⟨xs,hq,hx⟩:=hg
    obtain ⟨its,rv,p,hz⟩:=I.tuple hq
    obtain ⟨f0,f1,f2,f3,f4,f5⟩:=hf it (by simp)
    have hl:=rv.length
    exact wpAny_pyNext_tuple_end (I.ok.hd hc) st (show s.heap.IsTuple a its.toArray from p) (by simp;omega) fun h' eb=>⟨rfl,I.turned (t':=s.toks) (fun b o hb e=>eb b o hb e) f0 f1 f3 f4 f5⟩
  self:=fun _ _ _ _ _ st h=>wpAny_pyIter_tupleiter st h
theorem turn_range {P:Program} {w:World} {K:PySem.W.Frag} {tg:Expr} (it:Addr) (lo:Int) (n:Nat):Turn P w K tg (Itr lo n) [it] it (fun i h=>IsRangeIter h it (lo+(i:Nat) * 1) ((n:Int) - (i:Nat)) 1) where
  mem:=by simp
  obj:=fun i h st b hb=>by
    have e:b=it:=by simpa using hb
    subst e
    exact ⟨_,st,fun v z=>by
      have z':Data.fields _=Data.cell v:=z
      cases z'⟩
  keep:=fun i h h' st k=>k it (by simp) _ st
  item:=by
    intro X hP hw hK hc i pins s σ H E I hf st hg
    subst hP hw hK
    obtain ⟨f0,f1,f2,f3,f4,f5⟩:=hf it (by simp)
    have W:=Walks.range (prog:=X.prog) (w:=X.w) (I.ok.hd hc) it lo 1 n
    refine W.item i s _ _ hg st fun v h' tk hv st' kk=>?_
    obtain ⟨t,rfl⟩:=hv
    have I1:Inv X pins σ H { s with heap:=h',toks:=tk }:=I.turned (fun b o hb e=>kk b o (by simpa using hb) e) f0 f1 f3 f4 f5
    refine ⟨_,rfl,go_of (s:={ s with heap:=h',toks:=tk }) (n := "range_iterator") st' rfl rfl (by decide) ⟨.int (lo+i),H,I1,⟨t,?_⟩,⟨rfl,rfl⟩,st',fun b hb=>(hf b hb).1⟩⟩
    rw [Int.mul_one]
  done:=by
    intro X hP hw hK hc i pins s σ H E I hf st hg
    subst hP hw hK
    obtain ⟨f0,f1,f2,f3,f4,f5⟩:=hf it (by simp)
    exact wpAny_pyNext_range_end (I.ok.hd hc) st (by have:n≤i:=hg;omega) fun h' eb=>⟨rfl,I.turned (t':=s.toks) (fun b o hb e=>eb b o hb e) f0 f1 f3 f4 f5⟩
  self:=fun _ _ _ _ _ st h=>wpAny_pyIter_rangeiter st h
end L2
namespace L2
open PySem PySem.Spec PyProof.Rows
section
variable {X:Cx} {tg:Expr}
def iList (K:PySem.W.Frag) (tl:TE):TI:=fun σ H R=>tl σ H fun x H1=>∃ a,x=.ref a∧(∃ xs,SqL K H1 a xs)∧R (Itl K a) H1
def iTup (K:PySem.W.Frag) (tl:TE):TI:=fun σ H R=>tl σ H fun x H1=>∃ a,x=.ref a∧(∃ xs,SqT K H1 a xs)∧R (Itt K a) H1
theorem pi_list {l:Expr} {tl:TE} (hl:PE X l tl):PI X tg l (iList X.K tl):=by
  intro pins s σ H R I h
  refine thn (hl pins s σ H _ I h) fun v s1 ⟨x,H1,I1,r1,q1⟩=>?_
  obtain ⟨a,e,⟨xs,hq⟩,q⟩:=q1
  subst e
  cases r1
  obtain ⟨its,rv,p,hz⟩:=I1.list hq
  refine wpAny_pyIter_list p.isList ?_
  refine ⟨s1.heap.objs.size,[s1.heap.objs.size],_,_,H1,rfl,I1.kept (t':=s1.toks) fun b o e=>Heap.get?_push_of_some _ e,turn_list a _,⟨_,Heap.get?_push_size _ rfl,rfl,rfl⟩,fun b hb=>?_,q⟩
  have e:b=s1.heap.objs.size:=by simpa using hb
  subst e
  exact I1.fpOk (Nat.le_refl _) (I1.hok.fresh (Nat.le_refl _))
theorem pi_tup {l:Expr} {tl:TE} (hl:PE X l tl):PI X tg l (iTup X.K tl):=by
  intro pins s σ H R I h
  refine thn (hl pins s σ H _ I h) fun v s1 ⟨x,H1,I1,r1,q1⟩=>?_
  obtain ⟨a,e,⟨xs,hq⟩,q⟩:=q1
  subst e
  cases r1
  obtain ⟨its,rv,p,hz⟩:=I1.tuple hq
  refine wpAny_pyIter_tuple (show s1.heap.IsTuple a its.toArray from p) ?_
  refine ⟨s1.heap.objs.size,[s1.heap.objs.size],_,_,H1,rfl,I1.kept (t':=s1.toks) fun b o e=>Heap.get?_push_of_some _ e,turn_tuple a _,⟨_,Heap.get?_push_size _ rfl,rfl,rfl⟩,fun b hb=>?_,q⟩
  have e:b=s1.heap.objs.size:=by simpa using hb
  subst e
  exact I1.fpOk (Nat.le_refl _) (I1.hok.fresh (Nat.le_refl _))
theorem range_it {pins:List (Addr × Obj)} {σ:St} {H:Hp} {s:Shared} {R:It→Hp→Prop} {E:Value→Shared→Prop} {lo hi:Int} {t u v:Tok} {tk:Nat} (I:Inv X pins σ H s) (h1:-(2 ^ 62)≤lo) (h2:lo < 2 ^ 62) (h3:-(2 ^ 62)≤hi) (h4:hi < 2 ^ 62)
    (q:R (Itr lo (hi - lo).toNat) H):wpAny (model X.prog X.w) X.A (pyIter (.ref s.heap.objs.size)) (PIE X pins σ tg R) E { s with heap:=s.heap.push { cls:=.type "range", data:=.fields #[.int lo t,.int hi u,.int 1 v] },toks:=tk }:=by
  refine wpAny_pyIter_range (IsRange.new ..) (small_one h1 h2 h3 h4) ?_
  have I1:Inv X pins σ H { s with heap:=s.heap.push { cls:=.type "range", data:=.fields #[.int lo t,.int hi u,.int 1 v] },toks:=tk }:=I.kept fun b o e=>Heap.get?_push_of_some _ e
  refine ⟨(s.heap.push { cls:=.type "range", data:=.fields #[.int lo t,.int hi u,.int 1 v] }).objs.size,[(s.heap.push { cls:=.type "range", data:=.fields #[.int lo t,.int hi u,.int 1 v] }).objs.size],_,_,H,rfl,
    I1.kept (t':=tk) fun b o e=>Heap.get?_push_of_some _ e,turn_range _ lo (hi - lo).toNat,?_,fun b hb=>?_,q⟩
  · have e1:lo+((0:Nat):Int) * 1=lo:=by simp
    have e2:(((hi - lo).toNat:Nat):Int) - ((0:Nat):Int)=Builtin.Range.rangeSize lo hi 1:=by rw [rangeSize_one];split <;> omega
    show IsRangeIter _ _ (lo+((0:Nat):Int) * 1) ((((hi - lo).toNat:Nat):Int) - ((0:Nat):Int)) 1
    rw [e1,e2]
    exact Heap.get?_push_size _ rfl
  · have e:b=(s.heap.push { cls:=.type "range", data:=.fields #[.int lo t,.int hi u,.int 1 v] }).objs.size:=by simpa using hb
    subst e
    exact I1.fpOk (Nat.le_refl _) (I1.hok.fresh (Nat.le_refl _))
def iRng1 (ta:TA):TI:=fun σ H R=>ta σ H fun vs H1=>∃ j:Int,vs=[.int j]∧-(2 ^ 62)≤j∧j < 2 ^ 62∧R (Itr 0 j.toNat) H1
def iRng2 (ta:TA):TI:=fun σ H R=>ta σ H fun vs H1=>∃ i j:Int,vs=[.int i,.int j]∧(-(2 ^ 62)≤i∧i < 2 ^ 62∧-(2 ^ 62)≤j∧j < 2 ^ 62)∧R (Itr i (j - i).toNat) H1
theorem pi_range1 {a:Expr} {ta:TA} {p pos:Pos} (hg:Gl X "range") (hm:X.mg "range" = none) (ha:PA X [a] ta) (hs:starEach [a] X.env=[(false,eval a X.env)]:=by rfl):PI X tg (.Call (.Name "range" p) [a] [] pos) (iRng1 ta):=by
  intro pins s σ H R I h
  refine Call_ (ld_blt I hg hm boot_range (PyProof.Rows.callWith_type1 (thn (ha pos pins s σ H _ I h) fun us s1 ⟨vs,H1,I1,r1,q1⟩=>?_) hs rfl))
  obtain ⟨j,e,q1,q2,q⟩:=q1
  subst e
  cases r1 with
  | cons r rr=>
    cases rr
    obtain ⟨t,rfl⟩:=r
    exact call_range_1 (range_it I1 (by omega) (by omega) q1 q2 (by simpa using q))
theorem pi_range2 {a b:Expr} {ta:TA} {p pos:Pos} (hg:Gl X "range") (hm:X.mg "range" = none) (ha:PA X [a,b] ta) (hs:starEach [a,b] X.env=[(false,eval a X.env),(false,eval b X.env)]:=by rfl) (hs2:starEach [b] X.env=[(false,eval b X.env)]:=by rfl) :
    PI X tg (.Call (.Name "range" p) [a,b] [] pos) (iRng2 ta):=by
  intro pins s σ H R I h
  refine Call_ (ld_blt I hg hm boot_range (PyProof.Rows.callWith_type1 (thn (ha pos pins s σ H _ I h) fun us s1 ⟨vs,H1,I1,r1,q1⟩=>?_) (by rw [hs,hs2]) (by rw [hs2];rfl)))
  obtain ⟨i,j,e,⟨q1,q2,q3,q4⟩,q⟩:=q1
  subst e
  cases r1 with
  | cons r rr=>
    cases rr with
    | cons r' rr=>
      cases rr
      obtain ⟨t,rfl⟩:=r
      obtain ⟨t',rfl⟩:=r'
      exact call_range_2 (range_it I1 q1 q2 q3 q4 q)
def tFor (wi:TI) (g:TG) (tb:TS):TS:=fun D σ H=>wi σ H fun J H1=>∃ W:Nat→Nat→St→Hp→Prop,(∃ m,W 0 m σ H1)∧∀ i m σ H,W i m σ H →
  (J.stop i H∧D.nx σ H)∨(J.go i H∧∃ N:St→Hp→Prop,(∀ σ' H',N σ' H'→∃ m',m' < m∧W (i+1) m' σ' H')∧∀ x H',J.yld i H x H'→g x σ H' fun σ2 H2=>tb { D with nx:=N,ct:=N,bk:=D.nx } σ2 H2)
def pinsAt (fp:List Addr) (h:Heap):List (Addr × Obj):=fp.filterMap fun b=>(h.get? b).map fun o=>(b,o)
theorem mem_pinsAt {fp:List Addr} {h:Heap} {b:Addr} {o:Obj} (hb:b∈fp) (e:h.get? b=some o):(b,o)∈pinsAt fp h:=List.mem_filterMap.mpr ⟨b,hb,by rw [e];rfl⟩
theorem of_pinsAt {fp:List Addr} {h:Heap} {p:Addr × Obj} (hp:p∈pinsAt fp h):p.1∈fp∧h.get? p.1=some p.2:=by
  obtain ⟨b,hb,e⟩:=List.mem_filterMap.mp hp
  cases q:h.get? b with
  | none=>rw [q] at e;cases e
  | some o=>
    rw [q] at e
    have e':(b,o)=p:=Option.some.inj e
    subst e'
    exact ⟨hb,q⟩
theorem Inv.pinned {pins:List (Addr × Obj)} {σ:St} {H:Hp} {s:Shared} {fp:List Addr} (I:Inv X pins σ H s) (hf:∀ b∈fp,FpOk X pins H b) (ho:∀ b∈fp,∃ o,s.heap.get? b=some o∧∀ v,o.data≠.cell v):Inv X (pins++pinsAt fp s.heap) σ H s:=
  I.pins_of fun p hp=>(List.mem_append.mp hp).elim (fun z=>I.pin p (List.mem_append_right _ z)) fun z=>by
    obtain ⟨hb,e⟩:=of_pinsAt z
    obtain ⟨f0,f1,f2,_⟩:=hf p.1 hb
    obtain ⟨o,e',d⟩:=ho p.1 hb
    rw [e] at e';cases e'
    exact ⟨e,f0,f1,f2,d⟩
theorem Inv.unpinned {pins pl:List (Addr × Obj)} {σ:St} {H:Hp} {s:Shared} (I:Inv X (pins++pl) σ H s):Inv X pins σ H s:=I.pins_of fun p hp=>I.pin p (List.mem_append_right _ (List.mem_append_left _ hp))
theorem ps_for {iter:Expr} {body:List Stmt} {wi:TI} {g:TG} {tb:TS} {pos:Pos} (hp:PassesOwn (model X.prog X.w) X.A X.env X.xe) (hc:X.calm=true) (hi:PI X tg iter wi) (hg:PG X tg g) (hb:PSs X body tb)
    (hs:∀ x,foldedSetIterable iter X.env x=pure x:=by intro _;rfl):PS X (.For tg iter body [] pos) (tFor wi g tb):=by
  intro pins s σ H D I h
  refine wpAny_For (thn (hi pins s σ H _ I h) fun v s1 h1=>thn h1 fun itv s2 h2=>?_) hs
  obtain ⟨it,fp,tn,J,H2,e,I2,T,st2,f2,W,⟨m0,w0⟩,turn⟩:=h2
  subst e
  have stat:∀ {H':Hp},(∀ b∈fp,H' b=none)→∀ b∈fp,FpOk X pins H' b:=fun hn b hb=>⟨hn b hb,(f2 b hb).2⟩
  refine codeAny_forLoop_any (fun n s'=>∃ i σ' H',Inv X pins σ' H' s'∧tn i s'.heap∧(∀ b∈fp,H' b=none)∧W i n σ' H') ?_ m0 ⟨0,σ,H2,I2,st2,fun b hb=>(f2 b hb).1,w0⟩
  rintro n s3 ⟨i,σ3,H3,I3,st3,fr3,w3⟩
  rcases turn i n σ3 H3 w3 with ⟨stop,qn⟩ | ⟨go,N,hN,step⟩
  · refine wpAny_passesOwn hp (thn (T.done X rfl rfl rfl hc i pins s3 σ3 H3 X.xe I3 (stat fr3) st3 stop) fun r s4 ⟨hr,I4⟩=>?_)
    subst hr
    exact wpAny_execs_nil ⟨σ3,H3,I4,qn⟩
  · refine wpAny_passesOwn hp (thn (T.item X rfl rfl rfl hc i pins s3 σ3 H3 X.xe I3 (stat fr3) st3 go) fun r s4 ⟨u,hr,h4⟩=>?_)
    subst hr
    refine wpAny_passesOwn hp (thn h4 fun _ s5 ⟨x,H5,I5,r5,y5,st5,fr5⟩=>?_)
    have I5':=I5.pinned (stat fr5) (T.obj _ _ st5)
    refine wpAny_passesOwn hp (thn (hg _ s5 σ3 H5 x u _ I5' r5 (step x H5 y5)) fun _ s6 ⟨σ6,H6,I6,q6⟩=>?_)
    refine wpAny_passesOwn hp (thn (hb _ s6 σ6 H6 _ I6 q6) fun f s7 q7=>?_)
    have again:∀ {σ7:St} {H7:Hp},Inv X (pins++pinsAt fp s5.heap) σ7 H7 s7→N σ7 H7→∃ m,m < n∧∃ i σ' H',Inv X pins σ' H' s7∧tn i s7.heap∧(∀ b∈fp,H' b=none)∧W i m σ' H':=fun {σ7 H7} I7 n7=>by
      obtain ⟨m',hm,w7⟩:=hN σ7 H7 n7
      refine ⟨m',hm,i+1,σ7,H7,I7.unpinned,T.keep _ _ _ st5 fun b hb o e=>(I7.pin (b,o) (List.mem_append_right _ (List.mem_append_right _ (mem_pinsAt hb e)))).1,fun b hb=>?_,w7⟩
      obtain ⟨o,e,d⟩:=T.obj _ _ st5 b hb
      exact (I7.pin (b,o) (List.mem_append_right _ (List.mem_append_right _ (mem_pinsAt hb e)))).2.1
    cases f with
    | next=>obtain ⟨σ7,H7,I7,n7⟩:=q7;exact again I7 n7
    | cont=>obtain ⟨σ7,H7,I7,n7⟩:=q7;exact again I7 n7
    | brk=>obtain ⟨σ7,H7,I7,q7⟩:=q7;exact ⟨σ7,H7,I7.unpinned,q7⟩
    | ret v=>obtain ⟨x7,σ7,H7,I7,r7,q7⟩:=q7;exact ⟨x7,σ7,H7,I7.unpinned,r7,q7⟩
end
theorem for_list {K:PySem.W.Frag} {a:Addr} {xs:List V} {g:TG} {tb:TS} {D:Ends} {σ:St} {H:Hp} (Pv:Nat→St→Hp→Prop) (h0:Pv 0 σ H) (hl:∀ i σ H,i≤xs.length→Pv i σ H→SqL K H a xs)
    (hs:∀ i x σ H,xs[i]?=some x→Pv i σ H→g x σ H fun σ2 H2=>tb { D with nx:=Pv (i+1),ct:=Pv (i+1),bk:=D.nx } σ2 H2) (hd:∀ σ H,Pv xs.length σ H→D.nx σ H) :
    ∃ W:Nat→Nat→St→Hp→Prop,(∃ m,W 0 m σ H)∧∀ i m σ H,W i m σ H →
      ((Itl K a).stop i H∧D.nx σ H)∨((Itl K a).go i H∧∃ N:St→Hp→Prop,(∀ σ' H',N σ' H'→∃ m',m' < m∧W (i+1) m' σ' H')∧∀ x H',(Itl K a).yld i H x H'→g x σ H' fun σ2 H2=>tb { D with nx:=N,ct:=N,bk:=D.nx } σ2 H2):=by
  refine ⟨fun i m σ H=>m=xs.length - i∧i≤xs.length∧Pv i σ H,⟨xs.length,by simp,Nat.zero_le _,h0⟩,?_⟩
  rintro i m σ H ⟨rfl,hi,p⟩
  have q:=hl i σ H hi p
  by_cases hlt:i < xs.length
  · refine .inr ⟨⟨xs,xs[i],q,by simp [hlt]⟩,Pv (i+1),fun σ' H' p'=>⟨xs.length - (i+1),by omega,rfl,hlt,p'⟩,fun x H' y=>?_⟩
    obtain ⟨e,y⟩:=y
    subst e
    exact hs i x σ _ (y xs q) p
  · have e:i=xs.length:=by omega
    subst e
    exact .inl ⟨⟨xs,q,Nat.le_refl _⟩,hd σ H p⟩
theorem for_tup {K:PySem.W.Frag} {a:Addr} {xs:List V} {g:TG} {tb:TS} {D:Ends} {σ:St} {H:Hp} (Pv:Nat→St→Hp→Prop) (h0:Pv 0 σ H) (hl:∀ i σ H,i≤xs.length→Pv i σ H→SqT K H a xs)
    (hs:∀ i x σ H,xs[i]?=some x→Pv i σ H→g x σ H fun σ2 H2=>tb { D with nx:=Pv (i+1),ct:=Pv (i+1),bk:=D.nx } σ2 H2) (hd:∀ σ H,Pv xs.length σ H→D.nx σ H) :
    ∃ W:Nat→Nat→St→Hp→Prop,(∃ m,W 0 m σ H)∧∀ i m σ H,W i m σ H →
      ((Itt K a).stop i H∧D.nx σ H)∨((Itt K a).go i H∧∃ N:St→Hp→Prop,(∀ σ' H',N σ' H'→∃ m',m' < m∧W (i+1) m' σ' H')∧∀ x H',(Itt K a).yld i H x H'→g x σ H' fun σ2 H2=>tb { D with nx:=N,ct:=N,bk:=D.nx } σ2 H2):=by
  refine ⟨fun i m σ H=>m=xs.length - i∧i≤xs.length∧Pv i σ H,⟨xs.length,by simp,Nat.zero_le _,h0⟩,?_⟩
  rintro i m σ H ⟨rfl,hi,p⟩
  have q:=hl i σ H hi p
  by_cases hlt:i < xs.length
  · refine .inr ⟨⟨xs,xs[i],q,by simp [hlt]⟩,Pv (i+1),fun σ' H' p'=>⟨xs.length - (i+1),by omega,rfl,hlt,p'⟩,fun x H' y=>?_⟩
    obtain ⟨e,y⟩:=y
    subst e
    exact hs i x σ _ (y xs q) p
  · have e:i=xs.length:=by omega
    subst e
    exact .inl ⟨⟨xs,q,Nat.le_refl _⟩,hd σ H p⟩
theorem for_range {lo:Int} {n:Nat} {g:TG} {tb:TS} {D:Ends} {σ:St} {H:Hp} (Pv:Nat→St→Hp→Prop) (h0:Pv 0 σ H)
    (hs:∀ i σ H,i < n→Pv i σ H→g (.int (lo+i)) σ H fun σ2 H2=>tb { D with nx:=Pv (i+1),ct:=Pv (i+1),bk:=D.nx } σ2 H2) (hd:∀ σ H,Pv n σ H→D.nx σ H) :
    ∃ W:Nat→Nat→St→Hp→Prop,(∃ m,W 0 m σ H)∧∀ i m σ H,W i m σ H →
      ((Itr lo n).stop i H∧D.nx σ H)∨((Itr lo n).go i H∧∃ N:St→Hp→Prop,(∀ σ' H',N σ' H'→∃ m',m' < m∧W (i+1) m' σ' H')∧∀ x H',(Itr lo n).yld i H x H'→g x σ H' fun σ2 H2=>tb { D with nx:=N,ct:=N,bk:=D.nx } σ2 H2):=by
  refine ⟨fun i m σ H=>m=n - i∧i≤n∧Pv i σ H,⟨n,by simp,Nat.zero_le _,h0⟩,?_⟩
  rintro i m σ H ⟨rfl,hi,p⟩
  by_cases hlt:i < n
  · refine .inr ⟨hlt,Pv (i+1),fun σ' H' p'=>⟨n - (i+1),by omega,rfl,hlt,p'⟩,fun x H' y=>?_⟩
    obtain ⟨e,y⟩:=y
    subst e y
    exact hs i σ _ hlt p
  · have e:i=n:=by omega
    subst e
    exact .inl ⟨Nat.le_refl _,hd σ H p⟩
end L2
namespace L2
open PySem PySem.Spec PyProof.Rows
abbrev R2:=V→V→Hp→VK→Prop
def OpR (X:Cx) (f:Value→Value→Sem Value) (r:R2):Prop:=
  ∀ (pins:List (Addr × Obj)) (s:Shared) (σ:St) (H:Hp) (x y:V) (v u:Value) (Q:VK),Inv X pins σ H s→RelV x v→RelV y u→r x y H Q →
    wpAny (model X.prog X.w) X.A (f v u) (EP X pins σ Q) X.xe s
def UnR (X:Cx) (f:Value→Sem Value) (r:V→Hp→VK→Prop):Prop:=
  ∀ (pins:List (Addr × Obj)) (s:Shared) (σ:St) (H:Hp) (x:V) (v:Value) (Q:VK),Inv X pins σ H s→RelV x v→r x H Q →
    wpAny (model X.prog X.w) X.A (f v) (EP X pins σ Q) X.xe s
def CallR (X:Cx) (f:Value) (r:List V→Hp→VK→Prop):Prop:=
  ∀ (pins:List (Addr × Obj)) (s:Shared) (σ:St) (H:Hp) (xs:List V) (us:List Value) (Q:VK),Inv X pins σ H s→Vals xs us→r xs H Q →
    wpAny (model X.prog X.w) X.A (call f us) (EP X pins σ Q) X.xe s
def TruR (X:Cx) (r:V→Hp→(Bool→Hp→Prop)→Prop):Prop:=
  ∀ (pins:List (Addr × Obj)) (s:Shared) (σ:St) (H:Hp) (x:V) (v:Value) (Q:Bool→Hp→Prop),Inv X pins σ H s→RelV x v→r x H Q →
    wpAny (model X.prog X.w) X.A (truthy v) (TP X pins σ Q) X.xe s
def tOp (r:R2) (ta tb:TE):TE:=fun σ H Q=>ta σ H fun x H1=>tb σ H1 fun y H2=>r x y H2 Q
def tUn (r:V→Hp→VK→Prop) (ta:TE):TE:=fun σ H Q=>ta σ H fun x H1=>r x H1 Q
def rI (C:Int→Int→Prop) (g:Int→Int→V):R2:=fun x y H Q=>∃ i j,x=.int i∧y=.int j∧C i j∧Q (g i j) H
def rI0 (g:Int→Int→V):R2:=fun x y H Q=>∃ i j,x=.int i∧y=.int j∧Q (g i j) H
def rU (g:Int→V):V→Hp→VK→Prop:=fun x H Q=>∃ i,x=.int i∧Q (g i) H
section
variable {X:Cx} {a b c:Expr} {ta tb tc:TE} {pos:Pos}
theorem binT (ha:PE X a ta) (hb:PE X b tb) {pins:List (Addr × Obj)} {s:Shared} {σ:St} {H:Hp} {R:V→V→Hp→Prop} (I:Inv X pins σ H s)
    (h:ta σ H fun x H1=>tb σ H1 fun y H2=>R x y H2) {Q:Value→Shared→Prop} {f:Value→Value→Sem Value}
    (hf:∀ v u s2 x y H2,Inv X pins σ H2 s2→RelV x v→RelV y u→R x y H2→wpAny (model X.prog X.w) X.A (f v u) Q X.xe s2) :
    wpAny (model X.prog X.w) X.A (eval a X.env) (fun v s₁=>wpAny (model X.prog X.w) X.A (eval b X.env) (fun u s₂=>wpAny (model X.prog X.w) X.A (f v u) Q X.xe s₂) X.xe s₁) X.xe s:=by
  refine thn (ha pins s σ H _ I h) fun v s1 ⟨x,H1,I1,r1,q1⟩=>?_
  refine thn (hb pins s1 σ H1 _ I1 q1) fun u s2 ⟨y,H2,I2,r2,q2⟩=>?_
  exact hf v u s2 x y H2 I2 r1 r2 q2
theorem pe_op {op:Operator} {r:R2} (ho:OpR X (binaryOp op) r) (ha:PE X a ta) (hb:PE X b tb):PE X (.BinOp a op b pos) (tOp r ta tb):=by
  intro pins s σ H Q I h
  exact wpAny_BinOp (binT ha hb I h fun v u s2 x y H2 I2 rx ry q=>ho pins s2 σ H2 x y v u Q I2 rx ry q)
theorem pe_un {op:UnaryOp} {r:V→Hp→VK→Prop} (ho:UnR X (unaryOp op) r) (ha:PE X a ta):PE X (.UnaryOp op a pos) (tUn r ta):=by
  intro pins s σ H Q I h
  exact UnaryOp_ (thn (ha pins s σ H _ I h) fun v s1 ⟨x,H1,I1,r1,q1⟩=>ho pins s1 σ H1 x v Q I1 r1 q1)
theorem opI {f:Value→Value→Sem Value} {C:Int→Int→Prop} {g:Int→Int→Int}
    (rule:∀ (i j:Int) (t u:Tok) (s:Shared) (Q:Value→Shared→Prop) (E:Value→Shared→Prop),C i j→Q (.int (g i j) s.toks) { s with toks:=s.toks+1 }→wpAny (model X.prog X.w) X.A (f (.int i t) (.int j u)) Q E s) :
    OpR X f (rI C fun i j=>.int (g i j)):=by
  intro pins s σ H x y v u Q I rx ry h
  obtain ⟨i,j,rfl,rfl,hc,q⟩:=h
  obtain ⟨t,rfl⟩:=rx
  obtain ⟨t',rfl⟩:=ry
  exact rule i j t t' s _ _ hc ⟨.int (g i j),H,I.tok _,⟨_,rfl⟩,q⟩
theorem opI0 {f:Value→Value→Sem Value} {g:Int→Int→Int}
    (rule:∀ (i j:Int) (t u:Tok) (s:Shared) (Q:Value→Shared→Prop) (E:Value→Shared→Prop),Q (.int (g i j) s.toks) { s with toks:=s.toks+1 }→wpAny (model X.prog X.w) X.A (f (.int i t) (.int j u)) Q E s) :
    OpR X f (rI0 fun i j=>.int (g i j)):=by
  intro pins s σ H x y v u Q I rx ry h
  obtain ⟨i,j,rfl,rfl,q⟩:=h
  obtain ⟨t,rfl⟩:=rx
  obtain ⟨t',rfl⟩:=ry
  exact rule i j t t' s _ _ ⟨.int (g i j),H,I.tok _,⟨_,rfl⟩,q⟩
theorem opB0 {f:Value→Value→Sem Value} {g:Int→Int→Bool}
    (rule:∀ (i j:Int) (t u:Tok) (s:Shared) (Q:Value→Shared→Prop) (E:Value→Shared→Prop),Q (.bool (g i j)) s→wpAny (model X.prog X.w) X.A (f (.int i t) (.int j u)) Q E s) :
    OpR X f (rI0 fun i j=>.bl (g i j)):=by
  intro pins s σ H x y v u Q I rx ry h
  obtain ⟨i,j,rfl,rfl,q⟩:=h
  obtain ⟨t,rfl⟩:=rx
  obtain ⟨t',rfl⟩:=ry
  exact rule i j t t' s _ _ ⟨.bl (g i j),H,I,rfl,q⟩
def CDiv (i j:Int):Prop:=0 < j∧j < 1073741824
def CPow (i j:Int):Prop:=0≤j∧j≤1000000∧i.natAbs < 2 ^ 64
def CMul (i j:Int):Prop:=(-(2 ^ 64) < i∧i < 2 ^ 64)∨(-(2 ^ 64) < j∧j < 2 ^ 64)
theorem CMul.ok {i j:Int} (h:CMul i j):IntMulOk i j:=by
  rcases h with ⟨h1,h2⟩ | ⟨h1,h2⟩
  · exact .of_left (intBits_le_64 h1 h2)
  · exact .of_right (intBits_le_64 h1 h2)
theorem op_add:OpR X (binaryOp .Add) (rI0 fun i j=>.int (i+j)):=opI0 fun _ _ _ _ _ _ _ q=>add_int q
theorem op_sub:OpR X (binaryOp .Sub) (rI0 fun i j=>.int (i - j)):=opI0 fun _ _ _ _ _ _ _ q=>sub_int q
theorem op_mul:OpR X (binaryOp .Mult) (rI CMul fun i j=>.int (i * j)):=opI fun _ _ _ _ _ _ _ hc q=>mul_int q hc.ok
theorem op_fdiv:OpR X (binaryOp .FloorDiv) (rI CDiv fun i j=>.int (i / j)):=opI fun i j _ _ _ _ _ hc q=>by
  have h1:(0:Int) < j:=hc.1
  have h2:j < 1073741824:=hc.2
  exact floordiv_int (by omega) (by rw [Int.fdiv_eq_ediv_of_nonneg i (by omega)];exact q) (.inl (PyProof.noPylong_small (by omega)))
theorem op_mod:OpR X (binaryOp .Mod) (rI (fun _ j=>0 < j) fun i j=>.int (i % j)):=opI fun i j _ _ _ _ _ hc q=>by
  have h1:(0:Int) < j:=hc
  exact mod_int' (by omega) (by rw [Int.fmod_eq_emod_of_nonneg i (by omega)];exact q)
theorem op_pow:OpR X (binaryOp .Pow) (rI CPow fun i j=>.int (i ^ j.toNat)):=opI fun _ _ _ _ _ _ _ hc q=>pow_int_small hc.1 hc.2.1 hc.2.2 q
theorem unI {f:Value→Sem Value} {g:Int→Int}
    (rule:∀ (i:Int) (t:Tok) (s:Shared) (Q:Value→Shared→Prop) (E:Value→Shared→Prop),Q (.int (g i) s.toks) { s with toks:=s.toks+1 }→wpAny (model X.prog X.w) X.A (f (.int i t)) Q E s) :
    UnR X f (rU fun i=>.int (g i)):=by
  intro pins s σ H x v Q I rx h
  obtain ⟨i,rfl,q⟩:=h
  obtain ⟨t,rfl⟩:=rx
  exact rule i t s _ _ ⟨.int (g i),H,I.tok _,⟨_,rfl⟩,q⟩
theorem un_neg:UnR X (unaryOp .USub) (rU fun i=>.int (-i)):=unI fun _ _ _ _ _ q=>neg_int q
end
def scal:V→V→Bool
  | .non,.non=>true | .non,.int _=>true | .int _,.non=>true | .non,.bl _=>true | .bl _,.non=>true | .non,.str _=>true | .str _,.non=>true
  | .int _,.int _=>true | .bl _,.bl _=>true | .str _,.str _=>true | .byt _,.byt _=>true
  | .int _,.str _=>true | .str _,.int _=>true | .bl _,.str _=>true | .str _,.bl _=>true
  | _,_=>false
def rEq:R2:=fun x y H Q=>scal x y=true∧Q (.bl (decide (x=y))) H
def rNe:R2:=fun x y H Q=>scal x y=true∧Q (.bl (!decide (x=y))) H
theorem dec_int {i j:Int}:decide (V.int i=V.int j)=(i == j):=by
  rw [Bool.eq_iff_iff]
  simp
theorem dec_bl {i j:Bool}:decide (V.bl i=V.bl j)=(i == j):=by
  rw [Bool.eq_iff_iff]
  simp
theorem dec_str {i j:Str}:decide (V.str i=V.str j)=(i == j):=by
  rw [Bool.eq_iff_iff]
  simp
theorem dec_byt {i j:Array UInt8}:decide (V.byt i=V.byt j)=(i.toList == j.toList):=by
  rw [Bool.eq_iff_iff]
  cases i
  cases j
  simp
section
variable {X:Cx} {a b c:Expr} {ta tb tc:TE} {pos:Pos}
theorem fin_bl {pins:List (Addr × Obj)} {σ:St} {H:Hp} {s:Shared} {Q:VK} {k k':Bool} (I:Inv X pins σ H s) (q:Q (.bl k) H) (e:k=k'):EP X pins σ Q (.bool k') s:=by
  subst e
  exact ⟨.bl k,H,I,rfl,q⟩
theorem op_eq:OpR X (compareOp .Eq) rEq:=by
  intro pins s σ H x y v u Q I rx ry h
  obtain ⟨hs,q⟩:=h
  cases x with
  | non=>
    cases rx
    cases y with
    | non=>cases ry;exact PySem.EqNone.eq_none_none (fin_bl I q (by simp))
    | bl j=>cases ry;exact PySem.EqNone.eq_none_bool (fin_bl I q (by simp))
    | int j=>obtain ⟨t',rfl⟩:=ry;exact PySem.EqNone.eq_none_int (fin_bl I q (by simp))
    | str j=>obtain ⟨t',rfl⟩:=ry;exact PySem.EqNone.eq_none_str (fin_bl I q (by simp))
    | _=>exact absurd (show false=true from hs) Bool.false_ne_true
  | bl i=>
    cases rx
    cases y with
    | non=>cases ry;exact PySem.EqNone.eq_bool_none (fin_bl I q (by simp))
    | bl j=>cases ry;exact eq_bool (fin_bl I q dec_bl)
    | str j=>obtain ⟨t',rfl⟩:=ry;exact PySem.EqMixed.eq_bool_str (fin_bl I q (by simp))
    | _=>exact absurd (show false=true from hs) Bool.false_ne_true
  | int i=>
    obtain ⟨t,rfl⟩:=rx
    cases y with
    | non=>cases ry;exact PySem.EqNone.eq_int_none (fin_bl I q (by simp))
    | int j=>obtain ⟨t',rfl⟩:=ry;exact eq_int (fin_bl I q dec_int)
    | str j=>obtain ⟨t',rfl⟩:=ry;exact PySem.EqMixed.eq_int_str (fin_bl I q (by simp))
    | _=>exact absurd (show false=true from hs) Bool.false_ne_true
  | str i=>
    obtain ⟨t,rfl⟩:=rx
    cases y with
    | non=>cases ry;exact PySem.EqNone.eq_str_none (fin_bl I q (by simp))
    | bl j=>cases ry;exact PySem.EqMixed.eq_str_bool (fin_bl I q (by simp))
    | int j=>obtain ⟨t',rfl⟩:=ry;exact PySem.EqMixed.eq_str_int (fin_bl I q (by simp))
    | str j=>obtain ⟨t',rfl⟩:=ry;exact eq_str (fin_bl I q dec_str)
    | _=>exact absurd (show false=true from hs) Bool.false_ne_true
  | byt i=>
    obtain ⟨t,rfl⟩:=rx
    cases y with
    | byt j=>obtain ⟨t',rfl⟩:=ry;exact PySem.W.eq_bytes (fin_bl I q dec_byt)
    | _=>exact absurd (show false=true from hs) Bool.false_ne_true
  | _=>cases y <;> exact absurd (show false=true from hs) Bool.false_ne_true
theorem op_ne:OpR X (compareOp .NotEq) rNe:=by
  intro pins s σ H x y v u Q I rx ry h
  obtain ⟨hs,q⟩:=h
  cases x with
  | non=>
    cases rx
    cases y with
    | non=>cases ry;exact PySem.EqNone.ne_none_none (fin_bl I q (by simp))
    | bl j=>cases ry;exact PySem.EqNone.ne_none_bool (fin_bl I q (by simp))
    | int j=>obtain ⟨t',rfl⟩:=ry;exact PySem.EqNone.ne_none_int (fin_bl I q (by simp))
    | str j=>obtain ⟨t',rfl⟩:=ry;exact PySem.EqNone.ne_none_str (fin_bl I q (by simp))
    | _=>exact absurd (show false=true from hs) Bool.false_ne_true
  | bl i=>
    cases rx
    cases y with
    | non=>cases ry;exact PySem.EqNone.ne_bool_none (fin_bl I q (by simp))
    | bl j=>cases ry;exact ne_bool (fin_bl I q (congrArg not dec_bl))
    | str j=>obtain ⟨t',rfl⟩:=ry;exact PySem.EqMixed.ne_bool_str (fin_bl I q (by simp))
    | _=>exact absurd (show false=true from hs) Bool.false_ne_true
  | int i=>
    obtain ⟨t,rfl⟩:=rx
    cases y with
    | non=>cases ry;exact PySem.EqNone.ne_int_none (fin_bl I q (by simp))
    | int j=>obtain ⟨t',rfl⟩:=ry;exact ne_int (fin_bl I q (congrArg not dec_int))
    | str j=>obtain ⟨t',rfl⟩:=ry;exact PySem.EqMixed.ne_int_str (fin_bl I q (by simp))
    | _=>exact absurd (show false=true from hs) Bool.false_ne_true
  | str i=>
    obtain ⟨t,rfl⟩:=rx
    cases y with
    | non=>cases ry;exact PySem.EqNone.ne_str_none (fin_bl I q (by simp))
    | bl j=>cases ry;exact PySem.EqMixed.ne_str_bool (fin_bl I q (by simp))
    | int j=>obtain ⟨t',rfl⟩:=ry;exact PySem.EqMixed.ne_str_int (fin_bl I q (by simp))
    | str j=>obtain ⟨t',rfl⟩:=ry;exact ne_str (fin_bl I q (congrArg not dec_str))
    | _=>exact absurd (show false=true from hs) Bool.false_ne_true
  | byt i=>
    obtain ⟨t,rfl⟩:=rx
    cases y with
    | byt j=>obtain ⟨t',rfl⟩:=ry;exact PySem.W.ne_bytes (fin_bl I q (congrArg not dec_byt))
    | _=>exact absurd (show false=true from hs) Bool.false_ne_true
  | _=>cases y <;> exact absurd (show false=true from hs) Bool.false_ne_true
theorem op_lt:OpR X (compareOp .Lt) (rI0 fun i j=>.bl (decide (i < j))):=opB0 fun _ _ _ _ _ _ _ q=>lt_int q
theorem op_le:OpR X (compareOp .LtE) (rI0 fun i j=>.bl (decide (i≤j))):=opB0 fun _ _ _ _ _ _ _ q=>le_int q
theorem op_gt:OpR X (compareOp .Gt) (rI0 fun i j=>.bl (decide (j < i))):=opB0 fun _ _ _ _ _ _ _ q=>gt_int q
theorem op_ge:OpR X (compareOp .GtE) (rI0 fun i j=>.bl (decide (j≤i))):=opB0 fun _ _ _ _ _ _ _ q=>ge_int q
theorem op_lt_str:OpR X (compareOp .Lt) (fun x y H Q=>∃ i j,x=.str i∧y=.str j∧Q (.bl (decide (i.cps.toList < j.cps.toList))) H):=by
  intro pins s σ H x y v u Q I rx ry h
  obtain ⟨i,j,rfl,rfl,q⟩:=h
  obtain ⟨t,rfl⟩:=rx
  obtain ⟨t',rfl⟩:=ry
  exact lt_str (fin_bl I q rfl)
theorem op_in_str:OpR X (compareOp .In) (fun x y H Q=>∃ i j,x=.str i∧y=.str j∧Q (.bl (!(Builtin.Str.occurrences j i 0 j.length 1).isEmpty)) H):=by
  intro pins s σ H x y v u Q I rx ry h
  obtain ⟨i,j,rfl,rfl,q⟩:=h
  obtain ⟨t,rfl⟩:=rx
  obtain ⟨t',rfl⟩:=ry
  exact in_str (fin_bl I q rfl)
theorem nomark (b:Expr) {op:CmpOp} (h:op≠.In:=by decide) (h2:op≠.NotIn:=by decide):behindInMarks op b=false:=by
  have e1:(op == CmpOp.In)=false:=by cases op <;> first | rfl | exact absurd rfl h
  have e2:(op == CmpOp.NotIn)=false:=by cases op <;> first | rfl | exact absurd rfl h2
  cases b <;> simp [behindInMarks,e1,e2]
theorem pe_cmpR {op:CmpOp} {r:R2} (ho:OpR X (compareOp op) r) (ha:PE X a ta) (hb:PE X b tb) (hm:behindInMarks op b=false):PE X (.Compare a [op] [b] pos) (tOp r ta tb):=by
  intro pins s σ H Q I h
  exact wpAny_Compare1 (binT ha hb I h fun v u s2 x y H2 I2 rx ry q=>ho pins s2 σ H2 x y v u Q I2 rx ry q) hm
def tTest (t:TE):TT:=fun σ H Q=>t σ H fun x H'=>∃ k,x=.bl k∧Q k H'
theorem pt_cmpR {op:CmpOp} {r:R2} (ho:OpR X (compareOp op) r) (ha:PE X a ta) (hb:PE X b tb) (hm:behindInMarks op b=false):PT X (.Compare a [op] [b] pos) (tTest (tOp r ta tb)):=by
  intro pins s σ H Q I h
  refine wpAny_isTrue_Compare1 (thn (ha pins s σ H _ I h) fun v s1 ⟨x,H1,I1,r1,q1⟩=>thn (hb pins s1 σ H1 _ I1 q1) fun u s2 ⟨y,H2,I2,r2,q2⟩=>
    thn (ho pins s2 σ H2 x y v u _ I2 r1 r2 q2) fun c s3 ⟨z,H3,I3,r3,k,e,q3⟩=>?_) hm
  subst e
  cases r3
  exact wpAny_truthy_bool ⟨H3,I3,q3⟩
def tChain (r r':R2) (ta tb tc:TE):TE:=fun σ H Q=>ta σ H fun x H1=>tb σ H1 fun y H2=>r x y H2 fun z H3=>∃ k,z=.bl k ∧
  (if k=true then tc σ H3 fun w' H4=>r' y w' H4 Q else Q (.bl false) H3)
theorem pe_chain {op op':CmpOp} {r r':R2} (ho:OpR X (compareOp op) r) (ho':OpR X (compareOp op') r') (ha:PE X a ta) (hb:PE X b tb) (hc:PE X c tc)
    (hm:lastMarks [op,op'] [b,c]=false:=by with_unfolding_all rfl):PE X (.Compare a [op,op'] [b,c] pos) (tChain r r' ta tb tc):=by
  intro pins s σ H Q I h
  refine Compare_chain (thn (ha pins s σ H _ I h) fun v s1 ⟨x,H1,I1,r1,q1⟩=>chain_link (thn (hb pins s1 σ H1 _ I1 q1) fun u s2 ⟨y,H2,I2,r2,q2⟩=>
    thn (ho pins s2 σ H2 x y v u _ I2 r1 r2 q2) fun d s3 ⟨z,H3,I3,r3,k,e,q3⟩=>?_)) hm
  subst e
  cases r3
  refine wpAny_truthy_bool ?_
  cases k with
  | false=>exact ite_ff ⟨.bl false,H3,I3,rfl,q3⟩
  | true=>exact ite_tt (chain_last (thn (hc pins s3 σ H3 _ I3 q3) fun w' s4 ⟨z',H4,I4,r4,q4⟩=>ho' pins s4 σ H4 y z' u w' Q I4 r2 r4 q4))
def TruV (K:PySem.W.Frag) (x:V) (H:Hp) (k:Bool):Prop:=
  match x with
  | .non=>k=false
  | .bl b=>k=b
  | .int i=>k=(i != 0)
  | .str y=>y.length≤sizeLine∧k=((y.length:Int) != 0)
  | .byt y=>y.size≤sizeLine∧k=((y.size:Int) != 0)
  | .ref p=>(∃ xs,SqL K H p xs∧k=!xs.isEmpty)∨(∃ xs,SqT K H p xs∧k=!xs.isEmpty)∨∃ kvs,H p=some (.dK kvs)∧k=!kvs.isEmpty
  | _=>False
theorem isEmpty_kv {κ:Type} {kvs:List (κ × V)} {vs:List (κ × Value)} (r:KV kvs vs):(!vs.isEmpty)=!kvs.isEmpty:=by
  cases r <;> rfl
theorem isEmpty_of {xs:List V} {its:List Value} (r:Vals xs its):(!its.toArray.isEmpty)=!xs.isEmpty:=by
  cases r <;> simp
theorem line63:(sizeLine:Nat) < 2 ^ 63:=by rw [sizeLine_eq];decide
theorem tru_ok:TruR X (fun x H Q=>∃ k,TruV X.K x H k∧Q k H):=by
  intro pins s σ H x v Q I rx h
  obtain ⟨k,e,q⟩:=h
  have hl:=line63
  have hs:sizeLine=16777216:=sizeLine_eq
  cases x with
  | non=>
    cases rx
    have e':k=false:=e
    subst e'
    exact truthy_none ⟨H,I,q⟩
  | bl b=>
    cases rx
    have e':k=b:=e
    subst e'
    exact wpAny_truthy_bool ⟨H,I,q⟩
  | int i=>
    obtain ⟨t,rfl⟩:=rx
    have e':k=(i != 0):=e
    subst e'
    exact PySem.P.truthy_int ⟨H,I,q⟩
  | str y=>
    obtain ⟨t,rfl⟩:=rx
    obtain ⟨hy,e'⟩:y.length≤sizeLine∧k=((y.length:Int) != 0):=e
    subst e'
    exact PySem.P.truthy_str (by omega) ⟨H,I.tok _,q⟩
  | byt y=>
    obtain ⟨t,rfl⟩:=rx
    obtain ⟨hy,e'⟩:y.size≤sizeLine∧k=((y.size:Int) != 0):=e
    subst e'
    exact PySem.W.truthy_bytes (by omega) ⟨H,I.tok _,q⟩
  | ref p=>
    cases rx
    have e':(∃ xs,SqL X.K H p xs∧k=!xs.isEmpty)∨(∃ xs,SqT X.K H p xs∧k=!xs.isEmpty)∨∃ kvs,H p=some (.dK kvs)∧k=!kvs.isEmpty:=e
    rcases e' with ⟨xs,hx,e'⟩ | ⟨xs,hx,e'⟩ | ⟨kvs,hx,e'⟩
    · subst e'
      obtain ⟨its,r,pl,hz⟩:=I.list hx
      have hlen:=r.length
      exact wpAny_truthy_list pl.isList (by simp only [List.size_toArray];omega) ⟨H,I.tok _,by rw [isEmpty_of r];exact q⟩
    · subst e'
      obtain ⟨its,r,pl,hz⟩:=I.tuple hx
      have hlen:=r.length
      exact truthy_tuple pl (by simp only [List.size_toArray];omega) ⟨H,I.tok _,by rw [isEmpty_of r];exact q⟩
    · subst e'
      obtain ⟨hz,hS,vs,r,m⟩:kvs.length≤sizeLine∧(p == sysModules)=false∧∃ vs,KV kvs vs∧s.heap.DictOf (mixKind X.prog X.w) p vs:=I.hok p _ hx
      have hlen:kvs.length=vs.length:=Paired.length r
      exact wpAny_truthy_dict hS m (by omega) ⟨H,I.tok _,by rw [isEmpty_kv r];exact q⟩
  | _=>exact (show False from e).elim
theorem pt_truth (ha:PE X a ta) (he:∀ whole,isTrue a X.env whole=(do let v ← whole;standAt a.pos;holding [v] (truthy v))) :
    PT X a (fun σ H Q=>ta σ H fun x H'=>∃ k,TruV X.K x H' k∧Q k H'):=by
  intro pins s σ H Q I h
  exact isTrue_plain (thn (ha pins s σ H _ I h) fun v s1 ⟨x,H1,I1,r1,q1⟩=>tru_ok pins s1 σ H1 x v Q I1 r1 q1) (he _)
theorem op_add_str:OpR X (binaryOp .Add) (fun x y H Q=>∃ i j,x=.str i∧y=.str j∧i.length+j.length≤sizeLine∧Q (.str (i++j)) H):=by
  intro pins s σ H x y v u Q I rx ry h
  obtain ⟨i,j,rfl,rfl,hz,q⟩:=h
  obtain ⟨t,rfl⟩:=rx
  obtain ⟨t',rfl⟩:=ry
  exact add_str (fun t' tk=>⟨.str (i++j),H,I.tok _,⟨_,rfl⟩,q⟩) hz
theorem vals1 {x:V} {us:List Value} (r:Vals [x] us):∃ u,us=[u]∧RelV x u:=by
  cases r with
  | cons r1 r2=>cases r2;exact ⟨_,rfl,r1⟩
theorem vals2 {x y:V} {us:List Value} (r:Vals [x,y] us):∃ u w',us=[u,w']∧RelV x u∧RelV y w':=by
  cases r with
  | cons r1 r2=>
    cases r2 with
    | cons r3 r4=>cases r4;exact ⟨_,_,rfl,r1,r3⟩
theorem call_min2 (hc:X.calm=true):CallR X (.builtin "min") (fun xs H Q=>∃ i j,xs=[.int i,.int j]∧Q (.int (if j < i then j else i)) H):=by
  intro pins s σ H xs us Q I r h
  obtain ⟨i,j,rfl,q⟩:=h
  obtain ⟨u,w',rfl,⟨t,rfl⟩,⟨t',rfl⟩⟩:=vals2 r
  refine min_two_ints (I.ok.hd hc) fun h' tk k=>⟨_,H,I.kept k,?_,q⟩
  by_cases hj:j < i
  · rw [if_pos hj,if_pos hj];exact ⟨_,rfl⟩
  · rw [if_neg hj,if_neg hj];exact ⟨_,rfl⟩
theorem call_int1:CallR X (.type "int") (fun xs H Q=>(∃ i,xs=[.int i]∧Q (.int i) H)∨∃ k,xs=[.bl k]∧Q (.int (if k then 1 else 0)) H):=by
  intro pins s σ H xs us Q I r h
  rcases h with ⟨i,rfl,q⟩ | ⟨k,rfl,q⟩
  · obtain ⟨u,rfl,t,rfl⟩:=vals1 r
    exact call_int_int ⟨.int i,H,I,⟨_,rfl⟩,q⟩
  · obtain ⟨u,rfl,r1⟩:=vals1 r
    cases r1
    exact call_int_bool ⟨.int (if k then 1 else 0),H,I.tok _,⟨_,rfl⟩,q⟩
theorem call_str_int:CallR X (.type "str") (fun xs H Q=>∃ i,xs=[.int i]∧i.natAbs.log2 < 1920∧Q (.str (toString i)) H):=by
  intro pins s σ H xs us Q I r h
  obtain ⟨i,rfl,hz,q⟩:=h
  obtain ⟨u,rfl,t,rfl⟩:=vals1 r
  exact PySem.P.str_of_int hz ⟨.str _,H,I.tok _,⟨_,rfl⟩,q⟩
def LenV (K:PySem.W.Frag) (x:V) (H:Hp) (n:Nat):Prop:=
  match x with
  | .str y=>y.length≤sizeLine∧n=y.length
  | .byt y=>y.size≤sizeLine∧n=y.size
  | .ref p=>(∃ xs,SqL K H p xs∧n=xs.length)∨∃ xs,SqT K H p xs∧n=xs.length
  | _=>False
theorem call_len:CallR X (.builtin "len") (fun xs H Q=>∃ x n,xs=[x]∧LenV X.K x H n∧Q (.int n) H):=by
  intro pins s σ H xs us Q I r h
  obtain ⟨x,n,rfl,e,q⟩:=h
  obtain ⟨u,rfl,rx⟩:=vals1 r
  have hl:=line63
  have hs:sizeLine=16777216:=sizeLine_eq
  cases x with
  | str y=>
    obtain ⟨t,rfl⟩:=rx
    obtain ⟨hy,e'⟩:y.length≤sizeLine∧n=y.length:=e
    subst e'
    exact len_str (by omega) ⟨.int _,H,I.tok _,⟨_,rfl⟩,q⟩
  | byt y=>
    obtain ⟨t,rfl⟩:=rx
    obtain ⟨hy,e'⟩:y.size≤sizeLine∧n=y.size:=e
    subst e'
    exact PySem.W.len_bytes (by omega) ⟨.int _,H,I.tok _,⟨_,rfl⟩,q⟩
  | ref p=>
    cases rx
    have e':(∃ xs,SqL X.K H p xs∧n=xs.length)∨∃ xs,SqT X.K H p xs∧n=xs.length:=e
    rcases e' with ⟨xs,hx,e'⟩ | ⟨xs,hx,e'⟩
    · subst e'
      obtain ⟨its,r',pl,hz⟩:=I.list hx
      have hlen:=r'.length
      exact Calls.call_len_list pl.isList (by simp only [List.size_toArray];omega) ⟨.int xs.length,H,I.tok _,⟨_,by simp only [List.size_toArray];rw [hlen]⟩,q⟩
    · subst e'
      obtain ⟨its,r',pl,hz⟩:=I.tuple hx
      have hlen:=r'.length
      exact len_tuple pl (by simp only [List.size_toArray];omega) ⟨.int xs.length,H,I.tok _,⟨_,by simp only [List.size_toArray];rw [hlen]⟩,q⟩
  | _=>exact (show False from e).elim
end
end L2
namespace L2
open PySem PySem.Spec PyProof.Rows
structure ObjM (h:Heap) (x dx C:Addr) (mA:Str→Option Value):Prop where
  obj:h.get? x=some (PySem.W.instObj C dx)
  ns:h.Ns1 dx mA
  ne:dx≠x
theorem lookIn_ns {h:Heap} {dx:Addr} {mA:Str→Option Value} (n:h.Ns1 dx mA):∃ od,h.get? dx=some od∧∀ name,PySem.W.lookIn name od=some (mA name):=by
  obtain ⟨o,es,ep,ho,hd,hk,_,hm⟩:=n
  refine ⟨o,ho,fun name=>?_⟩
  have e:=hm name
  unfold nsFind findBy at e
  rw [← Array.find?_toList] at e
  unfold PySem.W.lookIn
  rw [hd]
  dsimp only
  split
  · rename_i y q
    rw [q] at e
    exact congrArg some e
  · rename_i q
    rw [q] at e
    have a:es.toList.any (·.refKey)=false:=by
      rw [List.any_eq_false]
      intro y hy
      obtain ⟨z,t,hkey⟩:=hk y (Array.mem_toList_iff.mp hy)
      simp [DictEntry.refKey,hkey]
    have a':¬ es.toList.any (·.refKey)=true:=by rw [a];exact Bool.false_ne_true
    rw [if_neg a']
    exact congrArg some e
theorem ObjM.look {h:Heap} {x dx C:Addr} {mA:Str→Option Value} (I:ObjM h x dx C mA):∃ od,PySem.W.InstAt h x (PySem.W.instObj C dx) C (some od)∧∀ name,PySem.W.lookIn name od=some (mA name):=
  let ⟨od,ho,hl⟩:=lookIn_ns I.ns
  ⟨od,⟨I.obj,rfl,rfl,ho⟩,hl⟩
section
variable {prog:Program} {w:World} {A:Around} {E:Value→Shared→Prop} {s:Shared} {K:PySem.W.Frag} {x dx C f:Addr} {mA:Str→Option Value} {name:Str} {v:Value}
end
section
variable {P:Program} {w:World} {H H':Hp} {h h':Heap} {a C dx:Addr} {fs fs':List (Str × V)}
theorem ins_get (hok:HOk P w H h) (e:H a=some (.ins C dx fs)):∃ mA,ObjM h a dx C mA∧(∀ f,RelO (fs.lookup f) (mA f))∧PySem.Within mA (fs.map (·.1))∧fs.length≤1000∧H dx=some (.own a):=by
  obtain ⟨d,z,ne,ob,mA,n,r,q⟩:=(show ObjOk P w H h a (.ins C dx fs) from hok a _ e)
  exact ⟨mA,⟨ob,n,ne⟩,r,q,z,d⟩
end
structure Cls (K:PySem.W.Frag) (C:Addr):Prop where
  pg:PySem.W.plainGet K C Str.empty=true
  hd:PySem.W.hasDictIn K C=true
  po:PySem.W.plainOver K C=true
  sa:PySem.W.findIn K (.ref C) "__setattr__" = some (some (.builtin "object.__setattr__"))
theorem Cls.get {K:PySem.W.Frag} {C:Addr} (c:Cls K C) (f:Str):PySem.W.plainGet K C f=true:=c.pg
section
variable {X:Cx} {pins:List (Addr × Obj)} {σ:St} {H:Hp} {s:Shared} {a C dx:Addr} {fs:List (Str × V)} {f:Str} {v:V} {A:Around} {E:Value→Shared→Prop}
theorem Inv.made (I:Inv X pins σ H s):Inv X pins σ (upd (upd H s.heap.objs.size (.own (s.heap.objs.size+1))) (s.heap.objs.size+1) (.ins C s.heap.objs.size []))
    { s with heap:=(s.heap.push PySem.W.emptyDict).push (PySem.W.instObj C s.heap.objs.size) }:=by
  have e1:(s.heap.push PySem.W.emptyDict).get? s.heap.objs.size=some PySem.W.emptyDict:=Heap.get?_push_size s.heap rfl
  have e2:((s.heap.push PySem.W.emptyDict).push (PySem.W.instObj C s.heap.objs.size)).get? (s.heap.objs.size+1)=some (PySem.W.instObj C s.heap.objs.size):=by
    have:=Heap.get?_push_size (s.heap.push PySem.W.emptyDict) (o:=PySem.W.instObj C s.heap.objs.size) rfl
    rwa [Heap.size_push] at this
  have e3:(s.heap.push PySem.W.emptyDict).Ns s.heap.objs.size (fun _=>none):=⟨PySem.W.emptyDict,#[],_,e1,rfl,(fun e he=>absurd he (by simp)),fun _=>rfl⟩
  have I1:=I.laid (a:=s.heap.objs.size) (o:=.own (s.heap.objs.size+1)) (h':=s.heap.push PySem.W.emptyDict) (t':=s.toks) (fun b u q=>Heap.get?_push_of_some _ q) (Nat.le_refl _) ⟨_,e1⟩
  refine I1.laid (a:=s.heap.objs.size+1) (o:=.ins C s.heap.objs.size []) (t':=s.toks) (fun b u q=>Heap.get?_push_of_some _ q) (Nat.le_of_eq (Heap.size_push _ _)) ?_
  have ne:s.heap.objs.size≠s.heap.objs.size+1:=Nat.ne_of_lt (Nat.lt_succ_self _)
  refine ⟨by rw [upd_ne ne,upd_same],Nat.zero_le _,ne,e2,fun _=>none,(Heap.Ns1.of_empty e3).at fun o q=>Heap.get?_push_of_some _ q,fun _=>True.intro,fun y hy=>absurd rfl hy⟩
end
section
variable {X:Cx} {o e value:Expr} {f:Str} {pos pos' tpos:Pos} {ta tv:TE}
end
section
variable {X:Cx} {pins:List (Addr × Obj)} {σ:St} {H:Hp} {s:Shared} {A:Around} {E:Value→Shared→Prop} {Q:Value→Shared→Prop} {c:Value} {b:Bool}
inductive TyOf (K:PySem.W.Frag) (H:Hp):V→Value→Prop where
  | non:TyOf K H .non (.type "NoneType")
  | bl (x:Bool):TyOf K H (.bl x) (.type "bool")
  | int (i:Int):TyOf K H (.int i) (.type "int")
  | str (x:Str):TyOf K H (.str x) (.type "str")
  | flt (x:UInt64):TyOf K H (.flt x) (.type "float")
  | lst {a:Addr} {xs:List V} (e:H a=some (.lst xs)):TyOf K H (.ref a) (.type "list")
  | frz {a:Addr} {o:Obj} {xs:List V} (e:H a=some (.frz o (.lst xs))):TyOf K H (.ref a) (.type "list")
  | tup {a:Addr} {xs:List V} (e:H a=some (.tup xs)):TyOf K H (.ref a) (.type "tuple")
  | dK {a:Addr} {kvs:List (Key × V)} (e:H a=some (.dK kvs)):TyOf K H (.ref a) (.type "dict")
  | dT {a:Addr} {kvs:List (List Key × V)} (e:H a=some (.dT kvs)):TyOf K H (.ref a) (.type "dict")
  | ins {a C dx:Addr} {fs:List (Str × V)} (e:H a=some (.ins C dx fs)) (cl:Cls K C) (ha:PySem.W.findIn K (.ref C) "__class__" = some (some (.builtin "object.__class__")))
      (hn:PySem.W.specialIn K (.builtin "object.__class__") "__get__" = some (some (.builtin "getset_descriptor.__get__"))) (htk:PySem.W.takesIn K (.builtin "object.__class__")=some true)
      (hm:PySem.W.mroIn K C (.type "object")=some true):TyOf K H (.ref a) (.ref C)
theorem isinst_ok {x:V} {u t:Value} (I:Inv X pins σ H s) (rx:RelV x u) (ty:TyOf X.K H x t) (e:PySem.W.kitOne X.K t c=some b) (h:∀ tk,Q (.bool b) { s with toks:=tk }) :
    wpAny (model X.prog X.w) A (call (.builtin "isinstance") [u,c]) Q E s:=by
  cases ty with
  | non=>cases (show u=Value.none from rx);exact PySem.W.kia_one PySem.W.kitx_none I.kIn True.intro e (fun z=>nomatch z) h
  | bl y=>cases (show u=Value.bool y from rx);exact PySem.W.kia_one PySem.W.kitx_bool I.kIn True.intro e (fun z=>nomatch z) h
  | int i=>obtain ⟨t,q⟩:=(show ∃ t,u=Value.int i t from rx);cases q;exact PySem.W.kia_one PySem.W.kitx_int I.kIn True.intro e (fun z=>nomatch z) h
  | str y=>obtain ⟨t,q⟩:=(show ∃ t,u=Value.str y t from rx);cases q;exact PySem.W.kia_one PySem.W.kitx_str I.kIn True.intro e (fun z=>nomatch z) h
  | flt y=>obtain ⟨t,q⟩:=(show ∃ t,u=Value.float y t from rx);cases q;exact PySem.W.kia_one PySem.W.kitx_float I.kIn True.intro e (fun z=>nomatch z) h
  | @lst a xs ea=>
    cases (show u=Value.ref a from rx)
    obtain ⟨_,_,n,_,h1⟩:=(show ObjOk X.prog X.w H s.heap a (.lst xs) from I.hok a _ ea)
    exact PySem.W.kia_one PySem.W.kitx_list I.kIn ⟨_,h1,rfl⟩ e (fun z=>nomatch z) h
  | @frz a ob xs ea=>
    cases (show u=Value.ref a from rx)
    obtain ⟨_,_,_,n,_,h1⟩:=(show ObjOk X.prog X.w H s.heap a (.frz ob (.lst xs)) from I.hok a _ ea)
    exact PySem.W.kia_one PySem.W.kitx_list I.kIn ⟨_,h1,rfl⟩ e (fun z=>nomatch z) h
  | @tup a xs ea=>
    cases (show u=Value.ref a from rx)
    obtain ⟨_,_,_,p⟩:=(show ObjOk X.prog X.w H s.heap a (.tup xs) from I.hok a _ ea)
    obtain ⟨o,h1,h2,_⟩:=p
    exact PySem.W.kia_one PySem.W.kitx_tuple I.kIn ⟨o,h1,h2⟩ e (fun z=>nomatch z) h
  | @dK a kvs ea=>
    cases (show u=Value.ref a from rx)
    obtain ⟨_,_,vs,_,p⟩:=(show ObjOk X.prog X.w H s.heap a (.dK kvs) from I.hok a _ ea)
    obtain ⟨o,es,ep,h1,h2,_⟩:=p
    exact PySem.W.kia_one PySem.W.kitx_dict I.kIn ⟨o,h1,h2.1⟩ e (fun z=>nomatch z) h
  | @dT a kvs ea=>
    cases (show u=Value.ref a from rx)
    obtain ⟨_,_,xs,_,o,es,ep,h1,h2,_⟩:=(show ObjOk X.prog X.w H s.heap a (.dT kvs) from I.hok a _ ea)
    exact PySem.W.kia_one PySem.W.kitx_dict I.kIn ⟨o,h1,h2.1⟩ e (fun z=>nomatch z) h
  | @ins a C dx fs ea cl ha hn htk hm=>
    cases (show u=Value.ref a from rx)
    obtain ⟨mA,O,_⟩:=ins_get I.hok ea
    obtain ⟨od,J,_⟩:=O.look
    exact PySem.W.kia_one (PySem.W.kitx_own (cl.get _) cl.hd ha hn htk hm) I.kIn J e (fun z=>nomatch z) h
end
end L2
namespace L2
open PySem PySem.Spec PyProof.Rows
structure Room (k:Nat) (A:Around):Prop where
  hd:A.handled=none
  dp:A.depth+3 * k+5 < recursionLimit
  un:A.units+16 * k+200 < cLine
  gd:A.guards=some []
theorem Room.mono {j k:Nat} {A:Around} (r:Room k A) (h:j≤k):Room j A:=⟨r.hd,by have:=r.dp;omega,by have:=r.un;omega,by first | exact r.gd | (simpa [Around.under,Code.isGuard,guardIds] using r.gd)⟩
theorem Room.deeper {k:Nat} {A:Around} (r:Room (k+1) A) (env:Env):Room k (A.deeper env):=
  ⟨r.hd,by have:=r.dp;show A.depth+1+3 * k+5 < _;omega,by have:=r.un;show A.units+3+16 * k+200 < _;omega,by first | exact r.gd | (simpa [Around.under,Code.isGuard,guardIds] using r.gd)⟩
theorem Room.in1 {k:Nat} {A:Around} (r:Room (k+1) A):Room k A.in1:=
  ⟨r.hd,by have:=r.dp;show A.depth+3 * k+5 < _;omega,by have:=r.un;show A.units+1+16 * k+200 < _;omega,by first | exact r.gd | (simpa [Around.under,Code.isGuard,guardIds] using r.gd)⟩
theorem Room.depth {k:Nat} {A:Around} (r:Room k A):A.depth < recursionLimit:=by have:=r.dp;omega
theorem Room.units {k:Nat} {A:Around} (r:Room k A):A.units+64 < cLine:=by have:=r.un;omega
theorem Room.units0 {k:Nat} {A:Around} (r:Room k A):A.units < cLine:=by have:=r.un;omega
def tNil:TA:=fun _ H Q=>Q [] H
def tCons (ta:TE) (tr:TA):TA:=fun σ H Q=>ta σ H fun x H1=>tr σ H1 fun xs H2=>Q (x :: xs) H2
section
variable {X:Cx} {e:Expr} {es:List Expr} {te:TE} {t:TA} {pos:Pos}
theorem pa_nil:PA X [] tNil:=fun _ _ _ _ H Q I h=>Calls.spliced_nil ⟨[],H,I,.nil,h⟩
theorem pa_cons (ha:PE X e te) (hr:PA X es t) (hs:starEach (e :: es) X.env=(false,eval e X.env) :: starEach es X.env:=by rfl):PA X (e :: es) (tCons te t):=by
  intro pos pins s σ H Q I h
  rw [hs]
  show wpAny _ _ (spliced ((false,eval e X.env) :: backTo pos (starEach es X.env))) _ _ s
  refine Calls.spliced_cons (thn (ha pins s σ H _ I h) fun u s1 ⟨x,H1,I1,r1,q1⟩=>?_)
  exact thn (hr pos pins s1 σ H1 _ I1 q1) fun us s2 ⟨xs,H2,I2,r2,q2⟩=>⟨x :: xs,H2,I2,.cons r1 r2,q2⟩
def tTup (t:TA):TE:=fun σ H Q=>t σ H fun xs H1=>xs.length≤sizeLine∧∀ p,H1 p=none→Q (.ref p) (upd H1 p (.tup xs))
def tLst (t:TA):TE:=fun σ H Q=>t σ H fun xs H1=>xs.length≤sizeLine∧∀ p,H1 p=none→Q (.ref p) (upd H1 p (.lst xs))
theorem pe_tup {x1} (h:PA X es t):PE X (.Tuple es x1 pos) (tTup t):=by
  intro pins s σ H Q I hq
  refine wpAny_Tuple_spliced (thn (h pos pins s σ H _ I hq) fun us s1 ⟨xs,H1,I1,r,z,q⟩=>⟨by rw [← r.length];exact z,?_⟩)
  have hf:H1 s1.heap.objs.size=none:=I1.hok.fresh (Nat.le_refl _)
  refine ⟨.ref s1.heap.objs.size,upd H1 s1.heap.objs.size (.tup xs),I1.laid (t':=s1.toks) (fun b u e=>Heap.get?_push_of_some _ e) (Nat.le_refl _) ?_,rfl,q _ hf⟩
  exact ⟨⟨z,_,Heap.get?_push_size _ rfl,rfl⟩,us,r,⟨_,Heap.get?_push_size _ rfl,rfl,_,rfl⟩⟩
theorem pe_lst (h:PA X es t):PE X (.List es pos) (tLst t):=by
  intro pins s σ H Q I hq
  refine wpAny_List_spliced (thn (h pos pins s σ H _ I hq) fun us s1 ⟨xs,H1,I1,r,z,q⟩=>⟨by rw [← r.length];exact z,?_⟩)
  have hf:H1 s1.heap.objs.size=none:=I1.hok.fresh (Nat.le_refl _)
  refine ⟨.ref s1.heap.objs.size,upd H1 s1.heap.objs.size (.lst xs),I1.laid (t':=s1.toks) (fun b u e=>Heap.get?_push_of_some _ e) (Nat.le_refl _) ?_,rfl,q _ hf⟩
  exact ⟨z,us,0,r,Heap.get?_push_size _ rfl⟩
end
abbrev Sp:=List V→Hp→VK→XK→Prop
abbrev CXT:=List Env→Hp→Shared→XK→Value→Shared→Prop
structure Env0 (P:Program) (w:World) (K:PySem.W.Frag) (mg:Str→Option Value) (base:Heap) (A:Around) (outer:List Env) (s:Shared) (H:Hp):Prop where
  frames:A.frames=some outer
  mod:Mod K mg base
  bs:∀ b o,base.get? b=some o→s.heap.get? b=some o∧H b=none
  bsz:base.objs.size≤s.heap.objs.size
  funs:s.heap.FunFrames base outer
  frf:∀ b∈frs outer,H b=none
  hok:HOk P w H s.heap
  bare:AllBare s.gens
def CE (outer:List Env) (P:Program) (w:World) (H:Hp) (s:Shared) (Q:VK) (u:Value) (s':Shared):Prop:=
  ∃ v H',s'.os=s.os∧AllBare s'.gens∧Un (frs outer) [] H H' s.heap s'.heap∧HOk P w H' s'.heap∧RelV v u∧Q v H'
def CR (CX:CXT) (outer:List Env) (P:Program) (w:World) (H:Hp) (s:Shared) (Q:VK) (E:XK) (r:Result) (s':Shared):Prop:=
  match r with
  | .ok (.ret u)=>CE outer P w H s Q u s'
  | .ok _=>False
  | .error e=>CX outer H s E e s'
structure FnOk (P:Program) (w:World) (K:PySem.W.Frag) (mg:Str→Option Value) (base:Heap) (CX:CXT) (k:Nat) (f:Addr) (fd:FuncData) (ps:List Str) (sp:Sp):Prop where
  len:∀ vs H Q E,sp vs H Q E→vs.length=ps.length
  run:∀ (A:Around) (outer:List Env) (s:Shared) (H:Hp) (args:Args) (us:List Value) (vs:List V) (Q:VK) (E:XK),Room k A→Env0 P w K mg base A outer s H→BindsTo s fd args (ps.zip us)→Vals vs us→sp vs H Q E →
    codeAny (model P w) A (.call (.ref f) args) (CR CX outer P w H s Q E) s
theorem FnOk.mono {P:Program} {w:World} {K:PySem.W.Frag} {mg:Str→Option Value} {base:Heap} {CX:CXT} {j k:Nat} {f:Addr} {fd:FuncData} {ps:List Str} {sp:Sp} (F:FnOk P w K mg base CX j f fd ps sp) (h:j≤k) :
    FnOk P w K mg base CX k f fd ps sp:=⟨F.len,fun A outer s H args us vs Q E hr=>F.run A outer s H args us vs Q E (hr.mono h)⟩
theorem FnOk.imp {P:Program} {w:World} {K:PySem.W.Frag} {mg:Str→Option Value} {base:Heap} {CX:CXT} {k:Nat} {f:Addr} {fd:FuncData} {ps:List Str} {sp sp':Sp} (F:FnOk P w K mg base CX k f fd ps sp)
    (h:∀ vs H Q E,sp' vs H Q E→sp vs H Q E):FnOk P w K mg base CX k f fd ps sp':=
  ⟨fun vs H Q E q=>F.len vs H Q E (h _ _ _ _ q),fun A outer s H args us vs Q E hr he hb hv hs=>F.run A outer s H args us vs Q E hr he hb hv (h _ _ _ _ hs)⟩
theorem Env0.in1 {P:Program} {w:World} {K:PySem.W.Frag} {mg:Str→Option Value} {base:Heap} {A:Around} {outer:List Env} {s:Shared} {H:Hp} (e:Env0 P w K mg base A outer s H) :
    Env0 P w K mg base A.in1 outer s H:=⟨e.frames,e.mod,e.bs,e.bsz,e.funs,e.frf,e.hok,e.bare⟩
section
variable {X:Cx} {pins:List (Addr × Obj)} {σ:St} {H:Hp} {s s':Shared}
theorem Inv.env0 (I:Inv X pins σ H s):Env0 X.prog X.w X.K X.mg X.base X.A X.stack s H:=
  ⟨I.ok.frames,I.ok.mod,I.bs,Nat.le_trans I.ok.bsz I.sz,I.stack,I.stkFree,I.hok,I.bare⟩
theorem Inv.after {Q:VK} {u:Value} (I:Inv X pins σ H s) (h:CE X.stack X.prog X.w H s Q u s'):EP X pins σ Q u s':=by
  obtain ⟨v,H',os,bare,un,hok,r,q⟩:=h
  obtain ⟨hh,g,d,t,os'⟩:=s'
  obtain rfl:os'=s.os:=os
  exact ⟨v,H',I.call (h':=hh) (g':=g) (d':=d) (t':=t) (ch:=[]) un hok bare (fun b z=>absurd z (by simp)),r,q⟩
end
def tCall (sp:Sp) (dvs:List V) (E:XK) (t:TA):TE:=fun σ H Q=>t σ H fun vs H1=>sp (vs++dvs) H1 Q E
def Binds (K:PySem.W.Frag) (fd:FuncData) (ps:List Str) (ds:List Value):Prop:=
  ∀ (s:Shared) (us:List Value),K.In s.heap→(us++ds).length=ps.length→BindsTo s fd ⟨us,[]⟩ (ps.zip (us++ds))
theorem Binds.all {K:PySem.W.Frag} {fd:FuncData} {ps:List Str} (h:∀ us:List Value,us.length=ps.length→bindArgs fd ⟨us,[]⟩=pure (ps.zip us)):Binds K fd ps []:=fun s us _ hl=>by
  rw [List.append_nil] at hl ⊢
  exact .of_eq (h us hl)
def Passes (CX:CXT) (X:Cx) (E:XK):Prop:=∀ (pins:List (Addr × Obj)) (σ:St) (H:Hp) (s:Shared) (e:Value) (s':Shared),Inv X pins σ H s→CX X.stack H s E e s'→X.xe e s'
section
variable {X:Cx} {CX:CXT} {k:Nat} {f C:Addr} {fd:FuncData} {ps:List Str} {sp:Sp} {dvs:List V} {ds:List Value} {E:XK} {x m:Str} {p pos apos:Pos} {e o:Expr} {es:List Expr} {ta:TE} {t:TA}
theorem run_fn {pins:List (Addr × Obj)} {σ:St} {H:Hp} {s:Shared} {Q:VK} {us:List Value} {vs:List V} (F:FnOk X.prog X.w X.K X.mg X.base CX k f fd ps sp) (hr:Room k X.A) (hb:Binds X.K fd ps ds) (hd:Vals dvs ds) (hx:Passes CX X E)
    (I:Inv X pins σ H s) (r:Vals vs us) (h:sp (vs++dvs) H Q E):wpAny (model X.prog X.w) X.A (call (.ref f) us) (EP X pins σ Q) X.xe s:=by
  have r2:Vals (vs++dvs) (us++ds):=r.append hd
  have hl:(us++ds).length=ps.length:=by rw [← r2.length];exact F.len _ _ _ _ h
  refine wpAny_call (codeAny_mono (F.run X.A X.stack s H ⟨us,[]⟩ (us++ds) (vs++dvs) Q E hr I.env0 (hb s us I.kIn hl) r2 h) fun r s' hq=>?_)
  cases r with
  | error e=>exact hx pins σ H s e s' I hq
  | ok fl=>
    cases fl with
    | ret u=>exact I.after hq
    | next=>exact False.elim hq
    | brk=>exact False.elim hq
    | cont=>exact False.elim hq
theorem pe_call (F:FnOk X.prog X.w X.K X.mg X.base CX k f fd ps sp) (hr:Room k X.A) (hg:Gl X x) (hm:X.mg x=some (.ref f)) (hk:PySem.W.keepIn X.K (.ref f)=true) (hb:Binds X.K fd ps ds) (hd:Vals dvs ds) (hx:Passes CX X E)
    (ha:PA X (e :: es) t) (hdb:(x == ("__debug__" : Str))=false:=by decide) (he:starEach (e :: es) X.env=(false,eval e X.env) :: starEach es X.env:=by rfl) (hpl:(backTo pos (starEach es X.env)).any (·.1)=false:=by rfl) :
    PE X (.Call (.Name x p) (e :: es) [] pos) (tCall sp dvs E t):=by
  intro pins s σ H Q I h
  refine wpAny_Call_Name_kw (ld_glob I hg hm ?_ hdb)
  refine PySem.W.callWith_K (h₀:=X.base) I.ok.mod.kin hk (thn (ha pos pins s σ H _ I h) fun us s1 ⟨vs,H1,I1,r,q⟩=>⟨I1.kIn,?_⟩) he hpl
  exact run_fn F hr hb hd hx I1 r q
end
section
variable {X:Cx} {CX:CXT} {k:Nat} {f C:Addr} {fd:FuncData} {ps ks:List Str} {sp:Sp} {E:XK} {x m:Str} {p pos apos kpos:Pos} {e o:Expr} {es:List Expr} {kws:List Keyword} {te ta:TE} {t tk:TA} {nm:Option Str}
variable {g:List Value→List Value→List Value} {gV:List V→List V→List V}
end
structure FnScope (N P:List Str) (sc:Scope):Prop where
  kind:sc.kind=.function
  co:sc.isCoroutine=false
  gen:sc.isGenerator=false
  nd:N.Nodup
  pre:N.take P.length=P
  par:∀ x∈P,sc.names.lookup x=some .local∨sc.names.lookup x=some .cell
  nofree:∀ y∈sc.names,y.2≠.free
theorem bindL_out {kindOf:Str→Option NameKind} {x:Str}:∀ {binds:List (Str × Value)} {m:Str→Option Value},(∀ v,(x,v) ∉ binds)→bindL kindOf binds m x=m x
  | [],_,_=>rfl
  | (n,v) :: r,m,h=>by
    unfold bindL
    rw [bindL_out fun w hw=>h w (List.mem_cons_of_mem _ hw)]
    split
    · have:x≠n:=by rintro rfl;exact h v List.mem_cons_self
      simp [this]
    · rfl
theorem bindC_out {kindOf:Str→Option NameKind} {x:Str}:∀ {binds:List (Str × Value)} {m:Str→Option Value},(∀ v,(x,v) ∉ binds)→bindC kindOf binds m x=m x
  | [],_,_=>rfl
  | (n,v) :: r,m,h=>by
    unfold bindC
    rw [bindC_out fun w hw=>h w (List.mem_cons_of_mem _ hw)]
    split
    · rfl
    · have:x≠n:=by rintro rfl;exact h v List.mem_cons_self
      simp [this]
theorem bindL_get {kindOf:Str→Option NameKind} {x:Str} {v:Value}:∀ {P:List Str} {vs:List Value} {i:Nat} {m:Str→Option Value},P.Nodup→P[i]?=some x→vs[i]?=some v→kindOf x=some .local →
    bindL kindOf (P.zip vs) m x=some v
  | [],_,_,_,_,h,_,_=>by simp at h
  | _ :: _,[],_,_,_,_,h,_=>by simp at h
  | p :: P,w :: vs,0,m,nd,h1,h2,hk=>by
    simp at h1 h2;subst h1;subst h2
    show bindL kindOf ((p,w) :: P.zip vs) m p=_
    unfold bindL
    rw [bindL_out fun v hv=>(List.nodup_cons.mp nd).1 (List.of_mem_zip hv).1,if_pos hk]
    simp
  | p :: P,w :: vs,i+1,m,nd,h1,h2,hk=>by
    show bindL kindOf ((p,w) :: P.zip vs) m x=_
    unfold bindL
    exact bindL_get (i:=i) (List.nodup_cons.mp nd).2 (by simpa using h1) (by simpa using h2) hk
theorem bindC_get {kindOf:Str→Option NameKind} {x:Str} {v:Value}:∀ {P:List Str} {vs:List Value} {i:Nat} {m:Str→Option Value},P.Nodup→P[i]?=some x→vs[i]?=some v→kindOf x≠some .local →
    bindC kindOf (P.zip vs) m x=some v
  | [],_,_,_,_,h,_,_=>by simp at h
  | _ :: _,[],_,_,_,_,h,_=>by simp at h
  | p :: P,w :: vs,0,m,nd,h1,h2,hk=>by
    simp at h1 h2;subst h1;subst h2
    show bindC kindOf ((p,w) :: P.zip vs) m p=_
    unfold bindC
    rw [bindC_out fun v hv=>(List.nodup_cons.mp nd).1 (List.of_mem_zip hv).1,if_neg hk]
    simp
  | p :: P,w :: vs,i+1,m,nd,h1,h2,hk=>by
    show bindC kindOf ((p,w) :: P.zip vs) m x=_
    unfold bindC
    exact bindC_get (i:=i) (List.nodup_cons.mp nd).2 (by simpa using h1) (by simpa using h2) hk
def start (N:List Str) (vs:List V):St:=vs.map some++List.replicate (N.length - vs.length) none
def cxOf (CX:CXT) (P:Program) (w:World) (K:PySem.W.Frag) (mg:Str→Option Value) (base:Heap) (N:List Str) (qual:Str) (scope:Scope) (f:Addr) (cd:Value) (A:Around) (outer:List Env) (s:Shared) (H:Hp) (E:XK):Cx where
  prog:=P
  w:=w
  K:=K
  mg:=mg
  base:=base
  A:=A.deeper (envOfC qual scope s.heap.objs.size f cd)
  N:=N
  s₀:=s
  H₀:=H
  env:=envOfC qual scope s.heap.objs.size f cd
  outer:=outer
  stack:=envOfC qual scope s.heap.objs.size f cd :: outer
  ex:=[]
  calm:=true
  fn:=fun _=>true
  pn:=[]
  xe:=fun e s'=>wpAny (model P w) (A.deeper (envOfC qual scope s.heap.objs.size f cd)) (leaving (envOfC qual scope s.heap.objs.size f cd) e) (fun _ s''=>CX outer H s E e s'') (fun e' s''=>CX outer H s E e' s'') s'
theorem cell_has {sc:Scope} {n:Nat} {x:Str} (h:sc.names.lookup x=some .cell):∃ c,(cellsFrom n sc.names []).lookup x=some c:=by
  have q:=PySem.W.cellsFrom_some sc.names n [] (.inl h)
  exact Option.isSome_iff_exists.mp q
theorem inv_start {CX:CXT} {P:Program} {w:World} {K:PySem.W.Frag} {mg:Str→Option Value} {base:Heap} {N ps:List Str} {qual:Str} {scope:Scope} {f:Addr} {cd:Value} {A:Around} {outer:List Env} {s s1:Shared} {H:Hp} {E:XK} {us:List Value} {vs:List V}
    (S:FnScope N ps scope) (hd:A.handled=none) (e0:Env0 P w K mg base A outer s H) (hl:vs.length=ps.length) (r:Vals vs us)
    (x:InCallC s s.heap.objs.size (bindL (envOfC qual scope s.heap.objs.size f cd).kindOf (ps.zip us) fun _=>none) (cellsFrom (s.heap.objs.size+1) scope.names []) (bindC (envOfC qual scope s.heap.objs.size f cd).kindOf (ps.zip us) fun _=>none) s1) :
    Inv (cxOf CX P w K mg base N qual scope f cd A outer s H E) [] (start N vs) H s1:=by
  have hpl:ps.length≤N.length:=by have:=congrArg List.length S.pre;rw [List.length_take] at this;omega
  obtain ⟨h1,tk,rfl,hk⟩:=x.done
  have noA:∀ b:Addr,b ∉ (cxOf CX P w K mg base N qual scope f cd A outer s H E).ex:=fun b z=>absurd (show b∈([]:List Addr) from z) (by simp)
  refine ⟨⟨e0.mod,S.kind,rfl,rfl,Nat.le_refl _,fun y z c h1 h2=>?_,fun y hy=>?_,fun y c _ h=>?_,fun _=>hd,Around.frames_deeper e0.frames,.inr ⟨rfl,rfl⟩,fun b z=>absurd z (noA b),e0.bs,e0.bsz,fun b _ _=>noA b,fun b z=>absurd z (noA b),e0.funs,e0.frf⟩,
    rfl,e0.bare,Un.kept hk,⟨_,x.toInCall.ns,fun i y v h1 h2 h3=>?_⟩,fun y c h=>⟨_,x.cell y c h⟩,e0.hok.fresh (Nat.le_refl _),fun y c h=>?_,fun p hp=>absurd (show p∈([]:List (Addr × Obj)) from hp) (by simp),e0.hok.kept hk,?_⟩
  · exact name_of_addr x.apart (PySem.mem_of_lookup h1) (PySem.mem_of_lookup h2)
  · have hy:scope.names.lookup y=some .cell∨scope.names.lookup y=some .free:=hy
    rcases hy with hy | hy
    · exact cell_has hy
    · exact absurd rfl (S.nofree _ (PySem.mem_of_lookup hy))
  · exact Nat.le_of_lt (x.above y c (PySem.mem_of_lookup h))
  · have hi:i < vs.length:=by
      unfold start at h2
      by_cases hi:i < vs.length
      · exact hi
      · rw [List.getElem?_append_right (by simpa using hi)] at h2
        rw [List.getElem?_replicate] at h2
        split at h2 <;> cases h2
    have ha:vs[i]?=some v:=by
      unfold start at h2
      rw [List.getElem?_append_left (by simpa using hi),List.getElem?_map] at h2
      cases e:vs[i]? with
      | none=>rw [e] at h2;cases h2
      | some a=>rw [e] at h2;cases h2;rfl
    obtain ⟨u,hu,rv⟩:=r.get ha
    have hp:ps[i]?=some y:=by
      rw [← S.pre,List.getElem?_take_of_lt (by omega)];exact h1
    have ndP:ps.Nodup:=by rw [← S.pre];exact S.nd.sublist (List.take_sublist _ _)
    refine ⟨u,rv,?_⟩
    rcases S.par y (List.mem_of_getElem? hp) with k | k
    · exact .inl ⟨k,bindL_get ndP hp hu k⟩
    · obtain ⟨c,e⟩:=cell_has (n:=s.heap.objs.size+1) k
      refine .inr ⟨.inl k,c,e,?_⟩
      have q:=x.cell y c e
      rw [bindC_get ndP hp hu (by show scope.names.lookup y≠_;rw [k];decide)] at q
      exact q
  · exact e0.hok.fresh (Nat.le_of_lt (x.above y c (PySem.mem_of_lookup h)))
  · unfold start
    show _=N.length
    rw [List.length_append,List.length_map,List.length_replicate]
    omega
theorem fn_of {CX:CXT} {P:Program} {w:World} {K:PySem.W.Frag} {mg:Str→Option Value} {base:Heap} {k:Nat} {f:Addr} {name qual:Str} {params:Arguments} {body:List Stmt} {scope:Scope} {dV kV doc pm cdv ct oc:Value} {an od:Option Addr}
    {osl:Array (Option Value)} {N ps:List Str} {sp:Sp} (lk:K.lookup f=some ⟨oc,od,.func (PySem.W.fnOf name qual params body scope dV kV doc pm an cdv ct),osl⟩) (hcd:PySem.W.codeIn K cdv qual=true) (S:FnScope N ps scope)
    (len:∀ vs H Q E,sp vs H Q E→vs.length=ps.length)
    (hbody:∀ (A:Around) (outer:List Env) (s:Shared) (H:Hp) (vs:List V) (Q:VK) (E:XK),Room k (A.deeper (envOfC qual scope s.heap.objs.size f cdv))→sp vs H Q E →
      ∃ t,PSs (cxOf CX P w K mg base N qual scope f cdv A outer s H E) body t∧t { nx:=fun _ H'=>Q .non H',rt:=Q } (start N vs) H) :
    FnOk P w K mg base CX (k+1) f (PySem.W.fnOf name qual params body scope dV kV doc pm an cdv ct) ps sp:=by
  refine ⟨len,fun A outer s H args us vs Q E hr e0 hb r hsp=>?_⟩
  have hl:=len _ _ _ _ hsp
  have KX:K.In s.heap:=e0.mod.kin.keeps fun b o e=>(e0.bs b o e).1
  have lim:s.heap.NoLimit:=e0.mod.nolimit.keeps fun b o e=>(e0.bs b o e).1
  have hkind:∀ y∈ps.zip us,scope.names.lookup y.1=some .local∨(scope.names.lookup y.1=some .cell∧((cellsFrom (s.heap.objs.size+1) scope.names []).lookup y.1).isSome=true):=fun ⟨n,v⟩ hy=>by
    rcases S.par n (List.of_mem_zip hy).1 with q | q
    · exact .inl q
    · exact .inr ⟨q,PySem.W.cellsFrom_some _ _ _ (.inl q)⟩
  refine codeAny_call_function hr.depth (KX _ _ lk) rfl S.co S.gen rfl (PySem.W.codeRec_of KX hcd) (hb _ _ _ _ ?_)
  refine wpAny_newFunctionEnv_cells S.kind hkind fun env he s1 x=>?_
  subst he
  refine ⟨lim.keeps x.toInCall.keep,codeAny_func ?_⟩
  obtain ⟨t,ht,hq⟩:=hbody A outer s H vs Q E (hr.deeper _) hsp
  have I:Inv (cxOf CX P w K mg base N qual scope f cdv A outer s H E) [] (start N vs) H s1:=inv_start S hr.hd e0 hl r x
  refine wpAny_mono (ht [] s1 (start N vs) H _ I hq) (fun fl s' hs=>?_) fun e s' hs=>hs
  have fin:∀ {σ':St} {H':Hp} {v:V} {u:Value},Inv (cxOf CX P w K mg base N qual scope f cdv A outer s H E) [] σ' H' s'→RelV v u→Q v H'→CE outer P w H s Q u s':=
    fun {σ' H' v u} J rv q=>⟨v,H',J.os,J.bare,J.base,J.hok,rv,q⟩
  cases fl with
  | ret u=>
    obtain ⟨v,σ',H',J,rv,q⟩:=hs
    exact fin J rv q
  | next=>
    obtain ⟨σ',H',J,q⟩:=hs
    exact fin (v:=V.non) (u:=Value.none) J rfl q
  | brk=>
    obtain ⟨_,_,_,q⟩:=hs
    exact False.elim q
  | cont=>
    obtain ⟨_,_,_,q⟩:=hs
    exact False.elim q
end L2
namespace L2
open PySem PySem.Spec PyProof.Rows
section
variable {X:Cx} {x:Str} {p pos:Pos} {e:Expr} {es:List Expr} {t:TA} {id T:String} {r:List V→Hp→VK→Prop}
def tCB (r:List V→Hp→VK→Prop) (t:TA):TE:=fun σ H Q=>t σ H fun vs H1=>r vs H1 Q
theorem pe_callB (hc:CallR X (.builtin id) r) (hg:Gl X x) (hm:X.mg x=none) (hv:bootBuiltins x=some (.builtin id)) (ha:PA X (e :: es) t) (hn:x ≠ "__name__" := by decide) (hdb:(x == ("__debug__" : Str))=false:=by decide)
    (he:starEach (e :: es) X.env=(false,eval e X.env) :: starEach es X.env:=by rfl) (hpl:(backTo pos (starEach es X.env)).any (·.1)=false:=by rfl):PE X (.Call (.Name x p) (e :: es) [] pos) (tCB r t):=by
  intro pins s σ H Q I h
  refine wpAny_Call_Name_kw (ld_blt I hg hm hv ?_ hn hdb)
  exact PyProof.Rows.callWith_builtin1 (thn (ha pos pins s σ H _ I h) fun us s1 ⟨vs,H1,I1,r1,q1⟩=>hc pins s1 σ H1 vs us Q I1 r1 q1) he hpl
theorem pe_callTy (hc:CallR X (.type T) r) (hg:Gl X x) (hm:X.mg x=none) (hv:bootBuiltins x=some (.type T)) (ha:PA X (e :: es) t) (hn:x ≠ "__name__" := by decide) (hdb:(x == ("__debug__" : Str))=false:=by decide)
    (he:starEach (e :: es) X.env=(false,eval e X.env) :: starEach es X.env:=by rfl) (hpl:(backTo pos (starEach es X.env)).any (·.1)=false:=by rfl):PE X (.Call (.Name x p) (e :: es) [] pos) (tCB r t):=by
  intro pins s σ H Q I h
  refine wpAny_Call_Name_kw (ld_blt I hg hm hv ?_ hn hdb)
  exact PyProof.Rows.callWith_type1 (thn (ha pos pins s σ H _ I h) fun us s1 ⟨vs,H1,I1,r1,q1⟩=>hc pins s1 σ H1 vs us Q I1 r1 q1) he hpl
end
end L2
namespace HT
open PySem PyProof.Rows
section
open PySem.SeqAt
open PySem.AutoSeq1 (wpAny_loadPart')
open PySem.MeetsSeq PySem.MeetsSeq2 PySem.MeetsSeq3
end
section
variable {prog:Program} {w:World} {A:Around} {E:Value→Shared→Prop} {s:Shared}
theorem cat_tup {t b:Addr} {vs ws:List Value} {Q:Value→Shared→Prop} (ht:IsTup s.heap t vs.toArray) (hb:IsTup s.heap b ws.toArray) (hv:vs≠[])
    (h1:ws=[]→Q (.ref t) s) (h2:ws≠[]→Q (.ref s.heap.objs.size) { s with heap:=s.heap.push { cls:=.type "tuple", data:=.seq (vs++ws).toArray } })
    (hsz:vs.length+ws.length≤sizeLine):wpAny (model prog w) A (binaryOp .Add (.ref t) (.ref b)) Q E s:=by
  obtain ⟨⟨cls,dd,data,sl⟩,ho,hc,n,hd⟩:=id ht
  obtain ⟨⟨cls2,dd2,data2,sl2⟩,ho2,hc2,n2,hd2⟩:=id hb
  simp only at hc hd hc2 hd2
  subst hc hd hc2 hd2
  have e:vs.toArray++ws.toArray=(vs++ws).toArray:=by simp
  by_cases hw:ws=[]
  · exact concat_meets ⟨_,ho,rfl⟩ ⟨_,ho2,rfl⟩ noFill_tuple_add seq_tuple_add PySem.F.slot_tuple_add PySem.F.entry_tuple_add (PySem.F.args_tuple_add_2 _ _)
      (tuple_addW1 t b vs.toArray ws.toArray n n2 dd dd2 sl sl2 (by simpa using hv) (by simp [hw])) ⟨ho,ho2,h1 hw⟩
  · refine concat_meets ⟨_,ho,rfl⟩ ⟨_,ho2,rfl⟩ noFill_tuple_add seq_tuple_add PySem.F.slot_tuple_add PySem.F.entry_tuple_add (PySem.F.args_tuple_add_2 _ _)
      (tuple_addW2 t b vs.toArray ws.toArray n n2 dd dd2 sl sl2 (by simpa using hv) (by simpa using hw) (by rw [List.size_toArray,List.size_toArray];exact hsz)) ⟨ho,ho2,?_⟩
    rw [e]
    exact h2 hw
def sIx (n d:Nat):Option Int→Nat
  | none=>d
  | some v=>if v < 0 then (v+(n:Int)).toNat else min v.toNat n
theorem sIx_none (n d:Nat):sIx n d none=d:=rfl
theorem sIx_nat (n d k:Nat):sIx n d (some (k:Int))=min k n:=by
  show (if (k:Int) < 0 then ((k:Int)+(n:Int)).toNat else min (k:Int).toNat n)=min k n
  rw [if_neg (by omega),Int.toNat_natCast]
theorem sIx_le (n d:Nat) (hd:d≤n) (o:Option Int):sIx n d o≤n:=by
  cases o with
  | none=>exact hd
  | some v=>
    show (if v < 0 then (v+(n:Int)).toNat else min v.toNat n)≤n
    by_cases hv:v < 0
    · rw [if_pos hv];omega
    · rw [if_neg hv];exact Nat.min_le_right _ _
theorem clip_eq (v:Int) (n d:Nat):(if v < 0 then max (v+(n:Int)) 0 else min v (n:Int))=((sIx n d (some v):Nat):Int):=by
  show (if v < 0 then max (v+(n:Int)) 0 else min v (n:Int))=(((if v < 0 then (v+(n:Int)).toNat else min v.toNat n):Nat):Int)
  by_cases hv:v < 0
  · simp only [if_pos hv];omega
  · simp only [if_neg hv];omega
theorem adjust_gen (lo hi:Option Int) (n:Nat):Builtin.Slice.sliceAdjust lo hi 1 (n:Int)=(((sIx n 0 lo:Nat):Int),((sIx n n hi:Nat):Int)):=by
  have h1:¬ ((1:Int) < 0):=by omega
  unfold Builtin.Slice.sliceAdjust
  simp only [h1,if_false]
  refine Prod.ext ?_ ?_
  · cases lo with
    | none=>rfl
    | some v=>exact clip_eq v n 0
  · cases hi with
    | none=>rfl
    | some v=>exact clip_eq v n n
theorem places_gen (i j:Nat):Builtin.Slice.slicePlaces (i:Int) (j:Int) 1=j - i:=by
  unfold Builtin.Slice.slicePlaces
  have h1:(1:Int) > 0:=by omega
  simp only [h1,if_true,Int.ediv_one]
  split <;> omega
theorem slicePart_ {v:Value} {o:Option Int} {Q:Option Int→Shared→Prop} (p:IsPart v o) (h:Q o s):wpAny (model prog w) A (Builtin.Slice.slicePartIndex v) Q E s:=by
  cases p with
  | none=>exact slicePart_none h
  | int i t=>exact slicePart_int h
theorem sliceApplied_gen {sl:Addr} {vl vu:Value} {lo hi:Option Int} {n:Nat} {Q:Int × Int × Nat→Shared→Prop} (hs:s.heap.IsSliceOf sl vl vu .none) (pl:IsPart vl lo) (pu:IsPart vu hi)
    (h:Q (((sIx n 0 lo:Nat):Int),1,sIx n n hi - sIx n 0 lo) s):wpAny (model prog w) A (Builtin.Slice.sliceApplied (.ref sl) (pure (n:Int))) Q E s:=by
  obtain ⟨os,hos,hcs,hds⟩:=id hs
  unfold Builtin.Slice.sliceApplied Builtin.Slice.sliceFields
  refine wpAny_bind (wpAny_bind (wpAny_field hos hds (x:=vl) rfl (wpAny_bind (wpAny_field hos hds (x:=vu) rfl (wpAny_bind (wpAny_field hos hds (x:=.none) rfl (wpAny_pure ?_)))))))
  refine wpAny_bind (slicePart_none ?_)
  show wpAny _ _ (if ((1:Int) == 0)=true then _ else _) _ _ s
  rw [if_neg (by decide)]
  refine wpAny_bind (slicePart_ pl (wpAny_bind (slicePart_ pu (wpAny_bind (wpAny_pure ?_)))))
  show wpAny _ _ (match Builtin.Slice.sliceAdjust lo hi 1 (n:Int) with | (lo,hi)=>pure (lo,(1:Int),Builtin.Slice.slicePlaces lo hi 1)) _ _ s
  rw [adjust_gen lo hi n]
  show wpAny _ _ (pure (((sIx n 0 lo:Nat):Int),(1:Int),Builtin.Slice.slicePlaces ((sIx n 0 lo:Nat):Int) ((sIx n n hi:Nat):Int) 1)) _ _ s
  rw [places_gen]
  exact wpAny_pure h
theorem pick_gen (xs:Array Value) (i k:Nat):((List.range k).filterMap fun (m:Nat)=>xs[((i:Int)+(m:Int) * 1).toNat]?).toArray=((xs.toList.drop i).take k).toArray:=by
  have e:(fun (m:Nat)=>xs[((i:Int)+(m:Int) * 1).toNat]?)=fun m=>xs[i+m]?:=by
    funext m
    have:((i:Int)+(m:Int) * 1).toNat=i+m:=by omega
    rw [this]
  rw [e]
  have:=pick_run xs i k
  rw [List.filterMap_map] at this
  have e2:((fun x=>xs[x]?) ∘ fun x=>i+x)=fun m=>xs[i+m]?:=rfl
  rw [e2] at this
  rw [this]
theorem getItem_tuple_cut {t sl:Addr} {items:Array Value} {vl vu:Value} {lo hi:Option Int} {Q:Value→Shared→Prop} (ht:IsTup s.heap t items) (hs:s.heap.IsSliceOf sl vl vu .none) (pl:IsPart vl lo) (pu:IsPart vu hi)
    (hw:¬ (sIx items.size 0 lo=0∧sIx items.size items.size hi=items.size))
    (h:Q (.ref s.heap.objs.size) { s with heap:=s.heap.push { cls:=.type "tuple", data:=.seq ((items.toList.drop (sIx items.size 0 lo)).take (sIx items.size items.size hi - sIx items.size 0 lo)).toArray } })
    (hsz:items.size≤sizeLine):wpAny (model prog w) A (getItem (.ref t) (.ref sl)) Q E s:=by
  have htake:sizeOk (.seq ((items.toList.drop (sIx items.size 0 lo)).take (sIx items.size items.size hi - sIx items.size 0 lo)).toArray):=by
    show ((items.toList.drop (sIx items.size 0 lo)).take (sIx items.size items.size hi - sIx items.size 0 lo)).toArray.size≤sizeLine
    rw [List.size_toArray,List.length_take,List.length_drop,Array.length_toList]
    omega
  have hj:sIx items.size items.size hi≤items.size:=sIx_le _ _ (Nat.le_refl _) hi
  obtain ⟨os,hos,hcs,hds⟩:=id hs
  have hTs:s.TypeIs (.ref sl) "slice" := ⟨os,hos,hcs⟩
  unfold getItem
  try with_reducible refine wpAny_holding ?_
  first | refine wpAny_bind (wpAny_pure ?_) | skip
  refine wpAny_bind (wpAny_sequenceKey ht.typeIs (by decide) ?_)
  refine wpAny_bind (wpAny_callSpecial?_slot (name:=Str.ofString "__getitem__") ht.typeIs PyProof.Rows.slot_tuple_getitem
    (wpAny_call_entry PyProof.Rows.slot_tuple_getitem ht.typeIs entry_tuple_getitem ?_ (args_tuple_getitem _ _)))
  show wpAny _ _ (Builtin.Tuple.tupleItemsOf (.ref t) >>= _) _ _ s
  refine wpAny_bind (tupleItemsOf_ ht ?_)
  refine wpAny_bind (wpAny_typeOf hTs ?_)
  rw [if_pos (by decide)]
  refine wpAny_bind (sliceApplied_gen hs pl pu ?_)
  have hno:¬ ((((sIx items.size 0 lo:Nat):Int) == 0 && (1:Int) == 1 && (sIx items.size items.size hi - sIx items.size 0 lo) == items.size)=true):=by
    intro q
    rw [Bool.and_eq_true,Bool.and_eq_true] at q
    have q1:((sIx items.size 0 lo:Nat):Int)=0:=eq_of_beq q.1.1
    have q2:sIx items.size items.size hi - sIx items.size 0 lo=items.size:=eq_of_beq q.2
    exact hw ⟨by omega,by omega⟩
  show wpAny _ _ (if (((sIx items.size 0 lo:Nat):Int) == 0 && (1:Int) == 1 && (sIx items.size items.size hi - sIx items.size 0 lo) == items.size)=true then _ else _) _ _ s
  rw [if_neg hno,pick_gen]
  first
    | exact wpAny_bind (m:=Builtin.Tuple.tupleExact _) (wpAny_newObj_type (wpAny_pure ⟨_,rfl,wpAny_pure h⟩) htake)
    | exact wpAny_bind (m:=Builtin.Tuple.tupleExact _) (wpAny_newObj_type (wpAny_bind (wpAny_pure (wpAny_pure ⟨_,rfl,wpAny_pure h⟩))) htake)
    | exact wpAny_bind (wpAny_bind (m:=Builtin.Tuple.tupleExact _) (wpAny_newObj_type (wpAny_pure (wpAny_pure ⟨_,rfl,wpAny_pure h⟩)) htake))
    | exact wpAny_bind (wpAny_bind (m:=Builtin.Tuple.tupleExact _) (wpAny_newObj_type (wpAny_pure ⟨_,rfl,wpAny_pure h⟩) htake))
end
end HT
namespace L2
open PySem PySem.Spec PyProof.Rows
abbrev TO:=St→Hp→(Option Int→Hp→Prop)→Prop
def PO (X:Cx) (e:Option Expr) (t:TO):Prop:=
  ∀ (pins:List (Addr × Obj)) (s:Shared) (σ:St) (H:Hp) (Q:Option Int→Hp→Prop),Inv X pins σ H s→t σ H Q →
    wpAny (model X.prog X.w) X.A (evalPart e X.env) (fun u s'=>∃ o H',Inv X pins σ H' s'∧IsPart u o∧Q o H') X.xe s
def tNoPart:TO:=fun _ H Q=>Q none H
def tPart (t:TE):TO:=fun σ H Q=>t σ H fun x H1=>∃ i,x=.int i∧Q (some i) H1
theorem intsAre_of {ns:List Int}:∀ {us:List Value},Vals (ns.map V.int) us→IntsAre us ns:=by
  induction ns with
  | nil=>intro us r;rw [List.map_nil] at r;cases r;exact .nil
  | cons n ns ih=>
    intro us r
    rw [List.map_cons] at r
    cases r with
    | cons r1 r2=>
      obtain ⟨t,e⟩:=r1
      subst e
      exact .cons n t (ih r2)
section
variable {X:Cx} {e:Expr} {te:TE} {lo hi:Option Expr} {tl th:TO} {pos p2:Pos}
theorem po_none:PO X none tNoPart:=by
  intro pins s σ H Q I h
  rw [evalPart_none]
  exact wpAny_pure ⟨none,H,I,.none,h⟩
theorem po_some (h:PE X e te):PO X (some e) (tPart te):=by
  intro pins s σ H Q I hw
  rw [evalPart_some]
  refine thn (h pins s σ H _ I hw) fun u s1 ⟨x,H1,I1,r1,q1⟩=>?_
  obtain ⟨i,rfl,q⟩:=q1
  obtain ⟨t,rfl⟩:=r1
  exact ⟨some i,H1,I1,.int i t,q⟩
def SlR (X:Cx) (r:V→Option Int→Option Int→Hp→VK→Prop):Prop:=
  ∀ (pins:List (Addr × Obj)) (s:Shared) (σ:St) (H:Hp) (x:V) (v vl vu:Value) (lo hi:Option Int) (sl:Addr) (Q:VK),Inv X pins σ H s→RelV x v→s.heap.IsSliceOf sl vl vu .none→IsPart vl lo→IsPart vu hi→r x lo hi H Q →
    ∃ T id,typeLookup (.type T) "__getitem__" = pure (some (.builtin id))∧s.TypeIs v T∧wpAny (model X.prog X.w) X.A (getItem v (.ref sl)) (EP X pins σ Q) X.xe s
def tSl (r:V→Option Int→Option Int→Hp→VK→Prop) (te:TE) (tl th:TO):TE:=fun σ H Q=>te σ H fun x H1=>tl σ H1 fun l H2=>th σ H2 fun u H3=>r x l u H3 Q
theorem pe_slice {r:V→Option Int→Option Int→Hp→VK→Prop} (hr:SlR X r) (he:PE X e te) (hl:PO X lo tl) (hu:PO X hi th):PE X (.Subscript e (.Slice lo hi none p2) pos) (tSl r te tl th):=by
  intro pins s σ H Q I h
  refine Subscript_ (thn (he pins s σ H _ I h) fun v s1 ⟨x,H1,I1,r1,q1⟩=>?_)
  refine wpAny_Slice (thn (hl pins s1 σ H1 _ I1 q1) fun vl s2 ⟨l,H2,I2,pl,q2⟩=>thn (hu pins s2 σ H2 _ I2 q2) fun vu s3 ⟨u,H3,I3,pu,q3⟩=>?_)
  rw [evalPart_none]
  refine wpAny_pure ?_
  have I4:Inv X pins σ H3 { s3 with heap:=s3.heap.push { cls:=.type "slice", data:=.fields #[vl,vu,.none] } }:=I3.kept (t':=s3.toks) fun b ob q=>Heap.get?_push_of_some _ q
  obtain ⟨T,id,hT,ht,hg⟩:=hr pins { s3 with heap:=s3.heap.push { cls:=.type "slice", data:=.fields #[vl,vu,.none] } } σ H3 x v vl vu l u s3.heap.objs.size Q I4 r1 (Heap.IsSliceOf.new ..) pl pu q3
  show wpAny (model X.prog X.w) X.A (subscriptTail e (.Slice lo hi none p2) v (.ref s3.heap.objs.size)) (EP X pins σ Q) X.xe { s3 with heap:=s3.heap.push { cls:=.type "slice", data:=.fields #[vl,vu,.none] } }
  exact tail_any (ops:=[.ref s3.heap.objs.size,v]) ht hT hg (by with_unfolding_all rfl)
def cutV (xs:List V) (lo hi:Option Int):List V:=(xs.drop (HT.sIx xs.length 0 lo)).take (HT.sIx xs.length xs.length hi - HT.sIx xs.length 0 lo)
theorem cutV_length (xs:List V) (lo hi:Option Int):(cutV xs lo hi).length≤xs.length:=by
  unfold cutV
  rw [List.length_take,List.length_drop]
  omega
def rSlT (K:PySem.W.Frag):V→Option Int→Option Int→Hp→VK→Prop:=fun x lo hi H Q=>∃ a xs,x=.ref a∧SqT K H a xs ∧
  ¬ (HT.sIx xs.length 0 lo=0∧HT.sIx xs.length xs.length hi=xs.length)∧∀ p,H p=none→Q (.ref p) (upd H p (.tup (cutV xs lo hi)))
theorem sl_tup:SlR X (rSlT X.K):=by
  intro pins s σ H x v vl vu lo hi sl Q I rx hs pl pu h
  obtain ⟨a,xs,rfl,hx,hw,q⟩:=h
  cases rx
  obtain ⟨its,r,ht,hz⟩:=I.tuple hx
  have hlen:its.toArray.size=xs.length:=by rw [List.size_toArray];exact r.length.symm
  refine ⟨"tuple", _,PyProof.Rows.slot_tuple_getitem.lookup,ht.typeIs,?_⟩
  refine HT.getItem_tuple_cut ht hs pl pu (by rw [hlen];exact hw) ?_ (by rw [hlen];exact hz)
  rw [hlen]
  refine ⟨.ref s.heap.objs.size,_,I.laid (t':=s.toks) (o:=.tup (cutV xs lo hi)) (fun b ob q=>Heap.get?_push_of_some _ q) (Nat.le_refl _) ?_,rfl,q _ (I.hok.fresh (Nat.le_refl _))⟩
  exact ⟨⟨Nat.le_trans (cutV_length xs lo hi) hz,_,Heap.get?_push_size _ rfl,rfl⟩,_,(r.drop (HT.sIx xs.length 0 lo)).take (HT.sIx xs.length xs.length hi - HT.sIx xs.length 0 lo),IsTup.new _ _⟩
def rCatT (K:PySem.W.Frag):R2:=fun x y H Q=>∃ a b xs ys,x=.ref a∧y=.ref b∧SqT K H a xs∧SqT K H b ys∧xs≠[]∧xs.length+ys.length≤sizeLine ∧
  (ys=[]→Q (.ref a) H)∧(ys≠[]→∀ p,H p=none→Q (.ref p) (upd H p (.tup (xs++ys))))
theorem Vals.nil_iff {xs:List V} {us:List Value} (r:Vals xs us):us=[] ↔ xs=[]:=by
  cases r with
  | nil=>simp
  | cons _ _=>simp
theorem op_catT:OpR X (binaryOp .Add) (rCatT X.K):=by
  intro pins s σ H x y v u Q I rx ry h
  obtain ⟨a,b,xs,ys,rfl,rfl,ha,hb,hx,hz,q1,q2⟩:=h
  cases rx
  cases ry
  obtain ⟨its,r1,p1,_⟩:=I.tuple ha
  obtain ⟨its2,r2,p2,_⟩:=I.tuple hb
  refine HT.cat_tup p1 p2 (fun z=>hx (r1.nil_iff.mp z)) (fun z=>⟨.ref a,H,I,rfl,q1 (r2.nil_iff.mp z)⟩) (fun z=>?_) (by rw [← r1.length,← r2.length];exact hz)
  refine ⟨.ref s.heap.objs.size,_,I.laid (t':=s.toks) (o:=.tup (xs++ys)) (fun b ob q=>Heap.get?_push_of_some _ q) (Nat.le_refl _) ?_,rfl,q2 (fun w=>z (r2.nil_iff.mpr w)) _ (I.hok.fresh (Nat.le_refl _))⟩
  exact ⟨⟨by rw [List.length_append];exact hz,_,Heap.get?_push_size _ rfl,rfl⟩,_,r1.append r2,IsTup.new _ _⟩
end
end L2
namespace L2
open PySem PySem.Spec PyProof.Rows
def ixN (n:Nat) (i:Int):Option Nat:=if 0≤i then (if i < n then some i.toNat else none) else if -(n:Int)≤i then some (i+n).toNat else none
def atI {α:Type} (xs:List α) (i:Int):Option α:=(ixN xs.length i).bind fun j=>xs[j]?
theorem ixN_seq {n:Nat} {i:Int} {j:Nat} (h:ixN n i=some j):seqIndex? i n=some j∧j < n∧-(n:Int)≤i∧i < n:=by
  unfold ixN at h
  by_cases h0:0≤i
  · rw [if_pos h0] at h
    by_cases h1:i < n
    · rw [if_pos h1] at h
      have e:i.toNat=j:=Option.some.inj h
      exact ⟨by rw [seqIndex_of h0 h1,e],by omega,by omega,h1⟩
    · rw [if_neg h1] at h;cases h
  · rw [if_neg h0] at h
    by_cases h1:-(n:Int)≤i
    · rw [if_pos h1] at h
      have e:(i+n).toNat=j:=Option.some.inj h
      exact ⟨by rw [seqIndex_neg (by omega) h1,e],by omega,h1,by omega⟩
    · rw [if_neg h1] at h;cases h
theorem atI_get {α:Type} {xs:List α} {i:Int} {v:α} (h:atI xs i=some v):∃ j,seqIndex? i xs.length=some j∧xs[j]?=some v∧j < xs.length∧-(xs.length:Int)≤i∧i < xs.length:=by
  unfold atI at h
  cases e:ixN xs.length i with
  | none=>rw [e] at h;cases h
  | some j=>
    rw [e] at h
    obtain ⟨h1,h2,h3,h4⟩:=ixN_seq e
    exact ⟨j,h1,h,h2,h3,h4⟩
theorem atI_nat {α:Type} {xs:List α} {j:Nat} {v:α} (h:xs[j]?=some v):atI xs (j:Int)=some v:=by
  have hj:j < xs.length:=(List.getElem?_eq_some_iff.mp h).1
  have e:ixN xs.length (j:Int)=some j:=by
    unfold ixN
    rw [if_pos (by omega),if_pos (by omega)];simp
  unfold atI;rw [e];exact h
theorem atI_last {α:Type} (xs:List α) (v:α):atI (xs++[v]) (-1)=some v:=by
  have hl:(xs++[v]).length=xs.length+1:=by simp
  have e:ixN (xs++[v]).length (-1)=some xs.length:=by
    unfold ixN
    rw [hl,if_neg (by decide),if_pos (by omega)]
    congr 1
    omega
  unfold atI
  rw [e]
  show (xs++[v])[xs.length]?=some v
  simp
def PlainIx (b:Expr):Prop:=∀ o i,subscripted b false o i=operate [o,i] (getItem o i)
def IxR (X:Cx) (r:R2):Prop:=
  ∀ (value slice:Expr) (pins:List (Addr × Obj)) (s:Shared) (σ:St) (H:Hp) (x y:V) (v u:Value) (Q:VK),Inv X pins σ H s→RelV x v→RelV y u→r x y H Q →
    subscripted slice false v u=operate [v,u] (getItem v u)→wpAny (model X.prog X.w) X.A (subscriptTail value slice v u) (EP X pins σ Q) X.xe s
def MtR (X:Cx) (id:String) (r:V→List V→Hp→VK→Prop):Prop:=
  ∀ (pins:List (Addr × Obj)) (s:Shared) (σ:St) (H:Hp) (x:V) (xs:List V) (v:Value) (us:List Value) (Q:VK),Inv X pins σ H s→RelV x v→Vals xs us→r x xs H Q →
    wpAny (model X.prog X.w) X.A (call (.builtin id) (v :: us)) (EP X pins σ Q) X.xe s
section
variable {X:Cx} {a b:Expr} {ta tb:TE} {pos:Pos}
theorem IxR.or {r r':R2} (h:IxR X r) (h':IxR X r'):IxR X (fun x y H Q=>r x y H Q∨r' x y H Q):=by
  intro value slice pins s σ H x y v u Q I rx ry q hs
  rcases q with q | q
  · exact h value slice pins s σ H x y v u Q I rx ry q hs
  · exact h' value slice pins s σ H x y v u Q I rx ry q hs
theorem pe_ix {r:R2} (hr:IxR X r) (ha:PE X a ta) (hb:PE X b tb) (hs:PlainIx b):PE X (.Subscript a b pos) (tOp r ta tb):=by
  intro pins s σ H Q I h
  exact Subscript_ (binT ha hb I h fun v u s2 x y H2 I2 rx ry q=>hr a b pins s2 σ H2 x y v u Q I2 rx ry q (hs _ _))
def rIxL (K:PySem.W.Frag):R2:=fun x y H Q=>∃ p xs i v,x=.ref p∧y=.int i∧SqL K H p xs∧atI xs i=some v∧Q v H
def rIxT (K:PySem.W.Frag):R2:=fun x y H Q=>∃ p xs i v,x=.ref p∧y=.int i∧SqT K H p xs∧atI xs i=some v∧Q v H
def rIxS:R2:=fun x y H Q=>∃ z i c,x=.str z∧y=.int i∧z.length≤sizeLine∧atI z.cps.toList i=some c∧Q (.str ⟨#[c]⟩) H
theorem ix_list:IxR X (rIxL X.K):=by
  intro value slice pins s σ H x y v u Q I rx ry h hs
  obtain ⟨p,xs,i,z,rfl,rfl,hq,he,q⟩:=h
  cases rx
  obtain ⟨t,rfl⟩:=ry
  obtain ⟨its,r,pl,hz⟩:=I.list hq
  obtain ⟨j,h1,h2,h3,h4,h5⟩:=atI_get he
  obtain ⟨w,ew,rw'⟩:=r.get h2
  have hl:=r.length
  have hn:=line63
  have fin:EP X pins σ Q w s:=⟨z,H,I,rw',q⟩
  by_cases h0:0≤i
  · have hj:i.toNat=j:=by
      rw [seqIndex_of h0 h5] at h1
      exact Option.some.inj h1
    exact item_listR pl.isList h0 (by omega) (by rw [hj];simpa using ew) fin hs
  · have hj:(i+(its.toArray.size:Int)).toNat=j:=by
      rw [seqIndex_neg (by omega) h4] at h1
      rw [List.size_toArray,← hl]
      exact Option.some.inj h1
    exact subscriptTail_builtinR (x:=w) pl.isList.typeIs slot_list_getitem.lookup
      (wpAny_getItem_list_neg (Q:=fun r s'=>r=w∧EP X pins σ Q r s') pl.isList (by omega) (by rw [List.size_toArray] <;> omega) (by omega) (by rw [hj];simpa using ew) ⟨rfl,fin⟩) hs
theorem ix_tup:IxR X (rIxT X.K):=by
  intro value slice pins s σ H x y v u Q I rx ry h hs
  obtain ⟨p,xs,i,z,rfl,rfl,hq,he,q⟩:=h
  cases rx
  obtain ⟨t,rfl⟩:=ry
  obtain ⟨its,r,pl,hz⟩:=I.tuple hq
  obtain ⟨j,h1,h2,h3,h4,h5⟩:=atI_get he
  obtain ⟨w,ew,rw'⟩:=r.get h2
  have hl:=r.length
  have hn:=line63
  have fin:EP X pins σ Q w s:=⟨z,H,I,rw',q⟩
  exact subscriptTail_builtinR (x:=w) pl.typeIs slot_tuple_getitem.lookup
    (getItem_tuple (j:=j) (Q:=fun r s'=>r=w∧EP X pins σ Q r s') pl (by omega) (by omega) (by rw [List.size_toArray,← hl];exact h1) (by simpa using ew) ⟨rfl,fin⟩) hs
theorem ix_str:IxR X rIxS:=by
  intro value slice pins s σ H x y v u Q I rx ry h hs
  obtain ⟨z,i,c,rfl,rfl,hz,he,q⟩:=h
  obtain ⟨t,rfl⟩:=rx
  obtain ⟨t',rfl⟩:=ry
  obtain ⟨j,h1,h2,h3,h4,h5⟩:=atI_get he
  have hl:z.cps.toList.length=z.length:=by simp [Str.length]
  rw [hl] at h1 h4 h5
  have hn:=line63
  exact tail_any (typeIs_str s z t) slot_str_getitem.lookup (getItem_str (c:=c) (by
    have e1:decide (i < -(2 ^ 63:Int))=false:=decide_eq_false (by omega)
    have e2:decide (i ≥ 2 ^ 63)=false:=decide_eq_false (by omega)
    rw [e1,e2,Bool.or_false]) (by rw [h1];simpa using h2) ⟨.str ⟨#[c]⟩,H,I.tok _,⟨_,rfl⟩,q⟩) hs
def rIx (K:PySem.W.Frag):R2:=fun x y H Q=>rIxL K x y H Q∨rIxT K x y H Q∨rIxS x y H Q
theorem ix_seq:IxR X (rIx X.K):=ix_list.or (ix_tup.or ix_str)
theorem mapSeq_set (its:List Value) (n j:Nat) (u:Value):Obj.mapSeq (·.setIfInBounds j u) { cls:=.type "list", data:=.seq its.toArray n }={ cls:=.type "list", data:=.seq (its.set j u).toArray n }:=by
  simp [Obj.mapSeq]
theorem Inv.lst {pins:List (Addr × Obj)} {σ:St} {H:Hp} {s:Shared} {p:Addr} {xs:List V} (I:Inv X pins σ H s) (h:H p=some (.lst xs)) :
    ∃ (its:List Value) (n:Nat),Vals xs its∧s.heap.get? p=some { cls:=.type "list", data:=.seq its.toArray n }∧xs.length≤sizeLine:=by
  obtain ⟨z,its,n,r,e⟩:=I.hok p _ h
  exact ⟨its,n,r,e,z⟩
theorem Inv.lstUpd {pins:List (Addr × Obj)} {σ:St} {H:Hp} {s:Shared} {p:Addr} {xs ys:List V} {its its':List Value} {n n':Nat} {f:Obj→Obj} (I:Inv X pins σ H s) (h:H p=some (.lst xs))
    (ho:s.heap.get? p=some { cls:=.type "list", data:=.seq its.toArray n }) (hf:f { cls:=.type "list", data:=.seq its.toArray n }={ cls:=.type "list", data:=.seq its'.toArray n' }) (r:Vals ys its') (hz:ys.length≤sizeLine) (t:Nat) :
    Inv X pins σ (upd H p (.lst ys)) { s with heap:=s.heap.update p f,toks:=t }:=by
  have e:(s.heap.update p f).get? p=some { cls:=.type "list", data:=.seq its'.toArray n' }:=by
    rw [Heap.get?_update_self f ho (by rw [hf] <;> rfl),hf]
  refine I.write (x:=p) (e:=p) (by rw [h];trivial) (.inl rfl) (fun b u hb q=>(Heap.get?_update_other _ _ (Ne.symm hb)).trans q) ⟨_,e⟩ ?_
  exact ⟨hz,its',n',r,e⟩
def rSetL:V→V→V→Hp→(Hp→Prop)→Prop:=fun o i v H Q=>∃ p xs k j,o=.ref p∧i=.int k∧H p=some (.lst xs)∧ixN xs.length k=some j∧Q (upd H p (.lst (xs.set j v)))
theorem set_list:PSet X rSetL:=by
  intro pins s σ H o i v ov iv u Q I ro ri rv h
  obtain ⟨p,xs,k,j,rfl,rfl,hp,hj,q⟩:=h
  cases ro
  obtain ⟨t,rfl⟩:=ri
  obtain ⟨its,n,r,ho,hz⟩:=I.lst hp
  obtain ⟨h1,h2,h3,h4⟩:=ixN_seq hj
  have hl:=r.length
  have hn:=line63
  have I':Inv X pins σ (upd H p (.lst (xs.set j v))) { s with heap:=s.heap.update p (Obj.mapSeq (·.setIfInBounds j u)) }:=
    I.lstUpd hp ho (mapSeq_set its n j u) (r.set rv j) (by rw [List.length_set];exact hz) s.toks
  by_cases h0:0≤k
  · have hk:k.toNat=j:=by
      rw [seqIndex_of h0 h4] at h1
      exact Option.some.inj h1
    exact PySem.W.ki_setAt ho h0 (by omega) (by rw [List.size_toArray,← hl];exact h4) (by rw [hk];exact ⟨_,I',q⟩)
  · have hk:(k+(its.toArray.size:Int)).toNat=j:=by
      rw [seqIndex_neg (by omega) h3] at h1
      rw [List.size_toArray,← hl]
      exact Option.some.inj h1
    exact PySem.W.ki_setBack ho (by omega) (by rw [List.size_toArray,← hl];exact h3) (by omega) (by rw [hk];exact ⟨_,I',q⟩)
theorem slice_bounds (lo hi:Option Int) (n:Nat):(sliceBounds lo hi none n).1=((HT.sIx n 0 lo:Nat):Int)∧(sliceBounds lo hi none n).2.1=((HT.sIx n n hi:Nat):Int)∧(sliceBounds lo hi none n).2.2=1:=by
  refine ⟨?_,?_,rfl⟩
  · cases lo with
    | none=>simp [sliceBounds,HT.sIx]
    | some i=>
      simp only [sliceBounds,HT.sIx,Option.getD_none,show (1:Int) > 0 by decide,if_true]
      by_cases h:i < 0
      · simp only [h,if_true] <;> omega
      · simp only [h,if_false] <;> omega
  · cases hi with
    | none=>simp [sliceBounds,HT.sIx]
    | some i=>
      simp only [sliceBounds,HT.sIx,Option.getD_none,show (1:Int) > 0 by decide,if_true]
      by_cases h:i < 0
      · simp only [h,if_true] <;> omega
      · simp only [h,if_false] <;> omega
theorem slicePick_cut (its:List Value) (lo hi:Option Int):slicePick its.toArray lo hi none=((its.drop (HT.sIx its.length 0 lo)).take (HT.sIx its.length its.length hi - HT.sIx its.length 0 lo)).toArray:=by
  obtain ⟨h1,h2,h3⟩:=slice_bounds lo hi its.toArray.size
  unfold slicePick
  rw [h1,h2,h3]
  simp only [sliceRange_one,pick_run,List.size_toArray] <;> rfl
def rSlL (K:PySem.W.Frag):V→Option Int→Option Int→Hp→VK→Prop:=fun x lo hi H Q=>∃ a xs,x=.ref a∧SqL K H a xs∧∀ p,H p=none→Q (.ref p) (upd H p (.lst (cutV xs lo hi)))
theorem sl_list:SlR X (rSlL X.K):=by
  intro pins s σ H x v vl vu lo hi sl Q I rx hs pl pu h
  obtain ⟨a,xs,rfl,hx,q⟩:=h
  cases rx
  obtain ⟨its,r,ht,hz⟩:=I.list hx
  have hlen:=r.length
  refine ⟨"list", _,slot_list_getitem.lookup,ht.isList.typeIs,?_⟩
  refine wpAny_getItem_list_slice ht.isList hs pl pu .none (by simp) ?_ (by rw [List.size_toArray] <;> omega)
  rw [slicePick_cut,← hlen]
  refine ⟨.ref s.heap.objs.size,_,I.laid (t':=s.toks) (o:=.lst (cutV xs lo hi)) (fun b ob q=>Heap.get?_push_of_some _ q) (Nat.le_refl _) ?_,rfl,q _ (I.hok.fresh (Nat.le_refl _))⟩
  exact ⟨Nat.le_trans (cutV_length xs lo hi) hz,_,0,(r.drop (HT.sIx xs.length 0 lo)).take (HT.sIx xs.length xs.length hi - HT.sIx xs.length 0 lo),Heap.get?_push_size _ rfl⟩
def flatV:V→Bool
  | .non=>true
  | .bl _=>true
  | .int _=>true
  | .str _=>true
  | _=>false
def eqV:V→V→Bool
  | .non,.non=>true
  | .bl a,.bl b=>a == b
  | .bl a,.int b=>(if a then 1 else 0) == b
  | .int a,.bl b=>a == (if b then 1 else 0)
  | .int a,.int b=>a == b
  | .str a,.str b=>a == b
  | _,_=>false
theorem eqAt_V {A:Around} {s:Shared} {y x:V} {u v:Value} (ry:RelV y u) (rx:RelV x v) (fy:flatV y=true) (fx:flatV x=true):SeqAt.EqAt A s u v (eqV y x):=by
  cases y with
  | non=>
    cases ry
    cases x with
    | non=>cases rx;exact SeqAt.EqAt.same _
    | bl b=>cases rx;exact SeqAt.EqAt.none_bool b
    | int b=>obtain ⟨t,rfl⟩:=rx;exact SeqAt.EqAt.none_int b t
    | str b=>obtain ⟨t,rfl⟩:=rx;exact SeqAt.EqAt.none_str b t
    | _=>exact absurd (show false=true from fx) Bool.false_ne_true
  | bl a=>
    cases ry
    cases x with
    | non=>cases rx;exact SeqAt.EqAt.bool_none a
    | bl b=>cases rx;exact SeqAt.EqAt.bool_bool a b
    | int b=>obtain ⟨t,rfl⟩:=rx;exact SeqAt.EqAt.bool_int a b t
    | str b=>obtain ⟨t,rfl⟩:=rx;exact SeqAt.EqAt.bool_str a b t
    | _=>exact absurd (show false=true from fx) Bool.false_ne_true
  | int a=>
    obtain ⟨t',rfl⟩:=ry
    cases x with
    | non=>cases rx;exact SeqAt.EqAt.int_none a t'
    | bl b=>cases rx;exact SeqAt.EqAt.int_bool a t' b
    | int b=>obtain ⟨t,rfl⟩:=rx;exact SeqAt.EqAt.int_int a t' b t
    | str b=>obtain ⟨t,rfl⟩:=rx;exact SeqAt.EqAt.int_str a t' b t
    | _=>exact absurd (show false=true from fx) Bool.false_ne_true
  | str a=>
    obtain ⟨t',rfl⟩:=ry
    cases x with
    | non=>cases rx;exact SeqAt.EqAt.str_none a t'
    | bl b=>cases rx;exact SeqAt.EqAt.str_bool a t' b
    | int b=>obtain ⟨t,rfl⟩:=rx;exact SeqAt.EqAt.str_int a t' b t
    | str b=>obtain ⟨t,rfl⟩:=rx;exact SeqAt.EqAt.str_str a t' b t
    | _=>exact absurd (show false=true from fx) Bool.false_ne_true
  | _=>exact absurd (show false=true from fy) Bool.false_ne_true
def eqU (x:V) (u:Value):Bool:=match u with
  | .none=>eqV .non x
  | .bool b=>eqV (.bl b) x
  | .int i _=>eqV (.int i) x
  | .str z _=>eqV (.str z) x
  | _=>false
theorem eqU_of {x y:V} {u:Value} (r:RelV y u) (f:flatV y=true):eqU x u=eqV y x:=by
  cases y with
  | non=>cases r;rfl
  | bl b=>cases r;rfl
  | int i=>obtain ⟨t,rfl⟩:=r;rfl
  | str z=>obtain ⟨t,rfl⟩:=r;rfl
  | _=>exact absurd (show false=true from f) Bool.false_ne_true
theorem any_eqU {x:V}:∀ {xs:List V} {us:List Value},Vals xs us→xs.all flatV=true→us.any (eqU x)=xs.any fun y=>eqV y x
  | _,_,.nil,_=>rfl
  | y :: xs,u :: us,.cons r t,f=>by
    rw [List.all_cons,Bool.and_eq_true] at f
    rw [List.any_cons,List.any_cons,eqU_of r f.1,any_eqU t f.2]
theorem mem_eqAt {A:Around} {s:Shared} {x:V} {v:Value} (rx:RelV x v) (fx:flatV x=true):∀ {xs:List V} {us:List Value},Vals xs us→xs.all flatV=true→∀ u∈us,SeqAt.EqAt A s u v (eqU x u)
  | _,_,.nil,_=>fun u hu=>by cases hu
  | y :: xs,u :: us,.cons r t,f=>fun u' hu=>by
    rw [List.all_cons,Bool.and_eq_true] at f
    rcases List.mem_cons.mp hu with rfl | hu
    · rw [eqU_of r f.1];exact eqAt_V r rx f.1 fx
    · exact mem_eqAt rx fx t f.2 u' hu
def inV (x:V) (xs:List V):Bool:=xs.any fun y=>eqV y x
def rIn (K:PySem.W.Frag) (neg:Bool):R2:=fun x y H Q=>∃ p xs,y=.ref p∧(SqL K H p xs∨SqT K H p xs)∧flatV x=true∧xs.all flatV=true∧Q (.bl (if neg then !inV x xs else inV x xs)) H
theorem op_in_seq:OpR X (compareOp .In) (rIn X.K false):=by
  intro pins s σ H x y v u Q I rx ry h
  obtain ⟨p,xs,rfl,hq,fx,fs,q⟩:=h
  cases ry
  rcases hq with hq | hq
  · obtain ⟨its,r,pl,hz⟩:=I.list hq
    refine SeqAt.in_listAt (eqU x) pl.isList (fun w hw=>mem_eqAt rx fx r fs w (by simpa using hw)) ⟨.bl _,H,I,rfl,?_⟩
    rw [show its.toArray.any (eqU x)=its.any (eqU x) by simp,any_eqU r fs]
    exact q
  · obtain ⟨its,r,pl,hz⟩:=I.tuple hq
    refine SeqAt.in_tupleAt (eqU x) pl (fun w hw=>mem_eqAt rx fx r fs w (by simpa using hw)) ⟨.bl _,H,I,rfl,?_⟩
    rw [show its.toArray.any (eqU x)=its.any (eqU x) by simp,any_eqU r fs]
    exact q
theorem op_notIn_seq:OpR X (compareOp .NotIn) (rIn X.K true):=by
  intro pins s σ H x y v u Q I rx ry h
  obtain ⟨p,xs,rfl,hq,fx,fs,q⟩:=h
  cases ry
  rcases hq with hq | hq
  · obtain ⟨its,r,pl,hz⟩:=I.list hq
    refine SeqAt.notIn_listAt (eqU x) pl.isList (fun w hw=>mem_eqAt rx fx r fs w (by simpa using hw)) ⟨.bl _,H,I,rfl,?_⟩
    rw [show its.toArray.any (eqU x)=its.any (eqU x) by simp,any_eqU r fs]
    exact q
  · obtain ⟨its,r,pl,hz⟩:=I.tuple hq
    refine SeqAt.notIn_tupleAt (eqU x) pl (fun w hw=>mem_eqAt rx fx r fs w (by simpa using hw)) ⟨.bl _,H,I,rfl,?_⟩
    rw [show its.toArray.any (eqU x)=its.any (eqU x) by simp,any_eqU r fs]
    exact q
theorem call_len_seq:CallR X (.builtin "len") (fun xs H Q=>∃ p ys,xs=[.ref p]∧(SqL X.K H p ys∨SqT X.K H p ys)∧Q (.int ys.length) H):=by
  intro pins s σ H xs us Q I r h
  obtain ⟨p,ys,rfl,hq,q⟩:=h
  obtain ⟨u,rfl,rx⟩:=vals1 r
  cases rx
  have hn:=line63
  rcases hq with hq | hq
  · obtain ⟨its,r',pl,hz⟩:=I.list hq
    have hlen:=r'.length
    exact Calls.call_len_list pl.isList (by simp only [List.size_toArray] <;> omega) ⟨.int ys.length,H,I.tok _,⟨s.toks+1,by rw [List.size_toArray,hlen]⟩,q⟩
  · obtain ⟨its,r',pl,hz⟩:=I.tuple hq
    have hlen:=r'.length
    exact len_tuple pl (by simp only [List.size_toArray] <;> omega) ⟨.int ys.length,H,I.tok _,⟨s.toks+1,by rw [List.size_toArray,hlen]⟩,q⟩
theorem call_len_str:CallR X (.builtin "len") (fun xs H Q=>∃ z,xs=[.str z]∧z.length≤sizeLine∧Q (.int z.length) H):=by
  intro pins s σ H xs us Q I r h
  obtain ⟨z,rfl,hz,q⟩:=h
  obtain ⟨u,rfl,t,rfl⟩:=vals1 r
  have hn:=line63
  exact len_str (by omega) ⟨.int z.length,H,I.tok _,⟨_,rfl⟩,q⟩
theorem call_list_of:CallR X (.type "list") (fun xs H Q=>∃ p ys,xs=[.ref p]∧(SqL X.K H p ys∨SqT X.K H p ys)∧∀ l,H l=none→Q (.ref l) (upd H l (.lst ys))):=by
  intro pins s σ H xs us Q I r h
  obtain ⟨p,ys,rfl,hq,q⟩:=h
  obtain ⟨u,rfl,rx⟩:=vals1 r
  cases rx
  have fin:∀ (its:List Value),Vals ys its→ys.length≤sizeLine→∀ (h':Heap) (c':Nat),(∀ b o',s.heap.get? b=some o'→h'.get? b=some o') →
      h'.get? s.heap.objs.size=some { cls:=.type "list", dict:=none,data:=.seq its.toArray c',slots:=#[] }→EP X pins σ Q (.ref s.heap.objs.size) { s with heap:=h' }:=fun its r' hz h' c' kp e=>
    ⟨.ref s.heap.objs.size,_,I.laid (t':=s.toks) kp (Nat.le_refl _) (show ObjOk X.prog X.w _ h' _ (.lst ys) from ⟨hz,its,c',r',e⟩),rfl,q _ (I.hok.fresh (Nat.le_refl _))⟩
  rcases hq with hq | hq
  · obtain ⟨its,r',pl,hz⟩:=I.list hq
    have hlen:=r'.length
    obtain ⟨o,ho,hc,n,hd⟩:=pl.isList
    exact call_list_seq p (.inl rfl) ho hc hd (fun h' c' kp e=>fin its r' hz h' c' kp e) (by simp only [List.size_toArray] <;> omega)
  · obtain ⟨its,r',pl,hz⟩:=I.tuple hq
    have hlen:=r'.length
    obtain ⟨o,ho,hc,n,hd⟩:=pl
    exact call_list_seq p (.inr rfl) ho hc hd (fun h' c' kp e=>fin its r' hz h' c' kp e) (by simp only [List.size_toArray] <;> omega)
theorem call_tuple_of:CallR X (.type "tuple") (fun xs H Q=>∃ p ys,xs=[.ref p]∧((SqL X.K H p ys∧∀ l,H l=none→Q (.ref l) (upd H l (.tup ys)))∨(SqT X.K H p ys∧Q (.ref p) H))):=by
  intro pins s σ H xs us Q I r h
  obtain ⟨p,ys,rfl,h⟩:=h
  obtain ⟨u,rfl,rx⟩:=vals1 r
  cases rx
  rcases h with ⟨hq,q⟩ | ⟨hq,q⟩
  · obtain ⟨its,r',pl,hz⟩:=I.list hq
    have hlen:=r'.length
    refine call_tuple_list pl.isList (fun h' kp=>?_) (by simp only [List.size_toArray] <;> omega)
    have I1:Inv X pins σ H { s with heap:=h' }:=I.kept (t':=s.toks) kp
    have I2:Inv X pins σ (upd H h'.objs.size (.tup ys)) { s with heap:=h'.push { cls:=.type "tuple", data:=.seq its.toArray } }:=
      I1.laid (t':=s.toks) (fun b o e=>Heap.get?_push_of_some _ e) (Nat.le_refl _) (show ObjOk X.prog X.w _ _ _ (.tup ys) from ⟨⟨hz,_,Heap.get?_push_size _ rfl,rfl⟩,its,r',IsTup.new _ _⟩)
    exact ⟨.ref h'.objs.size,_,I2,rfl,q _ (I1.hok.fresh (Nat.le_refl _))⟩
  · obtain ⟨its,r',pl,hz⟩:=I.tuple hq
    exact call_tuple_same pl ⟨.ref p,H,I,rfl,q⟩
def tyV (K:PySem.W.Frag) (T:String) (x:V) (H:Hp):Prop:=match x with
  | .str _=>T = "str"
  | .int _=>T = "int"
  | .ref p=>(T = "list" ∧ ∃ xs,SqL K H p xs)∨(T = "tuple" ∧ ∃ o,K.lookup p=some o∧o.cls=.type "tuple" ∧ o.dict=none) ∨
      (T = "dict" ∧ ((∃ kvs,H p=some (.dK kvs))∨∃ kvs,H p=some (.dT kvs)))∨(T = "set" ∧ ∃ S n,H p=some (.set S n))
  | _=>False
theorem tyV_is {pins:List (Addr × Obj)} {σ:St} {H:Hp} {s:Shared} {T:String} {x:V} {v:Value} (I:Inv X pins σ H s) (r:RelV x v) (ty:tyV X.K T x H) :
    s.TypeIs v T∧∀ a,v=.ref a→∃ ob,s.heap.get? a=some ob∧ob.dict=none:=by
  cases x with
  | str z=>
    obtain ⟨t,rfl⟩:=r
    cases (show T = "str" from ty)
    exact ⟨typeIs_str s z t,fun _ e=>nomatch e⟩
  | int i=>
    obtain ⟨t,rfl⟩:=r
    cases (show T = "int" from ty)
    exact ⟨typeIs_int s i t,fun _ e=>nomatch e⟩
  | ref p=>
    cases r
    rcases ty with ⟨rfl,xs,hq⟩ | ⟨rfl,o,hk,hc,hd⟩ | ⟨rfl,hk⟩ | ⟨rfl,S,n,hk⟩
    · obtain ⟨its,_,pl,_⟩:=I.list hq
      refine ⟨pl.isList.typeIs,fun a e=>?_⟩
      cases e
      obtain ⟨o,n,e,c,hd,_⟩:=pl
      exact ⟨o,e,hd⟩
    · refine ⟨⟨o,I.kIn p o hk,hc⟩,fun a e=>?_⟩
      cases e
      exact ⟨o,I.kIn _ o hk,hd⟩
    · have z:∃ o,s.heap.get? p=some o∧o.ExactDict:=by
        rcases hk with ⟨kvs,hk⟩ | ⟨kvs,hk⟩
        · obtain ⟨_,_,_,_,o,_,_,e,ex,_⟩:=I.hok p _ hk
          exact ⟨o,e,ex⟩
        · obtain ⟨_,_,_,_,o,_,_,e,ex,_⟩:=I.hok p _ hk
          exact ⟨o,e,ex⟩
      obtain ⟨o,e,ex⟩:=z
      refine ⟨⟨o,e,ex.1⟩,fun a e2=>?_⟩
      cases e2
      exact ⟨o,e,ex.2.1⟩
    · obtain ⟨o,_,_,_,e,ex,_⟩:=I.hok p _ hk
      refine ⟨⟨o,e,ex.1⟩,fun a e2=>?_⟩
      cases e2
      exact ⟨o,e,ex.2.1⟩
  | _=>exact False.elim ty
def tBM (K:PySem.W.Frag) (T:String) (r:V→List V→Hp→VK→Prop) (to:TE) (t:TA):TE:=fun σ H Q=>to σ H fun x H1=>tyV K T x H1∧t σ H1 fun xs H2=>r x xs H2 Q
variable {o e:Expr} {es:List Expr} {to:TE} {t:TA} {name:Str} {apos cpos:Pos} {T id:String} {r:V→List V→Hp→VK→Prop}
theorem pe_bm (pa:PlainAttrs T) (slot:Slot T name id) (hty:typeOf (.builtin id)=pure (.type "method_descriptor")) (hm:MtR X id r) (ho:PE X o to) (ha:PA X (e :: es) t)
    (hbase:attributeBase o name X.env (eval o X.env)=eval o X.env:=by rfl)
    (hfew:((backTo cpos (starEach (e :: es) X.env)).all (fun x=>!x.1) && (backToKw cpos (keywordEach [] X.env)).all (fun x=>x.1.isSome)
      && decide ((e :: es).length+([]:List Keyword).length+(if ([]:List Keyword).isEmpty then 0 else 1) < 30))=true:=by rfl)
    (hline:(apos.endLine == cpos.line)=true:=by rfl) (hs:starEach (e :: es) X.env=(false,eval e X.env) :: starEach es X.env:=by rfl) (hplain:(backTo cpos (starEach es X.env)).any (·.1)=false:=by rfl) :
    PE X (.Call (.Attribute o name apos) (e :: es) [] cpos) (tBM X.K T r to t):=by
  intro pins s σ H Q I h
  refine wpAny_Call_method_late hbase hfew hline rfl (thn (ho pins s σ H _ I h) fun v s1 ⟨x,H1,I1,r1,ty,q1⟩=>?_)
  obtain ⟨h1,h2⟩:=tyV_is I1 r1 ty
  refine ⟨T,id,pa,slot,hty,h1,h2,?_⟩
  have hA:=ha cpos pins s1 σ H1 _ I1 q1
  rw [hs] at hA ⊢
  refine Calls.callWith_builtin (by show (false || (backTo cpos (starEach es X.env)).any (·.1))=false;rw [hplain] <;> rfl) (Calls.evalArgs_plain ?_)
  exact thn hA fun us s2 ⟨vs,H2,I2,r2,q2⟩=>hm pins s2 σ H2 x vs v us Q I2 r1 r2 q2
/- xs.append(e),list.index on a module's tuple .. are MtR facts of 06m -/
end
end L2
namespace L2
open PySem PySem.Spec PyProof.Rows
def MtM (X:Cx) (id:String) (r:V→List V→Hp→VK→Prop):Prop:=
  ∀ (pins:List (Addr × Obj)) (s:Shared) (σ:St) (H:Hp) (x:V) (xs:List V) (v:Value) (us:List Value) (Q:VK),Inv X pins σ H s→RelV x v→Vals xs us→r x xs H Q →
    wpAny (model X.prog X.w) X.A (call (.builtin id) (v :: us)) (EP X pins σ Q) X.xe s
theorem Vals.one:∀ {x:V} {us:List Value},Vals [x] us→∃ u,us=[u]∧RelV x u
  | _,_,.cons r .nil=>⟨_,rfl,r⟩
theorem Vals.two:∀ {x y:V} {us:List Value},Vals [x,y] us→∃ u v,us=[u,v]∧RelV x u∧RelV y v
  | _,_,_,.cons r (.cons q .nil)=>⟨_,_,rfl,r,q⟩
theorem Vals.zero:∀ {us:List Value},Vals [] us→us=[]
  | _,.nil=>rfl
theorem Vals.eraseIdx:∀ {xs:List V} {us:List Value} (i:Nat),Vals xs us→Vals (xs.eraseIdx i) (us.eraseIdx i)
  | _,_,_,.nil=>.nil
  | _,_,0,.cons _ t=>t
  | _,_,i+1,.cons r t=>.cons r (Vals.eraseIdx i t)
theorem Vals.reverse {xs:List V} {us:List Value} (h:Vals xs us):Vals xs.reverse us.reverse:=by
  induction h with
  | nil=>exact .nil
  | cons r t ih=>rw [List.reverse_cons,List.reverse_cons];exact Vals.append ih (.cons r .nil)
theorem Vals.rep {xs:List V} {us:List Value} (h:Vals xs us):∀ k:Nat,Vals (List.replicate k xs).flatten (List.replicate k us).flatten
  | 0=>.nil
  | k+1=>by
    rw [List.replicate_succ,List.replicate_succ,List.flatten_cons,List.flatten_cons]
    exact Vals.append h (Vals.rep h k)
theorem foldl_rep (its:List Value):∀ (k:Nat) (acc:List Value),
    List.foldl (fun x1 x2=>x1++x2) acc.toArray (List.replicate k its.toArray)=(acc++(List.replicate k its).flatten).toArray
  | 0,acc=>by simp
  | k+1,acc=>by
    have e:acc.toArray++its.toArray=(acc++its).toArray:=by simp
    have e2:(acc++its)++(List.replicate k its).flatten=acc++(List.replicate (k+1) its).flatten:=by
      rw [List.replicate_succ,List.flatten_cons,List.append_assoc]
    rw [← e2,← foldl_rep its k (acc++its),← e,List.replicate_succ,List.foldl_cons]
section
variable {X:Cx} {pins:List (Addr × Obj)} {σ:St} {H:Hp} {s:Shared} {l b:Addr} {xs ys zs:List V}
theorem Inv.lset {its its':List Value} {n:Nat} {f:Array Value→Array Value} {t':Nat} (I:Inv X pins σ H s) (hH:H l=some (.lst xs))
    (e:s.heap.get? l=some { cls:=.type "list", data:=.seq its.toArray n }) (hf:f its.toArray=its'.toArray) (hv:Vals ys its') (hz:ys.length≤sizeLine) :
    Inv X pins σ (upd H l (.lst ys)) { s with heap:=s.heap.update l (Obj.mapSeq f),toks:=t' }:=by
  have q:=PySem.IsL.update e f
  rw [hf] at q
  refine I.write (x:=l) (e:=l) (by rw [hH];exact trivial) (.inl rfl) (fun b' u hb hu=>(Heap.get?_update_other s.heap (Obj.mapSeq f) (Ne.symm hb)).trans hu) ⟨_,q⟩ ?_
  exact ⟨hz,its',_,hv,q⟩
theorem Inv.lnew {its:List Value} {t':Nat} (I:Inv X pins σ H s) (hv:Vals ys its) (hz:ys.length≤sizeLine) :
    Inv X pins σ (upd H s.heap.objs.size (.lst ys)) { s with heap:=s.heap.push { cls:=.type "list", data:=.seq its.toArray },toks:=t' }:=
  I.laid (fun _ _ q=>Heap.get?_push_of_some _ q) (Nat.le_refl _) ⟨hz,its,0,hv,Heap.get?_push_size _ rfl⟩
theorem Inv.fresh (I:Inv X pins σ H s):H s.heap.objs.size=none:=I.hok.fresh (Nat.le_refl _)
theorem Inv.lstM (I:Inv X pins σ H s) (hH:H l=some (.lst xs)):xs.length≤sizeLine∧∃ (its:List Value) (n:Nat),Vals xs its∧xs.length=its.length∧s.heap.get? l=some { cls:=.type "list", data:=.seq its.toArray n }:=by
  obtain ⟨z,its,n,r,e⟩:=I.hok l _ hH
  exact ⟨z,its,n,r,r.length,e⟩
theorem notLongL {n:Nat} (h:n≤sizeLine):Builtin.List.listTooLong n=false:=by
  unfold Builtin.List.listTooLong
  exact decide_eq_false (by omega)
end
section
variable {X:Cx}
def rAppend:V→List V→Hp→VK→Prop:=fun x vs H Q=>∃ l xs y,x=.ref l∧vs=[y]∧H l=some (.lst xs)∧xs.length < sizeLine∧Q .non (upd H l (.lst (xs++[y])))
theorem mt_append:MtM X "list.append" rAppend:=by
  intro pins s σ H x vs v us Q I rx rv h
  obtain ⟨l,xs,y,rfl,rfl,hH,hz,q⟩:=h
  cases rx
  obtain ⟨u,rfl,ru⟩:=rv.one
  obtain ⟨z,its,n,r,hl,e⟩:=I.lstM hH
  refine call_meets F.slot_list_append ⟨_,e,rfl⟩ F.entry_list_append (F.args_list_append_2 _ _) (PySem.list_append l its.toArray n u (by rw [List.size_toArray];omega)) ⟨e,?_⟩
  refine ⟨.non,_,I.lset (its':=its++[u]) hH e (by simp) (r.append (.cons ru .nil)) ?_,rfl,q⟩
  rw [List.length_append,List.length_singleton]
  omega
def rCat:R2:=fun x y H Q=>∃ l b xs zs,x=.ref l∧y=.ref b∧H l=some (.lst xs)∧H b=some (.lst zs)∧xs.length+zs.length≤sizeLine∧∀ p,H p=none→Q (.ref p) (upd H p (.lst (xs++zs)))
theorem op_cat:OpR X (binaryOp .Add) rCat:=by
  intro pins s σ H x y v u Q I rx ry h
  obtain ⟨l,b,xs,zs,rfl,rfl,hH,hB,hz,q⟩:=h
  cases rx
  cases ry
  obtain ⟨z,its,n,r,hl,e⟩:=I.lstM hH
  obtain ⟨z2,its2,n2,r2,hl2,e2⟩:=I.lstM hB
  refine PySem.P.add_list e e2 ?_ (by rw [List.size_toArray,List.size_toArray];omega)
  have ea:its.toArray++its2.toArray=(its++its2).toArray:=by simp
  rw [ea]
  exact ⟨.ref _,_,I.lnew (t':=s.toks) (r.append r2) (by rw [List.length_append];omega),rfl,q _ I.fresh⟩
def rRep:R2:=fun x y H Q=>∃ l k xs,x=.ref l∧y=.int k∧H l=some (.lst xs)∧-(2 ^ 63)≤k∧k < 2 ^ 63∧xs.length * k.toNat≤sizeLine ∧
  ∀ p,H p=none→Q (.ref p) (upd H p (.lst (List.replicate k.toNat xs).flatten))
theorem len_rep {α:Type} (xs:List α) (k:Nat):(List.replicate k xs).flatten.length=k * xs.length:=by
  induction k with
  | zero=>simp
  | succ k ih=>rw [List.replicate_succ,List.flatten_cons,List.length_append,ih,Nat.succ_mul,Nat.add_comm]
theorem op_rep:OpR X (binaryOp .Mult) rRep:=by
  intro pins s σ H x y v u Q I rx ry h
  obtain ⟨l,k,xs,rfl,rfl,hH,h1,h2,hz,q⟩:=h
  cases rx
  obtain ⟨t,rfl⟩:=ry
  obtain ⟨z,its,n,r,hl,e⟩:=I.lstM hH
  have hlen:its.toArray.size * k.toNat≤sizeLine:=by rw [List.size_toArray,← hl];exact hz
  have hcap:¬ its.toArray.size * k.toNat > (2 ^ 63 - 1) / 8:=by
    have:(sizeLine:Nat)≤(2 ^ 63 - 1) / 8:=by decide
    omega
  have hfit:¬ (!Builtin.List.listFitsIndex k)=true:=by
    rw [fitsIndex_both h1 h2]
    exact Bool.false_ne_true
  have hlong:¬ Builtin.List.listTooLong (its.toArray.size * k.toNat)=true:=by
    rw [notLongL hlen]
    exact Bool.false_ne_true
  have hnew:List.foldl (fun x1 x2=>x1++x2) #[] (List.replicate (if its.toArray.isEmpty=true then 0 else k.toNat) its.toArray)=(List.replicate k.toNat its).flatten.toArray:=by
    have f0:∀ m:Nat,List.foldl (fun x1 x2=>x1++x2) #[] (List.replicate m its.toArray)=(List.replicate m its).flatten.toArray:=fun m=>by
      have:=foldl_rep its m []
      rw [List.nil_append] at this
      exact this
    rw [f0]
    cases its with
    | nil=>simp
    | cons a r'=>rw [if_neg (by simp)]
  refine wpAny_binaryOp_repeat_ref (T := "list") (U := "int") (by decide) ⟨_,e,rfl⟩ (fun s'=>typeIs_int s' k t) noFill_list_mul F.fills_int_mul F.slot_int_rmul repeat_list F.slot_int_index.lookup
    (call_meets F.slot_int_rmul (typeIs_int s k t) F.entry_int_rmul (F.args_int_rmul_2 _ _) (int___rmul___int_list k t l its.toArray n)
      ⟨e,rfl,⟨_,e,rfl⟩,call_meets F.slot_list_mul ⟨_,e,rfl⟩ F.entry_list_mul (F.args_list_mul_2 _ _) (AutoListH.list___mul___list_int_3 l its.toArray n k t hfit hcap hlong) ⟨e,?_⟩⟩)
  rw [hnew]
  exact ⟨.ref _,_,I.lnew (t':=s.toks) (r.rep k.toNat) (by rw [len_rep,Nat.mul_comm];exact hz),rfl,q _ I.fresh⟩
end
section
variable {prog:Program} {w:World} {A:Around} {E:Value→Shared→Prop} {s:Shared}
end
section
variable {X:Cx}
end
end L2
namespace Att
open PySem PySem.W PySem.Calls PyProof.Rows
theorem ints_of_wellAll {P:Params} {h:Heap}:∀ (ns:List Int) (vs:List Value),WellAll P h vs (ns.map WData.int)→IntsAre vs ns:=by
  intro ns
  induction ns with
  | nil=>
    intro vs w
    rw [List.map_nil] at w
    cases w
    exact .nil
  | cons n ns ih=>
    intro vs w
    rw [List.map_cons] at w
    cases w with
    | cons a b=>
      cases a
      exact .cons _ _ (ih _ b)
theorem script_of {l:OpenLaw} {n:Nat} (hn:l.most=some n) {P:Params} {h:Heap} {args:List WData} {vals:List Value}
    (hpre:l.row.toRowW.claim.pre args=true) (hwl:WellAll P h vals args) :
    ∃ a vs ns,vals=[Value.ref a]∧args=[WData.list (ns.map WData.int)]∧h.get? a=some { cls:=.type "list", data:=.seq vs.toArray }∧IntsAre vs ns∧ns.length≤n:=by
  have hsh:WShape.hasAll [] args [.list .int]=true:=(pre_splitW hpre).1
  have hc:l.pre.holds [] { args:=args }=true:=(pre_splitW hpre).2
  obtain ⟨d,r,rfl,h1,h2⟩:=hasAllW_cons hsh
  obtain rfl:=hasAllW_nil h2
  obtain ⟨xs,rfl,h3⟩:=hasW_list h1
  obtain ⟨ns,rfl⟩:=items_int h3
  have hlen:ns.length≤n:=by
    unfold OpenLaw.pre at hc
    have h4:(WTm.not (.lt (.lit (.int (n:Int))) (.len (.arg 0)))).holds [] { args:=[.list (ns.map .int)] }=true:=by
      have h4:=(holds_andW hc).1
      rw [hn] at h4
      exact h4
    have h5:=condW_of h4 (w_not (w_lt w_lit (w_len_list (w_arg rfl))))
    rw [List.length_map] at h5
    refine Nat.le_of_not_lt fun q=>?_
    have q':(n:Int) < ((ns.length:Nat):Int):=by omega
    first
      | (rw [decide_eq_true q'] at h5;exact absurd h5 (by decide))
      | (simp at h5;omega)
  cases hwl with
  | cons w1 w2=>
    cases w2
    cases w1 with
    | list ho hall=>exact ⟨_,_,ns,rfl,rfl,ho,ints_of_wellAll ns _ hall,hlen⟩
theorem post_true (l:OpenLaw) (args:List WData):l.row.toRowW.claim.post args (.bool true) args=true:=
  postW_of (r:=l.row.toRowW) (X:=(true == true))
    (show WShape.has [] (.bool true) .bool=true by first | rfl | decide | simp [WShape.has,WShape.arms,WShape.armsAll])
    (show (WTm.eq .res (.lit (.bool true))).value [] { args:=args,res:=some (.bool true),after:=args }=some (.bool (true == true)) from w_eq_bool (w_res rfl) w_lit) rfl
theorem attach_call {l:OpenLaw} {n:Nat} {q:Program} {loose:List Str} {XP:(Str→Option Value)→Heap→Prop} {YP:World→Heap→Prop} {d:DefRec}
    (hn:l.most=some n) (hdf:d.params.defaults=[])
    (call:∀ (w:World) (s₀ s₁:Shared) (mg mb:Str→Option Value) (fa:Addr) (o:Obj) (pm cd doc:Value) (a:Addr) (vs:List Value) (ns:List Int),
      Ground q loose [] XP w s₀ mg mb s₁.heap→YP w s₁.heap →
      s₁.heap.get? fa=some o→o.data=.func (docDef d.name d.params d.body d.scope pm cd doc)→s₁.heap.CodeRec cd d.name→mg d.name=some (.ref fa) →
      s₁.heap.get? a=some { cls:=.type "list", data:=.seq vs.toArray }→IntsAre vs ns→ns.length≤n→s₁.gens=#[] →
      codeAny (model l.prog w) callerA (.call (.ref fa) ⟨[.ref a],[]⟩) (fun r s'=>r=.ok (.ret (.bool true))∧OldK s₁.heap s'.heap∧s'.os=s₁.os∧AllBare s'.gens) s₁) :
    WalkO q loose XP YP l.row.toRowW d [] (fun f vs=>PySem.call f vs):=by
  intro w s₀ s₁ mg mb G Y fa o pm cd doc dV kV ho hd hcd hD hmg hg args vals as hpre hlay hrd hwl hlo
  obtain rfl:dV=.none:=Dflts.none hD hdf
  obtain rfl:kV=.none:=Dflts.noKw hD
  obtain ⟨a,vs,ns,rfl,rfl,hobj,hints,hlen⟩:=script_of hn hpre hwl
  refine enter_call (codeAny_mono (call w s₀ s₁ mg mb fa o pm cd doc a vs ns G Y ho (fd_plain hd) hcd hmg hobj hints hlen hg) fun r s' hq=>?_)
  obtain ⟨rfl,h2,h3,h4⟩:=hq
  exact ⟨.inl ⟨.bool true,.bool true,[],rfl,fun _=>rfl,.bool true,post_true l _,fun _=>⟨List.Pairwise.nil,fun _ hm=>(nomatch hm)⟩⟩,h2,h3,h4⟩
section
variable {prog:Program} {w:World} {A:Around} {E:Value→Shared→Prop} {s:Shared} {K:Frag}
def ledger (h:Heap) (L d:Addr):List (Addr × Obj):=(List.range h.objs.size).filterMap fun a=>if a=L∨a=d then none else (h.get? a).map fun o=>(a,o)
end
end Att
namespace L2
open PySem PySem.Spec PyProof.Rows
theorem vals_ints:∀ {vs:List Value} {ns:List Int},IntsAre vs ns→Vals (ns.map V.int) vs
  | _,_,.nil=>.nil
  | _,_,.cons n t h=>.cons ⟨t,rfl⟩ (vals_ints h)
def Only (H:Hp):Prop:=∀ b,H b=none∨∃ o xs,H b=some (.frz o (.lst xs))
theorem law_call {P:Program} {w:World} {K:PySem.W.Frag} {mg mb:Str→Option Value} {CX:CXT} {k:Nat} {fa a:Addr} {fd:FuncData} {x:Str} {sp:Sp} {s₁:Shared} {vs:List Value} {ns:List Int}
    (KX:K.In s₁.heap) (hns:s₁.heap.Ns mainGlobals mg) (hb:s₁.heap.Ns builtinsNs mb) (hbb:∀ x:Str,x ≠ "__name__" → mb x=bootBuiltins x) (hlim:s₁.heap.NoLimit) (hg:s₁.gens=#[])
    (ha:s₁.heap.get? a=some { cls:=.type "list", data:=.seq vs.toArray }) (hi:IntsAre vs ns) (hl:ns.length≤sizeLine) (hr:Room k callerA)
    (F:∀ base:Heap,K.In base→base.Ns mainGlobals mg→FnOk P w K mg base CX k fa fd [x] sp) (hbind:∀ (s:Shared) (u:Value),BindsTo s fd ⟨[u],[]⟩ [(x,u)])
    (hsp:∀ H:Hp,Only H→SqL K H a (ns.map V.int)→sp [.ref a] H (fun v _=>v=.bl true) fun _ _ _=>False)
    (hCX:∀ H e s',CX [] H s₁ (fun _ _ _=>False) e s'→False) :
    codeAny (model P w) callerA (.call (.ref fa) ⟨[.ref a],[]⟩) (fun r s'=>r=.ok (.ret (.bool true))∧OldK s₁.heap s'.heap∧s'.os=s₁.os∧AllBare s'.gens) s₁:=by
  have rv:=vals_ints hi
  have lenV:=hi.length
  have core:∀ H:Hp,Only H→SqL K H a (ns.map V.int)→HOk P w H s₁.heap→(∀ b,H b≠none→b=a)→(H a≠none→K.lookup a=none) →
      codeAny (model P w) callerA (.call (.ref fa) ⟨[.ref a],[]⟩) (fun r s'=>r=.ok (.ret (.bool true))∧OldK s₁.heap s'.heap∧s'.os=s₁.os∧AllBare s'.gens) s₁:=by
    intro H hO hS hok hA hK
    have base_of:∀ {b:Addr} {o:Obj},s₁.heap.get? b=some o→H b=none→(hidT s₁.heap H).get? b=some o:=fun e n=>hidT_get e n
    have noA:∀ {b:Addr} {o:Obj} {es:Array DictEntry} {ep:Nat},s₁.heap.get? b=some o→o.data=.dict es ep→H b=none:=fun {b o es ep} e d=>by
      cases q:H b with
      | none=>rfl
      | some u=>
        have e':b=a:=hA b (by rw [q];simp)
        subst e'
        rw [ha] at e;cases e
        have d':Data.seq vs.toArray _=Data.dict es ep:=d
        cases d'
    have nsK:∀ {b:Addr} {m:Str→Option Value},s₁.heap.Ns b m→(hidT s₁.heap H).Ns b m:=fun {b m} ⟨o,es,ep,e,d,r⟩=>⟨o,es,ep,base_of e (noA e d),d,r⟩
    have hKb:K.In (hidT s₁.heap H):=fun b o e=>base_of (KX b o e) (by
      cases q:H b with
      | none=>rfl
      | some u=>
        have e':b=a:=hA b (by rw [q];simp)
        subst e'
        rw [hK (by rw [q];simp)] at e;cases e)
    have hM:Mod K mg (hidT s₁.heap H):=⟨hKb,nsK hns,⟨mb,nsK hb,hbb⟩,let ⟨mc,h1,h2⟩:=hlim;⟨mc,nsK h1,h2⟩⟩
    have e0:Env0 P w K mg (hidT s₁.heap H) callerA [] s₁ H:=⟨rfl,hM,fun b o e=>of_hidT e,Nat.le_of_eq (hidT_size _ _),trivial,fun b hb=>absurd (show b∈([]:List Addr) from hb) (by simp),hok,.of_eq hg⟩
    refine codeAny_mono ((F _ hKb (nsK hns)).run callerA [] s₁ H ⟨[.ref a],[]⟩ [.ref a] [.ref a] _ _ hr e0 (hbind s₁ (.ref a)) (.cons rfl .nil) (hsp H hO hS)) fun r s' h=>?_
    cases r with
    | error e=>exact (hCX H e s' h).elim
    | ok fl=>
      cases fl with
      | next=>exact False.elim h
      | brk=>exact False.elim h
      | cont=>exact False.elim h
      | ret u=>
        obtain ⟨v,H',os,bare,un,hok',r',q⟩:=h
        have q':v=.bl true:=q
        subst q'
        obtain rfl:u=Value.bool true:=r'
        refine ⟨rfl,OldK.of_keep fun b o e=>?_,os,bare⟩
        cases q:H b with
        | none=>exact un.keep b o e q (by intro z;exact absurd (show b∈([]:List Addr) from z) (by simp)) (by simp)
        | some u=>
          rcases hO b with z | ⟨ob,xs,z⟩
          · rw [q] at z;cases z
          · have z2:=un.frzs b ob _ z
            obtain ⟨e1,_⟩:=hok b _ z
            obtain ⟨e2,_⟩:=hok' b _ z2
            rw [e] at e1;cases e1
            exact e2
  cases hk:K.lookup a with
  | some o=>
    have e:=KX a o hk
    rw [ha] at e
    cases e
    refine core (fun _=>none) (fun _=>.inl rfl) (.inr ⟨_,vs.toArray,_,hk,rfl,rfl,rfl,by rw [List.size_toArray,lenV];exact hl,by simpa using rv⟩) (fun b u z=>by have z':(none:Option HO)=some u:=z;cases z') (fun b z=>absurd rfl z) fun z=>absurd rfl z
  | none=>
    refine core (fun b=>if b=a then some (.frz { cls:=.type "list", data:=.seq vs.toArray } (.lst (ns.map V.int))) else none) (fun b=>?_) (.inl (.inr ⟨{ cls:=.type "list", data:=.seq vs.toArray },if_pos rfl⟩)) (fun b u z=>?_) (fun b z=>?_) fun _=>hk
    · by_cases hb:b=a
      · exact .inr ⟨_,_,if_pos hb⟩
      · exact .inl (if_neg hb)
    · by_cases hb:b=a
      · have z':=(if_pos hb).symm.trans z
        cases z'
        subst hb
        exact ⟨ha,by rw [List.length_map];exact hl,vs,_,rv,ha⟩
      · have z':=(if_neg hb).symm.trans z
        cases z'
    · by_cases hb:b=a
      · exact hb
      · exact absurd (if_neg hb) z
end L2
namespace L2
open PySem PySem.Spec PyProof.Rows
abbrev KOf {K:PySem.W.Frag} {h:Heap} (_:K.In h):PySem.W.Frag:=K
theorem walk_of {l:PySem.W.OpenLaw} {n k:Nat} {q:Program} {loose:List Str} {XP:(Str→Option Value)→Heap→Prop} {YP:World→Heap→Prop} {d:DefRec} {K:Params→PySem.W.Frag} {CX:World→CXT} {sp:World→Sp} {x:Str}
    (hn:l.most=some n) (hn2:n≤sizeLine) (hdf:d.params.defaults=[]) (hr:Room k callerA)
    (hY:∀ (w:World) (h:Heap),YP w h→(K w.params).In h)
    (F:∀ (w:World) (mg:Str→Option Value) (fa:Addr) (h:Heap),(K w.params).In h→h.Ns mainGlobals mg→mg d.name=some (.ref fa) →
      ∃ fd:FuncData,(∀ (s:Shared) (u:Value),BindsTo s fd ⟨[u],[]⟩ [(x,u)]) ∧
        ∀ base:Heap,(K w.params).In base→base.Ns mainGlobals mg→FnOk l.prog w (K w.params) mg base (CX w) k fa fd [x] (sp w))
    (hsp:∀ (w:World) (H:Hp) (a:Addr) (ns:List Int),ns.length≤n→Only H→SqL (K w.params) H a (ns.map V.int)→sp w [.ref a] H (fun v _=>v=.bl true) fun _ _ _=>False)
    (hCX:∀ (w:World) (H:Hp) (s:Shared) (e:Value) (s':Shared),CX w [] H s (fun _ _ _=>False) e s'→False) :
    PySem.W.WalkO q loose XP YP l.row.toRowW d [] (fun f vs=>PySem.call f vs):=by
  refine Att.attach_call hn hdf fun w s₀ s₁ mg mb fa o pm cd doc a vs ns G Y ho hd hcd hmg hobj hints hlen hg=>?_
  have KX:=hY w _ Y
  obtain ⟨fd,hb,hF⟩:=F w mg fa _ KX G.T.g hmg
  exact law_call KX G.T.g G.T.b G.T.builtins G.T.nolimit hg hobj hints (Nat.le_trans hlen hn2) hr hF hb (fun H hO hS=>hsp w H a ns hlen hO hS) fun H e s'=>hCX w H s₁ e s'
theorem walk_ofK {l:PySem.W.OpenLaw} {n k:Nat} {q:Program} {loose:List Str} {XP:(Str→Option Value)→Heap→Prop} {YP:World→Heap→Prop} {d:DefRec} {K:Params→PySem.W.Frag} {CX:CXT} {sp:PySem.W.Frag→Sp} {x:Str}
    (hn:l.most=some n) (hn2:n≤sizeLine) (hdf:d.params.defaults=[]) (hr:Room k callerA)
    (hY:∀ (w:World) (h:Heap),YP w h→(K w.params).In h)
    (F:∀ (w:World) (mg:Str→Option Value) (fa:Addr) (h:Heap),(K w.params).In h→h.Ns mainGlobals mg→mg d.name=some (.ref fa) →
      ∃ fd:FuncData,(∀ (s:Shared) (u:Value),BindsTo s fd ⟨[u],[]⟩ [(x,u)]) ∧
        ∀ base:Heap,(K w.params).In base→base.Ns mainGlobals mg→FnOk l.prog w (K w.params) mg base CX k fa fd [x] (sp (K w.params)))
    (hsp:∀ (K:PySem.W.Frag) (H:Hp) (a:Addr) (ns:List Int),ns.length≤n→Only H→SqL K H a (ns.map V.int)→sp K [.ref a] H (fun v _=>v=.bl true) fun _ _ _=>False)
    (hCX:∀ (H:Hp) (s:Shared) (e:Value) (s':Shared),CX [] H s (fun _ _ _=>False) e s'→False) :
    PySem.W.WalkO q loose XP YP l.row.toRowW d [] (fun f vs=>PySem.call f vs):=
  walk_of (K:=K) (CX:=fun _=>CX) (sp:=fun w=>sp (K w.params)) hn hn2 hdf hr hY F (fun w H a ns h1 h2 h3=>hsp (K w.params) H a ns h1 h2 h3) fun _ H s e s'=>hCX H s e s'
end L2
namespace L2
open PySem PySem.Spec PyProof.Rows
def defArgs (s:Stmt):Arguments:=match s with
  | .FunctionDef _ a _ _ _ _ _ _ _ _=>a
  | _=>{ posonlyargs:=[],args:=[],vararg:=none,kwonlyargs:=[],kw_defaults:=[],kwarg:=none,defaults:=[] }
def defBody (s:Stmt):List Stmt:=match s with
  | .FunctionDef _ _ b _ _ _ _ _ _ _=>b
  | _=>[]
def defScope (s:Stmt):Scope:=match s with
  | .FunctionDef _ _ _ _ _ _ sc _ _ _=>sc
  | _=>{ kind:=.function,names:=[],isGenerator:=false,isCoroutine:=false }
abbrev CX0:CXT:=fun _ _ _ _ _ _=>False
abbrev E0:XK:=fun _ _ _=>False
theorem pass0 {X:Cx}:Passes CX0 X E0:=fun _ _ _ _ _ _ _ h=>h.elim
structure Fun (K:PySem.W.Frag) (x qual:Str) (st:Stmt) (f:Addr) (fd:FuncData):Prop where
  ex:∃ (oc:Value) (od:Option Addr) (kV doc pm:Value) (an:Option Addr) (cdv ct:Value) (osl:Array (Option Value)),
    fd=PySem.W.fnOf x qual (defArgs st) (defBody st) (defScope st) .none kV doc pm an cdv ct∧K.lookup f=some ⟨oc,od,.func fd,osl⟩∧PySem.W.codeIn K cdv qual=true
  kp:PySem.W.keepIn K (.ref f)=true
section
variable {P:Program} {w:World} {K:PySem.W.Frag} {mg:Str→Option Value} {base:Heap}
theorem Fun.ok {x qual:Str} {st:Stmt} {f:Addr} {fd:FuncData} {N ps:List Str} {k:Nat} {sp:Sp} (F:Fun K x qual st f fd) (S:FnScope N ps (defScope st)) (len:∀ vs H Q E,sp vs H Q E→vs.length=ps.length)
    (hbody:∀ (cdv:Value) (A:Around) (outer:List Env) (s:Shared) (H:Hp) (vs:List V) (Q:VK) (E:XK),Room k (A.deeper (envOfC qual (defScope st) s.heap.objs.size f cdv))→sp vs H Q E →
      ∃ t,PSs (cxOf CX0 P w K mg base N qual (defScope st) f cdv A outer s H E).nox (defBody st) t∧t { nx:=fun _ H'=>Q .non H',rt:=Q } (start N vs) H):FnOk P w K mg base CX0 (k+1) f fd ps sp:=by
  obtain ⟨oc,od,kV,doc,pm,an,cdv,ct,osl,rfl,lk,hcd⟩:=F.ex
  refine fn_of lk hcd S len fun A outer s H vs Q E hr hsp=>?_
  obtain ⟨t,h,q⟩:=hbody cdv A outer s H vs Q E hr hsp
  exact ⟨t,h.nox,q⟩
theorem Fun.binds {x qual:Str} {st:Stmt} {f:Addr} {fd:FuncData} {ps:List Str} (F:Fun K x qual st f fd)
    (h:∀ (kV doc pm:Value) (an:Option Addr) (cdv ct:Value) (us:List Value),us.length=ps.length→bindArgs (PySem.W.fnOf x qual (defArgs st) (defBody st) (defScope st) .none kV doc pm an cdv ct) ⟨us,[]⟩=pure (ps.zip us)):Binds K fd ps []:=by
  obtain ⟨oc,od,kV,doc,pm,an,cdv,ct,osl,rfl,lk,hcd⟩:=F.ex
  exact .all (h kV doc pm an cdv ct)
theorem fun_mk {x qual:Str} {st:Stmt} {f:Addr} {oc:Value} {od an:Option Addr} {osl:Array (Option Value)} {kV doc pm cdv ct:Value} (l:K.lookup f=some ⟨oc,od,.func (PySem.W.fnOf x qual (defArgs st) (defBody st) (defScope st) .none kV doc pm an cdv ct),osl⟩)
    (c:PySem.W.codeIn K cdv qual=true) (k:PySem.W.keepIn K (.ref f)=true):Fun K x qual st f (PySem.W.fnOf x qual (defArgs st) (defBody st) (defScope st) .none kV doc pm an cdv ct):=⟨⟨oc,od,kV,doc,pm,an,cdv,ct,osl,rfl,l,c⟩,k⟩
end
theorem hu_of {A:Around} {k:Nat} (hr:Room k A):A.units+1 < cLine:=Nat.lt_of_le_of_lt (Nat.add_le_add_left (by decide:1≤64) _) hr.units
theorem small1000 {n:Nat} (h:n≤1000):n < sizeLine:=Nat.lt_of_le_of_lt h (by decide)
section
variable {X:Cx}
theorem pv (i:Nat) {x:Str} {pos:Pos} (hN:X.N[i]?=some x:=by rfl) (hv:Vis X.env.scope x:=by first | exact Or.inl rfl | exact Or.inr (Or.inl rfl) | exact Or.inr (Or.inr rfl)) (hd:(x == ("__debug__" : Str))=false:=by decide)
    (hcd:(x == ("__classdict__" : Str))=false:=by decide):PE X (.Name x pos) (tVar i):=pe_var hN hv hd hcd
end
theorem iteF {A B:Prop} (h:B):if false=true then A else B:=by
  rw [if_neg Bool.false_ne_true]
  exact h
theorem iteT {A B:Prop} (h:A):if true=true then A else B:=by
  rw [if_pos rfl]
  exact h
theorem ite2 {c A B:Prop} [Decidable c] (h1:c→A) (h2:¬ c→B):if c then A else B:=by
  by_cases h:c
  · rw [if_pos h]
    exact h1 h
  · rw [if_neg h]
    exact h2 h
def Same (H H':Hp):Prop:=∀ b o,H b=some o→H' b=some o
theorem Same.refl (H:Hp):Same H H:=fun _ _ h=>h
theorem Same.trans {H H1 H2:Hp} (a:Same H H1) (b:Same H1 H2):Same H H2:=fun c o h=>b c o (a c o h)
theorem Same.free {H H':Hp} (e:Same H H') {l:Addr} (h:H' l=Option.none):H l=Option.none:=by
  cases q:H l with
  | none=>rfl
  | some o=>
    rw [e l o q] at h
    cases h
theorem Same.seq {K:PySem.W.Frag} {H H':Hp} {a:Addr} {xs:List V} (e:Same H H') (h:SqL K H a xs):SqL K H' a xs:=by
  rcases h with (h | ⟨o,h⟩) | h
  · exact .inl (.inl (e _ _ h))
  · exact .inl (.inr ⟨o,e _ _ h⟩)
  · exact .inr h
end L2
set_option maxHeartbeats 16000000
namespace L2
open PySem PySem.Spec PyProof.Rows
theorem lookup_mem {α:Type}:∀ {cl:List (Str × α)} {x:Str} {c:α},cl.lookup x=some c→(x,c)∈cl
  | [],_,_,h=>by simp at h
  | (y,d) :: r,x,c,h=>by
    rw [List.lookup_cons] at h
    cases e:x == y with
    | true=>
      rw [e] at h
      have e':x=y:=eq_of_beq e
      cases h
      rw [e'];exact List.mem_cons_self
    | false=>
      rw [e] at h
      exact List.mem_cons_of_mem _ (lookup_mem h)
theorem lookup_of_mem {α:Type}:∀ {cl:List (Str × α)} {x:Str} {c:α},(x,c)∈cl→∃ c',cl.lookup x=some c'
  | [],_,_,h=>nomatch h
  | (y,d) :: r,x,c,h=>by
    rw [List.lookup_cons]
    cases e:x == y with
    | true=>exact ⟨d,rfl⟩
    | false=>
      rcases List.mem_cons.mp h with h | h
      · cases h
        simp at e
      · exact lookup_of_mem h
theorem closure_go {env:Env} {f:(Str × NameKind)→List (Str × Addr)→Sem (ForInStep (List (Str × Addr)))}
    (h1:∀ x k cs,k≠NameKind.free→f (x,k) cs=pure (.yield cs)) (h2:∀ x cs c,env.cells.lookup x=some c→f (x,NameKind.free) cs=pure (.yield ((x,c) :: cs))) :
    ∀ (names:List (Str × NameKind)) (acc:List (Str × Addr)),(∀ x,(x,NameKind.free)∈names→∃ c,env.cells.lookup x=some c) →
      ∃ cl,forIn names acc f=pure cl∧(∀ p∈cl,p∈acc∨env.cells.lookup p.1=some p.2)∧(∀ p∈acc,p∈cl)∧∀ x,(x,NameKind.free)∈names→∃ c,(x,c)∈cl
  | [],acc,_=>⟨acc,rfl,fun _ h=>.inl h,fun _ h=>h,fun _ h=>nomatch h⟩
  | (x,k) :: r,acc,h=>by
    by_cases hk:k=NameKind.free
    · subst hk
      obtain ⟨c,hc⟩:=h x List.mem_cons_self
      obtain ⟨cl,e,a,b,d⟩:=closure_go h1 h2 r ((x,c) :: acc) fun y hy=>h y (List.mem_cons_of_mem _ hy)
      refine ⟨cl,?_,fun p hp=>?_,fun p hp=>b p (List.mem_cons_of_mem _ hp),fun y hy=>?_⟩
      · rw [List.forIn_cons,h2 x acc c hc,pure_bind];exact e
      · rcases a p hp with q | q
        · rcases List.mem_cons.mp q with q | q
          · subst q;exact .inr hc
          · exact .inl q
        · exact .inr q
      · rcases List.mem_cons.mp hy with q | q
        · cases q;exact ⟨c,b _ List.mem_cons_self⟩
        · exact d y q
    · obtain ⟨cl,e,a,b,d⟩:=closure_go h1 h2 r acc fun y hy=>h y (List.mem_cons_of_mem _ hy)
      refine ⟨cl,?_,a,b,fun y hy=>?_⟩
      · rw [List.forIn_cons,h1 x k acc hk,pure_bind];exact e
      · rcases List.mem_cons.mp hy with q | q
        · cases q;exact absurd rfl hk
        · exact d y q
theorem closure_ok {scope:Scope} {env:Env} (h:∀ x,(x,NameKind.free)∈scope.names→∃ c,env.cells.lookup x=some c) :
    ∃ cl,closureFor scope env=pure cl∧(∀ x c,cl.lookup x=some c→env.cells.lookup x=some c)∧∀ x,(x,NameKind.free)∈scope.names→∃ c,cl.lookup x=some c:=by
  have go:=closure_go (env:=env) (f:=fun x cs=>match x with | (name,kind)=>if (kind == NameKind.free)=true then do let a ← cellOf env name;pure (.yield ((name,a) :: cs)) else pure (.yield cs))
    (fun x k cs hk=>by
      have:(k == NameKind.free)=false:=by simpa using hk
      simp only [this,Bool.false_eq_true,if_false])
    (fun x cs c hc=>by
      simp only [beq_self_eq_true,if_true]
      unfold cellOf
      rw [hc,pure_bind])
    scope.names [] h
  obtain ⟨cl,e,a,_,d⟩:=go
  refine ⟨cl,?_,fun x c hx=>?_,fun x hx=>?_⟩
  · unfold closureFor
    simp only [bind_pure]
    exact e
  · rcases a _ (lookup_mem hx) with q | q
    · exact nomatch q
    · exact q
  · obtain ⟨c,hc⟩:=d x hx
    exact lookup_of_mem hc
theorem relabel_lookup {env:Env} {x:Str} {k:NameKind}:∀ {names:List (Str × NameKind)},
    (names.map fun (n,k)=>if (k == NameKind.free && env.scope.kind == .function && env.kindOf n == some .cell) then (n,NameKind.cell) else (n,k)).lookup x=some k →
      names.lookup x=some k∨(k=.cell∧names.lookup x=some .free)
  | [],h=>by simp at h
  | (n,j) :: r,h=>by
    have ih:=@relabel_lookup env x k r
    rw [List.lookup_cons]
    change List.lookup x ((if (j == NameKind.free && env.scope.kind == .function && env.kindOf n == some .cell)=true then (n,NameKind.cell) else (n,j)) :: _)=_ at h
    by_cases hc:(j == NameKind.free && env.scope.kind == .function && env.kindOf n == some .cell)=true
    · rw [if_pos hc,List.lookup_cons] at h
      have hj:j=NameKind.free:=by
        simp only [Bool.and_eq_true] at hc
        exact eq_of_beq hc.1.1
      cases hx:x == n with
      | true=>rw [hx] at h;cases h;exact .inr ⟨rfl,by rw [hj]⟩
      | false=>rw [hx] at h;exact ih h
    · rw [if_neg hc,List.lookup_cons] at h
      cases hx:x == n with
      | true=>rw [hx] at h;exact .inl h
      | false=>rw [hx] at h;exact ih h
def cxComp (X:Cx) (scope:Scope) (NL:List Str) (ix:List Nat) (cl:List (Str × Addr)) (C:Addr) (s₃:Shared) (H₃:Hp) (fp:List Addr) (pins:List (Addr × Obj)):Cx where
  prog:=X.prog
  w:=X.w
  K:=X.K
  mg:=X.mg
  base:=X.base
  A:=X.A
  N:=NL++ix.map fun j=>X.N.getD j ""
  s₀:=s₃
  H₀:=H₃
  env:=compEnvC scope cl C X.env
  outer:=X.stack
  stack:=X.stack
  ex:=fp
  fn:=fun _=>false
  calm:=X.calm
  pn:=X.pn++pins
  xe:=fun _ _=>False
def comp0 (NL:List Str) (ix:List Nat) (σ:St):St:=NL.map (fun _=>none)++ix.map fun j=>σ.getD j none
def PIfs (X:Cx) (ifs:List Expr) (t:TT):Prop:=
  ∀ (pins:List (Addr × Obj)) (s:Shared) (σ:St) (H:Hp) (Q:Bool→Hp→Prop),Inv X pins σ H s→t σ H Q →
    wpAny (model X.prog X.w) X.A (forIn ifs true fun c r=>if r=true then do let ok ← isTrue c X.env (eval c X.env);pure (ForInStep.yield ok) else pure (ForInStep.yield r)) (TP X pins σ Q) X.xe s
def tYes:TT:=fun _ H Q=>Q true H
theorem pifs_nil {X:Cx}:PIfs X [] tYes:=fun _ _ _ H _ I h=>wpAny_tests_nil ⟨H,I,h⟩
theorem pifs_one {X:Cx} {c:Expr} {t:TT} (h:PT X c t):PIfs X [c] t:=fun pins s σ H Q I q=>wpAny_tests_one (h pins s σ H Q I q)
def tComp (NL:List Str) (ix:List Nat) (wi:TI) (g:TG) (tt:TT) (te:TE):TE:=fun σ H Q=>
  wi σ H fun J H1=>∀ acc,H1 acc=none→∃ W:Nat→Nat→List V→Hp→Prop,(∃ m,W 0 m [] (upd H1 acc (.lst []))) ∧
    ∀ i m ys H2,W i m ys H2→H2 acc=some (.lst ys)∧ys.length < sizeLine ∧
      ((J.stop i H2∧Q (.ref acc) H2)∨(J.go i H2∧∃ N:List V→Hp→Prop,(∀ ys' H',N ys' H'→∃ m',m' < m∧W (i+1) m' ys' H') ∧
        ∀ x H3,J.yld i H2 x H3→g x (comp0 NL ix σ) H3 fun σ' H4=>σ'.drop NL.length=ix.map (fun j=>σ.getD j none)∧tt σ' H4 fun b H5=>
          if b=true then te σ' H5 fun v H6=>H6 acc=some (.lst ys)∧N (ys++[v]) (upd H6 acc (.lst (ys++[v]))) else N ys H5))
section
variable {X:Cx} {pins:List (Addr × Obj)} {σ:St} {H:Hp} {s:Shared}
structure CompScope (X:Cx) (scope:Scope) (NL:List Str) (ix:List Nat):Prop where
  kind:scope.kind=.function
  cell:∀ y∈scope.names,y.2≠.cell
  names:∀ y∈scope.names,y.2=.local→scope.names.lookup y.1=some .local
  free:∀ y∈scope.names,y.2=.free→X.env.kindOf y.1=some .cell∨X.env.kindOf y.1=some .free
  cap:∀ j∈ix,∃ x,X.N[j]?=some x∧scope.names.lookup x=some .free
theorem comp_inv {scope:Scope} {NL:List Str} {ix:List Nat} {cl:List (Str × Addr)} {fp:List Addr} {tn:Nat→Heap→Prop} {s₃:Shared} {h₁:Heap} {m:Str→Option Value} {tk:Nat}
    (S:CompScope X scope NL ix) (I:Inv X pins σ H s₃) (c1:∀ x c,cl.lookup x=some c→X.env.cells.lookup x=some c) (c2:∀ x,(x,NameKind.free)∈scope.names→∃ c,cl.lookup x=some c)
    (hf:∀ b∈fp,FpOk X pins H b) (ho:∀ b∈fp,∃ o,s₃.heap.get? b=some o) (hn:h₁.Ns s₃.heap.objs.size m) (old:∀ b o,s₃.heap.get? b=some o→h₁.get? b=some o) :
    Inv (cxComp X scope NL ix cl s₃.heap.objs.size s₃ H fp pins) [] (comp0 NL ix σ) H { s₃ with heap:=h₁,toks:=tk }:=by
  have e0:=I.env0
  have lt:∀ b o,s₃.heap.get? b=some o→b≠s₃.heap.objs.size:=fun b o e=>Nat.ne_of_lt (Heap.lt_size e)
  have nst:∀ b,b≠X.env.locals→b ∉ X.fs→b ∉ frs X.stack:=fun b h1 h2 h3=>(List.mem_cons.mp (I.stkSub b h3)).elim h1 h2
  have ok:(cxComp X scope NL ix cl s₃.heap.objs.size s₃ H fp pins).Ok:=
    { mod:=I.ok.mod
      kind:=S.kind
      glob:=I.ok.glob
      blt:=I.ok.blt
      above:=Nat.le_refl _
      inj:=fun x y c h1 h2=>I.ok.inj x y c (c1 x c h1) (c1 y c h2)
      has:=fun x hx=>by
        have hfree:scope.names.lookup x=some .free:=by
          rcases hx with hx | hx
          · rcases relabel_lookup hx with q | ⟨_,q⟩
            · exact absurd rfl (S.cell _ (lookup_mem q))
            · exact q
          · rcases relabel_lookup hx with q | ⟨z,_⟩
            · exact q
            · cases z
        exact c2 x (lookup_mem hfree)
      cab:=fun _ _ z=>nomatch z
      hd:=I.ok.hd
      frames:=I.ok.frames
      stk:=.inl rfl
      exf:=fun b hb=>⟨let ⟨o,e⟩:=ho b hb;lt b o e,fun x c hx=>(hf b hb).2.2.2.2.1 x c (c1 x c hx)⟩
      bs:=I.bs
      bsz:=e0.bsz
      noex:=fun b o e hb=>by
        rcases (hf b hb).2.2.2.1 with z | z
        · exact I.ok.noex b o e z
        · exact absurd (Nat.lt_of_lt_of_le (Heap.lt_size e) (Nat.le_trans I.ok.bsz z)) (Nat.lt_irrefl _)
      exfs:=fun b hb=>nst b (hf b hb).2.1 (hf b hb).2.2.1
      funs:=e0.funs
      frf:=e0.frf }
  refine ⟨ok,rfl,I.bare,Un.kept old,⟨m,hn,fun i x v e1 e2 e3=>?_⟩,fun x c e=>?_,I.hok.fresh (Nat.le_refl _),fun x c e=>I.freeC x c (c1 x c e),fun p hp=>?_,I.hok.kept old,?_⟩
  · have hl:NL.length≤i:=by
      rcases Nat.lt_or_ge i NL.length with z | z
      · exfalso
        unfold comp0 at e2
        rw [List.getElem?_append_left (by simpa using z),List.getElem?_map] at e2
        cases q:NL[i]? with
        | none=>rw [q] at e2;cases e2
        | some y=>rw [q] at e2;cases e2
      · exact z
    unfold comp0 at e2
    rw [List.getElem?_append_right (by simpa using hl),List.length_map,List.getElem?_map] at e2
    change (NL++ix.map fun j=>X.N.getD j "")[i]?=some x at e1
    rw [List.getElem?_append_right hl,List.getElem?_map] at e1
    cases q:ix[i - NL.length]? with
    | none=>rw [q] at e1;cases e1
    | some j=>
      rw [q] at e1 e2
      have e1':X.N.getD j "" = x:=Option.some.inj e1
      have e2':σ.getD j none=some v:=Option.some.inj e2
      obtain ⟨x',hx',hfr⟩:=S.cap j (List.mem_of_getElem? q)
      have exx:x'=x:=by
        rw [← e1',List.getD_eq_getElem?_getD,hx'];rfl
      subst exx
      have hσ:σ[j]?=some (some v):=by
        rw [List.getD_eq_getElem?_getD] at e2'
        cases z:σ[j]? with
        | none=>rw [z] at e2';cases e2'
        | some o=>rw [z] at e2';exact congrArg some e2'
      have kd:=S.free _ (lookup_mem hfr) rfl
      have vis:Vis X.env.scope x':=by
        rcases kd with z | z
        · exact .inr (.inl z)
        · exact .inr (.inr z)
      obtain ⟨m',hn',hl'⟩:=I.loc
      obtain ⟨u,r,l⟩:=hl' j x' v hx' hσ vis
      refine ⟨u,r,.inr ?_⟩
      have hk':(compEnvC scope cl s₃.heap.objs.size X.env).kindOf x'=some .cell∨(compEnvC scope cl s₃.heap.objs.size X.env).kindOf x'=some .free:=by
        rcases e3 with z | z | z
        · rcases relabel_lookup z with w | ⟨w,_⟩
          · rw [hfr] at w;cases w
          · cases w
        · exact .inl z
        · exact .inr z
      refine ⟨hk',?_⟩
      obtain ⟨c,hc⟩:=c2 x' (lookup_mem hfr)
      rcases l with ⟨k,_⟩ | ⟨k,c',ec,o,ho',hd⟩
      · rcases kd with z | z
        · rw [k] at z;cases z
        · rw [k] at z;cases z
      · have:c'=c:=by
          have:=c1 x' c hc
          rw [ec] at this
          exact Option.some.inj this
        subst this
        exact ⟨c',hc,o,old _ _ ho',hd⟩
  · obtain ⟨v,o,ho',hd⟩:=I.cell x c (c1 x c e)
    exact ⟨v,o,old _ _ ho',hd⟩
  · have hp':p∈X.pn++pins:=by
      rcases List.mem_append.mp hp with z | z
      · exact z
      · exact nomatch z
    obtain ⟨e,n,ne,nf,d⟩:=I.pin p hp'
    exact ⟨old _ _ e,n,lt _ _ e,nst _ ne nf,d⟩
  · show (NL.map (fun _=>(none:Option V))++ix.map fun j=>σ.getD j none).length=(NL++ix.map fun j=>X.N.getD j "").length
    simp
theorem comp_run {scope:Scope} {NL:List Str} {ix:List Nat} {elt tg iter:Expr} {ifs:List Expr} {pos:Pos} {g:TG} {tt:TT} {te:TE} {cl:List (Str × Addr)} {fp:List Addr} {it:Addr} {tn:Nat→Heap→Prop} {J:It} {Q:VK}
    {E:Value→Shared→Prop} {RR:Value→Addr→Result→Shared→Prop}
    (hc:X.calm=true) (S:CompScope X scope NL ix) (c1:∀ x c,cl.lookup x=some c→X.env.cells.lookup x=some c) (c2:∀ x,(x,NameKind.free)∈scope.names→∃ c,cl.lookup x=some c)
    (hb:∀ (cl:List (Str × Addr)) (C:Addr) (s₃:Shared) (H₃:Hp) (fp:List Addr) (pins:List (Addr × Obj)),PG (cxComp X scope NL ix cl C s₃ H₃ fp pins) tg g∧PIfs (cxComp X scope NL ix cl C s₃ H₃ fp pins) ifs tt∧PE (cxComp X scope NL ix cl C s₃ H₃ fp pins) elt te)
    (I:Inv X pins σ H s) (T:Turn X.prog X.w X.K tg J fp it tn) (st:tn 0 s.heap) (hf:∀ b∈fp,FpOk X pins H b)
    (q:∀ acc,H acc=none→∃ W:Nat→Nat→List V→Hp→Prop,(∃ m,W 0 m [] (upd H acc (.lst []))) ∧
      ∀ i m ys H2,W i m ys H2→H2 acc=some (.lst ys)∧ys.length < sizeLine ∧
      ((J.stop i H2∧Q (.ref acc) H2)∨(J.go i H2∧∃ N:List V→Hp→Prop,(∀ ys' H',N ys' H'→∃ m',m' < m∧W (i+1) m' ys' H') ∧
        ∀ x H3,J.yld i H2 x H3→g x (comp0 NL ix σ) H3 fun σ' H4=>σ'.drop NL.length=ix.map (fun j=>σ.getD j none)∧tt σ' H4 fun b H5=>
          if b=true then te σ' H5 fun v H6=>H6 acc=some (.lst ys)∧N (ys++[v]) (upd H6 acc (.lst (ys++[v]))) else N ys H5)))
    (hRR:∀ (acc C:Addr) (H':Hp) (s':Shared) (m':Str→Option Value),Inv X pins σ H' s'→s'.heap.Ns C m'→FpOk X pins H' C→Q (.ref acc) H'→RR (.ref acc) C (.ok .next) s') :
    wpAny (model X.prog X.w) X.A (newList []) (fun acc s₃=>wpAny (model X.prog X.w) X.A (newFunctionEnv scope X.env.globals cl [] X.env.qual none .none (some X.env)) (fun cenv s₄=>
      codeAny (model X.prog X.w) X.A (.compStart (.ListComp elt [⟨tg,iter,ifs,0⟩] scope pos) 0 (.ref it) acc { cenv with scope:=relabel scope X.env }) (RR acc cenv.locals) s₄) E s₃) E s:=by
  refine wpAny_newObj_type (wpAny_newFunctionEnv S.cell (by intro y hy;simp at hy) (fun h₁ hns₁ hsb₁=>?_) S.kind)
  have I3:Inv X pins σ (upd H s.heap.objs.size (.lst [])) { s with heap:=s.heap.push { cls:=.type "list", data:=.seq ([]:List Value).toArray },toks:=s.toks }:=I.lnew (its:=[]) .nil (Nat.zero_le _)
  have hfr:H s.heap.objs.size=none:=I.hok.fresh (Nat.le_refl _)
  generalize hs3:({ s with heap:=s.heap.push { cls:=.type "list", data:=.seq ([]:List Value).toArray },toks:=s.toks }:Shared)=s₃ at I3
  have hsz:s₃.heap.objs.size=s.heap.objs.size+1:=by rw [← hs3];exact Heap.size_push ..
  have old1:∀ b o,s.heap.get? b=some o→s₃.heap.get? b=some o:=fun b o e=>by rw [← hs3];exact Heap.get?_push_of_some _ e
  have key:codeAny (model X.prog X.w) X.A (.compStart (.ListComp elt [⟨tg,iter,ifs,0⟩] scope pos) 0 (.ref it) (.ref s.heap.objs.size) (compEnvC scope cl s₃.heap.objs.size X.env))
      (RR (.ref s.heap.objs.size) s₃.heap.objs.size) { s₃ with heap:=h₁,toks:=s₃.toks+0 }:=by
    have hns:h₁.Ns s₃.heap.objs.size (fun _=>none):=by
      have:=hns₁
      rw [← hs3]
      exact this
    have hsb:Heap.SameBut s₃.heap.objs.size (s₃.heap.push { cls:=.type "dict", data:=.dict #[] }) h₁:=by
      have:=hsb₁
      rw [← hs3]
      exact this
    have old:∀ b o,s₃.heap.get? b=some o→h₁.get? b=some o:=fun b o e=>hsb.extBut b o (Nat.ne_of_lt (Heap.lt_size e)) (Heap.get?_push_of_some _ e)
    have hf3:∀ b∈fp,FpOk X pins (upd H s.heap.objs.size (.lst [])) b:=fun b hb'=>by
      obtain ⟨o,e,_⟩:=T.obj 0 _ st b hb'
      have ne:b≠s.heap.objs.size:=Nat.ne_of_lt (Heap.lt_size e)
      exact ⟨by rw [upd_ne ne];exact (hf b hb').1,(hf b hb').2⟩
    have ho3:∀ b∈fp,∃ o,s₃.heap.get? b=some o:=fun b hb'=>by
      obtain ⟨o,e,_⟩:=T.obj 0 _ st b hb'
      exact ⟨o,old1 b o e⟩
    have st1:tn 0 h₁:=T.keep 0 _ _ st fun b hb' o e=>old b o (old1 b o e)
    have I4:=comp_inv (tn:=tn) (tk:=s₃.toks+0) S I3 c1 c2 hf3 ho3 hns old
    obtain ⟨W,⟨m0,w0⟩,turn⟩:=q s.heap.objs.size hfr
    obtain ⟨hg,ht,he⟩:=hb cl s₃.heap.objs.size s₃ (upd H s.heap.objs.size (.lst [])) fp pins
    generalize hX':cxComp X scope NL ix cl s₃.heap.objs.size s₃ (upd H s.heap.objs.size (.lst [])) fp pins=X' at I4 hg ht he
    have p1:X'.prog=X.prog:=by rw [← hX'];rfl
    have p2:X'.w=X.w:=by rw [← hX'];rfl
    have p3:X'.K=X.K:=by rw [← hX'];rfl
    have p4:X'.A=X.A:=by rw [← hX'];rfl
    have p5:X'.env=compEnvC scope cl s₃.heap.objs.size X.env:=by rw [← hX'];rfl
    have p6:X'.calm=true:=by rw [← hX'];exact hc
    have p7:X'.xe=fun _ _=>False:=by rw [← hX'];rfl
    have stat:∀ {H':Hp},(∀ b∈fp,H' b=none)→∀ b∈fp,FpOk X' [] H' b:=fun {H'} hn b hb'=>by
      have z:=hf3 b hb'
      obtain ⟨o,eo⟩:=ho3 b hb'
      rw [← hX']
      refine ⟨hn b hb',Nat.ne_of_lt (Heap.lt_size eo),fun q=>(List.mem_cons.mp (I3.stkSub b q)).elim z.2.1 z.2.2.1,.inl hb',fun x c hx=>z.2.2.2.2.1 x c (c1 x c hx),fun p hp=>?_⟩
      rcases List.mem_append.mp hp with w | w
      · exact z.2.2.2.2.2 p w
      · exact nomatch w
    have fin:∀ i n ys H' s',Inv X' [] (comp0 NL ix σ) H' s'→W i n ys H'→Q (.ref s.heap.objs.size) H'→RR (.ref s.heap.objs.size) s₃.heap.objs.size (.ok .next) s':=fun i n ys H' s' I' w' q'=>by
      obtain ⟨m',hn',_⟩:=I'.loc
      have hos:s'.os=s₃.os:=by have:=I'.os;rw [← hX'] at this;exact this
      have hu:Un (frs X.stack) fp (upd H s.heap.objs.size (.lst [])) H' s₃.heap s'.heap:=by have:=I'.base;rw [← hX'] at this;exact this
      have hk:HOk X.prog X.w H' s'.heap:=by have:=I'.hok;rw [← hX'] at this;exact this
      have hfC:H' s₃.heap.objs.size=none:=by have:=I'.free;rw [← hX'] at this;exact this
      have hnC:s'.heap.Ns s₃.heap.objs.size m':=by rw [p5] at hn';exact hn'
      exact hRR _ _ H' s' m' (I3.call' hos hu hk I'.bare fun b hb'=>⟨(hf3 b hb').2.2.2.1,(hf3 b hb').2.1,(hf3 b hb').2.2.2.2.1,(hf3 b hb').2.2.2.2.2⟩) hnC (I3.fpOk (Nat.le_refl _) hfC) q'
    have loop:∀ s₄:Shared,Inv X' [] (comp0 NL ix σ) (upd H s.heap.objs.size (.lst [])) s₄→tn 0 s₄.heap→codeAny (model X.prog X.w) X.A (.compLoop (.ListComp elt [⟨tg,iter,ifs,0⟩] scope pos) 0 (.ref it) (.ref s.heap.objs.size) (compEnvC scope cl s₃.heap.objs.size X.env))
        (RR (.ref s.heap.objs.size) s₃.heap.objs.size) s₄:=fun s₄ I4 st1=>by
      refine codeAny_loop rfl (fun n s'=>∃ i ys H',Inv X' [] (comp0 NL ix σ) H' s'∧tn i s'.heap∧(∀ b∈fp,H' b=none)∧W i n ys H') (fun n s' hI=>?_) m0 ⟨0,[],_,I4,st1,fun b hb'=>(hf3 b hb').1,w0⟩
      obtain ⟨i,ys,H',I',st',fr',w'⟩:=hI
      show wpAny _ X.A ((compTurn (.ListComp elt [⟨tg,iter,ifs,0⟩] scope pos) 0 (.ref it) (.ref s.heap.objs.size) (compEnvC scope cl s₃.heap.objs.size X.env)).onRaise (fun x=>do noteFrame x (compEnvC scope cl s₃.heap.objs.size X.env);theTreesLotGoes x)) _ _ s'
      refine wpAny_noted ?_
      rw [compTurn_list]
      obtain ⟨hacc,hz8,alt⟩:=turn i n ys H' w'
      rcases alt with ⟨stop,qn⟩ | ⟨go,N,hN,step⟩
      · have d:=T.done X' p1 p2 p3 p6 i [] s' (comp0 NL ix σ) H' (notedBy (model X.prog X.w) X.A (compEnvC scope cl s₃.heap.objs.size X.env) fun e s'=>RR (.ref s.heap.objs.size) s₃.heap.objs.size (.error e) s') I' (stat fr') st' stop
        rw [p4] at d
        refine wpAny_bind (wpAny_standAt (wpAny_bind (thn d fun r s1 ⟨hr,I1⟩=>?_)))
        subst hr
        exact wpAny_pure (fin i n ys H' s1 I1 w' qn)
      · have d:=T.item X' p1 p2 p3 p6 i [] s' (comp0 NL ix σ) H' (notedBy (model X.prog X.w) X.A (compEnvC scope cl s₃.heap.objs.size X.env) fun e s'=>RR (.ref s.heap.objs.size) s₃.heap.objs.size (.error e) s') I' (stat fr') st' go
        rw [p4] at d
        refine wpAny_bind (wpAny_standAt (wpAny_bind (thn d fun r s1 ⟨u,hr,h4⟩=>?_)))
        subst hr
        refine wpAny_bind (thn h4 fun _ s5 ⟨x,H5,I5,r5,y5,st5,fr5⟩=>?_)
        have I5':=I5.pinned (stat fr5) (T.obj _ _ st5)
        have nofail:∀ {α:Type} {t:Sem α} {R:α→Shared→Prop} {sx:Shared},wpAny (model X'.prog X'.w) X'.A t R X'.xe sx→wpAny (model X.prog X.w) X.A t R (notedBy (model X.prog X.w) X.A (compEnvC scope cl s₃.heap.objs.size X.env) fun e s'=>RR (.ref s.heap.objs.size) s₃.heap.objs.size (.error e) s') sx:=fun {α t R sx} hh=>by
          rw [p1,p2,p4,p7] at hh
          exact wpAny_mono hh (fun _ _ z=>z) fun _ _ z=>z.elim
        have again:∀ {σ7:St} {H7:Hp} {s7:Shared} {ys':List V},σ7.drop NL.length=ix.map (fun j=>σ.getD j none)→Inv X' ([]++pinsAt fp s5.heap) σ7 H7 s7→(∃ m',m' < n∧W (i+1) m' ys' H7)→∃ m,m < n∧∃ i ys H',Inv X' [] (comp0 NL ix σ) H' s7∧tn i s7.heap∧(∀ b∈fp,H' b=none)∧W i m ys H':=fun {σ7 H7 s7 ys'} hσ I7 n7=>by
          obtain ⟨m',hm,w7⟩:=n7
          have Iw:Inv X' ([]++pinsAt fp s5.heap) (comp0 NL ix σ) H7 s7:=I7.weak (by rw [I7.len,I'.len]) fun j v hj=>by
            have hlj:NL.length≤j:=by
              rcases Nat.lt_or_ge j NL.length with z | z
              · exfalso
                unfold comp0 at hj
                rw [List.getElem?_append_left (by simpa using z),List.getElem?_map] at hj
                cases q:NL[j]? with
                | none=>rw [q] at hj;cases hj
                | some y=>rw [q] at hj;cases hj
              · exact z
            unfold comp0 at hj
            rw [List.getElem?_append_right (by simpa using hlj),List.length_map,← hσ,List.getElem?_drop] at hj
            rw [← hj]
            congr 1
            omega
          refine ⟨m',hm,i+1,ys',H7,Iw.unpinned,T.keep _ _ _ st5 fun b hb' o e=>(I7.pin (b,o) (List.mem_append_right _ (List.mem_append_right _ (mem_pinsAt hb' e)))).1,fun b hb'=>?_,w7⟩
          obtain ⟨o,e,d⟩:=T.obj _ _ st5 b hb'
          exact (I7.pin (b,o) (List.mem_append_right _ (List.mem_append_right _ (mem_pinsAt hb' e)))).2.1
        have hg':=nofail (hg _ s5 (comp0 NL ix σ) H5 x u _ I5' r5 (step x H5 y5))
        rw [p5] at hg'
        refine wpAny_bind (thn hg' fun _ s6 ⟨σ6,H6,I6,hσ6,q6⟩=>?_)
        have ht':=nofail (ht _ s6 σ6 H6 _ I6 q6)
        rw [p5] at ht'
        refine wpAny_bind (thn ht' fun ok s7 ⟨H7,I7,q7⟩=>?_)
        cases ok with
        | false=>
          have q7':N ys H7:=by simpa using q7
          exact wpAny_pure ⟨rfl,again hσ6 I7 (hN _ _ q7')⟩
        | true=>
          have q7':=(if_pos rfl).mp q7
          have he':=nofail (he _ s7 σ6 H7 _ I7 q7')
          rw [p5] at he'
          refine wpAny_bind (wpAny_bind (thn he' fun v s8 ⟨y,H8,I8,r8,ha8,q8⟩=>?_))
          have ap:=nofail (mt_append _ s8 σ6 H8 (.ref s.heap.objs.size) [y] (.ref s.heap.objs.size) [v] (fun _ H9=>H9=upd H8 s.heap.objs.size (.lst (ys++[y]))) I8 rfl (.cons r8 .nil) ⟨_,ys,y,rfl,rfl,ha8,hz8,rfl⟩)
          refine wpAny_bind (thn ap fun _ s9 ⟨z,H9,I9,r9,e9⟩=>wpAny_pure (wpAny_pure ⟨rfl,?_⟩))
          subst e9
          exact again hσ6 I9 (hN _ _ q8)
    exact codeAny_compStart_list (loop _ I4 st1) (T.self X.A 0 _ _ _ st1 (loop _ I4 st1))
  exact key
theorem pe_comp {scope:Scope} {NL:List Str} {ix:List Nat} {elt tg iter:Expr} {ifs:List Expr} {pos:Pos} {wi:TI} {g:TG} {tt:TT} {te:TE}
    (hc:X.calm=true) (hi:PI X tg iter wi) (S:CompScope X scope NL ix)
    (hb:∀ (cl:List (Str × Addr)) (C:Addr) (s₃:Shared) (H₃:Hp) (fp:List Addr) (pins:List (Addr × Obj)),PG (cxComp X scope NL ix cl C s₃ H₃ fp pins) tg g∧PIfs (cxComp X scope NL ix cl C s₃ H₃ fp pins) ifs tt∧PE (cxComp X scope NL ix cl C s₃ H₃ fp pins) elt te)
    (hs:∀ x,foldedSetIterable iter X.env x=pure x:=by intro _;rfl):PE X (.ListComp elt [⟨tg,iter,ifs,0⟩] scope pos) (tComp NL ix wi g tt te):=by
  intro pins s σ H Q I h
  obtain ⟨cl,hcl,c1,c2⟩:=closure_ok (scope:=scope) (env:=X.env) fun x hx=>by
    rcases S.free _ hx rfl with z | z
    · exact I.ok.has x (.inl z)
    · exact I.ok.has x (.inr z)
  rw [eval_ListComp]
  refine wpAny_comprehension_free (use:=none) rfl hs hcl S.kind S.names (thn (hi pins s σ H _ I h) fun xv s1 h1=>thn h1 fun itv s2 h2=>?_)
  obtain ⟨it,fp,tn,J,H2,rfl,I2,T,st2,f2,q⟩:=h2
  refine comp_run (RR:=fun acc C=>compPost (model X.prog X.w) X.A X.xe none (EP X pins σ Q) acc C) hc S c1 c2 hb I2 T st2 f2 q ?_
  intro acc C H' s' m' I' hn fC q'
  refine ⟨m',hn,fun h' sb=>⟨.ref acc,H',?_,rfl,q'⟩⟩
  exact I'.turned (t':=s'.toks) (fun b o hb e=>sb.extBut b o hb e) fC.1 fC.2.1 fC.2.2.2.1 fC.2.2.2.2.1 fC.2.2.2.2.2
theorem ps_comp {i:Nat} {y:Str} {py spos:Pos} {scope:Scope} {NL:List Str} {ix:List Nat} {elt tg iter:Expr} {ifs:List Expr} {pos:Pos} {wi:TI} {g:TG} {tt:TT} {te:TE}
    (hN:X.N.Nodup) (hiy:X.N[i]?=some y) (hy:Loc X.env.scope y)
    (hc:X.calm=true) (hi:PI X tg iter wi) (S:CompScope X scope NL ix)
    (hb:∀ (cl:List (Str × Addr)) (C:Addr) (s₃:Shared) (H₃:Hp) (fp:List Addr) (pins:List (Addr × Obj)),PG (cxComp X scope NL ix cl C s₃ H₃ fp pins) tg g∧PIfs (cxComp X scope NL ix cl C s₃ H₃ fp pins) ifs tt∧PE (cxComp X scope NL ix cl C s₃ H₃ fp pins) elt te)
    (hsw:swapsWith (.ListComp elt [⟨tg,iter,ifs,0⟩] scope pos) (some (.Name y py)) spos.line X.env=pure true:=by rfl)
    (hs:∀ x,foldedSetIterable iter X.env x=pure x:=by intro _;rfl)
    (hf:X.fn y=true∨X.env.scope.names.lookup y=some .local:=by first | exact .inl rfl | exact .inr rfl | assumption) :
    PS X (.Assign [.Name y py] (.ListComp elt [⟨tg,iter,ifs,0⟩] scope pos) spos) (tAsg (tComp NL ix wi g tt te) (gName i)):=by
  intro pins s σ H D I h
  obtain ⟨cl,hcl,c1,c2⟩:=closure_ok (scope:=scope) (env:=X.env) fun x hx=>by
    rcases S.free _ hx rfl with z | z
    · exact I.ok.has x (.inl z)
    · exact I.ok.has x (.inr z)
  rw [exec_Assign_Name_used _ _ _ _ hsw]
  refine wpAny_bind (wpAny_standAt (wpAny_bind ?_))
  show wpAny _ X.A (do let _ ← comprehension (.ListComp elt [⟨tg,iter,ifs,0⟩] scope pos) scope X.env _ (newList []) false (eval iter X.env) (some (assign (.Name y py) X.env))) _ _ s
  refine wpAny_bind (thn (wpAny_comprehension_free (use:=some (assign (.Name y py) X.env)) (Q:=fun _ s'=>SP X pins D .next s') rfl hs hcl S.kind S.names
    (thn (hi pins s σ H _ I h) fun xv s1 h1=>thn h1 fun itv s2 h2=>?_)) fun _ s' hq=>wpAny_pure (wpAny_pure hq))
  obtain ⟨it,fp,tn,J,H2,rfl,I2,T,st2,f2,q⟩:=h2
  refine comp_run (RR:=fun acc C=>compPost (model X.prog X.w) X.A X.xe (some (assign (.Name y py) X.env)) (fun _ s'=>SP X pins D .next s') acc C) (Q:=fun x H1=>gName i x σ H1 D.nx) hc S c1 c2 hb I2 T st2 f2 q ?_
  intro acc C H' s' m' I' hn fC q'
  show wpAny _ X.A (assign (.Name y py) X.env (.ref acc)) _ _ _
  refine wpAny_assign_Name (store_ok2 I' hN hiy hy (v:=.ref acc) rfl (fun s'' I'' hsb=>?_) hf)
  obtain ⟨a,sb,ha⟩:=hsb
  have hne:C≠a:=by
    rcases ha with z | z
    · rw [z];exact fC.2.1
    · exact fun w=>fC.2.2.2.2.1 y a z w.symm
  refine ⟨m',hn.sameBut sb hne,fun h' sb'=>⟨_,H',?_,q'⟩⟩
  exact I''.turned (t':=s''.toks) (fun b o hb e=>sb'.extBut b o hb e) fC.1 fC.2.1 fC.2.2.2.1 fC.2.2.2.2.1 fC.2.2.2.2.2
theorem comp_by {J:It} {NL:List Str} {ix:List Nat} {g:TG} {tt:TT} {te:TE} {σ:St} {H1:Hp} {Qs:Hp→Prop} {acc:Addr} (n:Nat) (hn:n < 1000) (Pv:Nat→List V→Hp→Prop)
    (hacc:∀ i ys H2,Pv i ys H2→H2 acc=some (.lst ys)∧ys.length≤i) (h0:Pv 0 [] (upd H1 acc (.lst []))) (hstop:∀ ys H2,Pv n ys H2→J.stop n H2∧Qs H2)
    (hturn:∀ i ys H2,i < n→Pv i ys H2→J.go i H2∧∀ x H3,J.yld i H2 x H3→g x (comp0 NL ix σ) H3 fun σ' H4=>σ'.drop NL.length=ix.map (fun j=>σ.getD j none)∧tt σ' H4 fun b H5=>
      if b=true then te σ' H5 fun v H6=>H6 acc=some (.lst ys)∧Pv (i+1) (ys++[v]) (upd H6 acc (.lst (ys++[v]))) else Pv (i+1) ys H5) :
    ∃ W:Nat→Nat→List V→Hp→Prop,(∃ m,W 0 m [] (upd H1 acc (.lst []))) ∧
    ∀ i m ys H2,W i m ys H2→H2 acc=some (.lst ys)∧ys.length < sizeLine ∧
      ((J.stop i H2∧Qs H2)∨(J.go i H2∧∃ N:List V→Hp→Prop,(∀ ys' H',N ys' H'→∃ m',m' < m∧W (i+1) m' ys' H') ∧
        ∀ x H3,J.yld i H2 x H3→g x (comp0 NL ix σ) H3 fun σ' H4=>σ'.drop NL.length=ix.map (fun j=>σ.getD j none)∧tt σ' H4 fun b H5=>
          if b=true then te σ' H5 fun v H6=>H6 acc=some (.lst ys)∧N (ys++[v]) (upd H6 acc (.lst (ys++[v]))) else N ys H5)):=by
  refine ⟨fun i m ys H2=>i≤n∧m=n - i∧Pv i ys H2,⟨n,Nat.zero_le _,rfl,h0⟩,fun i m ys H2 ⟨hi,hm,hp⟩=>?_⟩
  obtain ⟨a1,a2⟩:=hacc i ys H2 hp
  refine ⟨a1,small1000 (by omega),?_⟩
  rcases Nat.lt_or_ge i n with lt | ge
  · obtain ⟨go,tn⟩:=hturn i ys H2 lt hp
    exact .inr ⟨go,Pv (i+1),fun ys' H' hN=>⟨n - (i+1),by omega,by omega,rfl,hN⟩,tn⟩
  · have e:i=n:=by omega
    subst e
    exact .inl (hstop ys H2 hp)
end
end L2
namespace L2
open PySem PySem.Spec PyProof.Rows
section
variable {prog:Program} {w:World} {A:Around} {E:Value→Shared→Prop} {s:Shared}
theorem nextOf_tuple_item {it t:Addr} {i:Nat} {items:Array Value} {x:Value} {Q:Value→Shared→Prop} (hit:s.heap.IsTupleIter it t i)
    (ht:s.heap.IsTuple t items) (hx:items[i]?=some x)
    (hQ:∀ h',h'.IsTupleIter it t (i+1)→Heap.SameBut it s.heap h'→Q x { s with heap:=h' }) :
    wpAny (model prog w) A (Builtin.SmallTypes.nextOf (.ref it)) Q E s:=by
  obtain ⟨o,ho,hc,hd⟩:=id hit
  obtain ⟨ol,hol,_,nl,hdl⟩:=ht
  unfold Builtin.SmallTypes.nextOf
  refine wpAny_bind (wpAny_callSpecial?_slot (name:=Str.ofString "__next__") hit.typeIs F.slot_tuple_iterator_next
    (wpAny_call_entry F.slot_tuple_iterator_next hit.typeIs F.entry_tuple_iterator_next ?_ (F.args_tuple_iterator_next_1 _)))
  show wpAny _ _ (field (.ref it) 0 >>= _) _ _ s
  refine wpAny_bind (wpAny_field ho hd (x:=.ref t) rfl ?_)
  show wpAny _ _ (if (Value.ref t == Value.none)=true then _ else _) _ _ s
  rw [if_neg (show ¬ ((Value.ref t == Value.none)=true) from Bool.false_ne_true)]
  show wpAny _ _ (field (.ref it) 1 >>= _) _ _ s
  refine wpAny_bind (wpAny_field ho hd (x:=.int i 0) rfl ?_)
  show wpAny _ _ (seqItems? (.ref t) >>= _) _ _ s
  refine wpAny_bind (wpAny_seqItems hol hdl ?_)
  simp only [Int.toNat_natCast,hx]
  refine wpAny_bind (wpAny_setField ho hd (by simp) (wpAny_pure ⟨x,rfl,wpAny_pure (hQ _ ?_ (Heap.SameBut.update ..))⟩))
  exact ⟨_,Heap.get?_update_self _ ho (Obj.isFreed_of_fields (Obj.data_mapFields hd _)),(Obj.cls_mapFields ..).trans hc,by
    rw [Obj.data_mapFields hd];simp [rawInt]⟩
theorem nextOf_tuple_end {it t:Addr} {i:Nat} {items:Array Value} {Q:Value→Shared→Prop} (hh:A.handled=none)
    (hit:s.heap.IsTupleIter it t i) (ht:s.heap.IsTuple t items) (hx:items[i]?=none)
    (hE:∀ h' e,Heap.ExtBut it s.heap h'→(∃ o,h'.get? e=some o∧o.cls=.type "StopIteration")→E (.ref e) { s with heap:=h' }) :
    wpAny (model prog w) A (Builtin.SmallTypes.nextOf (.ref it)) Q E s:=by
  obtain ⟨o,ho,hc,hd⟩:=id hit
  obtain ⟨ol,hol,_,nl,hdl⟩:=ht
  unfold Builtin.SmallTypes.nextOf
  refine wpAny_bind (wpAny_callSpecial?_slot (name:=Str.ofString "__next__") hit.typeIs F.slot_tuple_iterator_next
    (wpAny_call_entry F.slot_tuple_iterator_next hit.typeIs F.entry_tuple_iterator_next ?_ (F.args_tuple_iterator_next_1 _)))
  show wpAny _ _ (field (.ref it) 0 >>= _) _ _ s
  refine wpAny_bind (wpAny_field ho hd (x:=.ref t) rfl ?_)
  show wpAny _ _ (if (Value.ref t == Value.none)=true then _ else _) _ _ s
  rw [if_neg (show ¬ ((Value.ref t == Value.none)=true) from Bool.false_ne_true)]
  show wpAny _ _ (field (.ref it) 1 >>= _) _ _ s
  refine wpAny_bind (wpAny_field ho hd (x:=.int i 0) rfl ?_)
  show wpAny _ _ (seqItems? (.ref t) >>= _) _ _ s
  refine wpAny_bind (wpAny_seqItems hol hdl ?_)
  simp only [Int.toNat_natCast,hx]
  refine wpAny_bind (wpAny_rule (wpAny_bind (wpAny_setField ho hd (by simp) ?_)))
  show wpAny _ _ (newExc (.type "StopIteration") [] >>= _) _ _ _
  refine wpAny_bind ?_
  simp only [newExc,newTuple]
  refine wpAny_bind (wpAny_newObj_type ?_ (by size_fits))
  refine wpAny_bind (m:=firstArgMember _ _) (wpAny_of_eq (a:=Value.none) (by first | rfl | (simp only [firstArgMember];rfl)) ?_)
  refine wpAny_newObj_type ?_ (by size_fits)
  simp only [raiseNew]
  refine wpAny_bind (wpAny_handled ?_)
  first | rw [show A.in1.handled=none from hh] | rw [hh]
  refine wpAny_bind (wpAny_pure (wpAny_throw ?_))
  exact hE _ _ (((Heap.SameBut.update ..).extBut.push _).push _) ⟨_,Heap.get?_push_size _ rfl,rfl⟩
end
theorem draws_tuple {prog:Program} {w:World} {A:Around} (hh:A.handled=none) (it l:Addr) (hne:l≠it) (items:Array Value) :
    Draws prog w A it [it,l] items.size (fun i v=>items[i]?=some v) (fun i h=>h.IsTupleIter it l i∧h.IsTuple l items) where
  live:=fun _ _ st=>let ⟨o,ho,_⟩:=st.1;⟨o,ho⟩
  frame:=fun _ _ _ st hk=>⟨st.1.at fun o e=>hk it (by simp) o e,let ⟨o,ho,r⟩:=st.2;⟨o,hk l (by simp) o ho,r⟩⟩
  item:=fun i s Q E hi st hQ=>by
    refine nextOf_tuple_item st.1 st.2 (x:=items[i]) (by simp [hi]) fun h' hit' hs'=>?_
    exact hQ _ h' s.toks (by simp [hi]) ⟨hit',st.2.extBut hs'.extBut hne⟩ hs'
  done:=fun s Q E st hE=>nextOf_tuple_end hh st.1 st.2 (by simp) hE
theorem draws_str {prog:Program} {w:World} {A:Around} (hh:A.handled=none) (it:Addr) (x:Str) (t:Tok) :
    Draws prog w A it [it] x.cps.size (fun i v=>∃ c u,x.cps[i]?=some c∧v=.str ⟨#[c]⟩ u) (fun i h=>h.IsStrIter it (strIterType x) x t i):=by
  unfold strIterType
  cases x.cps.all (· < 128) with
  | true=>exact Draws.strAscii hh it x t
  | false=>exact Draws.strWide hh it x t
inductive SK where
  | lst (a:Addr) | tup (a:Addr) | str (x:Str)
def SK.val:SK→V
  | .lst a=>.ref a
  | .tup a=>.ref a
  | .str x=>.str x
def signs (x:Str):List V:=x.cps.toList.map fun c=>.str ⟨#[c]⟩
def SK.has (H:Hp):SK→List V→Prop
  | .lst a,xs=>Rd H a (.lst xs)
  | .tup a,xs=>Rd H a (.tup xs)
  | .str x,xs=>xs=signs x
def SK.own (it:Addr) (k:Nat) (h:Heap):SK→Prop
  | .lst a=>h.IsListIter it a k
  | .tup a=>h.IsTupleIter it a k
  | .str x=>∃ t,h.IsStrIter it (strIterType x) x t k
theorem SK.own_at {it:Addr} {k:Nat} {h h':Heap} {κ:SK} (x:κ.own it k h) (e:∀ o,h.get? it=some o→h'.get? it=some o):κ.own it k h':=by
  cases κ with
  | lst a=>exact Heap.IsListIter.at x e
  | tup a=>exact Heap.IsTupleIter.at x e
  | str y=>obtain ⟨t,o,ho,r⟩:=x;exact ⟨t,o,e o ho,r⟩
theorem SK.own_obj {it:Addr} {k:Nat} {h:Heap} {κ:SK} (x:κ.own it k h):∃ o,h.get? it=some o∧(∀ v,o.data≠.cell v)∧o.cls≠.type "tuple" ∧ o.cls≠.type "zip" ∧ o.cls≠.type "enumerate" := by
  cases κ with
  | lst a=>obtain ⟨o,ho,c,d⟩:=x;exact ⟨o,ho,(fun v z=>by rw [d] at z;cases z),(fun z=>by rw [c] at z;simp at z),(fun z=>by rw [c] at z;simp at z),(fun z=>by rw [c] at z;simp at z)⟩
  | tup a=>obtain ⟨o,ho,c,d⟩:=x;exact ⟨o,ho,(fun v z=>by rw [d] at z;cases z),(fun z=>by rw [c] at z;simp at z),(fun z=>by rw [c] at z;simp at z),(fun z=>by rw [c] at z;simp at z)⟩
  | str y=>
    obtain ⟨t,o,ho,c,d⟩:=x
    refine ⟨o,ho,(fun v z=>by rw [d] at z;cases z),?_,?_,?_⟩ <;>
    · intro z
      rw [c] at z
      unfold strIterType at z
      split at z <;> simp at z
theorem Rd.inj {H:Hp} {a:Addr} {u v:HO} (hu:∀ o w,u≠.frz o w) (hv:∀ o w,v≠.frz o w) (x:Rd H a u) (y:Rd H a v):u=v:=by
  rcases x with x | ⟨o,x⟩ <;> rcases y with y | ⟨p,y⟩ <;> rw [x] at y
  · exact Option.some.inj y
  · exact absurd (Option.some.inj y) (hu p v)
  · exact absurd (Option.some.inj y).symm (hv o u)
  · have:=Option.some.inj y
    injection this
theorem SK.inj {H:Hp} {κ:SK} {xs ys:List V} (x:κ.has H xs) (y:κ.has H ys):xs=ys:=by
  cases κ with
  | lst a=>have:=Rd.inj (u:=.lst xs) (v:=.lst ys) (fun _ _ z=>nomatch z) (fun _ _ z=>nomatch z) x y;injection this
  | tup a=>have:=Rd.inj (u:=.tup xs) (v:=.tup ys) (fun _ _ z=>nomatch z) (fun _ _ z=>nomatch z) x y;injection this
  | str z=>exact Eq.trans x (Eq.symm y)
def SK.box:SK→List Addr
  | .lst a=>[a]
  | .tup a=>[a]
  | .str _=>[]
theorem SK.box_some {H:Hp} {κ:SK} {xs:List V} (x:κ.has H xs) {b:Addr} (hb:b∈κ.box):H b≠none:=by
  cases κ with
  | lst a => have e:b=a:=by simpa [SK.box] using hb
             subst e;intro z;rcases x with q | ⟨o,q⟩ <;> (rw [z] at q;cases q)
  | tup a => have e:b=a:=by simpa [SK.box] using hb
             subst e;intro z;rcases x with q | ⟨o,q⟩ <;> (rw [z] at q;cases q)
  | str z=>simp [SK.box] at hb
section
variable {X:Cx} {pins:List (Addr × Obj)} {σ:St} {H:Hp} {s:Shared}
theorem sk_draws {κ:SK} {it:Addr} {k:Nat} {xs:List V} {A:Around} (I:Inv X pins σ H s) (hv:κ.has H xs) (hit:κ.own it k s.heap) (hn:H it=none) (hh:A.handled=none) :
    ∃ (P:Nat→Value→Prop) (St:Nat→Heap→Prop),Draws X.prog X.w A it (it :: κ.box) xs.length P St∧St k s.heap∧(∀ i u,P i u→∃ x,xs[i]?=some x∧RelV x u)∧(∀ i h,St i h→κ.own it i h):=by
  have ne:∀ b∈κ.box,b≠it:=fun b hb z=>SK.box_some hv hb (by rw [z];exact hn)
  cases κ with
  | lst a=>
    obtain ⟨_,its,n,r,e⟩:=Rd.ok hv I.hok
    have hl:s.heap.IsList a its.toArray:=⟨_,e,rfl,n,rfl⟩
    have D:=Draws.list (prog:=X.prog) (w:=X.w) hh it a (ne a (by simp [SK.box])) its.toArray
    rw [List.size_toArray,← r.length] at D
    refine ⟨_,_,D,⟨hit,hl⟩,fun i u hu=>?_,fun i h st=>st.1⟩
    · have hu':its[i]?=some u:=by simpa using hu
      have hlt:i < xs.length:=by rw [r.length];exact (List.getElem?_eq_some_iff.mp hu').1
      obtain ⟨u',e1,e2⟩:=r.get (List.getElem?_eq_getElem hlt)
      rw [hu'] at e1;cases e1
      exact ⟨_,List.getElem?_eq_getElem hlt,e2⟩
  | tup a=>
    obtain ⟨_,its,r,ht⟩:=Rd.ok hv I.hok
    have hl:s.heap.IsTuple a its.toArray:=ht
    have D:=draws_tuple (prog:=X.prog) (w:=X.w) hh it a (ne a (by simp [SK.box])) its.toArray
    rw [List.size_toArray,← r.length] at D
    refine ⟨_,_,D,⟨hit,hl⟩,fun i u hu=>?_,fun i h st=>st.1⟩
    · have hu':its[i]?=some u:=by simpa using hu
      have hlt:i < xs.length:=by rw [r.length];exact (List.getElem?_eq_some_iff.mp hu').1
      obtain ⟨u',e1,e2⟩:=r.get (List.getElem?_eq_getElem hlt)
      rw [hu'] at e1;cases e1
      exact ⟨_,List.getElem?_eq_getElem hlt,e2⟩
  | str z=>
    obtain ⟨t,hit⟩:=hit
    have hv':xs=signs z:=hv
    subst hv'
    have D:=draws_str (prog:=X.prog) (w:=X.w) hh it z t
    have e:(signs z).length=z.cps.size:=by simp [signs]
    rw [← e] at D
    refine ⟨_,_,D,hit,fun i u hu=>?_,fun i h st=>⟨t,st⟩⟩
    · obtain ⟨c,u',hc,rfl⟩:=hu
      refine ⟨.str ⟨#[c]⟩,?_,⟨u',rfl⟩⟩
      simp only [signs,List.getElem?_map,Array.getElem?_toList,hc,Option.map_some]
theorem Inv.turnedNew {ch:List Addr} {p:Addr} {o:HO} {h':Heap} {tk:Nat} (I:Inv X pins σ H s)
    (hch:∀ b∈ch,FpOk X pins H b) (k:∀ b ob,b ∉ ch→s.heap.get? b=some ob→h'.get? b=some ob) (hp:s.heap.objs.size≤p) (new:ObjOk X.prog X.w (upd H p o) h' p o) :
    Inv X pins σ (upd H p o) { s with heap:=h',toks:=tk }:=by
  have hn:H p=none:=I.hok.fresh hp
  refine I.call (g':=s.gens) (d':=s.drawn) (ch:=ch) ⟨fun b u q _ _ hx=>k b u hx q,fun b u q _ _ hx=>⟨u.slots,k b u hx q⟩,fun b u q n _=>?_,fun b u q hx=>⟨u,k b u hx q⟩,fun b xs q=>?_,fun b u xs q=>?_,fun b ps q=>⟨#[],?_⟩⟩ (fun b u e=>?_) I.bare
    fun b hb=>⟨(hch b hb).2.2.2.1,(hch b hb).2.1,(hch b hb).2.2.2.2.1,(hch b hb).2.2.2.2.2⟩
  · rw [upd_ne (Nat.ne_of_lt (Nat.lt_of_lt_of_le (Heap.lt_size q) hp))];exact n
  · rw [upd_ne (ne_of_none q hn)];exact q
  · rw [upd_ne (ne_of_none q hn)];exact q
  · rw [upd_ne (ne_of_none q hn),q];simp
  · by_cases hb:b=p
    · subst hb;rw [upd_same] at e;cases e;exact new
    · rw [upd_ne hb] at e
      refine (I.hok b u e).stay (fun c v hc q=>k c v (fun hm=>?_) q) (fun c q=>by rw [upd_ne (ne_of_none q hn)];exact q) fun c xs q=>by rw [upd_ne (ne_of_none q hn)];exact q
      have z:=(hch c hm).1
      rcases hc with hc | hc
      · rw [hc,e] at z;cases z
      · rw [hc] at z;cases z
end
def Ite (κ:SK):It:=
  ⟨fun i H=>∃ xs x,κ.has H xs∧xs[i]?=some x,fun i H v H'=>∃ p x,v=.ref p∧H p=none∧H'=upd H p (.tup [.int i,x])∧∀ xs,κ.has H xs→xs[i]?=some x,fun i H=>∃ xs,κ.has H xs∧xs.length=i⟩
theorem turn_enum {P:Program} {w:World} {K:PySem.W.Frag} {elts:List Expr} {x1:Nat} {tpos:Pos} (κ:SK) (e it:Addr) (hei:e≠it) :
    Turn P w K (.Tuple elts x1 tpos) (Ite κ) [e,it] e (fun i h=>(∃ old,IsEnum h e it i old)∧κ.own it i h) where
  mem:=by simp
  obj:=fun i h st b hb=>by
    obtain ⟨⟨old,he⟩,ho⟩:=st
    simp only [List.mem_cons,List.not_mem_nil,or_false] at hb
    rcases hb with rfl | rfl
    · exact ⟨_,he,fun v z=>by
        have z':Data.fields _=Data.cell v:=z
        cases z'⟩
    · obtain ⟨o,h1,h2,_⟩:=SK.own_obj ho
      exact ⟨o,h1,h2⟩
  keep:=fun i h h' st k=>by
    obtain ⟨⟨old,he⟩,ho⟩:=st
    exact ⟨⟨old,k e (by simp) _ he⟩,SK.own_at ho fun o q=>k it (by simp) o q⟩
  item:=by
    intro X hP hw hK hc i pins s σ H E I hf st hg
    subst hP hw hK
    obtain ⟨⟨old,he⟩,ho⟩:=st
    obtain ⟨xs,x,hx,hxi⟩:=hg
    have hlt:i < xs.length:=(List.getElem?_eq_some_iff.mp hxi).1
    have hh:X.A.in1.handled=none:=I.ok.hd hc
    obtain ⟨Pp,St,D,hst,hrel,hown⟩:=sk_draws (A:=X.A.in1) I hx ho (hf it (by simp)).1 hh
    have hef:e ∉ it :: κ.box:=fun z=>by
      rcases List.mem_cons.mp z with z | z
      · exact hei z
      · exact SK.box_some hx z (hf e (by simp)).1
    refine wpAny_pyNext_enum_itemD D he hst hlt hei hef fun y h' tk hy ho' hst' hT hsz hk=>⟨_,rfl,?_⟩
    refine wpAny_letOwnedTupleGo_enum ho' fun h'' he'' hs''=>?_
    obtain ⟨x',hx',rx⟩:=hrel i y hy
    have exx:x'=x:=Option.some.inj (hx'.symm.trans hxi)
    subst exx
    have kk:∀ b ob,b ∉ [e,it]→s.heap.get? b=some ob→h''.get? b=some ob:=fun b ob hb q=>
      (hs''.2 b (fun z=>hb (by simp [z]))).trans (hk b ob (fun z=>hb (by simp [z])) (fun z=>hb (by simp [z])) q)
    have ne:s.heap.objs.size≠e:=Nat.ne_of_gt (Heap.lt_size he)
    have hT':h''.get? s.heap.objs.size=some { cls:=.type "tuple", data:=.seq #[.int i tk,y] }:=(hs''.2 _ ne).trans hT
    refine ⟨.ref s.heap.objs.size,upd H s.heap.objs.size (.tup [.int i,x']),I.turnedNew (tk:=tk+1) hf kk (Nat.le_refl _) ⟨⟨(by show 2≤sizeLine;decide),_,hT',rfl⟩,[.int i tk,y],.cons ⟨tk,rfl⟩ (.cons rx .nil),_,hT',rfl,0,rfl⟩,rfl,
      ⟨_,x',rfl,I.hok.fresh (Nat.le_refl _),rfl,fun ys hy'=>by rw [SK.inj hy' hx];exact hxi⟩,⟨⟨y,by simpa using he''⟩,SK.own_at (hown _ _ hst') fun o q=>(hs''.2 it (Ne.symm hei)).trans q⟩,fun b hb=>?_⟩
    obtain ⟨o,hob,_⟩:∃ o,s.heap.get? b=some o∧True:=by
      simp only [List.mem_cons,List.not_mem_nil,or_false] at hb
      rcases hb with rfl | rfl
      · exact ⟨_,he,trivial⟩
      · obtain ⟨o,h1,_⟩:=SK.own_obj ho;exact ⟨o,h1,trivial⟩
    rw [upd_ne (Nat.ne_of_lt (Heap.lt_size hob))]
    exact (hf b hb).1
  done:=by
    intro X hP hw hK hc i pins s σ H E I hf st hg
    subst hP hw hK
    obtain ⟨⟨old,he⟩,ho⟩:=st
    obtain ⟨xs,hx,hlen⟩:=hg
    have hh:X.A.in1.handled=none:=I.ok.hd hc
    obtain ⟨Pp,St,D,hst,hrel,hown⟩:=sk_draws (A:=X.A.in1) I hx ho (hf it (by simp)).1 hh
    have hst':St xs.length s.heap:=by rw [hlen];exact hst
    refine wpAny_pyNext_enum_endD D he hst' fun h' hx'=>⟨rfl,?_⟩
    have f:=hf it (by simp)
    exact I.turned (t':=s.toks) (fun b o hb q=>hx' b o hb q) f.1 f.2.1 f.2.2.2.1 f.2.2.2.2.1 f.2.2.2.2.2
  self:=fun _ _ _ _ _ st h=>let ⟨⟨_,he⟩,_⟩:=st;wpAny_pyIter_enum he h
open AutoSeq1 (wpAny_loadPart') in
set_option maxHeartbeats 4000000 in
theorem meets_enumerate_newT (l:Addr) (items:Array Value) (n:Nat) (dct:Option Addr) (sl:Array (Option Value)) :
    Meets (Builtin.«enumerate.__new__» ⟨[.type "enumerate", .ref l],[]⟩) (fun _ R s=>s.heap.get? l=some { cls:=.type "tuple", dict:=dct,data:=.seq items n,slots:=sl } ∧
      R (.ok (.ret (.ref (s.heap.push { cls:=.type "tuple_iterator", data:=.fields #[.ref l,.int 0 0] }).objs.size)))
        { s with heap:=(s.heap.push { cls:=.type "tuple_iterator", data:=.fields #[.ref l,.int 0 0] }).push { cls:=.type "enumerate", data:=.fields #[.none,.bool false,.ref s.heap.objs.size,rawInt 0,.none,.none] } }):=
  .of_wp fun prog w A R s h=>by
    obtain ⟨hp,g,d,tk,os⟩:=s;obtain ⟨hl,h⟩:=h
    have hsub:=sub_enumerate
    have hL:Heap.IsTuple (Shared.heap ⟨hp,g,d,tk,os⟩) l items:=⟨_,hl,rfl,n,rfl⟩
    wp_walk using wpAny_loadPart' hl
    refine wpAny_stack_any fun st=>wpAny_pure ?_
    split
    · rename_i c _ _ _ _ _
      cases (c == Value.type "enumerate")
      · wp_walk using wpAny_loadPart' hl,wpAny_pyIter_tuple hL
        exact ⟨_,rfl,h⟩
      · wp_walk using wpAny_loadPart' hl,wpAny_pyIter_tuple hL
        exact ⟨_,rfl,h⟩
    · wp_walk using wpAny_loadPart' hl,wpAny_pyIter_tuple hL
      exact ⟨_,rfl,h⟩
theorem call_enumerate_tuple {prog:Program} {w:World} {A:Around} {E:Value→Shared→Prop} {s:Shared} {l:Addr} {items:Array Value} {Q:Value→Shared→Prop} (hL:s.heap.IsTuple l items)
    (h:∀ h',IsEnum h' (s.heap.objs.size+1) s.heap.objs.size 0 .none→h'.IsTupleIter s.heap.objs.size l 0→h'.objs.size=s.heap.objs.size+2 →
      (∀ b o,s.heap.get? b=some o→h'.get? b=some o)→Q (.ref (s.heap.objs.size+1)) { s with heap:=h' }) :
    wpAny (model prog w) A (call (.type "enumerate") [.ref l]) Q E s:=by
  obtain ⟨⟨c,dct,dt,sl⟩,hl,hc,n,hd⟩:=hL
  replace hc:c=.type "tuple" := hc
  replace hd:dt=.seq items n:=hd
  subst hc hd
  refine callType_new F.called_enumerate (by decide) (F.typeCall_enumerate_1 _) (F.newCall_enumerate_1 _) (fun obj=>F.args_object_init_2 obj _) F.entry_enumerate_new
    (meets_enumerate_newT l items n dct sl) ⟨hl,?_⟩
  have hz:(s.heap.push { cls:=.type "tuple_iterator", data:=.fields #[.ref l,.int 0 0] }).objs.size=s.heap.objs.size+1:=Heap.size_push ..
  show _∧_
  rw [hz]
  have he:IsEnum ((s.heap.push { cls:=.type "tuple_iterator", data:=.fields #[.ref l,.int 0 0] }).push
      { cls:=.type "enumerate", data:=.fields #[.none,.bool false,.ref s.heap.objs.size,rawInt 0,.none,.none] }) (s.heap.objs.size+1) s.heap.objs.size 0 .none:=by
    have:=Heap.get?_push_size (s.heap.push { cls:=.type "tuple_iterator", data:=.fields #[.ref l,.int 0 0] })
      (o:={ cls:=.type "enumerate", data:=.fields #[.none,.bool false,.ref s.heap.objs.size,rawInt 0,.none,.none] }) rfl
    rw [hz] at this;exact this
  refine ⟨⟨_,he,rfl⟩,h _ he ⟨_,Heap.get?_push_of_some _ (Heap.get?_push_size _ rfl),rfl,rfl⟩ (by rw [Heap.size_push,hz]) fun b o x=>Heap.get?_push_of_some _ (Heap.get?_push_of_some _ x)⟩
section
variable {X:Cx} {pins:List (Addr × Obj)} {σ:St} {H:Hp} {s:Shared}
theorem call_enum {κ:SK} {xs:List V} {u:Value} {E:Value→Shared→Prop} {Q:Value→Shared→Prop} (I:Inv X pins σ H s) (hv:κ.has H xs) (r:RelV κ.val u)
    (h:∀ h',IsEnum h' (s.heap.objs.size+1) s.heap.objs.size 0 .none→κ.own s.heap.objs.size 0 h'→(∀ b o,s.heap.get? b=some o→h'.get? b=some o)→Q (.ref (s.heap.objs.size+1)) { s with heap:=h' }) :
    wpAny (model X.prog X.w) X.A (call (.type "enumerate") [u]) Q E s:=by
  cases κ with
  | lst a=>
    cases (show u=Value.ref a from r)
    obtain ⟨_,its,n,rr,e⟩:=Rd.ok hv I.hok
    exact call_enumerate_list ⟨_,e,rfl,n,rfl⟩ fun h' a1 a2 _ a4=>h h' a1 a2 a4
  | tup a=>
    cases (show u=Value.ref a from r)
    obtain ⟨_,its,rr,e⟩:=Rd.ok hv I.hok
    exact call_enumerate_tuple e fun h' a1 a2 _ a4=>h h' a1 a2 a4
  | str x=>
    obtain ⟨t,q⟩:=(show ∃ t,u=Value.str x t from r)
    subst q
    exact call_enumerate_str fun h' a1 a2 _ a4=>h h' a1 ⟨t,a2⟩ a4
def iEnum (ta:TA):TI:=fun σ H R=>ta σ H fun vs H1=>∃ κ:SK,vs=[κ.val]∧(∃ xs,κ.has H1 xs)∧R (Ite κ) H1
theorem pi_enum {a:Expr} {ta:TA} {p pos:Pos} {elts:List Expr} {x1:Nat} {tpos:Pos} (hg:Gl X "enumerate") (hm:X.mg "enumerate" = none) (ha:PA X [a] ta)
    (hs:starEach [a] X.env=[(false,eval a X.env)]:=by rfl):PI X (.Tuple elts x1 tpos) (.Call (.Name "enumerate" p) [a] [] pos) (iEnum ta):=by
  intro pins s σ H R I h
  refine Call_ (ld_blt I hg hm boot_enumerate (PyProof.Rows.callWith_type1 (thn (ha pos pins s σ H _ I h) fun us s1 ⟨vs,H1,I1,r1,q1⟩=>?_) hs rfl))
  obtain ⟨κ,e,⟨xs,hx⟩,q⟩:=q1
  subst e
  obtain ⟨u,rfl,ru⟩:=vals1 r1
  refine call_enum I1 hx ru fun h' he hi hk=>?_
  refine wpAny_pyIter_enum he ⟨s1.heap.objs.size+1,[s1.heap.objs.size+1,s1.heap.objs.size],_,_,H1,rfl,I1.kept (t':=s1.toks) hk,turn_enum κ _ _ (Nat.ne_of_gt (Nat.lt_succ_self _)),⟨⟨_,he⟩,hi⟩,fun b hb=>?_,q⟩
  have hge:s1.heap.objs.size≤b:=by
    simp only [List.mem_cons,List.not_mem_nil,or_false] at hb
    rcases hb with rfl | rfl
    · exact Nat.le_succ _
    · exact Nat.le_refl _
  exact I1.fpOk hge (I1.hok.fresh hge)
end
section
variable {prog:Program} {w:World} {A:Around} {E:Value→Shared→Prop} {s:Shared}
end
section
variable {X:Cx}
end
theorem for_enum {κ:SK} {xs:List V} {g:TG} {tb:TS} {D:Ends} {σ:St} {H:Hp} (Pv:Nat→St→Hp→Prop) (h0:Pv 0 σ H) (hl:∀ i σ H,i≤xs.length→Pv i σ H→κ.has H xs)
    (hs:∀ (i:Nat) x σ H p,xs[i]?=some x→Pv i σ H→H p=none→g (.ref p) σ (upd H p (.tup [.int i,x])) fun σ2 H2=>tb { D with nx:=Pv (i+1),ct:=Pv (i+1),bk:=D.nx } σ2 H2) (hd:∀ σ H,Pv xs.length σ H→D.nx σ H) :
    ∃ W:Nat→Nat→St→Hp→Prop,(∃ m,W 0 m σ H)∧∀ i m σ H,W i m σ H →
      ((Ite κ).stop i H∧D.nx σ H)∨((Ite κ).go i H∧∃ N:St→Hp→Prop,(∀ σ' H',N σ' H'→∃ m',m' < m∧W (i+1) m' σ' H')∧∀ x H',(Ite κ).yld i H x H'→g x σ H' fun σ2 H2=>tb { D with nx:=N,ct:=N,bk:=D.nx } σ2 H2):=by
  refine ⟨fun i m σ H=>i≤xs.length∧m=xs.length - i∧Pv i σ H,⟨xs.length,Nat.zero_le _,rfl,h0⟩,fun i m σ H ⟨hi,hm,hp⟩=>?_⟩
  have a1:=hl i σ H hi hp
  rcases Nat.lt_or_ge i xs.length with lt | ge
  · refine .inr ⟨⟨xs,xs[i],a1,List.getElem?_eq_getElem lt⟩,Pv (i+1),fun σ' H' hn=>⟨xs.length - (i+1),by omega,by omega,rfl,hn⟩,fun x H' hy=>?_⟩
    obtain ⟨p,x',rfl,hpn,rfl,e1⟩:=hy
    exact hs i x' σ H p (e1 xs a1) hp hpn
  · have e:i=xs.length:=by omega
    subst e
    exact .inl ⟨⟨xs,a1,rfl⟩,hd σ H hp⟩
def cutS (z:Str) (lo hi:Option Int):Str:=⟨((z.cps.toList.drop (HT.sIx z.length 0 lo)).take (HT.sIx z.length z.length hi - HT.sIx z.length 0 lo)).toArray⟩
theorem clip_s (i:Int) (n d:Nat):max 0 (min (if i < 0 then i+(n:Int) else i) (n:Int))=((HT.sIx n d (some i):Nat):Int):=by
  simp only [HT.sIx]
  split
  · omega
  · omega
theorem range_cut (a b:Nat):sliceRange (a:Int) (b:Int) 1=(List.range (b - a)).map fun k=>a+k:=by
  unfold sliceRange
  simp only [show ((1:Int) > 0)=True from by simp,if_true]
  by_cases hlt:(a:Int) < b
  · have e3:(((b:Int) - a+1 - 1) / 1).toNat=b - a:=by
      rw [Int.ediv_one];omega
    simp only [hlt,if_true,e3]
    refine List.map_congr_left fun k _=>?_
    omega
  · have:b - a=0:=by omega
    simp [hlt,this]
theorem sliceIdx_cut (lo hi:Option Int) (n:Nat):Builtin.Str.strSliceIndices lo hi 1 n=(List.range (HT.sIx n n hi - HT.sIx n 0 lo)).map fun k=>HT.sIx n 0 lo+k:=by
  unfold Builtin.Str.strSliceIndices
  simp only [show ((1:Int) > 0)=True from by simp,if_true]
  cases lo with
  | none=>
    cases hi with
    | none=>exact range_cut 0 n
    | some j=>dsimp only;rw [clip_s j n n];exact range_cut 0 _
  | some i=>
    cases hi with
    | none=>dsimp only;rw [clip_s i n 0];exact range_cut _ n
    | some j=>dsimp only;rw [clip_s i n 0,clip_s j n n];exact range_cut _ _
theorem slice_text (z:Str) (t:Tok) (l u:Option (Int × Tok)):∀ (Q:Value→Shared→Prop) (s:Shared),z.length≤sizeLine→(∀ t' s',s'.heap=s.heap→s'.gens=s.gens→s'.drawn=s.drawn→s'.os=s.os→Q (.str (cutS z (l.map (·.1)) (u.map (·.1))) t') s')→(sliceMade z t l u none).post Q s:=by
  intro Q s hz h
  have hidx:=sliceIdx_cut (l.map (·.1)) (u.map (·.1)) z.length
  have hle:HT.sIx z.length z.length (u.map (·.1))≤z.length:=HT.sIx_le _ _ (Nat.le_refl _) _
  have hlo:HT.sIx z.length 0 (l.map (·.1))≤z.length:=HT.sIx_le _ _ (Nat.zero_le _) _
  have hzl:z.length=z.cps.toList.length:=by simp [Str.length]
  have cut:((slicePicked z l u none).filterMap (z.cps[·]?))=(z.cps.toList.drop (HT.sIx z.length 0 (l.map (·.1)))).take (HT.sIx z.length z.length (u.map (·.1)) - HT.sIx z.length 0 (l.map (·.1))):=by
    have p:=StrLaws.picks z.cps.toList (HT.sIx z.length z.length (u.map (·.1)) - HT.sIx z.length 0 (l.map (·.1))) (HT.sIx z.length 0 (l.map (·.1))) (by omega)
    rw [← p]
    unfold slicePicked
    simp only [Option.map_none,Option.getD_none]
    rw [hidx]
    congr 1
    funext k
    simp
  unfold sliceMade
  split
  · rename_i c
    have whole:cutS z (l.map (·.1)) (u.map (·.1))=z:=by
      unfold cutS
      have e:(slicePicked z l u none).length=z.length:=by
        simp only [Bool.and_eq_true,beq_iff_eq] at c
        exact c.2
      have e':HT.sIx z.length z.length (u.map (·.1)) - HT.sIx z.length 0 (l.map (·.1))=z.length:=by
        unfold slicePicked at e
        simp only [Option.map_none,Option.getD_none] at e
        rw [hidx] at e
        simpa using e
      have e0:HT.sIx z.length 0 (l.map (·.1))=0:=by omega
      rw [e',e0,List.drop_zero,hzl,List.take_length]
    have:=h t s rfl rfl rfl rfl
    rw [whole] at this
    exact this
  · rw [cut]
    have hl':(⟨((z.cps.toList.drop (HT.sIx z.length 0 (l.map (·.1)))).take (HT.sIx z.length z.length (u.map (·.1)) - HT.sIx z.length 0 (l.map (·.1)))).toArray⟩:Str).length≤sizeLine:=by
      have:(⟨((z.cps.toList.drop (HT.sIx z.length 0 (l.map (·.1)))).take (HT.sIx z.length z.length (u.map (·.1)) - HT.sIx z.length 0 (l.map (·.1)))).toArray⟩:Str).length≤z.length:=by
        simp only [Str.length,List.size_toArray,List.length_take,List.length_drop]
        have:z.cps.size=z.length:=rfl
        omega
      omega
    first
      | exact ⟨hl',h _ _ rfl rfl rfl rfl⟩
      | exact h _ _ rfl rfl rfl rfl
def rSlS:V→Option Int→Option Int→Hp→VK→Prop:=fun x lo hi H Q=>∃ z,x=.str z∧z.length≤sizeLine∧Q (.str (cutS z lo hi)) H
theorem sl_str {X:Cx}:SlR X rSlS:=by
  intro pins s σ H x v vl vu lo hi sl Q I rx hs pl pu h
  obtain ⟨z,rfl,hz,q⟩:=h
  obtain ⟨t,rfl⟩:=rx
  refine ⟨"str", _,F.slot_str_getitem.lookup,typeIs_str s z t,?_⟩
  have part:∀ {v:Value} {o:Option Int},IsPart v o→∃ p:Option (Int × Tok),v=partValue p∧p.map (·.1)=o:=fun {v o} p=>by
    cases p with
    | none=>exact ⟨none,rfl,rfl⟩
    | int i t=>exact ⟨some (i,t),rfl,rfl⟩
  obtain ⟨l,rfl,rfl⟩:=part pl
  obtain ⟨u,rfl,rfl⟩:=part pu
  refine wpAny_getItem_str_slice (l:=l) (u:=u) (st:=none) hs rfl (slice_text z t l u _ s hz fun t' s' e1 e2 e3 e4=>⟨.str _,H,?_,⟨t',rfl⟩,q⟩)
  obtain ⟨hp,g,d,tk,os⟩:=s'
  cases e1;cases e2;cases e3;cases e4
  exact I.tok tk
theorem call_isinst {X:Cx}:CallR X (.builtin "isinstance") (fun vs H Q=>∃ x t T b,vs=[x,.ty T]∧TyOf X.K H x t∧PySem.W.kitOne X.K t (.type T)=some b∧Q (.bl b) H):=by
  intro pins s σ H xs us Q I r h
  obtain ⟨x,t,T,b,rfl,ty,e,q⟩:=h
  obtain ⟨u,v,rfl,ru,rv⟩:=vals2 r
  cases (show v=Value.type T from rv)
  exact isinst_ok I ru ty e fun tk=>⟨.bl b,H,I.tok tk,rfl,q⟩
end L2
namespace L2
open PySem PySem.Spec PyProof.Rows
theorem csc {X:Cx} {scope:Scope} {NL:List Str} {ix:List Nat} (esc:Scope) (N:List Str) (h1:X.env.scope=esc:=by rfl) (h2:X.N=N:=by rfl) (c1:scope.kind=.function:=by rfl)
    (c2:∀ y∈scope.names,y.2≠.cell:=by decide +kernel) (c3:∀ y∈scope.names,y.2=.local→scope.names.lookup y.1=some .local:=by decide +kernel)
    (c4:∀ y∈scope.names,y.2=.free→esc.names.lookup y.1=some .cell∨esc.names.lookup y.1=some .free:=by decide +kernel)
    (c5:∀ j∈ix,(N[j]?).bind (fun x=>scope.names.lookup x)=some .free:=by decide +kernel):CompScope X scope NL ix where
  kind:=c1
  cell:=c2
  names:=c3
  free:=fun y hy hf=>by
    have:=c4 y hy hf
    rw [← h1] at this
    exact this
  cap:=fun j hj=>by
    have:=c5 j hj
    rw [h2]
    cases e:N[j]? with
    | none=>rw [e] at this;cases this
    | some x=>rw [e] at this;exact ⟨x,rfl,this⟩
def Has (P:Program) (w:World) (K:PySem.W.Frag) (mg:Str→Option Value) (base:Heap) (x:Str) (k:Nat) (ps:List Str) (sp:Sp):Prop:=
  ∃ f fd,FnOk P w K mg base CX0 k f fd ps sp∧Binds K fd ps []∧PySem.W.keepIn K (.ref f)=true∧mg x=some (.ref f)
section
variable {P:Program} {w:World} {K:PySem.W.Frag} {mg:Str→Option Value} {base:Heap}
theorem Has.mono {x:Str} {j k:Nat} {ps:List Str} {sp:Sp} (G:Has P w K mg base x j ps sp) (h:j≤k):Has P w K mg base x k ps sp:=
  let ⟨f,fd,F,r⟩:=G;⟨f,fd,F.mono h,r⟩
def Df (K:PySem.W.Frag) (mg:Str→Option Value) (x:Str) (st:Stmt):Prop:=∃ f fd,Fun K x x st f fd∧mg x=some (.ref f)
theorem Df.has {x:Str} {st:Stmt} {N ps:List Str} {k:Nat} {sp:Sp} (D:Df K mg x st) (S:FnScope N ps (defScope st))
    (hb:∀ (kV doc pm:Value) (an:Option Addr) (cdv ct:Value) (us:List Value),us.length=ps.length→bindArgs (PySem.W.fnOf x x (defArgs st) (defBody st) (defScope st) .none kV doc pm an cdv ct) ⟨us,[]⟩=pure (ps.zip us))
    (len:∀ vs H Q E,sp vs H Q E→vs.length=ps.length)
    (hbody:∀ (f:Addr) (cdv:Value) (A:Around) (outer:List Env) (s:Shared) (H:Hp) (vs:List V) (Q:VK) (E:XK),Room k (A.deeper (envOfC x (defScope st) s.heap.objs.size f cdv))→sp vs H Q E →
      ∃ t,PSs (cxOf CX0 P w K mg base N x (defScope st) f cdv A outer s H E).nox (defBody st) t∧t { nx:=fun _ H'=>Q .non H',rt:=Q } (start N vs) H):Has P w K mg base x (k+1) ps sp:=by
  obtain ⟨f,fd,F,m⟩:=D
  exact ⟨f,fd,F.ok S len fun cdv A outer s H vs Q E hr h=>hbody f cdv A outer s H vs Q E hr h,F.binds hb,F.kp,m⟩
end
theorem pe_callH {X:Cx} {x:Str} {k:Nat} {ps:List Str} {sp:Sp} {p pos:Pos} {e:Expr} {es:List Expr} {t:TA} (G:Has X.prog X.w X.K X.mg X.base x k ps sp) (hr:Room k X.A) (hg:Gl X x) (ha:PA X (e :: es) t)
    (hdb:(x == ("__debug__" : Str))=false:=by decide) (he:starEach (e :: es) X.env=(false,eval e X.env) :: starEach es X.env:=by rfl) (hpl:(backTo pos (starEach es X.env)).any (·.1)=false:=by rfl) :
    PE X (.Call (.Name x p) (e :: es) [] pos) (tCall sp [] E0 t):=by
  obtain ⟨f,fd,F,b,kp,m⟩:=G
  exact pe_call F hr hg m kp b .nil pass0 ha hdb he hpl
structure Blt (mg:Str→Option Value):Prop where
  len:mg "len" = none
  range:mg "range" = none
  zip:mg "zip" = none
  enumerate:mg "enumerate" = none
  max:mg "max" = none
  min:mg "min" = none
  int_:mg "int" = none
  str_:mg "str" = none
  bool_:mg "bool" = none
  list_:mg "list" = none
  tuple_:mg "tuple" = none
  isinstance:mg "isinstance" = none
section
variable {p q:Addr} {H H1 H2:Hp} {o:HO}
end
theorem bt_len:bootBuiltins "len" = some (.builtin "len"):=by decide +kernel
theorem bt_min:bootBuiltins "min" = some (.builtin "min"):=by decide +kernel
theorem bt_all:bootBuiltins "all" = some (.builtin "all"):=by decide +kernel
theorem bt_sorted:bootBuiltins "sorted" = some (.builtin "sorted"):=by decide +kernel
theorem bt_isinstance:bootBuiltins "isinstance" = some (.builtin "isinstance"):=by decide +kernel
theorem bt_int:bootBuiltins "int" = some (.type "int"):=by decide +kernel
theorem bt_str:bootBuiltins "str" = some (.type "str"):=by decide +kernel
theorem bt_bool:bootBuiltins "bool" = some (.type "bool"):=by decide +kernel
theorem bt_list:bootBuiltins "list" = some (.type "list"):=by decide +kernel
theorem bt_tuple:bootBuiltins "tuple" = some (.type "tuple"):=by decide +kernel
theorem Same.new {H0 H:Hp} {q:Addr} {o:HO} (h:Same H0 H) (hq:H q=none):Same H0 (upd H q o):=fun b u e=>by
  have:=h b u e
  rw [upd_ne (ne_of_none this hq)];exact this
theorem Same.write {H0 H:Hp} {q:Addr} {o:HO} (h:Same H0 H) (hq:H0 q=none):Same H0 (upd H q o):=fun b u e=>by
  rw [upd_ne (ne_of_none e hq)];exact h b u e
theorem app_list (a y:Str):(a++y).cps.toList=a.cps.toList++y.cps.toList:=by
  show (a.cps++y.cps).toList=_
  simp
end L2
namespace L2
open PySem PySem.Spec PyProof.Rows
section
variable {X:Cx}
theorem mt_startswith:MtR X "str.startswith" (fun x vs H Q=>∃ z p,x=.str z∧vs=[.str p]∧Q (.bl (Txt.startswith z p)) H):=by
  intro pins s σ H x xs v us Q I rx rv h
  obtain ⟨z,p,rfl,rfl,q⟩:=h
  obtain ⟨t,rfl⟩:=rx
  obtain ⟨u,rfl,t',rfl⟩:=rv.one
  exact SC.startswith ⟨.bl _,H,I,rfl,q⟩
theorem pe_starts {o e:Expr} {to te:TE} {apos cpos:Pos} (ho:PE X o to) (he:PE X e te) (hbase:attributeBase o "startswith" X.env (eval o X.env)=eval o X.env:=by rfl)
    (h1:starEach [e] X.env=[(false,eval e X.env)]:=by rfl) (hl:(apos.endLine == cpos.line)=true:=by rfl) :
    PE X (.Call (.Attribute o "startswith" apos) [e] [] cpos) (tBM X.K "str" (fun x vs H Q=>∃ z p,x=.str z∧vs=[.str p]∧Q (.bl (Txt.startswith z p)) H) to (tCons te tNil)):=
  pe_bm PySem.F.plainAttrs_str PySem.F.slot_str_startswith PySem.F.type_str_startswith mt_startswith ho (pa_cons he pa_nil h1) hbase (by rw [h1];rfl) hl h1 (by rfl)
theorem pg_tupK (K:PySem.W.Frag) {es:List Expr} {k:Nat} {t:TGs} {n:Nat} {pos:Pos} (hc:X.calm=true) (h:PGs X es t) (hK:X.K=K:=by rfl) (hn:(assignEach es X.env).length=n:=by rfl)
    (hst:(assignEach es X.env).findIdx? (·.1)=none:=by rfl):PG X (.Tuple es k pos) (gTup K n t):=by
  subst hK
  exact pg_tup hc h hn hst
theorem strsAre_of:∀ {ys:List Str} {us:List Value},Vals (ys.map V.str) us→StrsAre us ys
  | [],[],_=>.nil
  | [],_ :: _,h=>nomatch h
  | _ :: _,[],h=>nomatch h
  | y :: r,u :: us,h=>by
    cases h with
    | cons a b=>
      obtain ⟨t,rfl⟩:=a
      exact .cons y t (strsAre_of b)
theorem mt_join:MtR X "str.join" (fun x vs H Q=>∃ z a ys,x=.str z∧vs=[.ref a]∧SqL X.K H a (ys.map V.str)∧(ys.map (·.length)).sum+ys.length * z.length≤16777216∧Q (.str (Txt.join z ys)) H):=by
  intro pins s σ H x xs v us Q I rx rv h
  obtain ⟨z,a,ys,rfl,rfl,hl,hok,q⟩:=h
  obtain ⟨t,rfl⟩:=rx
  obtain ⟨u,rfl,ru⟩:=rv.one
  cases (show u=Value.ref a from ru)
  obtain ⟨its,r,ht,hz⟩:=I.list hl
  exact join_list ht.isList (strsAre_of (by simpa using r)) hok fun t' k=>⟨.str _,H,I.tok k,⟨t',rfl⟩,q⟩
theorem op_mul_str:OpR X (binaryOp .Mult) (fun x y H Q=>∃ z n,x=.str z∧y=.int n∧MulOk z n∧Q (.str (Txt.mul z n)) H):=by
  intro pins s σ H x y v u Q I rx ry h
  obtain ⟨z,n,rfl,rfl,hok,q⟩:=h
  obtain ⟨t,rfl⟩:=rx
  obtain ⟨t',rfl⟩:=ry
  exact SB.mul hok fun t' k=>⟨.str _,H,I.tok k,⟨t',rfl⟩,q⟩
def eqAtJ (xs ys:List V) (j:Nat):Bool:=match xs[j]?,ys[j]? with
  | some x,some y=>eqV x y
  | _,_=>false
def eqVs (xs ys:List V):Bool:=xs.length == ys.length && (List.range xs.length).all (eqAtJ xs ys)
theorem eqVs_ints (ns ms:List Int):eqVs (ns.map V.int) (ms.map V.int)=decide (ns=ms):=by
  rw [Bool.eq_iff_iff]
  unfold eqVs
  simp only [Bool.and_eq_true,beq_iff_eq,List.length_map,List.all_eq_true,List.mem_range,decide_eq_true_eq]
  constructor
  · rintro ⟨h1,h2⟩
    apply List.ext_getElem h1
    intro j a b
    have:=h2 j a
    unfold eqAtJ at this
    rw [List.getElem?_map,List.getElem?_map,List.getElem?_eq_getElem a,List.getElem?_eq_getElem b] at this
    simpa [eqV] using this
  · rintro rfl
    refine ⟨rfl,fun j hj=>?_⟩
    unfold eqAtJ
    rw [List.getElem?_map,List.getElem?_eq_getElem hj]
    simp [eqV]
theorem flat_ints (ns:List Int):(ns.map V.int).all flatV=true:=by
  rw [List.all_eq_true];intro x hx;obtain ⟨n,_,rfl⟩:=List.mem_map.mp hx;rfl
theorem eqAt_items {A:Around} {s:Shared} {xs ys:List V} {us ws:List Value} (r1:Vals xs us) (r2:Vals ys ws) (f1:xs.all flatV=true) (f2:ys.all flatV=true) (j:Nat) (h1:j < us.toArray.size) (h2:j < ws.toArray.size) :
    SeqAt.EqAt A s us.toArray[j] ws.toArray[j] (eqAtJ xs ys j):=by
  have g1:j < xs.length:=by rw [r1.length];simpa using h1
  have g2:j < ys.length:=by rw [r2.length];simpa using h2
  obtain ⟨u,e1,q1⟩:=r1.get (List.getElem?_eq_getElem g1)
  obtain ⟨v,e2,q2⟩:=r2.get (List.getElem?_eq_getElem g2)
  have d1:us.toArray[j]=u:=by
    rw [List.getElem?_eq_getElem (by simpa using h1)] at e1
    simpa using Option.some.inj e1
  have d2:ws.toArray[j]=v:=by
    rw [List.getElem?_eq_getElem (by simpa using h2)] at e2
    simpa using Option.some.inj e2
  rw [d1,d2]
  unfold eqAtJ
  rw [List.getElem?_eq_getElem g1,List.getElem?_eq_getElem g2]
  exact eqAt_V q1 q2 (List.all_eq_true.mp f1 _ (List.getElem_mem g1)) (List.all_eq_true.mp f2 _ (List.getElem_mem g2))
theorem op_eq_lst (hu:X.A.units < cLine):OpR X (compareOp .Eq) (fun x y H Q=>∃ a b xs ys,x=.ref a∧y=.ref b∧SqL X.K H a xs∧SqL X.K H b ys∧xs.all flatV=true∧ys.all flatV=true∧Q (.bl (eqVs xs ys)) H):=by
  intro pins s σ H x y v u Q I rx ry h
  obtain ⟨a,b,xs,ys,rfl,rfl,h1,h2,f1,f2,q⟩:=h
  cases (show v=Value.ref a from rx)
  cases (show u=Value.ref b from ry)
  obtain ⟨us,r1,l1,_⟩:=I.list h1
  obtain ⟨ws,r2,l2,_⟩:=I.list h2
  have e1:=r1.length
  have e2:=r2.length
  by_cases hl:xs.length=ys.length
  · refine SeqAt.eq_listAt (e:=eqAtJ xs ys) l1.isList l2.isList (by simp;omega) hu (fun j g1 g2=>eqAt_items r1 r2 f1 f2 j g1 g2) ⟨.bl _,H,I,rfl,?_⟩
    have:eqVs xs ys=(List.range us.toArray.size).all (eqAtJ xs ys):=by
      unfold eqVs
      rw [List.size_toArray,← e1,beq_iff_eq.mpr hl,Bool.true_and]
    rw [← this];exact q
  · refine SeqAt.eq_list_lengthsAt l1.isList l2.isList (by simp;omega) hu ⟨.bl _,H,I,rfl,?_⟩
    have:eqVs xs ys=false:=by
      unfold eqVs
      have:(xs.length == ys.length)=false:=by simpa using hl
      rw [this];rfl
    rw [this] at q;exact q
end
section
variable {NL:List Str} {ix:List Nat} {g:TG} {tt:TT} {te:TE} {σ:St} {H1:Hp} {Qs:Hp→Prop} {acc:Addr}
theorem comp_lst {K:PySem.W.Frag} {a:Addr} {xs:List V} (hn:xs.length < 1000) (Pv:Nat→List V→Hp→Prop)
    (hl:∀ i ys H2,Pv i ys H2→SqL K H2 a xs) (hacc:∀ i ys H2,Pv i ys H2→H2 acc=some (.lst ys)∧ys.length≤i) (h0:Pv 0 [] (upd H1 acc (.lst []))) (hstop:∀ ys H2,Pv xs.length ys H2→Qs H2)
    (hturn:∀ i x ys H2,xs[i]?=some x→Pv i ys H2→g x (comp0 NL ix σ) H2 fun σ' H4=>σ'.drop NL.length=ix.map (fun j=>σ.getD j none)∧tt σ' H4 fun b H5=>
      if b=true then te σ' H5 fun v H6=>H6 acc=some (.lst ys)∧Pv (i+1) (ys++[v]) (upd H6 acc (.lst (ys++[v]))) else Pv (i+1) ys H5) :
    ∃ W:Nat→Nat→List V→Hp→Prop,(∃ m,W 0 m [] (upd H1 acc (.lst []))) ∧
    ∀ i m ys H2,W i m ys H2→H2 acc=some (.lst ys)∧ys.length < sizeLine ∧
      (((Itl K a).stop i H2∧Qs H2)∨((Itl K a).go i H2∧∃ N:List V→Hp→Prop,(∀ ys' H',N ys' H'→∃ m',m' < m∧W (i+1) m' ys' H') ∧
        ∀ x H3,(Itl K a).yld i H2 x H3→g x (comp0 NL ix σ) H3 fun σ' H4=>σ'.drop NL.length=ix.map (fun j=>σ.getD j none)∧tt σ' H4 fun b H5=>
          if b=true then te σ' H5 fun v H6=>H6 acc=some (.lst ys)∧N (ys++[v]) (upd H6 acc (.lst (ys++[v]))) else N ys H5)):=by
  refine comp_by xs.length hn Pv hacc h0 (fun ys H2 hp=>⟨⟨xs,hl _ _ _ hp,Nat.le_refl _⟩,hstop ys H2 hp⟩) fun i ys H2 hi hp=>?_
  have hs:=hl _ _ _ hp
  refine ⟨⟨xs,xs[i],hs,List.getElem?_eq_getElem hi⟩,?_⟩
  rintro x H3 ⟨rfl,hx⟩
  exact hturn i x ys H3 (hx xs hs) hp
end
theorem kit_same (K:PySem.W.Frag) (T:String):PySem.W.kitOne K (.type T) (.type T)=some true:=by
  unfold PySem.W.kitOne
  rw [if_pos (beq_self_eq_true _)]
theorem foldl_repN (xs:Array Nat):∀ (n:Nat) (acc:Array Nat),((List.replicate n xs).foldl (·++·) acc).size=acc.size+n * xs.size
  | 0,acc=>by simp
  | n+1,acc=>by
    rw [List.replicate_succ,List.foldl_cons,foldl_repN xs n,Array.size_append,Nat.succ_mul]
    omega
theorem mul_len {c:Nat} {n:Int} (h:0≤n):(Txt.mul ⟨#[c]⟩ n).cps.toList.length=n.toNat:=by
  unfold Txt.mul
  split
  · have:n.toNat=0:=by omega
    rw [this];rfl
  · split
    · rename_i h1 h2
      have h3:n=1:=by
        simp only [Bool.or_eq_true,beq_iff_eq] at h2
        rcases h2 with h2 | h2
        · exact h2
        · have h4:(⟨#[c]⟩:Str).length=1:=rfl
          omega
      subst h3;rfl
    · rw [Array.length_toList]
      show (List.foldl (·++·) #[] (List.replicate n.toNat #[c])).size=n.toNat
      rw [foldl_repN]
      simp
abbrev Deck (H:Hp) (p:Addr) (c:Int):Prop:=∃ x y z:Int,H p=some (.lst [.int x,.int y,.int z])∧0≤z∧z≤c
structure Kd (p:Addr) (c:Int) (H H':Hp):Prop where
  deck:Deck H' p c
  keep:∀ b o,b≠p→H b=some o→H' b=some o
section
variable {p q:Addr} {H H1 H2:Hp} {o:HO} {c d:Int}
theorem Deck.mono (h:Deck H p c) (e:c≤d):Deck H p d:=let ⟨x,y,z,a,b,f⟩:=h;⟨x,y,z,a,b,Int.le_trans f e⟩
theorem Kd.mono (h:Kd p c H H1) (e:c≤d):Kd p d H H1:=⟨h.deck.mono e,h.keep⟩
theorem Kd.refl (h:Deck H p c):Kd p c H H:=⟨h,fun _ _ _ e=>e⟩
theorem Kd.trans (a:Kd p c H H1) (b:Kd p d H1 H2):Kd p d H H2:=⟨b.deck,fun k u hc e=>b.keep k u hc (a.keep k u hc e)⟩
theorem Kd.new (a:Kd p c H H1) (hq:H1 q=none):Kd p c H (upd H1 q o):=by
  obtain ⟨⟨x,y,z,e,r⟩,k⟩:=a
  refine ⟨⟨x,y,z,by rw [upd_ne (ne_of_none e hq)];exact e,r⟩,fun b u hc h=>?_⟩
  have:=k b u hc h
  rw [upd_ne (ne_of_none this hq)];exact this
theorem Kd.write (a:Kd p c H H1) (hq:H q=none) (hp:q≠p):Kd p c H (upd H1 q o):=by
  obtain ⟨⟨x,y,z,e,r⟩,k⟩:=a
  refine ⟨⟨x,y,z,by rw [upd_ne (Ne.symm hp)];exact e,r⟩,fun b u hc h=>?_⟩
  rw [upd_ne (ne_of_none h hq)];exact k b u hc h
theorem Deck.ne (h:Deck H p c) (hq:H q=none):q≠p:=by
  obtain ⟨x,y,z,e,_⟩:=h
  exact Ne.symm (ne_of_none e hq)
theorem Kd.same (a:Kd p c H H1) (s:Same H1 H2):Kd p c H H2:=by
  obtain ⟨⟨x,y,z,e,r⟩,k⟩:=a
  exact ⟨⟨x,y,z,s _ _ e,r⟩,fun b u hc h=>s _ _ (k b u hc h)⟩
theorem Kd.fresh (a:Kd p c H H1) (hq:H1 q=none):H q=none:=by
  cases e:H q with
  | none=>rfl
  | some u=>
    have:=a.keep q u (a.deck.ne hq) e
    rw [hq] at this;cases this
theorem ne_deck {o:HO} (h:Deck H p c) (e:H q=some o) (ho:∀ x y z:Int,o≠.lst [.int x,.int y,.int z]):q≠p:=fun k=>by
  obtain ⟨x,y,z,hp,_⟩:=h
  subst k
  rw [hp] at e
  exact ho x y z (Option.some.inj e).symm
end
end L2
namespace L2
open PySem PySem.Spec PyProof.Rows
section
variable {X:Cx}
theorem op_in_seqK (K:PySem.W.Frag) (hK:X.K=K:=by rfl):OpR X (compareOp .In) (rIn K false):=by
  subst hK;exact op_in_seq
end
end L2
namespace L2
open PySem PySem.Spec PyProof.Rows
section
variable {X:Cx}
theorem op_ne_lst (hu:X.A.units < cLine):OpR X (compareOp .NotEq) (fun x y H Q=>∃ a b xs ys,x=.ref a∧y=.ref b∧SqL X.K H a xs∧SqL X.K H b ys∧xs.all flatV=true∧ys.all flatV=true∧Q (.bl (!eqVs xs ys)) H):=by
  intro pins s σ H x y v u Q I rx ry h
  obtain ⟨a,b,xs,ys,rfl,rfl,h1,h2,f1,f2,q⟩:=h
  cases (show v=Value.ref a from rx)
  cases (show u=Value.ref b from ry)
  obtain ⟨us,r1,l1,_⟩:=I.list h1
  obtain ⟨ws,r2,l2,_⟩:=I.list h2
  have e1:=r1.length
  have e2:=r2.length
  by_cases hl:xs.length=ys.length
  · refine SeqAt.RcNeAt.lists (e:=eqAtJ xs ys) l1.isList l2.isList (by simp;omega) hu (fun j g1 g2=>eqAt_items r1 r2 f1 f2 j g1 g2) _ _ _ _ ⟨.bl _,H,I,rfl,?_⟩
    have:eqVs xs ys=(List.range us.toArray.size).all (eqAtJ xs ys):=by
      unfold eqVs
      rw [List.size_toArray,← e1,beq_iff_eq.mpr hl,Bool.true_and]
    rw [← this];exact q
  · refine SeqAt.RcNeAt.lists_lengths l1.isList l2.isList (by simp;omega) hu _ _ _ _ ⟨.bl _,H,I,rfl,?_⟩
    have:eqVs xs ys=false:=by
      unfold eqVs
      have:(xs.length == ys.length)=false:=by simpa using hl
      rw [this];rfl
    rw [this] at q;exact q
end
end L2
namespace L2
open PySem PySem.Spec PyProof.Rows
section
variable {X:Cx}
theorem strsAre_get {vs:List Value} {ss:List Str} (h:StrsAre vs ss):Vals (ss.map V.str) vs:=by
  induction h with
  | nil=>exact .nil
  | cons y t _ ih=>exact .cons ⟨t,rfl⟩ ih
theorem range_all (bs:List Bool):(List.range bs.length).all (fun i=>bs.getD i true)=bs.all id:=by
  rw [Bool.eq_iff_iff,List.all_eq_true,List.all_eq_true]
  constructor
  · intro h b hb
    obtain ⟨i,hi,rfl⟩:=List.getElem_of_mem hb
    have:=h i (List.mem_range.mpr hi)
    rw [List.getD_eq_getElem?_getD,List.getElem?_eq_getElem hi] at this
    exact this
  · intro h i hi
    have hi':=List.mem_range.mp hi
    rw [List.getD_eq_getElem?_getD,List.getElem?_eq_getElem hi']
    exact h _ (List.getElem_mem hi')
theorem call_all (hc:X.calm=true):CallR X (.builtin "all") (fun vs H Q=>∃ (a:Addr) (bs:List Bool),vs=[.ref a]∧SqL X.K H a (bs.map V.bl)∧Q (.bl (bs.all id)) H):=by
  intro pins s σ H xs us Q I r h
  obtain ⟨a,bs,rfl,hl,q⟩:=h
  obtain ⟨u,rfl,ru⟩:=vals1 r
  cases (show u=Value.ref a from ru)
  obtain ⟨its,rv,ht,hz⟩:=I.list hl
  have hlen:=rv.length
  rw [List.length_map] at hlen
  have hh:X.A.in1.handled=none:=I.ok.hd hc
  have hlt:a < s.heap.objs.size:=by obtain ⟨o,e,_⟩:=ht.isList;exact Heap.lt_size e
  refine call_all_walk (wpAny_pyIter_list ht.isList ⟨s.heap.objs.size,_,_,_,_,_,fun i=>bs.getD i true,rfl,Walks.list hh s.heap.objs.size a (Nat.ne_of_lt hlt) its.toArray,?_,?_,?_⟩)
  · exact ⟨⟨_,Heap.get?_push_size _ rfl,rfl,rfl⟩,Heap.IsList.push ht.isList _⟩
  · intro i v s' Q' E' hv hQ
    have hv':its[i]?=some v:=by simpa using hv
    have hi:i < (bs.map V.bl).length:=by rw [List.length_map,hlen];exact (List.getElem?_eq_some_iff.mp hv').1
    obtain ⟨u',e1,e2⟩:=rv.get (List.getElem?_eq_getElem hi)
    rw [hv'] at e1
    cases e1
    rw [List.getElem_map] at e2
    cases (show v=Value.bool _ from e2)
    refine wpAny_truthy_bool ?_
    have hb:bs.getD i true=bs[i]'(by simpa using hi):=by rw [List.getD_eq_getElem?_getD,List.getElem?_eq_getElem (by simpa using hi)];rfl
    rw [← hb]
    exact hQ
  · intro h' tk hk
    refine ⟨.bl (bs.all id),H,?_,?_,q⟩
    · exact I.kept (t':=tk) fun b o e=>hk b o (by simp;exact Nat.ne_of_lt (Heap.lt_size e)) (Heap.get?_push_of_some _ e)
    · show Value.bool _=Value.bool _
      rw [← range_all,hlen,List.size_toArray]
end
end L2
namespace L2
open PySem.W PyProof.Rows
section
variable {α β:Type} {n:Nat} {lt:Nat→Nat→Bool}
structure TotB (n:Nat) (lt:Nat→Nat→Bool):Prop where
  asym:∀ i j,lt i j=true→lt j i=false
  tr:∀ i j k,lt j i=false→lt k j=false→lt k i=false
  tot:∀ i j,i < n→j < n→lt i j=false→lt j i=false→i=j
def PermN (n:Nat) (p:Array Nat):Prop:=p.toList.Perm (List.range n)
theorem PermN.below {p:Array Nat} (h:PermN n p) (h0:0 < n) (k:Nat):p.getD k 0 < n:=by
  rw [Array.getD_eq_getD_getElem?]
  cases e:p[k]? with
  | none=>exact h0
  | some x=>
    have:x∈p.toList:=by
      have:=Array.mem_of_getElem? e
      exact Array.mem_toList_iff.mpr this
    exact List.mem_range.mp ((List.Perm.mem_iff h).mp this)
variable (o:TotB n lt)
include o
end
open PySem PySem.Spec
def shV:V→Nat
  | .int _=>1
  | .str _=>2
  | _=>0
def ltV:V→V→Bool
  | .int i,.int j=>decide (i < j)
  | .str a,.str b=>decide (a.cps.toList < b.cps.toList)
  | _,_=>false
def lexV:List V→List V→Bool
  | x :: xs,y :: ys=>if x=y then lexV xs ys else ltV x y
  | [],_ :: _=>true
  | _,_=>false
theorem str_eq {a b:Str} (h:a.cps.toList=b.cps.toList):a=b:=by
  obtain ⟨x⟩:=a;obtain ⟨y⟩:=b
  have:x=y:=Array.toList_inj.mp h
  rw [this]
theorem two_kinds {x y:V} (hs:shV x=shV y) (h0:shV x≠0):(∃ i j,x=.int i∧y=.int j)∨∃ a b,x=.str a∧y=.str b:=by
  cases x <;> cases y <;> simp [shV] at hs h0 ⊢
theorem ltV_asym {x y:V} (h:ltV x y=true):ltV y x=false:=by
  cases x <;> cases y <;> simp [ltV] at h ⊢
  · omega
  · exact List.not_lt.mp (List.lt_asymm h)
theorem ltV_tot {x y:V} (hs:shV x=shV y) (h0:shV x≠0) (h1:ltV x y=false) (h2:ltV y x=false):x=y:=by
  rcases two_kinds hs h0 with ⟨i,j,rfl,rfl⟩ | ⟨a,b,rfl,rfl⟩
  · have h1':¬ i < j:=of_decide_eq_false h1
    have h2':¬ j < i:=of_decide_eq_false h2
    rw [show i=j by omega]
  · have h1':¬ a.cps.toList < b.cps.toList:=of_decide_eq_false h1
    have h2':¬ b.cps.toList < a.cps.toList:=of_decide_eq_false h2
    rw [str_eq (List.le_antisymm (List.not_lt.mp h2') (List.not_lt.mp h1'))]
theorem ltV_tr {x y z:V} (hs:shV x=shV y) (ht:shV y=shV z) (h0:shV x≠0) (h1:ltV y x=false) (h2:ltV z y=false):ltV z x=false:=by
  rcases two_kinds hs h0 with ⟨i,j,rfl,rfl⟩ | ⟨a,b,rfl,rfl⟩
  · rcases two_kinds ht (by simp [shV]) with ⟨_,k,e,rfl⟩ | ⟨_,_,e,_⟩
    · have h1':¬ j < i:=of_decide_eq_false h1
      cases e
      have h2':¬ k < j:=of_decide_eq_false h2
      exact decide_eq_false (by omega)
    · cases e
  · rcases two_kinds ht (by simp [shV]) with ⟨_,_,e,_⟩ | ⟨_,c,e,rfl⟩
    · cases e
    · cases e
      have h1':¬ b.cps.toList < a.cps.toList:=of_decide_eq_false h1
      have h2':¬ c.cps.toList < b.cps.toList:=of_decide_eq_false h2
      exact decide_eq_false (List.not_lt.mpr (List.le_trans (List.not_lt.mp h1') (List.not_lt.mp h2')))
theorem lexV_asym:∀ (xs ys:List V),lexV xs ys=true→lexV ys xs=false
  | x :: xs,y :: ys,h=>by
    unfold lexV at h ⊢
    by_cases e:x=y
    · rw [if_pos e] at h;rw [if_pos e.symm];exact lexV_asym xs ys h
    · rw [if_neg e] at h;rw [if_neg (Ne.symm e)];exact ltV_asym h
  | [],_ :: _,_=>rfl
  | [],[],h=>by cases h
  | _ :: _,[],h=>by cases h
theorem lexV_tot:∀ (xs ys:List V),xs.map shV=ys.map shV→0 ∉ xs.map shV→lexV xs ys=false→lexV ys xs=false→xs=ys
  | x :: xs,y :: ys,hs,h0,h1,h2=>by
    simp only [List.map_cons,List.cons.injEq] at hs
    simp only [List.map_cons,List.mem_cons,not_or] at h0
    unfold lexV at h1 h2
    by_cases e:x=y
    · rw [if_pos e] at h1;rw [if_pos e.symm] at h2
      rw [e,lexV_tot xs ys hs.2 h0.2 h1 h2]
    · rw [if_neg e] at h1;rw [if_neg (Ne.symm e)] at h2
      exact absurd (ltV_tot hs.1 (Ne.symm h0.1) h1 h2) e
  | [],[],_,_,_,_=>rfl
  | [],_ :: _,hs,_,_,_=>by cases hs
  | _ :: _,[],hs,_,_,_=>by cases hs
theorem lexV_tr:∀ (xs ys zs:List V),xs.map shV=ys.map shV→ys.map shV=zs.map shV→0 ∉ xs.map shV→lexV ys xs=false→lexV zs ys=false→lexV zs xs=false
  | x :: xs,y :: ys,z :: zs,hs,ht,h0,h1,h2=>by
    simp only [List.map_cons,List.cons.injEq] at hs ht
    simp only [List.map_cons,List.mem_cons,not_or] at h0
    unfold lexV at h1 h2 ⊢
    by_cases e:y=x
    · rw [if_pos e] at h1
      by_cases f:z=y
      · rw [if_pos f] at h2;rw [if_pos (f.trans e)];exact lexV_tr xs ys zs hs.2 ht.2 h0.2 h1 h2
      · rw [if_neg f] at h2;rw [if_neg (fun q=>f (q.trans e.symm)),← e];exact h2
    · rw [if_neg e] at h1
      by_cases f:z=y
      · rw [if_pos f] at h2;rw [if_neg (fun q=>e (f.symm.trans q)),f];exact h1
      · rw [if_neg f] at h2
        by_cases g:z=x
        · exact absurd (ltV_tot hs.1.symm (by rw [← hs.1];exact Ne.symm h0.1) h1 (by rw [← g];exact h2)) e
        · rw [if_neg g];exact ltV_tr hs.1 ht.1 (Ne.symm h0.1) h1 h2
  | [],[],[],_,_,_,_,_=>rfl
  | [],_ :: _,_,hs,_,_,_,_=>by cases hs
  | _ :: _,[],_,hs,_,_,_,_=>by cases hs
  | [],[],_ :: _,_,ht,_,_,_=>by cases ht
  | _ :: _,_ :: _,[],_,ht,_,_,_=>by cases ht
structure Keys (n:Nat) (K:Nat→List V) (sh:List Nat):Prop where
  shp:∀ i,(K i).map shV=sh
  ne:sh≠[]
  z:0 ∉ sh
  inj:∀ i j,i < n→j < n→K i=K j→i=j
theorem Keys.tot {n:Nat} {K:Nat→List V} {sh:List Nat} (k:Keys n K sh):TotB n (fun i j=>lexV (K i) (K j)) where
  asym:=fun i j h=>lexV_asym _ _ h
  tr:=fun i j l h1 h2=>lexV_tr _ _ _ ((k.shp i).trans (k.shp j).symm) ((k.shp j).trans (k.shp l).symm) (by rw [k.shp];exact k.z) h1 h2
  tot:=fun i j hi hj h1 h2=>k.inj i j hi hj (lexV_tot _ _ ((k.shp i).trans (k.shp j).symm) (by rw [k.shp];exact k.z) h1 h2)
section
variable {prog:Program} {w:World} {A:Around} {E:Value→Shared→Prop} {s:Shared} {Q:Bool→Shared→Prop}
variable {n:Nat} {K:Nat→List V} {sh:List Nat} {ks:List Value}
end
end L2
namespace L2
open PySem PySem.Spec PyProof.Rows PySem.W
section
variable {prog:Program} {w:World} {A:Around} {E:Value→Shared→Prop} {s:Shared} {K:Nat→List V} {sh:List Nat} {vs:List Value}
end
section
variable {X:Cx}
end
end L2
namespace L2
open PySem PySem.Spec PyProof.Rows PySem.W
section
variable {X:Cx} {pins:List (Addr × Obj)} {σ:St} {H:Hp} {s:Shared}
end
end L2
namespace L2
open PySem PySem.Spec PyProof.Rows PySem.W
abbrev Lm:=Addr × Pos × Str
section
variable {P q:Addr} {lp:Pos} {qual:Str} {H H1 H2:Hp} {o:HO} {ls:List Lm} {xs:List V}
end
section
variable {X:Cx} {pins:List (Addr × Obj)} {σ:St} {H:Hp} {s:Shared}
end
end L2
namespace L2
open PySem PySem.Spec PyProof.Rows PySem.W
section
variable {prog:Program} {w:World} {A:Around} {E:Value→Shared→Prop} {s:Shared}
theorem collect_rng {r:Addr} {lo hi:Int} {t u v:Tok} {n:Nat} {Q:List Value→Shared→Prop} (hh:A.handled=none) (hr:IsRange s.heap r lo hi 1 t u v) (hsmall:Builtin.Range.small lo hi 1=true) (hn:Builtin.Range.rangeSize lo hi 1=n) (hlen:n≤2 ^ 24)
    (h:∀ (h':Heap) (tk:Nat) (acc:Array Value),(∀ b o,s.heap.get? b=some o→h'.get? b=some o)→s.heap.objs.size≤h'.objs.size→ItemsOf (fun i v=>∃ t,v=.int (lo+i * 1) t) acc n→Q acc.toList { s with heap:=h',toks:=tk }) :
    wpAny (model prog w) A (collect (.ref r)) Q E s:=by
  unfold collect
  refine wpAny_bind (wpAny_runValue (codeAny_builtin F.entry_proto_collect ?_))
  rw [Around.under_plainId F.plain_proto_collect _]
  show wpAny _ A.in1 (newList [] >>= fun l=>again (.builtin "list.__iadd__" ⟨[l,.ref r],[]⟩)) _ _ s
  refine wpAny_bind (wpAny_newObj_type ?_)
  refine wpAny_pure ⟨plainId_quiet F.plain_list_iadd _,codeAny_builtin F.entry_list_iadd ?_⟩
  rw [Around.under_plainId F.plain_list_iadd _]
  show wpAny _ A.in1 (Builtin.List.listExtendWith (.ref s.heap.objs.size) (.ref r) (.ref s.heap.objs.size)) _ _ _
  have hS₁:(s.heap.push { cls:=.type "list", data:=.seq ([]:List Value).toArray }).get? s.heap.objs.size=some { cls:=.type "list", data:=.seq #[] 0 }:=Heap.get?_push_size _ rfl
  refine wpAny_mono (wpAny_extend_range (s:={ s with heap:=s.heap.push { cls:=.type "list", data:=.seq ([]:List Value).toArray } }) (R:=fun r' s'=>r'=.ok (.ret (.ref s.heap.objs.size))∧∃ h' tk acc' c',s'={ s with heap:=h',toks:=tk }∧(∀ b o,b≠s.heap.objs.size→(s.heap.push { cls:=.type "list", data:=.seq ([]:List Value).toArray }).get? b=some o→h'.get? b=some o) ∧
      h'.get? s.heap.objs.size=some { cls:=.type "list", dict:=none,data:=.seq acc' c',slots:=#[] }∧ItemsOf (fun i v=>∃ t,v=.int (lo+i * 1) t) acc' n)
    hh (Heap.get?_push_of_some _ hr) hsmall hn hlen s.heap.objs.size (.ref s.heap.objs.size) 0 hS₁ fun h' tk acc' c' kp hS' hacc=>⟨rfl,h',tk,acc',c',rfl,kp,hS',hacc⟩) (fun fin s' hf=>?_) (fun e s' hf=>?_)
  · have key:∀ {f:Flow} {s':Shared},((Except.ok f:Result)=.ok (.ret (.ref s.heap.objs.size))∧∃ h' tk acc' c',s'={ s with heap:=h',toks:=tk }∧(∀ b o,b≠s.heap.objs.size→(s.heap.push { cls:=.type "list", data:=.seq ([]:List Value).toArray }).get? b=some o→h'.get? b=some o) ∧
      h'.get? s.heap.objs.size=some { cls:=.type "list", dict:=none,data:=.seq acc' c',slots:=#[] }∧ItemsOf (fun i v=>∃ t,v=.int (lo+i * 1) t) acc' n)→f=.ret (.ref s.heap.objs.size)∧wpAny (model prog w) A (do
          let __do_lift ← load s.heap.objs.size
          match __do_lift.data with
            | .seq xs _=>pure xs.toList
            | _=>unsupported "internal:collect") Q E s':=fun {f s'} hz=>by
      obtain ⟨e1,h',tk,acc',c',rfl,kp,hS',hacc⟩:=hz
      refine ⟨by injection e1,?_⟩
      refine wpAny_bind (wpAny_load (s:={ s with heap:=h',toks:=tk }) hS' ?_)
      exact wpAny_pure (h h' tk acc' (fun b o e=>kp b o (Nat.ne_of_lt (Heap.lt_size e)) (Heap.get?_push_of_some _ e)) (Nat.le_of_lt (Heap.lt_size hS')) hacc)
    cases fin with
    | done f=>
      obtain ⟨rfl,hw⟩:=key hf
      exact hw
    | again c'=>
      refine ⟨hf.1,codeAny_mono hf.2 fun r' s'' hr'=>?_⟩
      cases r' with
      | error e=>exact absurd hr'.1 (by intro z;cases z)
      | ok f=>
        obtain ⟨rfl,hw⟩:=key hr'
        exact hw
  · exact absurd hf.1 (by intro z;cases z)
end
theorem vals_at:∀ {xs:List V} {us:List Value},xs.length=us.length→(∀ (i:Nat) (x:V) (u:Value),xs[i]?=some x→us[i]?=some u→RelV x u)→Vals xs us
  | [],[],_,_=>.nil
  | [],_ :: _,h,_=>by cases h
  | _ :: _,[],h,_=>by cases h
  | x :: xs,u :: us,h,k=>.cons (k 0 x u rfl rfl) (vals_at (by simpa using h) fun i y v a b=>k (i+1) y v (by simpa using a) (by simpa using b))
section
variable {X:Cx}
def tRng1 (ta:TA):TE:=fun σ H Q=>ta σ H fun vs H1=>∃ j:Int,vs=[.int j]∧∀ r,H1 r=none→Q (.ref r) (upd H1 r (.rng 0 j))
theorem pe_rng1 {a:Expr} {ta:TA} {p pos:Pos} (hg:Gl X "range") (hm:X.mg "range" = none) (ha:PA X [a] ta) (hs:starEach [a] X.env=[(false,eval a X.env)]:=by rfl):PE X (.Call (.Name "range" p) [a] [] pos) (tRng1 ta):=by
  intro pins s σ H Q I h
  refine Call_ (ld_blt I hg hm boot_range (PyProof.Rows.callWith_type1 (thn (ha pos pins s σ H _ I h) fun us s1 ⟨vs,H1,I1,r1,q1⟩=>?_) hs rfl))
  obtain ⟨j,e,q⟩:=q1
  subst e
  cases r1 with
  | cons r rr=>
    cases rr
    obtain ⟨t,rfl⟩:=r
    exact call_range_1 ⟨.ref s1.heap.objs.size,_,I1.laid (o:=.rng 0 j) (t':=s1.toks+1+1) (fun b o e=>Heap.get?_push_of_some _ e) (Nat.le_refl _) ⟨_,_,_,Heap.get?_push_size _ rfl⟩,rfl,q _ I1.fresh⟩
end
end L2
namespace L2
open PySem PySem.Spec PyProof.Rows PySem.W
end L2
namespace L2
open PySem PySem.Spec PyProof.Rows PySem.W
theorem ix_listK {X:Cx} (K:PySem.W.Frag) (hK:X.K=K:=by rfl):IxR X (rIxL K):=by
  subst hK;exact ix_list
theorem call_isinstK {X:Cx} (K:PySem.W.Frag) (hK:X.K=K:=by rfl):CallR X (.builtin "isinstance") (fun vs H Q=>∃ x t T b,vs=[x,V.ty T]∧TyOf K H x t∧PySem.W.kitOne K t (Value.type T)=some b∧Q (V.bl b) H):=by
  subst hK;exact call_isinst
end L2
namespace L2
open PySem PySem.Spec PyProof.Rows PySem.W
section
variable {X:Cx} {k:Nat}
theorem ix_tupK (K:PySem.W.Frag) (hK:X.K=K:=by rfl):IxR X (rIxT K):=by
  subst hK;exact ix_tup
end
end L2
namespace L2
open PySem PySem.Spec PyProof.Rows PySem.W
end L2
namespace L2
open PySem PySem.Spec PyProof.Rows PySem.W
section
variable {X:Cx} {k:Nat}
end
end L2
namespace L2
open PySem PySem.Spec PyProof.Rows PySem.W
section
variable {X:Cx}
abbrev rngV (lo:Int) (n:Nat):List V:=(List.range n).map fun i:Nat=>V.int (lo+(i:Int))
theorem rng_vals {lo:Int} {n:Nat} {acc:Array Value} (hacc:ItemsOf (fun i v=>∃ t,v=.int (lo+i * 1) t) acc n):Vals (rngV lo n) acc.toList:=by
  have la:acc.toList.length=n:=by rw [Array.length_toList];exact hacc.1
  refine vals_at (by rw [List.length_map,List.length_range,la]) ?_
  intro i x u hx' hu
  rw [List.getElem?_map] at hx'
  cases e1:(List.range n)[i]? with
  | none=>rw [e1] at hx';cases hx'
  | some j=>
    rw [e1] at hx'
    have ej:j=i:=by
      obtain ⟨a,b⟩:=List.getElem?_eq_some_iff.mp e1
      rw [List.getElem_range] at b;exact b.symm
    subst ej
    cases hx'
    obtain ⟨tt,e2⟩:=hacc.2 j u (by rw [← Array.getElem?_toList];exact hu)
    rw [Int.mul_one] at e2
    exact ⟨tt,e2⟩
end
end L2
namespace L2
open PySem PySem.Spec PyProof.Rows PySem.W
section
variable {X:Cx} {k:Nat}
theorem op_notIn_seqK (K:PySem.W.Frag) (hK:X.K=K:=by rfl):OpR X (compareOp .NotIn) (rIn K true):=by
  subst hK;exact op_notIn_seq
theorem call_len_seqK (K:PySem.W.Frag) (hK:X.K=K:=by rfl):CallR X (.builtin "len") (fun xs H Q=>∃ p ys,xs=[.ref p]∧(SqL K H p ys∨SqT K H p ys)∧Q (.int (ys.length:Nat)) H):=by
  subst hK;exact call_len_seq
end
end L2
namespace L2
open PySem PySem.Spec PyProof.Rows PySem.W
section
variable {X:Cx} {k:Nat}
theorem intsAre_vals {vs:List Value} {ns:List Int} (h:IntsAre vs ns):Vals (ns.map V.int) vs:=by
  induction h with
  | nil=>exact .nil
  | cons y t _ ih=>exact .cons ⟨t,rfl⟩ ih
end
end L2
namespace L2
open PySem PySem.Spec PyProof.Rows PySem.W
def keyOf (e:Int × Value):Str:=match e.2 with | .str x _=>x | _=>Str.empty
structure SetS (w:World) (led:Bool) (es:Array (Int × Value)) (t:SetTable) (S:List Str):Prop where
  ent:∀ e∈es.toList,∃ x tk,e=(hashStr w x,Value.str x tk)
  nd:(es.toList.map keyOf).Nodup
  mem:∀ x,x∈es.toList.map keyOf ↔ x∈S
  fit:t.fits es.size=true
  led:t.led=led
  pl:es.size=0∨t.plain=false
theorem relay_led (t:SetTable) (es:Array (Int × Value)) (n:Nat):(relayAll t es n).2.1.led=t.led∧(t.plain=false→(relayAll t es n).2.1.plain=false):=by
  unfold relayAll
  cases e:t.relaid (es.map (·.1)) n with
  | none=>exact ⟨rfl,fun _=>rfl⟩
  | some p=>
    obtain ⟨t',order⟩:=p
    dsimp only
    have hl:t'.led=t.led∧t'.plain=t.plain:=by
      unfold SetTable.relaid SetTable.laid at e
      cases e2:SetTable.layClean (SetTable.sizeAbove n - 1) (es.map (·.1)) with
      | none=>rw [e2] at e;cases e
      | some o=>
        rw [e2] at e
        injection e with e
        injection e with e1 e3
        rw [← e1]
        exact ⟨rfl,rfl⟩
    split
    · exact ⟨hl.1,fun h=>by rw [hl.2];exact h⟩
    · exact ⟨rfl,fun _=>rfl⟩
theorem or_led (t:SetTable) (n:Nat):(t.orStandIn n).led=t.led:=by
  unfold SetTable.orStandIn
  split <;> rfl
theorem lay_led (t:SetTable) (es:Array (Int × Value)) (h:Int) (x:Value):(layNew t es h x).2.1.led=t.led:=by
  unfold layNew
  cases e:t.freeSlot h with
  | none=>rfl
  | some p=>
    obtain ⟨slot,wd⟩:=p
    exact or_led _ _
theorem keyOf_perm {a b:List (Int × Value)} (p:a.Perm b):(a.map keyOf).Perm (b.map keyOf):=p.map _
theorem SetS.grow {w:World} {led:Bool} {es es':Array (Int × Value)} {t t':SetTable} {S:List Str} {x:Str} {tk:Tok} (h:SetS w led es t S) (nx:x ∉ S) (p:es'.toList.Perm (es.push (hashStr w x,.str x tk)).toList) (f:t'.fits es'.size=true) (l:t'.led=led) (q:t'.plain=false):SetS w led es' t' (S++[x]) where
  ent:=fun e he=>by
    have:=p.mem_iff.mp he
    rw [Array.toList_push] at this
    rcases List.mem_append.mp this with z | z
    · exact h.ent e z
    · exact ⟨x,tk,List.mem_singleton.mp z⟩
  nd:=by
    rw [(keyOf_perm p).nodup_iff,Array.toList_push,List.map_append,List.nodup_append]
    refine ⟨h.nd,by simp,fun a ha b hb=>?_⟩
    have hb':b=x:=by simpa [keyOf] using hb
    subst hb'
    exact fun e=>nx (by rw [← e];exact (h.mem a).mp ha)
  mem:=fun y=>by
    rw [(keyOf_perm p).mem_iff,Array.toList_push,List.map_append,List.mem_append,List.mem_append,h.mem y]
    simp [keyOf]
  fit:=f
  led:=l
  pl:=.inr q
theorem SetS.relay {w:World} {led:Bool} {es:Array (Int × Value)} {t:SetTable} {S:List Str} (h:SetS w led es t S) (q:t.plain=false) (n:Nat):SetS w led (relayAll t es n).1 (relayAll t es n).2.1 S where
  ent:=fun e he=>h.ent e ((relayAll_perm t es n).mem_iff.mp he)
  nd:=by rw [(keyOf_perm (relayAll_perm t es n)).nodup_iff];exact h.nd
  mem:=fun y=>by rw [(keyOf_perm (relayAll_perm t es n)).mem_iff];exact h.mem y
  fit:=relayAll_fits t es n
  led:=(relay_led t es n).1.trans h.led
  pl:=.inr ((relay_led t es n).2 q)
structure SetA (w:World) (led:Bool) (h:Heap) (a:Addr) (S:List Str) (n:Nat):Prop where
  ex:∃ es ep t,h.get? a=some { cls:=.type "set", data:=.set es ep t }∧SetS w led es t S∧es.size≤n
section
variable {prog:Program} {w:World} {A:Around} {E:Value→Shared→Prop} {s:Shared}
theorem store_set {a:Addr} {es es':Array (Int × Value)} {ep:Nat} {t t':SetTable} {Q:Unit→Shared→Prop} (ha:s.heap.get? a=some { cls:=.type "set", data:=.set es ep t }) (hz:es'.size≤sizeLine)
    (h:∀ h',Heap.SameBut a s.heap h'→h'.get? a=some { cls:=.type "set", data:=.set es' (ep+1) t' }→Q () { s with heap:=h' }):wpAny (model prog w) A (storeSet a es' t') Q E s:=by
  unfold storeSet
  refine wpAny_bind (wpAny_load ha ?_)
  dsimp only
  rw [if_neg (by omega)]
  refine wpAny_update ha (h _ (Heap.SameBut.update ..) ?_)
  rw [Heap.get?_update_self _ ha rfl]
  rfl
theorem gave_ok {b:Bool} {Q:Unit→Shared→Prop} (h:Q () s):wpAny (model prog w) A (match b with | true=>rule "set.scan.the-table-gave-way" | false=>pure ()) Q E s:=by
  cases b with
  | true=>exact wpAny_rule h
  | false=>exact wpAny_pure h
theorem add_text {a:Addr} {S:List Str} {n:Nat} {led:Bool} {x:Str} {tk:Tok} {Q:Bool→Shared→Prop} (ha:SetA w led s.heap a S n) (hn:n+1 < scanBound)
    (h:∀ b h',Heap.SameBut a s.heap h'→SetA w led h' a (S++[x]) (n+1)→Q b { s with heap:=h',toks:=s.toks+1 }):wpAny (model prog w) A (setAdd a (.str x tk)) Q E s:=by
  obtain ⟨es,ep,t,hget,hS,hsz⟩:=ha
  have hsc:scanBound=4096:=rfl
  have is:(strKind prog w).is x (.str x tk)=true:=by show (x == x)=true;exact beq_self_eq_true x
  have elems:ElemsOf (strKind prog w) es.toList:=fun e he=>by
    obtain ⟨y,tk',rfl⟩:=hS.ent e he
    exact ⟨⟨y,by show (y == y)=true;exact beq_self_eq_true y,rfl⟩,rfl⟩
  unfold setAdd
  refine wpAny_holding (wpAny_bind ((strKind prog w).pyHash is ?_))
  unfold setAddHashed
  refine wpAny_holding ?_
  rw [setAddHashedIn.eq_def]
  show wpAny _ _ (setState a >>= _) _ _ _
  refine wpAny_bind (wpAny_setState_of (s:={ s with toks:=s.toks+1 }) hget rfl hS.fit ?_)
  have bs:byScan (.str x tk) es=true:=by
    unfold byScan
    have h1:(Value.str x tk).scannable=true:=rfl
    have h2:(es.all fun e=>e.2.scannable)=true:=by
      rw [Array.all_eq_true_iff_forall_mem]
      intro e he
      exact (elems e (Array.mem_toList_iff.mpr he)).2
    rw [h1,h2,decide_eq_true (by omega)];rfl
  dsimp only
  rw [if_pos bs]
  refine wpAny_bind ?_
  unfold setAddByScan
  refine wpAny_bind (wpAny_rule (wpAny_bind (wpAny_setScan_of (s:={ s with toks:=s.toks+1 }) is hget rfl hS.fit elems ?_)))
  cases ef:List.findIdx? (fun e=>(strKind prog w).is x e.2) es.toList with
  | some j=>
    dsimp only
    refine wpAny_pure (wpAny_pure ?_)
    have xin:x∈S:=by
      rw [← hS.mem x]
      obtain ⟨hj,hp,_⟩:=List.findIdx?_eq_some_iff_getElem.mp ef
      have hm:=List.getElem_mem hj
      obtain ⟨y,tk',e⟩:=hS.ent _ hm
      rw [e] at hp
      have:y=x:=eq_of_beq (show (y == x)=true from hp)
      subst this
      exact List.mem_map.mpr ⟨_,hm,by rw [e];rfl⟩
    refine h false s.heap (Heap.SameBut.refl ..) ⟨es,ep,t,hget,⟨hS.ent,hS.nd,fun y=>?_,hS.fit,hS.led,hS.pl⟩,by omega⟩
    rw [hS.mem y,List.mem_append]
    constructor
    · exact .inl
    · rintro (z | z)
      · exact z
      · rw [List.mem_singleton.mp z];exact xin
  | none=>
    dsimp only
    have xout:x ∉ S:=fun hin=>by
      rw [← hS.mem x] at hin
      obtain ⟨e,he,ek⟩:=List.mem_map.mp hin
      have:=List.findIdx?_eq_none_iff.mp ef e he
      obtain ⟨y,tk',rfl⟩:=hS.ent e he
      have ey:y=x:=ek
      subst ey
      exact absurd (show (strKind prog w).is y (.str y tk')=true from (by show (y == y)=true;exact beq_self_eq_true y)) (by rw [this];simp)
    have lp:=layNew_perm t es ((strKind prog w).hash x) (.str x tk)
    have lf:=layNew_fits t es ((strKind prog w).hash x) (.str x tk)
    have ll:=lay_led t es ((strKind prog w).hash x) (.str x tk)
    have lz:=lp.length_eq
    rw [Array.length_toList,Array.length_toList,Array.size_push] at lz
    generalize layNew t es ((strKind prog w).hash x) (.str x tk)=L at lp lf ll lz
    obtain ⟨es1,t1,wd,gv⟩:=L
    dsimp only at lp lf ll lz ⊢
    have zl:sizeLine=268435455∨4096≤sizeLine:=.inr (by rw [sizeLine_eq];decide)
    have zz:es1.size≤sizeLine:=by rcases zl with z | z <;> omega
    refine wpAny_bind (gave_ok ?_)
    have fin:∀ t2:SetTable,t2.fits es1.size=true→t2.led=led→t2.plain=false →
        wpAny (model prog w) A (do
          storeSet a es1 t2
          have __do_jp:Unit→Sem (Option Bool):=fun __r=>pure (some true)
          if (!wd && t2.tooFull)=true then
            match relayAll t2 es1 (SetTable.grown es1.size) with
            | (es,t,gave)=>do
              (match gave with | true=>rule "set.scan.the-table-gave-way" | false=>pure ())
              let __r ← storeSet a es t
              __do_jp __r
          else __do_jp ()) (fun r s'=>wpAny (model prog w) A (match r with | some added=>pure added | none=>setAddHashedIn a (.str x tk) ((strKind prog w).hash x) 99999) Q E s') E { s with toks:=s.toks+1 }:=fun t2 f2 l2 p2=>by
      have g:=hS.grow (es':=es1) (t':=t2) (tk:=tk) xout lp f2 l2 p2
      refine wpAny_bind (store_set (s:={ s with toks:=s.toks+1 }) hget zz fun h1 sb1 hg1=>?_)
      dsimp only
      split
      · have gr:=g.relay p2 (SetTable.grown es1.size)
        have rz:=(relayAll_perm t2 es1 (SetTable.grown es1.size)).length_eq
        rw [Array.length_toList,Array.length_toList] at rz
        generalize relayAll t2 es1 (SetTable.grown es1.size)=Rr at gr rz
        obtain ⟨es3,t3,gv3⟩:=Rr
        dsimp only at gr rz ⊢
        refine wpAny_bind (gave_ok ?_)
        refine wpAny_bind (store_set (s:={ s with heap:=h1,toks:=s.toks+1 }) hg1 (by omega) fun h2 sb2 hg2=>?_)
        refine wpAny_pure (wpAny_pure ?_)
        exact h true h2 (sb1.trans sb2) ⟨es3,_,t3,hg2,gr,by omega⟩
      · refine wpAny_pure (wpAny_pure ?_)
        exact h true h1 sb1 ⟨es1,_,t2,hg1,g,by omega⟩
    by_cases hp:t1.plain=true
    · rw [if_pos hp,hashByValue.eq_5]
      refine wpAny_bind (wpAny_pure ?_)
      have ff:=fin { mask:=t1.mask,place:=t1.place,dummies:=t1.dummies,finger:=t1.finger,led:=t1.led,moves:=t1.moves,plain:=false } lf (ll.trans hS.led) rfl
      exact ff
    · rw [if_neg hp]
      refine wpAny_bind (wpAny_pure ?_)
      have ff:=fin t1 lf (ll.trans hS.led) (by simpa using hp)
      exact ff
end
end L2
namespace L2
open PySem PySem.Spec PyProof.Rows PySem.W
def ledOf (w:World):Bool:=!w.params.followText "set-order"
section
variable {prog:Program} {w:World} {A:Around} {E:Value→Shared→Prop} {s:Shared}
theorem by_text {Q:Bool→Shared→Prop} (h:Q (w.params.followText "set-order") s):wpAny (model prog w) A setsByText Q E s:=by
  unfold setsByText
  exact wpAny_bind (wpAny_askSetting (wpAny_pure h))
theorem code_set_new_led (a:Value) {Q₁:Value→Shared→Prop} (h:Q₁ (.ref s.heap.objs.size) { s with heap:=s.heap.push { cls:=.type "set", data:=.set #[] 0 (SetTable.fresh 0 0 (ledOf w)) } }) :
    codeAny (model prog w) A (.call (.builtin "set.__new__") ⟨[.type "set", a],[]⟩) (wants Q₁ E) s:=by
  refine codeAny_call_builtin F.plain_set_new F.entry_set_new ?_
  rw [F.newCall_set_1]
  refine wpAny_pure ?_
  unfold Builtin.«set.__new__» Builtin.Frozenset.newClass
  dsimp only
  refine wpAny_bind (wpAny_bind ?_)
  show wpAny _ _ (pure true) _ _ _
  refine wpAny_pure ?_
  rw [if_neg (by decide)]
  refine wpAny_bind ?_
  rw [F.sub_set_set]
  refine wpAny_pure ?_
  rw [if_neg (by decide)]
  refine wpAny_pure ?_
  unfold newSet
  refine wpAny_bind (wpAny_bind (by_text ?_))
  dsimp only
  refine wpAny_newObj_type ?_
  exact wpAny_pure h
theorem SetA.keeps {led:Bool} {h h':Heap} {a:Addr} {S:List Str} {n:Nat} (x:SetA w led h a S n) (k:∀ o,h.get? a=some o→h'.get? a=some o):SetA w led h' a S n:=by
  obtain ⟨es,ep,t,e,r⟩:=x
  exact ⟨es,ep,t,k _ e,r⟩
theorem SetA.start {h:Heap} {a:Addr} {led:Bool} (e:h.get? a=some { cls:=.type "set", data:=.set #[] 0 (SetTable.fresh 0 0 led) }):SetA w led h a [] 0:=
  ⟨#[],0,_,e,⟨fun x hx=>by simp at hx,by simp,fun x=>by simp,by rfl,rfl,.inl rfl⟩,Nat.le_refl _⟩
theorem SetA.typeIs {led:Bool} {a:Addr} {S:List Str} {n:Nat} (x:SetA w led s.heap a S n):s.TypeIs (.ref a) "set" := by
  obtain ⟨es,ep,t,e,r⟩:=x
  exact ⟨_,e,rfl⟩
theorem set_loop {led:Bool} {l I S:Addr} {items:Array Value} {ss:List Str} {R:Result→Shared→Prop} (hv:StrsAre items.toList ss) (hh:A.handled=none) (lI:l≠I) (SI:S≠I) (Sl:S≠l) (hn:items.size+1 < scanBound) :
    ∀ (k i:Nat) (s:Shared),items.size - i=k→i≤items.size→s.heap.IsListIter I l i→s.heap.IsList l items→SetA w led s.heap S (ss.take i) i →
      (∀ h' tk,(∀ b o,b≠I→b≠S→s.heap.get? b=some o→h'.get? b=some o)→SetA w led h' S ss items.size→R (.ok (.ret .none)) { s with heap:=h',toks:=tk }) →
      codeAny (model prog w) A (.builtin "set.update.loop" ⟨[.ref S,.ref I],[]⟩) R s
  | 0,i,s,hk,hi,h1,h2,h3,h=>by
    have ei:i=items.size:=by omega
    subst ei
    refine codeAny_builtin F.entry_set_update_loop ?_
    rw [Around.under_plainId F.plain_set_update_loop _]
    show wpAny _ A.in1 (pyNext (.ref I) >>= _) _ _ s
    have Wk:=Walks.list (prog:=prog) (w:=w) (A:=A.in1) hh I l lI items
    have sl:ss.length=items.size:=by have:=hv.length;simpa using this.symm
    refine wpAny_bind (Wk.done s _ _ ⟨h1,h2⟩ fun h' tk kp=>wpAny_pure ?_)
    refine h h' tk (fun b o n1 _ e=>kp b o (by simpa using n1) e) ?_
    have:=h3.keeps (h':=h') fun o e=>kp S o (by simpa using SI) e
    rw [List.take_of_length_le (by omega)] at this
    exact this
  | k+1,i,s,hk,hi,h1,h2,h3,h=>by
    have il:i < items.size:=by omega
    refine codeAny_builtin F.entry_set_update_loop ?_
    rw [Around.under_plainId F.plain_set_update_loop _]
    show wpAny _ A.in1 (pyNext (.ref I) >>= _) _ _ s
    have Wk:=Walks.list (prog:=prog) (w:=w) (A:=A.in1) hh I l lI items
    have sl:ss.length=items.size:=by have:=hv.length;simpa using this.symm
    refine wpAny_bind (Wk.item i s _ _ il ⟨h1,h2⟩ fun v h' tk hP hSt kp=>?_)
    obtain ⟨x,tkx,rfl,hx⟩:∃ x tkx,v=.str x tkx∧ss[i]?=some x:=by
      have hx:ss[i]?=some (ss[i]'(by omega)):=List.getElem?_eq_getElem _
      obtain ⟨u,e1,e2⟩:=(strsAre_get hv).get (i:=i) (x:=V.str (ss[i]'(by omega))) (by rw [List.getElem?_map,hx];rfl)
      rw [Array.getElem?_toList,hP] at e1
      cases e1
      obtain ⟨tkx,e3⟩:=e2
      exact ⟨_,tkx,e3,hx⟩
    have h3':=h3.keeps (h':=h') fun o e=>kp S o (by simpa using SI) e
    dsimp only
    refine wpAny_bind (wpAny_holding (add_text (s:={ s with heap:=h',toks:=tk }) h3' (by omega) fun b h2' sb hA=>?_))
    refine wpAny_pure ⟨plainId_quiet F.plain_set_update_loop _,?_⟩
    have et:ss.take i++[x]=ss.take (i+1):=by rw [List.take_succ,hx];rfl
    rw [et] at hA
    refine set_loop hv hh lI SI Sl hn k (i+1) { s with heap:=h2',toks:=tk+1 } (by omega) (by omega) ?_ ?_ hA fun h4 tk4 k4 hA4=>?_
    · exact hSt.1.at fun o e=>sb.extBut _ _ (Ne.symm SI) e
    · obtain ⟨o,e,r⟩:=hSt.2
      exact ⟨o,sb.extBut _ _ (Ne.symm Sl) e,r⟩
    · exact h h4 tk4 (fun b o n1 n2 e=>k4 b o n1 n2 (sb.extBut _ _ n2 (kp b o (by simpa using n1) e))) hA4
end
end L2
namespace L2
open PySem PySem.Spec PyProof.Rows PySem.W
section
variable {prog:Program} {w:World} {A:Around} {E:Value→Shared→Prop} {s:Shared}
theorem name_set:typeNameCut 200 (Value.type "set")=pure "set" := by kernel_rfl
theorem set_init {D l:Addr} {items:Array Value} {ss:List Str} {Pf:PySem.Fin→Shared→Prop} (hget:s.heap.get? D=some { cls:=.type "set", data:=.set #[] 0 (SetTable.fresh 0 0 (ledOf w)) }) (hl:s.heap.IsList l items) (Dl:D≠l) (hv:StrsAre items.toList ss) (hh:A.handled=none) (hn:items.size+1 < scanBound)
    (h:∀ h' tk,(∀ b o,b≠D→s.heap.get? b=some o→h'.get? b=some o)→SetA w (ledOf w) h' D ss items.size→Pf (.done (.ret .none)) { s with heap:=h',toks:=tk }) :
    wpAny (model prog w) A (Builtin.«set.__init__» ⟨[.ref D,.ref l],[]⟩) Pf E s:=by
  have hT:s.TypeIs (.ref D) "set" := ⟨_,hget,rfl⟩
  have hTl:s.TypeIs (.ref l) "list" := by obtain ⟨o,e,r,_⟩:=hl;exact ⟨o,e,r⟩
  unfold Builtin.«set.__init__»
  refine wpAny_bind ?_
  unfold noKeywords
  show wpAny _ _ (pure ()) _ _ _
  refine wpAny_pure ?_
  dsimp only
  unfold typeNameOfCut shownTypeOf
  refine wpAny_bind (wpAny_bind (wpAny_bind (wpAny_typeOf hT ?_)))
  rw [if_neg (by decide)]
  refine wpAny_pure ?_
  rw [name_set]
  refine wpAny_pure ?_
  refine wpAny_bind ?_
  unfold checkCount
  show wpAny _ _ (pure ()) _ _ _
  refine wpAny_pure ?_
  refine wpAny_bind ?_
  show wpAny _ _ (pure D) _ _ _
  refine wpAny_pure ?_
  refine wpAny_bind ?_
  unfold setUsed
  refine wpAny_bind (wpAny_setState_of hget rfl rfl (wpAny_pure ?_))
  have hfill:(((#[],0,SetTable.fresh 0 0 (ledOf w)):Array (Int × Value) × Nat × SetTable).2.2.fill != 0)=false:=rfl
  rw [hfill,if_neg (by decide)]
  refine wpAny_bind ?_
  unfold Builtin.Frozenset.updateFrom
  refine wpAny_bind ?_
  unfold Builtin.Frozenset.isAnySet
  refine wpAny_bind (wpAny_isInstance hTl F.sub_list_set ?_)
  refine wpAny_isInstance hTl F.sub_list_frozenset ?_
  rw [if_neg (by decide)]
  refine wpAny_bind (wpAny_typeOf hTl ?_)
  rw [if_neg (by decide)]
  have lD:l < s.heap.objs.size:=by obtain ⟨o,e,_⟩:=hl;exact Heap.lt_size e
  have DD:D < s.heap.objs.size:=Heap.lt_size hget
  refine wpAny_bind (wpAny_pyIter_list hl ?_)
  refine wpAny_bind (wpAny_runValue ?_)
  refine set_loop (led:=ledOf w) (l:=l) hv (show A.handled=none from hh) (Nat.ne_of_lt lD) (Nat.ne_of_lt DD) Dl hn items.size 0 { s with heap:=s.heap.push { cls:=.type "list_iterator", data:=.fields #[.ref l,.int 0 0] } } (Nat.sub_zero _) (Nat.zero_le _) ⟨_,Heap.get?_push_size _ rfl,rfl,rfl⟩ (Heap.IsList.push hl _) (SetA.start (Heap.get?_push_of_some _ hget)) fun h' tk kp hA=>?_
  refine wpAny_pure (wpAny_pure ?_)
  exact h h' tk (fun b o n e=>kp b o (Nat.ne_of_lt (Heap.lt_size e)) n (Heap.get?_push_of_some _ e)) hA
theorem set_call {l:Addr} {items:Array Value} {ss:List Str} {Q:Value→Shared→Prop} (hl:s.heap.IsList l items) (hv:StrsAre items.toList ss) (hh:A.handled=none) (hn:items.size+1 < scanBound)
    (h:∀ h' tk,(∀ b o,s.heap.get? b=some o→h'.get? b=some o)→SetA w (ledOf w) h' s.heap.objs.size ss items.size→Q (.ref s.heap.objs.size) { s with heap:=h',toks:=tk }) :
    wpAny (model prog w) A (call (.type "set") [.ref l]) Q E s:=by
  have hlt:l < s.heap.objs.size:=by obtain ⟨o,e,_⟩:=hl;exact Heap.lt_size e
  obtain ⟨c,tl,hmro⟩:=F.called_set.mro
  refine wpAny_call (codeAny_of_tree ?_)
  show wpAny _ _ (pure (Fin.again (.builtin "type.__call__" ⟨[.type "set", .ref l],[]⟩))) _ _ _
  refine wpAny_pure ⟨Code.quiet_builtin _ (by decide +kernel),codeAny_builtin F.entry_type_call ?_⟩
  rw [Around.under_plain (weight_type_call_type "set" [.ref l] []) rfl]
  unfold Builtin.«type.__call__»
  dsimp only
  rw [if_neg (by decide),if_neg (by rw [F.called_set.canCreate];decide)]
  refine wpAny_bind ?_
  rw [F.typeCall_set_1]
  refine wpAny_pure ?_
  refine wpAny_bind ?_
  rw [hmro]
  refine wpAny_pure ?_
  rw [if_neg (by simp)]
  refine wpAny_bind ?_
  rw [F.called_set.made]
  refine wpAny_pure ?_
  dsimp only
  refine wpAny_bind (wpAny_pure ?_)
  refine wpAny_bind (wpAny_holding (wpAny_call ?_))
  refine code_set_new_led _ ?_
  have hget:(s.heap.push { cls:=.type "set", data:=.set #[] 0 (SetTable.fresh 0 0 (ledOf w)) }).get? s.heap.objs.size=some { cls:=.type "set", data:=.set #[] 0 (SetTable.fresh 0 0 (ledOf w)) }:=Heap.get?_push_size _ rfl
  have hT:({ s with heap:=s.heap.push { cls:=.type "set", data:=.set #[] 0 (SetTable.fresh 0 0 (ledOf w)) } }:Shared).TypeIs (.ref s.heap.objs.size) "set" := ⟨_,hget,rfl⟩
  refine wpAny_bind (wpAny_isInstance hT F.called_set.sub ?_)
  rw [if_neg (by decide)]
  refine wpAny_bind (wpAny_holding ?_)
  refine wpAny_callSpecial?_slot hT F.called_set.init (wpAny_call (codeAny_call_builtin F.called_set.init.plain F.entry_set_init (check_set_init_1 hT ?_)))
  refine set_init (s:={ s with heap:=s.heap.push { cls:=.type "set", data:=.set #[] 0 (SetTable.fresh 0 0 (ledOf w)) } }) hget (Heap.IsList.push hl _) (Ne.symm (Nat.ne_of_lt hlt)) hv hh hn fun h' tk kp hA=>?_
  dsimp only
  rw [if_neg (by decide)]
  refine wpAny_pure ?_
  exact h h' tk (fun b o e=>kp b o (Nat.ne_of_lt (Heap.lt_size e)) (Heap.get?_push_of_some _ e)) hA
end
end L2
namespace L2
open PySem PySem.Spec PyProof.Rows PySem.W
theorem slot_seti_next:Slot "set_iterator" (Str.ofString "__next__") "set_iterator.__next__" := Slot.of (owner := "set_iterator") (n := "__next__") (by kernel_rfl) (by kernel_rfl) (by kernel_rfl) (by kernel_rfl) (.inl (by kernel_rfl)) (by kernel_rfl)
theorem entry_seti_next:entryFor table "set_iterator.__next__" = some Builtin.«set_iterator.__next__»:=by kernel_rfl
theorem entry_set_iter:entryFor table "set.__iter__" = some Builtin.«frozenset.__iter__»:=by kernel_rfl
theorem own_seti:List.lookup (String.ofList ['r','o','t','a','r','e','t','i','_','t','e','s'].reverse) Manifest.owners=some Manifest.sig_set_iterator:=by kernel_rfl
theorem args_seti_next (a:Value):argsOk "set_iterator.__next__" { pos:=[a] }:=by
  show (match Manifest.signature? "set_iterator.__next__" with | some sig=>Bind.checkArgs "set_iterator.__next__" sig { pos:=[a] } | none=>pure ())=pure ()
  rw [signature?_of (id := "set_iterator.__next__") (n:=['_','_','t','x','e','n','_','_']) (o:=['r','o','t','a','r','e','t','i','_','t','e','s']) (by kernel_rfl) own_seti]
  kernel_rfl
theorem perm_pick {α:Type}:∀ {xs:List α} {i:Nat} {x:α},xs[i]?=some x→(x :: xs.eraseIdx i).Perm xs
  | [],i,x,h=>by simp at h
  | y :: ys,0,x,h=>by
    have:y=x:=by simpa using h
    subst this
    exact List.Perm.refl _
  | y :: ys,i+1,x,h=>by
    have ih:=perm_pick (xs:=ys) (i:=i) (x:=x) (by simpa using h)
    rw [List.eraseIdx_cons_succ]
    exact (List.Perm.swap y x _).trans (ih.cons y)
theorem pick_go {α:Type} (next:Nat→Nat):∀ (fuel k:Nat) (left:List α) (out:Array α),left.length=fuel→(pickOrder.go next fuel k left out).toList.Perm (out.toList++left)
  | 0,k,left,out,h=>by
    rw [pickOrder.go.eq_1]
    have:left=[]:=List.length_eq_zero_iff.mp h
    rw [this,List.append_nil]
  | fuel+1,k,left,out,h=>by
    have lt:next k % left.length < left.length:=Nat.mod_lt _ (by omega)
    have e:left[next k % left.length]?=some left[next k % left.length]:=List.getElem?_eq_getElem lt
    rw [pickOrder.go.eq_2,e]
    dsimp only
    refine (pick_go next fuel (k+1) _ _ (by rw [List.length_eraseIdx_of_lt lt];omega)).trans ?_
    rw [Array.toList_push,List.append_assoc]
    exact List.Perm.append_left _ (perm_pick e)
theorem pick_perm {α:Type} (next:Nat→Nat) (xs:Array α):(pickOrder next xs).toList.Perm xs.toList:=by
  unfold pickOrder
  have:=pick_go next xs.size 0 xs.toList #[] (by simp)
  simpa using this
section
variable {prog:Program} {w:World} {A:Around} {E:Value→Shared→Prop}
theorem choose_ok {s:Shared} {src:Source} {n:Nat} {Q:Nat→Shared→Prop} (hn:n≠0) (h:∀ i d,i < n→Q i { s with drawn:=d }):wpAny (model prog w) A (choose src n) Q E s:=by
  intro Γ p hΓ
  unfold choose
  rw [Sem.wp_choose]
  refine ⟨hn,?_⟩
  rw [Sem.wp_pure]
  exact h _ _ (Nat.mod_lt _ (by omega))
theorem draw_ok {α:Type}:∀ (n:Nat) (xs:List α) (s:Shared) (Q:List α→Shared→Prop),xs.length=n→(∀ ys d,ys.Perm xs→Q ys { s with drawn:=d })→wpAny (model prog w) A (drawOrder n xs) Q E s
  | 0,xs,s,Q,h,q=>by
    rw [drawOrder.eq_1]
    have:xs=[]:=List.length_eq_zero_iff.mp h
    subst this
    exact wpAny_pure (q [] s.drawn (List.Perm.refl _))
  | n+1,xs,s,Q,h,q=>by
    rw [drawOrder.eq_3 _ _ (fun e=>by rw [e] at h;cases h)]
    refine wpAny_bind (choose_ok (by omega) fun i d hi=>?_)
    have e:xs[i]?=some xs[i]:=List.getElem?_eq_getElem hi
    rw [e]
    dsimp only
    refine wpAny_bind (draw_ok n (xs.eraseIdx i) _ _ (by rw [List.length_eraseIdx_of_lt hi];omega) fun ys d' hp=>?_)
    exact wpAny_pure (q _ _ ((hp.cons _).trans (perm_pick e)))
theorem below_one (p:Nat):SetTable.below #[p] 0=0∧SetTable.below #[p] (p+1)=1:=by
  constructor
  · simp [SetTable.below,SetTable.below.go]
  · simp [SetTable.below,SetTable.below.go]
abbrev setIt (f:Value) (i:Nat) (D:Addr) (n ep:Nat):Obj:={ cls:=.type "set_iterator", data:=.fields #[f,rawInt (i:Int),.ref D,rawInt (n:Int),rawInt (ep:Int)] }
theorem seti_get {h:Heap} {I:Addr} {f g:Value} {i j:Nat} {D:Addr} {n ep:Nat} (e:h.get? I=some (setIt f i D n ep)):(h.update I (Obj.mapFields fun vs=>vs.setIfInBounds 1 (rawInt ((i:Int)+1)))).get? I=some (setIt f (i+1) D n ep):=by
  rw [Heap.get?_update_self _ e rfl]
  rfl
variable {s:Shared}
theorem seti_stop {I:Addr} {o:Obj} {vs:Array Value} {Pf:PySem.Fin→Shared→Prop} (hh:A.handled=none) (ho:s.heap.get? I=some o) (hd:o.data=.fields vs) (h2:2 < vs.size)
    (hE:∀ h' e,Heap.ExtBut I s.heap h'→(∃ o,h'.get? e=some o∧o.cls=.type "StopIteration")→E (.ref e) { s with heap:=h' }) :
    wpAny (model prog w) A (do setField (.ref I) 2 .none;let __do_lift ← newExc (.type "StopIteration") [];raiseNew __do_lift) Pf E s:=by
  refine wpAny_bind (wpAny_setField ho hd h2 ?_)
  refine wpAny_bind ?_
  simp only [newExc,newTuple]
  refine wpAny_bind (wpAny_newObj_type ?_ (by size_fits))
  refine wpAny_bind (m:=firstArgMember _ _) (wpAny_of_eq (a:=Value.none) (by first | rfl | (simp only [firstArgMember];rfl)) ?_)
  refine wpAny_newObj_type ?_ (by size_fits)
  simp only [raiseNew]
  refine wpAny_bind (wpAny_handled ?_)
  rw [hh]
  refine wpAny_bind (wpAny_pure (wpAny_throw ?_))
  exact hE _ _ (((Heap.SameBut.update ..).extBut.push _).push _) ⟨_,Heap.get?_push_size _ rfl,rfl⟩
theorem seti_pre {I D:Addr} {f:Value} {i ep:Nat} {es:Array (Int × Value)} {t:SetTable} {Pf:PySem.Fin→Shared→Prop} (hI:s.heap.get? I=some (setIt f i D es.size ep)) (hD:s.heap.get? D=some { cls:=.type "set", data:=.set es ep t }) (hf:t.fits es.size=true)
    (h:wpAny (model prog w) A (match f with
          | .int slot tok=>do
            let __do_lift ← setNext D slot.toNat i ep
            match __do_lift with
              | some (x,next)=>do
                setField (.ref I) 0 (rawInt next)
                setField (.ref I) 1 (rawInt ((i:Int)+1))
                ret x
              | none=>do
                setField (.ref I) 2 .none
                let __do_lift ← newExc (.type "StopIteration") []
                raiseNew __do_lift
          | x=>do
            let __x ← seqItems? f
            match __x with
              | some places=>
                match places[i]? with
                | some (.int place tok)=>do
                  let x ← setNextDrawn D place.toNat ep
                  setField (.ref I) 1 (rawInt ((i:Int)+1))
                  ret x
                | some val=>unsupported "internal:set_iterator"
                | none=>do
                  setField (.ref I) 0 (rawInt 0)
                  setField (.ref I) 2 .none
                  let __do_lift ← newExc (.type "StopIteration") []
                  raiseNew __do_lift
              | x=>unsupported "internal:set_iterator") Pf E s) :
    wpAny (model prog w) A (Builtin.«set_iterator.__next__» ⟨[.ref I],[]⟩) Pf E s:=by
  unfold Builtin.«set_iterator.__next__»
  refine wpAny_bind ?_
  show wpAny _ _ (pure (Value.ref I,[])) _ _ _
  refine wpAny_pure ?_
  dsimp only
  refine wpAny_bind (wpAny_fieldsOf hI rfl ?_)
  show wpAny _ _ (setEntries D >>= _) _ _ s
  unfold setEntries
  refine wpAny_bind (wpAny_bind (wpAny_setState_of hD rfl hf (wpAny_pure ?_)))
  dsimp only
  rw [if_neg (by simp)]
  simp only [Int.toNat_natCast]
  exact h
theorem setNext_text {D:Addr} {slot i ep:Nat} {es:Array (Int × Value)} {t:SetTable} {Q:Option (Value × Nat)→Shared→Prop} (bt:w.params.followText "set-order" = true) (hD:s.heap.get? D=some { cls:=.type "set", data:=.set es ep t }) (hf:t.fits es.size=true)
    (h:Q (((pickOrder (w.params.setOrder D ep) es)[i]?).map fun e=>(e.2,slot)) s):wpAny (model prog w) A (setNext D slot i ep) Q E s:=by
  unfold setNext
  refine wpAny_bind (wpAny_setState_of hD rfl hf ?_)
  dsimp only
  refine wpAny_bind (by_text ?_)
  rw [bt,if_pos rfl,if_neg (by simp)]
  unfold setWalk
  refine wpAny_bind (wpAny_bind (wpAny_setState_of hD rfl hf ?_))
  dsimp only
  refine wpAny_bind (by_text ?_)
  rw [bt,if_pos rfl]
  refine wpAny_bind (wpAny_askSetting (wpAny_pure (wpAny_pure h)))
theorem setNext_led {D:Addr} {slot i ep:Nat} {es:Array (Int × Value)} {t:SetTable} {Q:Option (Value × Nat)→Shared→Prop} (bt:w.params.followText "set-order" = false) (hD:s.heap.get? D=some { cls:=.type "set", data:=.set es ep t }) (hf:t.fits es.size=true) (hl:t.led=true) (hz:es.size≤1)
    (h:Q (match es[SetTable.below t.place slot]?,t.place[SetTable.below t.place slot]? with | some (_,x),some j=>some (x,j+1) | _,_=>none) s):wpAny (model prog w) A (setNext D slot i ep) Q E s:=by
  unfold setNext
  refine wpAny_bind (wpAny_setState_of hD rfl hf ?_)
  dsimp only
  refine wpAny_bind (by_text ?_)
  rw [bt,if_neg (by decide)]
  rw [if_neg (by
    show ¬ ((!t.plain && decide (es.size > 1))=true)
    rw [decide_eq_false (by omega)]
    simp)]
  refine wpAny_bind ?_
  show wpAny _ _ (if (!t.led && !es.isEmpty)=true then _ else pure ()) _ _ _
  rw [if_neg (by rw [hl];simp)]
  exact wpAny_pure (wpAny_pure h)
end
end L2
namespace L2
open PySem PySem.Spec PyProof.Rows PySem.W
theorem slot_seti_iter:Slot "set_iterator" (Str.ofString "__iter__") "set_iterator.__iter__" := Slot.of (owner := "set_iterator") (n := "__iter__") (by kernel_rfl) (by kernel_rfl) (by kernel_rfl) (by kernel_rfl) (.inl (by kernel_rfl)) (by kernel_rfl)
theorem entry_seti_iter:entryFor table "set_iterator.__iter__" = some Builtin.«dict_keyiterator.__iter__»:=by kernel_rfl
theorem args_seti_iter (a:Value):argsOk "set_iterator.__iter__" { pos:=[a] }:=by
  show (match Manifest.signature? "set_iterator.__iter__" with | some sig=>Bind.checkArgs "set_iterator.__iter__" sig { pos:=[a] } | none=>pure ())=pure ()
  rw [signature?_of (id := "set_iterator.__iter__") (n:=['_','_','r','e','t','i','_','_']) (o:=['r','o','t','a','r','e','t','i','_','t','e','s']) (by kernel_rfl) own_seti]
  kernel_rfl
section
variable {prog:Program} {w:World} {A:Around}
theorem seti_self {E:Value→Shared→Prop} {s:Shared} {I D:Addr} {f:Value} {i n ep:Nat} {Q:Value→Shared→Prop} (hI:s.heap.get? I=some (setIt f i D n ep)) (q:Q (.ref I) s):wpAny (model prog w) A (pyIter (.ref I)) Q E s:=by
  have hT:s.TypeIs (.ref I) "set_iterator" := ⟨_,hI,rfl⟩
  refine wpAny_pyIter_slot hT slot_seti_iter (wpAny_call_entry slot_seti_iter hT entry_seti_iter ?_ (args_seti_iter _))
  exact wpAny_pure ⟨.ref I,rfl, "set_iterator", _,hT,slot_seti_next.lookup,q⟩
theorem seti_next {E:Value→Shared→Prop} {s:Shared} {I D:Addr} {f:Value} {i n ep:Nat} {Q:Option Value→Shared→Prop} (hI:s.heap.get? I=some (setIt f i D n ep))
    (h:wpAny (model prog w) A.in1 (Builtin.«set_iterator.__next__» ⟨[.ref I],[]⟩) (fun fin s'=>∃ v,fin=Fin.done (Flow.ret v)∧Q (some v) s') (fun e s'=>(∃ o,s'.heap.get? (match e with | .ref a=>a | _=>0)=some o∧o.cls=.type "StopIteration")∧(∃ a,e=.ref a)∧Q none s') s) :
    wpAny (model prog w) A (pyNext (.ref I)) Q E s:=by
  have hT:s.TypeIs (.ref I) "set_iterator" := ⟨_,hI,rfl⟩
  unfold pyNext
  refine wpAny_bind (wpAny_attempt (wpAny_callSpecial?_slot (name:=Str.ofString "__next__") hT slot_seti_next (wpAny_call_entry slot_seti_next hT entry_seti_next ?_ (args_seti_next _))))
  refine wpAny_mono h (fun fin s' hf=>?_) (fun e s' he=>?_)
  · obtain ⟨v,e1,q⟩:=hf
    exact ⟨v,e1,wpAny_pure q⟩
  · obtain ⟨⟨o,ho,hc⟩,⟨a,rfl⟩,q⟩:=he
    refine wpAny_bind (wpAny_isInstance (T := "StopIteration") (b:=true) ⟨o,ho,hc⟩ isSubtype_stop ?_)
    exact wpAny_pure q
abbrev setAt (D:Addr) (es:Array (Int × Value)) (ep:Nat) (t:SetTable) (h:Heap):Prop:=h.get? D=some { cls:=.type "set", data:=.set es ep t }
theorem walks_text (bt:w.params.followText "set-order" = true) (hh:A.handled=none) {I D:Addr} (DI:D≠I) {es:Array (Int × Value)} {ep:Nat} {t:SetTable} (hf:t.fits es.size=true) :
    Walks prog w A I [I,D] [I] es.size (fun i v=>((pickOrder (w.params.setOrder D ep) es).toList.map (·.2))[i]?=some v) (fun i h=>h.get? I=some (setIt (rawInt 0) i D es.size ep)∧setAt D es ep t h) where
  sub:=fun b hb=>by simp at hb;simp [hb]
  frame:=fun i h h' st k=>⟨k I (by simp) _ st.1,k D (by simp) _ st.2⟩
  item:=fun i s Q E hi st hQ=>by
    have pz:(pickOrder (w.params.setOrder D ep) es).size=es.size:=by
      have:=(pick_perm (w.params.setOrder D ep) es).length_eq
      simpa using this
    have e:(pickOrder (w.params.setOrder D ep) es)[i]?=some ((pickOrder (w.params.setOrder D ep) es)[i]'(by omega)):=Array.getElem?_eq_getElem _
    refine seti_next st.1 (seti_pre st.1 st.2 hf ?_)
    show wpAny _ _ (setNext D 0 i ep >>= _) _ _ s
    refine wpAny_bind (setNext_text bt st.2 hf ?_)
    rw [e]
    dsimp only [Option.map_some]
    refine wpAny_bind (wpAny_setField st.1 rfl (by simp) ?_)
    have e1:(s.heap.update I (Obj.mapFields fun vs=>vs.setIfInBounds 0 (rawInt ((0:Nat):Int)))).get? I=some (setIt (rawInt 0) i D es.size ep):=by
      rw [Heap.get?_update_self _ st.1 rfl];rfl
    refine wpAny_bind (wpAny_setField (s:={ s with heap:=s.heap.update I (Obj.mapFields fun vs=>vs.setIfInBounds 0 (rawInt ((0:Nat):Int))) }) e1 rfl (by simp) (wpAny_pure ⟨_,rfl,?_⟩))
    refine hQ _ _ s.toks ?_ ⟨seti_get (g:=rawInt 0) (j:=0) e1,?_⟩ (fun b o hb eb=>?_)
    · rw [List.getElem?_map,Array.getElem?_toList,e];rfl
    · exact (Heap.get?_update_ne _ _ _ _ DI).trans ((Heap.get?_update_ne _ _ _ _ DI).trans st.2)
    · have nb:b≠I:=by simpa using hb
      rw [Heap.get?_update_ne _ _ _ _ nb,Heap.get?_update_ne _ _ _ _ nb];exact eb
  done:=fun s Q E st hQ=>by
    have pz:(pickOrder (w.params.setOrder D ep) es).size=es.size:=by
      have:=(pick_perm (w.params.setOrder D ep) es).length_eq
      simpa using this
    refine seti_next st.1 (seti_pre st.1 st.2 hf ?_)
    show wpAny _ _ (setNext D 0 es.size ep >>= _) _ _ s
    refine wpAny_bind (setNext_text bt st.2 hf ?_)
    rw [Array.getElem?_eq_none (by omega)]
    dsimp only [Option.map_none]
    refine seti_stop (show A.in1.handled=none from hh) st.1 rfl (by simp) fun h' e x ho=>⟨ho,⟨e,rfl⟩,hQ h' s.toks fun b o hb eb=>x b o (by simpa using hb) eb⟩
  self:=fun i s Q E st q=>seti_self st.1 q
theorem walks_led (bt:w.params.followText "set-order" = false) (hh:A.handled=none) {I D:Addr} (DI:D≠I) {es:Array (Int × Value)} {ep:Nat} {t:SetTable} (hf:t.fits es.size=true) (hl:t.led=true) (hz:es.size≤1) :
    Walks prog w A I [I,D] [I] es.size (fun i v=>(es.toList.map (·.2))[i]?=some v) (fun i h=>h.get? I=some (setIt (rawInt (if i=0 then 0 else ((t.place.getD 0 0:Nat):Int)+1)) i D es.size ep)∧setAt D es ep t h) where
  sub:=fun b hb=>by simp at hb;simp [hb]
  frame:=fun i h h' st k=>⟨k I (by simp) _ st.1,k D (by simp) _ st.2⟩
  item:=fun i s Q E hi st hQ=>by
    have i0:i=0:=by omega
    subst i0
    have pz:t.place.size=es.size:=by
      unfold SetTable.fits at hf
      simp only [Bool.and_eq_true,beq_iff_eq] at hf
      exact hf.1
    obtain ⟨p,hp⟩:∃ p,t.place=#[p]:=Array.size_eq_one_iff.mp (by omega)
    obtain ⟨en,hen⟩:∃ en,es=#[en]:=Array.size_eq_one_iff.mp (by omega)
    refine seti_next st.1 (seti_pre st.1 st.2 hf ?_)
    show wpAny _ _ (setNext D 0 0 ep >>= _) _ _ s
    refine wpAny_bind (setNext_led bt st.2 hf hl hz ?_)
    rw [hp,(below_one p).1,hen]
    show wpAny _ _ (do setField (.ref I) 0 (rawInt ((p+1:Nat):Int));setField (.ref I) 1 (rawInt (((0:Nat):Int)+1));ret en.2) _ _ s
    refine wpAny_bind (wpAny_setField st.1 rfl (by simp) ?_)
    have e1:(s.heap.update I (Obj.mapFields fun vs=>vs.setIfInBounds 0 (rawInt ((p+1:Nat):Int)))).get? I=some (setIt (rawInt ((p+1:Nat):Int)) 0 D es.size ep):=by
      rw [Heap.get?_update_self _ st.1 rfl];rfl
    refine wpAny_bind (wpAny_setField (s:={ s with heap:=s.heap.update I (Obj.mapFields fun vs=>vs.setIfInBounds 0 (rawInt ((p+1:Nat):Int))) }) e1 rfl (by simp) (wpAny_pure ⟨_,rfl,?_⟩))
    refine hQ _ _ s.toks ?_ ⟨?_,?_⟩ (fun b o hb eb=>?_)
    · rw [hen];rfl
    · have:=seti_get (g:=rawInt 0) (j:=0) e1
      rw [hp]
      exact this
    · exact (Heap.get?_update_ne _ _ _ _ DI).trans ((Heap.get?_update_ne _ _ _ _ DI).trans st.2)
    · have nb:b≠I:=by simpa using hb
      rw [Heap.get?_update_ne _ _ _ _ nb,Heap.get?_update_ne _ _ _ _ nb];exact eb
  done:=fun s Q E st hQ=>by
    have pz:t.place.size=es.size:=by
      unfold SetTable.fits at hf
      simp only [Bool.and_eq_true,beq_iff_eq] at hf
      exact hf.1
    refine seti_next st.1 (seti_pre st.1 st.2 hf ?_)
    have fin:wpAny (model prog w) A.in1 (do setField (.ref I) 2 .none;let __do_lift ← newExc (.type "StopIteration") [];raiseNew __do_lift) (fun fin s'=>∃ v,fin=Fin.done (Flow.ret v)∧Q (some v) s') (fun e s'=>(∃ o,s'.heap.get? (match e with | .ref a=>a | _=>0)=some o∧o.cls=.type "StopIteration")∧(∃ a,e=.ref a)∧Q none s') s:=
      seti_stop (show A.in1.handled=none from hh) st.1 rfl (by simp) fun h' e x ho=>⟨ho,⟨e,rfl⟩,hQ h' s.toks fun b o hb eb=>x b o (by simpa using hb) eb⟩
    rcases Nat.eq_zero_or_pos es.size with z | z
    · rw [if_pos z]
      show wpAny _ _ (setNext D 0 es.size ep >>= _) _ _ s
      refine wpAny_bind (setNext_led bt st.2 hf hl hz ?_)
      have:es=#[]:=Array.eq_empty_of_size_eq_zero z
      rw [this]
      exact fin
    · rw [if_neg (by omega)]
      obtain ⟨p,hp⟩:∃ p,t.place=#[p]:=Array.size_eq_one_iff.mp (by omega)
      obtain ⟨en,hen⟩:∃ en,es=#[en]:=Array.size_eq_one_iff.mp (by omega)
      have e0:((t.place.getD 0 0:Nat):Int)+1=((p+1:Nat):Int):=by rw [hp];rfl
      rw [e0]
      show wpAny _ _ (setNext D (p+1) es.size ep >>= _) _ _ s
      refine wpAny_bind (setNext_led bt st.2 hf hl hz ?_)
      rw [hp,(below_one p).2,hen]
      exact fin
  self:=fun i s Q E st q=>seti_self st.1 q
theorem walks_drawn (hh:A.handled=none) {I D T:Addr} (DI:D≠I) (TI:T≠I) {es:Array (Int × Value)} {ep:Nat} {t:SetTable} (hf:t.fits es.size=true) {ps:List Nat} (hp:ps.Perm (List.range es.size)) :
    Walks prog w A I [I,D,T] [I] es.size (fun i v=>(ps.map fun p=>(es.toList.getD p (0,.none)).2)[i]?=some v) (fun i h=>h.get? I=some (setIt (.ref T) i D es.size ep)∧setAt D es ep t h∧h.get? T=some { cls:=.type "tuple", data:=.seq (ps.map fun p:Nat=>rawInt (p:Int)).toArray }) where
  sub:=fun b hb=>by simp at hb;simp [hb]
  frame:=fun i h h' st k=>⟨k I (by simp) _ st.1,k D (by simp) _ st.2.1,k T (by simp) _ st.2.2⟩
  item:=fun i s Q E hi st hQ=>by
    have pl:ps.length=es.size:=by have:=hp.length_eq;simpa using this
    have ei:ps[i]?=some (ps[i]'(by omega)):=List.getElem?_eq_getElem _
    have pil:ps[i]'(by omega) < es.size:=List.mem_range.mp (hp.mem_iff.mp (List.getElem_mem _))
    refine seti_next st.1 (seti_pre st.1 st.2.1 hf ?_)
    show wpAny _ _ (seqItems? (.ref T) >>= _) _ _ s
    refine wpAny_bind (wpAny_seqItems st.2.2 rfl ?_)
    dsimp only
    have eg:(ps.map fun p:Nat=>rawInt (p:Int)).toArray[i]?=some (.int ((ps[i]'(by omega):Nat):Int) 0):=by
      rw [List.getElem?_toArray,List.getElem?_map,ei];rfl
    rw [eg]
    dsimp only
    unfold setNextDrawn
    refine wpAny_bind (wpAny_bind (wpAny_setState_of st.2.1 rfl hf ?_))
    dsimp only
    rw [if_neg (by simp),Int.toNat_natCast,Array.getElem?_eq_getElem pil]
    dsimp only
    refine wpAny_pure ?_
    refine wpAny_bind (wpAny_setField st.1 rfl (by simp) (wpAny_pure ⟨_,rfl,?_⟩))
    refine hQ _ _ s.toks ?_ ⟨seti_get (g:=rawInt 0) (j:=0) st.1,?_,?_⟩ (fun b o hb eb=>?_)
    · rw [List.getElem?_map,ei]
      show some ((es.toList.getD (ps[i]'(by omega)) (0,.none)).2)=_
      rw [List.getD_eq_getElem?_getD,Array.getElem?_toList,Array.getElem?_eq_getElem pil];rfl
    · exact (Heap.get?_update_ne _ _ _ _ DI).trans st.2.1
    · rw [Heap.get?_update_ne _ _ _ _ TI];exact st.2.2
    · have nb:b≠I:=by simpa using hb
      rw [Heap.get?_update_ne _ _ _ _ nb];exact eb
  done:=fun s Q E st hQ=>by
    have pl:ps.length=es.size:=by have:=hp.length_eq;simpa using this
    refine seti_next st.1 (seti_pre st.1 st.2.1 hf ?_)
    show wpAny _ _ (seqItems? (.ref T) >>= _) _ _ s
    refine wpAny_bind (wpAny_seqItems st.2.2 rfl ?_)
    dsimp only
    rw [show (ps.map fun p:Nat=>rawInt (p:Int)).toArray[es.size]?=none by rw [List.getElem?_toArray,List.getElem?_map,List.getElem?_eq_none (by omega)];rfl]
    dsimp only
    refine wpAny_bind (wpAny_setField st.1 rfl (by simp) ?_)
    have e1:(s.heap.update I (Obj.mapFields fun vs=>vs.setIfInBounds 0 (rawInt 0))).get? I=some (setIt (rawInt 0) es.size D es.size ep):=by
      rw [Heap.get?_update_self _ st.1 rfl];rfl
    refine seti_stop (s:={ s with heap:=s.heap.update I (Obj.mapFields fun vs=>vs.setIfInBounds 0 (rawInt 0)) }) (show A.in1.handled=none from hh) e1 rfl (by simp) fun h' e x ho=>⟨ho,⟨e,rfl⟩,hQ h' s.toks fun b o hb eb=>x b o (by simpa using hb) (by
      have nb:b≠I:=by simpa using hb
      rw [Heap.get?_update_ne _ _ _ _ nb];exact eb)⟩
  self:=fun i s Q E st q=>seti_self st.1 q
end
end L2
namespace L2
open PySem PySem.Spec PyProof.Rows PySem.W
section
variable {prog:Program} {w:World} {A:Around} {E:Value→Shared→Prop} {s:Shared}
theorem range_map_getD {α β:Type} (f:α→β) (l:List α) (d:α):((List.range l.length).map fun p=>f (l.getD p d))=l.map f:=by
  apply List.ext_getElem
  · simp
  · intro i h1 h2
    simp only [List.length_map] at h2
    rw [List.getElem_map,List.getElem_range,List.getElem_map,List.getD_eq_getElem?_getD,List.getElem?_eq_getElem h2];rfl
theorem set_iter {D:Addr} {es:Array (Int × Value)} {ep:Nat} {t:SetTable} {S:List Str} {Q:Value→Shared→Prop} (hD:setAt D es ep t s.heap) (hS:SetS w (ledOf w) es t S) (hz:es.size≤1000)
    (h:∀ (I:Addr) (fp:List Addr) (St:Nat→Heap→Prop) (vs:List Value) (h1:Heap) (d:Drawn),(∀ A':Around,A'.handled=none→Walks prog w A' I fp [I] es.size (fun i v=>vs[i]?=some v) St)→St 0 h1→s.heap.objs.size≤I→(∀ b∈fp,b < h1.objs.size)→(∀ b o,s.heap.get? b=some o→h1.get? b=some o)→vs.Perm (es.toList.map (·.2))→h1.get? I≠none→(∀ b∈fp,b=I∨b=D∨s.heap.objs.size≤b)→Q (.ref I) { s with heap:=h1,drawn:=d }) :
    wpAny (model prog w) A (pyIter (.ref D)) Q E s:=by
  have hT:s.TypeIs (.ref D) "set" := ⟨_,hD,rfl⟩
  have Dlt:D < s.heap.objs.size:=Heap.lt_size hD
  refine wpAny_pyIter_slot hT F.slot_set_iter (wpAny_call_entry F.slot_set_iter hT entry_set_iter ?_ (F.args_set_iter_1 _))
  unfold Builtin.«frozenset.__iter__» Builtin.Frozenset.slot0
  refine wpAny_bind (wpAny_bind ?_)
  show wpAny _ _ (pure (Value.ref D,[])) _ _ _
  refine wpAny_pure ?_
  show wpAny _ _ (pure D) _ _ _
  refine wpAny_pure ?_
  unfold Builtin.Frozenset.sizeOf setEntries
  refine wpAny_bind (wpAny_bind (wpAny_bind (wpAny_setState_of hD rfl hS.fit (wpAny_pure (wpAny_pure ?_)))))
  unfold setDrawn
  refine wpAny_bind (wpAny_bind (wpAny_setState_of hD rfl hS.fit ?_))
  dsimp only
  refine wpAny_bind (by_text (wpAny_pure ?_))
  have szp:∀ (g:Heap) (o:Obj),(g.push o).objs.size=g.objs.size+1:=fun g o=>Heap.size_push ..
  by_cases dr:(!w.params.followText "set-order" && (!t.plain && decide (es.size > 1)))=true
  · refine wpAny_ite_true ?_ ?_
    · exact decide_eq_true dr
    refine wpAny_bind (draw_ok es.size (List.range es.size) _ _ (by simp) fun ps d hp=>?_)
    have pl:ps.length=es.size:=by have:=hp.length_eq;simpa using this
    unfold newTuple
    refine wpAny_bind (wpAny_newObj_type ?_ (by
      show (ps.map fun i:Nat=>rawInt (i:Int)).toArray.size≤sizeLine
      rw [List.size_toArray,List.length_map,sizeLine_eq];omega))
    unfold setEpoch
    have hD1:setAt D es ep t (s.heap.push { cls:=.type "tuple", data:=.seq (ps.map fun i:Nat=>rawInt (i:Int)).toArray }):=Heap.get?_push_of_some _ hD
    refine wpAny_bind (wpAny_bind (wpAny_setState_of (s:={ s with heap:=s.heap.push { cls:=.type "tuple", data:=.seq (ps.map fun i:Nat=>rawInt (i:Int)).toArray },drawn:=d }) hD1 rfl hS.fit (wpAny_pure ?_)))
    dsimp only
    unfold newFields
    refine wpAny_bind (wpAny_newObj_type ?_)
    refine wpAny_pure ⟨_,rfl, "set_iterator", _,⟨_,Heap.get?_push_size _ rfl,rfl⟩,slot_seti_next.lookup,?_⟩
    have TI:s.heap.objs.size≠(s.heap.push { cls:=.type "tuple", data:=.seq (ps.map fun i:Nat=>rawInt (i:Int)).toArray }).objs.size:=by rw [szp];omega
    have DI:D≠(s.heap.push { cls:=.type "tuple", data:=.seq (ps.map fun i:Nat=>rawInt (i:Int)).toArray }).objs.size:=by rw [szp];exact Nat.ne_of_lt (Nat.lt_succ_of_lt Dlt)
    refine h _ _ _ _ _ d (fun A' hA'=>walks_drawn (T:=s.heap.objs.size) hA' DI TI hS.fit hp) ⟨Heap.get?_push_size _ rfl,Heap.get?_push_of_some _ hD1,Heap.get?_push_of_some _ (Heap.get?_push_size _ rfl)⟩ ?_ ?_ (fun b o e=>Heap.get?_push_of_some _ (Heap.get?_push_of_some _ e)) ?_ ?_ ?_
    · rw [szp];omega
    · intro b hb
      rw [szp,szp]
      simp only [List.mem_cons,List.not_mem_nil,or_false] at hb
      rcases hb with rfl | rfl | rfl
      · rw [szp];exact Nat.lt_succ_self _
      · exact Nat.lt_succ_of_lt (Nat.lt_succ_of_lt Dlt)
      · exact Nat.lt_succ_of_lt (Nat.lt_succ_self _)
    · have:=hp.map (fun p=>(es.toList.getD p (0,.none)).2)
      have e2:=range_map_getD (fun e:Int × Value=>e.2) es.toList (0,.none)
      rw [Array.length_toList] at e2
      rw [e2] at this
      exact this
    · rw [Heap.get?_push_size _ rfl];simp
    · intro b hb
      simp only [List.mem_cons,List.not_mem_nil,or_false] at hb
      rcases hb with rfl | rfl | rfl
      · exact .inl rfl
      · exact .inr (.inl rfl)
      · exact .inr (.inr (Nat.le_refl _))
  · refine wpAny_ite_false ?_ ?_
    · exact decide_eq_false dr
    refine wpAny_bind (wpAny_pure ?_)
    unfold setEpoch
    refine wpAny_bind (wpAny_bind (wpAny_setState_of hD rfl hS.fit (wpAny_pure ?_)))
    dsimp only
    unfold newFields
    refine wpAny_bind (wpAny_newObj_type ?_)
    refine wpAny_pure ⟨_,rfl, "set_iterator", _,⟨_,Heap.get?_push_size _ rfl,rfl⟩,slot_seti_next.lookup,?_⟩
    have DI:D≠s.heap.objs.size:=Nat.ne_of_lt Dlt
    have fpl:∀ b∈[s.heap.objs.size,D],b < (s.heap.push (setIt (rawInt 0) 0 D es.size ep)).objs.size:=fun b hb=>by
      rw [szp]
      simp only [List.mem_cons,List.not_mem_nil,or_false] at hb
      rcases hb with rfl | rfl
      · exact Nat.lt_succ_self _
      · exact Nat.lt_succ_of_lt Dlt
    have fpw:∀ b∈[s.heap.objs.size,D],b=s.heap.objs.size∨b=D∨s.heap.objs.size≤b:=fun b hb=>by
      simp only [List.mem_cons,List.not_mem_nil,or_false] at hb
      rcases hb with rfl | rfl
      · exact .inl rfl
      · exact .inr (.inl rfl)
    cases bt:w.params.followText "set-order" with
    | true=>
      refine h _ _ _ _ _ s.drawn (fun A' hA'=>walks_text bt hA' DI hS.fit) ⟨Heap.get?_push_size _ rfl,Heap.get?_push_of_some _ hD⟩ (Nat.le_refl _) fpl (fun b o e=>Heap.get?_push_of_some _ e) ((pick_perm _ es).map _) (by rw [Heap.get?_push_size _ rfl];simp) fpw
    | false=>
      have hl:t.led=true:=by rw [hS.led];unfold ledOf;rw [bt];rfl
      have z1:es.size≤1:=by
        rcases hS.pl with z | z
        · omega
        · rw [bt,z] at dr
          have:¬ es.size > 1:=fun c=>dr (by simp [c])
          omega
      refine h _ _ _ _ _ s.drawn (fun A' hA'=>walks_led bt hA' DI hS.fit hl z1) ⟨Heap.get?_push_size _ rfl,Heap.get?_push_of_some _ hD⟩ (Nat.le_refl _) fpl (fun b o e=>Heap.get?_push_of_some _ e) (List.Perm.refl _) (by rw [Heap.get?_push_size _ rfl];simp) fpw
theorem hint_set {r:Addr} {Q:Bool→Shared→Prop} (hT:s.TypeIs (.ref r) "set") (h:Q false s):wpAny (model prog w) A (Builtin.List.listLengthHint (.ref r)) Q E s:=by
  unfold Builtin.List.listLengthHint
  refine wpAny_bind (wpAny_specialOf hT F.slot_set_len.lookup ?_)
  dsimp only
  rw [show splitId "set.__len__" = some ("set", "__len__") by kernel_rfl]
  dsimp only
  refine wpAny_bind (wpAny_isInstance hT F.sub_set_set ?_)
  rw [if_neg (by decide)]
  refine wpAny_ite_true (by kernel_rfl) ?_
  refine wpAny_bind (wpAny_typeOf hT ?_)
  exact wpAny_pure h
end
end L2
namespace L2
open PySem PySem.Spec PyProof.Rows PySem.W
section
variable {prog:Program} {w:World} {A:Around} {E:Value→Shared→Prop} {s:Shared}
theorem set_collect {D:Addr} {es:Array (Int × Value)} {ep:Nat} {t:SetTable} {S:List Str} {Q:List Value→Shared→Prop} (hD:setAt D es ep t s.heap) (hS:SetS w (ledOf w) es t S) (hh:A.handled=none) (hz:es.size≤1000)
    (h:∀ h' tk d acc,(∀ b o,s.heap.get? b=some o→h'.get? b=some o)→s.heap.objs.size≤h'.objs.size→acc.Perm (es.toList.map (·.2))→Q acc { s with heap:=h',toks:=tk,drawn:=d }) :
    wpAny (model prog w) A (collect (.ref D)) Q E s:=by
  have Dlt:D < s.heap.objs.size:=Heap.lt_size hD
  unfold collect
  refine wpAny_bind (wpAny_runValue (codeAny_builtin F.entry_proto_collect ?_))
  rw [Around.under_plainId F.plain_proto_collect _]
  show wpAny _ A.in1 (newList [] >>= fun l=>again (.builtin "list.__iadd__" ⟨[l,.ref D],[]⟩)) _ _ s
  refine wpAny_bind (wpAny_newObj_type ?_)
  refine wpAny_pure ⟨plainId_quiet F.plain_list_iadd _,codeAny_builtin F.entry_list_iadd ?_⟩
  rw [Around.under_plainId F.plain_list_iadd _]
  show wpAny _ A.in1 (Builtin.List.listExtendWith (.ref s.heap.objs.size) (.ref D) (.ref s.heap.objs.size)) _ _ _
  have hS₁:(s.heap.push { cls:=.type "list", data:=.seq ([]:List Value).toArray }).get? s.heap.objs.size=some { cls:=.type "list", data:=.seq #[] 0 }:=Heap.get?_push_size _ rfl
  have hD1:setAt D es ep t (s.heap.push { cls:=.type "list", data:=.seq ([]:List Value).toArray }):=Heap.get?_push_of_some _ hD
  have szp:(s.heap.push { cls:=.type "list", data:=.seq ([]:List Value).toArray }).objs.size=s.heap.objs.size+1:=Heap.size_push ..
  have old1:∀ b o,s.heap.get? b=some o→(s.heap.push { cls:=.type "list", data:=.seq ([]:List Value).toArray }).get? b=some o:=fun b o e=>Heap.get?_push_of_some _ e
  generalize s.heap.push { cls:=.type "list", data:=.seq ([]:List Value).toArray }=g at hS₁ hD1 szp old1
  have hT:({ s with heap:=g }:Shared).TypeIs (.ref D) "set" := ⟨_,hD1,rfl⟩
  unfold Builtin.List.listExtendWith
  refine wpAny_bind (wpAny_typeOf hT ?_)
  rw [if_neg (by
    have:(s.heap.objs.size == D)=false:=by simpa using Nat.ne_of_gt Dlt
    show ¬ (((s.heap.objs.size == D) || _ || _)=true)
    rw [this];decide)]
  refine wpAny_bind (set_iter (s:={ s with heap:=g }) hD1 hS hz fun I fp St vs h1 d Wk st0 Ige fpl old2 vp hI fpw=>?_)
  have hT2:({ s with heap:=h1,drawn:=d }:Shared).TypeIs (.ref D) "set" := ⟨_,old2 _ _ hD1,rfl⟩
  refine wpAny_bind (wpAny_holding (hint_set hT2 ?_))
  dsimp only
  have Ige':s.heap.objs.size+1≤I:=by rw [← szp];exact Ige
  have vl:vs.length=es.size:=by have:=vp.length_eq;simpa using this
  have hS2:=old2 _ _ hS₁
  have nfp:s.heap.objs.size ∉ fp:=fun hm=>by
    rcases fpw _ hm with z | z | z
    · have z':s.heap.objs.size=I:=z
      rw [← z'] at Ige'
      exact Nat.not_succ_le_self _ Ige'
    · have z':s.heap.objs.size=D:=z
      rw [z'] at Dlt
      exact Nat.lt_irrefl _ Dlt
    · rw [szp] at z
      have z':s.heap.objs.size+1≤s.heap.objs.size:=z
      omega
  have fin:∀ (c0:Nat) (h2:Heap),h2.get? s.heap.objs.size=some { cls:=.type "list", data:=.seq #[] c0 }→(∀ b o,b≠s.heap.objs.size→h1.get? b=some o→h2.get? b=some o) →
      codeAny (model prog w) A (.builtin "list.extend.loop" ⟨[.ref s.heap.objs.size,.ref I,.ref s.heap.objs.size],[]⟩) (fun r s'=>match r with | .ok (.ret v)=>wpAny (model prog w) A (match v with | .ref a=>(do let __do_lift ← load a;match __do_lift.data with | .seq xs _=>pure xs.toList | _=>unsupported "internal:collect") | _=>unsupported "internal:collect") Q E s' | .ok _=>False | .error e=>E e s') { s with heap:=h2,drawn:=d }:=fun c0 h2 hg2 k2=>by
    refine codeAny_extend_loopS (Wk A.in1 hh).toS (by rw [sizeLine_eq];omega) s.heap.objs.size nfp (.ref s.heap.objs.size) es.size 0 _ #[] c0 (Nat.sub_zero _) (Nat.zero_le _) ((Wk A.in1 hh).frame 0 _ _ st0 fun b hb o e=>k2 b o (fun z=>nfp (by rw [← z];exact hb)) e) hg2 ⟨rfl,fun j v hj=>by simp at hj⟩ fun s' acc' c' mv hg3 it=>?_
    obtain ⟨hp',gn',dr',tk',os'⟩:=s'
    have e1:gn'=s.gens:=mv.gens
    have e2:dr'=d:=mv.drawn
    have e3:os'=s.os:=mv.os
    subst e1;subst e2;subst e3
    refine wpAny_bind (wpAny_load hg3 (wpAny_pure ?_))
    have ea:acc'.toList=vs:=by
      apply List.ext_getElem?
      intro i
      rcases Nat.lt_or_ge i es.size with c | c
      · have hi:i < acc'.size:=by rw [it.1];exact c
        have:=it.2 i acc'[i] (Array.getElem?_eq_getElem hi)
        rw [Array.getElem?_toList,Array.getElem?_eq_getElem hi,this]
      · rw [Array.getElem?_toList,Array.getElem?_eq_none (by rw [it.1];exact c),List.getElem?_eq_none (by omega)]
    rw [ea]
    refine h hp' tk' _ vs (fun b o e=>?_) ?_ vp
    · have bl:b≠s.heap.objs.size:=Nat.ne_of_lt (Heap.lt_size e)
      have bI:b≠I:=fun z=>by
        have h1:b < s.heap.objs.size:=Heap.lt_size e
        have h2:b=I:=z
        have h3:I < s.heap.objs.size:=by rw [← h2];exact h1
        exact absurd (Nat.lt_of_lt_of_le h3 (Nat.le_of_succ_le Ige')) (Nat.lt_irrefl _)
      exact mv.heap b o (by simp [bl,bI]) (k2 b o bl (old2 _ _ (old1 _ _ e)))
    · exact Nat.le_of_lt (Heap.lt_size hg3)
  rw [if_pos (by decide +kernel)]
  refine wpAny_bind (wpAny_rule (wpAny_bind ?_))
  unfold Builtin.List.listTouch
  refine wpAny_bind (listUpdate_at (a:=s.heap.objs.size) (s:={ s with heap:=h1,drawn:=d }) hS2 rfl ?_ (Nat.zero_le _) (by show 1≤sizeLine+1;omega))
  have g1:=get?_update_seq hS2 (fun x=>x.push Value.none)
  refine listUpdate_at (a:=s.heap.objs.size) (s:={ s with heap:=h1.update s.heap.objs.size (Obj.mapSeq fun x=>x.push Value.none),drawn:=d }) g1 rfl ?_ (by show 1≤sizeLine;rw [sizeLine_eq];decide) (Nat.zero_le _)
  have g2:=get?_update_seq g1 (fun x=>x.pop)
  refine wpAny_pure ⟨plainId_quiet (by kernel_rfl) _,?_⟩
  exact fin _ _ g2 fun b o n e=>(Heap.get?_update_ne _ _ _ _ n).trans ((Heap.get?_update_ne _ _ _ _ n).trans e)
theorem perm_strs:∀ {es:List (Int × Value)} {acc:List Value},(∀ e∈es,∃ x tk,e=(hashStr w x,Value.str x tk))→acc.Perm (es.map (·.2))→∃ ss,StrsAre acc ss∧ss.Perm (es.map keyOf):=fun {es acc} he hp=>by
  let f:Value→Str:=fun v=>match v with | .str x _=>x | _=>Str.empty
  have hall:∀ v∈acc,∃ x tk,v=Value.str x tk:=fun v hv=>by
    obtain ⟨e,hm,rfl⟩:=List.mem_map.mp (hp.mem_iff.mp hv)
    obtain ⟨x,tk,rfl⟩:=he e hm
    exact ⟨x,tk,rfl⟩
  have go:∀ (l:List Value),(∀ v∈l,∃ x tk,v=Value.str x tk)→StrsAre l (l.map f):=fun l=>by
    induction l with
    | nil=>intro _;exact .nil
    | cons v r ih=>
      intro hl
      obtain ⟨x,tk,rfl⟩:=hl v List.mem_cons_self
      exact .cons x tk (ih fun u hu=>hl u (List.mem_cons_of_mem _ hu))
  refine ⟨acc.map f,go acc hall,?_⟩
  have:=hp.map f
  rw [List.map_map] at this
  have e2:es.map (f ∘ fun e=>e.2)=es.map keyOf:=List.map_congr_left fun e _=>rfl
  rw [e2] at this
  exact this
theorem set_sorted {D:Addr} {S:List Str} {n:Nat} {Q:Value→Shared→Prop} (hA:SetA w (ledOf w) s.heap D S n) (hh:A.handled=none) (hn:n < 64)
    (h:∀ h' tk d l out ss' e,(∀ b o,s.heap.get? b=some o→h'.get? b=some o)→s.heap.objs.size≤l→h'.get? l=some (seqObj "list" out e)→StrsAre out.toList ss'→ss'.Nodup→(∀ x,x∈ss' ↔ x∈S)→sortedS ss'=true→ss'.length≤n→Q (.ref l) { s with heap:=h',toks:=tk,drawn:=d }) :
    wpAny (model prog w) A (call (.builtin "sorted") [.ref D]) Q E s:=by
  obtain ⟨es,ep,t,hD,hS,hsz⟩:=hA
  refine Calls.call_function_entry kind_sorted plain_sorted entry_sorted (args_sorted1 _) ?_
  unfold Builtin.«sorted»
  refine wpAny_bind (m:=checkCount "sorted" 1 1 _) (wpAny_pure ?_)
  refine wpAny_bind (set_collect (A:=A.in1) hD hS hh (by omega) fun h1 tk d acc old1 sz1 hp=>?_)
  obtain ⟨ss,hv,hpk⟩:=perm_strs hS.ent hp
  have al:acc.length=es.size:=by have:=hp.length_eq;simpa using this
  have fz:acc.length≤sizeLine:=by rw [sizeLine_eq];omega
  refine wpAny_bind (wpAny_newList ?_ fz)
  have hDL:(h1.push (seqObj "list" acc.toArray 0)).get? h1.objs.size=some (seqObj "list" acc.toArray 0):=Heap.get?_push_size _ rfl
  refine wpAny_bind (wpAny_holding (wpAny_call_entry slot_list_sort ⟨_,hDL,rfl⟩ entry_list_sort (list_sort_treeK (s:={ s with heap:=h1.push (seqObj "list" acc.toArray 0),toks:=tk,drawn:=d }) strKind_oneLt hDL (StrsAre.keysOf hv) (fun v₁ v₂ rest e=>keyKind_strs (by rw [← e];exact hv)) (by omega) fun st' a1 a2=>⟨_,rfl,?_⟩) (args_list_sort _)))
  obtain ⟨ss',b1,b2,b3⟩:=sorted_out_str hv a1 a2
  obtain ⟨e,he⟩:=sortedHeap_at hDL
  refine wpAny_pure ⟨_,rfl,h _ tk d h1.objs.size _ ss' e (fun b o eb=>?_) sz1 he b1 ?_ (fun x=>?_) b3 ?_⟩
  · have lt:=Heap.lt_size (old1 _ _ eb)
    rw [sortedHeap_old (Nat.ne_of_lt lt) (by rw [show (h1.push (seqObj "list" acc.toArray 0)).objs.size=h1.objs.size+1 from Heap.size_push ..];exact Nat.lt_succ_of_lt lt)]
    exact Heap.get?_push_of_some _ (old1 _ _ eb)
  · exact (b2.trans hpk).nodup_iff.mpr hS.nd
  · rw [(b2.trans hpk).mem_iff];exact hS.mem x
  · have t1:(es.toList.map keyOf).length=es.size:=by rw [List.length_map,Array.length_toList]
    have t2:=(b2.trans hpk).length_eq
    exact Nat.le_trans (Nat.le_of_eq (t2.trans t1)) hsz
end
end L2
namespace L2
open PySem PySem.Spec PyProof.Rows PySem.W
theorem Inv.drawn {X:Cx} {pins:List (Addr × Obj)} {σ:St} {H:Hp} {s:Shared} (I:Inv X pins σ H s) (d:Drawn):Inv X pins σ H { s with drawn:=d }:=
  ⟨I.ok,I.os,I.bare,I.base,I.loc,I.cell,I.free,I.freeC,I.pin,I.hok,I.len⟩
theorem bt_set:bootBuiltins "set" = some (.type "set"):=by kernel_rfl
theorem bt_sorted':bootBuiltins "sorted" = some (.builtin "sorted"):=by kernel_rfl
section
variable {X:Cx} {a:Expr} {ta:TA} {p p2 pos pos2:Pos}
end
end L2
namespace L2
open PySem PySem.Spec PyProof.Rows PySem.W
open AutoSeq1 (wpAny_loadPart')
open MeetsSeq MeetsSeq2 MeetsSeq3 SeqRoads2 SeqAt
section
variable {X:Cx} {o e:Expr} {es:List Expr} {to:TE} {t:TA} {name:Str} {apos cpos:Pos} {id:String} {r:V→List V→Hp→VK→Prop}
end
section
variable {X:Cx} {a:Expr} {ta:TA} {p p2 pos pos2:Pos}
end
end L2
namespace L2
open PySem PySem.Spec PyProof.Rows
section
variable {κ:Type} [DecidableEq κ]
def valV (kvs:List (κ × V)) (k:κ):Option V:=(kvs.find? fun kv=>decide (kv.1=k)).map (·.2)
def putK (kvs:List (κ × V)) (k:κ) (v:V):List (κ × V):=
  if (kvs.any fun kv=>decide (kv.1=k))=true then kvs.map (fun kv=>if kv.1=k then (kv.1,v) else kv) else kvs++[(k,v)]
theorem valV_pos {p:κ × V} {r:List (κ × V)} {k:κ} (e:p.1=k):valV (p :: r) k=some p.2:=by simp [valV,List.find?_cons,e]
theorem valV_neg {p:κ × V} {r:List (κ × V)} {k:κ} (e:¬ p.1=k):valV (p :: r) k=valV r k:=by simp [valV,List.find?_cons,e]
theorem valV_any (k:κ):∀ kvs:List (κ × V),(kvs.any fun kv=>decide (kv.1=k))=(valV kvs k).isSome
  | []=>rfl
  | p :: r=>by
    rw [List.any_cons]
    by_cases e:p.1=k
    · simp only [valV_pos e,decide_eq_true e,Bool.true_or,Option.isSome_some]
    · rw [valV_neg e,decide_eq_false e,Bool.false_or];exact valV_any k r
theorem valV_map (k j:κ) (y:V):∀ kvs:List (κ × V),valV (kvs.map fun kv=>if kv.1=k then (kv.1,y) else kv) j=(valV kvs j).map fun x=>if j=k then y else x
  | []=>rfl
  | p :: r=>by
    have ih:=valV_map k j y r
    rw [List.map_cons]
    by_cases h:p.1=k
    · rw [if_pos h]
      by_cases e:p.1=j
      · rw [valV_pos (p:=(p.1,y)) e,valV_pos e,Option.map_some,if_pos (e.symm.trans h)]
      · rw [valV_neg (p:=(p.1,y)) e,valV_neg e,ih]
    · rw [if_neg h]
      by_cases e:p.1=j
      · rw [valV_pos (p:=p) e,valV_pos e,Option.map_some,if_neg (fun z=>h (e.trans z))]
      · rw [valV_neg (p:=p) e,valV_neg e,ih]
theorem valV_snoc (k j:κ) (y:V):∀ kvs:List (κ × V),valV kvs k=none→valV (kvs++[(k,y)]) j=if j=k then some y else valV kvs j
  | [],_=>by
    by_cases e:k=j
    · rw [if_pos e.symm];exact valV_pos (p:=(k,y)) e
    · rw [if_neg (fun z=>e z.symm)];exact valV_neg (p:=(k,y)) e
  | p :: r,hn=>by
    rw [List.cons_append]
    have hk:¬ p.1=k:=fun z=>by rw [valV_pos z] at hn;cases hn
    rw [valV_neg hk] at hn
    have ih:=valV_snoc k j y r hn
    by_cases e:p.1=j
    · rw [valV_pos e,valV_pos e,if_neg (fun z=>hk (e.trans z))]
    · rw [valV_neg e,valV_neg e,ih]
theorem valV_put (kvs:List (κ × V)) (k j:κ) (y:V):valV (putK kvs k y) j=if j=k then some y else valV kvs j:=by
  unfold putK
  by_cases a:(kvs.any fun kv=>decide (kv.1=k))=true
  · rw [if_pos a,valV_map]
    rw [valV_any] at a
    by_cases e:j=k
    · obtain ⟨x,hx⟩:=Option.isSome_iff_exists.mp a
      rw [if_pos e,e,hx,Option.map_some,if_pos rfl]
    · rw [if_neg e]
      cases valV kvs j with
      | none=>rfl
      | some x=>rw [Option.map_some,if_neg e]
  · rw [if_neg a]
    refine valV_snoc k j y kvs ?_
    rw [valV_any] at a
    cases q:valV kvs k with
    | none=>rfl
    | some x=>rw [q] at a;exact (a rfl).elim
theorem length_putK (kvs:List (κ × V)) (k:κ) (v:V):(putK kvs k v).length≤kvs.length+1:=by
  unfold putK
  split
  · rw [List.length_map];omega
  · rw [List.length_append,List.length_cons,List.length_nil];omega
theorem RelO.isSome_eq {o:Option V} {u:Option Value} (r:RelO o u):o.isSome=u.isSome:=by
  cases o with
  | none=>cases u with
    | none=>rfl
    | some _=>exact (show False from r).elim
  | some _=>cases u with
    | none=>exact (show False from r).elim
    | some _=>rfl
theorem RelO.getD {o:Option V} {u:Option Value} {d:V} {d':Value} (r:RelO o u) (rd:RelV d d'):RelV (o.getD d) (u.getD d'):=by
  cases o with
  | none=>cases u with
    | none=>exact rd
    | some _=>exact (show False from r).elim
  | some _=>cases u with
    | none=>exact (show False from r).elim
    | some _=>exact r
theorem KV.val {kvs:List (κ × V)} {vs:List (κ × Value)} (r:KV kvs vs) (k:κ):RelO (valV kvs k) (valueAt vs k):=by
  unfold KV at r
  induction r with
  | nil=>exact True.intro
  | @cons p q ps qs h t ih=>
    obtain ⟨h1,h2⟩:=h
    by_cases e:p.1=k
    · have e':q.1=k:=h1.symm.trans e
      have b:valueAt (q :: qs) k=some q.2:=by simp [valueAt,List.find?_cons,e']
      rw [valV_pos e,b];exact h2
    · have e':¬ q.1=k:=fun z=>e (h1.trans z)
      have b:valueAt (q :: qs) k=valueAt qs k:=by simp [valueAt,List.find?_cons,e']
      rw [valV_neg e,b];exact ih
theorem KV.any {kvs:List (κ × V)} {vs:List (κ × Value)} (r:KV kvs vs) (k:κ):(kvs.any fun kv=>decide (kv.1=k))=vs.any fun kv=>decide (kv.1=k):=by
  unfold KV at r
  induction r with
  | nil=>rfl
  | cons h t ih=>rw [List.any_cons,List.any_cons,ih,h.1]
theorem KV.repl {kvs:List (κ × V)} {vs:List (κ × Value)} (r:KV kvs vs) (k:κ) {y:V} {u:Value} (ry:RelV y u) :
    KV (kvs.map fun kv=>if kv.1=k then (kv.1,y) else kv) (vs.map fun kv=>if kv.1=k then (kv.1,u) else kv):=by
  unfold KV at r ⊢
  induction r with
  | nil=>exact .nil
  | @cons p q ps qs h t ih=>
    rw [List.map_cons,List.map_cons]
    refine .cons ?_ ih
    obtain ⟨h1,h2⟩:=h
    by_cases e:p.1=k
    · rw [if_pos e,if_pos (h1.symm.trans e)];exact ⟨h1,ry⟩
    · rw [if_neg e,if_neg (fun z=>e (h1.trans z))];exact ⟨h1,h2⟩
theorem KV.put {kvs:List (κ × V)} {vs:List (κ × Value)} (r:KV kvs vs) (k:κ) {y:V} {u:Value} (ry:RelV y u):KV (putK kvs k y) (stored vs k u):=by
  unfold putK stored
  rw [r.any k]
  by_cases e:(vs.any fun kv=>decide (kv.1=k))=true
  · rw [if_pos e,if_pos e];exact r.repl k ry
  · rw [if_neg e,if_neg e];exact Paired.snoc r ⟨rfl,ry⟩
theorem KV.length {kvs:List (κ × V)} {vs:List (κ × Value)} (r:KV kvs vs):kvs.length=vs.length:=Paired.length r
end
theorem kV_is {P:Program} {w:World} {k:Key} {u:Value} (r:RelV (kV k) u):(mixKind P w).is k u=true:=by
  cases k with
  | inl i=>obtain ⟨t,e⟩:=(show ∃ t,u=Value.int i t from r);subst e;exact mixKind_int P w i t
  | inr x=>obtain ⟨t,e⟩:=(show ∃ t,u=Value.str x t from r);subst e;exact mixKind_str P w x t
theorem items_are {P:Program} {w:World}:∀ {ks:List Key} {us:List Value},Vals (ks.map kV) us→ItemsAre (mixKind P w) ks us
  | [],_,r=>by rw [List.map_nil] at r;cases r;exact .nil
  | k :: ks,_,r=>by
    rw [List.map_cons] at r
    cases r with
    | cons h t=>exact .cons (kV_is h) (items_are t)
abbrev KT (H:Hp):List (List Key × V)→List (List Key × Addr × Value)→Prop:=Paired fun p q=>p.1=q.1∧H q.2.1=some (.tup (p.1.map kV))∧RelV p.2 q.2.2
theorem KT.val {H:Hp} {kvs:List (List Key × V)} {xs:List (List Key × Addr × Value)} (r:KT H kvs xs) (k:List Key):RelO (valV kvs k) ((atKey xs k).map (·.2)):=by
  induction r with
  | nil=>exact True.intro
  | @cons p q ps qs h t ih=>
    obtain ⟨h1,_,h2⟩:=h
    by_cases e:p.1=k
    · have e':q.1=k:=h1.symm.trans e
      have b:atKey (q :: qs) k=some q.2:=by simp [atKey,List.find?_cons,e']
      rw [valV_pos e,b];exact h2
    · have e':¬ q.1=k:=fun z=>e (h1.trans z)
      have b:atKey (q :: qs) k=atKey qs k:=by simp [atKey,List.find?_cons,e']
      rw [valV_neg e,b];exact ih
theorem KT.repl {H:Hp} {kvs:List (List Key × V)} {xs:List (List Key × Addr × Value)} (r:KT H kvs xs) (k:List Key) {y:V} {u:Value} (ry:RelV y u) :
    KT H (kvs.map fun kv=>if kv.1=k then (kv.1,y) else kv) (xs.map (putAt k u)):=by
  induction r with
  | nil=>exact .nil
  | @cons p q ps qs h t ih=>
    rw [List.map_cons,List.map_cons]
    refine .cons ?_ ih
    obtain ⟨h1,h2,h3⟩:=h
    unfold putAt
    by_cases e:p.1=k
    · rw [if_pos e,if_pos (h1.symm.trans e)];exact ⟨h1,h2,ry⟩
    · rw [if_neg e,if_neg (fun z=>e (h1.trans z))];exact ⟨h1,h2,h3⟩
theorem KT.put {H:Hp} {kvs:List (List Key × V)} {xs:List (List Key × Addr × Value)} (r:KT H kvs xs) (k:List Key) {b:Addr} {y:V} {u:Value} (hb:H b=some (.tup (k.map kV))) (ry:RelV y u) :
    KT H (putK kvs k y) (storedH xs k b u):=by
  have e:(kvs.any fun kv=>decide (kv.1=k))=(atKey xs k).isSome:=by
    rw [valV_any,(r.val k).isSome_eq,Option.isSome_map]
  unfold putK storedH
  rw [e]
  by_cases q:(atKey xs k).isSome=true
  · rw [if_pos q,if_pos q];exact r.repl k ry
  · rw [if_neg q,if_neg q];exact Paired.snoc r ⟨rfl,hb,ry⟩
theorem KT.keeps {H H':Hp} {kvs:List (List Key × V)} {xs:List (List Key × Addr × Value)} (r:KT H kvs xs) (ht:∀ b ys,H b=some (.tup ys)→H' b=some (.tup ys)):KT H' kvs xs:=
  Paired.mapP r fun _ _ z=>⟨z.1,ht _ _ z.2.1,z.2.2⟩
section
variable {P:Program} {w:World} {H:Hp} {h:Heap} {a:Addr}
theorem rd_of {u:HO} (ok:HOk P w H h) (e:Rd H a u):ObjOk P w H h a u:=e.ok ok
theorem dk_rd {kvs:List (Key × V)} (ok:HOk P w H h) (e:Rd H a (.dK kvs)):kvs.length≤sizeLine∧(a == sysModules)=false∧∃ vs,KV kvs vs∧h.DictOf (mixKind P w) a vs:=
  show ObjOk P w H h a (.dK kvs) from rd_of ok e
theorem dk_of {kvs:List (Key × V)} (ok:HOk P w H h) (e:H a=some (.dK kvs)):kvs.length≤sizeLine∧(a == sysModules)=false∧∃ vs,KV kvs vs∧h.DictOf (mixKind P w) a vs:=dk_rd ok (.inl e)
theorem key_of {ks:List Key} (ok:HOk P w H h) (e:H a=some (.tup (ks.map kV))):(tupleKind (mixKind P w)).is h ks a:=by
  obtain ⟨_,its,r,o,h1,h2,n,h3⟩:=(show ObjOk P w H h a (.tup (ks.map kV)) from ok a _ e)
  exact ⟨o,its.toArray,n,h1,h2,h3,by simpa using items_are r⟩
theorem dt_rd {kvs:List (List Key × V)} (ok:HOk P w H h) (e:Rd H a (.dT kvs)):kvs.length≤sizeLine∧(a == sysModules)=false ∧
    ∃ xs,KT H kvs xs∧h.DictOfH (tupleKind (mixKind P w)) a xs:=by
  obtain ⟨z,y,xs,r,o,es,ep,h1,h2,h3,h4,h5⟩:=(show ObjOk P w H h a (.dT kvs) from rd_of ok e)
  refine ⟨z,y,xs,r,o,es,ep,h1,h2,h3,h4,fun x hx=>?_,h5⟩
  have all:∀ {l:List (List Key × V)} {m:List (List Key × Addr × Value)},KT H l m→∀ x∈m,(tupleKind (mixKind P w)).is h x.1 x.2.1:=by
    intro l m q
    induction q with
    | nil=>intro x hx;exact nomatch hx
    | @cons p q ps qs hq t ih=>
      intro x hx
      rcases List.mem_cons.mp hx with e | hx
      · subst e
        exact key_of ok (by rw [← hq.1];exact hq.2.1)
      · exact ih x hx
  exact all r x hx
theorem dt_of {kvs:List (List Key × V)} (ok:HOk P w H h) (e:H a=some (.dT kvs)):kvs.length≤sizeLine∧(a == sysModules)=false ∧
    ∃ xs,KT H kvs xs∧h.DictOfH (tupleKind (mixKind P w)) a xs:=dt_rd ok (.inl e)
end
def DGet (H:Hp) (a:Addr) (y:V) (r:Option V):Prop:=
  (∃ kvs k,Rd H a (.dK kvs)∧y=kV k∧r=valV kvs k)∨∃ kvs k b,Rd H a (.dT kvs)∧y=.ref b∧H b=some (.tup (k.map kV))∧r=valV kvs k
def DPut (H:Hp) (a:Addr) (y v:V) (H':Hp):Prop:=
  (∃ kvs k,H a=some (.dK kvs)∧y=kV k∧kvs.length < sizeLine∧H'=upd H a (.dK (putK kvs k v))) ∨
  ∃ kvs k b,H a=some (.dT kvs)∧y=.ref b∧H b=some (.tup (k.map kV))∧kvs.length < sizeLine∧H'=upd H a (.dT (putK kvs k v))
theorem DGet.k {H:Hp} {a:Addr} {kvs:List (Key × V)} {k:Key} (e:H a=some (.dK kvs)):DGet H a (kV k) (valV kvs k):=.inl ⟨kvs,k,.inl e,rfl,rfl⟩
theorem DGet.t {H:Hp} {a b:Addr} {kvs:List (List Key × V)} {k:List Key} (e:H a=some (.dT kvs)) (eb:H b=some (.tup (k.map kV))):DGet H a (.ref b) (valV kvs k):=.inr ⟨kvs,k,b,.inl e,rfl,eb,rfl⟩
theorem DPut.k {H:Hp} {a:Addr} {kvs:List (Key × V)} {k:Key} {v:V} (e:H a=some (.dK kvs)) (hl:kvs.length < sizeLine):DPut H a (kV k) v (upd H a (.dK (putK kvs k v))):=.inl ⟨kvs,k,e,rfl,hl,rfl⟩
theorem DPut.t {H:Hp} {a b:Addr} {kvs:List (List Key × V)} {k:List Key} {v:V} (e:H a=some (.dT kvs)) (eb:H b=some (.tup (k.map kV))) (hl:kvs.length < sizeLine) :
    DPut H a (.ref b) v (upd H a (.dT (putK kvs k v))):=.inr ⟨kvs,k,b,e,rfl,eb,hl,rfl⟩
section
variable {X:Cx} {pins:List (Addr × Obj)} {σ:St} {H:Hp} {s:Shared} {a:Addr} {y v:V} {u r:Value} {o:Option V} {A:Around} {E:Value→Shared→Prop}
theorem Inv.big (I:Inv X pins σ H s):sysModules < s.heap.objs.size:=by
  have h:mainGlobals < s.heap.objs.size:=(I.mod.glob.keeps I.bk).lt
  exact Nat.lt_trans (by decide) h
theorem d_in {Q:Value→Shared→Prop} (hu:A.units+1 < cLine) (I:Inv X pins σ H s) (g:DGet H a y o) (ry:RelV y u) (h:∀ s',Inv X pins σ H s'→Q (.bool o.isSome) s') :
    wpAny (model X.prog X.w) A (compareOp .In u (.ref a)) Q E s:=by
  rcases g with ⟨kvs,k,e,ey,l⟩ | ⟨kvs,k,b,e,ey,eb,l⟩
  · subst ey
    obtain ⟨z,hd,vs,rel,dd⟩:=dk_rd I.hok e
    refine wpAny_in_of (kV_is ry) hd dd.mapOf ?_
    rw [← (rel.val k).isSome_eq,← l]
    exact h _ (I.tok _)
  · subst ey
    cases (show u=Value.ref b from ry)
    obtain ⟨z,hd,xs,rel,dd⟩:=dt_rd I.hok e
    refine wpAny_in_heap (tupleKind_room_in1 hu) (key_of I.hok eb) hd dd ?_
    have q:=(rel.val k).isSome_eq
    rw [Option.isSome_map] at q
    rw [← q,← l]
    exact h _ (I.tok _)
theorem d_write {h':Heap} {t':Nat} {ob:HO} (I:Inv X pins σ H s) (mu:Mut (H a)) (hs:Heap.SameBut a s.heap h') (he:∃ q,h'.get? a=some q) (new:ObjOk X.prog X.w (upd H a ob) h' a ob) :
    Inv X pins σ (upd H a ob) { s with heap:=h',toks:=t' }:=
  I.write (x:=a) (e:=a) mu (.inl rfl) (fun b q hb z=>(hs.2 b hb).trans z) he new
theorem dk_new {P:Program} {w:World} {H':Hp} {h':Heap} {kvs:List (Key × V)} {vs:List (Key × Value)} (z:kvs.length≤sizeLine) (hd:(a == sysModules)=false) (rel:KV kvs vs) (dd:h'.DictOf (mixKind P w) a vs) :
    ObjOk P w H' h' a (.dK kvs):=⟨z,hd,vs,rel,dd⟩
theorem d_setItem {H':Hp} {Q:Unit→Shared→Prop} (hu:A.units+1 < cLine) (I:Inv X pins σ H s) (g:DPut H a y v H') (ry:RelV y u) (rv:RelV v r) (h:∀ s',Inv X pins σ H' s'→Q () s') :
    wpAny (model X.prog X.w) A (setItem (.ref a) u r) Q E s:=by
  rcases g with ⟨kvs,k,e,ey,l,eH⟩ | ⟨kvs,k,b,e,ey,eb,l,eH⟩
  · subst ey eH
    obtain ⟨z,hd,vs,rel,dd⟩:=dk_of I.hok e
    have hz:vs.length≤sizeLine:=by rw [← rel.length];exact z
    have hl:(putK kvs k v).length≤sizeLine:=by have:=length_putK kvs k v;omega
    refine wpAny_setItem_pairs (hsz:=hz) (kV_is ry) dd fun h' dd' hs=>h _ ?_
    have he:∃ q,h'.get? a=some q:=let ⟨q,_,_,hq,_⟩:=dd';⟨q,hq⟩
    exact d_write I (by rw [e];exact True.intro) hs he (dk_new hl hd (rel.put k rv) dd')
  · subst ey eH
    cases (show u=Value.ref b from ry)
    obtain ⟨z,hd,xs,rel,dd⟩:=dt_of I.hok e
    have hz:xs.length≤sizeLine:=by rw [← Paired.length rel];exact z
    have hl:(putK kvs k v).length≤sizeLine:=by have:=length_putK kvs k v;omega
    refine wpAny_setItem_heap (hsz:=hz) (tupleKind_room_in1 hu) (key_of I.hok eb) dd fun h' dd' hs=>h _ ?_
    obtain ⟨q,es,ep,hq,h2,h3,h4,_,h5⟩:=dd'
    refine d_write I (by rw [e];exact True.intro) hs ⟨q,hq⟩ ⟨hl,hd,_,(rel.put k eb rv).keeps fun c ys ec=>?_,q,es,ep,hq,h2,h3,h4,h5⟩
    rw [upd_ne (ne_of ec e (fun z=>nomatch z))]
    exact ec
end
section
variable {X:Cx} {pins:List (Addr × Obj)} {σ:St} {H:Hp} {s:Shared} {a:Addr} {kvs:List (Key × V)} {k:Key} {u:Value} {A:Around} {E:Value→Shared→Prop}
end
def tDIn (ty td:TE):TE:=fun σ H Q=>ty σ H fun y H1=>td σ H1 fun x H2=>∃ a o,x=.ref a∧DGet H2 a y o∧Q (.bl o.isSome) H2
def sDPut (td ty tv:TE):TS:=fun D σ H=>tv σ H fun v H1=>td σ H1 fun x H2=>ty σ H2 fun y H3=>∃ a H4,x=.ref a∧DPut H3 a y v H4∧D.nx σ H4
section
variable {X:Cx} {o i e value:Expr} {pos pos' tpos:Pos} {td ty tv:TE}
theorem pc_din (hu:X.A.units+1 < cLine) (hi:PE X i ty) (ho:PE X o td):PC X .In i o (tDIn ty td):=by
  intro pins s σ H Q I h
  refine thn (hi pins s σ H _ I h) fun iv s1 ⟨y,H1,I1,ry,q1⟩=>thn (ho pins s1 σ H1 _ I1 q1) fun u s2 ⟨x,H2,I2,rx,a,ov,ex,g,q2⟩=>?_
  subst ex
  obtain rfl:u=Value.ref a:=rx
  exact d_in hu I2 g ry fun s3 I3=>⟨.bl ov.isSome,H2,I3,rfl,q2⟩
theorem ps_dput (hu:X.A.units+1 < cLine) (ho:PE X o td) (hi:PE X i ty) (hv:PE X value tv) (hs:swapsWith value (some (.Subscript o i pos')) pos.line X.env=pure false) :
    PS X (.Assign [.Subscript o i pos'] value pos) (sDPut td ty tv):=by
  intro pins s σ H D I h
  refine wpAny_Assign_Subscript (thn (hv pins s σ H _ I h) fun r s1 ⟨v,H1,I1,rv,q1⟩=>thn (ho pins s1 σ H1 _ I1 q1) fun u s2 ⟨x,H2,I2,rx,q2⟩=>thn (hi pins s2 σ H2 _ I2 q2) fun iv s3 ⟨y,H3,I3,ry,a,H4,ex,g,q3⟩=>?_) hs
  subst ex
  obtain rfl:u=Value.ref a:=rx
  exact d_setItem hu I3 g ry rv fun s4 I4=>⟨σ,H4,I4,q3⟩
end
theorem dk_empty {P:Program} {w:World} {H:Hp} (h:Heap) (hb:sysModules < h.objs.size):ObjOk P w H (h.push { cls:=.type "dict", data:=.dict #[] }) h.objs.size (.dK []):=
  ⟨Nat.zero_le _,beq_eq_false_iff_ne.mpr (Ne.symm (Nat.ne_of_lt hb)),[],.nil,Heap.DictOf.new h⟩
def tDNewK:TE:=fun _ H Q=>∀ p,H p=none→Q (.ref p) (upd H p (.dK []))
section
variable {X:Cx} {pos:Pos}
theorem pe_dnewK:PE X (.Dict [] [] pos) tDNewK:=fun pins s σ H Q I h=>
  wpAny_Dict_empty ⟨.ref s.heap.objs.size,_,I.laid (a:=s.heap.objs.size) (o:=.dK []) (t':=s.toks) (fun _ _ q=>Heap.get?_push_of_some _ q) (Nat.le_refl _) (dk_empty s.heap I.big),rfl,h _ (I.hok.fresh (Nat.le_refl _))⟩
end
def mergeK (kvs more:List (Key × V)):List (Key × V):=more.foldl (fun acc kv=>putK acc kv.1 kv.2) kvs
theorem KV.merge:∀ {more:List (Key × V)} {rs:List (Key × Value)} {kvs:List (Key × V)} {vs:List (Key × Value)},KV more rs→KV kvs vs→KV (mergeK kvs more) (merged vs rs):=by
  intro more rs kvs vs r
  unfold KV at r
  induction r generalizing kvs vs with
  | nil=>intro q;exact q
  | @cons p q ps qs h t ih=>
    intro r0
    have e:KV (putK kvs p.1 p.2) (stored vs q.1 q.2):=by
      have:=r0.put p.1 h.2
      rw [← h.1];exact this
    exact ih e
theorem length_mergeK:∀ (more kvs:List (Key × V)),(mergeK kvs more).length≤kvs.length+more.length
  | [],kvs=>by show kvs.length≤kvs.length+0;omega
  | p :: r,kvs=>by
    have h1:=length_mergeK r (putK kvs p.1 p.2)
    have h2:=length_putK kvs p.1 p.2
    show (mergeK (putK kvs p.1 p.2) r).length≤_
    rw [List.length_cons];omega
structure M2 (X:Cx) (o:Expr) (m:Str) (apos:Pos) (e f:Expr) (cpos:Pos):Prop where
  base:attributeBase o m X.env (eval o X.env)=eval o X.env
  few:((backTo cpos (starEach [e,f] X.env)).all (fun x=>!x.1) && (backToKw cpos (keywordEach [] X.env)).all (fun x=>x.1.isSome)
    && decide (([e,f]:List Expr).length+([]:List Keyword).length+(if ([]:List Keyword).isEmpty then 0 else 1) < 30))=true
  line:(apos.endLine == cpos.line)=true
  trees:backTo cpos (starEach [e,f] X.env)=[(false,eval e X.env),(false,eval f X.env)]
section
variable {X:Cx} {pins:List (Addr × Obj)} {σ:St} {H:Hp} {s:Shared} {a:Addr} {y d:V} {u r:Value} {o:Option V} {A:Around} {E:Value→Shared→Prop}
end
section
variable {X:Cx} {o e f:Expr} {apos cpos:Pos} {td ty tx:TE}
end
section
variable {X:Cx} {pins:List (Addr × Obj)} {σ:St} {H:Hp} {s:Shared} {a:Addr} {kvs:List (Key × V)} {A:Around} {E:Value→Shared→Prop}
end
section
variable {X:Cx} {pins:List (Addr × Obj)} {σ:St} {H:Hp} {s:Shared} {a:Addr} {y:V} {u:Value} {A:Around} {E:Value→Shared→Prop}
end
end L2
namespace L2
open PySem PySem.Spec PyProof.Rows PySem.W
open MeetsSeq MeetsSeq2 MeetsSeq3 SeqRoads2 SeqAt
theorem is_kV {P:Program} {w:World} {k:Key} {u:Value} (h:(mixKind P w).is k u=true):RelV (kV k) u:=by
  cases k with
  | inl i=>obtain ⟨t,e⟩:=PySem.Value.isInt_shape (show Value.isInt i u=true from h);exact ⟨t,e⟩
  | inr x=>obtain ⟨t,e⟩:=PySem.Value.isStrOf_shape (show Value.isStrOf x u=true from h);exact ⟨t,e⟩
theorem kv_get {kvs:List (Key × V)} {vs:List (Key × Value)} (r:KV kvs vs):∀ {i:Nat} {k:Key} {v:V},kvs[i]?=some (k,v)→∃ x,vs[i]?=some (k,x)∧RelV v x:=by
  unfold KV at r
  induction r with
  | nil=>intro i k v h;simp at h
  | @cons p q _ _ h t ih=>
    intro i k v e
    cases i with
    | zero=>
      have e':p=(k,v):=by simpa using e
      subst e'
      obtain ⟨k',x⟩:=q
      obtain ⟨rfl,h2⟩:=h
      exact ⟨x,rfl,h2⟩
    | succ i=>exact ih (by simpa using e)
section
variable {X:Cx} {tg:Expr}
end
section
theorem small10000 {n:Nat} (h:n < 10000):n < sizeLine:=by
  rw [sizeLine_eq];omega
theorem comp_big {J:It} {NL:List Str} {ix:List Nat} {g:TG} {tt:TT} {te:TE} {σ:St} {H1:Hp} {Qs:Hp→Prop} {acc:Addr} (n:Nat) (hn:n < 10000) (Pv:Nat→List V→Hp→Prop)
    (hacc:∀ i ys H2,Pv i ys H2→H2 acc=some (.lst ys)∧ys.length≤i) (h0:Pv 0 [] (upd H1 acc (.lst []))) (hstop:∀ ys H2,Pv n ys H2→J.stop n H2∧Qs H2)
    (hturn:∀ i ys H2,i < n→Pv i ys H2→J.go i H2∧∀ x H3,J.yld i H2 x H3→g x (comp0 NL ix σ) H3 fun σ' H4=>σ'.drop NL.length=ix.map (fun j=>σ.getD j none)∧tt σ' H4 fun b H5=>
      if b=true then te σ' H5 fun v H6=>H6 acc=some (.lst ys)∧Pv (i+1) (ys++[v]) (upd H6 acc (.lst (ys++[v]))) else Pv (i+1) ys H5) :
    ∃ W:Nat→Nat→List V→Hp→Prop,(∃ m,W 0 m [] (upd H1 acc (.lst []))) ∧
    ∀ i m ys H2,W i m ys H2→H2 acc=some (.lst ys)∧ys.length < sizeLine ∧
      ((J.stop i H2∧Qs H2)∨(J.go i H2∧∃ N:List V→Hp→Prop,(∀ ys' H',N ys' H'→∃ m',m' < m∧W (i+1) m' ys' H') ∧
        ∀ x H3,J.yld i H2 x H3→g x (comp0 NL ix σ) H3 fun σ' H4=>σ'.drop NL.length=ix.map (fun j=>σ.getD j none)∧tt σ' H4 fun b H5=>
          if b=true then te σ' H5 fun v H6=>H6 acc=some (.lst ys)∧N (ys++[v]) (upd H6 acc (.lst (ys++[v]))) else N ys H5)):=by
  refine ⟨fun i m ys H2=>i≤n∧m=n - i∧Pv i ys H2,⟨n,Nat.zero_le _,rfl,h0⟩,fun i m ys H2 ⟨hi,hm,hp⟩=>?_⟩
  obtain ⟨a1,a2⟩:=hacc i ys H2 hp
  refine ⟨a1,small10000 (by omega),?_⟩
  rcases Nat.lt_or_ge i n with lt | ge
  · obtain ⟨go,tn⟩:=hturn i ys H2 lt hp
    exact .inr ⟨go,Pv (i+1),fun ys' H' hN=>⟨n - (i+1),by omega,by omega,rfl,hN⟩,tn⟩
  · have e:i=n:=by omega
    subst e
    exact .inl (hstop ys H2 hp)
end
section
variable {NL:List Str} {ix:List Nat} {g:TG} {tt:TT} {te:TE} {σ:St} {H1:Hp} {Qs:Hp→Prop} {acc:Addr}
theorem comp_lstB {K:PySem.W.Frag} {a:Addr} {xs:List V} (hn:xs.length < 10000) (Pv:Nat→List V→Hp→Prop)
    (hl:∀ i ys H2,Pv i ys H2→SqL K H2 a xs) (hacc:∀ i ys H2,Pv i ys H2→H2 acc=some (.lst ys)∧ys.length≤i) (h0:Pv 0 [] (upd H1 acc (.lst []))) (hstop:∀ ys H2,Pv xs.length ys H2→Qs H2)
    (hturn:∀ i x ys H2,xs[i]?=some x→Pv i ys H2→g x (comp0 NL ix σ) H2 fun σ' H4=>σ'.drop NL.length=ix.map (fun j=>σ.getD j none)∧tt σ' H4 fun b H5=>
      if b=true then te σ' H5 fun v H6=>H6 acc=some (.lst ys)∧Pv (i+1) (ys++[v]) (upd H6 acc (.lst (ys++[v]))) else Pv (i+1) ys H5) :
    ∃ W:Nat→Nat→List V→Hp→Prop,(∃ m,W 0 m [] (upd H1 acc (.lst []))) ∧
    ∀ i m ys H2,W i m ys H2→H2 acc=some (.lst ys)∧ys.length < sizeLine ∧
      (((Itl K a).stop i H2∧Qs H2)∨((Itl K a).go i H2∧∃ N:List V→Hp→Prop,(∀ ys' H',N ys' H'→∃ m',m' < m∧W (i+1) m' ys' H') ∧
        ∀ x H3,(Itl K a).yld i H2 x H3→g x (comp0 NL ix σ) H3 fun σ' H4=>σ'.drop NL.length=ix.map (fun j=>σ.getD j none)∧tt σ' H4 fun b H5=>
          if b=true then te σ' H5 fun v H6=>H6 acc=some (.lst ys)∧N (ys++[v]) (upd H6 acc (.lst (ys++[v]))) else N ys H5)):=by
  refine comp_big xs.length hn Pv hacc h0 (fun ys H2 hp=>⟨⟨xs,hl _ _ _ hp,Nat.le_refl _⟩,hstop ys H2 hp⟩) fun i ys H2 hi hp=>?_
  have hs:=hl _ _ _ hp
  refine ⟨⟨xs,xs[i],hs,List.getElem?_eq_getElem hi⟩,?_⟩
  rintro x H3 ⟨rfl,hx⟩
  exact hturn i x ys H3 (hx xs hs) hp
end
section
variable {X:Cx}
end
end L2
namespace L2
open PySem PySem.Spec PyProof.Rows PySem.W
end L2
namespace L2
open PySem PySem.Spec PyProof.Rows PySem.W
theorem lk_list_keys:typeLookup (.type "list") "keys" = pure none:=by rw [typeLookup_type,builtinLookup_eq_fast];kernel_rfl
theorem keys_none {prog:Program} {w:World} {A:Around} {E:Value→Shared→Prop} {s:Shared} {a:Addr} {xs:Array Value} {k:Nat} {Q:Option Value→Shared→Prop}
    (hx:s.heap.get? a=some { cls:=.type "list", data:=.seq xs k }) (hA:A.handled=none)
    (h:∀ h' tk,(∀ b o,s.heap.get? b=some o→h'.get? b=some o)→Q none { s with heap:=h',toks:=tk }) :
    wpAny (model prog w) A (getAttr? (.ref a) "keys") Q E s:=by
  obtain ⟨hp,g,d,tk,os⟩:=s
  have hT:∀ tk',(⟨hp,g,d,tk',os⟩:Shared).TypeIs (.ref a) "list" := fun _=>⟨_,hx,rfl⟩
  have f1:=sub_AttributeError
  have f3:=F.slot_list_getattribute.lookup
  have f4:=F.slot_list_getattribute.bind (.ref a)
  have f5:=am_list_getattr_none
  unfold getAttr? getAttrBy? getAttrBy
  repeat (any_goals (first | assumption | exact hT _ | ((with_reducible show wpAny _ _ (call (Value.builtin "list.__getattribute__") _ _) _ _ _);refine call_meets F.slot_list_getattribute (hT _) am_entry_list_getattribute (F.args_list_getattribute_2 _ _) (meets_getattribute_miss_list a xs k #[] "keys" _ lk_list_keys (by decide) (by size_fits)) ⟨hx,hA,fun h' tk' e hx'=>?_⟩) | wp_step))
  obtain ⟨t',u',he⟩:=hx'.there
  show wpAny _ _ (getattributeRaised _ _ _ _ _ _ _) _ _ _
  unfold getattributeRaised
  repeat (any_goals (first | assumption | wp_step))
  exact h _ _ hx'.keeps
end L2
namespace L2
open PySem PySem.Spec PyProof.Rows PySem.W
theorem entry_dict_loop:entryFor table "dict.update.loop" = some Builtin.«dict.update.loop»:=entryFor_of_tree (by kernel_rfl)
theorem plain_dict_loop:plainId "dict.update.loop" = true:=by decide +kernel
section
variable {prog:Program} {w:World} {A:Around} {E:Value→Shared→Prop}
def DPrs (h:Heap) (D:Addr) (items:Array Value) (ps:List (Key × Value)):Prop:=
  ps.length=items.size∧∀ (j:Nat) (k:Key) (v:Value),ps[j]?=some (k,v)→∃ (a:Addr) (ku:Value),items[j]?=some (Value.ref a)∧a≠D∧RelV (kV k) ku∧IsTup h a #[ku,v]
theorem DPrs.keeps {h h':Heap} {D I:Addr} {items:Array Value} {ps:List (Key × Value)} (p:DPrs h D items ps) (nI:∀ a:Addr,Value.ref a∈items→a≠I) (k:∀ b o,b≠I→b≠D→h.get? b=some o→h'.get? b=some o):DPrs h' D items ps:=by
  refine ⟨p.1,fun j kk v e=>?_⟩
  obtain ⟨a,ku,ha,hD,hk,o,e1,e2⟩:=p.2 j kk v e
  exact ⟨a,ku,ha,hD,hk,o,k a o (nI a (Array.mem_of_getElem? ha)) hD e1,e2⟩
end
end L2
namespace L2
open PySem PySem.Spec PyProof.Rows PySem.W
section
variable {prog:Program} {w:World} {A:Around} {E:Value→Shared→Prop} {s:Shared}
end
end L2
namespace L2
open PySem PySem.Spec PyProof.Rows PySem.W
theorem build_ps {h:Heap}:∀ (as:List Addr) (kvs:List (Key × V)),as.length=kvs.length→(∀ (j:Nat) a k v,as[j]?=some a→kvs[j]?=some (k,v)→∃ ku vu,RelV (kV k) ku∧RelV v vu∧IsTup h a #[ku,vu]) →
    ∃ ps:List (Key × Value),KV kvs ps∧∀ (j:Nat) k vu,ps[j]?=some (k,vu)→∃ a ku,as[j]?=some a∧RelV (kV k) ku∧IsTup h a #[ku,vu]
  | [],[],_,_=>⟨[],.nil,fun j k vu e=>by simp at e⟩
  | a :: as,(k,v) :: kvs,hl,hp=>by
    obtain ⟨ps,r,q⟩:=build_ps as kvs (by simpa using hl) fun j a k v h1 h2=>hp (j+1) a k v (by simpa using h1) (by simpa using h2)
    obtain ⟨ku,vu,r1,r2,r3⟩:=hp 0 a k v rfl rfl
    refine ⟨(k,vu) :: ps,.cons ⟨rfl,r2⟩ r,fun j k' vu' e=>?_⟩
    cases j with
    | zero=>cases e;exact ⟨a,ku,rfl,r1,r3⟩
    | succ j=>exact q j k' vu' (by simpa using e)
section
variable {X:Cx}
end
theorem bt_dict:bootBuiltins "dict" = some (.type "dict"):=by decide +kernel
end L2
namespace Tim
open PySem PyProof.Rows
end Tim
namespace Tim
open PySem PyProof.Rows
section
variable {prog:Program} {w:World} {A:Around} {E:Value→Shared→Prop} {s:Shared} {a₀:Array Keyed} {κ:SortKind} {O:KeyOrd} {key:Keyed→O.α}
end
end Tim
namespace Tim
open PySem PyProof.Rows
section
variable {prog:Program} {w:World} {A:Around} {E:Value→Shared→Prop} {s:Shared} {a₀:Array Keyed} {κ:SortKind} {O:KeyOrd} {key:Keyed→O.α}
section
variable {a b o:Array Keyed} {p q k:Nat} {x y:Keyed}
end
section
variable {a b o:Array Keyed} {p q k g c d m g':Nat} {x y:Keyed} {st:SortSt} {R:ForInStep LSt→SortSt→Prop}
end
end
end Tim
namespace Tim
open PySem PyProof.Rows
section
variable {prog:Program} {w:World} {A:Around} {E:Value→Shared→Prop} {s:Shared} {a₀:Array Keyed} {κ:SortKind} {O:KeyOrd} {key:Keyed→O.α}
section
variable {a b o:Array Keyed} {p q f:Nat} {x y:Keyed}
end
abbrev HSt:=Option (Array Keyed) × Nat × Nat × Array Keyed × Nat × Nat × Nat
section
variable {a b o:Array Keyed} {p q k g c d m g':Nat} {x y:Keyed} {st:SortSt} {R:ForInStep HSt→SortSt→Prop}
end
end
end Tim
namespace Tim
open PySem PyProof.Rows
section
variable {prog:Program} {w:World} {A:Around} {E:Value→Shared→Prop} {s:Shared} {a₀:Array Keyed} {κ:SortKind} {O:KeyOrd} {key:Keyed→O.α}
theorem three (L:List Keyed) {u v:Nat} (h:u≤v):L=L.take u++(L.drop u).take (v - u)++L.drop v:=by
  have e:L.drop v=(L.drop u).drop (v - u):=by rw [List.drop_drop];congr 1;omega
  rw [e,List.append_assoc,List.take_append_drop,List.take_append_drop]
end
end Tim
namespace Tim
open PySem PyProof.Rows
section
variable {prog:Program} {w:World} {A:Around} {E:Value→Shared→Prop} {s:Shared} {a₀:Array Keyed} {κ:SortKind} {O:KeyOrd} {key:Keyed→O.α}
end
end Tim
namespace Tim
open PySem PyProof.Rows
section
variable {prog:Program} {w:World} {A:Around} {E:Value→Shared→Prop} {s:Shared} {a₀:Array Keyed} {κ:SortKind} {O:KeyOrd} {key:Keyed→O.α}
end
end Tim
namespace L2
open PySem PySem.Spec PyProof.Rows PySem.W Tim
section
variable {prog:Program} {w:World} {A:Around} {E:Value→Shared→Prop} {s:Shared}
end
section
variable {prog:Program} {w:World} {A:Around} {E:Value→Shared→Prop} {s:Shared} {T:String} {r d:Addr} {n:Nat} {P:Nat→Value→Prop} {OK:Heap→Prop}
theorem collect_src {R:List Value→Shared→Prop} (K:KdlSrc prog w T r d n P OK) (hh:A.handled=none) (hok:OK s.heap) (hn:n≤sizeLine)
    (h:∀ (g:Heap) (tk:Nat) (acc:Array Value),s.heap.objs.size≤g.objs.size→(∀ b o,s.heap.get? b=some o→g.get? b=some o)→ItemsOf P acc n→R acc.toList { s with heap:=g,toks:=tk }) :
    wpAny (model prog w) A (collect (.ref r)) R E s:=by
  obtain ⟨l1,l2⟩:=K.there _ hok
  unfold collect
  refine wpAny_bind (wpAny_runValue (codeAny_builtin F.entry_proto_collect ?_))
  rw [Around.under_plainId F.plain_proto_collect _]
  refine wpAny_bind (wpAny_newObj_type (wpAny_pure ⟨plainId_quiet F.plain_list_iadd _,codeAny_builtin F.entry_list_iadd ?_⟩))
  rw [Around.under_plainId F.plain_list_iadd _]
  have g0:(s.heap.push { cls:=.type "list", data:=.seq ([]:List Value).toArray }).get? s.heap.objs.size=some { cls:=.type "list", data:=.seq #[] }:=Heap.get?_push_size _ rfl
  refine wpAny_mono (kdl_extend (A:=A) (s:={ s with heap:=s.heap.push { cls:=.type "list", data:=.seq ([]:List Value).toArray } })
    (R:=fun (q:Result) (s':Shared)=>∃ (g:Heap) (tk:Nat) (xs:Array Value) (c':Nat),q=.ok (.ret (.ref s.heap.objs.size))∧s'={ s with heap:=g,toks:=tk }∧(∀ b o,s.heap.get? b=some o→g.get? b=some o) ∧
      g.get? s.heap.objs.size=some { cls:=.type "list", dict:=none,data:=.seq xs c',slots:=#[] }∧ItemsOf P xs n)
    K hh (K.keep _ _ hok fun b _ o e=>Heap.get?_push_of_some _ e) s.heap.objs.size (Nat.ne_of_gt l1) (Nat.ne_of_gt l2) (.ref s.heap.objs.size) 0 g0
    (fun g tk xs c' k1 k2 k3=>⟨g,tk,xs,c',rfl,rfl,fun b o e=>k1 b o (Nat.ne_of_lt (Heap.lt_size e)) (Heap.get?_push_of_some _ e),k2,k3⟩) hn) (fun f s' x=>?_) fun e s' x=>?_
  · cases f with
    | done f=>
      obtain ⟨g,tk,xs,c',e,rfl,k1,k2,k3⟩:=x
      cases e
      exact wpAny_bind (wpAny_load k2 (wpAny_pure (h g tk xs (Nat.le_of_lt (Heap.lt_size k2)) k1 k3)))
    | again c₁=>
      refine ⟨x.1,codeAny_mono x.2 fun q s₂ y=>?_⟩
      obtain ⟨g,tk,xs,c',rfl,rfl,k1,k2,k3⟩:=y
      exact wpAny_bind (wpAny_load k2 (wpAny_pure (h g tk xs (Nat.le_of_lt (Heap.lt_size k2)) k1 k3)))
  · obtain ⟨_,_,_,_,z,_⟩:=x
    cases z
end
section
variable {X:Cx}
theorem ps_raise0 {e:Option Expr} {c:Option Expr} {pos:Pos}:PS X (.Raise e c pos) (fun _ _ _=>False):=fun _ _ _ _ _ _ h=>h.elim
end
end L2
namespace L2
open PySem PySem.Spec PyProof.Rows PySem.W
section
variable {X:Cx}
variable {e st:Expr} {te:TE} {ts:TO} {pos p2:Pos}
end
def Itx (x:Str):It:=⟨fun i _=>i < x.cps.size,fun i H v H'=>H'=H∧∃ c,x.cps[i]?=some c∧v=.str ⟨#[c]⟩,fun i _=>x.cps.size≤i⟩
theorem turn_str {P:Program} {w:World} {K:PySem.W.Frag} {tg:Expr} (x:Str) (t:Tok) (it:Addr):Turn P w K tg (Itx x) [it] it (fun i h=>h.IsStrIter it (strIterType x) x t i) where
  mem:=by simp
  obj:=fun i h st b hb=>by
    have e:b=it:=by simpa using hb
    subst e
    obtain ⟨o,e,c,d⟩:=st
    exact ⟨o,e,fun v z=>by rw [d] at z;cases z⟩
  keep:=fun i h h' st k=>by
    obtain ⟨o,e,c,d⟩:=st
    exact ⟨o,k it (by simp) o e,c,d⟩
  item:=by
    intro X hP hw hK hc i pins s σ H E I hf st hg
    subst hP hw hK
    have hg:i < x.cps.size:=hg
    obtain ⟨f0,f1,f2,f3,f4,f5⟩:=hf it (by simp)
    have hx:x.cps[i]?=some (x.cps[i]'hg):=Array.getElem?_eq_getElem hg
    have go:∀ (h':Heap),h'.IsStrIter it (strIterType x) x t (i+1)→Heap.SameBut it s.heap h'→∃ u,some (Value.str ⟨#[x.cps[i]'hg]⟩ s.toks)=some u ∧
        wpAny (model X.prog X.w) X.A (letOwnedTupleGo tg (.ref it) u) (fun _ s2=>∃ v H',Inv X pins σ H' s2∧RelV v u∧(Itx x).yld i H v H'∧s2.heap.IsStrIter it (strIterType x) x t (i+1)∧∀ b∈[it],H' b=none) E { s with heap:=h',toks:=s.toks+1 }:=fun h' st' sb=>by
      have I1:Inv X pins σ H { s with heap:=h',toks:=s.toks+1 }:=I.turned (t':=s.toks+1) (fun b o hb e=>(sb.2 b hb).trans e) f0 f1 f3 f4 f5
      obtain ⟨o,e,c,d⟩:=id st'
      refine ⟨_,rfl,go_of (s:={ s with heap:=h',toks:=s.toks+1 }) e c d ?_ ⟨.str ⟨#[x.cps[i]'hg]⟩,H,I1,⟨_,rfl⟩,⟨rfl,_,hx,rfl⟩,st',fun b hb=>(hf b hb).1⟩⟩
      unfold strIterType
      split <;> decide
    cases c:x.cps.all (· < 128) with
    | true=>
      have e:strIterType x = "str_ascii_iterator" := by unfold strIterType;rw [c];rfl
      rw [e] at st
      exact wpAny_pyNext_ascii_item st hx fun h' st' sb=>go h' (by rw [e];exact st') sb
    | false=>
      have e:strIterType x = "str_iterator" := by unfold strIterType;rw [c];rfl
      rw [e] at st
      exact wpAny_pyNext_wide_item st hx fun h' st' sb=>go h' (by rw [e];exact st') sb
  done:=by
    intro X hP hw hK hc i pins s σ H E I hf st hg
    subst hP hw hK
    have hg:x.cps.size≤i:=hg
    obtain ⟨f0,f1,f2,f3,f4,f5⟩:=hf it (by simp)
    have hx:x.cps[i]?=none:=Array.getElem?_eq_none hg
    cases c:x.cps.all (· < 128) with
    | true=>
      have e:strIterType x = "str_ascii_iterator" := by unfold strIterType;rw [c];rfl
      rw [e] at st
      exact wpAny_pyNext_ascii_end (I.ok.hd hc) st hx fun h' eb=>⟨rfl,I.turned (t':=s.toks) (fun b o hb e=>eb b o hb e) f0 f1 f3 f4 f5⟩
    | false=>
      have e:strIterType x = "str_iterator" := by unfold strIterType;rw [c];rfl
      rw [e] at st
      exact wpAny_pyNext_wide_end (I.ok.hd hc) st hx fun h' eb=>⟨rfl,I.turned (t':=s.toks) (fun b o hb e=>eb b o hb e) f0 f1 f3 f4 f5⟩
  self:=fun _ _ _ _ _ st h=>by
    cases c:x.cps.all (· < 128) with
    | true=>
      have e:strIterType x = "str_ascii_iterator" := by unfold strIterType;rw [c];rfl
      rw [e] at st
      exact wpAny_pyIter_striter_ascii st h
    | false=>
      have e:strIterType x = "str_iterator" := by unfold strIterType;rw [c];rfl
      rw [e] at st
      exact wpAny_pyIter_striter_wide st h
section
variable {X:Cx} {tg:Expr}
def iStr (tl:TE):TI:=fun σ H R=>tl σ H fun x H1=>∃ z,x=.str z∧R (Itx z) H1
theorem pi_str {l:Expr} {tl:TE} (hl:PE X l tl):PI X tg l (iStr tl):=by
  intro pins s σ H R I h
  refine thn (hl pins s σ H _ I h) fun v s1 ⟨x,H1,I1,r1,q1⟩=>?_
  obtain ⟨z,rfl,q⟩:=q1
  obtain ⟨t,rfl⟩:=r1
  refine wpAny_pyIter_strU ?_
  refine ⟨s1.heap.objs.size,[s1.heap.objs.size],_,_,H1,rfl,I1.kept (t':=s1.toks) fun b o e=>Heap.get?_push_of_some _ e,turn_str z t _,⟨_,Heap.get?_push_size _ rfl,rfl,rfl⟩,fun b hb=>?_,q⟩
  have e:b=s1.heap.objs.size:=by simpa using hb
  subst e
  exact I1.fpOk (Nat.le_refl _) (I1.hok.fresh (Nat.le_refl _))
end
section
variable {NL:List Str} {ix:List Nat} {g:TG} {tt:TT} {te:TE} {σ:St} {H1:Hp} {Qs:Hp→Prop} {acc:Addr}
theorem comp_str {z:Str} (hn:z.cps.size < 10000) (Pv:Nat→List V→Hp→Prop)
    (hacc:∀ i ys H2,Pv i ys H2→H2 acc=some (.lst ys)∧ys.length≤i) (h0:Pv 0 [] (upd H1 acc (.lst []))) (hstop:∀ ys H2,Pv z.cps.size ys H2→Qs H2)
    (hturn:∀ i c ys H2,z.cps[i]?=some c→Pv i ys H2→g (.str ⟨#[c]⟩) (comp0 NL ix σ) H2 fun σ' H4=>σ'.drop NL.length=ix.map (fun j=>σ.getD j none)∧tt σ' H4 fun b H5=>
      if b=true then te σ' H5 fun v H6=>H6 acc=some (.lst ys)∧Pv (i+1) (ys++[v]) (upd H6 acc (.lst (ys++[v]))) else Pv (i+1) ys H5) :
    ∃ W:Nat→Nat→List V→Hp→Prop,(∃ m,W 0 m [] (upd H1 acc (.lst []))) ∧
    ∀ i m ys H2,W i m ys H2→H2 acc=some (.lst ys)∧ys.length < sizeLine ∧
      (((Itx z).stop i H2∧Qs H2)∨((Itx z).go i H2∧∃ N:List V→Hp→Prop,(∀ ys' H',N ys' H'→∃ m',m' < m∧W (i+1) m' ys' H') ∧
        ∀ x H3,(Itx z).yld i H2 x H3→g x (comp0 NL ix σ) H3 fun σ' H4=>σ'.drop NL.length=ix.map (fun j=>σ.getD j none)∧tt σ' H4 fun b H5=>
          if b=true then te σ' H5 fun v H6=>H6 acc=some (.lst ys)∧N (ys++[v]) (upd H6 acc (.lst (ys++[v]))) else N ys H5)):=by
  refine comp_big z.cps.size hn Pv hacc h0 (fun ys H2 hp=>⟨Nat.le_refl _,hstop ys H2 hp⟩) fun i ys H2 hi hp=>⟨hi,?_⟩
  rintro x H3 ⟨rfl,c,hc,rfl⟩
  exact hturn i c ys H3 hc hp
end
section
variable {X:Cx}
theorem pe_startsK (K:PySem.W.Frag) {o e:Expr} {to te:TE} {apos cpos:Pos} (ho:PE X o to) (he:PE X e te) (hK:X.K=K:=by rfl) (hbase:attributeBase o "startswith" X.env (eval o X.env)=eval o X.env:=by rfl)
    (h1:starEach [e] X.env=[(false,eval e X.env)]:=by rfl) (hl:(apos.endLine == cpos.line)=true:=by rfl) :
    PE X (.Call (.Attribute o "startswith" apos) [e] [] cpos) (tBM K "str" (fun x vs H Q=>∃ z p,x=.str z∧vs=[.str p]∧Q (.bl (Txt.startswith z p)) H) to (tCons te tNil)):=by
  subst hK
  exact pe_starts ho he hbase h1 hl
end
end L2
namespace L2
open PySem PySem.Spec PyProof.Rows
section
variable {X:Cx}
def rCatA (K:PySem.W.Frag):R2:=fun x y H Q=>∃ a b xs ys,x=.ref a∧y=.ref b∧SqT K H a xs∧SqT K H b ys∧xs.length+ys.length≤sizeLine ∧
  (xs=[]→Q (.ref b) H)∧(xs≠[]→ys=[]→Q (.ref a) H)∧(xs≠[]→ys≠[]→∀ p,H p=none→Q (.ref p) (upd H p (.tup (xs++ys))))
theorem cat_tup0 {prog:Program} {w:World} {A:Around} {E:Value→Shared→Prop} {s:Shared} {t b:Addr} {vs ws:List Value} {Q:Value→Shared→Prop} (ht:IsTup s.heap t vs.toArray) (hb:IsTup s.heap b ws.toArray) (hv:vs=[])
    (h:Q (.ref b) s):wpAny (model prog w) A (binaryOp .Add (.ref t) (.ref b)) Q E s:=by
  obtain ⟨⟨cls,dd,data,sl⟩,ho,hc,n,hd⟩:=id ht
  obtain ⟨⟨cls2,dd2,data2,sl2⟩,ho2,hc2,n2,hd2⟩:=id hb
  simp only at hc hd hc2 hd2
  subst hc hd hc2 hd2
  exact concat_meets ⟨_,ho,rfl⟩ ⟨_,ho2,rfl⟩ noFill_tuple_add seq_tuple_add PySem.F.slot_tuple_add PySem.F.entry_tuple_add (PySem.F.args_tuple_add_2 _ _)
      (tuple_addW0 t b vs.toArray ws.toArray n n2 dd dd2 sl sl2 (by simp [hv])) ⟨ho,ho2,h⟩
theorem op_catA:OpR X (binaryOp .Add) (rCatA X.K):=by
  intro pins s σ H x y v u Q I rx ry h
  obtain ⟨a,b,xs,ys,rfl,rfl,ha,hb,hz,q0,q1,q2⟩:=h
  by_cases hx:xs=[]
  · cases rx
    cases ry
    obtain ⟨its,r1,p1,_⟩:=I.tuple ha
    obtain ⟨its2,r2,p2,_⟩:=I.tuple hb
    exact cat_tup0 p1 p2 (r1.nil_iff.mpr hx) ⟨.ref b,H,I,rfl,q0 hx⟩
  · exact op_catT pins s σ H _ _ v u Q I rx ry ⟨a,b,xs,ys,rfl,rfl,ha,hb,hx,hz,q1 hx,q2 hx⟩
end
end L2
namespace L2
open PySem PySem.Spec PyProof.Rows PySem.W
section
variable {prog:Program} {w:World} {A:Around} {E:Value→Shared→Prop}
end
section
variable {prog:Program} {w:World} {A:Around} {E:Value→Shared→Prop} {s:Shared}
end
section
variable {X:Cx}
end
end L2
namespace L2
open PySem PySem.Spec PyProof.Rows
section
variable {X:Cx}
theorem op_isB:OpR X (compareOp .Is) (fun x y H Q=>∃ c d,x=.bl c∧y=.bl d∧Q (.bl (c == d)) H):=by
  intro pins s σ H x y v u Q I rx ry h
  obtain ⟨c,d,rfl,rfl,q⟩:=h
  cases rx
  cases ry
  exact is_bool (fin_bl I q rfl)
end
end L2
namespace L2
open PySem PySem.Spec PyProof.Rows
theorem ObjOk.obj {P:Program} {w:World} {H:Hp} {h:Heap} {a:Addr} {o:HO} (x:ObjOk P w H h a o):∃ u,h.get? a=some u:=by
  cases o with
  | lst xs=>obtain ⟨_,_,_,_,e⟩:=x;exact ⟨_,e⟩
  | tup xs=>obtain ⟨⟨_,o,e,_⟩,_⟩:=x;exact ⟨_,e⟩
  | dK kvs=>obtain ⟨_,_,_,_,o,_,_,e,_⟩:=x;exact ⟨_,e⟩
  | dT kvs=>obtain ⟨_,_,_,_,o,_,_,e,_⟩:=x;exact ⟨_,e⟩
  | set S n=>obtain ⟨o,_,_,_,e,_⟩:=x;exact ⟨_,e⟩
  | ins C dx fs=>obtain ⟨_,_,_,e,_⟩:=x;exact ⟨_,e⟩
  | own y=>exact x
  | xd fs=>obtain ⟨_,⟨_,_,_,e,_⟩,_⟩:=x;exact ⟨_,e⟩
  | rng lo hi=>obtain ⟨_,_,_,e⟩:=x;exact ⟨_,e⟩
  | frz ob u=>exact ⟨_,x.1⟩
  | tbl ps=>exact ⟨_,x⟩
  | met f y=>exact ⟨_,x⟩
  | ext φ=>exact x.2.1
section
variable {P:Program} {w:World} {K:PySem.W.Frag} {mg:Str→Option Value} {base:Heap} {N:List Str} {qual:Str} {scope:Scope} {f:Addr} {cd:Value} {A:Around} {outer:List Env} {s:Shared} {H:Hp} {E:XK}
end
end L2
namespace L2
open PySem PySem.Spec PyProof.Rows
section
variable {X:Cx} {pins:List (Addr × Obj)} {σ:St} {a C:Addr} {H1 H2:Hp} {s s1:Shared} {B h h':Heap} {a0:Value}
abbrev Cx.caught (X:Cx) (a:Addr):Cx:={ X with A:=X.A.mark (some (.ref a)),calm:=false,xe:=fun _ _=>False }
theorem Inv.caught {H:Hp} (I:Inv X pins σ H s) (a:Addr):Inv (X.caught a) pins σ H s:=
  ⟨⟨I.ok.mod,I.ok.kind,I.ok.glob,I.ok.blt,I.ok.above,I.ok.inj,I.ok.has,I.ok.cab,(fun z=>nomatch z),I.ok.frames,I.ok.stk,I.ok.exf,I.ok.bs,I.ok.bsz,I.ok.noex,I.ok.exfs,I.ok.funs,I.ok.frf⟩,I.os,I.bare,I.base,I.loc,I.cell,I.free,I.freeC,I.pin,I.hok,I.len⟩
end
section
variable {X:Cx} {x n:Str} {i:Nat} {np pos:Pos} {b₀:Stmt} {suite:List Stmt} {rest:List ExceptHandler} {Cl:Addr} {th:Addr→TS} {tr:Addr→Addr→TS}
end
end L2
namespace L2
open PySem PySem.Spec PyProof.Rows PySem.W PySem.Calls PySem.Builtin PySem.Builtin.ObjectAttr PySem.Builtin.Getset_descriptor
section
variable {prog:Program} {w:World} {A:Around} {E:Value→Shared→Prop} {s:Shared} {K:Frag} {x C:Addr} {R:Result→Shared→Prop}
end
end L2
namespace L2
open PySem PySem.Spec PyProof.Rows PySem.W
section
variable {X:Cx}
end
section
variable {P:Program} {w:World} {K:Frag} {mg:Str→Option Value} {base:Heap}
end
section
variable {X:Cx} {x:Str} {k:Nat} {ps:List Str} {sp:Sp} {p pos:Pos} {e:Expr} {es:List Expr} {t:TA} {E:XK} {σ0:St}
end
end L2
namespace L2
open PySem PySem.Spec PyProof.Rows PySem.W
section
variable {X:Cx}
end
end L2
namespace L2
section
variable {NL:List PySem.Str} {ix:List Nat} {g:TG} {tt:TT} {te:TE} {σ:St} {H1:Hp} {Qs:Hp→Prop} {acc:PySem.Addr}
theorem comp_tupI {K:PySem.W.Frag} {a:PySem.Addr} {xs:List V} (hn:xs.length < 1000) (Pv:Nat→List V→Hp→Prop)
    (hl:∀ i ys H2,Pv i ys H2→SqT K H2 a xs) (hacc:∀ i ys H2,Pv i ys H2→H2 acc=some (.lst ys)∧ys.length≤i) (h0:Pv 0 [] (upd H1 acc (.lst []))) (hstop:∀ ys H2,Pv xs.length ys H2→Qs H2)
    (hturn:∀ i x ys H2,xs[i]?=some x→Pv i ys H2→g x (comp0 NL ix σ) H2 fun σ' H4=>σ'.drop NL.length=ix.map (fun j=>σ.getD j none)∧tt σ' H4 fun b H5=>
      if b=true then te σ' H5 fun v H6=>H6 acc=some (.lst ys)∧Pv (i+1) (ys++[v]) (upd H6 acc (.lst (ys++[v]))) else Pv (i+1) ys H5) :
    ∃ W:Nat→Nat→List V→Hp→Prop,(∃ m,W 0 m [] (upd H1 acc (.lst []))) ∧
    ∀ i m ys H2,W i m ys H2→H2 acc=some (.lst ys)∧ys.length < PySem.sizeLine ∧
      (((Itt K a).stop i H2∧Qs H2)∨((Itt K a).go i H2∧∃ N:List V→Hp→Prop,(∀ ys' H',N ys' H'→∃ m',m' < m∧W (i+1) m' ys' H') ∧
        ∀ x H3,(Itt K a).yld i H2 x H3→g x (comp0 NL ix σ) H3 fun σ' H4=>σ'.drop NL.length=ix.map (fun j=>σ.getD j none)∧tt σ' H4 fun b H5=>
          if b=true then te σ' H5 fun v H6=>H6 acc=some (.lst ys)∧N (ys++[v]) (upd H6 acc (.lst (ys++[v]))) else N ys H5)):=by
  refine comp_by xs.length hn Pv hacc h0 (fun ys H2 hp=>⟨⟨xs,hl _ _ _ hp,Nat.le_refl _⟩,hstop ys H2 hp⟩) fun i ys H2 hi hp=>?_
  have hs:=hl _ _ _ hp
  refine ⟨⟨xs,xs[i],hs,List.getElem?_eq_getElem hi⟩,?_⟩
  rintro x H3 ⟨rfl,hx⟩
  exact hturn i x ys H3 (hx xs hs) hp
end
end L2
namespace L2
open PySem PySem.Spec PyProof.Rows PySem.W
section
variable {X:Cx}
theorem op_eq_nil (hu:X.A.units < cLine):OpR X (compareOp .Eq) (fun x y H Q=>∃ a b xs,x=.ref a∧y=.ref b∧SqL X.K H a xs∧SqL X.K H b []∧Q (.bl xs.isEmpty) H):=by
  intro pins s σ H x y v u Q I rx ry h
  obtain ⟨a,b,xs,rfl,rfl,h1,h2,q⟩:=h
  cases xs with
  | nil=>exact op_eq_lst hu pins s σ H _ _ v u Q I rx ry ⟨a,b,[],[],rfl,rfl,h1,h2,rfl,rfl,q⟩
  | cons z zs=>
    cases (show v=Value.ref a from rx)
    cases (show u=Value.ref b from ry)
    obtain ⟨us,r1,l1,_⟩:=I.list h1
    obtain ⟨ws,r2,l2,_⟩:=I.list h2
    have e1:=r1.length
    have e2:=r2.length
    rw [List.length_cons] at e1
    rw [List.length_nil] at e2
    exact SeqAt.eq_list_lengthsAt l1.isList l2.isList (by simp;omega) hu ⟨.bl _,H,I,rfl,q⟩
theorem op_ne_nil (hu:X.A.units < cLine):OpR X (compareOp .NotEq) (fun x y H Q=>∃ a b xs,x=.ref a∧y=.ref b∧SqL X.K H a xs∧SqL X.K H b []∧Q (.bl (!xs.isEmpty)) H):=by
  intro pins s σ H x y v u Q I rx ry h
  obtain ⟨a,b,xs,rfl,rfl,h1,h2,q⟩:=h
  cases xs with
  | nil=>exact op_ne_lst hu pins s σ H _ _ v u Q I rx ry ⟨a,b,[],[],rfl,rfl,h1,h2,rfl,rfl,q⟩
  | cons z zs=>
    cases (show v=Value.ref a from rx)
    cases (show u=Value.ref b from ry)
    obtain ⟨us,r1,l1,_⟩:=I.list h1
    obtain ⟨ws,r2,l2,_⟩:=I.list h2
    have e1:=r1.length
    have e2:=r2.length
    rw [List.length_cons] at e1
    rw [List.length_nil] at e2
    exact SeqAt.RcNeAt.lists_lengths l1.isList l2.isList (by simp;omega) hu _ _ _ _ ⟨.bl _,H,I,rfl,q⟩
end
end L2
namespace L2
open PySem PySem.Spec PyProof.Rows PySem.W
section
variable {X:Cx}
end
end L2
namespace L2
open PySem PySem.Spec PyProof.Rows PySem.W
abbrev IsZipB (h:Heap) (z TI TO p:Addr) (b:Bool):Prop:=h.get? z=some { cls:=.type "zip", data:=.fields #[rawInt (p:Int),.bool b,.bool false,.ref TI,.ref TO] }
section
variable {prog:Program} {w:World} {A:Around} {E:Value→Shared→Prop} {s:Shared}
end
def ZSt (κ1 κ2:SK) (z TI TO i1 i2:Addr) (k:Nat) (h:Heap):Prop:=
  ((IsZip h z TI TO .none)∨∃ p b,IsZipB h z TI TO p b∧(∃ o,h.get? p=some o))∧IsPair h TI (.ref i1) (.ref i2)∧(∃ a b,IsPair h TO a b)∧κ1.own i1 k h∧κ2.own i2 k h
section
variable {X:Cx} {pins:List (Addr × Obj)} {σ:St} {H:Hp} {s:Shared} {A:Around} {E:Value→Shared→Prop} {κ1 κ2:SK} {z TI TO i1 i2:Addr}
end
def NewTups (H0 H:Hp) (as:List Addr) (xs ys:List V):Prop:=
  as.Nodup∧(∀ b,b ∉ as→H b=H0 b)∧∀ (i:Nat) (a:Addr),as[i]?=some a→H0 a=none∧∃ x y,xs[i]?=some x∧ys[i]?=some y∧H a=some (.tup [x,y])
theorem NewTups.push {H0 H:Hp} {as:List Addr} {xs ys:List V} {p:Addr} {x y:V} (n:NewTups H0 H as xs ys) (hp:H p=none) (hx:xs[as.length]?=some x) (hy:ys[as.length]?=some y):NewTups H0 (upd H p (.tup [x,y])) (as++[p]) xs ys:=by
  have np:p ∉ as:=fun hm=>by
    obtain ⟨i,hi⟩:=List.getElem?_of_mem hm
    obtain ⟨_,x,y,_,_,e⟩:=n.2.2 i p hi
    rw [hp] at e;cases e
  refine ⟨List.nodup_append.mpr ⟨n.1,by simp,fun a ha b hb=>by simp at hb;subst hb;exact fun e=>np (e ▸ ha)⟩,fun b hb=>?_,fun i a e=>?_⟩
  · have h1:b ∉ as:=fun q=>hb (by simp [q])
    have h2:b≠p:=fun q=>hb (by simp [q])
    rw [upd_ne h2];exact n.2.1 b h1
  · rcases Nat.lt_or_ge i as.length with q | q
    · rw [List.getElem?_append_left q] at e
      obtain ⟨e1,x,y,e2,e3,e4⟩:=n.2.2 i a e
      exact ⟨e1,x,y,e2,e3,by rw [upd_ne (fun z=>np (by rw [← z];exact List.mem_of_getElem? e))];exact e4⟩
    · have q0:i=as.length:=by
        have:=(List.getElem?_eq_some_iff.mp e).1
        simp at this;omega
      subst q0
      have ea:p=a:=by simpa using e
      subst ea
      exact ⟨by rw [← n.2.1 p np];exact hp,x,y,hx,hy,upd_same⟩
section
variable {X:Cx} {pins:List (Addr × Obj)} {σ:St} {A:Around} {κ1 κ2:SK} {z TI TO i1 i2 S:Addr} {xs ys:List V} {H0:Hp} {res:Value} {R:Result→Shared→Prop} {g0:Array GenState} {d0:Drawn} {o0:OsState}
end
end L2
namespace L2
open PySem PySem.Spec PyProof.Rows PySem.W Tim
section
variable {prog:Program} {w:World} {A:Around} {E:Value→Shared→Prop} {s:Shared}
end
section
variable {X:Cx} {pins:List (Addr × Obj)} {σ:St} {H:Hp} {s:Shared} {A:Around} {E:Value→Shared→Prop} {κ1 κ2:SK} {z TI TO i1 i2:Addr} {xs ys:List V}
theorem ZSt.zip {k:Nat} {h:Heap} (x:ZSt κ1 κ2 z TI TO i1 i2 k h):∃ o,h.get? z=some o∧o.cls=.type "zip" := by
  rcases x.1 with e | ⟨_,_,e,_⟩
  · exact ⟨_,e,rfl⟩
  · exact ⟨_,e,rfl⟩
end
end L2
namespace L2
open PySem PySem.Spec PyProof.Rows PySem.W
section
variable {X:Cx} {pins:List (Addr × Obj)} {σ:St}
variable {A:Around} {R:Result→Shared→Prop} {H0:Hp} {a fa S It:Addr} {xs:List V} {kf:Nat→Int}
end
section
variable {X:Cx}
end
end L2
namespace L2
open PySem PySem.Spec PyProof.Rows PySem.W
section
variable {X:Cx}
theorem meets_tuple_rng (r:Addr) (lo hi:Int) (t u v:Tok) (n:Nat):Meets (Builtin.«tuple.__new__» ⟨[.type "tuple", .ref r],[]⟩) (fun A R s=>A.handled=none∧IsRange s.heap r lo hi 1 t u v∧Builtin.Range.small lo hi 1=true∧Builtin.Range.rangeSize lo hi 1=n∧n≤2 ^ 24 ∧
    ∀ (h':Heap) (tk:Nat) (acc:Array Value),(∀ b o,s.heap.get? b=some o→h'.get? b=some o)→s.heap.objs.size≤h'.objs.size→ItemsOf (fun i v=>∃ t,v=.int (lo+i * 1) t) acc n→R (.ok (.ret (.ref h'.objs.size))) { s with heap:=h'.push { cls:=.type "tuple", data:=.seq acc },toks:=tk }):=
  .of_wp fun prog w A R s h=>by
    obtain ⟨hh,hr,h1,h2,h3,h⟩:=h
    have hT:s.TypeIs (.ref r) "range" := ⟨_,hr,rfl⟩
    have g:∀ (Q:List Value→Shared→Prop) (E:Value→Shared→Prop),(∀ (h':Heap) (tk:Nat) (acc:Array Value),(∀ b o,s.heap.get? b=some o→h'.get? b=some o)→s.heap.objs.size≤h'.objs.size→ItemsOf (fun i v=>∃ t,v=.int (lo+i * 1) t) acc n→Q acc.toList { s with heap:=h',toks:=tk })→wpAny (model prog w) A.in1 (collect (.ref r)) Q E s:=fun Q E q=>collect_rng (A:=A.in1) hh hr h1 h2 h3 q
    have f2:=AutoSeq1.sub_tuple_tuple
    have f3:Bind.madeHere "tuple.__new__" (.type "tuple")=pure ():=by kernel_rfl
    have f4:=F.called_tuple.init.lookup
    wp_walk using g _ _
    intro h' tk acc kp sz it
    refine wpAny_bind (wpAny_pure ?_)
    show wpAny _ _ (newTuple acc.toList >>= _) _ _ _
    refine wpAny_bind (wpAny_newTuple (wpAny_pure ⟨_,rfl,h h' tk acc kp sz it⟩) ?_)
    rw [Array.length_toList,it.1,sizeLine_eq];exact h3
theorem call_tuple_rng (hc:X.calm=true):CallR X (.type "tuple") (fun xs H Q=>∃ (r:Addr) (lo hi:Int),xs=[.ref r]∧H r=some (.rng lo hi)∧(-(2 ^ 62)≤lo∧lo < 2 ^ 62∧-(2 ^ 62)≤hi∧hi < 2 ^ 62)∧(hi - lo).toNat≤1000∧∀ l,H l=none→Q (.ref l) (upd H l (.tup (rngV lo (hi - lo).toNat)))):=by
  intro pins s σ H xs us Q I r h
  obtain ⟨a,lo,hi,rfl,hr,⟨l1,l2,l3,l4⟩,hn,q⟩:=h
  obtain ⟨u,rfl,rx⟩:=vals1 r
  cases rx
  obtain ⟨t,t',t'',hr2⟩:=I.hok a _ hr
  have en:Builtin.Range.rangeSize lo hi 1=(((hi - lo).toNat:Nat):Int):=by rw [rangeSize_one];split <;> omega
  refine callType_new F.called_tuple (by decide) (F.typeCall_tuple_1 _) (F.newCall_tuple_1 _) (fun obj=>F.args_object_init_2 obj _) F.entry_tuple_new (meets_tuple_rng a lo hi t t' t'' (hi - lo).toNat) ⟨I.ok.hd hc,hr2,small_one l1 l2 l3 l4,en,by omega,fun h' tk acc kp sz hacc=>⟨⟨_,Heap.get?_push_size _ rfl,rfl⟩,?_⟩⟩
  have v:=rng_vals hacc
  have ls:(rngV lo (hi - lo).toNat).length≤sizeLine:=by
    rw [List.length_map,List.length_range]
    exact Nat.le_of_lt (Nat.lt_of_le_of_lt hn (by decide +kernel))
  have I1:Inv X pins σ H { s with heap:=h',toks:=tk }:=I.kept (t':=tk) kp
  have et:(h'.push { cls:=.type "tuple", data:=.seq acc }).get? h'.objs.size=some { cls:=.type "tuple", data:=.seq acc }:=Heap.get?_push_size _ rfl
  exact ⟨.ref h'.objs.size,_,I1.laid (t':=tk) (o:=.tup (rngV lo (hi - lo).toNat)) (fun b o e=>Heap.get?_push_of_some _ e) (Nat.le_refl _) ⟨⟨ls,_,et,rfl⟩,acc.toList,v,_,et,rfl,0,by simp⟩,rfl,q _ (I1.hok.fresh (Nat.le_refl _))⟩
end
end L2
namespace L2
open PySem PySem.Spec PyProof.Rows PySem.W
theorem rev_pick (items:Array Value):(List.filterMap (fun k:Nat=>items[((items.size:Int) - 1+(k:Int) * -1).toNat]?) (List.range items.size))=items.toList.reverse:=by
  apply List.ext_getElem?
  intro i
  have e:(List.range items.size).filterMap (fun k:Nat=>items[((items.size:Int) - 1+(k:Int) * -1).toNat]?)=(List.range items.size).map fun k=>items.getD (items.size - 1 - k) .none:=by
    have go:∀ l:List Nat,(∀ k∈l,k < items.size)→l.filterMap (fun k:Nat=>items[((items.size:Int) - 1+(k:Int) * -1).toNat]?)=l.map fun k=>items.getD (items.size - 1 - k) .none:=fun l=>by
      induction l with
      | nil=>intro _;rfl
      | cons k l ih=>
        intro hl
        have hk:=hl k List.mem_cons_self
        rw [List.filterMap_cons,List.map_cons,ih fun x hx=>hl x (List.mem_cons_of_mem _ hx),show ((items.size:Int) - 1+(k:Int) * -1).toNat=items.size - 1 - k by omega,Array.getElem?_eq_getElem (by omega),Array.getD_eq_getD_getElem?,Array.getElem?_eq_getElem (by omega)]
        rfl
    exact go _ fun k hk=>List.mem_range.mp hk
  rw [e,List.getElem?_map]
  rcases Nat.lt_or_ge i items.size with c | c
  · rw [List.getElem?_range c,List.getElem?_reverse (by simpa using c),Array.length_toList,Array.getElem?_toList,Array.getElem?_eq_getElem (by omega)]
    show some (items.getD (items.size - 1 - i) .none)=some _
    rw [Array.getD_eq_getD_getElem?,Array.getElem?_eq_getElem (by omega)];rfl
  · rw [List.getElem?_eq_none (by simpa using c),List.getElem?_eq_none (by simpa using c)];rfl
theorem places_rev (n:Nat):Builtin.Slice.slicePlaces ((n:Int) - 1) (-1) (-1)=n:=by
  unfold Builtin.Slice.slicePlaces
  rw [if_neg (by decide)]
  split
  · rename_i h
    have:((n:Int) - 1 - -1 - 1) / - -1=(n:Int) - 1:=by
      rw [show (- -1:Int)=1 by decide,Int.ediv_one];omega
    rw [this];omega
  · omega
section
variable {prog:Program} {w:World} {A:Around} {E:Value→Shared→Prop} {s:Shared}
theorem part_none {Q:Option Int→Shared→Prop} (h:Q none s):wpAny (model prog w) A (Builtin.Slice.slicePartIndex .none) Q E s:=wpAny_pure h
theorem part_int {i:Int} {tk:Tok} {Q:Option Int→Shared→Prop} (h:Q (some i) s):wpAny (model prog w) A (Builtin.Slice.slicePartIndex (.int i tk)) Q E s:=by
  unfold Builtin.Slice.slicePartIndex
  rw [if_neg (by show ¬ (false=true);decide)]
  refine wpAny_bind (wpAny_specialOf_val (T := "int") rfl (r:=some (.builtin "int.__index__")) (by kernel_rfl) ?_)
  rw [if_neg (by decide)]
  show wpAny _ _ (pure i >>= _) _ _ _
  exact wpAny_bind (wpAny_pure (wpAny_pure h))
theorem getItem_tuple_rev {t sl:Addr} {items:Array Value} {tk:Tok} {Q:Value→Shared→Prop} (ht:IsTup s.heap t items) (hs:s.heap.get? sl=some { cls:=.type "slice", data:=.fields #[.none,.none,.int (-1) tk] }) (hz:items.size≤sizeLine)
    (h:Q (.ref s.heap.objs.size) { s with heap:=s.heap.push { cls:=.type "tuple", data:=.seq items.toList.reverse.toArray } }):wpAny (model prog w) A (getItem (.ref t) (.ref sl)) Q E s:=by
  have hT:s.TypeIs (.ref t) "tuple" := ht.typeIs
  have hTs:s.TypeIs (.ref sl) "slice" := ⟨_,hs,rfl⟩
  refine wpAny_getItem_slot hT (by decide) PyProof.Rows.slot_tuple_getitem (wpAny_call_entry PyProof.Rows.slot_tuple_getitem hT PyProof.Rows.entry_tuple_getitem ?_ (PyProof.Rows.args_tuple_getitem _ _))
  obtain ⟨o,ho,hc,n,hd⟩:=id ht
  have f1:wpAny (model prog w) A.in1 (Builtin.Slice.sliceApplied (.ref sl) (pure (items.size:Int))) (fun r s'=>r=((items.size:Int) - 1,-1,items.size)∧s'=s) E s:=by
    unfold Builtin.Slice.sliceApplied Builtin.Slice.sliceFields
    refine wpAny_bind (wpAny_bind (wpAny_field hs rfl (x:=.none) rfl (wpAny_bind (wpAny_field hs rfl (x:=.none) rfl (wpAny_bind (wpAny_field hs rfl (x:=.int (-1) tk) rfl (wpAny_pure ?_)))))))
    dsimp only
    refine wpAny_bind (part_int ?_)
    show wpAny _ _ (Builtin.Slice.slicePartIndex .none >>= _) _ _ _
    refine wpAny_bind (part_none ?_)
    refine wpAny_bind (part_none ?_)
    refine wpAny_bind (wpAny_pure ?_)
    show wpAny _ _ (pure ((items.size:Int) - 1,(-1:Int),Builtin.Slice.slicePlaces ((items.size:Int) - 1) (-1) (-1))) _ _ _
    rw [places_rev]
    exact wpAny_pure ⟨rfl,rfl⟩
  show wpAny _ _ (Builtin.Tuple.tupleItemsOf (.ref t) >>= _) _ _ _
  refine wpAny_bind (PyProof.Rows.tupleItemsOf_ ht ?_)
  refine wpAny_bind (wpAny_typeOf hTs ?_)
  rw [if_pos (by decide)]
  refine wpAny_bind (thn f1 fun r s' hr=>?_)
  obtain ⟨rfl,rfl⟩:=hr
  dsimp only
  have nb:¬ (((items.size:Int) - 1 == 0 && (-1:Int) == 1 && items.size == items.size)=true):=by simp
  rw [if_neg nb,rev_pick]
  show wpAny _ _ (newTuple items.toList.reverse >>= _) _ _ _
  exact wpAny_bind (wpAny_newTuple (wpAny_pure ⟨_,rfl,h⟩) (by rw [List.length_reverse,Array.length_toList];exact hz))
end
section
variable {X:Cx} {e st:Expr} {te:TE} {ts:TO} {pos p2:Pos}
def tRevT (K:PySem.W.Frag) (te:TE) (ts:TO):TE:=fun σ H Q=>te σ H fun x H1=>ts σ H1 fun o H2=>∃ (a:Addr) (xs:List V),o=some (-1)∧x=.ref a∧SqT K H2 a xs∧∀ r:Addr,H2 r=none→Q (.ref r) (upd H2 r (.tup xs.reverse))
theorem vals_rev:∀ {xs:List V} {us:List Value},Vals xs us→Vals xs.reverse us.reverse
  | [],_,.nil=>.nil
  | x :: xs,_,.cons r t=>by
    rw [List.reverse_cons,List.reverse_cons]
    exact (vals_rev t).append (.cons r .nil)
theorem pe_revT (K:PySem.W.Frag) (he:PE X e te) (hs:PO X (some st) ts) (hK:X.K=K:=by rfl):PE X (.Subscript e (.Slice none none (some st) p2) pos) (tRevT K te ts):=by
  subst hK
  intro pins s σ H Q I h
  refine Subscript_ (thn (he pins s σ H _ I h) fun v s1 ⟨x,H1,I1,r1,q1⟩=>?_)
  refine wpAny_Slice ?_
  rw [evalPart_none]
  refine wpAny_pure (wpAny_pure ?_)
  refine thn (hs pins s1 σ H1 _ I1 q1) fun vs s3 ⟨o,H3,I3,po,q3⟩=>?_
  obtain ⟨a,xs,rfl,rfl,hq,q⟩:=q3
  cases r1
  cases po with
  | int i tk=>
  have I4:Inv X pins σ H3 { s3 with heap:=s3.heap.push { cls:=.type "slice", data:=.fields #[.none,.none,.int (-1) tk] } }:=I3.kept (t':=s3.toks) fun b ob q=>Heap.get?_push_of_some _ q
  show wpAny (model X.prog X.w) X.A (subscriptTail e (.Slice none none (some st) p2) (.ref a) (.ref s3.heap.objs.size)) (EP X pins σ Q) X.xe { s3 with heap:=s3.heap.push { cls:=.type "slice", data:=.fields #[.none,.none,.int (-1) tk] } }
  obtain ⟨its,r,ht,hz⟩:=I4.tuple hq
  have hlen:=r.length
  refine tail_any (ops:=[.ref a,.ref s3.heap.objs.size]) (T := "tuple") ht.typeIs PyProof.Rows.slot_tuple_getitem.lookup ?_ (by with_unfolding_all rfl)
  refine getItem_tuple_rev ht (Heap.get?_push_size _ rfl) (by rw [List.size_toArray];omega) ?_
  have rl:its.toArray.toList.reverse=its.reverse:=by simp
  rw [rl]
  refine ⟨.ref _,_,I4.laid (t':=s3.toks) (o:=.tup xs.reverse) (fun b ob q=>Heap.get?_push_of_some _ q) (Nat.le_refl _) ?_,rfl,q _ (I4.hok.fresh (Nat.le_refl _))⟩
  exact ⟨⟨by rw [List.length_reverse];exact hz,_,Heap.get?_push_size _ rfl,rfl⟩,its.reverse,vals_rev r,_,Heap.get?_push_size _ rfl,rfl,0,rfl⟩
end
end L2
namespace L2
open PySem PySem.Spec PyProof.Rows PySem.W
section
variable {X:Cx}
end
end L2
namespace L2
open PySem PySem.Spec PyProof.Rows PySem.W
section
variable {prog:Program} {w:World} {A:Around} {E:Value→Shared→Prop} {s:Shared}
theorem SetA.empty {led:Bool} {h:Heap} {r:Addr} {n:Nat} (x:SetA w led h r [] n):∃ ep t,h.get? r=some { cls:=.type "set", data:=.set #[] ep t }∧SetS w led #[] t []:=by
  obtain ⟨es,ep,t,hg,hS,_⟩:=x
  have:es=#[]:=by
    have e:es.toList=[]:=by
      refine List.eq_nil_iff_forall_not_mem.mpr fun e he=>?_
      have:=(hS.mem (keyOf e)).mp (List.mem_map.mpr ⟨e,he,rfl⟩)
      cases this
    simpa using e
  subst this
  exact ⟨ep,t,hg,hS⟩
end
def setO (w:World) (a:Addr) (S:List Str) (n:Nat):HO:=.ext fun h=>SetA w (ledOf w) h a S n
theorem setO_ok {P:Program} {w:World} {H:Hp} {h:Heap} {a:Addr} {S:List Str} {n:Nat} (x:SetA w (ledOf w) h a S n):ObjOk P w H h a (setO w a S n):=by
  refine ⟨x,?_,fun h1 h2 p k=>SetA.keeps p k⟩
  obtain ⟨es,ep,t,e,_⟩:=x
  exact ⟨_,e⟩
section
variable {X:Cx}
theorem setO_at {pins:List (Addr × Obj)} {σ:St} {H:Hp} {s:Shared} (I:Inv X pins σ H s) {a:Addr} {S:List Str} {n:Nat} (h:H a=some (setO X.w a S n)):SetA X.w (ledOf X.w) s.heap a S n:=(I.hok a _ h).1
theorem call_set_texts (hc:X.calm=true):CallR X (.type "set") (fun xs H Q=>∃ (l:Addr) (ss:List Str),xs=[.ref l]∧SqL X.K H l (ss.map V.str)∧ss.length < 4000∧∀ r,H r=none→Q (.ref r) (upd H r (setO X.w r ss ss.length))):=by
  intro pins s σ H xs us Q I r h
  obtain ⟨l,ss,rfl,hq,h4,q⟩:=h
  obtain ⟨u,rfl,ru⟩:=vals1 r
  cases (show u=Value.ref l from ru)
  obtain ⟨its,rv,ht,hz⟩:=I.list hq
  have hlen:=rv.length
  rw [List.length_map] at hlen
  have hh:X.A.handled=none:=I.ok.hd hc
  have hsz:its.toArray.size=its.length:=List.size_toArray ..
  refine set_call ht.isList (strsAre_of rv) hh (by show its.toArray.size+1 < 4096;omega) fun h2 tk2 old2 hA=>?_
  rw [hsz,← hlen] at hA
  exact ⟨.ref s.heap.objs.size,_,I.laid (t':=tk2) (h':=h2) (a:=s.heap.objs.size) (o:=setO X.w s.heap.objs.size ss ss.length) old2 (Nat.le_refl _) (setO_ok hA),rfl,q _ (I.hok.fresh (Nat.le_refl _))⟩
theorem call_set_textsW (w:World) (hc:X.calm=true) (hw:X.w=w:=by rfl):CallR X (.type "set") (fun xs H Q=>∃ (l:Addr) (ss:List Str),xs=[.ref l]∧SqL X.K H l (ss.map V.str)∧ss.length < 4000∧∀ r,H r=none→Q (.ref r) (upd H r (setO w r ss ss.length))):=by
  subst hw;exact call_set_texts hc
end
end L2
namespace L2
open PySem
theorem mid {t u:TS} {D:Ends} {σ:St} {H:Hp} (P:St→Hp→Prop) (h2:∀ σ' H',P σ' H'→u D σ' H') (h1:∀ E:Ends,(∀ σ' H',P σ' H'→E.nx σ' H')→t E σ H):tSeq t u D σ H:=h1 { D with nx:=u D } h2
end L2
namespace L2
open PySem PySem.Spec PyProof.Rows PySem.W
section
variable {prog:Program} {w:World} {A:Around} {E:Value→Shared→Prop} {s:Shared}
end
section
variable {X:Cx} {pos:Pos}
theorem noFill_tuple_mul:fillsNumberSlot (.type "tuple") "mul" = pure false:=
  PySem.fillsNumberSlot_seq (id := "tuple.__mul__") (r:=some (.builtin "tuple.__rmul__")) PySem.F.slot_tuple_mul.lookup (by decide +kernel) PySem.F.slot_tuple_rmul.lookup (by decide +kernel)
theorem repeat_tuple:seqRepeat? (.type "tuple")=pure (some (.builtin "tuple.__mul__")):=by
  unfold seqRepeat?
  rw [PySem.seqSlot_of (T := "tuple") (name := "__mul__") (id := "tuple.__mul__") PySem.F.slot_tuple_mul.lookup (by decide +kernel),PySem.seqSlot_of (T := "tuple") (name := "__rmul__") (id := "tuple.__rmul__") PySem.F.slot_tuple_rmul.lookup (by decide +kernel)]
  rfl
theorem int_rmul_tup (a:Int) (t:Tok) (l:Addr) (items:Array Value) (n:Nat) (dd:Option Addr) (sl:Array (Option Value)) :
    Meets (Builtin.«int.__rmul__» ⟨[.int a t,.ref l],[]⟩) (fun _ R s=>s.heap.get? l=some { cls:=.type "tuple", dict:=dd,data:=.seq items n,slots:=sl }∧R (.ok (.ret Value.notImplemented)) s):=
  .of_wp fun prog w A R s h=>by obtain ⟨hp,g,d,tk,os⟩:=s;obtain ⟨hl,h⟩:=h;wp_walk;exact ⟨_,rfl,h⟩
theorem tup_mul_one (l:Addr) (x:Value) (n:Nat) (dd:Option Addr) (sl:Array (Option Value)) (k:Int) (t:Tok) (h2:2≤k) (h3:k≤1000) :
    Meets (Builtin.«tuple.__mul__» ⟨[.ref l,.int k t],[]⟩) (fun _ R s=>s.heap.get? l=some { cls:=.type "tuple", dict:=dd,data:=.seq #[x] n,slots:=sl }∧R (.ok (.ret (.ref s.heap.objs.size))) { s with heap:=s.heap.push { cls:=.type "tuple", data:=.seq (List.replicate k.toNat x).toArray } }):=
  .of_wp fun prog w A R s h=>by
    obtain ⟨hp,g,d,tk,os⟩:=s
    obtain ⟨hl,h⟩:=h
    wp_walk
    rw [if_neg (by rw [Bool.or_eq_true,decide_eq_true_eq,decide_eq_true_eq];omega)]
    have f2:=AutoSeq1.sub_tuple_tuple
    wp_walk using wpAny_loadPart' hl
    rw [if_neg (by
      intro e
      rcases Bool.or_eq_true _ _ ▸ e with e | e
      · cases e
      · have:k=1:=eq_of_beq e
        omega)]
    dsimp only
    rw [if_neg (by
      intro e
      rcases Bool.or_eq_true _ _ ▸ e with e | e
      · have:=of_decide_eq_true e
        omega
      · cases e)]
    have sz:((#[x]:Array Value).size:Int)=1:=rfl
    rw [if_neg (by rw [sz];omega)]
    skip
    have tm:¬ Builtin.Tuple.tupleTooMany (((#[x]:Array Value).size:Int) * k)=true:=by
      rw [sz];unfold Builtin.Tuple.tupleTooMany
      intro e
      have:=of_decide_eq_true e
      have h:(1000:Int)≤(sizeLine:Int):=by decide
      omega
    rw [if_neg tm]
    have fe:∀ (m:Nat) (acc:List Value),List.foldl (fun x1 x2=>x1++x2) acc.toArray (List.replicate m #[x])=(acc++List.replicate m x).toArray:=by
      intro m
      induction m with
      | zero=>intro acc;simp
      | succ m ih=>
        intro acc
        rw [List.replicate_succ,List.foldl_cons]
        have:=ih (acc++[x])
        rw [show acc.toArray++#[x]=(acc++[x]).toArray by simp,this,List.replicate_succ,List.append_assoc]
        rfl
    have fe0:=fe k.toNat []
    rw [List.nil_append] at fe0
    rw [show (List.foldl (fun x1 x2=>x1++x2) #[] (List.replicate k.toNat #[x]))=(List.replicate k.toNat x).toArray from fe0]
    unfold Builtin.Tuple.tupleExact
    refine wpAny_bind (wpAny_newObj_type (wpAny_pure ⟨_,rfl,h⟩) ?_)
    show (List.replicate k.toNat x).toArray.size≤sizeLine
    rw [List.size_toArray,List.length_replicate]
    have h:(1000:Nat)≤sizeLine:=by decide
    omega
def rRepT (K:PySem.W.Frag):R2:=fun x y H Q=>∃ a k v,x=.ref a∧y=.int k∧SqT K H a [v]∧2≤k∧k≤1000∧∀ p,H p=none→Q (.ref p) (upd H p (.tup (List.replicate k.toNat v)))
theorem vals_rep {v:V} {u:Value} (r:RelV v u):∀ n,Vals (List.replicate n v) (List.replicate n u)
  | 0=>.nil
  | n+1=>.cons r (vals_rep r n)
theorem op_repT:OpR X (binaryOp .Mult) (rRepT X.K):=by
  intro pins s σ H x y v u Q I rx ry h
  obtain ⟨a,k,z,rfl,rfl,ha,k2,k3,q⟩:=h
  cases rx
  obtain ⟨t,rfl⟩:=ry
  obtain ⟨its,r1,p1,_⟩:=I.tuple ha
  obtain ⟨u,rfl,ru⟩:=vals1 r1
  obtain ⟨o,ho,hc,hd⟩:=id p1
  obtain ⟨cl,dd,dt,sl⟩:=o
  dsimp only at hc hd
  obtain ⟨n,hd⟩:=hd
  subst hc hd
  refine wpAny_binaryOp_repeat_ref (T := "tuple") (U := "int") (by decide) ⟨_,ho,rfl⟩ (fun s'=>typeIs_int s' k t) noFill_tuple_mul PySem.F.fills_int_mul PySem.F.slot_int_rmul repeat_tuple PySem.F.slot_int_index.lookup
    (call_meets PySem.F.slot_int_rmul (typeIs_int s k t) PySem.F.entry_int_rmul (PySem.F.args_int_rmul_2 _ _) (int_rmul_tup k t a _ n dd sl)
      ⟨ho,rfl,⟨_,ho,rfl⟩,call_meets PySem.F.slot_tuple_mul ⟨_,ho,rfl⟩ PySem.F.entry_tuple_mul (PySem.F.args_tuple_mul_2 _ _) (tup_mul_one a u n dd sl k t k2 k3) ⟨ho,?_⟩⟩)
  refine ⟨.ref s.heap.objs.size,_,I.laid (t':=s.toks) (o:=.tup (List.replicate k.toNat z)) (fun b ob q=>Heap.get?_push_of_some _ q) (Nat.le_refl _) ?_,rfl,q _ (I.hok.fresh (Nat.le_refl _))⟩
  refine ⟨⟨?_,_,Heap.get?_push_size _ rfl,rfl⟩,_,vals_rep ru _,IsTup.new _ _⟩
  rw [List.length_replicate]
  have h:(1000:Nat)≤sizeLine:=by decide
  omega
end
end L2
namespace HT
open PySem PySem.Spec PyProof.Rows
section
variable {prog:Program} {w:World} {A:Around} {E:Value→Shared→Prop} {s:Shared}
theorem getItem_tuple_all {t sl:Addr} {items:Array Value} {vl vu:Value} {lo hi:Option Int} {Q:Value→Shared→Prop} (ht:IsTup s.heap t items) (hs:s.heap.IsSliceOf sl vl vu .none) (pl:IsPart vl lo) (pu:IsPart vu hi)
    (h1:sIx items.size 0 lo=0) (h2:sIx items.size items.size hi=items.size) (h:Q (.ref t) s):wpAny (model prog w) A (getItem (.ref t) (.ref sl)) Q E s:=by
  obtain ⟨os,hos,hcs,hds⟩:=id hs
  have hTs:s.TypeIs (.ref sl) "slice" := ⟨os,hos,hcs⟩
  unfold getItem
  try with_reducible refine wpAny_holding ?_
  first | refine wpAny_bind (wpAny_pure ?_) | skip
  refine wpAny_bind (wpAny_sequenceKey ht.typeIs (by decide) ?_)
  refine wpAny_bind (wpAny_callSpecial?_slot (name:=Str.ofString "__getitem__") ht.typeIs PyProof.Rows.slot_tuple_getitem
    (wpAny_call_entry PyProof.Rows.slot_tuple_getitem ht.typeIs entry_tuple_getitem ?_ (args_tuple_getitem _ _)))
  show wpAny _ _ (Builtin.Tuple.tupleItemsOf (.ref t) >>= _) _ _ s
  refine wpAny_bind (tupleItemsOf_ ht ?_)
  refine wpAny_bind (wpAny_typeOf hTs ?_)
  rw [if_pos (by decide)]
  refine wpAny_bind (sliceApplied_gen hs pl pu ?_)
  have hyes:((((sIx items.size 0 lo:Nat):Int) == 0 && (1:Int) == 1 && (sIx items.size items.size hi - sIx items.size 0 lo) == items.size)=true):=by
    rw [h1,h2];simp
  show wpAny _ _ (if (((sIx items.size 0 lo:Nat):Int) == 0 && (1:Int) == 1 && (sIx items.size items.size hi - sIx items.size 0 lo) == items.size)=true then _ else _) _ _ s
  rw [if_pos hyes]
  unfold Builtin.Tuple.tupleIsExact
  refine wpAny_bind (wpAny_bind (wpAny_typeOf ht.typeIs (wpAny_pure ?_)))
  rw [if_pos (by decide)]
  refine wpAny_bind (wpAny_rule ?_)
  first
    | exact wpAny_pure ⟨_,rfl,wpAny_pure h⟩
    | exact wpAny_bind (wpAny_pure (wpAny_pure ⟨_,rfl,wpAny_pure h⟩))
end
end HT
namespace L2
open PySem PySem.Spec PyProof.Rows
section
variable {X:Cx}
def rSlTA (K:PySem.W.Frag):V→Option Int→Option Int→Hp→VK→Prop:=fun x lo hi H Q=>∃ a xs,x=.ref a∧SqT K H a xs ∧
  ((HT.sIx xs.length 0 lo=0∧HT.sIx xs.length xs.length hi=xs.length)→Q (.ref a) H)∧(¬ (HT.sIx xs.length 0 lo=0∧HT.sIx xs.length xs.length hi=xs.length)→∀ p,H p=none→Q (.ref p) (upd H p (.tup (cutV xs lo hi))))
theorem sl_tupA:SlR X (rSlTA X.K):=by
  intro pins s σ H x v vl vu lo hi sl Q I rx hs pl pu h
  obtain ⟨a,xs,rfl,hx,q1,q2⟩:=h
  by_cases hw:HT.sIx xs.length 0 lo=0∧HT.sIx xs.length xs.length hi=xs.length
  · cases rx
    obtain ⟨its,r,ht,hz⟩:=I.tuple hx
    have hlen:its.toArray.size=xs.length:=by rw [List.size_toArray];exact r.length.symm
    refine ⟨"tuple", _,PyProof.Rows.slot_tuple_getitem.lookup,ht.typeIs,?_⟩
    exact HT.getItem_tuple_all ht hs pl pu (by rw [hlen];exact hw.1) (by rw [hlen];exact hw.2) ⟨.ref a,H,I,rfl,q1 hw⟩
  · exact sl_tup pins s σ H _ v vl vu lo hi sl Q I rx hs pl pu ⟨a,xs,rfl,hx,hw,q2 hw⟩
end
end L2
namespace L2
open PySem PySem.Spec PyProof.Rows PySem.W
mutual
inductive Td (H:Hp):V→PyData→Prop
  | non:Td H .non .none
  | bl (b:Bool):Td H (.bl b) (.bool b)
  | int (i:Int):Td H (.int i) (.int i)
  | str (z:Str):Td H (.str z) (.str z)
  | lst {a:Addr} {xs:List V} {ds:List PyData}:H a=some (.lst xs)→Tds H xs ds→Td H (.ref a) (.list ds)
  | tup {a:Addr} {xs:List V} {ds:List PyData}:H a=some (.tup xs)→Tds H xs ds→Td H (.ref a) (.tuple ds)
  | dct {a:Addr} {kvs:List (Key × V)} {ps:List (PyData × PyData)}:H a=some (.dK kvs)→Tds H (kvs.map fun p=>kV p.1) (ps.map (·.1))→Tds H (kvs.map (·.2)) (ps.map (·.2))→Td H (.ref a) (.dict ps)
inductive Tds (H:Hp):List V→List PyData→Prop
  | nil:Tds H [] []
  | cons {v:V} {d:PyData} {vs:List V} {ds:List PyData}:Td H v d→Tds H vs ds→Tds H (v :: vs) (d :: ds)
end
mutual
theorem Td.same {H H':Hp} (s:Same H H'):∀ {v:V} {d:PyData},Td H v d→Td H' v d
  | _,_,.non=>.non
  | _,_,.bl b=>.bl b
  | _,_,.int i=>.int i
  | _,_,.str z=>.str z
  | _,_,.lst e t=>.lst (s _ _ e) (t.same s)
  | _,_,.tup e t=>.tup (s _ _ e) (t.same s)
  | _,_,.dct e t u=>.dct (s _ _ e) (t.same s) (u.same s)
theorem Tds.same {H H':Hp} (s:Same H H'):∀ {vs:List V} {ds:List PyData},Tds H vs ds→Tds H' vs ds
  | _,_,.nil=>.nil
  | _,_,.cons t u=>.cons (t.same s) (u.same s)
end
mutual
def noList:PyData→Bool
  | .none | .bool _ | .int _ | .str _=>true
  | .list _=>false
  | .tuple xs=>noListAll xs
  | .dict kvs=>noListKv kvs
def noListAll:List PyData→Bool
  | []=>true
  | x :: xs=>noList x && noListAll xs
def noListKv:List (PyData × PyData)→Bool
  | []=>true
  | (k,v) :: r=>noList k && noList v && noListKv r
end
theorem noListKv_keys:∀ kvs:List (PyData × PyData),noListKv kvs=true→noListAll (kvs.map (·.1))=true∧noListAll (kvs.map (·.2))=true
  | [],_=>⟨by simp only [List.map_nil,noListAll],by simp only [List.map_nil,noListAll]⟩
  | (k,v) :: r,h=>by
    simp only [noListKv,Bool.and_eq_true] at h
    obtain ⟨a,b⟩:=noListKv_keys r h.2
    simp only [List.map_cons,noListAll,Bool.and_eq_true]
    exact ⟨⟨h.1.1,a⟩,⟨h.1.2,b⟩⟩
theorem pairs_vals {P:Program} {w:World} {es:List DictEntry} {vs:List (Key × Value)} (h:Pairs (mixKind P w) es vs):∀ {kvs:List (Key × V)},KV kvs vs→Vals (kvs.map fun p=>kV p.1) (es.map (·.key))∧Vals (kvs.map (·.2)) (es.map (·.val)):=by
  induction h with
  | nil=>intro kvs r;cases r;exact ⟨.nil,.nil⟩
  | cons hk hv _ ih=>
    intro kvs r
    cases r with
    | cons r1 r2=>
      obtain ⟨a,b⟩:=ih r2
      refine ⟨.cons ?_ a,.cons (by show RelV _ _;simp only [hv];exact r1.2) b⟩
      show RelV (kV _) _
      simp only [r1.1]
      rcases keyIs_shape hk with ⟨i,t,e,e'⟩ | ⟨x,t,e,e'⟩
      · rw [e,e'];exact ⟨t,rfl⟩
      · rw [e,e'];exact ⟨t,rfl⟩
section
variable {X:Cx} {pins:List (Addr × Obj)} {σ:St} {H:Hp} {s:Shared}
mutual
theorem reads_td (I:Inv X pins σ H s):∀ {v:V} {d:PyData},Td H v d→∀ {u:Value},RelV v u→∃ as,Reads s.heap u d as∧(noList d=true→sysModules ∉ as)
  | _,_,.non,_,r=>by cases r;exact ⟨[],.none,fun _ h=>by cases h⟩
  | _,_,.bl b,_,r=>by cases r;exact ⟨[],.bool b,fun _ h=>by cases h⟩
  | _,_,.int i,_,r=>by obtain ⟨t,rfl⟩:=r;exact ⟨[],.int i t,fun _ h=>by cases h⟩
  | _,_,.str z,_,r=>by obtain ⟨t,rfl⟩:=r;exact ⟨[],.str z t,fun _ h=>by cases h⟩
  | _,_,.lst e t,_,r=>by
    cases r
    obtain ⟨_,its,n,rv,g⟩:=I.hok _ _ e
    obtain ⟨as,ra,_⟩:=reads_tds I t rv
    exact ⟨_,.list g rfl rfl ra,fun h=>by simp only [noList] at h;cases h⟩
  | _,_,.tup e t,_,r=>by
    cases r
    obtain ⟨_,its,rv,o,g,c,n,dd⟩:=I.hok _ _ e
    obtain ⟨as,ra,na⟩:=reads_tds I t rv
    exact ⟨as,.tuple g c dd ra,fun h=>na (by simpa only [noList] using h)⟩
  | _,_,.dct e t u,_,r=>by
    cases r
    obtain ⟨_,hs,vs,kv,o,es,ep,g,ex,dd,_,pr,_⟩:=I.hok _ _ e
    obtain ⟨v1,v2⟩:=pairs_vals pr kv
    obtain ⟨as,ra,na⟩:=reads_tds I t v1
    obtain ⟨bs,rb,nb⟩:=reads_tds I u v2
    refine ⟨_,.dict g ex.1 dd ra rb,fun h=>?_⟩
    simp only [noList] at h
    obtain ⟨h1,h2⟩:=noListKv_keys _ h
    intro m
    rcases List.mem_append.mp m with m | m
    · rcases List.mem_cons.mp m with m | m
      · exact beq_eq_false_iff_ne.mp hs m.symm
      · exact na h1 m
    · exact nb h2 m
theorem reads_tds (I:Inv X pins σ H s):∀ {vs:List V} {ds:List PyData},Tds H vs ds→∀ {us:List Value},Vals vs us→∃ as,ReadsAll s.heap us ds as∧(noListAll ds=true→sysModules ∉ as)
  | _,_,.nil,_,r=>by cases r;exact ⟨[],.nil,fun _ h=>by cases h⟩
  | _,_,.cons t u,_,r=>by
    cases r with
    | cons r1 r2=>
      obtain ⟨as,ra,na⟩:=reads_td I t r1
      obtain ⟨bs,rb,nb⟩:=reads_tds I u r2
      refine ⟨as++bs,.cons ra rb,fun h=>?_⟩
      simp only [noListAll,Bool.and_eq_true] at h
      intro m
      rcases List.mem_append.mp m with m | m
      · exact na h.1 m
      · exact nb h.2 m
end
variable {k:Nat}
end
section
variable {H:Hp}
theorem Tds.len:∀ {vs:List V} {ds:List PyData},Tds H vs ds→vs.length=ds.length
  | _,_,.nil=>rfl
  | _,_,.cons _ u=>by rw [List.length_cons,List.length_cons,u.len]
theorem Tds.append:∀ {vs:List V} {ds:List PyData},Tds H vs ds→∀ {ws:List V} {es:List PyData},Tds H ws es→Tds H (vs++ws) (ds++es)
  | _,_,.nil,_,_,t=>t
  | _,_,.cons a u,_,_,t=>.cons a (u.append t)
theorem Tds.get:∀ {vs:List V} {ds:List PyData} {i:Nat} {v:V},Tds H vs ds→vs[i]?=some v→∃ d,ds[i]?=some d∧Td H v d
  | _,_,_,_,.nil,e=>by simp at e
  | _,_,0,_,.cons a u,e=>by simp at e;subst e;exact ⟨_,rfl,a⟩
  | _,_,i+1,_,.cons a u,e=>u.get (i:=i) (by simpa using e)
end
section
variable {hd hl:Bool} {c c' e e':Nat} {d:PyData} {ds es:List PyData}
end
end L2
namespace L2
open PySem PySem.Spec PyProof.Rows PySem.W
theorem iteB {c:Bool} {A B:Prop} (h:c=false) (q:B):if c=true then A else B:=by rw [h];exact iteF q
theorem iteA {c:Bool} {A B:Prop} (h:c=true) (q:A):if c=true then A else B:=by rw [h];exact iteT q
end L2
namespace W56
open PySem
def S:Nat→Nat
  | 0=>0
  | m+1=>5 * S m+1
def it (x:Nat):Nat→Nat
  | 0=>x
  | m+1=>5 * it x m+1
theorem full {l:List Nat} {M:Nat} (nd:l.Nodup) (lt:∀ x∈l,x < M) (len:M≤l.length) {j:Nat} (hj:j < M):j∈l:=by
  by_cases h:j∈l
  · exact h
  · have n2:(j :: l).Nodup:=List.nodup_cons.mpr ⟨h,nd⟩
    have:=n2.length_le_of_subset (l₂:=List.range M) fun x hx=>by
      rcases List.mem_cons.mp hx with z | z
      · rw [z];exact List.mem_range.mpr hj
      · exact List.mem_range.mpr (lt x z)
    rw [List.length_cons,List.length_range] at this
    omega
def road (mask:Nat) (i p:Nat):Nat→Nat × Nat
  | 0=>(i,p)
  | m+1=>SetTable.leap mask (road mask i p m).1 (road mask i p m).2
theorem getD_none {owner:Array (Option Nat)} {j:Nat}:(owner.getD j (some 0)).isNone=true ↔ owner[j]?=some none:=by
  rw [Array.getD_eq_getD_getElem?]
  cases e:owner[j]? with
  | none=>simp
  | some v=>cases v <;> simp
end W56
namespace W56
open PySem
end W56
namespace L2
open PySem PySem.Spec PyProof.Rows PySem.W
theorem SetA.tight {w:World} {led:Bool} {h:Heap} {a:Addr} {S:List Str} {n:Nat} (x:SetA w led h a S n) {us:List Str} (sub:∀ z∈S,z∈us):SetA w led h a S us.length:=by
  obtain ⟨es,ep,t,e,hS,_⟩:=x
  refine ⟨es,ep,t,e,hS,?_⟩
  have:=hS.nd.length_le_of_subset (l₂:=us) fun z hz=>sub z ((hS.mem z).mp hz)
  rw [List.length_map,Array.length_toList] at this
  exact this
section
variable {X:Cx}
theorem call_sorted_setT (w:World) (hc:X.calm=true) (hw:X.w=w:=by rfl):CallR X (.builtin "sorted") (fun xs H Q=>∃ (a:Addr) (S:List Str) (n:Nat) (us:List Str),xs=[.ref a]∧H a=some (setO w a S n)∧(∀ z∈S,z∈us)∧us.length < 64 ∧
    ∀ (ss:List Str) (r:Addr),ss.Nodup→(∀ x,x∈ss ↔ x∈S)→sortedS ss=true→H r=none→Q (.ref r) (upd H r (.lst (ss.map V.str)))):=by
  subst hw
  intro pins s σ H xs us' Q I r h
  obtain ⟨a,S,n,us,rfl,ha,sub,n64,q⟩:=h
  obtain ⟨u,rfl,ru⟩:=vals1 r
  cases (show u=Value.ref a from ru)
  have hh:X.A.handled=none:=I.ok.hd hc
  refine set_sorted ((setO_at I ha).tight sub) hh n64 fun h3 tk3 d l3 out ss' e old3 lge hg3 hv3 nd3 mem3 srt3 len3=>?_
  have I3:=I.laid (t':=tk3) (h':=h3) (a:=l3) (o:=.lst (ss'.map V.str)) old3 lge (show ObjOk X.prog X.w _ _ _ (.lst (ss'.map V.str)) from ⟨by rw [List.length_map];exact Nat.le_of_lt (small1000 (by omega)),out.toList,e,strsAre_get hv3,hg3⟩)
  exact ⟨.ref l3,_,I3.drawn d,rfl,q ss' l3 nd3 mem3 srt3 (I.hok.fresh lge)⟩
end
end L2
namespace L2
open PySem PySem.Spec PyProof.Rows PySem.W
def isTupD:PyData→Bool | .tuple _=>true | _=>false
def isIntD:PyData→Bool | .int _=>true | .bool _=>true | _=>false
def isBlD:PyData→Bool | .bool _=>true | _=>false
section
variable {K:PySem.W.Frag} {H:Hp} {v:V} {d:PyData}
theorem td_tup (h:Td H v d):∃ t,TyOf K H v t∧kitOne K t (.type "tuple")=some (isTupD d):=by
  cases h with
  | non=>exact ⟨_,.non,by rfl⟩
  | bl b=>exact ⟨_,.bl b,by rfl⟩
  | int i=>exact ⟨_,.int i,by rfl⟩
  | str z=>exact ⟨_,.str z,by rfl⟩
  | lst e _=>exact ⟨_,.lst e,by rfl⟩
  | tup e _=>exact ⟨_,.tup e,by rfl⟩
  | dct e _ _=>exact ⟨_,.dK e,by rfl⟩
theorem td_int (h:Td H v d):∃ t,TyOf K H v t∧kitOne K t (.type "int")=some (isIntD d):=by
  cases h with
  | non=>exact ⟨_,.non,by rfl⟩
  | bl b=>exact ⟨_,.bl b,by rfl⟩
  | int i=>exact ⟨_,.int i,by rfl⟩
  | str z=>exact ⟨_,.str z,by rfl⟩
  | lst e _=>exact ⟨_,.lst e,by rfl⟩
  | tup e _=>exact ⟨_,.tup e,by rfl⟩
  | dct e _ _=>exact ⟨_,.dK e,by rfl⟩
theorem td_bl (h:Td H v d):∃ t,TyOf K H v t∧kitOne K t (.type "bool")=some (isBlD d):=by
  cases h with
  | non=>exact ⟨_,.non,by rfl⟩
  | bl b=>exact ⟨_,.bl b,by rfl⟩
  | int i=>exact ⟨_,.int i,by rfl⟩
  | str z=>exact ⟨_,.str z,by rfl⟩
  | lst e _=>exact ⟨_,.lst e,by rfl⟩
  | tup e _=>exact ⟨_,.tup e,by rfl⟩
  | dct e _ _=>exact ⟨_,.dK e,by rfl⟩
end
theorem isTup_ex {H:Hp} {v:V} {d:PyData} (h:Td H v d) (b:isTupD d=true):∃ a xs ds,v=.ref a∧d=.tuple ds∧H a=some (.tup xs)∧Tds H xs ds:=by
  cases h with
  | tup e t=>exact ⟨_,_,_,rfl,rfl,e,t⟩
  | _=>cases b
def wholeD:PyData→Bool | .int _=>true | _=>false
theorem wholes_ints:∀ {H:Hp} {xs:List V} {ds:List PyData},Tds H xs ds→(∀ d∈ds,wholeD d=true)→∃ us:List Int,ds=us.map .int∧xs=us.map V.int
  | _,_,_,.nil,_=>⟨[],rfl,rfl⟩
  | _,_,_,.cons t u,h=>by
    obtain ⟨us,e1,e2⟩:=wholes_ints u fun d hd=>h d (List.mem_cons_of_mem _ hd)
    have w:=h _ List.mem_cons_self
    cases t with
    | int i=>exact ⟨i :: us,by rw [e1];rfl,by rw [e2];rfl⟩
    | _=>cases w
def dl (ps:List Addr) (H:Hp):Hp:=fun a=>if a∈ps then none else H a
theorem dl_same (ps:List Addr) (H:Hp):Same (dl ps H) H:=fun b o e=>by
  unfold dl at e
  split at e
  · cases e
  · exact e
theorem dl_at {ps:List Addr} {H:Hp} {a:Addr} {o:HO} (h:H a=some o) (n:a ∉ ps):dl ps H a=some o:=by unfold dl;rw [if_neg n];exact h
theorem dl_keep {ps:List Addr} {H H':Hp} (h:∀ b o,b ∉ ps→H b=some o→H' b=some o):Same (dl ps H) (dl ps H'):=fun b o e=>by
  unfold dl at e ⊢
  split at e
  · cases e
  · rename_i n
    rw [if_neg n];exact h b o n e
end L2
namespace L2
open PySem PySem.Spec PyProof.Rows PySem.W
section
variable {X:Cx}
def rSlU:V→Option Int→Option Int→Hp→VK→Prop:=fun x lo hi H Q=>∃ a xs,x=.ref a∧H a=some (.tup xs)∧∀ r H',Same H H'→H' r=some (.tup (cutV xs lo hi))→Q (.ref r) H'
theorem cut_whole {xs:List V} {lo hi:Option Int} (h:HT.sIx xs.length 0 lo=0∧HT.sIx xs.length xs.length hi=xs.length):cutV xs lo hi=xs:=by
  unfold cutV
  rw [h.1,h.2,List.drop_zero,Nat.sub_zero,List.take_length]
theorem sl_tupU:SlR X rSlU:=by
  intro pins s σ H x v vl vu lo hi sl Q I rx hs pl pu h
  obtain ⟨a,xs,rfl,hx,q⟩:=h
  refine sl_tupA pins s σ H _ v vl vu lo hi sl Q I rx hs pl pu ⟨a,xs,rfl,SqT.of hx,fun w=>?_,fun _ p hp=>?_⟩
  · exact q a H (Same.refl H) (by rw [cut_whole w];exact hx)
  · exact q p _ ((Same.refl H).new hp) upd_same
def rCatU:R2:=fun x y H Q=>∃ a b xs ys,x=.ref a∧y=.ref b∧H a=some (.tup xs)∧H b=some (.tup ys)∧xs.length+ys.length≤sizeLine∧∀ r H',Same H H'→H' r=some (.tup (xs++ys))→Q (.ref r) H'
theorem op_catU:OpR X (binaryOp .Add) rCatU:=by
  intro pins s σ H x y v u Q I rx ry h
  obtain ⟨a,b,xs,ys,rfl,rfl,ha,hb,hz,q⟩:=h
  refine op_catA pins s σ H _ _ v u Q I rx ry ⟨a,b,xs,ys,rfl,rfl,SqT.of ha,SqT.of hb,hz,fun e=>?_,fun _ e=>?_,fun _ _ p hp=>?_⟩
  · exact q b H (Same.refl H) (by rw [e,List.nil_append];exact hb)
  · exact q a H (Same.refl H) (by rw [e,List.append_nil];exact ha)
  · exact q p _ ((Same.refl H).new hp) upd_same
end
end L2
namespace L2
open PySem PySem.Spec PyProof.Rows PySem.W
section
variable {prog:Program} {w:World} {A:Around} {E:Value→Shared→Prop} {s:Shared}
theorem set_loopW {led:Bool} {I S:Addr} {fp:List Addr} {n:Nat} {Pv:Nat→Value→Prop} {St:Nat→Heap→Prop} {ss:List Str} {R:Result→Shared→Prop} (Wk:Walks prog w A.in1 I fp [I] n Pv St) (hP:∀ i v,Pv i v→∃ x tk,v=.str x tk∧ss[i]?=some x) (sl:ss.length=n) (SI:S≠I) (Sf:S ∉ fp) (hn:n+1 < scanBound) :
    ∀ (k i:Nat) (s:Shared),n - i=k→i≤n→St i s.heap→SetA w led s.heap S (ss.take i) i →
      (∀ h' tk,(∀ b o,b≠I→b≠S→s.heap.get? b=some o→h'.get? b=some o)→SetA w led h' S ss n→R (.ok (.ret .none)) { s with heap:=h',toks:=tk }) →
      codeAny (model prog w) A (.builtin "set.update.loop" ⟨[.ref S,.ref I],[]⟩) R s
  | 0,i,s,hk,hi,h1,h3,h=>by
    have ei:i=n:=by omega
    subst ei
    refine codeAny_builtin F.entry_set_update_loop ?_
    rw [Around.under_plainId F.plain_set_update_loop _]
    show wpAny _ A.in1 (pyNext (.ref I) >>= _) _ _ s
    refine wpAny_bind (Wk.done s _ _ h1 fun h' tk kp=>wpAny_pure ?_)
    refine h h' tk (fun b o n1 _ e=>kp b o (by simpa using n1) e) ?_
    have:=h3.keeps (h':=h') fun o e=>kp S o (by simpa using SI) e
    rw [List.take_of_length_le (by omega)] at this
    exact this
  | k+1,i,s,hk,hi,h1,h3,h=>by
    have il:i < n:=by omega
    refine codeAny_builtin F.entry_set_update_loop ?_
    rw [Around.under_plainId F.plain_set_update_loop _]
    show wpAny _ A.in1 (pyNext (.ref I) >>= _) _ _ s
    refine wpAny_bind (Wk.item i s _ _ il h1 fun v h' tk hv hSt kp=>?_)
    obtain ⟨x,tkx,rfl,hx⟩:=hP i v hv
    have h3':=h3.keeps (h':=h') fun o e=>kp S o (by simpa using SI) e
    dsimp only
    refine wpAny_bind (wpAny_holding (add_text (s:={ s with heap:=h',toks:=tk }) h3' (by omega) fun b h2' sb hA=>?_))
    refine wpAny_pure ⟨plainId_quiet F.plain_set_update_loop _,?_⟩
    have et:ss.take i++[x]=ss.take (i+1):=by rw [List.take_succ,hx];rfl
    rw [et] at hA
    refine set_loopW Wk hP sl SI Sf hn k (i+1) { s with heap:=h2',toks:=tk+1 } (by omega) (by omega) ?_ hA fun h4 tk4 k4 hA4=>?_
    · exact Wk.frame _ _ _ hSt fun b hb o e=>sb.extBut _ _ (fun z=>Sf (by rw [← z];exact hb)) e
    · exact h h4 tk4 (fun b o n1 n2 e=>k4 b o n1 n2 (sb.extBut _ _ n2 (kp b o (by simpa using n1) e))) hA4
theorem set_initS {D:Addr} {z:Str} {t:Tok} {Pf:PySem.Fin→Shared→Prop} (hget:s.heap.get? D=some { cls:=.type "set", data:=.set #[] 0 (SetTable.fresh 0 0 (ledOf w)) }) (hh:A.handled=none) (hn:z.cps.size+1 < scanBound)
    (h:∀ h' tk,(∀ b o,b≠D→s.heap.get? b=some o→h'.get? b=some o)→SetA w (ledOf w) h' D (z.cps.toList.map fun c=>(⟨#[c]⟩:Str)) z.cps.size→Pf (.done (.ret .none)) { s with heap:=h',toks:=tk }) :
    wpAny (model prog w) A (Builtin.«set.__init__» ⟨[.ref D,.str z t],[]⟩) Pf E s:=by
  have hT:s.TypeIs (.ref D) "set" := ⟨_,hget,rfl⟩
  have hTl:s.TypeIs (.str z t) "str" := typeIs_str _ _ _
  unfold Builtin.«set.__init__»
  refine wpAny_bind ?_
  unfold noKeywords
  show wpAny _ _ (pure ()) _ _ _
  refine wpAny_pure ?_
  dsimp only
  unfold typeNameOfCut shownTypeOf
  refine wpAny_bind (wpAny_bind (wpAny_bind (wpAny_typeOf hT ?_)))
  rw [if_neg (by decide)]
  refine wpAny_pure ?_
  rw [name_set]
  refine wpAny_pure ?_
  refine wpAny_bind ?_
  unfold checkCount
  show wpAny _ _ (pure ()) _ _ _
  refine wpAny_pure ?_
  refine wpAny_bind ?_
  show wpAny _ _ (pure D) _ _ _
  refine wpAny_pure ?_
  refine wpAny_bind ?_
  unfold setUsed
  refine wpAny_bind (wpAny_setState_of hget rfl rfl (wpAny_pure ?_))
  have hfill:(((#[],0,SetTable.fresh 0 0 (ledOf w)):Array (Int × Value) × Nat × SetTable).2.2.fill != 0)=false:=rfl
  rw [hfill,if_neg (by decide)]
  refine wpAny_bind ?_
  unfold Builtin.Frozenset.updateFrom
  refine wpAny_bind ?_
  unfold Builtin.Frozenset.isAnySet
  refine wpAny_bind (wpAny_isInstance hTl F.sub_str_set ?_)
  refine wpAny_isInstance hTl F.sub_str_frozenset ?_
  rw [if_neg (by decide)]
  refine wpAny_bind (wpAny_typeOf hTl ?_)
  rw [if_neg (by decide)]
  have DD:D < s.heap.objs.size:=Heap.lt_size hget
  refine wpAny_bind (wpAny_pyIter_str fun o St Wk st0=>?_)
  refine wpAny_bind (wpAny_runValue ?_)
  refine set_loopW (led:=ledOf w) (ss:=z.cps.toList.map fun c=>(⟨#[c]⟩:Str)) (Wk A.in1 hh) (fun i v hv=>?_) (by rw [List.length_map,Array.length_toList]) (Nat.ne_of_lt DD) (fun m=>Nat.ne_of_lt DD (List.mem_singleton.mp m)) hn z.cps.size 0 { s with heap:=s.heap.push o } (Nat.sub_zero _) (Nat.zero_le _) st0 (SetA.start (Heap.get?_push_of_some _ hget)) fun h' tk kp hA=>?_
  · obtain ⟨c,u,hc,rfl⟩:=hv
    exact ⟨_,_,rfl,by rw [List.getElem?_map,Array.getElem?_toList,hc];rfl⟩
  refine wpAny_pure (wpAny_pure ?_)
  exact h h' tk (fun b o n e=>kp b o (Nat.ne_of_lt (Heap.lt_size e)) n (Heap.get?_push_of_some _ e)) hA
theorem set_callS {z:Str} {t:Tok} {Q:Value→Shared→Prop} (hh:A.handled=none) (hn:z.cps.size+1 < scanBound)
    (h:∀ h' tk,(∀ b o,s.heap.get? b=some o→h'.get? b=some o)→SetA w (ledOf w) h' s.heap.objs.size (z.cps.toList.map fun c=>(⟨#[c]⟩:Str)) z.cps.size→Q (.ref s.heap.objs.size) { s with heap:=h',toks:=tk }) :
    wpAny (model prog w) A (call (.type "set") [.str z t]) Q E s:=by
  obtain ⟨c,tl,hmro⟩:=F.called_set.mro
  refine wpAny_call (codeAny_of_tree ?_)
  show wpAny _ _ (pure (Fin.again (.builtin "type.__call__" ⟨[.type "set", .str z t],[]⟩))) _ _ _
  refine wpAny_pure ⟨Code.quiet_builtin _ (by decide +kernel),codeAny_builtin F.entry_type_call ?_⟩
  rw [Around.under_plain (weight_type_call_type "set" [.str z t] []) rfl]
  unfold Builtin.«type.__call__»
  dsimp only
  rw [if_neg (by decide),if_neg (by rw [F.called_set.canCreate];decide)]
  refine wpAny_bind ?_
  rw [F.typeCall_set_1]
  refine wpAny_pure ?_
  refine wpAny_bind ?_
  rw [hmro]
  refine wpAny_pure ?_
  rw [if_neg (by simp)]
  refine wpAny_bind ?_
  rw [F.called_set.made]
  refine wpAny_pure ?_
  dsimp only
  refine wpAny_bind (wpAny_pure ?_)
  refine wpAny_bind (wpAny_holding (wpAny_call ?_))
  refine code_set_new_led _ ?_
  have hget:(s.heap.push { cls:=.type "set", data:=.set #[] 0 (SetTable.fresh 0 0 (ledOf w)) }).get? s.heap.objs.size=some { cls:=.type "set", data:=.set #[] 0 (SetTable.fresh 0 0 (ledOf w)) }:=Heap.get?_push_size _ rfl
  have hT:({ s with heap:=s.heap.push { cls:=.type "set", data:=.set #[] 0 (SetTable.fresh 0 0 (ledOf w)) } }:Shared).TypeIs (.ref s.heap.objs.size) "set" := ⟨_,hget,rfl⟩
  refine wpAny_bind (wpAny_isInstance hT F.called_set.sub ?_)
  rw [if_neg (by decide)]
  refine wpAny_bind (wpAny_holding ?_)
  refine wpAny_callSpecial?_slot hT F.called_set.init (wpAny_call (codeAny_call_builtin F.called_set.init.plain F.entry_set_init (check_set_init_1 hT ?_)))
  refine set_initS (s:={ s with heap:=s.heap.push { cls:=.type "set", data:=.set #[] 0 (SetTable.fresh 0 0 (ledOf w)) } }) hget hh hn fun h' tk kp hA=>?_
  dsimp only
  rw [if_neg (by decide)]
  refine wpAny_pure ?_
  exact h h' tk (fun b o e=>kp b o (Nat.ne_of_lt (Heap.lt_size e)) (Heap.get?_push_of_some _ e)) hA
end
section
variable {X:Cx}
theorem call_set_txt (hc:X.calm=true):CallR X (.type "set") (fun xs H Q=>∃ (z:Str),xs=[.str z]∧z.length < 4000∧∀ r,H r=none→Q (.ref r) (upd H r (setO X.w r (z.cps.toList.map fun c=>(⟨#[c]⟩:Str)) z.length))):=by
  intro pins s σ H xs us Q I r h
  obtain ⟨z,rfl,h4,q⟩:=h
  obtain ⟨u,rfl,t,rfl⟩:=vals1 r
  have hh:X.A.handled=none:=I.ok.hd hc
  have hz:z.cps.size < 4000:=h4
  refine set_callS hh (by show z.cps.size+1 < 4096;omega) fun h2 tk2 old2 hA=>?_
  exact ⟨.ref s.heap.objs.size,_,I.laid (t':=tk2) (h':=h2) (a:=s.heap.objs.size) (o:=setO X.w s.heap.objs.size _ _) old2 (Nat.le_refl _) (setO_ok hA),rfl,q _ (I.hok.fresh (Nat.le_refl _))⟩
theorem call_set_txtW (w:World) (hc:X.calm=true) (hw:X.w=w:=by rfl):CallR X (.type "set") (fun xs H Q=>∃ (z:Str),xs=[.str z]∧z.length < 4000∧∀ r,H r=none→Q (.ref r) (upd H r (setO w r (z.cps.toList.map fun c=>(⟨#[c]⟩:Str)) z.length))):=by
  subst hw;exact call_set_txt hc
theorem mt_endswith:MtR X "str.endswith" (fun x vs H Q=>∃ z p,x=.str z∧vs=[.str p]∧Q (.bl (Txt.endswith z p)) H):=by
  intro pins s σ H x xs v us Q I rx rv h
  obtain ⟨z,p,rfl,rfl,q⟩:=h
  obtain ⟨t,rfl⟩:=rx
  obtain ⟨u,rfl,t',rfl⟩:=rv.one
  exact SC.endswith ⟨.bl _,H,I,rfl,q⟩
theorem mt_partition:MtR X "str.partition" (fun x vs H Q=>∃ z p,x=.str z∧vs=[.str p]∧(p.length == 0)=false∧z.length≤sizeLine∧∀ r,H r=none→Q (.ref r) (upd H r (.tup [.str (Txt.partition z p).1,.str (Txt.partition z p).2.1,.str (Txt.partition z p).2.2]))):=by
  intro pins s σ H x xs v us Q I rx rv h
  obtain ⟨z,p,rfl,rfl,hp,hz,q⟩:=h
  obtain ⟨t,rfl⟩:=rx
  obtain ⟨u,rfl,t',rfl⟩:=rv.one
  refine call_meets F.slot_str_partition (typeIs_str _ _ _) F.entry_str_partition (F.args_str_partition_2 _ _) (meets_str_partition z p t t' hp hz) ?_
  have q':=q
  unfold Txt.partition at q'
  have z3:∀ a b c:V,[a,b,c].length≤sizeLine:=fun a b c=>by show 3≤sizeLine;rw [sizeLine_eq];decide
  revert q'
  cases Builtin.Str.occurrences z p 0 z.length 1 with
  | nil=>
    intro q'
    exact ⟨.ref s.heap.objs.size,_,I.laid (t':=s.toks+1) (fun b u e=>Heap.get?_push_of_some _ e) (Nat.le_refl _) (show ObjOk X.prog X.w _ _ _ (.tup [.str _,.str _,.str _]) from ⟨⟨z3 _ _ _,_,Heap.get?_push_size _ rfl,rfl⟩,_,.cons ⟨_,rfl⟩ (.cons ⟨_,rfl⟩ (.cons ⟨_,rfl⟩ .nil)),⟨_,Heap.get?_push_size _ rfl,rfl,_,rfl⟩⟩),rfl,q' _ (I.hok.fresh (Nat.le_refl _))⟩
  | cons i r=>
    intro q'
    exact ⟨.ref s.heap.objs.size,_,I.laid (t':=s.toks+1+1) (fun b u e=>Heap.get?_push_of_some _ e) (Nat.le_refl _) (show ObjOk X.prog X.w _ _ _ (.tup [.str _,.str _,.str _]) from ⟨⟨z3 _ _ _,_,Heap.get?_push_size _ rfl,rfl⟩,_,.cons ⟨_,rfl⟩ (.cons ⟨_,rfl⟩ (.cons ⟨_,rfl⟩ .nil)),⟨_,Heap.get?_push_size _ rfl,rfl,_,rfl⟩⟩),rfl,q' _ (I.hok.fresh (Nat.le_refl _))⟩
def tOrS (ta tb:TE):TE:=fun σ H Q=>ta σ H fun x H1=>∃ z,x=.str z∧z.length≤1000∧if z.length=0 then tb σ H1 Q else Q x H1
theorem pe_orS {a b:Expr} {rest:List Expr} {ta tb:TE} {pos:Pos} (ha:PE X a ta) (hb:PE X (.BoolOp .Or (b :: rest) pos) tb):PE X (.BoolOp .Or (a :: b :: rest) pos) (tOrS ta tb):=by
  intro pins s σ H Q I h
  refine BoolOp_or (thn (ha pins s σ H _ I h) fun v s1 ⟨x,H1,I1,r1,q1⟩=>?_)
  obtain ⟨z,rfl,zl,q1⟩:=q1
  obtain ⟨t,rfl⟩:=r1
  refine P.truthy_str (by omega) ?_
  by_cases e:z.length=0
  · rw [if_pos e] at q1
    have eb:(((z.length:Nat):Int) != 0)=false:=by rw [e];rfl
    rw [eb]
    exact hb pins _ σ H1 Q (I1.tok _) q1
  · rw [if_neg e] at q1
    have eb:(((z.length:Nat):Int) != 0)=true:=by simp;omega
    rw [eb]
    exact ⟨.str z,H1,I1.tok _,⟨t,rfl⟩,q1⟩
end
end L2
namespace W7
def wd (ups:List Int) (lab:List Nat):Nat→Nat→List Nat
  | 0,_=>[]
  | f+1,k=>lab.getD k 0 :: (if ups.getD k 0 < 0 then [] else wd ups lab f (ups.getD k 0).toNat)
structure TreeOk (ups:List Int) (lab:List Nat):Prop where
  len:ups.length=lab.length
  pos:0 < ups.length
  most:ups.length≤60
  root:ups.getD 0 0=-1
  up:∀ k,0 < k→k < ups.length→0≤ups.getD k 0∧ups.getD k 0 < (k:Int)
theorem TreeOk.lt {ups:List Int} {lab:List Nat} (t:TreeOk ups lab) {k:Nat} (h:k < ups.length) (h0:¬ ups.getD k 0 < 0):(ups.getD k 0).toNat < k:=by
  rcases Nat.eq_zero_or_pos k with e | e
  · subst e;have:=t.root;omega
  · have:=t.up k e h;omega
theorem TreeOk.neg {ups:List Int} {lab:List Nat} (t:TreeOk ups lab) {k:Nat} (h:k < ups.length):ups.getD k 0 < 0 ↔ ups.getD k 0=-1:=by
  rcases Nat.eq_zero_or_pos k with e | e
  · subst e;have:=t.root;omega
  · have:=t.up k e h;omega
theorem wd_fuel {ups:List Int} {lab:List Nat} (t:TreeOk ups lab):∀ (f g k:Nat),k < ups.length→k < f→k < g→wd ups lab f k=wd ups lab g k
  | 0,_,_,_,h,_=>absurd h (Nat.not_lt_zero _)
  | _+1,0,_,_,_,h=>absurd h (Nat.not_lt_zero _)
  | f+1,g+1,k,hk,hf,hg=>by
    simp only [wd]
    congr 1
    split
    · rfl
    · rename_i h0
      have:=t.lt hk h0
      exact wd_fuel t f g _ (by omega) (by omega) (by omega)
def W (ups:List Int) (lab:List Nat) (k:Nat):List Nat:=wd ups lab (k+1) k
theorem W_eq {ups:List Int} {lab:List Nat} (t:TreeOk ups lab) {k:Nat} (hk:k < ups.length):W ups lab k=lab.getD k 0 :: (if ups.getD k 0 < 0 then [] else W ups lab (ups.getD k 0).toNat):=by
  unfold W
  rw [wd]
  congr 1
  split
  · rfl
  · rename_i h0
    have:=t.lt hk h0
    exact wd_fuel t _ _ _ (by omega) (by omega) (by omega)
theorem W_len {ups:List Int} {lab:List Nat} (t:TreeOk ups lab):∀ (n k:Nat),k < n→k < ups.length→(W ups lab k).length≤k+1
  | 0,_,h,_=>absurd h (Nat.not_lt_zero _)
  | n+1,k,hn,hk=>by
    rw [W_eq t hk]
    split
    · simp
    · rename_i h0
      have:=t.lt hk h0
      have ih:=W_len t n (ups.getD k 0).toNat (by omega) (by omega)
      simp only [List.length_cons]
      omega
def R (ups:List Int) (lab:List Nat) (k:Int):List Nat:=if k < 0 then [] else W ups lab k.toNat
end W7
namespace S67
open PySem L2 W7
def top (i:Nat):Stmt:=PySem.Challenge.pw_upwords_k67_marks_looked_at.main.body.getD i (.Pass ⟨0,0,0,0⟩)
abbrev s_is_whole:Stmt:=top 5
abbrev N_is_whole:List Str:=["thing"]
theorem sc_is_whole:FnScope N_is_whole ["thing"] (defScope s_is_whole):=⟨rfl,rfl,rfl,by decide +kernel,rfl,by decide +kernel,by decide +kernel⟩
abbrev s_is_number_below:Stmt:=top 6
abbrev N_is_number_below:List Str:=["thing", "behind"]
theorem sc_is_number_below:FnScope N_is_number_below ["thing", "behind"] (defScope s_is_number_below):=⟨rfl,rfl,rfl,by decide +kernel,rfl,by decide +kernel,by decide +kernel⟩
abbrev s_is_letters:Stmt:=top 7
abbrev N_is_letters:List Str:=["thing"]
theorem sc_is_letters:FnScope N_is_letters ["thing"] (defScope s_is_letters):=⟨rfl,rfl,rfl,by decide +kernel,rfl,by decide +kernel,by decide +kernel⟩
abbrev s_is_rising:Stmt:=top 8
abbrev N_is_rising:List Str:=["things"]
theorem sc_is_rising:FnScope N_is_rising ["things"] (defScope s_is_rising):=⟨rfl,rfl,rfl,by decide +kernel,rfl,by decide +kernel,by decide +kernel⟩
abbrev s_items_of:Stmt:=top 11
abbrev N_items_of:List Str:=["pattern", "items", "left", "part", "starred"]
theorem sc_items_of:FnScope N_items_of ["pattern"] (defScope s_items_of):=⟨rfl,rfl,rfl,by decide +kernel,rfl,by decide +kernel,by decide +kernel⟩
abbrev s_part_ahead:Stmt:=top 12
abbrev N_part_ahead:List Str:=["text", "halves"]
theorem sc_part_ahead:FnScope N_part_ahead ["text"] (defScope s_part_ahead):=⟨rfl,rfl,rfl,by decide +kernel,rfl,by decide +kernel,by decide +kernel⟩
abbrev s_letters_by:Stmt:=top 13
abbrev N_letters_by:List Str:=["part", "letters"]
theorem sc_letters_by:FnScope N_letters_by ["part"] (defScope s_letters_by):=⟨rfl,rfl,rfl,by decide +kernel,rfl,by decide +kernel,by decide +kernel⟩
abbrev s_states_with:Stmt:=top 15
abbrev N_states_with:List Str:=["items", "states", "given", "found", "state"]
theorem sc_states_with:FnScope N_states_with ["items", "states"] (defScope s_states_with):=⟨rfl,rfl,rfl,by decide +kernel,rfl,by decide +kernel,by decide +kernel⟩
abbrev s_states_by:Stmt:=top 16
abbrev N_states_by:List Str:=["items", "states", "letter", "going"]
theorem sc_states_by:FnScope N_states_by ["items", "states", "letter"] (defScope s_states_by):=⟨rfl,rfl,rfl,by decide +kernel,rfl,by decide +kernel,by decide +kernel⟩
abbrev s_marks_show:Stmt:=top 17
abbrev N_marks_show:List Str:=["tree", "pattern", "thing", "items"]
theorem sc_marks_show:FnScope N_marks_show ["tree", "pattern", "thing"] (defScope s_marks_show):=⟨rfl,rfl,rfl,by decide +kernel,rfl,by decide +kernel,by decide +kernel⟩
abbrev s_is_marks:Stmt:=top 18
abbrev N_is_marks:List Str:=["tree", "items", "thing", "place", "above"]
theorem sc_is_marks:FnScope N_is_marks ["tree", "items", "thing"] (defScope s_is_marks):=⟨rfl,rfl,rfl,by decide +kernel,rfl,by decide +kernel,by decide +kernel⟩
abbrev s_is_states:Stmt:=top 19
abbrev N_is_states:List Str:=["items", "thing"]
theorem sc_is_states:FnScope N_is_states ["items", "thing"] (defScope s_is_states):=⟨rfl,rfl,rfl,by decide +kernel,rfl,by decide +kernel,by decide +kernel⟩
abbrev s_is_never_done:Stmt:=top 20
abbrev N_is_never_done:List Str:=["tree", "items", "marks", "behind_root"]
theorem sc_is_never_done:FnScope N_is_never_done ["tree", "items", "marks"] (defScope s_is_never_done):=⟨rfl,rfl,rfl,by decide +kernel,rfl,by decide +kernel,by decide +kernel⟩
abbrev s_law_mixed:Stmt:=top 22
abbrev N_law_mixed:List Str:=["cell", "k", "primes", "one"]
theorem sc_law_mixed:FnScope N_law_mixed ["cell", "k"] (defScope s_law_mixed):=⟨rfl,rfl,rfl,by decide +kernel,rfl,by decide +kernel,by decide +kernel⟩
abbrev s_law_deck:Stmt:=top 23
abbrev N_law_deck:List Str:=["cell", "at"]
theorem sc_law_deck:FnScope N_law_deck ["cell", "at"] (defScope s_law_deck):=⟨rfl,rfl,rfl,by decide +kernel,rfl,by decide +kernel,by decide +kernel⟩
abbrev s_law_draw:Stmt:=top 24
abbrev N_law_draw:List Str:=["deck_here", "many", "drawn"]
theorem sc_law_draw:FnScope N_law_draw ["deck_here", "many"] (defScope s_law_draw):=⟨rfl,rfl,rfl,by decide +kernel,rfl,by decide +kernel,by decide +kernel⟩
abbrev s_law_some:Stmt:=top 25
abbrev N_law_some:List Str:=["deck_here", "things"]
theorem sc_law_some:FnScope N_law_some ["deck_here", "things"] (defScope s_law_some):=⟨rfl,rfl,rfl,by decide +kernel,rfl,by decide +kernel,by decide +kernel⟩
abbrev s_law_letter:Stmt:=top 26
abbrev N_law_letter:List Str:=["deck_here"]
theorem sc_law_letter:FnScope N_law_letter ["deck_here"] (defScope s_law_letter):=⟨rfl,rfl,rfl,by decide +kernel,rfl,by decide +kernel,by decide +kernel⟩
abbrev s_law_tree:Stmt:=top 27
abbrev N_law_tree:List Str:=["deck_here", "most", "many", "way", "own", "signs", "ups", "labels", "k", "road", "up", "at"]
theorem sc_law_tree:FnScope N_law_tree ["deck_here", "most"] (defScope s_law_tree):=⟨rfl,rfl,rfl,by decide +kernel,rfl,by decide +kernel,by decide +kernel⟩
abbrev s_law_words:Stmt:=top 28
abbrev N_law_words:List Str:=["tree_here", "found", "place", "above"]
theorem sc_law_words:FnScope N_law_words ["tree_here"] (defScope s_law_words):=⟨rfl,rfl,rfl,by decide +kernel,rfl,by decide +kernel,by decide +kernel⟩
abbrev s_law_items:Stmt:=top 29
abbrev N_law_items:List Str:=["deck_here", "word", "most", "every", "found", "k", "more", "here", "own", "inner", "wide", "ways", "letters", "text", "starred"]
theorem sc_law_items:FnScope N_law_items ["deck_here", "word", "most"] (defScope s_law_items):=⟨rfl,rfl,rfl,by decide +kernel,rfl,by decide +kernel,by decide +kernel⟩
abbrev s_law_written:Stmt:=top 30
abbrev N_law_written:List Str:=["items_here"]
theorem sc_law_written:FnScope N_law_written ["items_here"] (defScope s_law_written):=⟨rfl,rfl,rfl,by decide +kernel,rfl,by decide +kernel,by decide +kernel⟩
abbrev s_law_taken:Stmt:=top 31
abbrev N_law_taken:List Str:=["items_here", "word", "found", "text", "letters", "starred", "behind", "at", "good"]
theorem sc_law_taken:FnScope N_law_taken ["items_here", "word"] (defScope s_law_taken):=⟨rfl,rfl,rfl,by decide +kernel,rfl,by decide +kernel,by decide +kernel⟩
abbrev s_law_past:Stmt:=top 32
abbrev N_law_past:List Str:=["items_here", "states", "found", "state", "text", "letters", "starred"]
theorem sc_law_past:FnScope N_law_past ["items_here", "states"] (defScope s_law_past):=⟨rfl,rfl,rfl,by decide +kernel,rfl,by decide +kernel,by decide +kernel⟩
abbrev s_law_beyond:Stmt:=top 33
abbrev N_law_beyond:List Str:=["items_here", "states", "sign", "found", "state"]
theorem sc_law_beyond:FnScope N_law_beyond ["items_here", "states", "sign"] (defScope s_law_beyond):=⟨rfl,rfl,rfl,by decide +kernel,rfl,by decide +kernel,by decide +kernel⟩
abbrev s_law_least:Stmt:=top 34
abbrev N_law_least:List Str:=["tree_here", "items_here", "found", "place", "states", "here", "state"]
theorem sc_law_least:FnScope N_law_least ["tree_here", "items_here"] (defScope s_law_least):=⟨rfl,rfl,rfl,by decide +kernel,rfl,by decide +kernel,by decide +kernel⟩
abbrev s_law_is_states:Stmt:=top 35
abbrev N_law_is_states:List Str:=["items_here", "thing"]
theorem sc_law_is_states:FnScope N_law_is_states ["items_here", "thing"] (defScope s_law_is_states):=⟨rfl,rfl,rfl,by decide +kernel,rfl,by decide +kernel,by decide +kernel⟩
abbrev s_law_shown:Stmt:=top 36
abbrev N_law_shown:List Str:=["tree_here", "items_here", "thing", "place", "above", "further"]
theorem sc_law_shown:FnScope N_law_shown ["tree_here", "items_here", "thing"] (defScope s_law_shown):=⟨rfl,rfl,rfl,by decide +kernel,rfl,by decide +kernel,by decide +kernel⟩
abbrev s_law_bent:Stmt:=top 37
abbrev N_law_bent:List Str:=["deck_here", "marks", "many", "way", "at", "state", "own", "full", "ones", "changed", "things"]
theorem sc_law_bent:FnScope N_law_bent ["deck_here", "marks", "many"] (defScope s_law_bent):=⟨rfl,rfl,rfl,by decide +kernel,rfl,by decide +kernel,by decide +kernel⟩
abbrev s_law:Stmt:=top 38
abbrev N_law:List Str:=["script", "at", "cell", "deck_here", "places", "many", "tree_here", "words_here", "items_here", "none", "marks", "thing", "found", "due"]
theorem sc_law:FnScope N_law ["script"] (defScope s_law):=⟨rfl,rfl,rfl,by decide +kernel,rfl,by decide +kernel,by decide +kernel⟩
section
variable {P:Program} {w:World} {K:PySem.W.Frag} {mg:Str→Option Value} {base:Heap} {k:Nat}
def mk (l:List Nat):Str:=⟨l.toArray⟩
theorem mk_cps (l:List Nat):(mk l).cps.toList=l:=rfl
theorem mk_len (l:List Nat):(mk l).length=l.length:=by simp [mk,Str.length]
theorem str_ext {a b:Str} (h:a.cps.toList=b.cps.toList):a=b:=by
  obtain ⟨x⟩:=a;obtain ⟨y⟩:=b
  have:x=y:=Array.toList_inj.mp h
  rw [this]
theorem mk_app (c:Nat) (l:List Nat):(⟨#[c]⟩:Str)++mk l=mk (c :: l):=by
  apply str_ext
  rw [app_list]
  rfl
def TreeAt (H:Hp) (t:Addr) (ups:List Int) (lab:Str):Prop:=∃ u,H t=some (.tup [.ref u,.str lab])∧H u=some (.tup (ups.map V.int))∧TreeOk ups lab.cps.toList
theorem TreeAt.same {H H':Hp} {t:Addr} {ups:List Int} {lab:Str} (h:TreeAt H t ups lab) (s:Same H H'):TreeAt H' t ups lab:=by
  obtain ⟨u,a,b,c⟩:=h
  exact ⟨u,s _ _ a,s _ _ b,c⟩
def wordsV (ups:List Int) (lab:Str) (n:Nat):List V:=(List.range n).map fun j=>.str (mk (W ups lab.cps.toList j))
def sp_words:Sp:=fun vs H Q _=>∃ (t:Addr) (ups:List Int) (lab:Str),vs=[.ref t]∧TreeAt H t ups lab∧∀ (q:Addr) (H':Hp),Same H H'→H' q=some (.lst (wordsV ups lab ups.length))→Q (.ref q) H'
theorem ints_at {us:List Int} {i:Int} (h0:0≤i) (h1:i < (us.length:Int)):atI (us.map V.int) i=some (.int (us.getD i.toNat 0)):=by
  have hk:i.toNat < us.length:=by omega
  have e:=atI_nat (xs:=us.map V.int) (j:=i.toNat) (v:=.int (us.getD i.toNat 0)) (by rw [List.getElem?_map,List.getElem?_eq_getElem hk,List.getD_eq_getElem?_getD,List.getElem?_eq_getElem hk];rfl)
  rw [show ((i.toNat:Nat):Int)=i by omega] at e
  exact e
abbrev Lw (c:Nat):Prop:=97≤c∧c < 123
theorem abc_low:∀ c∈(Str.ofString "abcdefghijklmnopqrstuvwxyz").cps.toList,Lw c:=by decide +kernel
theorem alph_at {i:Int} (h0:0≤i) (h1:i < 26):∃ c,atI (Str.ofString "abcdefghijklmnopqrstuvwxyz").cps.toList i=some c∧Lw c:=by
  have hl:(Str.ofString "abcdefghijklmnopqrstuvwxyz").cps.toList.length=26:=by decide +kernel
  have hk:i.toNat < (Str.ofString "abcdefghijklmnopqrstuvwxyz").cps.toList.length:=by omega
  have e:=atI_nat (xs:=(Str.ofString "abcdefghijklmnopqrstuvwxyz").cps.toList) (j:=i.toNat) (List.getElem?_eq_getElem hk)
  rw [show ((i.toNat:Nat):Int)=i by omega] at e
  exact ⟨_,e,abc_low _ (List.getElem_mem hk)⟩
structure GrOk (us:List Int):Prop where
  pos:0 < us.length
  root:us.getD 0 0=-1
  up:∀ k,0 < k→k < us.length→0≤us.getD k 0∧us.getD k 0 < (k:Int)
theorem getD_app {us vs:List Int} {j:Nat}:(us++vs).getD j 0=if j < us.length then us.getD j 0 else vs.getD (j - us.length) 0:=by
  simp only [List.getD_eq_getElem?_getD]
  split
  · rename_i h;rw [List.getElem?_append_left h]
  · rename_i h;rw [List.getElem?_append_right (by omega)]
theorem GrOk.snoc {us:List Int} (g:GrOk us) {v:Int} (h0:0≤v) (h1:v < (us.length:Int)):GrOk (us++[v]) where
  pos:=by rw [List.length_append];have:=g.pos;omega
  root:=by rw [getD_app,if_pos g.pos];exact g.root
  up:=fun j hj hl=>by
    rw [List.length_append,List.length_singleton] at hl
    rw [getD_app]
    split
    · rename_i h;exact g.up j hj h
    · rename_i h
      have e:j=us.length:=by omega
      subst e
      rw [Nat.sub_self]
      exact ⟨h0,h1⟩
theorem GrOk.one:GrOk [-1]:=⟨by decide,rfl,fun j h0 h1=>by
  have:j < 1:=h1
  omega⟩
theorem mem_getD {us:List Int} {j:Nat} (h:j < us.length):us.getD j 0∈us:=by
  rw [List.getD_eq_getElem?_getD,List.getElem?_eq_getElem h]
  exact List.getElem_mem h
theorem TreeAt.kd {H H':Hp} {p t:Addr} {c d:Int} {ups:List Int} {lab:Str} (h:TreeAt H t ups lab) (hp:Deck H p c) (s:Kd p d H H'):TreeAt H' t ups lab:=by
  obtain ⟨u,a,b,e⟩:=h
  exact ⟨u,s.keep _ _ (ne_deck hp a (fun _ _ _ z=>nomatch z)) a,s.keep _ _ (ne_deck hp b (fun _ _ _ z=>nomatch z)) b,e⟩
theorem menu7 {n:Int} (h0:0≤n) (h1:n < 7):∃ v:Int,atI [V.int 2147483629,.int 2147483587,.int 2147483579,.int 2147483563,.int 2147483549,.int 2147483543,.int 2147483497] n=some (.int v)∧0 < v∧v≤2147483629:=by
  have:n=0∨n=1∨n=2∨n=3∨n=4∨n=5∨n=6:=by omega
  rcases this with rfl | rfl | rfl | rfl | rfl | rfl | rfl <;> exact ⟨_,rfl,by decide,by decide⟩
def sp_mixed:Sp:=fun vs H Q _=>∃ cell j:Int,vs=[.int cell,.int j]∧0≤j∧j≤10000000∧∀ (n:Int) (H':Hp),Same H H'→Q (.int n) H'
theorem has_mixed (D:Df K mg "_law_mixed" s_law_mixed) (B:Blt mg):Has P w K mg base "_law_mixed" (k+1) ["cell", "k"] sp_mixed:=by
  refine D.has sc_law_mixed (fun _ _ _ _ _ _ us hl=>match us,hl with | [_,_],_=>rfl) (fun vs H Q E h=>by obtain ⟨a,i,rfl,_⟩:=h;rfl) (fun f cdv A outer s H vs Q E hr h=>?_)
  obtain ⟨cell,j,rfl,j0,j1,q⟩:=h
  refine ⟨_,(pss_cons (ps_set (i:=2) sc_law_mixed.nd rfl (by first | exact Or.inl rfl | exact Or.inr rfl) (pe_lst (pa_cons pe_int (pa_cons pe_int (pa_cons pe_int (pa_cons pe_int (pa_cons pe_int (pa_cons pe_int (pa_cons pe_int pa_nil)))))))))
  (pss_cons (ps_set (i:=3) sc_law_mixed.nd rfl (by first | exact Or.inl rfl | exact Or.inr rfl) (pe_op op_mod (pe_op op_add (pe_op op_add (pe_op op_mul (pe_op op_mod (pv 0) pe_int) (pe_op op_add (pe_op op_mul pe_int (pv 1)) pe_int)) (pe_op op_mul pe_int (pv 1))) pe_int) (pe_ix ix_list (pv 2) (pe_op op_mod (pv 1) pe_int) (fun _ _=>rfl))))
  (pss_cons (ps_set (i:=3) sc_law_mixed.nd rfl (by first | exact Or.inl rfl | exact Or.inr rfl) (pe_op op_mod (pe_op op_mul (pv 3) (pv 3)) (pe_ix ix_list (pv 2) (pe_op op_mod (pe_op op_add (pv 1) pe_int) pe_int) (fun _ _=>rfl))))
  (pss_cons (ps_set (i:=3) sc_law_mixed.nd rfl (by first | exact Or.inl rfl | exact Or.inr rfl) (pe_op op_mod (pe_op op_pow (pe_op op_add (pe_op op_add (pe_op op_mul (pv 3) pe_int) (pe_op op_mul pe_int (pv 1))) pe_int) pe_int) (pe_ix ix_list (pv 2) (pe_op op_mod (pe_op op_add (pv 1) pe_int) pe_int) (fun _ _=>rfl))))
  (pss_one (ps_ret (pe_op op_fdiv (pv 3) pe_int))))))),?_⟩
  refine ⟨(by show 7≤sizeLine;decide),fun r hr0=>?_⟩
  have hp:upd H r (.lst [V.int 2147483629,.int 2147483587,.int 2147483579,.int 2147483563,.int 2147483549,.int 2147483543,.int 2147483497]) r=_:=upd_same
  have s0:Same H (upd H r (.lst [V.int 2147483629,.int 2147483587,.int 2147483579,.int 2147483563,.int 2147483549,.int 2147483543,.int 2147483497])):=(Same.refl H).new hr0
  generalize upd H r (.lst [V.int 2147483629,.int 2147483587,.int 2147483579,.int 2147483563,.int 2147483549,.int 2147483543,.int 2147483497])=H1 at hp s0
  have m0:0≤cell % 2147483647:=Int.emod_nonneg _ (by decide)
  have m1:cell % 2147483647 < 2147483647:=Int.emod_lt_of_pos _ (by decide)
  obtain ⟨v1,hv1,a0,a1⟩:=menu7 (n:=j % 7) (Int.emod_nonneg _ (by decide)) (Int.emod_lt_of_pos _ (by decide))
  refine ⟨_,rfl,_,_,rfl,rfl,(by decide:(0:Int) < 2147483647),_,rfl,_,_,rfl,rfl,.inl ⟨by decide,by decide⟩,_,_,rfl,rfl,_,_,rfl,rfl,.inl ⟨by omega,by omega⟩,_,rfl,_,_,rfl,rfl,.inl ⟨by decide,by decide⟩,_,_,rfl,rfl,_,_,rfl,rfl,
    _,rfl,_,rfl,_,_,rfl,rfl,(by decide:(0:Int) < 7),r,_,_,_,rfl,rfl,SqL.of hp,hv1,_,_,rfl,rfl,a0,?_⟩
  have b0:=Int.emod_nonneg (cell % 2147483647 * (2 * j+3)+104729 * j+977) (show v1≠0 by omega)
  have b1:=Int.emod_lt_of_pos (cell % 2147483647 * (2 * j+3)+104729 * j+977) a0
  obtain ⟨v2,hv2,c0,c1⟩:=menu7 (n:=(j+3) % 7) (Int.emod_nonneg _ (by decide)) (Int.emod_lt_of_pos _ (by decide))
  refine ⟨_,rfl,_,rfl,_,_,rfl,rfl,.inl ⟨by omega,by omega⟩,_,rfl,_,rfl,_,_,rfl,rfl,_,_,rfl,rfl,(by decide:(0:Int) < 7),r,_,_,_,rfl,rfl,SqL.of hp,hv2,_,_,rfl,rfl,c0,?_⟩
  have d0:=Int.emod_nonneg ((cell % 2147483647 * (2 * j+3)+104729 * j+977) % v1 * ((cell % 2147483647 * (2 * j+3)+104729 * j+977) % v1)) (show v2≠0 by omega)
  have d1:=Int.emod_lt_of_pos ((cell % 2147483647 * (2 * j+3)+104729 * j+977) % v1 * ((cell % 2147483647 * (2 * j+3)+104729 * j+977) % v1)) c0
  obtain ⟨v3,hv3,e0,e1⟩:=menu7 (n:=(j+5) % 7) (Int.emod_nonneg _ (by decide)) (Int.emod_lt_of_pos _ (by decide))
  refine ⟨_,rfl,_,_,rfl,rfl,.inr ⟨by decide,by decide⟩,_,rfl,_,_,rfl,rfl,.inl ⟨by decide,by decide⟩,_,_,rfl,rfl,_,_,rfl,rfl,_,_,rfl,rfl,⟨by decide,by decide,by omega⟩,_,rfl,_,rfl,_,_,rfl,rfl,_,_,rfl,rfl,(by decide:(0:Int) < 7),r,_,_,_,rfl,rfl,SqL.of hp,hv3,_,_,rfl,rfl,e0,?_⟩
  exact ⟨_,rfl,_,_,rfl,rfl,⟨by decide,by decide⟩,q _ _ s0⟩
def sp_deck:Sp:=fun vs H Q _=>∃ cell i:Int,vs=[.int cell,.int i]∧∀ (p:Addr) (x y:Int),H p=none→Q (.ref p) (upd H p (.lst [.int x,.int y,.int (40 * i)]))
theorem has_deck (D:Df K mg "_law_deck" s_law_deck) (B:Blt mg):Has P w K mg base "_law_deck" (k+1) ["cell", "at"] sp_deck:=by
  refine D.has sc_law_deck (fun _ _ _ _ _ _ us hl=>match us,hl with | [_,_],_=>rfl) (fun vs H Q E h=>by obtain ⟨a,i,rfl,_⟩:=h;rfl) (fun f cdv A outer s H vs Q E hr h=>?_)
  obtain ⟨cell,i,rfl,q⟩:=h
  refine ⟨_,(pss_one (ps_ret (pe_lst (pa_cons (pe_op op_mul (pv 0) (pe_callTy call_int1 rfl B.int_ bt_int (pa_cons (pe_cmpR op_ge (pv 0) (pe_op op_pow pe_int pe_int) (nomark _)) pa_nil))) (pa_cons (pv 0) (pa_cons (pe_op op_mul pe_int (pv 1)) pa_nil)))))),?_⟩
  refine ⟨_,rfl,_,rfl,_,_,rfl,rfl,⟨by decide,by decide,by decide⟩,_,_,rfl,rfl,.inr ⟨_,rfl,?_⟩⟩
  refine ⟨_,_,rfl,rfl,.inr ⟨?_,?_⟩,_,rfl,_,rfl,_,_,rfl,rfl,.inl ⟨by decide,by decide⟩,(by show 3≤sizeLine;decide),fun p hp=>q p _ _ hp⟩
  · split <;> decide
  · split <;> decide
def sp_draw:Sp:=fun vs H Q _=>∃ (p:Addr) (m c:Int),vs=[.ref p,.int m]∧Deck H p c∧c < 1000000∧0 < m∧m < 1073741824∧∀ (n:Int) (H':Hp),0≤n→n < m→Kd p (c+1) H H'→Q (.int n) H'
theorem has_draw (D:Df K mg "_law_draw" s_law_draw) (B:Blt mg) (G_law_mixed:Has P w K mg base "_law_mixed" k ["cell", "k"] sp_mixed):Has P w K mg base "_law_draw" (k+1) ["deck_here", "many"] sp_draw:=by
  refine D.has sc_law_draw (fun _ _ _ _ _ _ us hl=>match us,hl with | [_,_],_=>rfl) (fun vs H Q E h=>by obtain ⟨a,i,c,rfl,_⟩:=h;rfl) (fun f cdv A outer s H vs Q E hr h=>?_)
  obtain ⟨p,m,c,rfl,⟨x,y,z,hp,z0,z1⟩,c6,m0,m1,q⟩:=h
  refine ⟨_,(pss_cons (ps_if (pt_cmpR op_gt (pe_ix ix_list (pv 0) pe_int (fun _ _=>rfl)) pe_int (nomark _))
  (pss_cons (ps_set (i:=2) sc_law_draw.nd rfl (by first | exact Or.inl rfl | exact Or.inr rfl) (pe_op op_mod (pe_ix ix_list (pv 0) pe_int (fun _ _=>rfl)) (pv 1)))
  (pss_cons (ps_asg (pe_op op_fdiv (pe_ix ix_list (pv 0) pe_int (fun _ _=>rfl)) (pv 1)) (pg_sub (pv 0) pe_int set_list))
  (pss_one (ps_ret (pv 2)))))
  pss_nil)
  (pss_cons (ps_asg (pe_op op_add (pe_ix ix_list (pv 0) pe_int (fun _ _=>rfl)) pe_int) (pg_sub (pv 0) pe_int set_list))
  (pss_one (ps_ret (pe_op op_mod (pe_callH G_law_mixed hr rfl (pa_cons (pe_ix ix_list (pv 0) pe_int (fun _ _=>rfl)) (pa_cons (pe_ix ix_list (pv 0) pe_int (fun _ _=>rfl)) pa_nil))) (pv 1)))))),?_⟩
  refine ⟨_,rfl,p,_,_,_,rfl,rfl,SqL.of hp,rfl,_,_,rfl,rfl,_,rfl,ite2 (fun cnd=>?_) (fun cnd=>?_)⟩
  · refine ⟨_,rfl,p,_,_,_,rfl,rfl,SqL.of hp,rfl,_,rfl,_,_,rfl,rfl,m0,?_⟩
    refine ⟨_,rfl,p,_,_,_,rfl,rfl,SqL.of hp,rfl,_,rfl,_,_,rfl,rfl,⟨m0,m1⟩,?_⟩
    refine ⟨_,rfl,p,_,_,0,rfl,rfl,hp,rfl,_,rfl,?_⟩
    exact q _ _ (Int.emod_nonneg _ (by omega)) (Int.emod_lt_of_pos _ m0) ⟨⟨_,y,z,upd_same,z0,by omega⟩,fun b o hb e=>by rw [upd_ne hb];exact e⟩
  · refine ⟨_,rfl,p,_,_,_,rfl,rfl,SqL.of hp,rfl,_,_,rfl,rfl,?_⟩
    refine ⟨_,rfl,p,_,_,2,rfl,rfl,hp,rfl,?_⟩
    have hp':upd H p (.lst [.int x,.int y,.int (z+1)]) p=some (.lst [.int x,.int y,.int (z+1)]):=upd_same
    have kd:Kd p (c+1) H (upd H p (.lst [.int x,.int y,.int (z+1)])):=⟨⟨x,y,z+1,upd_same,by omega,by omega⟩,fun b o hb e=>by rw [upd_ne hb];exact e⟩
    refine ⟨_,rfl,p,_,_,_,rfl,rfl,SqL.of hp',rfl,_,rfl,p,_,_,_,rfl,rfl,SqL.of hp',rfl,_,_,rfl,by omega,by omega,fun n H' s1=>?_⟩
    refine ⟨_,rfl,_,_,rfl,rfl,m0,?_⟩
    exact q _ _ (Int.emod_nonneg _ (by omega)) (Int.emod_lt_of_pos _ m0) (kd.same s1)
def sp_some:Sp:=fun vs H Q _=>∃ (p:Addr) (c:Int),Deck H p c∧c < 1000000 ∧
  ((∃ (q:Addr) (xs:List V),vs=[.ref p,.ref q]∧H q=some (.lst xs)∧q≠p∧0 < xs.length∧xs.length≤1000∧∀ (v:V) (H':Hp),v∈xs→Kd p (c+1) H H'→Q v H') ∨
   (∃ z:Str,vs=[.ref p,.str z]∧0 < z.length∧z.length≤1000∧∀ (ch:Nat) (H':Hp),ch∈z.cps.toList→Kd p (c+1) H H'→Q (.str ⟨#[ch]⟩) H'))
theorem has_some (D:Df K mg "_law_some" s_law_some) (B:Blt mg) (G_law_draw:Has P w K mg base "_law_draw" k ["deck_here", "many"] sp_draw):Has P w K mg base "_law_some" (k+1) ["deck_here", "things"] sp_some:=by
  refine D.has sc_law_some (fun _ _ _ _ _ _ us hl=>match us,hl with | [_,_],_=>rfl) (fun vs H Q E h=>by obtain ⟨p,c,_,_,⟨q,xs,rfl,_⟩ | ⟨z,rfl,_⟩⟩:=h <;> rfl) (fun f cdv A outer s H vs Q E hr h=>?_)
  obtain ⟨p,c,hd,c6,⟨r,xs,rfl,hr0,hne,x0,x1,q⟩ | ⟨z,rfl,z0,z1,q⟩⟩:=h
  · refine ⟨_,(pss_one (ps_ret (pe_ix ix_seq (pv 1) (pe_callH G_law_draw hr rfl (pa_cons (pv 0) (pa_cons (pe_callB call_len rfl B.len bt_len (pa_cons (pv 1) pa_nil)) pa_nil))) (fun _ _=>rfl)))),?_⟩
    refine ⟨_,rfl,_,rfl,_,rfl,_,_,rfl,.inl ⟨_,SqL.of hr0,rfl⟩,p,_,c,rfl,hd,c6,by omega,by omega,fun n H' n0 n1 kd=>?_⟩
    have hk:n.toNat < xs.length:=by omega
    have e:=atI_nat (xs:=xs) (j:=n.toNat) (List.getElem?_eq_getElem hk)
    rw [show ((n.toNat:Nat):Int)=n by omega] at e
    exact .inl ⟨r,_,_,_,rfl,rfl,SqL.of (kd.keep _ _ hne hr0),e,q _ _ (List.getElem_mem hk) kd⟩
  · refine ⟨_,(pss_one (ps_ret (pe_ix ix_seq (pv 1) (pe_callH G_law_draw hr rfl (pa_cons (pv 0) (pa_cons (pe_callB call_len rfl B.len bt_len (pa_cons (pv 1) pa_nil)) pa_nil))) (fun _ _=>rfl)))),?_⟩
    refine ⟨_,rfl,_,rfl,_,rfl,_,_,rfl,⟨Nat.le_of_lt (small1000 z1),rfl⟩,p,_,c,rfl,hd,c6,by omega,by omega,fun n H' n0 n1 kd=>?_⟩
    have hzl:z.length=z.cps.toList.length:=by simp [Str.length]
    have hk:n.toNat < z.cps.toList.length:=by omega
    have e:=atI_nat (xs:=z.cps.toList) (j:=n.toNat) (List.getElem?_eq_getElem hk)
    rw [show ((n.toNat:Nat):Int)=n by omega] at e
    exact .inr (.inr ⟨_,_,_,rfl,rfl,Nat.le_of_lt (small1000 z1),e,q _ _ (List.getElem_mem hk) kd⟩)
def sp_letter:Sp:=fun vs H Q _=>∃ (p:Addr) (c:Int),vs=[.ref p]∧Deck H p c∧c < 1000000∧∀ (ch:Nat) (H':Hp),Lw ch→Kd p (c+1) H H'→Q (.str ⟨#[ch]⟩) H'
theorem has_letter (D:Df K mg "_law_letter" s_law_letter) (B:Blt mg) (G_law_draw:Has P w K mg base "_law_draw" k ["deck_here", "many"] sp_draw):Has P w K mg base "_law_letter" (k+1) ["deck_here"] sp_letter:=by
  refine D.has sc_law_letter (fun _ _ _ _ _ _ us hl=>match us,hl with | [_],_=>rfl) (fun vs H Q E h=>by obtain ⟨p,c,rfl,_⟩:=h;rfl) (fun f cdv A outer s H vs Q E hr h=>?_)
  obtain ⟨p,c,rfl,hd,c6,q⟩:=h
  refine ⟨_,(pss_one (ps_ret (pe_ix ix_str pe_str (pe_callH G_law_draw hr rfl (pa_cons (pv 0) (pa_cons pe_int pa_nil))) (fun _ _=>rfl)))),?_⟩
  refine ⟨_,rfl,p,26,c,rfl,hd,c6,by decide,by decide,fun n H' n0 n1 kd=>?_⟩
  obtain ⟨ch,hc,lw⟩:=alph_at n0 n1
  refine ⟨_,_,_,rfl,rfl,?_,hc,q _ _ lw kd⟩
  show (Str.ofString "abcdefghijklmnopqrstuvwxyz").length≤sizeLine
  have:(Str.ofString "abcdefghijklmnopqrstuvwxyz").length=26:=by decide +kernel
  rw [this];decide
end
end S67
namespace S67
open PySem L2 W7
section
variable {P:Program} {w:World} {K:PySem.W.Frag} {mg:Str→Option Value} {base:Heap} {k:Nat}
theorem lst_strs_ne {xs:List V} (h:∀ v∈xs,∃ z,v=.str z) (h0:0 < xs.length):∀ x y z:Int,HO.lst xs≠.lst [.int x,.int y,.int z]:=by
  intro x y z e
  injection e with e
  subst e
  obtain ⟨z,hz⟩:=h (.int x) (by simp)
  cases hz
theorem foldl_memN (xs:Array Nat) (P:Nat→Prop) (h:∀ a∈xs.toList,P a):∀ (n:Nat) (acc:Array Nat),(∀ a∈acc.toList,P a)→∀ a∈((List.replicate n xs).foldl (·++·) acc).toList,P a
  | 0,acc,g=>g
  | n+1,acc,g=>by
    rw [List.replicate_succ,List.foldl_cons]
    refine foldl_memN xs P h n _ fun a ha=>?_
    rw [Array.toList_append] at ha
    exact (List.mem_append.mp ha).elim (g a) (h a)
theorem mul_low {ch:Nat} (h:Lw ch) (n:Int):∀ a∈(Txt.mul ⟨#[ch]⟩ n).cps.toList,Lw a:=by
  have one:∀ a∈(#[ch]:Array Nat).toList,Lw a:=fun a ha=>by rw [show a=ch by simpa using ha];exact h
  unfold Txt.mul
  split
  · exact fun a ha=>by cases ha
  · split
    · exact one
    · exact foldl_memN _ _ one _ _ fun a ha=>by cases ha
def sp_tree:Sp:=fun vs H Q _=>∃ (p:Addr) (most c:Int),vs=[.ref p,.int most]∧Deck H p c∧0≤c∧c < 900000∧1≤most∧most≤60∧∀ (t:Addr) (ups:List Int) (lab:Str) (H':Hp),Kd p (c+250) H H'→TreeAt H' t ups lab→(∀ x∈lab.cps.toList,Lw x)→Q (.ref t) H'
theorem has_tree (D:Df K mg "_law_tree" s_law_tree) (B:Blt mg) (G_law_draw:Has P w K mg base "_law_draw" k ["deck_here", "many"] sp_draw) (G_law_some:Has P w K mg base "_law_some" k ["deck_here", "things"] sp_some)
    (G_law_letter:Has P w K mg base "_law_letter" k ["deck_here"] sp_letter):Has P w K mg base "_law_tree" (k+1) ["deck_here", "most"] sp_tree:=by
  refine D.has sc_law_tree (fun _ _ _ _ _ _ us hl=>match us,hl with | [_,_],_=>rfl) (fun vs H Q E h=>by obtain ⟨p,m,c,rfl,_⟩:=h;rfl) (fun f cdv A outer s H vs Q E hr h=>?_)
  obtain ⟨p,most,c,rfl,hd,cc0,cc1,ms1,ms60,q⟩:=h
  refine ⟨_,(pss_cons (ps_set (i:=2) sc_law_tree.nd rfl (by first | exact Or.inl rfl | exact Or.inr rfl) (pe_callH G_law_some hr rfl (pa_cons (pv 0) (pa_cons (pe_lst (pa_cons (pe_op op_add pe_int (pe_callH G_law_draw hr rfl (pa_cons (pv 0) (pa_cons (pv 1) pa_nil)))) (pa_cons (pe_op op_add pe_int (pe_callH G_law_draw hr rfl (pa_cons (pv 0) (pa_cons (pe_callB (call_min2 rfl) rfl B.min bt_min (pa_cons (pv 1) (pa_cons pe_int pa_nil))) pa_nil)))) (pa_cons (pv 1) pa_nil)))) pa_nil))))
  (pss_cons (ps_set (i:=3) sc_law_tree.nd rfl (by first | exact Or.inl rfl | exact Or.inr rfl) (pe_callH G_law_draw hr rfl (pa_cons (pv 0) (pa_cons pe_int pa_nil))))
  (pss_cons (ps_set (i:=4) sc_law_tree.nd rfl (by first | exact Or.inl rfl | exact Or.inr rfl) (pe_callH G_law_letter hr rfl (pa_cons (pv 0) pa_nil)))
  (pss_cons (ps_set (i:=5) sc_law_tree.nd rfl (by first | exact Or.inl rfl | exact Or.inr rfl) (pe_callH G_law_some hr rfl (pa_cons (pv 0) (pa_cons (pe_lst (pa_cons (pv 4) (pa_cons (pe_op op_add_str pe_str (pv 4)) (pa_cons pe_str (pa_cons (pe_op op_add_str pe_str (pv 4)) (pa_cons pe_str pa_nil)))))) pa_nil))))
  (pss_cons (ps_set (i:=6) sc_law_tree.nd rfl (by first | exact Or.inl rfl | exact Or.inr rfl) (pe_lst (pa_cons (pe_un un_neg pe_int) pa_nil)))
  (pss_cons (ps_set (i:=7) sc_law_tree.nd rfl (by first | exact Or.inl rfl | exact Or.inr rfl) (pe_callH G_law_some hr rfl (pa_cons (pv 0) (pa_cons (pv 5) pa_nil))))
  (pss_cons (ps_for PassesOwn.never rfl (pi_range2 rfl B.range (pa_cons pe_int (pa_cons (pv 2) pa_nil))) (pg_name (i:=8) sc_law_tree.nd rfl (by first | exact Or.inl rfl | exact Or.inr rfl))
  (pss_cons (ps_set (i:=9) sc_law_tree.nd rfl (by first | exact Or.inl rfl | exact Or.inr rfl) (pe_lst (pa_cons (pe_op op_sub (pv 8) pe_int) pa_nil)))
  (pss_cons (ps_while PassesOwn.never (pt_cmpR op_ge (pe_ix ix_list (pv 6) (pe_ix ix_list (pv 9) (pe_un un_neg pe_int) (fun _ _=>rfl)) (fun _ _=>rfl)) pe_int (nomark _))
  (pss_one (ps_expr (pe_bm PySem.F.plainAttrs_list PySem.F.slot_list_append PySem.F.type_list_append mt_append (pv 9) (pa_cons (pe_ix ix_list (pv 6) (pe_ix ix_list (pv 9) (pe_un un_neg pe_int) (fun _ _=>rfl)) (fun _ _=>rfl)) pa_nil)))))
  (pss_cons (ps_set (i:=10) sc_law_tree.nd rfl (by first | exact Or.inl rfl | exact Or.inr rfl) (pe_ix ix_list (pe_lst (pa_cons pe_int (pa_cons (pe_op op_sub (pe_callB call_len_seq rfl B.len bt_len (pa_cons (pv 9) pa_nil)) pe_int) (pa_cons (pe_op op_mod (pv 8) pe_int) (pa_cons (pe_callH G_law_draw hr rfl (pa_cons (pv 0) (pa_cons (pe_callB call_len_seq rfl B.len bt_len (pa_cons (pv 9) pa_nil)) pa_nil))) (pa_cons (pe_callB (call_min2 rfl) rfl B.min bt_min (pa_cons (pe_op op_sub (pe_callB call_len_seq rfl B.len bt_len (pa_cons (pv 9) pa_nil)) pe_int) (pa_cons (pe_callH G_law_draw hr rfl (pa_cons (pv 0) (pa_cons pe_int pa_nil))) pa_nil))) (pa_cons (pe_op op_sub (pe_op op_sub (pe_callB call_len_seq rfl B.len bt_len (pa_cons (pv 9) pa_nil)) pe_int) (pe_callB (call_min2 rfl) rfl B.min bt_min (pa_cons (pe_op op_sub (pe_callB call_len_seq rfl B.len bt_len (pa_cons (pv 9) pa_nil)) pe_int) (pa_cons (pe_callH G_law_draw hr rfl (pa_cons (pv 0) (pa_cons pe_int pa_nil))) pa_nil)))) pa_nil))))))) (pv 3) (fun _ _=>rfl)))
  (pss_cons (ps_expr (pe_bm PySem.F.plainAttrs_list PySem.F.slot_list_append PySem.F.type_list_append mt_append (pv 6) (pa_cons (pe_ix ix_list (pv 9) (pe_callB (call_min2 rfl) rfl B.min bt_min (pa_cons (pv 10) (pa_cons (pe_op op_sub (pe_callB call_len_seq rfl B.len bt_len (pa_cons (pv 9) pa_nil)) pe_int) pa_nil))) (fun _ _=>rfl)) pa_nil)))
  (pss_one (ps_set (i:=7) sc_law_tree.nd rfl (by first | exact Or.inl rfl | exact Or.inr rfl) (pe_op op_add_str (pv 7) (pe_callH G_law_some hr rfl (pa_cons (pv 0) (pa_cons (pv 5) pa_nil)))))))))))
  (pss_cons (ps_if (pt_cmpR op_eq (pe_callH G_law_draw hr rfl (pa_cons (pv 0) (pa_cons pe_int pa_nil))) pe_int (nomark _))
  (pss_cons (ps_set (i:=11) sc_law_tree.nd rfl (by first | exact Or.inl rfl | exact Or.inr rfl) (pe_callH G_law_draw hr rfl (pa_cons (pv 0) (pa_cons (pv 2) pa_nil))))
  (pss_one (ps_set (i:=7) sc_law_tree.nd rfl (by first | exact Or.inl rfl | exact Or.inr rfl) (pe_op op_add_str (pe_op op_add_str (pe_op op_mul_str (pv 4) (pv 11)) (pe_callH G_law_letter hr rfl (pa_cons (pv 0) pa_nil))) (pe_op op_mul_str (pv 4) (pe_op op_sub (pe_op op_sub (pv 2) (pv 11)) pe_int))))))
  pss_nil)
  (pss_one (ps_ret (pe_tup (pa_cons (pe_callTy call_tuple_of rfl B.tuple_ bt_tuple (pa_cons (pv 6) pa_nil)) (pa_cons (pv 7) pa_nil))))))))))))),?_⟩
  refine ⟨_,rfl,_,rfl,_,rfl,p,most,c,rfl,hd,by omega,by omega,by omega,fun n1 H1 a0 a1 kd1=>?_⟩
  refine ⟨_,_,rfl,rfl,_,rfl,_,rfl,_,_,rfl,p,_,c+1,rfl,kd1.deck,by omega,?_,?_,fun n2 H2 b0 b1 kd2=>?_⟩
  · split <;> omega
  · split <;> omega
  have b2:n2 < 8:=by
    revert b1;split <;> omega
  refine ⟨_,_,rfl,rfl,_,rfl,(by show 3≤sizeLine;decide),fun r hr0=>?_⟩
  have kq2:=((kd1.trans kd2).new (o:=.lst [.int (1+n1),.int (1+n2),.int most]) hr0)
  refine ⟨p,_,kq2.deck,by omega,.inl ⟨r,_,rfl,upd_same,kd2.deck.ne hr0,(by show 0 < 3;decide),(by show 3≤1000;decide),fun v H3 hv kd3=>?_⟩⟩
  obtain ⟨many,rfl,mn1,mn60⟩:∃ m:Int,v=.int m∧1≤m∧m≤60:=by
    simp only [List.mem_cons,List.not_mem_nil,or_false] at hv
    rcases hv with rfl | rfl | rfl
    · exact ⟨_,rfl,by omega,by omega⟩
    · exact ⟨_,rfl,by omega,by omega⟩
    · exact ⟨_,rfl,by omega,by omega⟩
  have ku3:=kq2.trans kd3
  refine ⟨_,rfl,p,6,_,rfl,ku3.deck,by omega,by decide,by decide,fun way H4 c0 c1 kd4=>?_⟩
  have ku4:=ku3.trans kd4
  refine ⟨_,rfl,p,_,rfl,ku4.deck,by omega,fun ch H5 lch kd5=>?_⟩
  have ku5:=ku4.trans kd5
  have own1:(⟨#[ch]⟩:Str).length=1:=rfl
  have l1:(Str.ofString "a").length=1:=by decide +kernel
  have l2:(Str.ofString "ab").length=2:=by decide +kernel
  have l3:(Str.ofString "aab").length=3:=by decide +kernel
  have l4:(Str.ofString "abcdefghijklmnopqrstuvwxyz").length=26:=by decide +kernel
  have la:∀ x y:Str,(x++y).length=x.length+y.length:=fun x y=>by
    have:=congrArg List.length (app_list x y)
    rw [List.length_append] at this
    simpa [Str.length] using this
  refine ⟨_,rfl,_,rfl,_,rfl,_,_,rfl,rfl,by rw [l1,own1];decide,_,rfl,_,_,rfl,rfl,by rw [l3,own1];decide,(by show 5≤sizeLine;decide),fun r5 hr5=>?_⟩
  have kq5:=ku5.new (o:=.lst [.str ⟨#[ch]⟩,.str (Str.ofString "a" ++ ⟨#[ch]⟩),.str (Str.ofString "ab"),.str (Str.ofString "aab" ++ ⟨#[ch]⟩),.str (Str.ofString "abcdefghijklmnopqrstuvwxyz")]) hr5
  refine ⟨p,_,kq5.deck,by omega,.inl ⟨r5,_,rfl,upd_same,ku5.deck.ne hr5,(by show 0 < 5;decide),(by show 5≤1000;decide),fun v H6 hv kd6=>?_⟩⟩
  have lap:∀ x y:Str,(∀ a∈x.cps.toList,Lw a)→(∀ a∈y.cps.toList,Lw a)→∀ a∈(x++y).cps.toList,Lw a:=fun x y h1 h2 a ha=>by
    rw [app_list] at ha
    rcases List.mem_append.mp ha with ha | ha
    · exact h1 a ha
    · exact h2 a ha
  have lo1:∀ a∈(⟨#[ch]⟩:Str).cps.toList,Lw a:=fun a ha=>by rw [show a=ch by simpa using ha];exact lch
  have lo2:∀ a∈(Str.ofString "a").cps.toList,Lw a:=by decide +kernel
  have lo3:∀ a∈(Str.ofString "ab").cps.toList,Lw a:=by decide +kernel
  have lo4:∀ a∈(Str.ofString "aab").cps.toList,Lw a:=by decide +kernel
  obtain ⟨z,rfl,z0,z1,zlo⟩:∃ z:Str,v=.str z∧0 < z.length∧z.length≤1000∧∀ a∈z.cps.toList,Lw a:=by
    simp only [List.mem_cons,List.not_mem_nil,or_false] at hv
    rcases hv with rfl | rfl | rfl | rfl | rfl
    · exact ⟨_,rfl,by omega,by omega,lo1⟩
    · exact ⟨_,rfl,by rw [la];omega,by rw [la];omega,lap _ _ lo2 lo1⟩
    · exact ⟨_,rfl,by omega,by omega,lo3⟩
    · exact ⟨_,rfl,by rw [la];omega,by rw [la];omega,lap _ _ lo4 lo1⟩
    · exact ⟨_,rfl,by omega,by omega,abc_low⟩
  have ku6:=kq5.trans kd6
  refine ⟨_,rfl,(by show 1≤sizeLine;decide),fun u hu0=>?_⟩
  have kq6:=ku6.new (o:=.lst [.int (-1)]) hu0
  have hup:u≠p:=ku6.deck.ne hu0
  have hHu:H u=none:=ku6.fresh hu0
  refine ⟨_,rfl,_,rfl,p,_,kq6.deck,by omega,.inr ⟨z,rfl,z0,z1,fun ch7 H7 lm7 kd7=>?_⟩⟩
  have ku7:=(kq6.trans kd7).mono (show c+1+1+1+1+1+1+1≤c+7 by omega)
  have hu7:H7 u=some (.lst [.int (-1)]):=kd7.keep _ _ hup upd_same
  refine ⟨_,rfl,1,many,rfl,⟨by decide,by decide,by omega,by omega⟩,?_⟩
  refine for_range (lo:=1) (n:=(many - 1).toNat) (fun i σ H'=>∃ (us:List Int) (ls:List Nat) (tx:Str) (o8 o9 o10:Option V),
      σ=[some (.ref p),some (.int most),some (.int many),some (.int way),some (.str ⟨#[ch]⟩),some (.str z),some (.ref u),some (.str tx),o8,o9,o10,none]∧tx=mk ls∧Kd p (c+7+4 * i) H H'∧H' u=some (.lst (us.map V.int)) ∧
      us.length=i+1∧ls.length=i+1∧GrOk us∧∀ a∈ls,Lw a)
    ⟨[-1],[ch7],_,none,none,none,rfl,rfl,ku7.mono (by omega),hu7,rfl,rfl,GrOk.one,fun a ha=>by rw [List.mem_singleton.mp ha];exact zlo _ lm7⟩ ?_ ?_
  · rintro i σ H' hi ⟨us,ls,tx,o8,o9,o10,rfl,rfl,kd,hu,hlen,hls,gr,lls⟩
    have hul:(us.map V.int).length=us.length:=List.length_map _
    refine ⟨_,rfl,_,_,rfl,rfl,(by show 1≤sizeLine;decide),fun r1 hr1=>?_⟩
    have ur1:u≠r1:=ne_of_none hu hr1
    have rp1:r1≠p:=kd.deck.ne hr1
    refine ⟨fun m σ H''=>∃ (rs:List Int) (last:Int),σ=[some (.ref p),some (.int most),some (.int many),some (.int way),some (.str ⟨#[ch]⟩),some (.str z),some (.ref u),some (.str (mk ls)),some (.int (1+(i:Int))),some (.ref r1),o10,none] ∧
        H''=upd H' r1 (.lst ((rs++[last]).map V.int))∧0≤last∧last < 1+(i:Int)∧(∀ v∈rs,0≤v∧v < 1+(i:Int))∧m=last.toNat∧rs.length+last.toNat≤60,⟨_,[],1+(i:Int) - 1,rfl,rfl,by omega,by omega,by simp,rfl,by simp;omega⟩,?_⟩
    rintro m σ H'' ⟨rs,last,rfl,rfl,la0,la1,hrs,rfl,hrl⟩
    have hu'':upd H' r1 (.lst ((rs++[last]).map V.int)) u=some (.lst (us.map V.int)):=by rw [upd_ne ur1];exact hu
    have hlast:atI ((rs++[last]).map V.int) (-1)=some (.int last):=by rw [List.map_append];exact atI_last _ _
    have hat:=ints_at (us:=us) (i:=last) la0 (by omega)
    have hrd:((rs++[last]).map V.int).length=rs.length+1:=by simp
    refine ⟨_,rfl,_,rfl,_,rfl,r1,_,_,_,rfl,rfl,SqL.of upd_same,hlast,u,_,_,_,rfl,rfl,SqL.of hu'',hat,_,_,rfl,rfl,_,rfl,ite2 (fun cnd=>?_) (fun cnd=>?_)⟩
    · have cnd':0≤us.getD last.toNat 0:=of_decide_eq_true cnd
      have hlt:us.getD last.toNat 0 < last:=by
        rcases Nat.eq_zero_or_pos last.toNat with e | e
        · have:=gr.root;rw [e] at cnd';omega
        · have:=gr.up last.toNat e (by omega);omega
      refine ⟨_,fun σ' H3 h=>h,?_⟩
      refine ⟨_,rfl,.inl ⟨rfl,_,SqL.of upd_same⟩,_,rfl,_,rfl,_,rfl,r1,_,_,_,rfl,rfl,SqL.of upd_same,hlast,u,_,_,_,rfl,rfl,SqL.of hu'',hat,r1,_,_,rfl,rfl,upd_same,by rw [hrd];exact small1000 (by omega),?_⟩
      refine ⟨(us.getD last.toNat 0).toNat,by omega,rs++[last],us.getD last.toNat 0,rfl,?_,cnd',by omega,?_,rfl,?_⟩
      · rw [upd_upd,List.map_append (l₁:=rs++[last])];rfl
      · intro v hv
        rcases List.mem_append.mp hv with hv | hv
        · exact hrs v hv
        · have:v=last:=by simpa using hv
          omega
      · rw [List.length_append,List.length_singleton];omega
    · -- up
      have kr:Kd p (c+7+4 * i) H (upd H' r1 (.lst ((rs++[last]).map V.int))):=kd.new hr1
      generalize hHr:upd H' r1 (.lst ((rs++[last]).map V.int))=Hr at kr hu''
      have hrr:Hr r1=some (.lst ((rs++[last]).map V.int)):=by rw [← hHr];exact upd_same
      have mem:∀ v∈rs++[last],0≤v∧v < 1+(i:Int):=fun v hv=>by
        rcases List.mem_append.mp hv with hv | hv
        · exact hrs v hv
        · have:v=last:=by simpa using hv
          omega
      generalize hRS:rs++[last]=RS at hrd hrr mem
      have hRl:RS.length=rs.length+1:=by rw [← hRS];simp
      generalize hL:((RS.map V.int).length:Int)=L
      have L1:1≤L:=by omega
      have L61:L≤61:=by omega
      refine ⟨_,rfl,r1,_,rfl,.inl (SqL.of hrr),_,_,rfl,rfl,_,rfl,_,_,rfl,rfl,(by decide:(0:Int) < 2),_,rfl,_,rfl,r1,_,rfl,.inl (SqL.of hrr),p,_,_,rfl,kr.deck,by omega,?_,?_,fun n3 H3 d0 d1 kd3=>?_⟩
      · rw [hL];omega
      · rw [hL];omega
      rw [hL] at d1
      have ku3:=kr.trans kd3
      have hrr3:=kd3.keep _ _ rp1 hrr
      refine ⟨_,rfl,r1,_,rfl,.inl (SqL.of hrr3),_,_,rfl,rfl,_,rfl,p,3,_,rfl,ku3.deck,by omega,by decide,by decide,fun n4 H4 e0 e1 kd4=>?_⟩
      have ku4':=ku3.trans kd4
      have hrr4:=kd4.keep _ _ rp1 hrr3
      refine ⟨_,_,rfl,_,rfl,r1,_,rfl,.inl (SqL.of hrr4),_,_,rfl,rfl,_,rfl,r1,_,rfl,.inl (SqL.of hrr4),_,_,rfl,rfl,_,rfl,p,3,_,rfl,ku4'.deck,by omega,by decide,by decide,fun n5 H5' f0 f1 kd5=>?_⟩
      have ku5':=ku4'.trans kd5
      have hrr5:=kd5.keep _ _ rp1 hrr4
      refine ⟨_,_,rfl,_,_,rfl,rfl,(by show 6≤sizeLine;decide),fun r2 hr2=>?_⟩
      rw [hL]
      have hupv:∃ v:Int,atI [V.int 0,.int (L - 1),.int ((1+(i:Int)) % 2),.int n3,.int (if n4 < L - 1 then n4 else L - 1),.int (L - 1 - (if n5 < L - 1 then n5 else L - 1))] way=some (.int v)∧0≤v:=by
        have:way=0∨way=1∨way=2∨way=3∨way=4∨way=5:=by omega
        rcases this with rfl | rfl | rfl | rfl | rfl | rfl
        · exact ⟨_,rfl,by omega⟩
        · exact ⟨_,rfl,by omega⟩
        · exact ⟨_,rfl,by omega⟩
        · exact ⟨_,rfl,by omega⟩
        · exact ⟨_,rfl,by split <;> omega⟩
        · exact ⟨_,rfl,by split <;> omega⟩
      obtain ⟨up,hupv,up0⟩:=hupv
      refine ⟨_,rfl,r2,_,_,_,rfl,rfl,SqL.of upd_same,hupv,?_⟩
      have ku6':=ku5'.new (o:=.lst [V.int 0,.int (L - 1),.int ((1+(i:Int)) % 2),.int n3,.int (if n4 < L - 1 then n4 else L - 1),.int (L - 1 - (if n5 < L - 1 then n5 else L - 1))]) hr2
      have hrr6:upd H5' r2 (.lst [V.int 0,.int (L - 1),.int ((1+(i:Int)) % 2),.int n3,.int (if n4 < L - 1 then n4 else L - 1),.int (L - 1 - (if n5 < L - 1 then n5 else L - 1))]) r1=some (.lst (RS.map V.int)):=by rw [upd_ne (ne_of_none hrr5 hr2)];exact hrr5
      have hu5':H5' u=some (.lst (us.map V.int)):=kd5.keep _ _ hup (kd4.keep _ _ hup (kd3.keep _ _ hup hu''))
      have hu6':upd H5' r2 (.lst [V.int 0,.int (L - 1),.int ((1+(i:Int)) % 2),.int n3,.int (if n4 < L - 1 then n4 else L - 1),.int (L - 1 - (if n5 < L - 1 then n5 else L - 1))]) u=some (.lst (us.map V.int)):=by rw [upd_ne (ne_of_none hu5' hr2)];exact hu5'
      generalize upd H5' r2 (.lst [V.int 0,.int (L - 1),.int ((1+(i:Int)) % 2),.int n3,.int (if n4 < L - 1 then n4 else L - 1),.int (L - 1 - (if n5 < L - 1 then n5 else L - 1))])=H6' at ku6' hrr6 hu6'
      have hmn:0≤(if L - 1 < up then L - 1 else up)∧(if L - 1 < up then L - 1 else up) < (RS.length:Int):=by split <;> omega
      have hat6:=ints_at (us:=RS) hmn.1 hmn.2
      have hv6:=mem _ (mem_getD (us:=RS) (j:=(if L - 1 < up then L - 1 else up).toNat) (by omega))
      have hrl6:(RS.map V.int).length=RS.length:=List.length_map _
      refine ⟨_,rfl,.inl ⟨rfl,_,SqL.of hu6'⟩,_,rfl,_,rfl,_,rfl,r1,_,rfl,.inl (SqL.of hrr6),_,_,rfl,rfl,_,_,rfl,r1,_,_,_,rfl,rfl,SqL.of hrr6,(by rw [hL];exact hat6),u,_,_,rfl,rfl,hu6',by rw [hul];exact small1000 (by omega),?_⟩
      generalize RS.getD (if L - 1 < up then L - 1 else up).toNat 0=v6 at hv6
      have ku7':Kd p (c+7+4 * i+1+1+1) H (upd H6' u (.lst (us.map V.int++[.int v6]))):=ku6'.write hHu hup
      have hu7':upd H6' u (.lst (us.map V.int++[.int v6])) u=some (.lst (us.map V.int++[.int v6])):=upd_same
      generalize upd H6' u (.lst (us.map V.int++[.int v6]))=H7' at ku7' hu7'
      refine ⟨_,rfl,_,rfl,_,rfl,p,_,ku7'.deck,by omega,.inr ⟨z,rfl,z0,z1,fun c8 H8 lm8 kd8=>?_⟩⟩
      refine ⟨_,_,rfl,rfl,?_,?_⟩
      · rw [mk_len]
        have:(⟨#[c8]⟩:Str).length=1:=rfl
        rw [this];exact Nat.le_of_lt (small1000 (by omega))
      · refine ⟨us++[v6],ls++[c8],_,_,_,_,rfl,?_,(ku7'.trans kd8).mono (by omega),?_,?_,?_,gr.snoc hv6.1 (by omega),fun a ha=>(List.mem_append.mp ha).elim (lls a) fun ha=>by rw [List.mem_singleton.mp ha];exact zlo _ lm8⟩
        · apply str_ext;rw [app_list];rfl
        · rw [kd8.keep _ _ hup hu7',List.map_append];rfl
        · rw [List.length_append,hlen];rfl
        · rw [List.length_append,hls];rfl
  · rintro σ H' ⟨us,ls,tx,o8,o9,o10,rfl,rfl,kd,hu,hlen,hls,gr,lls⟩
    have fin:∀ (ls':List Nat) (d:Int) (H4:Hp),ls'.length=us.length→(∀ a∈ls',Lw a)→d≤c+250→Kd p d H H4→H4 u=some (.lst (us.map V.int))→∀ r7 t7,H4 r7=none→(upd H4 r7 (.tup (us.map V.int))) t7=none→Q (.ref t7) (upd (upd H4 r7 (.tup (us.map V.int))) t7 (.tup [.ref r7,.str (mk ls')])):=fun ls' d H4 e1 lo' e2 e3 e4 r7 t7 hr7 ht=>by
      refine q t7 us (mk ls') _ (((e3.mono e2).new hr7).new ht) ⟨r7,upd_same,?_,?_⟩ ?_
      · rw [upd_ne (ne_of_none upd_same ht)];exact upd_same
      · exact ⟨by rw [mk_cps];omega,gr.pos,by omega,gr.root,gr.up⟩
      · rw [mk_cps];exact lo'
    refine ⟨_,rfl,p,5,_,rfl,kd.deck,by omega,by decide,by decide,fun n1 H1 d0 d1 kd1=>?_⟩
    have ku1:=kd.trans kd1
    have hu1:=kd1.keep _ _ hup hu
    refine ⟨rfl,_,rfl,ite2 (fun cnd=>?_) (fun cnd=>?_)⟩
    · refine ⟨_,rfl,_,rfl,p,many,_,rfl,ku1.deck,by omega,by omega,by omega,fun at0 H2 e0 e1 kd2=>?_⟩
      have ku2:=ku1.trans kd2
      have hu2:=kd2.keep _ _ hup hu1
      have mo:∀ n:Int,0≤n→n≤60→MulOk (⟨#[ch]⟩:Str) n:=fun n h0 h1=>PyProof.Rows.mulOk_of 1 60 (by rw [own1];decide) (by omega) (by omega) (by decide) (by decide)
      have ml:∀ n:Int,0≤n→(Txt.mul ⟨#[ch]⟩ n).length=n.toNat:=fun n h0=>by
        have:=mul_len (c:=ch) h0
        simpa [Str.length] using this
      refine ⟨_,rfl,_,rfl,_,_,rfl,rfl,mo _ e0 (by omega),_,rfl,p,_,rfl,ku2.deck,by omega,fun c9 H3 lc9 kd3=>?_⟩
      have hc9:(⟨#[c9]⟩:Str).length=1:=rfl
      have ku3:=ku2.trans kd3
      have hu3:=kd3.keep _ _ hup hu2
      refine ⟨_,_,rfl,rfl,by rw [ml _ e0,hc9];exact Nat.le_of_lt (small1000 (by omega)),_,rfl,_,rfl,_,rfl,_,_,rfl,rfl,_,_,rfl,rfl,_,_,rfl,rfl,mo _ (by omega) (by omega),_,_,rfl,rfl,?_,?_⟩
      · rw [la,ml _ e0,hc9,ml _ (by omega)];exact Nat.le_of_lt (small1000 (by omega))
      refine ⟨_,rfl,u,_,rfl,.inl ⟨SqL.of hu3,fun r7 hr7=>?_⟩⟩
      refine ⟨_,rfl,(by show 2≤sizeLine;decide),fun t ht=>?_⟩
      have hs:Txt.mul ⟨#[ch]⟩ at0++⟨#[c9]⟩++Txt.mul ⟨#[ch]⟩ (many - at0 - 1)=mk (Txt.mul ⟨#[ch]⟩ at0++⟨#[c9]⟩++Txt.mul ⟨#[ch]⟩ (many - at0 - 1)).cps.toList:=str_ext rfl
      rw [hs]
      have lom:∀ n:Int,∀ a∈(Txt.mul ⟨#[ch]⟩ n).cps.toList,Lw a:=fun n a ha=>mul_low lch n a ha
      refine fin _ _ H3 ?_ (lap _ _ (lap _ _ (lom _) fun a ha=>by rw [show a=c9 by simpa using ha];exact lc9) (lom _)) (by omega) ku3 hu3 r7 t hr7 ht
      have t1:=la (Txt.mul ⟨#[ch]⟩ at0++⟨#[c9]⟩) (Txt.mul ⟨#[ch]⟩ (many - at0 - 1))
      have t2:=la (Txt.mul ⟨#[ch]⟩ at0) ⟨#[c9]⟩
      have t3:=ml at0 e0
      have t4:=ml (many - at0 - 1) (by omega)
      have e:(Txt.mul ⟨#[ch]⟩ at0++⟨#[c9]⟩++Txt.mul ⟨#[ch]⟩ (many - at0 - 1)).cps.toList.length=(Txt.mul ⟨#[ch]⟩ at0++⟨#[c9]⟩++Txt.mul ⟨#[ch]⟩ (many - at0 - 1)).length:=by simp [Str.length]
      omega
    · refine ⟨_,rfl,u,_,rfl,.inl ⟨SqL.of hu1,fun r7 hr7=>?_⟩⟩
      refine ⟨_,rfl,(by show 2≤sizeLine;decide),fun t ht=>?_⟩
      exact fin ls _ H1 (by omega) lls (by omega) ku1 hu1 r7 t hr7 ht
end
end S67
namespace S67
open PySem L2 W7
section
variable {P:Program} {w:World} {K:PySem.W.Frag} {mg:Str→Option Value} {base:Heap} {k:Nat}
theorem has_lwords (D:Df K mg "_law_words" s_law_words) (B:Blt mg):Has P w K mg base "_law_words" (k+1) ["tree_here"] sp_words:=by
  refine D.has sc_law_words (fun _ _ _ _ _ _ us hl=>match us,hl with | [_],_=>rfl) (fun vs H Q E h=>by obtain ⟨t,ups,lab,rfl,_⟩:=h;rfl) (fun f cdv A outer s H vs Q E hr h=>?_)
  obtain ⟨t,ups,lab,rfl,⟨u,ht,hu,ok⟩,q⟩:=h
  refine ⟨_,(pss_cons (ps_set (i:=1) sc_law_words.nd rfl (by first | exact Or.inl rfl | exact Or.inr rfl) (pe_lst pa_nil))
  (pss_cons (ps_for PassesOwn.never rfl (pi_enum rfl B.enumerate (pa_cons (pe_ix ix_tup (pv 0) pe_int (fun _ _=>rfl)) pa_nil)) (pg_tup rfl (pgs_cons (pg_name (i:=2) sc_law_words.nd rfl (by first | exact Or.inl rfl | exact Or.inr rfl)) (pgs_cons (pg_name (i:=3) sc_law_words.nd rfl (by first | exact Or.inl rfl | exact Or.inr rfl)) pgs_nil)))
  (pss_one (ps_expr (pe_bm PySem.F.plainAttrs_list PySem.F.slot_list_append PySem.F.type_list_append mt_append (pv 1) (pa_cons (pe_op op_add_str (pe_ix ix_str (pe_ix ix_tup (pv 0) pe_int (fun _ _=>rfl)) (pv 2) (fun _ _=>rfl)) (pe_ifExp (pt_cmpR op_ge (pv 3) pe_int (nomark _)) (pe_ix ix_list (pv 1) (pv 3) (fun _ _=>rfl)) pe_str)) pa_nil)))))
  (pss_one (ps_ret (pv 1))))),?_⟩
  refine ⟨(by show 0≤sizeLine;decide),fun r hr0=>?_⟩
  have s0:Same H (upd H r (.lst [])):=(Same.refl H).new hr0
  refine ⟨_,rfl,t,_,_,_,rfl,rfl,SqT.of (s0 _ _ ht),rfl,.tup u,rfl,⟨_,.inl (s0 _ _ hu)⟩,?_⟩
  refine for_enum (xs:=ups.map V.int) (fun i σ H'=>∃ o1 o2:Option V,σ=[some (.ref t),some (.ref r),o1,o2]∧Same H H'∧H' r=some (.lst (wordsV ups lab i))) ⟨none,none,rfl,s0,upd_same⟩
    (fun i σ H' hi h=>by obtain ⟨o1,o2,_,s1,_⟩:=h;exact .inl (s1 _ _ hu)) ?_ ?_
  · rintro i y σ H' p hy ⟨o1,o2,rfl,s1,hr1⟩ hp
    obtain ⟨v,hv,rfl⟩:∃ v,ups[i]?=some v∧y=.int v:=by
      simp only [List.getElem?_map] at hy
      cases e:ups[i]? with
      | none=>rw [e] at hy;cases hy
      | some v=>rw [e] at hy;exact ⟨v,rfl,(Option.some.inj hy).symm⟩
    have hi:i < ups.length:=(List.getElem?_eq_some_iff.mp hv).1
    have hi2:i < lab.cps.toList.length:=by rw [← ok.len];exact hi
    have ev:ups.getD i 0=v:=by rw [List.getD_eq_getElem?_getD,hv];rfl
    have ec:lab.cps.toList.getD i 0=lab.cps.toList[i]:=by rw [List.getD_eq_getElem?_getD,List.getElem?_eq_getElem hi2];rfl
    have hm:=ok.most
    have s2:Same H (upd H' p (.tup [.int i,.int v])):=s1.new hp
    have hr2:upd H' p (.tup [.int i,.int v]) r=some (.lst (wordsV ups lab i)):=by rw [upd_ne (ne_of_none hr1 hp)];exact hr1
    have wl:(wordsV ups lab i).length=i:=by simp [wordsV]
    have step:wordsV ups lab (i+1)=wordsV ups lab i++[.str (mk (W ups lab.cps.toList i))]:=by
      unfold wordsV
      rw [List.range_succ,List.map_append];rfl
    have hlab:lab.length=ups.length:=by rw [ok.len];simp [Str.length]
    have e1:=atI_nat (xs:=lab.cps.toList) (j:=i) (List.getElem?_eq_getElem hi2)
    have one1:(⟨#[lab.cps.toList[i]]⟩:Str).length=1:=rfl
    refine ⟨p,_,rfl,SqT.of upd_same,rfl,_,_,rfl,_,_,rfl,rfl,?_⟩
    refine ⟨_,rfl,.inl ⟨rfl,_,SqL.of hr2⟩,_,rfl,t,_,_,_,rfl,rfl,SqT.of (s2 _ _ ht),rfl,_,rfl,_,_,_,rfl,rfl,by rw [hlab];exact Nat.le_of_lt (small1000 (by omega)),e1,_,rfl,_,_,rfl,rfl,_,rfl,ite2 (fun cnd=>?_) (fun cnd=>?_)⟩
    · have e3:0≤v:=of_decide_eq_true cnd
      have lt:=ok.lt hi (by rw [ev];omega)
      rw [ev] at lt
      have hat:atI (wordsV ups lab i) v=some (.str (mk (W ups lab.cps.toList v.toNat))):=by
        have e:atI (wordsV ups lab i) ((v.toNat:Nat):Int)=some (.str (mk (W ups lab.cps.toList v.toNat))):=atI_nat (by
          unfold wordsV
          rw [List.getElem?_map,List.getElem?_range lt];rfl)
        rw [show ((v.toNat:Nat):Int)=v by omega] at e
        exact e
      have wle:=W_len ok (v.toNat+1) v.toNat (by omega) (by omega)
      have ew:W ups lab.cps.toList i=lab.cps.toList[i] :: W ups lab.cps.toList v.toNat:=by rw [W_eq ok hi,ev,ec,if_neg (by omega)]
      refine ⟨_,rfl,_,rfl,r,_,_,_,rfl,rfl,SqL.of hr2,hat,_,_,rfl,rfl,?_,r,_,_,rfl,rfl,hr2,by rw [wl];exact small1000 (by omega),⟨_,_,rfl,s2.write hr0,?_⟩⟩
      · rw [mk_len,one1];exact Nat.le_of_lt (small1000 (by omega))
      · rw [upd_same,step,ew,mk_app]
    · have e3:¬ 0≤v:=of_decide_eq_false (Bool.eq_false_iff.mpr cnd)
      have ew:W ups lab.cps.toList i=[lab.cps.toList[i]]:=by rw [W_eq ok hi,ev,ec,if_pos (by omega)]
      refine ⟨_,_,rfl,rfl,by rw [one1];decide,r,_,_,rfl,rfl,hr2,by rw [wl];exact small1000 (by omega),⟨_,_,rfl,s2.write hr0,?_⟩⟩
      rw [upd_same,step,ew]
      have:(⟨#[lab.cps.toList[i]]⟩:Str)++Str.ofString "" = mk [lab.cps.toList[i]]:=by apply str_ext;rw [app_list];rfl
      rw [this]
  · rintro σ H' ⟨o1,o2,rfl,s1,hr1⟩
    refine ⟨_,rfl,q r H' s1 ?_⟩
    rw [hr1,List.length_map]
end
end S67
namespace L2
open PySem PySem.Spec PyProof.Rows PySem.W PySem.StrLaws PySem.Builtin PySem.Builtin.Str
theorem occ_full (s sub:Str) (hi:Nat):∀ (l:List Nat) (st:Array Nat × Nat),st.fst.size=1→(forIn l st (occBody s sub hi 1)).run.fst=st.fst
  | [],st,h=>rfl
  | a :: l,st,h=>by
    rw [List.forIn_cons]
    unfold occBody
    rw [if_neg (by omega)]
    exact occ_full s sub hi l (st.fst,st.snd) h
theorem occ_first (s:Str) (c:Nat):∀ (l:List Nat) (pre:List Nat) (i:Nat) (post:List Nat),l=pre++i :: post→(∀ j∈pre,s.cps.toList[j]?≠some c)→s.cps.toList[i]?=some c→(forIn l ((#[]:Array Nat),0) (occBody s ⟨#[c]⟩ s.length 1)).run.fst=#[i]
  | l,[],i,post,e,_,h=>by
    subst e
    show (forIn (i :: post) ((#[]:Array Nat),0) (occBody s ⟨#[c]⟩ s.length 1)).run.fst=_
    rw [List.forIn_cons]
    have:=(subAt_one s c i).mpr h
    unfold occBody
    rw [if_pos ⟨⟨⟨by decide,Nat.zero_le _⟩,this.1⟩,this.2⟩]
    exact occ_full s _ _ post (#[i],i+(⟨#[c]⟩:Str).length) rfl
  | l,a :: pre,i,post,e,hn,h=>by
    subst e
    show (forIn (a :: (pre++i :: post)) ((#[]:Array Nat),0) (occBody s ⟨#[c]⟩ s.length 1)).run.fst=_
    rw [List.forIn_cons]
    have na:=hn a List.mem_cons_self
    unfold occBody
    rw [if_neg (fun z=>na ((subAt_one s c a).mp ⟨z.1.2,z.2⟩))]
    exact occ_first s c _ pre i post rfl (fun j hj=>hn j (List.mem_cons_of_mem _ hj)) h
theorem occ_at {s:Str} {a b:List Nat} {c:Nat} (e:s.cps.toList=a++c :: b) (h:c ∉ a):occurrences s ⟨#[c]⟩ 0 s.length 1=[a.length]:=by
  have sl:s.length=a.length+b.length+1:=by
    have:=congrArg List.length e
    rw [List.length_append,List.length_cons] at this
    have e2:s.cps.toList.length=s.length:=Array.length_toList
    omega
  rw [occ_eq]
  rw [occ_first s c _ (List.range' 0 a.length) a.length (List.range' (a.length+1) (b.length+1)) ?_ ?_ ?_]
  · have e1:(b.length+1+1)=b.length+2:=rfl
    have e2:a.length :: List.range' (a.length+1) (b.length+1)=List.range' (0+1 * a.length) (b.length+2):=by
      rw [show (0+1 * a.length)=a.length by omega];rfl
    rw [e2,List.range'_append]
    congr 1
    omega
  · intro j hj z
    have hj':j < a.length:=by
      obtain ⟨i,hi,rfl⟩:=List.mem_range'.mp hj
      omega
    rw [e,List.getElem?_append_left hj'] at z
    exact h (List.mem_of_getElem? z)
  · rw [e,List.getElem?_append_right (Nat.le_refl _),Nat.sub_self];rfl
theorem part_at {s:Str} {a b:List Nat} {c:Nat} (e:s.cps.toList=a++c :: b) (h:c ∉ a):(Txt.partition s ⟨#[c]⟩).1=⟨a.toArray⟩∧(Txt.partition s ⟨#[c]⟩).2.1=⟨#[c]⟩:=by
  unfold Txt.partition
  rw [occ_at e h]
  refine ⟨?_,rfl⟩
  show strSub s 0 a.length=_
  unfold strSub
  have:s.cps=(a++c :: b).toArray:=by rw [← e]
  rw [this]
  congr 1
  apply Array.toList_inj.mp
  simp
theorem starts_one {a:Nat} {l:List Nat} {b:Nat}:Txt.startswith (⟨(a :: l).toArray⟩:Str) ⟨#[b]⟩=decide (a=b):=by
  have h:=subAt_one (⟨(a :: l).toArray⟩:Str) b 0
  rw [Bool.eq_iff_iff,decide_eq_true_eq]
  unfold Txt.startswith
  rw [Bool.and_eq_true,decide_eq_true_eq,h]
  show some a=some b ↔ _
  simp
theorem starts_nil {b:Nat}:Txt.startswith (⟨#[]⟩:Str) ⟨#[b]⟩=false:=by
  unfold Txt.startswith
  rw [show decide (0+(⟨#[b]⟩:Str).length≤(⟨#[]⟩:Str).length)=false from rfl];rfl
theorem ends_one {l:List Nat} {a b:Nat}:Txt.endswith (⟨(l++[a]).toArray⟩:Str) ⟨#[b]⟩=decide (a=b):=by
  have e:(⟨(l++[a]).toArray⟩:Str).length=l.length+1:=by show (l++[a]).toArray.size=_;simp
  have h:=subAt_one (⟨(l++[a]).toArray⟩:Str) b l.length
  rw [Bool.eq_iff_iff,decide_eq_true_eq]
  unfold Txt.endswith
  have e1:(⟨(l++[a]).toArray⟩:Str).length - (⟨#[b]⟩:Str).length=l.length:=by rw [e];rfl
  have e2:decide (0+(⟨#[b]⟩:Str).length≤(⟨(l++[a]).toArray⟩:Str).length)=true:=decide_eq_true (by rw [e];show 0+1≤_;omega)
  rw [e1,e2,Bool.true_and]
  have h2:subAt (⟨(l++[a]).toArray⟩:Str) ⟨#[b]⟩ l.length=true ↔ (⟨(l++[a]).toArray⟩:Str).cps.toList[l.length]?=some b:=by
    constructor
    · exact fun z=>h.mp ⟨by rw [e];exact Nat.le_refl _,z⟩
    · exact fun z=>(h.mpr z).2
  rw [h2]
  show (l++[a])[l.length]?=some b ↔ _
  rw [List.getElem?_append_right (Nat.le_refl _),Nat.sub_self];simp
end L2
namespace W63
abbrev It:=List Nat × Bool
def good (it:It) (w:List Nat) (n:Nat):Bool:=decide (w.getD n 0∈it.1)
def nextF (it:It) (w:List Nat) (f:Nat→Bool):Nat→Bool
  | 0=>it.2 && f 0
  | n+1=>if it.2 then f (n+1) || (good it w n && nextF it w f n) else good it w n && f n
def D (its:List It) (w:List Nat):Nat→Nat→Bool
  | 0=>fun n=>n == 0
  | i+1=>nextF (its.getD i ([],false)) w (D its w i)
def st (its:List It) (i:Nat):Bool:=(its.getD i ([],false)).2
def gd (its:List It) (w:List Nat) (i n:Nat):Bool:=good (its.getD i ([],false)) w n
theorem D_zero (its:List It) (w:List Nat) (n:Nat):D its w 0 n=(n == 0):=rfl
theorem D_s0 (its:List It) (w:List Nat) (i:Nat):D its w (i+1) 0=(st its i && D its w i 0):=rfl
theorem D_star {its:List It} {w:List Nat} {i n:Nat} (h:st its i=true):D its w (i+1) (n+1)=(D its w i (n+1) || (gd its w i n && D its w (i+1) n)):=by
  show nextF _ _ _ _=_
  rw [nextF,if_pos (show (its.getD i ([],false)).2=true from h)];rfl
theorem D_plain {its:List It} {w:List Nat} {i n:Nat} (h:st its i=false):D its w (i+1) (n+1)=(gd its w i n && D its w i n):=by
  show nextF _ _ _ _=_
  rw [nextF,if_neg (show ¬ (its.getD i ([],false)).2=true by rw [show (its.getD i ([],false)).2=false from h];decide)];rfl
def N (its:List It) (w:List Nat) (s n:Nat):Bool:=if st its s then D its w (s+1) n else D its w s n
theorem st_len {its:List It}:st its its.length=false:=by
  unfold st;rw [List.getD_eq_getElem?_getD,List.getElem?_eq_none (Nat.le_refl _)];rfl
theorem N_len (its:List It) (w:List Nat) (n:Nat):N its w its.length n=D its w its.length n:=by
  unfold N;rw [st_len];rfl
def cl (its:List It) (T:Nat→Bool):Nat→Bool
  | 0=>T 0
  | s+1=>T (s+1) || (cl its T s && st its s)
theorem N_first (its:List It) (w:List Nat):∀ s,N its w s 0=cl its (fun s=>s == 0) s
  | 0=>by
    unfold N
    rw [D_s0,D_zero]
    cases h:st its 0 <;> rfl
  | s+1=>by
    have ih:=N_first its w s
    have e:N its w (s+1) 0=D its w (s+1) 0:=by
      unfold N
      cases h:st its (s+1)
      · rfl
      · rw [if_pos rfl,D_s0,h];rfl
    rw [e,D_s0,cl,← ih]
    unfold N
    cases h:st its s
    · simp
    · rw [if_pos rfl,D_s0,h];simp
def by_ (its:List It) (w:List Nat) (n:Nat) (s:Nat):Bool:=(st its s && gd its w s n && N its w s n) || (match s with | 0=>false | j+1=>!st its j && gd its w j n && N its w j n)
theorem N_next (its:List It) (w:List Nat) (n:Nat):∀ s,N its w s (n+1)=cl its (by_ its w n) s:=by
  have two:∀ s,D its w s (n+1)=(match s with | 0=>false | j+1=>(!st its j && gd its w j n && N its w j n) || (N its w j (n+1) && st its j)):=fun s=>by
    cases s with
    | zero=>rfl
    | succ j=>
      dsimp only
      cases h:st its j
      · rw [D_plain h];unfold N;rw [h];simp
      · unfold N;rw [h];simp
  have one:∀ s,N its w s (n+1)=((st its s && gd its w s n && N its w s n) || D its w s (n+1)):=fun s=>by
    unfold N
    cases h:st its s
    · simp
    · rw [if_pos rfl,if_pos rfl,D_star h,Bool.or_comm];simp
  intro s
  induction s with
  | zero=>rw [one,two,cl,by_]
  | succ j ih=>
    rw [one,two,cl,by_,← ih]
    dsimp only
    rw [Bool.or_assoc]
end W63
namespace W63
abbrev Lw (c:Nat):Prop:=97≤c∧c < 123
def abc:List Nat:=[97,98,99,100,101,102,103,104,105,106,107,108,109,110,111,112,113,114,115,116,117,118,119,120,121,122]
inductive Wr where
  | one (c:Nat)
  | dot
  | br (L:List Nat)
def Wr.txt:Wr→List Nat
  | .one c=>[c]
  | .dot=>[46]
  | .br L=>91 :: (L++[93])
def Wr.lets:Wr→List Nat
  | .one c=>[c]
  | .dot=>abc
  | .br L=>L
def Wr.Ok:Wr→Prop
  | .one c=>Lw c
  | .dot=>True
  | .br L=>L≠[]∧(∀ c∈L,Lw c)∧L.Pairwise (· < ·)
abbrev Wi:=Wr × Bool
def star (b:Bool):List Nat:=if b then [42] else []
def wt (x:Wi):List Nat:=x.1.txt++star x.2
def enc (xs:List Wi):List Nat:=(xs.map wt).flatten
def dec (xs:List Wi):List It:=xs.map fun x=>(x.1.lets,x.2)
theorem enc_cons (x:Wi) (xs:List Wi):enc (x :: xs)=x.1.txt++(star x.2++enc xs):=by
  show wt x++enc xs=_
  unfold wt;rw [List.append_assoc]
theorem enc_app (xs ys:List Wi):enc (xs++ys)=enc xs++enc ys:=by unfold enc;rw [List.map_append,List.flatten_append]
theorem txt_head (x:Wr) (h:x.Ok):∃ c r,x.txt=c :: r∧c≠42:=by
  cases x with
  | one c=>exact ⟨c,[],rfl,by have:Lw c:=h;unfold Lw at this;omega⟩
  | dot=>exact ⟨46,[],rfl,by decide⟩
  | br L=>exact ⟨91,L++[93],rfl,by decide⟩
theorem enc_head (xs:List Wi) (h:∀ x∈xs,x.1.Ok):enc xs=[]∨∃ c r,enc xs=c :: r∧c≠42:=by
  cases xs with
  | nil=>exact .inl rfl
  | cons x xs=>
    obtain ⟨c,r,e,n⟩:=txt_head x.1 (h x List.mem_cons_self)
    exact .inr ⟨c,r++(star x.2++enc xs),by rw [enc_cons,e];rfl,n⟩
theorem txt_pos (x:Wr):0 < x.txt.length:=by cases x <;> simp [Wr.txt]
theorem dec_len (xs:List Wi):(dec xs).length=xs.length:=List.length_map _
theorem lets_ok (x:Wr) (h:x.Ok):(∀ c∈x.lets,Lw c)∧x.lets.Pairwise (· < ·)∧x.lets≠[]:=by
  cases x with
  | one c=>exact ⟨fun d hd=>by rw [List.mem_singleton.mp hd];exact h,List.pairwise_singleton _ _,List.cons_ne_nil _ _⟩
  | dot=>exact ⟨by decide,by decide,by decide⟩
  | br L=>exact ⟨h.2.1,h.2.2,h.1⟩
theorem rise_len:∀ (L:List Nat) (lo:Nat),(∀ c∈L,lo≤c∧c < 123)→L.Pairwise (· < ·)→lo≤123→L.length≤123 - lo
  | [],_,_,_,_=>Nat.zero_le _
  | c :: L,lo,h,p,hl=>by
    have hc:=h c List.mem_cons_self
    have:=rise_len L (c+1) (fun d hd=>⟨List.rel_of_pairwise_cons p hd,(h d (List.mem_cons_of_mem _ hd)).2⟩) (List.Pairwise.of_cons p) (by omega)
    rw [List.length_cons];omega
theorem lets_len (x:Wr) (h:x.Ok):x.lets.length≤26:=by
  have:=lets_ok x h
  exact rise_len _ 97 (fun c hc=>this.1 c hc) this.2.1 (by omega)
end W63
namespace S67
open PySem L2 W7
open W63 (Wr Wi enc dec star)
structure Blt7 (mg:Str→Option Value):Prop extends Blt mg where
  all:mg "all" = none
  dict_:mg "dict" = none
  sorted:mg "sorted" = none
  set_:mg "set" = none
  letters:∃ u,mg "LETTERS" = some u∧RelV (.str "abcdefghijklmnopqrstuvwxyz") u
  most:∃ u,mg "MOST_SIGNS" = some u∧RelV (.int 40) u
theorem abc_mk:Str.ofString "abcdefghijklmnopqrstuvwxyz" = mk W63.abc:=by decide +kernel
theorem line_le {n:Nat} (h:n≤1000):n≤sizeLine:=Nat.le_of_lt (small1000 h)
theorem trues_all (n:Nat):(List.replicate n true).all id=true:=by
  rw [List.all_eq_true]
  intro b hb
  exact (List.mem_replicate.mp hb).2
theorem trues_snoc (n:Nat):(List.replicate n true).map V.bl++[.bl true]=(List.replicate (n+1) true).map V.bl:=by
  rw [List.replicate_succ',List.map_append];rfl
theorem in_letters {c:Nat} (h:Lw c):(!(Builtin.Str.occurrences (Str.ofString "abcdefghijklmnopqrstuvwxyz") ⟨#[c]⟩ 0 (Str.ofString "abcdefghijklmnopqrstuvwxyz").length 1).isEmpty)=true:=by
  rw [PySem.StrLaws.found_one,decide_eq_true_eq]
  have all:∀ i:Fin 26,(97+i.val)∈(Str.ofString "abcdefghijklmnopqrstuvwxyz").cps.toList:=by decide +kernel
  have:=all ⟨c - 97,by unfold Lw at h;omega⟩
  rw [show 97+(c - 97)=c by unfold Lw at h;omega] at this
  exact this
structure ItsAt (H:Hp) (l:Addr) (its:List W63.It):Prop where
  ex:∃ vs:List V,H l=some (.lst vs)∧vs.length=its.length∧∀ (i:Nat) (x:W63.It),its[i]?=some x→∃ a,vs[i]?=some (V.ref a)∧H a=some (.tup [.str (mk x.1),.bl x.2])
theorem ItsAt.same {H H':Hp} {l:Addr} {its:List W63.It} (h:ItsAt H l its) (s:Same H H'):ItsAt H' l its:=by
  obtain ⟨vs,a,b,c⟩:=h
  exact ⟨vs,s _ _ a,b,fun i x e=>let ⟨q,e1,e2⟩:=c i x e;⟨q,e1,s _ _ e2⟩⟩
section
variable {P:Program} {w:World} {K:PySem.W.Frag} {mg:Str→Option Value} {base:Heap} {k:Nat}
def sp_letters:Sp:=fun vs H Q _=>∃ z:Str,vs=[.str z]∧z.length≤60∧(∀ c∈z.cps.toList,Lw c)∧∀ H',Same H H'→Q (.bl true) H'
theorem has_letters (D:Df K mg "is_letters" s_is_letters) (B:Blt7 mg):Has P w K mg base "is_letters" (k+1) ["thing"] sp_letters:=by
  refine D.has sc_is_letters (fun _ _ _ _ _ _ us hl=>match us,hl with | [_],_=>rfl) (fun vs H Q E h=>by obtain ⟨x,rfl,_⟩:=h;rfl) (fun f cdv A outer s H vs Q E hr h=>?_)
  obtain ⟨z,rfl,zl,low,q⟩:=h
  obtain ⟨u2,h_LETTERS,r_LETTERS⟩:=B.letters
  refine ⟨_,(pss_one (ps_ret (pe_and (pe_callB call_isinst rfl B.isinstance bt_isinstance (pa_cons (pv 0) (pa_cons (pe_bltn (v:=.ty "str") rfl B.str_ bt_str rfl) pa_nil))) (pe_one (pe_callB (call_all rfl) rfl B.all bt_all (pa_cons (pe_comp rfl (pi_str (pv 0)) (NL:=["sign"]) (ix:=[]) (csc (defScope s_is_letters) N_is_letters) (fun cl C s₃ H₃ fp pins=>⟨(pg_name (i:=0) (show List.Nodup (["sign"]:List Str) from by decide +kernel) rfl (by first | exact Or.inl rfl | exact Or.inr rfl)),pifs_nil,(pe_cmpR op_in_str (pv 0) (pe_glob (v:=.str "abcdefghijklmnopqrstuvwxyz") rfl h_LETTERS r_LETTERS) (by with_unfolding_all rfl))⟩)) pa_nil)))))),?_⟩
  refine ⟨_,rfl,_,_,_,true,rfl,.str _,kit_same _ _,_,rfl,iteT ?_⟩
  have zs:z.cps.size≤60:=zl
  refine ⟨_,rfl,_,rfl,fun a1 ha1=>?_⟩
  refine comp_str (by omega) (fun i ys HX=>HX a1=some (.lst ys)∧Same H HX∧ys=(List.replicate i true).map V.bl)
    (fun i ys HX h=>⟨h.1,by rw [h.2.2,List.length_map,List.length_replicate];exact Nat.le_refl _⟩) ⟨upd_same,(Same.refl H).new ha1,rfl⟩ ?_ ?_
  rotate_left
  · rintro i c ys HX hc ⟨g1,g2,rfl⟩
    have hm:c∈z.cps.toList:=by rw [← Array.getElem?_toList] at hc;exact List.mem_of_getElem? hc
    refine ⟨rfl,_,rfl,_,_,rfl,rfl,?_⟩
    have e:(!(Builtin.Str.occurrences (Str.ofString "abcdefghijklmnopqrstuvwxyz") ⟨#[c]⟩ 0 (Str.ofString "abcdefghijklmnopqrstuvwxyz").length 1).isEmpty)=true:=in_letters (low c hm)
    rw [e]
    exact ⟨g1,upd_same,g2.write ha1,trues_snoc i⟩
  rintro ys H1 ⟨g1,s1,rfl⟩
  refine ⟨a1,_,rfl,SqL.of g1,?_⟩
  rw [trues_all]
  exact q _ s1
def sp_rising:Sp:=fun vs H Q _=>∃ L:List Nat,vs=[.str (mk L)]∧L.length≤60∧L.Pairwise (· < ·)∧∀ H',Same H H'→Q (.bl true) H'
theorem has_rising (D:Df K mg "is_rising" s_is_rising) (B:Blt7 mg):Has P w K mg base "is_rising" (k+1) ["things"] sp_rising:=by
  refine D.has sc_is_rising (fun _ _ _ _ _ _ us hl=>match us,hl with | [_],_=>rfl) (fun vs H Q E h=>by obtain ⟨l,rfl,_⟩:=h;rfl) (fun f cdv A outer s H vs Q E hr h=>?_)
  obtain ⟨L,rfl,l60,pw,q⟩:=h
  refine ⟨_,(pss_one (ps_ret (pe_callB (call_all rfl) rfl B.all bt_all (pa_cons (pe_comp rfl (pi_range2 rfl B.range (pa_cons pe_int (pa_cons (pe_callB call_len_str rfl B.len bt_len (pa_cons (pv 0) pa_nil)) pa_nil))) (NL:=["k"]) (ix:=[0]) (csc (defScope s_is_rising) N_is_rising) (fun cl C s₃ H₃ fp pins=>⟨(pg_name (i:=0) (show List.Nodup (["k", "things"]:List Str) from by decide +kernel) rfl (by first | exact Or.inl rfl | exact Or.inr rfl)),pifs_nil,(pe_cmpR op_lt_str (pe_ix ix_str (pv 1) (pe_op op_sub (pv 0) pe_int) (fun _ _=>rfl)) (pe_ix ix_str (pv 1) (pv 0) (fun _ _=>rfl)) (nomark _))⟩)) pa_nil)))),?_⟩
  have zb:(mk L).length≤sizeLine:=by rw [mk_len];exact line_le (by omega)
  refine ⟨_,rfl,_,rfl,zb,_,_,rfl,⟨by decide,by decide,by rw [mk_len];omega,by rw [mk_len];omega⟩,fun acc hacc=>?_⟩
  have eN:((((mk L).length:Nat):Int) - 1).toNat=L.length - 1:=by rw [mk_len];omega
  refine comp_by ((((mk L).length:Nat):Int) - 1).toNat (by omega) (fun i ys HX=>HX acc=some (.lst ys)∧Same H HX∧ys=(List.replicate i true).map V.bl)
    (fun i ys HX h=>⟨h.1,by rw [h.2.2,List.length_map,List.length_replicate];exact Nat.le_refl _⟩) ⟨upd_same,(Same.refl H).new hacc,rfl⟩ ?_ ?_
  rotate_left
  · rintro i ys HX hi ⟨g1,g2,rfl⟩
    refine ⟨hi,?_⟩
    rw [eN] at hi
    rintro x HX' ⟨rfl,rfl⟩
    have a1:atI (mk L).cps.toList (1+(i:Int) - 1)=some (L[i]'(by omega)):=by rw [show (1+(i:Int) - 1)=(i:Int) by omega];exact atI_nat (List.getElem?_eq_getElem _)
    have a2:atI (mk L).cps.toList (1+(i:Int))=some (L[i+1]'(by omega)):=by rw [show (1+(i:Int))=((i+1:Nat):Int) by omega];exact atI_nat (List.getElem?_eq_getElem _)
    have lt:L[i]'(by omega) < L[i+1]'(by omega):=List.pairwise_iff_getElem.mp pw i (i+1) (by omega) (by omega) (by omega)
    refine ⟨rfl,_,rfl,_,rfl,_,_,rfl,rfl,_,_,_,rfl,rfl,zb,a1,_,rfl,_,rfl,_,_,_,rfl,rfl,zb,a2,_,_,rfl,rfl,g1,upd_same,g2.write hacc,?_⟩
    have e:decide ((⟨#[L[i]'(by omega)]⟩:Str).cps.toList < (⟨#[L[i+1]'(by omega)]⟩:Str).cps.toList)=true:=by
      refine decide_eq_true ?_
      show [L[i]'(by omega)] < [L[i+1]'(by omega)]
      rw [List.cons_lt_cons_iff];exact .inl lt
    rw [e]
    exact trues_snoc i
  rintro ys H1 ⟨g1,s1,rfl⟩
  refine ⟨Nat.le_refl _,acc,_,rfl,SqL.of g1,?_⟩
  rw [trues_all]
  exact q _ s1
def sp_part:Sp:=fun vs H Q _=>∃ (x:Wr) (r:List Nat),vs=[.str (mk (x.txt++r))]∧x.Ok∧(x.txt++r).length≤40∧∀ H',Same H H'→Q (.str (mk x.txt)) H'
theorem has_part (D:Df K mg "part_ahead" s_part_ahead) (B:Blt7 mg):Has P w K mg base "part_ahead" (k+1) ["text"] sp_part:=by
  refine D.has sc_part_ahead (fun _ _ _ _ _ _ us hl=>match us,hl with | [_],_=>rfl) (fun vs H Q E h=>by obtain ⟨x,r,rfl,_⟩:=h;rfl) (fun f cdv A outer s H vs Q E hr h=>?_)
  obtain ⟨x,r,rfl,ok,l40,q⟩:=h
  refine ⟨_,(pss_cons (ps_if (pt_not (pt_val (pe_startsK K (pv 0) pe_str)))
  (pss_one (ps_ret (pe_ix ix_str (pv 0) pe_int (fun _ _=>rfl))))
  pss_nil)
  (pss_cons (ps_set (i:=1) sc_part_ahead.nd rfl (by first | exact Or.inl rfl | exact Or.inr rfl) (pe_bm PySem.F.plainAttrs_str PySem.F.slot_str_partition PySem.F.type_str_partition mt_partition (pv 0) (pa_cons pe_str pa_nil)))
  (pss_one (ps_ret (pe_op op_add_str (pe_ix ix_tup (pv 1) pe_int (fun _ _=>rfl)) (pe_ix ix_tup (pv 1) pe_int (fun _ _=>rfl))))))),?_⟩
  have zb:(mk (x.txt++r)).length≤sizeLine:=by rw [mk_len];exact line_le (by omega)
  have e1:Str.ofString "[" = mk [91]:=by decide +kernel
  have e2:Str.ofString "]" = mk [93]:=by decide +kernel
  refine ⟨_,rfl,rfl,_,_,rfl,rfl,_,rfl,?_⟩
  rw [e1]
  cases x with
  | one c=>
    have n91:c≠91:=by have:Lw c:=ok;unfold Lw at this;omega
    rw [show Txt.startswith (mk (Wr.txt (.one c)++r)) (mk [91])=false from (starts_one (a:=c) (l:=r) (b:=91)).trans (decide_eq_false n91)]
    refine iteT ?_
    refine ⟨_,rfl,_,_,_,rfl,rfl,zb,atI_nat (j:=0) (v:=c) rfl,?_⟩
    exact q _ (Same.refl H)
  | dot=>
    rw [show Txt.startswith (mk (Wr.txt .dot++r)) (mk [91])=false from (starts_one (a:=46) (l:=r) (b:=91)).trans (by decide)]
    refine iteT ?_
    refine ⟨_,rfl,_,_,_,rfl,rfl,zb,atI_nat (j:=0) (v:=46) rfl,?_⟩
    exact q _ (Same.refl H)
  | br L=>
    rw [show Txt.startswith (mk (Wr.txt (.br L)++r)) (mk [91])=true by show Txt.startswith (⟨(91 :: ((L++[93])++r)).toArray⟩:Str) ⟨#[91]⟩=true;rw [starts_one];rfl]
    refine iteF ?_
    have n93:93 ∉ 91 :: L:=fun m=>by
      rcases List.mem_cons.mp m with m | m
      · cases m
      · have:=ok.2.1 _ m;unfold W63.Lw at this;omega
    have el:(mk (Wr.txt (.br L)++r)).cps.toList=(91 :: L)++93 :: r:=by rw [mk_cps];show 91 :: (L++[93])++r=_;simp
    obtain ⟨p1,p2⟩:=part_at el n93
    refine ⟨_,rfl,rfl,_,_,rfl,rfl,by rw [e2];rfl,zb,fun t ht=>?_⟩
    rw [e2]
    have s1:Same H (upd H t (.tup [.str (Txt.partition (mk (Wr.txt (.br L)++r)) (mk [93])).1,.str (Txt.partition (mk (Wr.txt (.br L)++r)) (mk [93])).2.1,.str (Txt.partition (mk (Wr.txt (.br L)++r)) (mk [93])).2.2])):=(Same.refl H).new ht
    have g1:(Txt.partition (mk (Wr.txt (.br L)++r)) (mk [93])).1=mk (91 :: L):=p1
    have g2:(Txt.partition (mk (Wr.txt (.br L)++r)) (mk [93])).2.1=mk [93]:=p2
    refine ⟨_,rfl,t,_,_,_,rfl,rfl,SqT.of upd_same,rfl,_,rfl,t,_,_,_,rfl,rfl,SqT.of upd_same,rfl,_,_,rfl,rfl,?_,?_⟩
    · rw [g1,g2,mk_len,mk_len]
      have l40':(91 :: (L++[93])++r).length≤40:=l40
      simp at l40'
      exact line_le (by simp;omega)
    · rw [g1,g2]
      rw [show mk (91 :: L)++mk [93]=mk (Wr.txt (.br L)) from str_ext (by rw [app_list];rfl)]
      rw [g1,g2] at s1
      exact q _ s1
theorem cut_mk (a b:List Nat):cutS (mk (a++b)) (some ((a.length:Nat):Int)) none=mk b:=by
  apply str_ext
  show ((mk (a++b)).cps.toList.drop (HT.sIx (mk (a++b)).length 0 (some ((a.length:Nat):Int)))).take (HT.sIx (mk (a++b)).length (mk (a++b)).length none - HT.sIx (mk (a++b)).length 0 (some ((a.length:Nat):Int)))=b
  rw [mk_cps,mk_len,HT.sIx_nat,HT.sIx_none,List.length_append,Nat.min_eq_left (by omega),List.drop_left]
  exact List.take_of_length_le (by omega)
theorem cut_br (L:List Nat):cutS (mk (91 :: (L++[93]))) (some 1) (some (-1))=mk L:=by
  apply str_ext
  have l:(mk (91 :: (L++[93]))).length=L.length+2:=by rw [mk_len];simp
  show ((mk (91 :: (L++[93]))).cps.toList.drop (HT.sIx (mk (91 :: (L++[93]))).length 0 (some 1))).take (HT.sIx (mk (91 :: (L++[93]))).length (mk (91 :: (L++[93]))).length (some (-1)) - HT.sIx (mk (91 :: (L++[93]))).length 0 (some 1))=L
  have e1:HT.sIx (L.length+2) 0 (some 1)=1:=by simp only [HT.sIx];split <;> omega
  have e2:HT.sIx (L.length+2) (L.length+2) (some (-1))=L.length+1:=by simp only [HT.sIx];split <;> omega
  rw [mk_cps,l,e1,e2]
  show (L++[93]).take (L.length+1 - 1)=L
  rw [Nat.add_sub_cancel,List.take_left]
def sp_lby:Sp:=fun vs H Q _=>∃ x:Wr,vs=[.str (mk x.txt)]∧x.Ok∧x.txt.length≤40∧∀ H',Same H H'→Q (.str (mk x.lets)) H'
theorem has_lby (D:Df K mg "letters_by" s_letters_by) (B:Blt7 mg) (G_is_letters:Has P w K mg base "is_letters" k ["thing"] sp_letters) (G_is_rising:Has P w K mg base "is_rising" k ["things"] sp_rising):Has P w K mg base "letters_by" (k+1) ["part"] sp_lby:=by
  refine D.has sc_letters_by (fun _ _ _ _ _ _ us hl=>match us,hl with | [_],_=>rfl) (fun vs H Q E h=>by obtain ⟨x,rfl,_⟩:=h;rfl) (fun f cdv A outer s H vs Q E hr h=>?_)
  obtain ⟨x,rfl,ok,l40,q⟩:=h
  obtain ⟨u2,h_LETTERS,r_LETTERS⟩:=B.letters
  refine ⟨_,(pss_cons (ps_if (pt_cmpR op_eq (pv 0) pe_str (nomark _))
  (pss_one (ps_ret (pe_glob (v:=.str "abcdefghijklmnopqrstuvwxyz") rfl h_LETTERS r_LETTERS)))
  pss_nil)
  (pss_cons (ps_set (i:=1) sc_letters_by.nd rfl (by first | exact Or.inl rfl | exact Or.inr rfl) (pe_ifExp (pt_truth (pe_bm PySem.F.plainAttrs_str PySem.F.slot_str_endswith PySem.F.type_str_endswith mt_endswith (pv 0) (pa_cons pe_str pa_nil)) (fun _=>rfl)) (pe_slice sl_str (pv 0) (po_some pe_int) (po_some (pe_un un_neg pe_int))) (pv 0)))
  (pss_cons (ps_if (PW.pt (pw_or (pt_cmpR op_eq (pv 1) pe_str (nomark _)) (pw_or (pt_not (pt_val (pe_callH G_is_letters hr rfl (pa_cons (pv 1) pa_nil)))) (pw_or1 (pt_not (pt_val (pe_callH G_is_rising hr rfl (pa_cons (pv 1) pa_nil))))))))
  (pss_one ps_raise0)
  pss_nil)
  (pss_one (ps_ret (pv 1)))))),?_⟩
  obtain ⟨low,pw,ne⟩:=W63.lets_ok x ok
  have ll:=W63.lets_len x ok
  have zb:(mk x.txt).length≤sizeLine:=by rw [mk_len];exact line_le (by omega)
  have e2:Str.ofString "]" = mk [93]:=by decide +kernel
  have e3:Str.ofString "." = mk [46]:=by decide +kernel
  have mi:∀ {a b:List Nat},mk a=mk b→a=b:=fun {a b} h=>by have:=congrArg (fun z:Str=>z.cps.toList) h;exact this
  refine ⟨_,rfl,rfl,_,rfl,?_⟩
  rw [e3]
  by_cases xd:x=.dot
  · subst xd
    refine iteA (decide_eq_true rfl) ?_
    rw [abc_mk]
    exact q _ (Same.refl H)
  refine L2.iteB (decide_eq_false fun e=>xd ?_) ?_
  · have e':mk x.txt=mk [46]:=by injection e
    have:=mi e'
    cases x with
    | one c=>injection this with h _;have:Lw c:=ok;unfold Lw at this;omega
    | dot=>rfl
    | br L=>injection this with h _;cases h
  dsimp only [tNext]
  refine mid (fun σ' H'=>σ'=[some (.str (mk x.txt)),some (.str (mk x.lets))]∧H'=H) ?_ fun E2 nx=>?_
  rotate_left
  · refine ⟨_,rfl,rfl,_,_,rfl,rfl,_,rfl,?_⟩
    rw [e2]
    cases x with
    | one c=>
      refine L2.iteB ?_ ?_
      · have:=ends_one (l:=[]) (a:=c) (b:=93)
        have lc:Lw c:=ok
        unfold Lw at lc
        exact this.trans (decide_eq_false (by omega))
      · exact ⟨_,rfl,nx _ _ ⟨rfl,rfl⟩⟩
    | dot=>exact absurd rfl xd
    | br L=>
      refine iteA ?_ ?_
      · exact (ends_one (l:=91 :: L) (a:=93) (b:=93)).trans (by decide)
      · refine ⟨_,rfl,_,rfl,_,rfl,_,rfl,_,rfl,zb,nx _ _ ⟨?_,rfl⟩⟩
        show [some (V.str (mk (Wr.txt (.br L)))),some (V.str (cutS (mk (91 :: (L++[93]))) (some 1) (some (-1))))]=_
        rw [cut_br];rfl
  rintro σ' H' ⟨rfl,rfl⟩
  have zl:(mk x.lets).length≤60:=by rw [mk_len];omega
  refine ⟨_,rfl,rfl,_,rfl,L2.iteB (decide_eq_false fun e=>?_) ?_⟩
  · have e':mk x.lets=Str.ofString "" := by injection e
    rw [show Str.ofString "" = mk [] by decide +kernel] at e'
    exact ne (mi e')
  refine ⟨_,rfl,_,rfl,zl,low,fun H1 s1=>⟨_,rfl,iteF ?_⟩⟩
  refine ⟨_,rfl,_,rfl,by omega,pw,fun H2 s2=>⟨_,rfl,iteF ?_⟩⟩
  exact ⟨_,rfl,q _ (s1.trans s2)⟩
def sp_items:Sp:=fun vs H Q _=>∃ xs:List Wi,vs=[.str (mk (enc xs))]∧(∀ x∈xs,x.1.Ok)∧(enc xs).length≤40∧∀ (l:Addr) (H':Hp),Same H H'→H l=none→ItsAt H' l (dec xs)→Q (.ref l) H'
theorem has_items (D:Df K mg "items_of" s_items_of) (B:Blt7 mg) (G_part_ahead:Has P w K mg base "part_ahead" k ["text"] sp_part) (G_letters_by:Has P w K mg base "letters_by" k ["part"] sp_lby):Has P w K mg base "items_of" (k+1) ["pattern"] sp_items:=by
  refine D.has sc_items_of (fun _ _ _ _ _ _ us hl=>match us,hl with | [_],_=>rfl) (fun vs H Q E h=>by obtain ⟨x,rfl,_⟩:=h;rfl) (fun f cdv A outer s H vs Q E hr h=>?_)
  obtain ⟨xs,rfl,ok,l40,q⟩:=h
  obtain ⟨u2,h_MOST_SIGNS,r_MOST_SIGNS⟩:=B.most
  refine ⟨_,(pss_cons (ps_if (PW.pt (pw_or (pt_not (pt_val (pe_callB call_isinst rfl B.isinstance bt_isinstance (pa_cons (pv 0) (pa_cons (pe_bltn (v:=.ty "str") rfl B.str_ bt_str rfl) pa_nil))))) (pw_or1 (pt_cmpR op_gt (pe_callB call_len_str rfl B.len bt_len (pa_cons (pv 0) pa_nil)) (pe_glob (v:=.int 40) rfl h_MOST_SIGNS r_MOST_SIGNS) (nomark _)))))
  (pss_one ps_raise0)
  pss_nil)
  (pss_cons (ps_set (i:=1) sc_items_of.nd rfl (by first | exact Or.inl rfl | exact Or.inr rfl) (pe_lst pa_nil))
  (pss_cons (ps_set (i:=2) sc_items_of.nd rfl (by first | exact Or.inl rfl | exact Or.inr rfl) (pv 0))
  (pss_cons (ps_while PassesOwn.never (pt_cmpR op_ne (pv 2) pe_str (nomark _))
  (pss_cons (ps_set (i:=3) sc_items_of.nd rfl (by first | exact Or.inl rfl | exact Or.inr rfl) (pe_callH G_part_ahead hr rfl (pa_cons (pv 2) pa_nil)))
  (pss_cons (ps_set (i:=2) sc_items_of.nd rfl (by first | exact Or.inl rfl | exact Or.inr rfl) (pe_slice sl_str (pv 2) (po_some (pe_callB call_len_str rfl B.len bt_len (pa_cons (pv 3) pa_nil))) po_none))
  (pss_cons (ps_set (i:=4) sc_items_of.nd rfl (by first | exact Or.inl rfl | exact Or.inr rfl) (pe_bm PySem.F.plainAttrs_str PySem.F.slot_str_startswith PySem.F.type_str_startswith mt_startswith (pv 2) (pa_cons pe_str pa_nil)))
  (pss_cons (ps_if (pt_val (pv 4))
  (pss_one (ps_set (i:=2) sc_items_of.nd rfl (by first | exact Or.inl rfl | exact Or.inr rfl) (pe_slice sl_str (pv 2) (po_some pe_int) po_none)))
  pss_nil)
  (pss_one (ps_expr (pe_bm PySem.F.plainAttrs_list PySem.F.slot_list_append PySem.F.type_list_append mt_append (pv 1) (pa_cons (pe_tup (pa_cons (pe_callH G_letters_by hr rfl (pa_cons (pv 3) pa_nil)) (pa_cons (pv 4) pa_nil))) pa_nil)))))))))
  (pss_one (ps_ret (pv 1))))))),?_⟩
  have zb:(mk (enc xs)).length≤sizeLine:=by rw [mk_len];exact line_le (by omega)
  have e1:Str.ofString "*" = mk [42]:=by decide +kernel
  have e0:Str.ofString "" = mk []:=by decide +kernel
  have mi:∀ {a b:List Nat},mk a=mk b→a=b:=fun {a b} h=>by have:=congrArg (fun z:Str=>z.cps.toList) h;exact this
  refine ⟨_,rfl,_,_,_,true,rfl,.str _,kit_same _ _,_,rfl,iteF ?_⟩
  refine ⟨_,rfl,_,rfl,zb,_,_,rfl,rfl,_,rfl,L2.iteB (decide_eq_false (by rw [mk_len];omega)) ?_⟩
  refine ⟨line_le (show 0≤1000 by omega),fun l hl=>?_⟩
  refine ⟨_,rfl,?_⟩
  refine ⟨fun m σ H''=>∃ (done todo:List Wi) (o3 o4:Option V),xs=done++todo∧σ=[some (.str (mk (enc xs))),some (.ref l),some (.str (mk (enc todo))),o3,o4]∧Same H H''∧ItsAt H'' l (dec done)∧m=todo.length,
    ⟨_,[],xs,none,none,rfl,rfl,(Same.refl H).new hl,⟨[],upd_same,rfl,fun i x e=>by cases e⟩,rfl⟩,?_⟩
  rintro m σ H2 ⟨done,todo,o3,o4,ex,rfl,s2,it,rfl⟩
  refine ⟨_,rfl,rfl,_,rfl,ite2 (fun cnd=>?_) (fun cnd=>?_)⟩
  rotate_left
  · have e:todo=[]:=by
      cases todo with
      | nil=>rfl
      | cons x rest=>
        refine absurd ?_ cnd
        rw [decide_eq_false ?_]
        · rfl
        intro z
        have z':mk (enc (x :: rest))=Str.ofString "" := by injection z
        rw [e0] at z'
        have:=congrArg List.length (mi z')
        rw [W63.enc_cons,List.length_append,List.length_nil] at this
        have:=W63.txt_pos x.1
        omega
    subst e
    rw [List.append_nil] at ex
    subst ex
    exact ⟨_,rfl,q _ _ s2 hl it⟩
  cases todo with
  | nil=>
    exact absurd cnd (by rw [e0];simp [enc])
  | cons x rest=>
    have okx:=ok x (by rw [ex];simp)
    have okr:∀ y∈rest,y.1.Ok:=fun y hy=>ok y (by rw [ex];simp [hy])
    have lx:(enc (x :: rest)).length≤40:=by rw [ex,W63.enc_app,List.length_append] at l40;omega
    have ec:=W63.enc_cons x rest
    rw [ec] at lx
    have lx2:=lx
    rw [List.length_append] at lx2
    refine ⟨_,fun σ' H3 h=>h,?_⟩
    refine ⟨_,rfl,x.1,star x.2++enc rest,by rw [ec];rfl,okx,lx,fun H3 s3=>?_⟩
    refine ⟨_,rfl,_,rfl,_,rfl,by rw [mk_len];exact line_le (by omega),_,rfl,_,rfl,by rw [mk_len,ec];exact line_le (by omega),?_⟩
    rw [ec,mk_len,cut_mk]
    have sw:Txt.startswith (mk (star x.2++enc rest)) (mk [42])=x.2:=by
      cases x.2 with
      | true=>exact (starts_one (a:=42) (l:=enc rest) (b:=42)).trans (by decide)
      | false=>
        rcases W63.enc_head rest okr with e | ⟨c,r,e,n⟩
        · show Txt.startswith (mk ([]++enc rest)) (mk [42])=false
          rw [e];exact starts_nil
        · show Txt.startswith (mk ([]++enc rest)) (mk [42])=false
          rw [e];exact (starts_one (a:=c) (l:=r) (b:=42)).trans (decide_eq_false n)
    refine ⟨_,rfl,rfl,_,_,rfl,rfl,?_⟩
    rw [e1,sw]
    dsimp only [gName]
    refine mid (fun σ' H'=>σ'=[some (.str (mk (enc xs))),some (.ref l),some (.str (mk (enc rest))),some (.str (mk x.1.txt)),some (.bl x.2)]∧H'=H3) ?_ fun E2 nx=>?_
    rotate_left
    · refine ⟨_,rfl,_,rfl,?_⟩
      cases hx:x.2 with
      | true=>
        refine iteT ?_
        refine ⟨_,rfl,_,rfl,_,rfl,by rw [mk_len];exact line_le (by simp [star,hx] at lx2 ⊢;omega),nx _ _ ⟨?_,rfl⟩⟩
        have:=cut_mk [42] (enc rest)
        rw [hx]
        show [_,_,some (V.str (cutS (mk ([42]++enc rest)) (some 1) none)),_,_]=_
        rw [show (some (1:Int))=some (([42]:List Nat).length:Int) from rfl,this]
      | false=>
        refine iteF ?_
        exact nx _ _ ⟨by rw [hx];rfl,rfl⟩
    rintro σ' H' ⟨rfl,rfl⟩
    obtain ⟨vs,hv,lv,at_⟩:=it.same s3
    refine ⟨_,rfl,.inl ⟨rfl,_,SqL.of hv⟩,_,rfl,x.1,rfl,okx,by omega,fun H4 s4=>?_⟩
    refine ⟨_,rfl,line_le (show 2≤1000 by omega),fun t ht=>?_⟩
    have hv4:=s4 _ _ hv
    have lt:l≠t:=ne_of_none hv4 ht
    have s5:Same H4 (upd H4 t (.tup [.str (mk x.1.lets),.bl x.2])):=(Same.refl H4).new ht
    have dl:done.length≤40:=by
      have:=W63.dec_len done
      have h1:∀ ys:List Wi,ys.length≤(enc ys).length:=fun ys=>by
        induction ys with
        | nil=>exact Nat.zero_le _
        | cons y ys ih=>rw [W63.enc_cons,List.length_append,List.length_append,List.length_cons];have:=W63.txt_pos y.1;omega
      have:=h1 done
      rw [ex,W63.enc_app,List.length_append] at l40
      omega
    have dl2:=W63.dec_len done
    refine ⟨l,vs,_,rfl,rfl,s5 _ _ hv4,Nat.lt_of_lt_of_le (show vs.length < 1000 by omega) (line_le (Nat.le_refl _)),?_⟩
    refine ⟨rest.length,by simp,done++[x],rest,_,_,by rw [ex];simp,rfl,((s2.trans s3).trans (s4.trans s5)).write hl,⟨vs++[.ref t],upd_same,by rw [List.length_append,lv,W63.dec_len,W63.dec_len,List.length_append];rfl,fun i y e=>?_⟩,rfl⟩
    have ed:dec (done++[x])=dec done++[(x.1.lets,x.2)]:=by unfold dec;rw [List.map_append];rfl
    rw [ed] at e
    rcases Nat.lt_or_ge i (dec done).length with h | h
    · rw [List.getElem?_append_left h] at e
      obtain ⟨a,e1,e2⟩:=at_ i y e
      refine ⟨a,by rw [List.getElem?_append_left (by omega)];exact e1,?_⟩
      have:=s5 _ _ (s4 _ _ e2)
      have na:a≠l:=fun z=>by rw [z,s5 _ _ hv4] at this;cases this
      rw [upd_ne na];exact this
    · rw [List.getElem?_append_right h] at e
      have hi:i=(dec done).length:=by
        have:=(List.getElem?_eq_some_iff.mp e).1
        simp at this
        omega
      rw [hi,Nat.sub_self] at e
      injection e with e
      subst e
      refine ⟨t,by rw [hi,List.getElem?_append_right (by omega),lv,Nat.sub_self];rfl,?_⟩
      rw [upd_ne (Ne.symm lt)];exact upd_same
end
end S67
namespace L2
open PySem PySem.Spec PyProof.Rows PySem.W
theorem stored_le (kvs:List (Key × Value)) (k:Key) (v:Value):(stored kvs k v).length≤kvs.length+1:=by
  unfold stored
  split
  · rw [List.length_map];omega
  · rw [List.length_append];exact Nat.le_refl _
theorem merged_le:∀ (kvs more:List (Key × Value)),(merged kvs more).length≤kvs.length+more.length
  | kvs,[]=>Nat.le_refl _
  | kvs,m :: more=>by
    have:=merged_le (stored kvs m.1 m.2) more
    have:=stored_le kvs m.1 m.2
    show (merged (stored kvs m.1 m.2) more).length≤_
    rw [List.length_cons];omega
section
variable {prog:Program} {w:World} {A:Around} {E:Value→Shared→Prop}
theorem dict_loopM {l I D:Addr} {items:Array Value} {ps:List (Key × Value)} {R:Result→Shared→Prop} (hh:A.handled=none) (lI:l≠I) (DI:D≠I) (Dl:D≠l) (nI:∀ a:Addr,Value.ref a∈items→a≠I) (hn:items.size < 10000) :
    ∀ (n i:Nat) (s:Shared),items.size - i=n→i≤items.size→s.heap.IsListIter I l i→s.heap.IsList l items→DPrs s.heap D items ps→s.heap.DictOf (mixKind prog w) D (merged [] (ps.take i)) →
      (∀ h' tk,(∀ b o,b≠I→b≠D→s.heap.get? b=some o→h'.get? b=some o)→h'.DictOf (mixKind prog w) D (merged [] ps)→R (.ok (.ret .none)) { s with heap:=h',toks:=tk }) →
      codeAny (model prog w) A (.builtin "dict.update.loop" ⟨[.ref D,.ref I,rawInt i,.none],[]⟩) R s
  | 0,i,s,hk,hi,h1,h2,h3,h4,h=>by
    have ei:i=items.size:=by omega
    subst ei
    refine codeAny_builtin entry_dict_loop ?_
    rw [Around.under_plainId plain_dict_loop _]
    show wpAny _ A.in1 (pyNext (.ref I) >>= _) _ _ s
    have Wk:=Walks.list (prog:=prog) (w:=w) (A:=A.in1) hh I l lI items
    refine wpAny_bind (Wk.done s _ _ ⟨h1,h2⟩ fun h' tk kp=>?_)
    refine wpAny_bind (m:=Builtin.Dict.addKeywords D []) (wpAny_pure (wpAny_pure ?_))
    refine h h' tk (fun b o n1 _ e=>kp b o (by simpa using n1) e) ?_
    rw [List.take_of_length_le (by rw [h3.1];exact Nat.le_refl _)] at h4
    obtain ⟨o,es,ep,e,r⟩:=h4
    exact ⟨o,es,ep,kp D o (by simpa using DI) e,r⟩
  | n+1,i,s,hk,hi,h1,h2,h3,h4,h=>by
    have il:i < items.size:=by omega
    refine codeAny_builtin entry_dict_loop ?_
    rw [Around.under_plainId plain_dict_loop _]
    show wpAny _ A.in1 (pyNext (.ref I) >>= _) _ _ s
    have Wk:=Walks.list (prog:=prog) (w:=w) (A:=A.in1) hh I l lI items
    refine wpAny_bind (Wk.item i s _ _ il ⟨h1,h2⟩ fun v h' tk hP hSt kp=>?_)
    obtain ⟨pk,pv,hps⟩:∃ pk pv,ps[i]?=some (pk,pv):=⟨_,_,List.getElem?_eq_getElem (by rw [h3.1];exact il)⟩
    obtain ⟨a,ku,ha,hD,hk',tup⟩:=h3.2 i pk pv hps
    have ev:v=.ref a:=Option.some.inj (hP.symm.trans ha)
    subst ev
    have aI:a≠I:=nI a (Array.mem_of_getElem? ha)
    obtain ⟨o,e1,e2,n2,e3⟩:=tup
    have e1':=kp a o (by simpa using aI) e1
    have hTt:(Shared.mk h' s.gens s.drawn tk s.os).TypeIs (.ref a) "tuple" := ⟨o,e1',e2⟩
    have h4':h'.DictOf (mixKind prog w) D (merged [] (ps.take i)):=by
      obtain ⟨o,es,ep,e,r⟩:=h4
      exact ⟨o,es,ep,kp D o (by simpa using DI) e,r⟩
    dsimp only
    refine wpAny_bind (wpAny_holding ?_)
    refine wpAny_bind (wpAny_tryCatch ?_)
    unfold Builtin.Dict.pairItems
    refine wpAny_bind (wpAny_typeOf hTt ?_)
    rw [if_pos (by decide)]
    refine wpAny_bind ?_
    unfold seqItems?
    refine wpAny_bind (wpAny_load e1' ?_)
    rw [e3]
    refine wpAny_pure (wpAny_pure ?_)
    refine wpAny_holding (wpAny_dictSet_pairs (kV_is hk') h4' (fun h2' dd sb=>?_) (Nat.le_of_lt (small10000 (by have:=merged_le [] (ps.take i);rw [List.length_take] at this;have:=Nat.min_le_left i ps.length;simp at *;omega))))
    refine wpAny_pure ⟨plainId_quiet plain_dict_loop _,?_⟩
    rw [← merged_take_succ [] ps i _ hps] at dd
    have kk:∀ b o,b≠I→b≠D→s.heap.get? b=some o→h2'.get? b=some o:=fun b o n1 n2 e=>(sb.2 b n2).trans (kp b o (by simpa using n1) e)
    refine dict_loopM hh lI DI Dl nI hn n (i+1) { s with heap:=h2',toks:=tk+1 } (by omega) (by omega) ?_ ?_ (h3.keeps nI kk) dd fun h5 tk5 k5 d5=>?_
    · exact hSt.1.at fun o e=>(sb.2 I (Ne.symm DI)).trans e
    · obtain ⟨o,e,r⟩:=hSt.2
      exact ⟨o,(sb.2 l (Ne.symm Dl)).trans e,r⟩
    · exact h h5 tk5 (fun b o n1 n2 e=>k5 b o n1 n2 (kk b o n1 n2 e)) d5
end
section
variable {prog:Program} {w:World} {A:Around} {E:Value→Shared→Prop} {s:Shared}
theorem dict_prsM {l:Addr} {items:List Value} {n:Nat} {ps:List (Key × Value)} {Q:Value→Shared→Prop} (hh:A.handled=none) (hl:s.heap.get? l=some { cls:=.type "list", data:=.seq items.toArray n }) (hps:DPrs s.heap s.heap.objs.size items.toArray ps) (hn:items.length < 10000)
    (h:∀ h' tk,(∀ b o,s.heap.get? b=some o→h'.get? b=some o)→h'.DictOf (mixKind prog w) s.heap.objs.size (merged [] ps)→Q (.ref s.heap.objs.size) { s with heap:=h',toks:=tk }) :
    wpAny (model prog w) A (call (.type "dict") [.ref l]) Q E s:=by
  have hlt:l < s.heap.objs.size:=Heap.lt_size hl
  refine callType_codes (Q₁:=fun obj s₁=>obj=.ref s.heap.objs.size∧s₁={ s with heap:=s.heap.push { cls:=.type "dict", data:=.dict #[] } }) F.kt_called_dict (F.kt_typeCall_dict_1 _) F.entry_dict_init (kt_code_dict_new _ ⟨rfl,rfl⟩) ?_
  rintro obj s₁ ⟨rfl,rfl⟩
  have hnew:(s.heap.push { cls:=.type "dict", data:=.dict #[] }).DictOf (mixKind prog w) s.heap.objs.size []:=Heap.DictOf.new s.heap
  refine ⟨hnew.typeIs,F.args_dict_init_2 _ _,?_⟩
  unfold Builtin.«dict.__init__»
  refine wpAny_bind ?_
  unfold Builtin.Dict.selfAndRest
  refine wpAny_bind (wpAny_notOrdered_dict hnew.typeIs ?_)
  show wpAny _ _ (pure (s.heap.objs.size,[Value.ref l])) _ _ _
  refine wpAny_pure ?_
  show wpAny _ _ (Builtin.Dict.updateFrom "dict.__init__" s.heap.objs.size (.ref l) [] .none) _ _ _
  unfold Builtin.Dict.updateFrom
  have hl1:(s.heap.push { cls:=.type "dict", data:=.dict #[] }).get? l=some { cls:=.type "list", data:=.seq items.toArray n }:=Heap.get?_push_of_some _ hl
  have hT:(Shared.mk (s.heap.push { cls:=.type "dict", data:=.dict #[] }) s.gens s.drawn s.toks s.os).TypeIs (.ref l) "list" := ⟨_,hl1,rfl⟩
  refine wpAny_bind (wpAny_typeOf hT ?_)
  rw [if_pos (by decide)]
  refine wpAny_bind (keys_none hl1 hh fun h2 tk2 k2=>?_)
  rw [if_pos (by rfl)]
  refine wpAny_bind (wpAny_rule ?_)
  have hl2:=k2 _ _ hl1
  refine wpAny_bind (wpAny_pyIter_list (s:={ s with heap:=h2,toks:=tk2 }) (items:=items.toArray) ⟨_,hl2,rfl,n,rfl⟩ ?_)
  refine wpAny_pure ⟨plainId_quiet plain_dict_loop _,?_⟩
  have D2:s.heap.objs.size < h2.objs.size:=by
    obtain ⟨o,es,ep,e,_⟩:=hnew
    exact Heap.lt_size (k2 _ _ e)
  have l2:l < h2.objs.size:=Heap.lt_size hl2
  have k02:∀ b o,s.heap.get? b=some o→h2.get? b=some o:=fun b o e=>k2 _ _ (Heap.get?_push_of_some _ e)
  have tlt:∀ a:Addr,Value.ref a∈items.toArray→a < s.heap.objs.size:=fun a ha=>by
    obtain ⟨j,hj,e⟩:=Array.getElem_of_mem ha
    have hj':j < ps.length:=by rw [hps.1];exact hj
    obtain ⟨a',ku,ha',_,_,o,e1,_⟩:=hps.2 j ps[j].1 ps[j].2 (List.getElem?_eq_getElem hj')
    have:a'=a:=by
      have e2:items.toArray[j]?=some (Value.ref a):=by rw [Array.getElem?_eq_getElem hj,e]
      rw [ha'] at e2
      cases e2;rfl
    subst this
    exact Heap.lt_size e1
  refine dict_loopM (l:=l) (D:=s.heap.objs.size) (ps:=ps) (show A.in1.handled=none from hh) (Nat.ne_of_lt l2) (Nat.ne_of_lt D2) (Nat.ne_of_gt hlt) (fun a ha=>Nat.ne_of_lt (Nat.lt_trans (tlt a ha) D2)) (by rw [List.size_toArray];exact hn) items.toArray.size 0 { s with heap:=h2.push { cls:=.type "list_iterator", data:=.fields #[.ref l,.int 0 0] },toks:=tk2 } (Nat.sub_zero _) (Nat.zero_le _) ⟨_,Heap.get?_push_size _ rfl,rfl,rfl⟩ ⟨_,Heap.get?_push_of_some _ hl2,rfl,n,rfl⟩ ?_ ?_ fun h' tk kp hd=>?_
  · refine ⟨hps.1,fun j k v e=>?_⟩
    obtain ⟨a,ku,ha,hD,hk,o,e1,e2⟩:=hps.2 j k v e
    exact ⟨a,ku,ha,hD,hk,o,Heap.get?_push_of_some _ (k02 _ _ e1),e2⟩
  · obtain ⟨o,es,ep,e,r⟩:=hnew
    exact ⟨o,es,ep,Heap.get?_push_of_some _ (k2 _ _ e),r⟩
  · exact ⟨rfl,h h' tk (fun b o e=>kp b o (Nat.ne_of_lt (Nat.lt_trans (Heap.lt_size e) D2)) (Nat.ne_of_lt (Heap.lt_size e)) (Heap.get?_push_of_some _ (k02 _ _ e))) hd⟩
end
section
variable {X:Cx}
theorem call_dict_prsM (hc:X.calm=true):CallR X (.type "dict") (fun vs H Q=>∃ (l:Addr) (as:List Addr) (kvs:List (Key × V)),vs=[.ref l]∧H l=some (.lst (as.map V.ref))∧as.length=kvs.length ∧
    (∀ (j:Nat) a k v,as[j]?=some a→kvs[j]?=some (k,v)→H a=some (.tup [kV k,v]))∧as.length < 10000∧∀ d,H d=none→Q (.ref d) (upd H d (.dK (mergeK [] kvs)))):=by
  intro pins s σ H xs us Q I r h
  obtain ⟨l,as,kvs,rfl,hH,hlen,hT,h1000,q⟩:=h
  obtain ⟨u,rfl,ru⟩:=vals1 r
  cases (show u=Value.ref l from ru)
  obtain ⟨z,its,n,rv,hz,e⟩:=I.lstM hH
  rw [List.length_map] at hz
  have hit:∀ (j:Nat) a,as[j]?=some a→its[j]?=some (Value.ref a):=fun j a ha=>by
    obtain ⟨w',e1,e2⟩:=rv.get (i:=j) (x:=V.ref a) (by rw [List.getElem?_map,ha];rfl)
    cases (show w'=Value.ref a from e2)
    exact e1
  obtain ⟨ps,pr,pq⟩:=build_ps (h:=s.heap) as kvs hlen fun j a k v h1 h2=>by
    obtain ⟨_,its',r',t'⟩:=(show ObjOk X.prog X.w H s.heap a (.tup [kV k,v]) from I.hok a _ (hT j a k v h1 h2))
    cases r' with
    | cons ra rb=>
      cases rb with
      | cons rb rc=>
        cases rc
        exact ⟨_,_,ra,rb,t'⟩
  have hb:sysModules < s.heap.objs.size:=I.big
  have pl:=pr.length
  refine dict_prsM (ps:=ps) (I.ok.hd hc) e ⟨?_,fun j k v e1=>?_⟩ (by omega) fun h' tk kp dd=>?_
  · rw [List.size_toArray];omega
  · obtain ⟨a,ku,ha,hk,t⟩:=pq j k v e1
    refine ⟨a,ku,by rw [List.getElem?_toArray];exact hit j a ha,?_,hk,t⟩
    obtain ⟨o,e2,_⟩:=t
    exact Nat.ne_of_lt (Heap.lt_size e2)
  · refine ⟨.ref s.heap.objs.size,_,I.laid (a:=s.heap.objs.size) (o:=.dK (mergeK [] kvs)) (t':=tk) (fun b o e=>kp b o e) (Nat.le_refl _) (dk_new (Nat.le_of_lt (small10000 (by have:=length_mergeK kvs [];simp at this;omega))) (beq_eq_false_iff_ne.mpr (Ne.symm (Nat.ne_of_lt hb))) (KV.merge pr .nil) dd),rfl,q _ (I.hok.fresh (Nat.le_refl _))⟩
end
theorem val_merge (k:Key) (y:V):∀ (ks:List Key) (kvs:List (Key × V)),(valV (mergeK kvs (ks.map fun j=>(j,y))) k).isSome=true ↔ ((valV kvs k).isSome=true∨k∈ks)
  | [],kvs=>by simp [mergeK]
  | j :: ks,kvs=>by
    show (valV (mergeK (putK kvs j y) (ks.map fun j=>(j,y))) k).isSome=true ↔ _
    rw [val_merge k y ks,valV_put]
    by_cases e:k=j
    · rw [if_pos e,e];simp
    · rw [if_neg e];simp [e]
end L2
namespace L2
open PySem PySem.Spec PyProof.Rows PySem.W Tim
section
variable {X:Cx}
theorem call_sortedDI (hc:X.calm=true):CallR X (.builtin "sorted") (fun vs H Q=>∃ (a:Addr) (kvs:List (Key × V)) (zs:List Int),vs=[.ref a]∧Rd H a (.dK kvs)∧kvs.map (·.1)=zs.map Sum.inl∧zs.length < 64 ∧
    ∀ (ss':List Int) (l:Addr),ss'.Perm zs→ss'.Pairwise (·≤·)→H l=none→Q (.ref l) (upd H l (.lst (ss'.map V.int)))):=by
  intro pins s σ H xs us Q I r h
  obtain ⟨a,kvs,zs,rfl,hq,hk,nd,q⟩:=h
  obtain ⟨u,rfl,ru⟩:=vals1 r
  cases (show u=Value.ref a from ru)
  have hh:X.A.in1.handled=none:=I.ok.hd hc
  obtain ⟨z,hy,vs,rv,dd⟩:=dk_rd I.hok hq
  obtain ⟨o,es,ep,ho,hrest⟩:=id dd
  have da:s.heap.DictAt (mixKind X.prog X.w) a vs ep:=⟨o,es,ho,hrest⟩
  have vl:=rv.length
  refine Calls.call_function_entry kind_sorted plain_sorted entry_sorted (args_sorted1 _) ?_
  unfold Builtin.«sorted»
  refine wpAny_bind (m:=checkCount "sorted" 1 1 _) (wpAny_pure ?_)
  have K:=kdl_dict (prog:=X.prog) (w:=X.w) (knd:=mixKind X.prog X.w) (kvs:=vs) (ep:=ep) hy
  refine wpAny_bind (collect_src (A:=X.A.in1) K hh da (by rw [← vl];exact z) fun h1 tk acc sz old1 hacc=>?_)
  have zl:zs.length=vs.length:=by
    have:=congrArg List.length hk
    rw [List.length_map,List.length_map] at this
    omega
  have hS:IntsAre acc.toList zs:=by
    refine intsAre_of (vals_at ?_ fun i x u hx hu=>?_)
    · simp [hacc.1,zl]
    · rw [List.getElem?_map] at hx
      rw [Array.getElem?_toList] at hu
      have il:i < zs.length:=by
        rw [zl,← hacc.1];exact (Array.getElem?_eq_some_iff.mp hu).1
      obtain ⟨kk,xx,e1,e2⟩:=hacc.2 i u hu
      have ki:(kvs.map (·.1))[i]?=some kk:=by
        have il':i < kvs.length:=by omega
        rw [List.getElem?_map,List.getElem?_eq_getElem il']
        obtain ⟨y,ey,_⟩:=kv_get rv (k:=kvs[i].1) (v:=kvs[i].2) (List.getElem?_eq_getElem il')
        rw [ey] at e1
        cases e1;rfl
      rw [hk,List.getElem?_map,List.getElem?_eq_getElem il] at ki
      rw [List.getElem?_eq_getElem il] at hx
      cases hx
      cases ki
      exact is_kV e2
  have al:acc.toList.length≤sizeLine:=by rw [Array.length_toList,hacc.1,← vl];exact z
  refine wpAny_bind (wpAny_newList ?_ al)
  have hL:(h1.push (seqObj "list" acc.toList.toArray 0)).get? h1.objs.size=some (seqObj "list" acc.toList.toArray 0):=Heap.get?_push_size _ rfl
  refine wpAny_bind (wpAny_holding (wpAny_call_entry slot_list_sort ⟨_,hL,rfl⟩ entry_list_sort (list_sort_tree (s:={ s with heap:=h1.push (seqObj "list" acc.toList.toArray 0),toks:=tk }) hL hS (by rw [Array.length_toList,hacc.1,← zl];exact nd) fun out ss' b1 b2 b3=>⟨_,rfl,?_⟩) (args_list_sort _)))
  obtain ⟨e,he⟩:=sortedHeap_at (out:=out) hL
  have old:∀ b o,s.heap.get? b=some o→(sortedHeap (h1.push (seqObj "list" acc.toList.toArray 0)) h1.objs.size acc.toList out).get? b=some o:=fun b o eb=>by
    have lt:=Heap.lt_size (old1 _ _ eb)
    rw [sortedHeap_old (Nat.ne_of_lt lt) (by rw [show (h1.push (seqObj "list" acc.toList.toArray 0)).objs.size=h1.objs.size+1 from Heap.size_push ..];exact Nat.lt_succ_of_lt lt)]
    exact Heap.get?_push_of_some _ (old1 _ _ eb)
  have I2:=I.laid (t':=tk) old sz (show ObjOk X.prog X.w _ _ _ (.lst (ss'.map V.int)) from ⟨by rw [List.length_map,b2.length_eq,zl,← vl];exact z,out.toList,e,intsAre_vals b1,he⟩)
  exact wpAny_pure ⟨_,rfl,.ref h1.objs.size,_,I2,rfl,q ss' _ b2 b3 (I.hok.fresh sz)⟩
theorem call_tuple_ofK (K:PySem.W.Frag) (hK:X.K=K:=by rfl):CallR X (.type "tuple") (fun xs H Q=>∃ p ys,xs=[.ref p]∧((SqL K H p ys∧∀ l,H l=none→Q (.ref l) (upd H l (.tup ys)))∨(SqT K H p ys∧Q (.ref p) H))):=by
  subst hK;exact call_tuple_of
end
end L2
namespace W66
open W63 W7
inductive At (ups:List Int) (d:Nat):Nat→Nat→Prop
  | here:At ups d 0 d
  | up {j c:Nat}:At ups d j c→0 < c→At ups d (j+1) (ups.getD c 0).toNat
theorem At.lt {ups:List Int} {lab:List Nat} (t:TreeOk ups lab) {d j c:Nat} (h:At ups d j c) (hd:d < ups.length):c < ups.length:=by
  induction h with
  | here=>exact hd
  | up h h0 ih=>have:=t.up _ h0 ih;omega
theorem At.word {ups:List Int} {lab:List Nat} (t:TreeOk ups lab) {d j c:Nat} (h:At ups d j c) (hd:d < ups.length):(W ups lab d).drop j=W ups lab c:=by
  induction h with
  | here=>rfl
  | @up j c h h0 ih=>
    have hc:=h.lt t hd
    have:=t.up _ h0 hc
    rw [← List.drop_drop,ih,W_eq t hc,if_neg (by omega)];rfl
theorem At.letter {ups:List Int} {lab:List Nat} (t:TreeOk ups lab) {d j c:Nat} (h:At ups d j c) (hd:d < ups.length):(W ups lab d).getD j 0=lab.getD c 0:=by
  have e:=h.word t hd
  rw [W_eq t (h.lt t hd)] at e
  have e2:((W ups lab d).drop j)[0]?=some (lab.getD c 0):=by rw [e];rfl
  rw [List.getElem?_drop,Nat.add_zero] at e2
  rw [List.getD_eq_getElem?_getD,e2];rfl
def Mk (its:List It) (ups:List Int) (lab:List Nat) (p s:Nat):Prop:=∃ d j,d < ups.length∧At ups d j p∧N its (W ups lab d) s j=true
def By (its:List It) (c t s:Nat):Prop:=t < its.length∧c∈(its.getD t ([],false)).1∧(if st its t=true then t else t+1)=s
theorem cl_mono {its:List It} {T U:Nat→Bool}:∀ s,(∀ r,r≤s→T r=true→U r=true)→cl its T s=true→cl its U s=true
  | 0,h,c=>h 0 (Nat.le_refl _) c
  | s+1,h,c=>by
    rw [cl,Bool.or_eq_true,Bool.and_eq_true] at c ⊢
    rcases c with c | c
    · exact .inl (h _ (Nat.le_refl _) c)
    · exact .inr ⟨cl_mono s (fun r hr=>h r (by omega)) c.1,c.2⟩
theorem cl_of {its:List It} {T:Nat→Bool} {s:Nat} (h:T s=true):cl its T s=true:=by
  cases s with
  | zero=>exact h
  | succ s=>rw [cl,h];rfl
theorem N_star {its:List It} {w:List Nat} {s n:Nat} (h:N its w s n=true) (hs:st its s=true):N its w (s+1) n=true:=by
  cases n with
  | zero=>rw [N_first] at h ⊢;rw [cl,h,hs];simp
  | succ n=>rw [N_next] at h ⊢;rw [cl,h,hs];simp
theorem by_iff {its:List It} {w:List Nat} {n c:Nat} (hc:w.getD n 0=c) (s:Nat):by_ its w n s=true ↔ ∃ t,N its w t n=true∧By its c t s:=by
  have lg:∀ t,c∈(its.getD t ([],false)).1 ↔ gd its w t n=true:=fun t=>by unfold gd good;rw [hc,decide_eq_true_eq]
  have lt:∀ t,c∈(its.getD t ([],false)).1→t < its.length:=fun t m=>by
    rcases Nat.lt_or_ge t its.length with l | l
    · exact l
    · rw [List.getD_eq_getElem?_getD,List.getElem?_eq_none l] at m;cases m
  unfold by_ By
  constructor
  · intro h
    rw [Bool.or_eq_true] at h
    rcases h with h | h
    · rw [Bool.and_eq_true,Bool.and_eq_true] at h
      have m:=(lg s).mpr h.1.2
      exact ⟨s,h.2,lt s m,m,by rw [if_pos h.1.1]⟩
    · cases s with
      | zero=>cases h
      | succ j=>
        dsimp only at h
        rw [Bool.and_eq_true,Bool.and_eq_true] at h
        have m:=(lg j).mpr h.1.2
        exact ⟨j,h.2,lt j m,m,by rw [if_neg];intro z;rw [z] at h;simp at h⟩
  · rintro ⟨t,h3,_,h2,e⟩
    have h2':=(lg t).mp h2
    by_cases s1:st its t=true
    · rw [if_pos s1] at e
      subst e
      rw [s1,h2',h3];rfl
    · rw [if_neg s1] at e
      subst e
      dsimp only
      rw [Bool.eq_false_iff.mpr s1,h2',h3];simp
def anc (ups:List Int) (d:Nat):Nat→Option Nat
  | 0=>some d
  | j+1=>match anc ups d j with
    | none=>none
    | some c=>if c=0 then none else some (ups.getD c 0).toNat
theorem at_iff {ups:List Int} {d:Nat}:∀ {j c:Nat},At ups d j c ↔ anc ups d j=some c
  | 0,c=>⟨fun h=>by cases h;rfl,fun h=>by cases h;exact .here⟩
  | j+1,c=>by
    constructor
    · intro h
      cases h with
      | @up j c' h h0=>rw [anc,at_iff.mp h];show (if c'=0 then none else _)=_;rw [if_neg (by omega)]
    · intro h
      rw [anc] at h
      cases e:anc ups d j with
      | none=>rw [e] at h;cases h
      | some c'=>
        rw [e] at h
        dsimp only at h
        by_cases h0:c'=0
        · rw [if_pos h0] at h;cases h
        · rw [if_neg h0] at h;cases h
          exact (at_iff.mpr e).up (by omega)
theorem At.few {ups:List Int} {lab:List Nat} (t:TreeOk ups lab) {d j c:Nat} (h:At ups d j c) (hd:d < ups.length):c+j≤d:=by
  induction h with
  | here=>omega
  | up h h0 ih=>have:=t.up _ h0 (h.lt t hd);omega
def mkB (its:List It) (ups:List Int) (lab:List Nat) (p s:Nat):Bool:=(List.range ups.length).any fun d=>(List.range ups.length).any fun j=>(anc ups d j == some p) && N its (W ups lab d) s j
theorem mkB_iff {its:List It} {ups:List Int} {lab:List Nat} (t:TreeOk ups lab) (p s:Nat):mkB its ups lab p s=true ↔ Mk its ups lab p s:=by
  unfold mkB Mk
  rw [List.any_eq_true]
  constructor
  · rintro ⟨d,hd,h⟩
    obtain ⟨j,_,h⟩:=List.any_eq_true.mp h
    rw [Bool.and_eq_true] at h
    exact ⟨d,j,List.mem_range.mp hd,at_iff.mpr (eq_of_beq h.1),h.2⟩
  · rintro ⟨d,j,hd,ha,hN⟩
    have:=ha.few t hd
    exact ⟨d,List.mem_range.mpr hd,List.any_eq_true.mpr ⟨j,List.mem_range.mpr (by omega),by rw [Bool.and_eq_true,hN];exact ⟨beq_iff_eq.mpr (at_iff.mp ha),rfl⟩⟩⟩
def mks (its:List It) (ups:List Int) (lab:List Nat) (p:Nat):List Nat:=(List.range (its.length+1)).filter (mkB its ups lab p)
theorem mks_mem {its:List It} {ups:List Int} {lab:List Nat} (t:TreeOk ups lab) {p s:Nat}:s∈mks its ups lab p ↔ s≤its.length∧Mk its ups lab p s:=by
  unfold mks
  rw [List.mem_filter,List.mem_range,mkB_iff t]
  exact ⟨fun h=>⟨by omega,h.2⟩,fun h=>⟨by omega,h.2⟩⟩
theorem mks_len (its:List It) (ups:List Int) (lab:List Nat) (p:Nat):(mks its ups lab p).length≤its.length+1:=by
  have:=List.length_filter_le (mkB its ups lab p) (List.range (its.length+1))
  rw [List.length_range] at this;exact this
end W66
namespace S67
open PySem L2 W7
open W63 (Wr Wi enc dec star)
abbrev nV (S:List Nat):List V:=S.map fun s:Nat=>V.int (s:Int)
theorem nV_len (S:List Nat):(nV S).length=S.length:=List.length_map _
theorem nV_snoc (S:List Nat) (s:Nat):nV S++[.int (s:Int)]=nV (S++[s]):=by unfold nV;rw [List.map_append];rfl
def stl (its:List W63.It) (T:Nat→Bool) (n:Nat):List Nat:=(List.range n).filter (W63.cl its T)
theorem stl_succ (its:List W63.It) (T:Nat→Bool) (n:Nat):stl its T (n+1)=stl its T n++(if W63.cl its T n=true then [n] else []):=by
  unfold stl
  rw [List.range_succ,List.filter_append]
  congr 1
  by_cases h:W63.cl its T n=true
  · rw [if_pos h,List.filter_cons_of_pos h];rfl
  · rw [if_neg h,List.filter_cons_of_neg h];rfl
theorem stl_le (its:List W63.It) (T:Nat→Bool) (n:Nat):(stl its T n).length≤n:=by
  have:=List.length_filter_le (W63.cl its T) (List.range n)
  rw [List.length_range] at this;exact this
theorem stl_mem {its:List W63.It} {T:Nat→Bool} {n s:Nat}:s∈stl its T n ↔ s < n∧W63.cl its T s=true:=by
  unfold stl;rw [List.mem_filter,List.mem_range]
theorem its_get {H:Hp} {its:List W63.It} {vs:List V} (h:vs.length=its.length∧∀ (i:Nat) (x:W63.It),its[i]?=some x→∃ a,vs[i]?=some (V.ref a)∧H a=some (.tup [.str (mk x.1),.bl x.2])) {i:Nat} (hi:i < its.length):∃ a,atI vs (i:Int)=some (V.ref a)∧H a=some (.tup [.str (mk (its.getD i ([],false)).1),.bl (its.getD i ([],false)).2]):=by
  obtain ⟨a,e1,e2⟩:=h.2 i _ (List.getElem?_eq_getElem hi)
  refine ⟨a,atI_nat e1,?_⟩
  rw [List.getD_eq_getElem?_getD,List.getElem?_eq_getElem hi];exact e2
section
variable {P:Program} {w:World} {K:PySem.W.Frag} {mg:Str→Option Value} {base:Heap} {k:Nat}
def sp_swith:Sp:=fun vs H Q _=>∃ (l r:Addr) (its:List W63.It) (T:List Nat),vs=[.ref l,.ref r]∧ItsAt H l its∧its.length≤40∧H r=some (.lst (nV T))∧T.length≤2500 ∧
  ∀ (q:Addr) (H':Hp),Same H H'→H q=none→H' q=some (.lst (nV (stl its (fun s=>decide (s∈T)) (its.length+1))))→Q (.ref q) H'
theorem has_swith (D:Df K mg "states_with" s_states_with) (B:Blt7 mg):Has P w K mg base "states_with" (k+1) ["items", "states"] sp_swith:=by
  refine D.has sc_states_with (fun _ _ _ _ _ _ us hl=>match us,hl with | [_,_],_=>rfl) (fun vs H Q E h=>by obtain ⟨l,r,its,T,rfl,_⟩:=h;rfl) (fun f cdv A outer s H vs Q E hr h=>?_)
  obtain ⟨l,r,its,T,rfl,it,l40,hT,T100,q⟩:=h
  refine ⟨_,(pss_cons (ps_set (i:=2) sc_states_with.nd rfl (by first | exact Or.inl rfl | exact Or.inr rfl) (pe_callTy (call_dict_prsM rfl) rfl B.dict_ bt_dict (pa_cons (pe_comp rfl (pi_list (pv 1)) (NL:=["state"]) (ix:=[]) (csc (defScope s_states_with) N_states_with) (fun cl C s₃ H₃ fp pins=>⟨(pg_name (i:=0) (show List.Nodup (["state"]:List Str) from by decide +kernel) rfl (by first | exact Or.inl rfl | exact Or.inr rfl)),pifs_nil,(pe_tup (pa_cons (pv 0) (pa_cons pe_bl pa_nil)))⟩)) pa_nil)))
  (pss_cons (ps_set (i:=3) sc_states_with.nd rfl (by first | exact Or.inl rfl | exact Or.inr rfl) (pe_lst pa_nil))
  (pss_cons (ps_for PassesOwn.never rfl (pi_range1 rfl B.range (pa_cons (pe_op op_add (pe_callB call_len_seq rfl B.len bt_len (pa_cons (pv 0) pa_nil)) pe_int) pa_nil)) (pg_name (i:=4) sc_states_with.nd rfl (by first | exact Or.inl rfl | exact Or.inr rfl))
  (pss_one (ps_if (PW.pt (pw_or (pt_cmp (pc_din (hu_of hr) (pv 4) (pv 2)) (by with_unfolding_all rfl)) (pw_or1 (PW.pt (pw_and (pt_truth (pv 3) (fun _=>rfl)) (pw_and (pt_cmpR op_eq (pe_ix ix_list (pv 3) (pe_un un_neg pe_int) (fun _ _=>rfl)) (pe_op op_sub (pv 4) pe_int) (nomark _)) (pw_and1 (pt_val (pe_ix ix_tup (pe_ix ix_list (pv 0) (pe_op op_sub (pv 4) pe_int) (fun _ _=>rfl)) pe_int (fun _ _=>rfl))))))))))
  (pss_one (ps_expr (pe_bm PySem.F.plainAttrs_list PySem.F.slot_list_append PySem.F.type_list_append mt_append (pv 3) (pa_cons (pv 4) pa_nil))))
  pss_nil)))
  (pss_one (ps_ret (pv 3)))))),?_⟩
  refine ⟨_,rfl,r,rfl,⟨_,SqL.of hT⟩,fun acc hacc=>?_⟩
  refine comp_lstB (K:=K) (a:=r) (xs:=nV T) (by rw [nV_len];omega) (fun i ys HX=>HX acc=some (.lst ys)∧Same H HX∧∃ as:List Addr,ys=as.map V.ref∧as.length=i∧∀ (j:Nat) (a:Addr) (t:Nat),as[j]?=some a→T[j]?=some t→HX a=some (.tup [.int (t:Int),.bl true]))
    (fun i ys HX h=>SqL.of (h.2.1 _ _ hT)) (fun i ys HX h=>⟨h.1,by obtain ⟨as,e,e2,_⟩:=h.2.2;rw [e,List.length_map];omega⟩) ⟨upd_same,(Same.refl H).new hacc,[],rfl,rfl,fun j a t e=>by cases e⟩ ?_ ?_
  rotate_left
  · rintro i x ys HX hx ⟨g1,g2,as,rfl,la,ha⟩
    rw [List.getElem?_map] at hx
    cases e1:T[i]? with
    | none=>rw [e1] at hx;cases hx
    | some t=>
      rw [e1] at hx
      cases hx
      refine ⟨rfl,_,rfl,line_le (show 2≤1000 by omega),fun tt htt=>?_⟩
      have ne:acc≠tt:=ne_of_none g1 htt
      have s1:Same HX (upd HX tt (.tup [.int (t:Int),.bl true])):=(Same.refl HX).new htt
      refine ⟨s1 _ _ g1,upd_same,(g2.trans s1).write hacc,as++[tt],by rw [List.map_append];rfl,by rw [List.length_append,la];rfl,fun j a t' e2 e3=>?_⟩
      rcases Nat.lt_or_ge j as.length with h | h
      · rw [List.getElem?_append_left h] at e2
        have:=s1 _ _ (ha j a t' e2 e3)
        have na:a≠acc:=fun z=>by rw [z,s1 _ _ g1] at this;cases this
        rw [upd_ne na];exact this
      · rw [List.getElem?_append_right h] at e2
        have hj:j=as.length:=by
          have:=(List.getElem?_eq_some_iff.mp e2).1
          simp at this
          omega
        rw [hj,Nat.sub_self] at e2
        cases e2
        rw [hj,la,e1] at e3
        cases e3
        rw [upd_ne (Ne.symm ne)];exact upd_same
  rintro ys H1 ⟨g1,s1,as,rfl,la,ha⟩
  rw [nV_len] at la
  refine ⟨acc,as,(T.map fun t:Nat=>(Sum.inl (t:Int):Key)).map fun j=>(j,V.bl true),rfl,g1,by rw [List.length_map,List.length_map];exact la,fun j a kk v e1 e2=>?_,by omega,fun d hd=>?_⟩
  · rw [List.getElem?_map,List.getElem?_map] at e2
    cases e3:T[j]? with
    | none=>rw [e3] at e2;cases e2
    | some t=>
      rw [e3] at e2
      cases e2
      exact ha j a t e1 e3
  have hd1:upd H1 d (.dK (mergeK [] ((T.map fun t:Nat=>(Sum.inl (t:Int):Key)).map fun j=>(j,V.bl true)))) d=some (.dK (mergeK [] ((T.map fun t:Nat=>(Sum.inl (t:Int):Key)).map fun j=>(j,V.bl true)))):=upd_same
  have s2:Same H (upd H1 d (.dK (mergeK [] ((T.map fun t:Nat=>(Sum.inl (t:Int):Key)).map fun j=>(j,V.bl true))))):=s1.new hd
  show (fun HH=>_) (upd H1 d (.dK (mergeK [] ((T.map fun t:Nat=>(Sum.inl (t:Int):Key)).map fun j=>(j,V.bl true)))))
  generalize upd H1 d (.dK (mergeK [] ((T.map fun t:Nat=>(Sum.inl (t:Int):Key)).map fun j=>(j,V.bl true))))=H2 at hd1 s2
  have inT:∀ s:Nat,(valV (mergeK [] ((T.map fun t:Nat=>(Sum.inl (t:Int):Key)).map fun j=>(j,V.bl true))) (Sum.inl (s:Int))).isSome=decide (s∈T):=fun s=>by
    rw [Bool.eq_iff_iff,val_merge,decide_eq_true_eq]
    constructor
    · rintro (z | z)
      · cases z
      · obtain ⟨t,ht,e⟩:=List.mem_map.mp z
        injection e with e
        have:t=s:=by omega
        rw [← this];exact ht
    · exact fun h=>.inr (List.mem_map.mpr ⟨s,h,rfl⟩)
  generalize mergeK [] ((T.map fun t:Nat=>(Sum.inl (t:Int):Key)).map fun j=>(j,V.bl true))=kvs at hd1 inT
  refine ⟨line_le (show 0≤1000 by omega),fun fo hfo=>?_⟩
  obtain ⟨vs,hl,lv,at_⟩:=it
  have hl2:=s2 _ _ hl
  have fd:d≠fo:=ne_of_none hd1 hfo
  have Hfo:H fo=none:=s2.free hfo
  have s3:Same H (upd H2 fo (.lst [])):=s2.new hfo
  refine ⟨_,rfl,l,_,rfl,.inl (SqL.of (s3 _ _ hl)),_,_,rfl,rfl,_,rfl,by omega,by omega,?_⟩
  rw [lv]
  have en:(((its.length:Nat):Int)+1).toNat=its.length+1:=by omega
  rw [en]
  refine for_range (lo:=0) (n:=its.length+1) (fun i σ HX=>∃ o4:Option V,σ=[some (.ref l),some (.ref r),some (.ref d),some (.ref fo),o4]∧Same H HX∧HX d=some (.dK kvs)∧HX fo=some (.lst (nV (stl its (fun s=>decide (s∈T)) i)))) ⟨none,rfl,s3,by rw [upd_ne fd];exact hd1,upd_same⟩ ?_ ?_
  · rintro i σ HX hi ⟨o4,rfl,sX,hdX,hfX⟩
    have hlX:=sX _ _ hl
    have e0:(0:Int)+(i:Int)=(i:Int):=Int.zero_add _
    have hls:=stl_le its (fun s=>decide (s∈T)) i
    rw [e0]
    have app:W63.cl its (fun s=>decide (s∈T)) i=true→HX fo=some (.lst (nV (stl its (fun s=>decide (s∈T)) i)))∧(nV (stl its (fun s=>decide (s∈T)) i)).length < sizeLine∧Same H (upd HX fo (.lst (nV (stl its (fun s=>decide (s∈T)) i)++[.int (i:Int)])))∧upd HX fo (.lst (nV (stl its (fun s=>decide (s∈T)) i)++[.int (i:Int)])) d=some (.dK kvs)∧upd HX fo (.lst (nV (stl its (fun s=>decide (s∈T)) i)++[.int (i:Int)])) fo=some (.lst (nV (stl its (fun s=>decide (s∈T)) (i+1)))):=fun c=>by
      refine ⟨hfX,Nat.lt_of_lt_of_le (show _ < 1000 by rw [nV_len];omega) (line_le (Nat.le_refl _)),sX.write Hfo,by rw [upd_ne fd];exact hdX,?_⟩
      rw [upd_same,stl_succ,if_pos c,nV_snoc]
    refine ⟨_,rfl,_,rfl,d,_,rfl,DGet.k (k:=Sum.inl (i:Int)) hdX,_,rfl,?_⟩
    have stay:W63.cl its (fun s=>decide (s∈T)) i=false→HX fo=some (.lst (nV (stl its (fun s=>decide (s∈T)) (i+1)))):=fun c=>by
      rw [hfX,stl_succ,c,if_neg (by decide),List.append_nil]
    by_cases hin:i∈T
    · refine iteA ((inT i).trans (decide_eq_true hin)) ?_
      refine iteT ?_
      obtain ⟨a1,a2,a3,a4,a5⟩:=app (by cases i with | zero=>exact decide_eq_true hin | succ j=>rw [W63.cl,decide_eq_true hin];rfl)
      exact ⟨_,rfl,.inl ⟨rfl,_,SqL.of hfX⟩,_,rfl,fo,_,_,rfl,rfl,a1,a2,_,rfl,a3,a4,a5⟩
    refine L2.iteB ((inT i).trans (decide_eq_false hin)) ?_
    refine ⟨_,rfl,_,.inl ⟨_,SqL.of hfX,rfl⟩,?_⟩
    cases i with
    | zero=>
      refine L2.iteB rfl ?_
      refine iteF ?_
      exact ⟨_,rfl,sX,hdX,stay (decide_eq_false hin)⟩
    | succ j=>
      have ec:W63.cl its (fun s=>decide (s∈T)) (j+1)=(W63.cl its (fun s=>decide (s∈T)) j && W63.st its j):=by rw [W63.cl,decide_eq_false hin,Bool.false_or]
      have ej:((j+1:Nat):Int) - 1=(j:Int):=by omega
      by_cases cj:W63.cl its (fun s=>decide (s∈T)) j=true
      · have es:nV (stl its (fun s=>decide (s∈T)) (j+1))=nV (stl its (fun s=>decide (s∈T)) j)++[.int (j:Int)]:=by rw [stl_succ,if_pos cj,← nV_snoc]
        have al:atI (nV (stl its (fun s=>decide (s∈T)) (j+1))) (-1)=some (.int (j:Int)):=by rw [es];exact atI_last _ _
        refine iteA (by rw [es];simp) ?_
        refine ⟨_,rfl,_,rfl,fo,_,_,_,rfl,rfl,SqL.of hfX,al,_,rfl,_,_,rfl,rfl,rfl,_,rfl,?_⟩
        refine iteA (decide_eq_true (by show V.int (j:Int)=V.int (((j+1:Nat):Int) - 1);rw [ej])) ?_
        obtain ⟨ia,ie1,ie2⟩:=its_get (H:=H) ⟨lv,at_⟩ (i:=j) (by omega)
        refine ⟨_,rfl,_,rfl,_,_,rfl,rfl,l,_,_,_,rfl,rfl,SqL.of hlX,by rw [ej];exact ie1,ia,_,_,_,rfl,rfl,SqT.of (sX _ _ ie2),rfl,_,rfl,?_⟩
        cases sj:W63.st its j with
        | true=>
          refine iteA sj ?_
          obtain ⟨a1,a2,a3,a4,a5⟩:=app (by rw [ec,cj,sj];rfl)
          exact ⟨_,rfl,.inl ⟨rfl,_,SqL.of hfX⟩,_,rfl,fo,_,_,rfl,rfl,a1,a2,_,rfl,a3,a4,a5⟩
        | false=>
          refine L2.iteB sj ?_
          exact ⟨_,rfl,sX,hdX,stay (by rw [ec,sj];simp)⟩
      · have st':=stay (by rw [ec,Bool.eq_false_iff.mpr cj];rfl)
        rcases List.eq_nil_or_concat (stl its (fun s=>decide (s∈T)) (j+1)) with e | ⟨ys,t,e⟩
        · refine L2.iteB (by rw [e];rfl) ?_
          refine iteF ?_
          exact ⟨_,rfl,sX,hdX,st'⟩
        · have es:nV (stl its (fun s=>decide (s∈T)) (j+1))=nV ys++[.int (t:Int)]:=by rw [e,List.concat_eq_append,← nV_snoc]
          have al:atI (nV (stl its (fun s=>decide (s∈T)) (j+1))) (-1)=some (.int (t:Int)):=by rw [es];exact atI_last _ _
          have tm:t∈stl its (fun s=>decide (s∈T)) (j+1):=by rw [e];simp
          have tj:t≠j:=fun z=>cj (by rw [← z];exact (stl_mem.mp tm).2)
          refine iteA (by rw [es];simp) ?_
          refine ⟨_,rfl,_,rfl,fo,_,_,_,rfl,rfl,SqL.of hfX,al,_,rfl,_,_,rfl,rfl,rfl,_,rfl,?_⟩
          refine L2.iteB (decide_eq_false fun z=>tj ?_) ?_
          · have z':V.int (t:Int)=V.int (((j+1:Nat):Int) - 1):=z
            injection z' with z'
            omega
          · refine iteF ?_
            exact ⟨_,rfl,sX,hdX,st'⟩
  · rintro σ HX ⟨o4,rfl,sX,hdX,hfX⟩
    exact ⟨_,rfl,q fo HX sX Hfo hfX⟩
def byl (its:List W63.It) (S:List Nat) (c:Nat):List Nat:=(S.filter fun s=>decide (s < its.length) && decide (c∈(its.getD s ([],false)).1)).map fun s=>if W63.st its s=true then s else s+1
def SN (its:List W63.It) (ws:List Nat) (n:Nat):List Nat:=(List.range (its.length+1)).filter fun s=>W63.N its ws s n
theorem SN_first (its:List W63.It) (ws:List Nat):stl its (fun s=>decide (s∈[0])) (its.length+1)=SN its ws 0:=by
  have e:(fun s:Nat=>decide (s∈[0]))=fun s=>s == 0:=by funext s;rw [Bool.eq_iff_iff];simp
  unfold stl SN
  rw [e]
  exact List.filter_congr fun s _=>(W63.N_first its ws s).symm
theorem SN_next (its:List W63.It) (ws:List Nat) (n c:Nat) (hc:ws.getD n 0=c):stl its (fun s=>decide (s∈byl its (SN its ws n) c)) (its.length+1)=SN its ws (n+1):=by
  have gl:∀ s,W63.gd its ws s n=true→s < its.length∧c∈(its.getD s ([],false)).1:=fun s h=>by
    have m:c∈(its.getD s ([],false)).1:=by rw [← hc];exact of_decide_eq_true h
    refine ⟨?_,m⟩
    rcases Nat.lt_or_ge s its.length with l | l
    · exact l
    · rw [List.getD_eq_getElem?_getD,List.getElem?_eq_none l] at m;cases m
  have lg:∀ s,s < its.length→c∈(its.getD s ([],false)).1→W63.gd its ws s n=true:=fun s _ m=>by
    unfold W63.gd W63.good;rw [hc];exact decide_eq_true m
  have mem:∀ s,s∈byl its (SN its ws n) c ↔ ∃ t,t < its.length∧c∈(its.getD t ([],false)).1∧W63.N its ws t n=true∧(if W63.st its t=true then t else t+1)=s:=fun s=>by
    unfold byl SN
    rw [List.mem_map]
    constructor
    · rintro ⟨t,ht,e⟩
      obtain ⟨h1,h2⟩:=List.mem_filter.mp ht
      obtain ⟨h3,h4⟩:=List.mem_filter.mp h1
      rw [Bool.and_eq_true] at h2
      exact ⟨t,of_decide_eq_true h2.1,of_decide_eq_true h2.2,h4,e⟩
    · rintro ⟨t,h1,h2,h3,e⟩
      refine ⟨t,List.mem_filter.mpr ⟨List.mem_filter.mpr ⟨List.mem_range.mpr (by omega),h3⟩,by rw [decide_eq_true h1,decide_eq_true h2];rfl⟩,e⟩
  have e:(fun s:Nat=>decide (s∈byl its (SN its ws n) c))=W63.by_ its ws n:=by
    funext s
    rw [Bool.eq_iff_iff,decide_eq_true_eq,mem]
    unfold W63.by_
    constructor
    · rintro ⟨t,h1,h2,h3,e⟩
      by_cases st:W63.st its t=true
      · rw [if_pos st] at e
        subst e
        rw [st,lg t h1 h2,h3];rfl
      · rw [if_neg st] at e
        subst e
        dsimp only
        rw [Bool.eq_false_iff.mpr st,lg t h1 h2,h3];simp
    · intro h
      rw [Bool.or_eq_true] at h
      rcases h with h | h
      · rw [Bool.and_eq_true,Bool.and_eq_true] at h
        obtain ⟨a,b⟩:=gl s h.1.2
        exact ⟨s,a,b,h.2,by rw [if_pos h.1.1]⟩
      · cases s with
        | zero=>cases h
        | succ j=>
          dsimp only at h
          rw [Bool.and_eq_true,Bool.and_eq_true] at h
          obtain ⟨a,b⟩:=gl j h.1.2
          exact ⟨j,a,b,h.2,by rw [if_neg];intro z;rw [z] at h;simp at h⟩
  unfold stl
  rw [e]
  unfold SN
  exact List.filter_congr fun s _=>(W63.N_next its ws n s).symm
theorem SN_len (its:List W63.It) (ws:List Nat) (n:Nat):(SN its ws n).length≤its.length+1:=by
  have:=List.length_filter_le (fun s=>W63.N its ws s n) (List.range (its.length+1))
  rw [List.length_range] at this;exact this
theorem byl_len (its:List W63.It) (S:List Nat) (c:Nat):(byl its S c).length≤S.length:=by
  unfold byl;rw [List.length_map];exact List.length_filter_le _ _
theorem nV_flat (S:List Nat):(nV S).all flatV=true:=by
  rw [List.all_eq_true]
  intro v hv
  obtain ⟨t,_,rfl⟩:=List.mem_map.mp hv
  rfl
end
end S67
namespace S67
open PySem L2 W7
open W63 (Wr Wi enc dec star)
theorem rising_pair:∀ (l:List Str) (p:Str),PyProof.Rows.risingS p l=true→(p :: l).Pairwise (fun a b=>¬ b.cps.toList < a.cps.toList)
  | [],p,_=>List.pairwise_singleton _ _
  | x :: r,p,h=>by
    have h':(!PySem.Spec.ltCps x.cps.toList p.cps.toList && PyProof.Rows.risingS x r)=true:=h
    obtain ⟨h1,h2⟩:=(Bool.and_eq_true _ _).mp h'
    have ih:=rising_pair r x h2
    have px:¬ x.cps.toList < p.cps.toList:=by
      rw [PyProof.Rows.ltCps_eq] at h1
      simpa using h1
    refine List.pairwise_cons.mpr ⟨fun y hy=>?_,ih⟩
    rcases List.mem_cons.mp hy with rfl | hy
    · exact px
    · have xy:=List.rel_of_pairwise_cons ih hy
      exact List.not_lt.mpr (List.le_trans (List.not_lt.mp px) (List.not_lt.mp xy))
theorem sorted_pair:∀ ss:List Str,PyProof.Rows.sortedS ss=true→ss.Pairwise (fun a b=>¬ b.cps.toList < a.cps.toList)
  | [],_=>List.Pairwise.nil
  | x :: r,h=>rising_pair r x h
theorem glue_cps:∀ (ss:List Str) (acc:Array Nat),(List.foldl (fun acc (p:Str)=>acc++(Str.ofString "").cps++p.cps) acc ss).toList=acc.toList++(ss.map fun z:Str=>z.cps.toList).flatten
  | [],acc=>by simp
  | x :: r,acc=>by
    rw [List.foldl_cons,glue_cps r,Array.toList_append,Array.toList_append]
    have e:(Str.ofString "").cps.toList=[]:=rfl
    rw [e,List.append_nil,List.map_cons,List.flatten_cons,List.append_assoc]
theorem join_cps (ss:List Str):(Txt.join (Str.ofString "") ss).cps.toList=(ss.map fun z:Str=>z.cps.toList).flatten:=by
  cases ss with
  | nil=>rfl
  | cons x r=>
    have:=glue_cps r x.cps
    rw [List.map_cons,List.flatten_cons]
    exact this
theorem join_set {ss:List Str} (nd:ss.Nodup) (srt:PyProof.Rows.sortedS ss=true) (one:∀ z∈ss,∃ c,z=mk [c]∧Lw c) (ne:ss≠[]) :
    ∃ L:List Nat,Txt.join (Str.ofString "") ss=mk L∧L≠[]∧(∀ c∈L,Lw c)∧L.Pairwise (· < ·)∧(ss.map (·.length)).sum+ss.length * (Str.ofString "").length≤16777216:=by
  have ex:∀ (l:List Str),(∀ z∈l,∃ c,z=mk [c]∧Lw c)→∃ L:List Nat,l=L.map (fun c=>mk [c])∧∀ c∈L,Lw c:=fun l=>by
    induction l with
    | nil=>exact fun _=>⟨[],rfl,fun c h=>nomatch h⟩
    | cons z r ih=>
      intro h
      obtain ⟨L,e,lo⟩:=ih fun y hy=>h y (List.mem_cons_of_mem _ hy)
      obtain ⟨c,rfl,lc⟩:=h z List.mem_cons_self
      refine ⟨c :: L,by rw [e];rfl,fun d hd=>?_⟩
      rcases List.mem_cons.mp hd with rfl | hd
      · exact lc
      · exact lo d hd
  obtain ⟨L,rfl,lo⟩:=ex ss one
  have pw:L.Pairwise (· < ·):=by
    have p1:=sorted_pair _ srt
    rw [List.pairwise_map] at p1
    have p2:L.Pairwise (·≠·):=by
      have:((L.map fun c=>mk [c])).Pairwise (·≠·):=nd
      rw [List.pairwise_map] at this
      exact this.imp fun {a b} h e=>h (by rw [e])
    refine (p1.and p2).imp fun {a b} h=>?_
    have h1:¬ [b] < [a]:=h.1
    rw [List.cons_lt_cons_iff] at h1
    have:¬ b < a:=fun z=>h1 (.inl z)
    have:=h.2
    omega
  have l26:=W63.rise_len L 97 (fun c hc=>lo c hc) pw (by omega)
  refine ⟨L,?_,fun e=>ne (by rw [e];rfl),lo,pw,?_⟩
  · apply str_ext
    rw [join_cps,mk_cps,List.map_map]
    have:∀ l:List Nat,(l.map ((fun z:Str=>z.cps.toList) ∘ fun c=>mk [c])).flatten=l:=fun l=>by
      induction l with
      | nil=>rfl
      | cons a l ih=>rw [List.map_cons,List.flatten_cons,ih];rfl
    exact this L
  · have e0:(Str.ofString "").length=0:=rfl
    rw [e0,Nat.mul_zero,Nat.add_zero,List.map_map]
    have:∀ l:List Nat,(l.map ((fun z:Str=>z.length) ∘ fun c=>mk [c])).sum=l.length:=fun l=>by
      induction l with
      | nil=>rfl
      | cons a l ih=>rw [List.map_cons,List.sum_cons,ih,List.length_cons];show 1+_=_;omega
    rw [this];omega
structure LIts (H:Hp) (l:Addr) (xs:List Wi):Prop where
  ex:∃ vs:List V,H l=some (.lst vs)∧vs.length=xs.length∧∀ (i:Nat) (x:Wi),xs[i]?=some x→∃ a,vs[i]?=some (V.ref a)∧H a=some (.tup [.str (mk (W63.wt x)),.str (mk x.1.lets),.bl x.2])
theorem LIts.same {H H':Hp} {l:Addr} {xs:List Wi} (h:LIts H l xs) (s:Same H H'):LIts H' l xs:=by
  obtain ⟨vs,a,b,c⟩:=h
  exact ⟨vs,s _ _ a,b,fun i x e=>let ⟨q,e1,e2⟩:=c i x e;⟨q,e1,s _ _ e2⟩⟩
theorem LIts.kd {H H':Hp} {p l:Addr} {c d:Int} {xs:List Wi} (h:LIts H l xs) (k:Kd p c H H') (np:l≠p) (dk:Deck H p d):LIts H' l xs:=by
  obtain ⟨vs,a,b,e⟩:=h
  refine ⟨vs,k.keep _ _ np a,b,fun i x e1=>?_⟩
  obtain ⟨q,e2,e3⟩:=e i x e1
  refine ⟨q,e2,k.keep _ _ (fun z=>?_) e3⟩
  obtain ⟨_,_,_,e4,_⟩:=dk
  rw [z] at e3;rw [e3] at e4;cases e4
section
variable {P:Program} {w:World} {K:PySem.W.Frag} {mg:Str→Option Value} {base:Heap} {k:Nat}
def sp_lwrit:Sp:=fun vs H Q _=>∃ (l:Addr) (xs:List Wi),vs=[.ref l]∧LIts H l xs∧xs.length≤40∧(enc xs).length≤40∧∀ H',Same H H'→Q (.str (mk (enc xs))) H'
theorem has_lwrit (D:Df K mg "_law_written" s_law_written) (B:Blt7 mg):Has P w K mg base "_law_written" (k+1) ["items_here"] sp_lwrit:=by
  refine D.has sc_law_written (fun _ _ _ _ _ _ us hl=>match us,hl with | [_],_=>rfl) (fun vs H Q E h=>by obtain ⟨l,xs,rfl,_⟩:=h;rfl) (fun f cdv A outer s H vs Q E hr h=>?_)
  obtain ⟨l,xs,rfl,it,x40,e40,q⟩:=h
  refine ⟨_,(pss_one (ps_ret (pe_bm PySem.F.plainAttrs_str PySem.F.slot_str_join PySem.F.type_str_join mt_join pe_str (pa_cons (pe_comp rfl (pi_list (pv 0)) (NL:=["text", "letters", "starred"]) (ix:=[]) (csc (defScope s_law_written) N_law_written) (fun cl C s₃ H₃ fp pins=>⟨(pg_tupK K (n:=3) rfl (pgs_cons (pg_name (i:=0) (show List.Nodup (["text", "letters", "starred"]:List Str) from by decide +kernel) rfl (by first | exact Or.inl rfl | exact Or.inr rfl)) (pgs_cons (pg_name (i:=1) (show List.Nodup (["text", "letters", "starred"]:List Str) from by decide +kernel) rfl (by first | exact Or.inl rfl | exact Or.inr rfl)) (pgs_cons (pg_name (i:=2) (show List.Nodup (["text", "letters", "starred"]:List Str) from by decide +kernel) rfl (by first | exact Or.inl rfl | exact Or.inr rfl)) pgs_nil)))),pifs_nil,(pv 0)⟩)) pa_nil)))),?_⟩
  obtain ⟨vs,hv,lv,at_⟩:=it
  refine ⟨rfl,_,rfl,l,rfl,⟨_,SqL.of hv⟩,fun acc hacc=>?_⟩
  refine comp_lst (K:=K) (a:=l) (xs:=vs) (by omega) (fun i ys HX=>HX acc=some (.lst ys)∧Same H HX∧ys=((xs.take i).map fun x=>mk (W63.wt x)).map V.str)
    (fun i ys HX h=>SqL.of (h.2.1 _ _ hv)) (fun i ys HX h=>⟨h.1,by rw [h.2.2,List.length_map,List.length_map,List.length_take];omega⟩) ⟨upd_same,(Same.refl H).new hacc,rfl⟩ ?_ ?_
  rotate_left
  · rintro i v ys HX hx ⟨g1,g2,rfl⟩
    have il:i < xs.length:=by
      have:=(List.getElem?_eq_some_iff.mp hx).1
      omega
    obtain ⟨a,e1,e2⟩:=at_ i _ (List.getElem?_eq_getElem il)
    rw [hx] at e1
    cases e1
    have tk:xs.take (i+1)=xs.take i++[xs[i]]:=by rw [List.take_succ,List.getElem?_eq_getElem il];rfl
    refine ⟨a,_,rfl,SqT.of (g2 _ _ e2),rfl,_,_,rfl,_,_,rfl,_,_,rfl,rfl,?_⟩
    refine ⟨rfl,_,rfl,g1,upd_same,g2.write hacc,?_⟩
    rw [tk,List.map_append,List.map_append];rfl
  rintro ys H1 ⟨g1,s1,rfl⟩
  rw [lv,List.take_length] at g1
  refine ⟨_,acc,xs.map (fun x=>mk (W63.wt x)),rfl,rfl,SqL.of g1,?_,?_⟩
  · have e0:(Str.ofString "").length=0:=rfl
    have sm:∀ ys:List Wi,((ys.map fun x=>mk (W63.wt x)).map (·.length)).sum=(enc ys).length:=fun ys=>by
      induction ys with
      | nil=>rfl
      | cons y ys ih=>
        rw [List.map_cons,List.map_cons,List.sum_cons,ih,mk_len]
        show _=(W63.wt y++enc ys).length
        rw [List.length_append]
    rw [e0,Nat.mul_zero,sm];omega
  · have ej:Txt.join (Str.ofString "") (xs.map fun x=>mk (W63.wt x))=mk (enc xs):=by
      apply str_ext
      rw [join_cps,mk_cps,List.map_map];rfl
    rw [ej]
    exact q _ s1
def bV (f:Nat→Bool) (n:Nat):List V:=(List.range n).map fun j=>V.bl (f j)
theorem bV_len (f:Nat→Bool) (n:Nat):(bV f n).length=n:=by simp [bV]
theorem bV_succ (f:Nat→Bool) (n:Nat):bV f (n+1)=bV f n++[.bl (f n)]:=by unfold bV;rw [List.range_succ,List.map_append];rfl
theorem bV_at {f:Nat→Bool} {n j:Nat} (h:j < n):atI (bV f n) (j:Int)=some (.bl (f j)):=atI_nat (by unfold bV;rw [List.getElem?_map,List.getElem?_range h];rfl)
def sp_ltak:Sp:=fun vs H Q _=>∃ (l:Addr) (xs:List Wi) (z:Str),vs=[.ref l,.str z]∧LIts H l xs∧xs.length≤40∧z.length≤60 ∧
  ∀ (r:Addr) (H':Hp),Same H H'→H r=none→H' r=some (.lst (bV (W63.D (dec xs) z.cps.toList xs.length) (z.length+1)))→Q (.ref r) H'
theorem has_ltak (D:Df K mg "_law_taken" s_law_taken) (B:Blt7 mg):Has P w K mg base "_law_taken" (k+1) ["items_here", "word"] sp_ltak:=by
  refine D.has sc_law_taken (fun _ _ _ _ _ _ us hl=>match us,hl with | [_,_],_=>rfl) (fun vs H Q E h=>by obtain ⟨l,xs,z,rfl,_⟩:=h;rfl) (fun f cdv A outer s H vs Q E hr h=>?_)
  obtain ⟨l,xs,z,rfl,it,x40,z60,q⟩:=h
  refine ⟨_,(pss_cons (ps_set (i:=2) sc_law_taken.nd rfl (by first | exact Or.inl rfl | exact Or.inr rfl) (pe_op op_cat (pe_lst (pa_cons pe_bl pa_nil)) (pe_op op_rep (pe_lst (pa_cons pe_bl pa_nil)) (pe_callB call_len_str rfl B.len bt_len (pa_cons (pv 1) pa_nil)))))
  (pss_cons (ps_for PassesOwn.never rfl (pi_list (pv 0)) (pg_tup rfl (pgs_cons (pg_name (i:=3) sc_law_taken.nd rfl (by first | exact Or.inl rfl | exact Or.inr rfl)) (pgs_cons (pg_name (i:=4) sc_law_taken.nd rfl (by first | exact Or.inl rfl | exact Or.inr rfl)) (pgs_cons (pg_name (i:=5) sc_law_taken.nd rfl (by first | exact Or.inl rfl | exact Or.inr rfl)) pgs_nil))))
  (pss_cons (ps_set (i:=6) sc_law_taken.nd rfl (by first | exact Or.inl rfl | exact Or.inr rfl) (pe_lst pa_nil))
  (pss_cons (ps_for PassesOwn.never rfl (pi_range1 rfl B.range (pa_cons (pe_op op_add (pe_callB call_len_str rfl B.len bt_len (pa_cons (pv 1) pa_nil)) pe_int) pa_nil)) (pg_name (i:=7) sc_law_taken.nd rfl (by first | exact Or.inl rfl | exact Or.inr rfl))
  (pss_cons (ps_set (i:=8) sc_law_taken.nd rfl (by first | exact Or.inl rfl | exact Or.inr rfl) (pe_and (pe_cmpR op_gt (pv 7) pe_int (nomark _)) (pe_one (pe_cmpR op_in_str (pe_ix ix_str (pv 1) (pe_op op_sub (pv 7) pe_int) (fun _ _=>rfl)) (pv 4) (by with_unfolding_all rfl)))))
  (pss_one (ps_if (pt_val (pv 5))
  (pss_one (ps_expr (pe_bm PySem.F.plainAttrs_list PySem.F.slot_list_append PySem.F.type_list_append mt_append (pv 6) (pa_cons (pe_or (pe_ix ix_list (pv 2) (pv 7) (fun _ _=>rfl)) (pe_one (pe_and (pv 8) (pe_one (pe_ix ix_list (pv 6) (pe_un un_neg pe_int) (fun _ _=>rfl)))))) pa_nil))))
  (pss_one (ps_expr (pe_bm PySem.F.plainAttrs_list PySem.F.slot_list_append PySem.F.type_list_append mt_append (pv 6) (pa_cons (pe_and (pv 8) (pe_one (pe_ix ix_list (pv 2) (pe_op op_sub (pv 7) pe_int) (fun _ _=>rfl)))) pa_nil))))))))
  (pss_one (ps_set (i:=2) sc_law_taken.nd rfl (by first | exact Or.inl rfl | exact Or.inr rfl) (pv 6))))))
  (pss_one (ps_ret (pv 2))))),?_⟩
  have zb:z.length≤sizeLine:=line_le (by omega)
  have zl:z.cps.toList.length=z.length:=Array.length_toList
  refine ⟨line_le (show 1≤1000 by omega),fun r1 hr1=>?_⟩
  have s1:Same H (upd H r1 (.lst [.bl true])):=(Same.refl H).new hr1
  have h1:upd H r1 (.lst [.bl true]) r1=some (.lst [.bl true]):=upd_same
  show (fun HH=>_) (upd H r1 (.lst [.bl true]))
  generalize upd H r1 (.lst [.bl true])=G1 at s1 h1
  refine ⟨line_le (show 1≤1000 by omega),fun r2 hr2=>?_⟩
  have s2:Same G1 (upd G1 r2 (.lst [.bl false])):=(Same.refl G1).new hr2
  have h2:upd G1 r2 (.lst [.bl false]) r2=some (.lst [.bl false]):=upd_same
  show (fun HH=>_) (upd G1 r2 (.lst [.bl false]))
  generalize upd G1 r2 (.lst [.bl false])=G2 at s2 h2
  have e1:[V.bl false].length * (((z.length:Nat):Int)).toNat≤sizeLine:=line_le (by show 1 * _≤1000;omega)
  refine ⟨_,rfl,z,rfl,zb,r2,_,_,rfl,rfl,h2,by omega,by omega,e1,fun r3 hr3=>?_⟩
  have er:(List.replicate (((z.length:Nat):Int)).toNat [V.bl false]).flatten=List.replicate z.length (V.bl false):=by
    rw [Int.toNat_natCast]
    generalize z.length=n
    induction n with
    | zero=>rfl
    | succ n ih=>rw [List.replicate_succ,List.flatten_cons,ih];rfl
  rw [er]
  have s3:Same G2 (upd G2 r3 (.lst (List.replicate z.length (V.bl false)))):=(Same.refl G2).new hr3
  have h3:upd G2 r3 (.lst (List.replicate z.length (V.bl false))) r3=some (.lst (List.replicate z.length (V.bl false))):=upd_same
  show (fun HH=>_) (upd G2 r3 (.lst (List.replicate z.length (V.bl false))))
  generalize upd G2 r3 (.lst (List.replicate z.length (V.bl false)))=G3 at s3 h3
  have s13:=s1.trans (s2.trans s3)
  refine ⟨r1,r3,_,_,rfl,rfl,s3 _ _ (s2 _ _ h1),h3,line_le (by rw [List.length_replicate];show 1+z.length≤1000;omega),fun fr hfr=>?_⟩
  have e0:[V.bl true]++List.replicate z.length (V.bl false)=bV (W63.D (dec xs) z.cps.toList 0) (z.length+1):=by
    have:∀ n,[V.bl true]++List.replicate n (V.bl false)=bV (W63.D (dec xs) z.cps.toList 0) (n+1):=fun n=>by
      induction n with
      | zero=>rfl
      | succ n ih=>rw [bV_succ,← ih,List.replicate_succ',List.append_assoc];rfl
    exact this _
  rw [e0]
  have s04:Same H (upd G3 fr (.lst (bV (W63.D (dec xs) z.cps.toList 0) (z.length+1)))):=s13.new hfr
  obtain ⟨vs,hv,lv,at_⟩:=it
  have Hfr:H fr=none:=s13.free hfr
  refine ⟨_,rfl,l,rfl,⟨_,SqL.of (s04 _ _ hv)⟩,?_⟩
  refine for_list (K:=K) (xs:=vs) (fun i σ HX=>∃ (fr:Addr) (o3 o4 o5 o6 o7 o8:Option V),σ=[some (.ref l),some (.str z),some (.ref fr),o3,o4,o5,o6,o7,o8]∧Same H HX∧H fr=none∧HX fr=some (.lst (bV (W63.D (dec xs) z.cps.toList i) (z.length+1)))) ⟨fr,none,none,none,none,none,none,rfl,s04,Hfr,upd_same⟩ (fun i σ HX _ h=>by obtain ⟨_,_,_,_,_,_,_,_,sX,_⟩:=h;exact SqL.of (sX _ _ hv)) ?_ ?_
  rotate_left
  · rintro σ HX ⟨fr,o3,o4,o5,o6,o7,o8,rfl,sX,hf,hX⟩
    rw [lv] at hX
    exact ⟨_,rfl,q fr HX sX hf hX⟩
  rintro i v σ HX hx ⟨fr,o3,o4,o5,o6,o7,o8,rfl,sX,hf,hX⟩
  have il:i < xs.length:=by
    have:=(List.getElem?_eq_some_iff.mp hx).1
    omega
  obtain ⟨a,e1,e2⟩:=at_ i _ (List.getElem?_eq_getElem il)
  rw [hx] at e1
  cases e1
  have ed:(dec xs).getD i ([],false)=(xs[i].1.lets,xs[i].2):=by
    unfold dec
    rw [List.getD_eq_getElem?_getD,List.getElem?_map,List.getElem?_eq_getElem il];rfl
  have est:W63.st (dec xs) i=xs[i].2:=by unfold W63.st;rw [ed]
  have egd:∀ n,W63.gd (dec xs) z.cps.toList i n=decide (z.cps.toList.getD n 0∈xs[i].1.lets):=fun n=>by unfold W63.gd W63.good;rw [ed]
  generalize xs[i]=x at e2 ed est egd
  refine ⟨a,_,rfl,SqT.of (sX _ _ e2),rfl,_,_,rfl,_,_,rfl,_,_,rfl,rfl,?_⟩
  refine ⟨line_le (show 0≤1000 by omega),fun be hbe=>?_⟩
  have nfb:fr≠be:=ne_of_none hX hbe
  have Hbe:H be=none:=sX.free hbe
  refine ⟨_,rfl,z,rfl,zb,_,_,rfl,rfl,_,rfl,by omega,by omega,?_⟩
  have en:(((z.length:Nat):Int)+1).toNat=z.length+1:=by omega
  rw [en]
  refine for_range (lo:=0) (n:=z.length+1) (fun j σ HY=>∃ (o7 o8:Option V),σ=[some (.ref l),some (.str z),some (.ref fr),some (.str (mk (W63.wt x))),some (.str (mk x.1.lets)),some (.bl x.2),some (.ref be),o7,o8]∧Same H HY∧HY fr=some (.lst (bV (W63.D (dec xs) z.cps.toList i) (z.length+1)))∧HY be=some (.lst (bV (W63.D (dec xs) z.cps.toList (i+1)) j))) ⟨o7,o8,rfl,sX.new hbe,by rw [upd_ne nfb];exact hX,upd_same⟩ ?_ ?_
  rotate_left
  · rintro σ HY ⟨o7,o8,rfl,sY,hfY,hbY⟩
    exact ⟨_,rfl,be,_,_,_,_,_,_,rfl,sY,Hbe,hbY⟩
  rintro j σ HY hj ⟨o7,o8,rfl,sY,hfY,hbY⟩
  have z0:(0:Int)+(j:Int)=(j:Int):=Int.zero_add _
  rw [z0]
  have app:∀ b:Bool,b=W63.D (dec xs) z.cps.toList (i+1) j→(bV (W63.D (dec xs) z.cps.toList (i+1)) j).length < sizeLine∧Same H (upd HY be (.lst (bV (W63.D (dec xs) z.cps.toList (i+1)) j++[.bl b])))∧upd HY be (.lst (bV (W63.D (dec xs) z.cps.toList (i+1)) j++[.bl b])) fr=some (.lst (bV (W63.D (dec xs) z.cps.toList i) (z.length+1)))∧upd HY be (.lst (bV (W63.D (dec xs) z.cps.toList (i+1)) j++[.bl b])) be=some (.lst (bV (W63.D (dec xs) z.cps.toList (i+1)) (j+1))):=fun b e=>by
    refine ⟨Nat.lt_of_lt_of_le (show _ < 1000 by rw [bV_len];omega) (line_le (Nat.le_refl _)),sY.write Hbe,by rw [upd_ne nfb];exact hfY,?_⟩
    rw [upd_same,bV_succ,e]
  have fa:=bV_at (f:=W63.D (dec xs) z.cps.toList i) (n:=z.length+1) (j:=j) hj
  cases j with
  | zero=>
    refine ⟨_,rfl,_,_,rfl,rfl,_,rfl,L2.iteB (by rfl) ?_⟩
    refine ⟨_,rfl,_,rfl,?_⟩
    cases hx2:x.2 with
    | true=>
      refine iteT ?_
      refine ⟨_,rfl,.inl ⟨rfl,_,SqL.of hbY⟩,_,rfl,_,rfl,fr,_,_,_,rfl,rfl,SqL.of hfY,fa,_,rfl,?_⟩
      have e:W63.D (dec xs) z.cps.toList (i+1) 0=W63.D (dec xs) z.cps.toList i 0:=by rw [W63.D_s0,est,hx2,Bool.true_and]
      cases hd:W63.D (dec xs) z.cps.toList i 0 with
      | true=>
        refine iteT ?_
        obtain ⟨a1,a2,a3,a4⟩:=app true (by rw [e,hd])
        exact ⟨be,_,_,rfl,rfl,hbY,a1,_,_,rfl,a2,a3,a4⟩
      | false=>
        refine iteF ?_
        refine ⟨_,rfl,_,rfl,iteF ?_⟩
        obtain ⟨a1,a2,a3,a4⟩:=app false (by rw [e,hd])
        exact ⟨be,_,_,rfl,rfl,hbY,a1,_,_,rfl,a2,a3,a4⟩
    | false=>
      refine iteF ?_
      refine ⟨_,rfl,.inl ⟨rfl,_,SqL.of hbY⟩,_,rfl,_,rfl,iteF ?_⟩
      obtain ⟨a1,a2,a3,a4⟩:=app false (by rw [W63.D_s0,est,hx2];rfl)
      exact ⟨be,_,_,rfl,rfl,hbY,a1,_,_,rfl,a2,a3,a4⟩
  | succ n=>
    have ej:((n+1:Nat):Int) - 1=(n:Int):=by omega
    have zn:atI z.cps.toList (((n+1:Nat):Int) - 1)=some (z.cps.toList.getD n 0):=by
      rw [ej]
      refine atI_nat ?_
      rw [List.getD_eq_getElem?_getD,List.getElem?_eq_getElem (by omega)];rfl
    have fa':=bV_at (f:=W63.D (dec xs) z.cps.toList i) (n:=z.length+1) (j:=n) (by omega)
    have ba:atI (bV (W63.D (dec xs) z.cps.toList (i+1)) (n+1)) (-1)=some (.bl (W63.D (dec xs) z.cps.toList (i+1) n)):=by rw [bV_succ];exact atI_last _ _
    refine ⟨_,rfl,_,_,rfl,rfl,_,rfl,iteA (decide_eq_true (by show (0:Int) < ((n+1:Nat):Int);omega)) ?_⟩
    refine ⟨_,rfl,_,rfl,_,_,rfl,rfl,_,_,_,rfl,rfl,zb,zn,_,rfl,_,_,rfl,rfl,?_⟩
    rw [PySem.StrLaws.found_one,mk_cps,← egd n]
    refine ⟨_,rfl,_,rfl,?_⟩
    cases hx2:x.2 with
    | true=>
      refine iteT ?_
      have e:W63.D (dec xs) z.cps.toList (i+1) (n+1)=(W63.D (dec xs) z.cps.toList i (n+1) || (W63.gd (dec xs) z.cps.toList i n && W63.D (dec xs) z.cps.toList (i+1) n)):=W63.D_star (est.trans hx2)
      refine ⟨_,rfl,.inl ⟨rfl,_,SqL.of hbY⟩,_,rfl,_,rfl,fr,_,_,_,rfl,rfl,SqL.of hfY,fa,_,rfl,?_⟩
      cases hd:W63.D (dec xs) z.cps.toList i (n+1) with
      | true=>
        refine iteT ?_
        obtain ⟨a1,a2,a3,a4⟩:=app true (by rw [e,hd];rfl)
        exact ⟨be,_,_,rfl,rfl,hbY,a1,_,_,rfl,a2,a3,a4⟩
      | false=>
        refine iteF ?_
        refine ⟨_,rfl,_,rfl,?_⟩
        cases hg:W63.gd (dec xs) z.cps.toList i n with
        | true=>
          refine iteT ?_
          refine ⟨_,rfl,_,rfl,be,_,_,_,rfl,rfl,SqL.of hbY,ba,?_⟩
          obtain ⟨a1,a2,a3,a4⟩:=app (W63.D (dec xs) z.cps.toList (i+1) n) (by rw [e,hd,hg];rfl)
          exact ⟨be,_,_,rfl,rfl,hbY,a1,_,_,rfl,a2,a3,a4⟩
        | false=>
          refine iteF ?_
          obtain ⟨a1,a2,a3,a4⟩:=app false (by rw [e,hd,hg];rfl)
          exact ⟨be,_,_,rfl,rfl,hbY,a1,_,_,rfl,a2,a3,a4⟩
    | false=>
      refine iteF ?_
      have e:W63.D (dec xs) z.cps.toList (i+1) (n+1)=(W63.gd (dec xs) z.cps.toList i n && W63.D (dec xs) z.cps.toList i n):=W63.D_plain (est.trans hx2)
      refine ⟨_,rfl,.inl ⟨rfl,_,SqL.of hbY⟩,_,rfl,_,rfl,?_⟩
      cases hg:W63.gd (dec xs) z.cps.toList i n with
      | true=>
        refine iteT ?_
        refine ⟨_,rfl,_,rfl,_,_,rfl,rfl,fr,_,_,_,rfl,rfl,SqL.of hfY,by rw [ej];exact fa',?_⟩
        obtain ⟨a1,a2,a3,a4⟩:=app (W63.D (dec xs) z.cps.toList i n) (by rw [e,hg];rfl)
        exact ⟨be,_,_,rfl,rfl,hbY,a1,_,_,rfl,a2,a3,a4⟩
      | false=>
        refine iteF ?_
        obtain ⟨a1,a2,a3,a4⟩:=app false (by rw [e,hg];rfl)
        exact ⟨be,_,_,rfl,rfl,hbY,a1,_,_,rfl,a2,a3,a4⟩
end
end S67
namespace S67
open PySem L2 W7
open W63 (Wr Wi enc dec star)
def WAt (H:Hp) (v:V):Prop:=∃ (a:Addr) (x:Wr),v=.ref a∧x.Ok∧H a=some (.tup [.str (mk x.txt),.str (mk x.lets)])∧x.txt.length≤28
theorem WAt.same {H H':Hp} {v:V} (h:WAt H v) (s:Same H H'):WAt H' v:=let ⟨a,x,e,o,g,l⟩:=h;⟨a,x,e,o,s _ _ g,l⟩
theorem WAt.kd {H H':Hp} {p:Addr} {c d:Int} {v:V} (h:WAt H v) (k:Kd p c H H') (dk:Deck H p d):WAt H' v:=by
  obtain ⟨a,x,e,o,g,l⟩:=h
  refine ⟨a,x,e,o,k.keep _ _ (fun z=>?_) g,l⟩
  obtain ⟨_,_,_,e4,_⟩:=dk
  rw [z,e4] at g;cases g
theorem WAt.write {H:Hp} {v:V} {q:Addr} {ys zs:List V} (h:WAt H v) (hq:H q=some (.lst ys)):WAt (upd H q (.lst zs)) v:=by
  obtain ⟨a,x,e,o,g,l⟩:=h
  refine ⟨a,x,e,o,?_,l⟩
  rw [upd_ne (fun z=>by rw [z,hq] at g;cases g)];exact g
theorem cut_list (z:Str) (lo hi:Option Int):(cutS z lo hi).cps.toList=(z.cps.toList.drop (HT.sIx z.length 0 lo)).take (HT.sIx z.length z.length hi - HT.sIx z.length 0 lo):=rfl
theorem cut_low {z:Str} (h:∀ x∈z.cps.toList,Lw x) (lo hi:Option Int):∀ x∈(cutS z lo hi).cps.toList,Lw x:=fun x hx=>h x (by rw [cut_list] at hx;exact List.mem_of_mem_drop (List.mem_of_mem_take hx))
theorem cut_len (z:Str) (lo hi:Option Int):(cutS z lo hi).length≤z.length:=by
  have e:(cutS z lo hi).cps.toList.length=(cutS z lo hi).length:=Array.length_toList
  rw [← e,cut_list,List.length_take,List.length_drop]
  have:z.cps.toList.length=z.length:=Array.length_toList
  omega
theorem cut_one (z:Str) (i:Nat):(cutS z (some ((0:Int)+(i:Int))) (some ((0:Int)+(i:Int)+1))).length≤1:=by
  have e:(cutS z (some ((0:Int)+(i:Int))) (some ((0:Int)+(i:Int)+1))).cps.toList.length=(cutS z (some ((0:Int)+(i:Int))) (some ((0:Int)+(i:Int)+1))).length:=Array.length_toList
  rw [← e,cut_list,List.length_take,show ((0:Int)+(i:Int))=((i:Nat):Int) by omega,show ((i:Nat):Int)+1=((i+1:Nat):Int) by omega,HT.sIx_nat,HT.sIx_nat]
  omega
theorem str_one {z:Str} (l:z.length=1):∃ c,z=(⟨#[c]⟩:Str):=by
  obtain ⟨a⟩:=z
  obtain ⟨c,e⟩:=Array.size_eq_one_iff.mp (show a.size=1 from l)
  exact ⟨c,by rw [e]⟩
theorem str_len2 (a b:Str):(a++b).length=a.length+b.length:=by
  have e:(a++b).cps.toList.length=(a++b).length:=Array.length_toList
  rw [← e,app_list,List.length_append]
  have e1:a.cps.toList.length=a.length:=Array.length_toList
  have e2:b.cps.toList.length=b.length:=Array.length_toList
  omega
theorem mul_star (b:Bool):Txt.mul (Str.ofString "*") (if b then 1 else 0)=mk (star b):=by cases b <;> decide +kernel
theorem enc_sum (ys:List Wi):((ys.map fun x=>mk (W63.wt x)).map (·.length)).sum=(enc ys).length:=by
  induction ys with
  | nil=>rfl
  | cons y ys ih=>
    rw [List.map_cons,List.map_cons,List.sum_cons,ih,mk_len]
    show _=(W63.wt y++enc ys).length
    rw [List.length_append]
theorem enc_join (xs:List Wi):Txt.join (Str.ofString "") (xs.map fun x=>mk (W63.wt x))=mk (enc xs):=by
  apply str_ext
  rw [join_cps,mk_cps,List.map_map];rfl
section
variable {P:Program} {w:World} {K:PySem.W.Frag} {mg:Str→Option Value} {base:Heap} {k:Nat}
def sp_litems:Sp:=fun vs H Q _=>∃ (p:Addr) (word:Str) (most:Nat) (c:Int),vs=[.ref p,.str word,.int (most:Int)]∧Deck H p c∧0≤c∧c < 900000∧word.length≤60∧(∀ x∈word.cps.toList,Lw x)∧most≤40 ∧
  ∀ (l:Addr) (xs:List Wi) (H':Hp),Kd p (c+400) H H'→H l=none→l≠p→LIts H' l xs→(∀ x∈xs,x.1.Ok)→(enc xs).length≤40→xs.length≤40→Q (.ref l) H'
theorem has_litems (D:Df K mg "_law_items" s_law_items) (B:Blt7 mg) (G_law_draw:Has P w K mg base "_law_draw" k ["deck_here", "many"] sp_draw) (G_law_some:Has P w K mg base "_law_some" k ["deck_here", "things"] sp_some) (G_law_letter:Has P w K mg base "_law_letter" k ["deck_here"] sp_letter):Has P w K mg base "_law_items" (k+1) ["deck_here", "word", "most"] sp_litems:=by
  refine D.has sc_law_items (fun _ _ _ _ _ _ us hl=>match us,hl with | [_,_,_],_=>rfl) (fun vs H Q E h=>by obtain ⟨p,wo,m,c,rfl,_⟩:=h;rfl) (fun f cdv A outer s H vs Q E hr h=>?_)
  obtain ⟨p,word,most,c,rfl,dk,c0,c9,wl,wlo,m40,q⟩:=h
  refine ⟨_,(pss_cons (ps_set (i:=3) sc_law_items.nd rfl (by first | exact Or.inl rfl | exact Or.inr rfl) pe_str)
  (pss_cons (ps_set (i:=4) sc_law_items.nd rfl (by first | exact Or.inl rfl | exact Or.inr rfl) (pe_lst pa_nil))
  (pss_cons (ps_for PassesOwn.never rfl (pi_range1 rfl B.range (pa_cons (pe_callH G_law_draw hr rfl (pa_cons (pv 0) (pa_cons (pe_op op_add (pv 2) pe_int) pa_nil))) pa_nil)) (pg_name (i:=5) sc_law_items.nd rfl (by first | exact Or.inl rfl | exact Or.inr rfl))
  (pss_cons (ps_set (i:=6) sc_law_items.nd rfl (by first | exact Or.inl rfl | exact Or.inr rfl) (pe_callH G_law_letter hr rfl (pa_cons (pv 0) pa_nil)))
  (pss_cons (ps_set (i:=7) sc_law_items.nd rfl (by first | exact Or.inl rfl | exact Or.inr rfl) (pe_slice sl_str (pv 1) (po_some (pv 5)) (po_some (pe_op op_add (pv 5) pe_int))))
  (pss_cons (ps_set (i:=8) sc_law_items.nd rfl (by first | exact Or.inl rfl | exact Or.inr rfl) (pe_orS (pe_callH G_law_some hr rfl (pa_cons (pv 0) (pa_cons (pe_lst (pa_cons (pv 7) (pa_cons (pv 7) (pa_cons (pv 7) (pa_cons (pv 6) pa_nil))))) pa_nil))) (pe_one (pv 6))))
  (pss_cons (ps_set (i:=9) sc_law_items.nd rfl (by first | exact Or.inl rfl | exact Or.inr rfl) (pe_bm PySem.F.plainAttrs_str PySem.F.slot_str_join PySem.F.type_str_join mt_join pe_str (pa_cons (pe_callB (call_sorted_setT w rfl) rfl B.sorted bt_sorted' (pa_cons (pe_callTy (call_set_textsW w rfl) rfl B.set_ bt_set (pa_cons (pe_lst (pa_cons (pv 8) (pa_cons (pv 6) (pa_cons (pe_callH G_law_letter hr rfl (pa_cons (pv 0) pa_nil)) pa_nil)))) pa_nil)) pa_nil)) pa_nil)))
  (pss_cons (ps_set (i:=10) sc_law_items.nd rfl (by first | exact Or.inl rfl | exact Or.inr rfl) (pe_bm PySem.F.plainAttrs_str PySem.F.slot_str_join PySem.F.type_str_join mt_join pe_str (pa_cons (pe_callB (call_sorted_setT w rfl) rfl B.sorted bt_sorted' (pa_cons (pe_callTy (call_set_txtW w rfl) rfl B.set_ bt_set (pa_cons (pe_op op_add_str (pv 8) (pe_slice sl_str (pe_slice sl_str (pv 3) (po_some (pe_callH G_law_draw hr rfl (pa_cons (pv 0) (pa_cons pe_int pa_nil)))) po_none) po_none (po_some (pe_callH G_law_draw hr rfl (pa_cons (pv 0) (pa_cons pe_int pa_nil)))))) pa_nil)) pa_nil)) pa_nil)))
  (pss_cons (ps_set (i:=11) sc_law_items.nd rfl (by first | exact Or.inl rfl | exact Or.inr rfl) (pe_lst (pa_cons (pe_tup (pa_cons (pv 8) (pa_cons (pv 8) pa_nil))) (pa_cons (pe_tup (pa_cons (pv 8) (pa_cons (pv 8) pa_nil))) (pa_cons (pe_tup (pa_cons pe_str (pa_cons (pv 3) pa_nil))) pa_nil)))))
  (pss_cons (ps_for PassesOwn.never rfl (pi_list (pe_lst (pa_cons (pv 9) (pa_cons (pv 8) (pa_cons (pv 3) (pa_cons (pv 10) pa_nil)))))) (pg_name (i:=12) sc_law_items.nd rfl (by first | exact Or.inl rfl | exact Or.inr rfl))
  (pss_one (ps_expr (pe_bm PySem.F.plainAttrs_list PySem.F.slot_list_append PySem.F.type_list_append mt_append (pv 11) (pa_cons (pe_tup (pa_cons (pe_op op_add_str (pe_op op_add_str pe_str (pv 12)) pe_str) (pa_cons (pv 12) pa_nil))) pa_nil)))))
  (pss_cons (ps_asg (pe_callH G_law_some hr rfl (pa_cons (pv 0) (pa_cons (pv 11) pa_nil))) (pg_tup rfl (pgs_cons (pg_name (i:=13) sc_law_items.nd rfl (by first | exact Or.inl rfl | exact Or.inr rfl)) (pgs_cons (pg_name (i:=12) sc_law_items.nd rfl (by first | exact Or.inl rfl | exact Or.inr rfl)) pgs_nil))))
  (pss_cons (ps_set (i:=14) sc_law_items.nd rfl (by first | exact Or.inl rfl | exact Or.inr rfl) (pe_cmpR op_eq (pe_callH G_law_draw hr rfl (pa_cons (pv 0) (pa_cons pe_int pa_nil))) pe_int (nomark _)))
  (pss_cons (ps_set (i:=13) sc_law_items.nd rfl (by first | exact Or.inl rfl | exact Or.inr rfl) (pe_op op_add_str (pv 13) (pe_op op_mul_str pe_str (pe_callTy call_int1 rfl B.int_ bt_int (pa_cons (pv 14) pa_nil)))))
  (pss_one (ps_if (pt_cmpR op_le (pe_op op_add (pe_callB call_len_str rfl B.len bt_len (pa_cons (pe_bm PySem.F.plainAttrs_str PySem.F.slot_str_join PySem.F.type_str_join mt_join pe_str (pa_cons (pe_comp rfl (pi_list (pv 4)) (NL:=["one"]) (ix:=[]) (csc (defScope s_law_items) N_law_items) (fun cl C s₃ H₃ fp pins=>⟨(pg_name (i:=0) (show List.Nodup (["one"]:List Str) from by decide +kernel) rfl (by first | exact Or.inl rfl | exact Or.inr rfl)),pifs_nil,(pe_ix (ix_tupK K) (pv 0) pe_int (fun _ _=>rfl))⟩)) pa_nil)) pa_nil)) (pe_callB call_len_str rfl B.len bt_len (pa_cons (pv 13) pa_nil))) pe_int (nomark _))
  (pss_one (ps_expr (pe_bm PySem.F.plainAttrs_list PySem.F.slot_list_append PySem.F.type_list_append mt_append (pv 4) (pa_cons (pe_tup (pa_cons (pv 13) (pa_cons (pv 12) (pa_cons (pv 14) pa_nil)))) pa_nil))))
  pss_nil)))))))))))))
  (pss_one (ps_ret (pv 4)))))),?_⟩
  refine ⟨line_le (show 0≤1000 by omega),fun fo hfo=>?_⟩
  have fp:fo≠p:=dk.ne hfo
  have kd0:Kd p c H (upd H fo (.lst [])):=(Kd.refl dk).new hfo
  refine ⟨_,rfl,_,rfl,_,_,rfl,rfl,p,_,_,rfl,kd0.deck,by omega,by omega,by omega,fun n H1 n0 n1 kd1=>?_⟩
  have h1:H1 fo=some (.lst []):=kd1.keep _ _ fp upd_same
  refine ⟨_,rfl,by omega,by omega,?_⟩
  refine for_range (lo:=0) (n:=n.toNat) (fun i σ HX=>∃ (xs:List Wi) (o5 o6 o7 o8 o9 o10 o11 o12 o13 o14:Option V),σ=[some (.ref p),some (.str word),some (.int (most:Int)),some (.str (Str.ofString "abcdefghijklmnopqrstuvwxyz")),some (.ref fo),o5,o6,o7,o8,o9,o10,o11,o12,o13,o14]∧Kd p (c+1+9 * i) H HX∧LIts HX fo xs∧(∀ x∈xs,x.1.Ok)∧(enc xs).length≤40∧xs.length≤i)
    ⟨[],none,none,none,none,none,none,none,none,none,none,rfl,(kd0.trans kd1).mono (by omega),⟨[],h1,rfl,fun i x e=>by cases e⟩,(fun x h=>nomatch h),by decide,Nat.zero_le _⟩ ?_ ?_
  · rintro i σ HX hi ⟨xs,o5,o6,o7,o8,o9,o10,o11,o12,o13,o14,rfl,kX,lX,ok,e40,xl⟩
    have i40:i < 41:=by omega
    refine ⟨_,rfl,p,_,rfl,kX.deck,by omega,fun ch H2 lch kd2=>?_⟩
    have wb:word.length≤sizeLine:=line_le (by omega)
    have kA:=(kX.trans kd2).mono (show c+1+9 * i+1≤c+2+9 * i by omega)
    have lA:=lX.kd kd2 fp kX.deck
    refine ⟨_,rfl,_,rfl,_,rfl,_,rfl,_,_,rfl,rfl,_,rfl,word,rfl,wb,?_⟩
    have hel:=cut_one word i
    have heo:=cut_low wlo (some ((0:Int)+(i:Int))) (some ((0:Int)+(i:Int)+1))
    generalize cutS word (some ((0:Int)+(i:Int))) (some ((0:Int)+(i:Int)+1))=he at hel heo
    clear lX kX kd2
    dsimp only [gName]
    refine mid (fun σ' H'=>∃ o:Nat,Lw o∧σ'=[some (.ref p),some (.str word),some (.int (most:Int)),some (.str (Str.ofString "abcdefghijklmnopqrstuvwxyz")),some (.ref fo),some (.int ((0:Int)+(i:Int))),some (.str ⟨#[ch]⟩),some (.str he),some (.str ⟨#[o]⟩),o9,o10,o11,o12,o13,o14]∧Kd p (c+3+9 * i) H H'∧LIts H' fo xs) ?_ fun E2 nx=>?_
    rotate_left
    · refine ⟨_,rfl,_,rfl,_,rfl,_,rfl,_,rfl,line_le (show 4≤1000 by omega),fun r hr=>?_⟩
      have s1:Same H2 (upd H2 r (.lst [.str he,.str he,.str he,.str ⟨#[ch]⟩])):=(Same.refl H2).new hr
      refine ⟨p,_,(kA.same s1).deck,by omega,.inl ⟨r,_,rfl,upd_same,kA.deck.ne hr,(by show 0 < 4;decide),(by show 4≤1000;decide),fun v H3 hv kd3=>?_⟩⟩
      have kB:=((kA.same s1).trans kd3).mono (show c+2+9 * i+1≤c+3+9 * i by omega)
      have lB:=(lA.same s1).kd kd3 fp (kA.same s1).deck
      have hv':v=.str he∨v=.str ⟨#[ch]⟩:=by
        simp only [List.mem_cons,List.not_mem_nil,or_false] at hv
        rcases hv with h | h | h | h
        · exact .inl h
        · exact .inl h
        · exact .inl h
        · exact .inr h
      rcases hv' with rfl | rfl
      · refine ⟨he,rfl,by omega,?_⟩
        by_cases h0:he.length=0
        · rw [if_pos h0]
          exact ⟨_,rfl,nx _ _ ⟨ch,lch,rfl,kB,lB⟩⟩
        · rw [if_neg h0]
          obtain ⟨o,rfl⟩:=str_one (show he.length=1 by omega)
          exact nx _ _ ⟨o,heo o (by simp),rfl,kB,lB⟩
      · refine ⟨_,rfl,by show 1≤1000;omega,?_⟩
        rw [if_neg (by show ¬ (1=0);omega)]
        exact nx _ _ ⟨ch,lch,rfl,kB,lB⟩
    clear kA lA
    rintro σ' HA ⟨o,lo,rfl,kA,lA⟩
    have lone:∀ {x:Nat},Lw x→∀ y∈(⟨#[x]⟩:Str).cps.toList,Lw y:=fun {x} h y hy=>by rw [show y=x by simpa using hy];exact h
    refine mid (fun σ' H'=>∃ M:List Nat,M≠[]∧(∀ c∈M,Lw c)∧M.Pairwise (· < ·)∧σ'=[some (.ref p),some (.str word),some (.int (most:Int)),some (.str (Str.ofString "abcdefghijklmnopqrstuvwxyz")),some (.ref fo),some (.int ((0:Int)+(i:Int))),some (.str ⟨#[ch]⟩),some (.str he),some (.str ⟨#[o]⟩),some (.str (mk M)),o10,o11,o12,o13,o14]∧Kd p (c+4+9 * i) H H'∧LIts H' fo xs) ?_ fun E2 nx=>?_
    rotate_left
    · refine ⟨rfl,_,rfl,_,rfl,_,rfl,p,_,rfl,kA.deck,by omega,fun c3 H4 lc3 kd4=>?_⟩
      have kB:=(kA.trans kd4).mono (show c+3+9 * i+1≤c+4+9 * i by omega)
      have lB:=lA.kd kd4 fp kA.deck
      refine ⟨line_le (show 3≤1000 by omega),fun r hr=>?_⟩
      have s1:Same H4 (upd H4 r (.lst [.str ⟨#[o]⟩,.str ⟨#[ch]⟩,.str ⟨#[c3]⟩])):=(Same.refl H4).new hr
      have h1:upd H4 r (.lst [.str ⟨#[o]⟩,.str ⟨#[ch]⟩,.str ⟨#[c3]⟩]) r=some (.lst [.str ⟨#[o]⟩,.str ⟨#[ch]⟩,.str ⟨#[c3]⟩]):=upd_same
      show (fun HH=>_) (upd H4 r (.lst [.str ⟨#[o]⟩,.str ⟨#[ch]⟩,.str ⟨#[c3]⟩]))
      generalize upd H4 r (.lst [.str ⟨#[o]⟩,.str ⟨#[ch]⟩,.str ⟨#[c3]⟩])=G1 at s1 h1
      refine ⟨r,[⟨#[o]⟩,⟨#[ch]⟩,⟨#[c3]⟩],rfl,SqL.of h1,(by show 3 < 4000;decide),fun st hst=>?_⟩
      have s2:Same G1 (upd G1 st (setO w st [⟨#[o]⟩,⟨#[ch]⟩,⟨#[c3]⟩] 3)):=(Same.refl G1).new hst
      refine ⟨st,_,_,[⟨#[o]⟩,⟨#[ch]⟩,⟨#[c3]⟩],rfl,upd_same,fun z hz=>hz,(by show 3 < 64;decide),fun ss r5 nd mem srt hr5=>?_⟩
      have hone:∀ z∈ss,∃ c,z=mk [c]∧Lw c:=fun z hz=>by
        have:=(mem z).mp hz
        simp only [List.mem_cons,List.not_mem_nil,or_false] at this
        rcases this with rfl | rfl | rfl
        · exact ⟨o,rfl,lo⟩
        · exact ⟨ch,rfl,lch⟩
        · exact ⟨c3,rfl,lc3⟩
      obtain ⟨M,ej,m0,mlo,mpw,bd⟩:=join_set nd srt hone (fun e=>by have:=(mem ⟨#[o]⟩).mpr (by simp);rw [e] at this;cases this)
      have s3:Same (upd G1 st (setO w st [⟨#[o]⟩,⟨#[ch]⟩,⟨#[c3]⟩] 3)) (upd (upd G1 st (setO w st [⟨#[o]⟩,⟨#[ch]⟩,⟨#[c3]⟩] 3)) r5 (.lst (ss.map V.str))):=(Same.refl _).new hr5
      refine ⟨_,r5,ss,rfl,rfl,SqL.of upd_same,bd,?_⟩
      rw [ej]
      exact nx _ _ ⟨M,m0,mlo,mpw,rfl,((kB.same s1).same s2).same s3,((lB.same s1).same s2).same s3⟩
    clear kA lA
    rintro σ' HB ⟨M,m0,mlo,mpw,rfl,kA,lA⟩
    have l26:(Str.ofString "abcdefghijklmnopqrstuvwxyz").length=26:=by decide +kernel
    refine mid (fun σ' H'=>∃ M2:List Nat,M2≠[]∧(∀ c∈M2,Lw c)∧M2.Pairwise (· < ·)∧σ'=[some (.ref p),some (.str word),some (.int (most:Int)),some (.str (Str.ofString "abcdefghijklmnopqrstuvwxyz")),some (.ref fo),some (.int ((0:Int)+(i:Int))),some (.str ⟨#[ch]⟩),some (.str he),some (.str ⟨#[o]⟩),some (.str (mk M)),some (.str (mk M2)),o11,o12,o13,o14]∧Kd p (c+6+9 * i) H H'∧LIts H' fo xs) ?_ fun E2 nx=>?_
    rotate_left
    · refine ⟨rfl,_,rfl,_,rfl,_,rfl,p,26,_,rfl,kA.deck,by omega,by decide,by decide,fun a H4 a0 a1 kd4=>?_⟩
      have kB:=kA.trans kd4
      have lB:=lA.kd kd4 fp kA.deck
      have c1:=cut_len (Str.ofString "abcdefghijklmnopqrstuvwxyz") (some a) none
      have c1o:=cut_low abc_low (some a) none
      refine ⟨_,rfl,_,rfl,line_le (by omega),_,rfl,p,25,_,rfl,kB.deck,by omega,by decide,by decide,fun b H5 b0 b1 kd5=>?_⟩
      have kC:=(kB.trans kd5).mono (show c+4+9 * i+1+1≤c+6+9 * i by omega)
      have lC:=lB.kd kd5 fp kB.deck
      generalize cutS (Str.ofString "abcdefghijklmnopqrstuvwxyz") (some a) none=y1 at c1 c1o
      have c2:=cut_len y1 none (some b)
      have c2o:=cut_low c1o none (some b)
      refine ⟨_,rfl,_,rfl,line_le (by omega),?_⟩
      generalize cutS y1 none (some b)=y2 at c2 c2o
      have ol:(⟨#[o]⟩:Str).length=1:=rfl
      have lt:=str_len2 (⟨#[o]⟩:Str) y2
      have to:∀ x∈((⟨#[o]⟩:Str)++y2).cps.toList,Lw x:=fun x hx=>by
        rw [app_list] at hx
        rcases List.mem_append.mp hx with hx | hx
        · exact lone lo x hx
        · exact c2o x hx
      have tm:o∈((⟨#[o]⟩:Str)++y2).cps.toList:=by rw [app_list];simp
      refine ⟨_,_,rfl,rfl,line_le (by omega),?_⟩
      generalize (⟨#[o]⟩:Str)++y2=tx at lt to tm
      refine ⟨tx,rfl,by omega,fun st hst=>?_⟩
      have s2:Same H5 (upd H5 st (setO w st (tx.cps.toList.map fun c=>(⟨#[c]⟩:Str)) tx.length)):=(Same.refl H5).new hst
      have tl:tx.cps.toList.length=tx.length:=Array.length_toList
      refine ⟨st,_,_,tx.cps.toList.map fun c=>(⟨#[c]⟩:Str),rfl,upd_same,fun z hz=>hz,by rw [List.length_map];omega,fun ss r5 nd mem srt hr5=>?_⟩
      have hone:∀ z∈ss,∃ c,z=mk [c]∧Lw c:=fun z hz=>by
        obtain ⟨x,hx,rfl⟩:=List.mem_map.mp ((mem z).mp hz)
        exact ⟨x,rfl,to x hx⟩
      obtain ⟨M2,ej,m0',mlo',mpw',bd⟩:=join_set nd srt hone (fun e=>by have:=(mem ⟨#[o]⟩).mpr (List.mem_map.mpr ⟨o,tm,rfl⟩);rw [e] at this;cases this)
      have s3:Same (upd H5 st (setO w st (tx.cps.toList.map fun c=>(⟨#[c]⟩:Str)) tx.length)) (upd (upd H5 st (setO w st (tx.cps.toList.map fun c=>(⟨#[c]⟩:Str)) tx.length)) r5 (.lst (ss.map V.str))):=(Same.refl _).new hr5
      refine ⟨_,r5,ss,rfl,rfl,SqL.of upd_same,bd,?_⟩
      rw [ej]
      exact nx _ _ ⟨M2,m0',mlo',mpw',rfl,(kC.same s2).same s3,(lC.same s2).same s3⟩
    clear kA lA
    rintro σ' HC ⟨M2,m0',mlo',mpw',rfl,kA,lA⟩
    have Mok:Wr.Ok (.br M):=⟨m0,mlo,mpw⟩
    have M2ok:Wr.Ok (.br M2):=⟨m0',mlo',mpw'⟩
    have ml:=W63.rise_len M 97 (fun c hc=>mlo c hc) mpw (by omega)
    have ml2:=W63.rise_len M2 97 (fun c hc=>mlo' c hc) mpw' (by omega)
    have oneok:Wr.Ok (.one o):=lo
    have fresh:∀ {q:Addr} {G:Hp},Kd p (c+6+9 * i) H G→G q=none→q≠p∧H q=none:=fun {q G} k h=>⟨k.deck.ne h,k.fresh h⟩
    refine mid (fun σ' H'=>∃ (wy:Addr) (vs:List V),σ'=[some (.ref p),some (.str word),some (.int (most:Int)),some (.str (Str.ofString "abcdefghijklmnopqrstuvwxyz")),some (.ref fo),some (.int ((0:Int)+(i:Int))),some (.str ⟨#[ch]⟩),some (.str he),some (.str ⟨#[o]⟩),some (.str (mk M)),some (.str (mk M2)),some (.ref wy),o12,o13,o14]∧Kd p (c+6+9 * i) H H'∧LIts H' fo xs∧H wy=none∧wy≠p∧wy≠fo∧H' wy=some (.lst vs)∧vs.length=3∧∀ v∈vs,WAt H' v) ?_ fun E2 nx=>?_
    rotate_left
    · refine ⟨_,rfl,_,rfl,line_le (show 2≤1000 by omega),fun b1 hb1=>?_⟩
      have sb1:Same HC (upd HC b1 (.tup [.str ⟨#[o]⟩,.str ⟨#[o]⟩])):=(Same.refl HC).new hb1
      have vb1:upd HC b1 (.tup [.str ⟨#[o]⟩,.str ⟨#[o]⟩]) b1=some (.tup [.str ⟨#[o]⟩,.str ⟨#[o]⟩]):=upd_same
      show (fun HH=>_) (upd HC b1 (.tup [.str ⟨#[o]⟩,.str ⟨#[o]⟩]))
      generalize upd HC b1 (.tup [.str ⟨#[o]⟩,.str ⟨#[o]⟩])=J1 at sb1 vb1
      refine ⟨_,rfl,_,rfl,line_le (show 2≤1000 by omega),fun b2 hb2=>?_⟩
      have sb2:Same J1 (upd J1 b2 (.tup [.str ⟨#[o]⟩,.str ⟨#[o]⟩])):=(Same.refl J1).new hb2
      have vb2:upd J1 b2 (.tup [.str ⟨#[o]⟩,.str ⟨#[o]⟩]) b2=some (.tup [.str ⟨#[o]⟩,.str ⟨#[o]⟩]):=upd_same
      show (fun HH=>_) (upd J1 b2 (.tup [.str ⟨#[o]⟩,.str ⟨#[o]⟩]))
      generalize upd J1 b2 (.tup [.str ⟨#[o]⟩,.str ⟨#[o]⟩])=J2 at sb2 vb2
      replace vb1:=sb2 _ _ vb1
      refine ⟨_,rfl,line_le (show 2≤1000 by omega),fun b3 hb3=>?_⟩
      have sb3:Same J2 (upd J2 b3 (.tup [.str (Str.ofString "."),.str (Str.ofString "abcdefghijklmnopqrstuvwxyz")])):=(Same.refl J2).new hb3
      have vb3:upd J2 b3 (.tup [.str (Str.ofString "."),.str (Str.ofString "abcdefghijklmnopqrstuvwxyz")]) b3=some (.tup [.str (Str.ofString "."),.str (Str.ofString "abcdefghijklmnopqrstuvwxyz")]):=upd_same
      show (fun HH=>_) (upd J2 b3 (.tup [.str (Str.ofString "."),.str (Str.ofString "abcdefghijklmnopqrstuvwxyz")]))
      generalize upd J2 b3 (.tup [.str (Str.ofString "."),.str (Str.ofString "abcdefghijklmnopqrstuvwxyz")])=J3 at sb3 vb3
      replace vb1:=sb3 _ _ vb1
      replace vb2:=sb3 _ _ vb2
      refine ⟨line_le (show 3≤1000 by omega),fun wy hwy=>?_⟩
      have s13:=(sb1.trans sb2).trans sb3
      have kB:=kA.same s13
      have lB:=lA.same s13
      obtain ⟨wp,wH⟩:=fresh kB hwy
      have wf:wy≠fo:=fun z=>by obtain ⟨vs,e,_⟩:=lB;rw [← z,hwy] at e;cases e
      have s4:Same J3 (upd J3 wy (.lst [.ref b1,.ref b2,.ref b3])):=(Same.refl J3).new hwy
      refine nx _ _ ⟨wy,_,rfl,kB.same s4,lB.same s4,wH,wp,wf,upd_same,rfl,fun v hv=>WAt.same ?_ s4⟩
      simp only [List.mem_cons,List.not_mem_nil,or_false] at hv
      rcases hv with rfl | rfl | rfl
      · exact ⟨b1,.one o,rfl,oneok,vb1,(by show 1≤28;omega)⟩
      · exact ⟨b2,.one o,rfl,oneok,vb2,(by show 1≤28;omega)⟩
      · refine ⟨b3,.dot,rfl,trivial,?_,by decide⟩
        rw [vb3,abc_mk,show Str.ofString "." = mk [46] by decide +kernel];rfl
    clear kA lA
    rintro σ' HD ⟨wy,vs,rfl,kA,lA,wH,wp,wf,hw,wl3,wat⟩
    have e1:Str.ofString "[" = mk [91]:=by decide +kernel
    have e2:Str.ofString "]" = mk [93]:=by decide +kernel
    refine mid (fun σ' H'=>∃ (o12:Option V) (vs:List V),σ'=[some (.ref p),some (.str word),some (.int (most:Int)),some (.str (Str.ofString "abcdefghijklmnopqrstuvwxyz")),some (.ref fo),some (.int ((0:Int)+(i:Int))),some (.str ⟨#[ch]⟩),some (.str he),some (.str ⟨#[o]⟩),some (.str (mk M)),some (.str (mk M2)),some (.ref wy),o12,o13,o14]∧Kd p (c+6+9 * i) H H'∧LIts H' fo xs∧H' wy=some (.lst vs)∧vs.length=7∧∀ v∈vs,WAt H' v) ?_ fun E2 nx=>?_
    rotate_left
    · refine ⟨_,rfl,_,rfl,_,rfl,_,rfl,line_le (show 4≤1000 by omega),fun lr hlr=>?_⟩
      have lrw:wy≠lr:=ne_of_none hw hlr
      have slr:Same HD (upd HD lr (.lst [.str (mk M),.str ⟨#[o]⟩,.str (Str.ofString "abcdefghijklmnopqrstuvwxyz"),.str (mk M2)])):=(Same.refl HD).new hlr
      have vlr:upd HD lr (.lst [.str (mk M),.str ⟨#[o]⟩,.str (Str.ofString "abcdefghijklmnopqrstuvwxyz"),.str (mk M2)]) lr=some (.lst [.str (mk M),.str ⟨#[o]⟩,.str (Str.ofString "abcdefghijklmnopqrstuvwxyz"),.str (mk M2)]):=upd_same
      show (fun HH=>_) (upd HD lr (.lst [.str (mk M),.str ⟨#[o]⟩,.str (Str.ofString "abcdefghijklmnopqrstuvwxyz"),.str (mk M2)]))
      generalize upd HD lr (.lst [.str (mk M),.str ⟨#[o]⟩,.str (Str.ofString "abcdefghijklmnopqrstuvwxyz"),.str (mk M2)])=JL at slr vlr
      replace hw:=slr _ _ hw
      refine ⟨lr,rfl,⟨_,SqL.of vlr⟩,?_⟩
      refine for_list (K:=K) (xs:=[.str (mk M),.str ⟨#[o]⟩,.str (Str.ofString "abcdefghijklmnopqrstuvwxyz"),.str (mk M2)]) (fun j σ HX=>∃ (o12:Option V) (vs:List V),σ=[some (.ref p),some (.str word),some (.int (most:Int)),some (.str (Str.ofString "abcdefghijklmnopqrstuvwxyz")),some (.ref fo),some (.int ((0:Int)+(i:Int))),some (.str ⟨#[ch]⟩),some (.str he),some (.str ⟨#[o]⟩),some (.str (mk M)),some (.str (mk M2)),some (.ref wy),o12,o13,o14]∧Kd p (c+6+9 * i) H HX∧LIts HX fo xs∧HX lr=some (.lst [.str (mk M),.str ⟨#[o]⟩,.str (Str.ofString "abcdefghijklmnopqrstuvwxyz"),.str (mk M2)])∧HX wy=some (.lst vs)∧vs.length=3+j∧∀ v∈vs,WAt HX v) ⟨o12,vs,rfl,kA.same slr,lA.same slr,vlr,hw,wl3,fun v hv=>(wat v hv).same slr⟩ (fun j σ HX _ h=>by obtain ⟨_,_,_,_,_,h,_⟩:=h;exact SqL.of h) ?_ ?_
      rotate_left
      · rintro σ HX ⟨o12,vs,rfl,kX,lX,_,hwX,wl,wX⟩
        exact nx _ _ ⟨o12,vs,rfl,kX,lX,hwX,wl,wX⟩
      rintro j v σ HX hx ⟨o12,vs,rfl,kX,lX,hlX,hwX,wl,wX⟩
      have j4:j < 4:=(List.getElem?_eq_some_iff.mp hx).1
      obtain ⟨N,rfl,nok⟩:∃ N:List Nat,v=.str (mk N)∧Wr.Ok (.br N):=by
        have:=List.mem_of_getElem? hx
        simp only [List.mem_cons,List.not_mem_nil,or_false] at this
        rcases this with rfl | rfl | rfl | rfl
        · exact ⟨M,rfl,Mok⟩
        · exact ⟨[o],rfl,List.cons_ne_nil _ _,fun c hc=>by rw [List.mem_singleton.mp hc];exact lo,List.pairwise_singleton _ _⟩
        · exact ⟨W63.abc,by rw [abc_mk],by decide,by decide,by decide⟩
        · exact ⟨M2,rfl,M2ok⟩
      have nl:=W63.rise_len N 97 (fun c hc=>nok.2.1 c hc) nok.2.2 (by omega)
      have t1:Str.ofString "[" ++ mk N++Str.ofString "]" = mk (Wr.txt (.br N)):=by
        rw [e1,e2]
        apply str_ext
        rw [app_list,app_list];rfl
      refine ⟨_,rfl,.inl ⟨rfl,_,SqL.of hwX⟩,_,rfl,_,_,rfl,rfl,by rw [e1,mk_len,mk_len];exact line_le (by simp;omega),_,_,rfl,rfl,by rw [str_len2,e1,e2,mk_len,mk_len,mk_len];exact line_le (by simp;omega),_,rfl,line_le (show 2≤1000 by omega),fun t ht=>?_⟩
      rw [t1]
      have s1:Same HX (upd HX t (.tup [.str (mk (Wr.txt (.br N))),.str (mk N)])):=(Same.refl HX).new ht
      have v1:upd HX t (.tup [.str (mk (Wr.txt (.br N))),.str (mk N)]) t=some (.tup [.str (mk (Wr.txt (.br N))),.str (mk N)]):=upd_same
      show (fun HH=>_) (upd HX t (.tup [.str (mk (Wr.txt (.br N))),.str (mk N)]))
      generalize upd HX t (.tup [.str (mk (Wr.txt (.br N))),.str (mk N)])=HY at s1 v1
      have hwY:=s1 _ _ hwX
      have lY:=lX.same s1
      refine ⟨wy,vs,_,rfl,rfl,hwY,Nat.lt_of_lt_of_le (show vs.length < 1000 by omega) (line_le (Nat.le_refl _)),?_⟩
      refine ⟨_,vs++[.ref t],rfl,(kX.same s1).write wH wp,?_,by rw [upd_ne (Ne.symm lrw)];exact s1 _ _ hlX,upd_same,by rw [List.length_append,wl];rfl,fun v hv=>WAt.write ?_ hwY⟩
      · obtain ⟨us,hu,lu,au⟩:=lY
        refine ⟨us,by rw [upd_ne (Ne.symm wf)];exact hu,lu,fun k x e=>?_⟩
        obtain ⟨a,ea,eb⟩:=au k x e
        exact ⟨a,ea,by rw [upd_ne (fun z=>by rw [z,hwY] at eb;cases eb)];exact eb⟩
      · rcases List.mem_append.mp hv with hv | hv
        · exact (wX v hv).same s1
        · rw [List.mem_singleton.mp hv]
          exact ⟨t,.br N,rfl,nok,v1,by show (91 :: (N++[93])).length≤28;simp;omega⟩
    clear kA lA hw wat
    rintro σ' HE ⟨o12,vs7,rfl,kA,lA,hw,wl7,wat⟩
    refine ⟨_,rfl,_,rfl,p,_,kA.deck,by omega,.inl ⟨wy,vs7,rfl,hw,wp,by omega,by omega,fun v HF hv kdF=>?_⟩⟩
    obtain ⟨a,x,rfl,xok,ha,xl⟩:=(wat v hv).kd kdF kA.deck
    have kB:=kA.trans kdF
    have lB:=lA.kd kdF fp kA.deck
    refine ⟨a,_,rfl,SqT.of ha,rfl,_,_,rfl,_,_,rfl,rfl,?_⟩
    refine ⟨_,rfl,p,3,_,rfl,kB.deck,by omega,by decide,by decide,fun n3 HG n30 n31 kdG=>⟨rfl,?_⟩⟩
    have kC:=(kB.trans kdG).mono (show c+6+9 * i+1+1≤c+1+9 * ((i+1:Nat):Int) by omega)
    have lC:=lB.kd kdG fp kB.deck
    generalize decide (V.int n3=V.int 0)=b
    refine ⟨_,rfl,_,rfl,.inr ⟨_,rfl,?_⟩⟩
    refine ⟨_,_,rfl,rfl,?_,?_⟩
    · have:(Str.ofString "*").length=1:=by decide +kernel
      exact PyProof.Rows.mulOk_of 1 60 (by omega) (by split <;> omega) (by split <;> omega) (by decide) (by decide)
    rw [mul_star]
    refine ⟨_,_,rfl,rfl,?_,?_⟩
    · rw [mk_len,mk_len]
      exact line_le (by cases b <;> simp [star] <;> omega)
    have et:mk x.txt++mk (star b)=mk (W63.wt (x,b)):=str_ext (by rw [app_list];rfl)
    rw [et]
    have wtl:(W63.wt (x,b)).length≤29:=by unfold W63.wt;rw [List.length_append];cases b <;> simp [star] <;> omega
    clear kA lA kB lB ha wat hw
    obtain ⟨us,hu,lu,au⟩:=id lC
    refine ⟨rfl,_,rfl,fo,rfl,⟨_,SqL.of hu⟩,fun acc hacc=>?_⟩
    refine comp_lst (K:=K) (a:=fo) (xs:=us) (by omega) (fun j ys HX=>HX acc=some (.lst ys)∧Same HG HX∧ys=((xs.take j).map fun x=>mk (W63.wt x)).map V.str)
      (fun j ys HX h=>SqL.of (h.2.1 _ _ hu)) (fun j ys HX h=>⟨h.1,by rw [h.2.2,List.length_map,List.length_map,List.length_take];omega⟩) ⟨upd_same,(Same.refl HG).new hacc,rfl⟩ ?_ ?_
    rotate_left
    · rintro j v ys HX hx ⟨g1,g2,rfl⟩
      have il:j < xs.length:=by
        have:=(List.getElem?_eq_some_iff.mp hx).1
        omega
      obtain ⟨a,e1,e2⟩:=au j _ (List.getElem?_eq_getElem il)
      rw [hx] at e1
      cases e1
      have tk:xs.take (j+1)=xs.take j++[xs[j]]:=by rw [List.take_succ,List.getElem?_eq_getElem il];rfl
      refine ⟨rfl,_,rfl,a,_,_,_,rfl,rfl,SqT.of (g2 _ _ e2),rfl,g1,upd_same,g2.write hacc,?_⟩
      rw [tk,List.map_append,List.map_append];rfl
    rintro ys HI ⟨g1,sI,rfl⟩
    rw [lu,List.take_length] at g1
    refine ⟨_,acc,xs.map (fun x=>mk (W63.wt x)),rfl,rfl,SqL.of g1,by rw [enc_sum,show (Str.ofString "").length=0 from rfl];omega,?_⟩
    rw [enc_join]
    refine ⟨_,rfl,by rw [mk_len];exact line_le (by omega),_,rfl,_,rfl,by rw [mk_len];exact line_le (by omega),_,_,rfl,rfl,_,_,rfl,rfl,_,rfl,?_⟩
    rw [mk_len,mk_len]
    have kI:=kC.same sI
    have lI:=lC.same sI
    refine ite2 (fun cc=>?_) (fun cc=>?_)
    · have cc':((enc xs).length:Int)+((W63.wt (x,b)).length:Int)≤40:=of_decide_eq_true cc
      obtain ⟨us,hu,lu,au⟩:=lI
      refine ⟨_,rfl,.inl ⟨rfl,_,SqL.of hu⟩,_,rfl,_,rfl,_,rfl,line_le (show 3≤1000 by omega),fun t ht=>?_⟩
      have s1:Same HI (upd HI t (.tup [.str (mk (W63.wt (x,b))),.str (mk x.lets),.bl b])):=(Same.refl HI).new ht
      have v1:upd HI t (.tup [.str (mk (W63.wt (x,b))),.str (mk x.lets),.bl b]) t=some (.tup [.str (mk (W63.wt (x,b))),.str (mk x.lets),.bl b]):=upd_same
      show (fun HH=>_) (upd HI t (.tup [.str (mk (W63.wt (x,b))),.str (mk x.lets),.bl b]))
      generalize upd HI t (.tup [.str (mk (W63.wt (x,b))),.str (mk x.lets),.bl b])=HJ at s1 v1
      have huJ:=s1 _ _ hu
      refine ⟨fo,us,_,rfl,rfl,huJ,Nat.lt_of_lt_of_le (show us.length < 1000 by omega) (line_le (Nat.le_refl _)),?_⟩
      refine ⟨xs++[(x,b)],_,_,_,_,_,_,_,_,_,_,rfl,(kI.same s1).write hfo fp,⟨us++[.ref t],upd_same,by rw [List.length_append,List.length_append,lu];rfl,fun k y e=>?_⟩,fun y hy=>?_,?_,by rw [List.length_append];show xs.length+1≤_;omega⟩
      · have tup:∀ {a:Addr} {zs:List V},HJ a=some (.tup zs)→upd HJ fo (.lst (us++[.ref t])) a=some (.tup zs):=fun {a zs} h=>by
          rw [upd_ne (fun z=>by rw [z,huJ] at h;cases h)];exact h
        rcases Nat.lt_or_ge k xs.length with h | h
        · rw [List.getElem?_append_left h] at e
          obtain ⟨a,e1,e2⟩:=au k y e
          exact ⟨a,by rw [List.getElem?_append_left (by omega)];exact e1,tup (s1 _ _ e2)⟩
        · rw [List.getElem?_append_right h] at e
          have hk:k=xs.length:=by
            have:=(List.getElem?_eq_some_iff.mp e).1
            simp at this
            omega
          rw [hk,Nat.sub_self] at e
          cases e
          exact ⟨t,by rw [hk,List.getElem?_append_right (by omega),lu,Nat.sub_self];rfl,tup v1⟩
      · rcases List.mem_append.mp hy with hy | hy
        · exact ok y hy
        · rw [List.mem_singleton.mp hy];exact xok
      · rw [W63.enc_app,List.length_append]
        have:enc [(x,b)]=W63.wt (x,b):=by show W63.wt (x,b)++[]=_;rw [List.append_nil]
        rw [this];omega
    · exact ⟨xs,_,_,_,_,_,_,_,_,_,_,rfl,kI,lI,ok,e40,by omega⟩
  · rintro σ HX ⟨xs,o5,o6,o7,o8,o9,o10,o11,o12,o13,o14,rfl,kX,lX,ok,e40,xl⟩
    exact ⟨_,rfl,q fo xs HX (kX.mono (by omega)) hfo fp lX ok e40 (by omega)⟩
end
end S67
namespace L2
open PySem PySem.Spec PyProof.Rows PySem.W
def nK (z:Nat):Key:=.inl (z:Int)
theorem nK_inj {a b:Nat} (h:nK a=nK b):a=b:=by
  have h':(Sum.inl (a:Int):Key)=.inl (b:Int):=h
  injection h' with h'
  omega
structure Ks (m:Nat) (kvs:List (Key × V)) (zs:List Nat):Prop where
  ks:kvs.map (·.1)=zs.map nK
  nd:zs.Nodup
  le:∀ z∈zs,z≤m
theorem Ks.nil {m:Nat}:Ks m [] []:=⟨rfl,List.nodup_nil,fun _ h=>nomatch h⟩
theorem Ks.any {m:Nat} {kvs:List (Key × V)} {zs:List Nat} (h:Ks m kvs zs) (s:Nat):(kvs.any fun kv=>decide (kv.1=nK s))=decide (s∈zs):=by
  rw [Bool.eq_iff_iff,List.any_eq_true,decide_eq_true_eq]
  constructor
  · rintro ⟨p,hp,e⟩
    have m1:p.1∈kvs.map (·.1):=List.mem_map.mpr ⟨p,hp,rfl⟩
    rw [h.ks] at m1
    obtain ⟨z,hz,ez⟩:=List.mem_map.mp m1
    have:=nK_inj (ez.trans (of_decide_eq_true e))
    rw [← this];exact hz
  · intro hs
    have m1:nK s∈kvs.map (·.1):=by rw [h.ks];exact List.mem_map.mpr ⟨s,hs,rfl⟩
    obtain ⟨p,hp,e⟩:=List.mem_map.mp m1
    exact ⟨p,hp,decide_eq_true e⟩
theorem Ks.isSome {m:Nat} {kvs:List (Key × V)} {zs:List Nat} (h:Ks m kvs zs) (s:Nat):(valV kvs (nK s)).isSome=decide (s∈zs):=by rw [← valV_any];exact h.any s
theorem Ks.put {m:Nat} {kvs:List (Key × V)} {zs:List Nat} (h:Ks m kvs zs) {z:Nat} (v:V) (hz:z≤m):∃ zs',Ks m (putK kvs (nK z) v) zs'∧∀ x,x∈zs' ↔ x∈zs∨x=z:=by
  have an:=h.any z
  by_cases e:z∈zs
  · refine ⟨zs,⟨?_,h.nd,h.le⟩,fun x=>⟨.inl,fun o=>o.elim id fun q=>q ▸ e⟩⟩
    unfold putK
    rw [if_pos (an.trans (decide_eq_true e)),List.map_map,← h.ks]
    refine List.map_congr_left fun p _=>?_
    show (if p.1=nK z then (p.1,v) else p).1=p.1
    split <;> rfl
  · refine ⟨zs++[z],⟨?_,?_,fun x hx=>?_⟩,fun x=>by simp⟩
    · unfold putK
      rw [if_neg (by rw [an,decide_eq_false e];decide),List.map_append,h.ks,List.map_append];rfl
    · rw [List.nodup_append]
      exact ⟨h.nd,by simp,fun a ha b hb q=>e (by rw [← List.mem_singleton.mp hb,← q];exact ha)⟩
    · rcases List.mem_append.mp hx with q | q
      · exact h.le x q
      · rw [List.mem_singleton.mp q];exact hz
theorem Ks.merge {m:Nat} (v:V):∀ (T:List Nat) {kvs:List (Key × V)} {zs:List Nat},Ks m kvs zs→(∀ t∈T,t≤m)→∃ zs',Ks m (mergeK kvs ((T.map nK).map fun j=>(j,v))) zs'∧∀ x,x∈zs' ↔ x∈zs∨x∈T
  | [],kvs,zs,h,_=>⟨zs,h,fun x=>by simp⟩
  | t :: T,kvs,zs,h,hT=>by
    obtain ⟨z1,h1,m1⟩:=h.put v (hT t List.mem_cons_self)
    obtain ⟨z2,h2,m2⟩:=Ks.merge v T h1 fun x hx=>hT x (List.mem_cons_of_mem _ hx)
    refine ⟨z2,h2,fun x=>?_⟩
    rw [m2,m1,List.mem_cons,or_assoc]
theorem nodup_le {zs:List Nat} {m:Nat} (nd:zs.Nodup) (le:∀ z∈zs,z≤m):zs.length≤m+1:=by
  have p:zs.Perm ((List.range (m+1)).filter fun x=>decide (x∈zs)):=(List.perm_ext_iff_of_nodup nd (List.nodup_range.filter _)).mpr fun x=>by
    rw [List.mem_filter,List.mem_range,decide_eq_true_eq]
    exact ⟨fun h=>⟨by have:=le x h;omega,h⟩,fun h=>h.2⟩
  rw [p.length_eq]
  have:=List.length_filter_le (fun x=>decide (x∈zs)) (List.range (m+1))
  rw [List.length_range] at this;exact this
theorem Ks.len {m:Nat} {kvs:List (Key × V)} {zs:List Nat} (h:Ks m kvs zs):zs.length≤m+1:=nodup_le h.nd h.le
theorem Ks.klen {m:Nat} {kvs:List (Key × V)} {zs:List Nat} (h:Ks m kvs zs):kvs.length≤m+1:=by
  have:=congrArg List.length h.ks
  rw [List.length_map,List.length_map] at this
  have:=h.len;omega
theorem Ks.keys {m:Nat} {kvs:List (Key × V)} {zs:List Nat} (h:Ks m kvs zs):kvs.map (·.1)=(zs.map fun z:Nat=>(z:Int)).map Sum.inl:=by
  rw [h.ks,List.map_map];rfl
theorem Ks.sorted {m n:Nat} {kvs:List (Key × V)} {zs:List Nat} (h:Ks m kvs zs) {p:Nat→Bool} (hm:∀ x,x∈zs ↔ x < n∧p x=true) {ns:List Int} (pm:ns.Perm (zs.map fun z:Nat=>(z:Int))) (so:ns.Pairwise (·≤·)) :
    ns.map V.int=((List.range n).filter p).map fun z:Nat=>V.int (z:Int):=by
  have q:zs.Perm ((List.range n).filter p):=(List.perm_ext_iff_of_nodup h.nd (List.nodup_range.filter _)).mpr fun x=>by
    rw [List.mem_filter,List.mem_range];exact hm x
  have e:ns=((List.range n).filter p).map fun z:Nat=>(z:Int):=by
    refine (pm.trans (q.map _)).eq_of_pairwise (fun a b _ _ l1 l2=>Int.le_antisymm l1 l2) so ?_
    rw [List.pairwise_map]
    exact (List.pairwise_lt_range.filter _).imp fun h=>by omega
  rw [e,List.map_map];rfl
end L2
namespace S67
open PySem L2 W7
open W63 (Wr Wi enc dec star)
theorem cl_in {its:List W63.It} {T:Nat→Bool} {s:Nat} (h:T s=true):W63.cl its T s=true:=W66.cl_of h
theorem dec_at {xs:List Wi} {i:Nat} (il:i < xs.length):(dec xs).getD i ([],false)=(xs[i].1.lets,xs[i].2):=by
  unfold dec
  rw [List.getD_eq_getElem?_getD,List.getElem?_map,List.getElem?_eq_getElem il];rfl
section
variable {P:Program} {w:World} {K:PySem.W.Frag} {mg:Str→Option Value} {base:Heap} {k:Nat}
def sp_past:Sp:=fun vs H Q _=>∃ (l r:Addr) (xs:List Wi) (T:List Nat),vs=[.ref l,.ref r]∧LIts H l xs∧xs.length≤40∧H r=some (.lst (nV T))∧T.length≤100∧(∀ t∈T,t≤xs.length) ∧
  ∀ (q:Addr) (H':Hp),Same H H'→H q=none→H' q=some (.lst (nV (stl (dec xs) (fun s=>decide (s∈T)) (xs.length+1))))→Q (.ref q) H'
theorem has_past (D:Df K mg "_law_past" s_law_past) (B:Blt7 mg):Has P w K mg base "_law_past" (k+1) ["items_here", "states"] sp_past:=by
  refine D.has sc_law_past (fun _ _ _ _ _ _ us hl=>match us,hl with | [_,_],_=>rfl) (fun vs H Q E h=>by obtain ⟨l,r,xs,T,rfl,_⟩:=h;rfl) (fun f cdv A outer s H vs Q E hr h=>?_)
  obtain ⟨l,r,xs,T,rfl,it,x40,hT,T100,Tle,q⟩:=h
  refine ⟨_,(pss_cons (ps_set (i:=2) sc_law_past.nd rfl (by first | exact Or.inl rfl | exact Or.inr rfl) (pe_callTy (call_dict_prsM rfl) rfl B.dict_ bt_dict (pa_cons (pe_comp rfl (pi_list (pv 1)) (NL:=["state"]) (ix:=[]) (csc (defScope s_law_past) N_law_past) (fun cl C s₃ H₃ fp pins=>⟨(pg_name (i:=0) (show List.Nodup (["state"]:List Str) from by decide +kernel) rfl (by first | exact Or.inl rfl | exact Or.inr rfl)),pifs_nil,(pe_tup (pa_cons (pv 0) (pa_cons pe_bl pa_nil)))⟩)) pa_nil)))
  (pss_cons (ps_for PassesOwn.never rfl (pi_enum rfl B.enumerate (pa_cons (pv 0) pa_nil)) (pg_tup rfl (pgs_cons (pg_name (i:=3) sc_law_past.nd rfl (by first | exact Or.inl rfl | exact Or.inr rfl)) (pgs_cons (pg_tup rfl (pgs_cons (pg_name (i:=4) sc_law_past.nd rfl (by first | exact Or.inl rfl | exact Or.inr rfl)) (pgs_cons (pg_name (i:=5) sc_law_past.nd rfl (by first | exact Or.inl rfl | exact Or.inr rfl)) (pgs_cons (pg_name (i:=6) sc_law_past.nd rfl (by first | exact Or.inl rfl | exact Or.inr rfl)) pgs_nil)))) pgs_nil)))
  (pss_one (ps_if (PW.pt (pw_and (pt_val (pv 6)) (pw_and1 (pt_cmp (pc_din (hu_of hr) (pv 3) (pv 2)) (by with_unfolding_all rfl)))))
  (pss_one (ps_dput (hu_of hr) (pv 2) (pe_op op_add (pv 3) pe_int) pe_bl rfl))
  pss_nil)))
  (pss_one (ps_ret (pe_callB (call_sortedDI rfl) rfl B.sorted bt_sorted (pa_cons (pv 2) pa_nil)))))),?_⟩
  refine ⟨_,rfl,r,rfl,⟨_,SqL.of hT⟩,fun acc hacc=>?_⟩
  refine comp_lst (K:=K) (a:=r) (xs:=nV T) (by rw [nV_len];omega) (fun i ys HX=>HX acc=some (.lst ys)∧Same H HX∧∃ as:List Addr,ys=as.map V.ref∧as.length=i∧∀ (j:Nat) (a:Addr) (t:Nat),as[j]?=some a→T[j]?=some t→HX a=some (.tup [.int (t:Int),.bl true]))
    (fun i ys HX h=>SqL.of (h.2.1 _ _ hT)) (fun i ys HX h=>⟨h.1,by obtain ⟨as,e,e2,_⟩:=h.2.2;rw [e,List.length_map];omega⟩) ⟨upd_same,(Same.refl H).new hacc,[],rfl,rfl,fun j a t e=>by cases e⟩ ?_ ?_
  rotate_left
  · rintro i x ys HX hx ⟨g1,g2,as,rfl,la,ha⟩
    rw [List.getElem?_map] at hx
    cases e1:T[i]? with
    | none=>rw [e1] at hx;cases hx
    | some t=>
      rw [e1] at hx
      cases hx
      refine ⟨rfl,_,rfl,line_le (show 2≤1000 by omega),fun tt htt=>?_⟩
      have ne:acc≠tt:=ne_of_none g1 htt
      have s1:Same HX (upd HX tt (.tup [.int (t:Int),.bl true])):=(Same.refl HX).new htt
      refine ⟨s1 _ _ g1,upd_same,(g2.trans s1).write hacc,as++[tt],by rw [List.map_append];rfl,by rw [List.length_append,la];rfl,fun j a t' e2 e3=>?_⟩
      rcases Nat.lt_or_ge j as.length with h | h
      · rw [List.getElem?_append_left h] at e2
        have:=s1 _ _ (ha j a t' e2 e3)
        have na:a≠acc:=fun z=>by rw [z,s1 _ _ g1] at this;cases this
        rw [upd_ne na];exact this
      · rw [List.getElem?_append_right h] at e2
        have hj:j=as.length:=by
          have:=(List.getElem?_eq_some_iff.mp e2).1
          simp at this
          omega
        rw [hj,Nat.sub_self] at e2
        cases e2
        rw [hj,la,e1] at e3
        cases e3
        rw [upd_ne (Ne.symm ne)];exact upd_same
  rintro ys H1 ⟨g1,s1,as,rfl,la,ha⟩
  rw [nV_len] at la
  refine ⟨acc,as,(T.map nK).map fun j=>(j,V.bl true),rfl,g1,by rw [List.length_map,List.length_map];exact la,fun j a kk v e1 e2=>?_,by omega,fun d hd=>?_⟩
  · rw [List.getElem?_map,List.getElem?_map] at e2
    cases e3:T[j]? with
    | none=>rw [e3] at e2;cases e2
    | some t=>
      rw [e3] at e2
      cases e2
      exact ha j a t e1 e3
  obtain ⟨zs0,ks0,m0⟩:=Ks.merge (m:=xs.length) (V.bl true) T Ks.nil Tle
  have hd1:upd H1 d (.dK (mergeK [] ((T.map nK).map fun j=>(j,V.bl true)))) d=some (.dK (mergeK [] ((T.map nK).map fun j=>(j,V.bl true)))):=upd_same
  have s2:Same H (upd H1 d (.dK (mergeK [] ((T.map nK).map fun j=>(j,V.bl true))))):=s1.new hd
  have Hd:H d=none:=s1.free hd
  show (fun HH=>_) (upd H1 d (.dK (mergeK [] ((T.map nK).map fun j=>(j,V.bl true)))))
  generalize upd H1 d (.dK (mergeK [] ((T.map nK).map fun j=>(j,V.bl true))))=H2 at hd1 s2
  generalize mergeK [] ((T.map nK).map fun j=>(j,V.bl true))=kvs0 at hd1 ks0
  obtain ⟨vs,hv,lv,at_⟩:=it
  refine ⟨_,rfl,.lst l,rfl,⟨_,.inl (s2 _ _ hv)⟩,?_⟩
  refine for_enum (xs:=vs) (fun i σ HX=>∃ (o3 o4 o5 o6:Option V) (kvs:List (Key × V)) (zs:List Nat),σ=[some (.ref l),some (.ref r),some (.ref d),o3,o4,o5,o6]∧Same H HX∧HX d=some (.dK kvs)∧Ks xs.length kvs zs∧∀ x,x∈zs ↔ x∈T∨(x≤i∧W63.cl (dec xs) (fun s=>decide (s∈T)) x=true))
    ⟨none,none,none,none,kvs0,zs0,rfl,s2,hd1,ks0,fun x=>?_⟩ (fun i σ HX _ h=>by obtain ⟨_,_,_,_,_,_,_,sX,_⟩:=h;exact .inl (sX _ _ hv)) ?_ ?_
  · rw [m0]
    constructor
    · rintro (z | z)
      · cases z
      · exact .inl z
    · rintro (z | ⟨z,c⟩)
      · exact .inr z
      · have:x=0:=by omega
        subst this
        exact .inr (of_decide_eq_true c)
  · rintro i v σ HX p hx ⟨o3,o4,o5,o6,kvs,zs,rfl,sX,hdX,ks,mem⟩ hp
    have il:i < xs.length:=by
      have:=(List.getElem?_eq_some_iff.mp hx).1
      omega
    obtain ⟨a,e1,e2⟩:=at_ i _ (List.getElem?_eq_getElem il)
    rw [hx] at e1
    cases e1
    have est:W63.st (dec xs) i=xs[i].2:=by unfold W63.st;rw [dec_at il]
    have sP:Same HX (upd HX p (.tup [.int (i:Int),.ref a])):=(Same.refl HX).new hp
    refine ⟨p,_,rfl,SqT.of upd_same,rfl,_,_,rfl,_,_,rfl,?_⟩
    have hdP:=sP _ _ hdX
    have e2P:=sP _ _ (sX _ _ e2)
    have sXP:=sX.trans sP
    show (fun HH=>_) (upd HX p (.tup [.int (i:Int),.ref a]))
    generalize upd HX p (.tup [.int (i:Int),.ref a])=HY at hdP e2P sXP
    refine ⟨a,_,rfl,SqT.of e2P,rfl,_,_,rfl,_,_,rfl,_,_,rfl,rfl,rfl,?_⟩
    have ini:i∈zs ↔ W63.cl (dec xs) (fun s=>decide (s∈T)) i=true:=(mem i).trans ⟨fun o=>o.elim (fun z=>cl_in (decide_eq_true z)) (·.2),fun c=>.inr ⟨Nat.le_refl _,c⟩⟩
    have stay:(∀ x,x=i+1→W63.cl (dec xs) (fun s=>decide (s∈T)) x=true→x∈T)→∀ x,x∈zs ↔ x∈T∨(x≤i+1∧W63.cl (dec xs) (fun s=>decide (s∈T)) x=true):=fun h x=>by
      rw [mem]
      constructor
      · rintro (z | ⟨z,c⟩)
        · exact .inl z
        · exact .inr ⟨by omega,c⟩
      · rintro (z | ⟨z,c⟩)
        · exact .inl z
        · rcases Nat.lt_or_ge i x with l1 | l1
          · exact .inl (h x (by omega) c)
          · exact .inr ⟨l1,c⟩
    refine ⟨_,rfl,_,rfl,?_⟩
    cases sj:xs[i].2 with
    | false=>
      refine L2.iteB rfl ?_
      refine iteF ?_
      refine ⟨_,_,_,_,kvs,zs,rfl,sXP,hdP,ks,stay fun x e c=>?_⟩
      subst e
      rw [W63.cl,est,sj,Bool.and_false,Bool.or_false] at c
      exact of_decide_eq_true c
    | true=>
      refine iteA rfl ?_
      refine ⟨_,rfl,_,rfl,d,_,rfl,DGet.k (k:=nK i) hdP,_,rfl,?_⟩
      by_cases ci:W63.cl (dec xs) (fun s=>decide (s∈T)) i=true
      · refine iteA ((ks.isSome i).trans (decide_eq_true (ini.mpr ci))) ?_
        obtain ⟨zs',ks',m'⟩:=ks.put (z:=i+1) (V.bl true) (by omega)
        refine ⟨_,rfl,_,rfl,_,_,rfl,rfl,d,_,rfl,DPut.k (k:=nK (i+1)) hdP (Nat.lt_of_le_of_lt ks.klen (small1000 (by omega))),?_⟩
        refine ⟨_,_,_,_,_,zs',rfl,sXP.write Hd,upd_same,ks',fun x=>?_⟩
        rw [m',mem]
        constructor
        · rintro ((z | ⟨z,c⟩) | z)
          · exact .inl z
          · exact .inr ⟨by omega,c⟩
          · subst z
            exact .inr ⟨Nat.le_refl _,by rw [W63.cl,ci,est,sj];simp⟩
        · rintro (z | ⟨z,c⟩)
          · exact .inl (.inl z)
          · rcases Nat.lt_or_ge i x with l1 | l1
            · exact .inr (by omega)
            · exact .inl (.inr ⟨l1,c⟩)
      · refine L2.iteB ((ks.isSome i).trans (decide_eq_false fun z=>ci (ini.mp z))) ?_
        refine ⟨_,_,_,_,kvs,zs,rfl,sXP,hdP,ks,stay fun x e c=>?_⟩
        subst e
        rw [W63.cl,Bool.eq_false_iff.mpr ci,Bool.false_and,Bool.or_false] at c
        exact of_decide_eq_true c
  · rintro σ HX ⟨o3,o4,o5,o6,kvs,zs,rfl,sX,hdX,ks,mem⟩
    rw [lv] at mem
    have kl:=ks.len
    refine ⟨_,rfl,d,kvs,_,rfl,.inl hdX,ks.keys,by rw [List.length_map];omega,fun ns l' pm so hl'=>?_⟩
    rw [ks.sorted (n:=xs.length+1) (p:=W63.cl (dec xs) fun s=>decide (s∈T)) (fun x=>?_) pm so]
    · exact q l' _ (sX.new hl') (sX.free hl') upd_same
    · rw [mem]
      constructor
      · rintro (z | ⟨z,c⟩)
        · exact ⟨by have:=Tle x z;omega,cl_in (decide_eq_true z)⟩
        · exact ⟨by omega,c⟩
      · rintro ⟨z,c⟩
        exact .inr ⟨by omega,c⟩
def sp_beyond:Sp:=fun vs H Q _=>∃ (l r:Addr) (xs:List Wi) (S:List Nat) (c:Nat),vs=[.ref l,.ref r,.str ⟨#[c]⟩]∧LIts H l xs∧xs.length≤40∧H r=some (.lst (nV S))∧S.length≤41 ∧
  ∀ (q:Addr) (H':Hp),Same H H'→H q=none→H' q=some (.lst (nV (stl (dec xs) (fun s=>decide (s∈byl (dec xs) S c)) (xs.length+1))))→Q (.ref q) H'
theorem has_beyond (D:Df K mg "_law_beyond" s_law_beyond) (B:Blt7 mg) (G_law_past:Has P w K mg base "_law_past" k ["items_here", "states"] sp_past):Has P w K mg base "_law_beyond" (k+1) ["items_here", "states", "sign"] sp_beyond:=by
  refine D.has sc_law_beyond (fun _ _ _ _ _ _ us hl=>match us,hl with | [_,_,_],_=>rfl) (fun vs H Q E h=>by obtain ⟨l,r,xs,S,c,rfl,_⟩:=h;rfl) (fun f cdv A outer s H vs Q E hr h=>?_)
  obtain ⟨l,r,xs,S,c,rfl,it,x40,hS,S41,q⟩:=h
  refine ⟨_,(pss_cons (ps_set (i:=3) sc_law_beyond.nd rfl (by first | exact Or.inl rfl | exact Or.inr rfl) (pe_lst pa_nil))
  (pss_cons (ps_for PassesOwn.never rfl (pi_list (pv 1)) (pg_name (i:=4) sc_law_beyond.nd rfl (by first | exact Or.inl rfl | exact Or.inr rfl))
  (pss_one (ps_if (PW.pt (pw_and (pt_cmpR op_lt (pv 4) (pe_callB call_len_seq rfl B.len bt_len (pa_cons (pv 0) pa_nil)) (nomark _)) (pw_and1 (pt_cmpR op_in_str (pv 2) (pe_ix ix_tup (pe_ix ix_list (pv 0) (pv 4) (fun _ _=>rfl)) pe_int (fun _ _=>rfl)) (by with_unfolding_all rfl)))))
  (pss_one (ps_expr (pe_bm PySem.F.plainAttrs_list PySem.F.slot_list_append PySem.F.type_list_append mt_append (pv 3) (pa_cons (pe_op op_add (pv 4) (pe_callTy call_int1 rfl B.int_ bt_int (pa_cons (pe_not (pe_ix ix_tup (pe_ix ix_list (pv 0) (pv 4) (fun _ _=>rfl)) pe_int (fun _ _=>rfl))) pa_nil))) pa_nil))))
  pss_nil)))
  (pss_one (ps_ret (pe_callH G_law_past hr rfl (pa_cons (pv 0) (pa_cons (pv 3) pa_nil))))))),?_⟩
  have dl:=W63.dec_len xs
  refine ⟨line_le (show 0≤1000 by omega),fun fo hfo=>?_⟩
  have s1:Same H (upd H fo (.lst [])):=(Same.refl H).new hfo
  obtain ⟨vs,hv,lv,at_⟩:=id it
  have byl_take:∀ i,(byl (dec xs) (S.take i) c).length≤41:=fun i=>by
    have:=byl_len (dec xs) (S.take i) c
    rw [List.length_take] at this;omega
  refine ⟨_,rfl,r,rfl,⟨_,SqL.of (s1 _ _ hS)⟩,?_⟩
  refine for_list (K:=K) (xs:=nV S) (fun i σ HX=>∃ o4:Option V,σ=[some (.ref l),some (.ref r),some (.str ⟨#[c]⟩),some (.ref fo),o4]∧Same H HX∧HX fo=some (.lst (nV (byl (dec xs) (S.take i) c)))) ⟨none,rfl,s1,upd_same⟩ (fun i σ HX _ h=>by obtain ⟨_,_,sX,_⟩:=h;exact SqL.of (sX _ _ hS)) ?_ ?_
  · rintro i v σ HX hx ⟨o4,rfl,sX,hf⟩
    rw [List.getElem?_map] at hx
    cases e1:S[i]? with
    | none=>rw [e1] at hx;cases hx
    | some t=>
      rw [e1] at hx
      cases hx
      have tk:S.take (i+1)=S.take i++[t]:=by rw [List.take_succ,e1];rfl
      have bt:byl (dec xs) (S.take (i+1)) c=byl (dec xs) (S.take i) c++byl (dec xs) [t] c:=by
        unfold byl;rw [tk,List.filter_append,List.map_append]
      have bl:=byl_take i
      refine ⟨_,rfl,?_⟩
      refine ⟨_,rfl,l,_,rfl,.inl (SqL.of (sX _ _ hv)),_,_,rfl,rfl,_,rfl,?_⟩
      by_cases lt:t < xs.length
      · refine iteA (decide_eq_true (by rw [lv];omega)) ?_
        obtain ⟨ia,ie1,ie2⟩:=at_ t _ (List.getElem?_eq_getElem lt)
        refine ⟨_,rfl,_,rfl,_,rfl,l,_,_,_,rfl,rfl,SqL.of (sX _ _ hv),atI_nat ie1,ia,_,_,_,rfl,rfl,SqT.of (sX _ _ ie2),rfl,_,_,rfl,rfl,_,rfl,?_⟩
        rw [PySem.StrLaws.found_one,mk_cps]
        have ed:=dec_at lt
        refine ite2 (fun cc=>?_) (fun cc=>?_)
        · have eb:byl (dec xs) [t] c=[if xs[t].2=true then t else t+1]:=by
            unfold byl
            rw [List.filter_cons_of_pos (by rw [decide_eq_true (by omega:t < (dec xs).length),ed,cc];rfl)]
            show [if W63.st (dec xs) t=true then t else t+1]=_
            unfold W63.st;rw [ed]
          rw [eb] at bt
          refine ⟨_,rfl,.inl ⟨rfl,_,SqL.of hf⟩,_,rfl,_,rfl,_,rfl,l,_,_,_,rfl,rfl,SqL.of (sX _ _ hv),atI_nat ie1,ia,_,_,_,rfl,rfl,SqT.of (sX _ _ ie2),rfl,?_⟩
          refine ⟨_,rfl,.inr ⟨_,rfl,_,_,rfl,rfl,fo,_,_,rfl,rfl,hf,?_,?_⟩⟩
          · rw [nV_len];exact Nat.lt_of_lt_of_le (show _ < 1000 by omega) (line_le (Nat.le_refl _))
          refine ⟨_,rfl,sX.write hfo,?_⟩
          rw [upd_same,bt,← nV_snoc]
          congr 4
          cases xs[t].2
          · rfl
          · show V.int ((t:Int)+0)=V.int (t:Int);rw [Int.add_zero]
        · refine ⟨_,rfl,sX,?_⟩
          have eb:byl (dec xs) [t] c=[]:=by
            unfold byl
            rw [List.filter_cons_of_neg (by rw [ed,Bool.eq_false_iff.mpr cc];simp)];rfl
          rw [bt,eb,List.append_nil];exact hf
      · refine L2.iteB (decide_eq_false (by rw [lv];omega)) ?_
        refine iteF ?_
        refine ⟨_,rfl,sX,?_⟩
        have eb:byl (dec xs) [t] c=[]:=by
          unfold byl
          rw [List.filter_cons_of_neg (by rw [decide_eq_false (by omega)];simp)];rfl
        rw [bt,eb,List.append_nil];exact hf
  · rintro σ HX ⟨o4,rfl,sX,hf⟩
    rw [nV_len,List.take_length] at hf
    have bl:=byl_len (dec xs) S c
    refine ⟨_,rfl,_,rfl,l,fo,xs,_,rfl,it.same sX,x40,hf,by omega,fun t ht=>?_,fun q' H' s' f' h'=>q q' H' (sX.trans s') (sX.free f') h'⟩
    unfold byl at ht
    obtain ⟨u,hu,rfl⟩:=List.mem_map.mp ht
    have:=(List.mem_filter.mp hu).2
    rw [Bool.and_eq_true] at this
    have:=of_decide_eq_true this.1
    split <;> omega
end
end S67
namespace S67
open PySem L2 W7
open W63 (Wr Wi enc dec star)
open W66 (Mk By mks mks_mem mks_len)
theorem byl_mem {its:List W63.It} {S:List Nat} {c s:Nat}:s∈byl its S c ↔ ∃ r,r∈S∧By its c r s:=by
  unfold byl By
  rw [List.mem_map]
  constructor
  · rintro ⟨t,ht,e⟩
    obtain ⟨h1,h2⟩:=List.mem_filter.mp ht
    rw [Bool.and_eq_true] at h2
    exact ⟨t,h1,of_decide_eq_true h2.1,of_decide_eq_true h2.2,e⟩
  · rintro ⟨t,h1,h2,h3,e⟩
    exact ⟨t,List.mem_filter.mpr ⟨h1,by rw [decide_eq_true h2,decide_eq_true h3];rfl⟩,e⟩
structure Mks (H:Hp) (t:Addr) (its:List W63.It) (ups:List Int) (lab:List Nat):Prop where
  ex:∃ vs:List V,H t=some (.tup vs)∧vs.length=ups.length∧∀ p,p < ups.length→∃ a,vs[p]?=some (V.ref a)∧H a=some (.tup (nV (mks its ups lab p)))
theorem Mks.same {H H':Hp} {t:Addr} {its:List W63.It} {ups:List Int} {lab:List Nat} (h:Mks H t its ups lab) (s:Same H H'):Mks H' t its ups lab:=by
  obtain ⟨vs,a,b,c⟩:=h
  exact ⟨vs,s _ _ a,b,fun p hp=>let ⟨q,e1,e2⟩:=c p hp;⟨q,e1,s _ _ e2⟩⟩
end S67
namespace L2
open PySem PySem.Spec PyProof.Rows PySem.W
section
variable {X:Cx} {tg:Expr}
theorem pi_listK (K:PySem.W.Frag) {l:Expr} {tl:TE} (hl:PE X l tl) (hK:X.K=K:=by rfl):PI X tg l (iList K tl):=by subst hK;exact pi_list hl
end
end L2
namespace S67
open PySem L2 W7
open W63 (Wr Wi enc dec star)
open W66 (Mk By mks mks_mem mks_len At at_iff)
theorem at_fun {ups:List Int} {d j c c':Nat} (h:At ups d j c) (h':At ups d j c'):c=c':=Option.some.inj ((at_iff.mp h).symm.trans (at_iff.mp h'))
theorem no_more {ups:List Int} {d j:Nat} (h:At ups d j 0):∀ {i p:Nat},j < i→¬ At ups d i p
  | 0,_,l,_=>absurd l (Nat.not_lt_zero _)
  | i+1,p,l,a=>by
    cases a with
    | @up i c a c0=>
      rcases Nat.lt_or_ge j i with z | z
      · exact no_more h z a
      · have:i=j:=by omega
        subst this
        have:=at_fun a h
        omega
theorem cl_none {its:List W63.It}:∀ s,W63.cl its (fun _=>false) s=false
  | 0=>rfl
  | s+1=>by rw [W63.cl,cl_none s];rfl
theorem dead {its:List W63.It} {w:List Nat} {j:Nat} (h:∀ s,s≤its.length→W63.N its w s j=false):∀ {i:Nat},j≤i→∀ s,s≤its.length→W63.N its w s i=false
  | 0,l,s,hs=>by
    have:j=0:=by omega
    subst this;exact h s hs
  | i+1,l,s,hs=>by
    rcases Nat.eq_or_lt_of_le l with e | e
    · subst e;exact h s hs
    · have ih:=dead h (i:=i) (by omega)
      rw [W63.N_next]
      cases c:W63.cl its (W63.by_ its w i) s with
      | false=>rfl
      | true=>
        have:=W66.cl_mono (U:=fun _=>false) s (fun r hr hb=>by
          obtain ⟨t,ht,hb⟩:=(W66.by_iff rfl r).mp hb
          rw [ih t (by have:=hb.1;omega)] at ht
          cases ht) c
        rw [cl_none] at this;cases this
theorem SN_mem {its:List W63.It} {w:List Nat} {j s:Nat}:s∈SN its w j ↔ s≤its.length∧W63.N its w s j=true:=by
  unfold SN
  rw [List.mem_filter,List.mem_range]
  exact ⟨fun h=>⟨by omega,h.2⟩,fun h=>⟨by omega,h.2⟩⟩
def Lst (its:List W63.It) (ups:List Int) (lab:List Nat) (d p x:Nat):Prop:=W63.N its [] x 0=true∨∃ d' j',d' < d∧At ups d' j' p∧W63.N its (W ups lab d') x j'=true
def Lwk (its:List W63.It) (ups:List Int) (lab:List Nat) (d j p x:Nat):Prop:=Lst its ups lab d p x∨∃ j',j'≤j∧At ups d j' p∧W63.N its (W ups lab d) x j'=true
theorem lst_w {its:List W63.It} {ups:List Int} {lab:List Nat} {d p x:Nat}:Lst its ups lab d p x ↔ Lwk its ups lab d 0 p x:=by
  constructor
  · exact .inl
  · rintro (h | ⟨j',h0,_,hN⟩)
    · exact h
    · have:j'=0:=by omega
      subst this
      exact .inl (by rw [W63.N_first] at hN ⊢;exact hN)
theorem lw_step {its:List W63.It} {ups:List Int} {lab:List Nat} {d j c p x:Nat} (ha:At ups d (j+1) c) (hx:x≤its.length):(Lwk its ups lab d j p x∨(p=c∧x∈SN its (W ups lab d) (j+1))) ↔ Lwk its ups lab d (j+1) p x:=by
  constructor
  · rintro ((h | ⟨j',h0,h1,h2⟩) | ⟨rfl,h⟩)
    · exact .inl h
    · exact .inr ⟨j',by omega,h1,h2⟩
    · exact .inr ⟨j+1,Nat.le_refl _,ha,(SN_mem.mp h).2⟩
  · rintro (h | ⟨j',h0,h1,h2⟩)
    · exact .inl (.inl h)
    · rcases Nat.lt_or_ge j j' with z | z
      · have:j'=j+1:=by omega
        subst this
        exact .inr ⟨at_fun h1 ha,SN_mem.mpr ⟨hx,h2⟩⟩
      · exact .inl (.inr ⟨j',z,h1,h2⟩)
theorem lw_end {its:List W63.It} {ups:List Int} {lab:List Nat} {d j p x:Nat} (hx:x≤its.length) (h:At ups d j 0∨SN its (W ups lab d) j=[]):Lwk its ups lab d j p x ↔ Lst its ups lab (d+1) p x:=by
  constructor
  · rintro ((h | ⟨d',j',h0,h1,h2⟩) | ⟨j',h0,h1,h2⟩)
    · exact .inl h
    · exact .inr ⟨d',j',by omega,h1,h2⟩
    · exact .inr ⟨d,j',by omega,h1,h2⟩
  · rintro (h' | ⟨d',j',h0,h1,h2⟩)
    · exact .inl (.inl h')
    · rcases Nat.lt_or_ge d' d with z | z
      · exact .inl (.inr ⟨d',j',z,h1,h2⟩)
      · have:d'=d:=by omega
        subst this
        rcases Nat.lt_or_ge j j' with y | y
        · rcases h with h | h
          · exact absurd h1 (no_more h y)
          · have dd:=dead (its:=its) (w:=W ups lab d') (j:=j) (fun s hs=>by
              cases e:W63.N its (W ups lab d') s j with
              | false=>rfl
              | true=>have:=SN_mem.mpr ⟨hs,e⟩;rw [h] at this;cases this) (i:=j') (by omega) x hx
            rw [dd] at h2;cases h2
        · exact .inr ⟨j',y,h1,h2⟩
theorem lst_all {its:List W63.It} {ups:List Int} {lab:List Nat} {p x:Nat} (hp:p < ups.length):Lst its ups lab ups.length p x ↔ Mk its ups lab p x:=by
  constructor
  · rintro (h | ⟨d',j',h0,h1,h2⟩)
    · exact ⟨p,0,hp,.here,by rw [W63.N_first] at h ⊢;exact h⟩
    · exact ⟨d',j',h0,h1,h2⟩
  · rintro ⟨d',j',h0,h1,h2⟩
    exact .inr ⟨d',j',h0,h1,h2⟩
structure Fnd (H1 HX:Hp) (fo:Addr) (fs:List Addr) (m:Nat) (S:Nat→Nat→Prop):Prop where
  same:Same H1 HX
  fo_:HX fo=some (.lst (fs.map V.ref))
  at_:∀ (p:Nat) (a:Addr),fs[p]?=some a→∃ (kvs:List (Key × V)) (zs:List Nat),HX a=some (.dK kvs)∧Ks m kvs zs∧∀ x,x∈zs ↔ x≤m∧S p x
theorem Fnd.keep {H1 HX HY:Hp} {fo:Addr} {fs:List Addr} {m:Nat} {S:Nat→Nat→Prop} (h:Fnd H1 HX fo fs m S) (s:Same HX HY):Fnd H1 HY fo fs m S:=
  ⟨h.same.trans s,s _ _ h.fo_,fun p a e=>let ⟨kvs,zs,a1,a2⟩:=h.at_ p a e;⟨kvs,zs,s _ _ a1,a2⟩⟩
theorem Fnd.iff {H1 HX:Hp} {fo:Addr} {fs:List Addr} {m:Nat} {S S':Nat→Nat→Prop} (h:Fnd H1 HX fo fs m S) (e:∀ p x,p < fs.length→x≤m→(S p x ↔ S' p x)):Fnd H1 HX fo fs m S':=
  ⟨h.same,h.fo_,fun p a ea=>let ⟨kvs,zs,a1,a2,a3⟩:=h.at_ p a ea;⟨kvs,zs,a1,a2,fun x=>(a3 x).trans ⟨fun ⟨l,s⟩=>⟨l,(e p x (List.getElem?_eq_some_iff.mp ea).1 l).mp s⟩,fun ⟨l,s⟩=>⟨l,(e p x (List.getElem?_eq_some_iff.mp ea).1 l).mpr s⟩⟩⟩⟩
theorem Fnd.put {H1 HX:Hp} {fo:Addr} {fs:List Addr} {m:Nat} {S:Nat→Nat→Prop} (h:Fnd H1 HX fo fs m S) (nd:fs.Nodup) (m40:m≤40) {p x:Nat} {a:Addr} (ea:fs[p]?=some a) (fr:H1 a=none) (hx:x≤m):∃ kvs,HX a=some (.dK kvs)∧kvs.length < sizeLine∧Fnd H1 (upd HX a (.dK (putK kvs (nK x) (.bl true)))) fo fs m (fun p' y=>S p' y∨(p'=p∧y=x)):=by
  obtain ⟨kvs,zs,a1,ks,mem⟩:=h.at_ p a ea
  obtain ⟨zs',ks',m'⟩:=ks.put (z:=x) (V.bl true) hx
  refine ⟨kvs,a1,Nat.lt_of_le_of_lt ks.klen (small1000 (by omega)),h.same.write fr,?_,fun p' a' ea'=>?_⟩
  · rw [upd_ne (fun e=>by rw [← e,h.fo_] at a1;cases a1)];exact h.fo_
  · by_cases e:a'=a
    · subst e
      have ep:p'=p:=(List.getElem?_inj (List.getElem?_eq_some_iff.mp ea').1 nd).mp (ea'.trans ea.symm)
      subst ep
      refine ⟨_,zs',upd_same,ks',fun y=>?_⟩
      rw [m',mem]
      constructor
      · rintro (⟨l,s⟩ | rfl)
        · exact ⟨l,.inl s⟩
        · exact ⟨hx,.inr ⟨rfl,rfl⟩⟩
      · rintro ⟨l,s | ⟨_,s⟩⟩
        · exact .inl ⟨l,s⟩
        · exact .inr s
    · obtain ⟨kvs2,zs2,b1,b2,b3⟩:=h.at_ p' a' ea'
      refine ⟨kvs2,zs2,by rw [upd_ne e];exact b1,b2,fun y=>(b3 y).trans ⟨fun ⟨l,s⟩=>⟨l,.inl s⟩,fun ⟨l,s⟩=>⟨l,s.elim id fun z=>?_⟩⟩⟩
      rw [z.1,ea] at ea'
      cases ea'
      exact absurd rfl e
section
variable {P:Program} {w:World} {K:PySem.W.Frag} {mg:Str→Option Value} {base:Heap} {k:Nat}
def sp_least:Sp:=fun vs H Q _=>∃ (t l:Addr) (ups:List Int) (lab:Str) (xs:List Wi),vs=[.ref t,.ref l]∧TreeAt H t ups lab∧LIts H l xs∧xs.length≤40 ∧
  ∀ (q:Addr) (H':Hp),Same H H'→H q=none→Mks H' q (dec xs) ups lab.cps.toList→Q (.ref q) H'
theorem has_least (D:Df K mg "_law_least" s_law_least) (B:Blt7 mg) (G_law_past:Has P w K mg base "_law_past" k ["items_here", "states"] sp_past) (G_law_beyond:Has P w K mg base "_law_beyond" k ["items_here", "states", "sign"] sp_beyond):Has P w K mg base "_law_least" (k+1) ["tree_here", "items_here"] sp_least:=by
  refine D.has sc_law_least (fun _ _ _ _ _ _ us hl=>match us,hl with | [_,_],_=>rfl) (fun vs H Q E h=>by obtain ⟨t,l,ups,lab,xs,rfl,_⟩:=h;rfl) (fun f cdv A outer s H vs Q E hr h=>?_)
  obtain ⟨t,l,ups,lab,xs,rfl,⟨u,ht,hu,tok⟩,it,x40,q⟩:=h
  refine ⟨_,(pss_cons (ps_comp (i:=2) sc_law_least.nd rfl (by first | exact Or.inl rfl | exact Or.inr rfl) rfl (pi_tup (pe_ix ix_tup (pv 0) pe_int (fun _ _=>rfl))) (NL:=["place"]) (ix:=[1]) (csc (defScope s_law_least) N_law_least) (fun cl C s₃ H₃ fp pins=>⟨(pg_name (i:=0) (show List.Nodup (["place", "items_here"]:List Str) from by decide +kernel) rfl (by first | exact Or.inl rfl | exact Or.inr rfl)),pifs_nil,(pe_callTy (call_dict_prsM rfl) rfl B.dict_ bt_dict (pa_cons (pe_comp rfl (pi_listK K (pe_callH G_law_past hr rfl (pa_cons (pv 1) (pa_cons (pe_lst (pa_cons pe_int pa_nil)) pa_nil)))) (NL:=["state"]) (ix:=[]) (csc _ ["place", "items_here"] rfl rfl rfl (by decide +kernel) (by decide +kernel) (of_decide_eq_true rfl) (by decide +kernel)) (fun cl C s₃ H₃ fp pins=>⟨(pg_name (i:=0) (show List.Nodup (["state"]:List Str) from by decide +kernel) rfl (by first | exact Or.inl rfl | exact Or.inr rfl)),pifs_nil,(pe_tup (pa_cons (pv 0) (pa_cons pe_bl pa_nil)))⟩)) pa_nil))⟩))
  (pss_cons (ps_for PassesOwn.never rfl (pi_range1 rfl B.range (pa_cons (pe_callB call_len_seq rfl B.len bt_len (pa_cons (pe_ix ix_tup (pv 0) pe_int (fun _ _=>rfl)) pa_nil)) pa_nil)) (pg_name (i:=3) sc_law_least.nd rfl (by first | exact Or.inl rfl | exact Or.inr rfl))
  (pss_cons (ps_set (i:=4) sc_law_least.nd rfl (by first | exact Or.inl rfl | exact Or.inr rfl) (pe_callH G_law_past hr rfl (pa_cons (pv 1) (pa_cons (pe_lst (pa_cons pe_int pa_nil)) pa_nil))))
  (pss_cons (ps_set (i:=5) sc_law_least.nd rfl (by first | exact Or.inl rfl | exact Or.inr rfl) (pv 3))
  (pss_one (ps_while PassesOwn.never (PW.pt (pw_and (pt_cmpR op_ge (pe_ix ix_tup (pe_ix ix_tup (pv 0) pe_int (fun _ _=>rfl)) (pv 5) (fun _ _=>rfl)) pe_int (nomark _)) (pw_and1 (pt_cmpR (op_ne_nil hr.units0) (pv 4) (pe_lst pa_nil) (nomark _)))))
  (pss_cons (ps_set (i:=4) sc_law_least.nd rfl (by first | exact Or.inl rfl | exact Or.inr rfl) (pe_callH G_law_beyond hr rfl (pa_cons (pv 1) (pa_cons (pv 4) (pa_cons (pe_ix ix_str (pe_ix ix_tup (pv 0) pe_int (fun _ _=>rfl)) (pv 5) (fun _ _=>rfl)) pa_nil)))))
  (pss_cons (ps_set (i:=5) sc_law_least.nd rfl (by first | exact Or.inl rfl | exact Or.inr rfl) (pe_ix ix_tup (pe_ix ix_tup (pv 0) pe_int (fun _ _=>rfl)) (pv 5) (fun _ _=>rfl)))
  (pss_one (ps_for PassesOwn.never rfl (pi_list (pv 4)) (pg_name (i:=6) sc_law_least.nd rfl (by first | exact Or.inl rfl | exact Or.inr rfl))
  (pss_one (ps_dput (hu_of hr) (pe_ix ix_list (pv 2) (pv 5) (fun _ _=>rfl)) (pv 6) pe_bl rfl)))))))))))
  (pss_one (ps_ret (pe_callTy call_tuple_of rfl B.tuple_ bt_tuple (pa_cons (pe_comp rfl (pi_list (pv 2)) (NL:=["states"]) (ix:=[]) (csc (defScope s_law_least) N_law_least) (fun cl C s₃ H₃ fp pins=>⟨(pg_name (i:=0) (show List.Nodup (["states"]:List Str) from by decide +kernel) rfl (by first | exact Or.inl rfl | exact Or.inr rfl)),pifs_nil,(pe_callTy (call_tuple_ofK K) rfl B.tuple_ bt_tuple (pa_cons (pe_callB (call_sortedDI rfl) rfl B.sorted bt_sorted (pa_cons (pv 0) pa_nil)) pa_nil))⟩)) pa_nil)))))),?_⟩
  have dl:=W63.dec_len xs
  have m60:=tok.most
  have ll:=tok.len
  have lz:lab.cps.toList.length=lab.length:=Array.length_toList
  have ul:(ups.map V.int).length=ups.length:=List.length_map _
  refine ⟨_,rfl,t,_,_,_,rfl,rfl,SqT.of ht,rfl,u,rfl,⟨_,SqT.of hu⟩,fun fo hfo=>?_⟩
  refine comp_tupI (K:=K) (a:=u) (xs:=ups.map V.int) (by omega) (fun i ys HX=>HX fo=some (.lst ys)∧Same H HX∧∃ fs:List Addr,ys=fs.map V.ref∧fs.length=i∧fs.Nodup∧∀ a∈fs,H a=none∧∃ (kvs:List (Key × V)) (zs:List Nat),HX a=some (.dK kvs)∧Ks xs.length kvs zs∧∀ x,x∈zs ↔ x≤xs.length∧W63.N (dec xs) [] x 0=true)
    (fun i ys HX h=>SqT.of (h.2.1 _ _ hu)) (fun i ys HX h=>⟨h.1,by obtain ⟨fs,e,e2,_⟩:=h.2.2;rw [e,List.length_map];omega⟩) ⟨upd_same,(Same.refl H).new hfo,[],rfl,rfl,List.nodup_nil,fun a h=>nomatch h⟩ ?_ ?_
  rotate_left
  · rintro i v ys HX hv ⟨g1,g2,fs,rfl,lf,nd,hfs⟩
    have gfo:=g1
    have gs:=g2
    have hfs':=hfs
    refine ⟨rfl,_,rfl,line_le (show 1≤1000 by omega),fun r0 hr0=>?_⟩
    have s0:Same HX (upd HX r0 (.lst [.int 0])):=(Same.refl HX).new hr0
    refine ⟨l,r0,xs,[0],rfl,it.same (g2.trans s0),x40,upd_same,by decide,fun t ht=>?_,fun st H3 s3 f3 h3=>?_⟩
    · rw [List.mem_singleton.mp ht];omega
    rw [← dl,SN_first (dec xs) []] at h3
    have TN:∀ x,x∈SN (dec xs) [] 0 ↔ x≤(dec xs).length∧W63.N (dec xs) [] x 0=true:=fun x=>SN_mem
    have T100:(SN (dec xs) [] 0).length≤41:=Nat.le_trans (SN_len _ _ _) (by omega)
    have s03:=s0.trans s3
    generalize SN (dec xs) [] 0=T at h3 TN T100
    clear s3 s0 hr0
    refine ⟨st,rfl,⟨_,SqL.of h3⟩,fun acc hacc=>?_⟩
    refine comp_lst (K:=K) (a:=st) (xs:=nV T) (by rw [nV_len];omega) (fun i ys HX=>HX acc=some (.lst ys)∧Same H3 HX∧∃ as:List Addr,ys=as.map V.ref∧as.length=i∧∀ (j:Nat) (a:Addr) (t:Nat),as[j]?=some a→T[j]?=some t→HX a=some (.tup [.int (t:Int),.bl true]))
      (fun i ys HX h=>SqL.of (h.2.1 _ _ h3)) (fun i ys HX h=>⟨h.1,by obtain ⟨as,e,e2,_⟩:=h.2.2;rw [e,List.length_map];omega⟩) ⟨upd_same,(Same.refl H3).new hacc,[],rfl,rfl,fun j a t e=>by cases e⟩ ?_ ?_
    rotate_left
    · rintro i x ys HX hx ⟨g1,g2,as,rfl,la,ha⟩
      rw [List.getElem?_map] at hx
      cases e1:T[i]? with
      | none=>rw [e1] at hx;cases hx
      | some t=>
        rw [e1] at hx
        cases hx
        refine ⟨rfl,_,rfl,line_le (show 2≤1000 by omega),fun tt htt=>?_⟩
        have ne:acc≠tt:=ne_of_none g1 htt
        have s1:Same HX (upd HX tt (.tup [.int (t:Int),.bl true])):=(Same.refl HX).new htt
        refine ⟨s1 _ _ g1,upd_same,(g2.trans s1).write hacc,as++[tt],by rw [List.map_append];rfl,by rw [List.length_append,la];rfl,fun j a t' e2 e3=>?_⟩
        rcases Nat.lt_or_ge j as.length with h | h
        · rw [List.getElem?_append_left h] at e2
          have:=s1 _ _ (ha j a t' e2 e3)
          have na:a≠acc:=fun z=>by rw [z,s1 _ _ g1] at this;cases this
          rw [upd_ne na];exact this
        · rw [List.getElem?_append_right h] at e2
          have hj:j=as.length:=by
            have:=(List.getElem?_eq_some_iff.mp e2).1
            simp at this
            omega
          rw [hj,Nat.sub_self] at e2
          cases e2
          rw [hj,la,e1] at e3
          cases e3
          rw [upd_ne (Ne.symm ne)];exact upd_same
    rintro ys H4 ⟨g1,s1,as,rfl,la,ha⟩
    rw [nV_len] at la
    refine ⟨acc,as,(T.map nK).map fun j=>(j,V.bl true),rfl,g1,by rw [List.length_map,List.length_map];exact la,fun j a kk v e1 e2=>?_,by omega,fun d hd=>?_⟩
    · rw [List.getElem?_map,List.getElem?_map] at e2
      cases e3:T[j]? with
      | none=>rw [e3] at e2;cases e2
      | some t=>
        rw [e3] at e2
        cases e2
        exact ha j a t e1 e3
    obtain ⟨zs0,ks0,m0⟩:=Ks.merge (m:=xs.length) (V.bl true) T Ks.nil fun t ht=>by have:=((TN t).mp ht).1;omega
    have s04:=s03.trans s1
    have dn:d ∉ fs:=fun h=>by
      obtain ⟨_,_,_,e,_⟩:=hfs' d h
      have:=s04 _ _ e
      rw [hd] at this;cases this
    have s05:Same HX (upd H4 d (.dK (mergeK [] ((T.map nK).map fun j=>(j,V.bl true))))):=s04.new hd
    have nfo:∀ a,(∃ kvs,HX a=some (.dK kvs))→a≠fo:=fun a ⟨kvs,e⟩ z=>by rw [z,gfo] at e;cases e
    have dfo:d≠fo:=fun z=>by have:=s04 _ _ gfo;rw [← z,hd] at this;cases this
    refine ⟨s05 _ _ gfo,upd_same,(gs.trans s05).write hfo,fs++[d],by rw [List.map_append];rfl,by rw [List.length_append,lf];rfl,?_,fun a ha'=>?_⟩
    · rw [List.nodup_append]
      exact ⟨nd,by simp,fun a ha b hb e=>dn (by rw [← List.mem_singleton.mp hb,← e];exact ha)⟩
    · rcases List.mem_append.mp ha' with h | h
      · obtain ⟨a1,kvs,zs,a2,a3,a4⟩:=hfs' a h
        exact ⟨a1,kvs,zs,by rw [upd_ne (nfo a ⟨_,a2⟩)];exact s05 _ _ a2,a3,a4⟩
      · rw [List.mem_singleton.mp h]
        refine ⟨(gs.trans s04).free hd,_,zs0,by rw [upd_ne dfo];exact upd_same,ks0,fun x=>?_⟩
        rw [m0,TN,dl]
        exact ⟨fun o=>o.elim (fun z=>nomatch z) id,.inr⟩
  rintro ys H2 ⟨g1,s2,fs,rfl,lf,nd,hfs⟩
  rw [ul] at lf
  have F0:Fnd H H2 fo fs xs.length (Lst (dec xs) ups lab.cps.toList 0):=⟨s2,g1,fun p a e=>by
    obtain ⟨_,kvs,zs,a1,a2,a3⟩:=hfs a (List.mem_of_getElem? e)
    exact ⟨kvs,zs,a1,a2,fun x=>(a3 x).trans ⟨fun ⟨l1,s1⟩=>⟨l1,.inl s1⟩,fun ⟨l1,s1⟩=>⟨l1,s1.elim id fun ⟨_,_,z,_⟩=>absurd z (Nat.not_lt_zero _)⟩⟩⟩⟩
  have Hfs:∀ a∈fs,H a=none:=fun a ha=>(hfs a ha).1
  refine ⟨_,rfl,t,_,_,_,rfl,rfl,SqT.of (s2 _ _ ht),rfl,u,_,rfl,.inr (SqT.of (s2 _ _ hu)),_,rfl,by omega,by omega,?_⟩
  rw [ul,Int.toNat_natCast]
  refine for_range (lo:=0) (n:=ups.length) (fun d σ HX=>∃ o3 o4 o5 o6:Option V,σ=[some (.ref t),some (.ref l),some (.ref fo),o3,o4,o5,o6]∧Fnd H HX fo fs xs.length (Lst (dec xs) ups lab.cps.toList d)) ⟨none,none,none,none,rfl,F0⟩ ?_ ?_
  · rintro d σ HX hd ⟨o3,o4,o5,o6,rfl,FX⟩
    refine ⟨_,rfl,line_le (show 1≤1000 by omega),fun r0 hr0=>?_⟩
    have s0:Same HX (upd HX r0 (.lst [.int 0])):=(Same.refl HX).new hr0
    have F1:=FX.keep s0
    refine ⟨l,r0,xs,[0],rfl,it.same F1.same,x40,upd_same,by decide,fun t ht=>?_,fun st H3 s3 f3 h3=>?_⟩
    · rw [List.mem_singleton.mp ht];omega
    have F3:=F1.keep s3
    rw [← dl,SN_first (dec xs) (W ups lab.cps.toList d)] at h3
    refine ⟨_,rfl,?_⟩
    clear F1 s0 s3 FX
    refine ⟨fun m σ HY=>∃ (c j:Nat) (st:Addr) (o6:Option V),m=c∧σ=[some (.ref t),some (.ref l),some (.ref fo),some (.int (0+(d:Int))),some (.ref st),some (.int (c:Int)),o6]∧At ups d j c∧HY st=some (.lst (nV (SN (dec xs) (W ups lab.cps.toList d) j)))∧Fnd H HY fo fs xs.length (Lwk (dec xs) ups lab.cps.toList d j),⟨d,d,0,st,o6,rfl,?_,.here,h3,F3.iff fun p x _ _=>lst_w⟩,?_⟩
    · rw [Int.zero_add];rfl
    rintro m σ HY ⟨c,j,st,o6,rfl,rfl,ha,hst,FY⟩
    have hc:=ha.lt tok hd
    obtain ⟨v,hv⟩:∃ v,ups[m]?=some v:=⟨_,List.getElem?_eq_getElem hc⟩
    have ev:ups.getD m 0=v:=by rw [List.getD_eq_getElem?_getD,hv];rfl
    refine ⟨_,rfl,t,_,_,_,rfl,rfl,SqT.of (FY.same _ _ ht),rfl,_,rfl,u,_,_,_,rfl,rfl,SqT.of (FY.same _ _ hu),atI_nat (by rw [List.getElem?_map,hv];rfl),_,_,rfl,rfl,_,rfl,?_⟩
    have hm2:m < lab.cps.toList.length:=by omega
    have ec:lab.cps.toList.getD m 0=lab.cps.toList[m]:=by rw [List.getD_eq_getElem?_getD,List.getElem?_eq_getElem hm2];rfl
    by_cases m0:m=0
    · subst m0
      have:=tok.root
      refine L2.iteB (decide_eq_false (by omega)) ?_
      refine iteF ?_
      exact ⟨_,_,_,_,rfl,FY.iff fun p x _ hx=>lw_end (by omega) (.inl ha)⟩
    have upm:=tok.up m (by omega) hc
    rw [ev] at upm
    obtain ⟨c,rfl⟩:∃ c:Nat,v=(c:Int):=⟨v.toNat,by omega⟩
    refine iteA (decide_eq_true (by omega)) ?_
    refine ⟨_,rfl,line_le (show 0≤1000 by omega),fun e0 he0=>?_⟩
    have se:Same HY (upd HY e0 (.lst [])):=(Same.refl HY).new he0
    have hst':=se _ _ hst
    have FE:=FY.keep se
    refine ⟨st,e0,_,rfl,rfl,SqL.of hst',SqL.of upd_same,_,rfl,?_⟩
    show (fun HH=>_) (upd HY e0 (.lst []))
    generalize upd HY e0 (.lst [])=HE at hst' FE
    clear FY hst se
    by_cases em:SN (dec xs) (W ups lab.cps.toList d) j=[]
    · refine L2.iteB (by rw [em];rfl) ?_
      exact ⟨_,_,_,_,rfl,FE.iff fun p x _ hx=>lw_end (by omega) (.inr em)⟩
    have sl:=SN_len (dec xs) (W ups lab.cps.toList d) j
    refine iteA (by
      cases h:SN (dec xs) (W ups lab.cps.toList d) j with
      | nil=>exact absurd h em
      | cons a r=>rfl) ?_
    refine ⟨fun σ' HZ=>∃ m',m' < m∧∃ (c j:Nat) (st:Addr) (o6:Option V),m'=c∧σ'=[some (.ref t),some (.ref l),some (.ref fo),some (.int (0+(d:Int))),some (.ref st),some (.int (c:Int)),o6]∧At ups d j c∧HZ st=some (.lst (nV (SN (dec xs) (W ups lab.cps.toList d) j)))∧Fnd H HZ fo fs xs.length (Lwk (dec xs) ups lab.cps.toList d j),fun σ' H' h=>h,?_⟩
    refine ⟨_,rfl,_,rfl,_,rfl,t,_,_,_,rfl,rfl,SqT.of (FE.same _ _ ht),rfl,_,rfl,_,_,_,rfl,rfl,line_le (by omega),atI_nat (List.getElem?_eq_getElem hm2),l,st,xs,_,_,rfl,it.same FE.same,x40,hst',by omega,fun st' H5 s5 f5 h5=>?_⟩
    rw [← dl,SN_next (dec xs) (W ups lab.cps.toList d) j _ ((ha.letter tok hd).trans ec)] at h5
    have F5:=FE.keep s5
    refine ⟨_,rfl,t,_,_,_,rfl,rfl,SqT.of (F5.same _ _ ht),rfl,_,rfl,u,_,_,_,rfl,rfl,SqT.of (F5.same _ _ hu),atI_nat (by rw [List.getElem?_map,hv];rfl),?_⟩
    have ha':At ups d (j+1) c:=by
      have:=ha.up (by omega:0 < m)
      rw [ev,Int.toNat_natCast] at this;exact this
    obtain ⟨fa,efa⟩:∃ a,fs[c]?=some a:=⟨_,List.getElem?_eq_getElem (by omega)⟩
    have hSle:∀ x∈SN (dec xs) (W ups lab.cps.toList d) (j+1),x≤xs.length:=fun x hx=>by have:=(SN_mem.mp hx).1;omega
    refine ⟨_,rfl,st',rfl,⟨_,SqL.of h5⟩,?_⟩
    refine for_list (K:=K) (xs:=nV (SN (dec xs) (W ups lab.cps.toList d) (j+1))) (fun i σ HZ=>∃ o6:Option V,σ=[some (.ref t),some (.ref l),some (.ref fo),some (.int (0+(d:Int))),some (.ref st'),some (.int (c:Int)),o6]∧HZ st'=some (.lst (nV (SN (dec xs) (W ups lab.cps.toList d) (j+1))))∧Fnd H HZ fo fs xs.length (fun p x=>Lwk (dec xs) ups lab.cps.toList d j p x∨(p=c∧x∈(SN (dec xs) (W ups lab.cps.toList d) (j+1)).take i)))
      ⟨o6,rfl,h5,F5.iff fun p x _ _=>⟨.inl,fun o=>o.elim id fun z=>by have:=z.2;rw [List.take_zero] at this;cases this⟩⟩ (fun i σ HZ _ h=>by obtain ⟨_,_,h,_⟩:=h;exact SqL.of h) ?_ ?_
    · rintro i y σ HZ hy ⟨o6',rfl,hZ,FZ⟩
      rw [List.getElem?_map] at hy
      cases e1:(SN (dec xs) (W ups lab.cps.toList d) (j+1))[i]? with
      | none=>rw [e1] at hy;cases hy
      | some x=>
        rw [e1] at hy
        cases hy
        have tk:(SN (dec xs) (W ups lab.cps.toList d) (j+1)).take (i+1)=(SN (dec xs) (W ups lab.cps.toList d) (j+1)).take i++[x]:=by rw [List.take_succ,e1];rfl
        obtain ⟨kvs,k1,k2,k3⟩:=FZ.put nd x40 efa (Hfs fa (List.mem_of_getElem? efa)) (hSle x (List.mem_of_getElem? e1))
        refine ⟨_,rfl,_,rfl,fo,_,_,_,rfl,rfl,SqL.of FZ.fo_,atI_nat (by rw [List.getElem?_map,efa];rfl),_,rfl,fa,_,rfl,DPut.k (k:=nK x) k1 k2,_,rfl,?_,k3.iff fun p z _ _=>?_⟩
        · rw [upd_ne (fun e=>by rw [← e,hZ] at k1;cases k1)];exact hZ
        · rw [tk,List.mem_append,List.mem_singleton]
          constructor
          · rintro ((h | h) | h)
            · exact .inl h
            · exact .inr ⟨h.1,.inl h.2⟩
            · exact .inr ⟨h.1,.inr h.2⟩
          · rintro (h | ⟨h1,h | h⟩)
            · exact .inl (.inl h)
            · exact .inl (.inr ⟨h1,h⟩)
            · exact .inr ⟨h1,h⟩
    · rintro σ HZ ⟨o6',rfl,hZ,FZ⟩
      rw [nV_len,List.take_length] at FZ
      exact ⟨c,by omega,c,j+1,st',o6',rfl,rfl,ha',hZ,FZ.iff fun p x _ hx=>lw_step ha' (by omega)⟩
  · rintro σ HX ⟨o3,o4,o5,o6,rfl,FX⟩
    have hfl:(fs.map V.ref).length=ups.length:=by rw [List.length_map];exact lf
    refine ⟨_,rfl,fo,rfl,⟨_,SqL.of FX.fo_⟩,fun acc hacc=>?_⟩
    have Hacc:H acc=none:=FX.same.free hacc
    refine comp_lst (K:=K) (a:=fo) (xs:=fs.map V.ref) (by omega) (fun i ys HZ=>HZ acc=some (.lst ys)∧Same HX HZ∧∃ ts:List Addr,ys=ts.map V.ref∧ts.length=i∧∀ (p:Nat) (a:Addr),ts[p]?=some a→HZ a=some (.tup (nV (mks (dec xs) ups lab.cps.toList p))))
      (fun i ys HZ h=>SqL.of (h.2.1 _ _ FX.fo_)) (fun i ys HZ h=>⟨h.1,by obtain ⟨ts,e,e2,_⟩:=h.2.2;rw [e,List.length_map];omega⟩) ⟨upd_same,(Same.refl HX).new hacc,[],rfl,rfl,fun p a e=>by cases e⟩ ?_ ?_
    rotate_left
    · rintro i x ys HZ hx ⟨g3,g4,ts,rfl,lt,hts⟩
      rw [List.getElem?_map] at hx
      cases e1:fs[i]? with
      | none=>rw [e1] at hx;cases hx
      | some fa=>
        rw [e1] at hx
        cases hx
        have il:i < ups.length:=by rw [← lf];exact (List.getElem?_eq_some_iff.mp e1).1
        obtain ⟨kvs,zs,b1,ks,mem⟩:=FX.at_ i fa e1
        have kl:=ks.len
        refine ⟨rfl,_,rfl,fa,kvs,_,rfl,.inl (g4 _ _ b1),ks.keys,by rw [List.length_map];omega,fun ns l' pm so hl'=>?_⟩
        have eq:ns.map V.int=nV (mks (dec xs) ups lab.cps.toList i):=by
          unfold mks
          exact ks.sorted (fun x=>by rw [mem,W66.mkB_iff tok,lst_all il,dl];exact ⟨fun h=>⟨by omega,h.2⟩,fun h=>⟨by omega,h.2⟩⟩) pm so
        rw [eq]
        have s5:Same HZ (upd HZ l' (.lst (nV (mks (dec xs) ups lab.cps.toList i)))):=(Same.refl HZ).new hl'
        refine ⟨l',_,rfl,.inl ⟨SqL.of upd_same,fun tt htt=>?_⟩⟩
        have s6:=s5.new (o:=.tup (nV (mks (dec xs) ups lab.cps.toList i))) htt
        have ant:acc≠tt:=ne_of_none (s5 _ _ g3) htt
        refine ⟨s6 _ _ g3,upd_same,(g4.trans s6).write hacc,ts++[tt],by rw [List.map_append];rfl,by rw [List.length_append,lt];rfl,fun p a e=>?_⟩
        rcases Nat.lt_or_ge p ts.length with h | h
        · rw [List.getElem?_append_left h] at e
          have e2:=hts p a e
          rw [upd_ne (fun z=>by rw [z,g3] at e2;cases e2)]
          exact s6 _ _ e2
        · rw [List.getElem?_append_right h] at e
          have hj:p=ts.length:=by
            have:=(List.getElem?_eq_some_iff.mp e).1
            simp at this
            omega
          rw [hj,Nat.sub_self] at e
          cases e
          rw [hj,lt,upd_ne (Ne.symm ant)];exact upd_same
    rintro ys HZ ⟨g3,g4,ts,rfl,lt,hts⟩
    refine ⟨acc,_,rfl,.inl ⟨SqL.of g3,fun qa hqa=>?_⟩⟩
    have sq:Same HZ (upd HZ qa (.tup (ts.map V.ref))):=(Same.refl HZ).new hqa
    rw [hfl] at lt
    refine q qa _ ((FX.same.trans g4).trans sq) ((FX.same.trans g4).free hqa) ⟨ts.map V.ref,upd_same,by rw [List.length_map];exact lt,fun p hp=>?_⟩
    have hp':p < ts.length:=by omega
    exact ⟨ts[p],by rw [List.getElem?_map,List.getElem?_eq_getElem hp'];rfl,sq _ _ (hts p _ (List.getElem?_eq_getElem hp'))⟩
end
end S67
namespace L2
section
variable {NL:List PySem.Str} {ix:List Nat} {g:TG} {tt:TT} {te:TE} {σ:St} {H1:Hp} {Qs:Hp→Prop} {acc:PySem.Addr}
theorem comp_tupl {K:PySem.W.Frag} {a:PySem.Addr} {xs:List V} (hn:xs.length < 1000) (Pv:Nat→List V→Hp→Prop)
    (hl:∀ i ys H2,Pv i ys H2→SqT K H2 a xs) (hacc:∀ i ys H2,Pv i ys H2→H2 acc=some (.lst ys)∧ys.length≤i) (h0:Pv 0 [] (upd H1 acc (.lst []))) (hstop:∀ ys H2,Pv xs.length ys H2→Qs H2)
    (hturn:∀ i x ys H2,xs[i]?=some x→Pv i ys H2→g x (comp0 NL ix σ) H2 fun σ' H4=>σ'.drop NL.length=ix.map (fun j=>σ.getD j none)∧tt σ' H4 fun b H5=>
      if b=true then te σ' H5 fun v H6=>H6 acc=some (.lst ys)∧Pv (i+1) (ys++[v]) (upd H6 acc (.lst (ys++[v]))) else Pv (i+1) ys H5) :
    ∃ W:Nat→Nat→List V→Hp→Prop,(∃ m,W 0 m [] (upd H1 acc (.lst []))) ∧
    ∀ i m ys H2,W i m ys H2→H2 acc=some (.lst ys)∧ys.length < PySem.sizeLine ∧
      (((Itt K a).stop i H2∧Qs H2)∨((Itt K a).go i H2∧∃ N:List V→Hp→Prop,(∀ ys' H',N ys' H'→∃ m',m' < m∧W (i+1) m' ys' H') ∧
        ∀ x H3,(Itt K a).yld i H2 x H3→g x (comp0 NL ix σ) H3 fun σ' H4=>σ'.drop NL.length=ix.map (fun j=>σ.getD j none)∧tt σ' H4 fun b H5=>
          if b=true then te σ' H5 fun v H6=>H6 acc=some (.lst ys)∧N (ys++[v]) (upd H6 acc (.lst (ys++[v]))) else N ys H5)):=by
  refine comp_by xs.length hn Pv hacc h0 (fun ys H2 hp=>⟨⟨xs,hl _ _ _ hp,Nat.le_refl _⟩,hstop ys H2 hp⟩) fun i ys H2 hi hp=>?_
  have hs:=hl _ _ _ hp
  refine ⟨⟨xs,xs[i],hs,List.getElem?_eq_getElem hi⟩,?_⟩
  rintro x H3 ⟨rfl,hx⟩
  exact hturn i x ys H3 (hx xs hs) hp
end
end L2
namespace S67
open PySem L2 W7
open W63 (Wr Wi enc dec star)
section
variable {P:Program} {w:World} {K:PySem.W.Frag} {mg:Str→Option Value} {base:Heap} {k:Nat}
def sp_swithT:Sp:=fun vs H Q _=>∃ (l r:Addr) (its:List W63.It) (T:List Nat),vs=[.ref l,.ref r]∧ItsAt H l its∧its.length≤40∧H r=some (.tup (nV T))∧T.length≤100 ∧
  ∀ (q:Addr) (H':Hp),Same H H'→H q=none→H' q=some (.lst (nV (stl its (fun s=>decide (s∈T)) (its.length+1))))→Q (.ref q) H'
theorem has_swithT (D:Df K mg "states_with" s_states_with) (B:Blt7 mg):Has P w K mg base "states_with" (k+1) ["items", "states"] sp_swithT:=by
  refine D.has sc_states_with (fun _ _ _ _ _ _ us hl=>match us,hl with | [_,_],_=>rfl) (fun vs H Q E h=>by obtain ⟨l,r,its,T,rfl,_⟩:=h;rfl) (fun f cdv A outer s H vs Q E hr h=>?_)
  obtain ⟨l,r,its,T,rfl,it,l40,hT,T100,q⟩:=h
  refine ⟨_,(pss_cons (ps_set (i:=2) sc_states_with.nd rfl (by first | exact Or.inl rfl | exact Or.inr rfl) (pe_callTy (call_dict_prsM rfl) rfl B.dict_ bt_dict (pa_cons (pe_comp rfl (pi_tup (pv 1)) (NL:=["state"]) (ix:=[]) (csc (defScope s_states_with) N_states_with) (fun cl C s₃ H₃ fp pins=>⟨(pg_name (i:=0) (show List.Nodup (["state"]:List Str) from by decide +kernel) rfl (by first | exact Or.inl rfl | exact Or.inr rfl)),pifs_nil,(pe_tup (pa_cons (pv 0) (pa_cons pe_bl pa_nil)))⟩)) pa_nil)))
  (pss_cons (ps_set (i:=3) sc_states_with.nd rfl (by first | exact Or.inl rfl | exact Or.inr rfl) (pe_lst pa_nil))
  (pss_cons (ps_for PassesOwn.never rfl (pi_range1 rfl B.range (pa_cons (pe_op op_add (pe_callB call_len_seq rfl B.len bt_len (pa_cons (pv 0) pa_nil)) pe_int) pa_nil)) (pg_name (i:=4) sc_states_with.nd rfl (by first | exact Or.inl rfl | exact Or.inr rfl))
  (pss_one (ps_if (PW.pt (pw_or (pt_cmp (pc_din (hu_of hr) (pv 4) (pv 2)) (by with_unfolding_all rfl)) (pw_or1 (PW.pt (pw_and (pt_truth (pv 3) (fun _=>rfl)) (pw_and (pt_cmpR op_eq (pe_ix ix_list (pv 3) (pe_un un_neg pe_int) (fun _ _=>rfl)) (pe_op op_sub (pv 4) pe_int) (nomark _)) (pw_and1 (pt_val (pe_ix ix_tup (pe_ix ix_list (pv 0) (pe_op op_sub (pv 4) pe_int) (fun _ _=>rfl)) pe_int (fun _ _=>rfl))))))))))
  (pss_one (ps_expr (pe_bm PySem.F.plainAttrs_list PySem.F.slot_list_append PySem.F.type_list_append mt_append (pv 3) (pa_cons (pv 4) pa_nil))))
  pss_nil)))
  (pss_one (ps_ret (pv 3)))))),?_⟩
  refine ⟨_,rfl,r,rfl,⟨_,SqT.of hT⟩,fun acc hacc=>?_⟩
  refine comp_tupl (K:=K) (a:=r) (xs:=nV T) (by rw [nV_len];omega) (fun i ys HX=>HX acc=some (.lst ys)∧Same H HX∧∃ as:List Addr,ys=as.map V.ref∧as.length=i∧∀ (j:Nat) (a:Addr) (t:Nat),as[j]?=some a→T[j]?=some t→HX a=some (.tup [.int (t:Int),.bl true]))
    (fun i ys HX h=>SqT.of (h.2.1 _ _ hT)) (fun i ys HX h=>⟨h.1,by obtain ⟨as,e,e2,_⟩:=h.2.2;rw [e,List.length_map];omega⟩) ⟨upd_same,(Same.refl H).new hacc,[],rfl,rfl,fun j a t e=>by cases e⟩ ?_ ?_
  rotate_left
  · rintro i x ys HX hx ⟨g1,g2,as,rfl,la,ha⟩
    rw [List.getElem?_map] at hx
    cases e1:T[i]? with
    | none=>rw [e1] at hx;cases hx
    | some t=>
      rw [e1] at hx
      cases hx
      refine ⟨rfl,_,rfl,line_le (show 2≤1000 by omega),fun tt htt=>?_⟩
      have ne:acc≠tt:=ne_of_none g1 htt
      have s1:Same HX (upd HX tt (.tup [.int (t:Int),.bl true])):=(Same.refl HX).new htt
      refine ⟨s1 _ _ g1,upd_same,(g2.trans s1).write hacc,as++[tt],by rw [List.map_append];rfl,by rw [List.length_append,la];rfl,fun j a t' e2 e3=>?_⟩
      rcases Nat.lt_or_ge j as.length with h | h
      · rw [List.getElem?_append_left h] at e2
        have:=s1 _ _ (ha j a t' e2 e3)
        have na:a≠acc:=fun z=>by rw [z,s1 _ _ g1] at this;cases this
        rw [upd_ne na];exact this
      · rw [List.getElem?_append_right h] at e2
        have hj:j=as.length:=by
          have:=(List.getElem?_eq_some_iff.mp e2).1
          simp at this
          omega
        rw [hj,Nat.sub_self] at e2
        cases e2
        rw [hj,la,e1] at e3
        cases e3
        rw [upd_ne (Ne.symm ne)];exact upd_same
  rintro ys H1 ⟨g1,s1,as,rfl,la,ha⟩
  rw [nV_len] at la
  refine ⟨acc,as,(T.map fun t:Nat=>(Sum.inl (t:Int):Key)).map fun j=>(j,V.bl true),rfl,g1,by rw [List.length_map,List.length_map];exact la,fun j a kk v e1 e2=>?_,by omega,fun d hd=>?_⟩
  · rw [List.getElem?_map,List.getElem?_map] at e2
    cases e3:T[j]? with
    | none=>rw [e3] at e2;cases e2
    | some t=>
      rw [e3] at e2
      cases e2
      exact ha j a t e1 e3
  have hd1:upd H1 d (.dK (mergeK [] ((T.map fun t:Nat=>(Sum.inl (t:Int):Key)).map fun j=>(j,V.bl true)))) d=some (.dK (mergeK [] ((T.map fun t:Nat=>(Sum.inl (t:Int):Key)).map fun j=>(j,V.bl true)))):=upd_same
  have s2:Same H (upd H1 d (.dK (mergeK [] ((T.map fun t:Nat=>(Sum.inl (t:Int):Key)).map fun j=>(j,V.bl true))))):=s1.new hd
  show (fun HH=>_) (upd H1 d (.dK (mergeK [] ((T.map fun t:Nat=>(Sum.inl (t:Int):Key)).map fun j=>(j,V.bl true)))))
  generalize upd H1 d (.dK (mergeK [] ((T.map fun t:Nat=>(Sum.inl (t:Int):Key)).map fun j=>(j,V.bl true))))=H2 at hd1 s2
  have inT:∀ s:Nat,(valV (mergeK [] ((T.map fun t:Nat=>(Sum.inl (t:Int):Key)).map fun j=>(j,V.bl true))) (Sum.inl (s:Int))).isSome=decide (s∈T):=fun s=>by
    rw [Bool.eq_iff_iff,val_merge,decide_eq_true_eq]
    constructor
    · rintro (z | z)
      · cases z
      · obtain ⟨t,ht,e⟩:=List.mem_map.mp z
        injection e with e
        have:t=s:=by omega
        rw [← this];exact ht
    · exact fun h=>.inr (List.mem_map.mpr ⟨s,h,rfl⟩)
  generalize mergeK [] ((T.map fun t:Nat=>(Sum.inl (t:Int):Key)).map fun j=>(j,V.bl true))=kvs at hd1 inT
  refine ⟨line_le (show 0≤1000 by omega),fun fo hfo=>?_⟩
  obtain ⟨vs,hl,lv,at_⟩:=it
  have hl2:=s2 _ _ hl
  have fd:d≠fo:=ne_of_none hd1 hfo
  have Hfo:H fo=none:=s2.free hfo
  have s3:Same H (upd H2 fo (.lst [])):=s2.new hfo
  refine ⟨_,rfl,l,_,rfl,.inl (SqL.of (s3 _ _ hl)),_,_,rfl,rfl,_,rfl,by omega,by omega,?_⟩
  rw [lv]
  have en:(((its.length:Nat):Int)+1).toNat=its.length+1:=by omega
  rw [en]
  refine for_range (lo:=0) (n:=its.length+1) (fun i σ HX=>∃ o4:Option V,σ=[some (.ref l),some (.ref r),some (.ref d),some (.ref fo),o4]∧Same H HX∧HX d=some (.dK kvs)∧HX fo=some (.lst (nV (stl its (fun s=>decide (s∈T)) i)))) ⟨none,rfl,s3,by rw [upd_ne fd];exact hd1,upd_same⟩ ?_ ?_
  · rintro i σ HX hi ⟨o4,rfl,sX,hdX,hfX⟩
    have hlX:=sX _ _ hl
    have e0:(0:Int)+(i:Int)=(i:Int):=Int.zero_add _
    have hls:=stl_le its (fun s=>decide (s∈T)) i
    rw [e0]
    have app:W63.cl its (fun s=>decide (s∈T)) i=true→HX fo=some (.lst (nV (stl its (fun s=>decide (s∈T)) i)))∧(nV (stl its (fun s=>decide (s∈T)) i)).length < sizeLine∧Same H (upd HX fo (.lst (nV (stl its (fun s=>decide (s∈T)) i)++[.int (i:Int)])))∧upd HX fo (.lst (nV (stl its (fun s=>decide (s∈T)) i)++[.int (i:Int)])) d=some (.dK kvs)∧upd HX fo (.lst (nV (stl its (fun s=>decide (s∈T)) i)++[.int (i:Int)])) fo=some (.lst (nV (stl its (fun s=>decide (s∈T)) (i+1)))):=fun c=>by
      refine ⟨hfX,Nat.lt_of_lt_of_le (show _ < 1000 by rw [nV_len];omega) (line_le (Nat.le_refl _)),sX.write Hfo,by rw [upd_ne fd];exact hdX,?_⟩
      rw [upd_same,stl_succ,if_pos c,nV_snoc]
    refine ⟨_,rfl,_,rfl,d,_,rfl,DGet.k (k:=Sum.inl (i:Int)) hdX,_,rfl,?_⟩
    have stay:W63.cl its (fun s=>decide (s∈T)) i=false→HX fo=some (.lst (nV (stl its (fun s=>decide (s∈T)) (i+1)))):=fun c=>by
      rw [hfX,stl_succ,c,if_neg (by decide),List.append_nil]
    by_cases hin:i∈T
    · refine iteA ((inT i).trans (decide_eq_true hin)) ?_
      refine iteT ?_
      obtain ⟨a1,a2,a3,a4,a5⟩:=app (by cases i with | zero=>exact decide_eq_true hin | succ j=>rw [W63.cl,decide_eq_true hin];rfl)
      exact ⟨_,rfl,.inl ⟨rfl,_,SqL.of hfX⟩,_,rfl,fo,_,_,rfl,rfl,a1,a2,_,rfl,a3,a4,a5⟩
    refine L2.iteB ((inT i).trans (decide_eq_false hin)) ?_
    refine ⟨_,rfl,_,.inl ⟨_,SqL.of hfX,rfl⟩,?_⟩
    cases i with
    | zero=>
      refine L2.iteB rfl ?_
      refine iteF ?_
      exact ⟨_,rfl,sX,hdX,stay (decide_eq_false hin)⟩
    | succ j=>
      have ec:W63.cl its (fun s=>decide (s∈T)) (j+1)=(W63.cl its (fun s=>decide (s∈T)) j && W63.st its j):=by rw [W63.cl,decide_eq_false hin,Bool.false_or]
      have ej:((j+1:Nat):Int) - 1=(j:Int):=by omega
      by_cases cj:W63.cl its (fun s=>decide (s∈T)) j=true
      · have es:nV (stl its (fun s=>decide (s∈T)) (j+1))=nV (stl its (fun s=>decide (s∈T)) j)++[.int (j:Int)]:=by rw [stl_succ,if_pos cj,← nV_snoc]
        have al:atI (nV (stl its (fun s=>decide (s∈T)) (j+1))) (-1)=some (.int (j:Int)):=by rw [es];exact atI_last _ _
        refine iteA (by rw [es];simp) ?_
        refine ⟨_,rfl,_,rfl,fo,_,_,_,rfl,rfl,SqL.of hfX,al,_,rfl,_,_,rfl,rfl,rfl,_,rfl,?_⟩
        refine iteA (decide_eq_true (by show V.int (j:Int)=V.int (((j+1:Nat):Int) - 1);rw [ej])) ?_
        obtain ⟨ia,ie1,ie2⟩:=its_get (H:=H) ⟨lv,at_⟩ (i:=j) (by omega)
        refine ⟨_,rfl,_,rfl,_,_,rfl,rfl,l,_,_,_,rfl,rfl,SqL.of hlX,by rw [ej];exact ie1,ia,_,_,_,rfl,rfl,SqT.of (sX _ _ ie2),rfl,_,rfl,?_⟩
        cases sj:W63.st its j with
        | true=>
          refine iteA sj ?_
          obtain ⟨a1,a2,a3,a4,a5⟩:=app (by rw [ec,cj,sj];rfl)
          exact ⟨_,rfl,.inl ⟨rfl,_,SqL.of hfX⟩,_,rfl,fo,_,_,rfl,rfl,a1,a2,_,rfl,a3,a4,a5⟩
        | false=>
          refine L2.iteB sj ?_
          exact ⟨_,rfl,sX,hdX,stay (by rw [ec,sj];simp)⟩
      · have st':=stay (by rw [ec,Bool.eq_false_iff.mpr cj];rfl)
        rcases List.eq_nil_or_concat (stl its (fun s=>decide (s∈T)) (j+1)) with e | ⟨ys,t,e⟩
        · refine L2.iteB (by rw [e];rfl) ?_
          refine iteF ?_
          exact ⟨_,rfl,sX,hdX,st'⟩
        · have es:nV (stl its (fun s=>decide (s∈T)) (j+1))=nV ys++[.int (t:Int)]:=by rw [e,List.concat_eq_append,← nV_snoc]
          have al:atI (nV (stl its (fun s=>decide (s∈T)) (j+1))) (-1)=some (.int (t:Int)):=by rw [es];exact atI_last _ _
          have tm:t∈stl its (fun s=>decide (s∈T)) (j+1):=by rw [e];simp
          have tj:t≠j:=fun z=>cj (by rw [← z];exact (stl_mem.mp tm).2)
          refine iteA (by rw [es];simp) ?_
          refine ⟨_,rfl,_,rfl,fo,_,_,_,rfl,rfl,SqL.of hfX,al,_,rfl,_,_,rfl,rfl,rfl,_,rfl,?_⟩
          refine L2.iteB (decide_eq_false fun z=>tj ?_) ?_
          · have z':V.int (t:Int)=V.int (((j+1:Nat):Int) - 1):=z
            injection z' with z'
            omega
          · refine iteF ?_
            exact ⟨_,rfl,sX,hdX,st'⟩
  · rintro σ HX ⟨o4,rfl,sX,hdX,hfX⟩
    exact ⟨_,rfl,q fo HX sX Hfo hfX⟩
def sp_sbyT:Sp:=fun vs H Q _=>∃ (l r:Addr) (its:List W63.It) (S:List Nat) (c:Nat),vs=[.ref l,.ref r,.str ⟨#[c]⟩]∧ItsAt H l its∧its.length≤40∧H r=some (.tup (nV S))∧S.length≤41 ∧
  ∀ (q:Addr) (H':Hp),Same H H'→H q=none→H' q=some (.lst (nV (byl its S c)))→Q (.ref q) H'
theorem has_sbyT (D:Df K mg "states_by" s_states_by) (B:Blt7 mg):Has P w K mg base "states_by" (k+1) ["items", "states", "letter"] sp_sbyT:=by
  refine D.has sc_states_by (fun _ _ _ _ _ _ us hl=>match us,hl with | [_,_,_],_=>rfl) (fun vs H Q E h=>by obtain ⟨l,r,its,S,c,rfl,_⟩:=h;rfl) (fun f cdv A outer s H vs Q E hr h=>?_)
  obtain ⟨l,r,its,S,c,rfl,it,l40,hS,S41,q⟩:=h
  refine ⟨_,(pss_cons (ps_comp (i:=3) sc_states_by.nd rfl (by first | exact Or.inl rfl | exact Or.inr rfl) rfl (pi_tup (pv 1)) (NL:=["state"]) (ix:=[0,2]) (csc (defScope s_states_by) N_states_by) (fun cl C s₃ H₃ fp pins=>⟨(pg_name (i:=0) (show List.Nodup (["state", "items", "letter"]:List Str) from by decide +kernel) rfl (by first | exact Or.inl rfl | exact Or.inr rfl)),(pifs_one (PW.pt (pw_and (pt_cmpR op_lt (pv 0) (pe_callB (call_len_seqK K) rfl B.len bt_len (pa_cons (pv 1) pa_nil)) (nomark _)) (pw_and1 (pt_cmpR op_in_str (pv 2) (pe_ix (ix_tupK K) (pe_ix (ix_listK K) (pv 1) (pv 0) (fun _ _=>rfl)) pe_int (fun _ _=>rfl)) (by with_unfolding_all rfl)))))),(pv 0)⟩))
  (pss_one (ps_ret (pe_comp rfl (pi_list (pv 3)) (NL:=["state"]) (ix:=[0]) (csc (defScope s_states_by) N_states_by) (fun cl C s₃ H₃ fp pins=>⟨(pg_name (i:=0) (show List.Nodup (["state", "items"]:List Str) from by decide +kernel) rfl (by first | exact Or.inl rfl | exact Or.inr rfl)),pifs_nil,(pe_ifExp (pt_val (pe_ix (ix_tupK K) (pe_ix (ix_listK K) (pv 1) (pv 0) (fun _ _=>rfl)) pe_int (fun _ _=>rfl))) (pv 0) (pe_op op_add (pv 0) pe_int))⟩))))),?_⟩
  obtain ⟨vs,hl,lv,at_⟩:=it
  refine ⟨_,rfl,r,rfl,⟨_,SqT.of hS⟩,fun acc hacc=>?_⟩
  refine comp_tupl (K:=K) (a:=r) (xs:=nV S) (by rw [nV_len];omega) (fun i ys HX=>HX acc=some (.lst ys)∧Same H HX∧ys=nV ((S.take i).filter fun s=>decide (s < its.length) && decide (c∈(its.getD s ([],false)).1)))
    (fun i ys HX h=>SqT.of (h.2.1 _ _ hS)) (fun i ys HX h=>⟨h.1,by
      rw [h.2.2,nV_len]
      have:=List.length_filter_le (fun s=>decide (s < its.length) && decide (c∈(its.getD s ([],false)).1)) (S.take i)
      rw [List.length_take] at this;omega⟩) ⟨upd_same,(Same.refl H).new hacc,rfl⟩ ?_ ?_
  rotate_left
  · rintro i x ys HX hx ⟨g1,g2,rfl⟩
    rw [List.getElem?_map] at hx
    cases e1:S[i]? with
    | none=>rw [e1] at hx;cases hx
    | some t=>
      rw [e1] at hx
      cases hx
      have tk:S.take (i+1)=S.take i++[t]:=by rw [List.take_succ,e1];rfl
      refine ⟨rfl,_,rfl,_,rfl,l,_,rfl,.inl (SqL.of (g2 _ _ hl)),_,_,rfl,rfl,_,rfl,?_⟩
      by_cases lt:t < its.length
      · refine iteA (decide_eq_true (by rw [lv];omega)) ?_
        obtain ⟨ia,ie1,ie2⟩:=its_get (H:=H) ⟨lv,at_⟩ (i:=t) lt
        refine ⟨_,rfl,_,rfl,_,rfl,l,_,_,_,rfl,rfl,SqL.of (g2 _ _ hl),ie1,ia,_,_,_,rfl,rfl,SqT.of (g2 _ _ ie2),rfl,_,_,rfl,rfl,_,rfl,?_⟩
        rw [PySem.StrLaws.found_one,mk_cps]
        refine ite2 (fun cc=>?_) (fun cc=>?_)
        · refine ⟨_,rfl,g1,upd_same,g2.write hacc,?_⟩
          rw [tk,List.filter_append,List.filter_cons_of_pos (by rw [decide_eq_true lt,cc];rfl),nV_snoc];rfl
        · refine ⟨g1,g2,?_⟩
          rw [tk,List.filter_append,List.filter_cons_of_neg (by rw [Bool.eq_false_iff.mpr cc];simp)];simp
      · refine L2.iteB (decide_eq_false (by rw [lv];omega)) ?_
        refine iteF ?_
        refine ⟨g1,g2,?_⟩
        rw [tk,List.filter_append,List.filter_cons_of_neg (by rw [decide_eq_false lt];simp)];simp
  rintro ys H1 ⟨g1,s1,rfl⟩
  rw [nV_len,List.take_length] at g1
  have hf:=List.length_filter_le (fun s=>decide (s < its.length) && decide (c∈(its.getD s ([],false)).1)) S
  have ok:∀ t∈S.filter (fun s=>decide (s < its.length) && decide (c∈(its.getD s ([],false)).1)),t < its.length:=fun t ht=>by
    have:=(List.mem_filter.mp ht).2
    rw [Bool.and_eq_true] at this
    exact of_decide_eq_true this.1
  have eb:byl its S c=(S.filter (fun s=>decide (s < its.length) && decide (c∈(its.getD s ([],false)).1))).map fun s=>if W63.st its s=true then s else s+1:=rfl
  generalize S.filter (fun s=>decide (s < its.length) && decide (c∈(its.getD s ([],false)).1))=G at g1 hf ok eb
  refine ⟨_,rfl,acc,rfl,⟨_,SqL.of g1⟩,fun a2 ha2=>?_⟩
  refine comp_lst (K:=K) (a:=acc) (xs:=nV G) (by rw [nV_len];omega) (fun i ys HX=>HX a2=some (.lst ys)∧Same H1 HX∧ys=nV ((G.take i).map fun s=>if W63.st its s=true then s else s+1))
    (fun i ys HX h=>SqL.of (h.2.1 _ _ g1)) (fun i ys HX h=>⟨h.1,by rw [h.2.2,nV_len,List.length_map,List.length_take];omega⟩) ⟨upd_same,(Same.refl H1).new ha2,rfl⟩ ?_ ?_
  rotate_left
  · rintro i x ys HX hx ⟨g2,g3,rfl⟩
    rw [List.getElem?_map] at hx
    cases e1:G[i]? with
    | none=>rw [e1] at hx;cases hx
    | some t=>
      rw [e1] at hx
      cases hx
      have tk:G.take (i+1)=G.take i++[t]:=by rw [List.take_succ,e1];rfl
      have lt:=ok t (List.mem_of_getElem? e1)
      obtain ⟨ia,ie1,ie2⟩:=its_get (H:=H) ⟨lv,at_⟩ (i:=t) lt
      have sH:=s1.trans g3
      refine ⟨rfl,_,rfl,_,rfl,l,_,_,_,rfl,rfl,SqL.of (sH _ _ hl),ie1,ia,_,_,_,rfl,rfl,SqT.of (sH _ _ ie2),rfl,_,rfl,?_⟩
      refine ite2 (fun cc=>?_) (fun cc=>?_)
      · refine ⟨_,rfl,g2,upd_same,g3.write ha2,?_⟩
        rw [tk,List.map_append,nV_snoc]
        congr 2
        show [t]=[if W63.st its t=true then t else t+1]
        rw [if_pos (show W63.st its t=true from cc)]
      · refine ⟨_,rfl,_,_,rfl,rfl,g2,upd_same,g3.write ha2,?_⟩
        rw [tk,List.map_append,show (fun i j:Int=>V.int (i+j)) (t:Int) 1=V.int ((t+1:Nat):Int) from rfl,nV_snoc]
        congr 2
        show [t+1]=[if W63.st its t=true then t else t+1]
        rw [if_neg (show ¬ W63.st its t=true from cc)]
  rintro ys H2 ⟨g2,s2,rfl⟩
  rw [nV_len,List.take_length,← eb] at g2
  exact q a2 H2 (s1.trans s2) (s1.free ha2) g2
def sp_pastT:Sp:=fun vs H Q _=>∃ (l r:Addr) (xs:List Wi) (T:List Nat),vs=[.ref l,.ref r]∧LIts H l xs∧xs.length≤40∧H r=some (.tup (nV T))∧T.length≤100∧(∀ t∈T,t≤xs.length) ∧
  ∀ (q:Addr) (H':Hp),Same H H'→H q=none→H' q=some (.lst (nV (stl (dec xs) (fun s=>decide (s∈T)) (xs.length+1))))→Q (.ref q) H'
theorem has_pastT (D:Df K mg "_law_past" s_law_past) (B:Blt7 mg):Has P w K mg base "_law_past" (k+1) ["items_here", "states"] sp_pastT:=by
  refine D.has sc_law_past (fun _ _ _ _ _ _ us hl=>match us,hl with | [_,_],_=>rfl) (fun vs H Q E h=>by obtain ⟨l,r,xs,T,rfl,_⟩:=h;rfl) (fun f cdv A outer s H vs Q E hr h=>?_)
  obtain ⟨l,r,xs,T,rfl,it,x40,hT,T100,Tle,q⟩:=h
  refine ⟨_,(pss_cons (ps_set (i:=2) sc_law_past.nd rfl (by first | exact Or.inl rfl | exact Or.inr rfl) (pe_callTy (call_dict_prsM rfl) rfl B.dict_ bt_dict (pa_cons (pe_comp rfl (pi_tup (pv 1)) (NL:=["state"]) (ix:=[]) (csc (defScope s_law_past) N_law_past) (fun cl C s₃ H₃ fp pins=>⟨(pg_name (i:=0) (show List.Nodup (["state"]:List Str) from by decide +kernel) rfl (by first | exact Or.inl rfl | exact Or.inr rfl)),pifs_nil,(pe_tup (pa_cons (pv 0) (pa_cons pe_bl pa_nil)))⟩)) pa_nil)))
  (pss_cons (ps_for PassesOwn.never rfl (pi_enum rfl B.enumerate (pa_cons (pv 0) pa_nil)) (pg_tup rfl (pgs_cons (pg_name (i:=3) sc_law_past.nd rfl (by first | exact Or.inl rfl | exact Or.inr rfl)) (pgs_cons (pg_tup rfl (pgs_cons (pg_name (i:=4) sc_law_past.nd rfl (by first | exact Or.inl rfl | exact Or.inr rfl)) (pgs_cons (pg_name (i:=5) sc_law_past.nd rfl (by first | exact Or.inl rfl | exact Or.inr rfl)) (pgs_cons (pg_name (i:=6) sc_law_past.nd rfl (by first | exact Or.inl rfl | exact Or.inr rfl)) pgs_nil)))) pgs_nil)))
  (pss_one (ps_if (PW.pt (pw_and (pt_val (pv 6)) (pw_and1 (pt_cmp (pc_din (hu_of hr) (pv 3) (pv 2)) (by with_unfolding_all rfl)))))
  (pss_one (ps_dput (hu_of hr) (pv 2) (pe_op op_add (pv 3) pe_int) pe_bl rfl))
  pss_nil)))
  (pss_one (ps_ret (pe_callB (call_sortedDI rfl) rfl B.sorted bt_sorted (pa_cons (pv 2) pa_nil)))))),?_⟩
  refine ⟨_,rfl,r,rfl,⟨_,SqT.of hT⟩,fun acc hacc=>?_⟩
  refine comp_tupl (K:=K) (a:=r) (xs:=nV T) (by rw [nV_len];omega) (fun i ys HX=>HX acc=some (.lst ys)∧Same H HX∧∃ as:List Addr,ys=as.map V.ref∧as.length=i∧∀ (j:Nat) (a:Addr) (t:Nat),as[j]?=some a→T[j]?=some t→HX a=some (.tup [.int (t:Int),.bl true]))
    (fun i ys HX h=>SqT.of (h.2.1 _ _ hT)) (fun i ys HX h=>⟨h.1,by obtain ⟨as,e,e2,_⟩:=h.2.2;rw [e,List.length_map];omega⟩) ⟨upd_same,(Same.refl H).new hacc,[],rfl,rfl,fun j a t e=>by cases e⟩ ?_ ?_
  rotate_left
  · rintro i x ys HX hx ⟨g1,g2,as,rfl,la,ha⟩
    rw [List.getElem?_map] at hx
    cases e1:T[i]? with
    | none=>rw [e1] at hx;cases hx
    | some t=>
      rw [e1] at hx
      cases hx
      refine ⟨rfl,_,rfl,line_le (show 2≤1000 by omega),fun tt htt=>?_⟩
      have ne:acc≠tt:=ne_of_none g1 htt
      have s1:Same HX (upd HX tt (.tup [.int (t:Int),.bl true])):=(Same.refl HX).new htt
      refine ⟨s1 _ _ g1,upd_same,(g2.trans s1).write hacc,as++[tt],by rw [List.map_append];rfl,by rw [List.length_append,la];rfl,fun j a t' e2 e3=>?_⟩
      rcases Nat.lt_or_ge j as.length with h | h
      · rw [List.getElem?_append_left h] at e2
        have:=s1 _ _ (ha j a t' e2 e3)
        have na:a≠acc:=fun z=>by rw [z,s1 _ _ g1] at this;cases this
        rw [upd_ne na];exact this
      · rw [List.getElem?_append_right h] at e2
        have hj:j=as.length:=by
          have:=(List.getElem?_eq_some_iff.mp e2).1
          simp at this
          omega
        rw [hj,Nat.sub_self] at e2
        cases e2
        rw [hj,la,e1] at e3
        cases e3
        rw [upd_ne (Ne.symm ne)];exact upd_same
  rintro ys H1 ⟨g1,s1,as,rfl,la,ha⟩
  rw [nV_len] at la
  refine ⟨acc,as,(T.map nK).map fun j=>(j,V.bl true),rfl,g1,by rw [List.length_map,List.length_map];exact la,fun j a kk v e1 e2=>?_,by omega,fun d hd=>?_⟩
  · rw [List.getElem?_map,List.getElem?_map] at e2
    cases e3:T[j]? with
    | none=>rw [e3] at e2;cases e2
    | some t=>
      rw [e3] at e2
      cases e2
      exact ha j a t e1 e3
  obtain ⟨zs0,ks0,m0⟩:=Ks.merge (m:=xs.length) (V.bl true) T Ks.nil Tle
  have hd1:upd H1 d (.dK (mergeK [] ((T.map nK).map fun j=>(j,V.bl true)))) d=some (.dK (mergeK [] ((T.map nK).map fun j=>(j,V.bl true)))):=upd_same
  have s2:Same H (upd H1 d (.dK (mergeK [] ((T.map nK).map fun j=>(j,V.bl true))))):=s1.new hd
  have Hd:H d=none:=s1.free hd
  show (fun HH=>_) (upd H1 d (.dK (mergeK [] ((T.map nK).map fun j=>(j,V.bl true)))))
  generalize upd H1 d (.dK (mergeK [] ((T.map nK).map fun j=>(j,V.bl true))))=H2 at hd1 s2
  generalize mergeK [] ((T.map nK).map fun j=>(j,V.bl true))=kvs0 at hd1 ks0
  obtain ⟨vs,hv,lv,at_⟩:=it
  refine ⟨_,rfl,.lst l,rfl,⟨_,.inl (s2 _ _ hv)⟩,?_⟩
  refine for_enum (xs:=vs) (fun i σ HX=>∃ (o3 o4 o5 o6:Option V) (kvs:List (Key × V)) (zs:List Nat),σ=[some (.ref l),some (.ref r),some (.ref d),o3,o4,o5,o6]∧Same H HX∧HX d=some (.dK kvs)∧Ks xs.length kvs zs∧∀ x,x∈zs ↔ x∈T∨(x≤i∧W63.cl (dec xs) (fun s=>decide (s∈T)) x=true))
    ⟨none,none,none,none,kvs0,zs0,rfl,s2,hd1,ks0,fun x=>?_⟩ (fun i σ HX _ h=>by obtain ⟨_,_,_,_,_,_,_,sX,_⟩:=h;exact .inl (sX _ _ hv)) ?_ ?_
  · rw [m0]
    constructor
    · rintro (z | z)
      · cases z
      · exact .inl z
    · rintro (z | ⟨z,c⟩)
      · exact .inr z
      · have:x=0:=by omega
        subst this
        exact .inr (of_decide_eq_true c)
  · rintro i v σ HX p hx ⟨o3,o4,o5,o6,kvs,zs,rfl,sX,hdX,ks,mem⟩ hp
    have il:i < xs.length:=by
      have:=(List.getElem?_eq_some_iff.mp hx).1
      omega
    obtain ⟨a,e1,e2⟩:=at_ i _ (List.getElem?_eq_getElem il)
    rw [hx] at e1
    cases e1
    have est:W63.st (dec xs) i=xs[i].2:=by unfold W63.st;rw [dec_at il]
    have sP:Same HX (upd HX p (.tup [.int (i:Int),.ref a])):=(Same.refl HX).new hp
    refine ⟨p,_,rfl,SqT.of upd_same,rfl,_,_,rfl,_,_,rfl,?_⟩
    have hdP:=sP _ _ hdX
    have e2P:=sP _ _ (sX _ _ e2)
    have sXP:=sX.trans sP
    show (fun HH=>_) (upd HX p (.tup [.int (i:Int),.ref a]))
    generalize upd HX p (.tup [.int (i:Int),.ref a])=HY at hdP e2P sXP
    refine ⟨a,_,rfl,SqT.of e2P,rfl,_,_,rfl,_,_,rfl,_,_,rfl,rfl,rfl,?_⟩
    have ini:i∈zs ↔ W63.cl (dec xs) (fun s=>decide (s∈T)) i=true:=(mem i).trans ⟨fun o=>o.elim (fun z=>cl_in (decide_eq_true z)) (·.2),fun c=>.inr ⟨Nat.le_refl _,c⟩⟩
    have stay:(∀ x,x=i+1→W63.cl (dec xs) (fun s=>decide (s∈T)) x=true→x∈T)→∀ x,x∈zs ↔ x∈T∨(x≤i+1∧W63.cl (dec xs) (fun s=>decide (s∈T)) x=true):=fun h x=>by
      rw [mem]
      constructor
      · rintro (z | ⟨z,c⟩)
        · exact .inl z
        · exact .inr ⟨by omega,c⟩
      · rintro (z | ⟨z,c⟩)
        · exact .inl z
        · rcases Nat.lt_or_ge i x with l1 | l1
          · exact .inl (h x (by omega) c)
          · exact .inr ⟨l1,c⟩
    refine ⟨_,rfl,_,rfl,?_⟩
    cases sj:xs[i].2 with
    | false=>
      refine L2.iteB rfl ?_
      refine iteF ?_
      refine ⟨_,_,_,_,kvs,zs,rfl,sXP,hdP,ks,stay fun x e c=>?_⟩
      subst e
      rw [W63.cl,est,sj,Bool.and_false,Bool.or_false] at c
      exact of_decide_eq_true c
    | true=>
      refine iteA rfl ?_
      refine ⟨_,rfl,_,rfl,d,_,rfl,DGet.k (k:=nK i) hdP,_,rfl,?_⟩
      by_cases ci:W63.cl (dec xs) (fun s=>decide (s∈T)) i=true
      · refine iteA ((ks.isSome i).trans (decide_eq_true (ini.mpr ci))) ?_
        obtain ⟨zs',ks',m'⟩:=ks.put (z:=i+1) (V.bl true) (by omega)
        refine ⟨_,rfl,_,rfl,_,_,rfl,rfl,d,_,rfl,DPut.k (k:=nK (i+1)) hdP (Nat.lt_of_le_of_lt ks.klen (small1000 (by omega))),?_⟩
        refine ⟨_,_,_,_,_,zs',rfl,sXP.write Hd,upd_same,ks',fun x=>?_⟩
        rw [m',mem]
        constructor
        · rintro ((z | ⟨z,c⟩) | z)
          · exact .inl z
          · exact .inr ⟨by omega,c⟩
          · subst z
            exact .inr ⟨Nat.le_refl _,by rw [W63.cl,ci,est,sj];simp⟩
        · rintro (z | ⟨z,c⟩)
          · exact .inl (.inl z)
          · rcases Nat.lt_or_ge i x with l1 | l1
            · exact .inr (by omega)
            · exact .inl (.inr ⟨l1,c⟩)
      · refine L2.iteB ((ks.isSome i).trans (decide_eq_false fun z=>ci (ini.mp z))) ?_
        refine ⟨_,_,_,_,kvs,zs,rfl,sXP,hdP,ks,stay fun x e c=>?_⟩
        subst e
        rw [W63.cl,Bool.eq_false_iff.mpr ci,Bool.false_and,Bool.or_false] at c
        exact of_decide_eq_true c
  · rintro σ HX ⟨o3,o4,o5,o6,kvs,zs,rfl,sX,hdX,ks,mem⟩
    rw [lv] at mem
    have kl:=ks.len
    refine ⟨_,rfl,d,kvs,_,rfl,.inl hdX,ks.keys,by rw [List.length_map];omega,fun ns l' pm so hl'=>?_⟩
    rw [ks.sorted (n:=xs.length+1) (p:=W63.cl (dec xs) fun s=>decide (s∈T)) (fun x=>?_) pm so]
    · exact q l' _ (sX.new hl') (sX.free hl') upd_same
    · rw [mem]
      constructor
      · rintro (z | ⟨z,c⟩)
        · exact ⟨by have:=Tle x z;omega,cl_in (decide_eq_true z)⟩
        · exact ⟨by omega,c⟩
      · rintro ⟨z,c⟩
        exact .inr ⟨by omega,c⟩
def sp_beyondT:Sp:=fun vs H Q _=>∃ (l r:Addr) (xs:List Wi) (S:List Nat) (c:Nat),vs=[.ref l,.ref r,.str ⟨#[c]⟩]∧LIts H l xs∧xs.length≤40∧H r=some (.tup (nV S))∧S.length≤41 ∧
  ∀ (q:Addr) (H':Hp),Same H H'→H q=none→H' q=some (.lst (nV (stl (dec xs) (fun s=>decide (s∈byl (dec xs) S c)) (xs.length+1))))→Q (.ref q) H'
theorem has_beyondT (D:Df K mg "_law_beyond" s_law_beyond) (B:Blt7 mg) (G_law_past:Has P w K mg base "_law_past" k ["items_here", "states"] sp_past):Has P w K mg base "_law_beyond" (k+1) ["items_here", "states", "sign"] sp_beyondT:=by
  refine D.has sc_law_beyond (fun _ _ _ _ _ _ us hl=>match us,hl with | [_,_,_],_=>rfl) (fun vs H Q E h=>by obtain ⟨l,r,xs,S,c,rfl,_⟩:=h;rfl) (fun f cdv A outer s H vs Q E hr h=>?_)
  obtain ⟨l,r,xs,S,c,rfl,it,x40,hS,S41,q⟩:=h
  refine ⟨_,(pss_cons (ps_set (i:=3) sc_law_beyond.nd rfl (by first | exact Or.inl rfl | exact Or.inr rfl) (pe_lst pa_nil))
  (pss_cons (ps_for PassesOwn.never rfl (pi_tup (pv 1)) (pg_name (i:=4) sc_law_beyond.nd rfl (by first | exact Or.inl rfl | exact Or.inr rfl))
  (pss_one (ps_if (PW.pt (pw_and (pt_cmpR op_lt (pv 4) (pe_callB call_len_seq rfl B.len bt_len (pa_cons (pv 0) pa_nil)) (nomark _)) (pw_and1 (pt_cmpR op_in_str (pv 2) (pe_ix ix_tup (pe_ix ix_list (pv 0) (pv 4) (fun _ _=>rfl)) pe_int (fun _ _=>rfl)) (by with_unfolding_all rfl)))))
  (pss_one (ps_expr (pe_bm PySem.F.plainAttrs_list PySem.F.slot_list_append PySem.F.type_list_append mt_append (pv 3) (pa_cons (pe_op op_add (pv 4) (pe_callTy call_int1 rfl B.int_ bt_int (pa_cons (pe_not (pe_ix ix_tup (pe_ix ix_list (pv 0) (pv 4) (fun _ _=>rfl)) pe_int (fun _ _=>rfl))) pa_nil))) pa_nil))))
  pss_nil)))
  (pss_one (ps_ret (pe_callH G_law_past hr rfl (pa_cons (pv 0) (pa_cons (pv 3) pa_nil))))))),?_⟩
  have dl:=W63.dec_len xs
  refine ⟨line_le (show 0≤1000 by omega),fun fo hfo=>?_⟩
  have s1:Same H (upd H fo (.lst [])):=(Same.refl H).new hfo
  obtain ⟨vs,hv,lv,at_⟩:=id it
  have byl_take:∀ i,(byl (dec xs) (S.take i) c).length≤41:=fun i=>by
    have:=byl_len (dec xs) (S.take i) c
    rw [List.length_take] at this;omega
  refine ⟨_,rfl,r,rfl,⟨_,SqT.of (s1 _ _ hS)⟩,?_⟩
  refine for_tup (K:=K) (xs:=nV S) (fun i σ HX=>∃ o4:Option V,σ=[some (.ref l),some (.ref r),some (.str ⟨#[c]⟩),some (.ref fo),o4]∧Same H HX∧HX fo=some (.lst (nV (byl (dec xs) (S.take i) c)))) ⟨none,rfl,s1,upd_same⟩ (fun i σ HX _ h=>by obtain ⟨_,_,sX,_⟩:=h;exact SqT.of (sX _ _ hS)) ?_ ?_
  · rintro i v σ HX hx ⟨o4,rfl,sX,hf⟩
    rw [List.getElem?_map] at hx
    cases e1:S[i]? with
    | none=>rw [e1] at hx;cases hx
    | some t=>
      rw [e1] at hx
      cases hx
      have tk:S.take (i+1)=S.take i++[t]:=by rw [List.take_succ,e1];rfl
      have bt:byl (dec xs) (S.take (i+1)) c=byl (dec xs) (S.take i) c++byl (dec xs) [t] c:=by
        unfold byl;rw [tk,List.filter_append,List.map_append]
      have bl:=byl_take i
      refine ⟨_,rfl,?_⟩
      refine ⟨_,rfl,l,_,rfl,.inl (SqL.of (sX _ _ hv)),_,_,rfl,rfl,_,rfl,?_⟩
      by_cases lt:t < xs.length
      · refine iteA (decide_eq_true (by rw [lv];omega)) ?_
        obtain ⟨ia,ie1,ie2⟩:=at_ t _ (List.getElem?_eq_getElem lt)
        refine ⟨_,rfl,_,rfl,_,rfl,l,_,_,_,rfl,rfl,SqL.of (sX _ _ hv),atI_nat ie1,ia,_,_,_,rfl,rfl,SqT.of (sX _ _ ie2),rfl,_,_,rfl,rfl,_,rfl,?_⟩
        rw [PySem.StrLaws.found_one,mk_cps]
        have ed:=dec_at lt
        refine ite2 (fun cc=>?_) (fun cc=>?_)
        · have eb:byl (dec xs) [t] c=[if xs[t].2=true then t else t+1]:=by
            unfold byl
            rw [List.filter_cons_of_pos (by rw [decide_eq_true (by omega:t < (dec xs).length),ed,cc];rfl)]
            show [if W63.st (dec xs) t=true then t else t+1]=_
            unfold W63.st;rw [ed]
          rw [eb] at bt
          refine ⟨_,rfl,.inl ⟨rfl,_,SqL.of hf⟩,_,rfl,_,rfl,_,rfl,l,_,_,_,rfl,rfl,SqL.of (sX _ _ hv),atI_nat ie1,ia,_,_,_,rfl,rfl,SqT.of (sX _ _ ie2),rfl,?_⟩
          refine ⟨_,rfl,.inr ⟨_,rfl,_,_,rfl,rfl,fo,_,_,rfl,rfl,hf,?_,?_⟩⟩
          · rw [nV_len];exact Nat.lt_of_lt_of_le (show _ < 1000 by omega) (line_le (Nat.le_refl _))
          refine ⟨_,rfl,sX.write hfo,?_⟩
          rw [upd_same,bt,← nV_snoc]
          congr 4
          cases xs[t].2
          · rfl
          · show V.int ((t:Int)+0)=V.int (t:Int);rw [Int.add_zero]
        · refine ⟨_,rfl,sX,?_⟩
          have eb:byl (dec xs) [t] c=[]:=by
            unfold byl
            rw [List.filter_cons_of_neg (by rw [ed,Bool.eq_false_iff.mpr cc];simp)];rfl
          rw [bt,eb,List.append_nil];exact hf
      · refine L2.iteB (decide_eq_false (by rw [lv];omega)) ?_
        refine iteF ?_
        refine ⟨_,rfl,sX,?_⟩
        have eb:byl (dec xs) [t] c=[]:=by
          unfold byl
          rw [List.filter_cons_of_neg (by rw [decide_eq_false (by omega)];simp)];rfl
        rw [bt,eb,List.append_nil];exact hf
  · rintro σ HX ⟨o4,rfl,sX,hf⟩
    rw [nV_len,List.take_length] at hf
    have bl:=byl_len (dec xs) S c
    refine ⟨_,rfl,_,rfl,l,fo,xs,_,rfl,it.same sX,x40,hf,by omega,fun t ht=>?_,fun q' H' s' f' h'=>q q' H' (sX.trans s') (sX.free f') h'⟩
    unfold byl at ht
    obtain ⟨u,hu,rfl⟩:=List.mem_map.mp ht
    have:=(List.mem_filter.mp hu).2
    rw [Bool.and_eq_true] at this
    have:=of_decide_eq_true this.1
    split <;> omega
end
end S67
namespace L2
open PySem PySem.Spec PyProof.Rows
structure RoomH (k:Nat) (A:Around):Prop where
  dp:A.depth+3 * k+5 < recursionLimit
  un:A.units+16 * k+200 < cLine
  gd:A.guards=some []
theorem Room.caught {k:Nat} {X:Cx} (r:Room k X.A) (a:Addr):RoomH k (X.caught a).A:=⟨r.dp,r.un,r.gd⟩
theorem Room.h {k:Nat} {A:Around} (r:Room k A):RoomH k A:=⟨r.dp,r.un,r.gd⟩
section
variable {X:Cx} {CX:CXT} {k:Nat} {f C:Addr} {fd:FuncData} {ps:List Str} {sp:Sp} {dvs:List V} {ds:List Value} {E:XK} {x m:Str} {p pos apos:Pos} {e o:Expr} {es:List Expr} {ta:TE} {t:TA}
end
section
variable {P:Program} {w:World} {K:PySem.W.Frag} {mg:Str→Option Value} {base:Heap}
end
section
variable {P:Program} {w:World} {K:PySem.W.Frag} {mg:Str→Option Value} {base:Heap}
end
end L2
namespace W67
open W63 W7 W66
structure Shown (its:List It) (ups:List Int) (lab:List Nat) (U:Nat→Nat→Bool):Prop where
  zero:∀ p,p < ups.length→U p 0=true
  star:∀ p s,p < ups.length→U p s=true→st its s=true→U p (s+1)=true
  open_:∀ p,p < ups.length→U p its.length=false
  by_:∀ p t s,0 < p→p < ups.length→U p t=true→By its (lab.getD p 0) t s→U (ups.getD p 0).toNat s=true
  root:∀ T:Nat→Bool,(∀ s,T s=true ↔ ∃ t,U 0 t=true∧By its (lab.getD 0 0) t s)→cl its T its.length=false
theorem cl_in {its:List It} {T V:Nat→Bool} (h:∀ s,T s=true→V s=true) (hs:∀ s,V s=true→st its s=true→V (s+1)=true):∀ s,cl its T s=true→V s=true
  | 0,c=>h 0 c
  | s+1,c=>by
    rw [cl,Bool.or_eq_true,Bool.and_eq_true] at c
    rcases c with c | c
    · exact h _ c
    · exact hs s (cl_in h hs s c.1) c.2
theorem at_len {ups:List Int} {lab:List Nat} (t:TreeOk ups lab) {d j c:Nat} (h:At ups d j c) (hd:d < ups.length):j < (W ups lab d).length:=by
  have e:=h.word t hd
  rw [W_eq t (h.lt t hd)] at e
  have:=congrArg List.length e
  rw [List.length_drop,List.length_cons] at this
  omega
theorem at_ex {ups:List Int} {lab:List Nat} (t:TreeOk ups lab) {d:Nat} (hd:d < ups.length):∀ j,j < (W ups lab d).length→∃ c,At ups d j c
  | 0,_=>⟨d,.here⟩
  | j+1,h=>by
    obtain ⟨c,hc⟩:=at_ex t hd j (by omega)
    rcases Nat.eq_zero_or_pos c with e | e
    · exfalso
      have e1:=hc.word t hd
      have e2:=W_eq t (hc.lt t hd)
      rw [e2] at e1
      have up0:ups.getD c 0=-1:=by rw [e];exact t.root
      rw [if_pos (by rw [up0];decide)] at e1
      have:=congrArg List.length e1
      rw [List.length_drop,List.length_singleton] at this
      omega
    · exact ⟨_,hc.up e⟩
theorem at_zero {ups:List Int} {lab:List Nat} (t:TreeOk ups lab) {d j:Nat} (h:At ups d j 0) (hd:d < ups.length):(W ups lab d).length=j+1:=by
  have e1:=h.word t hd
  rw [W_eq t (h.lt t hd),if_pos (by rw [t.root];decide)] at e1
  have:=congrArg List.length e1
  rw [List.length_drop,List.length_singleton] at this
  omega
theorem Shown.at {its:List It} {ups:List Int} {lab:List Nat} {U:Nat→Nat→Bool} (h:Shown its ups lab U) (t:TreeOk ups lab) {d:Nat} (hd:d < ups.length) {j c:Nat} (ha:At ups d j c):∀ s,N its (W ups lab d) s j=true→U c s=true:=by
  induction ha with
  | here=>
    intro s hN
    rw [N_first] at hN
    exact cl_in (V := U d) (fun s e => by have:s=0:=by simpa using e
                                          rw [this];exact h.zero d hd) (fun s a b=>h.star d s hd a b) s hN
  | @up j c ha c0 ih=>
    intro s hN
    have hc:=ha.lt t hd
    have up:=t.up c c0 hc
    rw [N_next] at hN
    refine cl_in (V:=U (ups.getD c 0).toNat) (fun s e=>?_) (fun s a b=>h.star _ s (by omega) a b) s hN
    obtain ⟨r,hr,hb⟩:=(by_iff (ha.letter t hd) s).mp e
    exact h.by_ c r s c0 hc (ih r hr) hb
theorem Shown.none {its:List It} {ups:List Int} {lab:List Nat} {U:Nat→Nat→Bool} (h:Shown its ups lab U) (t:TreeOk ups lab) {d:Nat} (hd:d < ups.length) (j:Nat) (hj:j≤(W ups lab d).length):D its (W ups lab d) its.length j=false:=by
  rw [← N_len]
  cases e:N its (W ups lab d) its.length j with
  | false=>rfl
  | true=>
    exfalso
    rcases Nat.lt_or_ge j (W ups lab d).length with l | l
    · obtain ⟨c,hc⟩:=at_ex t hd j l
      have:=h.at t hd hc _ e
      rw [h.open_ c (hc.lt t hd)] at this;cases this
    · have pos:0 < (W ups lab d).length:=at_len t .here hd
      obtain ⟨i,rfl⟩:∃ i,j=i+1:=⟨j - 1,by omega⟩
      obtain ⟨c,hc⟩:=at_ex t hd i (by omega)
      have c0:c=0:=by
        rcases Nat.eq_zero_or_pos c with z | z
        · exact z
        · have:=at_len t (hc.up z) hd
          omega
      subst c0
      rw [N_next] at e
      have le:=hc.letter t hd
      haveI:∀ s,Decidable (∃ r,r < its.length+1∧U 0 r=true∧By its (lab.getD 0 0) r s):=fun _=>Classical.propDecidable _
      have hT:∀ s,(decide (∃ r,r < its.length+1∧U 0 r=true∧By its (lab.getD 0 0) r s))=true ↔ ∃ r,U 0 r=true∧By its (lab.getD 0 0) r s:=fun s=>by
        rw [decide_eq_true_eq]
        exact ⟨fun ⟨r,_,a,b⟩=>⟨r,a,b⟩,fun ⟨r,a,b⟩=>⟨r,by have:=b.1;omega,a,b⟩⟩
      have:=h.root _ hT
      rw [cl_mono its.length (fun s _ hs=>(hT s).mpr ?_) e] at this
      · cases this
      · obtain ⟨r,hr,hb⟩:=(by_iff le s).mp hs
        exact ⟨r,h.at t hd hc r hr,hb⟩
theorem least_shown {its:List It} {ups:List Int} {lab:List Nat} (t:TreeOk ups lab) (no:∀ d,d < ups.length→∀ j,j≤(W ups lab d).length→D its (W ups lab d) its.length j=false):Shown its ups lab (mkB its ups lab) where
  zero:=fun p hp=>(mkB_iff t p 0).mpr ⟨p,0,hp,.here,by rw [N_first];rfl⟩
  star:=fun p s hp h hs=>by
    obtain ⟨d,j,hd,ha,hN⟩:=(mkB_iff t p s).mp h
    exact (mkB_iff t p (s+1)).mpr ⟨d,j,hd,ha,N_star hN hs⟩
  open_:=fun p hp=>by
    cases e:mkB its ups lab p its.length with
    | false=>rfl
    | true=>
      obtain ⟨d,j,hd,ha,hN⟩:=(mkB_iff t p _).mp e
      rw [N_len,no d hd j (Nat.le_of_lt (at_len t ha hd))] at hN
      cases hN
  by_:=fun p r s p0 hp h hb=>by
    obtain ⟨d,j,hd,ha,hN⟩:=(mkB_iff t p r).mp h
    refine (mkB_iff t _ s).mpr ⟨d,j+1,hd,ha.up p0,?_⟩
    rw [N_next]
    exact cl_of ((by_iff (ha.letter t hd) s).mpr ⟨r,hN,hb⟩)
  root := fun T hT=>by
    have one:∀ s,cl its T s=true→∃ d j,d < ups.length∧At ups d j 0∧N its (W ups lab d) s (j+1)=true:=by
      intro s
      have tone:∀ s,T s=true→∃ d j,d < ups.length∧At ups d j 0∧N its (W ups lab d) s (j+1)=true:=fun s h=>by
        obtain ⟨r,hr,hb⟩:=(hT s).mp h
        obtain ⟨d,j,hd,ha,hN⟩:=(mkB_iff t 0 r).mp hr
        refine ⟨d,j,hd,ha,?_⟩
        rw [N_next]
        exact cl_of ((by_iff (ha.letter t hd) s).mpr ⟨r,hN,hb⟩)
      induction s with
      | zero=>exact tone 0
      | succ s ih=>
        intro h
        rw [cl,Bool.or_eq_true,Bool.and_eq_true] at h
        rcases h with h | h
        · exact tone _ h
        · obtain ⟨d,j,hd,ha,hN⟩:=ih h.1
          exact ⟨d,j,hd,ha,N_star hN h.2⟩
    cases e:cl its T its.length with
    | false=>rfl
    | true=>
      obtain ⟨d,j,hd,ha,hN⟩:=one _ e
      rw [N_len,no d hd (j+1) (by rw [at_zero t ha hd];exact Nat.le_refl _)] at hN
      cases hN
end W67
namespace S67
open PySem L2 W7
open W63 (Wr Wi enc dec star)
def belowD:PyData→Int→Bool
  | .int i,n=>decide (0≤i) && decide (i < n)
  | _,_=>false
theorem below_all {ds:List PyData} {n:Nat}:(ds.all fun d=>belowD d (n:Int))=true ↔ ∃ us:List Int,ds=us.map .int∧∀ u∈us,0≤u∧u < (n:Int):=by
  rw [List.all_eq_true]
  constructor
  · intro h
    induction ds with
    | nil=>exact ⟨[],rfl,fun _ h=>nomatch h⟩
    | cons d ds ih=>
      obtain ⟨us,rfl,hu⟩:=ih fun x hx=>h x (List.mem_cons_of_mem _ hx)
      have hd:=h d List.mem_cons_self
      cases d with
      | int i=>
        have hd':(decide (0≤i) && decide (i < (n:Int)))=true:=hd
        rw [Bool.and_eq_true,decide_eq_true_eq,decide_eq_true_eq] at hd'
        exact ⟨i :: us,rfl,fun u hu'=>(List.mem_cons.mp hu').elim (fun e=>e ▸ hd') (hu u)⟩
      | _=>cases hd
  · rintro ⟨us,rfl,hu⟩ d hd
    obtain ⟨u,hu',rfl⟩:=List.mem_map.mp hd
    show (decide (0≤u) && decide (u < (n:Int)))=true
    rw [decide_eq_true (hu u hu').1,decide_eq_true (hu u hu').2];rfl
def StD (its:List W63.It) (d:PyData):Prop:=∃ T:List Nat,d=.tuple (T.map fun s:Nat=>.int (s:Int))∧(∀ s∈T,s≤its.length)∧0∈T∧stl its (fun s=>decide (s∈T)) (its.length+1)=T
def Few (d:PyData):Prop:=∀ ds,d=.tuple ds→ds.length≤60
theorem nats_of {us:List Int} {n:Nat} (h:∀ u∈us,0≤u∧u < ((n+1:Nat):Int)):∃ T:List Nat,us=T.map (fun s:Nat=>(s:Int))∧∀ s∈T,s≤n:=by
  induction us with
  | nil=>exact ⟨[],rfl,fun _ h=>nomatch h⟩
  | cons u us ih=>
    obtain ⟨T,rfl,hT⟩:=ih fun x hx=>h x (List.mem_cons_of_mem _ hx)
    have hu:=h u List.mem_cons_self
    refine ⟨u.toNat :: T,by rw [List.map_cons];congr 1;omega,fun s hs=>(List.mem_cons.mp hs).elim (fun e=>by omega) (hT s)⟩
theorem nats_inj {T T':List Nat} (h:T.map (fun s:Nat=>PyData.int (s:Int))=T'.map fun s:Nat=>PyData.int (s:Int)):T=T':=
  (List.map_inj_right (fun a b h=>by injection h with h;omega)).mp h
theorem inV_nat (v:Nat) (T:List Nat):inV (V.int (v:Int)) (nV T)=decide (v∈T):=by
  induction T with
  | nil=>rfl
  | cons t T ih=>
    unfold inV at ih ⊢
    rw [show nV (t :: T)=V.int (t:Int) :: nV T from rfl,List.any_cons,ih]
    by_cases e:t=v
    · subst e;simp [eqV]
    · have:eqV (.int (t:Int)) (.int (v:Int))=false:=by simp [eqV];omega
      rw [this,Bool.false_or]
      simp [Ne.symm e]
theorem eqVs_nat (A B:List Nat):eqVs (nV A) (nV B)=decide (A=B):=by
  have e:∀ l:List Nat,nV l=(l.map fun s:Nat=>(s:Int)).map V.int:=fun l=>by unfold nV;rw [List.map_map];rfl
  rw [e,e,eqVs_ints]
  congr 1
  exact propext ⟨fun h=>(List.map_inj_right (fun a b h=>by omega)).mp h,fun h=>by rw [h]⟩
section
variable {P:Program} {w:World} {K:PySem.W.Frag} {mg:Str→Option Value} {base:Heap} {k:Nat}
def sp_wholeT:Sp:=fun vs H Q _=>∃ (v:V) (d:PyData),vs=[v]∧Td H v d∧Q (.bl (wholeD d)) H
theorem has_wholeT (D:Df K mg "is_whole" s_is_whole) (B:Blt7 mg):Has P w K mg base "is_whole" (k+1) ["thing"] sp_wholeT:=by
  refine D.has sc_is_whole (fun _ _ _ _ _ _ us hl=>match us,hl with | [_],_=>rfl) (fun vs H Q E h=>by obtain ⟨x,d,rfl,_⟩:=h;rfl) (fun f cdv A outer s H vs Q E hr h=>?_)
  obtain ⟨v,d,rfl,td,q⟩:=h
  refine ⟨_,(pss_one (ps_ret (pe_and (pe_callB call_isinst rfl B.isinstance bt_isinstance (pa_cons (pv 0) (pa_cons (pe_bltn (v:=.ty "int") rfl B.int_ bt_int rfl) pa_nil))) (pe_one (pe_not (pe_callB call_isinst rfl B.isinstance bt_isinstance (pa_cons (pv 0) (pa_cons (pe_bltn (v:=.ty "bool") rfl B.bool_ bt_bool rfl) pa_nil)))))))),?_⟩
  obtain ⟨t1,a1,a2⟩:=td_int (K:=K) td
  obtain ⟨t2,b1,b2⟩:=td_bl (K:=K) td
  refine ⟨_,rfl,_,t1, "int", _,rfl,a1,a2,_,rfl,ite2 (fun c=>?_) (fun c=>?_)⟩
  · refine ⟨_,rfl,_,t2, "bool", _,rfl,b1,b2,_,rfl,?_⟩
    have e:wholeD d=!isBlD d:=by cases d <;> first | rfl | cases c
    rw [← e];exact q
  · have e:wholeD d=false:=by cases d <;> first | rfl | (exact absurd rfl c)
    rw [e] at q;exact q
def sp_belowT:Sp:=fun vs H Q _=>∃ (v:V) (d:PyData) (n:Int),vs=[v,.int n]∧Td H v d∧Q (.bl (belowD d n)) H
theorem has_belowT (D:Df K mg "is_number_below" s_is_number_below) (B:Blt7 mg) (G_is_whole:Has P w K mg base "is_whole" k ["thing"] sp_wholeT):Has P w K mg base "is_number_below" (k+1) ["thing", "behind"] sp_belowT:=by
  refine D.has sc_is_number_below (fun _ _ _ _ _ _ us hl=>match us,hl with | [_,_],_=>rfl) (fun vs H Q E h=>by obtain ⟨x,d,n,rfl,_⟩:=h;rfl) (fun f cdv A outer s H vs Q E hr h=>?_)
  obtain ⟨v,d,n,rfl,td,q⟩:=h
  refine ⟨_,(pss_one (ps_ret (pe_and (pe_callH G_is_whole hr rfl (pa_cons (pv 0) pa_nil)) (pe_one (pe_chain op_le op_lt pe_int (pv 0) (pv 1)))))),?_⟩
  refine ⟨_,rfl,v,d,rfl,td,_,rfl,?_⟩
  cases td with
  | int i=>
    refine iteT ⟨_,rfl,_,_,rfl,rfl,_,rfl,ite2 (fun c=>?_) (fun c=>?_)⟩
    · refine ⟨_,rfl,_,_,rfl,rfl,?_⟩
      have q':Q (.bl (decide (0≤i) && decide (i < n))) H:=q
      rw [c,Bool.true_and] at q'
      exact q'
    · have q':Q (.bl (decide (0≤i) && decide (i < n))) H:=q
      rw [Bool.eq_false_iff.mpr c,Bool.false_and] at q'
      exact q'
  | _=>exact iteF q
def sp_isst:Sp:=fun vs H Q _=>∃ (l:Addr) (its:List W63.It) (v:V) (d:PyData),vs=[.ref l,v]∧ItsAt H l its∧its.length≤40∧Td H v d∧Few d∧∀ (b:Bool) (H':Hp),Same H H'→(b=true ↔ StD its d)→Q (.bl b) H'
theorem has_isst (D:Df K mg "is_states" s_is_states) (B:Blt7 mg) (G_is_number_below:Has P w K mg base "is_number_below" k ["thing", "behind"] sp_belowT) (G_states_with:Has P w K mg base "states_with" k ["items", "states"] sp_swithT):Has P w K mg base "is_states" (k+1) ["items", "thing"] sp_isst:=by
  refine D.has sc_is_states (fun _ _ _ _ _ _ us hl=>match us,hl with | [_,_],_=>rfl) (fun vs H Q E h=>by obtain ⟨l,its,v,d,rfl,_⟩:=h;rfl) (fun f cdv A outer s H vs Q E hr h=>?_)
  obtain ⟨l,its,v,d,rfl,it,l40,td,few,q⟩:=h
  refine ⟨_,(pss_cons (ps_if (PW.pt (pw_or (pt_not (pt_val (pe_callB call_isinst rfl B.isinstance bt_isinstance (pa_cons (pv 1) (pa_cons (pe_bltn (v:=.ty "tuple") rfl B.tuple_ bt_tuple rfl) pa_nil))))) (pw_or1 (pt_not (pt_val (pe_callB (call_all rfl) rfl B.all bt_all (pa_cons (pe_comp rfl (pi_tup (pv 1)) (NL:=["part"]) (ix:=[0]) (csc (defScope s_is_states) N_is_states) (fun cl C s₃ H₃ fp pins=>⟨(pg_name (i:=0) (show List.Nodup (["part", "items"]:List Str) from by decide +kernel) rfl (by first | exact Or.inl rfl | exact Or.inr rfl)),pifs_nil,(pe_callH G_is_number_below hr rfl (pa_cons (pv 0) (pa_cons (pe_op op_add (pe_callB (call_len_seqK K) rfl B.len bt_len (pa_cons (pv 1) pa_nil)) pe_int) pa_nil)))⟩)) pa_nil)))))))
  (pss_one (ps_ret pe_bl))
  pss_nil)
  (pss_one (ps_ret (pe_and (pe_cmpR op_in_seq pe_int (pv 1) (by with_unfolding_all rfl)) (pe_one (pe_cmpR (op_eq_lst hr.units0) (pe_callH G_states_with hr rfl (pa_cons (pv 0) (pa_cons (pv 1) pa_nil))) (pe_callTy call_list_of rfl B.list_ bt_list (pa_cons (pv 1) pa_nil)) (nomark _))))))),?_⟩
  have no:¬ StD its d→(false=true ↔ StD its d):=fun n=>⟨(fun z=>by cases z),fun z=>absurd z n⟩
  obtain ⟨t1,a1,a2⟩:=td_tup (K:=K) td
  refine ⟨_,rfl,_,t1, "tuple", _,rfl,a1,a2,_,rfl,?_⟩
  by_cases ct:isTupD d=true
  rotate_left
  · refine iteA (by rw [Bool.eq_false_iff.mpr ct];rfl) ?_
    exact q false H (Same.refl H) (no fun ⟨T,e,_⟩=>ct (by rw [e];rfl))
  refine L2.iteB (by rw [ct];rfl) ?_
  obtain ⟨a,xs,ds,rfl,rfl,ha,tds⟩:=isTup_ex td ct
  have xl:=tds.len
  have x100:=few ds rfl
  obtain ⟨ivs,hiv,ivl,_⟩:=id it
  refine ⟨_,rfl,a,rfl,⟨_,SqT.of ha⟩,fun ac hac=>?_⟩
  refine comp_tupl (K:=K) (a:=a) (xs:=xs) (by omega) (fun i ys HX=>HX ac=some (.lst ys)∧Same H HX∧ys=((ds.take i).map fun d=>belowD d ((its.length+1:Nat):Int)).map V.bl)
    (fun i ys HX h=>SqT.of (h.2.1 _ _ ha)) (fun i ys HX h=>⟨h.1,by rw [h.2.2,List.length_map,List.length_map,List.length_take];exact Nat.min_le_left _ _⟩) ⟨upd_same,(Same.refl H).new hac,rfl⟩ ?_ ?_
  rotate_left
  · rintro i x ys HX hx ⟨g1,g2,rfl⟩
    obtain ⟨dd,e1,td2⟩:=tds.get hx
    refine ⟨rfl,_,rfl,_,rfl,l,_,rfl,.inl (SqL.of (g2 _ _ hiv)),_,_,rfl,rfl,x,dd,_,rfl,td2.same g2,g1,upd_same,g2.write hac,?_⟩
    rw [List.take_succ,e1,List.map_append,List.map_append,ivl];rfl
  rintro ys H2 ⟨g1,s2,rfl⟩
  refine ⟨ac,_,rfl,SqL.of g1,_,rfl,?_⟩
  rw [xl,List.take_length,List.all_map]
  have e0:(id ∘ fun d=>belowD d ((its.length+1:Nat):Int))=fun d=>belowD d ((its.length+1:Nat):Int):=rfl
  rw [e0]
  by_cases cb:(ds.all fun d=>belowD d ((its.length+1:Nat):Int))=true
  rotate_left
  · refine iteA (by rw [Bool.eq_false_iff.mpr cb];rfl) ?_
    refine q false H2 s2 (no fun ⟨T,e,le,_⟩=>cb (below_all.mpr ⟨T.map fun s:Nat=>(s:Int),?_,fun u hu=>?_⟩))
    · injection e with e
      rw [e,List.map_map];rfl
    · obtain ⟨s,hs,rfl⟩:=List.mem_map.mp hu
      have:=le s hs
      omega
  refine L2.iteB (by rw [cb];rfl) ?_
  obtain ⟨us,rfl,hus⟩:=below_all.mp cb
  obtain ⟨T,rfl,hT⟩:=nats_of hus
  obtain ⟨us',e3,ex⟩:=wholes_ints tds (fun d hd=>by obtain ⟨i,_,rfl⟩:=List.mem_map.mp hd;rfl)
  have e4:us'=T.map fun s:Nat=>(s:Int):=((List.map_inj_right (fun a b h=>by injection h)).mp e3).symm
  subst e4
  have exs:xs=nV T:=by rw [ex,List.map_map];rfl
  subst exs
  have ed:(PyData.tuple ((T.map fun s:Nat=>(s:Int)).map PyData.int))=.tuple (T.map fun s:Nat=>.int (s:Int)):=by rw [List.map_map];rfl
  rw [ed] at q no
  have ha2:=s2 _ _ ha
  refine ⟨_,rfl,a,_,rfl,.inr (SqT.of ha2),rfl,nV_flat _,?_⟩
  rw [show (if false=true then !inV (V.int 0) (nV T) else inV (V.int 0) (nV T))=decide (0∈T) from inV_nat 0 T]
  refine ⟨_,rfl,?_⟩
  by_cases z0:0∈T
  rotate_left
  · refine L2.iteB (decide_eq_false z0) ?_
    exact q false H2 s2 (no fun ⟨T',e,_,z,_⟩=>z0 (by injection e with e;rw [nats_inj e];exact z))
  refine iteA (decide_eq_true z0) ?_
  refine ⟨_,rfl,_,rfl,l,a,its,T,rfl,it.same s2,l40,ha2,by rw [nV_len] at xl;rw [List.length_map,List.length_map] at xl x100;omega,fun r H3 s3 f3 h3=>?_⟩
  have ha3:=s3 _ _ ha2
  refine ⟨_,rfl,a,_,rfl,.inr (SqT.of ha3),fun r2 hr2=>?_⟩
  have s4:Same H3 (upd H3 r2 (.lst (nV T))):=(Same.refl H3).new hr2
  refine ⟨r,r2,_,_,rfl,rfl,SqL.of (s4 _ _ h3),SqL.of upd_same,nV_flat _,nV_flat _,?_⟩
  refine q _ _ ((s2.trans s3).trans s4) ?_
  rw [eqVs_nat,decide_eq_true_eq]
  exact ⟨fun e=>⟨T,rfl,hT,z0,e⟩,fun ⟨T',e,_,_,st⟩=>by injection e with e;rw [nats_inj e];exact st⟩
end
end S67
namespace S67
open PySem L2 W7
open W63 (Wr Wi enc dec star)
def StL (its:List W63.It) (T:List Nat):Prop:=(∀ s∈T,s≤its.length)∧0∈T∧stl its (fun s=>decide (s∈T)) (its.length+1)=T
abbrev stP (T:List Nat):PyData:=.tuple (T.map fun s:Nat=>.int (s:Int))
theorem std_iff {its:List W63.It} {d:PyData}:StD its d ↔ ∃ T,d=stP T∧StL its T:=⟨fun ⟨T,e,a,b,c⟩=>⟨T,e,a,b,c⟩,fun ⟨T,e,a,b,c⟩=>⟨T,e,a,b,c⟩⟩
theorem stp_inj {T T':List Nat} (h:stP T=stP T'):T=T':=by injection h with h;exact nats_inj h
def MarksL (its:List W63.It) (ups:List Int) (lab:List Nat) (Ts:List (List Nat)):Prop:=Ts.length=ups.length∧(∀ T∈Ts,StL its T)∧∀ p,0 < p→p < ups.length→∀ s∈byl its (Ts.getD p []) (lab.getD p 0),s∈Ts.getD (ups.getD p 0).toNat []
def MarksD (its:List W63.It) (ups:List Int) (lab:List Nat) (d:PyData):Prop:=∃ Ts:List (List Nat),d=.tuple (Ts.map stP)∧MarksL its ups lab Ts
def FewM (d:PyData):Prop:=∀ ds,d=.tuple ds→ds.length≤130∧∀ x∈ds,Few x
theorem all_st {its:List W63.It}:∀ {ds:List PyData},(∀ d∈ds,StD its d)→∃ Ts:List (List Nat),ds=Ts.map stP∧∀ T∈Ts,StL its T
  | [],_=>⟨[],rfl,fun _ h=>nomatch h⟩
  | d :: ds,h=>by
    obtain ⟨Ts,rfl,hT⟩:=all_st (ds:=ds) fun x hx=>h x (List.mem_cons_of_mem _ hx)
    obtain ⟨T,rfl,ht⟩:=std_iff.mp (h d List.mem_cons_self)
    exact ⟨T :: Ts,rfl,fun x hx=>(List.mem_cons.mp hx).elim (fun e=>e ▸ ht) (hT x)⟩
theorem marks_inj {Ts Ts':List (List Nat)} (h:Ts.map stP=Ts'.map stP):Ts=Ts':=(List.map_inj_right (fun a b h=>stp_inj h)).mp h
theorem marks_at {H:Hp} {xs:List V} {Ts:List (List Nat)} (h:Tds H xs (Ts.map stP)) {p:Nat} (hp:p < Ts.length):∃ a,xs[p]?=some (.ref a)∧H a=some (.tup (nV (Ts.getD p []))):=by
  have xl:=h.len
  rw [List.length_map] at xl
  have hx:xs[p]?=some xs[p]:=List.getElem?_eq_getElem (by omega)
  obtain ⟨d,e1,td⟩:=h.get hx
  rw [List.getElem?_map,List.getElem?_eq_getElem hp] at e1
  cases e1
  obtain ⟨a,ys,ds,e2,e3,ha,tds⟩:=isTup_ex td rfl
  have e4:ds=(Ts[p].map fun s:Nat=>(s:Int)).map PyData.int:=by injection e3 with e3;rw [← e3,List.map_map];rfl
  subst e4
  obtain ⟨us,e5,ex⟩:=wholes_ints tds (fun d hd=>by obtain ⟨i,_,rfl⟩:=List.mem_map.mp hd;rfl)
  have e6:us=Ts[p].map fun s:Nat=>(s:Int):=((List.map_inj_right (fun a b h=>by injection h)).mp e5).symm
  subst e6
  refine ⟨a,by rw [hx,e2],?_⟩
  rw [ha,ex,List.map_map,List.getD_eq_getElem?_getD,List.getElem?_eq_getElem hp];rfl
section
variable {P:Program} {w:World} {K:PySem.W.Frag} {mg:Str→Option Value} {base:Heap} {k:Nat}
def sp_ismk:Sp:=fun vs H Q _=>∃ (t l:Addr) (ups:List Int) (lab:Str) (its:List W63.It) (v:V) (d:PyData),vs=[.ref t,.ref l,v]∧TreeAt H t ups lab∧ItsAt H l its∧its.length≤40∧Td H v d∧FewM d∧∀ (b:Bool) (H':Hp),Same H H'→(b=true ↔ MarksD its ups lab.cps.toList d)→Q (.bl b) H'
theorem has_ismk (D:Df K mg "is_marks" s_is_marks) (B:Blt7 mg) (G_is_states:Has P w K mg base "is_states" k ["items", "thing"] sp_isst) (G_states_by:Has P w K mg base "states_by" k ["items", "states", "letter"] sp_sbyT):Has P w K mg base "is_marks" (k+1) ["tree", "items", "thing"] sp_ismk:=by
  refine D.has sc_is_marks (fun _ _ _ _ _ _ us hl=>match us,hl with | [_,_,_],_=>rfl) (fun vs H Q E h=>by obtain ⟨t,l,ups,lab,its,v,d,rfl,_⟩:=h;rfl) (fun f cdv A outer s H vs Q E hr h=>?_)
  obtain ⟨t,l,ups,lab,its,v,d,rfl,tr,it,l40,td,few,q⟩:=h
  refine ⟨_,(pss_cons (ps_if (PW.pt (pw_or (pt_not (pt_val (pe_callB call_isinst rfl B.isinstance bt_isinstance (pa_cons (pv 2) (pa_cons (pe_bltn (v:=.ty "tuple") rfl B.tuple_ bt_tuple rfl) pa_nil))))) (pw_or1 (pt_cmpR op_ne (pe_callB call_len_seq rfl B.len bt_len (pa_cons (pv 2) pa_nil)) (pe_callB call_len_str rfl B.len bt_len (pa_cons (pe_ix ix_tup (pv 0) pe_int (fun _ _=>rfl)) pa_nil)) (nomark _)))))
  (pss_one (ps_ret pe_bl))
  pss_nil)
  (pss_cons (ps_if (pt_not (pt_val (pe_callB (call_all rfl) rfl B.all bt_all (pa_cons (pe_comp rfl (pi_tup (pv 2)) (NL:=["part"]) (ix:=[1]) (csc (defScope s_is_marks) N_is_marks) (fun cl C s₃ H₃ fp pins=>⟨(pg_name (i:=0) (show List.Nodup (["part", "items"]:List Str) from by decide +kernel) rfl (by first | exact Or.inl rfl | exact Or.inr rfl)),pifs_nil,(pe_callH G_is_states hr rfl (pa_cons (pv 1) (pa_cons (pv 0) pa_nil)))⟩)) pa_nil))))
  (pss_one (ps_ret pe_bl))
  pss_nil)
  (pss_cons (ps_for PassesOwn.never rfl (pi_range2 rfl B.range (pa_cons pe_int (pa_cons (pe_callB call_len_seq rfl B.len bt_len (pa_cons (pv 2) pa_nil)) pa_nil))) (pg_name (i:=3) sc_is_marks.nd rfl (by first | exact Or.inl rfl | exact Or.inr rfl))
  (pss_cons (ps_set (i:=4) sc_is_marks.nd rfl (by first | exact Or.inl rfl | exact Or.inr rfl) (pe_ix ix_tup (pv 2) (pe_ix ix_tup (pe_ix ix_tup (pv 0) pe_int (fun _ _=>rfl)) (pv 3) (fun _ _=>rfl)) (fun _ _=>rfl)))
  (pss_one (ps_if (pt_not (pt_val (pe_callB (call_all rfl) rfl B.all bt_all (pa_cons (pe_comp rfl (pi_list (pe_callH G_states_by hr rfl (pa_cons (pv 1) (pa_cons (pe_ix ix_tup (pv 2) (pv 3) (fun _ _=>rfl)) (pa_cons (pe_ix ix_str (pe_ix ix_tup (pv 0) pe_int (fun _ _=>rfl)) (pv 3) (fun _ _=>rfl)) pa_nil))))) (NL:=["state"]) (ix:=[4]) (csc (defScope s_is_marks) N_is_marks) (fun cl C s₃ H₃ fp pins=>⟨(pg_name (i:=0) (show List.Nodup (["state", "above"]:List Str) from by decide +kernel) rfl (by first | exact Or.inl rfl | exact Or.inr rfl)),pifs_nil,(pe_cmpR (op_in_seqK K) (pv 0) (pv 1) (by with_unfolding_all rfl))⟩)) pa_nil))))
  (pss_one (ps_ret pe_bl))
  pss_nil))))
  (pss_one (ps_ret pe_bl))))),?_⟩
  have no:¬ MarksD its ups lab.cps.toList d→(false=true ↔ MarksD its ups lab.cps.toList d):=fun n=>⟨(fun z=>by cases z),fun z=>absurd z n⟩
  obtain ⟨u,ht,hu,tok⟩:=id tr
  have m60:=tok.most
  have tl:=tok.len
  have ll:lab.length=ups.length:=by
    have:lab.cps.toList.length=lab.length:=Array.length_toList
    omega
  obtain ⟨t1,a1,a2⟩:=td_tup (K:=K) td
  refine ⟨_,rfl,_,t1, "tuple", _,rfl,a1,a2,_,rfl,?_⟩
  by_cases ct:isTupD d=true
  rotate_left
  · refine iteA (by rw [Bool.eq_false_iff.mpr ct];rfl) ?_
    exact q false H (Same.refl H) (no fun ⟨Ts,e,_⟩=>ct (by rw [e];rfl))
  refine L2.iteB (by rw [ct];rfl) ?_
  obtain ⟨a,xs,ds,rfl,rfl,ha,tds⟩:=isTup_ex td ct
  have xl:=tds.len
  obtain ⟨x100,fx⟩:=few ds rfl
  refine ⟨_,rfl,a,_,rfl,.inr (SqT.of ha),_,rfl,t,_,_,_,rfl,rfl,SqT.of ht,rfl,lab,rfl,line_le (by omega),rfl,_,rfl,?_⟩
  by_cases cl:xs.length=lab.length
  rotate_left
  · refine iteA (by simp;omega) ?_
    exact q false H (Same.refl H) (no fun ⟨Ts,e,l,_⟩=>cl (by injection e with e;rw [xl,e,List.length_map,l,ll]))
  refine L2.iteB (by rw [cl];simp) ?_
  refine ⟨_,rfl,a,rfl,⟨_,SqT.of ha⟩,fun ac hac=>?_⟩
  refine comp_tupl (K:=K) (a:=a) (xs:=xs) (by omega) (fun i ys HX=>HX ac=some (.lst ys)∧Same H HX∧∃ bs:List Bool,ys=bs.map V.bl∧bs.length=i∧∀ (j:Nat) (b:Bool) (kd:PyData),bs[j]?=some b→ds[j]?=some kd→(b=true ↔ StD its kd))
    (fun i ys HX h=>SqT.of (h.2.1 _ _ ha)) (fun i ys HX h=>⟨h.1,by obtain ⟨_,_,bs,rfl,l,_⟩:=h;rw [List.length_map,l];exact Nat.le_refl _⟩) ⟨upd_same,(Same.refl H).new hac,[],rfl,rfl,fun j b kd e=>nomatch e⟩ ?_ ?_
  rotate_left
  · rintro i x ys HX hx ⟨g1,g2,bs,rfl,bl,hb⟩
    obtain ⟨kd,e1,td2⟩:=tds.get hx
    refine ⟨rfl,_,rfl,_,rfl,l,its,x,kd,rfl,it.same g2,l40,td2.same g2,fx kd (List.mem_of_getElem? e1),fun b H3 s3 hb3=>?_⟩
    refine ⟨s3 _ _ g1,upd_same,(g2.trans s3).write hac,bs++[b],by rw [List.map_append];rfl,by rw [List.length_append,bl];rfl,fun j b' kd' eb ek=>?_⟩
    rcases Nat.lt_or_ge j bs.length with l | l
    · rw [List.getElem?_append_left l] at eb
      exact hb j b' kd' eb ek
    · rw [List.getElem?_append_right l] at eb
      have ej:j=i:=by
        have:=(List.getElem?_eq_some_iff.mp eb).1
        simp at this
        omega
      subst ej
      rw [bl,Nat.sub_self] at eb
      rw [e1] at ek
      cases eb;cases ek
      exact hb3
  rintro ys H2 ⟨g1,s2,bs,rfl,bl,hb⟩
  refine ⟨ac,_,rfl,SqL.of g1,_,rfl,?_⟩
  by_cases cb:(bs.all id)=true
  rotate_left
  · refine iteA (by rw [Bool.eq_false_iff.mpr cb];rfl) ?_
    refine q false H2 s2 (no fun ⟨Ts,e,_,st,_⟩=>cb (List.all_eq_true.mpr fun b hbm=>?_))
    injection e with e
    subst e
    obtain ⟨j,hj,ej⟩:=List.getElem_of_mem hbm
    have jl:j < Ts.length:=by rw [List.length_map] at xl;omega
    exact (hb j b (stP Ts[j]) (by rw [List.getElem?_eq_getElem hj,ej]) (by rw [List.getElem?_map,List.getElem?_eq_getElem jl];rfl)).mpr (std_iff.mpr ⟨_,rfl,st _ (List.getElem_mem jl)⟩)
  refine L2.iteB (by rw [cb];rfl) ?_
  obtain ⟨Ts,rfl,hTs⟩:=all_st (its:=its) (ds:=ds) fun d hd=>by
    obtain ⟨j,hj,ej⟩:=List.getElem_of_mem hd
    have jb:j < bs.length:=by omega
    exact (hb j bs[j] d (List.getElem?_eq_getElem jb) (by rw [List.getElem?_eq_getElem hj,ej])).mp (List.all_eq_true.mp cb _ (List.getElem_mem jb))
  rw [List.length_map] at xl
  have ha2:=s2 _ _ ha
  have tds2:=tds.same s2
  refine ⟨_,rfl,a,_,rfl,.inr (SqT.of ha2),_,_,rfl,⟨by decide,by decide,by omega,by omega⟩,?_⟩
  have en:(((xs.length:Nat):Int) - 1).toNat=xs.length - 1:=by omega
  rw [en]
  refine for_range (lo:=1) (n:=xs.length - 1) (fun i σ HX=>∃ o3 o4:Option V,σ=[some (.ref t),some (.ref l),some (.ref a),o3,o4]∧Same H2 HX∧∀ p,0 < p→p < 1+i→∀ s∈byl its (Ts.getD p []) (lab.cps.toList.getD p 0),s∈Ts.getD (ups.getD p 0).toNat []) ⟨none,none,rfl,Same.refl H2,fun p h0 h1=>by omega⟩ ?_ ?_
  rotate_left
  · rintro σ HX ⟨o3,o4,rfl,sX,hk⟩
    exact q true HX (s2.trans sX) ⟨fun _=>⟨Ts,rfl,by omega,hTs,fun p p0 hp=>hk p p0 (by omega)⟩,fun _=>rfl⟩
  rintro i σ HX hi ⟨o3,o4,rfl,sX,hk⟩
  obtain ⟨p,ep⟩:∃ p:Nat,p=1+i:=⟨_,rfl⟩
  have ei:(1:Int)+(i:Int)=(p:Int):=by omega
  rw [ei]
  have pn:p < ups.length:=by omega
  have up:=tok.up p (by omega) pn
  have sH:=s2.trans sX
  have htX:=sH _ _ ht
  have huX:=sH _ _ hu
  have haX:=sH _ _ ha
  have tdX:=tds.same sH
  obtain ⟨ap,eap,hap⟩:=marks_at tdX (p:=p) (by omega)
  obtain ⟨ab,eab,hab⟩:=marks_at tdX (p:=(ups.getD p 0).toNat) (by omega)
  have atU:=ints_at (us:=ups) (i:=(p:Int)) (by omega) (by omega)
  rw [Int.toNat_natCast] at atU
  have atA:atI xs (ups.getD p 0)=some (.ref ab):=by
    have:=atI_nat eab
    rw [show (((ups.getD p 0).toNat:Nat):Int)=ups.getD p 0 by omega] at this
    exact this
  have atP:=atI_nat eap
  have pl:p < lab.cps.toList.length:=by omega
  have atL:=atI_nat (xs:=lab.cps.toList) (j:=p) (v:=lab.cps.toList.getD p 0) (by rw [List.getD_eq_getElem?_getD,List.getElem?_eq_getElem pl];rfl)
  have stp:=hTs (Ts.getD p []) (by rw [List.getD_eq_getElem?_getD,List.getElem?_eq_getElem (by omega)];exact List.getElem_mem _)
  have tlen:(Ts.getD p []).length≤41:=by
    have:=stl_le its (fun s=>decide (s∈Ts.getD p [])) (its.length+1)
    rw [stp.2.2] at this
    omega
  refine ⟨_,rfl,_,rfl,t,_,_,_,rfl,rfl,SqT.of htX,rfl,_,rfl,u,_,_,_,rfl,rfl,SqT.of huX,atU,a,_,_,_,rfl,rfl,SqT.of haX,atA,?_⟩
  refine ⟨_,rfl,_,rfl,_,rfl,a,_,_,_,rfl,rfl,SqT.of haX,atP,_,rfl,t,_,_,_,rfl,rfl,SqT.of htX,rfl,_,rfl,_,_,_,rfl,rfl,line_le (by omega),atL,l,ap,its,Ts.getD p [],lab.cps.toList.getD p 0,rfl,it.same sH,l40,hap,tlen,fun r H3 s3 f3 h3=>?_⟩
  have hab3:=s3 _ _ hab
  have byle:(byl its (Ts.getD p []) (lab.cps.toList.getD p 0)).length≤41:=by
    unfold byl
    rw [List.length_map]
    exact Nat.le_trans (List.length_filter_le _ _) tlen
  refine ⟨r,rfl,⟨_,SqL.of h3⟩,fun ac2 hac2=>?_⟩
  refine comp_lst (K:=K) (a:=r) (xs:=nV (byl its (Ts.getD p []) (lab.cps.toList.getD p 0))) (by rw [nV_len];omega) (fun j ys HY=>HY ac2=some (.lst ys)∧Same H3 HY∧ys=(((byl its (Ts.getD p []) (lab.cps.toList.getD p 0)).take j).map fun s=>decide (s∈Ts.getD (ups.getD p 0).toNat [])).map V.bl)
    (fun j ys HY h=>SqL.of (h.2.1 _ _ h3)) (fun j ys HY h=>⟨h.1,by rw [h.2.2,List.length_map,List.length_map,List.length_take];exact Nat.min_le_left _ _⟩) ⟨upd_same,(Same.refl H3).new hac2,rfl⟩ ?_ ?_
  rotate_left
  · rintro j x ys HY hx ⟨g1,g2,rfl⟩
    have jl:j < (byl its (Ts.getD p []) (lab.cps.toList.getD p 0)).length:=by have:=(List.getElem?_eq_some_iff.mp hx).1;rwa [nV_len] at this
    have hL:(byl its (Ts.getD p []) (lab.cps.toList.getD p 0))[j]?=some ((byl its (Ts.getD p []) (lab.cps.toList.getD p 0))[j]):=List.getElem?_eq_getElem jl
    generalize (byl its (Ts.getD p []) (lab.cps.toList.getD p 0))[j]=s at hL
    have ex:x=.int (s:Int):=by
      unfold nV at hx
      rw [List.getElem?_map,hL] at hx
      exact (Option.some.inj hx).symm
    subst ex
    refine ⟨rfl,_,rfl,_,rfl,ab,_,rfl,.inr (SqT.of (g2 _ _ hab3)),rfl,nV_flat _,?_⟩
    rw [show (if false=true then !inV (V.int (s:Int)) (nV (Ts.getD (ups.getD p 0).toNat [])) else inV (V.int (s:Int)) (nV (Ts.getD (ups.getD p 0).toNat [])))=decide (s∈Ts.getD (ups.getD p 0).toNat []) from inV_nat _ _]
    refine ⟨g1,upd_same,g2.write hac2,?_⟩
    rw [List.take_succ,hL,List.map_append,List.map_append];rfl
  rintro ys H4 ⟨g1',s4,rfl⟩
  rw [nV_len,List.take_length] at g1'
  refine ⟨ac2,_,rfl,SqL.of g1',_,rfl,?_⟩
  rw [List.all_map]
  have sF:=(sX.trans s3).trans s4
  by_cases cc:((byl its (Ts.getD p []) (lab.cps.toList.getD p 0)).all (id ∘ fun s=>decide (s∈Ts.getD (ups.getD p 0).toNat [])))=true
  · refine L2.iteB (by rw [cc];rfl) ⟨_,_,rfl,sF,fun p' h0 h1 s hs=>?_⟩
    rcases Nat.lt_or_ge p' p with l | l
    · exact hk p' h0 (by omega) s hs
    · have:p'=p:=by omega
      subst this
      exact of_decide_eq_true (List.all_eq_true.mp cc s hs)
  · refine iteA (by rw [Bool.eq_false_iff.mpr cc];rfl) ?_
    refine q false H4 (s2.trans sF) (no fun ⟨Ts',e,_,_,hm⟩=>cc (List.all_eq_true.mpr fun s hs=>decide_eq_true ?_))
    have:Ts=Ts':=by injection e with e;exact marks_inj e
    subst this
    exact hm p (by omega) pn s hs
end
end S67
namespace S67
open PySem L2 W7
open W63 (Wr Wi enc dec star)
def rootL (its:List W63.It) (lab:List Nat) (Ts:List (List Nat)):List Nat:=stl its (fun s=>decide (s∈byl its (Ts.getD 0 []) (lab.getD 0 0))) (its.length+1)
def OpenL (its:List W63.It) (lab:List Nat) (Ts:List (List Nat)):Prop:=(∀ T∈Ts,its.length ∉ T)∧its.length ∉ rootL its lab Ts
def ShownD (its:List W63.It) (ups:List Int) (lab:List Nat) (d:PyData):Prop:=∃ Ts:List (List Nat),d=.tuple (Ts.map stP)∧MarksL its ups lab Ts∧OpenL its lab Ts
theorem marks_len {its:List W63.It} {ups:List Int} {lab:List Nat} {Ts:List (List Nat)} (h:MarksL its ups lab Ts) {p:Nat} (hp:p < ups.length):(Ts.getD p []).length≤its.length+1:=by
  have stp:=h.2.1 (Ts.getD p []) (by rw [List.getD_eq_getElem?_getD,List.getElem?_eq_getElem (by have:=h.1;omega)];exact List.getElem_mem _)
  have:=stl_le its (fun s=>decide (s∈Ts.getD p [])) (its.length+1)
  rw [stp.2.2] at this
  exact this
section
variable {P:Program} {w:World} {K:PySem.W.Frag} {mg:Str→Option Value} {base:Heap} {k:Nat}
def sp_never:Sp:=fun vs H Q _=>∃ (t l a:Addr) (ups:List Int) (lab:Str) (its:List W63.It) (xs:List V) (Ts:List (List Nat)),vs=[.ref t,.ref l,.ref a]∧TreeAt H t ups lab∧ItsAt H l its∧its.length≤40∧H a=some (.tup xs)∧Tds H xs (Ts.map stP)∧MarksL its ups lab.cps.toList Ts ∧
  ∀ (b:Bool) (H':Hp),Same H H'→(b=true ↔ OpenL its lab.cps.toList Ts)→Q (.bl b) H'
theorem has_never (D:Df K mg "is_never_done" s_is_never_done) (B:Blt7 mg) (G_states_with:Has P w K mg base "states_with" k ["items", "states"] sp_swith) (G_states_by:Has P w K mg base "states_by" k ["items", "states", "letter"] sp_sbyT):Has P w K mg base "is_never_done" (k+1) ["tree", "items", "marks"] sp_never:=by
  refine D.has sc_is_never_done (fun _ _ _ _ _ _ us hl=>match us,hl with | [_,_,_],_=>rfl) (fun vs H Q E h=>by obtain ⟨t,l,a,ups,lab,its,xs,Ts,rfl,_⟩:=h;rfl) (fun f cdv A outer s H vs Q E hr h=>?_)
  obtain ⟨t,l,a,ups,lab,its,xs,Ts,rfl,tr,it,l40,ha,tds,mk,q⟩:=h
  refine ⟨_,(pss_cons (ps_set (i:=3) sc_is_never_done.nd rfl (by first | exact Or.inl rfl | exact Or.inr rfl) (pe_callH G_states_with hr rfl (pa_cons (pv 1) (pa_cons (pe_callH G_states_by hr rfl (pa_cons (pv 1) (pa_cons (pe_ix ix_tup (pv 2) pe_int (fun _ _=>rfl)) (pa_cons (pe_ix ix_str (pe_ix ix_tup (pv 0) pe_int (fun _ _=>rfl)) pe_int (fun _ _=>rfl)) pa_nil)))) pa_nil))))
  (pss_one (ps_ret (pe_callB (call_all rfl) rfl B.all bt_all (pa_cons (pe_comp rfl (pi_list (pe_op op_cat (pe_callTy call_list_of rfl B.list_ bt_list (pa_cons (pv 2) pa_nil)) (pe_lst (pa_cons (pv 3) pa_nil)))) (NL:=["states"]) (ix:=[1]) (csc (defScope s_is_never_done) N_is_never_done) (fun cl C s₃ H₃ fp pins=>⟨(pg_name (i:=0) (show List.Nodup (["states", "items"]:List Str) from by decide +kernel) rfl (by first | exact Or.inl rfl | exact Or.inr rfl)),pifs_nil,(pe_cmpR (op_notIn_seqK K) (pe_callB (call_len_seqK K) rfl B.len bt_len (pa_cons (pv 1) pa_nil)) (pv 0) (by with_unfolding_all rfl))⟩)) pa_nil))))),?_⟩
  obtain ⟨u,ht,hu,tok⟩:=id tr
  have m60:=tok.most
  have tl:=tok.len
  have lpos:=tok.pos
  have xl:=tds.len
  rw [List.length_map,mk.1] at xl
  obtain ⟨ivs,hiv,ivl,_⟩:=id it
  have ll:lab.cps.toList.length=lab.length:=Array.length_toList
  obtain ⟨a0,ea0,ha0⟩:=marks_at tds (p:=0) (by rw [mk.1];omega)
  have at0:=atI_nat ea0
  have tlen:=marks_len mk lpos
  have atL:=atI_nat (xs:=lab.cps.toList) (j:=0) (v:=lab.cps.toList.getD 0 0) (by rw [List.getD_eq_getElem?_getD,List.getElem?_eq_getElem (by omega)];rfl)
  refine ⟨_,rfl,_,rfl,_,rfl,a,_,_,_,rfl,rfl,SqT.of ha,at0,_,rfl,t,_,_,_,rfl,rfl,SqT.of ht,rfl,_,_,_,rfl,rfl,line_le (by omega),atL,l,a0,its,Ts.getD 0 [],lab.cps.toList.getD 0 0,rfl,it,l40,ha0,by omega,fun r1 H1 s1 f1 h1=>?_⟩
  have byle:(byl its (Ts.getD 0 []) (lab.cps.toList.getD 0 0)).length≤41:=by
    unfold byl
    rw [List.length_map]
    exact Nat.le_trans (List.length_filter_le _ _) (by omega)
  refine ⟨l,r1,its,_,rfl,it.same s1,l40,h1,by omega,fun r2 H2 s2 f2 h2=>?_⟩
  have s02:=s1.trans s2
  refine ⟨_,rfl,a,_,rfl,.inr (SqT.of (s02 _ _ ha)),fun r3 hr3=>?_⟩
  generalize hJ:upd H2 r3 _=J3
  have s3:Same H2 J3:=by rw [← hJ];exact (Same.refl H2).new hr3
  have g3:J3 r3=some (.lst xs):=by rw [← hJ];exact upd_same
  clear hJ
  refine ⟨_,rfl,line_le (show 1≤1000 by omega),fun r4 hr4=>?_⟩
  generalize hJ:upd J3 r4 _=J4
  have s4:Same J3 J4:=by rw [← hJ];exact (Same.refl J3).new hr4
  have g4:J4 r4=some (.lst [.ref r2]):=by rw [← hJ];exact upd_same
  clear hJ
  refine ⟨r3,r4,_,_,rfl,rfl,s4 _ _ g3,g4,line_le (by show xs.length+1≤1000;omega),fun r5 hr5=>?_⟩
  generalize hJ:upd J4 r5 _=J5
  have s5:Same J4 J5:=by rw [← hJ];exact (Same.refl J4).new hr5
  have g5:J5 r5=some (.lst (xs++[.ref r2])):=by rw [← hJ];exact upd_same
  clear hJ
  have sJ:=(s3.trans s4).trans s5
  have s05:=s02.trans sJ
  have h25:=sJ _ _ h2
  have tds5:=tds.same s05
  refine ⟨r5,rfl,⟨_,SqL.of g5⟩,fun ac hac=>?_⟩
  refine comp_lst (K:=K) (a:=r5) (xs:=xs++[.ref r2]) (by rw [List.length_append,List.length_singleton];omega) (fun j ys HY=>HY ac=some (.lst ys)∧Same J5 HY∧ys=(((Ts++[rootL its lab.cps.toList Ts]).take j).map fun T=>!decide (its.length∈T)).map V.bl)
    (fun j ys HY h=>SqL.of (h.2.1 _ _ g5)) (fun j ys HY h=>⟨h.1,by rw [h.2.2,List.length_map,List.length_map,List.length_take];exact Nat.min_le_left _ _⟩) ⟨upd_same,(Same.refl J5).new hac,rfl⟩ ?_ ?_
  rotate_left
  · rintro j x ys HY hx ⟨g1,g2,rfl⟩
    obtain ⟨T,ad,eT,rfl,hsq⟩:∃ (T:List Nat) (ad:Addr),(Ts++[rootL its lab.cps.toList Ts])[j]?=some T∧x=.ref ad∧(SqL K HY ad (nV T)∨SqT K HY ad (nV T)):=by
      rcases Nat.lt_or_ge j xs.length with lt | ge
      · rw [List.getElem?_append_left lt] at hx
        obtain ⟨ad,e1,e2⟩:=marks_at tds5 (p:=j) (by rw [mk.1];omega)
        rw [hx] at e1
        cases e1
        refine ⟨Ts.getD j [],ad,?_,rfl,.inr (SqT.of (g2 _ _ e2))⟩
        have jl:j < Ts.length:=by rw [mk.1];omega
        rw [List.getElem?_append_left jl,List.getElem?_eq_getElem jl,List.getD_eq_getElem?_getD,List.getElem?_eq_getElem jl];rfl
      · rw [List.getElem?_append_right ge] at hx
        have j0:j - xs.length=0:=by
          have:=(List.getElem?_eq_some_iff.mp hx).1
          simp at this
          omega
        rw [j0] at hx
        cases hx
        refine ⟨rootL its lab.cps.toList Ts,r2,?_,rfl,.inl (SqL.of (g2 _ _ h25))⟩
        rw [List.getElem?_append_right (by rw [mk.1];omega),show j - Ts.length=0 by rw [mk.1];omega];rfl
    refine ⟨rfl,_,rfl,l,_,rfl,.inl (SqL.of (g2 _ _ (s05 _ _ hiv))),_,rfl,ad,_,rfl,hsq,rfl,nV_flat _,?_⟩
    rw [ivl,show (if true=true then !inV (V.int (its.length:Int)) (nV T) else inV (V.int (its.length:Int)) (nV T))=!decide (its.length∈T) by rw [if_pos rfl,inV_nat]]
    refine ⟨g1,upd_same,g2.write hac,?_⟩
    rw [List.take_succ,eT,List.map_append,List.map_append];rfl
  rintro ys H6 ⟨g1,s6,rfl⟩
  rw [show (xs++[V.ref r2]).length=(Ts++[rootL its lab.cps.toList Ts]).length by rw [List.length_append,List.length_append,xl,mk.1];rfl,List.take_length] at g1
  refine ⟨ac,_,rfl,SqL.of g1,?_⟩
  refine q _ H6 (s05.trans s6) ?_
  rw [List.all_map,List.all_eq_true]
  constructor
  · intro h
    have h':∀ T∈Ts++[rootL its lab.cps.toList Ts],its.length ∉ T:=fun T hT=>by
      have:=h T hT
      simpa using this
    exact ⟨fun T hT=>h' T (List.mem_append_left _ hT),h' _ (by simp)⟩
  · rintro ⟨h1',h2'⟩ T hT
    have:its.length ∉ T:=(List.mem_append.mp hT).elim (h1' T) fun z=>by rw [List.mem_singleton.mp z];exact h2'
    simpa using this
def sp_show:Sp:=fun vs H Q _=>∃ (t:Addr) (ups:List Int) (lab:Str) (xs:List Wi) (v:V) (d:PyData),vs=[.ref t,.str (mk (enc xs)),v]∧TreeAt H t ups lab∧(∀ x∈xs,x.1.Ok)∧(enc xs).length≤40∧xs.length≤40∧Td H v d∧FewM d ∧
  ∀ (b:Bool) (H':Hp),Same H H'→(b=true ↔ ShownD (dec xs) ups lab.cps.toList d)→Q (.bl b) H'
theorem has_show (D:Df K mg "marks_show" s_marks_show) (B:Blt7 mg) (G_items_of:Has P w K mg base "items_of" k ["pattern"] sp_items) (G_is_marks:Has P w K mg base "is_marks" k ["tree", "items", "thing"] sp_ismk) (G_is_never_done:Has P w K mg base "is_never_done" k ["tree", "items", "marks"] sp_never):Has P w K mg base "marks_show" (k+1) ["tree", "pattern", "thing"] sp_show:=by
  refine D.has sc_marks_show (fun _ _ _ _ _ _ us hl=>match us,hl with | [_,_,_],_=>rfl) (fun vs H Q E h=>by obtain ⟨t,ups,lab,xs,v,d,rfl,_⟩:=h;rfl) (fun f cdv A outer s H vs Q E hr h=>?_)
  obtain ⟨t,ups,lab,xs,v,d,rfl,tr,ok,l40,x40,td,few,q⟩:=h
  refine ⟨_,(pss_cons (ps_set (i:=3) sc_marks_show.nd rfl (by first | exact Or.inl rfl | exact Or.inr rfl) (pe_callH G_items_of hr rfl (pa_cons (pv 1) pa_nil)))
  (pss_one (ps_ret (pe_and (pe_callH G_is_marks hr rfl (pa_cons (pv 0) (pa_cons (pv 3) (pa_cons (pv 2) pa_nil)))) (pe_one (pe_callH G_is_never_done hr rfl (pa_cons (pv 0) (pa_cons (pv 3) (pa_cons (pv 2) pa_nil))))))))),?_⟩
  have dl:=W63.dec_len xs
  refine ⟨_,rfl,xs,rfl,ok,l40,fun li H1 s1 f1 it=>?_⟩
  refine ⟨_,rfl,_,rfl,_,rfl,t,li,ups,lab,dec xs,v,d,rfl,tr.same s1,it,by omega,td.same s1,few,fun b H2 s2 hb=>⟨_,rfl,?_⟩⟩
  cases b with
  | false=>
    refine iteF ?_
    exact q false H2 (s1.trans s2) ⟨(fun z=>by cases z),fun ⟨Ts,e,m,_⟩=>hb.mpr ⟨Ts,e,m⟩⟩
  | true=>
    refine iteT ?_
    obtain ⟨Ts,e,m⟩:=hb.mp rfl
    subst e
    obtain ⟨a,ys,ds,rfl,e2,ha,tds⟩:=isTup_ex (td.same (s1.trans s2)) rfl
    have e3:Ts.map stP=ds:=by injection e2
    subst e3
    refine ⟨_,rfl,_,rfl,_,rfl,t,li,a,ups,lab,dec xs,ys,Ts,rfl,(tr.same s1).same s2,it.same s2,by omega,ha,tds,m,fun b H3 s3 hb3=>?_⟩
    refine q b H3 ((s1.trans s2).trans s3) (hb3.trans ⟨fun o=>⟨Ts,rfl,m,o⟩,fun ⟨Ts',e4,_,o⟩=>?_⟩)
    have:Ts=Ts':=by injection e4 with e4;exact marks_inj e4
    subst this
    exact o
end
end S67
namespace S67
open PySem L2 W7
open W63 (Wr Wi enc dec star)
def LSt (its:List W63.It) (d:PyData):Prop:=∃ T:List Nat,d=stP T∧StL its T∧its.length ∉ T
theorem byl_le {its:List W63.It} {T:List Nat} {c s:Nat} (h:s∈byl its T c):s≤its.length:=by
  obtain ⟨r,_,h1,_,e⟩:=byl_mem.mp h
  split at e <;> omega
theorem stl_sub {its:List W63.It} {A U:List Nat} (hU:stl its (fun s=>decide (s∈U)) (its.length+1)=U) (h:∀ s∈A,s∈U):∀ s∈stl its (fun s=>decide (s∈A)) (its.length+1),s∈U:=fun s hs=>by
  obtain ⟨h1,h2⟩:=stl_mem.mp hs
  rw [← hU]
  exact stl_mem.mpr ⟨h1,W66.cl_mono s (fun r _ hr=>decide_eq_true (h r (of_decide_eq_true hr))) h2⟩
theorem sub_stl {its:List W63.It} {A:List Nat} (h:∀ s∈A,s≤its.length):∀ s∈A,s∈stl its (fun s=>decide (s∈A)) (its.length+1):=fun s hs=>stl_mem.mpr ⟨by have:=h s hs;omega,W66.cl_of (decide_eq_true hs)⟩
theorem all_lst {its:List W63.It}:∀ {ds:List PyData},(∀ d∈ds,LSt its d)→∃ Ts:List (List Nat),ds=Ts.map stP∧∀ T∈Ts,StL its T∧its.length ∉ T
  | [],_=>⟨[],rfl,fun _ h=>nomatch h⟩
  | d :: ds,h=>by
    obtain ⟨Ts,rfl,hT⟩:=all_lst (ds:=ds) fun x hx=>h x (List.mem_cons_of_mem _ hx)
    obtain ⟨T,rfl,ht⟩:=h d List.mem_cons_self
    exact ⟨T :: Ts,rfl,fun x hx=>(List.mem_cons.mp hx).elim (fun e=>e ▸ ht) (hT x)⟩
section
variable {P:Program} {w:World} {K:PySem.W.Frag} {mg:Str→Option Value} {base:Heap} {k:Nat}
def sp_lisst:Sp:=fun vs H Q _=>∃ (l:Addr) (xs:List Wi) (v:V) (d:PyData),vs=[.ref l,v]∧LIts H l xs∧xs.length≤40∧Td H v d∧Few d∧∀ (b:Bool) (H':Hp),Same H H'→(b=true ↔ LSt (dec xs) d)→Q (.bl b) H'
def sp_lshown:Sp:=fun vs H Q _=>∃ (t l:Addr) (ups:List Int) (lab:Str) (xs:List Wi) (v:V) (d:PyData),vs=[.ref t,.ref l,v]∧TreeAt H t ups lab∧LIts H l xs∧xs.length≤40∧Td H v d∧FewM d∧∀ (b:Bool) (H':Hp),Same H H'→(b=true ↔ ShownD (dec xs) ups lab.cps.toList d)→Q (.bl b) H'
theorem has_lshown (D:Df K mg "_law_shown" s_law_shown) (B:Blt7 mg) (G_law_is_states:Has P w K mg base "_law_is_states" k ["items_here", "thing"] sp_lisst) (G_law_beyond:Has P w K mg base "_law_beyond" k ["items_here", "states", "sign"] sp_beyondT):Has P w K mg base "_law_shown" (k+1) ["tree_here", "items_here", "thing"] sp_lshown:=by
  refine D.has sc_law_shown (fun _ _ _ _ _ _ us hl=>match us,hl with | [_,_,_],_=>rfl) (fun vs H Q E h=>by obtain ⟨t,l,ups,lab,xs,v,d,rfl,_⟩:=h;rfl) (fun f cdv A outer s H vs Q E hr h=>?_)
  obtain ⟨t,l,ups,lab,its,v,d,rfl,tr,it,l40,td,few,q⟩:=h
  refine ⟨_,(pss_cons (ps_if (PW.pt (pw_or (pt_not (pt_val (pe_callB call_isinst rfl B.isinstance bt_isinstance (pa_cons (pv 2) (pa_cons (pe_bltn (v:=.ty "tuple") rfl B.tuple_ bt_tuple rfl) pa_nil))))) (pw_or1 (pt_cmpR op_ne (pe_callB call_len_seq rfl B.len bt_len (pa_cons (pv 2) pa_nil)) (pe_callB call_len_seq rfl B.len bt_len (pa_cons (pe_ix ix_tup (pv 0) pe_int (fun _ _=>rfl)) pa_nil)) (nomark _)))))
  (pss_one (ps_ret pe_bl))
  pss_nil)
  (pss_cons (ps_if (pt_cmpR (op_ne_nil hr.units0) (pe_comp rfl (pi_tup (pv 2)) (NL:=["one"]) (ix:=[1]) (csc (defScope s_law_shown) N_law_shown) (fun cl C s₃ H₃ fp pins=>⟨(pg_name (i:=0) (show List.Nodup (["one", "items_here"]:List Str) from by decide +kernel) rfl (by first | exact Or.inl rfl | exact Or.inr rfl)),(pifs_one (pt_not (pt_val (pe_callH G_law_is_states hr rfl (pa_cons (pv 1) (pa_cons (pv 0) pa_nil)))))),(pv 0)⟩)) (pe_lst pa_nil) (nomark _))
  (pss_one (ps_ret pe_bl))
  pss_nil)
  (pss_cons (ps_for PassesOwn.never rfl (pi_enum rfl B.enumerate (pa_cons (pe_ix ix_tup (pv 0) pe_int (fun _ _=>rfl)) pa_nil)) (pg_tup rfl (pgs_cons (pg_name (i:=3) sc_law_shown.nd rfl (by first | exact Or.inl rfl | exact Or.inr rfl)) (pgs_cons (pg_name (i:=4) sc_law_shown.nd rfl (by first | exact Or.inl rfl | exact Or.inr rfl)) pgs_nil)))
  (pss_cons (ps_set (i:=5) sc_law_shown.nd rfl (by first | exact Or.inl rfl | exact Or.inr rfl) (pe_callH G_law_beyond hr rfl (pa_cons (pv 1) (pa_cons (pe_ix ix_tup (pv 2) (pv 3) (fun _ _=>rfl)) (pa_cons (pe_ix ix_str (pe_ix ix_tup (pv 0) pe_int (fun _ _=>rfl)) (pv 3) (fun _ _=>rfl)) pa_nil)))))
  (pss_cons (ps_if (PW.pt (pw_and (pt_cmpR op_lt (pv 4) pe_int (nomark _)) (pw_and1 (pt_cmpR op_in_seq (pe_callB call_len_seq rfl B.len bt_len (pa_cons (pv 1) pa_nil)) (pv 5) (by with_unfolding_all rfl)))))
  (pss_one (ps_ret pe_bl))
  pss_nil)
  (pss_one (ps_if (PW.pt (pw_and (pt_cmpR op_ge (pv 4) pe_int (nomark _)) (pw_and1 (pt_cmpR (op_ne_nil hr.units0) (pe_comp rfl (pi_list (pv 5)) (NL:=["state"]) (ix:=[2,4]) (csc (defScope s_law_shown) N_law_shown) (fun cl C s₃ H₃ fp pins=>⟨(pg_name (i:=0) (show List.Nodup (["state", "thing", "above"]:List Str) from by decide +kernel) rfl (by first | exact Or.inl rfl | exact Or.inr rfl)),(pifs_one (pt_cmpR (op_notIn_seqK K) (pv 0) (pe_ix (ix_tupK K) (pv 1) (pv 2) (fun _ _=>rfl)) (by with_unfolding_all rfl))),(pv 0)⟩)) (pe_lst pa_nil) (nomark _)))))
  (pss_one (ps_ret pe_bl))
  pss_nil)))))
  (pss_one (ps_ret pe_bl))))),?_⟩
  have no:¬ ShownD (dec its) ups lab.cps.toList d→(false=true ↔ ShownD (dec its) ups lab.cps.toList d):=fun n=>⟨(fun z=>by cases z),fun z=>absurd z n⟩
  have dl:=W63.dec_len its
  obtain ⟨u,ht,hu,tok⟩:=id tr
  have m60:=tok.most
  have tl:=tok.len
  have ll:lab.cps.toList.length=lab.length:=Array.length_toList
  obtain ⟨ivs,hiv,ivl,_⟩:=id it
  have ull:(ups.map V.int).length=ups.length:=List.length_map _
  obtain ⟨t1,a1,a2⟩:=td_tup (K:=K) td
  refine ⟨_,rfl,_,t1, "tuple", _,rfl,a1,a2,_,rfl,?_⟩
  by_cases ct:isTupD d=true
  rotate_left
  · refine iteA (by rw [Bool.eq_false_iff.mpr ct];rfl) ?_
    exact q false H (Same.refl H) (no fun ⟨Ts,e,_⟩=>ct (by rw [e];rfl))
  refine L2.iteB (by rw [ct];rfl) ?_
  obtain ⟨a,xs,ds,rfl,rfl,ha,tds⟩:=isTup_ex td ct
  have xl:=tds.len
  obtain ⟨x100,fx⟩:=few ds rfl
  refine ⟨_,rfl,a,_,rfl,.inr (SqT.of ha),_,rfl,t,_,_,_,rfl,rfl,SqT.of ht,rfl,u,_,rfl,.inr (SqT.of hu),rfl,_,rfl,?_⟩
  rw [ull]
  by_cases cl:xs.length=ups.length
  rotate_left
  · refine iteA (by simp;omega) ?_
    exact q false H (Same.refl H) (no fun ⟨Ts,e,l,_⟩=>cl (by injection e with e;rw [xl,e,List.length_map,l.1]))
  refine L2.iteB (by rw [cl];simp) ?_
  refine ⟨_,rfl,a,rfl,⟨_,SqT.of ha⟩,fun ac hac=>?_⟩
  refine comp_tupl (K:=K) (a:=a) (xs:=xs) (by omega) (fun i ys HX=>HX ac=some (.lst ys)∧Same H HX∧ys.length≤i∧(ys=[] ↔ ∀ (j:Nat) (kd:PyData),j < i→ds[j]?=some kd→LSt (dec its) kd))
    (fun i ys HX h=>SqT.of (h.2.1 _ _ ha)) (fun i ys HX h=>⟨h.1,h.2.2.1⟩) ⟨upd_same,(Same.refl H).new hac,Nat.le_refl _,⟨fun _ j kd h=>absurd h (Nat.not_lt_zero _),fun _=>rfl⟩⟩ ?_ ?_
  rotate_left
  · rintro i x ys HX hx ⟨g1,g2,gl,ge⟩
    obtain ⟨kd,e1,td2⟩:=tds.get hx
    refine ⟨rfl,_,rfl,_,rfl,l,its,x,kd,rfl,it.same g2,l40,td2.same g2,fx kd (List.mem_of_getElem? e1),fun b H3 s3 hb3=>⟨_,rfl,?_⟩⟩
    cases b with
    | true=>
      refine iteF ⟨s3 _ _ g1,g2.trans s3,by omega,ge.trans ⟨fun h j kd' hj ek=>?_,fun h j kd' hj ek=>h j kd' (by omega) ek⟩⟩
      rcases Nat.lt_or_ge j i with l | l
      · exact h j kd' l ek
      · have:j=i:=by omega
        subst this
        rw [e1] at ek
        cases ek
        exact hb3.mp rfl
    | false=>
      refine iteT ⟨_,rfl,s3 _ _ g1,upd_same,(g2.trans s3).write hac,by rw [List.length_append];show ys.length+1≤i+1;omega,⟨fun h=>by simp at h,fun h=>?_⟩⟩
      have:=hb3.mpr (h i kd (by omega) e1)
      cases this
  rintro ys H2 ⟨g1,s2,gl,ge⟩
  refine ⟨line_le (show 0≤1000 by omega),fun nl hnl=>?_⟩
  refine ⟨ac,nl,ys,rfl,rfl,SqL.of (by rw [upd_ne (ne_of_none g1 hnl)];exact g1),SqL.of upd_same,_,rfl,?_⟩
  have s3:Same H (upd H2 nl (.lst [])):=s2.new hnl
  generalize upd H2 nl (.lst [])=H3 at s3
  cases ys with
  | cons y0 yr=>
    refine iteA rfl ?_
    refine q false H3 s3 (no fun ⟨Ts,e,m,o⟩=>?_)
    injection e with e
    subst e
    have:=ge.mpr fun j kd hj ek=>by
      rw [List.getElem?_map] at ek
      cases eT:Ts[j]? with
      | none=>rw [eT] at ek;cases ek
      | some T=>
        rw [eT] at ek
        cases ek
        have mT:=List.mem_of_getElem? eT
        exact ⟨T,rfl,m.2.1 T mT,o.1 T mT⟩
    cases this
  | nil=>
  refine L2.iteB rfl ?_
  obtain ⟨Ts,rfl,hTs⟩:=all_lst (its:=dec its) (ds:=ds) fun d hd=>by
    obtain ⟨j,hj,ej⟩:=List.getElem_of_mem hd
    exact ge.mp rfl j d (by omega) (by rw [List.getElem?_eq_getElem hj,ej])
  rw [List.length_map] at xl
  have hT1:=fun T hT=>(hTs T hT).1
  have hT2:=fun T hT=>(hTs T hT).2
  have stp:∀ p,p < ups.length→StL (dec its) (Ts.getD p []):=fun p hp=>hT1 _ (by rw [List.getD_eq_getElem?_getD,List.getElem?_eq_getElem (by omega)];exact List.getElem_mem _)
  have tln:∀ p,p < ups.length→(Ts.getD p []).length≤41:=fun p hp=>by
    have:=stl_le (dec its) (fun s=>decide (s∈Ts.getD p [])) ((dec its).length+1)
    rw [(stp p hp).2.2] at this
    omega
  refine ⟨_,rfl,t,_,_,_,rfl,rfl,SqT.of (s3 _ _ ht),rfl,.tup u,rfl,⟨_,.inl (s3 _ _ hu)⟩,?_⟩
  refine for_enum (κ:=.tup u) (xs:=ups.map V.int) (fun i σ HX=>∃ o3 o4 o5:Option V,σ=[some (.ref t),some (.ref l),some (.ref a),o3,o4,o5]∧Same H3 HX∧(0 < i→(dec its).length ∉ rootL (dec its) lab.cps.toList Ts)∧∀ p,0 < p→p < i→∀ s∈byl (dec its) (Ts.getD p []) (lab.cps.toList.getD p 0),s∈Ts.getD (ups.getD p 0).toNat []) ⟨none,none,none,rfl,Same.refl H3,fun h=>absurd h (Nat.lt_irrefl _),fun p h0 h1=>by omega⟩
    (fun i σ HX _ h=>by obtain ⟨_,_,_,_,sX,_⟩:=h;exact .inl (sX _ _ (s3 _ _ hu))) ?_ ?_
  rotate_left
  · rintro σ HX ⟨o3,o4,o5,rfl,sX,hr0,hk⟩
    rw [ull] at hr0 hk
    exact q true HX (s3.trans sX) ⟨fun _=>⟨Ts,rfl,⟨by omega,hT1,fun p p0 hp=>hk p p0 hp⟩,hT2,hr0 tok.pos⟩,fun _=>rfl⟩
  rintro p x σ HX pp hx ⟨o3,o4,o5,rfl,sX,hr0,hk⟩ hpp
  have pn:p < ups.length:=by have:=(List.getElem?_eq_some_iff.mp hx).1;rw [ull] at this;exact this
  have ex:x=.int (ups.getD p 0):=by
    rw [List.getElem?_map,List.getElem?_eq_getElem pn] at hx
    rw [List.getD_eq_getElem?_getD,List.getElem?_eq_getElem pn]
    exact (Option.some.inj hx).symm
  subst ex
  refine ⟨pp,_,rfl,SqT.of upd_same,rfl,_,_,rfl,_,_,rfl,rfl,?_⟩
  have sP:Same HX (upd HX pp (.tup [.int (p:Int),.int (ups.getD p 0)])):=(Same.refl HX).new hpp
  show (fun HH=>_) (upd HX pp (.tup [.int (p:Int),.int (ups.getD p 0)]))
  generalize upd HX pp (.tup [.int (p:Int),.int (ups.getD p 0)])=H4 at sP
  have s34:=sX.trans sP
  have sH:=s3.trans s34
  have tdX:=tds.same sH
  obtain ⟨ap,eap,hap⟩:=marks_at tdX (p:=p) (by omega)
  have atP:=atI_nat eap
  have atL:=atI_nat (xs:=lab.cps.toList) (j:=p) (v:=lab.cps.toList.getD p 0) (by rw [List.getD_eq_getElem?_getD,List.getElem?_eq_getElem (by omega)];rfl)
  refine ⟨_,rfl,_,rfl,_,rfl,a,_,_,_,rfl,rfl,SqT.of (sH _ _ ha),atP,_,rfl,t,_,_,_,rfl,rfl,SqT.of (sH _ _ ht),rfl,_,rfl,_,_,_,rfl,rfl,line_le (by omega),atL,l,ap,its,Ts.getD p [],lab.cps.toList.getD p 0,rfl,it.same sH,l40,hap,tln p pn,fun r H5 s5 f5 h5=>?_⟩
  rw [← dl] at h5
  have sF:=sH.trans s5
  have s35:=s34.trans s5
  have badM:∀ {s:Nat},s∈stl (dec its) (fun s=>decide (s∈byl (dec its) (Ts.getD p []) (lab.cps.toList.getD p 0))) ((dec its).length+1)→True:=fun _=>trivial
  refine ⟨_,rfl,_,_,rfl,rfl,_,rfl,?_⟩
  by_cases p0:p=0
  · subst p0
    have up0:ups.getD 0 0=-1:=tok.root
    refine iteA (by rw [up0];decide) ?_
    refine ⟨_,rfl,l,_,rfl,.inl (SqL.of (sF _ _ hiv)),_,rfl,r,_,rfl,.inl (SqL.of h5),rfl,nV_flat _,_,rfl,?_⟩
    rw [ivl,show (if false=true then !inV (V.int ((its.length:Nat):Int)) (nV (stl (dec its) (fun s=>decide (s∈byl (dec its) (Ts.getD 0 []) (lab.cps.toList.getD 0 0))) ((dec its).length+1))) else inV (V.int ((its.length:Nat):Int)) (nV (stl (dec its) (fun s=>decide (s∈byl (dec its) (Ts.getD 0 []) (lab.cps.toList.getD 0 0))) ((dec its).length+1))))=decide (its.length∈rootL (dec its) lab.cps.toList Ts) from inV_nat _ _,← dl]
    by_cases rt:(dec its).length∈rootL (dec its) lab.cps.toList Ts
    · refine iteA (decide_eq_true rt) ?_
      refine q false H5 sF (no fun ⟨Ts',e,_,o⟩=>?_)
      have:Ts=Ts':=by injection e with e;exact marks_inj e
      subst this
      exact o.2 rt
    · refine L2.iteB (decide_eq_false rt) ?_
      refine ⟨_,rfl,_,_,rfl,rfl,_,rfl,?_⟩
      refine L2.iteB (by rw [up0];decide) ?_
      exact iteF ⟨_,_,_,rfl,s35,fun _=>rt,fun p' h0 h1=>by omega⟩
  · have up:=tok.up p (by omega) pn
    refine L2.iteB (decide_eq_false (by omega)) ?_
    refine iteF ?_
    refine ⟨_,rfl,_,_,rfl,rfl,_,rfl,?_⟩
    refine iteA (decide_eq_true (by omega)) ?_
    obtain ⟨ab,eab,hab⟩:=marks_at (tds.same sF) (p:=(ups.getD p 0).toNat) (by omega)
    have atA:atI xs (ups.getD p 0)=some (.ref ab):=by
      have:=atI_nat eab
      rw [show (((ups.getD p 0).toNat:Nat):Int)=ups.getD p 0 by omega] at this
      exact this
    generalize hR:stl (dec its) (fun s=>decide (s∈byl (dec its) (Ts.getD p []) (lab.cps.toList.getD p 0))) ((dec its).length+1)=R at h5
    have Rl:R.length≤41:=by
      have:=stl_le (dec its) (fun s=>decide (s∈byl (dec its) (Ts.getD p []) (lab.cps.toList.getD p 0))) ((dec its).length+1)
      rw [hR] at this;omega
    refine ⟨_,rfl,r,rfl,⟨_,SqL.of h5⟩,fun ac2 hac2=>?_⟩
    refine comp_lst (K:=K) (a:=r) (xs:=nV R) (by rw [nV_len];omega) (fun j ys HY=>HY ac2=some (.lst ys)∧Same H5 HY∧ys.length≤j∧(ys=[] ↔ ∀ s∈R.take j,s∈Ts.getD (ups.getD p 0).toNat []))
      (fun j ys HY h=>SqL.of (h.2.1 _ _ h5)) (fun j ys HY h=>⟨h.1,h.2.2.1⟩) ⟨upd_same,(Same.refl H5).new hac2,Nat.le_refl _,by simp⟩ ?_ ?_
    rotate_left
    · rintro j x ys HY hx ⟨g1,g2,gl,ge⟩
      have jl:j < R.length:=by have:=(List.getElem?_eq_some_iff.mp hx).1;rwa [nV_len] at this
      have hL:R[j]?=some R[j]:=List.getElem?_eq_getElem jl
      generalize R[j]=s at hL
      have ex:x=.int (s:Int):=by
        unfold nV at hx
        rw [List.getElem?_map,hL] at hx
        exact (Option.some.inj hx).symm
      subst ex
      refine ⟨rfl,_,rfl,_,rfl,_,rfl,a,_,_,_,rfl,rfl,SqT.of (g2 _ _ (sF _ _ ha)),atA,ab,_,rfl,.inr (SqT.of (g2 _ _ hab)),rfl,nV_flat _,_,rfl,?_⟩
      rw [show (if true=true then !inV (V.int (s:Int)) (nV (Ts.getD (ups.getD p 0).toNat [])) else inV (V.int (s:Int)) (nV (Ts.getD (ups.getD p 0).toNat [])))=!decide (s∈Ts.getD (ups.getD p 0).toNat []) by rw [if_pos rfl,inV_nat]]
      have tk:∀ y,y∈R.take (j+1) ↔ y∈R.take j∨y=s:=fun y=>by rw [List.take_succ,hL];simp
      by_cases hs:s∈Ts.getD (ups.getD p 0).toNat []
      · refine L2.iteB (by rw [decide_eq_true hs];rfl) ⟨g1,g2,by omega,ge.trans ⟨fun h y hy=>((tk y).mp hy).elim (h y) fun e=>e ▸ hs,fun h y hy=>h y ((tk y).mpr (.inl hy))⟩⟩
      · refine iteA (by rw [decide_eq_false hs];rfl) ⟨_,rfl,g1,upd_same,g2.write hac2,by rw [List.length_append];show ys.length+1≤j+1;omega,⟨fun h=>by simp at h,fun h=>absurd (h s ((tk s).mpr (.inr rfl))) hs⟩⟩
    rintro ys2 H6 ⟨g6,s6,gl6,ge6⟩
    rw [nV_len,List.take_length] at ge6
    refine ⟨line_le (show 0≤1000 by omega),fun nl2 hnl2=>?_⟩
    refine ⟨ac2,nl2,ys2,rfl,rfl,SqL.of (by rw [upd_ne (ne_of_none g6 hnl2)];exact g6),SqL.of upd_same,_,rfl,?_⟩
    have s7:Same H5 (upd H6 nl2 (.lst [])):=s6.new hnl2
    generalize upd H6 nl2 (.lst [])=H7 at s7
    cases ys2 with
    | nil=>
      refine L2.iteB rfl ⟨_,_,_,rfl,s35.trans s7,fun _=>hr0 (by omega),fun p' h0 h1 s hs=>?_⟩
      rcases Nat.lt_or_ge p' p with lt | ge'
      · exact hk p' h0 lt s hs
      · have:p'=p:=by omega
        subst this
        exact ge6.mp rfl s (by rw [← hR];exact sub_stl (fun s hs=>byl_le hs) s hs)
    | cons y0 yr=>
      refine iteA rfl ?_
      refine q false H7 (sF.trans s7) (no fun ⟨Ts',e,m,_⟩=>?_)
      have:Ts=Ts':=by injection e with e;exact marks_inj e
      subst this
      have:=ge6.mpr fun s hs=>by
        rw [← hR] at hs
        exact stl_sub (stp _ (by omega)).2.2 (m.2.2 p (by omega) pn) s hs
      cases this
end
end S67
namespace L2
open PySem PySem.Spec PyProof.Rows PySem.W
theorem below_go {xs:Array Nat} {j k:Nat} (hk:∀ a,a < xs.size→(xs.getD a j < j ↔ a < k)):∀ fuel lo hi,lo≤k→k≤hi→hi≤xs.size→hi - lo≤fuel→SetTable.below.go xs j fuel lo hi=k
  | 0,lo,hi,h1,h2,h3,h4=>by
    unfold SetTable.below.go
    omega
  | fuel+1,lo,hi,h1,h2,h3,h4=>by
    unfold SetTable.below.go
    by_cases c:lo < hi
    · rw [if_pos c]
      dsimp only
      have hm:=hk ((lo+hi) / 2) (by omega)
      by_cases d:xs.getD ((lo+hi) / 2) j < j
      · rw [if_pos d]
        have:=hm.mp d
        exact below_go hk fuel _ _ (by omega) h2 h3 (by omega)
      · rw [if_neg d]
        have:¬ (lo+hi) / 2 < k:=fun z=>d (hm.mpr z)
        exact below_go hk fuel _ _ h1 (by omega) (by omega) (by omega)
    · rw [if_neg c];omega
theorem rising_lt {xs:Array Nat} (h:SetTable.rising xs=true):∀ b a,a < b→b < xs.size→xs.getD a 0 < xs.getD b 0
  | 0,a,h1,_=>absurd h1 (Nat.not_lt_zero _)
  | b+1,a,h1,h2=>by
    unfold SetTable.rising at h
    rw [List.all_eq_true] at h
    have hb:=of_decide_eq_true (h b (List.mem_range.mpr (by omega)))
    rcases Nat.lt_or_ge a b with l | l
    · exact Nat.lt_trans (rising_lt (by unfold SetTable.rising;rw [List.all_eq_true];exact h) b a l (by omega)) hb
    · have:a=b:=by omega
      rw [this];exact hb
theorem getD_any {xs:Array Nat} {a:Nat} (h:a < xs.size) (c d:Nat):xs.getD a c=xs.getD a d:=by
  rw [Array.getD_eq_getD_getElem?,Array.getD_eq_getD_getElem?,Array.getElem?_eq_getElem h];rfl
theorem below_zero (xs:Array Nat):SetTable.below xs 0=0:=by
  unfold SetTable.below
  exact below_go (fun a _=>⟨fun h=>absurd h (Nat.not_lt_zero _),fun h=>absurd h (Nat.not_lt_zero _)⟩) _ _ _ (Nat.le_refl _) (Nat.zero_le _) (Nat.le_refl _) (by omega)
theorem below_next {xs:Array Nat} (h:SetTable.rising xs=true) {i:Nat} (hi:i < xs.size):SetTable.below xs (xs.getD i 0+1)=i+1:=by
  unfold SetTable.below
  refine below_go (fun a ha=>?_) _ _ _ (Nat.zero_le _) (by omega) (Nat.le_refl _) (by omega)
  rw [getD_any ha _ 0]
  constructor
  · intro l
    rcases Nat.lt_or_ge a (i+1) with q | q
    · exact q
    · have:=rising_lt h a i (by omega) ha
      omega
  · intro l
    rcases Nat.lt_or_ge a i with q | q
    · have:=rising_lt h i a q hi
      omega
    · have:a=i:=by omega
      rw [this];omega
theorem rising_pw {xs:Array Nat} (h:SetTable.rising xs=true):xs.toList.Pairwise (· < ·):=by
  rw [List.pairwise_iff_getElem]
  intro i j hi hj hij
  have hj':j < xs.size:=by simpa using hj
  have:=rising_lt h j i hij hj'
  rw [Array.getD_eq_getD_getElem?,Array.getD_eq_getD_getElem?,Array.getElem?_eq_getElem (by omega),Array.getElem?_eq_getElem hj'] at this
  simpa using this
theorem pw_rising {xs:Array Nat} (h:xs.toList.Pairwise (· < ·)):SetTable.rising xs=true:=by
  unfold SetTable.rising
  rw [List.all_eq_true]
  intro i hi
  have hi':=List.mem_range.mp hi
  rw [decide_eq_true_eq,Array.getD_eq_getD_getElem?,Array.getD_eq_getD_getElem?,Array.getElem?_eq_getElem (by omega),Array.getElem?_eq_getElem (by omega)]
  have:=List.pairwise_iff_getElem.mp h i (i+1) (by simp;omega) (by simp;omega) (by omega)
  simpa using this
theorem below_ex {xs:Array Nat} (h:SetTable.rising xs=true) (j:Nat):∀ n,n≤xs.size→∃ k,k≤n∧∀ a,a < n→(xs.getD a j < j ↔ a < k)
  | 0,_=>⟨0,Nat.le_refl _,fun a ha=>absurd ha (Nat.not_lt_zero _)⟩
  | n+1,hn=>by
    obtain ⟨k,hk,hs⟩:=below_ex h j n (by omega)
    rcases Nat.lt_or_ge k n with l | l
    · refine ⟨k,by omega,fun a ha=>?_⟩
      rcases Nat.lt_or_ge a n with q | q
      · exact hs a q
      · have:a=n:=by omega
        subst this
        have h1:=rising_lt h a k l (by omega)
        have h2:¬ xs.getD k j < j:=fun z=>absurd ((hs k l).mp z) (Nat.lt_irrefl _)
        rw [getD_any (by omega) j 0] at h2 ⊢
        constructor
        · intro z;omega
        · intro z;omega
    · have kn:k=n:=by omega
      by_cases c:xs.getD n j < j
      · refine ⟨n+1,Nat.le_refl _,fun a ha=>⟨fun _=>ha,fun _=>?_⟩⟩
        rcases Nat.lt_or_ge a n with q | q
        · exact (hs a q).mpr (by omega)
        · have:a=n:=by omega
          rw [this];exact c
      · refine ⟨n,by omega,fun a ha=>?_⟩
        rcases Nat.lt_or_ge a n with q | q
        · rw [← kn];exact hs a q
        · have:a=n:=by omega
          rw [this]
          exact ⟨fun z=>absurd z c,fun z=>absurd z (Nat.lt_irrefl _)⟩
theorem below_is {xs:Array Nat} (h:SetTable.rising xs=true) (j:Nat):SetTable.below xs j≤xs.size∧∀ a,a < xs.size→(xs.getD a 0 < j ↔ a < SetTable.below xs j):=by
  obtain ⟨k,hk,hs⟩:=below_ex h j xs.size (Nat.le_refl _)
  have e:SetTable.below xs j=k:=by
    unfold SetTable.below
    exact below_go hs _ _ _ (Nat.zero_le _) hk (Nat.le_refl _) (by omega)
  rw [e]
  exact ⟨hk,fun a ha=>by rw [← getD_any ha j 0];exact hs a ha⟩
theorem rising_put {xs:Array Nat} (h:SetTable.rising xs=true) {j:Nat} (hn:xs[SetTable.below xs j]?≠some j):SetTable.rising (SetTable.insertAt xs (SetTable.below xs j) j)=true:=by
  obtain ⟨b1,b2⟩:=below_is h j
  generalize SetTable.below xs j=k at b1 b2 hn
  apply pw_rising
  have pw:=rising_pw h
  have e:(SetTable.insertAt xs k j).toList=xs.toList.take k++[j]++xs.toList.drop k:=by
    unfold SetTable.insertAt
    simp [List.extract_eq_drop_take]
    exact List.take_of_length_le (by simp)
  rw [e,List.append_assoc,List.pairwise_append]
  refine ⟨pw.sublist (List.take_sublist _ _),?_,fun a ha b hb=>?_⟩
  · rw [List.singleton_append,List.pairwise_cons]
    refine ⟨fun b hb=>?_,pw.sublist (List.drop_sublist _ _)⟩
    obtain ⟨i,hi,ei⟩:=List.getElem_of_mem hb
    rw [List.length_drop,Array.length_toList] at hi
    rw [List.getElem_drop] at ei
    have q:=b2 (k+i) (by omega)
    rw [Array.getD_eq_getD_getElem?,Array.getElem?_eq_getElem (by omega)] at q
    have ei':xs[k+i]'(by omega)=b:=by simpa using ei
    have nb:¬ b < j:=fun z=>by
      have:=q.mp (by show xs[k+i] < j;rw [ei'];exact z)
      omega
    rcases Nat.eq_or_lt_of_le (Nat.le_of_not_lt nb) with z | z
    · exfalso
      rcases Nat.eq_zero_or_pos i with i0 | i0
      · subst i0
        apply hn
        rw [Array.getElem?_eq_getElem (by omega)]
        exact congrArg some (ei'.trans z.symm)
      · have lt:=rising_lt h (k+i) k (by omega) (by omega)
        have q0:=b2 k (by omega)
        rw [Array.getD_eq_getD_getElem?,Array.getD_eq_getD_getElem?,Array.getElem?_eq_getElem (by omega),Array.getElem?_eq_getElem (by omega)] at lt
        rw [Array.getD_eq_getD_getElem?,Array.getElem?_eq_getElem (by omega)] at q0
        have lt':xs[k]'(by omega) < xs[k+i]'(by omega):=lt
        have:xs[k]'(by omega) < j:=by
          have l2:xs[k]'(by omega) < b:=ei' ▸ lt'
          omega
        have:=q0.mp this
        omega
    · exact z
  · obtain ⟨i,hi,ei⟩:=List.getElem_of_mem ha
    rw [List.length_take,Array.length_toList] at hi
    rw [List.getElem_take] at ei
    have q:=b2 i (by omega)
    rw [Array.getD_eq_getD_getElem?,Array.getElem?_eq_getElem (by omega)] at q
    have ei':xs[i]'(by omega)=a:=by simpa using ei
    have aj:a < j:=by rw [← ei'];exact q.mpr (by omega)
    rcases List.mem_append.mp hb with hb | hb
    · rw [List.mem_singleton.mp hb];exact aj
    · obtain ⟨m,hm,em⟩:=List.getElem_of_mem hb
      rw [List.length_drop,Array.length_toList] at hm
      rw [List.getElem_drop] at em
      have:=List.pairwise_iff_getElem.mp pw i (k+m) (by simp;omega) (by simp;omega) (by omega)
      rw [em] at this
      rw [← ei']
      simpa using this
theorem pw_live (f:Nat→Option Nat):∀ l:List Nat,l.Pairwise (· < ·)→((l.filterMap fun j=>(f j).map ((j,·))).map (·.1)).Pairwise (· < ·)
  | [],_=>List.Pairwise.nil
  | x :: l,h=>by
    obtain ⟨h1,h2⟩:=List.pairwise_cons.mp h
    have ih:=pw_live f l h2
    cases e:f x with
    | none=>
      rw [List.filterMap_cons_none (by rw [e];rfl)]
      exact ih
    | some y=>
      rw [List.filterMap_cons_some (b:=(x,y)) (by rw [e];rfl),List.map_cons,List.pairwise_cons]
      refine ⟨fun z hz=>?_,ih⟩
      obtain ⟨p,hp,rfl⟩:=List.mem_map.mp hz
      obtain ⟨a,ha,ea⟩:=List.mem_filterMap.mp hp
      cases ef:f a with
      | none=>rw [ef] at ea;cases ea
      | some b=>
        rw [ef] at ea
        cases ea
        exact h1 _ ha
theorem rising_laid {mask fg mv:Nat} {led pl:Bool} {hs:Array Int} {t:SetTable} {order:Array Nat} (h:SetTable.laid mask fg mv led pl hs=some (t,order)):SetTable.rising t.place=true∧t.dummies=#[]∧t.plain=pl∧t.led=led:=by
  unfold SetTable.laid at h
  cases e:SetTable.layClean mask hs with
  | none=>rw [e] at h;cases h
  | some owner=>
    rw [e] at h
    have h':(({ mask,place:=(((List.range (mask+1)).filterMap fun j=>(owner.getD j none).map ((j,·))).map (·.1)).toArray,dummies:=#[],finger:=fg,led,moves:=mv,plain:=pl }:SetTable),(((List.range (mask+1)).filterMap fun j=>(owner.getD j none).map ((j,·))).map (·.2)).toArray)=(t,order):=Option.some.inj h
    injection h' with h1 _
    subst h1
    exact ⟨pw_rising (by simpa using pw_live (fun j=>owner.getD j none) _ List.pairwise_lt_range),rfl,rfl,rfl⟩
def Ris (t:SetTable):Prop:=SetTable.rising t.place=true∧t.dummies=#[]
theorem no_dummy {t:SetTable} (hd:t.dummies=#[]) (j:Nat):SetTable.has t.dummies j=false:=by
  rw [hd];unfold SetTable.has;simp
theorem slot_empty {t:SetTable} {j:Nat} (h:t.slot j=.empty):t.place[SetTable.below t.place j]?≠some j:=fun e=>by
  unfold SetTable.slot at h
  dsimp only at h
  rw [if_pos (by rw [e];simp)] at h
  cases h
theorem probe_go {t:SetTable} {hashAt:Nat→Int} {h:Int} (hd:t.dummies=#[]) {j:Nat} {dm:Option Nat}:∀ fuel p,p.dummy=none→SetTable.probe.go t hashAt h fuel p=some (.empty j dm)→t.slot j=.empty∧dm=none
  | 0,p,_,e=>by unfold SetTable.probe.go at e;cases e
  | fuel+1,p,hp,e=>by
    unfold SetTable.probe.go at e
    have adv:(t.advance p).dummy=none:=by unfold SetTable.advance;split <;> exact hp
    cases es:t.slot p.j with
    | empty=>
      rw [es] at e
      dsimp only at e
      injection e with e
      injection e with e1 e2
      subst e1
      exact ⟨es,by rw [← e2];exact hp⟩
    | dummy=>
      exfalso
      unfold SetTable.slot at es
      dsimp only at es
      split at es
      · cases es
      · rw [no_dummy hd] at es
        simp at es
    | live i=>
      rw [es] at e
      dsimp only at e
      split at e
      · injection e with e
        cases e
      · exact probe_go hd fuel _ adv e
theorem ris_standIn (t:SetTable) (n:Nat):Ris (t.standIn n):=⟨pw_rising (by simp [SetTable.standIn];exact List.pairwise_lt_range),rfl⟩
theorem ris_or {t:SetTable} (h:Ris t) (n:Nat):Ris (t.orStandIn n):=by
  unfold SetTable.orStandIn
  split
  · exact h
  · exact ris_standIn t n
theorem ris_new {t:SetTable} (h:Ris t) (es:Array (Int × Value)) (hs:Int) (x:Value):Ris (layNew t es hs x).2.1:=by
  unfold layNew
  cases e:t.freeSlot hs with
  | none=>exact ris_standIn t _
  | some p=>
    obtain ⟨slot,wd⟩:=p
    dsimp only
    refine ris_or ?_ _
    unfold SetTable.freeSlot at e
    cases e2:t.probe (fun _=>hs+1) hs (t.probeStart hs) with
    | none=>rw [e2] at e;cases e
    | some m=>
      rw [e2] at e
      cases m with
      | candidate j i nx=>cases e
      | empty j dm=>
        dsimp only at e
        obtain ⟨h1,h2⟩:=probe_go h.2 _ _ rfl e2
        subst h2
        injection e with e
        injection e with e3 _
        have ej:slot=j:=e3.symm
        subst ej
        unfold SetTable.put
        dsimp only
        refine ⟨rising_put h.1 (slot_empty h1),?_⟩
        show (if SetTable.has t.dummies slot=true then _ else t.dummies)=#[]
        rw [no_dummy h.2,if_neg (by decide)]
        exact h.2
theorem ris_relay {t:SetTable} (es:Array (Int × Value)) (n:Nat):Ris (relayAll t es n).2.1:=by
  unfold relayAll
  cases e:t.relaid (es.map (·.1)) n with
  | none=>exact ris_standIn t _
  | some p=>
    obtain ⟨t',order⟩:=p
    dsimp only
    split
    · unfold SetTable.relaid at e
      exact ⟨(rising_laid e).1,(rising_laid e).2.1⟩
    · exact ris_standIn t _
section
variable {prog:Program} {w:World} {A:Around} {E:Value→Shared→Prop} {s:Shared}
theorem setNext_plain {D:Addr} {slot i ep:Nat} {es:Array (Int × Value)} {t:SetTable} {Q:Option (Value × Nat)→Shared→Prop} (bt:w.params.followText "set-order" = false) (hD:s.heap.get? D=some { cls:=.type "set", data:=.set es ep t }) (hf:t.fits es.size=true) (hl:t.led=true) (hp:t.plain=true)
    (h:Q (match es[SetTable.below t.place slot]?,t.place[SetTable.below t.place slot]? with | some (_,x),some j=>some (x,j+1) | _,_=>none) s):wpAny (model prog w) A (setNext D slot i ep) Q E s:=by
  unfold setNext
  refine wpAny_bind (wpAny_setState_of hD rfl hf ?_)
  dsimp only
  refine wpAny_bind (by_text ?_)
  rw [bt,if_neg (by decide)]
  rw [if_neg (by
    show ¬ ((!t.plain && decide (es.size > 1))=true)
    rw [hp]
    simp)]
  refine wpAny_bind ?_
  show wpAny _ _ (if (!t.led && !es.isEmpty)=true then _ else pure ()) _ _ _
  rw [if_neg (by rw [hl];simp)]
  exact wpAny_pure (wpAny_pure h)
def slotAt (t:SetTable):Nat→Nat
  | 0=>0
  | i+1=>t.place.getD i 0+1
theorem below_slot {t:SetTable} (h:Ris t):∀ {i:Nat},i≤t.place.size→SetTable.below t.place (slotAt t i)=i
  | 0,_=>below_zero _
  | i+1,hi=>below_next h.1 (by omega)
theorem walks_plain (bt:w.params.followText "set-order" = false) (hh:A.handled=none) {I D:Addr} (DI:D≠I) {es:Array (Int × Value)} {ep:Nat} {t:SetTable} (hf:t.fits es.size=true) (hl:t.led=true) (hp:t.plain=true) (hr:Ris t) :
    Walks prog w A I [I,D] [I] es.size (fun i v=>(es.toList.map (·.2))[i]?=some v) (fun i h=>h.get? I=some (setIt (rawInt ((slotAt t i:Nat):Int)) i D es.size ep)∧setAt D es ep t h) where
  sub:=fun b hb=>by simp at hb;simp [hb]
  frame:=fun i h h' st k=>⟨k I (by simp) _ st.1,k D (by simp) _ st.2⟩
  item:=fun i s Q E hi st hQ=>by
    have pz:t.place.size=es.size:=by
      unfold SetTable.fits at hf
      simp only [Bool.and_eq_true,beq_iff_eq] at hf
      exact hf.1
    refine seti_next st.1 (seti_pre st.1 st.2 hf ?_)
    show wpAny _ _ (setNext D (slotAt t i) i ep >>= _) _ _ s
    refine wpAny_bind (setNext_plain bt st.2 hf hl hp ?_)
    rw [below_slot hr (by omega),Array.getElem?_eq_getElem hi,Array.getElem?_eq_getElem (show i < t.place.size by omega)]
    dsimp only
    refine wpAny_bind (wpAny_setField st.1 rfl (by simp) ?_)
    have e1:(s.heap.update I (Obj.mapFields fun vs=>vs.setIfInBounds 0 (rawInt ((t.place[i]+1:Nat):Int)))).get? I=some (setIt (rawInt ((t.place[i]+1:Nat):Int)) i D es.size ep):=by
      rw [Heap.get?_update_self _ st.1 rfl];rfl
    refine wpAny_bind (wpAny_setField (s:={ s with heap:=s.heap.update I (Obj.mapFields fun vs=>vs.setIfInBounds 0 (rawInt ((t.place[i]+1:Nat):Int))) }) e1 rfl (by simp) (wpAny_pure ⟨_,rfl,?_⟩))
    refine hQ _ _ s.toks ?_ ⟨?_,?_⟩ (fun b o hb eb=>?_)
    · rw [List.getElem?_map,Array.getElem?_toList,Array.getElem?_eq_getElem hi];rfl
    · have:=seti_get (g:=rawInt 0) (j:=0) e1
      have es1:slotAt t (i+1)=t.place[i]+1:=by
        show t.place.getD i 0+1=_
        rw [Array.getD_eq_getD_getElem?,Array.getElem?_eq_getElem (show i < t.place.size by omega)];rfl
      rw [es1]
      exact this
    · exact (Heap.get?_update_ne _ _ _ _ DI).trans ((Heap.get?_update_ne _ _ _ _ DI).trans st.2)
    · have nb:b≠I:=by simpa using hb
      rw [Heap.get?_update_ne _ _ _ _ nb,Heap.get?_update_ne _ _ _ _ nb];exact eb
  done:=fun s Q E st hQ=>by
    have pz:t.place.size=es.size:=by
      unfold SetTable.fits at hf
      simp only [Bool.and_eq_true,beq_iff_eq] at hf
      exact hf.1
    refine seti_next st.1 (seti_pre st.1 st.2 hf ?_)
    show wpAny _ _ (setNext D (slotAt t es.size) es.size ep >>= _) _ _ s
    refine wpAny_bind (setNext_plain bt st.2 hf hl hp ?_)
    rw [below_slot hr (by omega),Array.getElem?_eq_none (Nat.le_refl _)]
    dsimp only
    exact seti_stop (show A.in1.handled=none from hh) st.1 rfl (by simp) fun h' e x ho=>⟨ho,⟨e,rfl⟩,hQ h' s.toks fun b o hb eb=>x b o (by simpa using hb) eb⟩
  self:=fun i s Q E st q=>seti_self st.1 q
end
end L2
namespace L2I
open PySem PySem.Spec PyProof.Rows PySem.W L2
def keyOf (e:Int × Value):Int:=match e.2 with | .int x _=>x | _=>0
structure SetS (w:World) (led:Bool) (es:Array (Int × Value)) (t:SetTable) (S:List Int):Prop where
  ent:∀ e∈es.toList,∃ x tk,e=(hashInt x,Value.int x tk)
  nd:(es.toList.map keyOf).Nodup
  mem:∀ x,x∈es.toList.map keyOf ↔ x∈S
  fit:t.fits es.size=true
  led:t.led=led
  ris:Ris t
theorem keyOf_perm {a b:List (Int × Value)} (p:a.Perm b):(a.map keyOf).Perm (b.map keyOf):=p.map _
theorem SetS.grow {w:World} {led:Bool} {es es':Array (Int × Value)} {t t':SetTable} {S:List Int} {x:Int} {tk:Tok} (h:SetS w led es t S) (nx:x ∉ S) (p:es'.toList.Perm (es.push (hashInt x,.int x tk)).toList) (f:t'.fits es'.size=true) (l:t'.led=led) (q:Ris t'):SetS w led es' t' (S++[x]) where
  ent:=fun e he=>by
    have:=p.mem_iff.mp he
    rw [Array.toList_push] at this
    rcases List.mem_append.mp this with z | z
    · exact h.ent e z
    · exact ⟨x,tk,List.mem_singleton.mp z⟩
  nd:=by
    rw [(keyOf_perm p).nodup_iff,Array.toList_push,List.map_append,List.nodup_append]
    refine ⟨h.nd,by simp,fun a ha b hb=>?_⟩
    have hb':b=x:=by simpa [keyOf] using hb
    subst hb'
    exact fun e=>nx (by rw [← e];exact (h.mem a).mp ha)
  mem:=fun y=>by
    rw [(keyOf_perm p).mem_iff,Array.toList_push,List.map_append,List.mem_append,List.mem_append,h.mem y]
    simp [keyOf]
  fit:=f
  led:=l
  ris:=q
theorem SetS.relay {w:World} {led:Bool} {es:Array (Int × Value)} {t:SetTable} {S:List Int} (h:SetS w led es t S) (n:Nat):SetS w led (relayAll t es n).1 (relayAll t es n).2.1 S where
  ent:=fun e he=>h.ent e ((relayAll_perm t es n).mem_iff.mp he)
  nd:=by rw [(keyOf_perm (relayAll_perm t es n)).nodup_iff];exact h.nd
  mem:=fun y=>by rw [(keyOf_perm (relayAll_perm t es n)).mem_iff];exact h.mem y
  fit:=relayAll_fits t es n
  led:=(relay_led t es n).1.trans h.led
  ris:=ris_relay es n
structure SetA (w:World) (led:Bool) (h:Heap) (a:Addr) (S:List Int) (n:Nat):Prop where
  ex:∃ es ep t,h.get? a=some { cls:=.type "set", data:=.set es ep t }∧SetS w led es t S∧es.size≤n
section
variable {prog:Program} {w:World} {A:Around} {E:Value→Shared→Prop} {s:Shared}
theorem add_int {a:Addr} {S:List Int} {n:Nat} {led:Bool} {x:Int} {tk:Tok} {Q:Bool→Shared→Prop} (ha:SetA w led s.heap a S n) (hn:n+1 < scanBound)
    (h:∀ b h',Heap.SameBut a s.heap h'→SetA w led h' a (S++[x]) (n+1)→Q b { s with heap:=h',toks:=s.toks+1 }):wpAny (model prog w) A (setAdd a (.int x tk)) Q E s:=by
  obtain ⟨es,ep,t,hget,hS,hsz⟩:=ha
  have hsc:scanBound=4096:=rfl
  have is:(intKind prog w).is x (.int x tk)=true:=by show (x == x)=true;exact beq_self_eq_true x
  have elems:ElemsOf (intKind prog w) es.toList:=fun e he=>by
    obtain ⟨y,tk',rfl⟩:=hS.ent e he
    exact ⟨⟨y,by show (y == y)=true;exact beq_self_eq_true y,rfl⟩,rfl⟩
  unfold setAdd
  refine wpAny_holding (wpAny_bind ((intKind prog w).pyHash is ?_))
  unfold setAddHashed
  refine wpAny_holding ?_
  rw [setAddHashedIn.eq_def]
  show wpAny _ _ (setState a >>= _) _ _ _
  refine wpAny_bind (wpAny_setState_of (s:={ s with toks:=s.toks+1 }) hget rfl hS.fit ?_)
  have bs:byScan (.int x tk) es=true:=by
    unfold byScan
    have h1:(Value.int x tk).scannable=true:=rfl
    have h2:(es.all fun e=>e.2.scannable)=true:=by
      rw [Array.all_eq_true_iff_forall_mem]
      intro e he
      exact (elems e (Array.mem_toList_iff.mpr he)).2
    rw [h1,h2,decide_eq_true (by omega)];rfl
  dsimp only
  rw [if_pos bs]
  refine wpAny_bind ?_
  unfold setAddByScan
  refine wpAny_bind (wpAny_rule (wpAny_bind (wpAny_setScan_of (s:={ s with toks:=s.toks+1 }) is hget rfl hS.fit elems ?_)))
  cases ef:List.findIdx? (fun e=>(intKind prog w).is x e.2) es.toList with
  | some j=>
    dsimp only
    refine wpAny_pure (wpAny_pure ?_)
    have xin:x∈S:=by
      rw [← hS.mem x]
      obtain ⟨hj,hp,_⟩:=List.findIdx?_eq_some_iff_getElem.mp ef
      have hm:=List.getElem_mem hj
      obtain ⟨y,tk',e⟩:=hS.ent _ hm
      rw [e] at hp
      have:y=x:=eq_of_beq (show (y == x)=true from hp)
      subst this
      exact List.mem_map.mpr ⟨_,hm,by rw [e];rfl⟩
    refine h false s.heap (Heap.SameBut.refl ..) ⟨es,ep,t,hget,⟨hS.ent,hS.nd,fun y=>?_,hS.fit,hS.led,hS.ris⟩,by omega⟩
    rw [hS.mem y,List.mem_append]
    constructor
    · exact .inl
    · rintro (z | z)
      · exact z
      · rw [List.mem_singleton.mp z];exact xin
  | none=>
    dsimp only
    have xout:x ∉ S:=fun hin=>by
      rw [← hS.mem x] at hin
      obtain ⟨e,he,ek⟩:=List.mem_map.mp hin
      have:=List.findIdx?_eq_none_iff.mp ef e he
      obtain ⟨y,tk',rfl⟩:=hS.ent e he
      have ey:y=x:=ek
      subst ey
      exact absurd (show (intKind prog w).is y (.int y tk')=true from (by show (y == y)=true;exact beq_self_eq_true y)) (by rw [this];simp)
    have lp:=layNew_perm t es ((intKind prog w).hash x) (.int x tk)
    have lf:=layNew_fits t es ((intKind prog w).hash x) (.int x tk)
    have lr:=ris_new hS.ris es ((intKind prog w).hash x) (.int x tk)
    have ll:=lay_led t es ((intKind prog w).hash x) (.int x tk)
    have lz:=lp.length_eq
    rw [Array.length_toList,Array.length_toList,Array.size_push] at lz
    generalize layNew t es ((intKind prog w).hash x) (.int x tk)=L at lp lf ll lz lr
    obtain ⟨es1,t1,wd,gv⟩:=L
    dsimp only at lp lf ll lz lr ⊢
    have zl:sizeLine=268435455∨4096≤sizeLine:=.inr (by rw [sizeLine_eq];decide)
    have zz:es1.size≤sizeLine:=by rcases zl with z | z <;> omega
    refine wpAny_bind (gave_ok ?_)
    have fin:∀ t2:SetTable,t2.fits es1.size=true→t2.led=led→Ris t2 →
        wpAny (model prog w) A (do
          storeSet a es1 t2
          have __do_jp:Unit→Sem (Option Bool):=fun __r=>pure (some true)
          if (!wd && t2.tooFull)=true then
            match relayAll t2 es1 (SetTable.grown es1.size) with
            | (es,t,gave)=>do
              (match gave with | true=>rule "set.scan.the-table-gave-way" | false=>pure ())
              let __r ← storeSet a es t
              __do_jp __r
          else __do_jp ()) (fun r s'=>wpAny (model prog w) A (match r with | some added=>pure added | none=>setAddHashedIn a (.int x tk) ((intKind prog w).hash x) 99999) Q E s') E { s with toks:=s.toks+1 }:=fun t2 f2 l2 p2=>by
      have g:=hS.grow (es':=es1) (t':=t2) (tk:=tk) xout lp f2 l2 p2
      refine wpAny_bind (store_set (s:={ s with toks:=s.toks+1 }) hget zz fun h1 sb1 hg1=>?_)
      dsimp only
      split
      · have gr:=g.relay (SetTable.grown es1.size)
        have rz:=(relayAll_perm t2 es1 (SetTable.grown es1.size)).length_eq
        rw [Array.length_toList,Array.length_toList] at rz
        generalize relayAll t2 es1 (SetTable.grown es1.size)=Rr at gr rz
        obtain ⟨es3,t3,gv3⟩:=Rr
        dsimp only at gr rz ⊢
        refine wpAny_bind (gave_ok ?_)
        refine wpAny_bind (store_set (s:={ s with heap:=h1,toks:=s.toks+1 }) hg1 (by omega) fun h2 sb2 hg2=>?_)
        refine wpAny_pure (wpAny_pure ?_)
        exact h true h2 (sb1.trans sb2) ⟨es3,_,t3,hg2,gr,by omega⟩
      · refine wpAny_pure (wpAny_pure ?_)
        exact h true h1 sb1 ⟨es1,_,t2,hg1,g,by omega⟩
    by_cases hp:t1.plain=true
    · rw [if_pos hp,hashByValue.eq_3]
      refine wpAny_bind (wpAny_pure ?_)
      exact fin t1 lf (ll.trans hS.led) lr
    · rw [if_neg hp]
      refine wpAny_bind (wpAny_pure ?_)
      exact fin t1 lf (ll.trans hS.led) lr
end
end L2I
namespace L2I
open PySem PySem.Spec PyProof.Rows PySem.W L2
section
variable {prog:Program} {w:World} {A:Around} {E:Value→Shared→Prop} {s:Shared}
theorem set_iter {D:Addr} {es:Array (Int × Value)} {ep:Nat} {t:SetTable} {S:List Int} {Q:Value→Shared→Prop} (hD:setAt D es ep t s.heap) (hS:SetS w (ledOf w) es t S) (hz:es.size≤1000)
    (h:∀ (I:Addr) (fp:List Addr) (St:Nat→Heap→Prop) (vs:List Value) (h1:Heap) (d:Drawn),(∀ A':Around,A'.handled=none→Walks prog w A' I fp [I] es.size (fun i v=>vs[i]?=some v) St)→St 0 h1→s.heap.objs.size≤I→(∀ b∈fp,b < h1.objs.size)→(∀ b o,s.heap.get? b=some o→h1.get? b=some o)→vs.Perm (es.toList.map (·.2))→h1.get? I≠none→(∀ b∈fp,b=I∨b=D∨s.heap.objs.size≤b)→Q (.ref I) { s with heap:=h1,drawn:=d }) :
    wpAny (model prog w) A (pyIter (.ref D)) Q E s:=by
  have hT:s.TypeIs (.ref D) "set" := ⟨_,hD,rfl⟩
  have Dlt:D < s.heap.objs.size:=Heap.lt_size hD
  refine wpAny_pyIter_slot hT F.slot_set_iter (wpAny_call_entry F.slot_set_iter hT entry_set_iter ?_ (F.args_set_iter_1 _))
  unfold Builtin.«frozenset.__iter__» Builtin.Frozenset.slot0
  refine wpAny_bind (wpAny_bind ?_)
  show wpAny _ _ (pure (Value.ref D,[])) _ _ _
  refine wpAny_pure ?_
  show wpAny _ _ (pure D) _ _ _
  refine wpAny_pure ?_
  unfold Builtin.Frozenset.sizeOf setEntries
  refine wpAny_bind (wpAny_bind (wpAny_bind (wpAny_setState_of hD rfl hS.fit (wpAny_pure (wpAny_pure ?_)))))
  unfold setDrawn
  refine wpAny_bind (wpAny_bind (wpAny_setState_of hD rfl hS.fit ?_))
  dsimp only
  refine wpAny_bind (by_text (wpAny_pure ?_))
  have szp:∀ (g:Heap) (o:Obj),(g.push o).objs.size=g.objs.size+1:=fun g o=>Heap.size_push ..
  by_cases dr:(!w.params.followText "set-order" && (!t.plain && decide (es.size > 1)))=true
  · refine wpAny_ite_true ?_ ?_
    · exact decide_eq_true dr
    refine wpAny_bind (draw_ok es.size (List.range es.size) _ _ (by simp) fun ps d hp=>?_)
    have pl:ps.length=es.size:=by have:=hp.length_eq;simpa using this
    unfold newTuple
    refine wpAny_bind (wpAny_newObj_type ?_ (by
      show (ps.map fun i:Nat=>rawInt (i:Int)).toArray.size≤sizeLine
      rw [List.size_toArray,List.length_map,sizeLine_eq];omega))
    unfold setEpoch
    have hD1:setAt D es ep t (s.heap.push { cls:=.type "tuple", data:=.seq (ps.map fun i:Nat=>rawInt (i:Int)).toArray }):=Heap.get?_push_of_some _ hD
    refine wpAny_bind (wpAny_bind (wpAny_setState_of (s:={ s with heap:=s.heap.push { cls:=.type "tuple", data:=.seq (ps.map fun i:Nat=>rawInt (i:Int)).toArray },drawn:=d }) hD1 rfl hS.fit (wpAny_pure ?_)))
    dsimp only
    unfold newFields
    refine wpAny_bind (wpAny_newObj_type ?_)
    refine wpAny_pure ⟨_,rfl, "set_iterator", _,⟨_,Heap.get?_push_size _ rfl,rfl⟩,slot_seti_next.lookup,?_⟩
    have TI:s.heap.objs.size≠(s.heap.push { cls:=.type "tuple", data:=.seq (ps.map fun i:Nat=>rawInt (i:Int)).toArray }).objs.size:=by rw [szp];omega
    have DI:D≠(s.heap.push { cls:=.type "tuple", data:=.seq (ps.map fun i:Nat=>rawInt (i:Int)).toArray }).objs.size:=by rw [szp];exact Nat.ne_of_lt (Nat.lt_succ_of_lt Dlt)
    refine h _ _ _ _ _ d (fun A' hA'=>walks_drawn (T:=s.heap.objs.size) hA' DI TI hS.fit hp) ⟨Heap.get?_push_size _ rfl,Heap.get?_push_of_some _ hD1,Heap.get?_push_of_some _ (Heap.get?_push_size _ rfl)⟩ ?_ ?_ (fun b o e=>Heap.get?_push_of_some _ (Heap.get?_push_of_some _ e)) ?_ ?_ ?_
    · rw [szp];omega
    · intro b hb
      rw [szp,szp]
      simp only [List.mem_cons,List.not_mem_nil,or_false] at hb
      rcases hb with rfl | rfl | rfl
      · rw [szp];exact Nat.lt_succ_self _
      · exact Nat.lt_succ_of_lt (Nat.lt_succ_of_lt Dlt)
      · exact Nat.lt_succ_of_lt (Nat.lt_succ_self _)
    · have:=hp.map (fun p=>(es.toList.getD p (0,.none)).2)
      have e2:=range_map_getD (fun e:Int × Value=>e.2) es.toList (0,.none)
      rw [Array.length_toList] at e2
      rw [e2] at this
      exact this
    · rw [Heap.get?_push_size _ rfl];simp
    · intro b hb
      simp only [List.mem_cons,List.not_mem_nil,or_false] at hb
      rcases hb with rfl | rfl | rfl
      · exact .inl rfl
      · exact .inr (.inl rfl)
      · exact .inr (.inr (Nat.le_refl _))
  · refine wpAny_ite_false ?_ ?_
    · exact decide_eq_false dr
    refine wpAny_bind (wpAny_pure ?_)
    unfold setEpoch
    refine wpAny_bind (wpAny_bind (wpAny_setState_of hD rfl hS.fit (wpAny_pure ?_)))
    dsimp only
    unfold newFields
    refine wpAny_bind (wpAny_newObj_type ?_)
    refine wpAny_pure ⟨_,rfl, "set_iterator", _,⟨_,Heap.get?_push_size _ rfl,rfl⟩,slot_seti_next.lookup,?_⟩
    have DI:D≠s.heap.objs.size:=Nat.ne_of_lt Dlt
    have fpl:∀ b∈[s.heap.objs.size,D],b < (s.heap.push (setIt (rawInt 0) 0 D es.size ep)).objs.size:=fun b hb=>by
      rw [szp]
      simp only [List.mem_cons,List.not_mem_nil,or_false] at hb
      rcases hb with rfl | rfl
      · exact Nat.lt_succ_self _
      · exact Nat.lt_succ_of_lt Dlt
    have fpw:∀ b∈[s.heap.objs.size,D],b=s.heap.objs.size∨b=D∨s.heap.objs.size≤b:=fun b hb=>by
      simp only [List.mem_cons,List.not_mem_nil,or_false] at hb
      rcases hb with rfl | rfl
      · exact .inl rfl
      · exact .inr (.inl rfl)
    cases bt:w.params.followText "set-order" with
    | true=>
      refine h _ _ _ _ _ s.drawn (fun A' hA'=>walks_text bt hA' DI hS.fit) ⟨Heap.get?_push_size _ rfl,Heap.get?_push_of_some _ hD⟩ (Nat.le_refl _) fpl (fun b o e=>Heap.get?_push_of_some _ e) ((pick_perm _ es).map _) (by rw [Heap.get?_push_size _ rfl];simp) fpw
    | false=>
      have hl:t.led=true:=by rw [hS.led];unfold ledOf;rw [bt];rfl
      cases pl:t.plain with
      | true=>
        refine h _ _ _ _ _ s.drawn (fun A' hA'=>walks_plain bt hA' DI hS.fit hl pl hS.ris) ⟨Heap.get?_push_size _ rfl,Heap.get?_push_of_some _ hD⟩ (Nat.le_refl _) fpl (fun b o e=>Heap.get?_push_of_some _ e) (List.Perm.refl _) (by rw [Heap.get?_push_size _ rfl];simp) fpw
      | false=>
        have z1:es.size≤1:=by
          rw [bt,pl] at dr
          have:¬ es.size > 1:=fun c=>dr (by simp [c])
          omega
        refine h _ _ _ _ _ s.drawn (fun A' hA'=>walks_led bt hA' DI hS.fit hl z1) ⟨Heap.get?_push_size _ rfl,Heap.get?_push_of_some _ hD⟩ (Nat.le_refl _) fpl (fun b o e=>Heap.get?_push_of_some _ e) (List.Perm.refl _) (by rw [Heap.get?_push_size _ rfl];simp) fpw
theorem set_collect {D:Addr} {es:Array (Int × Value)} {ep:Nat} {t:SetTable} {S:List Int} {Q:List Value→Shared→Prop} (hD:setAt D es ep t s.heap) (hS:SetS w (ledOf w) es t S) (hh:A.handled=none) (hz:es.size≤1000)
    (h:∀ h' tk d acc,(∀ b o,s.heap.get? b=some o→h'.get? b=some o)→s.heap.objs.size≤h'.objs.size→acc.Perm (es.toList.map (·.2))→Q acc { s with heap:=h',toks:=tk,drawn:=d }) :
    wpAny (model prog w) A (collect (.ref D)) Q E s:=by
  have Dlt:D < s.heap.objs.size:=Heap.lt_size hD
  unfold collect
  refine wpAny_bind (wpAny_runValue (codeAny_builtin F.entry_proto_collect ?_))
  rw [Around.under_plainId F.plain_proto_collect _]
  show wpAny _ A.in1 (newList [] >>= fun l=>again (.builtin "list.__iadd__" ⟨[l,.ref D],[]⟩)) _ _ s
  refine wpAny_bind (wpAny_newObj_type ?_)
  refine wpAny_pure ⟨plainId_quiet F.plain_list_iadd _,codeAny_builtin F.entry_list_iadd ?_⟩
  rw [Around.under_plainId F.plain_list_iadd _]
  show wpAny _ A.in1 (Builtin.List.listExtendWith (.ref s.heap.objs.size) (.ref D) (.ref s.heap.objs.size)) _ _ _
  have hS₁:(s.heap.push { cls:=.type "list", data:=.seq ([]:List Value).toArray }).get? s.heap.objs.size=some { cls:=.type "list", data:=.seq #[] 0 }:=Heap.get?_push_size _ rfl
  have hD1:setAt D es ep t (s.heap.push { cls:=.type "list", data:=.seq ([]:List Value).toArray }):=Heap.get?_push_of_some _ hD
  have szp:(s.heap.push { cls:=.type "list", data:=.seq ([]:List Value).toArray }).objs.size=s.heap.objs.size+1:=Heap.size_push ..
  have old1:∀ b o,s.heap.get? b=some o→(s.heap.push { cls:=.type "list", data:=.seq ([]:List Value).toArray }).get? b=some o:=fun b o e=>Heap.get?_push_of_some _ e
  generalize s.heap.push { cls:=.type "list", data:=.seq ([]:List Value).toArray }=g at hS₁ hD1 szp old1
  have hT:({ s with heap:=g }:Shared).TypeIs (.ref D) "set" := ⟨_,hD1,rfl⟩
  unfold Builtin.List.listExtendWith
  refine wpAny_bind (wpAny_typeOf hT ?_)
  rw [if_neg (by
    have:(s.heap.objs.size == D)=false:=by simpa using Nat.ne_of_gt Dlt
    show ¬ (((s.heap.objs.size == D) || _ || _)=true)
    rw [this];decide)]
  refine wpAny_bind (set_iter (s:={ s with heap:=g }) hD1 hS hz fun I fp St vs h1 d Wk st0 Ige fpl old2 vp hI fpw=>?_)
  have hT2:({ s with heap:=h1,drawn:=d }:Shared).TypeIs (.ref D) "set" := ⟨_,old2 _ _ hD1,rfl⟩
  refine wpAny_bind (wpAny_holding (hint_set hT2 ?_))
  dsimp only
  have Ige':s.heap.objs.size+1≤I:=by rw [← szp];exact Ige
  have vl:vs.length=es.size:=by have:=vp.length_eq;simpa using this
  have hS2:=old2 _ _ hS₁
  have nfp:s.heap.objs.size ∉ fp:=fun hm=>by
    rcases fpw _ hm with z | z | z
    · have z':s.heap.objs.size=I:=z
      rw [← z'] at Ige'
      exact Nat.not_succ_le_self _ Ige'
    · have z':s.heap.objs.size=D:=z
      rw [z'] at Dlt
      exact Nat.lt_irrefl _ Dlt
    · rw [szp] at z
      have z':s.heap.objs.size+1≤s.heap.objs.size:=z
      omega
  have fin:∀ (c0:Nat) (h2:Heap),h2.get? s.heap.objs.size=some { cls:=.type "list", data:=.seq #[] c0 }→(∀ b o,b≠s.heap.objs.size→h1.get? b=some o→h2.get? b=some o) →
      codeAny (model prog w) A (.builtin "list.extend.loop" ⟨[.ref s.heap.objs.size,.ref I,.ref s.heap.objs.size],[]⟩) (fun r s'=>match r with | .ok (.ret v)=>wpAny (model prog w) A (match v with | .ref a=>(do let __do_lift ← load a;match __do_lift.data with | .seq xs _=>pure xs.toList | _=>unsupported "internal:collect") | _=>unsupported "internal:collect") Q E s' | .ok _=>False | .error e=>E e s') { s with heap:=h2,drawn:=d }:=fun c0 h2 hg2 k2=>by
    refine codeAny_extend_loopS (Wk A.in1 hh).toS (by rw [sizeLine_eq];omega) s.heap.objs.size nfp (.ref s.heap.objs.size) es.size 0 _ #[] c0 (Nat.sub_zero _) (Nat.zero_le _) ((Wk A.in1 hh).frame 0 _ _ st0 fun b hb o e=>k2 b o (fun z=>nfp (by rw [← z];exact hb)) e) hg2 ⟨rfl,fun j v hj=>by simp at hj⟩ fun s' acc' c' mv hg3 it=>?_
    obtain ⟨hp',gn',dr',tk',os'⟩:=s'
    have e1:gn'=s.gens:=mv.gens
    have e2:dr'=d:=mv.drawn
    have e3:os'=s.os:=mv.os
    subst e1;subst e2;subst e3
    refine wpAny_bind (wpAny_load hg3 (wpAny_pure ?_))
    have ea:acc'.toList=vs:=by
      apply List.ext_getElem?
      intro i
      rcases Nat.lt_or_ge i es.size with c | c
      · have hi:i < acc'.size:=by rw [it.1];exact c
        have:=it.2 i acc'[i] (Array.getElem?_eq_getElem hi)
        rw [Array.getElem?_toList,Array.getElem?_eq_getElem hi,this]
      · rw [Array.getElem?_toList,Array.getElem?_eq_none (by rw [it.1];exact c),List.getElem?_eq_none (by omega)]
    rw [ea]
    refine h hp' tk' _ vs (fun b o e=>?_) ?_ vp
    · have bl:b≠s.heap.objs.size:=Nat.ne_of_lt (Heap.lt_size e)
      have bI:b≠I:=fun z=>by
        have h1:b < s.heap.objs.size:=Heap.lt_size e
        have h2:b=I:=z
        have h3:I < s.heap.objs.size:=by rw [← h2];exact h1
        exact absurd (Nat.lt_of_lt_of_le h3 (Nat.le_of_succ_le Ige')) (Nat.lt_irrefl _)
      exact mv.heap b o (by simp [bl,bI]) (k2 b o bl (old2 _ _ (old1 _ _ e)))
    · exact Nat.le_of_lt (Heap.lt_size hg3)
  rw [if_pos (by decide +kernel)]
  refine wpAny_bind (wpAny_rule (wpAny_bind ?_))
  unfold Builtin.List.listTouch
  refine wpAny_bind (listUpdate_at (a:=s.heap.objs.size) (s:={ s with heap:=h1,drawn:=d }) hS2 rfl ?_ (Nat.zero_le _) (by show 1≤sizeLine+1;omega))
  have g1:=get?_update_seq hS2 (fun x=>x.push Value.none)
  refine listUpdate_at (a:=s.heap.objs.size) (s:={ s with heap:=h1.update s.heap.objs.size (Obj.mapSeq fun x=>x.push Value.none),drawn:=d }) g1 rfl ?_ (by show 1≤sizeLine;rw [sizeLine_eq];decide) (Nat.zero_le _)
  have g2:=get?_update_seq g1 (fun x=>x.pop)
  refine wpAny_pure ⟨plainId_quiet (by kernel_rfl) _,?_⟩
  exact fin _ _ g2 fun b o n e=>(Heap.get?_update_ne _ _ _ _ n).trans ((Heap.get?_update_ne _ _ _ _ n).trans e)
end
end L2I
namespace L2I
open PySem PySem.Spec PyProof.Rows PySem.W L2
theorem sub_tup_set:isSubtype (.type "tuple") (.type "set")=pure false:=by rw [isSubtype_type];kernel_rfl
theorem sub_tup_frz:isSubtype (.type "tuple") (.type "frozenset")=pure false:=by rw [isSubtype_type];kernel_rfl
section
variable {prog:Program} {w:World} {A:Around} {E:Value→Shared→Prop} {s:Shared}
theorem SetA.keeps {led:Bool} {h h':Heap} {a:Addr} {S:List Int} {n:Nat} (x:SetA w led h a S n) (k:∀ o,h.get? a=some o→h'.get? a=some o):SetA w led h' a S n:=by
  obtain ⟨es,ep,t,e,r⟩:=x
  exact ⟨es,ep,t,k _ e,r⟩
theorem SetA.start {h:Heap} {a:Addr} {led:Bool} (e:h.get? a=some { cls:=.type "set", data:=.set #[] 0 (SetTable.fresh 0 0 led) }):SetA w led h a [] 0:=
  ⟨#[],0,_,e,⟨fun x hx=>by simp at hx,by simp,fun x=>by simp,by rfl,rfl,⟨rfl,rfl⟩⟩,Nat.le_refl _⟩
theorem SetA.typeIs {led:Bool} {a:Addr} {S:List Int} {n:Nat} (x:SetA w led s.heap a S n):s.TypeIs (.ref a) "set" := by
  obtain ⟨es,ep,t,e,r⟩:=x
  exact ⟨_,e,rfl⟩
theorem set_loop {led:Bool} {l I S:Addr} {items:Array Value} {ss:List Int} {R:Result→Shared→Prop} (hv:Vals (ss.map V.int) items.toList) (hh:A.handled=none) (lI:l≠I) (SI:S≠I) (Sl:S≠l) (hn:items.size+1 < scanBound) :
    ∀ (k i:Nat) (s:Shared),items.size - i=k→i≤items.size→s.heap.IsTupleIter I l i→s.heap.IsTuple l items→SetA w led s.heap S (ss.take i) i →
      (∀ h' tk,(∀ b o,b≠I→b≠S→s.heap.get? b=some o→h'.get? b=some o)→SetA w led h' S ss items.size→R (.ok (.ret .none)) { s with heap:=h',toks:=tk }) →
      codeAny (model prog w) A (.builtin "set.update.loop" ⟨[.ref S,.ref I],[]⟩) R s
  | 0,i,s,hk,hi,h1,h2,h3,h=>by
    have ei:i=items.size:=by omega
    subst ei
    refine codeAny_builtin F.entry_set_update_loop ?_
    rw [Around.under_plainId F.plain_set_update_loop _]
    show wpAny _ A.in1 (pyNext (.ref I) >>= _) _ _ s
    have Wk:=Walks.tuple (prog:=prog) (w:=w) (A:=A.in1) hh I l lI items
    have sl:ss.length=items.size:=by have:=hv.length;simpa using this
    refine wpAny_bind (Wk.done s _ _ ⟨h1,h2⟩ fun h' tk kp=>wpAny_pure ?_)
    refine h h' tk (fun b o n1 _ e=>kp b o (by simpa using n1) e) ?_
    have:=h3.keeps (h':=h') fun o e=>kp S o (by simpa using SI) e
    rw [List.take_of_length_le (by omega)] at this
    exact this
  | k+1,i,s,hk,hi,h1,h2,h3,h=>by
    have il:i < items.size:=by omega
    refine codeAny_builtin F.entry_set_update_loop ?_
    rw [Around.under_plainId F.plain_set_update_loop _]
    show wpAny _ A.in1 (pyNext (.ref I) >>= _) _ _ s
    have Wk:=Walks.tuple (prog:=prog) (w:=w) (A:=A.in1) hh I l lI items
    have sl:ss.length=items.size:=by have:=hv.length;simpa using this
    refine wpAny_bind (Wk.item i s _ _ il ⟨h1,h2⟩ fun v h' tk hP hSt kp=>?_)
    obtain ⟨x,tkx,rfl,hx⟩:∃ x tkx,v=.int x tkx∧ss[i]?=some x:=by
      have hx:ss[i]?=some (ss[i]'(by omega)):=List.getElem?_eq_getElem _
      obtain ⟨u,e1,e2⟩:=hv.get (i:=i) (x:=V.int (ss[i]'(by omega))) (by rw [List.getElem?_map,hx];rfl)
      rw [Array.getElem?_toList,hP] at e1
      cases e1
      obtain ⟨tkx,e3⟩:=e2
      exact ⟨_,tkx,e3,hx⟩
    have h3':=h3.keeps (h':=h') fun o e=>kp S o (by simpa using SI) e
    dsimp only
    refine wpAny_bind (wpAny_holding (add_int (s:={ s with heap:=h',toks:=tk }) h3' (by omega) fun b h2' sb hA=>?_))
    refine wpAny_pure ⟨plainId_quiet F.plain_set_update_loop _,?_⟩
    have et:ss.take i++[x]=ss.take (i+1):=by rw [List.take_succ,hx];rfl
    rw [et] at hA
    refine set_loop hv hh lI SI Sl hn k (i+1) { s with heap:=h2',toks:=tk+1 } (by omega) (by omega) ?_ ?_ hA fun h4 tk4 k4 hA4=>?_
    · exact hSt.1.at fun o e=>sb.extBut _ _ (Ne.symm SI) e
    · obtain ⟨o,e,r⟩:=hSt.2
      exact ⟨o,sb.extBut _ _ (Ne.symm Sl) e,r⟩
    · exact h h4 tk4 (fun b o n1 n2 e=>k4 b o n1 n2 (sb.extBut _ _ n2 (kp b o (by simpa using n1) e))) hA4
theorem set_init {D l:Addr} {items:Array Value} {ss:List Int} {Pf:PySem.Fin→Shared→Prop} (hget:s.heap.get? D=some { cls:=.type "set", data:=.set #[] 0 (SetTable.fresh 0 0 (ledOf w)) }) (hl:s.heap.IsTuple l items) (Dl:D≠l) (hv:Vals (ss.map V.int) items.toList) (hh:A.handled=none) (hn:items.size+1 < scanBound)
    (h:∀ h' tk,(∀ b o,b≠D→s.heap.get? b=some o→h'.get? b=some o)→SetA w (ledOf w) h' D ss items.size→Pf (.done (.ret .none)) { s with heap:=h',toks:=tk }) :
    wpAny (model prog w) A (Builtin.«set.__init__» ⟨[.ref D,.ref l],[]⟩) Pf E s:=by
  have hT:s.TypeIs (.ref D) "set" := ⟨_,hget,rfl⟩
  have hTl:s.TypeIs (.ref l) "tuple" := by obtain ⟨o,e,r,_⟩:=hl;exact ⟨o,e,r⟩
  unfold Builtin.«set.__init__»
  refine wpAny_bind ?_
  unfold noKeywords
  show wpAny _ _ (pure ()) _ _ _
  refine wpAny_pure ?_
  dsimp only
  unfold typeNameOfCut shownTypeOf
  refine wpAny_bind (wpAny_bind (wpAny_bind (wpAny_typeOf hT ?_)))
  rw [if_neg (by decide)]
  refine wpAny_pure ?_
  rw [name_set]
  refine wpAny_pure ?_
  refine wpAny_bind ?_
  unfold checkCount
  show wpAny _ _ (pure ()) _ _ _
  refine wpAny_pure ?_
  refine wpAny_bind ?_
  show wpAny _ _ (pure D) _ _ _
  refine wpAny_pure ?_
  refine wpAny_bind ?_
  unfold setUsed
  refine wpAny_bind (wpAny_setState_of hget rfl rfl (wpAny_pure ?_))
  have hfill:(((#[],0,SetTable.fresh 0 0 (ledOf w)):Array (Int × Value) × Nat × SetTable).2.2.fill != 0)=false:=rfl
  rw [hfill,if_neg (by decide)]
  refine wpAny_bind ?_
  unfold Builtin.Frozenset.updateFrom
  refine wpAny_bind ?_
  unfold Builtin.Frozenset.isAnySet
  refine wpAny_bind (wpAny_isInstance hTl sub_tup_set ?_)
  refine wpAny_isInstance hTl sub_tup_frz ?_
  rw [if_neg (by decide)]
  refine wpAny_bind (wpAny_typeOf hTl ?_)
  rw [if_neg (by decide)]
  have lD:l < s.heap.objs.size:=by obtain ⟨o,e,_⟩:=hl;exact Heap.lt_size e
  have DD:D < s.heap.objs.size:=Heap.lt_size hget
  refine wpAny_bind (wpAny_pyIter_tuple hl ?_)
  refine wpAny_bind (wpAny_runValue ?_)
  refine set_loop (led:=ledOf w) (l:=l) hv (show A.handled=none from hh) (Nat.ne_of_lt lD) (Nat.ne_of_lt DD) Dl hn items.size 0 { s with heap:=s.heap.push { cls:=.type "tuple_iterator", data:=.fields #[.ref l,.int 0 0] } } (Nat.sub_zero _) (Nat.zero_le _) ⟨_,Heap.get?_push_size _ rfl,rfl,rfl⟩ (Heap.IsTuple.push hl _) (SetA.start (Heap.get?_push_of_some _ hget)) fun h' tk kp hA=>?_
  refine wpAny_pure (wpAny_pure ?_)
  exact h h' tk (fun b o n e=>kp b o (Nat.ne_of_lt (Heap.lt_size e)) n (Heap.get?_push_of_some _ e)) hA
theorem set_call {l:Addr} {items:Array Value} {ss:List Int} {Q:Value→Shared→Prop} (hl:s.heap.IsTuple l items) (hv:Vals (ss.map V.int) items.toList) (hh:A.handled=none) (hn:items.size+1 < scanBound)
    (h:∀ h' tk,(∀ b o,s.heap.get? b=some o→h'.get? b=some o)→SetA w (ledOf w) h' s.heap.objs.size ss items.size→Q (.ref s.heap.objs.size) { s with heap:=h',toks:=tk }) :
    wpAny (model prog w) A (call (.type "set") [.ref l]) Q E s:=by
  have hlt:l < s.heap.objs.size:=by obtain ⟨o,e,_⟩:=hl;exact Heap.lt_size e
  obtain ⟨c,tl,hmro⟩:=F.called_set.mro
  refine wpAny_call (codeAny_of_tree ?_)
  show wpAny _ _ (pure (Fin.again (.builtin "type.__call__" ⟨[.type "set", .ref l],[]⟩))) _ _ _
  refine wpAny_pure ⟨Code.quiet_builtin _ (by decide +kernel),codeAny_builtin F.entry_type_call ?_⟩
  rw [Around.under_plain (weight_type_call_type "set" [.ref l] []) rfl]
  unfold Builtin.«type.__call__»
  dsimp only
  rw [if_neg (by decide),if_neg (by rw [F.called_set.canCreate];decide)]
  refine wpAny_bind ?_
  rw [F.typeCall_set_1]
  refine wpAny_pure ?_
  refine wpAny_bind ?_
  rw [hmro]
  refine wpAny_pure ?_
  rw [if_neg (by simp)]
  refine wpAny_bind ?_
  rw [F.called_set.made]
  refine wpAny_pure ?_
  dsimp only
  refine wpAny_bind (wpAny_pure ?_)
  refine wpAny_bind (wpAny_holding (wpAny_call ?_))
  refine code_set_new_led _ ?_
  have hget:(s.heap.push { cls:=.type "set", data:=.set #[] 0 (SetTable.fresh 0 0 (ledOf w)) }).get? s.heap.objs.size=some { cls:=.type "set", data:=.set #[] 0 (SetTable.fresh 0 0 (ledOf w)) }:=Heap.get?_push_size _ rfl
  have hT:({ s with heap:=s.heap.push { cls:=.type "set", data:=.set #[] 0 (SetTable.fresh 0 0 (ledOf w)) } }:Shared).TypeIs (.ref s.heap.objs.size) "set" := ⟨_,hget,rfl⟩
  refine wpAny_bind (wpAny_isInstance hT F.called_set.sub ?_)
  rw [if_neg (by decide)]
  refine wpAny_bind (wpAny_holding ?_)
  refine wpAny_callSpecial?_slot hT F.called_set.init (wpAny_call (codeAny_call_builtin F.called_set.init.plain F.entry_set_init (check_set_init_1 hT ?_)))
  refine set_init (s:={ s with heap:=s.heap.push { cls:=.type "set", data:=.set #[] 0 (SetTable.fresh 0 0 (ledOf w)) } }) hget (Heap.IsTuple.push hl _) (Ne.symm (Nat.ne_of_lt hlt)) hv hh hn fun h' tk kp hA=>?_
  dsimp only
  rw [if_neg (by decide)]
  refine wpAny_pure ?_
  exact h h' tk (fun b o e=>kp b o (Nat.ne_of_lt (Heap.lt_size e)) (Heap.get?_push_of_some _ e)) hA
end
end L2I
namespace L2I
open PySem PySem.Spec PyProof.Rows PySem.W L2
section
variable {prog:Program} {w:World} {A:Around} {E:Value→Shared→Prop} {s:Shared}
theorem perm_ints:∀ {es:List (Int × Value)} {acc:List Value},(∀ e∈es,∃ x tk,e=(hashInt x,Value.int x tk))→acc.Perm (es.map (·.2))→∃ ss,IntsAre acc ss∧ss.Perm (es.map keyOf):=fun {es acc} he hp=>by
  let f:Value→Int:=fun v=>match v with | .int x _=>x | _=>0
  have hall:∀ v∈acc,∃ x tk,v=Value.int x tk:=fun v hv=>by
    obtain ⟨e,hm,rfl⟩:=List.mem_map.mp (hp.mem_iff.mp hv)
    obtain ⟨x,tk,rfl⟩:=he e hm
    exact ⟨x,tk,rfl⟩
  have go:∀ (l:List Value),(∀ v∈l,∃ x tk,v=Value.int x tk)→IntsAre l (l.map f):=fun l=>by
    induction l with
    | nil=>intro _;exact .nil
    | cons v r ih=>
      intro hl
      obtain ⟨x,tk,rfl⟩:=hl v List.mem_cons_self
      exact .cons x tk (ih fun u hu=>hl u (List.mem_cons_of_mem _ hu))
  refine ⟨acc.map f,go acc hall,?_⟩
  have:=hp.map f
  rw [List.map_map] at this
  have e2:es.map (f ∘ fun e=>e.2)=es.map keyOf:=List.map_congr_left fun e _=>rfl
  rw [e2] at this
  exact this
theorem set_sorted {D:Addr} {S:List Int} {n:Nat} {Q:Value→Shared→Prop} (hA:SetA w (ledOf w) s.heap D S n) (hh:A.handled=none) (hn:n < 64)
    (h:∀ h' tk d l out ss' e,(∀ b o,s.heap.get? b=some o→h'.get? b=some o)→s.heap.objs.size≤l→h'.get? l=some (seqObj "list" out e)→IntsAre out.toList ss'→ss'.Nodup→(∀ x,x∈ss' ↔ x∈S)→ss'.Pairwise (·≤·)→ss'.length≤n→Q (.ref l) { s with heap:=h',toks:=tk,drawn:=d }) :
    wpAny (model prog w) A (call (.builtin "sorted") [.ref D]) Q E s:=by
  obtain ⟨es,ep,t,hD,hS,hsz⟩:=hA
  refine Calls.call_function_entry kind_sorted plain_sorted entry_sorted (args_sorted1 _) ?_
  unfold Builtin.«sorted»
  refine wpAny_bind (m:=checkCount "sorted" 1 1 _) (wpAny_pure ?_)
  refine wpAny_bind (set_collect (A:=A.in1) hD hS hh (by omega) fun h1 tk d acc old1 sz1 hp=>?_)
  obtain ⟨ss,hv,hpk⟩:=perm_ints hS.ent hp
  have al:acc.length=es.size:=by have:=hp.length_eq;simpa using this
  have fz:acc.length≤sizeLine:=by rw [sizeLine_eq];omega
  refine wpAny_bind (wpAny_newList ?_ fz)
  have hDL:(h1.push (seqObj "list" acc.toArray 0)).get? h1.objs.size=some (seqObj "list" acc.toArray 0):=Heap.get?_push_size _ rfl
  refine wpAny_bind (wpAny_holding (wpAny_call_entry slot_list_sort ⟨_,hDL,rfl⟩ entry_list_sort (list_sort_tree (s:={ s with heap:=h1.push (seqObj "list" acc.toArray 0),toks:=tk,drawn:=d }) hDL hv (by omega) fun out ss' b1 b2 b3=>⟨_,rfl,?_⟩) (args_list_sort _)))
  obtain ⟨e,he⟩:=sortedHeap_at (out:=out) hDL
  refine wpAny_pure ⟨_,rfl,h _ tk d h1.objs.size _ ss' e (fun b o eb=>?_) sz1 he b1 ?_ (fun x=>?_) b3 ?_⟩
  · have lt:=Heap.lt_size (old1 _ _ eb)
    rw [sortedHeap_old (Nat.ne_of_lt lt) (by rw [show (h1.push (seqObj "list" acc.toArray 0)).objs.size=h1.objs.size+1 from Heap.size_push ..];exact Nat.lt_succ_of_lt lt)]
    exact Heap.get?_push_of_some _ (old1 _ _ eb)
  · exact (b2.trans hpk).nodup_iff.mpr hS.nd
  · rw [(b2.trans hpk).mem_iff];exact hS.mem x
  · have t1:(es.toList.map keyOf).length=es.size:=by rw [List.length_map,Array.length_toList]
    have t2:=(b2.trans hpk).length_eq
    exact Nat.le_trans (Nat.le_of_eq (t2.trans t1)) hsz
end
def setO (w:World) (a:Addr) (S:List Int) (n:Nat):HO:=.ext fun h=>SetA w (ledOf w) h a S n
theorem setO_ok {P:Program} {w:World} {H:Hp} {h:Heap} {a:Addr} {S:List Int} {n:Nat} (x:SetA w (ledOf w) h a S n):ObjOk P w H h a (setO w a S n):=by
  refine ⟨x,?_,fun h1 h2 p k=>SetA.keeps p k⟩
  obtain ⟨es,ep,t,e,_⟩:=x
  exact ⟨_,e⟩
section
variable {X:Cx}
theorem setO_at {pins:List (Addr × Obj)} {σ:L2.St} {H:Hp} {s:Shared} (I:Inv X pins σ H s) {a:Addr} {S:List Int} {n:Nat} (h:H a=some (setO X.w a S n)):SetA X.w (ledOf X.w) s.heap a S n:=(I.hok a _ h).1
theorem call_set_tup (w:World) (hc:X.calm=true) (hw:X.w=w:=by rfl):CallR X (.type "set") (fun xs H Q=>∃ (l:Addr) (ss:List Int),xs=[.ref l]∧SqT X.K H l (ss.map V.int)∧ss.length < 4000∧∀ r,H r=none→Q (.ref r) (upd H r (setO w r ss ss.length))):=by
  subst hw
  intro pins s σ H xs us Q I r h
  obtain ⟨l,ss,rfl,hq,h4,q⟩:=h
  obtain ⟨u,rfl,ru⟩:=vals1 r
  cases (show u=Value.ref l from ru)
  obtain ⟨its,rv,ht,hz⟩:=I.tuple hq
  have hlen:=rv.length
  rw [List.length_map] at hlen
  have hh:X.A.handled=none:=I.ok.hd hc
  have hsz:its.toArray.size=its.length:=List.size_toArray ..
  refine set_call (items:=its.toArray) ht (by simpa using rv) hh (by show its.toArray.size+1 < 4096;omega) fun h2 tk2 old2 hA=>?_
  rw [hsz,← hlen] at hA
  exact ⟨.ref s.heap.objs.size,_,I.laid (t':=tk2) (h':=h2) (a:=s.heap.objs.size) (o:=setO X.w s.heap.objs.size ss ss.length) old2 (Nat.le_refl _) (setO_ok hA),rfl,q _ (I.hok.fresh (Nat.le_refl _))⟩
theorem call_sorted_seti (w:World) (hc:X.calm=true) (hw:X.w=w:=by rfl):CallR X (.builtin "sorted") (fun xs H Q=>∃ (a:Addr) (S:List Int) (n:Nat),xs=[.ref a]∧H a=some (setO w a S n)∧n < 64 ∧
    ∀ (ss:List Int) (r:Addr),ss.Nodup→(∀ x,x∈ss ↔ x∈S)→ss.Pairwise (·≤·)→ss.length≤n→H r=none→Q (.ref r) (upd H r (.lst (ss.map V.int)))):=by
  subst hw
  intro pins s σ H xs us Q I r h
  obtain ⟨a,S,n,rfl,ha,n64,q⟩:=h
  obtain ⟨u,rfl,ru⟩:=vals1 r
  cases (show u=Value.ref a from ru)
  have hh:X.A.handled=none:=I.ok.hd hc
  refine set_sorted (setO_at I ha) hh n64 fun h3 tk3 d l3 out ss' e old3 lge hg3 hv3 nd3 mem3 srt3 len3=>?_
  have I3:=I.laid (t':=tk3) (h':=h3) (a:=l3) (o:=.lst (ss'.map V.int)) old3 lge (show ObjOk X.prog X.w _ _ _ (.lst (ss'.map V.int)) from ⟨by rw [List.length_map];exact Nat.le_of_lt (small1000 (by omega)),out.toList,e,intsAre_vals hv3,hg3⟩)
  exact ⟨.ref l3,_,I3.drawn d,rfl,q ss' l3 nd3 mem3 srt3 len3 (I.hok.fresh lge)⟩
end
end L2I
namespace S67
open PySem L2 W7
open W63 (Wr Wi enc dec star)
theorem rise_eq:∀ {a b:List Int},a.Pairwise (· < ·)→b.Pairwise (· < ·)→(∀ x,x∈a ↔ x∈b)→a=b
  | [],[],_,_,_=>rfl
  | [],y :: _,_,_,h=>nomatch (h y).mpr List.mem_cons_self
  | x :: _,[],_,_,h=>nomatch (h x).mp List.mem_cons_self
  | x :: a,y :: b,ha,hb,h=>by
    rw [List.pairwise_cons] at ha hb
    have e:x=y:=by
      rcases List.mem_cons.mp ((h x).mp List.mem_cons_self) with e | m
      · exact e
      · rcases List.mem_cons.mp ((h y).mpr List.mem_cons_self) with e | m2
        · exact e.symm
        · have:=hb.1 x m;have:=ha.1 y m2;omega
    subst e
    congr 1
    refine rise_eq ha.2 hb.2 fun z=>⟨fun hz=>?_,fun hz=>?_⟩
    · rcases List.mem_cons.mp ((h z).mp (List.mem_cons_of_mem _ hz)) with e | m
      · have:=ha.1 z hz;omega
      · exact m
    · rcases List.mem_cons.mp ((h z).mpr (List.mem_cons_of_mem _ hz)) with e | m
      · have:=hb.1 z hz;omega
      · exact m
theorem lt_of {a:List Int} (h:a.Pairwise (·≤·)) (n:a.Nodup):a.Pairwise (· < ·):=(h.and n).imp fun ⟨h1,h2⟩=>by omega
theorem stl_rise (its:List W63.It) (T:Nat→Bool) (n:Nat):((stl its T n).map fun s:Nat=>(s:Int)).Pairwise (· < ·):=
  List.pairwise_map.mpr ((List.pairwise_lt_range.filter _).imp fun h=>by omega)
theorem zero_in (ds:List PyData):inV (V.int 0) ((ds.map fun d=>(if isIntD d=true then 1 else 0:Int)).map V.int)=!ds.all isIntD:=by
  induction ds with
  | nil=>rfl
  | cons d ds ih=>
    unfold inV at ih ⊢
    rw [List.map_cons,List.map_cons,List.any_cons,ih,List.all_cons]
    cases isIntD d <;> simp [eqV]
theorem inV_ints (v:Int) (us:List Int):inV (V.int v) (us.map V.int)=decide (v∈us):=by
  induction us with
  | nil=>rfl
  | cons t T ih=>
    unfold inV at ih ⊢
    rw [List.map_cons,List.any_cons,ih]
    by_cases e:t=v
    · subst e;simp [eqV]
    · have:eqV (.int t) (.int v)=false:=by simp [eqV];omega
      rw [this,Bool.false_or]
      simp [Ne.symm e]
theorem wholes_of {ds:List PyData} (h1:ds.all isIntD=true) (h2:∀ d∈ds,isBlD d=false):∀ d∈ds,wholeD d=true:=fun d hd=>by
  have a:=List.all_eq_true.mp h1 d hd
  have b:=h2 d hd
  cases d <;> first | rfl | (exfalso;simp [isIntD] at a;done) | (exfalso;simp [isBlD] at b;done)
theorem rise_nats:∀ {us:List Int} {n:Nat},us.Pairwise (· < ·)→us.head?=some 0→us.getLast?=some (n:Int)→∃ T:List Nat,us=T.map (fun s:Nat=>(s:Int))∧∀ t∈T,t≤n:=fun {us n} hp h0 hl=>by
  obtain ⟨T,e,h⟩:=nats_of (us:=us) (n:=n) fun u hu=>by
    cases us with
    | nil=>cases h0
    | cons x xs=>
      cases h0
      refine ⟨?_,?_⟩
      · rcases List.mem_cons.mp hu with e | m
        · omega
        · have:=(List.pairwise_cons.mp hp).1 u m;omega
      · rw [List.getLast?_eq_some_iff] at hl
        obtain ⟨ys,e⟩:=hl
        rw [e] at hu hp
        rcases List.mem_append.mp hu with m | m
        · have:=(List.pairwise_append.mp hp).2.2 u m _ (List.mem_singleton.mpr rfl);omega
        · have:=List.mem_singleton.mp m;omega
  exact ⟨T,e,h⟩
section
variable {P:Program} {w:World} {K:PySem.W.Frag} {mg:Str→Option Value} {base:Heap} {k:Nat}
theorem has_lisst (D:Df K mg "_law_is_states" s_law_is_states) (B:Blt7 mg) (G_law_past:Has P w K mg base "_law_past" k ["items_here", "states"] sp_pastT):Has P w K mg base "_law_is_states" (k+1) ["items_here", "thing"] sp_lisst:=by
  refine D.has sc_law_is_states (fun _ _ _ _ _ _ us hl=>match us,hl with | [_,_],_=>rfl) (fun vs H Q E h=>by obtain ⟨l,xs,v,d,rfl,_⟩:=h;rfl) (fun f cdv A outer s H vs Q E hr h=>?_)
  obtain ⟨l,its,v,d,rfl,it,l40,td,few,q⟩:=h
  refine ⟨_,(pss_cons (ps_if (PW.pt (pw_or (pt_not (pt_val (pe_callB call_isinst rfl B.isinstance bt_isinstance (pa_cons (pv 1) (pa_cons (pe_bltn (v:=.ty "tuple") rfl B.tuple_ bt_tuple rfl) pa_nil))))) (pw_or1 (pt_cmpR op_in_seq pe_int (pe_comp rfl (pi_tup (pv 1)) (NL:=["one"]) (ix:=[]) (csc (defScope s_law_is_states) N_law_is_states) (fun cl C s₃ H₃ fp pins=>⟨(pg_name (i:=0) (show List.Nodup (["one"]:List Str) from by decide +kernel) rfl (by first | exact Or.inl rfl | exact Or.inr rfl)),pifs_nil,(pe_callTy call_int1 rfl B.int_ bt_int (pa_cons (pe_callB (call_isinstK K) rfl B.isinstance bt_isinstance (pa_cons (pv 0) (pa_cons (pe_bltn (v:=.ty "int") rfl B.int_ bt_int rfl) pa_nil))) pa_nil))⟩)) (by with_unfolding_all rfl)))))
  (pss_one (ps_ret pe_bl))
  pss_nil)
  (pss_cons (ps_if (PW.pt (pw_or (pt_cmpR (op_ne_nil hr.units0) (pe_comp rfl (pi_tup (pv 1)) (NL:=["one"]) (ix:=[]) (csc (defScope s_law_is_states) N_law_is_states) (fun cl C s₃ H₃ fp pins=>⟨(pg_name (i:=0) (show List.Nodup (["one"]:List Str) from by decide +kernel) rfl (by first | exact Or.inl rfl | exact Or.inr rfl)),(pifs_one (pt_val (pe_callB (call_isinstK K) rfl B.isinstance bt_isinstance (pa_cons (pv 0) (pa_cons (pe_bltn (v:=.ty "bool") rfl B.bool_ bt_bool rfl) pa_nil))))),(pv 0)⟩)) (pe_lst pa_nil) (nomark _)) (pw_or (pt_cmpR op_notIn_seq pe_int (pv 1) (by with_unfolding_all rfl)) (pw_or1 (pt_cmpR (op_ne_lst hr.units0) (pe_callTy call_list_of rfl B.list_ bt_list (pa_cons (pv 1) pa_nil)) (pe_callB (L2I.call_sorted_seti w rfl) rfl B.sorted bt_sorted' (pa_cons (pe_callTy (L2I.call_set_tup w rfl) rfl B.set_ bt_set (pa_cons (pv 1) pa_nil)) pa_nil)) (nomark _))))))
  (pss_one (ps_ret pe_bl))
  pss_nil)
  (pss_one (ps_ret (pe_and (pe_cmpR op_eq (pe_ix ix_tup (pv 1) pe_int (fun _ _=>rfl)) pe_int (nomark _)) (pe_and (pe_cmpR op_lt (pe_ix ix_tup (pv 1) (pe_un un_neg pe_int) (fun _ _=>rfl)) (pe_callB call_len_seq rfl B.len bt_len (pa_cons (pv 0) pa_nil)) (nomark _)) (pe_one (pe_cmpR (op_eq_lst hr.units0) (pe_callH G_law_past hr rfl (pa_cons (pv 0) (pa_cons (pv 1) pa_nil))) (pe_callTy call_list_of rfl B.list_ bt_list (pa_cons (pv 1) pa_nil)) (nomark _))))))))),?_⟩
  have no:¬ LSt (dec its) d→(false=true ↔ LSt (dec its) d):=fun n=>⟨(fun z=>by cases z),fun z=>absurd z n⟩
  have dl:=W63.dec_len its
  obtain ⟨ivs,hiv,ivl,_⟩:=id it
  obtain ⟨t1,a1,a2⟩:=td_tup (K:=K) td
  refine ⟨_,rfl,_,t1, "tuple", _,rfl,a1,a2,_,rfl,?_⟩
  by_cases ct:isTupD d=true
  rotate_left
  · refine iteA (by rw [Bool.eq_false_iff.mpr ct];rfl) ?_
    exact q false H (Same.refl H) (no fun ⟨T,e,_⟩=>ct (by rw [e];rfl))
  refine L2.iteB (by rw [ct];rfl) ?_
  obtain ⟨a,xs,ds,rfl,rfl,ha,tds⟩:=isTup_ex td ct
  have xl:=tds.len
  have x60:=few ds rfl
  refine ⟨_,rfl,a,rfl,⟨_,SqT.of ha⟩,fun ac hac=>?_⟩
  refine comp_tupl (K:=K) (a:=a) (xs:=xs) (by omega) (fun i ys HX=>HX ac=some (.lst ys)∧Same H HX∧ys=((ds.take i).map fun d=>(if isIntD d=true then 1 else 0:Int)).map V.int)
    (fun i ys HX h=>SqT.of (h.2.1 _ _ ha)) (fun i ys HX h=>⟨h.1,by rw [h.2.2,List.length_map,List.length_map,List.length_take];exact Nat.min_le_left _ _⟩) ⟨upd_same,(Same.refl H).new hac,rfl⟩ ?_ ?_
  rotate_left
  · rintro i x ys HX hx ⟨g1,g2,rfl⟩
    obtain ⟨kd,e1,td2⟩:=tds.get hx
    obtain ⟨ti,b1,b2⟩:=td_int (K:=K) (td2.same g2)
    refine ⟨rfl,_,rfl,_,ti, "int", _,rfl,b1,b2,.inr ⟨_,rfl,g1,upd_same,g2.write hac,?_⟩⟩
    rw [List.take_succ,e1,List.map_append,List.map_append];rfl
  rintro ys H2 ⟨g1,s2,rfl⟩
  rw [xl,List.take_length] at g1
  refine ⟨ac,_,rfl,.inl (SqL.of g1),rfl,flat_ints _,_,rfl,?_⟩
  rw [show (if false=true then !inV (V.int 0) ((ds.map fun d=>(if isIntD d=true then 1 else 0:Int)).map V.int) else inV (V.int 0) ((ds.map fun d=>(if isIntD d=true then 1 else 0:Int)).map V.int))=!ds.all isIntD from zero_in ds]
  by_cases c1:ds.all isIntD=true
  rotate_left
  · refine iteA (by rw [Bool.eq_false_iff.mpr c1];rfl) ?_
    refine q false H2 s2 (no fun ⟨T,e,_⟩=>c1 (List.all_eq_true.mpr fun d hd=>?_))
    injection e with e
    rw [e] at hd
    obtain ⟨s,_,rfl⟩:=List.mem_map.mp hd
    rfl
  refine L2.iteB (by rw [c1];rfl) ?_
  refine ⟨_,rfl,a,rfl,⟨_,SqT.of (s2 _ _ ha)⟩,fun ac2 hac2=>?_⟩
  refine comp_tupl (K:=K) (a:=a) (xs:=xs) (by omega) (fun i ys HX=>HX ac2=some (.lst ys)∧Same H2 HX∧ys.length≤i∧(ys=[] ↔ ∀ (j:Nat) (kd:PyData),j < i→ds[j]?=some kd→isBlD kd=false))
    (fun i ys HX h=>SqT.of (h.2.1 _ _ (s2 _ _ ha))) (fun i ys HX h=>⟨h.1,h.2.2.1⟩) ⟨upd_same,(Same.refl H2).new hac2,Nat.le_refl _,⟨fun _ j kd h=>absurd h (Nat.not_lt_zero _),fun _=>rfl⟩⟩ ?_ ?_
  rotate_left
  · rintro i x ys HX hx ⟨g1,g2,gl,ge⟩
    obtain ⟨kd,e1,td2⟩:=tds.get hx
    obtain ⟨ti,b1,b2⟩:=td_bl (K:=K) ((td2.same s2).same g2)
    refine ⟨rfl,_,rfl,_,ti, "bool", _,rfl,b1,b2,_,rfl,?_⟩
    by_cases cb:isBlD kd=true
    · refine iteA cb ⟨_,rfl,g1,upd_same,g2.write hac2,by rw [List.length_append];show ys.length+1≤i+1;omega,⟨fun h=>by simp at h,fun h=>?_⟩⟩
      have:=h i kd (by omega) e1
      rw [cb] at this;cases this
    · refine L2.iteB (Bool.eq_false_iff.mpr cb) ⟨g1,g2,by omega,ge.trans ⟨fun h j kd' hj ek=>?_,fun h j kd' hj ek=>h j kd' (by omega) ek⟩⟩
      rcases Nat.lt_or_ge j i with l | l
      · exact h j kd' l ek
      · have:j=i:=by omega
        subst this
        rw [e1] at ek
        cases ek
        exact Bool.eq_false_iff.mpr cb
  rintro ys H3 ⟨g3,s3,gl,ge⟩
  refine ⟨line_le (show 0≤1000 by omega),fun nl hnl=>?_⟩
  refine ⟨ac2,nl,ys,rfl,rfl,SqL.of (by rw [upd_ne (ne_of_none g3 hnl)];exact g3),SqL.of upd_same,_,rfl,?_⟩
  have s4:Same H (upd H3 nl (.lst [])):=(s2.trans s3).new hnl
  generalize upd H3 nl (.lst [])=H4 at s4
  cases ys with
  | cons y0 yr=>
    refine iteA rfl ?_
    refine q false H4 s4 (no fun ⟨T,e,_⟩=>?_)
    injection e with e
    have:=ge.mpr fun j kd hj ek=>by
      have m:=List.mem_of_getElem? ek
      rw [e] at m
      obtain ⟨s,_,rfl⟩:=List.mem_map.mp m
      rfl
    cases this
  | nil=>
  refine L2.iteB rfl ?_
  obtain ⟨us,rfl,rfl⟩:=wholes_ints tds (wholes_of c1 fun d hd=>by
    obtain ⟨j,hj,ej⟩:=List.getElem_of_mem hd
    exact ge.mp rfl j d (by omega) (by rw [List.getElem?_eq_getElem hj,ej]))
  have ul:us.length≤60:=by rw [List.length_map] at x60;exact x60
  have tin:∀ {T:List Nat},PyData.tuple (us.map .int)=stP T→us=T.map fun s:Nat=>(s:Int):=fun {T} e=>by
    injection e with e
    have e2:us.map PyData.int=(T.map fun s:Nat=>(s:Int)).map PyData.int:=by rw [e,List.map_map];rfl
    exact (List.map_inj_right (fun a b h=>by injection h)).mp e2
  have ha4:=s4 _ _ ha
  refine ⟨_,rfl,a,_,rfl,.inr (SqT.of ha4),rfl,flat_ints _,_,rfl,?_⟩
  rw [show (if true=true then !inV (V.int 0) (us.map V.int) else inV (V.int 0) (us.map V.int))=!decide (0∈us) by rw [if_pos rfl,inV_ints]]
  by_cases z0:(0:Int)∈us
  rotate_left
  · refine iteA (by rw [decide_eq_false z0];rfl) ?_
    refine q false H4 s4 (no fun ⟨T,e,st,_⟩=>z0 ?_)
    rw [tin e]
    exact List.mem_map.mpr ⟨0,st.2.1,rfl⟩
  refine L2.iteB (by rw [decide_eq_true z0];rfl) ?_
  refine ⟨_,rfl,a,_,rfl,.inr (SqT.of ha4),fun r1 hr1=>?_⟩
  generalize hJ:upd H4 r1 _=J1
  have s5:Same H4 J1:=by rw [← hJ];exact (Same.refl H4).new hr1
  have h1:J1 r1=some (.lst (us.map V.int)):=by rw [← hJ];exact upd_same
  clear hJ
  refine ⟨_,rfl,a,us,rfl,SqT.of (s5 _ _ ha4),by omega,fun r2 hr2=>?_⟩
  generalize hJ:upd J1 r2 _=J2
  have s6:Same J1 J2:=by rw [← hJ];exact (Same.refl J1).new hr2
  have h2:J2 r2=some (L2I.setO w r2 us us.length):=by rw [← hJ];exact upd_same
  clear hJ
  refine ⟨r2,us,_,rfl,h2,by omega,fun ss r3 nd mem srt sl hr3=>?_⟩
  generalize hJ:upd J2 r3 _=J3
  have s7:Same J2 J3:=by rw [← hJ];exact (Same.refl J2).new hr3
  have h3:J3 r3=some (.lst (ss.map V.int)):=by rw [← hJ];exact upd_same
  clear hJ
  have sss:=lt_of srt nd
  have sJ:=(s5.trans s6).trans s7
  have s8:=s4.trans sJ
  have ha8:=s8 _ _ ha
  refine ⟨r1,r3,_,_,rfl,rfl,SqL.of (s7 _ _ (s6 _ _ h1)),SqL.of h3,flat_ints _,flat_ints _,_,rfl,?_⟩
  rw [eqVs_ints]
  by_cases es:us=ss
  rotate_left
  · refine iteA (by rw [decide_eq_false es];rfl) ?_
    refine q false J3 s8 (no fun ⟨T,e,st,_⟩=>es (rise_eq ?_ sss fun x=>(mem x).symm))
    rw [tin e,← st.2.2]
    exact stl_rise _ _ _
  refine L2.iteB (by rw [decide_eq_true es];rfl) ?_
  subst es
  cases us with
  | nil=>cases z0
  | cons u0 ur=>
  have at0:atI ((u0 :: ur).map V.int) 0=some (V.int u0):=atI_nat (j:=0) rfl
  refine ⟨_,rfl,a,_,_,_,rfl,rfl,SqT.of ha8,at0,rfl,_,rfl,?_⟩
  rw [dec_int]
  by_cases e0:u0=0
  rotate_left
  · refine L2.iteB (by simpa using e0) ?_
    refine q false J3 s8 (no fun ⟨T,e,st,_⟩=>e0 ?_)
    rcases List.mem_cons.mp z0 with z | z
    · exact z.symm
    · have lt:=(List.pairwise_cons.mp sss).1 0 z
      have:u0∈T.map fun s:Nat=>(s:Int):=by rw [← tin e];exact List.mem_cons_self
      obtain ⟨s,_,rfl⟩:=List.mem_map.mp this
      omega
  refine iteA (by simpa using e0) ?_
  obtain ⟨ul',hul⟩:∃ m,(u0 :: ur).getLast?=some m:=⟨_,List.getLast?_eq_some_getLast (by simp)⟩
  have pos:0 < (u0 :: ur).length:=Nat.succ_pos _
  have atL:atI ((u0 :: ur).map V.int) (-1)=some (.int ul'):=by
    have h:=hul
    rw [List.getLast?_eq_some_iff] at h
    obtain ⟨ys,e⟩:=h
    rw [e,List.map_append];exact atI_last _ _
  refine ⟨_,rfl,_,rfl,a,_,_,_,rfl,rfl,SqT.of ha8,atL,_,rfl,l,_,rfl,.inl (SqL.of (s8 _ _ hiv)),_,_,rfl,rfl,_,rfl,?_⟩
  have mlast:=List.mem_of_getLast? hul
  have nn:∀ u∈(u0 :: ur),0≤u:=fun u hu=>by
    rcases List.mem_cons.mp hu with e | m
    · omega
    · have:=(List.pairwise_cons.mp sss).1 u m;omega
  have l0:=nn _ mlast
  by_cases cl:ul' < (its.length:Int)
  rotate_left
  · refine L2.iteB (decide_eq_false (by rw [ivl];exact cl)) ?_
    refine q false J3 s8 (no fun ⟨T,e,st,o⟩=>?_)
    have m2:=mlast
    rw [tin e] at m2
    obtain ⟨s,hs,es⟩:=List.mem_map.mp m2
    have le:=st.1 s hs
    have:s=(dec its).length:=by omega
    exact o (this ▸ hs)
  refine iteA (decide_eq_true (by rw [ivl];exact cl)) ?_
  obtain ⟨T,eT,hT⟩:=rise_nats (us:=u0 :: ur) (n:=ul'.toNat) sss (by rw [e0];rfl) (by rw [hul];congr 1;omega)
  have eV:(u0 :: ur).map V.int=nV T:=by rw [eT,List.map_map];rfl
  have Tl:T.length≤60:=by rw [eT,List.length_map] at ul;exact ul
  have ha9:J3 a=some (.tup (nV T)):=by rw [← eV];exact ha8
  refine ⟨_,rfl,_,rfl,l,a,its,T,rfl,it.same s8,l40,ha9,by omega,fun t ht=>by have:=hT t ht;omega,fun r4 J4 s9 f9 h9=>?_⟩
  rw [← dl] at h9
  refine ⟨_,rfl,a,_,rfl,.inr (SqT.of (s9 _ _ ha9)),fun r5 hr5=>?_⟩
  have s10:Same J4 (upd J4 r5 (.lst (nV T))):=(Same.refl J4).new hr5
  refine ⟨r4,r5,_,_,rfl,rfl,SqL.of (s10 _ _ h9),SqL.of upd_same,nV_flat _,nV_flat _,?_⟩
  refine q _ _ ((s8.trans s9).trans s10) ?_
  rw [eqVs_nat,decide_eq_true_eq]
  have ed:PyData.tuple ((u0 :: ur).map .int)=stP T:=by rw [eT,List.map_map];rfl
  refine ⟨fun e=>⟨T,ed,⟨fun t ht=>by have:=hT t ht;omega,?_,e⟩,fun m=>by have:=hT _ m;omega⟩,fun ⟨T',e,st,_⟩=>?_⟩
  · rw [eT] at z0
    obtain ⟨s,hs,es⟩:=List.mem_map.mp z0
    have:s=0:=by omega
    exact this ▸ hs
  · have:T=T':=stp_inj (ed.symm.trans e)
    subst this
    exact st.2.2
end
end S67
namespace L2
open PySem PySem.Spec PyProof.Rows PySem.W
section
variable {X:Cx}
theorem tup_mul_same (l:Addr) (x:Value) (n:Nat) (dd:Option Addr) (sl:Array (Option Value)) (t:Tok) :
    Meets (Builtin.«tuple.__mul__» ⟨[.ref l,.int 1 t],[]⟩) (fun _ R s=>s.heap.get? l=some { cls:=.type "tuple", dict:=dd,data:=.seq #[x] n,slots:=sl }∧R (.ok (.ret (.ref l))) s):=
  .of_wp fun prog w A R s h=>by
    obtain ⟨hp,g,d,tk,os⟩:=s
    obtain ⟨hl,h⟩:=h
    have f2:=AutoSeq1.sub_tuple_tuple
    wp_walk using wpAny_loadPart' hl
    exact ⟨_,rfl,h⟩
def rRepV:R2:=fun x y H Q=>∃ a k v,x=.ref a∧y=.int k∧H a=some (.tup [v])∧1≤k∧k≤1000∧∀ r H',Same H H'→H' r=some (.tup (List.replicate k.toNat v))→Q (.ref r) H'
theorem op_repV:OpR X (binaryOp .Mult) rRepV:=by
  intro pins s σ H x y v u Q I rx ry h
  obtain ⟨a,k,z,rfl,rfl,ha,k1,k3,q⟩:=h
  by_cases k2:(1:Int) < k
  · exact op_repT pins s σ H _ _ v u Q I rx ry ⟨a,k,z,rfl,rfl,SqT.of ha,k2,k3,fun p hp=>q p _ ((Same.refl H).new hp) upd_same⟩
  · have e1:k=1:=by omega
    subst e1
    cases rx
    obtain ⟨t,rfl⟩:=ry
    obtain ⟨its,r1,p1,_⟩:=I.tuple (SqT.of ha)
    obtain ⟨u,rfl,ru⟩:=vals1 r1
    obtain ⟨o,ho,hc,hd⟩:=id p1
    obtain ⟨cl,dd,dt,sl⟩:=o
    dsimp only at hc hd
    obtain ⟨n,hd⟩:=hd
    subst hc hd
    refine wpAny_binaryOp_repeat_ref (T := "tuple") (U := "int") (by decide) ⟨_,ho,rfl⟩ (fun s'=>typeIs_int s' 1 t) noFill_tuple_mul PySem.F.fills_int_mul PySem.F.slot_int_rmul repeat_tuple PySem.F.slot_int_index.lookup
      (call_meets PySem.F.slot_int_rmul (typeIs_int s 1 t) PySem.F.entry_int_rmul (PySem.F.args_int_rmul_2 _ _) (int_rmul_tup 1 t a _ n dd sl)
        ⟨ho,rfl,⟨_,ho,rfl⟩,call_meets PySem.F.slot_tuple_mul ⟨_,ho,rfl⟩ PySem.F.entry_tuple_mul (PySem.F.args_tuple_mul_2 _ _) (tup_mul_same a u n dd sl t) ⟨ho,?_⟩⟩)
    exact ⟨.ref a,H,I,rfl,q a H (Same.refl H) ha⟩
end
end L2
namespace S67
open PySem L2 W7
open W63 (Wr Wi enc dec star)
theorem dlk {H H':Hp} {p:Addr} {ps:List Addr} {c:Int} (h:Kd p c H H') (m:p∈ps):Same (dl ps H) (dl ps H'):=dl_keep fun b o n e=>h.keep b o (fun z=>n (z ▸ m)) e
theorem dls {H H':Hp} {ps:List Addr} (h:Same H H'):Same (dl ps H) (dl ps H'):=dl_keep fun b o n e=>h b o e
theorem dlu {H:Hp} {q:Addr} {ps:List Addr} {o:HO} (m:q∈ps):Same (dl ps H) (dl ps (upd H q o)):=dl_keep fun b o n e=>by
  have nb:b≠q:=fun z=>n (z ▸ m)
  rw [upd_ne nb];exact e
def T1 (ps:List Addr) (H:Hp) (v:V):Prop:=∃ d,Td (dl ps H) v d∧Few d
def Tm (ps:List Addr) (H:Hp) (v:V):Prop:=∃ d,Td (dl ps H) v d∧FewM d
section
variable {p r:Addr} {ps:List Addr} {H H':Hp} {v:V} {xs:List V}
theorem T1.on (h:T1 ps H v) (s:Same (dl ps H) (dl ps H')):T1 ps H' v:=let ⟨d,t,g⟩:=h;⟨d,t.same s,g⟩
theorem Tm.on (h:Tm ps H v) (s:Same (dl ps H) (dl ps H')):Tm ps H' v:=let ⟨d,t,g⟩:=h;⟨d,t.same s,g⟩
theorem td_flat (H:Hp) (h:flatV v=true):∃ d,Td H v d∧∀ ds,d≠.tuple ds:=by
  cases v with
  | non=>exact ⟨_,.non,fun _ e=>by cases e⟩
  | bl b=>exact ⟨_,.bl b,fun _ e=>by cases e⟩
  | int i=>exact ⟨_,.int i,fun _ e=>by cases e⟩
  | str z=>exact ⟨_,.str z,fun _ e=>by cases e⟩
  | _=>cases h
theorem tds_flat (H:Hp):∀ {xs:List V},xs.all flatV=true→∃ ds,Tds H xs ds
  | [],_=>⟨[],.nil⟩
  | x :: xs,h=>by
    rw [List.all_cons,Bool.and_eq_true] at h
    obtain ⟨d,t,_⟩:=td_flat H h.1
    obtain ⟨ds,ts⟩:=tds_flat H h.2
    exact ⟨d :: ds,.cons t ts⟩
theorem tds_one:∀ {xs:List V},(∀ x∈xs,T1 ps H x)→∃ ds,Tds (dl ps H) xs ds∧∀ d∈ds,Few d
  | [],_=>⟨[],.nil,fun _ h=>nomatch h⟩
  | x :: xs,h=>by
    obtain ⟨d,t,f⟩:=h x List.mem_cons_self
    obtain ⟨ds,ts,fs⟩:=tds_one fun y hy=>h y (List.mem_cons_of_mem _ hy)
    exact ⟨d :: ds,.cons t ts,fun a ha=>(List.mem_cons.mp ha).elim (fun e=>e ▸ f) (fs a)⟩
theorem t1_flat (h:flatV v=true):T1 ps H v:=let ⟨d,t,n⟩:=td_flat _ h;⟨d,t,fun ds e=>absurd e (n ds)⟩
theorem tm_flat (h:flatV v=true):Tm ps H v:=let ⟨d,t,n⟩:=td_flat _ h;⟨d,t,fun ds e=>absurd e (n ds)⟩
theorem t1_tup (h:H r=some (.tup xs)) (n:r ∉ ps) (f:xs.all flatV=true) (l:xs.length≤60):T1 ps H (.ref r):=by
  obtain ⟨ds,t⟩:=tds_flat (dl ps H) f
  refine ⟨_,.tup (dl_at h n) t,fun ds' e=>?_⟩
  cases e
  have:=t.len
  omega
theorem t1_lst (h:H r=some (.lst xs)) (n:r ∉ ps) (f:xs.all flatV=true):T1 ps H (.ref r):=by
  obtain ⟨ds,t⟩:=tds_flat (dl ps H) f
  exact ⟨_,.lst (dl_at h n) t,fun ds' e=>by cases e⟩
theorem tm_tup (h:H r=some (.tup xs)) (n:r ∉ ps) (l:xs.length≤130) (t:∀ x∈xs,T1 ps H x):Tm ps H (.ref r):=by
  obtain ⟨ds,t,f⟩:=tds_one t
  refine ⟨_,.tup (dl_at h n) t,fun ds' e=>?_⟩
  cases e
  have:=t.len
  exact ⟨by omega,f⟩
theorem tm_lst (h:H r=some (.lst xs)) (n:r ∉ ps) (t:∀ x∈xs,T1 ps H x):Tm ps H (.ref r):=by
  obtain ⟨ds,t,f⟩:=tds_one t
  exact ⟨_,.lst (dl_at h n) t,fun ds' e=>by cases e⟩
theorem tm_dct0 (h:H r=some (.dK [])) (n:r ∉ ps):Tm ps H (.ref r):=
  ⟨_,.dct (ps:=[]) (dl_at h n) .nil .nil,fun ds' e=>by cases e⟩
end
structure Hd (p:Addr) (ps:List Addr) (H:Hp):Prop where
  mem:p∈ps
  lst:∀ q∈ps,∃ zs,H q=some (.lst zs)
theorem Hd.tup {p r:Addr} {ps:List Addr} {H:Hp} {xs:List V} (h:Hd p ps H) (e:H r=some (.tup xs)):r ∉ ps:=fun m=>by
  obtain ⟨zs,e2⟩:=h.lst r m
  rw [e] at e2;cases e2
theorem Hd.new {p r:Addr} {ps:List Addr} {H:Hp} (h:Hd p ps H) (e:H r=none):r ∉ ps:=fun m=>by
  obtain ⟨zs,e2⟩:=h.lst r m
  rw [e] at e2;cases e2
theorem Hd.same {p:Addr} {ps:List Addr} {H H':Hp} (h:Hd p ps H) (s:Same H H'):Hd p ps H':=⟨h.mem,fun q hq=>let ⟨zs,e⟩:=h.lst q hq;⟨zs,s _ _ e⟩⟩
theorem Hd.kd {p:Addr} {ps:List Addr} {H H':Hp} {c:Int} (h:Hd p ps H) (s:Kd p c H H'):Hd p ps H':=⟨h.mem,fun q hq=>by
  by_cases e:q=p
  · obtain ⟨x,y,z,e2,_⟩:=s.deck
    exact ⟨_,e ▸ e2⟩
  · obtain ⟨zs,e2⟩:=h.lst q hq
    exact ⟨zs,s.keep _ _ e e2⟩⟩
theorem lg60 {i:Int} (lo:-1≤i) (hi:i≤60):i.natAbs.log2 < 1920:=by
  by_cases z:i.natAbs=0
  · rw [z];decide
  · exact Nat.lt_trans ((Nat.log2_lt z).mpr (show i.natAbs < 2 ^ 6 by omega)) (by decide)
theorem deck_neT {H:Hp} {p r:Addr} {c:Int} {xs:List V} (h:Deck H p c) (e:H r=some (.tup xs)):r≠p:=by
  rintro rfl
  obtain ⟨_,_,_,e2,_⟩:=h
  rw [e] at e2;cases e2
theorem deck_same {H H':Hp} {p:Addr} {c:Int} (h:Deck H p c) (s:Same H H'):Deck H' p c:=by
  obtain ⟨x,y,z,e,r⟩:=h
  exact ⟨x,y,z,s _ _ e,r⟩
structure En (p m o fu:Addr) (ps:List Addr) (xs fs:List V) (T:List Nat) (c:Int) (vs:List V) (J:Hp):Prop where
  dk:Deck J p c
  hd:Hd p ps J
  hm:J m=some (.tup xs)
  tx:∀ x∈xs,T1 ps J x
  ho:J o=some (.tup (nV T))
  hf:J fu=some (.tup fs)
  bag:∀ v∈vs,T1 ps J v
theorem En.same {p m o fu:Addr} {ps:List Addr} {xs fs:List V} {T:List Nat} {c:Int} {vs:List V} {J J':Hp} (h:En p m o fu ps xs fs T c vs J) (s:Same J J'):En p m o fu ps xs fs T c vs J':=
  ⟨deck_same h.dk s,h.hd.same s,s _ _ h.hm,fun x hx=>(h.tx x hx).on (dls s),s _ _ h.ho,s _ _ h.hf,fun x hx=>(h.bag x hx).on (dls s)⟩
theorem En.add {p m o fu:Addr} {ps:List Addr} {xs fs:List V} {T:List Nat} {c:Int} {vs:List V} {J:Hp} (h:En p m o fu ps xs fs T c vs J) {v:V} (t:T1 ps J v):En p m o fu ps xs fs T c (vs++[v]) J:=
  ⟨h.dk,h.hd,h.hm,h.tx,h.ho,h.hf,fun x hx=>(List.mem_append.mp hx).elim (h.bag x) fun e=>by rw [List.mem_singleton.mp e];exact t⟩
structure Eb (p m fu:Addr) (ps:List Addr) (xs fs:List V) (c:Int) (vs:List V) (J:Hp):Prop where
  dk:Deck J p c
  hd:Hd p ps J
  hm:J m=some (.tup xs)
  tx:∀ x∈xs,T1 ps J x
  hf:J fu=some (.tup fs)
  bag:∀ v∈vs,Tm ps J v
theorem Eb.same {p m fu:Addr} {ps:List Addr} {xs fs:List V} {c:Int} {vs:List V} {J J':Hp} (h:Eb p m fu ps xs fs c vs J) (s:Same J J'):Eb p m fu ps xs fs c vs J':=
  ⟨deck_same h.dk s,h.hd.same s,s _ _ h.hm,fun x hx=>(h.tx x hx).on (dls s),s _ _ h.hf,fun x hx=>(h.bag x hx).on (dls s)⟩
theorem Eb.add {p m fu:Addr} {ps:List Addr} {xs fs:List V} {c:Int} {vs:List V} {J:Hp} (h:Eb p m fu ps xs fs c vs J) {v:V} (t:Tm ps J v):Eb p m fu ps xs fs c (vs++[v]) J:=
  ⟨h.dk,h.hd,h.hm,h.tx,h.hf,fun x hx=>(List.mem_append.mp hx).elim (h.bag x) fun e=>by rw [List.mem_singleton.mp e];exact t⟩
theorem cut_sub {xs:List V} {lo hi:Option Int} {x:V} (h:x∈cutV xs lo hi):x∈xs:=by
  unfold cutV at h
  exact List.mem_of_mem_drop (List.mem_of_mem_take h)
theorem cut_lenV {xs:List V} {lo hi:Option Int}:(cutV xs lo hi).length≤xs.length:=by
  unfold cutV
  rw [List.length_take,List.length_drop]
  omega
theorem cut_last {xs:List V}:(cutV xs (some (-1)) none).length≤1:=by
  have e:HT.sIx xs.length 0 (some (-1))=((-1:Int)+(xs.length:Int)).toNat:=by
    show (if (-1:Int) < 0 then ((-1:Int)+(xs.length:Int)).toNat else min (-1:Int).toNat xs.length)=_
    exact if_pos (by decide)
  unfold cutV
  rw [List.length_take,List.length_drop,e,HT.sIx_none]
  omega
theorem cut_oneV {xs:List V} {i:Int} (h:0≤i):(cutV xs (some i) (some (i+1))).length≤1:=by
  have e:HT.sIx xs.length 0 (some i)=min i.toNat xs.length:=if_neg (by omega)
  have e2:HT.sIx xs.length xs.length (some (i+1))=min (i+1).toNat xs.length:=if_neg (by omega)
  unfold cutV
  rw [List.length_take,List.length_drop,e,e2]
  omega
theorem cut_flat {xs:List V} {lo hi:Option Int} (h:xs.all flatV=true):(cutV xs lo hi).all flatV=true:=
  List.all_eq_true.mpr fun x hx=>List.all_eq_true.mp h x (cut_sub hx)
theorem cat_flat {xs ys:List V} (h:xs.all flatV=true) (g:ys.all flatV=true):(xs++ys).all flatV=true:=by rw [List.all_append,h,g];rfl
theorem rng_flat (lo:Int) (n:Nat):(rngV lo n).all flatV=true:=by
  rw [List.all_eq_true]
  intro x hx
  unfold rngV at hx
  obtain ⟨i,_,rfl⟩:=List.mem_map.mp hx
  rfl
section
variable {P:Program} {w:World} {K:PySem.W.Frag} {mg:Str→Option Value} {base:Heap} {k:Nat}
def sp_lbent:Sp:=fun vs H Q _=>∃ (p m:Addr) (xs:List V) (n:Nat) (c:Int) (ps:List Addr),vs=[.ref p,.ref m,.int (n:Int)]∧Hd p ps H∧Deck H p c∧c < 999000∧H m=some (.tup xs)∧0 < xs.length∧xs.length≤60∧(∀ x∈xs,∃ (a:Addr) (T:List Nat),x=.ref a∧H a=some (.tup (nV T))∧T.length≤41)∧n≤40 ∧
  ∀ (v:V) (H':Hp),Kd p (c+5) H H'→Tm ps H' v→Q v H'
theorem has_lbent (D:Df K mg "_law_bent" s_law_bent) (B:Blt7 mg) (G_law_draw:Has P w K mg base "_law_draw" k ["deck_here", "many"] sp_draw) (G_law_some:Has P w K mg base "_law_some" k ["deck_here", "things"] sp_some):Has P w K mg base "_law_bent" (k+1) ["deck_here", "marks", "many"] sp_lbent:=by
  refine D.has sc_law_bent (fun _ _ _ _ _ _ us hl=>match us,hl with | [_,_,_],_=>rfl) (fun vs H Q E h=>by obtain ⟨p,m,xs,n,c,ps,rfl,_⟩:=h;rfl) (fun f cdv A outer s H vs Q E hr h=>?_)
  obtain ⟨p,m,xs,n,c,ps,rfl,hd,dk,c9,hm,x0,x60,hx,n40,q⟩:=h
  refine ⟨_,(pss_cons (ps_set (i:=3) sc_law_bent.nd rfl (by first | exact Or.inl rfl | exact Or.inr rfl) (pe_callH G_law_draw hr rfl (pa_cons (pv 0) (pa_cons pe_int pa_nil))))
  (pss_cons (ps_set (i:=4) sc_law_bent.nd rfl (by first | exact Or.inl rfl | exact Or.inr rfl) (pe_callH G_law_draw hr rfl (pa_cons (pv 0) (pa_cons (pe_callB call_len_seq rfl B.len bt_len (pa_cons (pv 1) pa_nil)) pa_nil))))
  (pss_cons (ps_set (i:=5) sc_law_bent.nd rfl (by first | exact Or.inl rfl | exact Or.inr rfl) (pe_callH G_law_draw hr rfl (pa_cons (pv 0) (pa_cons (pe_op op_add (pv 2) pe_int) pa_nil))))
  (pss_cons (ps_set (i:=6) sc_law_bent.nd rfl (by first | exact Or.inl rfl | exact Or.inr rfl) (pe_ix ix_tup (pv 1) (pv 4) (fun _ _=>rfl)))
  (pss_cons (ps_set (i:=7) sc_law_bent.nd rfl (by first | exact Or.inl rfl | exact Or.inr rfl) (pe_callTy (call_tuple_rng rfl) rfl B.tuple_ bt_tuple (pa_cons (pe_rng1 rfl B.range (pa_cons (pv 2) pa_nil)) pa_nil)))
  (pss_cons (ps_set (i:=8) sc_law_bent.nd rfl (by first | exact Or.inl rfl | exact Or.inr rfl) (pe_lst (pa_cons (pe_callTy call_tuple_of rfl B.tuple_ bt_tuple (pa_cons (pe_callB (L2I.call_sorted_seti w rfl) rfl B.sorted bt_sorted' (pa_cons (pe_callTy (L2I.call_set_tup w rfl) rfl B.set_ bt_set (pa_cons (pe_op op_catU (pv 6) (pe_tup (pa_cons (pv 5) pa_nil))) pa_nil)) pa_nil)) pa_nil)) (pa_cons (pe_callTy call_tuple_of rfl B.tuple_ bt_tuple (pa_cons (pe_comp rfl (pi_tup (pv 6)) (NL:=["one"]) (ix:=[5]) (csc (defScope s_law_bent) N_law_bent) (fun cl C s₃ H₃ fp pins=>⟨(pg_name (i:=0) (show List.Nodup (["one", "state"]:List Str) from by decide +kernel) rfl (by first | exact Or.inl rfl | exact Or.inr rfl)),(pifs_one (pt_cmpR op_ne (pv 0) (pv 1) (nomark _))),(pv 0)⟩)) pa_nil)) (pa_cons (pe_revT K (pv 6) (po_some (pe_un un_neg pe_int))) (pa_cons (pe_op op_catU (pv 6) (pe_slice sl_tupU (pv 6) (po_some (pe_un un_neg pe_int)) po_none)) (pa_cons (pe_callTy call_list_of rfl B.list_ bt_list (pa_cons (pv 6) pa_nil)) (pa_cons (pe_op op_catU (pe_tup (pa_cons pe_bl pa_nil)) (pe_slice sl_tupU (pv 6) (po_some pe_int) po_none)) (pa_cons (pv 7) (pa_cons (pe_op op_catU (pv 6) (pe_tup (pa_cons (pe_callTy call_str_int rfl B.str_ bt_str (pa_cons (pv 5) pa_nil)) pa_nil))) (pa_cons pe_non pa_nil)))))))))))
  (pss_cons (ps_set (i:=9) sc_law_bent.nd rfl (by first | exact Or.inl rfl | exact Or.inr rfl) (pe_op op_catU (pe_op op_catU (pe_slice sl_tupU (pv 1) po_none (po_some (pv 4))) (pe_tup (pa_cons (pe_ix ix_list (pv 8) (pe_callB (call_min2 rfl) rfl B.min bt_min (pa_cons (pv 3) (pa_cons pe_int pa_nil))) (fun _ _=>rfl)) pa_nil))) (pe_slice sl_tupU (pv 1) (po_some (pe_op op_add (pv 4) pe_int)) po_none)))
  (pss_cons (ps_set (i:=10) sc_law_bent.nd rfl (by first | exact Or.inl rfl | exact Or.inr rfl) (pe_lst (pa_cons (pv 9) (pa_cons (pe_op op_repV (pe_tup (pa_cons (pv 7) pa_nil)) (pe_callB call_len_seq rfl B.len bt_len (pa_cons (pv 1) pa_nil))) (pa_cons (pe_op op_catU (pe_slice sl_tupU (pv 1) po_none (po_some (pv 4))) (pe_slice sl_tupU (pv 1) (po_some (pe_op op_add (pv 4) pe_int)) po_none)) (pa_cons (pe_op op_catU (pv 1) (pe_slice sl_tupU (pv 1) (po_some (pv 4)) (po_some (pe_op op_add (pv 4) pe_int)))) (pa_cons (pe_callTy call_list_of rfl B.list_ bt_list (pa_cons (pv 1) pa_nil)) (pa_cons (pe_callH G_law_some hr rfl (pa_cons (pv 0) (pa_cons (pe_lst (pa_cons pe_non (pa_cons (pe_tup pa_nil) (pa_cons (pe_lst pa_nil) (pa_cons pe_dnewK (pa_cons pe_int (pa_cons pe_str (pa_cons pe_bl pa_nil)))))))) pa_nil))) pa_nil))))))))
  (pss_one (ps_ret (pe_ix ix_list (pv 10) (pe_op op_mul (pe_callH G_law_draw hr rfl (pa_cons (pv 0) (pa_cons pe_int pa_nil))) (pe_callTy call_int1 rfl B.int_ bt_int (pa_cons (pe_cmpR op_gt (pv 3) pe_int (nomark _)) pa_nil))) (fun _ _=>rfl)))))))))))),?_⟩
  have mp:=deck_neT dk hm
  refine ⟨_,rfl,p,12,c,rfl,dk,by omega,by omega,by omega,fun way H1 w0 w1 k1=>?_⟩
  have hm1:=k1.keep _ _ mp hm
  refine ⟨_,rfl,_,rfl,m,_,rfl,.inr (SqT.of hm1),p,_,_,rfl,k1.deck,by omega,by omega,by omega,fun at_ H2 t0 t1 k2=>?_⟩
  refine ⟨_,rfl,_,rfl,_,_,rfl,rfl,p,_,_,rfl,k2.deck,by omega,by omega,by omega,fun st H3 u0 u1 k3=>?_⟩
  have k03:=(k1.trans k2).trans k3
  have hm3:=k03.keep _ _ mp hm
  have al:at_.toNat < xs.length:=by omega
  have eg:xs[at_.toNat]?=some xs[at_.toNat]:=List.getElem?_eq_getElem al
  obtain ⟨o,T,eo,ho,T41⟩:=hx _ (List.getElem_mem al)
  rw [eo] at eg
  have atE:=atI_nat eg
  rw [show ((at_.toNat:Nat):Int)=at_ by omega] at atE
  have op:=deck_neT dk ho
  refine ⟨_,rfl,_,rfl,m,_,_,_,rfl,rfl,SqT.of hm3,atE,?_⟩
  refine ⟨_,rfl,_,rfl,fun r0 hr0=>⟨r0,0,_,rfl,upd_same,⟨by decide,by decide,by omega,by omega⟩,by omega,fun fu hfu=>?_⟩⟩
  generalize hJ0:upd H3 r0 _=J0 at hfu
  have s0:Same H3 J0:=by rw [← hJ0];exact (Same.refl H3).new hr0
  clear hJ0
  generalize hJ:upd J0 fu _=J
  have s1:Same J0 J:=by rw [← hJ];exact (Same.refl J0).new hfu
  have hf:J fu=some (.tup (rngV 0 ((n:Int) - 0).toNat)):=by rw [← hJ];exact upd_same
  clear hJ
  have fl:(rngV 0 ((n:Int) - 0).toNat).length≤40:=by unfold rngV;rw [List.length_map,List.length_range];omega
  have ff:=rng_flat 0 ((n:Int) - 0).toNat
  generalize rngV 0 ((n:Int) - 0).toNat=fs at hf fl ff
  have k4:=(k03.same s0).same s1
  have e0:En p m o fu ps xs fs T (c+1+1+1) [] J:=⟨k4.deck,hd.kd k4,k4.keep _ _ mp hm,fun x hxx=>by
    obtain ⟨a,T',rfl,ha,l⟩:=hx x hxx
    exact (t1_tup ha (hd.tup ha) (nV_flat _) (by rw [nV_len];omega)).on (dlk k4 hd.mem),k4.keep _ _ op ho,hf,fun _ h=>nomatch h⟩
  have nVT:(nV T).length=T.length:=nV_len T
  have mk_ne:∀ {J':Hp} {vs:List V} {r:Addr} {zs:List V},En p m o fu ps xs fs T (c+1+1+1) vs J'→J' r=some (.tup zs)→r ∉ ps:=fun e h=>e.hd.tup h
  clear s0 s1
  refine ⟨_,rfl,_,rfl,line_le (show 1≤1000 by omega),fun a1 ha1=>?_⟩
  generalize hJ:upd J a1 _=J1
  have s1:Same J J1:=by rw [← hJ];exact (Same.refl J).new ha1
  have g1:J1 a1=some (.tup [.int st]):=by rw [← hJ];exact upd_same
  clear hJ
  have e1:=e0.same s1
  refine ⟨o,a1,_,_,rfl,rfl,e1.ho,g1,line_le (by rw [nVT];show T.length+1≤1000;omega),fun a2 J2 s2 g2=>?_⟩
  have e2:=e1.same s2
  have eI:nV T++[V.int st]=((T.map fun s:Nat=>(s:Int))++[st]).map V.int:=by rw [List.map_append,List.map_map];rfl
  rw [eI] at g2
  have il:((T.map fun s:Nat=>(s:Int))++[st]).length=T.length+1:=by rw [List.length_append,List.length_map];rfl
  generalize (T.map fun s:Nat=>(s:Int))++[st]=is at g2 il
  refine ⟨a2,is,rfl,SqT.of g2,by omega,fun a3 ha3=>?_⟩
  generalize hJ:upd J2 a3 _=J3
  have s3:Same J2 J3:=by rw [← hJ];exact (Same.refl J2).new ha3
  have g3:J3 a3=some (L2I.setO w a3 is is.length):=by rw [← hJ];exact upd_same
  clear hJ
  have e3:=e2.same s3
  refine ⟨a3,is,_,rfl,g3,by omega,fun ss a4 nd mem srt sl ha4=>?_⟩
  generalize hJ:upd J3 a4 _=J4
  have s4:Same J3 J4:=by rw [← hJ];exact (Same.refl J3).new ha4
  have g4:J4 a4=some (.lst (ss.map V.int)):=by rw [← hJ];exact upd_same
  clear hJ
  have e4:=e3.same s4
  refine ⟨a4,_,rfl,.inl ⟨SqL.of g4,fun a5 ha5=>?_⟩⟩
  generalize hJ:upd J4 a5 _=J5
  have s5:Same J4 J5:=by rw [← hJ];exact (Same.refl J4).new ha5
  have g5:J5 a5=some (.tup (ss.map V.int)):=by rw [← hJ];exact upd_same
  clear hJ
  have e5:=e4.same s5
  have e5:=e5.add (t1_tup g5 (mk_ne e5 g5) (flat_ints _) (by rw [List.length_map];omega))
  refine ⟨_,rfl,o,rfl,⟨_,SqT.of e5.ho⟩,fun ac hac=>?_⟩
  have acp:=e5.dk.ne hac
  refine comp_tupl (K:=K) (a:=o) (xs:=nV T) (by omega) (fun i ys HX=>HX ac=some (.lst ys)∧Same J5 HX∧ys.length≤i∧ys.all flatV=true)
    (fun i ys HX h=>SqT.of (h.2.1 _ _ e5.ho)) (fun i ys HX h=>⟨h.1,h.2.2.1⟩) ⟨upd_same,(Same.refl J5).new hac,Nat.le_refl _,rfl⟩ ?_ ?_
  rotate_left
  · rintro i x ys HX hxx ⟨h1,h2,hl,hfl⟩
    unfold nV at hxx
    rw [List.getElem?_map] at hxx
    cases eT:T[i]? with
    | none=>rw [eT] at hxx;cases hxx
    | some t=>
      rw [eT] at hxx
      cases hxx
      refine ⟨rfl,_,rfl,_,rfl,rfl,_,rfl,ite2 (fun _=>?_) (fun _=>?_)⟩
      · exact ⟨_,rfl,h1,upd_same,h2.write hac,by rw [List.length_append];show ys.length+1≤i+1;omega,cat_flat hfl rfl⟩
      · exact ⟨h1,h2,by omega,hfl⟩
  rintro ys J6 ⟨g6,s6,l6,f6⟩
  have e6:=e5.same s6
  refine ⟨ac,_,rfl,.inl ⟨SqL.of g6,fun a7 ha7=>?_⟩⟩
  generalize hJ:upd J6 a7 _=J7
  have s7:Same J6 J7:=by rw [← hJ];exact (Same.refl J6).new ha7
  have g7:J7 a7=some (.tup ys):=by rw [← hJ];exact upd_same
  clear hJ
  have e7:=e6.same s7
  have e7:=e7.add (t1_tup g7 (mk_ne e7 g7) f6 (by omega))
  refine ⟨_,rfl,_,rfl,_,rfl,o,_,rfl,rfl,SqT.of e7.ho,fun a8 ha8=>?_⟩
  generalize hJ:upd J7 a8 _=J8
  have s8:Same J7 J8:=by rw [← hJ];exact (Same.refl J7).new ha8
  have g8:J8 a8=some (.tup (nV T).reverse):=by rw [← hJ];exact upd_same
  clear hJ
  have e8:=e7.same s8
  have e8:=e8.add (t1_tup g8 (mk_ne e8 g8) (by rw [List.all_reverse];exact nV_flat _) (by rw [List.length_reverse];omega))
  refine ⟨_,rfl,_,rfl,_,rfl,_,rfl,o,_,rfl,e8.ho,fun a9 J9 s9 g9=>?_⟩
  have e9:=e8.same s9
  have cl:=cut_last (xs:=nV T)
  refine ⟨o,a9,_,_,rfl,rfl,e9.ho,g9,line_le (show _≤1000 by omega),fun a10 J10 s10 g10=>?_⟩
  have e10:=e9.same s10
  have e10:=e10.add (t1_tup g10 (mk_ne e10 g10) (cat_flat (nV_flat _) (cut_flat (nV_flat _))) (by rw [List.length_append];omega))
  refine ⟨_,rfl,o,_,rfl,.inr (SqT.of e10.ho),fun a11 ha11=>?_⟩
  generalize hJ:upd J10 a11 _=J11
  have s11:Same J10 J11:=by rw [← hJ];exact (Same.refl J10).new ha11
  have g11:J11 a11=some (.lst (nV T)):=by rw [← hJ];exact upd_same
  clear hJ
  have e11:=e10.same s11
  have e11:=e11.add (t1_lst g11 (e10.hd.new ha11) (nV_flat _))
  refine ⟨line_le (show 1≤1000 by omega),fun a12 ha12=>?_⟩
  generalize hJ:upd J11 a12 _=J12
  have s12:Same J11 J12:=by rw [← hJ];exact (Same.refl J11).new ha12
  have g12:J12 a12=some (.tup [.bl false]):=by rw [← hJ];exact upd_same
  clear hJ
  have e12:=e11.same s12
  refine ⟨_,rfl,_,rfl,o,_,rfl,e12.ho,fun a13 J13 s13 g13=>?_⟩
  have e13:=e12.same s13
  have cl2:=cut_lenV (xs:=nV T) (lo:=some 1) (hi:=none)
  refine ⟨a12,a13,_,_,rfl,rfl,s13 _ _ g12,g13,line_le (by show 1+_≤1000;omega),fun a14 J14 s14 g14=>?_⟩
  have e14:=e13.same s14
  have e14:=e14.add (t1_tup g14 (mk_ne e14 g14) (cat_flat rfl (cut_flat (nV_flat _))) (by rw [List.length_append];show 1+_≤60;omega))
  have e14:=e14.add (t1_tup e14.hf (mk_ne e14 e14.hf) ff (by omega))
  refine ⟨_,rfl,?_⟩
  refine ⟨_,rfl,_,rfl,_,rfl,lg60 (by omega) (by omega),line_le (show 1≤1000 by omega),fun a15 ha15=>?_⟩
  generalize hJ:upd J14 a15 _=J15
  have s15:Same J14 J15:=by rw [← hJ];exact (Same.refl J14).new ha15
  have g15:J15 a15=some (.tup [.str (toString st)]):=by rw [← hJ];exact upd_same
  clear hJ
  have e15:=e14.same s15
  refine ⟨o,a15,_,_,rfl,rfl,e15.ho,g15,line_le (by rw [nVT];show T.length+1≤1000;omega),fun a16 J16 s16 g16=>?_⟩
  have e16:=e15.same s16
  have e16:=e16.add (t1_tup g16 (mk_ne e16 g16) (cat_flat (nV_flat _) rfl) (by rw [List.length_append,nVT];show _+1≤60;omega))
  have e16:=e16.add (t1_flat (v:=.non) rfl)
  refine ⟨line_le (show 9≤1000 by omega),fun os hos=>?_⟩
  generalize hJ:upd J16 os _=J17
  have s17:Same J16 J17:=by rw [← hJ];exact (Same.refl J16).new hos
  have g17:J17 os=some (.lst [.ref a5,.ref a7,.ref a8,.ref a10,.ref a11,.ref a14,.ref fu,.ref a16,.non]):=by rw [← hJ];exact upd_same
  clear hJ
  have e17:=e16.same s17
  have bag:∀ v∈[V.ref a5,.ref a7,.ref a8,.ref a10,.ref a11,.ref a14,.ref fu,.ref a16,.non],T1 ps J17 v:=e17.bag
  have ol:([V.ref a5,.ref a7,.ref a8,.ref a10,.ref a11,.ref a14,.ref fu,.ref a16,.non]:List V).length=9:=rfl
  generalize [V.ref a5,.ref a7,.ref a8,.ref a10,.ref a11,.ref a14,.ref fu,.ref a16,.non]=on at g17 bag ol
  have b17:Eb p m fu ps xs fs (c+1+1+1) [] J17:=⟨e17.dk,e17.hd,e17.hm,e17.tx,e17.hf,fun _ h=>nomatch h⟩
  have k17:Kd p (c+1+1+1) H J17:=⟨e17.dk,fun b ob nb e=>by
    have:=k4.keep b ob nb e
    exact s17 _ _ (s16 _ _ (s15 _ _ (s14 _ _ (s13 _ _ (s12 _ _ (s11 _ _ (s10 _ _ (s9 _ _ (s8 _ _ (s7 _ _ (s6 _ _ (s5 _ _ (s4 _ _ (s3 _ _ (s2 _ _ (s1 _ _ this))))))))))))))))⟩
  clear e0 e1 e2 e3 e4 e5 e6 e7 e8 e9 e10 e11 e12 e13 e14 e15 e16 e17
  refine ⟨_,rfl,_,rfl,_,rfl,m,_,rfl,b17.hm,fun a1 J1 s1 g1=>?_⟩
  have b1:=b17.same s1
  refine ⟨_,rfl,_,rfl,_,_,rfl,?_⟩
  have mn:∃ j:Nat,(if (8:Int) < way then 8 else way)=(j:Int)∧j < on.length:=by
    refine ⟨(if (8:Int) < way then 8 else way).toNat,?_,?_⟩ <;> split <;> omega
  obtain ⟨j,ej,jl⟩:=mn
  rw [ej]
  have eo9:=atI_nat (List.getElem?_eq_getElem jl)
  have t9:=bag _ (List.getElem_mem jl)
  generalize on[j]=v9 at eo9 t9
  refine ⟨os,_,_,_,rfl,rfl,SqL.of (s1 _ _ g17),eo9,line_le (show 1≤1000 by omega),fun a2 ha2=>?_⟩
  generalize hJ:upd J1 a2 _=J2
  have s2:Same J1 J2:=by rw [← hJ];exact (Same.refl J1).new ha2
  have g2:J2 a2=some (.tup [v9]):=by rw [← hJ];exact upd_same
  clear hJ
  have b2:=b1.same s2
  replace t9:=(t9.on (dls s1)).on (dls s2)
  have cl1:=cut_lenV (xs:=xs) (lo:=none) (hi:=some at_)
  refine ⟨a1,a2,_,_,rfl,rfl,s2 _ _ g1,g2,line_le (by show _+1≤1000;omega),fun a3 J3 s3 g3=>?_⟩
  have b3:=b2.same s3
  replace t9:=t9.on (dls s3)
  refine ⟨_,rfl,_,rfl,_,_,rfl,rfl,_,rfl,m,_,rfl,b3.hm,fun a4 J4 s4 g4=>?_⟩
  have b4:=b3.same s4
  replace t9:=t9.on (dls s4)
  have cl2:=cut_lenV (xs:=xs) (lo:=some (at_+1)) (hi:=none)
  refine ⟨a3,a4,_,_,rfl,rfl,s4 _ _ g3,g4,line_le (by rw [List.length_append];show _+1+_≤1000;omega),fun a5 J5 s5 g5=>?_⟩
  have b5:=b4.same s5
  replace t9:=t9.on (dls s5)
  have c5:∀ x∈cutV xs none (some at_)++[v9]++cutV xs (some (at_+1)) none,T1 ps J5 x:=fun x hx=>by
    rcases List.mem_append.mp hx with hx | hx
    · rcases List.mem_append.mp hx with hx | hx
      · exact b5.tx x (cut_sub hx)
      · rw [List.mem_singleton.mp hx];exact t9
    · exact b5.tx x (cut_sub hx)
  have b5:=b5.add (tm_tup g5 (b5.hd.tup g5) (by rw [List.length_append,List.length_append];show _+1+_≤130;omega) c5)
  have s15:Same J17 J5:=(((s1.trans s2).trans s3).trans s4).trans s5
  have k5:=k17.same s15
  clear b1 b2 b3 b4 s1 s2 s3 s4 s5 c5 g1 g2 g3 g4 t9 s15
  refine ⟨_,rfl,?_⟩
  refine ⟨_,rfl,line_le (show 1≤1000 by omega),fun a6 ha6=>?_⟩
  generalize hJ:upd J5 a6 _=J6
  have s6:Same J5 J6:=by rw [← hJ];exact (Same.refl J5).new ha6
  have g6:J6 a6=some (.tup [.ref fu]):=by rw [← hJ];exact upd_same
  clear hJ
  have b6:=b5.same s6
  refine ⟨_,rfl,m,_,rfl,.inr (SqT.of b6.hm),a6,_,_,rfl,rfl,g6,by omega,by omega,fun a7 J7 s7 g7=>?_⟩
  have b7:=b6.same s7
  have b7:=b7.add (tm_tup g7 (b7.hd.tup g7) (by rw [List.length_replicate];omega) fun x hx=>by
    rw [(List.mem_replicate.mp hx).2]
    exact t1_tup b7.hf (b7.hd.tup b7.hf) ff (by omega))
  refine ⟨_,rfl,_,rfl,_,rfl,m,_,rfl,b7.hm,fun a8 J8 s8 g8=>?_⟩
  have b8:=b7.same s8
  refine ⟨_,rfl,_,rfl,_,_,rfl,rfl,_,rfl,m,_,rfl,b8.hm,fun a9 J9 s9 g9=>?_⟩
  have b9:=b8.same s9
  refine ⟨a8,a9,_,_,rfl,rfl,s9 _ _ g8,g9,line_le (show _≤1000 by omega),fun a10 J10 s10 g10=>?_⟩
  have b10:=b9.same s10
  have b10:=b10.add (tm_tup g10 (b10.hd.tup g10) (by rw [List.length_append];omega) fun x hx=>(List.mem_append.mp hx).elim (fun h=>b10.tx x (cut_sub h)) (fun h=>b10.tx x (cut_sub h)))
  refine ⟨_,rfl,_,rfl,_,rfl,_,rfl,_,rfl,_,_,rfl,rfl,_,rfl,m,_,rfl,b10.hm,fun a11 J11 s11 g11=>?_⟩
  have b11:=b10.same s11
  have cl3:(cutV xs (some at_) (some (at_+1))).length≤1:=cut_oneV t0
  refine ⟨m,a11,_,_,rfl,rfl,b11.hm,g11,line_le (show _≤1000 by omega),fun a12 J12 s12 g12=>?_⟩
  have b12:=b11.same s12
  have b12:=b12.add (tm_tup g12 (b12.hd.tup g12) (by rw [List.length_append];omega) fun x hx=>(List.mem_append.mp hx).elim (fun h=>b12.tx x h) (fun h=>b12.tx x (cut_sub h)))
  refine ⟨_,rfl,m,_,rfl,.inr (SqT.of b12.hm),fun a13 ha13=>?_⟩
  generalize hJ:upd J12 a13 _=J13
  have s13:Same J12 J13:=by rw [← hJ];exact (Same.refl J12).new ha13
  have g13:J13 a13=some (.lst xs):=by rw [← hJ];exact upd_same
  clear hJ
  have b13:=b12.same s13
  have b13:=b13.add (tm_lst g13 (b12.hd.new ha13) b13.tx)
  have k13:=k5.same (((((((s6.trans s7).trans s8).trans s9).trans s10).trans s11).trans s12).trans s13)
  clear b6 b7 b8 b9 b10 b11 b12
  refine ⟨_,rfl,line_le (show 0≤1000 by omega),fun a14 ha14=>?_⟩
  generalize hJ:upd J13 a14 _=J14
  have s14:Same J13 J14:=by rw [← hJ];exact (Same.refl J13).new ha14
  have g14:J14 a14=some (.tup []):=by rw [← hJ];exact upd_same
  clear hJ
  refine ⟨line_le (show 0≤1000 by omega),fun a15 ha15=>?_⟩
  generalize hJ:upd J14 a15 _=J15
  have s15:Same J14 J15:=by rw [← hJ];exact (Same.refl J14).new ha15
  have g15:J15 a15=some (.lst []):=by rw [← hJ];exact upd_same
  clear hJ
  refine fun a16 ha16=>?_
  generalize hJ:upd J15 a16 _=J16
  have s16:Same J15 J16:=by rw [← hJ];exact (Same.refl J15).new ha16
  have g16:J16 a16=some (.dK []):=by rw [← hJ];exact upd_same
  clear hJ
  refine ⟨line_le (show 7≤1000 by omega),fun a17 ha17=>?_⟩
  generalize hJ:upd J16 a17 _=J18
  have s18:Same J16 J18:=by rw [← hJ];exact (Same.refl J16).new ha17
  have g18:J18 a17=some (.lst [.non,.ref a14,.ref a15,.ref a16,.int 0,.str (Str.ofString ""),.bl true]):=by rw [← hJ];exact upd_same
  clear hJ
  have s138:=((s14.trans s15).trans s16).trans s18
  have b18:=b13.same s138
  have hd14:=(b13.same s14).hd
  have hd15:=hd14.same s15
  have bg:∀ v∈[V.non,.ref a14,.ref a15,.ref a16,.int 0,.str (Str.ofString ""),.bl true],Tm ps J18 v:=fun v hv=>by
    simp only [List.mem_cons,List.not_mem_nil,or_false] at hv
    rcases hv with rfl | rfl | rfl | rfl | rfl | rfl | rfl
    · exact tm_flat rfl
    · exact tm_tup (s18 _ _ (s16 _ _ (s15 _ _ g14))) (b13.hd.new ha14) (Nat.zero_le _) (fun _ h=>nomatch h)
    · exact tm_lst (s18 _ _ (s16 _ _ g15)) (hd14.new ha15) (fun _ h=>nomatch h)
    · exact tm_dct0 (s18 _ _ g16) (hd15.new ha16)
    · exact tm_flat rfl
    · exact tm_flat rfl
    · exact tm_flat rfl
  have a17p:a17≠p:=fun e=>(hd15.same s16).new ha17 (e ▸ b18.hd.mem)
  refine ⟨p,_,b18.dk,by omega,.inl ⟨a17,_,rfl,g18,a17p,(by show 0 < 7;decide),(by show 7≤1000;decide),fun v6 J19 hv6 k19=>?_⟩⟩
  have d19:=dlk k19 b18.hd.mem
  have t6:=(bg v6 hv6).on d19
  have hd19:=b18.hd.kd k19
  have bag19:∀ v∈[V.ref a5,.ref a7,.ref a10,.ref a12,.ref a13],Tm ps J19 v:=fun v hv=>(b18.bag v hv).on d19
  have k20:=(k13.same s138).trans k19
  clear bg b13 b18 g14 g15 g16 g18
  refine ⟨line_le (show 6≤1000 by omega),fun a20 ha20=>?_⟩
  generalize hJ:upd J19 a20 _=J20
  have s20:Same J19 J20:=by rw [← hJ];exact (Same.refl J19).new ha20
  have g20:J20 a20=some (.lst [.ref a5,.ref a7,.ref a10,.ref a12,.ref a13,v6]):=by rw [← hJ];exact upd_same
  clear hJ
  have k20:=k20.same s20
  have bag20:∀ v∈[V.ref a5,.ref a7,.ref a10,.ref a12,.ref a13,v6],Tm ps J20 v:=fun v hv=>by
    have:v∈[V.ref a5,.ref a7,.ref a10,.ref a12,.ref a13]++[v6]:=hv
    rcases List.mem_append.mp this with h | h
    · exact (bag19 v h).on (dls s20)
    · rw [List.mem_singleton.mp h];exact t6.on (dls s20)
  have tl:([V.ref a5,.ref a7,.ref a10,.ref a12,.ref a13,v6]:List V).length=6:=rfl
  generalize [V.ref a5,.ref a7,.ref a10,.ref a12,.ref a13,v6]=ths at g20 bag20 tl
  have a20p:a20≠p:=fun e=>hd19.new ha20 (e ▸ hd19.mem)
  refine ⟨_,rfl,_,rfl,p,6,_,rfl,k20.deck,by omega,by omega,by omega,fun z J21 z0 z1 k21=>?_⟩
  refine ⟨_,rfl,_,_,rfl,rfl,.inr ⟨_,rfl,?_⟩⟩
  have mz:∃ jz:Nat,z * (if decide (way > 8)=true then 1 else 0)=(jz:Int)∧jz < ths.length:=by
    cases decide (way > 8)
    · exact ⟨0,by simp,by omega⟩
    · exact ⟨z.toNat,by simp;omega,by omega⟩
  obtain ⟨jz,ejz,jzl⟩:=mz
  refine ⟨_,_,rfl,rfl,.inl ⟨by omega,by omega⟩,?_⟩
  have eat:atI ths (z * (if decide (8 < way)=true then 1 else 0))=some ths[jz]:=by
    rw [show z * (if decide (8 < way)=true then 1 else 0)=(jz:Int) from ejz]
    exact atI_nat (List.getElem?_eq_getElem jzl)
  refine ⟨a20,_,_,_,rfl,rfl,SqL.of (k21.keep _ _ a20p g20),eat,?_⟩
  exact q _ _ ((k20.trans k21).mono (by omega)) ((bag20 _ (List.getElem_mem jzl)).on (dlk k21 hd19.mem))
end
end S67
namespace S67
open PySem L2 W7
open W63 (Wr Wi enc dec star)
open W66 (mks)
theorem W_low {ups:List Int} {lab:List Nat} (ok:TreeOk ups lab) (lw:∀ c∈lab,Lw c):∀ (n i:Nat),i < n→i < ups.length→∀ c∈W ups lab i,Lw c
  | 0,i,h,_=>absurd h (Nat.not_lt_zero _)
  | n+1,i,h,hi=>by
    rw [W_eq ok hi]
    have hc:Lw (lab.getD i 0):=by
      rw [List.getD_eq_getElem?_getD,List.getElem?_eq_getElem (by have:=ok.len;omega)]
      exact lw _ (List.getElem_mem _)
    split
    · exact fun c hc'=>by rw [List.mem_singleton.mp hc'];exact hc
    · rename_i hn
      have lt:=ok.lt hi hn
      intro c hc'
      rcases List.mem_cons.mp hc' with rfl | hc'
      · exact hc
      · exact W_low ok lw n _ (by omega) (by omega) c hc'
theorem words_get {ups:List Int} {lab:Str} {v:V} (h:v∈wordsV ups lab ups.length):∃ j,j < ups.length∧v=.str (mk (W ups lab.cps.toList j)):=by
  obtain ⟨j,hj,rfl⟩:=List.mem_map.mp h
  exact ⟨j,List.mem_range.mp hj,rfl⟩
theorem st_lt {its:List W63.It} {s:Nat} (h:W63.st its s=true):s < its.length:=by
  rcases Nat.lt_or_ge s its.length with l | l
  · exact l
  · unfold W63.st at h
    rw [List.getD_eq_getElem?_getD,List.getElem?_eq_none l] at h
    cases h
theorem shown_of {its:List W63.It} {ups:List Int} {lab:List Nat} {Ts:List (List Nat)} (tok:TreeOk ups lab) (m:MarksL its ups lab Ts) (o:OpenL its lab Ts):W67.Shown its ups lab fun p s=>decide (s∈Ts.getD p []):=by
  have stp:∀ p,p < ups.length→StL its (Ts.getD p [])∧its.length ∉ Ts.getD p []:=fun p hp=>by
    have:Ts.getD p []∈Ts:=by rw [List.getD_eq_getElem?_getD,List.getElem?_eq_getElem (by have:=m.1;omega)];exact List.getElem_mem _
    exact ⟨m.2.1 _ this,o.1 _ this⟩
  refine ⟨fun p hp=>decide_eq_true (stp p hp).1.2.1,fun p s hp h hs=>decide_eq_true ?_,fun p hp=>decide_eq_false (stp p hp).2,fun p t s p0 hp h hb=>decide_eq_true (m.2.2 p p0 hp s (byl_mem.mpr ⟨t,of_decide_eq_true h,hb⟩)),fun T hT=>?_⟩
  · have e:=(stp p hp).1.2.2
    rw [← e]
    refine stl_mem.mpr ⟨by have:=st_lt hs;omega,?_⟩
    rw [W63.cl,Bool.or_eq_true,Bool.and_eq_true]
    exact .inr ⟨W66.cl_of h,hs⟩
  · cases e:W63.cl its T its.length with
    | false=>rfl
    | true=>
      refine absurd (stl_mem.mpr ⟨Nat.lt_succ_self _,W66.cl_mono its.length (fun r _ hr=>?_) e⟩) o.2
      obtain ⟨t,ht,hb⟩:=(hT r).mp hr
      exact decide_eq_true (byl_mem.mpr ⟨t,of_decide_eq_true ht,hb⟩)
def lsT (its:List W63.It) (ups:List Int) (lab:List Nat):List (List Nat):=(List.range ups.length).map (mks its ups lab)
theorem lsT_at {its:List W63.It} {ups:List Int} {lab:List Nat} {p:Nat} (h:p < ups.length):(lsT its ups lab).getD p []=mks its ups lab p:=by
  unfold lsT
  rw [List.getD_eq_getElem?_getD,List.getElem?_map,List.getElem?_range h];rfl
theorem mks_in {its:List W63.It} {ups:List Int} {lab:List Nat} {p s:Nat}:s∈mks its ups lab p ↔ s≤its.length∧W66.mkB its ups lab p s=true:=by
  unfold W66.mks
  rw [List.mem_filter,List.mem_range]
  exact ⟨fun h=>⟨by omega,h.2⟩,fun h=>⟨by omega,h.2⟩⟩
theorem least_of {its:List W63.It} {ups:List Int} {lab:List Nat} (tok:TreeOk ups lab) (h:W67.Shown its ups lab (W66.mkB its ups lab)):MarksL its ups lab (lsT its ups lab)∧OpenL its lab (lsT its ups lab):=by
  refine ⟨⟨by unfold lsT;rw [List.length_map,List.length_range],fun T hT=>?_,fun p p0 hp s hs=>?_⟩,fun T hT hm=>?_,fun hm=>?_⟩
  · obtain ⟨p,hp,rfl⟩:=List.mem_map.mp hT
    have hp:=List.mem_range.mp hp
    refine ⟨fun s hs=>(mks_in.mp hs).1,mks_in.mpr ⟨Nat.zero_le _,h.zero p hp⟩,?_⟩
    unfold stl W66.mks
    refine List.filter_congr fun s hs=>?_
    have hs:=List.mem_range.mp hs
    rw [Bool.eq_iff_iff]
    constructor
    · exact W67.cl_in (V:=W66.mkB its ups lab p) (fun s e=>(mks_in.mp (of_decide_eq_true e)).2) (fun s a b=>h.star p s hp a b) s
    · intro e
      exact W66.cl_of (decide_eq_true (mks_in.mpr ⟨by omega,e⟩))
  · have up:=tok.up p p0 hp
    rw [lsT_at hp] at hs
    rw [lsT_at (by omega)]
    have le:=byl_le hs
    obtain ⟨r,hr,hb⟩:=byl_mem.mp hs
    exact mks_in.mpr ⟨le,h.by_ p r s p0 hp (mks_in.mp hr).2 hb⟩
  · obtain ⟨p,hp,rfl⟩:=List.mem_map.mp hT
    have:=(mks_in.mp hm).2
    rw [h.open_ p (List.mem_range.mp hp)] at this
    cases this
  · have:=h.root (fun s=>decide (s∈byl its ((lsT its ups lab).getD 0 []) (lab.getD 0 0))) fun s=>by
      rw [decide_eq_true_eq,byl_mem,lsT_at tok.pos]
      exact ⟨fun ⟨r,hr,hb⟩=>⟨r,(mks_in.mp hr).2,hb⟩,fun ⟨r,hr,hb⟩=>⟨r,mks_in.mpr ⟨Nat.le_of_lt hb.1,hr⟩,hb⟩⟩
    rw [(stl_mem.mp hm).2] at this
    cases this
def NoneL (its:List W63.It) (ups:List Int) (lab:List Nat):Prop:=∀ d,d < ups.length→∀ j,j≤(W ups lab d).length→W63.D its (W ups lab d) its.length j=false
theorem shownD_none {its:List W63.It} {ups:List Int} {lab:List Nat} {d:PyData} (tok:TreeOk ups lab) (h:ShownD its ups lab d):NoneL its ups lab:=by
  obtain ⟨Ts,_,m,o⟩:=h
  exact fun d hd j hj=>(shown_of tok m o).none tok hd j hj
theorem none_shownD {its:List W63.It} {ups:List Int} {lab:List Nat} (tok:TreeOk ups lab) (h:NoneL its ups lab):ShownD its ups lab (.tuple ((lsT its ups lab).map stP)):=
  ⟨_,rfl,(least_of tok (W67.least_shown tok h)).1,(least_of tok (W67.least_shown tok h)).2⟩
theorem tds_nV (H:Hp):∀ T:List Nat,Tds H (nV T) (T.map fun s:Nat=>PyData.int (s:Int))
  | []=>.nil
  | t :: T=>.cons (.int _) (tds_nV H T)
theorem mks_td {H:Hp} {its:List W63.It} {ups:List Int} {lab:List Nat} {p t:Addr} {ps:List Addr} (hd:Hd p ps H) (h:Mks H t its ups lab) (l40:its.length≤40) (u60:ups.length≤60):∃ xs,H t=some (.tup xs)∧xs.length=ups.length∧(∀ x∈xs,∃ (a:Addr) (T:List Nat),x=.ref a∧H a=some (.tup (nV T))∧T.length≤41)∧Td (dl ps H) (.ref t) (.tuple ((lsT its ups lab).map stP))∧FewM (.tuple ((lsT its ups lab).map stP)):=by
  obtain ⟨xs,ht,xl,at_⟩:=h
  have ml:=fun p=>W66.mks_len its ups lab p
  refine ⟨xs,ht,xl,fun x hx=>?_,.tup (dl_at ht (hd.tup ht)) ?_,fun ds e=>?_⟩
  · obtain ⟨j,hj,ej⟩:=List.getElem_of_mem hx
    obtain ⟨a,e1,e2⟩:=at_ j (by omega)
    rw [List.getElem?_eq_getElem hj,ej] at e1
    exact ⟨a,_,Option.some.inj e1,e2,by have:=ml j;omega⟩
  · have go:∀ n,n≤ups.length→Tds (dl ps H) (xs.take n) ((((List.range n).map (mks its ups lab))).map stP):=fun n=>by
      induction n with
      | zero=>intro _;exact .nil
      | succ n ih=>
        intro hn
        obtain ⟨a,e1,e2⟩:=at_ n hn
        rw [List.take_succ,e1,List.range_succ,List.map_append,List.map_append]
        exact (ih (by omega)).append (.cons (.tup (dl_at e2 (hd.tup e2)) (tds_nV _ _)) .nil)
    have:=go ups.length (Nat.le_refl _)
    rw [← xl,List.take_length,xl] at this
    exact this
  · cases e
    refine ⟨by unfold lsT;rw [List.length_map,List.length_map,List.length_range];omega,fun x hx=>?_⟩
    obtain ⟨T,hT,rfl⟩:=List.mem_map.mp hx
    obtain ⟨q,_,rfl⟩:=List.mem_map.mp hT
    intro ds e
    injection e with e
    rw [← e,List.length_map]
    have:=ml q
    omega
theorem shown_ab:ShownD (dec [(.one 99,false),(.dot,false)]) [-1,0] (Str.ofString "ab").cps.toList (.tuple [stP [0],stP [0]]):=by
  refine ⟨[[0],[0]],rfl,⟨rfl,fun T hT=>?_,fun p p0 hp=>?_⟩,fun T hT=>?_,by decide +kernel⟩
  · have:T=[0]:=by simpa using hT
    subst this
    exact ⟨by decide +kernel,by decide,by decide +kernel⟩
  · have:p=1:=by have:p < 2:=hp;omega
    subst this
    decide +kernel
  · have:T=[0]:=by simpa using hT
    subst this
    decide +kernel
theorem not_shown_a:¬ ShownD (dec [(.one 97,true)]) [-1] (Str.ofString "a").cps.toList (.tuple [stP [0]]):=fun ⟨Ts,e,m,_⟩=>by
  have e2:[[0]]=Ts:=by injection e with e;exact marks_inj e
  subst e2
  have:=(m.2.1 [0] (by simp)).2.2
  revert this
  decide +kernel
theorem inV_bV (f:Nat→Bool) (n:Nat):inV (.bl true) (bV f n)=true ↔ ∃ j,j < n∧f j=true:=by
  unfold inV bV
  rw [List.any_eq_true]
  constructor
  · rintro ⟨x,hx,e⟩
    obtain ⟨j,hj,rfl⟩:=List.mem_map.mp hx
    exact ⟨j,List.mem_range.mp hj,by simpa [eqV] using e⟩
  · rintro ⟨j,hj,e⟩
    exact ⟨_,List.mem_map.mpr ⟨j,List.mem_range.mpr hj,rfl⟩,by simp [eqV,e]⟩
theorem bV_flat (f:Nat→Bool) (n:Nat):(bV f n).all flatV=true:=by
  unfold bV
  rw [List.all_eq_true]
  intro x hx
  obtain ⟨j,_,rfl⟩:=List.mem_map.mp hx
  rfl
theorem a_ok:TreeOk [-1] (Str.ofString "a").cps.toList:=⟨by decide +kernel,by decide,by decide,rfl,fun k h0 h1=>by
  have:k < 1:=h1
  omega⟩
theorem ab_ok:TreeOk [-1,0] (Str.ofString "ab").cps.toList:=⟨by decide +kernel,by decide,by decide,rfl,fun k h0 h1=>by
  have:k=1:=by have:k < 2:=h1;omega
  rw [this];decide⟩
section
variable {P:Program} {w:World} {K:PySem.W.Frag} {mg:Str→Option Value} {base:Heap} {k:Nat}
def sp_law:PySem.W.Frag→Sp:=fun K vs H Q _=>∃ (a:Addr) (ns:List Int),vs=[.ref a]∧SqL K H a (ns.map V.int)∧ns.length≤63∧∀ H',Q (.bl true) H'
theorem ok_law {f:Addr} {fd:FuncData} (F:Fun K "law" "law" s_law f fd) (B:Blt7 mg) (G_law_deck:Has P w K mg base "_law_deck" k ["cell", "at"] sp_deck) (G_law_some:Has P w K mg base "_law_some" k ["deck_here", "things"] sp_some) (G_law_tree:Has P w K mg base "_law_tree" k ["deck_here", "most"] sp_tree)
    (G_law_words:Has P w K mg base "_law_words" k ["tree_here"] sp_words) (G_law_items:Has P w K mg base "_law_items" k ["deck_here", "word", "most"] sp_litems) (G_law_written:Has P w K mg base "_law_written" k ["items_here"] sp_lwrit) (G_law_taken:Has P w K mg base "_law_taken" k ["items_here", "word"] sp_ltak)
    (G_law_least:Has P w K mg base "_law_least" k ["tree_here", "items_here"] sp_least) (G_law_shown:Has P w K mg base "_law_shown" k ["tree_here", "items_here", "thing"] sp_lshown) (G_law_bent:Has P w K mg base "_law_bent" k ["deck_here", "marks", "many"] sp_lbent) (G_marks_show:Has P w K mg base "marks_show" k ["tree", "pattern", "thing"] sp_show) :
    FnOk P w K mg base CX0 (k+1) f fd ["script"] (sp_law K):=by
  refine F.ok sc_law (fun vs H Q E h=>by obtain ⟨a,ns,rfl,_⟩:=h;rfl) (fun cdv A outer s H vs Q E hr h=>?_)
  obtain ⟨a,ns,rfl,hS,h63,q⟩:=h
  refine ⟨_,(pss_cons (ps_for PassesOwn.never rfl (pi_enum rfl B.enumerate (pa_cons (pe_op op_cat (pe_slice sl_list (pv 0) po_none (po_some pe_int)) (pe_lst (pa_cons (pe_callB call_len_seq rfl B.len bt_len (pa_cons (pv 0) pa_nil)) pa_nil))) pa_nil)) (pg_tup rfl (pgs_cons (pg_name (i:=1) sc_law.nd rfl (by first | exact Or.inl rfl | exact Or.inr rfl)) (pgs_cons (pg_name (i:=2) sc_law.nd rfl (by first | exact Or.inl rfl | exact Or.inr rfl)) pgs_nil)))
  (pss_cons (ps_set (i:=3) sc_law.nd rfl (by first | exact Or.inl rfl | exact Or.inr rfl) (pe_callH G_law_deck hr rfl (pa_cons (pv 2) (pa_cons (pv 1) pa_nil))))
  (pss_cons (ps_asg (pe_ix ix_list (pe_lst (pa_cons (pe_tup (pa_cons pe_int (pa_cons pe_int pa_nil))) (pa_cons (pe_callH G_law_some hr rfl (pa_cons (pv 3) (pa_cons (pe_lst (pa_cons (pe_tup (pa_cons pe_int (pa_cons pe_int pa_nil))) (pa_cons (pe_tup (pa_cons pe_int (pa_cons pe_int pa_nil))) pa_nil))) pa_nil))) pa_nil))) (pe_callTy call_int1 rfl B.int_ bt_int (pa_cons (pe_cmpR op_eq (pv 1) pe_int (nomark _)) pa_nil)) (fun _ _=>rfl)) (pg_tup rfl (pgs_cons (pg_name (i:=4) sc_law.nd rfl (by first | exact Or.inl rfl | exact Or.inr rfl)) (pgs_cons (pg_name (i:=5) sc_law.nd rfl (by first | exact Or.inl rfl | exact Or.inr rfl)) pgs_nil))))
  (pss_cons (ps_set (i:=6) sc_law.nd rfl (by first | exact Or.inl rfl | exact Or.inr rfl) (pe_callH G_law_tree hr rfl (pa_cons (pv 3) (pa_cons (pv 4) pa_nil))))
  (pss_cons (ps_set (i:=7) sc_law.nd rfl (by first | exact Or.inl rfl | exact Or.inr rfl) (pe_callH G_law_words hr rfl (pa_cons (pv 6) pa_nil)))
  (pss_cons (ps_set (i:=8) sc_law.nd rfl (by first | exact Or.inl rfl | exact Or.inr rfl) (pe_callH G_law_items hr rfl (pa_cons (pv 3) (pa_cons (pe_callH G_law_some hr rfl (pa_cons (pv 3) (pa_cons (pv 7) pa_nil))) (pa_cons (pv 5) pa_nil)))))
  (pss_cons (ps_set (i:=9) sc_law.nd rfl (by first | exact Or.inl rfl | exact Or.inr rfl) (pe_cmpR (op_eq_nil hr.units0) (pe_comp rfl (pi_list (pv 7)) (NL:=["word"]) (ix:=[8]) (csc (defScope s_law) N_law) (fun cl C s₃ H₃ fp pins=>⟨(pg_name (i:=0) (show List.Nodup (["word", "items_here"]:List Str) from by decide +kernel) rfl (by first | exact Or.inl rfl | exact Or.inr rfl)),(pifs_one (pt_cmpR (op_in_seqK K) pe_bl (pe_callH G_law_taken hr rfl (pa_cons (pv 1) (pa_cons (pv 0) pa_nil))) (by with_unfolding_all rfl))),(pv 0)⟩)) (pe_lst pa_nil) (nomark _)))
  (pss_cons (ps_set (i:=10) sc_law.nd rfl (by first | exact Or.inl rfl | exact Or.inr rfl) (pe_callH G_law_least hr rfl (pa_cons (pv 6) (pa_cons (pv 8) pa_nil))))
  (pss_cons (ps_if (pt_cmpR op_ne (pe_callH G_law_shown hr rfl (pa_cons (pv 6) (pa_cons (pv 8) (pa_cons (pv 10) pa_nil)))) (pv 9) (nomark _))
  (pss_one (ps_ret pe_bl))
  pss_nil)
  (pss_one (ps_for PassesOwn.never rfl (pi_list (pe_op op_cat (pe_lst (pa_cons (pv 10) pa_nil)) (pe_comp rfl (pi_range1 rfl B.range (pa_cons pe_int pa_nil)) (NL:=["turn"]) (ix:=[3,10,8]) (csc (defScope s_law) N_law) (fun cl C s₃ H₃ fp pins=>⟨(pg_name (i:=0) (show List.Nodup (["turn", "deck_here", "marks", "items_here"]:List Str) from by decide +kernel) rfl (by first | exact Or.inl rfl | exact Or.inr rfl)),pifs_nil,(pe_callH G_law_bent hr rfl (pa_cons (pv 1) (pa_cons (pv 2) (pa_cons (pe_callB (call_len_seqK K) rfl B.len bt_len (pa_cons (pv 3) pa_nil)) pa_nil))))⟩)))) (pg_name (i:=11) sc_law.nd rfl (by first | exact Or.inl rfl | exact Or.inr rfl))
  (pss_cons (ps_set (i:=12) sc_law.nd rfl (by first | exact Or.inl rfl | exact Or.inr rfl) (pe_callH G_marks_show hr rfl (pa_cons (pv 6) (pa_cons (pe_callH G_law_written hr rfl (pa_cons (pv 8) pa_nil)) (pa_cons (pv 11) pa_nil)))))
  (pss_cons (ps_set (i:=13) sc_law.nd rfl (by first | exact Or.inl rfl | exact Or.inr rfl) (pe_callH G_law_shown hr rfl (pa_cons (pv 6) (pa_cons (pv 8) (pa_cons (pv 11) pa_nil)))))
  (pss_one (ps_if (PW.pt (pw_or (pt_not (pt_val (pe_callB call_isinst rfl B.isinstance bt_isinstance (pa_cons (pv 12) (pa_cons (pe_bltn (v:=.ty "bool") rfl B.bool_ bt_bool rfl) pa_nil))))) (pw_or (pt_cmpR op_ne (pv 12) (pv 13) (nomark _)) (pw_or1 (PW.pt (pw_and (pt_val (pv 13)) (pw_and1 (pt_not (pt_val (pv 9))))))))))
  (pss_one (ps_ret pe_bl))
  pss_nil)))))))))))))))
  (pss_one (ps_ret (pe_and (pe_cmpR op_isB (pe_callH G_marks_show hr rfl (pa_cons (pe_tup (pa_cons (pe_tup (pa_cons (pe_un un_neg pe_int) (pa_cons pe_int pa_nil))) (pa_cons pe_str pa_nil))) (pa_cons pe_str (pa_cons (pe_tup (pa_cons (pe_tup (pa_cons pe_int pa_nil)) (pa_cons (pe_tup (pa_cons pe_int pa_nil)) pa_nil))) pa_nil)))) pe_bl (nomark _)) (pe_one (pe_cmpR op_isB (pe_callH G_marks_show hr rfl (pa_cons (pe_tup (pa_cons (pe_tup (pa_cons (pe_un un_neg pe_int) pa_nil)) (pa_cons pe_str pa_nil))) (pa_cons pe_str (pa_cons (pe_tup (pa_cons (pe_tup (pa_cons pe_int pa_nil)) pa_nil)) pa_nil)))) pe_bl (nomark _))))))),?_⟩
  refine mid (fun σ H'=>True) ?_ fun E2 nx=>?_
  rotate_left
  · refine ⟨_,rfl,_,rfl,a,_,rfl,hS,fun r1 hr1=>?_⟩
    have sx1:Same H (upd H r1 (.lst (cutV (ns.map V.int) none (some 63)))):=(Same.refl H).new hr1
    refine ⟨_,rfl,a,_,rfl,.inl (sx1.seq hS),(by show 1≤sizeLine;decide),fun r2 hr2=>?_⟩
    have cl:(cutV (ns.map V.int) none (some 63)).length≤63:=Nat.le_trans (cutV_length _ _ _) (by rw [List.length_map];exact h63)
    refine ⟨r1,r2,_,_,rfl,rfl,by rw [upd_ne (ne_of_none upd_same hr2)];exact upd_same,upd_same,?_,fun r3 hr3=>?_⟩
    · show (cutV (ns.map V.int) none (some 63)).length+1≤sizeLine
      exact Nat.le_of_lt (small1000 (by omega))
    have hxi:∀ x∈cutV (ns.map V.int) none (some 63)++[V.int (((ns.map V.int).length:Nat):Int)],∃ n:Int,x=.int n:=fun x hx=>by
      rcases List.mem_append.mp hx with hx | hx
      · obtain ⟨n,_,rfl⟩:=List.mem_map.mp (List.mem_of_mem_drop (List.mem_of_mem_take hx));exact ⟨n,rfl⟩
      · exact ⟨_,by simpa using hx⟩
    have hxl:(cutV (ns.map V.int) none (some 63)++[V.int (((ns.map V.int).length:Nat):Int)]).length≤64:=by rw [List.length_append,List.length_singleton];omega
    generalize cutV (ns.map V.int) none (some 63)++[V.int (((ns.map V.int).length:Nat):Int)]=xs at hxi hxl
    generalize hHx:upd (upd (upd H r1 (.lst (cutV (ns.map V.int) none (some 63)))) r2 (.lst [V.int (((ns.map V.int).length:Nat):Int)])) r3 (.lst xs)=Hx
    have hx3:Hx r3=some (.lst xs):=by rw [← hHx];exact upd_same
    refine ⟨.lst r3,rfl,⟨_,.inl hx3⟩,?_⟩
    refine for_enum (xs:=xs) (fun i σ H'=>∃ o1 o2 o3 o4 o5 o6 o7 o8 o9 o10 o11 o12 o13:Option V,σ=[some (.ref a),o1,o2,o3,o4,o5,o6,o7,o8,o9,o10,o11,o12,o13]∧Same Hx H') ⟨none,none,none,none,none,none,none,none,none,none,none,none,none,rfl,Same.refl _⟩
      (fun i σ H' hi h=>by obtain ⟨_,_,_,_,_,_,_,_,_,_,_,_,_,_,s1⟩:=h;exact .inl (s1 _ _ hx3)) ?_ (fun σ H' _=>nx _ _ trivial)
    rintro i x σ H' p hx ⟨o1,o2,o3,o4,o5,o6,o7,o8,o9,o10,o11,o12,o13,rfl,s1⟩ hp
    have hi:i < xs.length:=(List.getElem?_eq_some_iff.mp hx).1
    obtain ⟨cell,rfl⟩:=hxi x (List.mem_of_getElem? hx)
    refine ⟨p,_,rfl,SqT.of upd_same,rfl,_,_,rfl,_,_,rfl,rfl,?_⟩
    have s2:Same Hx (upd H' p (.tup [.int i,.int cell])):=s1.new hp
    generalize upd H' p (.tup [.int i,.int cell])=H2 at s2
    refine ⟨_,rfl,_,rfl,cell,(i:Int),rfl,fun p1 x1 y1 hp1=>?_⟩
    have dk:Deck (upd H2 p1 (.lst [.int x1,.int y1,.int (40 * (i:Int))])) p1 2520:=⟨_,_,_,upd_same,by omega,by omega⟩
    have s3:Same Hx (upd H2 p1 (.lst [.int x1,.int y1,.int (40 * (i:Int))])):=s2.new hp1
    have hxp:∀ b o,Hx b=some o→b≠p1:=fun b o e=>ne_of_none (s2 b o e) hp1
    generalize upd H2 p1 (.lst [.int x1,.int y1,.int (40 * (i:Int))])=H3 at dk s3
    refine ⟨line_le (show 2≤1000 by omega),fun t1 ht1=>?_⟩
    have k1:Kd p1 2520 H3 (upd H3 t1 (.tup [.int 8,.int 6])):=(Kd.refl dk).new ht1
    have v1:upd H3 t1 (.tup [.int 8,.int 6]) t1=some (.tup [.int 8,.int 6]):=upd_same
    have t1p:t1≠p1:=dk.ne ht1
    show (fun HH=>_) (upd H3 t1 (.tup [.int 8,.int 6]))
    generalize upd H3 t1 (.tup [.int 8,.int 6])=J1 at k1 v1
    refine ⟨_,rfl,line_le (show 2≤1000 by omega),fun t2 ht2=>?_⟩
    have k2:Kd p1 2520 J1 (upd J1 t2 (.tup [.int 60,.int 12])):=(Kd.refl k1.deck).new ht2
    have v2:upd J1 t2 (.tup [.int 60,.int 12]) t2=some (.tup [.int 60,.int 12]):=upd_same
    have t2p:t2≠p1:=k1.deck.ne ht2
    have s12:Same J1 (upd J1 t2 (.tup [.int 60,.int 12])):=(Same.refl J1).new ht2
    replace v1:=s12 _ _ v1
    show (fun HH=>_) (upd J1 t2 (.tup [.int 60,.int 12]))
    generalize upd J1 t2 (.tup [.int 60,.int 12])=J2 at k2 v2 v1 s12
    refine ⟨line_le (show 2≤1000 by omega),fun t3 ht3=>?_⟩
    have k3:Kd p1 2520 J2 (upd J2 t3 (.tup [.int 10,.int 40])):=(Kd.refl k2.deck).new ht3
    have v3:upd J2 t3 (.tup [.int 10,.int 40]) t3=some (.tup [.int 10,.int 40]):=upd_same
    have t3p:t3≠p1:=k2.deck.ne ht3
    have s23:Same J2 (upd J2 t3 (.tup [.int 10,.int 40])):=(Same.refl J2).new ht3
    replace v1:=s23 _ _ v1
    replace v2:=s23 _ _ v2
    show (fun HH=>_) (upd J2 t3 (.tup [.int 10,.int 40]))
    generalize upd J2 t3 (.tup [.int 10,.int 40])=J3 at k3 v3 v1 v2 s23
    refine ⟨line_le (show 2≤1000 by omega),fun r5 hr5=>?_⟩
    have k4:Kd p1 2520 J3 (upd J3 r5 (.lst [.ref t2,.ref t3])):=(Kd.refl k3.deck).new hr5
    have s34:Same J3 (upd J3 r5 (.lst [.ref t2,.ref t3])):=(Same.refl J3).new hr5
    refine ⟨p1,_,k4.deck,by decide,.inl ⟨r5,_,rfl,upd_same,k3.deck.ne hr5,(by show 0 < 2;decide),(by show 2≤1000;decide),fun v J5 hv k5=>?_⟩⟩
    replace v1:=k5.keep _ _ t1p (s34 _ _ v1)
    replace v2:=k5.keep _ _ t2p (s34 _ _ v2)
    replace v3:=k5.keep _ _ t3p (s34 _ _ v3)
    have kk:Kd p1 2521 H3 J5:=((((k1.trans k2).trans k3).trans k4).trans k5).mono (by omega)
    clear k1 k2 k3 k4 k5 s12 s23 s34
    refine ⟨line_le (show 2≤1000 by omega),fun r6 hr6=>?_⟩
    have s6:Same J5 (upd J5 r6 (.lst [.ref t1,v])):=(Same.refl J5).new hr6
    refine ⟨_,rfl,rfl,.inr ⟨_,rfl,?_⟩⟩
    have pick:∃ (tt:Addr) (m1:Int) (m2:Nat),atI [V.ref t1,v] (if decide (V.int (i:Int)=V.int 0)=true then 1 else 0)=some (.ref tt)∧upd J5 r6 (.lst [.ref t1,v]) tt=some (.tup [.int m1,.int (m2:Int)])∧1≤m1∧m1≤60∧m2≤40:=by
      cases decide (V.int (i:Int)=V.int 0)
      · exact ⟨t1,8,6,rfl,s6 _ _ v1,by decide,by decide,by decide⟩
      · simp only [List.mem_cons,List.not_mem_nil,or_false] at hv
        rcases hv with rfl | rfl
        · exact ⟨t2,60,12,rfl,s6 _ _ v2,by decide,by decide,by decide⟩
        · exact ⟨t3,10,40,rfl,s6 _ _ v3,by decide,by decide,by decide⟩
    obtain ⟨tt,m1,m2,pe,pt,m1a,m1b,m2b⟩:=pick
    refine ⟨r6,_,_,_,rfl,rfl,SqL.of upd_same,pe,?_⟩
    refine ⟨tt,_,rfl,SqT.of pt,rfl,_,_,rfl,_,_,rfl,rfl,?_⟩
    replace kk:=kk.same s6
    show (fun HH=>_) (upd J5 r6 (.lst [.ref t1,v]))
    generalize upd J5 r6 (.lst [.ref t1,v])=J6 at kk
    clear pt pe s6 v1 v2 v3
    refine ⟨_,rfl,_,rfl,p1,m1,2521,rfl,kk.deck,by decide,by decide,m1a,m1b,fun t ups lab H5 kd5 tr5 low5=>?_⟩
    have k5:=(kk.trans kd5).mono (show (2521:Int)+250≤2771 by decide)
    obtain ⟨_,_,_,ok⟩:=id tr5
    have m60:=ok.most
    have lpos:=ok.pos
    refine ⟨_,rfl,t,ups,lab,rfl,tr5,fun r7 H6 s6 hr7=>?_⟩
    have wll:(wordsV ups lab ups.length).length=ups.length:=by simp [wordsV]
    have k7:=k5.same s6
    have hr7p:r7≠p1:=ne_deck k7.deck hr7 (lst_strs_ne (fun v hv=>by obtain ⟨j,_,e⟩:=words_get hv;exact ⟨_,e⟩) (by omega))
    refine ⟨_,rfl,_,rfl,_,rfl,p1,_,k7.deck,by omega,.inl ⟨r7,_,rfl,hr7,hr7p,by omega,by omega,fun v H8 hv kd8=>?_⟩⟩
    obtain ⟨wj,wjl,rfl⟩:=words_get hv
    have wle:=W_len ok (wj+1) wj (Nat.lt_succ_self _) wjl
    have wlo:=W_low ok low5 (wj+1) wj (Nat.lt_succ_self _) wjl
    refine ⟨_,rfl,p1,mk (W ups lab.cps.toList wj),m2,_,rfl,kd8.deck,by omega,by omega,by rw [mk_len];omega,wlo,m2b,fun li xs H10 kd10 hli lip lit iok e40 x40=>?_⟩
    have kdt:=kd8.trans kd10
    have kd:=k7.trans kdt
    have tr10:=(tr5.same s6).kd k7.deck kdt
    have hr10:=kdt.keep _ _ hr7p hr7
    have dxl:=W63.dec_len xs
    obtain ⟨ivs,hiv,ivl,_⟩:=id lit
    refine ⟨_,rfl,r7,rfl,⟨_,SqL.of hr10⟩,fun acc hacc=>?_⟩
    refine comp_lst (K:=K) (a:=r7) (xs:=wordsV ups lab ups.length) (by omega) (fun j ys HX=>HX acc=some (.lst ys)∧Same H10 HX∧ys.length≤j∧(ys=[] ↔ ∀ d,d < j→d < ups.length→∀ n,n≤(W ups lab.cps.toList d).length→W63.D (dec xs) (W ups lab.cps.toList d) (dec xs).length n=false))
      (fun j ys HX h=>SqL.of (h.2.1 _ _ hr10)) (fun j ys HX h=>⟨h.1,h.2.2.1⟩) ⟨upd_same,(Same.refl H10).new hacc,Nat.le_refl _,⟨fun _ d h=>absurd h (Nat.not_lt_zero _),fun _=>rfl⟩⟩ ?_ ?_
    rotate_left
    · rintro j x ys HX hx ⟨g1,g2,gl,ge⟩
      have jl:j < ups.length:=by have:=(List.getElem?_eq_some_iff.mp hx).1;omega
      have ex:x=.str (mk (W ups lab.cps.toList j)):=by
        unfold wordsV at hx
        rw [List.getElem?_map,List.getElem?_range jl] at hx
        exact (Option.some.inj hx).symm
      subst ex
      have wl:=W_len ok (j+1) j (Nat.lt_succ_self _) jl
      refine ⟨rfl,_,rfl,_,rfl,li,xs,_,rfl,lit.same g2,x40,by rw [mk_len];omega,fun r H3 s3 f3 h3=>?_⟩
      rw [mk_cps,mk_len,← dxl] at h3
      refine ⟨r,_,rfl,.inl (SqL.of h3),rfl,bV_flat _ _,_,rfl,?_⟩
      have iv:=inV_bV (W63.D (dec xs) (W ups lab.cps.toList j) (dec xs).length) ((W ups lab.cps.toList j).length+1)
      refine ite2 (fun c=>?_) (fun c=>?_)
      · obtain ⟨n,hn,e⟩:=iv.mp c
        refine ⟨_,rfl,s3 _ _ g1,upd_same,(g2.trans s3).write hacc,by rw [List.length_append];show ys.length+1≤j+1;omega,⟨fun h=>by simp at h,fun h=>?_⟩⟩
        rw [h j (by omega) jl n (by omega)] at e
        cases e
      · refine ⟨s3 _ _ g1,g2.trans s3,by omega,ge.trans ⟨fun h d hd hd2 n hn=>?_,fun h d hd=>h d (by omega)⟩⟩
        rcases Nat.lt_or_ge d j with l | l
        · exact h d l hd2 n hn
        · have:d=j:=by omega
          subst this
          exact Bool.eq_false_iff.mpr fun e=>c (iv.mpr ⟨n,by omega,e⟩)
    rintro ys H11 ⟨g11,s11,gl,ge⟩
    rw [wll] at ge
    replace ge:ys=[] ↔ NoneL (dec xs) ups lab.cps.toList:=ge.trans ⟨fun h d hd=>h d hd hd,fun h d _ hd=>h d hd⟩
    refine ⟨line_le (show 0≤1000 by omega),fun nl hnl=>?_⟩
    refine ⟨acc,nl,ys,rfl,rfl,SqL.of (by rw [upd_ne (ne_of_none g11 hnl)];exact g11),SqL.of upd_same,?_⟩
    have s12:Same H10 (upd H11 nl (.lst [])):=s11.new hnl
    generalize upd H11 nl (.lst [])=H12 at s12
    have hn:ys.isEmpty=true ↔ NoneL (dec xs) ups lab.cps.toList:=List.isEmpty_iff.trans ge
    generalize ys.isEmpty=nn at hn
    clear ge gl g11
    refine ⟨_,rfl,_,rfl,t,li,ups,lab,xs,rfl,tr10.same s12,lit.same s12,x40,fun fm H13 s13 f13 mks13=>?_⟩
    have s03:=s12.trans s13
    have kd13:=kd.same s03
    obtain ⟨mv,hmv,mvl,mvt,tdm,few⟩:=mks_td (p:=p1) (ps:=[p1]) ⟨by simp,fun q hq=>by rw [List.mem_singleton.mp hq];obtain ⟨x2,y2,z2,e3,_⟩:=kd13.deck;exact ⟨_,e3⟩⟩ mks13 (by omega) m60
    refine ⟨_,rfl,_,rfl,_,rfl,t,li,ups,lab,xs,.ref fm,_,rfl,tr10.same s03,lit.same s03,x40,tdm.same (dl_same _ _),few,fun b1 H14 s14 hb1=>?_⟩
    have eb1:nn=b1:=by
      rw [Bool.eq_iff_iff,hb1,hn]
      exact ⟨none_shownD ok,shownD_none ok⟩
    subst eb1
    refine ⟨_,rfl,rfl,_,rfl,L2.iteB (by simp) ?_⟩
    have s04:=s03.trans s14
    have kd14:=kd.same s04
    refine ⟨_,rfl,line_le (show 1≤1000 by omega),fun l1 hl1=>?_⟩
    generalize hJ:upd H14 l1 _=H15
    have s15:Same H14 H15:=by rw [← hJ];exact (Same.refl H14).new hl1
    have g15:H15 l1=some (.lst [.ref fm]):=by rw [← hJ];exact upd_same
    clear hJ
    have s05:=s04.trans s15
    have kd15:=kd.same s05
    have l1p:l1≠p1:=kd14.deck.ne hl1
    refine ⟨3,rfl,by decide,by decide,fun ac2 hac2=>?_⟩
    have ac2p:ac2≠p1:=kd15.deck.ne hac2
    have mks15:=(mks13.same s14).same s15
    have hm15:=s15 _ _ (s14 _ _ hmv)
    have fmp:fm≠p1:=deck_neT kd13.deck hmv
    refine comp_by 3 (by decide) (fun j ys HX=>HX ac2=some (.lst ys)∧Kd p1 (4000+5 * j) H15 HX∧ys.length=j∧∀ y∈ys,Tm [ac2,p1] HX y)
      (fun j ys HX h=>⟨h.1,Nat.le_of_eq h.2.2.1⟩) ⟨upd_same,((Kd.refl kd15.deck).new hac2).mono (by omega),rfl,fun _ h=>nomatch h⟩ ?_ ?_
    rotate_left
    · rintro j ys HX hj ⟨g1,g2,g3,g4⟩
      refine ⟨hj,?_⟩
      rintro x HX' ⟨rfl,rfl⟩
      have hdX:Hd p1 [ac2,p1] HX':=⟨by simp,fun q hq=>by
        simp only [List.mem_cons,List.not_mem_nil,or_false] at hq
        rcases hq with rfl | rfl
        · exact ⟨_,g1⟩
        · obtain ⟨x2,y2,z2,e3,_⟩:=g2.deck;exact ⟨_,e3⟩⟩
      refine ⟨rfl,_,rfl,_,rfl,_,rfl,li,_,rfl,.inl (SqL.of (g2.keep _ _ lip (s05 _ _ hiv))),p1,fm,mv,ivs.length,_,[ac2,p1],rfl,hdX,g2.deck,by omega,g2.keep _ _ fmp hm15,by omega,by omega,fun x hx=>?_,by omega,fun v HY kY tY=>?_⟩
      · obtain ⟨a',T,e1,e2,e3⟩:=mvt x hx
        exact ⟨a',T,e1,g2.keep _ _ (deck_neT kd13.deck e2) (s15 _ _ (s14 _ _ e2)),e3⟩
      · refine ⟨kY.keep _ _ ac2p g1,upd_same,((g2.trans kY).mono (by omega)).write hac2 ac2p,by rw [List.length_append,g3];rfl,fun y hy=>Tm.on ?_ (dlu (by simp))⟩
        rcases List.mem_append.mp hy with hy | hy
        · exact (g4 y hy).on (dlk kY (by simp))
        · rw [List.mem_singleton.mp hy];exact tY
    rintro ys H16 ⟨g1,g2,g3,g4⟩
    refine ⟨Nat.le_refl _,l1,ac2,_,_,rfl,rfl,g2.keep _ _ l1p g15,g1,by rw [g3];exact line_le (show 1+3≤1000 by omega),fun l3 hl3=>?_⟩
    generalize hJ:upd H16 l3 _=H17
    have s17:Same H16 H17:=by rw [← hJ];exact (Same.refl H16).new hl3
    have g17:H17 l3=some (.lst ([.ref fm]++ys)):=by rw [← hJ];exact upd_same
    clear hJ
    have k17:=kd15.trans (g2.same s17)
    have k57:=g2.same s17
    have all:∀ v∈[V.ref fm]++ys,∃ d,Td H17 v d∧FewM d:=fun v hv=>by
      rcases List.mem_append.mp hv with h | h
      · rw [List.mem_singleton.mp h]
        exact ⟨_,((tdm.same (dls (s14.trans s15))).same (dlk k57 (by simp))).same (dl_same _ _),few⟩
      · obtain ⟨d,t,f⟩:=g4 v h
        exact ⟨d,(t.same (dl_same _ _)).same s17,f⟩
    have tl:([V.ref fm]++ys).length=4:=by rw [List.length_append,g3];rfl
    generalize [V.ref fm]++ys=ths at g17 all tl
    have tr17:=(tr10.same s05).kd kd15.deck k57
    have lit17:LIts H17 li xs:=(lit.same s05).kd k57 lip kd15.deck
    have sx17:Same Hx H17:=fun b o e=>k17.keep b o (hxp b o e) (s3 b o e)
    refine ⟨l3,rfl,⟨_,SqL.of g17⟩,?_⟩
    refine for_list (K:=K) (xs:=ths) (fun d σ HX=>∃ o11 o12 o13:Option V,σ=[some (.ref a),some (.int i),some (.int cell),some (.ref p1),some (.int m1),some (.int (m2:Int)),some (.ref t),some (.ref r7),some (.ref li),some (.bl nn),some (.ref fm),o11,o12,o13]∧Same H17 HX) ⟨_,_,_,rfl,Same.refl _⟩ (fun d σ HX _ h=>by obtain ⟨_,_,_,_,h⟩:=h;exact SqL.of (h _ _ g17)) ?_ ?_
    rotate_left
    · rintro σ HX ⟨o11,o12,o13,rfl,sX⟩
      exact ⟨_,_,_,_,_,_,_,_,_,_,_,_,_,rfl,sx17.trans sX⟩
    rintro d x σ HX hx ⟨o11',o12',o13',rfl,sX⟩
    obtain ⟨dd,td,fw⟩:=all x (List.mem_of_getElem? hx)
    have trX:=tr17.same sX
    have litX:=lit17.same sX
    have tdX:=td.same sX
    refine ⟨_,rfl,_,rfl,li,xs,rfl,litX,x40,e40,fun HY sY=>?_⟩
    refine ⟨_,rfl,t,ups,lab,xs,x,dd,rfl,trX.same sY,iok,e40,x40,tdX.same sY,fw,fun b HZ sZ hb=>?_⟩
    have sYZ:=sY.trans sZ
    refine ⟨_,rfl,_,rfl,_,rfl,t,li,ups,lab,xs,x,dd,rfl,trX.same sYZ,litX.same sYZ,x40,tdX.same sYZ,fw,fun b2 HV sV hb2=>?_⟩
    have ebb:b=b2:=by rw [Bool.eq_iff_iff,hb,hb2]
    subst ebb
    have sF:=(sX.trans sYZ).trans sV
    refine ⟨_,rfl,_,_, "bool", true,rfl,.bl _,by rfl,_,rfl,iteF ?_⟩
    refine ⟨_,rfl,_,rfl,rfl,_,rfl,L2.iteB (by simp) ?_⟩
    cases b with
    | false=>exact ⟨_,rfl,_,rfl,iteF (iteF ⟨_,_,_,rfl,sF⟩)⟩
    | true=>
      have nt:=hn.mpr (shownD_none ok (hb.mp rfl))
      subst nt
      exact ⟨_,rfl,_,rfl,iteT ⟨_,rfl,_,rfl,iteF ⟨_,_,_,rfl,sF⟩⟩⟩
  rintro σ H' -
  refine ⟨_,rfl,line_le (show 2≤1000 by omega),fun t1 ht1=>⟨line_le (show 2≤1000 by omega),fun t2 ht2=>?_⟩⟩
  generalize hJ1:upd H' t1 _=J1 at ht2
  have v1:J1 t1=some (.tup [.int (-1),.int 0]):=by rw [← hJ1];exact upd_same
  generalize hJ2:upd J1 t2 _=J2
  have s2:Same J1 J2:=by rw [← hJ2];exact (Same.refl J1).new ht2
  have v2:J2 t2=some (.tup [.ref t1,.str (Str.ofString "ab")]):=by rw [← hJ2];exact upd_same
  clear hJ1 hJ2
  refine ⟨line_le (show 1≤1000 by omega),fun t3 ht3=>?_⟩
  generalize hJ3:upd J2 t3 _=J3
  have s3:Same J2 J3:=by rw [← hJ3];exact (Same.refl J2).new ht3
  have v3:J3 t3=some (.tup [.int 0]):=by rw [← hJ3];exact upd_same
  clear hJ3
  refine ⟨line_le (show 1≤1000 by omega),fun t4 ht4=>?_⟩
  generalize hJ4:upd J3 t4 _=J4
  have s4:Same J3 J4:=by rw [← hJ4];exact (Same.refl J3).new ht4
  have v4:J4 t4=some (.tup [.int 0]):=by rw [← hJ4];exact upd_same
  clear hJ4
  refine ⟨line_le (show 2≤1000 by omega),fun t5 ht5=>?_⟩
  generalize hJ5:upd J4 t5 _=J5
  have s5:Same J4 J5:=by rw [← hJ5];exact (Same.refl J4).new ht5
  have v5:J5 t5=some (.tup [.ref t3,.ref t4]):=by rw [← hJ5];exact upd_same
  clear hJ5
  have s25:=(s3.trans s4).trans s5
  refine ⟨t2,[-1,0],Str.ofString "ab", [(.one 99,false),(.dot,false)],.ref t5,.tuple [stP [0],stP [0]],by rw [show Str.ofString "c." = mk (enc [(.one 99,false),(.dot,false)]) by decide +kernel];rfl,⟨t1,s25 _ _ v2,s25 _ _ (s2 _ _ v1),ab_ok⟩,fun x hx=>?_,by decide +kernel,by decide,
    .tup v5 (.cons (.tup (s5 _ _ (s4 _ _ v3)) (.cons (.int 0) .nil)) (.cons (.tup (s5 _ _ v4) (.cons (.int 0) .nil)) .nil)),fun ds e=>?_,fun b H1 s1 hb=>?_⟩
  · simp only [List.mem_cons,List.not_mem_nil,or_false] at hx
    rcases hx with rfl | rfl
    · exact (show Lw 99 by decide)
    · exact trivial
  · cases e
    refine ⟨by decide,fun x hx=>?_⟩
    simp only [List.mem_cons,List.not_mem_nil,or_false] at hx
    rcases hx with rfl | rfl <;> (intro ds e;cases e;decide)
  rw [hb.mpr shown_ab]
  refine ⟨_,_,rfl,rfl,_,rfl,iteT ?_⟩
  refine ⟨_,rfl,line_le (show 1≤1000 by omega),fun t6 ht6=>⟨line_le (show 2≤1000 by omega),fun t7 ht7=>?_⟩⟩
  generalize hJ1:upd H1 t6 _=J6 at ht7
  have v6:J6 t6=some (.tup [.int (-1)]):=by rw [← hJ1];exact upd_same
  generalize hJ2:upd J6 t7 _=J7
  have s7:Same J6 J7:=by rw [← hJ2];exact (Same.refl J6).new ht7
  have v7:J7 t7=some (.tup [.ref t6,.str (Str.ofString "a")]):=by rw [← hJ2];exact upd_same
  clear hJ1 hJ2
  refine ⟨line_le (show 1≤1000 by omega),fun t8 ht8=>?_⟩
  generalize hJ3:upd J7 t8 _=J8
  have s8:Same J7 J8:=by rw [← hJ3];exact (Same.refl J7).new ht8
  have v8:J8 t8=some (.tup [.int 0]):=by rw [← hJ3];exact upd_same
  clear hJ3
  refine ⟨line_le (show 1≤1000 by omega),fun t9 ht9=>?_⟩
  generalize hJ4:upd J8 t9 _=J9
  have s9:Same J8 J9:=by rw [← hJ4];exact (Same.refl J8).new ht9
  have v9:J9 t9=some (.tup [.ref t8]):=by rw [← hJ4];exact upd_same
  clear hJ4
  have s79:=s8.trans s9
  refine ⟨t7,[-1],Str.ofString "a", [(.one 97,true)],.ref t9,.tuple [stP [0]],by rw [show Str.ofString "a*" = mk (enc [(.one 97,true)]) by decide +kernel];rfl,⟨t6,s79 _ _ v7,s79 _ _ (s7 _ _ v6),a_ok⟩,fun x hx=>?_,by decide +kernel,by decide,
    .tup v9 (.cons (.tup (s9 _ _ v8) (.cons (.int 0) .nil)) .nil),fun ds e=>?_,fun b H2 s2 hb=>?_⟩
  · rw [List.mem_singleton.mp hx]
    exact (show Lw 97 by decide)
  · cases e
    refine ⟨by decide,fun x hx=>?_⟩
    rw [List.mem_singleton.mp hx]
    intro ds e;cases e;decide
  rw [Bool.eq_false_iff.mpr fun h=>not_shown_a (hb.mp h)]
  exact ⟨_,_,rfl,rfl,q _⟩
end
end S67
namespace S67
open PySem L2 W7
theorem df_mk {K:PySem.W.Frag} {h:Heap} {mg:Str→Option Value} {x:Str} {st:Stmt} {f:Addr} {oc:Value} {od an:Option Addr} {osl:Array (Option Value)} {kV doc pm cdv ct:Value} (X:K.In h) (G:h.Ns mainGlobals mg)
    (a:PySem.W.nsIn K mainGlobals x=some (some (.ref f))) (l:K.lookup f=some ⟨oc,od,.func (PySem.W.fnOf x x (defArgs st) (defBody st) (defScope st) .none kV doc pm an cdv ct),osl⟩) (c:PySem.W.codeIn K cdv x=true) (kk:PySem.W.keepIn K (.ref f)=true):Df K mg x st:=
  ⟨f,_,fun_mk l c kk,PySem.W.mg_of X G a⟩
theorem blt_mk {K:PySem.W.Frag} {h:Heap} {mg:Str→Option Value} (X:K.In h) (G:h.Ns mainGlobals mg)
    (z1:PySem.W.nsIn K mainGlobals "len" = some none) (z2:PySem.W.nsIn K mainGlobals "range" = some none) (z3:PySem.W.nsIn K mainGlobals "zip" = some none) (z4:PySem.W.nsIn K mainGlobals "enumerate" = some none)
    (z5:PySem.W.nsIn K mainGlobals "max" = some none) (z6:PySem.W.nsIn K mainGlobals "min" = some none) (z7:PySem.W.nsIn K mainGlobals "int" = some none) (z8:PySem.W.nsIn K mainGlobals "str" = some none)
    (z9:PySem.W.nsIn K mainGlobals "bool" = some none) (z10:PySem.W.nsIn K mainGlobals "list" = some none) (z11:PySem.W.nsIn K mainGlobals "tuple" = some none) (z12:PySem.W.nsIn K mainGlobals "isinstance" = some none):Blt mg:=
  ⟨PySem.W.mg_none_of X G z1,PySem.W.mg_none_of X G z2,PySem.W.mg_none_of X G z3,PySem.W.mg_none_of X G z4,PySem.W.mg_none_of X G z5,PySem.W.mg_none_of X G z6,PySem.W.mg_none_of X G z7,PySem.W.mg_none_of X G z8,
    PySem.W.mg_none_of X G z9,PySem.W.mg_none_of X G z10,PySem.W.mg_none_of X G z11,PySem.W.mg_none_of X G z12⟩
theorem all_ok {P:Program} {w:World} {K:PySem.W.Frag} {mg:Str→Option Value} {fa:Addr} (hfa:mg "law" = some (.ref fa)) (B:Blt7 mg)
    (d1:Df K mg "is_whole" s_is_whole) (d2:Df K mg "is_number_below" s_is_number_below) (d3:Df K mg "is_letters" s_is_letters) (d4:Df K mg "is_rising" s_is_rising) (d5:Df K mg "items_of" s_items_of) (d6:Df K mg "part_ahead" s_part_ahead) (d7:Df K mg "letters_by" s_letters_by) (d8:Df K mg "states_with" s_states_with) (d9:Df K mg "states_by" s_states_by) (d10:Df K mg "marks_show" s_marks_show) (d11:Df K mg "is_marks" s_is_marks) (d12:Df K mg "is_states" s_is_states) (d13:Df K mg "is_never_done" s_is_never_done) (d14:Df K mg "_law_mixed" s_law_mixed) (d15:Df K mg "_law_deck" s_law_deck) (d16:Df K mg "_law_draw" s_law_draw) (d17:Df K mg "_law_some" s_law_some) (d18:Df K mg "_law_letter" s_law_letter) (d19:Df K mg "_law_tree" s_law_tree) (d20:Df K mg "_law_words" s_law_words) (d21:Df K mg "_law_items" s_law_items) (d22:Df K mg "_law_written" s_law_written) (d23:Df K mg "_law_taken" s_law_taken) (d24:Df K mg "_law_past" s_law_past) (d25:Df K mg "_law_beyond" s_law_beyond) (d26:Df K mg "_law_least" s_law_least) (d27:Df K mg "_law_is_states" s_law_is_states) (d28:Df K mg "_law_shown" s_law_shown) (d29:Df K mg "_law_bent" s_law_bent) (d30:Df K mg "law" s_law) :
    ∃ fd:FuncData,(∀ (s:Shared) (v:Value),BindsTo s fd ⟨[v],[]⟩ [("script", v)])∧∀ base:Heap,FnOk P w K mg base CX0 12 fa fd ["script"] (sp_law K):=by
  obtain ⟨f,fd,F,m⟩:=d30
  have e:=hfa.symm.trans m
  cases e
  refine ⟨fd,?_,fun base=>?_⟩
  · obtain ⟨oc,od,kV,doc,pm,an,cdv,ct,osl,rfl,_,_⟩:=F.ex
    exact fun s v=>.of_eq rfl
  have g_mixed:=has_mixed (P:=P) (w:=w) (base:=base) (k:=0) d14 B.toBlt
  have g_draw:=has_draw (k:=1) d16 B.toBlt g_mixed
  have g_some:=has_some (k:=2) d17 B.toBlt g_draw
  have g_letter:=has_letter (k:=2) d18 B.toBlt g_draw
  have g_tree:=has_tree (k:=3) d19 B.toBlt (g_draw.mono (by decide)) g_some g_letter
  have g_deck:=has_deck (P:=P) (w:=w) (base:=base) (k:=0) d15 B.toBlt
  have g_lwords:=has_lwords (P:=P) (w:=w) (base:=base) (k:=0) d20 B.toBlt
  have g_isl:=has_letters (P:=P) (w:=w) (base:=base) (k:=0) d3 B
  have g_rising:=has_rising (P:=P) (w:=w) (base:=base) (k:=0) d4 B
  have g_part:=has_part (P:=P) (w:=w) (base:=base) (k:=1) d6 B
  have g_lby:=has_lby (k:=1) d7 B g_isl g_rising
  have g_items:=has_items (k:=2) d5 B g_part g_lby
  have g_whole:=has_wholeT (P:=P) (w:=w) (base:=base) (k:=0) d1 B
  have g_below:=has_belowT (k:=1) d2 B g_whole
  have g_swith:=has_swith (P:=P) (w:=w) (base:=base) (k:=2) d8 B
  have g_swithT:=has_swithT (P:=P) (w:=w) (base:=base) (k:=1) d8 B
  have g_sbyT:=has_sbyT (P:=P) (w:=w) (base:=base) (k:=2) d9 B
  have g_isst:=has_isst (k:=2) d12 B g_below g_swithT
  have g_ismk:=has_ismk (k:=3) d11 B g_isst g_sbyT
  have g_never:=has_never (k:=3) d13 B g_swith g_sbyT
  have g_show:=has_show (k:=4) d10 B (g_items.mono (by decide)) g_ismk g_never
  have g_litems:=has_litems (k:=3) d21 B (g_draw.mono (by decide)) g_some g_letter
  have g_lwrit:=has_lwrit (P:=P) (w:=w) (base:=base) (k:=0) d22 B
  have g_ltak:=has_ltak (P:=P) (w:=w) (base:=base) (k:=0) d23 B
  have g_past:=has_past (P:=P) (w:=w) (base:=base) (k:=0) d24 B
  have g_pastT:=has_pastT (P:=P) (w:=w) (base:=base) (k:=0) d24 B
  have g_beyond:=has_beyond (k:=1) d25 B g_past
  have g_beyondT:=has_beyondT (k:=1) d25 B g_past
  have g_least:=has_least (k:=2) d26 B (g_past.mono (by decide)) g_beyond
  have g_lisst:=has_lisst (k:=1) d27 B g_pastT
  have g_lshown:=has_lshown (k:=2) d28 B g_lisst g_beyondT
  have g_lbent:=has_lbent (k:=3) d29 B (g_draw.mono (by decide)) g_some
  exact (ok_law (k:=5) F B (g_deck.mono (by decide)) (g_some.mono (by decide)) (g_tree.mono (by decide)) (g_lwords.mono (by decide)) (g_litems.mono (by decide)) (g_lwrit.mono (by decide)) (g_ltak.mono (by decide)) (g_least.mono (by decide)) (g_lshown.mono (by decide)) (g_lbent.mono (by decide)) g_show).mono (by decide)
end S67
def PySem.W.Fast.tw17498405636010062958 : Nat := 0
def PySem.W.Fast.tw2035227788785656893 : Nat := 0
def PySem.W.Fast.tw16341694614583854867 : Nat := 0
def PySem.W.Fast.tw3017464501073826500 : Nat := 0
def PySem.W.Fast.tw13947556009697418321 : Nat := 0
def PySem.W.Fast.tw14444288138264222276 : Nat := 0
def PySem.W.Fast.tw7962032145157018232 : Nat := 0
def PySem.W.Fast.tw1109399448807773900 : Nat := 0
def PySem.W.Fast.tw15739961209512775144 : Nat := 0
def PySem.W.Fast.tw6451194273447937584 : Nat := 0
def PySem.W.Fast.tw9649778674472374753 : Nat := 0
def PySem.W.Fast.tw6390010788654761422 : Nat := 0
def PySem.W.Fast.tw3684755761016594541 : Nat := 0
def PySem.W.Fast.tw3760533184997613374 : Nat := 0
def PySem.W.Fast.tw12102052542923143039 : Nat := 0
def PySem.W.Fast.tw4275678983253890575 : Nat := 0
def PySem.W.Fast.tw10744533327867182427 : Nat := 0
def PySem.W.Fast.tw1544807682060624227 : Nat := 0
def PySem.W.Fast.tw1763827169131434166 : Nat := 0
def PySem.W.Fast.tw14930944333882100658 : Nat := 0
def PySem.W.Fast.tw14416794405153681905 : Nat := 0
def PySem.W.Fast.tw14950135922120664648 : Nat := 0
def PySem.W.Fast.tw3858181443823576486 : Nat := 0
def PySem.W.Fast.tw16906367231035715240 : Nat := 0
def PySem.W.Fast.tw906825646771938556 : Nat := 0
def PySem.W.Fast.tw7113726919936988926 : Nat := 0
def PySem.W.Fast.tw1328641543824782129 : Nat := 0
def PySem.W.Fast.tw3716689211763714492 : Nat := 0
def PySem.W.Fast.tw16685380883597762386 : Nat := 0
def PySem.W.Fast.tw2237566919205093298 : Nat := 0
def PySem.W.Fast.tw3329475395459183908 : Nat := 0
def PySem.W.Fast.tw457828929810186740 : Nat := 0
def PySem.W.Fast.tw8166972335980559861 : Nat := 0
def PySem.W.Fast.tw15811383637375928151 : Nat := 0
def PySem.W.Fast.tw8364904493831482502 : Nat := 0
def PySem.W.Fast.tw8969141685347363582 : Nat := 0
open PySem PySem.W PyProof.Rows
set_option maxRecDepth 100000 in
set_option maxHeartbeats 0 in
theorem PySem.Challenge.cw_upwords_k67_marks_looked_at_holds : PySem.Challenge.rw_upwords_k67_marks_looked_at.Holds := by
  w_on; o_law; k_head; (case hw => w_witness2)
  k_fill
  refine L2.walk_ofK (l := PySem.Challenge.rw_upwords_k67_marks_looked_at) (n := 63) (k := 12) (x := "script") (CX := L2.CX0) (sp := S67.sp_law) rfl (by decide) rfl ⟨rfl, by decide, by decide, rfl⟩ (fun w h Y => PySem.W.kIn_of Y) ?F
    (fun K H a ns hl _ hS => ⟨a, ns, rfl, hS, hl, fun _ => rfl⟩) (fun _ _ _ _ z => z)
  case F =>
    intro w mg fa h KX G hmg
    have B : L2.Blt mg := by
      refine' S67.blt_mk KX G ?z1 ?z2 ?z3 ?z4 ?z5 ?z6 ?z7 ?z8 ?z9 ?z10 ?z11 ?z12
      (case z1 => k_is); (case z2 => k_is); (case z3 => k_is); (case z4 => k_is); (case z5 => k_is); (case z6 => k_is); (case z7 => k_is); (case z8 => k_is); (case z9 => k_is); (case z10 => k_is); (case z11 => k_is); (case z12 => k_is)
    have Bx0 : mg "all" = none := by
      refine' PySem.W.mg_none_of KX G ?z
      (case z => k_is)
    have Bx1 : mg "dict" = none := by
      refine' PySem.W.mg_none_of KX G ?z
      (case z => k_is)
    have Bx2 : mg "sorted" = none := by
      refine' PySem.W.mg_none_of KX G ?z
      (case z => k_is)
    have Bx3 : mg "set" = none := by
      refine' PySem.W.mg_none_of KX G ?z
      (case z => k_is)
    have Bx4 : ∃ u, mg "LETTERS" = some u ∧ L2.RelV (.str "abcdefghijklmnopqrstuvwxyz") u := by
      refine' ⟨_, PySem.W.mg_of KX G ?z, ?r⟩
      (case z => k_is)
      (case r => exact ⟨_, rfl⟩)
    have Bx5 : ∃ u, mg "MOST_SIGNS" = some u ∧ L2.RelV (.int 40) u := by
      refine' ⟨_, PySem.W.mg_of KX G ?z, ?r⟩
      (case z => k_is)
      (case r => exact ⟨_, rfl⟩)
    have d1 : L2.Df (L2.KOf KX) mg "is_whole" S67.s_is_whole := by
      dsimp only [L2.KOf]; refine' S67.df_mk KX G ?a ?l ?c ?k
      (case a => k_is); (case l => k_is); (case c => k_is); (case k => k_is)
    have d2 : L2.Df (L2.KOf KX) mg "is_number_below" S67.s_is_number_below := by
      dsimp only [L2.KOf]; refine' S67.df_mk KX G ?a ?l ?c ?k
      (case a => k_is); (case l => k_is); (case c => k_is); (case k => k_is)
    have d3 : L2.Df (L2.KOf KX) mg "is_letters" S67.s_is_letters := by
      dsimp only [L2.KOf]; refine' S67.df_mk KX G ?a ?l ?c ?k
      (case a => k_is); (case l => k_is); (case c => k_is); (case k => k_is)
    have d4 : L2.Df (L2.KOf KX) mg "is_rising" S67.s_is_rising := by
      dsimp only [L2.KOf]; refine' S67.df_mk KX G ?a ?l ?c ?k
      (case a => k_is); (case l => k_is); (case c => k_is); (case k => k_is)
    have d5 : L2.Df (L2.KOf KX) mg "items_of" S67.s_items_of := by
      dsimp only [L2.KOf]; refine' S67.df_mk KX G ?a ?l ?c ?k
      (case a => k_is); (case l => k_is); (case c => k_is); (case k => k_is)
    have d6 : L2.Df (L2.KOf KX) mg "part_ahead" S67.s_part_ahead := by
      dsimp only [L2.KOf]; refine' S67.df_mk KX G ?a ?l ?c ?k
      (case a => k_is); (case l => k_is); (case c => k_is); (case k => k_is)
    have d7 : L2.Df (L2.KOf KX) mg "letters_by" S67.s_letters_by := by
      dsimp only [L2.KOf]; refine' S67.df_mk KX G ?a ?l ?c ?k
      (case a => k_is); (case l => k_is); (case c => k_is); (case k => k_is)
    have d8 : L2.Df (L2.KOf KX) mg "states_with" S67.s_states_with := by
      dsimp only [L2.KOf]; refine' S67.df_mk KX G ?a ?l ?c ?k
      (case a => k_is); (case l => k_is); (case c => k_is); (case k => k_is)
    have d9 : L2.Df (L2.KOf KX) mg "states_by" S67.s_states_by := by
      dsimp only [L2.KOf]; refine' S67.df_mk KX G ?a ?l ?c ?k
      (case a => k_is); (case l => k_is); (case c => k_is); (case k => k_is)
    have d10 : L2.Df (L2.KOf KX) mg "marks_show" S67.s_marks_show := by
      dsimp only [L2.KOf]; refine' S67.df_mk KX G ?a ?l ?c ?k
      (case a => k_is); (case l => k_is); (case c => k_is); (case k => k_is)
    have d11 : L2.Df (L2.KOf KX) mg "is_marks" S67.s_is_marks := by
      dsimp only [L2.KOf]; refine' S67.df_mk KX G ?a ?l ?c ?k
      (case a => k_is); (case l => k_is); (case c => k_is); (case k => k_is)
    have d12 : L2.Df (L2.KOf KX) mg "is_states" S67.s_is_states := by
      dsimp only [L2.KOf]; refine' S67.df_mk KX G ?a ?l ?c ?k
      (case a => k_is); (case l => k_is); (case c => k_is); (case k => k_is)
    have d13 : L2.Df (L2.KOf KX) mg "is_never_done" S67.s_is_never_done := by
      dsimp only [L2.KOf]; refine' S67.df_mk KX G ?a ?l ?c ?k
      (case a => k_is); (case l => k_is); (case c => k_is); (case k => k_is)
    have d14 : L2.Df (L2.KOf KX) mg "_law_mixed" S67.s_law_mixed := by
      dsimp only [L2.KOf]; refine' S67.df_mk KX G ?a ?l ?c ?k
      (case a => k_is); (case l => k_is); (case c => k_is); (case k => k_is)
    have d15 : L2.Df (L2.KOf KX) mg "_law_deck" S67.s_law_deck := by
      dsimp only [L2.KOf]; refine' S67.df_mk KX G ?a ?l ?c ?k
      (case a => k_is); (case l => k_is); (case c => k_is); (case k => k_is)
    have d16 : L2.Df (L2.KOf KX) mg "_law_draw" S67.s_law_draw := by
      dsimp only [L2.KOf]; refine' S67.df_mk KX G ?a ?l ?c ?k
      (case a => k_is); (case l => k_is); (case c => k_is); (case k => k_is)
    have d17 : L2.Df (L2.KOf KX) mg "_law_some" S67.s_law_some := by
      dsimp only [L2.KOf]; refine' S67.df_mk KX G ?a ?l ?c ?k
      (case a => k_is); (case l => k_is); (case c => k_is); (case k => k_is)
    have d18 : L2.Df (L2.KOf KX) mg "_law_letter" S67.s_law_letter := by
      dsimp only [L2.KOf]; refine' S67.df_mk KX G ?a ?l ?c ?k
      (case a => k_is); (case l => k_is); (case c => k_is); (case k => k_is)
    have d19 : L2.Df (L2.KOf KX) mg "_law_tree" S67.s_law_tree := by
      dsimp only [L2.KOf]; refine' S67.df_mk KX G ?a ?l ?c ?k
      (case a => k_is); (case l => k_is); (case c => k_is); (case k => k_is)
    have d20 : L2.Df (L2.KOf KX) mg "_law_words" S67.s_law_words := by
      dsimp only [L2.KOf]; refine' S67.df_mk KX G ?a ?l ?c ?k
      (case a => k_is); (case l => k_is); (case c => k_is); (case k => k_is)
    have d21 : L2.Df (L2.KOf KX) mg "_law_items" S67.s_law_items := by
      dsimp only [L2.KOf]; refine' S67.df_mk KX G ?a ?l ?c ?k
      (case a => k_is); (case l => k_is); (case c => k_is); (case k => k_is)
    have d22 : L2.Df (L2.KOf KX) mg "_law_written" S67.s_law_written := by
      dsimp only [L2.KOf]; refine' S67.df_mk KX G ?a ?l ?c ?k
      (case a => k_is); (case l => k_is); (case c => k_is); (case k => k_is)
    have d23 : L2.Df (L2.KOf KX) mg "_law_taken" S67.s_law_taken := by
      dsimp only [L2.KOf]; refine' S67.df_mk KX G ?a ?l ?c ?k
      (case a => k_is); (case l => k_is); (case c => k_is); (case k => k_is)
    have d24 : L2.Df (L2.KOf KX) mg "_law_past" S67.s_law_past := by
      dsimp only [L2.KOf]; refine' S67.df_mk KX G ?a ?l ?c ?k
      (case a => k_is); (case l => k_is); (case c => k_is); (case k => k_is)
    have d25 : L2.Df (L2.KOf KX) mg "_law_beyond" S67.s_law_beyond := by
      dsimp only [L2.KOf]; refine' S67.df_mk KX G ?a ?l ?c ?k
      (case a => k_is); (case l => k_is); (case c => k_is); (case k => k_is)
    have d26 : L2.Df (L2.KOf KX) mg "_law_least" S67.s_law_least := by
      dsimp only [L2.KOf]; refine' S67.df_mk KX G ?a ?l ?c ?k
      (case a => k_is); (case l => k_is); (case c => k_is); (case k => k_is)
    have d27 : L2.Df (L2.KOf KX) mg "_law_is_states" S67.s_law_is_states := by
      dsimp only [L2.KOf]; refine' S67.df_mk KX G ?a ?l ?c ?k
      (case a => k_is); (case l => k_is); (case c => k_is); (case k => k_is)
    have d28 : L2.Df (L2.KOf KX) mg "_law_shown" S67.s_law_shown := by
      dsimp only [L2.KOf]; refine' S67.df_mk KX G ?a ?l ?c ?k
      (case a => k_is); (case l => k_is); (case c => k_is); (case k => k_is)
    have d29 : L2.Df (L2.KOf KX) mg "_law_bent" S67.s_law_bent := by
      dsimp only [L2.KOf]; refine' S67.df_mk KX G ?a ?l ?c ?k
      (case a => k_is); (case l => k_is); (case c => k_is); (case k => k_is)
    have d30 : L2.Df (L2.KOf KX) mg "law" S67.s_law := by
      dsimp only [L2.KOf]; refine' S67.df_mk KX G ?a ?l ?c ?k
      (case a => k_is); (case l => k_is); (case c => k_is); (case k => k_is)
    obtain ⟨fd, h1, h2⟩ := S67.all_ok (P := PySem.Challenge.rw_upwords_k67_marks_looked_at.prog) (w := w) hmg ⟨B, Bx0, Bx1, Bx2, Bx3, Bx4, Bx5⟩ d1 d2 d3 d4 d5 d6 d7 d8 d9 d10 d11 d12 d13 d14 d15 d16 d17 d18 d19 d20 d21 d22 d23 d24 d25 d26 d27 d28 d29 d30
    exact ⟨fd, h1, fun base _ _ => h2 base⟩
