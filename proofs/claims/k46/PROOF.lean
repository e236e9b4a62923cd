import PyProof.Rows.All
import Wide.All
import OpenK.AllK
import Wide.FinOn
import Lean
import PyProof.EqAt
import PyProof.EqKinds
import PyProof.TupleCall
import PyProof.WalkInts
import PyProof.NeKinds
import KE.KSortTup
import KE.KDictOf
import PyProof.DictWalks
import PyProof.AttrMissSeq
import PyProof.Rows.TupAdd
import PyProof.Rows.RuleIs
import KE.KTryOn
import PyProof.NsDelKeeps
import PyProof.ExcAttrAll.ValueError
import KE.KMinKey
import PyProof.SumAny
import PyProof.ListMulRoad
import PyProof.FactsAll.tuple
import PyProof.FactsAll.tuple_2
import PyProof.FitsBits
import PyProof.ListStr
import PySem.Challenge.RW_upwords_k46_what_is_a_net
set_option Elab.async false
set_option linter.all false
set_option maxRecDepth 100000
namespace L2
open PySem PySem.Spec PyProof.Rows
abbrev Key:=Sum Int Str
def keyIs:Key→Value→Bool
  | .inl k,v=>Value.isInt k v
  | .inr x,v=>Value.isStrOf x v
def keyH (w:World):Key→Int
  | .inl k=>hashInt k
  | .inr x=>hashStr w x
theorem keyIs_shape:∀ {k:Key} {v:Value},keyIs k v=true→(∃ i t,k=Sum.inl i∧v=Value.int i t)∨(∃ x t,k=Sum.inr x∧v=Value.str x t)
  | .inl i,v,h=>by
    obtain ⟨t,e⟩:=Value.isInt_shape (k:=i) (v:=v) h
    exact .inl ⟨i,t,rfl,e⟩
  | .inr x,v,h=>by
    obtain ⟨t,e⟩:=Value.isStrOf_shape (x:=x) (v:=v) h
    exact .inr ⟨x,t,rfl,e⟩
theorem keyIs_int (i:Int) (t:Tok):keyIs (.inl i) (.int i t)=true:=by simp [keyIs,Value.isInt]
theorem keyIs_str (x:Str) (t:Tok):keyIs (.inr x) (.str x t)=true:=by simp [keyIs,Value.isStrOf]
theorem key_ll (a b:Int):decide ((Sum.inl a:Key)=Sum.inl b)=(a == b):=by
  by_cases e:a=b
  · subst e;simp
  · have h:¬ (Sum.inl a:Key)=Sum.inl b:=fun q=>e (Sum.inl.inj q)
    rw [decide_eq_false h]
    exact (beq_eq_false_iff_ne.mpr e).symm
theorem key_rr (a b:Str):decide ((Sum.inr a:Key)=Sum.inr b)=decide (a=b):=by
  by_cases e:a=b
  · subst e;simp
  · have h:¬ (Sum.inr a:Key)=Sum.inr b:=fun q=>e (Sum.inr.inj q)
    rw [decide_eq_false h,decide_eq_false e]
theorem key_lr (a:Int) (b:Str):decide ((Sum.inl a:Key)=Sum.inr b)=false:=decide_eq_false (fun q=>nomatch q)
theorem key_rl (a:Str) (b:Int):decide ((Sum.inr a:Key)=Sum.inl b)=false:=decide_eq_false (fun q=>nomatch q)
def mixKind (prog:Program) (w:World):PySem.KeyKind prog w Key where
  is:=keyIs
  hash:=keyH w
  inj:=fun v a b ha hb=>by
    rcases keyIs_shape ha with ⟨i,t,rfl,rfl⟩ | ⟨x,t,rfl,rfl⟩
    · rcases keyIs_shape hb with ⟨j,u,rfl,e⟩ | ⟨y,u,rfl,e⟩
      · injection e with e1 _;rw [e1]
      · exact nomatch e
    · rcases keyIs_shape hb with ⟨j,u,rfl,e⟩ | ⟨y,u,rfl,e⟩
      · exact nomatch e
      · injection e with e1 _;rw [e1]
  byValue:=fun k v h=>by
    rcases keyIs_shape h with ⟨i,t,rfl,rfl⟩ | ⟨x,t,rfl,rfl⟩ <;> rfl
  pyHash:=fun hv h=>by
    rcases keyIs_shape hv with ⟨i,t,rfl,rfl⟩ | ⟨x,t,rfl,rfl⟩
    · exact wpAny_pyHash_int h
    · exact wpAny_pyHash_str h
  eqBool:=fun hu hv h=>by
    rcases keyIs_shape hu with ⟨i,t,rfl,rfl⟩ | ⟨x,t,rfl,rfl⟩
    · rcases keyIs_shape hv with ⟨j,u,rfl,rfl⟩ | ⟨y,u,rfl,rfl⟩
      · rw [key_ll] at h;exact wpAny_eqBool_int h
      · rw [key_lr] at h;exact SeqAt.EqAt.int_str i t y u _ _ _ _ h
    · rcases keyIs_shape hv with ⟨j,u,rfl,rfl⟩ | ⟨y,u,rfl,rfl⟩
      · rw [key_rl] at h;exact SeqAt.EqAt.str_int x t j u _ _ _ _ h
      · rw [key_rr] at h;exact wpAny_eqBool_str h
  «strs»:=fun k x t v h=>by
    rcases keyIs_shape h with ⟨i,u,rfl,e⟩ | ⟨y,u,rfl,e⟩
    · exact nomatch e
    · injection e with e1 _
      subst e1
      cases v <;> rfl
theorem mixKind_int (prog:Program) (w:World) (i:Int) (t:Tok):(mixKind prog w).is (.inl i) (.int i t)=true:=keyIs_int i t
theorem mixKind_str (prog:Program) (w:World) (x:Str) (t:Tok):(mixKind prog w).is (.inr x) (.str x t)=true:=keyIs_str x t
end L2
namespace L2
open PySem PySem.Spec PyProof.Rows
inductive V where
  | non | bl (b:Bool) | int (i:Int) | str (x:Str) | byt (b:Array UInt8) | flt (b:UInt64) | ref (a:Addr) | ty (n:String)
  deriving DecidableEq
def RelV:V→Value→Prop
  | .non,u=>u=Value.none
  | .bl b,u=>u=Value.bool b
  | .int i,u=>∃ t,u=Value.int i t
  | .str x,u=>∃ t,u=Value.str x t
  | .byt b,u=>∃ t,u=Value.bytes b t
  | .flt b,u=>∃ t,u=Value.float b t
  | .ref a,u=>u=Value.ref a
  | .ty n,u=>u=Value.type n
abbrev Vals:List V→List Value→Prop:=Paired RelV
theorem Vals.length {xs:List V} {us:List Value} (r:Vals xs us):xs.length=us.length:=Paired.length r
theorem Vals.get:∀ {xs:List V} {us:List Value} {i:Nat} {x:V},Vals xs us→xs[i]?=some x→∃ u,us[i]?=some u∧RelV x u
  | _,_,_,_,.nil,e=>by simp at e
  | _,_,0,_,.cons r _,e=>by simp at e;subst e;exact ⟨_,rfl,r⟩
  | _,_,i+1,x,.cons _ t,e=>by
    obtain ⟨u,h1,h2⟩:=Vals.get (i:=i) (x:=x) t (by simpa using e)
    exact ⟨u,by simpa using h1,h2⟩
theorem Vals.set {x:V} {u:Value} (r:RelV x u):∀ {xs:List V} {us:List Value} (i:Nat),Vals xs us→Vals (xs.set i x) (us.set i u)
  | _,_,_,.nil=>.nil
  | _,_,0,.cons _ t=>.cons r t
  | _,_,i+1,.cons q t=>.cons q (Vals.set r i t)
theorem Vals.append:∀ {xs ys:List V} {us ws:List Value},Vals xs us→Vals ys ws→Vals (xs++ys) (us++ws)
  | _,_,_,_,.nil,s=>s
  | _,_,_,_,.cons r t,s=>.cons r (Vals.append t s)
theorem Vals.take:∀ {xs:List V} {us:List Value} (n:Nat),Vals xs us→Vals (xs.take n) (us.take n)
  | _,_,0,_=>.nil
  | _,_,_+1,.nil=>.nil
  | _,_,n+1,.cons r t=>.cons r (Vals.take n t)
theorem Vals.drop:∀ {xs:List V} {us:List Value} (n:Nat),Vals xs us→Vals (xs.drop n) (us.drop n)
  | _,_,0,r=>r
  | _,_,_+1,.nil=>.nil
  | _,_,n+1,.cons _ t=>Vals.drop n t
def RelO:Option V→Option Value→Prop
  | some v,some u=>RelV v u
  | none,none=>True
  | _,_=>False
def KV {κ:Type}:List (κ × V)→List (κ × Value)→Prop:=Paired fun (p:κ × V) (q:κ × Value)=>p.1=q.1∧RelV p.2 q.2
def kV:Key→V
  | .inl i=>.int i
  | .inr x=>.str x
inductive HO where
    | lst (xs:List V)
    | tup (xs:List V)
    | dK (kvs:List (Key × V)) | dT (kvs:List (List Key × V))
    | set (S:Int→Bool) (n:Nat)
    | ins (C dx:Addr) (fs:List (Str × V))
    | own (x:Addr)
    | xd (fs:List (Str × V))
    | met (f x:Addr)
    | rng (lo hi:Int)
    | frz (o:Obj) (u:HO)
    | tbl (ps:Array Value)
    | ext (φ:Heap→Prop)
abbrev Hp:=Addr→Option HO
def upd (H:Hp) (a:Addr) (o:HO):Hp:=fun b=>if b=a then some o else H b
theorem upd_same {H:Hp} {a:Addr} {o:HO}:upd H a o a=some o:=by unfold upd;rw [if_pos rfl]
theorem upd_ne {H:Hp} {a b:Addr} {o:HO} (h:b≠a):upd H a o b=H b:=by unfold upd;rw [if_neg h]
theorem upd_upd {H:Hp} {a:Addr} {o u:HO}:upd (upd H a o) a u=upd H a u:=by
  funext b;unfold upd;split <;> rfl
theorem ne_of {H:Hp} {a b:Addr} {o u:HO} (h:H a=some o) (h':H b=some u) (d:o≠u):a≠b:=by
  intro e;subst e;rw [h] at h';exact d (Option.some.inj h')
theorem ne_of_none {H:Hp} {a b:Addr} {o:HO} (h:H a=some o) (h':H b=none):a≠b:=by
  intro e;subst e;rw [h] at h';cases h'
section
variable (P:Program) (w:World)
def ObjOk (H:Hp) (h:Heap) (a:Addr):HO→Prop
  | .lst xs=>xs.length≤sizeLine∧∃ (its:List Value) (n:Nat),Vals xs its∧h.get? a=some { cls:=.type "list", data:=.seq its.toArray n }
  | .tup xs=>(xs.length≤sizeLine∧∃ o,h.get? a=some o∧o.dict=none)∧∃ its:List Value,Vals xs its∧IsTup h a its.toArray
  | .dK kvs=>kvs.length≤sizeLine∧(a == sysModules)=false∧∃ vs,KV kvs vs∧h.DictOf (mixKind P w) a vs
  | .dT kvs=>kvs.length≤sizeLine∧(a == sysModules)=false∧∃ xs:List (List Key × Addr × Value),
      Paired (fun (p:List Key × V) (q:List Key × Addr × Value)=>p.1=q.1∧H q.2.1=some (.tup (p.1.map kV))∧RelV p.2 q.2.2) kvs xs ∧
      ∃ o es ep,h.get? a=some o∧o.ExactDict∧o.data=.dict es ep∧es.toList=xs.map (entryOfKey (tupleKind (mixKind P w)))∧(xs.map (·.1)).Nodup
  | .set S n=>h.SetOf (intKind P w) a S n
  | .ins C dx fs=>H dx=some (.own a)∧fs.length≤1000∧dx≠a∧h.get? a=some (PySem.W.instObj C dx) ∧
      ∃ mA,h.Ns1 dx mA∧(∀ f,RelO (fs.lookup f) (mA f))∧PySem.Within mA (fs.map (·.1))
  | .own _=>∃ o,h.get? a=some o
  | .xd fs=>∃ mA,h.Ns1 a mA∧∀ f,RelO (fs.lookup f) (mA f)
  | .rng lo hi=>∃ t u v,h.get? a=some { cls:=.type "range", data:=.fields #[.int lo t,.int hi u,.int 1 v] }
  | .frz o u=>h.get? a=some o∧ObjOk H h a u
  | .tbl ps=>h.get? a=some { cls:=.none,data:=.fields ps }
  | .met f x=>h.get? a=some (PySem.W.methodObj (.ref f) (.ref x))
  | .ext φ=>φ h∧(∃ o,h.get? a=some o)∧∀ h1 h2:Heap,φ h1→(∀ o,h1.get? a=some o→h2.get? a=some o)→φ h2
def HOk (H:Hp) (h:Heap):Prop:=∀ a o,H a=some o→ObjOk P w H h a o
end
section
variable {P:Program} {w:World} {H H':Hp} {h h':Heap} {a:Addr} {o:HO}
theorem ObjOk.lt (x:ObjOk P w H h a o):a < h.objs.size:=by
  cases o with
  | lst xs=>obtain ⟨_,_,_,_,e⟩:=x;exact Heap.lt_size e
  | tup xs=>obtain ⟨_,_,_,p⟩:=x;exact p.lt
  | dK kvs=>obtain ⟨_,_,_,_,o,_,_,e,_⟩:=x;exact Heap.lt_size e
  | dT kvs=>obtain ⟨_,_,_,_,o,_,_,e,_⟩:=x;exact Heap.lt_size e
  | set S n=>obtain ⟨o,_,_,_,e,_⟩:=x;exact Heap.lt_size e
  | ins C dx fs=>obtain ⟨_,_,_,e,_⟩:=x;exact Heap.lt_size e
  | own y=>obtain ⟨_,e⟩:=x;exact Heap.lt_size e
  | xd fs=>obtain ⟨_,⟨_,_,_,e,_⟩,_⟩:=x;exact Heap.lt_size e
  | rng lo hi=>obtain ⟨_,_,_,e⟩:=x;exact Heap.lt_size e
  | frz ob u=>obtain ⟨e,_⟩:=x;exact Heap.lt_size e
  | tbl ps=>exact Heap.lt_size (show h.get? a=some _ from x)
  | met f y=>exact Heap.lt_size (show h.get? a=some _ from x)
  | ext φ=>obtain ⟨_,⟨_,e⟩,_⟩:=x;exact Heap.lt_size e
theorem Paired.mapP {α β:Type} {F G:α→β→Prop}:∀ {l₁:List α} {l₂:List β},Paired F l₁ l₂→(∀ a b,F a b→G a b)→Paired G l₁ l₂
  | _,_,.nil,_=>.nil
  | _,_,.cons r t,f=>.cons (f _ _ r) (Paired.mapP t f)
theorem ObjOk.stay (x:ObjOk P w H h a o) (k:∀ b u,(b=a∨H b=some (.own a))→h.get? b=some u→h'.get? b=some u)
    (ho:∀ b,H b=some (.own a)→H' b=some (.own a)) (ht:∀ b xs,H b=some (.tup xs)→H' b=some (.tup xs)):ObjOk P w H' h' a o:=by
  induction o with
  | lst xs=>obtain ⟨z,its,n,r,e⟩:=x;exact ⟨z,its,n,r,k _ _ (.inl rfl) e⟩
  | tup xs=>obtain ⟨⟨z,o1,e1,c1⟩,its,r,ob,e,c⟩:=x;exact ⟨⟨z,o1,k _ _ (.inl rfl) e1,c1⟩,its,r,ob,k _ _ (.inl rfl) e,c⟩
  | dK kvs=>obtain ⟨z,y,vs,r,ob,es,ep,e,c⟩:=x;exact ⟨z,y,vs,r,ob,es,ep,k _ _ (.inl rfl) e,c⟩
  | dT kvs=>
    obtain ⟨z,y,xs,r,ob,es,ep,e,c⟩:=x
    exact ⟨z,y,xs,Paired.mapP r fun p q z=>⟨z.1,ht _ _ z.2.1,z.2.2⟩,ob,es,ep,k _ _ (.inl rfl) e,c⟩
  | set S n=>obtain ⟨ob,es,ep,t,e,c⟩:=x;exact ⟨ob,es,ep,t,k _ _ (.inl rfl) e,c⟩
  | ins C dx fs=>
    obtain ⟨d,z,ne,e,mA,⟨od,es,ep,e2,c⟩,r⟩:=x
    exact ⟨ho _ d,z,ne,k _ _ (.inl rfl) e,mA,⟨od,es,ep,k _ _ (.inr d) e2,c⟩,r⟩
  | own y=>obtain ⟨ob,e⟩:=x;exact ⟨ob,k _ _ (.inl rfl) e⟩
  | xd fs=>obtain ⟨mA,⟨od,es,ep,e,c⟩,r⟩:=x;exact ⟨mA,⟨od,es,ep,k _ _ (.inl rfl) e,c⟩,r⟩
  | rng lo hi=>obtain ⟨t,u,v,e⟩:=x;exact ⟨t,u,v,k _ _ (.inl rfl) e⟩
  | frz ob u ih=>obtain ⟨e,q⟩:=x;exact ⟨k _ _ (.inl rfl) e,ih q⟩
  | tbl ps=>
    have e:h.get? a=some { cls:=.none,data:=.fields ps }:=x
    show h'.get? a=some { cls:=.none,data:=.fields ps }
    exact k a _ (.inl rfl) e
  | met f y=>
    have e:h.get? a=some (PySem.W.methodObj (.ref f) (.ref y)):=x
    show h'.get? a=some (PySem.W.methodObj (.ref f) (.ref y))
    exact k a _ (.inl rfl) e
  | ext φ=>obtain ⟨p,⟨o,e⟩,st⟩:=x;exact ⟨st _ _ p fun o q=>k _ _ (.inl rfl) q,⟨o,k _ _ (.inl rfl) e⟩,st⟩
theorem HOk.lt (x:HOk P w H h) (e:H a=some o):a < h.objs.size:=(x a o e).lt
theorem HOk.fresh (x:HOk P w H h) (e:h.objs.size≤a):H a=none:=by
  cases q:H a with
  | none=>rfl
  | some u=>exact absurd (Nat.lt_of_lt_of_le (x.lt q) e) (Nat.lt_irrefl _)
theorem HOk.kept (x:HOk P w H h) (k:∀ b u,h.get? b=some u→h'.get? b=some u):HOk P w H h':=fun a o e=>
  (x a o e).stay (fun b u _ q=>k b u q) (fun _ q=>q) fun _ _ q=>q
theorem HOk.laid (x:HOk P w H h) (k:∀ b u,h.get? b=some u→h'.get? b=some u) (hp:h.objs.size≤a) (new:ObjOk P w (upd H a o) h' a o):HOk P w (upd H a o) h':=fun b u e=>by
  have hn:=x.fresh hp
  by_cases hb:b=a
  · subst hb;rw [upd_same] at e;cases e;exact new
  · rw [upd_ne hb] at e
    exact (x b u e).stay (fun c v _ q=>k c v q) (fun c q=>by rw [upd_ne (ne_of_none q hn)];exact q) fun c xs q=>by rw [upd_ne (ne_of_none q hn)];exact q
end
def Rd (H:Hp) (a:Addr) (u:HO):Prop:=H a=some u∨∃ o,H a=some (.frz o u)
theorem Rd.of {H:Hp} {a:Addr} {u:HO} (h:H a=some u):Rd H a u:=.inl h
theorem Rd.ok {P:Program} {w:World} {H:Hp} {h:Heap} {a:Addr} {u:HO} (r:Rd H a u) (x:HOk P w H h):ObjOk P w H h a u:=by
  rcases r with r | ⟨o,r⟩
  · exact x a u r
  · obtain ⟨_,q⟩:=x a _ r
    exact q
def Mut:Option HO→Prop
  | some (.lst _)=>True
  | some (.dK _)=>True
  | some (.dT _)=>True
  | some (.set _ _)=>True
  | some (.ins _ _ _)=>True
  | some (.ext _)=>True
  | _=>False
section
variable {P:Program} {w:World} {H:Hp} {h h':Heap} {x e:Addr} {o':HO}
theorem HOk.write (ok:HOk P w H h) (mu:Mut (H x)) (he:e=x∨H e=some (.own x)) (k:∀ b u,b≠e→h.get? b=some u→h'.get? b=some u) (heo:∃ u,h'.get? e=some u)
    (new:ObjOk P w (upd H x o') h' x o'):HOk P w (upd H x o') h':=fun b u q=>by
  have nown:∀ c y,H c=some (.own y)→c≠x:=fun c y r z=>by subst z;rw [r] at mu;exact mu
  have ntup:∀ c xs,H c=some (.tup xs)→c≠x:=fun c xs r z=>by subst z;rw [r] at mu;exact mu
  by_cases hb:b=x
  · subst hb;rw [upd_same] at q;cases q;exact new
  · rw [upd_ne hb] at q
    by_cases hbe:b=e
    · have q':H b=some (.own x):=by
        rcases he with z | z
        · exact absurd (hbe.trans z) hb
        · rw [hbe];exact z
      rw [q] at q';cases q'
      obtain ⟨v,hv⟩:=heo
      exact ⟨v,by rw [hbe];exact hv⟩
    · refine (ok b u q).stay (fun c v hc r=>k c v ?_ r) (fun c r=>by rw [upd_ne (nown c b r)];exact r) fun c xs r=>by rw [upd_ne (ntup c xs r)];exact r
      rcases hc with rfl | hc
      · exact hbe
      · rintro rfl
        rcases he with z | z
        · exact nown c b hc z
        · rw [hc] at z;cases z;exact hb rfl
end
structure Un (fs ex:List Addr) (H H':Hp) (h h':Heap):Prop where
  keep:∀ b o,h.get? b=some o→H b=none→b ∉ fs→b ∉ ex→h'.get? b=some o
  slot:∀ b o,h.get? b=some o→H b=none→b∈fs→b ∉ ex→∃ sl,h'.get? b=some { o with slots:=sl }
  free:∀ b o,h.get? b=some o→H b=none→b ∉ ex→H' b=none
  there:∀ b o,h.get? b=some o→b ∉ ex→∃ o',h'.get? b=some o'
  tups:∀ b xs,H b=some (.tup xs)→H' b=some (.tup xs)
  frzs:∀ b o u,H b=some (.frz o u)→H' b=some (.frz o u)
  tbls:∀ b ps,H b=some (.tbl ps)→∃ more,H' b=some (.tbl (ps++more))
section
variable {fs fs' ex ex':List Addr} {H H1 H2:Hp} {h h1 h2 h':Heap} {a x e:Addr} {o:HO}
theorem Un.any (u:Un fs ex H H1 h h1) {b:Addr} {ob:Obj} (q:h.get? b=some ob) (n:H b=none) (hx:b ∉ ex):∃ sl,h1.get? b=some { ob with slots:=sl }:=by
  by_cases hb:b∈fs
  · exact u.slot b ob q n hb hx
  · exact ⟨ob.slots,u.keep b ob q n hb hx⟩
theorem Un.trans (a:Un fs ex H H1 h h1) (b:Un fs ex H1 H2 h1 h2):Un fs ex H H2 h h2 where
  keep:=fun c ob q n hc hx=>b.keep c ob (a.keep c ob q n hc hx) (a.free c ob q n hx) hc hx
  slot:=fun c ob q n hc hx=>by
    obtain ⟨sl,e1⟩:=a.slot c ob q n hc hx
    obtain ⟨sl',e2⟩:=b.slot c _ e1 (a.free c ob q n hx) hc hx
    exact ⟨sl',e2⟩
  free:=fun c ob q n hx=>by
    obtain ⟨o',e1⟩:=a.there c ob q hx
    exact b.free c o' e1 (a.free c ob q n hx) hx
  there:=fun c ob q hx=>by
    obtain ⟨o',e1⟩:=a.there c ob q hx
    exact b.there c o' e1 hx
  tups:=fun c xs q=>b.tups c xs (a.tups c xs q)
  frzs:=fun c ob xs q=>b.frzs c ob xs (a.frzs c ob xs q)
  tbls:=fun c ps q=>by
    obtain ⟨m1,e1⟩:=a.tbls c ps q
    obtain ⟨m2,e2⟩:=b.tbls c _ e1
    exact ⟨m1++m2,by rw [e2,Array.append_assoc]⟩
theorem Un.kept (k:∀ b u,h.get? b=some u→h'.get? b=some u):Un fs ex H H h h':=
  ⟨fun b ob q _ _ _=>k b ob q,fun b ob q _ _ _=>⟨ob.slots,k b ob q⟩,fun _ _ _ n _=>n,fun b ob q _=>⟨ob,k b ob q⟩,fun _ _ q=>q,fun _ _ _ q=>q,fun _ ps q=>⟨#[],by rw [q];simp⟩⟩
theorem Un.refl:Un fs ex H H h h:=Un.kept fun _ _ q=>q
theorem Un.laid (k:∀ b u,h.get? b=some u→h'.get? b=some u) (hp:h.objs.size≤a) (hn:H a=none):Un fs ex H (upd H a o) h h' where
  keep:=fun b u q _ _ _=>k b u q
  slot:=fun b u q _ _ _=>⟨u.slots,k b u q⟩
  free:=fun b u q n _=>by rw [upd_ne (Nat.ne_of_lt (Nat.lt_of_lt_of_le (Heap.lt_size q) hp))];exact n
  there:=fun b u q _=>⟨u,k b u q⟩
  tups:=fun b xs q=>by rw [upd_ne (ne_of_none q hn)];exact q
  frzs:=fun b u xs q=>by rw [upd_ne (ne_of_none q hn)];exact q
  tbls:=fun b ps q=>⟨#[],by rw [upd_ne (ne_of_none q hn),q];simp⟩
theorem Un.write (mu:Mut (H x)) (he:e=x∨H e=some (.own x)) (k:∀ b u,b≠e→h.get? b=some u→h'.get? b=some u) (heo:∃ u,h'.get? e=some u):Un fs ex H (upd H x o) h h':=by
  have hx:∀ b,H b=none→b≠x:=fun b n z=>by subst z;rw [n] at mu;exact mu
  have hb:∀ b,H b=none→b≠e:=fun b n z=>by
    subst z
    rcases he with r | r
    · exact hx b n r
    · rw [n] at r;cases r
  have hm:∀ b u,H b=some u→¬ Mut (some u)→b≠x:=fun b u q nm z=>by subst z;rw [q] at mu;exact nm mu
  refine ⟨fun b u q n _ _=>k b u (hb b n) q,fun b u q n _ _=>⟨u.slots,k b u (hb b n) q⟩,fun b u q n _=>by rw [upd_ne (hx b n)];exact n,fun b u q _=>?_,
    fun b xs q=>by rw [upd_ne (hm b _ q fun z=>z)];exact q,fun b u xs q=>by rw [upd_ne (hm b _ q fun z=>z)];exact q,fun b ps q=>⟨#[],by rw [upd_ne (hm b _ q fun z=>z),q];simp⟩⟩
  by_cases hbe:b=e
  · subst hbe;exact heo
  · exact ⟨u,k b u hbe q⟩
theorem Un.mono (u:Un fs ex H H1 h h1) (hs:∀ b∈fs,b∈fs') (hx:∀ b∈ex,b∈ex'):Un fs' ex' H H1 h h1:=
  ⟨fun b ob q n hb he=>u.keep b ob q n (fun z=>hb (hs b z)) fun z=>he (hx b z),fun _ _ q n _ he=>u.any q n fun z=>he (hx _ z),fun b ob q n he=>u.free b ob q n fun z=>he (hx b z),fun b ob q he=>u.there b ob q fun z=>he (hx b z),u.tups,u.frzs,u.tbls⟩
end
def trk (h:Heap) (H:Hp):List Addr:=(List.range h.objs.size).filter fun a=>(H a).isSome
def hidT (h:Heap) (H:Hp):Heap:=PySem.W.hideAll h (trk h H)
theorem hidT_size (h:Heap) (H:Hp):(hidT h H).objs.size=h.objs.size:=PySem.W.hideAll_size _ _
theorem hidT_get {h:Heap} {H:Hp} {b:Addr} {o:Obj} (e:h.get? b=some o) (n:H b=none):(hidT h H).get? b=some o:=
  PySem.W.hideAll_get _ e fun hm=>by
    have q:(H b).isSome=true:=(List.mem_filter.mp hm).2
    rw [n] at q;simp at q
theorem of_hidT {h:Heap} {H:Hp} {b:Addr} {o:Obj} (e:(hidT h H).get? b=some o):h.get? b=some o∧H b=none:=by
  have e':h.get? b=some o:=PySem.W.of_hideAll (trk h H) e
  refine ⟨e',?_⟩
  cases q:H b with
  | none=>rfl
  | some x=>
    have hm:b∈trk h H:=List.mem_filter.mpr ⟨List.mem_range.mpr (Heap.lt_size e'),by simp [q]⟩
    have z:(hidT h H).get? b=none:=PySem.W.hideAll_none (trk h H) hm
    rw [z] at e;cases e
def allNews (g h:Heap) (L:Addr):List (Addr × Obj):=(List.range h.objs.size).filterMap fun a=>if a=L∨(g.get? a).isSome=true then none else (h.get? a).map fun o=>(a,o)
def rest (g h:Heap) (L d:Addr):List (Addr × Obj):=(allNews g h L).filter fun p=>decide (p.1≠d)
end L2
namespace L2
open PySem PySem.Spec PyProof.Rows
structure Mod (K:PySem.W.Frag) (mg:Str→Option Value) (base:Heap):Prop where
  kin:K.In base
  glob:base.Ns mainGlobals mg
  blt:∃ mb,base.Ns builtinsNs mb∧∀ x:Str,x ≠ "__name__" → mb x=bootBuiltins x
  nolimit:base.NoLimit
structure Cx where
  prog:Program
  w:World
  K:PySem.W.Frag
  mg:Str→Option Value
  base:Heap
  A:Around
  N:List Str
  s₀:Shared
  H₀:Hp
  env:Env
  outer:List Env
  stack:List Env
  ex:List Addr
  fn:Str→Bool
  calm:Bool
  pn:List (Addr × Obj)
  xe:Value→Shared→Prop
def frs (l:List Env):List Addr:=l.filterMap (·.frame)
abbrev Cx.fs (X:Cx):List Addr:=frs X.outer
def Vis (sc:Scope) (x:Str):Prop:=sc.names.lookup x=some .local∨sc.names.lookup x=some .cell∨sc.names.lookup x=some .free
def Loc (sc:Scope) (x:Str):Prop:=sc.names.lookup x=some .local∨sc.names.lookup x=some .cell
def Look (env:Env) (h:Heap) (m:Str→Option Value) (x:Str) (u:Value):Prop:=
  (env.kindOf x=some .local∧m x=some u)∨((env.kindOf x=some .cell∨env.kindOf x=some .free)∧∃ c,env.cells.lookup x=some c∧h.IsCell c (some u))
structure Cx.Ok (X:Cx):Prop where
  mod:Mod X.K X.mg X.base
  kind:X.env.scope.kind=.function
  glob:X.env.globals=mainGlobals
  blt:X.env.builtins=builtinsNs
  above:X.s₀.heap.objs.size≤X.env.locals
  inj:∀ x y c,X.env.cells.lookup x=some c→X.env.cells.lookup y=some c→x=y
  has:∀ x,(X.env.kindOf x=some .cell∨X.env.kindOf x=some .free)→∃ c,X.env.cells.lookup x=some c
  cab:∀ x c,X.fn x=true→X.env.cells.lookup x=some c→X.s₀.heap.objs.size≤c
  hd:X.calm=true→X.A.handled=none
  frames:X.A.frames=some X.stack
  stk:X.stack=X.outer∨(X.stack=X.env :: X.outer∧X.env.frame=some X.env.locals)
  exf:∀ b∈X.ex,b≠X.env.locals∧∀ x c,X.env.cells.lookup x=some c→c≠b
  bs:∀ b o,X.base.get? b=some o→X.s₀.heap.get? b=some o∧X.H₀ b=none
  bsz:X.base.objs.size≤X.s₀.heap.objs.size
  noex:∀ b o,X.base.get? b=some o→b ∉ X.ex
  exfs:∀ b∈X.ex,b ∉ X.fs
  funs:X.s₀.heap.FunFrames X.base X.outer
  frf:∀ b∈X.fs,X.H₀ b=none
structure Inv (X:Cx) (pins:List (Addr × Obj)) (σ:List (Option V)) (H:Hp) (s:Shared):Prop where
  ok:X.Ok
  os:s.os=X.s₀.os
  bare:AllBare s.gens
  base:Un X.fs X.ex X.H₀ H X.s₀.heap s.heap
  loc:∃ m,s.heap.Ns X.env.locals m∧∀ (i:Nat) (x:Str) (v:V),X.N[i]?=some x→σ[i]?=some (some v)→Vis X.env.scope x→∃ u,RelV v u∧Look X.env s.heap m x u
  cell:∀ x c,X.env.cells.lookup x=some c→∃ v,s.heap.IsCell c v
  free:H X.env.locals=none
  freeC:∀ x c,X.env.cells.lookup x=some c→H c=none
  pin:∀ p∈X.pn++pins,s.heap.get? p.1=some p.2∧H p.1=none∧p.1≠X.env.locals∧p.1 ∉ X.fs∧∀ v,p.2.data≠.cell v
  hok:HOk X.prog X.w H s.heap
  len:σ.length=X.N.length
section
variable {X:Cx} {pins:List (Addr × Obj)} {σ:List (Option V)} {H H':Hp} {s:Shared} {h':Heap}
theorem Cx.Ok.nofr (ok:X.Ok) {b:Addr} {o:Obj} (e:X.base.get? b=some o):b ∉ X.fs:=fun hb=>by
  have:=(ok.funs.mem hb).1
  rw [e] at this;cases this
theorem Inv.bs (I:Inv X pins σ H s):∀ b o,X.base.get? b=some o→s.heap.get? b=some o∧H b=none:=fun b o e=>
  ⟨I.base.keep b o (I.ok.bs b o e).1 (I.ok.bs b o e).2 (I.ok.nofr e) (I.ok.noex b o e),I.base.free b o (I.ok.bs b o e).1 (I.ok.bs b o e).2 (I.ok.noex b o e)⟩
theorem Inv.bk (I:Inv X pins σ H s):∀ b o,X.base.get? b=some o→s.heap.get? b=some o:=fun b o e=>(I.bs b o e).1
theorem Inv.mod (I:Inv X pins σ H s):Mod X.K X.mg X.base:=I.ok.mod
theorem Inv.kIn (I:Inv X pins σ H s):X.K.In s.heap:=I.ok.mod.kin.keeps I.bk
theorem Inv.nolimit (I:Inv X pins σ H s):s.heap.NoLimit:=I.ok.mod.nolimit.keeps I.bk
theorem Inv.lt (I:Inv X pins σ H s):X.env.locals < s.heap.objs.size:=let ⟨_,hn,_⟩:=I.loc;hn.lt
theorem Inv.sz (I:Inv X pins σ H s):X.s₀.heap.objs.size≤s.heap.objs.size:=Nat.le_trans I.ok.above (Nat.le_of_lt I.lt)
theorem Inv.nofs (I:Inv X pins σ H s) {a:Addr} (h:s.heap.objs.size≤a):a ∉ X.fs:=fun hb=>by
  obtain ⟨_,o,ho,_⟩:=I.ok.funs.mem hb
  exact absurd (Nat.lt_of_lt_of_le (Heap.lt_size ho) (Nat.le_trans I.sz h)) (Nat.lt_irrefl _)
theorem Inv.cne (I:Inv X pins σ H s):∀ x c,X.env.cells.lookup x=some c→c≠X.env.locals:=fun x c e z=>by
  obtain ⟨v,o,ho,hd⟩:=I.cell x c e
  obtain ⟨m,⟨o',es,ep,ho',hd',_⟩,_⟩:=I.loc
  rw [z,ho'] at ho;cases ho;rw [hd'] at hd;cases hd
theorem Inv.funs (I:Inv X pins σ H s):s.heap.FunFrames X.base X.outer:=by
  have all:∀ (l:List Env),(∀ b∈frs l,b∈X.fs)→X.s₀.heap.FunFrames X.base l→s.heap.FunFrames X.base l:=by
    intro l
    induction l with
    | nil=>intro _ _;trivial
    | cons env r ih=>
      intro hs hl
      obtain ⟨hk,⟨L,o,hf,hn,ho,hd⟩,hr⟩:=hl
      have hL:L∈X.fs:=hs L (by unfold frs;rw [List.filterMap_cons,hf];exact List.mem_cons_self)
      obtain ⟨sl,e⟩:=I.base.slot L o ho (I.ok.frf L hL) hL fun z=>I.ok.exfs L z hL
      exact ⟨hk,⟨L,_,hf,hn,e,hd⟩,ih (fun b hb=>hs b (by unfold frs;rw [List.filterMap_cons,hf];exact List.mem_cons_of_mem _ hb)) hr⟩
  exact all X.outer (fun _ hb=>hb) I.ok.funs
theorem Inv.stack (I:Inv X pins σ H s):s.heap.FunFrames X.base X.stack:=by
  rcases I.ok.stk with e | ⟨e,hf⟩
  · rw [e];exact I.funs
  · rw [e]
    obtain ⟨m,hn,_⟩:=I.loc
    refine .cons (by rw [I.ok.kind];decide) hf hn ?_ I.funs
    exact Heap.get?_none_of_le (Nat.le_trans I.ok.bsz I.ok.above)
theorem Inv.stkSub (I:Inv X pins σ H s):∀ b∈frs X.stack,b∈X.env.locals :: X.fs:=fun b hb=>by
  rcases I.ok.stk with e | ⟨e,hf⟩
  · rw [e] at hb;exact List.mem_cons_of_mem _ hb
  · rw [e] at hb
    unfold frs at hb
    rw [List.filterMap_cons,hf] at hb
    exact hb
theorem Inv.stkFree (I:Inv X pins σ H s):∀ b∈frs X.stack,H b=none:=fun b hb=>by
  rcases List.mem_cons.mp (I.stkSub b hb) with e | hb
  · rw [e];exact I.free
  · obtain ⟨_,o,ho,_⟩:=I.ok.funs.mem hb
    exact I.base.free b o ho (I.ok.frf b hb) fun z=>I.ok.exfs b z hb
theorem Inv.step {g':Array GenState} {t':Nat} {d':Drawn} {ch:List Addr} (I:Inv X pins σ H s)
    (hch:∀ b∈ch,(b∈X.ex∨X.s₀.heap.objs.size≤b)∧b≠X.env.locals∧(∀ x c,X.env.cells.lookup x=some c→c≠b)∧∀ p∈X.pn++pins,p.1≠b)
    (keep:∀ b o,b≠X.env.locals→b ∉ X.fs→b ∉ ch→s.heap.get? b=some o→H b=none→h'.get? b=some o)
    (slot:∀ b o,b≠X.env.locals→b∈X.fs→b ∉ ch→s.heap.get? b=some o→H b=none→∃ sl,h'.get? b=some { o with slots:=sl }) (free:∀ b o,b ∉ ch→s.heap.get? b=some o→H b=none→H' b=none)
    (there:∀ b o,b ∉ ch→s.heap.get? b=some o→∃ o',h'.get? b=some o')
    (tups:∀ b xs,H b=some (.tup xs)→H' b=some (.tup xs)) (frzs:∀ b o u,H b=some (.frz o u)→H' b=some (.frz o u)) (tbls:∀ b ps,H b=some (.tbl ps)→∃ more,H' b=some (.tbl (ps++more)))
    (ns:∀ m,s.heap.Ns X.env.locals m→h'.Ns X.env.locals m) (hok:HOk X.prog X.w H' h') (hg:AllBare g') :
    Inv X pins σ H' { s with heap:=h',gens:=g',drawn:=d',toks:=t' }:=by
  have neL:∀ b o,X.s₀.heap.get? b=some o→b≠X.env.locals:=fun b o e=>Nat.ne_of_lt (Nat.lt_of_lt_of_le (Heap.lt_size e) I.ok.above)
  have neC:∀ b o,X.s₀.heap.get? b=some o→b ∉ X.ex→b ∉ ch:=fun b o e hx hb=>by
    rcases (hch b hb).1 with z | z
    · exact hx z
    · exact absurd (Nat.lt_of_lt_of_le (Heap.lt_size e) z) (Nat.lt_irrefl _)
  have cellK:∀ x c,X.env.cells.lookup x=some c→∀ v,s.heap.IsCell c v→h'.IsCell c v:=fun x c e v ⟨o,ho,hd⟩=>by
    have nch:c ∉ ch:=fun z=>(hch c z).2.2.1 x c e rfl
    by_cases hc:c∈X.fs
    · obtain ⟨sl,q⟩:=slot c o (I.cne x c e) hc nch ho (I.freeC x c e)
      exact ⟨_,q,hd⟩
    · exact ⟨o,keep c o (I.cne x c e) hc nch ho (I.freeC x c e),hd⟩
  refine ⟨I.ok,I.os,hg,⟨fun b o e n hb hx=>?_,fun b o e n hb hx=>?_,fun b o e n hx=>?_,fun b o e hx=>?_,fun b xs e=>tups b xs (I.base.tups b xs e),fun b o xs e=>frzs b o xs (I.base.frzs b o xs e),fun b ps e=>?_⟩,?_,fun x c e=>?_,?_,fun x c e=>?_,fun p hp=>?_,hok,I.len⟩
  · exact keep b o (neL b o e) hb (neC b o e hx) (I.base.keep b o e n hb hx) (I.base.free b o e n hx)
  · obtain ⟨sl,e1⟩:=I.base.slot b o e n hb hx
    obtain ⟨sl',e2⟩:=slot b _ (neL b o e) hb (neC b o e hx) e1 (I.base.free b o e n hx)
    exact ⟨sl',e2⟩
  · obtain ⟨o',e1⟩:=I.base.there b o e hx
    exact free b o' (neC b o e hx) e1 (I.base.free b o e n hx)
  · obtain ⟨o',e1⟩:=I.base.there b o e hx
    exact there b o' (neC b o e hx) e1
  · obtain ⟨m1,e1⟩:=I.base.tbls b ps e
    obtain ⟨m2,e2⟩:=tbls b _ e1
    exact ⟨m1++m2,by rw [e2,Array.append_assoc]⟩
  · obtain ⟨m,hn,hl⟩:=I.loc
    refine ⟨m,ns m hn,fun i x v e1 e2 e3=>?_⟩
    obtain ⟨u,r,l⟩:=hl i x v e1 e2 e3
    refine ⟨u,r,?_⟩
    rcases l with l | ⟨k,c,e,z⟩
    · exact .inl l
    · exact .inr ⟨k,c,e,cellK x c e _ z⟩
  · obtain ⟨v,z⟩:=I.cell x c e
    exact ⟨v,cellK x c e v z⟩
  · obtain ⟨m,⟨o,_,_,ho,_⟩,_⟩:=I.loc
    exact free _ o (fun z=>(hch _ z).2.1 rfl) ho I.free
  · obtain ⟨v,o,ho,hd⟩:=I.cell x c e
    exact free c o (fun z=>(hch c z).2.2.1 x c e rfl) ho (I.freeC x c e)
  · obtain ⟨e,n,ne,nf,d⟩:=I.pin p hp
    have nch:p.1 ∉ ch:=fun z=>(hch p.1 z).2.2.2 p hp rfl
    exact ⟨keep p.1 p.2 ne nf nch e n,free p.1 p.2 nch e n,ne,nf,d⟩
theorem Inv.un {t':Nat} (I:Inv X pins σ H s) (u:Un X.fs [] H H' s.heap h') (hok:HOk X.prog X.w H' h'):Inv X pins σ H' { s with heap:=h',toks:=t' }:=by
  obtain ⟨m,⟨o,es,ep,ho,r⟩,_⟩:=id I.loc
  obtain ⟨sl,hL⟩:=u.any ho I.free (by simp)
  exact I.step (g':=s.gens) (d':=s.drawn) (ch:=[]) (fun _ z=>nomatch z) (fun b o _ hb _ e n=>u.keep b o e n hb (by simp)) (fun b o _ hb _ e n=>u.slot b o e n hb (by simp)) (fun b o _ e n=>u.free b o e n (by simp)) (fun b o _ e=>u.there b o e (by simp)) u.tups u.frzs u.tbls (fun m' hm=>by
    obtain ⟨o',es',ep',ho',r'⟩:=hm
    rw [ho] at ho';cases ho'
    exact ⟨_,es',ep',hL,r'⟩) hok I.bare
theorem Inv.call {g':Array GenState} {t':Nat} {d':Drawn} {ch:List Addr} (I:Inv X pins σ H s) (u:Un (frs X.stack) ch H H' s.heap h') (hok:HOk X.prog X.w H' h') (hg:AllBare g')
    (hch:∀ b∈ch,(b∈X.ex∨X.s₀.heap.objs.size≤b)∧b≠X.env.locals∧(∀ x c,X.env.cells.lookup x=some c→c≠b)∧∀ p∈X.pn++pins,p.1≠b) :
    Inv X pins σ H' { s with heap:=h',gens:=g',drawn:=d',toks:=t' }:=by
  obtain ⟨m,⟨o,es,ep,ho,r⟩,_⟩:=id I.loc
  obtain ⟨sl,hL⟩:=u.any ho I.free fun z=>(hch _ z).2.1 rfl
  exact I.step (ch:=ch) hch (fun b o hL hb hc e n=>u.keep b o e n (fun z=>(List.mem_cons.mp (I.stkSub b z)).elim hL hb) hc) (fun b o _ _ hc e n=>u.any e n hc) (fun b o hc e n=>u.free b o e n hc) (fun b o hc e=>u.there b o e hc) u.tups u.frzs u.tbls (fun m' hm=>by
    obtain ⟨o',es',ep',ho',r'⟩:=hm
    rw [ho] at ho';cases ho'
    exact ⟨_,es',ep',hL,r'⟩) hok hg
theorem Inv.turned {t':Nat} {it:Addr} (I:Inv X pins σ H s) (k:∀ b o,b≠it→s.heap.get? b=some o→h'.get? b=some o) (hn:H it=none) (hL:it≠X.env.locals)
    (h1:it∈X.ex∨X.s₀.heap.objs.size≤it) (h2:∀ x c,X.env.cells.lookup x=some c→c≠it) (h3:∀ p∈X.pn++pins,p.1≠it):Inv X pins σ H { s with heap:=h',toks:=t' }:=by
  have nit:∀ b u,H b=some u→b≠it:=fun b u e z=>by rw [z,hn] at e;cases e
  refine I.step (g':=s.gens) (d':=s.drawn) (ch:=[it]) (fun b hb=>?_) (fun b o _ _ hc e _=>k b o (fun z=>hc (by simp [z])) e) (fun b o _ _ hc e _=>⟨o.slots,k b o (fun z=>hc (by simp [z])) e⟩) (fun _ _ _ _ n=>n)
    (fun b o hc e=>⟨o,k b o (fun z=>hc (by simp [z])) e⟩) (fun _ _ e=>e) (fun _ _ _ e=>e) (fun b ps e=>⟨#[],by rw [e];simp⟩) (fun m hm=>?_) (fun b u e=>?_) I.bare
  · have e:b=it:=by simpa using hb
    subst e
    exact ⟨h1,hL,h2,h3⟩
  · obtain ⟨o,es,ep,ho,r⟩:=hm
    exact ⟨o,es,ep,k _ o (Ne.symm hL) ho,r⟩
  · refine (I.hok b u e).stay (fun c v hc q=>k c v ?_ q) (fun _ q=>q) fun _ _ q=>q
    rcases hc with z | z
    · rw [z];exact nit b u e
    · exact nit c _ z
theorem Inv.tok (I:Inv X pins σ H s) (t:Nat):Inv X pins σ H { s with toks:=t }:=I.un (h':=s.heap) (t':=t) Un.refl I.hok
theorem Inv.kept {t':Nat} (I:Inv X pins σ H s) (k:∀ b u,s.heap.get? b=some u→h'.get? b=some u):Inv X pins σ H { s with heap:=h',toks:=t' }:=I.un (Un.kept k) (I.hok.kept k)
theorem Inv.laid {a:Addr} {o:HO} {t':Nat} (I:Inv X pins σ H s) (k:∀ b u,s.heap.get? b=some u→h'.get? b=some u) (hp:s.heap.objs.size≤a) (new:ObjOk X.prog X.w (upd H a o) h' a o) :
    Inv X pins σ (upd H a o) { s with heap:=h',toks:=t' }:=I.un (Un.laid k hp (I.hok.fresh hp)) (I.hok.laid k hp new)
theorem Inv.write {x e:Addr} {o:HO} {t':Nat} (I:Inv X pins σ H s) (mu:Mut (H x)) (he:e=x∨H e=some (.own x)) (k:∀ b u,b≠e→s.heap.get? b=some u→h'.get? b=some u) (heo:∃ u,h'.get? e=some u)
    (new:ObjOk X.prog X.w (upd H x o) h' x o):Inv X pins σ (upd H x o) { s with heap:=h',toks:=t' }:=I.un (Un.write mu he k heo) (I.hok.write mu he k heo new)
theorem Inv.weak {σ':List (Option V)} (I:Inv X pins σ H s) (hl:σ'.length=σ.length) (w:∀ (i:Nat) v,σ'[i]?=some (some v)→σ[i]?=some (some v)):Inv X pins σ' H s:=
  ⟨I.ok,I.os,I.bare,I.base,let ⟨m,hn,hl'⟩:=I.loc;⟨m,hn,fun i x v e1 e2 e3=>hl' i x v e1 (w i v e2) e3⟩,I.cell,I.free,I.freeC,I.pin,I.hok,hl.trans I.len⟩
theorem Inv.pins_of {pins':List (Addr × Obj)} (I:Inv X pins σ H s) (h:∀ p∈pins',s.heap.get? p.1=some p.2∧H p.1=none∧p.1≠X.env.locals∧p.1 ∉ X.fs∧∀ v,p.2.data≠.cell v):Inv X pins' σ H s:=
  ⟨I.ok,I.os,I.bare,I.base,I.loc,I.cell,I.free,I.freeC,fun p hp=>(List.mem_append.mp hp).elim (fun z=>I.pin p (List.mem_append_left _ z)) (h p),I.hok,I.len⟩
theorem nodup_ix {N:List Str} (hN:N.Nodup) {i j:Nat} {x:Str} (a:N[i]?=some x) (b:N[j]?=some x):i=j:=by
  obtain ⟨h1,e1⟩:=List.getElem?_eq_some_iff.mp a
  obtain ⟨h2,e2⟩:=List.getElem?_eq_some_iff.mp b
  exact (List.getElem_inj hN).mp (e1.trans e2.symm)
theorem store_ok2 {M:Model} {A:Around} {E:Value→Shared→Prop} {i:Nat} {x:Str} {v:V} {u:Value} {Q:Unit→Shared→Prop} (I:Inv X pins σ H s) (hN:X.N.Nodup) (hi:X.N[i]?=some x) (hx:Loc X.env.scope x) (r:RelV v u)
    (h:∀ s',Inv X pins (σ.set i (some v)) H s'→(∃ a,Heap.SameBut a s.heap s'.heap∧(a=X.env.locals∨X.env.cells.lookup x=some a))→Q () s') (hf:X.fn x=true∨X.env.scope.names.lookup x=some .local:=by first | exact .inl rfl | exact .inr rfl | assumption):wpAny M A (storeName X.env x u) Q E s:=by
  obtain ⟨m,hn,hl⟩:=id I.loc
  have hcls:(X.env.scope.kind == .class || (X.env.scope.kind == .module && X.env.locals != X.env.globals))=false:=by rw [I.ok.kind];rfl
  have hiσ:i < σ.length:=by rw [I.len];exact (List.getElem?_eq_some_iff.mp hi).1
  have cne:=I.cne
  have tracked:∀ {a:Addr} {h':Heap},(∃ o,s.heap.get? a=some o∧H a=none)→Heap.SameBut a s.heap h'→HOk X.prog X.w H h':=fun {a h'} ha hs b ob e=>by
    obtain ⟨_,_,hfree⟩:=ha
    refine (I.hok b ob e).stay (fun c w' hc q=>(hs.2 c ?_).trans q) (fun _ q=>q) fun _ _ q=>q
    rintro rfl
    rcases hc with rfl | hc
    · rw [hfree] at e;cases e
    · rw [hfree] at hc;cases hc
  rcases hx with hk | hk
  · refine wpAny_storeName_local hk hn (fun h' hn' hs=>?_) hcls
    obtain ⟨oL,_,_,hoL,_⟩:=id hn
    refine h _ ⟨I.ok,I.os,I.bare,⟨fun b o e n hb hx=>?_,fun b o e n hb hx=>?_,I.base.free,fun b o e hx=>?_,I.base.tups,I.base.frzs,I.base.tbls⟩,⟨_,hn',fun j y v' e1 e2 e3=>?_⟩,fun y c e=>?_,I.free,I.freeC,fun p hp=>?_,tracked ⟨oL,hoL,I.free⟩ hs,by simpa using I.len⟩ ⟨_,hs,.inl rfl⟩
    · exact (hs.2 b (Nat.ne_of_lt (Nat.lt_of_lt_of_le (Heap.lt_size e) I.ok.above))).trans (I.base.keep b o e n hb hx)
    · obtain ⟨sl,e1⟩:=I.base.slot b o e n hb hx
      exact ⟨sl,(hs.2 b (Nat.ne_of_lt (Nat.lt_of_lt_of_le (Heap.lt_size e) I.ok.above))).trans e1⟩
    · obtain ⟨o',e1⟩:=I.base.there b o e hx
      exact ⟨o',(hs.2 b (Nat.ne_of_lt (Nat.lt_of_lt_of_le (Heap.lt_size e) I.ok.above))).trans e1⟩
    · by_cases hj:j=i
      · subst hj
        rw [hi] at e1;cases e1
        rw [List.getElem?_set_self hiσ] at e2
        cases e2
        exact ⟨u,r,.inl ⟨hk,by simp⟩⟩
      · rw [List.getElem?_set_ne (Ne.symm hj)] at e2
        obtain ⟨u',r',q⟩:=hl j y v' e1 e2 e3
        refine ⟨u',r',?_⟩
        rcases q with ⟨k,e⟩ | ⟨k,c,e,z⟩
        · refine .inl ⟨k,?_⟩
          have:y≠x:=fun e=>hj (nodup_ix hN e1 (e ▸ hi))
          simp [this,e]
        · exact .inr ⟨k,c,e,z.sameBut hs (cne y c e)⟩
    · obtain ⟨w',z⟩:=I.cell y c e
      exact ⟨w',z.sameBut hs (cne y c e)⟩
    · obtain ⟨e,n,ne,nf,d⟩:=I.pin p hp
      exact ⟨(hs.2 p.1 ne).trans e,n,ne,nf,d⟩
  · have hfn:X.fn x=true:=by
      rcases hf with z | z
      · exact z
      · rw [z] at hk;cases hk
    obtain ⟨c,hc⟩:=I.ok.has x (.inl hk)
    obtain ⟨w',z⟩:=I.cell x c hc
    refine wpAny_storeName_cell I.ok.kind hk hc z (fun h' hc' hs=>?_)
    obtain ⟨oc,hoc,hocd⟩:=id z
    refine h { s with heap:=h' } ⟨I.ok,I.os,I.bare,⟨fun b o e n hb hx=>?_,fun b o e n hb hx=>?_,I.base.free,fun b o e hx=>?_,I.base.tups,I.base.frzs,I.base.tbls⟩,⟨m,hn.sameBut hs (Ne.symm (cne x c hc)),fun j y v' e1 e2 e3=>?_⟩,fun y c' e=>?_,I.free,I.freeC,fun p hp=>?_,tracked ⟨oc,hoc,I.freeC x c hc⟩ hs,by simpa using I.len⟩ ⟨c,hs,.inr hc⟩
    · exact (hs.2 b (Nat.ne_of_lt (Nat.lt_of_lt_of_le (Heap.lt_size e) (I.ok.cab x c hfn hc)))).trans (I.base.keep b o e n hb hx)
    · obtain ⟨sl,e1⟩:=I.base.slot b o e n hb hx
      exact ⟨sl,(hs.2 b (Nat.ne_of_lt (Nat.lt_of_lt_of_le (Heap.lt_size e) (I.ok.cab x c hfn hc)))).trans e1⟩
    · obtain ⟨o',e1⟩:=I.base.there b o e hx
      exact ⟨o',(hs.2 b (Nat.ne_of_lt (Nat.lt_of_lt_of_le (Heap.lt_size e) (I.ok.cab x c hfn hc)))).trans e1⟩
    · by_cases hj:j=i
      · subst hj
        rw [hi] at e1;cases e1
        rw [List.getElem?_set_self hiσ] at e2
        cases e2
        exact ⟨u,r,.inr ⟨.inl hk,c,hc,hc'⟩⟩
      · rw [List.getElem?_set_ne (Ne.symm hj)] at e2
        obtain ⟨u',r',q⟩:=hl j y v' e1 e2 e3
        refine ⟨u',r',?_⟩
        rcases q with q | ⟨k,c',e,z'⟩
        · exact .inl q
        · refine .inr ⟨k,c',e,z'.sameBut hs ?_⟩
          rintro rfl
          exact hj (nodup_ix hN e1 (I.ok.inj _ _ _ e hc ▸ hi))
    · by_cases hcc:c'=c
      · subst hcc;exact ⟨_,hc'⟩
      · obtain ⟨w2,z2⟩:=I.cell y c' e
        exact ⟨w2,z2.sameBut hs hcc⟩
    · obtain ⟨e,n,ne,nf,d⟩:=I.pin p hp
      refine ⟨(hs.2 p.1 ?_).trans e,n,ne,nf,d⟩
      intro q
      rw [q,hoc] at e
      have q':oc=p.2:=Option.some.inj e
      exact d w' (by rw [← q'];exact hocd)
theorem store_ok {M:Model} {A:Around} {E:Value→Shared→Prop} {i:Nat} {x:Str} {v:V} {u:Value} {Q:Unit→Shared→Prop} (I:Inv X pins σ H s) (hN:X.N.Nodup) (hi:X.N[i]?=some x) (hx:Loc X.env.scope x) (r:RelV v u)
    (h:∀ s',Inv X pins (σ.set i (some v)) H s'→Q () s') (hf:X.fn x=true∨X.env.scope.names.lookup x=some .local:=by first | exact .inl rfl | exact .inr rfl | assumption):wpAny M A (storeName X.env x u) Q E s:=
  store_ok2 I hN hi hx r (fun s' I' _=>h s' I') hf
theorem Inv.call' {s':Shared} {ch:List Addr} (I:Inv X pins σ H s) (ho:s'.os=s.os) (u:Un (frs X.stack) ch H H' s.heap s'.heap) (hok:HOk X.prog X.w H' s'.heap) (hg:AllBare s'.gens)
    (hch:∀ b∈ch,(b∈X.ex∨X.s₀.heap.objs.size≤b)∧b≠X.env.locals∧(∀ x c,X.env.cells.lookup x=some c→c≠b)∧∀ p∈X.pn++pins,p.1≠b):Inv X pins σ H' s':=by
  obtain ⟨h',g',d',t',o'⟩:=s'
  have e:o'=s.os:=ho
  subst e
  exact I.call (g':=g') (t':=t') (d':=d') u hok hg hch
end
abbrev XK:=Value→Option Addr→Hp→Prop
abbrev St:=List (Option V)
abbrev VK:=V→Hp→Prop
abbrev TE:=St→Hp→VK→Prop
abbrev TT:=St→Hp→(Bool→Hp→Prop)→Prop
abbrev TA:=St→Hp→(List V→Hp→Prop)→Prop
structure Ends where
  nx:St→Hp→Prop
  rt:VK
  bk:St→Hp→Prop:=fun _ _=>False
  ct:St→Hp→Prop:=fun _ _=>False
abbrev TS:=Ends→St→Hp→Prop
def EP (X:Cx) (pins:List (Addr × Obj)) (σ:St) (Q:VK) (u:Value) (s':Shared):Prop:=∃ v H',Inv X pins σ H' s'∧RelV v u∧Q v H'
def TP (X:Cx) (pins:List (Addr × Obj)) (σ:St) (Q:Bool→Hp→Prop) (b:Bool) (s':Shared):Prop:=∃ H',Inv X pins σ H' s'∧Q b H'
def AP (X:Cx) (pins:List (Addr × Obj)) (σ:St) (Q:List V→Hp→Prop) (us:List Value) (s':Shared):Prop:=∃ vs H',Inv X pins σ H' s'∧Vals vs us∧Q vs H'
def SP (X:Cx) (pins:List (Addr × Obj)) (D:Ends) (f:Flow) (s':Shared):Prop:=
  match f with
  | .next=>∃ σ' H',Inv X pins σ' H' s'∧D.nx σ' H'
  | .brk=>∃ σ' H',Inv X pins σ' H' s'∧D.bk σ' H'
  | .cont=>∃ σ' H',Inv X pins σ' H' s'∧D.ct σ' H'
  | .ret u=>∃ v σ' H',Inv X pins σ' H' s'∧RelV v u∧D.rt v H'
def PE (X:Cx) (e:Expr) (t:TE):Prop:=
  ∀ (pins:List (Addr × Obj)) (s:Shared) (σ:St) (H:Hp) (Q:VK),Inv X pins σ H s→t σ H Q→wpAny (model X.prog X.w) X.A (eval e X.env) (EP X pins σ Q) X.xe s
def PT (X:Cx) (e:Expr) (t:TT):Prop:=
  ∀ (pins:List (Addr × Obj)) (s:Shared) (σ:St) (H:Hp) (Q:Bool→Hp→Prop),Inv X pins σ H s→t σ H Q→wpAny (model X.prog X.w) X.A (isTrue e X.env (eval e X.env)) (TP X pins σ Q) X.xe s
def PW (X:Cx) (e:Expr) (t:TT):Prop:=
  ∀ (whole:Sem Value) (pins:List (Addr × Obj)) (s:Shared) (σ:St) (H:Hp) (Q:Bool→Hp→Prop),Inv X pins σ H s→t σ H Q→wpAny (model X.prog X.w) X.A (isTrue e X.env whole) (TP X pins σ Q) X.xe s
theorem PW.pt {X:Cx} {e:Expr} {t:TT} (h:PW X e t):PT X e t:=h _
def PA (X:Cx) (es:List Expr) (t:TA):Prop:=
  ∀ (pos:Pos) (pins:List (Addr × Obj)) (s:Shared) (σ:St) (H:Hp) (Q:List V→Hp→Prop),Inv X pins σ H s→t σ H Q→wpAny (model X.prog X.w) X.A (spliced (backTo pos (starEach es X.env))) (AP X pins σ Q) X.xe s
def PS (X:Cx) (st:Stmt) (t:TS):Prop:=
  ∀ (pins:List (Addr × Obj)) (s:Shared) (σ:St) (H:Hp) (D:Ends),Inv X pins σ H s→t D σ H→wpAny (model X.prog X.w) X.A (exec st X.env) (SP X pins D) X.xe s
def PSs (X:Cx) (st:List Stmt) (t:TS):Prop:=
  ∀ (pins:List (Addr × Obj)) (s:Shared) (σ:St) (H:Hp) (D:Ends),Inv X pins σ H s→t D σ H→wpAny (model X.prog X.w) X.A (execs st X.env) (SP X pins D) X.xe s
theorem thn {α:Type} {t:Sem α} {Q Q':α→Shared→Prop} {M:Model} {A:Around} {E:Value→Shared→Prop} {s:Shared} (h:wpAny M A t Q E s) (hQ:∀ a s,Q a s→Q' a s):wpAny M A t Q' E s:=wpAny_mono h hQ fun _ _ x=>x
end L2
namespace L2
open PySem PySem.Spec PyProof.Rows
section
variable {X:Cx}
def tVar (i:Nat):TE:=fun σ H Q=>∃ v,σ[i]?=some (some v)∧Q v H
def tC (v:V):TE:=fun _ H Q=>Q v H
theorem pe_var {i:Nat} {x:Str} {pos:Pos} (hN:X.N[i]?=some x) (hv:Vis X.env.scope x) (hd:(x == ("__debug__" : Str))=false:=by decide) (hcd:(x == ("__classdict__" : Str))=false:=by decide):PE X (.Name x pos) (tVar i):=by
  intro pins s σ H Q I h
  obtain ⟨v,e,h⟩:=h
  obtain ⟨m,hn,hl⟩:=I.loc
  obtain ⟨u,r,l⟩:=hl i x v hN e hv
  have fin:EP X pins σ Q u s:=⟨v,H,I,r,h⟩
  rcases l with ⟨hk,hm⟩ | ⟨hk,c,hc,hcell⟩
  · exact wpAny_Name (wpAny_loadName_local I.ok.kind hk hn hm fin) hd
  · rcases hk with hk | hk
    · exact wpAny_Name (wpAny_loadName_cell I.ok.kind hk hc hcell fin) hd
    · exact wpAny_Name (wpAny_loadName_free I.ok.kind hk hc hcell fin hcd) hd
theorem pe_int {i j pos}:PE X (.Constant (.int i) j pos) (tC (.int i)):=fun _ _ _ H _ I h=>wpAny_Constant_int ⟨.int i,H,I.tok _,⟨_,rfl⟩,h⟩
theorem pe_bl {b j pos}:PE X (.Constant (.bool b) j pos) (tC (.bl b)):=fun _ _ _ H _ I h=>Constant_bool ⟨.bl b,H,I,rfl,h⟩
theorem pe_non {j pos}:PE X (.Constant .none j pos) (tC .non):=fun _ _ _ H _ I h=>Constant_none ⟨.non,H,I,rfl,h⟩
theorem pe_str {x j pos}:PE X (.Constant (.str x) j pos) (tC (.str x)):=fun _ _ _ H _ I h=>Calls.Constant_str ⟨.str x,H,I.tok _,⟨_,rfl⟩,h⟩
def Gl (X:Cx) (x:Str):Prop:=X.env.kindOf x=some .globalImplicit
theorem ld_glob {E:Value→Shared→Prop} {pins:List (Addr × Obj)} {s:Shared} {σ:St} {H:Hp} {x:Str} {u:Value} {pos:Pos} {Q:Value→Shared→Prop} (I:Inv X pins σ H s) (hg:Gl X x) (hm:X.mg x=some u) (h:Q u s)
    (hd:(x == ("__debug__" : Str))=false:=by decide):wpAny (model X.prog X.w) X.A (eval (.Name x pos) X.env) Q E s:=
  Calls.Name_function_global I.ok.kind hg (Calls.loadGlobal_global (by rw [I.ok.glob];exact I.mod.glob.keeps I.bk) hm h) hd
theorem ld_blt {E:Value→Shared→Prop} {pins:List (Addr × Obj)} {s:Shared} {σ:St} {H:Hp} {x:Str} {u:Value} {pos:Pos} {Q:Value→Shared→Prop} (I:Inv X pins σ H s) (hg:Gl X x) (hm:X.mg x=none) (hv:bootBuiltins x=some u) (h:Q u s)
    (hn:x ≠ "__name__" := by decide) (hd:(x == ("__debug__" : Str))=false:=by decide):wpAny (model X.prog X.w) X.A (eval (.Name x pos) X.env) Q E s:=by
  obtain ⟨mb,h1,h2⟩:=I.mod.blt
  exact Calls.Name_function_global I.ok.kind hg (Calls.loadGlobal_builtin (by rw [I.ok.glob];exact I.mod.glob.keeps I.bk) hm (by rw [I.ok.blt];exact h1.keeps I.bk) ((h2 x hn).trans hv) h) hd
theorem pe_glob {x:Str} {v:V} {u:Value} {pos:Pos} (hg:Gl X x) (hm:X.mg x=some u) (r:RelV v u) (hd:(x == ("__debug__" : Str))=false:=by decide):PE X (.Name x pos) (tC v):=
  fun _ _ _ H _ I h=>ld_glob I hg hm ⟨v,H,I,r,h⟩ hd
theorem pe_bltn {x:Str} {v:V} {u:Value} {pos:Pos} (hg:Gl X x) (hm:X.mg x=none) (hv:bootBuiltins x=some u) (r:RelV v u) (hn:x ≠ "__name__" := by decide) (hd:(x == ("__debug__" : Str))=false:=by decide):PE X (.Name x pos) (tC v):=
  fun _ _ _ H _ I h=>ld_blt I hg hm hv ⟨v,H,I,r,h⟩ hn hd
variable {a b:Expr} {ta tb:TE} {pos:Pos}
def tB (t:TE):TT:=fun σ H Q=>t σ H fun x H1=>∃ c,x=.bl c∧Q c H1
theorem pt_val {e:Expr} {t:TE} (h:PE X e t) (he:∀ whole,isTrue e X.env whole=(do let v ← whole;standAt e.pos;holding [v] (truthy v)):=by intro _;rfl):PT X e (tB t):=by
  intro pins s σ H Q I hw
  refine isTrue_plain (thn (h pins s σ H _ I hw) fun v s1 ⟨x,H1,I1,r1,q1⟩=>?_) (he _)
  obtain ⟨d,rfl,q⟩:=q1
  cases r1
  exact wpAny_truthy_bool ⟨H1,I1,q⟩
variable {tA tB':TT} {rest:List Expr}
def tAnd (t u:TT):TT:=fun σ H Q=>t σ H fun c H1=>if c=true then u σ H1 Q else Q false H1
def tOr (t u:TT):TT:=fun σ H Q=>t σ H fun c H1=>if c=true then Q true H1 else u σ H1 Q
def tNot (t:TT):TT:=fun σ H Q=>t σ H fun c H1=>Q (!c) H1
theorem pw_and1 (ha:PT X a tA):PW X (.BoolOp .And [a] pos) tA:=by
  intro wh pins s σ H Q I h
  refine isTrue_and (thn (ha pins s σ H Q I h) fun c s1 e=>?_)
  cases c with
  | true=>exact isTrue_and_nil e
  | false=>exact e
theorem pw_or1 (ha:PT X a tA):PW X (.BoolOp .Or [a] pos) tA:=by
  intro wh pins s σ H Q I h
  refine isTrue_or (thn (ha pins s σ H Q I h) fun c s1 e=>?_)
  cases c with
  | false=>exact isTrue_or_nil e
  | true=>exact e
theorem pw_and (ha:PT X a tA) (hb:PW X (.BoolOp .And (b :: rest) pos) tB'):PW X (.BoolOp .And (a :: b :: rest) pos) (tAnd tA tB'):=by
  intro wh pins s σ H Q I h
  refine isTrue_and (thn (ha pins s σ H _ I h) fun c s1 ⟨H1,I1,q1⟩=>?_)
  cases c with
  | true=>exact hb wh pins s1 σ H1 Q I1 q1
  | false=>exact ⟨H1,I1,q1⟩
theorem pw_or (ha:PT X a tA) (hb:PW X (.BoolOp .Or (b :: rest) pos) tB'):PW X (.BoolOp .Or (a :: b :: rest) pos) (tOr tA tB'):=by
  intro wh pins s σ H Q I h
  refine isTrue_or (thn (ha pins s σ H _ I h) fun c s1 ⟨H1,I1,q1⟩=>?_)
  cases c with
  | true=>exact ⟨H1,I1,q1⟩
  | false=>exact hb wh pins s1 σ H1 Q I1 q1
theorem pt_not (ha:PT X a tA):PT X (.UnaryOp .Not a pos) (tNot tA):=by
  intro pins s σ H Q I h
  exact isTrue_not (ha pins s σ H (fun c H1=>Q (!c) H1) I h)
def tAndV (ta tb:TE):TE:=fun σ H Q=>ta σ H fun x H1=>∃ c,x=.bl c∧if c=true then tb σ H1 Q else Q (.bl false) H1
def tNotV (ta:TE):TE:=fun σ H Q=>ta σ H fun x H1=>∃ c,x=.bl c∧Q (.bl (!c)) H1
theorem pe_one {op} {t:TE} (h:PE X a t):PE X (.BoolOp op [a] pos) t:=fun pins s σ H Q I hw=>BoolOp_one (h pins s σ H Q I hw)
theorem pe_and (ha:PE X a ta) (hb:PE X (.BoolOp .And (b :: rest) pos) tb):PE X (.BoolOp .And (a :: b :: rest) pos) (tAndV ta tb):=by
  intro pins s σ H Q I h
  refine BoolOp_and (thn (ha pins s σ H _ I h) fun v s1 ⟨x,H1,I1,r1,q1⟩=>?_)
  obtain ⟨c,rfl,q1⟩:=q1
  cases r1
  refine wpAny_truthy_bool ?_
  cases c with
  | true=>exact hb pins s1 σ H1 Q I1 q1
  | false=>exact ⟨.bl false,H1,I1,rfl,q1⟩
theorem pe_not (ha:PE X a ta):PE X (.UnaryOp .Not a pos) (tNotV ta):=by
  intro pins s σ H Q I h
  refine UnaryOp_ (thn (ha pins s σ H _ I h) fun v s1 ⟨x,H1,I1,r1,q1⟩=>?_)
  obtain ⟨c,rfl,q1⟩:=q1
  cases r1
  exact not_of (wpAny_truthy_bool ⟨.bl (!c),H1,I1,rfl,q1⟩)
def tIf (t:TT) (ta tb:TE):TE:=fun σ H Q=>t σ H fun c H1=>if c=true then ta σ H1 Q else tb σ H1 Q
theorem pe_ifExp {c:Expr} (hc:PT X c tA) (ha:PE X a ta) (hb:PE X b tb):PE X (.IfExp c a b pos) (tIf tA ta tb):=by
  intro pins s σ H Q I h
  refine wpAny_IfExp (thn (hc pins s σ H _ I h) fun d s1 ⟨H1,I1,q1⟩=>?_)
  cases d with
  | true=>exact ha pins s1 σ H1 Q I1 q1
  | false=>exact hb pins s1 σ H1 Q I1 q1
end
end L2
namespace L2
open PySem PySem.Spec PyProof.Rows
def SqL (K:PySem.W.Frag) (H:Hp) (a:Addr) (xs:List V):Prop:=
  Rd H a (.lst xs) ∨
    ∃ (o:Obj) (its:Array Value) (n:Nat),K.lookup a=some o∧o.cls=.type "list" ∧ o.dict=none∧o.data=.seq its n∧its.size≤sizeLine∧Vals xs its.toList
def SqT (K:PySem.W.Frag) (H:Hp) (a:Addr) (xs:List V):Prop:=
  Rd H a (.tup xs) ∨
    ∃ (o:Obj) (its:Array Value) (n:Nat),K.lookup a=some o∧o.cls=.type "tuple" ∧ o.data=.seq its n∧its.size≤sizeLine∧Vals xs its.toList
def absV:Value→Option V
  | .none=>some .non
  | .bool b=>some (.bl b)
  | .int i _=>some (.int i)
  | .str x _=>some (.str x)
  | .bytes b _=>some (.byt b)
  | .float b _=>some (.flt b)
  | .ref a=>some (.ref a)
  | .type n=>some (.ty n)
  | _=>none
theorem RelV.abs {x:V} {u:Value} (r:RelV x u):absV u=some x:=by
  cases x with
  | non=>cases r;rfl
  | bl _=>cases r;rfl
  | int _=>obtain ⟨t,rfl⟩:=r;rfl
  | str _=>obtain ⟨t,rfl⟩:=r;rfl
  | byt _=>obtain ⟨t,rfl⟩:=r;rfl
  | flt _=>obtain ⟨t,rfl⟩:=r;rfl
  | ref _=>cases r;rfl
  | ty _=>cases r;rfl
theorem RelV.inj {x y:V} {u:Value} (r:RelV x u) (q:RelV y u):x=y:=Option.some.inj (r.abs.symm.trans q.abs)
theorem Vals.inj:∀ {xs ys:List V} {us:List Value},Vals xs us→Vals ys us→xs=ys
  | _,_,_,.nil,.nil=>rfl
  | _,_,_,.cons r t,.cons r' t'=>by rw [r.inj r',Vals.inj t t']
section
variable {X:Cx} {pins:List (Addr × Obj)} {σ:St} {H:Hp} {s:Shared} {a:Addr} {xs ys:List V}
theorem SqL.of {K:PySem.W.Frag} (h:H a=some (.lst xs)):SqL K H a xs:=.inl (.inl h)
theorem SqT.of {K:PySem.W.Frag} (h:H a=some (.tup xs)):SqT K H a xs:=.inl (.inl h)
theorem Inv.list (I:Inv X pins σ H s) (h:SqL X.K H a xs):∃ its:List Value,Vals xs its∧PlainL s.heap a its.toArray∧xs.length≤sizeLine:=by
  rcases h with h | ⟨o,its,n,hk,hc,hd,hs,hz,r⟩
  · obtain ⟨z,its,n,r,e⟩:=h.ok I.hok
    exact ⟨its,r,⟨_,n,e,rfl,rfl,rfl⟩,z⟩
  · refine ⟨its.toList,r,⟨o,n,I.kIn a o hk,hc,hd,by simpa using hs⟩,?_⟩
    have e:=r.length
    simp only [Array.length_toList] at e
    omega
theorem Inv.tuple (I:Inv X pins σ H s) (h:SqT X.K H a xs):∃ its:List Value,Vals xs its∧IsTup s.heap a its.toArray∧xs.length≤sizeLine:=by
  rcases h with h | ⟨o,its,n,hk,hc,hs,hz,r⟩
  · obtain ⟨z,its,r,p⟩:=h.ok I.hok
    exact ⟨its,r,p,z.1⟩
  · refine ⟨its.toList,r,⟨o,I.kIn a o hk,hc,n,by simpa using hs⟩,?_⟩
    have e:=r.length
    simp only [Array.length_toList] at e
    omega
theorem Inv.list_inj (I:Inv X pins σ H s) (h:SqL X.K H a xs) (h':SqL X.K H a ys):xs=ys:=by
  obtain ⟨its,r,⟨o,n,e,_,_,d⟩,_⟩:=I.list h
  obtain ⟨its',r',⟨o',n',e',_,_,d'⟩,_⟩:=I.list h'
  rw [e] at e';cases e'
  rw [d] at d'
  injection d' with d1 _
  have:its=its':=by simpa using congrArg Array.toList d1
  subst this
  exact r.inj r'
theorem Inv.tuple_inj (I:Inv X pins σ H s) (h:SqT X.K H a xs) (h':SqT X.K H a ys):xs=ys:=by
  obtain ⟨its,r,⟨o,e,_,n,d⟩,_⟩:=I.tuple h
  obtain ⟨its',r',⟨o',e',_,n',d'⟩,_⟩:=I.tuple h'
  rw [e] at e';cases e'
  rw [d] at d'
  injection d' with d1 _
  have:its=its':=by simpa using congrArg Array.toList d1
  subst this
  exact r.inj r'
end
abbrev Cx.wish (X:Cx) (E:Value→Shared→Prop):Cx:={ X with xe:=E }
abbrev Cx.nox (X:Cx):Cx:=X.wish fun _ _=>False
theorem Cx.Ok.wish {X:Cx} (ok:X.Ok) (E:Value→Shared→Prop):(X.wish E).Ok:=
  ⟨ok.mod,ok.kind,ok.glob,ok.blt,ok.above,ok.inj,ok.has,ok.cab,ok.hd,ok.frames,ok.stk,ok.exf,ok.bs,ok.bsz,ok.noex,ok.exfs,ok.funs,ok.frf⟩
theorem Cx.Ok.unwish {X:Cx} {E:Value→Shared→Prop} (ok:(X.wish E).Ok):X.Ok:=
  ⟨ok.mod,ok.kind,ok.glob,ok.blt,ok.above,ok.inj,ok.has,ok.cab,ok.hd,ok.frames,ok.stk,ok.exf,ok.bs,ok.bsz,ok.noex,ok.exfs,ok.funs,ok.frf⟩
section
variable {X:Cx} {pins:List (Addr × Obj)} {σ:St} {H:Hp} {s:Shared} {E:Value→Shared→Prop}
theorem Inv.wish (I:Inv X pins σ H s) (E:Value→Shared→Prop):Inv (X.wish E) pins σ H s:=⟨I.ok.wish E,I.os,I.bare,I.base,I.loc,I.cell,I.free,I.freeC,I.pin,I.hok,I.len⟩
theorem Inv.unwish (I:Inv (X.wish E) pins σ H s):Inv X pins σ H s:=⟨I.ok.unwish,I.os,I.bare,I.base,I.loc,I.cell,I.free,I.freeC,I.pin,I.hok,I.len⟩
theorem SP.unwish {D:Ends} {f:Flow} {s':Shared} (h:SP (X.wish E) pins D f s'):SP X pins D f s':=by
  cases f with
  | next=>obtain ⟨σ',H',I,q⟩:=h;exact ⟨σ',H',I.unwish,q⟩
  | brk=>obtain ⟨σ',H',I,q⟩:=h;exact ⟨σ',H',I.unwish,q⟩
  | cont=>obtain ⟨σ',H',I,q⟩:=h;exact ⟨σ',H',I.unwish,q⟩
  | ret u=>obtain ⟨v,σ',H',I,r,q⟩:=h;exact ⟨v,σ',H',I.unwish,r,q⟩
theorem PE.nox {e:Expr} {t:TE} (h:PE X.nox e t):PE X e t:=fun pins s σ H Q I hw=>
  wpAny_mono (h pins s σ H Q (I.wish _) hw) (fun _ _ ⟨v,H',I',r,q⟩=>⟨v,H',I'.unwish,r,q⟩) fun _ _ z=>False.elim z
theorem PT.nox {e:Expr} {t:TT} (h:PT X.nox e t):PT X e t:=fun pins s σ H Q I hw=>
  wpAny_mono (h pins s σ H Q (I.wish _) hw) (fun _ _ ⟨H',I',q⟩=>⟨H',I'.unwish,q⟩) fun _ _ z=>False.elim z
theorem PSs.nox {st:List Stmt} {t:TS} (h:PSs X.nox st t):PSs X st t:=fun pins s σ H D I hw=>
  wpAny_mono (h pins s σ H D (I.wish _) hw) (fun _ _ q=>q.unwish) fun _ _ z=>False.elim z
end
section
variable {X:Cx} {st:Stmt} {rest:List Stmt} {t u:TS} {e:Expr} {te:TE} {pos:Pos}
def tNext:TS:=fun D σ H=>D.nx σ H
def tSeq (t u:TS):TS:=fun D σ H=>t { D with nx:=u D } σ H
theorem pss_nil:PSs X [] tNext:=fun _ _ σ H _ I h=>wpAny_execs_nil ⟨σ,H,I,h⟩
theorem pss_cons (h1:PS X st t) (h2:PSs X rest u):PSs X (st :: rest) (tSeq t u):=by
  intro pins s σ H D I h
  refine wpAny_execs_cons (thn (h1 pins s σ H { D with nx:=u D } I h) fun f s1 q=>?_)
  cases f with
  | next=>
    obtain ⟨σ',H',I',q⟩:=q
    exact h2 pins s1 σ' H' D I' q
  | ret v=>exact q
  | brk=>exact q
  | cont=>exact q
theorem pss_one (h1:PS X st t):PSs X [st] t:=by
  intro pins s σ H D I h
  refine wpAny_execs_cons (thn (h1 pins s σ H D I h) fun f s1 q=>?_)
  cases f with
  | next=>exact wpAny_execs_nil q
  | ret v=>exact q
  | brk=>exact q
  | cont=>exact q
theorem Inv.quiet {pins:List (Addr × Obj)} {σ:St} {H:Hp} {s:Shared} (I:Inv X pins σ H s):interactive X.env=false:=by simp [interactive,I.ok.kind]
def tDrop (te:TE):TS:=fun D σ H=>te σ H fun _ H1=>D.nx σ H1
theorem ps_expr (he:PE X e te) (hs:swapsWith e none pos.line X.env=pure false:=by rfl):PS X (.Expr e pos) (tDrop te):=by
  intro pins s σ H D I h
  exact wpAny_Expr_any (thn (he pins s σ H _ I h) fun v s1 ⟨x,H1,I1,r1,q1⟩=>⟨σ,H1,I1,q1⟩) I.quiet hs
def tRet (te:TE):TS:=fun D σ H=>te σ H D.rt
theorem ps_ret (he:PE X e te):PS X (.Return (some e) pos) (tRet te):=by
  intro pins s σ H D I h
  exact wpAny_Return_some (thn (he pins s σ H _ I h) fun v s1 ⟨x,H1,I1,r1,q1⟩=>⟨x,σ,H1,I1,r1,q1⟩)
def tIfS (c:TT) (t u:TS):TS:=fun D σ H=>c σ H fun b H1=>if b=true then t D σ H1 else u D σ H1
theorem ps_if {c:Expr} {a b:List Stmt} {tc:TT} (hc:PT X c tc) (ha:PSs X a t) (hb:PSs X b u):PS X (.If c a b pos) (tIfS tc t u):=by
  intro pins s σ H D I h
  refine wpAny_If (thn (hc pins s σ H _ I h) fun d s1 ⟨H1,I1,q1⟩=>?_)
  cases d with
  | true=>exact ha pins s1 σ H1 D I1 q1
  | false=>exact hb pins s1 σ H1 D I1 q1
end
abbrev TG:=V→St→Hp→(St→Hp→Prop)→Prop
abbrev TGs:=List V→St→Hp→(St→Hp→Prop)→Prop
def PG (X:Cx) (target:Expr) (t:TG):Prop:=
  ∀ (pins:List (Addr × Obj)) (s:Shared) (σ:St) (H:Hp) (v:V) (u:Value) (Q:St→Hp→Prop),Inv X pins σ H s→RelV v u→t v σ H Q →
    wpAny (model X.prog X.w) X.A (assign target X.env u) (fun _ s'=>∃ σ' H',Inv X pins σ' H' s'∧Q σ' H') X.xe s
def PGs (X:Cx) (ts:List Expr) (t:TGs):Prop:=
  ∀ (pins:List (Addr × Obj)) (s:Shared) (σ:St) (H:Hp) (vs:List V) (us:List Value) (Q:St→Hp→Prop),Inv X pins σ H s→Vals vs us→t vs σ H Q →
    wpAny (model X.prog X.w) X.A (assignInOrder ((assignEach ts X.env).map (·.2)) us) (fun _ s'=>∃ σ' H',Inv X pins σ' H' s'∧Q σ' H') X.xe s
abbrev TSet:=V→V→V→Hp→(Hp→Prop)→Prop
def PSet (X:Cx) (t:TSet):Prop:=
  ∀ (pins:List (Addr × Obj)) (s:Shared) (σ:St) (H:Hp) (o i v:V) (ov iv u:Value) (Q:Hp→Prop),Inv X pins σ H s→RelV o ov→RelV i iv→RelV v u→t o i v H Q →
    wpAny (model X.prog X.w) X.A (setItem ov iv u) (fun _ s'=>∃ H',Inv X pins σ H' s'∧Q H') X.xe s
section
variable {X:Cx} {pos:Pos}
def gName (i:Nat):TG:=fun v σ H Q=>Q (σ.set i (some v)) H
theorem pg_name {i:Nat} {x:Str} (hN:X.N.Nodup) (hi:X.N[i]?=some x) (hx:Loc X.env.scope x) (hf:X.fn x=true∨X.env.scope.names.lookup x=some .local:=by first | exact .inl rfl | exact .inr rfl | assumption):PG X (.Name x pos) (gName i):=by
  intro pins s σ H v u Q I r h
  exact wpAny_assign_Name (store_ok I hN hi hx r (fun s' I'=>⟨_,H,I',h⟩) hf)
def gNil:TGs:=fun vs σ H Q=>vs=[]∧Q σ H
def gCons (t:TG) (u:TGs):TGs:=fun vs σ H Q=>∃ v r,vs=v :: r∧t v σ H fun σ' H'=>u r σ' H' Q
theorem pgs_nil:PGs X [] gNil:=by
  intro pins s σ H vs us Q I r h
  obtain ⟨e,h⟩:=h
  subst e
  cases r
  exact assignInOrder_nil ⟨σ,H,I,h⟩
theorem pgs_cons {e:Expr} {es:List Expr} {t:TG} {u:TGs} (h1:PG X e t) (h2:PGs X es u)
    (hs:(assignEach (e :: es) X.env).map (·.2)=assign e X.env :: (assignEach es X.env).map (·.2):=by rfl):PGs X (e :: es) (gCons t u):=by
  intro pins s σ H vs us Q I r h
  obtain ⟨v,vr,e1,h⟩:=h
  subst e1
  cases r with
  | cons r rr=>
    rw [hs]
    refine assignInOrder_cons (thn (h1 pins s σ H _ _ _ I r h) fun _ s1 ⟨σ1,H1,I1,q1⟩=>?_)
    exact h2 pins s1 σ1 H1 _ _ Q I1 rr q1
def gTup (K:PySem.W.Frag) (n:Nat) (t:TGs):TG:=fun v σ H Q=>∃ a xs,v=.ref a∧SqT K H a xs∧xs.length=n∧t xs σ H Q
theorem pg_tup {es:List Expr} {k:Nat} {t:TGs} {n:Nat} (hc:X.calm=true) (h:PGs X es t)
    (hn:(assignEach es X.env).length=n:=by rfl) (hst:(assignEach es X.env).findIdx? (·.1)=none:=by rfl):PG X (.Tuple es k pos) (gTup X.K n t):=by
  intro pins s σ H v u Q I r hw
  obtain ⟨a,xs,e1,hq,hl,hw⟩:=hw
  subst e1
  cases r
  obtain ⟨its,rv,ht,hz⟩:=I.tuple hq
  refine assign_Tuple_tuple (I.ok.hd hc) ht (by simp [hn,← hl,rv.length]) hst fun h' hx=>?_
  have I1:Inv X pins σ H { s with heap:=h' }:=I.kept (t':=s.toks) fun b o e=>hx b o (Nat.ne_of_lt (Heap.lt_size e)) e
  exact h pins _ σ H xs _ Q I1 (by simpa using rv) hw
def gSub (to ti:TE) (t:TSet):TG:=fun v σ H Q=>to σ H fun o H1=>ti σ H1 fun i H2=>t o i v H2 fun H3=>Q σ H3
theorem pg_sub {o i:Expr} {to ti:TE} {t:TSet} (ho:PE X o to) (hi:PE X i ti) (hs:PSet X t)
    (ha:∀ v,assign (.Subscript o i pos) X.env v=(do
      let ov ← holding [v] (eval o X.env)
      let iv ← holding [v,ov] (eval i X.env)
      standAt pos
      holding [v,ov,iv] (setItem ov iv v)
      release [v,ov,iv] []):=by intro _;rfl):PG X (.Subscript o i pos) (gSub to ti t):=by
  intro pins s σ H v u Q I r h
  rw [ha]
  refine wpAny_bind (wpAny_holding (thn (ho pins s σ H _ I h) fun ov s1 ⟨x,H1,I1,r1,q1⟩=>?_))
  refine wpAny_bind (wpAny_holding (thn (hi pins s1 σ H1 _ I1 q1) fun iv s2 ⟨y,H2,I2,r2,q2⟩=>?_))
  refine wpAny_bind (wpAny_standAt (wpAny_bind (wpAny_holding (thn (hs pins s2 σ H2 x y v ov iv u _ I2 r1 r2 r q2) fun _ s3 ⟨H3,I3,q3⟩=>?_))))
  exact wpAny_release ⟨σ,H3,I3,q3⟩
def tAsg (te:TE) (g:TG):TS:=fun D σ H=>te σ H fun x H1=>g x σ H1 D.nx
theorem ps_asg {tg e:Expr} {te:TE} {g:TG} (he:PE X e te) (hg:PG X tg g) (hs:swapsWithSole [tg] e pos.line X.env=pure false:=by rfl) (hw:swappedStores [tg] e X.env=pure none:=by rfl)
    (h1:(assignEach [tg] X.env).map (·.2)=[assign tg X.env]:=by rfl):PS X (.Assign [tg] e pos) (tAsg te g):=by
  intro pins s σ H D I h
  refine wpAny_Assign_stores (thn (he pins s σ H _ I h) fun v s1 ⟨x,H1,I1,r1,q1⟩=>?_) hs hw
  rw [h1]
  exact thn (hg pins s1 σ H1 x v _ I1 r1 q1) fun _ s2 q=>q
theorem ps_set {i:Nat} {x:Str} {e:Expr} {te:TE} {pos':Pos} (hN:X.N.Nodup) (hi:X.N[i]?=some x) (hx:Loc X.env.scope x) (he:PE X e te) (hs:swapsWith e (some (.Name x pos')) pos.line X.env=pure false:=by rfl) (hf:X.fn x=true∨X.env.scope.names.lookup x=some .local:=by first | exact .inl rfl | exact .inr rfl | assumption) :
    PS X (.Assign [.Name x pos'] e pos) (tAsg te (gName i)):=by
  intro pins s σ H D I h
  refine wpAny_Assign_Name (thn (he pins s σ H _ I h) fun v s1 ⟨y,H1,I1,r1,q1⟩=>?_) hs
  exact store_ok I1 hN hi hx r1 (fun s2 I2=>⟨_,H1,I2,q1⟩) hf
end
section
variable {X:Cx} {pos:Pos}
end
structure It where
  go:Nat→Hp→Prop
  yld:Nat→Hp→V→Hp→Prop
  stop:Nat→Hp→Prop
def FpOk (X:Cx) (pins:List (Addr × Obj)) (H:Hp) (b:Addr):Prop:=
  H b=none∧b≠X.env.locals∧b ∉ X.fs∧(b∈X.ex∨X.s₀.heap.objs.size≤b)∧(∀ x c,X.env.cells.lookup x=some c→c≠b)∧∀ p∈X.pn++pins,p.1≠b
theorem Inv.fpOk {X:Cx} {pins:List (Addr × Obj)} {σ:St} {H H':Hp} {s:Shared} {b:Addr} (I:Inv X pins σ H s) (hb:s.heap.objs.size≤b) (hn:H' b=none):FpOk X pins H' b:=by
  refine ⟨hn,Nat.ne_of_gt (Nat.lt_of_lt_of_le I.lt hb),I.nofs hb,.inr (Nat.le_trans I.sz hb),fun x c e z=>?_,fun p hp z=>?_⟩
  · obtain ⟨v,q⟩:=I.cell x c e
    exact absurd (Nat.lt_of_lt_of_le q.lt (by rw [z];exact hb)) (Nat.lt_irrefl _)
  · exact absurd (Nat.lt_of_lt_of_le (Heap.lt_size (I.pin p hp).1) (by rw [z];exact hb)) (Nat.lt_irrefl _)
structure Turn (P:Program) (w:World) (K:PySem.W.Frag) (tg:Expr) (J:It) (fp:List Addr) (it:Addr) (tn:Nat→Heap→Prop):Prop where
  mem:it∈fp
  obj:∀ i h,tn i h→∀ b∈fp,∃ o,h.get? b=some o∧∀ v,o.data≠.cell v
  keep:∀ i h h',tn i h→(∀ b∈fp,∀ o,h.get? b=some o→h'.get? b=some o)→tn i h'
  item:∀ (X:Cx),X.prog=P→X.w=w→X.K=K→X.calm=true→∀ (i:Nat) (pins:List (Addr × Obj)) (s:Shared) (σ:St) (H:Hp) (E:Value→Shared→Prop),Inv X pins σ H s→(∀ b∈fp,FpOk X pins H b)→tn i s.heap→J.go i H →
    wpAny (model P w) X.A (pyNext (.ref it)) (fun r s1=>∃ u,r=some u ∧
      wpAny (model P w) X.A (letOwnedTupleGo tg (.ref it) u) (fun _ s2=>∃ x H',Inv X pins σ H' s2∧RelV x u∧J.yld i H x H'∧tn (i+1) s2.heap∧∀ b∈fp,H' b=none) E s1) E s
  done:∀ (X:Cx),X.prog=P→X.w=w→X.K=K→X.calm=true→∀ (i:Nat) (pins:List (Addr × Obj)) (s:Shared) (σ:St) (H:Hp) (E:Value→Shared→Prop),Inv X pins σ H s→(∀ b∈fp,FpOk X pins H b)→tn i s.heap→J.stop i H →
    wpAny (model P w) X.A (pyNext (.ref it)) (fun r s1=>r=none∧Inv X pins σ H s1) E s
  self:∀ (A:Around) (i:Nat) (s:Shared) (Q:Value→Shared→Prop) (E:Value→Shared→Prop),tn i s.heap→Q (.ref it) s→wpAny (model P w) A (pyIter (.ref it)) Q E s
abbrev TI:=St→Hp→(It→Hp→Prop)→Prop
def PIE (X:Cx) (pins:List (Addr × Obj)) (σ:St) (tg:Expr) (R:It→Hp→Prop) (itv:Value) (s2:Shared):Prop:=
  ∃ (it:Addr) (fp:List Addr) (tn:Nat→Heap→Prop) (J:It) (H':Hp),itv=.ref it∧Inv X pins σ H' s2∧Turn X.prog X.w X.K tg J fp it tn∧tn 0 s2.heap∧(∀ b∈fp,FpOk X pins H' b)∧R J H'
def PI (X:Cx) (tg iter:Expr) (wi:TI):Prop:=
  ∀ (pins:List (Addr × Obj)) (s:Shared) (σ:St) (H:Hp) (R:It→Hp→Prop),Inv X pins σ H s→wi σ H R →
    wpAny (model X.prog X.w) X.A (eval iter X.env) (fun v s1=>wpAny (model X.prog X.w) X.A (pyIter v) (PIE X pins σ tg R) X.xe s1) X.xe s
theorem go_of {M:Model} {A:Around} {E:Value→Shared→Prop} {s:Shared} {tg:Expr} {it:Addr} {u:Value} {o:Obj} {n:String} {vs:Array Value} {Q:Unit→Shared→Prop} (ho:s.heap.get? it=some o) (hc:o.cls=.type n) (hd:o.data=.fields vs)
    (hn:["enumerate", "zip", "dict_itemiterator", "dict_reverseitemiterator", "odict_iterator", "itertools.zip_longest", "itertools.pairwise"].contains n=false) (hQ:Q () s):wpAny M A (letOwnedTupleGo tg (.ref it) u) Q E s:=by
  unfold letOwnedTupleGo
  cases tg <;> first
    | exact wpAny_pure hQ
    | (cases u <;> first
        | exact wpAny_pure hQ
        | (refine wpAny_bind (wpAny_load ho ?_)
           rw [hc,hd]
           show wpAny M A (if (["enumerate", "zip", "dict_itemiterator", "dict_reverseitemiterator", "odict_iterator", "itertools.zip_longest", "itertools.pairwise"].contains n && vs[0]? == some (rawInt _))=true then _ else _) Q E s
           rw [if_neg (by intro h;rw [hn,Bool.false_and] at h;cases h)]
           exact wpAny_pure hQ))
def Itl (K:PySem.W.Frag) (a:Addr):It:=
  ⟨fun i H=>∃ xs x,SqL K H a xs∧xs[i]?=some x,fun i H x H'=>H'=H∧∀ xs,SqL K H a xs→xs[i]?=some x,fun i H=>∃ xs,SqL K H a xs∧xs.length≤i⟩
def Itt (K:PySem.W.Frag) (a:Addr):It:=
  ⟨fun i H=>∃ xs x,SqT K H a xs∧xs[i]?=some x,fun i H x H'=>H'=H∧∀ xs,SqT K H a xs→xs[i]?=some x,fun i H=>∃ xs,SqT K H a xs∧xs.length≤i⟩
def Itr (lo:Int) (n:Nat):It:=⟨fun i _=>i < n,fun i H x H'=>H'=H∧x=.int (lo+i),fun i _=>n≤i⟩
theorem turn_list {P:Program} {w:World} {K:PySem.W.Frag} {tg:Expr} (a it:Addr):Turn P w K tg (Itl K a) [it] it (fun i h=>h.IsListIter it a i) where
  mem:=by simp
  obj:=fun i h st b hb=>by
    have e:b=it:=by simpa using hb
    subst e
    obtain ⟨o,e,c,d⟩:=st
    exact ⟨o,e,fun v z=>by rw [d] at z;cases z⟩
  keep:=fun i h h' st k=>st.at fun o e=>k it (by simp) o e
  item:=by
    intro X hP hw hK hc i pins s σ H E I hf st hg
    subst hP hw hK
    obtain ⟨xs,x,hq,hx⟩:=hg
    obtain ⟨its,rv,p,hz⟩:=I.list hq
    obtain ⟨u,hu,ru⟩:=rv.get hx
    obtain ⟨f0,f1,f2,f3,f4,f5⟩:=hf it (by simp)
    refine wpAny_pyNext_list_item st p.isList (x:=u) (by simpa using hu) fun h' st' sb=>?_
    have I1:Inv X pins σ H { s with heap:=h' }:=I.turned (t':=s.toks) (fun b o hb e=>(sb.2 b hb).trans e) f0 f1 f3 f4 f5
    obtain ⟨o,e,c,d⟩:=id st'
    exact ⟨u,rfl,go_of (s:={ s with heap:=h' }) e c d (by decide) ⟨x,H,I1,ru,⟨rfl,fun ys hy=>by rw [I.list_inj hy hq];exact hx⟩,st',fun b hb=>(hf b hb).1⟩⟩
  done:=by
    intro X hP hw hK hc i pins s σ H E I hf st hg
    subst hP hw hK
    obtain ⟨xs,hq,hx⟩:=hg
    obtain ⟨its,rv,p,hz⟩:=I.list hq
    obtain ⟨f0,f1,f2,f3,f4,f5⟩:=hf it (by simp)
    have hl:=rv.length
    exact wpAny_pyNext_list_end (I.ok.hd hc) st p.isList (by simp;omega) fun h' eb=>⟨rfl,I.turned (t':=s.toks) (fun b o hb e=>eb b o hb e) f0 f1 f3 f4 f5⟩
  self:=fun _ _ _ _ _ st h=>wpAny_pyIter_listiter st h
theorem turn_tuple {P:Program} {w:World} {K:PySem.W.Frag} {tg:Expr} (a it:Addr):Turn P w K tg (Itt K a) [it] it (fun i h=>h.IsTupleIter it a i) where
  mem:=by simp
  obj:=fun i h st b hb=>by
    have e:b=it:=by simpa using hb
    subst e
    obtain ⟨o,e,c,d⟩:=st
    exact ⟨o,e,fun v z=>by rw [d] at z;cases z⟩
  keep:=fun i h h' st k=>st.at fun o e=>k it (by simp) o e
  item:=by
    intro X hP hw hK hc i pins s σ H E I hf st hg
    subst hP hw hK
    obtain ⟨xs,x,hq,hx⟩:=hg
    obtain ⟨its,rv,p,hz⟩:=I.tuple hq
    obtain ⟨u,hu,ru⟩:=rv.get hx
    obtain ⟨f0,f1,f2,f3,f4,f5⟩:=hf it (by simp)
    refine wpAny_pyNext_tuple_item st (show s.heap.IsTuple a its.toArray from p) (x:=u) (by simpa using hu) fun h' st' sb=>?_
    have I1:Inv X pins σ H { s with heap:=h' }:=I.turned (t':=s.toks) (fun b o hb e=>(sb.2 b hb).trans e) f0 f1 f3 f4 f5
    obtain ⟨o,e,c,d⟩:=id st'
    exact ⟨u,rfl,go_of (s:={ s with heap:=h' }) e c d (by decide) ⟨x,H,I1,ru,⟨rfl,fun ys hy=>by rw [I.tuple_inj hy hq];exact hx⟩,st',fun b hb=>(hf b hb).1⟩⟩
  done:=by
    intro X hP hw hK hc i pins s σ H E I hf st hg
    subst hP hw hK
    obtain ⟨xs,hq,hx⟩:=hg
    obtain ⟨its,rv,p,hz⟩:=I.tuple hq
    obtain ⟨f0,f1,f2,f3,f4,f5⟩:=hf it (by simp)
    have hl:=rv.length
    exact wpAny_pyNext_tuple_end (I.ok.hd hc) st (show s.heap.IsTuple a its.toArray from p) (by simp;omega) fun h' eb=>⟨rfl,I.turned (t':=s.toks) (fun b o hb e=>eb b o hb e) f0 f1 f3 f4 f5⟩
  self:=fun _ _ _ _ _ st h=>wpAny_pyIter_tupleiter st h
theorem turn_range {P:Program} {w:World} {K:PySem.W.Frag} {tg:Expr} (it:Addr) (lo:Int) (n:Nat):Turn P w K tg (Itr lo n) [it] it (fun i h=>IsRangeIter h it (lo+(i:Nat) * 1) ((n:Int) - (i:Nat)) 1) where
  mem:=by simp
  obj:=fun i h st b hb=>by
    have e:b=it:=by simpa using hb
    subst e
    exact ⟨_,st,fun v z=>by
      have z':Data.fields _=Data.cell v:=z
      cases z'⟩
  keep:=fun i h h' st k=>k it (by simp) _ st
  item:=by
    intro X hP hw hK hc i pins s σ H E I hf st hg
    subst hP hw hK
    obtain ⟨f0,f1,f2,f3,f4,f5⟩:=hf it (by simp)
    have W:=Walks.range (prog:=X.prog) (w:=X.w) (I.ok.hd hc) it lo 1 n
    refine W.item i s _ _ hg st fun v h' tk hv st' kk=>?_
    obtain ⟨t,rfl⟩:=hv
    have I1:Inv X pins σ H { s with heap:=h',toks:=tk }:=I.turned (fun b o hb e=>kk b o (by simpa using hb) e) f0 f1 f3 f4 f5
    refine ⟨_,rfl,go_of (s:={ s with heap:=h',toks:=tk }) (n := "range_iterator") st' rfl rfl (by decide) ⟨.int (lo+i),H,I1,⟨t,?_⟩,⟨rfl,rfl⟩,st',fun b hb=>(hf b hb).1⟩⟩
    rw [Int.mul_one]
  done:=by
    intro X hP hw hK hc i pins s σ H E I hf st hg
    subst hP hw hK
    obtain ⟨f0,f1,f2,f3,f4,f5⟩:=hf it (by simp)
    exact wpAny_pyNext_range_end (I.ok.hd hc) st (by have:n≤i:=hg;omega) fun h' eb=>⟨rfl,I.turned (t':=s.toks) (fun b o hb e=>eb b o hb e) f0 f1 f3 f4 f5⟩
  self:=fun _ _ _ _ _ st h=>wpAny_pyIter_rangeiter st h
end L2
namespace L2
open PySem PySem.Spec PyProof.Rows
section
variable {X:Cx} {tg:Expr}
def iList (K:PySem.W.Frag) (tl:TE):TI:=fun σ H R=>tl σ H fun x H1=>∃ a,x=.ref a∧(∃ xs,SqL K H1 a xs)∧R (Itl K a) H1
def iTup (K:PySem.W.Frag) (tl:TE):TI:=fun σ H R=>tl σ H fun x H1=>∃ a,x=.ref a∧(∃ xs,SqT K H1 a xs)∧R (Itt K a) H1
theorem pi_list {l:Expr} {tl:TE} (hl:PE X l tl):PI X tg l (iList X.K tl):=by
  intro pins s σ H R I h
  refine thn (hl pins s σ H _ I h) fun v s1 ⟨x,H1,I1,r1,q1⟩=>?_
  obtain ⟨a,e,⟨xs,hq⟩,q⟩:=q1
  subst e
  cases r1
  obtain ⟨its,rv,p,hz⟩:=I1.list hq
  refine wpAny_pyIter_list p.isList ?_
  refine ⟨s1.heap.objs.size,[s1.heap.objs.size],_,_,H1,rfl,I1.kept (t':=s1.toks) fun b o e=>Heap.get?_push_of_some _ e,turn_list a _,⟨_,Heap.get?_push_size _ rfl,rfl,rfl⟩,fun b hb=>?_,q⟩
  have e:b=s1.heap.objs.size:=by simpa using hb
  subst e
  exact I1.fpOk (Nat.le_refl _) (I1.hok.fresh (Nat.le_refl _))
theorem pi_tup {l:Expr} {tl:TE} (hl:PE X l tl):PI X tg l (iTup X.K tl):=by
  intro pins s σ H R I h
  refine thn (hl pins s σ H _ I h) fun v s1 ⟨x,H1,I1,r1,q1⟩=>?_
  obtain ⟨a,e,⟨xs,hq⟩,q⟩:=q1
  subst e
  cases r1
  obtain ⟨its,rv,p,hz⟩:=I1.tuple hq
  refine wpAny_pyIter_tuple (show s1.heap.IsTuple a its.toArray from p) ?_
  refine ⟨s1.heap.objs.size,[s1.heap.objs.size],_,_,H1,rfl,I1.kept (t':=s1.toks) fun b o e=>Heap.get?_push_of_some _ e,turn_tuple a _,⟨_,Heap.get?_push_size _ rfl,rfl,rfl⟩,fun b hb=>?_,q⟩
  have e:b=s1.heap.objs.size:=by simpa using hb
  subst e
  exact I1.fpOk (Nat.le_refl _) (I1.hok.fresh (Nat.le_refl _))
theorem range_it {pins:List (Addr × Obj)} {σ:St} {H:Hp} {s:Shared} {R:It→Hp→Prop} {E:Value→Shared→Prop} {lo hi:Int} {t u v:Tok} {tk:Nat} (I:Inv X pins σ H s) (h1:-(2 ^ 62)≤lo) (h2:lo < 2 ^ 62) (h3:-(2 ^ 62)≤hi) (h4:hi < 2 ^ 62)
    (q:R (Itr lo (hi - lo).toNat) H):wpAny (model X.prog X.w) X.A (pyIter (.ref s.heap.objs.size)) (PIE X pins σ tg R) E { s with heap:=s.heap.push { cls:=.type "range", data:=.fields #[.int lo t,.int hi u,.int 1 v] },toks:=tk }:=by
  refine wpAny_pyIter_range (IsRange.new ..) (small_one h1 h2 h3 h4) ?_
  have I1:Inv X pins σ H { s with heap:=s.heap.push { cls:=.type "range", data:=.fields #[.int lo t,.int hi u,.int 1 v] },toks:=tk }:=I.kept fun b o e=>Heap.get?_push_of_some _ e
  refine ⟨(s.heap.push { cls:=.type "range", data:=.fields #[.int lo t,.int hi u,.int 1 v] }).objs.size,[(s.heap.push { cls:=.type "range", data:=.fields #[.int lo t,.int hi u,.int 1 v] }).objs.size],_,_,H,rfl,
    I1.kept (t':=tk) fun b o e=>Heap.get?_push_of_some _ e,turn_range _ lo (hi - lo).toNat,?_,fun b hb=>?_,q⟩
  · have e1:lo+((0:Nat):Int) * 1=lo:=by simp
    have e2:(((hi - lo).toNat:Nat):Int) - ((0:Nat):Int)=Builtin.Range.rangeSize lo hi 1:=by rw [rangeSize_one];split <;> omega
    show IsRangeIter _ _ (lo+((0:Nat):Int) * 1) ((((hi - lo).toNat:Nat):Int) - ((0:Nat):Int)) 1
    rw [e1,e2]
    exact Heap.get?_push_size _ rfl
  · have e:b=(s.heap.push { cls:=.type "range", data:=.fields #[.int lo t,.int hi u,.int 1 v] }).objs.size:=by simpa using hb
    subst e
    exact I1.fpOk (Nat.le_refl _) (I1.hok.fresh (Nat.le_refl _))
def iRng1 (ta:TA):TI:=fun σ H R=>ta σ H fun vs H1=>∃ j:Int,vs=[.int j]∧-(2 ^ 62)≤j∧j < 2 ^ 62∧R (Itr 0 j.toNat) H1
theorem pi_range1 {a:Expr} {ta:TA} {p pos:Pos} (hg:Gl X "range") (hm:X.mg "range" = none) (ha:PA X [a] ta) (hs:starEach [a] X.env=[(false,eval a X.env)]:=by rfl):PI X tg (.Call (.Name "range" p) [a] [] pos) (iRng1 ta):=by
  intro pins s σ H R I h
  refine Call_ (ld_blt I hg hm boot_range (PyProof.Rows.callWith_type1 (thn (ha pos pins s σ H _ I h) fun us s1 ⟨vs,H1,I1,r1,q1⟩=>?_) hs rfl))
  obtain ⟨j,e,q1,q2,q⟩:=q1
  subst e
  cases r1 with
  | cons r rr=>
    cases rr
    obtain ⟨t,rfl⟩:=r
    exact call_range_1 (range_it I1 (by omega) (by omega) q1 q2 (by simpa using q))
def tFor (wi:TI) (g:TG) (tb:TS):TS:=fun D σ H=>wi σ H fun J H1=>∃ W:Nat→Nat→St→Hp→Prop,(∃ m,W 0 m σ H1)∧∀ i m σ H,W i m σ H →
  (J.stop i H∧D.nx σ H)∨(J.go i H∧∃ N:St→Hp→Prop,(∀ σ' H',N σ' H'→∃ m',m' < m∧W (i+1) m' σ' H')∧∀ x H',J.yld i H x H'→g x σ H' fun σ2 H2=>tb { D with nx:=N,ct:=N,bk:=D.nx } σ2 H2)
def pinsAt (fp:List Addr) (h:Heap):List (Addr × Obj):=fp.filterMap fun b=>(h.get? b).map fun o=>(b,o)
theorem mem_pinsAt {fp:List Addr} {h:Heap} {b:Addr} {o:Obj} (hb:b∈fp) (e:h.get? b=some o):(b,o)∈pinsAt fp h:=List.mem_filterMap.mpr ⟨b,hb,by rw [e];rfl⟩
theorem of_pinsAt {fp:List Addr} {h:Heap} {p:Addr × Obj} (hp:p∈pinsAt fp h):p.1∈fp∧h.get? p.1=some p.2:=by
  obtain ⟨b,hb,e⟩:=List.mem_filterMap.mp hp
  cases q:h.get? b with
  | none=>rw [q] at e;cases e
  | some o=>
    rw [q] at e
    have e':(b,o)=p:=Option.some.inj e
    subst e'
    exact ⟨hb,q⟩
theorem Inv.pinned {pins:List (Addr × Obj)} {σ:St} {H:Hp} {s:Shared} {fp:List Addr} (I:Inv X pins σ H s) (hf:∀ b∈fp,FpOk X pins H b) (ho:∀ b∈fp,∃ o,s.heap.get? b=some o∧∀ v,o.data≠.cell v):Inv X (pins++pinsAt fp s.heap) σ H s:=
  I.pins_of fun p hp=>(List.mem_append.mp hp).elim (fun z=>I.pin p (List.mem_append_right _ z)) fun z=>by
    obtain ⟨hb,e⟩:=of_pinsAt z
    obtain ⟨f0,f1,f2,_⟩:=hf p.1 hb
    obtain ⟨o,e',d⟩:=ho p.1 hb
    rw [e] at e';cases e'
    exact ⟨e,f0,f1,f2,d⟩
theorem Inv.unpinned {pins pl:List (Addr × Obj)} {σ:St} {H:Hp} {s:Shared} (I:Inv X (pins++pl) σ H s):Inv X pins σ H s:=I.pins_of fun p hp=>I.pin p (List.mem_append_right _ (List.mem_append_left _ hp))
theorem ps_for {iter:Expr} {body:List Stmt} {wi:TI} {g:TG} {tb:TS} {pos:Pos} (hp:PassesOwn (model X.prog X.w) X.A X.env X.xe) (hc:X.calm=true) (hi:PI X tg iter wi) (hg:PG X tg g) (hb:PSs X body tb)
    (hs:∀ x,foldedSetIterable iter X.env x=pure x:=by intro _;rfl):PS X (.For tg iter body [] pos) (tFor wi g tb):=by
  intro pins s σ H D I h
  refine wpAny_For (thn (hi pins s σ H _ I h) fun v s1 h1=>thn h1 fun itv s2 h2=>?_) hs
  obtain ⟨it,fp,tn,J,H2,e,I2,T,st2,f2,W,⟨m0,w0⟩,turn⟩:=h2
  subst e
  have stat:∀ {H':Hp},(∀ b∈fp,H' b=none)→∀ b∈fp,FpOk X pins H' b:=fun hn b hb=>⟨hn b hb,(f2 b hb).2⟩
  refine codeAny_forLoop_any (fun n s'=>∃ i σ' H',Inv X pins σ' H' s'∧tn i s'.heap∧(∀ b∈fp,H' b=none)∧W i n σ' H') ?_ m0 ⟨0,σ,H2,I2,st2,fun b hb=>(f2 b hb).1,w0⟩
  rintro n s3 ⟨i,σ3,H3,I3,st3,fr3,w3⟩
  rcases turn i n σ3 H3 w3 with ⟨stop,qn⟩ | ⟨go,N,hN,step⟩
  · refine wpAny_passesOwn hp (thn (T.done X rfl rfl rfl hc i pins s3 σ3 H3 X.xe I3 (stat fr3) st3 stop) fun r s4 ⟨hr,I4⟩=>?_)
    subst hr
    exact wpAny_execs_nil ⟨σ3,H3,I4,qn⟩
  · refine wpAny_passesOwn hp (thn (T.item X rfl rfl rfl hc i pins s3 σ3 H3 X.xe I3 (stat fr3) st3 go) fun r s4 ⟨u,hr,h4⟩=>?_)
    subst hr
    refine wpAny_passesOwn hp (thn h4 fun _ s5 ⟨x,H5,I5,r5,y5,st5,fr5⟩=>?_)
    have I5':=I5.pinned (stat fr5) (T.obj _ _ st5)
    refine wpAny_passesOwn hp (thn (hg _ s5 σ3 H5 x u _ I5' r5 (step x H5 y5)) fun _ s6 ⟨σ6,H6,I6,q6⟩=>?_)
    refine wpAny_passesOwn hp (thn (hb _ s6 σ6 H6 _ I6 q6) fun f s7 q7=>?_)
    have again:∀ {σ7:St} {H7:Hp},Inv X (pins++pinsAt fp s5.heap) σ7 H7 s7→N σ7 H7→∃ m,m < n∧∃ i σ' H',Inv X pins σ' H' s7∧tn i s7.heap∧(∀ b∈fp,H' b=none)∧W i m σ' H':=fun {σ7 H7} I7 n7=>by
      obtain ⟨m',hm,w7⟩:=hN σ7 H7 n7
      refine ⟨m',hm,i+1,σ7,H7,I7.unpinned,T.keep _ _ _ st5 fun b hb o e=>(I7.pin (b,o) (List.mem_append_right _ (List.mem_append_right _ (mem_pinsAt hb e)))).1,fun b hb=>?_,w7⟩
      obtain ⟨o,e,d⟩:=T.obj _ _ st5 b hb
      exact (I7.pin (b,o) (List.mem_append_right _ (List.mem_append_right _ (mem_pinsAt hb e)))).2.1
    cases f with
    | next=>obtain ⟨σ7,H7,I7,n7⟩:=q7;exact again I7 n7
    | cont=>obtain ⟨σ7,H7,I7,n7⟩:=q7;exact again I7 n7
    | brk=>obtain ⟨σ7,H7,I7,q7⟩:=q7;exact ⟨σ7,H7,I7.unpinned,q7⟩
    | ret v=>obtain ⟨x7,σ7,H7,I7,r7,q7⟩:=q7;exact ⟨x7,σ7,H7,I7.unpinned,r7,q7⟩
end
theorem for_list {K:PySem.W.Frag} {a:Addr} {xs:List V} {g:TG} {tb:TS} {D:Ends} {σ:St} {H:Hp} (Pv:Nat→St→Hp→Prop) (h0:Pv 0 σ H) (hl:∀ i σ H,i≤xs.length→Pv i σ H→SqL K H a xs)
    (hs:∀ i x σ H,xs[i]?=some x→Pv i σ H→g x σ H fun σ2 H2=>tb { D with nx:=Pv (i+1),ct:=Pv (i+1),bk:=D.nx } σ2 H2) (hd:∀ σ H,Pv xs.length σ H→D.nx σ H) :
    ∃ W:Nat→Nat→St→Hp→Prop,(∃ m,W 0 m σ H)∧∀ i m σ H,W i m σ H →
      ((Itl K a).stop i H∧D.nx σ H)∨((Itl K a).go i H∧∃ N:St→Hp→Prop,(∀ σ' H',N σ' H'→∃ m',m' < m∧W (i+1) m' σ' H')∧∀ x H',(Itl K a).yld i H x H'→g x σ H' fun σ2 H2=>tb { D with nx:=N,ct:=N,bk:=D.nx } σ2 H2):=by
  refine ⟨fun i m σ H=>m=xs.length - i∧i≤xs.length∧Pv i σ H,⟨xs.length,by simp,Nat.zero_le _,h0⟩,?_⟩
  rintro i m σ H ⟨rfl,hi,p⟩
  have q:=hl i σ H hi p
  by_cases hlt:i < xs.length
  · refine .inr ⟨⟨xs,xs[i],q,by simp [hlt]⟩,Pv (i+1),fun σ' H' p'=>⟨xs.length - (i+1),by omega,rfl,hlt,p'⟩,fun x H' y=>?_⟩
    obtain ⟨e,y⟩:=y
    subst e
    exact hs i x σ _ (y xs q) p
  · have e:i=xs.length:=by omega
    subst e
    exact .inl ⟨⟨xs,q,Nat.le_refl _⟩,hd σ H p⟩
theorem for_range {lo:Int} {n:Nat} {g:TG} {tb:TS} {D:Ends} {σ:St} {H:Hp} (Pv:Nat→St→Hp→Prop) (h0:Pv 0 σ H)
    (hs:∀ i σ H,i < n→Pv i σ H→g (.int (lo+i)) σ H fun σ2 H2=>tb { D with nx:=Pv (i+1),ct:=Pv (i+1),bk:=D.nx } σ2 H2) (hd:∀ σ H,Pv n σ H→D.nx σ H) :
    ∃ W:Nat→Nat→St→Hp→Prop,(∃ m,W 0 m σ H)∧∀ i m σ H,W i m σ H →
      ((Itr lo n).stop i H∧D.nx σ H)∨((Itr lo n).go i H∧∃ N:St→Hp→Prop,(∀ σ' H',N σ' H'→∃ m',m' < m∧W (i+1) m' σ' H')∧∀ x H',(Itr lo n).yld i H x H'→g x σ H' fun σ2 H2=>tb { D with nx:=N,ct:=N,bk:=D.nx } σ2 H2):=by
  refine ⟨fun i m σ H=>m=n - i∧i≤n∧Pv i σ H,⟨n,by simp,Nat.zero_le _,h0⟩,?_⟩
  rintro i m σ H ⟨rfl,hi,p⟩
  by_cases hlt:i < n
  · refine .inr ⟨hlt,Pv (i+1),fun σ' H' p'=>⟨n - (i+1),by omega,rfl,hlt,p'⟩,fun x H' y=>?_⟩
    obtain ⟨e,y⟩:=y
    subst e y
    exact hs i σ _ hlt p
  · have e:i=n:=by omega
    subst e
    exact .inl ⟨Nat.le_refl _,hd σ H p⟩
end L2
namespace L2
open PySem PySem.Spec PyProof.Rows
abbrev R2:=V→V→Hp→VK→Prop
def OpR (X:Cx) (f:Value→Value→Sem Value) (r:R2):Prop:=
  ∀ (pins:List (Addr × Obj)) (s:Shared) (σ:St) (H:Hp) (x y:V) (v u:Value) (Q:VK),Inv X pins σ H s→RelV x v→RelV y u→r x y H Q →
    wpAny (model X.prog X.w) X.A (f v u) (EP X pins σ Q) X.xe s
def UnR (X:Cx) (f:Value→Sem Value) (r:V→Hp→VK→Prop):Prop:=
  ∀ (pins:List (Addr × Obj)) (s:Shared) (σ:St) (H:Hp) (x:V) (v:Value) (Q:VK),Inv X pins σ H s→RelV x v→r x H Q →
    wpAny (model X.prog X.w) X.A (f v) (EP X pins σ Q) X.xe s
def CallR (X:Cx) (f:Value) (r:List V→Hp→VK→Prop):Prop:=
  ∀ (pins:List (Addr × Obj)) (s:Shared) (σ:St) (H:Hp) (xs:List V) (us:List Value) (Q:VK),Inv X pins σ H s→Vals xs us→r xs H Q →
    wpAny (model X.prog X.w) X.A (call f us) (EP X pins σ Q) X.xe s
def tOp (r:R2) (ta tb:TE):TE:=fun σ H Q=>ta σ H fun x H1=>tb σ H1 fun y H2=>r x y H2 Q
def tUn (r:V→Hp→VK→Prop) (ta:TE):TE:=fun σ H Q=>ta σ H fun x H1=>r x H1 Q
def rI (C:Int→Int→Prop) (g:Int→Int→V):R2:=fun x y H Q=>∃ i j,x=.int i∧y=.int j∧C i j∧Q (g i j) H
def rI0 (g:Int→Int→V):R2:=fun x y H Q=>∃ i j,x=.int i∧y=.int j∧Q (g i j) H
def rU (g:Int→V):V→Hp→VK→Prop:=fun x H Q=>∃ i,x=.int i∧Q (g i) H
section
variable {X:Cx} {a b c:Expr} {ta tb tc:TE} {pos:Pos}
theorem binT (ha:PE X a ta) (hb:PE X b tb) {pins:List (Addr × Obj)} {s:Shared} {σ:St} {H:Hp} {R:V→V→Hp→Prop} (I:Inv X pins σ H s)
    (h:ta σ H fun x H1=>tb σ H1 fun y H2=>R x y H2) {Q:Value→Shared→Prop} {f:Value→Value→Sem Value}
    (hf:∀ v u s2 x y H2,Inv X pins σ H2 s2→RelV x v→RelV y u→R x y H2→wpAny (model X.prog X.w) X.A (f v u) Q X.xe s2) :
    wpAny (model X.prog X.w) X.A (eval a X.env) (fun v s₁=>wpAny (model X.prog X.w) X.A (eval b X.env) (fun u s₂=>wpAny (model X.prog X.w) X.A (f v u) Q X.xe s₂) X.xe s₁) X.xe s:=by
  refine thn (ha pins s σ H _ I h) fun v s1 ⟨x,H1,I1,r1,q1⟩=>?_
  refine thn (hb pins s1 σ H1 _ I1 q1) fun u s2 ⟨y,H2,I2,r2,q2⟩=>?_
  exact hf v u s2 x y H2 I2 r1 r2 q2
theorem pe_op {op:Operator} {r:R2} (ho:OpR X (binaryOp op) r) (ha:PE X a ta) (hb:PE X b tb):PE X (.BinOp a op b pos) (tOp r ta tb):=by
  intro pins s σ H Q I h
  exact wpAny_BinOp (binT ha hb I h fun v u s2 x y H2 I2 rx ry q=>ho pins s2 σ H2 x y v u Q I2 rx ry q)
theorem pe_un {op:UnaryOp} {r:V→Hp→VK→Prop} (ho:UnR X (unaryOp op) r) (ha:PE X a ta):PE X (.UnaryOp op a pos) (tUn r ta):=by
  intro pins s σ H Q I h
  exact UnaryOp_ (thn (ha pins s σ H _ I h) fun v s1 ⟨x,H1,I1,r1,q1⟩=>ho pins s1 σ H1 x v Q I1 r1 q1)
theorem opI {f:Value→Value→Sem Value} {C:Int→Int→Prop} {g:Int→Int→Int}
    (rule:∀ (i j:Int) (t u:Tok) (s:Shared) (Q:Value→Shared→Prop) (E:Value→Shared→Prop),C i j→Q (.int (g i j) s.toks) { s with toks:=s.toks+1 }→wpAny (model X.prog X.w) X.A (f (.int i t) (.int j u)) Q E s) :
    OpR X f (rI C fun i j=>.int (g i j)):=by
  intro pins s σ H x y v u Q I rx ry h
  obtain ⟨i,j,rfl,rfl,hc,q⟩:=h
  obtain ⟨t,rfl⟩:=rx
  obtain ⟨t',rfl⟩:=ry
  exact rule i j t t' s _ _ hc ⟨.int (g i j),H,I.tok _,⟨_,rfl⟩,q⟩
theorem opI0 {f:Value→Value→Sem Value} {g:Int→Int→Int}
    (rule:∀ (i j:Int) (t u:Tok) (s:Shared) (Q:Value→Shared→Prop) (E:Value→Shared→Prop),Q (.int (g i j) s.toks) { s with toks:=s.toks+1 }→wpAny (model X.prog X.w) X.A (f (.int i t) (.int j u)) Q E s) :
    OpR X f (rI0 fun i j=>.int (g i j)):=by
  intro pins s σ H x y v u Q I rx ry h
  obtain ⟨i,j,rfl,rfl,q⟩:=h
  obtain ⟨t,rfl⟩:=rx
  obtain ⟨t',rfl⟩:=ry
  exact rule i j t t' s _ _ ⟨.int (g i j),H,I.tok _,⟨_,rfl⟩,q⟩
theorem opB0 {f:Value→Value→Sem Value} {g:Int→Int→Bool}
    (rule:∀ (i j:Int) (t u:Tok) (s:Shared) (Q:Value→Shared→Prop) (E:Value→Shared→Prop),Q (.bool (g i j)) s→wpAny (model X.prog X.w) X.A (f (.int i t) (.int j u)) Q E s) :
    OpR X f (rI0 fun i j=>.bl (g i j)):=by
  intro pins s σ H x y v u Q I rx ry h
  obtain ⟨i,j,rfl,rfl,q⟩:=h
  obtain ⟨t,rfl⟩:=rx
  obtain ⟨t',rfl⟩:=ry
  exact rule i j t t' s _ _ ⟨.bl (g i j),H,I,rfl,q⟩
def CPow (i j:Int):Prop:=0≤j∧j≤1000000∧i.natAbs < 2 ^ 64
def CMul (i j:Int):Prop:=(-(2 ^ 64) < i∧i < 2 ^ 64)∨(-(2 ^ 64) < j∧j < 2 ^ 64)
theorem CMul.ok {i j:Int} (h:CMul i j):IntMulOk i j:=by
  rcases h with ⟨h1,h2⟩ | ⟨h1,h2⟩
  · exact .of_left (intBits_le_64 h1 h2)
  · exact .of_right (intBits_le_64 h1 h2)
theorem op_add:OpR X (binaryOp .Add) (rI0 fun i j=>.int (i+j)):=opI0 fun _ _ _ _ _ _ _ q=>add_int q
theorem op_sub:OpR X (binaryOp .Sub) (rI0 fun i j=>.int (i - j)):=opI0 fun _ _ _ _ _ _ _ q=>sub_int q
theorem op_mul:OpR X (binaryOp .Mult) (rI CMul fun i j=>.int (i * j)):=opI fun _ _ _ _ _ _ _ hc q=>mul_int q hc.ok
theorem op_mod:OpR X (binaryOp .Mod) (rI (fun _ j=>0 < j) fun i j=>.int (i % j)):=opI fun i j _ _ _ _ _ hc q=>by
  have h1:(0:Int) < j:=hc
  exact mod_int' (by omega) (by rw [Int.fmod_eq_emod_of_nonneg i (by omega)];exact q)
theorem op_pow:OpR X (binaryOp .Pow) (rI CPow fun i j=>.int (i ^ j.toNat)):=opI fun _ _ _ _ _ _ _ hc q=>pow_int_small hc.1 hc.2.1 hc.2.2 q
theorem unI {f:Value→Sem Value} {g:Int→Int}
    (rule:∀ (i:Int) (t:Tok) (s:Shared) (Q:Value→Shared→Prop) (E:Value→Shared→Prop),Q (.int (g i) s.toks) { s with toks:=s.toks+1 }→wpAny (model X.prog X.w) X.A (f (.int i t)) Q E s) :
    UnR X f (rU fun i=>.int (g i)):=by
  intro pins s σ H x v Q I rx h
  obtain ⟨i,rfl,q⟩:=h
  obtain ⟨t,rfl⟩:=rx
  exact rule i t s _ _ ⟨.int (g i),H,I.tok _,⟨_,rfl⟩,q⟩
theorem un_neg:UnR X (unaryOp .USub) (rU fun i=>.int (-i)):=unI fun _ _ _ _ _ q=>neg_int q
end
def scal:V→V→Bool
  | .non,.non=>true | .non,.int _=>true | .int _,.non=>true | .non,.bl _=>true | .bl _,.non=>true | .non,.str _=>true | .str _,.non=>true
  | .int _,.int _=>true | .bl _,.bl _=>true | .str _,.str _=>true | .byt _,.byt _=>true
  | .int _,.str _=>true | .str _,.int _=>true | .bl _,.str _=>true | .str _,.bl _=>true
  | _,_=>false
def rEq:R2:=fun x y H Q=>scal x y=true∧Q (.bl (decide (x=y))) H
def rNe:R2:=fun x y H Q=>scal x y=true∧Q (.bl (!decide (x=y))) H
theorem dec_int {i j:Int}:decide (V.int i=V.int j)=(i == j):=by
  rw [Bool.eq_iff_iff]
  simp
theorem dec_bl {i j:Bool}:decide (V.bl i=V.bl j)=(i == j):=by
  rw [Bool.eq_iff_iff]
  simp
theorem dec_str {i j:Str}:decide (V.str i=V.str j)=(i == j):=by
  rw [Bool.eq_iff_iff]
  simp
theorem dec_byt {i j:Array UInt8}:decide (V.byt i=V.byt j)=(i.toList == j.toList):=by
  rw [Bool.eq_iff_iff]
  cases i
  cases j
  simp
section
variable {X:Cx} {a b c:Expr} {ta tb tc:TE} {pos:Pos}
theorem fin_bl {pins:List (Addr × Obj)} {σ:St} {H:Hp} {s:Shared} {Q:VK} {k k':Bool} (I:Inv X pins σ H s) (q:Q (.bl k) H) (e:k=k'):EP X pins σ Q (.bool k') s:=by
  subst e
  exact ⟨.bl k,H,I,rfl,q⟩
theorem op_eq:OpR X (compareOp .Eq) rEq:=by
  intro pins s σ H x y v u Q I rx ry h
  obtain ⟨hs,q⟩:=h
  cases x with
  | non=>
    cases rx
    cases y with
    | non=>cases ry;exact PySem.EqNone.eq_none_none (fin_bl I q (by simp))
    | bl j=>cases ry;exact PySem.EqNone.eq_none_bool (fin_bl I q (by simp))
    | int j=>obtain ⟨t',rfl⟩:=ry;exact PySem.EqNone.eq_none_int (fin_bl I q (by simp))
    | str j=>obtain ⟨t',rfl⟩:=ry;exact PySem.EqNone.eq_none_str (fin_bl I q (by simp))
    | _=>exact absurd (show false=true from hs) Bool.false_ne_true
  | bl i=>
    cases rx
    cases y with
    | non=>cases ry;exact PySem.EqNone.eq_bool_none (fin_bl I q (by simp))
    | bl j=>cases ry;exact eq_bool (fin_bl I q dec_bl)
    | str j=>obtain ⟨t',rfl⟩:=ry;exact PySem.EqMixed.eq_bool_str (fin_bl I q (by simp))
    | _=>exact absurd (show false=true from hs) Bool.false_ne_true
  | int i=>
    obtain ⟨t,rfl⟩:=rx
    cases y with
    | non=>cases ry;exact PySem.EqNone.eq_int_none (fin_bl I q (by simp))
    | int j=>obtain ⟨t',rfl⟩:=ry;exact eq_int (fin_bl I q dec_int)
    | str j=>obtain ⟨t',rfl⟩:=ry;exact PySem.EqMixed.eq_int_str (fin_bl I q (by simp))
    | _=>exact absurd (show false=true from hs) Bool.false_ne_true
  | str i=>
    obtain ⟨t,rfl⟩:=rx
    cases y with
    | non=>cases ry;exact PySem.EqNone.eq_str_none (fin_bl I q (by simp))
    | bl j=>cases ry;exact PySem.EqMixed.eq_str_bool (fin_bl I q (by simp))
    | int j=>obtain ⟨t',rfl⟩:=ry;exact PySem.EqMixed.eq_str_int (fin_bl I q (by simp))
    | str j=>obtain ⟨t',rfl⟩:=ry;exact eq_str (fin_bl I q dec_str)
    | _=>exact absurd (show false=true from hs) Bool.false_ne_true
  | byt i=>
    obtain ⟨t,rfl⟩:=rx
    cases y with
    | byt j=>obtain ⟨t',rfl⟩:=ry;exact PySem.W.eq_bytes (fin_bl I q dec_byt)
    | _=>exact absurd (show false=true from hs) Bool.false_ne_true
  | _=>cases y <;> exact absurd (show false=true from hs) Bool.false_ne_true
theorem op_ne:OpR X (compareOp .NotEq) rNe:=by
  intro pins s σ H x y v u Q I rx ry h
  obtain ⟨hs,q⟩:=h
  cases x with
  | non=>
    cases rx
    cases y with
    | non=>cases ry;exact PySem.EqNone.ne_none_none (fin_bl I q (by simp))
    | bl j=>cases ry;exact PySem.EqNone.ne_none_bool (fin_bl I q (by simp))
    | int j=>obtain ⟨t',rfl⟩:=ry;exact PySem.EqNone.ne_none_int (fin_bl I q (by simp))
    | str j=>obtain ⟨t',rfl⟩:=ry;exact PySem.EqNone.ne_none_str (fin_bl I q (by simp))
    | _=>exact absurd (show false=true from hs) Bool.false_ne_true
  | bl i=>
    cases rx
    cases y with
    | non=>cases ry;exact PySem.EqNone.ne_bool_none (fin_bl I q (by simp))
    | bl j=>cases ry;exact ne_bool (fin_bl I q (congrArg not dec_bl))
    | str j=>obtain ⟨t',rfl⟩:=ry;exact PySem.EqMixed.ne_bool_str (fin_bl I q (by simp))
    | _=>exact absurd (show false=true from hs) Bool.false_ne_true
  | int i=>
    obtain ⟨t,rfl⟩:=rx
    cases y with
    | non=>cases ry;exact PySem.EqNone.ne_int_none (fin_bl I q (by simp))
    | int j=>obtain ⟨t',rfl⟩:=ry;exact ne_int (fin_bl I q (congrArg not dec_int))
    | str j=>obtain ⟨t',rfl⟩:=ry;exact PySem.EqMixed.ne_int_str (fin_bl I q (by simp))
    | _=>exact absurd (show false=true from hs) Bool.false_ne_true
  | str i=>
    obtain ⟨t,rfl⟩:=rx
    cases y with
    | non=>cases ry;exact PySem.EqNone.ne_str_none (fin_bl I q (by simp))
    | bl j=>cases ry;exact PySem.EqMixed.ne_str_bool (fin_bl I q (by simp))
    | int j=>obtain ⟨t',rfl⟩:=ry;exact PySem.EqMixed.ne_str_int (fin_bl I q (by simp))
    | str j=>obtain ⟨t',rfl⟩:=ry;exact ne_str (fin_bl I q (congrArg not dec_str))
    | _=>exact absurd (show false=true from hs) Bool.false_ne_true
  | byt i=>
    obtain ⟨t,rfl⟩:=rx
    cases y with
    | byt j=>obtain ⟨t',rfl⟩:=ry;exact PySem.W.ne_bytes (fin_bl I q (congrArg not dec_byt))
    | _=>exact absurd (show false=true from hs) Bool.false_ne_true
  | _=>cases y <;> exact absurd (show false=true from hs) Bool.false_ne_true
theorem op_lt:OpR X (compareOp .Lt) (rI0 fun i j=>.bl (decide (i < j))):=opB0 fun _ _ _ _ _ _ _ q=>lt_int q
theorem op_le:OpR X (compareOp .LtE) (rI0 fun i j=>.bl (decide (i≤j))):=opB0 fun _ _ _ _ _ _ _ q=>le_int q
theorem op_gt:OpR X (compareOp .Gt) (rI0 fun i j=>.bl (decide (j < i))):=opB0 fun _ _ _ _ _ _ _ q=>gt_int q
theorem op_ge:OpR X (compareOp .GtE) (rI0 fun i j=>.bl (decide (j≤i))):=opB0 fun _ _ _ _ _ _ _ q=>ge_int q
theorem op_in_str:OpR X (compareOp .In) (fun x y H Q=>∃ i j,x=.str i∧y=.str j∧Q (.bl (!(Builtin.Str.occurrences j i 0 j.length 1).isEmpty)) H):=by
  intro pins s σ H x y v u Q I rx ry h
  obtain ⟨i,j,rfl,rfl,q⟩:=h
  obtain ⟨t,rfl⟩:=rx
  obtain ⟨t',rfl⟩:=ry
  exact in_str (fin_bl I q rfl)
theorem op_notin_str:OpR X (compareOp .NotIn) (fun x y H Q=>∃ i j,x=.str i∧y=.str j∧Q (.bl (!(!(Builtin.Str.occurrences j i 0 j.length 1).isEmpty))) H):=by
  intro pins s σ H x y v u Q I rx ry h
  obtain ⟨i,j,rfl,rfl,q⟩:=h
  obtain ⟨t,rfl⟩:=rx
  obtain ⟨t',rfl⟩:=ry
  exact notIn_str (fin_bl I q rfl)
theorem OpR.or {f:Value→Value→Sem Value} {r r':R2} (h:OpR X f r) (h':OpR X f r'):OpR X f (fun x y H Q=>r x y H Q∨r' x y H Q):=by
  intro pins s σ H x y v u Q I rx ry q
  rcases q with q | q
  · exact h pins s σ H x y v u Q I rx ry q
  · exact h' pins s σ H x y v u Q I rx ry q
theorem nomark (b:Expr) {op:CmpOp} (h:op≠.In:=by decide) (h2:op≠.NotIn:=by decide):behindInMarks op b=false:=by
  have e1:(op == CmpOp.In)=false:=by cases op <;> first | rfl | exact absurd rfl h
  have e2:(op == CmpOp.NotIn)=false:=by cases op <;> first | rfl | exact absurd rfl h2
  cases b <;> simp [behindInMarks,e1,e2]
theorem pe_cmpR {op:CmpOp} {r:R2} (ho:OpR X (compareOp op) r) (ha:PE X a ta) (hb:PE X b tb) (hm:behindInMarks op b=false):PE X (.Compare a [op] [b] pos) (tOp r ta tb):=by
  intro pins s σ H Q I h
  exact wpAny_Compare1 (binT ha hb I h fun v u s2 x y H2 I2 rx ry q=>ho pins s2 σ H2 x y v u Q I2 rx ry q) hm
def tTest (t:TE):TT:=fun σ H Q=>t σ H fun x H'=>∃ k,x=.bl k∧Q k H'
theorem pt_cmpR {op:CmpOp} {r:R2} (ho:OpR X (compareOp op) r) (ha:PE X a ta) (hb:PE X b tb) (hm:behindInMarks op b=false):PT X (.Compare a [op] [b] pos) (tTest (tOp r ta tb)):=by
  intro pins s σ H Q I h
  refine wpAny_isTrue_Compare1 (thn (ha pins s σ H _ I h) fun v s1 ⟨x,H1,I1,r1,q1⟩=>thn (hb pins s1 σ H1 _ I1 q1) fun u s2 ⟨y,H2,I2,r2,q2⟩=>
    thn (ho pins s2 σ H2 x y v u _ I2 r1 r2 q2) fun c s3 ⟨z,H3,I3,r3,k,e,q3⟩=>?_) hm
  subst e
  cases r3
  exact wpAny_truthy_bool ⟨H3,I3,q3⟩
def tChain (r r':R2) (ta tb tc:TE):TE:=fun σ H Q=>ta σ H fun x H1=>tb σ H1 fun y H2=>r x y H2 fun z H3=>∃ k,z=.bl k ∧
  (if k=true then tc σ H3 fun w' H4=>r' y w' H4 Q else Q (.bl false) H3)
theorem pe_chain {op op':CmpOp} {r r':R2} (ho:OpR X (compareOp op) r) (ho':OpR X (compareOp op') r') (ha:PE X a ta) (hb:PE X b tb) (hc:PE X c tc)
    (hm:lastMarks [op,op'] [b,c]=false:=by with_unfolding_all rfl):PE X (.Compare a [op,op'] [b,c] pos) (tChain r r' ta tb tc):=by
  intro pins s σ H Q I h
  refine Compare_chain (thn (ha pins s σ H _ I h) fun v s1 ⟨x,H1,I1,r1,q1⟩=>chain_link (thn (hb pins s1 σ H1 _ I1 q1) fun u s2 ⟨y,H2,I2,r2,q2⟩=>
    thn (ho pins s2 σ H2 x y v u _ I2 r1 r2 q2) fun d s3 ⟨z,H3,I3,r3,k,e,q3⟩=>?_)) hm
  subst e
  cases r3
  refine wpAny_truthy_bool ?_
  cases k with
  | false=>exact ite_ff ⟨.bl false,H3,I3,rfl,q3⟩
  | true=>exact ite_tt (chain_last (thn (hc pins s3 σ H3 _ I3 q3) fun w' s4 ⟨z',H4,I4,r4,q4⟩=>ho' pins s4 σ H4 y z' u w' Q I4 r2 r4 q4))
theorem pt_chain {op op':CmpOp} {r r':R2} (ho:OpR X (compareOp op) r) (ho':OpR X (compareOp op') r') (ha:PE X a ta) (hb:PE X b tb) (hc:PE X c tc)
    (hm:lastMarks [op,op'] [b,c]=false:=by with_unfolding_all rfl):PT X (.Compare a [op,op'] [b,c] pos) (tTest (tChain r r' ta tb tc)):=by
  intro pins s σ H Q I h
  refine isTrue_chain (thn (ha pins s σ H _ I h) fun v s1 ⟨x,H1,I1,r1,q1⟩=>test_link (thn (hb pins s1 σ H1 _ I1 q1) fun u s2 ⟨y,H2,I2,r2,q2⟩=>
    thn (ho pins s2 σ H2 x y v u _ I2 r1 r2 q2) fun d s3 ⟨z,H3,I3,r3,k,e,q3⟩=>?_)) hm
  subst e
  cases r3
  refine wpAny_truthy_bool ?_
  cases k with
  | false=>
    obtain ⟨k',e',q'⟩:=q3
    cases e'
    exact ite_ff ⟨H3,I3,q'⟩
  | true=>
    refine ite_tt (test_last (thn (hc pins s3 σ H3 _ I3 q3) fun w' s4 ⟨z',H4,I4,r4,q4⟩=>thn (ho' pins s4 σ H4 y z' u w' _ I4 r2 r4 q4) fun d' s5 ⟨z2,H5,I5,r5,k2,e2,q5⟩=>?_))
    subst e2
    cases r5
    exact wpAny_truthy_bool ⟨H5,I5,q5⟩
theorem line63:(sizeLine:Nat) < 2 ^ 63:=by rw [sizeLine_eq];decide
theorem vals1 {x:V} {us:List Value} (r:Vals [x] us):∃ u,us=[u]∧RelV x u:=by
  cases r with
  | cons r1 r2=>cases r2;exact ⟨_,rfl,r1⟩
theorem vals2 {x y:V} {us:List Value} (r:Vals [x,y] us):∃ u w',us=[u,w']∧RelV x u∧RelV y w':=by
  cases r with
  | cons r1 r2=>
    cases r2 with
    | cons r3 r4=>cases r4;exact ⟨_,_,rfl,r1,r3⟩
theorem call_max2 (hc:X.calm=true):CallR X (.builtin "max") (fun xs H Q=>∃ i j,xs=[.int i,.int j]∧Q (.int (if j > i then j else i)) H):=by
  intro pins s σ H xs us Q I r h
  obtain ⟨i,j,rfl,q⟩:=h
  obtain ⟨u,w',rfl,⟨t,rfl⟩,⟨t',rfl⟩⟩:=vals2 r
  refine max_two_ints (I.ok.hd hc) fun h' tk k=>⟨_,H,I.kept k,?_,q⟩
  by_cases hj:j > i
  · rw [if_pos hj,if_pos hj];exact ⟨_,rfl⟩
  · rw [if_neg hj,if_neg hj];exact ⟨_,rfl⟩
theorem call_int1:CallR X (.type "int") (fun xs H Q=>(∃ i,xs=[.int i]∧Q (.int i) H)∨∃ k,xs=[.bl k]∧Q (.int (if k then 1 else 0)) H):=by
  intro pins s σ H xs us Q I r h
  rcases h with ⟨i,rfl,q⟩ | ⟨k,rfl,q⟩
  · obtain ⟨u,rfl,t,rfl⟩:=vals1 r
    exact call_int_int ⟨.int i,H,I,⟨_,rfl⟩,q⟩
  · obtain ⟨u,rfl,r1⟩:=vals1 r
    cases r1
    exact call_int_bool ⟨.int (if k then 1 else 0),H,I.tok _,⟨_,rfl⟩,q⟩
end
end L2
namespace L2
open PySem PySem.Spec PyProof.Rows
structure ObjM (h:Heap) (x dx C:Addr) (mA:Str→Option Value):Prop where
  obj:h.get? x=some (PySem.W.instObj C dx)
  ns:h.Ns1 dx mA
  ne:dx≠x
theorem lookIn_ns {h:Heap} {dx:Addr} {mA:Str→Option Value} (n:h.Ns1 dx mA):∃ od,h.get? dx=some od∧∀ name,PySem.W.lookIn name od=some (mA name):=by
  obtain ⟨o,es,ep,ho,hd,hk,_,hm⟩:=n
  refine ⟨o,ho,fun name=>?_⟩
  have e:=hm name
  unfold nsFind findBy at e
  rw [← Array.find?_toList] at e
  unfold PySem.W.lookIn
  rw [hd]
  dsimp only
  split
  · rename_i y q
    rw [q] at e
    exact congrArg some e
  · rename_i q
    rw [q] at e
    have a:es.toList.any (·.refKey)=false:=by
      rw [List.any_eq_false]
      intro y hy
      obtain ⟨z,t,hkey⟩:=hk y (Array.mem_toList_iff.mp hy)
      simp [DictEntry.refKey,hkey]
    have a':¬ es.toList.any (·.refKey)=true:=by rw [a];exact Bool.false_ne_true
    rw [if_neg a']
    exact congrArg some e
theorem ObjM.look {h:Heap} {x dx C:Addr} {mA:Str→Option Value} (I:ObjM h x dx C mA):∃ od,PySem.W.InstAt h x (PySem.W.instObj C dx) C (some od)∧∀ name,PySem.W.lookIn name od=some (mA name):=
  let ⟨od,ho,hl⟩:=lookIn_ns I.ns
  ⟨od,⟨I.obj,rfl,rfl,ho⟩,hl⟩
section
variable {prog:Program} {w:World} {A:Around} {E:Value→Shared→Prop} {s:Shared} {K:PySem.W.Frag} {x dx C f:Addr} {mA:Str→Option Value} {name:Str} {v:Value}
end
section
variable {P:Program} {w:World} {H H':Hp} {h h':Heap} {a C dx:Addr} {fs fs':List (Str × V)}
theorem ins_get (hok:HOk P w H h) (e:H a=some (.ins C dx fs)):∃ mA,ObjM h a dx C mA∧(∀ f,RelO (fs.lookup f) (mA f))∧PySem.Within mA (fs.map (·.1))∧fs.length≤1000∧H dx=some (.own a):=by
  obtain ⟨d,z,ne,ob,mA,n,r,q⟩:=(show ObjOk P w H h a (.ins C dx fs) from hok a _ e)
  exact ⟨mA,⟨ob,n,ne⟩,r,q,z,d⟩
end
structure Cls (K:PySem.W.Frag) (C:Addr):Prop where
  pg:PySem.W.plainGet K C Str.empty=true
  hd:PySem.W.hasDictIn K C=true
  po:PySem.W.plainOver K C=true
  sa:PySem.W.findIn K (.ref C) "__setattr__" = some (some (.builtin "object.__setattr__"))
theorem Cls.get {K:PySem.W.Frag} {C:Addr} (c:Cls K C) (f:Str):PySem.W.plainGet K C f=true:=c.pg
structure Con (K:PySem.W.Frag) (C:Addr) (f:Str) (v:V) (u:Value):Prop where
  at_:PySem.W.findIn K (.ref C) f=some (some u)
  rel:RelV v u
  get:PySem.W.specialIn K u "__get__" = some none
  cp:PySem.W.copiedNames.contains f=false
structure Meth (K:PySem.W.Frag) (C:Addr) (m:Str) (f:Addr):Prop where
  at_:PySem.W.findIn K (.ref C) m=some (some (.ref f))
  fn:PySem.W.isFn K (.ref f)=true
  kp:PySem.W.keepIn K (.ref f)=true
section
variable {X:Cx} {pins:List (Addr × Obj)} {σ:St} {H:Hp} {s:Shared} {a C dx:Addr} {fs:List (Str × V)} {f:Str} {v:V} {A:Around} {E:Value→Shared→Prop}
theorem Inv.made (I:Inv X pins σ H s):Inv X pins σ (upd (upd H s.heap.objs.size (.own (s.heap.objs.size+1))) (s.heap.objs.size+1) (.ins C s.heap.objs.size []))
    { s with heap:=(s.heap.push PySem.W.emptyDict).push (PySem.W.instObj C s.heap.objs.size) }:=by
  have e1:(s.heap.push PySem.W.emptyDict).get? s.heap.objs.size=some PySem.W.emptyDict:=Heap.get?_push_size s.heap rfl
  have e2:((s.heap.push PySem.W.emptyDict).push (PySem.W.instObj C s.heap.objs.size)).get? (s.heap.objs.size+1)=some (PySem.W.instObj C s.heap.objs.size):=by
    have:=Heap.get?_push_size (s.heap.push PySem.W.emptyDict) (o:=PySem.W.instObj C s.heap.objs.size) rfl
    rwa [Heap.size_push] at this
  have e3:(s.heap.push PySem.W.emptyDict).Ns s.heap.objs.size (fun _=>none):=⟨PySem.W.emptyDict,#[],_,e1,rfl,(fun e he=>absurd he (by simp)),fun _=>rfl⟩
  have I1:=I.laid (a:=s.heap.objs.size) (o:=.own (s.heap.objs.size+1)) (h':=s.heap.push PySem.W.emptyDict) (t':=s.toks) (fun b u q=>Heap.get?_push_of_some _ q) (Nat.le_refl _) ⟨_,e1⟩
  refine I1.laid (a:=s.heap.objs.size+1) (o:=.ins C s.heap.objs.size []) (t':=s.toks) (fun b u q=>Heap.get?_push_of_some _ q) (Nat.le_of_eq (Heap.size_push _ _)) ?_
  have ne:s.heap.objs.size≠s.heap.objs.size+1:=Nat.ne_of_lt (Nat.lt_succ_self _)
  refine ⟨by rw [upd_ne ne,upd_same],Nat.zero_le _,ne,e2,fun _=>none,(Heap.Ns1.of_empty e3).at fun o q=>Heap.get?_push_of_some _ q,fun _=>True.intro,fun y hy=>absurd rfl hy⟩
end
section
variable {X:Cx} {o e value:Expr} {f:Str} {pos pos' tpos:Pos} {ta tv:TE}
end
section
variable {X:Cx} {pins:List (Addr × Obj)} {σ:St} {H:Hp} {s:Shared} {A:Around} {E:Value→Shared→Prop} {Q:Value→Shared→Prop} {c:Value} {b:Bool}
inductive TyOf (K:PySem.W.Frag) (H:Hp):V→Value→Prop where
  | non:TyOf K H .non (.type "NoneType")
  | bl (x:Bool):TyOf K H (.bl x) (.type "bool")
  | int (i:Int):TyOf K H (.int i) (.type "int")
  | str (x:Str):TyOf K H (.str x) (.type "str")
  | flt (x:UInt64):TyOf K H (.flt x) (.type "float")
  | lst {a:Addr} {xs:List V} (e:H a=some (.lst xs)):TyOf K H (.ref a) (.type "list")
  | frz {a:Addr} {o:Obj} {xs:List V} (e:H a=some (.frz o (.lst xs))):TyOf K H (.ref a) (.type "list")
  | tup {a:Addr} {xs:List V} (e:H a=some (.tup xs)):TyOf K H (.ref a) (.type "tuple")
  | dK {a:Addr} {kvs:List (Key × V)} (e:H a=some (.dK kvs)):TyOf K H (.ref a) (.type "dict")
  | dT {a:Addr} {kvs:List (List Key × V)} (e:H a=some (.dT kvs)):TyOf K H (.ref a) (.type "dict")
  | ins {a C dx:Addr} {fs:List (Str × V)} (e:H a=some (.ins C dx fs)) (cl:Cls K C) (ha:PySem.W.findIn K (.ref C) "__class__" = some (some (.builtin "object.__class__")))
      (hn:PySem.W.specialIn K (.builtin "object.__class__") "__get__" = some (some (.builtin "getset_descriptor.__get__"))) (htk:PySem.W.takesIn K (.builtin "object.__class__")=some true)
      (hm:PySem.W.mroIn K C (.type "object")=some true):TyOf K H (.ref a) (.ref C)
theorem isinst_ok {x:V} {u t:Value} (I:Inv X pins σ H s) (rx:RelV x u) (ty:TyOf X.K H x t) (e:PySem.W.kitOne X.K t c=some b) (h:∀ tk,Q (.bool b) { s with toks:=tk }) :
    wpAny (model X.prog X.w) A (call (.builtin "isinstance") [u,c]) Q E s:=by
  cases ty with
  | non=>cases (show u=Value.none from rx);exact PySem.W.kia_one PySem.W.kitx_none I.kIn True.intro e (fun z=>nomatch z) h
  | bl y=>cases (show u=Value.bool y from rx);exact PySem.W.kia_one PySem.W.kitx_bool I.kIn True.intro e (fun z=>nomatch z) h
  | int i=>obtain ⟨t,q⟩:=(show ∃ t,u=Value.int i t from rx);cases q;exact PySem.W.kia_one PySem.W.kitx_int I.kIn True.intro e (fun z=>nomatch z) h
  | str y=>obtain ⟨t,q⟩:=(show ∃ t,u=Value.str y t from rx);cases q;exact PySem.W.kia_one PySem.W.kitx_str I.kIn True.intro e (fun z=>nomatch z) h
  | flt y=>obtain ⟨t,q⟩:=(show ∃ t,u=Value.float y t from rx);cases q;exact PySem.W.kia_one PySem.W.kitx_float I.kIn True.intro e (fun z=>nomatch z) h
  | @lst a xs ea=>
    cases (show u=Value.ref a from rx)
    obtain ⟨_,_,n,_,h1⟩:=(show ObjOk X.prog X.w H s.heap a (.lst xs) from I.hok a _ ea)
    exact PySem.W.kia_one PySem.W.kitx_list I.kIn ⟨_,h1,rfl⟩ e (fun z=>nomatch z) h
  | @frz a ob xs ea=>
    cases (show u=Value.ref a from rx)
    obtain ⟨_,_,_,n,_,h1⟩:=(show ObjOk X.prog X.w H s.heap a (.frz ob (.lst xs)) from I.hok a _ ea)
    exact PySem.W.kia_one PySem.W.kitx_list I.kIn ⟨_,h1,rfl⟩ e (fun z=>nomatch z) h
  | @tup a xs ea=>
    cases (show u=Value.ref a from rx)
    obtain ⟨_,_,_,p⟩:=(show ObjOk X.prog X.w H s.heap a (.tup xs) from I.hok a _ ea)
    obtain ⟨o,h1,h2,_⟩:=p
    exact PySem.W.kia_one PySem.W.kitx_tuple I.kIn ⟨o,h1,h2⟩ e (fun z=>nomatch z) h
  | @dK a kvs ea=>
    cases (show u=Value.ref a from rx)
    obtain ⟨_,_,vs,_,p⟩:=(show ObjOk X.prog X.w H s.heap a (.dK kvs) from I.hok a _ ea)
    obtain ⟨o,es,ep,h1,h2,_⟩:=p
    exact PySem.W.kia_one PySem.W.kitx_dict I.kIn ⟨o,h1,h2.1⟩ e (fun z=>nomatch z) h
  | @dT a kvs ea=>
    cases (show u=Value.ref a from rx)
    obtain ⟨_,_,xs,_,o,es,ep,h1,h2,_⟩:=(show ObjOk X.prog X.w H s.heap a (.dT kvs) from I.hok a _ ea)
    exact PySem.W.kia_one PySem.W.kitx_dict I.kIn ⟨o,h1,h2.1⟩ e (fun z=>nomatch z) h
  | @ins a C dx fs ea cl ha hn htk hm=>
    cases (show u=Value.ref a from rx)
    obtain ⟨mA,O,_⟩:=ins_get I.hok ea
    obtain ⟨od,J,_⟩:=O.look
    exact PySem.W.kia_one (PySem.W.kitx_own (cl.get _) cl.hd ha hn htk hm) I.kIn J e (fun z=>nomatch z) h
end
end L2
namespace L2
open PySem PySem.Spec PyProof.Rows
structure Room (k:Nat) (A:Around):Prop where
  hd:A.handled=none
  dp:A.depth+3 * k+5 < recursionLimit
  un:A.units+16 * k+200 < cLine
  gd:A.guards=some []
theorem Room.mono {j k:Nat} {A:Around} (r:Room k A) (h:j≤k):Room j A:=⟨r.hd,by have:=r.dp;omega,by have:=r.un;omega,by first | exact r.gd | (simpa [Around.under,Code.isGuard,guardIds] using r.gd)⟩
theorem Room.deeper {k:Nat} {A:Around} (r:Room (k+1) A) (env:Env):Room k (A.deeper env):=
  ⟨r.hd,by have:=r.dp;show A.depth+1+3 * k+5 < _;omega,by have:=r.un;show A.units+3+16 * k+200 < _;omega,by first | exact r.gd | (simpa [Around.under,Code.isGuard,guardIds] using r.gd)⟩
theorem Room.in1 {k:Nat} {A:Around} (r:Room (k+1) A):Room k A.in1:=
  ⟨r.hd,by have:=r.dp;show A.depth+3 * k+5 < _;omega,by have:=r.un;show A.units+1+16 * k+200 < _;omega,by first | exact r.gd | (simpa [Around.under,Code.isGuard,guardIds] using r.gd)⟩
theorem Room.depth {k:Nat} {A:Around} (r:Room k A):A.depth < recursionLimit:=by have:=r.dp;omega
theorem Room.units {k:Nat} {A:Around} (r:Room k A):A.units+64 < cLine:=by have:=r.un;omega
theorem Room.units0 {k:Nat} {A:Around} (r:Room k A):A.units < cLine:=by have:=r.un;omega
def tNil:TA:=fun _ H Q=>Q [] H
def tCons (ta:TE) (tr:TA):TA:=fun σ H Q=>ta σ H fun x H1=>tr σ H1 fun xs H2=>Q (x :: xs) H2
section
variable {X:Cx} {e:Expr} {es:List Expr} {te:TE} {t:TA} {pos:Pos}
theorem pa_nil:PA X [] tNil:=fun _ _ _ _ H Q I h=>Calls.spliced_nil ⟨[],H,I,.nil,h⟩
theorem pa_cons (ha:PE X e te) (hr:PA X es t) (hs:starEach (e :: es) X.env=(false,eval e X.env) :: starEach es X.env:=by rfl):PA X (e :: es) (tCons te t):=by
  intro pos pins s σ H Q I h
  rw [hs]
  show wpAny _ _ (spliced ((false,eval e X.env) :: backTo pos (starEach es X.env))) _ _ s
  refine Calls.spliced_cons (thn (ha pins s σ H _ I h) fun u s1 ⟨x,H1,I1,r1,q1⟩=>?_)
  exact thn (hr pos pins s1 σ H1 _ I1 q1) fun us s2 ⟨xs,H2,I2,r2,q2⟩=>⟨x :: xs,H2,I2,.cons r1 r2,q2⟩
def tTup (t:TA):TE:=fun σ H Q=>t σ H fun xs H1=>xs.length≤sizeLine∧∀ p,H1 p=none→Q (.ref p) (upd H1 p (.tup xs))
def tLst (t:TA):TE:=fun σ H Q=>t σ H fun xs H1=>xs.length≤sizeLine∧∀ p,H1 p=none→Q (.ref p) (upd H1 p (.lst xs))
theorem pe_tup {x1} (h:PA X es t):PE X (.Tuple es x1 pos) (tTup t):=by
  intro pins s σ H Q I hq
  refine wpAny_Tuple_spliced (thn (h pos pins s σ H _ I hq) fun us s1 ⟨xs,H1,I1,r,z,q⟩=>⟨by rw [← r.length];exact z,?_⟩)
  have hf:H1 s1.heap.objs.size=none:=I1.hok.fresh (Nat.le_refl _)
  refine ⟨.ref s1.heap.objs.size,upd H1 s1.heap.objs.size (.tup xs),I1.laid (t':=s1.toks) (fun b u e=>Heap.get?_push_of_some _ e) (Nat.le_refl _) ?_,rfl,q _ hf⟩
  exact ⟨⟨z,_,Heap.get?_push_size _ rfl,rfl⟩,us,r,⟨_,Heap.get?_push_size _ rfl,rfl,_,rfl⟩⟩
theorem pe_lst (h:PA X es t):PE X (.List es pos) (tLst t):=by
  intro pins s σ H Q I hq
  refine wpAny_List_spliced (thn (h pos pins s σ H _ I hq) fun us s1 ⟨xs,H1,I1,r,z,q⟩=>⟨by rw [← r.length];exact z,?_⟩)
  have hf:H1 s1.heap.objs.size=none:=I1.hok.fresh (Nat.le_refl _)
  refine ⟨.ref s1.heap.objs.size,upd H1 s1.heap.objs.size (.lst xs),I1.laid (t':=s1.toks) (fun b u e=>Heap.get?_push_of_some _ e) (Nat.le_refl _) ?_,rfl,q _ hf⟩
  exact ⟨z,us,0,r,Heap.get?_push_size _ rfl⟩
end
abbrev Sp:=List V→Hp→VK→XK→Prop
abbrev CXT:=List Env→Hp→Shared→XK→Value→Shared→Prop
structure Env0 (P:Program) (w:World) (K:PySem.W.Frag) (mg:Str→Option Value) (base:Heap) (A:Around) (outer:List Env) (s:Shared) (H:Hp):Prop where
  frames:A.frames=some outer
  mod:Mod K mg base
  bs:∀ b o,base.get? b=some o→s.heap.get? b=some o∧H b=none
  bsz:base.objs.size≤s.heap.objs.size
  funs:s.heap.FunFrames base outer
  frf:∀ b∈frs outer,H b=none
  hok:HOk P w H s.heap
  bare:AllBare s.gens
def CE (outer:List Env) (P:Program) (w:World) (H:Hp) (s:Shared) (Q:VK) (u:Value) (s':Shared):Prop:=
  ∃ v H',s'.os=s.os∧AllBare s'.gens∧Un (frs outer) [] H H' s.heap s'.heap∧HOk P w H' s'.heap∧RelV v u∧Q v H'
def CR (CX:CXT) (outer:List Env) (P:Program) (w:World) (H:Hp) (s:Shared) (Q:VK) (E:XK) (r:Result) (s':Shared):Prop:=
  match r with
  | .ok (.ret u)=>CE outer P w H s Q u s'
  | .ok _=>False
  | .error e=>CX outer H s E e s'
structure FnOk (P:Program) (w:World) (K:PySem.W.Frag) (mg:Str→Option Value) (base:Heap) (CX:CXT) (k:Nat) (f:Addr) (fd:FuncData) (ps:List Str) (sp:Sp):Prop where
  len:∀ vs H Q E,sp vs H Q E→vs.length=ps.length
  run:∀ (A:Around) (outer:List Env) (s:Shared) (H:Hp) (args:Args) (us:List Value) (vs:List V) (Q:VK) (E:XK),Room k A→Env0 P w K mg base A outer s H→BindsTo s fd args (ps.zip us)→Vals vs us→sp vs H Q E →
    codeAny (model P w) A (.call (.ref f) args) (CR CX outer P w H s Q E) s
theorem FnOk.mono {P:Program} {w:World} {K:PySem.W.Frag} {mg:Str→Option Value} {base:Heap} {CX:CXT} {j k:Nat} {f:Addr} {fd:FuncData} {ps:List Str} {sp:Sp} (F:FnOk P w K mg base CX j f fd ps sp) (h:j≤k) :
    FnOk P w K mg base CX k f fd ps sp:=⟨F.len,fun A outer s H args us vs Q E hr=>F.run A outer s H args us vs Q E (hr.mono h)⟩
theorem FnOk.imp {P:Program} {w:World} {K:PySem.W.Frag} {mg:Str→Option Value} {base:Heap} {CX:CXT} {k:Nat} {f:Addr} {fd:FuncData} {ps:List Str} {sp sp':Sp} (F:FnOk P w K mg base CX k f fd ps sp)
    (h:∀ vs H Q E,sp' vs H Q E→sp vs H Q E):FnOk P w K mg base CX k f fd ps sp':=
  ⟨fun vs H Q E q=>F.len vs H Q E (h _ _ _ _ q),fun A outer s H args us vs Q E hr he hb hv hs=>F.run A outer s H args us vs Q E hr he hb hv (h _ _ _ _ hs)⟩
theorem Env0.in1 {P:Program} {w:World} {K:PySem.W.Frag} {mg:Str→Option Value} {base:Heap} {A:Around} {outer:List Env} {s:Shared} {H:Hp} (e:Env0 P w K mg base A outer s H) :
    Env0 P w K mg base A.in1 outer s H:=⟨e.frames,e.mod,e.bs,e.bsz,e.funs,e.frf,e.hok,e.bare⟩
section
variable {X:Cx} {pins:List (Addr × Obj)} {σ:St} {H:Hp} {s s':Shared}
theorem Inv.env0 (I:Inv X pins σ H s):Env0 X.prog X.w X.K X.mg X.base X.A X.stack s H:=
  ⟨I.ok.frames,I.ok.mod,I.bs,Nat.le_trans I.ok.bsz I.sz,I.stack,I.stkFree,I.hok,I.bare⟩
theorem Inv.after {Q:VK} {u:Value} (I:Inv X pins σ H s) (h:CE X.stack X.prog X.w H s Q u s'):EP X pins σ Q u s':=by
  obtain ⟨v,H',os,bare,un,hok,r,q⟩:=h
  obtain ⟨hh,g,d,t,os'⟩:=s'
  obtain rfl:os'=s.os:=os
  exact ⟨v,H',I.call (h':=hh) (g':=g) (d':=d) (t':=t) (ch:=[]) un hok bare (fun b z=>absurd z (by simp)),r,q⟩
end
def tCall (sp:Sp) (dvs:List V) (E:XK) (t:TA):TE:=fun σ H Q=>t σ H fun vs H1=>sp (vs++dvs) H1 Q E
def Binds (K:PySem.W.Frag) (fd:FuncData) (ps:List Str) (ds:List Value):Prop:=
  ∀ (s:Shared) (us:List Value),K.In s.heap→(us++ds).length=ps.length→BindsTo s fd ⟨us,[]⟩ (ps.zip (us++ds))
theorem Binds.all {K:PySem.W.Frag} {fd:FuncData} {ps:List Str} (h:∀ us:List Value,us.length=ps.length→bindArgs fd ⟨us,[]⟩=pure (ps.zip us)):Binds K fd ps []:=fun s us _ hl=>by
  rw [List.append_nil] at hl ⊢
  exact .of_eq (h us hl)
def Passes (CX:CXT) (X:Cx) (E:XK):Prop:=∀ (pins:List (Addr × Obj)) (σ:St) (H:Hp) (s:Shared) (e:Value) (s':Shared),Inv X pins σ H s→CX X.stack H s E e s'→X.xe e s'
section
variable {X:Cx} {CX:CXT} {k:Nat} {f C:Addr} {fd:FuncData} {ps:List Str} {sp:Sp} {dvs:List V} {ds:List Value} {E:XK} {x m:Str} {p pos apos:Pos} {e o:Expr} {es:List Expr} {ta:TE} {t:TA}
theorem run_fn {pins:List (Addr × Obj)} {σ:St} {H:Hp} {s:Shared} {Q:VK} {us:List Value} {vs:List V} (F:FnOk X.prog X.w X.K X.mg X.base CX k f fd ps sp) (hr:Room k X.A) (hb:Binds X.K fd ps ds) (hd:Vals dvs ds) (hx:Passes CX X E)
    (I:Inv X pins σ H s) (r:Vals vs us) (h:sp (vs++dvs) H Q E):wpAny (model X.prog X.w) X.A (call (.ref f) us) (EP X pins σ Q) X.xe s:=by
  have r2:Vals (vs++dvs) (us++ds):=r.append hd
  have hl:(us++ds).length=ps.length:=by rw [← r2.length];exact F.len _ _ _ _ h
  refine wpAny_call (codeAny_mono (F.run X.A X.stack s H ⟨us,[]⟩ (us++ds) (vs++dvs) Q E hr I.env0 (hb s us I.kIn hl) r2 h) fun r s' hq=>?_)
  cases r with
  | error e=>exact hx pins σ H s e s' I hq
  | ok fl=>
    cases fl with
    | ret u=>exact I.after hq
    | next=>exact False.elim hq
    | brk=>exact False.elim hq
    | cont=>exact False.elim hq
theorem pe_call (F:FnOk X.prog X.w X.K X.mg X.base CX k f fd ps sp) (hr:Room k X.A) (hg:Gl X x) (hm:X.mg x=some (.ref f)) (hk:PySem.W.keepIn X.K (.ref f)=true) (hb:Binds X.K fd ps ds) (hd:Vals dvs ds) (hx:Passes CX X E)
    (ha:PA X (e :: es) t) (hdb:(x == ("__debug__" : Str))=false:=by decide) (he:starEach (e :: es) X.env=(false,eval e X.env) :: starEach es X.env:=by rfl) (hpl:(backTo pos (starEach es X.env)).any (·.1)=false:=by rfl) :
    PE X (.Call (.Name x p) (e :: es) [] pos) (tCall sp dvs E t):=by
  intro pins s σ H Q I h
  refine wpAny_Call_Name_kw (ld_glob I hg hm ?_ hdb)
  refine PySem.W.callWith_K (h₀:=X.base) I.ok.mod.kin hk (thn (ha pos pins s σ H _ I h) fun us s1 ⟨vs,H1,I1,r,q⟩=>⟨I1.kIn,?_⟩) he hpl
  exact run_fn F hr hb hd hx I1 r q
structure Mk (K:PySem.W.Frag) (C f:Addr):Prop where
  makes:PySem.W.makesIn K C=true
  init:PySem.W.findIn K (.ref C) "__init__" = some (some (.ref f))
  fn:PySem.W.isFn K (.ref f)=true
  kp:PySem.W.keepIn K (.ref C)=true
end
section
variable {X:Cx} {CX:CXT} {k:Nat} {f C:Addr} {fd:FuncData} {ps ks:List Str} {sp:Sp} {E:XK} {x m:Str} {p pos apos kpos:Pos} {e o:Expr} {es:List Expr} {kws:List Keyword} {te ta:TE} {t tk:TA} {nm:Option Str}
structure KBinds (K:PySem.W.Frag) (fd:FuncData) (ps ks:List Str) (g:List Value→List Value→List Value) (gV:List V→List V→List V):Prop where
  to:∀ (s:Shared) (us ws:List Value),K.In s.heap→(g us ws).length=ps.length→BindsTo s fd ⟨us,ks.zip ws⟩ (ps.zip (g us ws))
  rel:∀ {vs:List V} {us:List Value} {zs:List V} {ws:List Value},Vals vs us→Vals zs ws→Vals (gV vs zs) (g us ws)
variable {g:List Value→List Value→List Value} {gV:List V→List V→List V}
end
structure FnScope (N P:List Str) (sc:Scope):Prop where
  kind:sc.kind=.function
  co:sc.isCoroutine=false
  gen:sc.isGenerator=false
  nd:N.Nodup
  pre:N.take P.length=P
  par:∀ x∈P,sc.names.lookup x=some .local∨sc.names.lookup x=some .cell
  nofree:∀ y∈sc.names,y.2≠.free
theorem bindL_out {kindOf:Str→Option NameKind} {x:Str}:∀ {binds:List (Str × Value)} {m:Str→Option Value},(∀ v,(x,v) ∉ binds)→bindL kindOf binds m x=m x
  | [],_,_=>rfl
  | (n,v) :: r,m,h=>by
    unfold bindL
    rw [bindL_out fun w hw=>h w (List.mem_cons_of_mem _ hw)]
    split
    · have:x≠n:=by rintro rfl;exact h v List.mem_cons_self
      simp [this]
    · rfl
theorem bindC_out {kindOf:Str→Option NameKind} {x:Str}:∀ {binds:List (Str × Value)} {m:Str→Option Value},(∀ v,(x,v) ∉ binds)→bindC kindOf binds m x=m x
  | [],_,_=>rfl
  | (n,v) :: r,m,h=>by
    unfold bindC
    rw [bindC_out fun w hw=>h w (List.mem_cons_of_mem _ hw)]
    split
    · rfl
    · have:x≠n:=by rintro rfl;exact h v List.mem_cons_self
      simp [this]
theorem bindL_get {kindOf:Str→Option NameKind} {x:Str} {v:Value}:∀ {P:List Str} {vs:List Value} {i:Nat} {m:Str→Option Value},P.Nodup→P[i]?=some x→vs[i]?=some v→kindOf x=some .local →
    bindL kindOf (P.zip vs) m x=some v
  | [],_,_,_,_,h,_,_=>by simp at h
  | _ :: _,[],_,_,_,_,h,_=>by simp at h
  | p :: P,w :: vs,0,m,nd,h1,h2,hk=>by
    simp at h1 h2;subst h1;subst h2
    show bindL kindOf ((p,w) :: P.zip vs) m p=_
    unfold bindL
    rw [bindL_out fun v hv=>(List.nodup_cons.mp nd).1 (List.of_mem_zip hv).1,if_pos hk]
    simp
  | p :: P,w :: vs,i+1,m,nd,h1,h2,hk=>by
    show bindL kindOf ((p,w) :: P.zip vs) m x=_
    unfold bindL
    exact bindL_get (i:=i) (List.nodup_cons.mp nd).2 (by simpa using h1) (by simpa using h2) hk
theorem bindC_get {kindOf:Str→Option NameKind} {x:Str} {v:Value}:∀ {P:List Str} {vs:List Value} {i:Nat} {m:Str→Option Value},P.Nodup→P[i]?=some x→vs[i]?=some v→kindOf x≠some .local →
    bindC kindOf (P.zip vs) m x=some v
  | [],_,_,_,_,h,_,_=>by simp at h
  | _ :: _,[],_,_,_,_,h,_=>by simp at h
  | p :: P,w :: vs,0,m,nd,h1,h2,hk=>by
    simp at h1 h2;subst h1;subst h2
    show bindC kindOf ((p,w) :: P.zip vs) m p=_
    unfold bindC
    rw [bindC_out fun v hv=>(List.nodup_cons.mp nd).1 (List.of_mem_zip hv).1,if_neg hk]
    simp
  | p :: P,w :: vs,i+1,m,nd,h1,h2,hk=>by
    show bindC kindOf ((p,w) :: P.zip vs) m x=_
    unfold bindC
    exact bindC_get (i:=i) (List.nodup_cons.mp nd).2 (by simpa using h1) (by simpa using h2) hk
def start (N:List Str) (vs:List V):St:=vs.map some++List.replicate (N.length - vs.length) none
def cxOf (CX:CXT) (P:Program) (w:World) (K:PySem.W.Frag) (mg:Str→Option Value) (base:Heap) (N:List Str) (qual:Str) (scope:Scope) (f:Addr) (cd:Value) (A:Around) (outer:List Env) (s:Shared) (H:Hp) (E:XK):Cx where
  prog:=P
  w:=w
  K:=K
  mg:=mg
  base:=base
  A:=A.deeper (envOfC qual scope s.heap.objs.size f cd)
  N:=N
  s₀:=s
  H₀:=H
  env:=envOfC qual scope s.heap.objs.size f cd
  outer:=outer
  stack:=envOfC qual scope s.heap.objs.size f cd :: outer
  ex:=[]
  calm:=true
  fn:=fun _=>true
  pn:=[]
  xe:=fun e s'=>wpAny (model P w) (A.deeper (envOfC qual scope s.heap.objs.size f cd)) (leaving (envOfC qual scope s.heap.objs.size f cd) e) (fun _ s''=>CX outer H s E e s'') (fun e' s''=>CX outer H s E e' s'') s'
theorem cell_has {sc:Scope} {n:Nat} {x:Str} (h:sc.names.lookup x=some .cell):∃ c,(cellsFrom n sc.names []).lookup x=some c:=by
  have q:=PySem.W.cellsFrom_some sc.names n [] (.inl h)
  exact Option.isSome_iff_exists.mp q
theorem inv_start {CX:CXT} {P:Program} {w:World} {K:PySem.W.Frag} {mg:Str→Option Value} {base:Heap} {N ps:List Str} {qual:Str} {scope:Scope} {f:Addr} {cd:Value} {A:Around} {outer:List Env} {s s1:Shared} {H:Hp} {E:XK} {us:List Value} {vs:List V}
    (S:FnScope N ps scope) (hd:A.handled=none) (e0:Env0 P w K mg base A outer s H) (hl:vs.length=ps.length) (r:Vals vs us)
    (x:InCallC s s.heap.objs.size (bindL (envOfC qual scope s.heap.objs.size f cd).kindOf (ps.zip us) fun _=>none) (cellsFrom (s.heap.objs.size+1) scope.names []) (bindC (envOfC qual scope s.heap.objs.size f cd).kindOf (ps.zip us) fun _=>none) s1) :
    Inv (cxOf CX P w K mg base N qual scope f cd A outer s H E) [] (start N vs) H s1:=by
  have hpl:ps.length≤N.length:=by have:=congrArg List.length S.pre;rw [List.length_take] at this;omega
  obtain ⟨h1,tk,rfl,hk⟩:=x.done
  have noA:∀ b:Addr,b ∉ (cxOf CX P w K mg base N qual scope f cd A outer s H E).ex:=fun b z=>absurd (show b∈([]:List Addr) from z) (by simp)
  refine ⟨⟨e0.mod,S.kind,rfl,rfl,Nat.le_refl _,fun y z c h1 h2=>?_,fun y hy=>?_,fun y c _ h=>?_,fun _=>hd,Around.frames_deeper e0.frames,.inr ⟨rfl,rfl⟩,fun b z=>absurd z (noA b),e0.bs,e0.bsz,fun b _ _=>noA b,fun b z=>absurd z (noA b),e0.funs,e0.frf⟩,
    rfl,e0.bare,Un.kept hk,⟨_,x.toInCall.ns,fun i y v h1 h2 h3=>?_⟩,fun y c h=>⟨_,x.cell y c h⟩,e0.hok.fresh (Nat.le_refl _),fun y c h=>?_,fun p hp=>absurd (show p∈([]:List (Addr × Obj)) from hp) (by simp),e0.hok.kept hk,?_⟩
  · exact name_of_addr x.apart (PySem.mem_of_lookup h1) (PySem.mem_of_lookup h2)
  · have hy:scope.names.lookup y=some .cell∨scope.names.lookup y=some .free:=hy
    rcases hy with hy | hy
    · exact cell_has hy
    · exact absurd rfl (S.nofree _ (PySem.mem_of_lookup hy))
  · exact Nat.le_of_lt (x.above y c (PySem.mem_of_lookup h))
  · have hi:i < vs.length:=by
      unfold start at h2
      by_cases hi:i < vs.length
      · exact hi
      · rw [List.getElem?_append_right (by simpa using hi)] at h2
        rw [List.getElem?_replicate] at h2
        split at h2 <;> cases h2
    have ha:vs[i]?=some v:=by
      unfold start at h2
      rw [List.getElem?_append_left (by simpa using hi),List.getElem?_map] at h2
      cases e:vs[i]? with
      | none=>rw [e] at h2;cases h2
      | some a=>rw [e] at h2;cases h2;rfl
    obtain ⟨u,hu,rv⟩:=r.get ha
    have hp:ps[i]?=some y:=by
      rw [← S.pre,List.getElem?_take_of_lt (by omega)];exact h1
    have ndP:ps.Nodup:=by rw [← S.pre];exact S.nd.sublist (List.take_sublist _ _)
    refine ⟨u,rv,?_⟩
    rcases S.par y (List.mem_of_getElem? hp) with k | k
    · exact .inl ⟨k,bindL_get ndP hp hu k⟩
    · obtain ⟨c,e⟩:=cell_has (n:=s.heap.objs.size+1) k
      refine .inr ⟨.inl k,c,e,?_⟩
      have q:=x.cell y c e
      rw [bindC_get ndP hp hu (by show scope.names.lookup y≠_;rw [k];decide)] at q
      exact q
  · exact e0.hok.fresh (Nat.le_of_lt (x.above y c (PySem.mem_of_lookup h)))
  · unfold start
    show _=N.length
    rw [List.length_append,List.length_map,List.length_replicate]
    omega
theorem fn_of {CX:CXT} {P:Program} {w:World} {K:PySem.W.Frag} {mg:Str→Option Value} {base:Heap} {k:Nat} {f:Addr} {name qual:Str} {params:Arguments} {body:List Stmt} {scope:Scope} {dV kV doc pm cdv ct oc:Value} {an od:Option Addr}
    {osl:Array (Option Value)} {N ps:List Str} {sp:Sp} (lk:K.lookup f=some ⟨oc,od,.func (PySem.W.fnOf name qual params body scope dV kV doc pm an cdv ct),osl⟩) (hcd:PySem.W.codeIn K cdv qual=true) (S:FnScope N ps scope)
    (len:∀ vs H Q E,sp vs H Q E→vs.length=ps.length)
    (hbody:∀ (A:Around) (outer:List Env) (s:Shared) (H:Hp) (vs:List V) (Q:VK) (E:XK),Room k (A.deeper (envOfC qual scope s.heap.objs.size f cdv))→sp vs H Q E →
      ∃ t,PSs (cxOf CX P w K mg base N qual scope f cdv A outer s H E) body t∧t { nx:=fun _ H'=>Q .non H',rt:=Q } (start N vs) H) :
    FnOk P w K mg base CX (k+1) f (PySem.W.fnOf name qual params body scope dV kV doc pm an cdv ct) ps sp:=by
  refine ⟨len,fun A outer s H args us vs Q E hr e0 hb r hsp=>?_⟩
  have hl:=len _ _ _ _ hsp
  have KX:K.In s.heap:=e0.mod.kin.keeps fun b o e=>(e0.bs b o e).1
  have lim:s.heap.NoLimit:=e0.mod.nolimit.keeps fun b o e=>(e0.bs b o e).1
  have hkind:∀ y∈ps.zip us,scope.names.lookup y.1=some .local∨(scope.names.lookup y.1=some .cell∧((cellsFrom (s.heap.objs.size+1) scope.names []).lookup y.1).isSome=true):=fun ⟨n,v⟩ hy=>by
    rcases S.par n (List.of_mem_zip hy).1 with q | q
    · exact .inl q
    · exact .inr ⟨q,PySem.W.cellsFrom_some _ _ _ (.inl q)⟩
  refine codeAny_call_function hr.depth (KX _ _ lk) rfl S.co S.gen rfl (PySem.W.codeRec_of KX hcd) (hb _ _ _ _ ?_)
  refine wpAny_newFunctionEnv_cells S.kind hkind fun env he s1 x=>?_
  subst he
  refine ⟨lim.keeps x.toInCall.keep,codeAny_func ?_⟩
  obtain ⟨t,ht,hq⟩:=hbody A outer s H vs Q E (hr.deeper _) hsp
  have I:Inv (cxOf CX P w K mg base N qual scope f cdv A outer s H E) [] (start N vs) H s1:=inv_start S hr.hd e0 hl r x
  refine wpAny_mono (ht [] s1 (start N vs) H _ I hq) (fun fl s' hs=>?_) fun e s' hs=>hs
  have fin:∀ {σ':St} {H':Hp} {v:V} {u:Value},Inv (cxOf CX P w K mg base N qual scope f cdv A outer s H E) [] σ' H' s'→RelV v u→Q v H'→CE outer P w H s Q u s':=
    fun {σ' H' v u} J rv q=>⟨v,H',J.os,J.bare,J.base,J.hok,rv,q⟩
  cases fl with
  | ret u=>
    obtain ⟨v,σ',H',J,rv,q⟩:=hs
    exact fin J rv q
  | next=>
    obtain ⟨σ',H',J,q⟩:=hs
    exact fin (v:=V.non) (u:=Value.none) J rfl q
  | brk=>
    obtain ⟨_,_,_,q⟩:=hs
    exact False.elim q
  | cont=>
    obtain ⟨_,_,_,q⟩:=hs
    exact False.elim q
end L2
namespace L2
open PySem PySem.Spec PyProof.Rows
section
variable {X:Cx} {x:Str} {p pos:Pos} {e:Expr} {es:List Expr} {t:TA} {id T:String} {r:List V→Hp→VK→Prop}
def tCB (r:List V→Hp→VK→Prop) (t:TA):TE:=fun σ H Q=>t σ H fun vs H1=>r vs H1 Q
theorem pe_callB (hc:CallR X (.builtin id) r) (hg:Gl X x) (hm:X.mg x=none) (hv:bootBuiltins x=some (.builtin id)) (ha:PA X (e :: es) t) (hn:x ≠ "__name__" := by decide) (hdb:(x == ("__debug__" : Str))=false:=by decide)
    (he:starEach (e :: es) X.env=(false,eval e X.env) :: starEach es X.env:=by rfl) (hpl:(backTo pos (starEach es X.env)).any (·.1)=false:=by rfl):PE X (.Call (.Name x p) (e :: es) [] pos) (tCB r t):=by
  intro pins s σ H Q I h
  refine wpAny_Call_Name_kw (ld_blt I hg hm hv ?_ hn hdb)
  exact PyProof.Rows.callWith_builtin1 (thn (ha pos pins s σ H _ I h) fun us s1 ⟨vs,H1,I1,r1,q1⟩=>hc pins s1 σ H1 vs us Q I1 r1 q1) he hpl
theorem pe_callTy (hc:CallR X (.type T) r) (hg:Gl X x) (hm:X.mg x=none) (hv:bootBuiltins x=some (.type T)) (ha:PA X (e :: es) t) (hn:x ≠ "__name__" := by decide) (hdb:(x == ("__debug__" : Str))=false:=by decide)
    (he:starEach (e :: es) X.env=(false,eval e X.env) :: starEach es X.env:=by rfl) (hpl:(backTo pos (starEach es X.env)).any (·.1)=false:=by rfl):PE X (.Call (.Name x p) (e :: es) [] pos) (tCB r t):=by
  intro pins s σ H Q I h
  refine wpAny_Call_Name_kw (ld_blt I hg hm hv ?_ hn hdb)
  exact PyProof.Rows.callWith_type1 (thn (ha pos pins s σ H _ I h) fun us s1 ⟨vs,H1,I1,r1,q1⟩=>hc pins s1 σ H1 vs us Q I1 r1 q1) he hpl
end
end L2
namespace HT
open PySem PyProof.Rows
section
open PySem.SeqAt
open PySem.AutoSeq1 (wpAny_loadPart')
open PySem.MeetsSeq PySem.MeetsSeq2 PySem.MeetsSeq3
end
section
variable {prog:Program} {w:World} {A:Around} {E:Value→Shared→Prop} {s:Shared}
theorem cat_tup {t b:Addr} {vs ws:List Value} {Q:Value→Shared→Prop} (ht:IsTup s.heap t vs.toArray) (hb:IsTup s.heap b ws.toArray) (hv:vs≠[])
    (h1:ws=[]→Q (.ref t) s) (h2:ws≠[]→Q (.ref s.heap.objs.size) { s with heap:=s.heap.push { cls:=.type "tuple", data:=.seq (vs++ws).toArray } })
    (hsz:vs.length+ws.length≤sizeLine):wpAny (model prog w) A (binaryOp .Add (.ref t) (.ref b)) Q E s:=by
  obtain ⟨⟨cls,dd,data,sl⟩,ho,hc,n,hd⟩:=id ht
  obtain ⟨⟨cls2,dd2,data2,sl2⟩,ho2,hc2,n2,hd2⟩:=id hb
  simp only at hc hd hc2 hd2
  subst hc hd hc2 hd2
  have e:vs.toArray++ws.toArray=(vs++ws).toArray:=by simp
  by_cases hw:ws=[]
  · exact concat_meets ⟨_,ho,rfl⟩ ⟨_,ho2,rfl⟩ noFill_tuple_add seq_tuple_add PySem.F.slot_tuple_add PySem.F.entry_tuple_add (PySem.F.args_tuple_add_2 _ _)
      (tuple_addW1 t b vs.toArray ws.toArray n n2 dd dd2 sl sl2 (by simpa using hv) (by simp [hw])) ⟨ho,ho2,h1 hw⟩
  · refine concat_meets ⟨_,ho,rfl⟩ ⟨_,ho2,rfl⟩ noFill_tuple_add seq_tuple_add PySem.F.slot_tuple_add PySem.F.entry_tuple_add (PySem.F.args_tuple_add_2 _ _)
      (tuple_addW2 t b vs.toArray ws.toArray n n2 dd dd2 sl sl2 (by simpa using hv) (by simpa using hw) (by rw [List.size_toArray,List.size_toArray];exact hsz)) ⟨ho,ho2,?_⟩
    rw [e]
    exact h2 hw
def sIx (n d:Nat):Option Int→Nat
  | none=>d
  | some v=>if v < 0 then (v+(n:Int)).toNat else min v.toNat n
theorem sIx_nat (n d k:Nat):sIx n d (some (k:Int))=min k n:=by
  show (if (k:Int) < 0 then ((k:Int)+(n:Int)).toNat else min (k:Int).toNat n)=min k n
  rw [if_neg (by omega),Int.toNat_natCast]
theorem sIx_le (n d:Nat) (hd:d≤n) (o:Option Int):sIx n d o≤n:=by
  cases o with
  | none=>exact hd
  | some v=>
    show (if v < 0 then (v+(n:Int)).toNat else min v.toNat n)≤n
    by_cases hv:v < 0
    · rw [if_pos hv];omega
    · rw [if_neg hv];exact Nat.min_le_right _ _
theorem clip_eq (v:Int) (n d:Nat):(if v < 0 then max (v+(n:Int)) 0 else min v (n:Int))=((sIx n d (some v):Nat):Int):=by
  show (if v < 0 then max (v+(n:Int)) 0 else min v (n:Int))=(((if v < 0 then (v+(n:Int)).toNat else min v.toNat n):Nat):Int)
  by_cases hv:v < 0
  · simp only [if_pos hv];omega
  · simp only [if_neg hv];omega
theorem adjust_gen (lo hi:Option Int) (n:Nat):Builtin.Slice.sliceAdjust lo hi 1 (n:Int)=(((sIx n 0 lo:Nat):Int),((sIx n n hi:Nat):Int)):=by
  have h1:¬ ((1:Int) < 0):=by omega
  unfold Builtin.Slice.sliceAdjust
  simp only [h1,if_false]
  refine Prod.ext ?_ ?_
  · cases lo with
    | none=>rfl
    | some v=>exact clip_eq v n 0
  · cases hi with
    | none=>rfl
    | some v=>exact clip_eq v n n
theorem places_gen (i j:Nat):Builtin.Slice.slicePlaces (i:Int) (j:Int) 1=j - i:=by
  unfold Builtin.Slice.slicePlaces
  have h1:(1:Int) > 0:=by omega
  simp only [h1,if_true,Int.ediv_one]
  split <;> omega
theorem slicePart_ {v:Value} {o:Option Int} {Q:Option Int→Shared→Prop} (p:IsPart v o) (h:Q o s):wpAny (model prog w) A (Builtin.Slice.slicePartIndex v) Q E s:=by
  cases p with
  | none=>exact slicePart_none h
  | int i t=>exact slicePart_int h
theorem sliceApplied_gen {sl:Addr} {vl vu:Value} {lo hi:Option Int} {n:Nat} {Q:Int × Int × Nat→Shared→Prop} (hs:s.heap.IsSliceOf sl vl vu .none) (pl:IsPart vl lo) (pu:IsPart vu hi)
    (h:Q (((sIx n 0 lo:Nat):Int),1,sIx n n hi - sIx n 0 lo) s):wpAny (model prog w) A (Builtin.Slice.sliceApplied (.ref sl) (pure (n:Int))) Q E s:=by
  obtain ⟨os,hos,hcs,hds⟩:=id hs
  unfold Builtin.Slice.sliceApplied Builtin.Slice.sliceFields
  refine wpAny_bind (wpAny_bind (wpAny_field hos hds (x:=vl) rfl (wpAny_bind (wpAny_field hos hds (x:=vu) rfl (wpAny_bind (wpAny_field hos hds (x:=.none) rfl (wpAny_pure ?_)))))))
  refine wpAny_bind (slicePart_none ?_)
  show wpAny _ _ (if ((1:Int) == 0)=true then _ else _) _ _ s
  rw [if_neg (by decide)]
  refine wpAny_bind (slicePart_ pl (wpAny_bind (slicePart_ pu (wpAny_bind (wpAny_pure ?_)))))
  show wpAny _ _ (match Builtin.Slice.sliceAdjust lo hi 1 (n:Int) with | (lo,hi)=>pure (lo,(1:Int),Builtin.Slice.slicePlaces lo hi 1)) _ _ s
  rw [adjust_gen lo hi n]
  show wpAny _ _ (pure (((sIx n 0 lo:Nat):Int),(1:Int),Builtin.Slice.slicePlaces ((sIx n 0 lo:Nat):Int) ((sIx n n hi:Nat):Int) 1)) _ _ s
  rw [places_gen]
  exact wpAny_pure h
theorem pick_gen (xs:Array Value) (i k:Nat):((List.range k).filterMap fun (m:Nat)=>xs[((i:Int)+(m:Int) * 1).toNat]?).toArray=((xs.toList.drop i).take k).toArray:=by
  have e:(fun (m:Nat)=>xs[((i:Int)+(m:Int) * 1).toNat]?)=fun m=>xs[i+m]?:=by
    funext m
    have:((i:Int)+(m:Int) * 1).toNat=i+m:=by omega
    rw [this]
  rw [e]
  have:=pick_run xs i k
  rw [List.filterMap_map] at this
  have e2:((fun x=>xs[x]?) ∘ fun x=>i+x)=fun m=>xs[i+m]?:=rfl
  rw [e2] at this
  rw [this]
theorem getItem_tuple_cut {t sl:Addr} {items:Array Value} {vl vu:Value} {lo hi:Option Int} {Q:Value→Shared→Prop} (ht:IsTup s.heap t items) (hs:s.heap.IsSliceOf sl vl vu .none) (pl:IsPart vl lo) (pu:IsPart vu hi)
    (hw:¬ (sIx items.size 0 lo=0∧sIx items.size items.size hi=items.size))
    (h:Q (.ref s.heap.objs.size) { s with heap:=s.heap.push { cls:=.type "tuple", data:=.seq ((items.toList.drop (sIx items.size 0 lo)).take (sIx items.size items.size hi - sIx items.size 0 lo)).toArray } })
    (hsz:items.size≤sizeLine):wpAny (model prog w) A (getItem (.ref t) (.ref sl)) Q E s:=by
  have htake:sizeOk (.seq ((items.toList.drop (sIx items.size 0 lo)).take (sIx items.size items.size hi - sIx items.size 0 lo)).toArray):=by
    show ((items.toList.drop (sIx items.size 0 lo)).take (sIx items.size items.size hi - sIx items.size 0 lo)).toArray.size≤sizeLine
    rw [List.size_toArray,List.length_take,List.length_drop,Array.length_toList]
    omega
  have hj:sIx items.size items.size hi≤items.size:=sIx_le _ _ (Nat.le_refl _) hi
  obtain ⟨os,hos,hcs,hds⟩:=id hs
  have hTs:s.TypeIs (.ref sl) "slice" := ⟨os,hos,hcs⟩
  unfold getItem
  try with_reducible refine wpAny_holding ?_
  first | refine wpAny_bind (wpAny_pure ?_) | skip
  refine wpAny_bind (wpAny_sequenceKey ht.typeIs (by decide) ?_)
  refine wpAny_bind (wpAny_callSpecial?_slot (name:=Str.ofString "__getitem__") ht.typeIs PyProof.Rows.slot_tuple_getitem
    (wpAny_call_entry PyProof.Rows.slot_tuple_getitem ht.typeIs entry_tuple_getitem ?_ (args_tuple_getitem _ _)))
  show wpAny _ _ (Builtin.Tuple.tupleItemsOf (.ref t) >>= _) _ _ s
  refine wpAny_bind (tupleItemsOf_ ht ?_)
  refine wpAny_bind (wpAny_typeOf hTs ?_)
  rw [if_pos (by decide)]
  refine wpAny_bind (sliceApplied_gen hs pl pu ?_)
  have hno:¬ ((((sIx items.size 0 lo:Nat):Int) == 0 && (1:Int) == 1 && (sIx items.size items.size hi - sIx items.size 0 lo) == items.size)=true):=by
    intro q
    rw [Bool.and_eq_true,Bool.and_eq_true] at q
    have q1:((sIx items.size 0 lo:Nat):Int)=0:=eq_of_beq q.1.1
    have q2:sIx items.size items.size hi - sIx items.size 0 lo=items.size:=eq_of_beq q.2
    exact hw ⟨by omega,by omega⟩
  show wpAny _ _ (if (((sIx items.size 0 lo:Nat):Int) == 0 && (1:Int) == 1 && (sIx items.size items.size hi - sIx items.size 0 lo) == items.size)=true then _ else _) _ _ s
  rw [if_neg hno,pick_gen]
  first
    | exact wpAny_bind (m:=Builtin.Tuple.tupleExact _) (wpAny_newObj_type (wpAny_pure ⟨_,rfl,wpAny_pure h⟩) htake)
    | exact wpAny_bind (m:=Builtin.Tuple.tupleExact _) (wpAny_newObj_type (wpAny_bind (wpAny_pure (wpAny_pure ⟨_,rfl,wpAny_pure h⟩))) htake)
    | exact wpAny_bind (wpAny_bind (m:=Builtin.Tuple.tupleExact _) (wpAny_newObj_type (wpAny_pure (wpAny_pure ⟨_,rfl,wpAny_pure h⟩)) htake))
    | exact wpAny_bind (wpAny_bind (m:=Builtin.Tuple.tupleExact _) (wpAny_newObj_type (wpAny_pure ⟨_,rfl,wpAny_pure h⟩) htake))
end
end HT
namespace L2
open PySem PySem.Spec PyProof.Rows
abbrev TO:=St→Hp→(Option Int→Hp→Prop)→Prop
def PO (X:Cx) (e:Option Expr) (t:TO):Prop:=
  ∀ (pins:List (Addr × Obj)) (s:Shared) (σ:St) (H:Hp) (Q:Option Int→Hp→Prop),Inv X pins σ H s→t σ H Q →
    wpAny (model X.prog X.w) X.A (evalPart e X.env) (fun u s'=>∃ o H',Inv X pins σ H' s'∧IsPart u o∧Q o H') X.xe s
def tNoPart:TO:=fun _ H Q=>Q none H
def tPart (t:TE):TO:=fun σ H Q=>t σ H fun x H1=>∃ i,x=.int i∧Q (some i) H1
section
variable {X:Cx} {e:Expr} {te:TE} {lo hi:Option Expr} {tl th:TO} {pos p2:Pos}
theorem po_none:PO X none tNoPart:=by
  intro pins s σ H Q I h
  rw [evalPart_none]
  exact wpAny_pure ⟨none,H,I,.none,h⟩
theorem po_some (h:PE X e te):PO X (some e) (tPart te):=by
  intro pins s σ H Q I hw
  rw [evalPart_some]
  refine thn (h pins s σ H _ I hw) fun u s1 ⟨x,H1,I1,r1,q1⟩=>?_
  obtain ⟨i,rfl,q⟩:=q1
  obtain ⟨t,rfl⟩:=r1
  exact ⟨some i,H1,I1,.int i t,q⟩
def SlR (X:Cx) (r:V→Option Int→Option Int→Hp→VK→Prop):Prop:=
  ∀ (pins:List (Addr × Obj)) (s:Shared) (σ:St) (H:Hp) (x:V) (v vl vu:Value) (lo hi:Option Int) (sl:Addr) (Q:VK),Inv X pins σ H s→RelV x v→s.heap.IsSliceOf sl vl vu .none→IsPart vl lo→IsPart vu hi→r x lo hi H Q →
    ∃ T id,typeLookup (.type T) "__getitem__" = pure (some (.builtin id))∧s.TypeIs v T∧wpAny (model X.prog X.w) X.A (getItem v (.ref sl)) (EP X pins σ Q) X.xe s
theorem SlR.or {r r':V→Option Int→Option Int→Hp→VK→Prop} (h:SlR X r) (h':SlR X r'):SlR X (fun x lo hi H Q=>r x lo hi H Q∨r' x lo hi H Q):=by
  intro pins s σ H x v vl vu lo hi sl Q I rx hs pl pu q
  rcases q with q | q
  · exact h pins s σ H x v vl vu lo hi sl Q I rx hs pl pu q
  · exact h' pins s σ H x v vl vu lo hi sl Q I rx hs pl pu q
def tSl (r:V→Option Int→Option Int→Hp→VK→Prop) (te:TE) (tl th:TO):TE:=fun σ H Q=>te σ H fun x H1=>tl σ H1 fun l H2=>th σ H2 fun u H3=>r x l u H3 Q
theorem pe_slice {r:V→Option Int→Option Int→Hp→VK→Prop} (hr:SlR X r) (he:PE X e te) (hl:PO X lo tl) (hu:PO X hi th):PE X (.Subscript e (.Slice lo hi none p2) pos) (tSl r te tl th):=by
  intro pins s σ H Q I h
  refine Subscript_ (thn (he pins s σ H _ I h) fun v s1 ⟨x,H1,I1,r1,q1⟩=>?_)
  refine wpAny_Slice (thn (hl pins s1 σ H1 _ I1 q1) fun vl s2 ⟨l,H2,I2,pl,q2⟩=>thn (hu pins s2 σ H2 _ I2 q2) fun vu s3 ⟨u,H3,I3,pu,q3⟩=>?_)
  rw [evalPart_none]
  refine wpAny_pure ?_
  have I4:Inv X pins σ H3 { s3 with heap:=s3.heap.push { cls:=.type "slice", data:=.fields #[vl,vu,.none] } }:=I3.kept (t':=s3.toks) fun b ob q=>Heap.get?_push_of_some _ q
  obtain ⟨T,id,hT,ht,hg⟩:=hr pins { s3 with heap:=s3.heap.push { cls:=.type "slice", data:=.fields #[vl,vu,.none] } } σ H3 x v vl vu l u s3.heap.objs.size Q I4 r1 (Heap.IsSliceOf.new ..) pl pu q3
  show wpAny (model X.prog X.w) X.A (subscriptTail e (.Slice lo hi none p2) v (.ref s3.heap.objs.size)) (EP X pins σ Q) X.xe { s3 with heap:=s3.heap.push { cls:=.type "slice", data:=.fields #[vl,vu,.none] } }
  exact tail_any (ops:=[.ref s3.heap.objs.size,v]) ht hT hg (by with_unfolding_all rfl)
def cutV (xs:List V) (lo hi:Option Int):List V:=(xs.drop (HT.sIx xs.length 0 lo)).take (HT.sIx xs.length xs.length hi - HT.sIx xs.length 0 lo)
theorem cutV_length (xs:List V) (lo hi:Option Int):(cutV xs lo hi).length≤xs.length:=by
  unfold cutV
  rw [List.length_take,List.length_drop]
  omega
def rSlT (K:PySem.W.Frag):V→Option Int→Option Int→Hp→VK→Prop:=fun x lo hi H Q=>∃ a xs,x=.ref a∧SqT K H a xs ∧
  ¬ (HT.sIx xs.length 0 lo=0∧HT.sIx xs.length xs.length hi=xs.length)∧∀ p,H p=none→Q (.ref p) (upd H p (.tup (cutV xs lo hi)))
theorem sl_tup:SlR X (rSlT X.K):=by
  intro pins s σ H x v vl vu lo hi sl Q I rx hs pl pu h
  obtain ⟨a,xs,rfl,hx,hw,q⟩:=h
  cases rx
  obtain ⟨its,r,ht,hz⟩:=I.tuple hx
  have hlen:its.toArray.size=xs.length:=by rw [List.size_toArray];exact r.length.symm
  refine ⟨"tuple", _,PyProof.Rows.slot_tuple_getitem.lookup,ht.typeIs,?_⟩
  refine HT.getItem_tuple_cut ht hs pl pu (by rw [hlen];exact hw) ?_ (by rw [hlen];exact hz)
  rw [hlen]
  refine ⟨.ref s.heap.objs.size,_,I.laid (t':=s.toks) (o:=.tup (cutV xs lo hi)) (fun b ob q=>Heap.get?_push_of_some _ q) (Nat.le_refl _) ?_,rfl,q _ (I.hok.fresh (Nat.le_refl _))⟩
  exact ⟨⟨Nat.le_trans (cutV_length xs lo hi) hz,_,Heap.get?_push_size _ rfl,rfl⟩,_,(r.drop (HT.sIx xs.length 0 lo)).take (HT.sIx xs.length xs.length hi - HT.sIx xs.length 0 lo),IsTup.new _ _⟩
def rCatT (K:PySem.W.Frag):R2:=fun x y H Q=>∃ a b xs ys,x=.ref a∧y=.ref b∧SqT K H a xs∧SqT K H b ys∧xs≠[]∧xs.length+ys.length≤sizeLine ∧
  (ys=[]→Q (.ref a) H)∧(ys≠[]→∀ p,H p=none→Q (.ref p) (upd H p (.tup (xs++ys))))
theorem Vals.nil_iff {xs:List V} {us:List Value} (r:Vals xs us):us=[] ↔ xs=[]:=by
  cases r with
  | nil=>simp
  | cons _ _=>simp
theorem op_catT:OpR X (binaryOp .Add) (rCatT X.K):=by
  intro pins s σ H x y v u Q I rx ry h
  obtain ⟨a,b,xs,ys,rfl,rfl,ha,hb,hx,hz,q1,q2⟩:=h
  cases rx
  cases ry
  obtain ⟨its,r1,p1,_⟩:=I.tuple ha
  obtain ⟨its2,r2,p2,_⟩:=I.tuple hb
  refine HT.cat_tup p1 p2 (fun z=>hx (r1.nil_iff.mp z)) (fun z=>⟨.ref a,H,I,rfl,q1 (r2.nil_iff.mp z)⟩) (fun z=>?_) (by rw [← r1.length,← r2.length];exact hz)
  refine ⟨.ref s.heap.objs.size,_,I.laid (t':=s.toks) (o:=.tup (xs++ys)) (fun b ob q=>Heap.get?_push_of_some _ q) (Nat.le_refl _) ?_,rfl,q2 (fun w=>z (r2.nil_iff.mpr w)) _ (I.hok.fresh (Nat.le_refl _))⟩
  exact ⟨⟨by rw [List.length_append];exact hz,_,Heap.get?_push_size _ rfl,rfl⟩,_,r1.append r2,IsTup.new _ _⟩
end
end L2
namespace L2
open PySem PySem.Spec PyProof.Rows
def ixN (n:Nat) (i:Int):Option Nat:=if 0≤i then (if i < n then some i.toNat else none) else if -(n:Int)≤i then some (i+n).toNat else none
def atI {α:Type} (xs:List α) (i:Int):Option α:=(ixN xs.length i).bind fun j=>xs[j]?
theorem ixN_seq {n:Nat} {i:Int} {j:Nat} (h:ixN n i=some j):seqIndex? i n=some j∧j < n∧-(n:Int)≤i∧i < n:=by
  unfold ixN at h
  by_cases h0:0≤i
  · rw [if_pos h0] at h
    by_cases h1:i < n
    · rw [if_pos h1] at h
      have e:i.toNat=j:=Option.some.inj h
      exact ⟨by rw [seqIndex_of h0 h1,e],by omega,by omega,h1⟩
    · rw [if_neg h1] at h;cases h
  · rw [if_neg h0] at h
    by_cases h1:-(n:Int)≤i
    · rw [if_pos h1] at h
      have e:(i+n).toNat=j:=Option.some.inj h
      exact ⟨by rw [seqIndex_neg (by omega) h1,e],by omega,h1,by omega⟩
    · rw [if_neg h1] at h;cases h
theorem atI_get {α:Type} {xs:List α} {i:Int} {v:α} (h:atI xs i=some v):∃ j,seqIndex? i xs.length=some j∧xs[j]?=some v∧j < xs.length∧-(xs.length:Int)≤i∧i < xs.length:=by
  unfold atI at h
  cases e:ixN xs.length i with
  | none=>rw [e] at h;cases h
  | some j=>
    rw [e] at h
    obtain ⟨h1,h2,h3,h4⟩:=ixN_seq e
    exact ⟨j,h1,h,h2,h3,h4⟩
theorem atI_nat {α:Type} {xs:List α} {j:Nat} {v:α} (h:xs[j]?=some v):atI xs (j:Int)=some v:=by
  have hj:j < xs.length:=(List.getElem?_eq_some_iff.mp h).1
  have e:ixN xs.length (j:Int)=some j:=by
    unfold ixN
    rw [if_pos (by omega),if_pos (by omega)];simp
  unfold atI;rw [e];exact h
def PlainIx (b:Expr):Prop:=∀ o i,subscripted b false o i=operate [o,i] (getItem o i)
def IxR (X:Cx) (r:R2):Prop:=
  ∀ (value slice:Expr) (pins:List (Addr × Obj)) (s:Shared) (σ:St) (H:Hp) (x y:V) (v u:Value) (Q:VK),Inv X pins σ H s→RelV x v→RelV y u→r x y H Q →
    subscripted slice false v u=operate [v,u] (getItem v u)→wpAny (model X.prog X.w) X.A (subscriptTail value slice v u) (EP X pins σ Q) X.xe s
def MtR (X:Cx) (id:String) (r:V→List V→Hp→VK→Prop):Prop:=
  ∀ (pins:List (Addr × Obj)) (s:Shared) (σ:St) (H:Hp) (x:V) (xs:List V) (v:Value) (us:List Value) (Q:VK),Inv X pins σ H s→RelV x v→Vals xs us→r x xs H Q →
    wpAny (model X.prog X.w) X.A (call (.builtin id) (v :: us)) (EP X pins σ Q) X.xe s
section
variable {X:Cx} {a b:Expr} {ta tb:TE} {pos:Pos}
theorem IxR.or {r r':R2} (h:IxR X r) (h':IxR X r'):IxR X (fun x y H Q=>r x y H Q∨r' x y H Q):=by
  intro value slice pins s σ H x y v u Q I rx ry q hs
  rcases q with q | q
  · exact h value slice pins s σ H x y v u Q I rx ry q hs
  · exact h' value slice pins s σ H x y v u Q I rx ry q hs
theorem MtR.or {id:String} {r r':V→List V→Hp→VK→Prop} (h:MtR X id r) (h':MtR X id r'):MtR X id (fun x xs H Q=>r x xs H Q∨r' x xs H Q):=by
  intro pins s σ H x xs v us Q I rx rs q
  rcases q with q | q
  · exact h pins s σ H x xs v us Q I rx rs q
  · exact h' pins s σ H x xs v us Q I rx rs q
theorem pe_ix {r:R2} (hr:IxR X r) (ha:PE X a ta) (hb:PE X b tb) (hs:PlainIx b):PE X (.Subscript a b pos) (tOp r ta tb):=by
  intro pins s σ H Q I h
  exact Subscript_ (binT ha hb I h fun v u s2 x y H2 I2 rx ry q=>hr a b pins s2 σ H2 x y v u Q I2 rx ry q (hs _ _))
def rIxL (K:PySem.W.Frag):R2:=fun x y H Q=>∃ p xs i v,x=.ref p∧y=.int i∧SqL K H p xs∧atI xs i=some v∧Q v H
def rIxT (K:PySem.W.Frag):R2:=fun x y H Q=>∃ p xs i v,x=.ref p∧y=.int i∧SqT K H p xs∧atI xs i=some v∧Q v H
def rIxS:R2:=fun x y H Q=>∃ z i c,x=.str z∧y=.int i∧z.length≤sizeLine∧atI z.cps.toList i=some c∧Q (.str ⟨#[c]⟩) H
theorem ix_list:IxR X (rIxL X.K):=by
  intro value slice pins s σ H x y v u Q I rx ry h hs
  obtain ⟨p,xs,i,z,rfl,rfl,hq,he,q⟩:=h
  cases rx
  obtain ⟨t,rfl⟩:=ry
  obtain ⟨its,r,pl,hz⟩:=I.list hq
  obtain ⟨j,h1,h2,h3,h4,h5⟩:=atI_get he
  obtain ⟨w,ew,rw'⟩:=r.get h2
  have hl:=r.length
  have hn:=line63
  have fin:EP X pins σ Q w s:=⟨z,H,I,rw',q⟩
  by_cases h0:0≤i
  · have hj:i.toNat=j:=by
      rw [seqIndex_of h0 h5] at h1
      exact Option.some.inj h1
    exact item_listR pl.isList h0 (by omega) (by rw [hj];simpa using ew) fin hs
  · have hj:(i+(its.toArray.size:Int)).toNat=j:=by
      rw [seqIndex_neg (by omega) h4] at h1
      rw [List.size_toArray,← hl]
      exact Option.some.inj h1
    exact subscriptTail_builtinR (x:=w) pl.isList.typeIs slot_list_getitem.lookup
      (wpAny_getItem_list_neg (Q:=fun r s'=>r=w∧EP X pins σ Q r s') pl.isList (by omega) (by rw [List.size_toArray] <;> omega) (by omega) (by rw [hj];simpa using ew) ⟨rfl,fin⟩) hs
theorem ix_tup:IxR X (rIxT X.K):=by
  intro value slice pins s σ H x y v u Q I rx ry h hs
  obtain ⟨p,xs,i,z,rfl,rfl,hq,he,q⟩:=h
  cases rx
  obtain ⟨t,rfl⟩:=ry
  obtain ⟨its,r,pl,hz⟩:=I.tuple hq
  obtain ⟨j,h1,h2,h3,h4,h5⟩:=atI_get he
  obtain ⟨w,ew,rw'⟩:=r.get h2
  have hl:=r.length
  have hn:=line63
  have fin:EP X pins σ Q w s:=⟨z,H,I,rw',q⟩
  exact subscriptTail_builtinR (x:=w) pl.typeIs slot_tuple_getitem.lookup
    (getItem_tuple (j:=j) (Q:=fun r s'=>r=w∧EP X pins σ Q r s') pl (by omega) (by omega) (by rw [List.size_toArray,← hl];exact h1) (by simpa using ew) ⟨rfl,fin⟩) hs
theorem ix_str:IxR X rIxS:=by
  intro value slice pins s σ H x y v u Q I rx ry h hs
  obtain ⟨z,i,c,rfl,rfl,hz,he,q⟩:=h
  obtain ⟨t,rfl⟩:=rx
  obtain ⟨t',rfl⟩:=ry
  obtain ⟨j,h1,h2,h3,h4,h5⟩:=atI_get he
  have hl:z.cps.toList.length=z.length:=by simp [Str.length]
  rw [hl] at h1 h4 h5
  have hn:=line63
  exact tail_any (typeIs_str s z t) slot_str_getitem.lookup (getItem_str (c:=c) (by
    have e1:decide (i < -(2 ^ 63:Int))=false:=decide_eq_false (by omega)
    have e2:decide (i ≥ 2 ^ 63)=false:=decide_eq_false (by omega)
    rw [e1,e2,Bool.or_false]) (by rw [h1];simpa using h2) ⟨.str ⟨#[c]⟩,H,I.tok _,⟨_,rfl⟩,q⟩) hs
theorem mapSeq_set (its:List Value) (n j:Nat) (u:Value):Obj.mapSeq (·.setIfInBounds j u) { cls:=.type "list", data:=.seq its.toArray n }={ cls:=.type "list", data:=.seq (its.set j u).toArray n }:=by
  simp [Obj.mapSeq]
theorem Inv.lst {pins:List (Addr × Obj)} {σ:St} {H:Hp} {s:Shared} {p:Addr} {xs:List V} (I:Inv X pins σ H s) (h:H p=some (.lst xs)) :
    ∃ (its:List Value) (n:Nat),Vals xs its∧s.heap.get? p=some { cls:=.type "list", data:=.seq its.toArray n }∧xs.length≤sizeLine:=by
  obtain ⟨z,its,n,r,e⟩:=I.hok p _ h
  exact ⟨its,n,r,e,z⟩
theorem Inv.lstUpd {pins:List (Addr × Obj)} {σ:St} {H:Hp} {s:Shared} {p:Addr} {xs ys:List V} {its its':List Value} {n n':Nat} {f:Obj→Obj} (I:Inv X pins σ H s) (h:H p=some (.lst xs))
    (ho:s.heap.get? p=some { cls:=.type "list", data:=.seq its.toArray n }) (hf:f { cls:=.type "list", data:=.seq its.toArray n }={ cls:=.type "list", data:=.seq its'.toArray n' }) (r:Vals ys its') (hz:ys.length≤sizeLine) (t:Nat) :
    Inv X pins σ (upd H p (.lst ys)) { s with heap:=s.heap.update p f,toks:=t }:=by
  have e:(s.heap.update p f).get? p=some { cls:=.type "list", data:=.seq its'.toArray n' }:=by
    rw [Heap.get?_update_self f ho (by rw [hf] <;> rfl),hf]
  refine I.write (x:=p) (e:=p) (by rw [h];trivial) (.inl rfl) (fun b u hb q=>(Heap.get?_update_other _ _ (Ne.symm hb)).trans q) ⟨_,e⟩ ?_
  exact ⟨hz,its',n',r,e⟩
def rSetL:V→V→V→Hp→(Hp→Prop)→Prop:=fun o i v H Q=>∃ p xs k j,o=.ref p∧i=.int k∧H p=some (.lst xs)∧ixN xs.length k=some j∧Q (upd H p (.lst (xs.set j v)))
theorem set_list:PSet X rSetL:=by
  intro pins s σ H o i v ov iv u Q I ro ri rv h
  obtain ⟨p,xs,k,j,rfl,rfl,hp,hj,q⟩:=h
  cases ro
  obtain ⟨t,rfl⟩:=ri
  obtain ⟨its,n,r,ho,hz⟩:=I.lst hp
  obtain ⟨h1,h2,h3,h4⟩:=ixN_seq hj
  have hl:=r.length
  have hn:=line63
  have I':Inv X pins σ (upd H p (.lst (xs.set j v))) { s with heap:=s.heap.update p (Obj.mapSeq (·.setIfInBounds j u)) }:=
    I.lstUpd hp ho (mapSeq_set its n j u) (r.set rv j) (by rw [List.length_set];exact hz) s.toks
  by_cases h0:0≤k
  · have hk:k.toNat=j:=by
      rw [seqIndex_of h0 h4] at h1
      exact Option.some.inj h1
    exact PySem.W.ki_setAt ho h0 (by omega) (by rw [List.size_toArray,← hl];exact h4) (by rw [hk];exact ⟨_,I',q⟩)
  · have hk:(k+(its.toArray.size:Int)).toNat=j:=by
      rw [seqIndex_neg (by omega) h3] at h1
      rw [List.size_toArray,← hl]
      exact Option.some.inj h1
    exact PySem.W.ki_setBack ho (by omega) (by rw [List.size_toArray,← hl];exact h3) (by omega) (by rw [hk];exact ⟨_,I',q⟩)
theorem slice_bounds (lo hi:Option Int) (n:Nat):(sliceBounds lo hi none n).1=((HT.sIx n 0 lo:Nat):Int)∧(sliceBounds lo hi none n).2.1=((HT.sIx n n hi:Nat):Int)∧(sliceBounds lo hi none n).2.2=1:=by
  refine ⟨?_,?_,rfl⟩
  · cases lo with
    | none=>simp [sliceBounds,HT.sIx]
    | some i=>
      simp only [sliceBounds,HT.sIx,Option.getD_none,show (1:Int) > 0 by decide,if_true]
      by_cases h:i < 0
      · simp only [h,if_true] <;> omega
      · simp only [h,if_false] <;> omega
  · cases hi with
    | none=>simp [sliceBounds,HT.sIx]
    | some i=>
      simp only [sliceBounds,HT.sIx,Option.getD_none,show (1:Int) > 0 by decide,if_true]
      by_cases h:i < 0
      · simp only [h,if_true] <;> omega
      · simp only [h,if_false] <;> omega
theorem slicePick_cut (its:List Value) (lo hi:Option Int):slicePick its.toArray lo hi none=((its.drop (HT.sIx its.length 0 lo)).take (HT.sIx its.length its.length hi - HT.sIx its.length 0 lo)).toArray:=by
  obtain ⟨h1,h2,h3⟩:=slice_bounds lo hi its.toArray.size
  unfold slicePick
  rw [h1,h2,h3]
  simp only [sliceRange_one,pick_run,List.size_toArray] <;> rfl
def rSlL (K:PySem.W.Frag):V→Option Int→Option Int→Hp→VK→Prop:=fun x lo hi H Q=>∃ a xs,x=.ref a∧SqL K H a xs∧∀ p,H p=none→Q (.ref p) (upd H p (.lst (cutV xs lo hi)))
theorem sl_list:SlR X (rSlL X.K):=by
  intro pins s σ H x v vl vu lo hi sl Q I rx hs pl pu h
  obtain ⟨a,xs,rfl,hx,q⟩:=h
  cases rx
  obtain ⟨its,r,ht,hz⟩:=I.list hx
  have hlen:=r.length
  refine ⟨"list", _,slot_list_getitem.lookup,ht.isList.typeIs,?_⟩
  refine wpAny_getItem_list_slice ht.isList hs pl pu .none (by simp) ?_ (by rw [List.size_toArray] <;> omega)
  rw [slicePick_cut,← hlen]
  refine ⟨.ref s.heap.objs.size,_,I.laid (t':=s.toks) (o:=.lst (cutV xs lo hi)) (fun b ob q=>Heap.get?_push_of_some _ q) (Nat.le_refl _) ?_,rfl,q _ (I.hok.fresh (Nat.le_refl _))⟩
  exact ⟨Nat.le_trans (cutV_length xs lo hi) hz,_,0,(r.drop (HT.sIx xs.length 0 lo)).take (HT.sIx xs.length xs.length hi - HT.sIx xs.length 0 lo),Heap.get?_push_size _ rfl⟩
def flatV:V→Bool
  | .non=>true
  | .bl _=>true
  | .int _=>true
  | .str _=>true
  | _=>false
def eqV:V→V→Bool
  | .non,.non=>true
  | .bl a,.bl b=>a == b
  | .bl a,.int b=>(if a then 1 else 0) == b
  | .int a,.bl b=>a == (if b then 1 else 0)
  | .int a,.int b=>a == b
  | .str a,.str b=>a == b
  | _,_=>false
theorem eqAt_V {A:Around} {s:Shared} {y x:V} {u v:Value} (ry:RelV y u) (rx:RelV x v) (fy:flatV y=true) (fx:flatV x=true):SeqAt.EqAt A s u v (eqV y x):=by
  cases y with
  | non=>
    cases ry
    cases x with
    | non=>cases rx;exact SeqAt.EqAt.same _
    | bl b=>cases rx;exact SeqAt.EqAt.none_bool b
    | int b=>obtain ⟨t,rfl⟩:=rx;exact SeqAt.EqAt.none_int b t
    | str b=>obtain ⟨t,rfl⟩:=rx;exact SeqAt.EqAt.none_str b t
    | _=>exact absurd (show false=true from fx) Bool.false_ne_true
  | bl a=>
    cases ry
    cases x with
    | non=>cases rx;exact SeqAt.EqAt.bool_none a
    | bl b=>cases rx;exact SeqAt.EqAt.bool_bool a b
    | int b=>obtain ⟨t,rfl⟩:=rx;exact SeqAt.EqAt.bool_int a b t
    | str b=>obtain ⟨t,rfl⟩:=rx;exact SeqAt.EqAt.bool_str a b t
    | _=>exact absurd (show false=true from fx) Bool.false_ne_true
  | int a=>
    obtain ⟨t',rfl⟩:=ry
    cases x with
    | non=>cases rx;exact SeqAt.EqAt.int_none a t'
    | bl b=>cases rx;exact SeqAt.EqAt.int_bool a t' b
    | int b=>obtain ⟨t,rfl⟩:=rx;exact SeqAt.EqAt.int_int a t' b t
    | str b=>obtain ⟨t,rfl⟩:=rx;exact SeqAt.EqAt.int_str a t' b t
    | _=>exact absurd (show false=true from fx) Bool.false_ne_true
  | str a=>
    obtain ⟨t',rfl⟩:=ry
    cases x with
    | non=>cases rx;exact SeqAt.EqAt.str_none a t'
    | bl b=>cases rx;exact SeqAt.EqAt.str_bool a t' b
    | int b=>obtain ⟨t,rfl⟩:=rx;exact SeqAt.EqAt.str_int a t' b t
    | str b=>obtain ⟨t,rfl⟩:=rx;exact SeqAt.EqAt.str_str a t' b t
    | _=>exact absurd (show false=true from fx) Bool.false_ne_true
  | _=>exact absurd (show false=true from fy) Bool.false_ne_true
theorem call_len_seq:CallR X (.builtin "len") (fun xs H Q=>∃ p ys,xs=[.ref p]∧(SqL X.K H p ys∨SqT X.K H p ys)∧Q (.int ys.length) H):=by
  intro pins s σ H xs us Q I r h
  obtain ⟨p,ys,rfl,hq,q⟩:=h
  obtain ⟨u,rfl,rx⟩:=vals1 r
  cases rx
  have hn:=line63
  rcases hq with hq | hq
  · obtain ⟨its,r',pl,hz⟩:=I.list hq
    have hlen:=r'.length
    exact Calls.call_len_list pl.isList (by simp only [List.size_toArray] <;> omega) ⟨.int ys.length,H,I.tok _,⟨s.toks+1,by rw [List.size_toArray,hlen]⟩,q⟩
  · obtain ⟨its,r',pl,hz⟩:=I.tuple hq
    have hlen:=r'.length
    exact len_tuple pl (by simp only [List.size_toArray] <;> omega) ⟨.int ys.length,H,I.tok _,⟨s.toks+1,by rw [List.size_toArray,hlen]⟩,q⟩
theorem call_len_str:CallR X (.builtin "len") (fun xs H Q=>∃ z,xs=[.str z]∧z.length≤sizeLine∧Q (.int z.length) H):=by
  intro pins s σ H xs us Q I r h
  obtain ⟨z,rfl,hz,q⟩:=h
  obtain ⟨u,rfl,t,rfl⟩:=vals1 r
  have hn:=line63
  exact len_str (by omega) ⟨.int z.length,H,I.tok _,⟨_,rfl⟩,q⟩
theorem CallR.or {f:Value} {r r':List V→Hp→VK→Prop} (h:CallR X f r) (h':CallR X f r'):CallR X f (fun xs H Q=>r xs H Q∨r' xs H Q):=by
  intro pins s σ H xs us Q I rs q
  rcases q with q | q
  · exact h pins s σ H xs us Q I rs q
  · exact h' pins s σ H xs us Q I rs q
theorem call_list_of:CallR X (.type "list") (fun xs H Q=>∃ p ys,xs=[.ref p]∧(SqL X.K H p ys∨SqT X.K H p ys)∧∀ l,H l=none→Q (.ref l) (upd H l (.lst ys))):=by
  intro pins s σ H xs us Q I r h
  obtain ⟨p,ys,rfl,hq,q⟩:=h
  obtain ⟨u,rfl,rx⟩:=vals1 r
  cases rx
  have fin:∀ (its:List Value),Vals ys its→ys.length≤sizeLine→∀ (h':Heap) (c':Nat),(∀ b o',s.heap.get? b=some o'→h'.get? b=some o') →
      h'.get? s.heap.objs.size=some { cls:=.type "list", dict:=none,data:=.seq its.toArray c',slots:=#[] }→EP X pins σ Q (.ref s.heap.objs.size) { s with heap:=h' }:=fun its r' hz h' c' kp e=>
    ⟨.ref s.heap.objs.size,_,I.laid (t':=s.toks) kp (Nat.le_refl _) (show ObjOk X.prog X.w _ h' _ (.lst ys) from ⟨hz,its,c',r',e⟩),rfl,q _ (I.hok.fresh (Nat.le_refl _))⟩
  rcases hq with hq | hq
  · obtain ⟨its,r',pl,hz⟩:=I.list hq
    have hlen:=r'.length
    obtain ⟨o,ho,hc,n,hd⟩:=pl.isList
    exact call_list_seq p (.inl rfl) ho hc hd (fun h' c' kp e=>fin its r' hz h' c' kp e) (by simp only [List.size_toArray] <;> omega)
  · obtain ⟨its,r',pl,hz⟩:=I.tuple hq
    have hlen:=r'.length
    obtain ⟨o,ho,hc,n,hd⟩:=pl
    exact call_list_seq p (.inr rfl) ho hc hd (fun h' c' kp e=>fin its r' hz h' c' kp e) (by simp only [List.size_toArray] <;> omega)
theorem call_tuple_of:CallR X (.type "tuple") (fun xs H Q=>∃ p ys,xs=[.ref p]∧((SqL X.K H p ys∧∀ l,H l=none→Q (.ref l) (upd H l (.tup ys)))∨(SqT X.K H p ys∧Q (.ref p) H))):=by
  intro pins s σ H xs us Q I r h
  obtain ⟨p,ys,rfl,h⟩:=h
  obtain ⟨u,rfl,rx⟩:=vals1 r
  cases rx
  rcases h with ⟨hq,q⟩ | ⟨hq,q⟩
  · obtain ⟨its,r',pl,hz⟩:=I.list hq
    have hlen:=r'.length
    refine call_tuple_list pl.isList (fun h' kp=>?_) (by simp only [List.size_toArray] <;> omega)
    have I1:Inv X pins σ H { s with heap:=h' }:=I.kept (t':=s.toks) kp
    have I2:Inv X pins σ (upd H h'.objs.size (.tup ys)) { s with heap:=h'.push { cls:=.type "tuple", data:=.seq its.toArray } }:=
      I1.laid (t':=s.toks) (fun b o e=>Heap.get?_push_of_some _ e) (Nat.le_refl _) (show ObjOk X.prog X.w _ _ _ (.tup ys) from ⟨⟨hz,_,Heap.get?_push_size _ rfl,rfl⟩,its,r',IsTup.new _ _⟩)
    exact ⟨.ref h'.objs.size,_,I2,rfl,q _ (I1.hok.fresh (Nat.le_refl _))⟩
  · obtain ⟨its,r',pl,hz⟩:=I.tuple hq
    exact call_tuple_same pl ⟨.ref p,H,I,rfl,q⟩
def tyV (K:PySem.W.Frag) (T:String) (x:V) (H:Hp):Prop:=match x with
  | .str _=>T = "str"
  | .int _=>T = "int"
  | .ref p=>(T = "list" ∧ ∃ xs,SqL K H p xs)∨(T = "tuple" ∧ ∃ o,K.lookup p=some o∧o.cls=.type "tuple" ∧ o.dict=none) ∨
      (T = "dict" ∧ ((∃ kvs,H p=some (.dK kvs))∨∃ kvs,H p=some (.dT kvs)))∨(T = "set" ∧ ∃ S n,H p=some (.set S n))
  | _=>False
theorem tyV_is {pins:List (Addr × Obj)} {σ:St} {H:Hp} {s:Shared} {T:String} {x:V} {v:Value} (I:Inv X pins σ H s) (r:RelV x v) (ty:tyV X.K T x H) :
    s.TypeIs v T∧∀ a,v=.ref a→∃ ob,s.heap.get? a=some ob∧ob.dict=none:=by
  cases x with
  | str z=>
    obtain ⟨t,rfl⟩:=r
    cases (show T = "str" from ty)
    exact ⟨typeIs_str s z t,fun _ e=>nomatch e⟩
  | int i=>
    obtain ⟨t,rfl⟩:=r
    cases (show T = "int" from ty)
    exact ⟨typeIs_int s i t,fun _ e=>nomatch e⟩
  | ref p=>
    cases r
    rcases ty with ⟨rfl,xs,hq⟩ | ⟨rfl,o,hk,hc,hd⟩ | ⟨rfl,hk⟩ | ⟨rfl,S,n,hk⟩
    · obtain ⟨its,_,pl,_⟩:=I.list hq
      refine ⟨pl.isList.typeIs,fun a e=>?_⟩
      cases e
      obtain ⟨o,n,e,c,hd,_⟩:=pl
      exact ⟨o,e,hd⟩
    · refine ⟨⟨o,I.kIn p o hk,hc⟩,fun a e=>?_⟩
      cases e
      exact ⟨o,I.kIn _ o hk,hd⟩
    · have z:∃ o,s.heap.get? p=some o∧o.ExactDict:=by
        rcases hk with ⟨kvs,hk⟩ | ⟨kvs,hk⟩
        · obtain ⟨_,_,_,_,o,_,_,e,ex,_⟩:=I.hok p _ hk
          exact ⟨o,e,ex⟩
        · obtain ⟨_,_,_,_,o,_,_,e,ex,_⟩:=I.hok p _ hk
          exact ⟨o,e,ex⟩
      obtain ⟨o,e,ex⟩:=z
      refine ⟨⟨o,e,ex.1⟩,fun a e2=>?_⟩
      cases e2
      exact ⟨o,e,ex.2.1⟩
    · obtain ⟨o,_,_,_,e,ex,_⟩:=I.hok p _ hk
      refine ⟨⟨o,e,ex.1⟩,fun a e2=>?_⟩
      cases e2
      exact ⟨o,e,ex.2.1⟩
  | _=>exact False.elim ty
def tBM (K:PySem.W.Frag) (T:String) (r:V→List V→Hp→VK→Prop) (to:TE) (t:TA):TE:=fun σ H Q=>to σ H fun x H1=>tyV K T x H1∧t σ H1 fun xs H2=>r x xs H2 Q
variable {o e:Expr} {es:List Expr} {to:TE} {t:TA} {name:Str} {apos cpos:Pos} {T id:String} {r:V→List V→Hp→VK→Prop}
theorem pe_bm (pa:PlainAttrs T) (slot:Slot T name id) (hty:typeOf (.builtin id)=pure (.type "method_descriptor")) (hm:MtR X id r) (ho:PE X o to) (ha:PA X (e :: es) t)
    (hbase:attributeBase o name X.env (eval o X.env)=eval o X.env:=by rfl)
    (hfew:((backTo cpos (starEach (e :: es) X.env)).all (fun x=>!x.1) && (backToKw cpos (keywordEach [] X.env)).all (fun x=>x.1.isSome)
      && decide ((e :: es).length+([]:List Keyword).length+(if ([]:List Keyword).isEmpty then 0 else 1) < 30))=true:=by rfl)
    (hline:(apos.endLine == cpos.line)=true:=by rfl) (hs:starEach (e :: es) X.env=(false,eval e X.env) :: starEach es X.env:=by rfl) (hplain:(backTo cpos (starEach es X.env)).any (·.1)=false:=by rfl) :
    PE X (.Call (.Attribute o name apos) (e :: es) [] cpos) (tBM X.K T r to t):=by
  intro pins s σ H Q I h
  refine wpAny_Call_method_late hbase hfew hline rfl (thn (ho pins s σ H _ I h) fun v s1 ⟨x,H1,I1,r1,ty,q1⟩=>?_)
  obtain ⟨h1,h2⟩:=tyV_is I1 r1 ty
  refine ⟨T,id,pa,slot,hty,h1,h2,?_⟩
  have hA:=ha cpos pins s1 σ H1 _ I1 q1
  rw [hs] at hA ⊢
  refine Calls.callWith_builtin (by show (false || (backTo cpos (starEach es X.env)).any (·.1))=false;rw [hplain] <;> rfl) (Calls.evalArgs_plain ?_)
  exact thn hA fun us s2 ⟨vs,H2,I2,r2,q2⟩=>hm pins s2 σ H2 x vs v us Q I2 r1 r2 q2
/- xs.append(e),list.index on a module's tuple .. are MtR facts of 06m -/
end
end L2
namespace L2
open PySem PySem.Spec PyProof.Rows
def MtM (X:Cx) (id:String) (r:V→List V→Hp→VK→Prop):Prop:=
  ∀ (pins:List (Addr × Obj)) (s:Shared) (σ:St) (H:Hp) (x:V) (xs:List V) (v:Value) (us:List Value) (Q:VK),Inv X pins σ H s→RelV x v→Vals xs us→r x xs H Q →
    wpAny (model X.prog X.w) X.A (call (.builtin id) (v :: us)) (EP X pins σ Q) X.xe s
theorem Vals.one:∀ {x:V} {us:List Value},Vals [x] us→∃ u,us=[u]∧RelV x u
  | _,_,.cons r .nil=>⟨_,rfl,r⟩
theorem Vals.two:∀ {x y:V} {us:List Value},Vals [x,y] us→∃ u v,us=[u,v]∧RelV x u∧RelV y v
  | _,_,_,.cons r (.cons q .nil)=>⟨_,_,rfl,r,q⟩
theorem Vals.zero:∀ {us:List Value},Vals [] us→us=[]
  | _,.nil=>rfl
theorem Vals.reverse {xs:List V} {us:List Value} (h:Vals xs us):Vals xs.reverse us.reverse:=by
  induction h with
  | nil=>exact .nil
  | cons r t ih=>rw [List.reverse_cons,List.reverse_cons];exact Vals.append ih (.cons r .nil)
section
variable {X:Cx} {pins:List (Addr × Obj)} {σ:St} {H:Hp} {s:Shared} {l b:Addr} {xs ys zs:List V}
theorem Inv.lset {its its':List Value} {n:Nat} {f:Array Value→Array Value} {t':Nat} (I:Inv X pins σ H s) (hH:H l=some (.lst xs))
    (e:s.heap.get? l=some { cls:=.type "list", data:=.seq its.toArray n }) (hf:f its.toArray=its'.toArray) (hv:Vals ys its') (hz:ys.length≤sizeLine) :
    Inv X pins σ (upd H l (.lst ys)) { s with heap:=s.heap.update l (Obj.mapSeq f),toks:=t' }:=by
  have q:=PySem.IsL.update e f
  rw [hf] at q
  refine I.write (x:=l) (e:=l) (by rw [hH];exact trivial) (.inl rfl) (fun b' u hb hu=>(Heap.get?_update_other s.heap (Obj.mapSeq f) (Ne.symm hb)).trans hu) ⟨_,q⟩ ?_
  exact ⟨hz,its',_,hv,q⟩
theorem Inv.lnew {its:List Value} {t':Nat} (I:Inv X pins σ H s) (hv:Vals ys its) (hz:ys.length≤sizeLine) :
    Inv X pins σ (upd H s.heap.objs.size (.lst ys)) { s with heap:=s.heap.push { cls:=.type "list", data:=.seq its.toArray },toks:=t' }:=
  I.laid (fun _ _ q=>Heap.get?_push_of_some _ q) (Nat.le_refl _) ⟨hz,its,0,hv,Heap.get?_push_size _ rfl⟩
theorem Inv.fresh (I:Inv X pins σ H s):H s.heap.objs.size=none:=I.hok.fresh (Nat.le_refl _)
theorem Inv.lstM (I:Inv X pins σ H s) (hH:H l=some (.lst xs)):xs.length≤sizeLine∧∃ (its:List Value) (n:Nat),Vals xs its∧xs.length=its.length∧s.heap.get? l=some { cls:=.type "list", data:=.seq its.toArray n }:=by
  obtain ⟨z,its,n,r,e⟩:=I.hok l _ hH
  exact ⟨z,its,n,r,r.length,e⟩
end
section
variable {X:Cx}
def rAppend:V→List V→Hp→VK→Prop:=fun x vs H Q=>∃ l xs y,x=.ref l∧vs=[y]∧H l=some (.lst xs)∧xs.length < sizeLine∧Q .non (upd H l (.lst (xs++[y])))
theorem mt_append:MtM X "list.append" rAppend:=by
  intro pins s σ H x vs v us Q I rx rv h
  obtain ⟨l,xs,y,rfl,rfl,hH,hz,q⟩:=h
  cases rx
  obtain ⟨u,rfl,ru⟩:=rv.one
  obtain ⟨z,its,n,r,hl,e⟩:=I.lstM hH
  refine call_meets F.slot_list_append ⟨_,e,rfl⟩ F.entry_list_append (F.args_list_append_2 _ _) (PySem.list_append l its.toArray n u (by rw [List.size_toArray];omega)) ⟨e,?_⟩
  refine ⟨.non,_,I.lset (its':=its++[u]) hH e (by simp) (r.append (.cons ru .nil)) ?_,rfl,q⟩
  rw [List.length_append,List.length_singleton]
  omega
def rCat:R2:=fun x y H Q=>∃ l b xs zs,x=.ref l∧y=.ref b∧H l=some (.lst xs)∧H b=some (.lst zs)∧xs.length+zs.length≤sizeLine∧∀ p,H p=none→Q (.ref p) (upd H p (.lst (xs++zs)))
theorem op_cat:OpR X (binaryOp .Add) rCat:=by
  intro pins s σ H x y v u Q I rx ry h
  obtain ⟨l,b,xs,zs,rfl,rfl,hH,hB,hz,q⟩:=h
  cases rx
  cases ry
  obtain ⟨z,its,n,r,hl,e⟩:=I.lstM hH
  obtain ⟨z2,its2,n2,r2,hl2,e2⟩:=I.lstM hB
  refine PySem.P.add_list e e2 ?_ (by rw [List.size_toArray,List.size_toArray];omega)
  have ea:its.toArray++its2.toArray=(its++its2).toArray:=by simp
  rw [ea]
  exact ⟨.ref _,_,I.lnew (t':=s.toks) (r.append r2) (by rw [List.length_append];omega),rfl,q _ I.fresh⟩
end
section
variable {prog:Program} {w:World} {A:Around} {E:Value→Shared→Prop} {s:Shared}
end
section
variable {X:Cx}
end
end L2
namespace Att
open PySem PySem.W PySem.Calls PyProof.Rows
theorem ints_of_wellAll {P:Params} {h:Heap}:∀ (ns:List Int) (vs:List Value),WellAll P h vs (ns.map WData.int)→IntsAre vs ns:=by
  intro ns
  induction ns with
  | nil=>
    intro vs w
    rw [List.map_nil] at w
    cases w
    exact .nil
  | cons n ns ih=>
    intro vs w
    rw [List.map_cons] at w
    cases w with
    | cons a b=>
      cases a
      exact .cons _ _ (ih _ b)
theorem script_of {l:OpenLaw} {n:Nat} (hn:l.most=some n) {P:Params} {h:Heap} {args:List WData} {vals:List Value}
    (hpre:l.row.toRowW.claim.pre args=true) (hwl:WellAll P h vals args) :
    ∃ a vs ns,vals=[Value.ref a]∧args=[WData.list (ns.map WData.int)]∧h.get? a=some { cls:=.type "list", data:=.seq vs.toArray }∧IntsAre vs ns∧ns.length≤n:=by
  have hsh:WShape.hasAll [] args [.list .int]=true:=(pre_splitW hpre).1
  have hc:l.pre.holds [] { args:=args }=true:=(pre_splitW hpre).2
  obtain ⟨d,r,rfl,h1,h2⟩:=hasAllW_cons hsh
  obtain rfl:=hasAllW_nil h2
  obtain ⟨xs,rfl,h3⟩:=hasW_list h1
  obtain ⟨ns,rfl⟩:=items_int h3
  have hlen:ns.length≤n:=by
    unfold OpenLaw.pre at hc
    have h4:(WTm.not (.lt (.lit (.int (n:Int))) (.len (.arg 0)))).holds [] { args:=[.list (ns.map .int)] }=true:=by
      have h4:=(holds_andW hc).1
      rw [hn] at h4
      exact h4
    have h5:=condW_of h4 (w_not (w_lt w_lit (w_len_list (w_arg rfl))))
    rw [List.length_map] at h5
    refine Nat.le_of_not_lt fun q=>?_
    have q':(n:Int) < ((ns.length:Nat):Int):=by omega
    first
      | (rw [decide_eq_true q'] at h5;exact absurd h5 (by decide))
      | (simp at h5;omega)
  cases hwl with
  | cons w1 w2=>
    cases w2
    cases w1 with
    | list ho hall=>exact ⟨_,_,ns,rfl,rfl,ho,ints_of_wellAll ns _ hall,hlen⟩
theorem post_true (l:OpenLaw) (args:List WData):l.row.toRowW.claim.post args (.bool true) args=true:=
  postW_of (r:=l.row.toRowW) (X:=(true == true))
    (show WShape.has [] (.bool true) .bool=true by first | rfl | decide | simp [WShape.has,WShape.arms,WShape.armsAll])
    (show (WTm.eq .res (.lit (.bool true))).value [] { args:=args,res:=some (.bool true),after:=args }=some (.bool (true == true)) from w_eq_bool (w_res rfl) w_lit) rfl
theorem attach_call {l:OpenLaw} {n:Nat} {q:Program} {loose:List Str} {XP:(Str→Option Value)→Heap→Prop} {YP:World→Heap→Prop} {d:DefRec}
    (hn:l.most=some n) (hdf:d.params.defaults=[])
    (call:∀ (w:World) (s₀ s₁:Shared) (mg mb:Str→Option Value) (fa:Addr) (o:Obj) (pm cd doc:Value) (a:Addr) (vs:List Value) (ns:List Int),
      Ground q loose [] XP w s₀ mg mb s₁.heap→YP w s₁.heap →
      s₁.heap.get? fa=some o→o.data=.func (docDef d.name d.params d.body d.scope pm cd doc)→s₁.heap.CodeRec cd d.name→mg d.name=some (.ref fa) →
      s₁.heap.get? a=some { cls:=.type "list", data:=.seq vs.toArray }→IntsAre vs ns→ns.length≤n→s₁.gens=#[] →
      codeAny (model l.prog w) callerA (.call (.ref fa) ⟨[.ref a],[]⟩) (fun r s'=>r=.ok (.ret (.bool true))∧OldK s₁.heap s'.heap∧s'.os=s₁.os∧AllBare s'.gens) s₁) :
    WalkO q loose XP YP l.row.toRowW d [] (fun f vs=>PySem.call f vs):=by
  intro w s₀ s₁ mg mb G Y fa o pm cd doc dV kV ho hd hcd hD hmg hg args vals as hpre hlay hrd hwl hlo
  obtain rfl:dV=.none:=Dflts.none hD hdf
  obtain rfl:kV=.none:=Dflts.noKw hD
  obtain ⟨a,vs,ns,rfl,rfl,hobj,hints,hlen⟩:=script_of hn hpre hwl
  refine enter_call (codeAny_mono (call w s₀ s₁ mg mb fa o pm cd doc a vs ns G Y ho (fd_plain hd) hcd hmg hobj hints hlen hg) fun r s' hq=>?_)
  obtain ⟨rfl,h2,h3,h4⟩:=hq
  exact ⟨.inl ⟨.bool true,.bool true,[],rfl,fun _=>rfl,.bool true,post_true l _,fun _=>⟨List.Pairwise.nil,fun _ hm=>(nomatch hm)⟩⟩,h2,h3,h4⟩
section
variable {prog:Program} {w:World} {A:Around} {E:Value→Shared→Prop} {s:Shared} {K:Frag}
def ledger (h:Heap) (L d:Addr):List (Addr × Obj):=(List.range h.objs.size).filterMap fun a=>if a=L∨a=d then none else (h.get? a).map fun o=>(a,o)
end
end Att
namespace L2
open PySem PySem.Spec PyProof.Rows
theorem vals_ints:∀ {vs:List Value} {ns:List Int},IntsAre vs ns→Vals (ns.map V.int) vs
  | _,_,.nil=>.nil
  | _,_,.cons n t h=>.cons ⟨t,rfl⟩ (vals_ints h)
def Only (H:Hp):Prop:=∀ b,H b=none∨∃ o xs,H b=some (.frz o (.lst xs))
theorem law_call {P:Program} {w:World} {K:PySem.W.Frag} {mg mb:Str→Option Value} {CX:CXT} {k:Nat} {fa a:Addr} {fd:FuncData} {x:Str} {sp:Sp} {s₁:Shared} {vs:List Value} {ns:List Int}
    (KX:K.In s₁.heap) (hns:s₁.heap.Ns mainGlobals mg) (hb:s₁.heap.Ns builtinsNs mb) (hbb:∀ x:Str,x ≠ "__name__" → mb x=bootBuiltins x) (hlim:s₁.heap.NoLimit) (hg:s₁.gens=#[])
    (ha:s₁.heap.get? a=some { cls:=.type "list", data:=.seq vs.toArray }) (hi:IntsAre vs ns) (hl:ns.length≤sizeLine) (hr:Room k callerA)
    (F:∀ base:Heap,K.In base→base.Ns mainGlobals mg→FnOk P w K mg base CX k fa fd [x] sp) (hbind:∀ (s:Shared) (u:Value),BindsTo s fd ⟨[u],[]⟩ [(x,u)])
    (hsp:∀ H:Hp,Only H→SqL K H a (ns.map V.int)→sp [.ref a] H (fun v _=>v=.bl true) fun _ _ _=>False)
    (hCX:∀ H e s',CX [] H s₁ (fun _ _ _=>False) e s'→False) :
    codeAny (model P w) callerA (.call (.ref fa) ⟨[.ref a],[]⟩) (fun r s'=>r=.ok (.ret (.bool true))∧OldK s₁.heap s'.heap∧s'.os=s₁.os∧AllBare s'.gens) s₁:=by
  have rv:=vals_ints hi
  have lenV:=hi.length
  have core:∀ H:Hp,Only H→SqL K H a (ns.map V.int)→HOk P w H s₁.heap→(∀ b,H b≠none→b=a)→(H a≠none→K.lookup a=none) →
      codeAny (model P w) callerA (.call (.ref fa) ⟨[.ref a],[]⟩) (fun r s'=>r=.ok (.ret (.bool true))∧OldK s₁.heap s'.heap∧s'.os=s₁.os∧AllBare s'.gens) s₁:=by
    intro H hO hS hok hA hK
    have base_of:∀ {b:Addr} {o:Obj},s₁.heap.get? b=some o→H b=none→(hidT s₁.heap H).get? b=some o:=fun e n=>hidT_get e n
    have noA:∀ {b:Addr} {o:Obj} {es:Array DictEntry} {ep:Nat},s₁.heap.get? b=some o→o.data=.dict es ep→H b=none:=fun {b o es ep} e d=>by
      cases q:H b with
      | none=>rfl
      | some u=>
        have e':b=a:=hA b (by rw [q];simp)
        subst e'
        rw [ha] at e;cases e
        have d':Data.seq vs.toArray _=Data.dict es ep:=d
        cases d'
    have nsK:∀ {b:Addr} {m:Str→Option Value},s₁.heap.Ns b m→(hidT s₁.heap H).Ns b m:=fun {b m} ⟨o,es,ep,e,d,r⟩=>⟨o,es,ep,base_of e (noA e d),d,r⟩
    have hKb:K.In (hidT s₁.heap H):=fun b o e=>base_of (KX b o e) (by
      cases q:H b with
      | none=>rfl
      | some u=>
        have e':b=a:=hA b (by rw [q];simp)
        subst e'
        rw [hK (by rw [q];simp)] at e;cases e)
    have hM:Mod K mg (hidT s₁.heap H):=⟨hKb,nsK hns,⟨mb,nsK hb,hbb⟩,let ⟨mc,h1,h2⟩:=hlim;⟨mc,nsK h1,h2⟩⟩
    have e0:Env0 P w K mg (hidT s₁.heap H) callerA [] s₁ H:=⟨rfl,hM,fun b o e=>of_hidT e,Nat.le_of_eq (hidT_size _ _),trivial,fun b hb=>absurd (show b∈([]:List Addr) from hb) (by simp),hok,.of_eq hg⟩
    refine codeAny_mono ((F _ hKb (nsK hns)).run callerA [] s₁ H ⟨[.ref a],[]⟩ [.ref a] [.ref a] _ _ hr e0 (hbind s₁ (.ref a)) (.cons rfl .nil) (hsp H hO hS)) fun r s' h=>?_
    cases r with
    | error e=>exact (hCX H e s' h).elim
    | ok fl=>
      cases fl with
      | next=>exact False.elim h
      | brk=>exact False.elim h
      | cont=>exact False.elim h
      | ret u=>
        obtain ⟨v,H',os,bare,un,hok',r',q⟩:=h
        have q':v=.bl true:=q
        subst q'
        obtain rfl:u=Value.bool true:=r'
        refine ⟨rfl,OldK.of_keep fun b o e=>?_,os,bare⟩
        cases q:H b with
        | none=>exact un.keep b o e q (by intro z;exact absurd (show b∈([]:List Addr) from z) (by simp)) (by simp)
        | some u=>
          rcases hO b with z | ⟨ob,xs,z⟩
          · rw [q] at z;cases z
          · have z2:=un.frzs b ob _ z
            obtain ⟨e1,_⟩:=hok b _ z
            obtain ⟨e2,_⟩:=hok' b _ z2
            rw [e] at e1;cases e1
            exact e2
  cases hk:K.lookup a with
  | some o=>
    have e:=KX a o hk
    rw [ha] at e
    cases e
    refine core (fun _=>none) (fun _=>.inl rfl) (.inr ⟨_,vs.toArray,_,hk,rfl,rfl,rfl,by rw [List.size_toArray,lenV];exact hl,by simpa using rv⟩) (fun b u z=>by have z':(none:Option HO)=some u:=z;cases z') (fun b z=>absurd rfl z) fun z=>absurd rfl z
  | none=>
    refine core (fun b=>if b=a then some (.frz { cls:=.type "list", data:=.seq vs.toArray } (.lst (ns.map V.int))) else none) (fun b=>?_) (.inl (.inr ⟨{ cls:=.type "list", data:=.seq vs.toArray },if_pos rfl⟩)) (fun b u z=>?_) (fun b z=>?_) fun _=>hk
    · by_cases hb:b=a
      · exact .inr ⟨_,_,if_pos hb⟩
      · exact .inl (if_neg hb)
    · by_cases hb:b=a
      · have z':=(if_pos hb).symm.trans z
        cases z'
        subst hb
        exact ⟨ha,by rw [List.length_map];exact hl,vs,_,rv,ha⟩
      · have z':=(if_neg hb).symm.trans z
        cases z'
    · by_cases hb:b=a
      · exact hb
      · exact absurd (if_neg hb) z
end L2
namespace L2
open PySem PySem.Spec PyProof.Rows
abbrev KOf {K:PySem.W.Frag} {h:Heap} (_:K.In h):PySem.W.Frag:=K
theorem walk_of {l:PySem.W.OpenLaw} {n k:Nat} {q:Program} {loose:List Str} {XP:(Str→Option Value)→Heap→Prop} {YP:World→Heap→Prop} {d:DefRec} {K:Params→PySem.W.Frag} {CX:World→CXT} {sp:World→Sp} {x:Str}
    (hn:l.most=some n) (hn2:n≤sizeLine) (hdf:d.params.defaults=[]) (hr:Room k callerA)
    (hY:∀ (w:World) (h:Heap),YP w h→(K w.params).In h)
    (F:∀ (w:World) (mg:Str→Option Value) (fa:Addr) (h:Heap),(K w.params).In h→h.Ns mainGlobals mg→mg d.name=some (.ref fa) →
      ∃ fd:FuncData,(∀ (s:Shared) (u:Value),BindsTo s fd ⟨[u],[]⟩ [(x,u)]) ∧
        ∀ base:Heap,(K w.params).In base→base.Ns mainGlobals mg→FnOk l.prog w (K w.params) mg base (CX w) k fa fd [x] (sp w))
    (hsp:∀ (w:World) (H:Hp) (a:Addr) (ns:List Int),ns.length≤n→Only H→SqL (K w.params) H a (ns.map V.int)→sp w [.ref a] H (fun v _=>v=.bl true) fun _ _ _=>False)
    (hCX:∀ (w:World) (H:Hp) (s:Shared) (e:Value) (s':Shared),CX w [] H s (fun _ _ _=>False) e s'→False) :
    PySem.W.WalkO q loose XP YP l.row.toRowW d [] (fun f vs=>PySem.call f vs):=by
  refine Att.attach_call hn hdf fun w s₀ s₁ mg mb fa o pm cd doc a vs ns G Y ho hd hcd hmg hobj hints hlen hg=>?_
  have KX:=hY w _ Y
  obtain ⟨fd,hb,hF⟩:=F w mg fa _ KX G.T.g hmg
  exact law_call KX G.T.g G.T.b G.T.builtins G.T.nolimit hg hobj hints (Nat.le_trans hlen hn2) hr hF hb (fun H hO hS=>hsp w H a ns hlen hO hS) fun H e s'=>hCX w H s₁ e s'
theorem walk_ofK {l:PySem.W.OpenLaw} {n k:Nat} {q:Program} {loose:List Str} {XP:(Str→Option Value)→Heap→Prop} {YP:World→Heap→Prop} {d:DefRec} {K:Params→PySem.W.Frag} {CX:CXT} {sp:PySem.W.Frag→Sp} {x:Str}
    (hn:l.most=some n) (hn2:n≤sizeLine) (hdf:d.params.defaults=[]) (hr:Room k callerA)
    (hY:∀ (w:World) (h:Heap),YP w h→(K w.params).In h)
    (F:∀ (w:World) (mg:Str→Option Value) (fa:Addr) (h:Heap),(K w.params).In h→h.Ns mainGlobals mg→mg d.name=some (.ref fa) →
      ∃ fd:FuncData,(∀ (s:Shared) (u:Value),BindsTo s fd ⟨[u],[]⟩ [(x,u)]) ∧
        ∀ base:Heap,(K w.params).In base→base.Ns mainGlobals mg→FnOk l.prog w (K w.params) mg base CX k fa fd [x] (sp (K w.params)))
    (hsp:∀ (K:PySem.W.Frag) (H:Hp) (a:Addr) (ns:List Int),ns.length≤n→Only H→SqL K H a (ns.map V.int)→sp K [.ref a] H (fun v _=>v=.bl true) fun _ _ _=>False)
    (hCX:∀ (H:Hp) (s:Shared) (e:Value) (s':Shared),CX [] H s (fun _ _ _=>False) e s'→False) :
    PySem.W.WalkO q loose XP YP l.row.toRowW d [] (fun f vs=>PySem.call f vs):=
  walk_of (K:=K) (CX:=fun _=>CX) (sp:=fun w=>sp (K w.params)) hn hn2 hdf hr hY F (fun w H a ns h1 h2 h3=>hsp (K w.params) H a ns h1 h2 h3) fun _ H s e s'=>hCX H s e s'
end L2
namespace L2
open PySem PySem.Spec PyProof.Rows
def defArgs (s:Stmt):Arguments:=match s with
  | .FunctionDef _ a _ _ _ _ _ _ _ _=>a
  | _=>{ posonlyargs:=[],args:=[],vararg:=none,kwonlyargs:=[],kw_defaults:=[],kwarg:=none,defaults:=[] }
def defBody (s:Stmt):List Stmt:=match s with
  | .FunctionDef _ _ b _ _ _ _ _ _ _=>b
  | _=>[]
def defScope (s:Stmt):Scope:=match s with
  | .FunctionDef _ _ _ _ _ _ sc _ _ _=>sc
  | _=>{ kind:=.function,names:=[],isGenerator:=false,isCoroutine:=false }
abbrev CX0:CXT:=fun _ _ _ _ _ _=>False
abbrev E0:XK:=fun _ _ _=>False
theorem pass0 {X:Cx}:Passes CX0 X E0:=fun _ _ _ _ _ _ _ h=>h.elim
structure Fun (K:PySem.W.Frag) (x qual:Str) (st:Stmt) (f:Addr) (fd:FuncData):Prop where
  ex:∃ (oc:Value) (od:Option Addr) (kV doc pm:Value) (an:Option Addr) (cdv ct:Value) (osl:Array (Option Value)),
    fd=PySem.W.fnOf x qual (defArgs st) (defBody st) (defScope st) .none kV doc pm an cdv ct∧K.lookup f=some ⟨oc,od,.func fd,osl⟩∧PySem.W.codeIn K cdv qual=true
  kp:PySem.W.keepIn K (.ref f)=true
section
variable {P:Program} {w:World} {K:PySem.W.Frag} {mg:Str→Option Value} {base:Heap}
theorem Fun.ok {x qual:Str} {st:Stmt} {f:Addr} {fd:FuncData} {N ps:List Str} {k:Nat} {sp:Sp} (F:Fun K x qual st f fd) (S:FnScope N ps (defScope st)) (len:∀ vs H Q E,sp vs H Q E→vs.length=ps.length)
    (hbody:∀ (cdv:Value) (A:Around) (outer:List Env) (s:Shared) (H:Hp) (vs:List V) (Q:VK) (E:XK),Room k (A.deeper (envOfC qual (defScope st) s.heap.objs.size f cdv))→sp vs H Q E →
      ∃ t,PSs (cxOf CX0 P w K mg base N qual (defScope st) f cdv A outer s H E).nox (defBody st) t∧t { nx:=fun _ H'=>Q .non H',rt:=Q } (start N vs) H):FnOk P w K mg base CX0 (k+1) f fd ps sp:=by
  obtain ⟨oc,od,kV,doc,pm,an,cdv,ct,osl,rfl,lk,hcd⟩:=F.ex
  refine fn_of lk hcd S len fun A outer s H vs Q E hr hsp=>?_
  obtain ⟨t,h,q⟩:=hbody cdv A outer s H vs Q E hr hsp
  exact ⟨t,h.nox,q⟩
theorem Fun.binds {x qual:Str} {st:Stmt} {f:Addr} {fd:FuncData} {ps:List Str} (F:Fun K x qual st f fd)
    (h:∀ (kV doc pm:Value) (an:Option Addr) (cdv ct:Value) (us:List Value),us.length=ps.length→bindArgs (PySem.W.fnOf x qual (defArgs st) (defBody st) (defScope st) .none kV doc pm an cdv ct) ⟨us,[]⟩=pure (ps.zip us)):Binds K fd ps []:=by
  obtain ⟨oc,od,kV,doc,pm,an,cdv,ct,osl,rfl,lk,hcd⟩:=F.ex
  exact .all (h kV doc pm an cdv ct)
theorem fun_mk {x qual:Str} {st:Stmt} {f:Addr} {oc:Value} {od an:Option Addr} {osl:Array (Option Value)} {kV doc pm cdv ct:Value} (l:K.lookup f=some ⟨oc,od,.func (PySem.W.fnOf x qual (defArgs st) (defBody st) (defScope st) .none kV doc pm an cdv ct),osl⟩)
    (c:PySem.W.codeIn K cdv qual=true) (k:PySem.W.keepIn K (.ref f)=true):Fun K x qual st f (PySem.W.fnOf x qual (defArgs st) (defBody st) (defScope st) .none kV doc pm an cdv ct):=⟨⟨oc,od,kV,doc,pm,an,cdv,ct,osl,rfl,l,c⟩,k⟩
end
theorem small1000 {n:Nat} (h:n≤1000):n < sizeLine:=Nat.lt_of_le_of_lt h (by decide)
section
variable {X:Cx}
theorem pv (i:Nat) {x:Str} {pos:Pos} (hN:X.N[i]?=some x:=by rfl) (hv:Vis X.env.scope x:=by first | exact Or.inl rfl | exact Or.inr (Or.inl rfl) | exact Or.inr (Or.inr rfl)) (hd:(x == ("__debug__" : Str))=false:=by decide)
    (hcd:(x == ("__classdict__" : Str))=false:=by decide):PE X (.Name x pos) (tVar i):=pe_var hN hv hd hcd
end
theorem iteF {A B:Prop} (h:B):if false=true then A else B:=by
  rw [if_neg Bool.false_ne_true]
  exact h
theorem iteT {A B:Prop} (h:A):if true=true then A else B:=by
  rw [if_pos rfl]
  exact h
theorem ite2 {c A B:Prop} [Decidable c] (h1:c→A) (h2:¬ c→B):if c then A else B:=by
  by_cases h:c
  · rw [if_pos h]
    exact h1 h
  · rw [if_neg h]
    exact h2 h
def Same (H H':Hp):Prop:=∀ b o,H b=some o→H' b=some o
theorem Same.refl (H:Hp):Same H H:=fun _ _ h=>h
theorem Same.trans {H H1 H2:Hp} (a:Same H H1) (b:Same H1 H2):Same H H2:=fun c o h=>b c o (a c o h)
theorem Same.free {H H':Hp} (e:Same H H') {l:Addr} (h:H' l=Option.none):H l=Option.none:=by
  cases q:H l with
  | none=>rfl
  | some o=>
    rw [e l o q] at h
    cases h
theorem Same.seq {K:PySem.W.Frag} {H H':Hp} {a:Addr} {xs:List V} (e:Same H H') (h:SqL K H a xs):SqL K H' a xs:=by
  rcases h with (h | ⟨o,h⟩) | h
  · exact .inl (.inl (e _ _ h))
  · exact .inl (.inr ⟨o,e _ _ h⟩)
  · exact .inr h
end L2
set_option maxHeartbeats 16000000
namespace L2
open PySem PySem.Spec PyProof.Rows
theorem lookup_mem {α:Type}:∀ {cl:List (Str × α)} {x:Str} {c:α},cl.lookup x=some c→(x,c)∈cl
  | [],_,_,h=>by simp at h
  | (y,d) :: r,x,c,h=>by
    rw [List.lookup_cons] at h
    cases e:x == y with
    | true=>
      rw [e] at h
      have e':x=y:=eq_of_beq e
      cases h
      rw [e'];exact List.mem_cons_self
    | false=>
      rw [e] at h
      exact List.mem_cons_of_mem _ (lookup_mem h)
theorem lookup_of_mem {α:Type}:∀ {cl:List (Str × α)} {x:Str} {c:α},(x,c)∈cl→∃ c',cl.lookup x=some c'
  | [],_,_,h=>nomatch h
  | (y,d) :: r,x,c,h=>by
    rw [List.lookup_cons]
    cases e:x == y with
    | true=>exact ⟨d,rfl⟩
    | false=>
      rcases List.mem_cons.mp h with h | h
      · cases h
        simp at e
      · exact lookup_of_mem h
theorem closure_go {env:Env} {f:(Str × NameKind)→List (Str × Addr)→Sem (ForInStep (List (Str × Addr)))}
    (h1:∀ x k cs,k≠NameKind.free→f (x,k) cs=pure (.yield cs)) (h2:∀ x cs c,env.cells.lookup x=some c→f (x,NameKind.free) cs=pure (.yield ((x,c) :: cs))) :
    ∀ (names:List (Str × NameKind)) (acc:List (Str × Addr)),(∀ x,(x,NameKind.free)∈names→∃ c,env.cells.lookup x=some c) →
      ∃ cl,forIn names acc f=pure cl∧(∀ p∈cl,p∈acc∨env.cells.lookup p.1=some p.2)∧(∀ p∈acc,p∈cl)∧∀ x,(x,NameKind.free)∈names→∃ c,(x,c)∈cl
  | [],acc,_=>⟨acc,rfl,fun _ h=>.inl h,fun _ h=>h,fun _ h=>nomatch h⟩
  | (x,k) :: r,acc,h=>by
    by_cases hk:k=NameKind.free
    · subst hk
      obtain ⟨c,hc⟩:=h x List.mem_cons_self
      obtain ⟨cl,e,a,b,d⟩:=closure_go h1 h2 r ((x,c) :: acc) fun y hy=>h y (List.mem_cons_of_mem _ hy)
      refine ⟨cl,?_,fun p hp=>?_,fun p hp=>b p (List.mem_cons_of_mem _ hp),fun y hy=>?_⟩
      · rw [List.forIn_cons,h2 x acc c hc,pure_bind];exact e
      · rcases a p hp with q | q
        · rcases List.mem_cons.mp q with q | q
          · subst q;exact .inr hc
          · exact .inl q
        · exact .inr q
      · rcases List.mem_cons.mp hy with q | q
        · cases q;exact ⟨c,b _ List.mem_cons_self⟩
        · exact d y q
    · obtain ⟨cl,e,a,b,d⟩:=closure_go h1 h2 r acc fun y hy=>h y (List.mem_cons_of_mem _ hy)
      refine ⟨cl,?_,a,b,fun y hy=>?_⟩
      · rw [List.forIn_cons,h1 x k acc hk,pure_bind];exact e
      · rcases List.mem_cons.mp hy with q | q
        · cases q;exact absurd rfl hk
        · exact d y q
theorem closure_ok {scope:Scope} {env:Env} (h:∀ x,(x,NameKind.free)∈scope.names→∃ c,env.cells.lookup x=some c) :
    ∃ cl,closureFor scope env=pure cl∧(∀ x c,cl.lookup x=some c→env.cells.lookup x=some c)∧∀ x,(x,NameKind.free)∈scope.names→∃ c,cl.lookup x=some c:=by
  have go:=closure_go (env:=env) (f:=fun x cs=>match x with | (name,kind)=>if (kind == NameKind.free)=true then do let a ← cellOf env name;pure (.yield ((name,a) :: cs)) else pure (.yield cs))
    (fun x k cs hk=>by
      have:(k == NameKind.free)=false:=by simpa using hk
      simp only [this,Bool.false_eq_true,if_false])
    (fun x cs c hc=>by
      simp only [beq_self_eq_true,if_true]
      unfold cellOf
      rw [hc,pure_bind])
    scope.names [] h
  obtain ⟨cl,e,a,_,d⟩:=go
  refine ⟨cl,?_,fun x c hx=>?_,fun x hx=>?_⟩
  · unfold closureFor
    simp only [bind_pure]
    exact e
  · rcases a _ (lookup_mem hx) with q | q
    · exact nomatch q
    · exact q
  · obtain ⟨c,hc⟩:=d x hx
    exact lookup_of_mem hc
theorem relabel_lookup {env:Env} {x:Str} {k:NameKind}:∀ {names:List (Str × NameKind)},
    (names.map fun (n,k)=>if (k == NameKind.free && env.scope.kind == .function && env.kindOf n == some .cell) then (n,NameKind.cell) else (n,k)).lookup x=some k →
      names.lookup x=some k∨(k=.cell∧names.lookup x=some .free)
  | [],h=>by simp at h
  | (n,j) :: r,h=>by
    have ih:=@relabel_lookup env x k r
    rw [List.lookup_cons]
    change List.lookup x ((if (j == NameKind.free && env.scope.kind == .function && env.kindOf n == some .cell)=true then (n,NameKind.cell) else (n,j)) :: _)=_ at h
    by_cases hc:(j == NameKind.free && env.scope.kind == .function && env.kindOf n == some .cell)=true
    · rw [if_pos hc,List.lookup_cons] at h
      have hj:j=NameKind.free:=by
        simp only [Bool.and_eq_true] at hc
        exact eq_of_beq hc.1.1
      cases hx:x == n with
      | true=>rw [hx] at h;cases h;exact .inr ⟨rfl,by rw [hj]⟩
      | false=>rw [hx] at h;exact ih h
    · rw [if_neg hc,List.lookup_cons] at h
      cases hx:x == n with
      | true=>rw [hx] at h;exact .inl h
      | false=>rw [hx] at h;exact ih h
def cxComp (X:Cx) (scope:Scope) (NL:List Str) (ix:List Nat) (cl:List (Str × Addr)) (C:Addr) (s₃:Shared) (H₃:Hp) (fp:List Addr) (pins:List (Addr × Obj)):Cx where
  prog:=X.prog
  w:=X.w
  K:=X.K
  mg:=X.mg
  base:=X.base
  A:=X.A
  N:=NL++ix.map fun j=>X.N.getD j ""
  s₀:=s₃
  H₀:=H₃
  env:=compEnvC scope cl C X.env
  outer:=X.stack
  stack:=X.stack
  ex:=fp
  fn:=fun _=>false
  calm:=X.calm
  pn:=X.pn++pins
  xe:=fun _ _=>False
def comp0 (NL:List Str) (ix:List Nat) (σ:St):St:=NL.map (fun _=>none)++ix.map fun j=>σ.getD j none
def PIfs (X:Cx) (ifs:List Expr) (t:TT):Prop:=
  ∀ (pins:List (Addr × Obj)) (s:Shared) (σ:St) (H:Hp) (Q:Bool→Hp→Prop),Inv X pins σ H s→t σ H Q →
    wpAny (model X.prog X.w) X.A (forIn ifs true fun c r=>if r=true then do let ok ← isTrue c X.env (eval c X.env);pure (ForInStep.yield ok) else pure (ForInStep.yield r)) (TP X pins σ Q) X.xe s
def tYes:TT:=fun _ H Q=>Q true H
theorem pifs_nil {X:Cx}:PIfs X [] tYes:=fun _ _ _ H _ I h=>wpAny_tests_nil ⟨H,I,h⟩
theorem pifs_one {X:Cx} {c:Expr} {t:TT} (h:PT X c t):PIfs X [c] t:=fun pins s σ H Q I q=>wpAny_tests_one (h pins s σ H Q I q)
def tComp (NL:List Str) (ix:List Nat) (wi:TI) (g:TG) (tt:TT) (te:TE):TE:=fun σ H Q=>
  wi σ H fun J H1=>∀ acc,H1 acc=none→∃ W:Nat→Nat→List V→Hp→Prop,(∃ m,W 0 m [] (upd H1 acc (.lst []))) ∧
    ∀ i m ys H2,W i m ys H2→H2 acc=some (.lst ys)∧ys.length < sizeLine ∧
      ((J.stop i H2∧Q (.ref acc) H2)∨(J.go i H2∧∃ N:List V→Hp→Prop,(∀ ys' H',N ys' H'→∃ m',m' < m∧W (i+1) m' ys' H') ∧
        ∀ x H3,J.yld i H2 x H3→g x (comp0 NL ix σ) H3 fun σ' H4=>σ'.drop NL.length=ix.map (fun j=>σ.getD j none)∧tt σ' H4 fun b H5=>
          if b=true then te σ' H5 fun v H6=>H6 acc=some (.lst ys)∧N (ys++[v]) (upd H6 acc (.lst (ys++[v]))) else N ys H5))
section
variable {X:Cx} {pins:List (Addr × Obj)} {σ:St} {H:Hp} {s:Shared}
structure CompScope (X:Cx) (scope:Scope) (NL:List Str) (ix:List Nat):Prop where
  kind:scope.kind=.function
  cell:∀ y∈scope.names,y.2≠.cell
  names:∀ y∈scope.names,y.2=.local→scope.names.lookup y.1=some .local
  free:∀ y∈scope.names,y.2=.free→X.env.kindOf y.1=some .cell∨X.env.kindOf y.1=some .free
  cap:∀ j∈ix,∃ x,X.N[j]?=some x∧scope.names.lookup x=some .free
theorem comp_inv {scope:Scope} {NL:List Str} {ix:List Nat} {cl:List (Str × Addr)} {fp:List Addr} {tn:Nat→Heap→Prop} {s₃:Shared} {h₁:Heap} {m:Str→Option Value} {tk:Nat}
    (S:CompScope X scope NL ix) (I:Inv X pins σ H s₃) (c1:∀ x c,cl.lookup x=some c→X.env.cells.lookup x=some c) (c2:∀ x,(x,NameKind.free)∈scope.names→∃ c,cl.lookup x=some c)
    (hf:∀ b∈fp,FpOk X pins H b) (ho:∀ b∈fp,∃ o,s₃.heap.get? b=some o) (hn:h₁.Ns s₃.heap.objs.size m) (old:∀ b o,s₃.heap.get? b=some o→h₁.get? b=some o) :
    Inv (cxComp X scope NL ix cl s₃.heap.objs.size s₃ H fp pins) [] (comp0 NL ix σ) H { s₃ with heap:=h₁,toks:=tk }:=by
  have e0:=I.env0
  have lt:∀ b o,s₃.heap.get? b=some o→b≠s₃.heap.objs.size:=fun b o e=>Nat.ne_of_lt (Heap.lt_size e)
  have nst:∀ b,b≠X.env.locals→b ∉ X.fs→b ∉ frs X.stack:=fun b h1 h2 h3=>(List.mem_cons.mp (I.stkSub b h3)).elim h1 h2
  have ok:(cxComp X scope NL ix cl s₃.heap.objs.size s₃ H fp pins).Ok:=
    { mod:=I.ok.mod
      kind:=S.kind
      glob:=I.ok.glob
      blt:=I.ok.blt
      above:=Nat.le_refl _
      inj:=fun x y c h1 h2=>I.ok.inj x y c (c1 x c h1) (c1 y c h2)
      has:=fun x hx=>by
        have hfree:scope.names.lookup x=some .free:=by
          rcases hx with hx | hx
          · rcases relabel_lookup hx with q | ⟨_,q⟩
            · exact absurd rfl (S.cell _ (lookup_mem q))
            · exact q
          · rcases relabel_lookup hx with q | ⟨z,_⟩
            · exact q
            · cases z
        exact c2 x (lookup_mem hfree)
      cab:=fun _ _ z=>nomatch z
      hd:=I.ok.hd
      frames:=I.ok.frames
      stk:=.inl rfl
      exf:=fun b hb=>⟨let ⟨o,e⟩:=ho b hb;lt b o e,fun x c hx=>(hf b hb).2.2.2.2.1 x c (c1 x c hx)⟩
      bs:=I.bs
      bsz:=e0.bsz
      noex:=fun b o e hb=>by
        rcases (hf b hb).2.2.2.1 with z | z
        · exact I.ok.noex b o e z
        · exact absurd (Nat.lt_of_lt_of_le (Heap.lt_size e) (Nat.le_trans I.ok.bsz z)) (Nat.lt_irrefl _)
      exfs:=fun b hb=>nst b (hf b hb).2.1 (hf b hb).2.2.1
      funs:=e0.funs
      frf:=e0.frf }
  refine ⟨ok,rfl,I.bare,Un.kept old,⟨m,hn,fun i x v e1 e2 e3=>?_⟩,fun x c e=>?_,I.hok.fresh (Nat.le_refl _),fun x c e=>I.freeC x c (c1 x c e),fun p hp=>?_,I.hok.kept old,?_⟩
  · have hl:NL.length≤i:=by
      rcases Nat.lt_or_ge i NL.length with z | z
      · exfalso
        unfold comp0 at e2
        rw [List.getElem?_append_left (by simpa using z),List.getElem?_map] at e2
        cases q:NL[i]? with
        | none=>rw [q] at e2;cases e2
        | some y=>rw [q] at e2;cases e2
      · exact z
    unfold comp0 at e2
    rw [List.getElem?_append_right (by simpa using hl),List.length_map,List.getElem?_map] at e2
    change (NL++ix.map fun j=>X.N.getD j "")[i]?=some x at e1
    rw [List.getElem?_append_right hl,List.getElem?_map] at e1
    cases q:ix[i - NL.length]? with
    | none=>rw [q] at e1;cases e1
    | some j=>
      rw [q] at e1 e2
      have e1':X.N.getD j "" = x:=Option.some.inj e1
      have e2':σ.getD j none=some v:=Option.some.inj e2
      obtain ⟨x',hx',hfr⟩:=S.cap j (List.mem_of_getElem? q)
      have exx:x'=x:=by
        rw [← e1',List.getD_eq_getElem?_getD,hx'];rfl
      subst exx
      have hσ:σ[j]?=some (some v):=by
        rw [List.getD_eq_getElem?_getD] at e2'
        cases z:σ[j]? with
        | none=>rw [z] at e2';cases e2'
        | some o=>rw [z] at e2';exact congrArg some e2'
      have kd:=S.free _ (lookup_mem hfr) rfl
      have vis:Vis X.env.scope x':=by
        rcases kd with z | z
        · exact .inr (.inl z)
        · exact .inr (.inr z)
      obtain ⟨m',hn',hl'⟩:=I.loc
      obtain ⟨u,r,l⟩:=hl' j x' v hx' hσ vis
      refine ⟨u,r,.inr ?_⟩
      have hk':(compEnvC scope cl s₃.heap.objs.size X.env).kindOf x'=some .cell∨(compEnvC scope cl s₃.heap.objs.size X.env).kindOf x'=some .free:=by
        rcases e3 with z | z | z
        · rcases relabel_lookup z with w | ⟨w,_⟩
          · rw [hfr] at w;cases w
          · cases w
        · exact .inl z
        · exact .inr z
      refine ⟨hk',?_⟩
      obtain ⟨c,hc⟩:=c2 x' (lookup_mem hfr)
      rcases l with ⟨k,_⟩ | ⟨k,c',ec,o,ho',hd⟩
      · rcases kd with z | z
        · rw [k] at z;cases z
        · rw [k] at z;cases z
      · have:c'=c:=by
          have:=c1 x' c hc
          rw [ec] at this
          exact Option.some.inj this
        subst this
        exact ⟨c',hc,o,old _ _ ho',hd⟩
  · obtain ⟨v,o,ho',hd⟩:=I.cell x c (c1 x c e)
    exact ⟨v,o,old _ _ ho',hd⟩
  · have hp':p∈X.pn++pins:=by
      rcases List.mem_append.mp hp with z | z
      · exact z
      · exact nomatch z
    obtain ⟨e,n,ne,nf,d⟩:=I.pin p hp'
    exact ⟨old _ _ e,n,lt _ _ e,nst _ ne nf,d⟩
  · show (NL.map (fun _=>(none:Option V))++ix.map fun j=>σ.getD j none).length=(NL++ix.map fun j=>X.N.getD j "").length
    simp
theorem comp_run {scope:Scope} {NL:List Str} {ix:List Nat} {elt tg iter:Expr} {ifs:List Expr} {pos:Pos} {g:TG} {tt:TT} {te:TE} {cl:List (Str × Addr)} {fp:List Addr} {it:Addr} {tn:Nat→Heap→Prop} {J:It} {Q:VK}
    {E:Value→Shared→Prop} {RR:Value→Addr→Result→Shared→Prop}
    (hc:X.calm=true) (S:CompScope X scope NL ix) (c1:∀ x c,cl.lookup x=some c→X.env.cells.lookup x=some c) (c2:∀ x,(x,NameKind.free)∈scope.names→∃ c,cl.lookup x=some c)
    (hb:∀ (cl:List (Str × Addr)) (C:Addr) (s₃:Shared) (H₃:Hp) (fp:List Addr) (pins:List (Addr × Obj)),PG (cxComp X scope NL ix cl C s₃ H₃ fp pins) tg g∧PIfs (cxComp X scope NL ix cl C s₃ H₃ fp pins) ifs tt∧PE (cxComp X scope NL ix cl C s₃ H₃ fp pins) elt te)
    (I:Inv X pins σ H s) (T:Turn X.prog X.w X.K tg J fp it tn) (st:tn 0 s.heap) (hf:∀ b∈fp,FpOk X pins H b)
    (q:∀ acc,H acc=none→∃ W:Nat→Nat→List V→Hp→Prop,(∃ m,W 0 m [] (upd H acc (.lst []))) ∧
      ∀ i m ys H2,W i m ys H2→H2 acc=some (.lst ys)∧ys.length < sizeLine ∧
      ((J.stop i H2∧Q (.ref acc) H2)∨(J.go i H2∧∃ N:List V→Hp→Prop,(∀ ys' H',N ys' H'→∃ m',m' < m∧W (i+1) m' ys' H') ∧
        ∀ x H3,J.yld i H2 x H3→g x (comp0 NL ix σ) H3 fun σ' H4=>σ'.drop NL.length=ix.map (fun j=>σ.getD j none)∧tt σ' H4 fun b H5=>
          if b=true then te σ' H5 fun v H6=>H6 acc=some (.lst ys)∧N (ys++[v]) (upd H6 acc (.lst (ys++[v]))) else N ys H5)))
    (hRR:∀ (acc C:Addr) (H':Hp) (s':Shared) (m':Str→Option Value),Inv X pins σ H' s'→s'.heap.Ns C m'→FpOk X pins H' C→Q (.ref acc) H'→RR (.ref acc) C (.ok .next) s') :
    wpAny (model X.prog X.w) X.A (newList []) (fun acc s₃=>wpAny (model X.prog X.w) X.A (newFunctionEnv scope X.env.globals cl [] X.env.qual none .none (some X.env)) (fun cenv s₄=>
      codeAny (model X.prog X.w) X.A (.compStart (.ListComp elt [⟨tg,iter,ifs,0⟩] scope pos) 0 (.ref it) acc { cenv with scope:=relabel scope X.env }) (RR acc cenv.locals) s₄) E s₃) E s:=by
  refine wpAny_newObj_type (wpAny_newFunctionEnv S.cell (by intro y hy;simp at hy) (fun h₁ hns₁ hsb₁=>?_) S.kind)
  have I3:Inv X pins σ (upd H s.heap.objs.size (.lst [])) { s with heap:=s.heap.push { cls:=.type "list", data:=.seq ([]:List Value).toArray },toks:=s.toks }:=I.lnew (its:=[]) .nil (Nat.zero_le _)
  have hfr:H s.heap.objs.size=none:=I.hok.fresh (Nat.le_refl _)
  generalize hs3:({ s with heap:=s.heap.push { cls:=.type "list", data:=.seq ([]:List Value).toArray },toks:=s.toks }:Shared)=s₃ at I3
  have hsz:s₃.heap.objs.size=s.heap.objs.size+1:=by rw [← hs3];exact Heap.size_push ..
  have old1:∀ b o,s.heap.get? b=some o→s₃.heap.get? b=some o:=fun b o e=>by rw [← hs3];exact Heap.get?_push_of_some _ e
  have key:codeAny (model X.prog X.w) X.A (.compStart (.ListComp elt [⟨tg,iter,ifs,0⟩] scope pos) 0 (.ref it) (.ref s.heap.objs.size) (compEnvC scope cl s₃.heap.objs.size X.env))
      (RR (.ref s.heap.objs.size) s₃.heap.objs.size) { s₃ with heap:=h₁,toks:=s₃.toks+0 }:=by
    have hns:h₁.Ns s₃.heap.objs.size (fun _=>none):=by
      have:=hns₁
      rw [← hs3]
      exact this
    have hsb:Heap.SameBut s₃.heap.objs.size (s₃.heap.push { cls:=.type "dict", data:=.dict #[] }) h₁:=by
      have:=hsb₁
      rw [← hs3]
      exact this
    have old:∀ b o,s₃.heap.get? b=some o→h₁.get? b=some o:=fun b o e=>hsb.extBut b o (Nat.ne_of_lt (Heap.lt_size e)) (Heap.get?_push_of_some _ e)
    have hf3:∀ b∈fp,FpOk X pins (upd H s.heap.objs.size (.lst [])) b:=fun b hb'=>by
      obtain ⟨o,e,_⟩:=T.obj 0 _ st b hb'
      have ne:b≠s.heap.objs.size:=Nat.ne_of_lt (Heap.lt_size e)
      exact ⟨by rw [upd_ne ne];exact (hf b hb').1,(hf b hb').2⟩
    have ho3:∀ b∈fp,∃ o,s₃.heap.get? b=some o:=fun b hb'=>by
      obtain ⟨o,e,_⟩:=T.obj 0 _ st b hb'
      exact ⟨o,old1 b o e⟩
    have st1:tn 0 h₁:=T.keep 0 _ _ st fun b hb' o e=>old b o (old1 b o e)
    have I4:=comp_inv (tn:=tn) (tk:=s₃.toks+0) S I3 c1 c2 hf3 ho3 hns old
    obtain ⟨W,⟨m0,w0⟩,turn⟩:=q s.heap.objs.size hfr
    obtain ⟨hg,ht,he⟩:=hb cl s₃.heap.objs.size s₃ (upd H s.heap.objs.size (.lst [])) fp pins
    generalize hX':cxComp X scope NL ix cl s₃.heap.objs.size s₃ (upd H s.heap.objs.size (.lst [])) fp pins=X' at I4 hg ht he
    have p1:X'.prog=X.prog:=by rw [← hX'];rfl
    have p2:X'.w=X.w:=by rw [← hX'];rfl
    have p3:X'.K=X.K:=by rw [← hX'];rfl
    have p4:X'.A=X.A:=by rw [← hX'];rfl
    have p5:X'.env=compEnvC scope cl s₃.heap.objs.size X.env:=by rw [← hX'];rfl
    have p6:X'.calm=true:=by rw [← hX'];exact hc
    have p7:X'.xe=fun _ _=>False:=by rw [← hX'];rfl
    have stat:∀ {H':Hp},(∀ b∈fp,H' b=none)→∀ b∈fp,FpOk X' [] H' b:=fun {H'} hn b hb'=>by
      have z:=hf3 b hb'
      obtain ⟨o,eo⟩:=ho3 b hb'
      rw [← hX']
      refine ⟨hn b hb',Nat.ne_of_lt (Heap.lt_size eo),fun q=>(List.mem_cons.mp (I3.stkSub b q)).elim z.2.1 z.2.2.1,.inl hb',fun x c hx=>z.2.2.2.2.1 x c (c1 x c hx),fun p hp=>?_⟩
      rcases List.mem_append.mp hp with w | w
      · exact z.2.2.2.2.2 p w
      · exact nomatch w
    have fin:∀ i n ys H' s',Inv X' [] (comp0 NL ix σ) H' s'→W i n ys H'→Q (.ref s.heap.objs.size) H'→RR (.ref s.heap.objs.size) s₃.heap.objs.size (.ok .next) s':=fun i n ys H' s' I' w' q'=>by
      obtain ⟨m',hn',_⟩:=I'.loc
      have hos:s'.os=s₃.os:=by have:=I'.os;rw [← hX'] at this;exact this
      have hu:Un (frs X.stack) fp (upd H s.heap.objs.size (.lst [])) H' s₃.heap s'.heap:=by have:=I'.base;rw [← hX'] at this;exact this
      have hk:HOk X.prog X.w H' s'.heap:=by have:=I'.hok;rw [← hX'] at this;exact this
      have hfC:H' s₃.heap.objs.size=none:=by have:=I'.free;rw [← hX'] at this;exact this
      have hnC:s'.heap.Ns s₃.heap.objs.size m':=by rw [p5] at hn';exact hn'
      exact hRR _ _ H' s' m' (I3.call' hos hu hk I'.bare fun b hb'=>⟨(hf3 b hb').2.2.2.1,(hf3 b hb').2.1,(hf3 b hb').2.2.2.2.1,(hf3 b hb').2.2.2.2.2⟩) hnC (I3.fpOk (Nat.le_refl _) hfC) q'
    have loop:∀ s₄:Shared,Inv X' [] (comp0 NL ix σ) (upd H s.heap.objs.size (.lst [])) s₄→tn 0 s₄.heap→codeAny (model X.prog X.w) X.A (.compLoop (.ListComp elt [⟨tg,iter,ifs,0⟩] scope pos) 0 (.ref it) (.ref s.heap.objs.size) (compEnvC scope cl s₃.heap.objs.size X.env))
        (RR (.ref s.heap.objs.size) s₃.heap.objs.size) s₄:=fun s₄ I4 st1=>by
      refine codeAny_loop rfl (fun n s'=>∃ i ys H',Inv X' [] (comp0 NL ix σ) H' s'∧tn i s'.heap∧(∀ b∈fp,H' b=none)∧W i n ys H') (fun n s' hI=>?_) m0 ⟨0,[],_,I4,st1,fun b hb'=>(hf3 b hb').1,w0⟩
      obtain ⟨i,ys,H',I',st',fr',w'⟩:=hI
      show wpAny _ X.A ((compTurn (.ListComp elt [⟨tg,iter,ifs,0⟩] scope pos) 0 (.ref it) (.ref s.heap.objs.size) (compEnvC scope cl s₃.heap.objs.size X.env)).onRaise (fun x=>do noteFrame x (compEnvC scope cl s₃.heap.objs.size X.env);theTreesLotGoes x)) _ _ s'
      refine wpAny_noted ?_
      rw [compTurn_list]
      obtain ⟨hacc,hz8,alt⟩:=turn i n ys H' w'
      rcases alt with ⟨stop,qn⟩ | ⟨go,N,hN,step⟩
      · have d:=T.done X' p1 p2 p3 p6 i [] s' (comp0 NL ix σ) H' (notedBy (model X.prog X.w) X.A (compEnvC scope cl s₃.heap.objs.size X.env) fun e s'=>RR (.ref s.heap.objs.size) s₃.heap.objs.size (.error e) s') I' (stat fr') st' stop
        rw [p4] at d
        refine wpAny_bind (wpAny_standAt (wpAny_bind (thn d fun r s1 ⟨hr,I1⟩=>?_)))
        subst hr
        exact wpAny_pure (fin i n ys H' s1 I1 w' qn)
      · have d:=T.item X' p1 p2 p3 p6 i [] s' (comp0 NL ix σ) H' (notedBy (model X.prog X.w) X.A (compEnvC scope cl s₃.heap.objs.size X.env) fun e s'=>RR (.ref s.heap.objs.size) s₃.heap.objs.size (.error e) s') I' (stat fr') st' go
        rw [p4] at d
        refine wpAny_bind (wpAny_standAt (wpAny_bind (thn d fun r s1 ⟨u,hr,h4⟩=>?_)))
        subst hr
        refine wpAny_bind (thn h4 fun _ s5 ⟨x,H5,I5,r5,y5,st5,fr5⟩=>?_)
        have I5':=I5.pinned (stat fr5) (T.obj _ _ st5)
        have nofail:∀ {α:Type} {t:Sem α} {R:α→Shared→Prop} {sx:Shared},wpAny (model X'.prog X'.w) X'.A t R X'.xe sx→wpAny (model X.prog X.w) X.A t R (notedBy (model X.prog X.w) X.A (compEnvC scope cl s₃.heap.objs.size X.env) fun e s'=>RR (.ref s.heap.objs.size) s₃.heap.objs.size (.error e) s') sx:=fun {α t R sx} hh=>by
          rw [p1,p2,p4,p7] at hh
          exact wpAny_mono hh (fun _ _ z=>z) fun _ _ z=>z.elim
        have again:∀ {σ7:St} {H7:Hp} {s7:Shared} {ys':List V},σ7.drop NL.length=ix.map (fun j=>σ.getD j none)→Inv X' ([]++pinsAt fp s5.heap) σ7 H7 s7→(∃ m',m' < n∧W (i+1) m' ys' H7)→∃ m,m < n∧∃ i ys H',Inv X' [] (comp0 NL ix σ) H' s7∧tn i s7.heap∧(∀ b∈fp,H' b=none)∧W i m ys H':=fun {σ7 H7 s7 ys'} hσ I7 n7=>by
          obtain ⟨m',hm,w7⟩:=n7
          have Iw:Inv X' ([]++pinsAt fp s5.heap) (comp0 NL ix σ) H7 s7:=I7.weak (by rw [I7.len,I'.len]) fun j v hj=>by
            have hlj:NL.length≤j:=by
              rcases Nat.lt_or_ge j NL.length with z | z
              · exfalso
                unfold comp0 at hj
                rw [List.getElem?_append_left (by simpa using z),List.getElem?_map] at hj
                cases q:NL[j]? with
                | none=>rw [q] at hj;cases hj
                | some y=>rw [q] at hj;cases hj
              · exact z
            unfold comp0 at hj
            rw [List.getElem?_append_right (by simpa using hlj),List.length_map,← hσ,List.getElem?_drop] at hj
            rw [← hj]
            congr 1
            omega
          refine ⟨m',hm,i+1,ys',H7,Iw.unpinned,T.keep _ _ _ st5 fun b hb' o e=>(I7.pin (b,o) (List.mem_append_right _ (List.mem_append_right _ (mem_pinsAt hb' e)))).1,fun b hb'=>?_,w7⟩
          obtain ⟨o,e,d⟩:=T.obj _ _ st5 b hb'
          exact (I7.pin (b,o) (List.mem_append_right _ (List.mem_append_right _ (mem_pinsAt hb' e)))).2.1
        have hg':=nofail (hg _ s5 (comp0 NL ix σ) H5 x u _ I5' r5 (step x H5 y5))
        rw [p5] at hg'
        refine wpAny_bind (thn hg' fun _ s6 ⟨σ6,H6,I6,hσ6,q6⟩=>?_)
        have ht':=nofail (ht _ s6 σ6 H6 _ I6 q6)
        rw [p5] at ht'
        refine wpAny_bind (thn ht' fun ok s7 ⟨H7,I7,q7⟩=>?_)
        cases ok with
        | false=>
          have q7':N ys H7:=by simpa using q7
          exact wpAny_pure ⟨rfl,again hσ6 I7 (hN _ _ q7')⟩
        | true=>
          have q7':=(if_pos rfl).mp q7
          have he':=nofail (he _ s7 σ6 H7 _ I7 q7')
          rw [p5] at he'
          refine wpAny_bind (wpAny_bind (thn he' fun v s8 ⟨y,H8,I8,r8,ha8,q8⟩=>?_))
          have ap:=nofail (mt_append _ s8 σ6 H8 (.ref s.heap.objs.size) [y] (.ref s.heap.objs.size) [v] (fun _ H9=>H9=upd H8 s.heap.objs.size (.lst (ys++[y]))) I8 rfl (.cons r8 .nil) ⟨_,ys,y,rfl,rfl,ha8,hz8,rfl⟩)
          refine wpAny_bind (thn ap fun _ s9 ⟨z,H9,I9,r9,e9⟩=>wpAny_pure (wpAny_pure ⟨rfl,?_⟩))
          subst e9
          exact again hσ6 I9 (hN _ _ q8)
    exact codeAny_compStart_list (loop _ I4 st1) (T.self X.A 0 _ _ _ st1 (loop _ I4 st1))
  exact key
theorem pe_comp {scope:Scope} {NL:List Str} {ix:List Nat} {elt tg iter:Expr} {ifs:List Expr} {pos:Pos} {wi:TI} {g:TG} {tt:TT} {te:TE}
    (hc:X.calm=true) (hi:PI X tg iter wi) (S:CompScope X scope NL ix)
    (hb:∀ (cl:List (Str × Addr)) (C:Addr) (s₃:Shared) (H₃:Hp) (fp:List Addr) (pins:List (Addr × Obj)),PG (cxComp X scope NL ix cl C s₃ H₃ fp pins) tg g∧PIfs (cxComp X scope NL ix cl C s₃ H₃ fp pins) ifs tt∧PE (cxComp X scope NL ix cl C s₃ H₃ fp pins) elt te)
    (hs:∀ x,foldedSetIterable iter X.env x=pure x:=by intro _;rfl):PE X (.ListComp elt [⟨tg,iter,ifs,0⟩] scope pos) (tComp NL ix wi g tt te):=by
  intro pins s σ H Q I h
  obtain ⟨cl,hcl,c1,c2⟩:=closure_ok (scope:=scope) (env:=X.env) fun x hx=>by
    rcases S.free _ hx rfl with z | z
    · exact I.ok.has x (.inl z)
    · exact I.ok.has x (.inr z)
  rw [eval_ListComp]
  refine wpAny_comprehension_free (use:=none) rfl hs hcl S.kind S.names (thn (hi pins s σ H _ I h) fun xv s1 h1=>thn h1 fun itv s2 h2=>?_)
  obtain ⟨it,fp,tn,J,H2,rfl,I2,T,st2,f2,q⟩:=h2
  refine comp_run (RR:=fun acc C=>compPost (model X.prog X.w) X.A X.xe none (EP X pins σ Q) acc C) hc S c1 c2 hb I2 T st2 f2 q ?_
  intro acc C H' s' m' I' hn fC q'
  refine ⟨m',hn,fun h' sb=>⟨.ref acc,H',?_,rfl,q'⟩⟩
  exact I'.turned (t':=s'.toks) (fun b o hb e=>sb.extBut b o hb e) fC.1 fC.2.1 fC.2.2.2.1 fC.2.2.2.2.1 fC.2.2.2.2.2
theorem ps_comp {i:Nat} {y:Str} {py spos:Pos} {scope:Scope} {NL:List Str} {ix:List Nat} {elt tg iter:Expr} {ifs:List Expr} {pos:Pos} {wi:TI} {g:TG} {tt:TT} {te:TE}
    (hN:X.N.Nodup) (hiy:X.N[i]?=some y) (hy:Loc X.env.scope y)
    (hc:X.calm=true) (hi:PI X tg iter wi) (S:CompScope X scope NL ix)
    (hb:∀ (cl:List (Str × Addr)) (C:Addr) (s₃:Shared) (H₃:Hp) (fp:List Addr) (pins:List (Addr × Obj)),PG (cxComp X scope NL ix cl C s₃ H₃ fp pins) tg g∧PIfs (cxComp X scope NL ix cl C s₃ H₃ fp pins) ifs tt∧PE (cxComp X scope NL ix cl C s₃ H₃ fp pins) elt te)
    (hsw:swapsWith (.ListComp elt [⟨tg,iter,ifs,0⟩] scope pos) (some (.Name y py)) spos.line X.env=pure true:=by rfl)
    (hs:∀ x,foldedSetIterable iter X.env x=pure x:=by intro _;rfl)
    (hf:X.fn y=true∨X.env.scope.names.lookup y=some .local:=by first | exact .inl rfl | exact .inr rfl | assumption) :
    PS X (.Assign [.Name y py] (.ListComp elt [⟨tg,iter,ifs,0⟩] scope pos) spos) (tAsg (tComp NL ix wi g tt te) (gName i)):=by
  intro pins s σ H D I h
  obtain ⟨cl,hcl,c1,c2⟩:=closure_ok (scope:=scope) (env:=X.env) fun x hx=>by
    rcases S.free _ hx rfl with z | z
    · exact I.ok.has x (.inl z)
    · exact I.ok.has x (.inr z)
  rw [exec_Assign_Name_used _ _ _ _ hsw]
  refine wpAny_bind (wpAny_standAt (wpAny_bind ?_))
  show wpAny _ X.A (do let _ ← comprehension (.ListComp elt [⟨tg,iter,ifs,0⟩] scope pos) scope X.env _ (newList []) false (eval iter X.env) (some (assign (.Name y py) X.env))) _ _ s
  refine wpAny_bind (thn (wpAny_comprehension_free (use:=some (assign (.Name y py) X.env)) (Q:=fun _ s'=>SP X pins D .next s') rfl hs hcl S.kind S.names
    (thn (hi pins s σ H _ I h) fun xv s1 h1=>thn h1 fun itv s2 h2=>?_)) fun _ s' hq=>wpAny_pure (wpAny_pure hq))
  obtain ⟨it,fp,tn,J,H2,rfl,I2,T,st2,f2,q⟩:=h2
  refine comp_run (RR:=fun acc C=>compPost (model X.prog X.w) X.A X.xe (some (assign (.Name y py) X.env)) (fun _ s'=>SP X pins D .next s') acc C) (Q:=fun x H1=>gName i x σ H1 D.nx) hc S c1 c2 hb I2 T st2 f2 q ?_
  intro acc C H' s' m' I' hn fC q'
  show wpAny _ X.A (assign (.Name y py) X.env (.ref acc)) _ _ _
  refine wpAny_assign_Name (store_ok2 I' hN hiy hy (v:=.ref acc) rfl (fun s'' I'' hsb=>?_) hf)
  obtain ⟨a,sb,ha⟩:=hsb
  have hne:C≠a:=by
    rcases ha with z | z
    · rw [z];exact fC.2.1
    · exact fun w=>fC.2.2.2.2.1 y a z w.symm
  refine ⟨m',hn.sameBut sb hne,fun h' sb'=>⟨_,H',?_,q'⟩⟩
  exact I''.turned (t':=s''.toks) (fun b o hb e=>sb'.extBut b o hb e) fC.1 fC.2.1 fC.2.2.2.1 fC.2.2.2.2.1 fC.2.2.2.2.2
theorem comp_by {J:It} {NL:List Str} {ix:List Nat} {g:TG} {tt:TT} {te:TE} {σ:St} {H1:Hp} {Qs:Hp→Prop} {acc:Addr} (n:Nat) (hn:n < 1000) (Pv:Nat→List V→Hp→Prop)
    (hacc:∀ i ys H2,Pv i ys H2→H2 acc=some (.lst ys)∧ys.length≤i) (h0:Pv 0 [] (upd H1 acc (.lst []))) (hstop:∀ ys H2,Pv n ys H2→J.stop n H2∧Qs H2)
    (hturn:∀ i ys H2,i < n→Pv i ys H2→J.go i H2∧∀ x H3,J.yld i H2 x H3→g x (comp0 NL ix σ) H3 fun σ' H4=>σ'.drop NL.length=ix.map (fun j=>σ.getD j none)∧tt σ' H4 fun b H5=>
      if b=true then te σ' H5 fun v H6=>H6 acc=some (.lst ys)∧Pv (i+1) (ys++[v]) (upd H6 acc (.lst (ys++[v]))) else Pv (i+1) ys H5) :
    ∃ W:Nat→Nat→List V→Hp→Prop,(∃ m,W 0 m [] (upd H1 acc (.lst []))) ∧
    ∀ i m ys H2,W i m ys H2→H2 acc=some (.lst ys)∧ys.length < sizeLine ∧
      ((J.stop i H2∧Qs H2)∨(J.go i H2∧∃ N:List V→Hp→Prop,(∀ ys' H',N ys' H'→∃ m',m' < m∧W (i+1) m' ys' H') ∧
        ∀ x H3,J.yld i H2 x H3→g x (comp0 NL ix σ) H3 fun σ' H4=>σ'.drop NL.length=ix.map (fun j=>σ.getD j none)∧tt σ' H4 fun b H5=>
          if b=true then te σ' H5 fun v H6=>H6 acc=some (.lst ys)∧N (ys++[v]) (upd H6 acc (.lst (ys++[v]))) else N ys H5)):=by
  refine ⟨fun i m ys H2=>i≤n∧m=n - i∧Pv i ys H2,⟨n,Nat.zero_le _,rfl,h0⟩,fun i m ys H2 ⟨hi,hm,hp⟩=>?_⟩
  obtain ⟨a1,a2⟩:=hacc i ys H2 hp
  refine ⟨a1,small1000 (by omega),?_⟩
  rcases Nat.lt_or_ge i n with lt | ge
  · obtain ⟨go,tn⟩:=hturn i ys H2 lt hp
    exact .inr ⟨go,Pv (i+1),fun ys' H' hN=>⟨n - (i+1),by omega,by omega,rfl,hN⟩,tn⟩
  · have e:i=n:=by omega
    subst e
    exact .inl (hstop ys H2 hp)
end
end L2
namespace L2
open PySem PySem.Spec PyProof.Rows
section
variable {prog:Program} {w:World} {A:Around} {E:Value→Shared→Prop} {s:Shared}
theorem nextOf_tuple_item {it t:Addr} {i:Nat} {items:Array Value} {x:Value} {Q:Value→Shared→Prop} (hit:s.heap.IsTupleIter it t i)
    (ht:s.heap.IsTuple t items) (hx:items[i]?=some x)
    (hQ:∀ h',h'.IsTupleIter it t (i+1)→Heap.SameBut it s.heap h'→Q x { s with heap:=h' }) :
    wpAny (model prog w) A (Builtin.SmallTypes.nextOf (.ref it)) Q E s:=by
  obtain ⟨o,ho,hc,hd⟩:=id hit
  obtain ⟨ol,hol,_,nl,hdl⟩:=ht
  unfold Builtin.SmallTypes.nextOf
  refine wpAny_bind (wpAny_callSpecial?_slot (name:=Str.ofString "__next__") hit.typeIs F.slot_tuple_iterator_next
    (wpAny_call_entry F.slot_tuple_iterator_next hit.typeIs F.entry_tuple_iterator_next ?_ (F.args_tuple_iterator_next_1 _)))
  show wpAny _ _ (field (.ref it) 0 >>= _) _ _ s
  refine wpAny_bind (wpAny_field ho hd (x:=.ref t) rfl ?_)
  show wpAny _ _ (if (Value.ref t == Value.none)=true then _ else _) _ _ s
  rw [if_neg (show ¬ ((Value.ref t == Value.none)=true) from Bool.false_ne_true)]
  show wpAny _ _ (field (.ref it) 1 >>= _) _ _ s
  refine wpAny_bind (wpAny_field ho hd (x:=.int i 0) rfl ?_)
  show wpAny _ _ (seqItems? (.ref t) >>= _) _ _ s
  refine wpAny_bind (wpAny_seqItems hol hdl ?_)
  simp only [Int.toNat_natCast,hx]
  refine wpAny_bind (wpAny_setField ho hd (by simp) (wpAny_pure ⟨x,rfl,wpAny_pure (hQ _ ?_ (Heap.SameBut.update ..))⟩))
  exact ⟨_,Heap.get?_update_self _ ho (Obj.isFreed_of_fields (Obj.data_mapFields hd _)),(Obj.cls_mapFields ..).trans hc,by
    rw [Obj.data_mapFields hd];simp [rawInt]⟩
theorem nextOf_tuple_end {it t:Addr} {i:Nat} {items:Array Value} {Q:Value→Shared→Prop} (hh:A.handled=none)
    (hit:s.heap.IsTupleIter it t i) (ht:s.heap.IsTuple t items) (hx:items[i]?=none)
    (hE:∀ h' e,Heap.ExtBut it s.heap h'→(∃ o,h'.get? e=some o∧o.cls=.type "StopIteration")→E (.ref e) { s with heap:=h' }) :
    wpAny (model prog w) A (Builtin.SmallTypes.nextOf (.ref it)) Q E s:=by
  obtain ⟨o,ho,hc,hd⟩:=id hit
  obtain ⟨ol,hol,_,nl,hdl⟩:=ht
  unfold Builtin.SmallTypes.nextOf
  refine wpAny_bind (wpAny_callSpecial?_slot (name:=Str.ofString "__next__") hit.typeIs F.slot_tuple_iterator_next
    (wpAny_call_entry F.slot_tuple_iterator_next hit.typeIs F.entry_tuple_iterator_next ?_ (F.args_tuple_iterator_next_1 _)))
  show wpAny _ _ (field (.ref it) 0 >>= _) _ _ s
  refine wpAny_bind (wpAny_field ho hd (x:=.ref t) rfl ?_)
  show wpAny _ _ (if (Value.ref t == Value.none)=true then _ else _) _ _ s
  rw [if_neg (show ¬ ((Value.ref t == Value.none)=true) from Bool.false_ne_true)]
  show wpAny _ _ (field (.ref it) 1 >>= _) _ _ s
  refine wpAny_bind (wpAny_field ho hd (x:=.int i 0) rfl ?_)
  show wpAny _ _ (seqItems? (.ref t) >>= _) _ _ s
  refine wpAny_bind (wpAny_seqItems hol hdl ?_)
  simp only [Int.toNat_natCast,hx]
  refine wpAny_bind (wpAny_rule (wpAny_bind (wpAny_setField ho hd (by simp) ?_)))
  show wpAny _ _ (newExc (.type "StopIteration") [] >>= _) _ _ _
  refine wpAny_bind ?_
  simp only [newExc,newTuple]
  refine wpAny_bind (wpAny_newObj_type ?_ (by size_fits))
  refine wpAny_bind (m:=firstArgMember _ _) (wpAny_of_eq (a:=Value.none) (by first | rfl | (simp only [firstArgMember];rfl)) ?_)
  refine wpAny_newObj_type ?_ (by size_fits)
  simp only [raiseNew]
  refine wpAny_bind (wpAny_handled ?_)
  first | rw [show A.in1.handled=none from hh] | rw [hh]
  refine wpAny_bind (wpAny_pure (wpAny_throw ?_))
  exact hE _ _ (((Heap.SameBut.update ..).extBut.push _).push _) ⟨_,Heap.get?_push_size _ rfl,rfl⟩
end
theorem draws_tuple {prog:Program} {w:World} {A:Around} (hh:A.handled=none) (it l:Addr) (hne:l≠it) (items:Array Value) :
    Draws prog w A it [it,l] items.size (fun i v=>items[i]?=some v) (fun i h=>h.IsTupleIter it l i∧h.IsTuple l items) where
  live:=fun _ _ st=>let ⟨o,ho,_⟩:=st.1;⟨o,ho⟩
  frame:=fun _ _ _ st hk=>⟨st.1.at fun o e=>hk it (by simp) o e,let ⟨o,ho,r⟩:=st.2;⟨o,hk l (by simp) o ho,r⟩⟩
  item:=fun i s Q E hi st hQ=>by
    refine nextOf_tuple_item st.1 st.2 (x:=items[i]) (by simp [hi]) fun h' hit' hs'=>?_
    exact hQ _ h' s.toks (by simp [hi]) ⟨hit',st.2.extBut hs'.extBut hne⟩ hs'
  done:=fun s Q E st hE=>nextOf_tuple_end hh st.1 st.2 (by simp) hE
theorem draws_str {prog:Program} {w:World} {A:Around} (hh:A.handled=none) (it:Addr) (x:Str) (t:Tok) :
    Draws prog w A it [it] x.cps.size (fun i v=>∃ c u,x.cps[i]?=some c∧v=.str ⟨#[c]⟩ u) (fun i h=>h.IsStrIter it (strIterType x) x t i):=by
  unfold strIterType
  cases x.cps.all (· < 128) with
  | true=>exact Draws.strAscii hh it x t
  | false=>exact Draws.strWide hh it x t
inductive SK where
  | lst (a:Addr) | tup (a:Addr) | str (x:Str)
def SK.val:SK→V
  | .lst a=>.ref a
  | .tup a=>.ref a
  | .str x=>.str x
def signs (x:Str):List V:=x.cps.toList.map fun c=>.str ⟨#[c]⟩
def SK.has (H:Hp):SK→List V→Prop
  | .lst a,xs=>Rd H a (.lst xs)
  | .tup a,xs=>Rd H a (.tup xs)
  | .str x,xs=>xs=signs x
def SK.own (it:Addr) (k:Nat) (h:Heap):SK→Prop
  | .lst a=>h.IsListIter it a k
  | .tup a=>h.IsTupleIter it a k
  | .str x=>∃ t,h.IsStrIter it (strIterType x) x t k
theorem SK.own_at {it:Addr} {k:Nat} {h h':Heap} {κ:SK} (x:κ.own it k h) (e:∀ o,h.get? it=some o→h'.get? it=some o):κ.own it k h':=by
  cases κ with
  | lst a=>exact Heap.IsListIter.at x e
  | tup a=>exact Heap.IsTupleIter.at x e
  | str y=>obtain ⟨t,o,ho,r⟩:=x;exact ⟨t,o,e o ho,r⟩
theorem SK.own_obj {it:Addr} {k:Nat} {h:Heap} {κ:SK} (x:κ.own it k h):∃ o,h.get? it=some o∧(∀ v,o.data≠.cell v)∧o.cls≠.type "tuple" ∧ o.cls≠.type "zip" ∧ o.cls≠.type "enumerate" := by
  cases κ with
  | lst a=>obtain ⟨o,ho,c,d⟩:=x;exact ⟨o,ho,(fun v z=>by rw [d] at z;cases z),(fun z=>by rw [c] at z;simp at z),(fun z=>by rw [c] at z;simp at z),(fun z=>by rw [c] at z;simp at z)⟩
  | tup a=>obtain ⟨o,ho,c,d⟩:=x;exact ⟨o,ho,(fun v z=>by rw [d] at z;cases z),(fun z=>by rw [c] at z;simp at z),(fun z=>by rw [c] at z;simp at z),(fun z=>by rw [c] at z;simp at z)⟩
  | str y=>
    obtain ⟨t,o,ho,c,d⟩:=x
    refine ⟨o,ho,(fun v z=>by rw [d] at z;cases z),?_,?_,?_⟩ <;>
    · intro z
      rw [c] at z
      unfold strIterType at z
      split at z <;> simp at z
theorem Rd.inj {H:Hp} {a:Addr} {u v:HO} (hu:∀ o w,u≠.frz o w) (hv:∀ o w,v≠.frz o w) (x:Rd H a u) (y:Rd H a v):u=v:=by
  rcases x with x | ⟨o,x⟩ <;> rcases y with y | ⟨p,y⟩ <;> rw [x] at y
  · exact Option.some.inj y
  · exact absurd (Option.some.inj y) (hu p v)
  · exact absurd (Option.some.inj y).symm (hv o u)
  · have:=Option.some.inj y
    injection this
theorem SK.inj {H:Hp} {κ:SK} {xs ys:List V} (x:κ.has H xs) (y:κ.has H ys):xs=ys:=by
  cases κ with
  | lst a=>have:=Rd.inj (u:=.lst xs) (v:=.lst ys) (fun _ _ z=>nomatch z) (fun _ _ z=>nomatch z) x y;injection this
  | tup a=>have:=Rd.inj (u:=.tup xs) (v:=.tup ys) (fun _ _ z=>nomatch z) (fun _ _ z=>nomatch z) x y;injection this
  | str z=>exact Eq.trans x (Eq.symm y)
def SK.box:SK→List Addr
  | .lst a=>[a]
  | .tup a=>[a]
  | .str _=>[]
theorem SK.box_some {H:Hp} {κ:SK} {xs:List V} (x:κ.has H xs) {b:Addr} (hb:b∈κ.box):H b≠none:=by
  cases κ with
  | lst a => have e:b=a:=by simpa [SK.box] using hb
             subst e;intro z;rcases x with q | ⟨o,q⟩ <;> (rw [z] at q;cases q)
  | tup a => have e:b=a:=by simpa [SK.box] using hb
             subst e;intro z;rcases x with q | ⟨o,q⟩ <;> (rw [z] at q;cases q)
  | str z=>simp [SK.box] at hb
section
variable {X:Cx} {pins:List (Addr × Obj)} {σ:St} {H:Hp} {s:Shared}
theorem sk_draws {κ:SK} {it:Addr} {k:Nat} {xs:List V} {A:Around} (I:Inv X pins σ H s) (hv:κ.has H xs) (hit:κ.own it k s.heap) (hn:H it=none) (hh:A.handled=none) :
    ∃ (P:Nat→Value→Prop) (St:Nat→Heap→Prop),Draws X.prog X.w A it (it :: κ.box) xs.length P St∧St k s.heap∧(∀ i u,P i u→∃ x,xs[i]?=some x∧RelV x u)∧(∀ i h,St i h→κ.own it i h):=by
  have ne:∀ b∈κ.box,b≠it:=fun b hb z=>SK.box_some hv hb (by rw [z];exact hn)
  cases κ with
  | lst a=>
    obtain ⟨_,its,n,r,e⟩:=Rd.ok hv I.hok
    have hl:s.heap.IsList a its.toArray:=⟨_,e,rfl,n,rfl⟩
    have D:=Draws.list (prog:=X.prog) (w:=X.w) hh it a (ne a (by simp [SK.box])) its.toArray
    rw [List.size_toArray,← r.length] at D
    refine ⟨_,_,D,⟨hit,hl⟩,fun i u hu=>?_,fun i h st=>st.1⟩
    · have hu':its[i]?=some u:=by simpa using hu
      have hlt:i < xs.length:=by rw [r.length];exact (List.getElem?_eq_some_iff.mp hu').1
      obtain ⟨u',e1,e2⟩:=r.get (List.getElem?_eq_getElem hlt)
      rw [hu'] at e1;cases e1
      exact ⟨_,List.getElem?_eq_getElem hlt,e2⟩
  | tup a=>
    obtain ⟨_,its,r,ht⟩:=Rd.ok hv I.hok
    have hl:s.heap.IsTuple a its.toArray:=ht
    have D:=draws_tuple (prog:=X.prog) (w:=X.w) hh it a (ne a (by simp [SK.box])) its.toArray
    rw [List.size_toArray,← r.length] at D
    refine ⟨_,_,D,⟨hit,hl⟩,fun i u hu=>?_,fun i h st=>st.1⟩
    · have hu':its[i]?=some u:=by simpa using hu
      have hlt:i < xs.length:=by rw [r.length];exact (List.getElem?_eq_some_iff.mp hu').1
      obtain ⟨u',e1,e2⟩:=r.get (List.getElem?_eq_getElem hlt)
      rw [hu'] at e1;cases e1
      exact ⟨_,List.getElem?_eq_getElem hlt,e2⟩
  | str z=>
    obtain ⟨t,hit⟩:=hit
    have hv':xs=signs z:=hv
    subst hv'
    have D:=draws_str (prog:=X.prog) (w:=X.w) hh it z t
    have e:(signs z).length=z.cps.size:=by simp [signs]
    rw [← e] at D
    refine ⟨_,_,D,hit,fun i u hu=>?_,fun i h st=>⟨t,st⟩⟩
    · obtain ⟨c,u',hc,rfl⟩:=hu
      refine ⟨.str ⟨#[c]⟩,?_,⟨u',rfl⟩⟩
      simp only [signs,List.getElem?_map,Array.getElem?_toList,hc,Option.map_some]
theorem Inv.turnedNew {ch:List Addr} {p:Addr} {o:HO} {h':Heap} {tk:Nat} (I:Inv X pins σ H s)
    (hch:∀ b∈ch,FpOk X pins H b) (k:∀ b ob,b ∉ ch→s.heap.get? b=some ob→h'.get? b=some ob) (hp:s.heap.objs.size≤p) (new:ObjOk X.prog X.w (upd H p o) h' p o) :
    Inv X pins σ (upd H p o) { s with heap:=h',toks:=tk }:=by
  have hn:H p=none:=I.hok.fresh hp
  refine I.call (g':=s.gens) (d':=s.drawn) (ch:=ch) ⟨fun b u q _ _ hx=>k b u hx q,fun b u q _ _ hx=>⟨u.slots,k b u hx q⟩,fun b u q n _=>?_,fun b u q hx=>⟨u,k b u hx q⟩,fun b xs q=>?_,fun b u xs q=>?_,fun b ps q=>⟨#[],?_⟩⟩ (fun b u e=>?_) I.bare
    fun b hb=>⟨(hch b hb).2.2.2.1,(hch b hb).2.1,(hch b hb).2.2.2.2.1,(hch b hb).2.2.2.2.2⟩
  · rw [upd_ne (Nat.ne_of_lt (Nat.lt_of_lt_of_le (Heap.lt_size q) hp))];exact n
  · rw [upd_ne (ne_of_none q hn)];exact q
  · rw [upd_ne (ne_of_none q hn)];exact q
  · rw [upd_ne (ne_of_none q hn),q];simp
  · by_cases hb:b=p
    · subst hb;rw [upd_same] at e;cases e;exact new
    · rw [upd_ne hb] at e
      refine (I.hok b u e).stay (fun c v hc q=>k c v (fun hm=>?_) q) (fun c q=>by rw [upd_ne (ne_of_none q hn)];exact q) fun c xs q=>by rw [upd_ne (ne_of_none q hn)];exact q
      have z:=(hch c hm).1
      rcases hc with hc | hc
      · rw [hc,e] at z;cases z
      · rw [hc] at z;cases z
end
def Ite (κ:SK):It:=
  ⟨fun i H=>∃ xs x,κ.has H xs∧xs[i]?=some x,fun i H v H'=>∃ p x,v=.ref p∧H p=none∧H'=upd H p (.tup [.int i,x])∧∀ xs,κ.has H xs→xs[i]?=some x,fun i H=>∃ xs,κ.has H xs∧xs.length=i⟩
theorem turn_enum {P:Program} {w:World} {K:PySem.W.Frag} {elts:List Expr} {x1:Nat} {tpos:Pos} (κ:SK) (e it:Addr) (hei:e≠it) :
    Turn P w K (.Tuple elts x1 tpos) (Ite κ) [e,it] e (fun i h=>(∃ old,IsEnum h e it i old)∧κ.own it i h) where
  mem:=by simp
  obj:=fun i h st b hb=>by
    obtain ⟨⟨old,he⟩,ho⟩:=st
    simp only [List.mem_cons,List.not_mem_nil,or_false] at hb
    rcases hb with rfl | rfl
    · exact ⟨_,he,fun v z=>by
        have z':Data.fields _=Data.cell v:=z
        cases z'⟩
    · obtain ⟨o,h1,h2,_⟩:=SK.own_obj ho
      exact ⟨o,h1,h2⟩
  keep:=fun i h h' st k=>by
    obtain ⟨⟨old,he⟩,ho⟩:=st
    exact ⟨⟨old,k e (by simp) _ he⟩,SK.own_at ho fun o q=>k it (by simp) o q⟩
  item:=by
    intro X hP hw hK hc i pins s σ H E I hf st hg
    subst hP hw hK
    obtain ⟨⟨old,he⟩,ho⟩:=st
    obtain ⟨xs,x,hx,hxi⟩:=hg
    have hlt:i < xs.length:=(List.getElem?_eq_some_iff.mp hxi).1
    have hh:X.A.in1.handled=none:=I.ok.hd hc
    obtain ⟨Pp,St,D,hst,hrel,hown⟩:=sk_draws (A:=X.A.in1) I hx ho (hf it (by simp)).1 hh
    have hef:e ∉ it :: κ.box:=fun z=>by
      rcases List.mem_cons.mp z with z | z
      · exact hei z
      · exact SK.box_some hx z (hf e (by simp)).1
    refine wpAny_pyNext_enum_itemD D he hst hlt hei hef fun y h' tk hy ho' hst' hT hsz hk=>⟨_,rfl,?_⟩
    refine wpAny_letOwnedTupleGo_enum ho' fun h'' he'' hs''=>?_
    obtain ⟨x',hx',rx⟩:=hrel i y hy
    have exx:x'=x:=Option.some.inj (hx'.symm.trans hxi)
    subst exx
    have kk:∀ b ob,b ∉ [e,it]→s.heap.get? b=some ob→h''.get? b=some ob:=fun b ob hb q=>
      (hs''.2 b (fun z=>hb (by simp [z]))).trans (hk b ob (fun z=>hb (by simp [z])) (fun z=>hb (by simp [z])) q)
    have ne:s.heap.objs.size≠e:=Nat.ne_of_gt (Heap.lt_size he)
    have hT':h''.get? s.heap.objs.size=some { cls:=.type "tuple", data:=.seq #[.int i tk,y] }:=(hs''.2 _ ne).trans hT
    refine ⟨.ref s.heap.objs.size,upd H s.heap.objs.size (.tup [.int i,x']),I.turnedNew (tk:=tk+1) hf kk (Nat.le_refl _) ⟨⟨(by show 2≤sizeLine;decide),_,hT',rfl⟩,[.int i tk,y],.cons ⟨tk,rfl⟩ (.cons rx .nil),_,hT',rfl,0,rfl⟩,rfl,
      ⟨_,x',rfl,I.hok.fresh (Nat.le_refl _),rfl,fun ys hy'=>by rw [SK.inj hy' hx];exact hxi⟩,⟨⟨y,by simpa using he''⟩,SK.own_at (hown _ _ hst') fun o q=>(hs''.2 it (Ne.symm hei)).trans q⟩,fun b hb=>?_⟩
    obtain ⟨o,hob,_⟩:∃ o,s.heap.get? b=some o∧True:=by
      simp only [List.mem_cons,List.not_mem_nil,or_false] at hb
      rcases hb with rfl | rfl
      · exact ⟨_,he,trivial⟩
      · obtain ⟨o,h1,_⟩:=SK.own_obj ho;exact ⟨o,h1,trivial⟩
    rw [upd_ne (Nat.ne_of_lt (Heap.lt_size hob))]
    exact (hf b hb).1
  done:=by
    intro X hP hw hK hc i pins s σ H E I hf st hg
    subst hP hw hK
    obtain ⟨⟨old,he⟩,ho⟩:=st
    obtain ⟨xs,hx,hlen⟩:=hg
    have hh:X.A.in1.handled=none:=I.ok.hd hc
    obtain ⟨Pp,St,D,hst,hrel,hown⟩:=sk_draws (A:=X.A.in1) I hx ho (hf it (by simp)).1 hh
    have hst':St xs.length s.heap:=by rw [hlen];exact hst
    refine wpAny_pyNext_enum_endD D he hst' fun h' hx'=>⟨rfl,?_⟩
    have f:=hf it (by simp)
    exact I.turned (t':=s.toks) (fun b o hb q=>hx' b o hb q) f.1 f.2.1 f.2.2.2.1 f.2.2.2.2.1 f.2.2.2.2.2
  self:=fun _ _ _ _ _ st h=>let ⟨⟨_,he⟩,_⟩:=st;wpAny_pyIter_enum he h
open AutoSeq1 (wpAny_loadPart') in
set_option maxHeartbeats 4000000 in
theorem meets_enumerate_newT (l:Addr) (items:Array Value) (n:Nat) (dct:Option Addr) (sl:Array (Option Value)) :
    Meets (Builtin.«enumerate.__new__» ⟨[.type "enumerate", .ref l],[]⟩) (fun _ R s=>s.heap.get? l=some { cls:=.type "tuple", dict:=dct,data:=.seq items n,slots:=sl } ∧
      R (.ok (.ret (.ref (s.heap.push { cls:=.type "tuple_iterator", data:=.fields #[.ref l,.int 0 0] }).objs.size)))
        { s with heap:=(s.heap.push { cls:=.type "tuple_iterator", data:=.fields #[.ref l,.int 0 0] }).push { cls:=.type "enumerate", data:=.fields #[.none,.bool false,.ref s.heap.objs.size,rawInt 0,.none,.none] } }):=
  .of_wp fun prog w A R s h=>by
    obtain ⟨hp,g,d,tk,os⟩:=s;obtain ⟨hl,h⟩:=h
    have hsub:=sub_enumerate
    have hL:Heap.IsTuple (Shared.heap ⟨hp,g,d,tk,os⟩) l items:=⟨_,hl,rfl,n,rfl⟩
    wp_walk using wpAny_loadPart' hl
    refine wpAny_stack_any fun st=>wpAny_pure ?_
    split
    · rename_i c _ _ _ _ _
      cases (c == Value.type "enumerate")
      · wp_walk using wpAny_loadPart' hl,wpAny_pyIter_tuple hL
        exact ⟨_,rfl,h⟩
      · wp_walk using wpAny_loadPart' hl,wpAny_pyIter_tuple hL
        exact ⟨_,rfl,h⟩
    · wp_walk using wpAny_loadPart' hl,wpAny_pyIter_tuple hL
      exact ⟨_,rfl,h⟩
theorem call_enumerate_tuple {prog:Program} {w:World} {A:Around} {E:Value→Shared→Prop} {s:Shared} {l:Addr} {items:Array Value} {Q:Value→Shared→Prop} (hL:s.heap.IsTuple l items)
    (h:∀ h',IsEnum h' (s.heap.objs.size+1) s.heap.objs.size 0 .none→h'.IsTupleIter s.heap.objs.size l 0→h'.objs.size=s.heap.objs.size+2 →
      (∀ b o,s.heap.get? b=some o→h'.get? b=some o)→Q (.ref (s.heap.objs.size+1)) { s with heap:=h' }) :
    wpAny (model prog w) A (call (.type "enumerate") [.ref l]) Q E s:=by
  obtain ⟨⟨c,dct,dt,sl⟩,hl,hc,n,hd⟩:=hL
  replace hc:c=.type "tuple" := hc
  replace hd:dt=.seq items n:=hd
  subst hc hd
  refine callType_new F.called_enumerate (by decide) (F.typeCall_enumerate_1 _) (F.newCall_enumerate_1 _) (fun obj=>F.args_object_init_2 obj _) F.entry_enumerate_new
    (meets_enumerate_newT l items n dct sl) ⟨hl,?_⟩
  have hz:(s.heap.push { cls:=.type "tuple_iterator", data:=.fields #[.ref l,.int 0 0] }).objs.size=s.heap.objs.size+1:=Heap.size_push ..
  show _∧_
  rw [hz]
  have he:IsEnum ((s.heap.push { cls:=.type "tuple_iterator", data:=.fields #[.ref l,.int 0 0] }).push
      { cls:=.type "enumerate", data:=.fields #[.none,.bool false,.ref s.heap.objs.size,rawInt 0,.none,.none] }) (s.heap.objs.size+1) s.heap.objs.size 0 .none:=by
    have:=Heap.get?_push_size (s.heap.push { cls:=.type "tuple_iterator", data:=.fields #[.ref l,.int 0 0] })
      (o:={ cls:=.type "enumerate", data:=.fields #[.none,.bool false,.ref s.heap.objs.size,rawInt 0,.none,.none] }) rfl
    rw [hz] at this;exact this
  refine ⟨⟨_,he,rfl⟩,h _ he ⟨_,Heap.get?_push_of_some _ (Heap.get?_push_size _ rfl),rfl,rfl⟩ (by rw [Heap.size_push,hz]) fun b o x=>Heap.get?_push_of_some _ (Heap.get?_push_of_some _ x)⟩
section
variable {X:Cx} {pins:List (Addr × Obj)} {σ:St} {H:Hp} {s:Shared}
theorem call_enum {κ:SK} {xs:List V} {u:Value} {E:Value→Shared→Prop} {Q:Value→Shared→Prop} (I:Inv X pins σ H s) (hv:κ.has H xs) (r:RelV κ.val u)
    (h:∀ h',IsEnum h' (s.heap.objs.size+1) s.heap.objs.size 0 .none→κ.own s.heap.objs.size 0 h'→(∀ b o,s.heap.get? b=some o→h'.get? b=some o)→Q (.ref (s.heap.objs.size+1)) { s with heap:=h' }) :
    wpAny (model X.prog X.w) X.A (call (.type "enumerate") [u]) Q E s:=by
  cases κ with
  | lst a=>
    cases (show u=Value.ref a from r)
    obtain ⟨_,its,n,rr,e⟩:=Rd.ok hv I.hok
    exact call_enumerate_list ⟨_,e,rfl,n,rfl⟩ fun h' a1 a2 _ a4=>h h' a1 a2 a4
  | tup a=>
    cases (show u=Value.ref a from r)
    obtain ⟨_,its,rr,e⟩:=Rd.ok hv I.hok
    exact call_enumerate_tuple e fun h' a1 a2 _ a4=>h h' a1 a2 a4
  | str x=>
    obtain ⟨t,q⟩:=(show ∃ t,u=Value.str x t from r)
    subst q
    exact call_enumerate_str fun h' a1 a2 _ a4=>h h' a1 ⟨t,a2⟩ a4
def iEnum (ta:TA):TI:=fun σ H R=>ta σ H fun vs H1=>∃ κ:SK,vs=[κ.val]∧(∃ xs,κ.has H1 xs)∧R (Ite κ) H1
theorem pi_enum {a:Expr} {ta:TA} {p pos:Pos} {elts:List Expr} {x1:Nat} {tpos:Pos} (hg:Gl X "enumerate") (hm:X.mg "enumerate" = none) (ha:PA X [a] ta)
    (hs:starEach [a] X.env=[(false,eval a X.env)]:=by rfl):PI X (.Tuple elts x1 tpos) (.Call (.Name "enumerate" p) [a] [] pos) (iEnum ta):=by
  intro pins s σ H R I h
  refine Call_ (ld_blt I hg hm boot_enumerate (PyProof.Rows.callWith_type1 (thn (ha pos pins s σ H _ I h) fun us s1 ⟨vs,H1,I1,r1,q1⟩=>?_) hs rfl))
  obtain ⟨κ,e,⟨xs,hx⟩,q⟩:=q1
  subst e
  obtain ⟨u,rfl,ru⟩:=vals1 r1
  refine call_enum I1 hx ru fun h' he hi hk=>?_
  refine wpAny_pyIter_enum he ⟨s1.heap.objs.size+1,[s1.heap.objs.size+1,s1.heap.objs.size],_,_,H1,rfl,I1.kept (t':=s1.toks) hk,turn_enum κ _ _ (Nat.ne_of_gt (Nat.lt_succ_self _)),⟨⟨_,he⟩,hi⟩,fun b hb=>?_,q⟩
  have hge:s1.heap.objs.size≤b:=by
    simp only [List.mem_cons,List.not_mem_nil,or_false] at hb
    rcases hb with rfl | rfl
    · exact Nat.le_succ _
    · exact Nat.le_refl _
  exact I1.fpOk hge (I1.hok.fresh hge)
end
structure ZA (z TI TO i1 i2:Addr) (fp1 fp2:List Addr):Prop where
  TIz:TI≠z
  TOz:TO≠z
  i1z:i1≠z
  i2z:i2≠z
  TITO:TI≠TO
  TIi1:TI≠i1
  TIi2:TI≠i2
  TOi1:TO≠i1
  TOi2:TO≠i2
  i12:i1≠i2
  z1:z ∉ fp1
  z2:z ∉ fp2
  o1:TO ∉ fp1
  o2:TO ∉ fp2
  a1:i2 ∉ fp1
  a2:i1 ∉ fp2
section
variable {prog:Program} {w:World} {A:Around} {E:Value→Shared→Prop} {s:Shared}
end
section
variable {X:Cx}
end
theorem for_enum {κ:SK} {xs:List V} {g:TG} {tb:TS} {D:Ends} {σ:St} {H:Hp} (Pv:Nat→St→Hp→Prop) (h0:Pv 0 σ H) (hl:∀ i σ H,i≤xs.length→Pv i σ H→κ.has H xs)
    (hs:∀ (i:Nat) x σ H p,xs[i]?=some x→Pv i σ H→H p=none→g (.ref p) σ (upd H p (.tup [.int i,x])) fun σ2 H2=>tb { D with nx:=Pv (i+1),ct:=Pv (i+1),bk:=D.nx } σ2 H2) (hd:∀ σ H,Pv xs.length σ H→D.nx σ H) :
    ∃ W:Nat→Nat→St→Hp→Prop,(∃ m,W 0 m σ H)∧∀ i m σ H,W i m σ H →
      ((Ite κ).stop i H∧D.nx σ H)∨((Ite κ).go i H∧∃ N:St→Hp→Prop,(∀ σ' H',N σ' H'→∃ m',m' < m∧W (i+1) m' σ' H')∧∀ x H',(Ite κ).yld i H x H'→g x σ H' fun σ2 H2=>tb { D with nx:=N,ct:=N,bk:=D.nx } σ2 H2):=by
  refine ⟨fun i m σ H=>i≤xs.length∧m=xs.length - i∧Pv i σ H,⟨xs.length,Nat.zero_le _,rfl,h0⟩,fun i m σ H ⟨hi,hm,hp⟩=>?_⟩
  have a1:=hl i σ H hi hp
  rcases Nat.lt_or_ge i xs.length with lt | ge
  · refine .inr ⟨⟨xs,xs[i],a1,List.getElem?_eq_getElem lt⟩,Pv (i+1),fun σ' H' hn=>⟨xs.length - (i+1),by omega,by omega,rfl,hn⟩,fun x H' hy=>?_⟩
    obtain ⟨p,x',rfl,hpn,rfl,e1⟩:=hy
    exact hs i x' σ H p (e1 xs a1) hp hpn
  · have e:i=xs.length:=by omega
    subst e
    exact .inl ⟨⟨xs,a1,rfl⟩,hd σ H hp⟩
theorem call_isinst {X:Cx}:CallR X (.builtin "isinstance") (fun vs H Q=>∃ x t T b,vs=[x,.ty T]∧TyOf X.K H x t∧PySem.W.kitOne X.K t (.type T)=some b∧Q (.bl b) H):=by
  intro pins s σ H xs us Q I r h
  obtain ⟨x,t,T,b,rfl,ty,e,q⟩:=h
  obtain ⟨u,v,rfl,ru,rv⟩:=vals2 r
  cases (show v=Value.type T from rv)
  exact isinst_ok I ru ty e fun tk=>⟨.bl b,H,I.tok tk,rfl,q⟩
end L2
namespace L2
open PySem PySem.Spec PyProof.Rows
theorem csc {X:Cx} {scope:Scope} {NL:List Str} {ix:List Nat} (esc:Scope) (N:List Str) (h1:X.env.scope=esc:=by rfl) (h2:X.N=N:=by rfl) (c1:scope.kind=.function:=by rfl)
    (c2:∀ y∈scope.names,y.2≠.cell:=by decide +kernel) (c3:∀ y∈scope.names,y.2=.local→scope.names.lookup y.1=some .local:=by decide +kernel)
    (c4:∀ y∈scope.names,y.2=.free→esc.names.lookup y.1=some .cell∨esc.names.lookup y.1=some .free:=by decide +kernel)
    (c5:∀ j∈ix,(N[j]?).bind (fun x=>scope.names.lookup x)=some .free:=by decide +kernel):CompScope X scope NL ix where
  kind:=c1
  cell:=c2
  names:=c3
  free:=fun y hy hf=>by
    have:=c4 y hy hf
    rw [← h1] at this
    exact this
  cap:=fun j hj=>by
    have:=c5 j hj
    rw [h2]
    cases e:N[j]? with
    | none=>rw [e] at this;cases this
    | some x=>rw [e] at this;exact ⟨x,rfl,this⟩
def Has (P:Program) (w:World) (K:PySem.W.Frag) (mg:Str→Option Value) (base:Heap) (x:Str) (k:Nat) (ps:List Str) (sp:Sp):Prop:=
  ∃ f fd,FnOk P w K mg base CX0 k f fd ps sp∧Binds K fd ps []∧PySem.W.keepIn K (.ref f)=true∧mg x=some (.ref f)
section
variable {P:Program} {w:World} {K:PySem.W.Frag} {mg:Str→Option Value} {base:Heap}
theorem Has.mono {x:Str} {j k:Nat} {ps:List Str} {sp:Sp} (G:Has P w K mg base x j ps sp) (h:j≤k):Has P w K mg base x k ps sp:=
  let ⟨f,fd,F,r⟩:=G;⟨f,fd,F.mono h,r⟩
def Df (K:PySem.W.Frag) (mg:Str→Option Value) (x:Str) (st:Stmt):Prop:=∃ f fd,Fun K x x st f fd∧mg x=some (.ref f)
theorem Df.has {x:Str} {st:Stmt} {N ps:List Str} {k:Nat} {sp:Sp} (D:Df K mg x st) (S:FnScope N ps (defScope st))
    (hb:∀ (kV doc pm:Value) (an:Option Addr) (cdv ct:Value) (us:List Value),us.length=ps.length→bindArgs (PySem.W.fnOf x x (defArgs st) (defBody st) (defScope st) .none kV doc pm an cdv ct) ⟨us,[]⟩=pure (ps.zip us))
    (len:∀ vs H Q E,sp vs H Q E→vs.length=ps.length)
    (hbody:∀ (f:Addr) (cdv:Value) (A:Around) (outer:List Env) (s:Shared) (H:Hp) (vs:List V) (Q:VK) (E:XK),Room k (A.deeper (envOfC x (defScope st) s.heap.objs.size f cdv))→sp vs H Q E →
      ∃ t,PSs (cxOf CX0 P w K mg base N x (defScope st) f cdv A outer s H E).nox (defBody st) t∧t { nx:=fun _ H'=>Q .non H',rt:=Q } (start N vs) H):Has P w K mg base x (k+1) ps sp:=by
  obtain ⟨f,fd,F,m⟩:=D
  exact ⟨f,fd,F.ok S len fun cdv A outer s H vs Q E hr h=>hbody f cdv A outer s H vs Q E hr h,F.binds hb,F.kp,m⟩
end
theorem pe_callH {X:Cx} {x:Str} {k:Nat} {ps:List Str} {sp:Sp} {p pos:Pos} {e:Expr} {es:List Expr} {t:TA} (G:Has X.prog X.w X.K X.mg X.base x k ps sp) (hr:Room k X.A) (hg:Gl X x) (ha:PA X (e :: es) t)
    (hdb:(x == ("__debug__" : Str))=false:=by decide) (he:starEach (e :: es) X.env=(false,eval e X.env) :: starEach es X.env:=by rfl) (hpl:(backTo pos (starEach es X.env)).any (·.1)=false:=by rfl) :
    PE X (.Call (.Name x p) (e :: es) [] pos) (tCall sp [] E0 t):=by
  obtain ⟨f,fd,F,b,kp,m⟩:=G
  exact pe_call F hr hg m kp b .nil pass0 ha hdb he hpl
structure Blt (mg:Str→Option Value):Prop where
  len:mg "len" = none
  range:mg "range" = none
  zip:mg "zip" = none
  enumerate:mg "enumerate" = none
  max:mg "max" = none
  min:mg "min" = none
  int_:mg "int" = none
  str_:mg "str" = none
  bool_:mg "bool" = none
  list_:mg "list" = none
  tuple_:mg "tuple" = none
  isinstance:mg "isinstance" = none
abbrev Pool (H:Hp) (p:Addr):Prop:=∃ x y:Int,H p=some (.lst [.int x,.int y])
structure Kp (p:Addr) (H H':Hp):Prop where
  pool:Pool H' p
  keep:∀ b o,b≠p→H b=some o→H' b=some o
section
variable {p q:Addr} {H H1 H2:Hp} {o:HO}
theorem Kp.refl (h:Pool H p):Kp p H H:=⟨h,fun _ _ _ e=>e⟩
theorem Kp.trans (a:Kp p H H1) (b:Kp p H1 H2):Kp p H H2:=⟨b.pool,fun c u hc e=>b.keep c u hc (a.keep c u hc e)⟩
theorem Kp.new (a:Kp p H H1) (hq:H1 q=none):Kp p H (upd H1 q o):=by
  obtain ⟨⟨x,y,e⟩,k⟩:=a
  refine ⟨⟨x,y,by rw [upd_ne (ne_of_none e hq)];exact e⟩,fun c u hc h=>?_⟩
  have:=k c u hc h
  rw [upd_ne (ne_of_none this hq)];exact this
theorem Kp.write (a:Kp p H H1) (hq:H q=none) (hp:q≠p):Kp p H (upd H1 q o):=by
  obtain ⟨⟨x,y,e⟩,k⟩:=a
  refine ⟨⟨x,y,by rw [upd_ne (Ne.symm hp)];exact e⟩,fun c u hc h=>?_⟩
  rw [upd_ne (ne_of_none h hq)];exact k c u hc h
theorem Pool.ne (h:Pool H p) (hq:H q=none):q≠p:=by
  obtain ⟨x,y,e⟩:=h
  exact Ne.symm (ne_of_none e hq)
end
theorem bt_len:bootBuiltins "len" = some (.builtin "len"):=by decide +kernel
theorem bt_max:bootBuiltins "max" = some (.builtin "max"):=by decide +kernel
theorem bt_all:bootBuiltins "all" = some (.builtin "all"):=by decide +kernel
theorem bt_isinstance:bootBuiltins "isinstance" = some (.builtin "isinstance"):=by decide +kernel
theorem bt_int:bootBuiltins "int" = some (.type "int"):=by decide +kernel
theorem bt_str:bootBuiltins "str" = some (.type "str"):=by decide +kernel
theorem bt_bool:bootBuiltins "bool" = some (.type "bool"):=by decide +kernel
theorem bt_list:bootBuiltins "list" = some (.type "list"):=by decide +kernel
theorem bt_tuple:bootBuiltins "tuple" = some (.type "tuple"):=by decide +kernel
theorem Same.new {H0 H:Hp} {q:Addr} {o:HO} (h:Same H0 H) (hq:H q=none):Same H0 (upd H q o):=fun b u e=>by
  have:=h b u e
  rw [upd_ne (ne_of_none this hq)];exact this
theorem Same.write {H0 H:Hp} {q:Addr} {o:HO} (h:Same H0 H) (hq:H0 q=none):Same H0 (upd H q o):=fun b u e=>by
  rw [upd_ne (ne_of_none e hq)];exact h b u e
end L2
namespace L2
open PySem PySem.Spec PyProof.Rows
section
variable {X:Cx}
theorem pg_tupK (K:PySem.W.Frag) {es:List Expr} {k:Nat} {t:TGs} {n:Nat} {pos:Pos} (hc:X.calm=true) (h:PGs X es t) (hK:X.K=K:=by rfl) (hn:(assignEach es X.env).length=n:=by rfl)
    (hst:(assignEach es X.env).findIdx? (·.1)=none:=by rfl):PG X (.Tuple es k pos) (gTup K n t):=by
  subst hK
  exact pg_tup hc h hn hst
def eqAtJ (xs ys:List V) (j:Nat):Bool:=match xs[j]?,ys[j]? with
  | some x,some y=>eqV x y
  | _,_=>false
def eqVs (xs ys:List V):Bool:=xs.length == ys.length && (List.range xs.length).all (eqAtJ xs ys)
theorem eqAt_items {A:Around} {s:Shared} {xs ys:List V} {us ws:List Value} (r1:Vals xs us) (r2:Vals ys ws) (f1:xs.all flatV=true) (f2:ys.all flatV=true) (j:Nat) (h1:j < us.toArray.size) (h2:j < ws.toArray.size) :
    SeqAt.EqAt A s us.toArray[j] ws.toArray[j] (eqAtJ xs ys j):=by
  have g1:j < xs.length:=by rw [r1.length];simpa using h1
  have g2:j < ys.length:=by rw [r2.length];simpa using h2
  obtain ⟨u,e1,q1⟩:=r1.get (List.getElem?_eq_getElem g1)
  obtain ⟨v,e2,q2⟩:=r2.get (List.getElem?_eq_getElem g2)
  have d1:us.toArray[j]=u:=by
    rw [List.getElem?_eq_getElem (by simpa using h1)] at e1
    simpa using Option.some.inj e1
  have d2:ws.toArray[j]=v:=by
    rw [List.getElem?_eq_getElem (by simpa using h2)] at e2
    simpa using Option.some.inj e2
  rw [d1,d2]
  unfold eqAtJ
  rw [List.getElem?_eq_getElem g1,List.getElem?_eq_getElem g2]
  exact eqAt_V q1 q2 (List.all_eq_true.mp f1 _ (List.getElem_mem g1)) (List.all_eq_true.mp f2 _ (List.getElem_mem g2))
theorem op_eq_lst (hu:X.A.units < cLine):OpR X (compareOp .Eq) (fun x y H Q=>∃ a b xs ys,x=.ref a∧y=.ref b∧SqL X.K H a xs∧SqL X.K H b ys∧xs.all flatV=true∧ys.all flatV=true∧Q (.bl (eqVs xs ys)) H):=by
  intro pins s σ H x y v u Q I rx ry h
  obtain ⟨a,b,xs,ys,rfl,rfl,h1,h2,f1,f2,q⟩:=h
  cases (show v=Value.ref a from rx)
  cases (show u=Value.ref b from ry)
  obtain ⟨us,r1,l1,_⟩:=I.list h1
  obtain ⟨ws,r2,l2,_⟩:=I.list h2
  have e1:=r1.length
  have e2:=r2.length
  by_cases hl:xs.length=ys.length
  · refine SeqAt.eq_listAt (e:=eqAtJ xs ys) l1.isList l2.isList (by simp;omega) hu (fun j g1 g2=>eqAt_items r1 r2 f1 f2 j g1 g2) ⟨.bl _,H,I,rfl,?_⟩
    have:eqVs xs ys=(List.range us.toArray.size).all (eqAtJ xs ys):=by
      unfold eqVs
      rw [List.size_toArray,← e1,beq_iff_eq.mpr hl,Bool.true_and]
    rw [← this];exact q
  · refine SeqAt.eq_list_lengthsAt l1.isList l2.isList (by simp;omega) hu ⟨.bl _,H,I,rfl,?_⟩
    have:eqVs xs ys=false:=by
      unfold eqVs
      have:(xs.length == ys.length)=false:=by simpa using hl
      rw [this];rfl
    rw [this] at q;exact q
end
section
variable {NL:List Str} {ix:List Nat} {g:TG} {tt:TT} {te:TE} {σ:St} {H1:Hp} {Qs:Hp→Prop} {acc:Addr}
theorem comp_lst {K:PySem.W.Frag} {a:Addr} {xs:List V} (hn:xs.length < 1000) (Pv:Nat→List V→Hp→Prop)
    (hl:∀ i ys H2,Pv i ys H2→SqL K H2 a xs) (hacc:∀ i ys H2,Pv i ys H2→H2 acc=some (.lst ys)∧ys.length≤i) (h0:Pv 0 [] (upd H1 acc (.lst []))) (hstop:∀ ys H2,Pv xs.length ys H2→Qs H2)
    (hturn:∀ i x ys H2,xs[i]?=some x→Pv i ys H2→g x (comp0 NL ix σ) H2 fun σ' H4=>σ'.drop NL.length=ix.map (fun j=>σ.getD j none)∧tt σ' H4 fun b H5=>
      if b=true then te σ' H5 fun v H6=>H6 acc=some (.lst ys)∧Pv (i+1) (ys++[v]) (upd H6 acc (.lst (ys++[v]))) else Pv (i+1) ys H5) :
    ∃ W:Nat→Nat→List V→Hp→Prop,(∃ m,W 0 m [] (upd H1 acc (.lst []))) ∧
    ∀ i m ys H2,W i m ys H2→H2 acc=some (.lst ys)∧ys.length < sizeLine ∧
      (((Itl K a).stop i H2∧Qs H2)∨((Itl K a).go i H2∧∃ N:List V→Hp→Prop,(∀ ys' H',N ys' H'→∃ m',m' < m∧W (i+1) m' ys' H') ∧
        ∀ x H3,(Itl K a).yld i H2 x H3→g x (comp0 NL ix σ) H3 fun σ' H4=>σ'.drop NL.length=ix.map (fun j=>σ.getD j none)∧tt σ' H4 fun b H5=>
          if b=true then te σ' H5 fun v H6=>H6 acc=some (.lst ys)∧N (ys++[v]) (upd H6 acc (.lst (ys++[v]))) else N ys H5)):=by
  refine comp_by xs.length hn Pv hacc h0 (fun ys H2 hp=>⟨⟨xs,hl _ _ _ hp,Nat.le_refl _⟩,hstop ys H2 hp⟩) fun i ys H2 hi hp=>?_
  have hs:=hl _ _ _ hp
  refine ⟨⟨xs,xs[i],hs,List.getElem?_eq_getElem hi⟩,?_⟩
  rintro x H3 ⟨rfl,hx⟩
  exact hturn i x ys H3 (hx xs hs) hp
theorem comp_enum {κ:SK} {xs:List V} (hn:xs.length < 1000) (Pv:Nat→List V→Hp→Prop)
    (hl:∀ i ys H2,Pv i ys H2→κ.has H2 xs) (hacc:∀ i ys H2,Pv i ys H2→H2 acc=some (.lst ys)∧ys.length≤i) (h0:Pv 0 [] (upd H1 acc (.lst []))) (hstop:∀ ys H2,Pv xs.length ys H2→Qs H2)
    (hturn:∀ (i:Nat) x ys H2 p,xs[i]?=some x→Pv i ys H2→H2 p=none→g (.ref p) (comp0 NL ix σ) (upd H2 p (.tup [.int i,x])) fun σ' H4=>σ'.drop NL.length=ix.map (fun j=>σ.getD j none)∧tt σ' H4 fun b H5=>
      if b=true then te σ' H5 fun v H6=>H6 acc=some (.lst ys)∧Pv (i+1) (ys++[v]) (upd H6 acc (.lst (ys++[v]))) else Pv (i+1) ys H5) :
    ∃ W:Nat→Nat→List V→Hp→Prop,(∃ m,W 0 m [] (upd H1 acc (.lst []))) ∧
    ∀ i m ys H2,W i m ys H2→H2 acc=some (.lst ys)∧ys.length < sizeLine ∧
      (((Ite κ).stop i H2∧Qs H2)∨((Ite κ).go i H2∧∃ N:List V→Hp→Prop,(∀ ys' H',N ys' H'→∃ m',m' < m∧W (i+1) m' ys' H') ∧
        ∀ x H3,(Ite κ).yld i H2 x H3→g x (comp0 NL ix σ) H3 fun σ' H4=>σ'.drop NL.length=ix.map (fun j=>σ.getD j none)∧tt σ' H4 fun b H5=>
          if b=true then te σ' H5 fun v H6=>H6 acc=some (.lst ys)∧N (ys++[v]) (upd H6 acc (.lst (ys++[v]))) else N ys H5)):=by
  refine comp_by xs.length hn Pv hacc h0 (fun ys H2 hp=>⟨⟨xs,hl _ _ _ hp,rfl⟩,hstop ys H2 hp⟩) fun i ys H2 hi hp=>?_
  have hs:=hl _ _ _ hp
  refine ⟨⟨xs,xs[i],hs,List.getElem?_eq_getElem hi⟩,?_⟩
  rintro x H3 ⟨p,x',rfl,hpn,rfl,hx⟩
  exact hturn i x' ys H2 p (hx xs hs) hp hpn
end
theorem kit_same (K:PySem.W.Frag) (T:String):PySem.W.kitOne K (.type T) (.type T)=some true:=by
  unfold PySem.W.kitOne
  rw [if_pos (beq_self_eq_true _)]
abbrev Deck (H:Hp) (p:Addr) (c:Int):Prop:=∃ x y z:Int,H p=some (.lst [.int x,.int y,.int z])∧0≤z∧z≤c
structure Kd (p:Addr) (c:Int) (H H':Hp):Prop where
  deck:Deck H' p c
  keep:∀ b o,b≠p→H b=some o→H' b=some o
section
variable {p q:Addr} {H H1 H2:Hp} {o:HO} {c d:Int}
theorem Deck.mono (h:Deck H p c) (e:c≤d):Deck H p d:=let ⟨x,y,z,a,b,f⟩:=h;⟨x,y,z,a,b,Int.le_trans f e⟩
theorem Kd.mono (h:Kd p c H H1) (e:c≤d):Kd p d H H1:=⟨h.deck.mono e,h.keep⟩
theorem Kd.refl (h:Deck H p c):Kd p c H H:=⟨h,fun _ _ _ e=>e⟩
theorem Kd.trans (a:Kd p c H H1) (b:Kd p d H1 H2):Kd p d H H2:=⟨b.deck,fun k u hc e=>b.keep k u hc (a.keep k u hc e)⟩
theorem Kd.new (a:Kd p c H H1) (hq:H1 q=none):Kd p c H (upd H1 q o):=by
  obtain ⟨⟨x,y,z,e,r⟩,k⟩:=a
  refine ⟨⟨x,y,z,by rw [upd_ne (ne_of_none e hq)];exact e,r⟩,fun b u hc h=>?_⟩
  have:=k b u hc h
  rw [upd_ne (ne_of_none this hq)];exact this
theorem Kd.write (a:Kd p c H H1) (hq:H q=none) (hp:q≠p):Kd p c H (upd H1 q o):=by
  obtain ⟨⟨x,y,z,e,r⟩,k⟩:=a
  refine ⟨⟨x,y,z,by rw [upd_ne (Ne.symm hp)];exact e,r⟩,fun b u hc h=>?_⟩
  rw [upd_ne (ne_of_none h hq)];exact k b u hc h
theorem Deck.ne (h:Deck H p c) (hq:H q=none):q≠p:=by
  obtain ⟨x,y,z,e,_⟩:=h
  exact Ne.symm (ne_of_none e hq)
theorem Kd.same (a:Kd p c H H1) (s:Same H1 H2):Kd p c H H2:=by
  obtain ⟨⟨x,y,z,e,r⟩,k⟩:=a
  exact ⟨⟨x,y,z,s _ _ e,r⟩,fun b u hc h=>s _ _ (k b u hc h)⟩
theorem Kd.fresh (a:Kd p c H H1) (hq:H1 q=none):H q=none:=by
  cases e:H q with
  | none=>rfl
  | some u=>
    have:=a.keep q u (a.deck.ne hq) e
    rw [hq] at this;cases this
theorem ne_deck {o:HO} (h:Deck H p c) (e:H q=some o) (ho:∀ x y z:Int,o≠.lst [.int x,.int y,.int z]):q≠p:=fun k=>by
  obtain ⟨x,y,z,hp,_⟩:=h
  subst k
  rw [hp] at e
  exact ho x y z (Option.some.inj e).symm
end
end L2
namespace L2
open PySem PySem.Spec PyProof.Rows
section
variable {X:Cx}
theorem op_ne_lst (hu:X.A.units < cLine):OpR X (compareOp .NotEq) (fun x y H Q=>∃ a b xs ys,x=.ref a∧y=.ref b∧SqL X.K H a xs∧SqL X.K H b ys∧xs.all flatV=true∧ys.all flatV=true∧Q (.bl (!eqVs xs ys)) H):=by
  intro pins s σ H x y v u Q I rx ry h
  obtain ⟨a,b,xs,ys,rfl,rfl,h1,h2,f1,f2,q⟩:=h
  cases (show v=Value.ref a from rx)
  cases (show u=Value.ref b from ry)
  obtain ⟨us,r1,l1,_⟩:=I.list h1
  obtain ⟨ws,r2,l2,_⟩:=I.list h2
  have e1:=r1.length
  have e2:=r2.length
  by_cases hl:xs.length=ys.length
  · refine SeqAt.RcNeAt.lists (e:=eqAtJ xs ys) l1.isList l2.isList (by simp;omega) hu (fun j g1 g2=>eqAt_items r1 r2 f1 f2 j g1 g2) _ _ _ _ ⟨.bl _,H,I,rfl,?_⟩
    have:eqVs xs ys=(List.range us.toArray.size).all (eqAtJ xs ys):=by
      unfold eqVs
      rw [List.size_toArray,← e1,beq_iff_eq.mpr hl,Bool.true_and]
    rw [← this];exact q
  · refine SeqAt.RcNeAt.lists_lengths l1.isList l2.isList (by simp;omega) hu _ _ _ _ ⟨.bl _,H,I,rfl,?_⟩
    have:eqVs xs ys=false:=by
      unfold eqVs
      have:(xs.length == ys.length)=false:=by simpa using hl
      rw [this];rfl
    rw [this] at q;exact q
end
end L2
namespace L2
open PySem PySem.Spec PyProof.Rows
section
variable {X:Cx}
theorem range_all (bs:List Bool):(List.range bs.length).all (fun i=>bs.getD i true)=bs.all id:=by
  rw [Bool.eq_iff_iff,List.all_eq_true,List.all_eq_true]
  constructor
  · intro h b hb
    obtain ⟨i,hi,rfl⟩:=List.getElem_of_mem hb
    have:=h i (List.mem_range.mpr hi)
    rw [List.getD_eq_getElem?_getD,List.getElem?_eq_getElem hi] at this
    exact this
  · intro h i hi
    have hi':=List.mem_range.mp hi
    rw [List.getD_eq_getElem?_getD,List.getElem?_eq_getElem hi']
    exact h _ (List.getElem_mem hi')
theorem call_all (hc:X.calm=true):CallR X (.builtin "all") (fun vs H Q=>∃ (a:Addr) (bs:List Bool),vs=[.ref a]∧SqL X.K H a (bs.map V.bl)∧Q (.bl (bs.all id)) H):=by
  intro pins s σ H xs us Q I r h
  obtain ⟨a,bs,rfl,hl,q⟩:=h
  obtain ⟨u,rfl,ru⟩:=vals1 r
  cases (show u=Value.ref a from ru)
  obtain ⟨its,rv,ht,hz⟩:=I.list hl
  have hlen:=rv.length
  rw [List.length_map] at hlen
  have hh:X.A.in1.handled=none:=I.ok.hd hc
  have hlt:a < s.heap.objs.size:=by obtain ⟨o,e,_⟩:=ht.isList;exact Heap.lt_size e
  refine call_all_walk (wpAny_pyIter_list ht.isList ⟨s.heap.objs.size,_,_,_,_,_,fun i=>bs.getD i true,rfl,Walks.list hh s.heap.objs.size a (Nat.ne_of_lt hlt) its.toArray,?_,?_,?_⟩)
  · exact ⟨⟨_,Heap.get?_push_size _ rfl,rfl,rfl⟩,Heap.IsList.push ht.isList _⟩
  · intro i v s' Q' E' hv hQ
    have hv':its[i]?=some v:=by simpa using hv
    have hi:i < (bs.map V.bl).length:=by rw [List.length_map,hlen];exact (List.getElem?_eq_some_iff.mp hv').1
    obtain ⟨u',e1,e2⟩:=rv.get (List.getElem?_eq_getElem hi)
    rw [hv'] at e1
    cases e1
    rw [List.getElem_map] at e2
    cases (show v=Value.bool _ from e2)
    refine wpAny_truthy_bool ?_
    have hb:bs.getD i true=bs[i]'(by simpa using hi):=by rw [List.getD_eq_getElem?_getD,List.getElem?_eq_getElem (by simpa using hi)];rfl
    rw [← hb]
    exact hQ
  · intro h' tk hk
    refine ⟨.bl (bs.all id),H,?_,?_,q⟩
    · exact I.kept (t':=tk) fun b o e=>hk b o (by simp;exact Nat.ne_of_lt (Heap.lt_size e)) (Heap.get?_push_of_some _ e)
    · show Value.bool _=Value.bool _
      rw [← range_all,hlen,List.size_toArray]
end
end L2
namespace L2
open PySem.W PyProof.Rows
section
variable {α β:Type} {n:Nat} {lt:Nat→Nat→Bool}
structure TotB (n:Nat) (lt:Nat→Nat→Bool):Prop where
  asym:∀ i j,lt i j=true→lt j i=false
  tr:∀ i j k,lt j i=false→lt k j=false→lt k i=false
  tot:∀ i j,i < n→j < n→lt i j=false→lt j i=false→i=j
def PermN (n:Nat) (p:Array Nat):Prop:=p.toList.Perm (List.range n)
theorem PermN.sz {p:Array Nat} (h:PermN n p):p.size=n:=by
  have:=List.Perm.length_eq h
  simpa using this
theorem PermN.below {p:Array Nat} (h:PermN n p) (h0:0 < n) (k:Nat):p.getD k 0 < n:=by
  rw [Array.getD_eq_getD_getElem?]
  cases e:p[k]? with
  | none=>exact h0
  | some x=>
    have:x∈p.toList:=by
      have:=Array.mem_of_getElem? e
      exact Array.mem_toList_iff.mpr this
    exact List.mem_range.mp ((List.Perm.mem_iff h).mp this)
theorem PermN.inj {p:Array Nat} (h:PermN n p) {i j:Nat} (hi:i < n) (hj:j < n) (e:p.getD i 0=p.getD j 0):i=j:=by
  have nd:p.toList.Nodup:=(List.Perm.nodup_iff h).mpr List.nodup_range
  have s:=h.sz
  have hi':i < p.toList.length:=by rw [Array.length_toList,s];exact hi
  have hj':j < p.toList.length:=by rw [Array.length_toList,s];exact hj
  rw [Array.getD_eq_getD_getElem?,Array.getD_eq_getD_getElem?,Array.getElem?_eq_getElem (by omega),Array.getElem?_eq_getElem (by omega)] at e
  have e':p.toList[i]=p.toList[j]:=by simpa using e
  exact (List.getElem_inj nd).mp e'
variable (o:TotB n lt)
include o
end
open PySem PySem.Spec
def shV:V→Nat
  | .int _=>1
  | .str _=>2
  | _=>0
def ltV:V→V→Bool
  | .int i,.int j=>decide (i < j)
  | .str a,.str b=>decide (a.cps.toList < b.cps.toList)
  | _,_=>false
def lexV:List V→List V→Bool
  | x :: xs,y :: ys=>if x=y then lexV xs ys else ltV x y
  | [],_ :: _=>true
  | _,_=>false
theorem str_eq {a b:Str} (h:a.cps.toList=b.cps.toList):a=b:=by
  obtain ⟨x⟩:=a;obtain ⟨y⟩:=b
  have:x=y:=Array.toList_inj.mp h
  rw [this]
theorem two_kinds {x y:V} (hs:shV x=shV y) (h0:shV x≠0):(∃ i j,x=.int i∧y=.int j)∨∃ a b,x=.str a∧y=.str b:=by
  cases x <;> cases y <;> simp [shV] at hs h0 ⊢
theorem ltV_asym {x y:V} (h:ltV x y=true):ltV y x=false:=by
  cases x <;> cases y <;> simp [ltV] at h ⊢
  · omega
  · exact List.not_lt.mp (List.lt_asymm h)
theorem ltV_tot {x y:V} (hs:shV x=shV y) (h0:shV x≠0) (h1:ltV x y=false) (h2:ltV y x=false):x=y:=by
  rcases two_kinds hs h0 with ⟨i,j,rfl,rfl⟩ | ⟨a,b,rfl,rfl⟩
  · have h1':¬ i < j:=of_decide_eq_false h1
    have h2':¬ j < i:=of_decide_eq_false h2
    rw [show i=j by omega]
  · have h1':¬ a.cps.toList < b.cps.toList:=of_decide_eq_false h1
    have h2':¬ b.cps.toList < a.cps.toList:=of_decide_eq_false h2
    rw [str_eq (List.le_antisymm (List.not_lt.mp h2') (List.not_lt.mp h1'))]
theorem ltV_tr {x y z:V} (hs:shV x=shV y) (ht:shV y=shV z) (h0:shV x≠0) (h1:ltV y x=false) (h2:ltV z y=false):ltV z x=false:=by
  rcases two_kinds hs h0 with ⟨i,j,rfl,rfl⟩ | ⟨a,b,rfl,rfl⟩
  · rcases two_kinds ht (by simp [shV]) with ⟨_,k,e,rfl⟩ | ⟨_,_,e,_⟩
    · have h1':¬ j < i:=of_decide_eq_false h1
      cases e
      have h2':¬ k < j:=of_decide_eq_false h2
      exact decide_eq_false (by omega)
    · cases e
  · rcases two_kinds ht (by simp [shV]) with ⟨_,_,e,_⟩ | ⟨_,c,e,rfl⟩
    · cases e
    · cases e
      have h1':¬ b.cps.toList < a.cps.toList:=of_decide_eq_false h1
      have h2':¬ c.cps.toList < b.cps.toList:=of_decide_eq_false h2
      exact decide_eq_false (List.not_lt.mpr (List.le_trans (List.not_lt.mp h1') (List.not_lt.mp h2')))
theorem lexV_asym:∀ (xs ys:List V),lexV xs ys=true→lexV ys xs=false
  | x :: xs,y :: ys,h=>by
    unfold lexV at h ⊢
    by_cases e:x=y
    · rw [if_pos e] at h;rw [if_pos e.symm];exact lexV_asym xs ys h
    · rw [if_neg e] at h;rw [if_neg (Ne.symm e)];exact ltV_asym h
  | [],_ :: _,_=>rfl
  | [],[],h=>by cases h
  | _ :: _,[],h=>by cases h
theorem lexV_tot:∀ (xs ys:List V),xs.map shV=ys.map shV→0 ∉ xs.map shV→lexV xs ys=false→lexV ys xs=false→xs=ys
  | x :: xs,y :: ys,hs,h0,h1,h2=>by
    simp only [List.map_cons,List.cons.injEq] at hs
    simp only [List.map_cons,List.mem_cons,not_or] at h0
    unfold lexV at h1 h2
    by_cases e:x=y
    · rw [if_pos e] at h1;rw [if_pos e.symm] at h2
      rw [e,lexV_tot xs ys hs.2 h0.2 h1 h2]
    · rw [if_neg e] at h1;rw [if_neg (Ne.symm e)] at h2
      exact absurd (ltV_tot hs.1 (Ne.symm h0.1) h1 h2) e
  | [],[],_,_,_,_=>rfl
  | [],_ :: _,hs,_,_,_=>by cases hs
  | _ :: _,[],hs,_,_,_=>by cases hs
theorem lexV_tr:∀ (xs ys zs:List V),xs.map shV=ys.map shV→ys.map shV=zs.map shV→0 ∉ xs.map shV→lexV ys xs=false→lexV zs ys=false→lexV zs xs=false
  | x :: xs,y :: ys,z :: zs,hs,ht,h0,h1,h2=>by
    simp only [List.map_cons,List.cons.injEq] at hs ht
    simp only [List.map_cons,List.mem_cons,not_or] at h0
    unfold lexV at h1 h2 ⊢
    by_cases e:y=x
    · rw [if_pos e] at h1
      by_cases f:z=y
      · rw [if_pos f] at h2;rw [if_pos (f.trans e)];exact lexV_tr xs ys zs hs.2 ht.2 h0.2 h1 h2
      · rw [if_neg f] at h2;rw [if_neg (fun q=>f (q.trans e.symm)),← e];exact h2
    · rw [if_neg e] at h1
      by_cases f:z=y
      · rw [if_pos f] at h2;rw [if_neg (fun q=>e (f.symm.trans q)),f];exact h1
      · rw [if_neg f] at h2
        by_cases g:z=x
        · exact absurd (ltV_tot hs.1.symm (by rw [← hs.1];exact Ne.symm h0.1) h1 (by rw [← g];exact h2)) e
        · rw [if_neg g];exact ltV_tr hs.1 ht.1 (Ne.symm h0.1) h1 h2
  | [],[],[],_,_,_,_,_=>rfl
  | [],_ :: _,_,hs,_,_,_,_=>by cases hs
  | _ :: _,[],_,hs,_,_,_,_=>by cases hs
  | [],[],_ :: _,_,ht,_,_,_=>by cases ht
  | _ :: _,_ :: _,[],_,ht,_,_,_=>by cases ht
structure Keys (n:Nat) (K:Nat→List V) (sh:List Nat):Prop where
  shp:∀ i,(K i).map shV=sh
  ne:sh≠[]
  z:0 ∉ sh
  inj:∀ i j,i < n→j < n→K i=K j→i=j
theorem Keys.tot {n:Nat} {K:Nat→List V} {sh:List Nat} (k:Keys n K sh):TotB n (fun i j=>lexV (K i) (K j)) where
  asym:=fun i j h=>lexV_asym _ _ h
  tr:=fun i j l h1 h2=>lexV_tr _ _ _ ((k.shp i).trans (k.shp j).symm) ((k.shp j).trans (k.shp l).symm) (by rw [k.shp];exact k.z) h1 h2
  tot:=fun i j hi hj h1 h2=>k.inj i j hi hj (lexV_tot _ _ ((k.shp i).trans (k.shp j).symm) (by rw [k.shp];exact k.z) h1 h2)
section
variable {prog:Program} {w:World} {A:Around} {E:Value→Shared→Prop} {s:Shared} {Q:Bool→Shared→Prop}
def KeysOn (h:Heap) (ks:List Value) (K:Nat→List V):Prop:=∀ (i:Nat) (v:Value),ks[i]?=some v→∃ a its,v=.ref a∧IsTup h a its.toArray∧Vals (K i) its
theorem KeysOn.keeps {h h':Heap} {ks:List Value} {K:Nat→List V} (x:KeysOn h ks K) (k:∀ b o,o.cls=.type "tuple" → h.get? b=some o→h'.get? b=some o):KeysOn h' ks K:=fun i v hv=>by
  obtain ⟨a,its,rfl,⟨o,ho,hc,r⟩,q⟩:=x i v hv
  exact ⟨a,its,rfl,⟨o,k _ _ hc ho,hc,r⟩,q⟩
variable {n:Nat} {K:Nat→List V} {sh:List Nat} {ks:List Value}
end
end L2
namespace L2
open PySem PySem.Spec PyProof.Rows PySem.W
def codeO (c:Addr) (qual:Str):HO:=.ext fun h=>h.CodeRec (.ref c) qual
def LamAt (P:Addr) (lp:Pos) (qual:Str) (H:Hp):Prop:=∃ ps,H P=some (.tbl ps)∧TriplesOk ps.toList∧(codeAmong lp ps.toList=none∨∃ c,codeAmong lp ps.toList=some (.ref c)∧H c=some (codeO c qual))
abbrev Lm:=Addr × Pos × Str
def Lams (ls:List Lm) (H:Hp):Prop:=∀ l∈ls,LamAt l.1 l.2.1 l.2.2 H
structure Kt (ls:List Lm) (H H':Hp):Prop where
  lam:Lams ls H'
  keep:∀ b o,(∀ ps,o≠.tbl ps)→H b=some o→H' b=some o
  here:∀ b,H' b=none→H b=none
section
variable {P q:Addr} {lp:Pos} {qual:Str} {H H1 H2:Hp} {o:HO} {ls:List Lm} {xs:List V}
theorem LamAt.same (a:LamAt P lp qual H) (s:Same H H1):LamAt P lp qual H1:=by
  obtain ⟨ps,a,b,c⟩:=a
  refine ⟨ps,s _ _ a,b,?_⟩
  rcases c with c | ⟨d,c,e⟩
  · exact .inl c
  · exact .inr ⟨d,c,s _ _ e⟩
theorem LamAt.start (h:H P=some (.tbl #[])):LamAt P lp qual H:=⟨#[],h,trivial,.inl rfl⟩
theorem Lams.same (a:Lams ls H) (s:Same H H1):Lams ls H1:=fun l hl=>(a l hl).same s
theorem LamAt.write (a:LamAt P lp qual H) (h:H q=some (.lst xs)):LamAt P lp qual (upd H q o):=by
  obtain ⟨ps,a,b,c⟩:=a
  refine ⟨ps,by rw [upd_ne (ne_of a h (by intro z;cases z))];exact a,b,?_⟩
  rcases c with c | ⟨d,c,e⟩
  · exact .inl c
  · exact .inr ⟨d,c,by rw [upd_ne (ne_of e h (by intro z;cases z))];exact e⟩
theorem Kt.refl (a:Lams ls H):Kt ls H H:=⟨a,fun _ _ _ e=>e,fun _ e=>e⟩
theorem Kt.trans (a:Kt ls H H1) (b:Kt ls H1 H2):Kt ls H H2:=⟨b.lam,fun c u hc e=>b.keep c u hc (a.keep c u hc e),fun c e=>a.here c (b.here c e)⟩
theorem Kt.same (a:Kt ls H H1) (s:Same H1 H2):Kt ls H H2:=⟨a.lam.same s,fun c u hc e=>s _ _ (a.keep c u hc e),fun c e=>a.here c (s.free e)⟩
theorem Kt.of (s:Same H H1) (a:Lams ls H):Kt ls H H1:=(Kt.refl a).same s
theorem Kt.write (a:Kt ls H H1) (hq:H q=none) (h:H1 q=some (.lst xs)):Kt ls H (upd H1 q o):=
  ⟨fun l hl=>(a.lam l hl).write h,fun b u hb e=>by rw [upd_ne (ne_of_none e hq)];exact a.keep b u hb e,fun b e=>by
    by_cases z:b=q
    · rw [z,upd_same] at e;cases e
    · rw [upd_ne z] at e;exact a.here b e⟩
theorem Kt.lst (a:Kt ls H H1) (h:H q=some (.lst xs)):H1 q=some (.lst xs):=a.keep _ _ (fun _ z=>by cases z) h
theorem Kt.tup (a:Kt ls H H1) (h:H q=some (.tup xs)):H1 q=some (.tup xs):=a.keep _ _ (fun _ z=>by cases z) h
theorem Kt.seq {K:PySem.W.Frag} (a:Kt ls H H1) (h:SqL K H q xs):SqL K H1 q xs:=by
  rcases h with (h | ⟨ob,h⟩) | h
  · exact .inl (.inl (a.lst h))
  · exact .inl (.inr ⟨ob,a.keep _ _ (fun _ z=>by cases z) h⟩)
  · exact .inr h
end
section
variable {X:Cx} {pins:List (Addr × Obj)} {σ:St} {H:Hp} {s:Shared}
end
end L2
namespace L2
open PySem PySem.Spec PyProof.Rows PySem.W
structure TabAt (base:Heap) (mg:Str→Option Value) (nm:Str) (T:Addr):Prop where
  fn:∃ a o fd c,mg nm=some (.ref a)∧base.get? a=some o∧o.data=.func fd∧fd.code=.ref c∧CodeHd base c T
  blt:base.BuiltinsAt mg T
inductive Two {α β:Type} (R:α→β→Prop):List α→List β→Prop
  | nil:Two R [] []
  | cons {a b xs ys}:R a b→Two R xs ys→Two R (a :: xs) (b :: ys)
end L2
namespace L2
open PySem PySem.Spec PyProof.Rows PySem.W
end L2
namespace L2
open PySem PySem.Spec PyProof.Rows PySem.W
theorem ints_showable {ns:List Int} (h:∀ n∈ns,n.natAbs < 10 ^ 12):PyData.showable (.list (ns.map .int))=true:=by
  simp only [PyData.showable]
  refine PyData.showableAll_ints ns fun n hn=>?_
  rcases Nat.eq_zero_or_pos n.natAbs with z | z
  · rw [z];decide
  · exact (Nat.log2_lt (by omega)).mpr (Nat.lt_of_lt_of_le (Nat.lt_trans (h n hn) (show 10 ^ 12 < 2 ^ 40 by decide)) (Nat.pow_le_pow_right (by decide) (by decide)))
section
variable {X:Cx} {k:Nat}
theorem bt_repr:bootBuiltins "repr" = some (.builtin "repr"):=by kernel_rfl
end
end L2
namespace L2
open PySem PySem.Spec PyProof.Rows PySem.W
theorem SqL.keepS {K:PySem.W.Frag} {H H1:Hp} {q:Addr} {xs:List V} (h:SqL K H q xs) (s:Same H H1):SqL K H1 q xs:=by
  rcases h with (h | ⟨ob,h⟩) | h
  · exact .inl (.inl (s _ _ h))
  · exact .inl (.inr ⟨ob,s _ _ h⟩)
  · exact .inr h
end L2
namespace L2
open PySem PySem.Spec PyProof.Rows PySem.W
theorem weight_ints:∀ ns:List Int,(∀ n∈ns,n.natAbs < 10 ^ 12)→PyData.weightAll (ns.map .int)≤42 * ns.length
  | [],_=>by simp [PyData.weightAll]
  | n :: r,h=>by
    have a:=weight_ints r fun m hm=>h m (List.mem_cons_of_mem _ hm)
    have b:PyData.weight (.int n)≤41:=by
      simp only [PyData.weight]
      split
      · omega
      · rename_i z
        have nz:n.natAbs≠0:=fun e=>z (by rw [Int.natAbs_eq_zero.mp e];rfl)
        have:=(Nat.log2_lt nz (k:=40)).mpr (Nat.lt_trans (h n List.mem_cons_self) (by decide))
        omega
    simp only [List.map_cons,PyData.weightAll,List.length_cons]
    omega
section
variable {X:Cx} {k:Nat}
end
end L2
namespace L2
open PySem PySem.Spec PyProof.Rows PySem.W
def keyOf (e:Int × Value):Str:=match e.2 with | .str x _=>x | _=>Str.empty
structure SetS (w:World) (led:Bool) (es:Array (Int × Value)) (t:SetTable) (S:List Str):Prop where
  ent:∀ e∈es.toList,∃ x tk,e=(hashStr w x,Value.str x tk)
  nd:(es.toList.map keyOf).Nodup
  mem:∀ x,x∈es.toList.map keyOf ↔ x∈S
  fit:t.fits es.size=true
  led:t.led=led
  pl:es.size=0∨t.plain=false
theorem keyOf_perm {a b:List (Int × Value)} (p:a.Perm b):(a.map keyOf).Perm (b.map keyOf):=p.map _
theorem SetS.grow {w:World} {led:Bool} {es es':Array (Int × Value)} {t t':SetTable} {S:List Str} {x:Str} {tk:Tok} (h:SetS w led es t S) (nx:x ∉ S) (p:es'.toList.Perm (es.push (hashStr w x,.str x tk)).toList) (f:t'.fits es'.size=true) (l:t'.led=led) (q:t'.plain=false):SetS w led es' t' (S++[x]) where
  ent:=fun e he=>by
    have:=p.mem_iff.mp he
    rw [Array.toList_push] at this
    rcases List.mem_append.mp this with z | z
    · exact h.ent e z
    · exact ⟨x,tk,List.mem_singleton.mp z⟩
  nd:=by
    rw [(keyOf_perm p).nodup_iff,Array.toList_push,List.map_append,List.nodup_append]
    refine ⟨h.nd,by simp,fun a ha b hb=>?_⟩
    have hb':b=x:=by simpa [keyOf] using hb
    subst hb'
    exact fun e=>nx (by rw [← e];exact (h.mem a).mp ha)
  mem:=fun y=>by
    rw [(keyOf_perm p).mem_iff,Array.toList_push,List.map_append,List.mem_append,List.mem_append,h.mem y]
    simp [keyOf]
  fit:=f
  led:=l
  pl:=.inr q
structure SetA (w:World) (led:Bool) (h:Heap) (a:Addr) (S:List Str) (n:Nat):Prop where
  ex:∃ es ep t,h.get? a=some { cls:=.type "set", data:=.set es ep t }∧SetS w led es t S∧es.size≤n
section
variable {prog:Program} {w:World} {A:Around} {E:Value→Shared→Prop} {s:Shared}
end
end L2
namespace L2
open PySem PySem.Spec PyProof.Rows PySem.W
section
variable {prog:Program} {w:World} {A:Around} {E:Value→Shared→Prop} {s:Shared}
theorem SetA.keeps {led:Bool} {h h':Heap} {a:Addr} {S:List Str} {n:Nat} (x:SetA w led h a S n) (k:∀ o,h.get? a=some o→h'.get? a=some o):SetA w led h' a S n:=by
  obtain ⟨es,ep,t,e,r⟩:=x
  exact ⟨es,ep,t,k _ e,r⟩
theorem SetA.start {h:Heap} {a:Addr} {led:Bool} (e:h.get? a=some { cls:=.type "set", data:=.set #[] 0 (SetTable.fresh 0 0 led) }):SetA w led h a [] 0:=
  ⟨#[],0,_,e,⟨fun x hx=>by simp at hx,by simp,fun x=>by simp,by rfl,rfl,.inl rfl⟩,Nat.le_refl _⟩
theorem SetA.typeIs {led:Bool} {a:Addr} {S:List Str} {n:Nat} (x:SetA w led s.heap a S n):s.TypeIs (.ref a) "set" := by
  obtain ⟨es,ep,t,e,r⟩:=x
  exact ⟨_,e,rfl⟩
end
end L2
namespace L2
open PySem PySem.Spec PyProof.Rows PySem.W
section
variable {prog:Program} {w:World} {A:Around} {E:Value→Shared→Prop} {s:Shared}
end
end L2
namespace L2
open PySem PySem.Spec PyProof.Rows PySem.W
section
variable {prog:Program} {w:World} {A:Around} {E:Value→Shared→Prop}
variable {s:Shared}
end
end L2
namespace L2
open PySem PySem.Spec PyProof.Rows PySem.W
section
variable {prog:Program} {w:World} {A:Around}
end
end L2
namespace L2
open PySem PySem.Spec PyProof.Rows PySem.W
section
variable {prog:Program} {w:World} {A:Around} {E:Value→Shared→Prop} {s:Shared}
end
end L2
namespace L2
open PySem PySem.Spec PyProof.Rows PySem.W
section
variable {prog:Program} {w:World} {A:Around} {E:Value→Shared→Prop} {s:Shared}
end
end L2
namespace L2
open PySem PySem.Spec PyProof.Rows PySem.W
theorem Inv.drawn {X:Cx} {pins:List (Addr × Obj)} {σ:St} {H:Hp} {s:Shared} (I:Inv X pins σ H s) (d:Drawn):Inv X pins σ H { s with drawn:=d }:=
  ⟨I.ok,I.os,I.bare,I.base,I.loc,I.cell,I.free,I.freeC,I.pin,I.hok,I.len⟩
section
variable {X:Cx} {a:Expr} {ta:TA} {p p2 pos pos2:Pos}
end
end L2
namespace L2
open PySem PySem.Spec PyProof.Rows
section
variable {κ:Type} [DecidableEq κ]
def valV (kvs:List (κ × V)) (k:κ):Option V:=(kvs.find? fun kv=>decide (kv.1=k)).map (·.2)
def putK (kvs:List (κ × V)) (k:κ) (v:V):List (κ × V):=
  if (kvs.any fun kv=>decide (kv.1=k))=true then kvs.map (fun kv=>if kv.1=k then (kv.1,v) else kv) else kvs++[(k,v)]
def dropK (kvs:List (κ × V)) (k:κ):List (κ × V):=kvs.filter fun kv=>decide (kv.1≠k)
theorem valV_pos {p:κ × V} {r:List (κ × V)} {k:κ} (e:p.1=k):valV (p :: r) k=some p.2:=by simp [valV,List.find?_cons,e]
theorem valV_neg {p:κ × V} {r:List (κ × V)} {k:κ} (e:¬ p.1=k):valV (p :: r) k=valV r k:=by simp [valV,List.find?_cons,e]
theorem valV_any (k:κ):∀ kvs:List (κ × V),(kvs.any fun kv=>decide (kv.1=k))=(valV kvs k).isSome
  | []=>rfl
  | p :: r=>by
    rw [List.any_cons]
    by_cases e:p.1=k
    · simp only [valV_pos e,decide_eq_true e,Bool.true_or,Option.isSome_some]
    · rw [valV_neg e,decide_eq_false e,Bool.false_or];exact valV_any k r
theorem length_putK (kvs:List (κ × V)) (k:κ) (v:V):(putK kvs k v).length≤kvs.length+1:=by
  unfold putK
  split
  · rw [List.length_map];omega
  · rw [List.length_append,List.length_cons,List.length_nil];omega
theorem RelO.isSome_eq {o:Option V} {u:Option Value} (r:RelO o u):o.isSome=u.isSome:=by
  cases o with
  | none=>cases u with
    | none=>rfl
    | some _=>exact (show False from r).elim
  | some _=>cases u with
    | none=>exact (show False from r).elim
    | some _=>rfl
theorem RelO.getD {o:Option V} {u:Option Value} {d:V} {d':Value} (r:RelO o u) (rd:RelV d d'):RelV (o.getD d) (u.getD d'):=by
  cases o with
  | none=>cases u with
    | none=>exact rd
    | some _=>exact (show False from r).elim
  | some _=>cases u with
    | none=>exact (show False from r).elim
    | some _=>exact r
theorem KV.val {kvs:List (κ × V)} {vs:List (κ × Value)} (r:KV kvs vs) (k:κ):RelO (valV kvs k) (valueAt vs k):=by
  unfold KV at r
  induction r with
  | nil=>exact True.intro
  | @cons p q ps qs h t ih=>
    obtain ⟨h1,h2⟩:=h
    by_cases e:p.1=k
    · have e':q.1=k:=h1.symm.trans e
      have b:valueAt (q :: qs) k=some q.2:=by simp [valueAt,List.find?_cons,e']
      rw [valV_pos e,b];exact h2
    · have e':¬ q.1=k:=fun z=>e (h1.trans z)
      have b:valueAt (q :: qs) k=valueAt qs k:=by simp [valueAt,List.find?_cons,e']
      rw [valV_neg e,b];exact ih
theorem KV.any {kvs:List (κ × V)} {vs:List (κ × Value)} (r:KV kvs vs) (k:κ):(kvs.any fun kv=>decide (kv.1=k))=vs.any fun kv=>decide (kv.1=k):=by
  unfold KV at r
  induction r with
  | nil=>rfl
  | cons h t ih=>rw [List.any_cons,List.any_cons,ih,h.1]
theorem KV.repl {kvs:List (κ × V)} {vs:List (κ × Value)} (r:KV kvs vs) (k:κ) {y:V} {u:Value} (ry:RelV y u) :
    KV (kvs.map fun kv=>if kv.1=k then (kv.1,y) else kv) (vs.map fun kv=>if kv.1=k then (kv.1,u) else kv):=by
  unfold KV at r ⊢
  induction r with
  | nil=>exact .nil
  | @cons p q ps qs h t ih=>
    rw [List.map_cons,List.map_cons]
    refine .cons ?_ ih
    obtain ⟨h1,h2⟩:=h
    by_cases e:p.1=k
    · rw [if_pos e,if_pos (h1.symm.trans e)];exact ⟨h1,ry⟩
    · rw [if_neg e,if_neg (fun z=>e (h1.trans z))];exact ⟨h1,h2⟩
theorem KV.put {kvs:List (κ × V)} {vs:List (κ × Value)} (r:KV kvs vs) (k:κ) {y:V} {u:Value} (ry:RelV y u):KV (putK kvs k y) (stored vs k u):=by
  unfold putK stored
  rw [r.any k]
  by_cases e:(vs.any fun kv=>decide (kv.1=k))=true
  · rw [if_pos e,if_pos e];exact r.repl k ry
  · rw [if_neg e,if_neg e];exact Paired.snoc r ⟨rfl,ry⟩
theorem KV.drop {kvs:List (κ × V)} {vs:List (κ × Value)} (r:KV kvs vs) (k:κ):KV (dropK kvs k) (without vs k):=by
  unfold KV at r ⊢
  unfold dropK without
  induction r with
  | nil=>exact .nil
  | @cons p q ps qs h t ih=>
    obtain ⟨h1,h2⟩:=h
    rw [List.filter_cons,List.filter_cons]
    by_cases e:p.1=k
    · have a:¬ decide (p.1≠k)=true:=by simp [e]
      have b:¬ decide (q.1≠k)=true:=by simp [h1.symm.trans e]
      rw [if_neg a,if_neg b];exact ih
    · have e':¬ q.1=k:=fun z=>e (h1.trans z)
      have a:decide (p.1≠k)=true:=by simp [e]
      have b:decide (q.1≠k)=true:=by simp [e']
      rw [if_pos a,if_pos b];exact .cons ⟨h1,h2⟩ ih
theorem KV.keys {kvs:List (κ × V)} {vs:List (κ × Value)} (r:KV kvs vs):kvs.map (·.1)=vs.map (·.1):=by
  unfold KV at r
  induction r with
  | nil=>rfl
  | cons h t ih=>rw [List.map_cons,List.map_cons,ih,h.1]
theorem KV.length {kvs:List (κ × V)} {vs:List (κ × Value)} (r:KV kvs vs):kvs.length=vs.length:=Paired.length r
end
theorem kV_is {P:Program} {w:World} {k:Key} {u:Value} (r:RelV (kV k) u):(mixKind P w).is k u=true:=by
  cases k with
  | inl i=>obtain ⟨t,e⟩:=(show ∃ t,u=Value.int i t from r);subst e;exact mixKind_int P w i t
  | inr x=>obtain ⟨t,e⟩:=(show ∃ t,u=Value.str x t from r);subst e;exact mixKind_str P w x t
abbrev KT (H:Hp):List (List Key × V)→List (List Key × Addr × Value)→Prop:=Paired fun p q=>p.1=q.1∧H q.2.1=some (.tup (p.1.map kV))∧RelV p.2 q.2.2
theorem KT.val {H:Hp} {kvs:List (List Key × V)} {xs:List (List Key × Addr × Value)} (r:KT H kvs xs) (k:List Key):RelO (valV kvs k) ((atKey xs k).map (·.2)):=by
  induction r with
  | nil=>exact True.intro
  | @cons p q ps qs h t ih=>
    obtain ⟨h1,_,h2⟩:=h
    by_cases e:p.1=k
    · have e':q.1=k:=h1.symm.trans e
      have b:atKey (q :: qs) k=some q.2:=by simp [atKey,List.find?_cons,e']
      rw [valV_pos e,b];exact h2
    · have e':¬ q.1=k:=fun z=>e (h1.trans z)
      have b:atKey (q :: qs) k=atKey qs k:=by simp [atKey,List.find?_cons,e']
      rw [valV_neg e,b];exact ih
theorem KT.repl {H:Hp} {kvs:List (List Key × V)} {xs:List (List Key × Addr × Value)} (r:KT H kvs xs) (k:List Key) {y:V} {u:Value} (ry:RelV y u) :
    KT H (kvs.map fun kv=>if kv.1=k then (kv.1,y) else kv) (xs.map (putAt k u)):=by
  induction r with
  | nil=>exact .nil
  | @cons p q ps qs h t ih=>
    rw [List.map_cons,List.map_cons]
    refine .cons ?_ ih
    obtain ⟨h1,h2,h3⟩:=h
    unfold putAt
    by_cases e:p.1=k
    · rw [if_pos e,if_pos (h1.symm.trans e)];exact ⟨h1,h2,ry⟩
    · rw [if_neg e,if_neg (fun z=>e (h1.trans z))];exact ⟨h1,h2,h3⟩
theorem KT.put {H:Hp} {kvs:List (List Key × V)} {xs:List (List Key × Addr × Value)} (r:KT H kvs xs) (k:List Key) {b:Addr} {y:V} {u:Value} (hb:H b=some (.tup (k.map kV))) (ry:RelV y u) :
    KT H (putK kvs k y) (storedH xs k b u):=by
  have e:(kvs.any fun kv=>decide (kv.1=k))=(atKey xs k).isSome:=by
    rw [valV_any,(r.val k).isSome_eq,Option.isSome_map]
  unfold putK storedH
  rw [e]
  by_cases q:(atKey xs k).isSome=true
  · rw [if_pos q,if_pos q];exact r.repl k ry
  · rw [if_neg q,if_neg q];exact Paired.snoc r ⟨rfl,hb,ry⟩
theorem KT.keeps {H H':Hp} {kvs:List (List Key × V)} {xs:List (List Key × Addr × Value)} (r:KT H kvs xs) (ht:∀ b ys,H b=some (.tup ys)→H' b=some (.tup ys)):KT H' kvs xs:=
  Paired.mapP r fun _ _ z=>⟨z.1,ht _ _ z.2.1,z.2.2⟩
section
variable {P:Program} {w:World} {H:Hp} {h:Heap} {a:Addr}
theorem rd_of {u:HO} (ok:HOk P w H h) (e:Rd H a u):ObjOk P w H h a u:=e.ok ok
theorem dk_rd {kvs:List (Key × V)} (ok:HOk P w H h) (e:Rd H a (.dK kvs)):kvs.length≤sizeLine∧(a == sysModules)=false∧∃ vs,KV kvs vs∧h.DictOf (mixKind P w) a vs:=
  show ObjOk P w H h a (.dK kvs) from rd_of ok e
theorem dk_of {kvs:List (Key × V)} (ok:HOk P w H h) (e:H a=some (.dK kvs)):kvs.length≤sizeLine∧(a == sysModules)=false∧∃ vs,KV kvs vs∧h.DictOf (mixKind P w) a vs:=dk_rd ok (.inl e)
end
def DGet (H:Hp) (a:Addr) (y:V) (r:Option V):Prop:=
  (∃ kvs k,Rd H a (.dK kvs)∧y=kV k∧r=valV kvs k)∨∃ kvs k b,Rd H a (.dT kvs)∧y=.ref b∧H b=some (.tup (k.map kV))∧r=valV kvs k
def DPut (H:Hp) (a:Addr) (y v:V) (H':Hp):Prop:=
  (∃ kvs k,H a=some (.dK kvs)∧y=kV k∧kvs.length < sizeLine∧H'=upd H a (.dK (putK kvs k v))) ∨
  ∃ kvs k b,H a=some (.dT kvs)∧y=.ref b∧H b=some (.tup (k.map kV))∧kvs.length < sizeLine∧H'=upd H a (.dT (putK kvs k v))
theorem DGet.k {H:Hp} {a:Addr} {kvs:List (Key × V)} {k:Key} (e:H a=some (.dK kvs)):DGet H a (kV k) (valV kvs k):=.inl ⟨kvs,k,.inl e,rfl,rfl⟩
theorem DGet.t {H:Hp} {a b:Addr} {kvs:List (List Key × V)} {k:List Key} (e:H a=some (.dT kvs)) (eb:H b=some (.tup (k.map kV))):DGet H a (.ref b) (valV kvs k):=.inr ⟨kvs,k,b,.inl e,rfl,eb,rfl⟩
theorem DPut.k {H:Hp} {a:Addr} {kvs:List (Key × V)} {k:Key} {v:V} (e:H a=some (.dK kvs)) (hl:kvs.length < sizeLine):DPut H a (kV k) v (upd H a (.dK (putK kvs k v))):=.inl ⟨kvs,k,e,rfl,hl,rfl⟩
theorem DPut.t {H:Hp} {a b:Addr} {kvs:List (List Key × V)} {k:List Key} {v:V} (e:H a=some (.dT kvs)) (eb:H b=some (.tup (k.map kV))) (hl:kvs.length < sizeLine) :
    DPut H a (.ref b) v (upd H a (.dT (putK kvs k v))):=.inr ⟨kvs,k,b,e,rfl,eb,hl,rfl⟩
section
variable {X:Cx} {pins:List (Addr × Obj)} {σ:St} {H:Hp} {s:Shared} {a:Addr} {y v:V} {u r:Value} {o:Option V} {A:Around} {E:Value→Shared→Prop}
theorem Inv.big (I:Inv X pins σ H s):sysModules < s.heap.objs.size:=by
  have h:mainGlobals < s.heap.objs.size:=(I.mod.glob.keeps I.bk).lt
  exact Nat.lt_trans (by decide) h
theorem d_write {h':Heap} {t':Nat} {ob:HO} (I:Inv X pins σ H s) (mu:Mut (H a)) (hs:Heap.SameBut a s.heap h') (he:∃ q,h'.get? a=some q) (new:ObjOk X.prog X.w (upd H a ob) h' a ob) :
    Inv X pins σ (upd H a ob) { s with heap:=h',toks:=t' }:=
  I.write (x:=a) (e:=a) mu (.inl rfl) (fun b q hb z=>(hs.2 b hb).trans z) he new
theorem dk_new {P:Program} {w:World} {H':Hp} {h':Heap} {kvs:List (Key × V)} {vs:List (Key × Value)} (z:kvs.length≤sizeLine) (hd:(a == sysModules)=false) (rel:KV kvs vs) (dd:h'.DictOf (mixKind P w) a vs) :
    ObjOk P w H' h' a (.dK kvs):=⟨z,hd,vs,rel,dd⟩
end
section
variable {X:Cx} {pins:List (Addr × Obj)} {σ:St} {H:Hp} {s:Shared} {a:Addr} {kvs:List (Key × V)} {k:Key} {u:Value} {A:Around} {E:Value→Shared→Prop}
end
section
variable {X:Cx} {o i e value:Expr} {pos pos' tpos:Pos} {td ty tv:TE}
end
theorem dk_empty {P:Program} {w:World} {H:Hp} (h:Heap) (hb:sysModules < h.objs.size):ObjOk P w H (h.push { cls:=.type "dict", data:=.dict #[] }) h.objs.size (.dK []):=
  ⟨Nat.zero_le _,beq_eq_false_iff_ne.mpr (Ne.symm (Nat.ne_of_lt hb)),[],.nil,Heap.DictOf.new h⟩
def tDNewK:TE:=fun _ H Q=>∀ p,H p=none→Q (.ref p) (upd H p (.dK []))
section
variable {X:Cx} {pos:Pos}
theorem pe_dnewK:PE X (.Dict [] [] pos) tDNewK:=fun pins s σ H Q I h=>
  wpAny_Dict_empty ⟨.ref s.heap.objs.size,_,I.laid (a:=s.heap.objs.size) (o:=.dK []) (t':=s.toks) (fun _ _ q=>Heap.get?_push_of_some _ q) (Nat.le_refl _) (dk_empty s.heap I.big),rfl,h _ (I.hok.fresh (Nat.le_refl _))⟩
end
def tPairs:List (TE × TE)→St→Hp→(List (V × V)→Hp→Prop)→Prop
  | [],_,H,Q=>Q [] H
  | (tk,tv) :: r,σ,H,Q=>tk σ H fun x H1=>tv σ H1 fun y H2=>tPairs r σ H2 fun ps H3=>Q ((x,y) :: ps) H3
abbrev VV:List (V × V)→List (Value × Value)→Prop:=Paired fun p q=>RelV p.1 q.1∧RelV p.2 q.2
def PPs (X:Cx) (pos:Pos) (keys:List (Option Expr)) (values:List Expr) (trs:List (TE × TE)):Prop:=
  ∀ (pins:List (Addr × Obj)) (s:Shared) (σ:St) (H:Hp) (Q:List (V × V)→Hp→Prop),Inv X pins σ H s→tPairs trs σ H Q →
    wpAny (model X.prog X.w) X.A (evalPairs (pairTrees keys values X.env pos)) (fun vs s'=>∃ ps H',Inv X pins σ H' s'∧VV ps vs∧Q ps H') X.xe s
theorem pps_nil {X:Cx} {pos:Pos}:PPs X pos [] [] []:=fun pins s σ H Q I h=>pairTrees_nil_walk ⟨[],H,I,.nil,h⟩
theorem pps_cons {X:Cx} {pos:Pos} {k v:Expr} {ks:List (Option Expr)} {vs:List Expr} {tk tv:TE} {trs:List (TE × TE)} (hk:PE X k tk) (hv:PE X v tv) (hr:PPs X pos ks vs trs) :
    PPs X pos (some k :: ks) (v :: vs) ((tk,tv) :: trs):=fun pins s σ H Q I h=>
  pairTrees_cons_walk (thn (hk pins s σ H _ I h) fun u s1 ⟨x,H1,I1,rx,q1⟩=>thn (hv pins s1 σ H1 _ I1 q1) fun w2 s2 ⟨y,H2,I2,ry,q2⟩=>
    thn (hr pins s2 σ H2 _ I2 q2) fun ws s3 ⟨ps,H3,I3,rel,q3⟩=>⟨(x,y) :: ps,H3,I3,.cons ⟨rx,ry⟩ rel,q3⟩)
def mergeK (kvs more:List (Key × V)):List (Key × V):=more.foldl (fun acc kv=>putK acc kv.1 kv.2) kvs
theorem KV.merge:∀ {more:List (Key × V)} {rs:List (Key × Value)} {kvs:List (Key × V)} {vs:List (Key × Value)},KV more rs→KV kvs vs→KV (mergeK kvs more) (merged vs rs):=by
  intro more rs kvs vs r
  unfold KV at r
  induction r generalizing kvs vs with
  | nil=>intro q;exact q
  | @cons p q ps qs h t ih=>
    intro r0
    have e:KV (putK kvs p.1 p.2) (stored vs q.1 q.2):=by
      have:=r0.put p.1 h.2
      rw [← h.1];exact this
    exact ih e
theorem length_mergeK:∀ (more kvs:List (Key × V)),(mergeK kvs more).length≤kvs.length+more.length
  | [],kvs=>by show kvs.length≤kvs.length+0;omega
  | p :: r,kvs=>by
    have h1:=length_mergeK r (putK kvs p.1 p.2)
    have h2:=length_putK kvs p.1 p.2
    show (mergeK (putK kvs p.1 p.2) r).length≤_
    rw [List.length_cons];omega
theorem carries_of {P:Program} {w:World}:∀ {kvs:List (Key × V)} {ws:List (Value × Value)},VV (kvs.map fun kv=>(kV kv.1,kv.2)) ws→∃ rs,Carries (mixKind P w) ws rs∧KV kvs rs
  | [],_,r=>by rw [List.map_nil] at r;cases r;exact ⟨[],True.intro,.nil⟩
  | p :: kvs,_,r=>by
    rw [List.map_cons] at r
    cases r with
    | @cons a b as bs h t=>
      obtain ⟨rs,c,q⟩:=carries_of (P:=P) (w:=w) t
      obtain ⟨b1,b2⟩:=b
      exact ⟨(p.1,b2) :: rs,⟨kV_is h.1,rfl,c⟩,.cons ⟨rfl,h.2⟩ q⟩
def tDisp (trs:List (TE × TE)):TE:=fun σ H Q=>∀ p,H p=none→tPairs trs σ (upd H p (.dK [])) fun ps H2=>H2 p=some (.dK [])∧∃ kvs:List (Key × V),ps=kvs.map (fun kv=>(kV kv.1,kv.2))∧kvs.length≤15∧Q (.ref p) (upd H2 p (.dK (mergeK [] kvs)))
theorem pe_disp {X:Cx} {pos:Pos} {keys:List (Option Expr)} {values:List Expr} {trs:List (TE × TE)} (h:PPs X pos keys values trs) (hall:keys.all (·.isSome)=true) (hl:keys.length=values.length) (h0:keys≠[])
    (h15:keys.length≤15):PE X (.Dict keys values pos) (tDisp trs):=by
  intro pins s σ H Q I q
  have hn:=I.hok.fresh (Nat.le_refl s.heap.objs.size)
  have I1:=I.laid (a:=s.heap.objs.size) (o:=.dK []) (h':=s.heap.push { cls:=.type "dict", data:=.dict #[] }) (t':=s.toks) (fun _ _ q=>Heap.get?_push_of_some _ q) (Nat.le_refl _) (dk_empty s.heap I.big)
  refine wpAny_Dict_walk (knd:=mixKind X.prog X.w) hall hl h0 h15 (thn (h pins _ σ _ _ I1 (q _ hn)) fun ws s2 ⟨ps,H2,I2,rel,e,kvs,ep,lk,q2⟩=>?_)
  subst ep
  obtain ⟨rs,c,rk⟩:=carries_of (P:=X.prog) (w:=X.w) rel
  obtain ⟨z,hd,vs0,r0,dd⟩:=dk_of I2.hok e
  cases r0
  refine ⟨rs,c,dd,fun h' dd' hs=>⟨.ref s.heap.objs.size,_,?_,rfl,q2⟩⟩
  have hz:(mergeK [] kvs).length≤sizeLine:=by
    have h1:=length_mergeK kvs []
    rw [List.length_nil] at h1
    rw [sizeLine_eq];omega
  have he:∃ q,h'.get? s.heap.objs.size=some q:=let ⟨q,_,_,hq,_⟩:=dd';⟨q,hq⟩
  exact d_write I2 (by rw [e];exact True.intro) hs he (dk_new hz hd (rk.merge .nil) dd')
structure M1 (X:Cx) (o:Expr) (m:Str) (apos:Pos) (e:Expr) (cpos:Pos):Prop where
  base:attributeBase o m X.env (eval o X.env)=eval o X.env
  few:((backTo cpos (starEach [e] X.env)).all (fun x=>!x.1) && (backToKw cpos (keywordEach [] X.env)).all (fun x=>x.1.isSome)
    && decide (([e]:List Expr).length+([]:List Keyword).length+(if ([]:List Keyword).isEmpty then 0 else 1) < 30))=true
  line:(apos.endLine == cpos.line)=true
  trees:backTo cpos (starEach [e] X.env)=[(false,eval e X.env)]
structure M2 (X:Cx) (o:Expr) (m:Str) (apos:Pos) (e f:Expr) (cpos:Pos):Prop where
  base:attributeBase o m X.env (eval o X.env)=eval o X.env
  few:((backTo cpos (starEach [e,f] X.env)).all (fun x=>!x.1) && (backToKw cpos (keywordEach [] X.env)).all (fun x=>x.1.isSome)
    && decide (([e,f]:List Expr).length+([]:List Keyword).length+(if ([]:List Keyword).isEmpty then 0 else 1) < 30))=true
  line:(apos.endLine == cpos.line)=true
  trees:backTo cpos (starEach [e,f] X.env)=[(false,eval e X.env),(false,eval f X.env)]
section
variable {X:Cx} {pins:List (Addr × Obj)} {σ:St} {H:Hp} {s:Shared} {a:Addr} {y d:V} {u r:Value} {o:Option V} {A:Around} {E:Value→Shared→Prop}
end
section
variable {X:Cx} {o e f:Expr} {apos cpos:Pos} {td ty tx:TE}
end
section
variable {X:Cx} {pins:List (Addr × Obj)} {σ:St} {H:Hp} {s:Shared} {a:Addr} {kvs:List (Key × V)} {A:Around} {E:Value→Shared→Prop}
end
section
variable {X:Cx} {pins:List (Addr × Obj)} {σ:St} {H:Hp} {s:Shared} {a:Addr} {y:V} {u:Value} {A:Around} {E:Value→Shared→Prop}
end
end L2
namespace L2
open PySem PySem.Spec PyProof.Rows PySem.W
open MeetsSeq MeetsSeq2 MeetsSeq3 SeqRoads2 SeqAt
section
variable {X:Cx} {tg:Expr}
end
section
theorem small10000 {n:Nat} (h:n < 10000):n < sizeLine:=by
  rw [sizeLine_eq];omega
theorem comp_big {J:It} {NL:List Str} {ix:List Nat} {g:TG} {tt:TT} {te:TE} {σ:St} {H1:Hp} {Qs:Hp→Prop} {acc:Addr} (n:Nat) (hn:n < 10000) (Pv:Nat→List V→Hp→Prop)
    (hacc:∀ i ys H2,Pv i ys H2→H2 acc=some (.lst ys)∧ys.length≤i) (h0:Pv 0 [] (upd H1 acc (.lst []))) (hstop:∀ ys H2,Pv n ys H2→J.stop n H2∧Qs H2)
    (hturn:∀ i ys H2,i < n→Pv i ys H2→J.go i H2∧∀ x H3,J.yld i H2 x H3→g x (comp0 NL ix σ) H3 fun σ' H4=>σ'.drop NL.length=ix.map (fun j=>σ.getD j none)∧tt σ' H4 fun b H5=>
      if b=true then te σ' H5 fun v H6=>H6 acc=some (.lst ys)∧Pv (i+1) (ys++[v]) (upd H6 acc (.lst (ys++[v]))) else Pv (i+1) ys H5) :
    ∃ W:Nat→Nat→List V→Hp→Prop,(∃ m,W 0 m [] (upd H1 acc (.lst []))) ∧
    ∀ i m ys H2,W i m ys H2→H2 acc=some (.lst ys)∧ys.length < sizeLine ∧
      ((J.stop i H2∧Qs H2)∨(J.go i H2∧∃ N:List V→Hp→Prop,(∀ ys' H',N ys' H'→∃ m',m' < m∧W (i+1) m' ys' H') ∧
        ∀ x H3,J.yld i H2 x H3→g x (comp0 NL ix σ) H3 fun σ' H4=>σ'.drop NL.length=ix.map (fun j=>σ.getD j none)∧tt σ' H4 fun b H5=>
          if b=true then te σ' H5 fun v H6=>H6 acc=some (.lst ys)∧N (ys++[v]) (upd H6 acc (.lst (ys++[v]))) else N ys H5)):=by
  refine ⟨fun i m ys H2=>i≤n∧m=n - i∧Pv i ys H2,⟨n,Nat.zero_le _,rfl,h0⟩,fun i m ys H2 ⟨hi,hm,hp⟩=>?_⟩
  obtain ⟨a1,a2⟩:=hacc i ys H2 hp
  refine ⟨a1,small10000 (by omega),?_⟩
  rcases Nat.lt_or_ge i n with lt | ge
  · obtain ⟨go,tn⟩:=hturn i ys H2 lt hp
    exact .inr ⟨go,Pv (i+1),fun ys' H' hN=>⟨n - (i+1),by omega,by omega,rfl,hN⟩,tn⟩
  · have e:i=n:=by omega
    subst e
    exact .inl (hstop ys H2 hp)
end
section
variable {NL:List Str} {ix:List Nat} {g:TG} {tt:TT} {te:TE} {σ:St} {H1:Hp} {Qs:Hp→Prop} {acc:Addr}
end
section
variable {X:Cx}
end
end L2
namespace L2
open PySem PySem.Spec PyProof.Rows PySem.W
end L2
namespace L2
open PySem PySem.Spec PyProof.Rows PySem.W
end L2
namespace L2
open PySem PySem.Spec PyProof.Rows PySem.W
section
variable {prog:Program} {w:World} {A:Around} {E:Value→Shared→Prop}
def DPrs (h:Heap) (D:Addr) (items:Array Value) (ps:List (Key × Value)):Prop:=
  ps.length=items.size∧∀ (j:Nat) (k:Key) (v:Value),ps[j]?=some (k,v)→∃ (a:Addr) (ku:Value),items[j]?=some (Value.ref a)∧a≠D∧RelV (kV k) ku∧IsTup h a #[ku,v]
theorem DPrs.keeps {h h':Heap} {D I:Addr} {items:Array Value} {ps:List (Key × Value)} (p:DPrs h D items ps) (nI:∀ a:Addr,Value.ref a∈items→a≠I) (k:∀ b o,b≠I→b≠D→h.get? b=some o→h'.get? b=some o):DPrs h' D items ps:=by
  refine ⟨p.1,fun j kk v e=>?_⟩
  obtain ⟨a,ku,ha,hD,hk,o,e1,e2⟩:=p.2 j kk v e
  exact ⟨a,ku,ha,hD,hk,o,k a o (nI a (Array.mem_of_getElem? ha)) hD e1,e2⟩
end
end L2
namespace L2
open PySem PySem.Spec PyProof.Rows PySem.W
section
variable {prog:Program} {w:World} {A:Around} {E:Value→Shared→Prop} {s:Shared}
end
end L2
namespace L2
open PySem PySem.Spec PyProof.Rows PySem.W
section
variable {X:Cx}
end
end L2
namespace Tim
open PySem PyProof.Rows
abbrev setG (st:SortSt) (g:Nat):SortSt:=SortSt.mk' (kindOf st) (arrOf st) (pendingOf st) g (failedOf st)
end Tim
namespace Tim
open PySem PyProof.Rows
section
variable {prog:Program} {w:World} {A:Around} {E:Value→Shared→Prop} {s:Shared} {a₀:Array Keyed} {κ:SortKind} {O:KeyOrd} {key:Keyed→O.α}
def mrg (key:Keyed→O.α):List Keyed→List Keyed→List Keyed
  | [],ys=>ys
  | x :: xs,[]=>x :: xs
  | x :: xs,y :: ys=>if O.blt (key y) (key x)=true then y :: mrg key (x :: xs) ys else x :: mrg key xs (y :: ys)
termination_by xs ys=>xs.length+ys.length
abbrev Srt (key:Keyed→O.α) (l:List Keyed):Prop:=l.Pairwise fun x y=>O.blt (key y) (key x)=false
end
end Tim
namespace Tim
open PySem PyProof.Rows
section
variable {prog:Program} {w:World} {A:Around} {E:Value→Shared→Prop} {s:Shared} {a₀:Array Keyed} {κ:SortKind} {O:KeyOrd} {key:Keyed→O.α}
structure Two (key:Keyed→O.α) (a₀ a b:Array Keyed):Prop where
  ma:∀ x∈a,x∈a₀
  mb:∀ x∈b,x∈a₀
  na:1≤a.size
  nb:1≤b.size
  sa:Srt key a.toList
  sb:Srt key b.toList
  fst:∀ x∈a,∀ y,b[0]?=some y→O.blt (key y) (key x)=true
  lst:∀ y∈b,∀ x,a[a.size - 1]?=some x→O.blt (key y) (key x)=true
def LoI (key:Keyed→O.α) (a b o:Array Keyed) (p q:Nat):Prop:=o.toList++mrg key (a.toList.drop p) (b.toList.drop q)=mrg key a.toList b.toList
section
variable {a b o:Array Keyed} {p q k:Nat} {x y:Keyed}
end
abbrev LSt:=Option (Array Keyed) × Array Keyed × Nat × Nat × Nat × Nat × Nat
structure GoesOn (key:Keyed→O.α) (a b:Array Keyed) (st:SortSt) (m:Nat) (R:ForInStep LSt→SortSt→Prop):Prop where
  fin:∀ (out:Array Keyed) c g,out.toList=mrg key a.toList b.toList→R (.done (some out,c)) (setG st g)
  brk:∀ o p q g c d g',LoI key a b o p q→p+1 < a.size→q < b.size→m≤p+q→R (.done (none,o,p,q,g,c,d)) (setG st g')
  yld:∀ o p q g c d g',LoI key a b o p q→p+1 < a.size→q < b.size→m≤p+q→R (.yield (none,o,p,q,g,c,d)) (setG st g')
section
variable {a b o:Array Keyed} {p q k g c d m g':Nat} {x y:Keyed} {st:SortSt} {R:ForInStep LSt→SortSt→Prop}
end
end
end Tim
namespace Tim
open PySem PyProof.Rows
section
variable {prog:Program} {w:World} {A:Around} {E:Value→Shared→Prop} {s:Shared} {a₀:Array Keyed} {κ:SortKind} {O:KeyOrd} {key:Keyed→O.α}
def HiI (key:Keyed→O.α) (a b o:Array Keyed) (p q:Nat):Prop:=mrg key (a.toList.take p) (b.toList.take q)++o.toList.reverse=mrg key a.toList b.toList
section
variable {a b o:Array Keyed} {p q f:Nat} {x y:Keyed}
end
abbrev HSt:=Option (Array Keyed) × Nat × Nat × Array Keyed × Nat × Nat × Nat
structure GoesHi (key:Keyed→O.α) (a b:Array Keyed) (st:SortSt) (m:Nat) (R:ForInStep HSt→SortSt→Prop):Prop where
  fin:∀ (out:Array Keyed) c g,out.toList=mrg key a.toList b.toList→R (.done (some out,c)) (setG st g)
  brk:∀ o p q g c d g',HiI key a b o p q→0 < p→p≤a.size→1 < q→q≤b.size→p+q≤m→R (.done (none,p,q,o,g,c,d)) (setG st g')
  yld:∀ o p q g c d g',HiI key a b o p q→0 < p→p≤a.size→1 < q→q≤b.size→p+q≤m→R (.yield (none,p,q,o,g,c,d)) (setG st g')
section
variable {a b o:Array Keyed} {p q k g c d m g':Nat} {x y:Keyed} {st:SortSt} {R:ForInStep HSt→SortSt→Prop}
end
end
end Tim
namespace Tim
open PySem PyProof.Rows
section
variable {prog:Program} {w:World} {A:Around} {E:Value→Shared→Prop} {s:Shared} {a₀:Array Keyed} {κ:SortKind} {O:KeyOrd} {key:Keyed→O.α}
theorem three (L:List Keyed) {u v:Nat} (h:u≤v):L=L.take u++(L.drop u).take (v - u)++L.drop v:=by
  have e:L.drop v=(L.drop u).drop (v - u):=by rw [List.drop_drop];congr 1;omega
  rw [e,List.append_assoc,List.take_append_drop,List.take_append_drop]
end
end Tim
namespace Tim
open PySem PyProof.Rows
section
variable {prog:Program} {w:World} {A:Around} {E:Value→Shared→Prop} {s:Shared} {a₀:Array Keyed} {κ:SortKind} {O:KeyOrd} {key:Keyed→O.α}
def Dist (key:Keyed→O.α) (a₀:Array Keyed):Prop:=(a₀.toList.map key).Nodup
theorem Dist.inj (D:Dist key a₀) {xs:Array Keyed} (h:xs.Perm a₀) {i j:Nat} {x y:Keyed} (ex:xs[i]?=some x) (ey:xs[j]?=some y) (h1:O.blt (key x) (key y)=false) (h2:O.blt (key y) (key x)=false):i=j:=by
  have nd:(xs.toList.map key).Nodup:=(List.Perm.nodup_iff ((Array.perm_iff_toList_perm.mp h).map key)).mpr D
  obtain ⟨g1,rfl⟩:=Array.getElem?_eq_some_iff.mp ex
  obtain ⟨g2,rfl⟩:=Array.getElem?_eq_some_iff.mp ey
  refine (List.getElem_inj (h₀:=by simpa using g1) (h₁:=by simpa using g2) nd).mp ?_
  rw [List.getElem_map,List.getElem_map,Array.getElem_toList,Array.getElem_toList]
  exact O.total _ _ h1 h2
end
end Tim
namespace L2
open PySem PySem.Spec PyProof.Rows PySem.W
section
variable {X:Cx}
variable {e st:Expr} {te:TE} {ts:TO} {pos p2:Pos}
end
def Itx (x:Str):It:=⟨fun i _=>i < x.cps.size,fun i H v H'=>H'=H∧∃ c,x.cps[i]?=some c∧v=.str ⟨#[c]⟩,fun i _=>x.cps.size≤i⟩
theorem turn_str {P:Program} {w:World} {K:PySem.W.Frag} {tg:Expr} (x:Str) (t:Tok) (it:Addr):Turn P w K tg (Itx x) [it] it (fun i h=>h.IsStrIter it (strIterType x) x t i) where
  mem:=by simp
  obj:=fun i h st b hb=>by
    have e:b=it:=by simpa using hb
    subst e
    obtain ⟨o,e,c,d⟩:=st
    exact ⟨o,e,fun v z=>by rw [d] at z;cases z⟩
  keep:=fun i h h' st k=>by
    obtain ⟨o,e,c,d⟩:=st
    exact ⟨o,k it (by simp) o e,c,d⟩
  item:=by
    intro X hP hw hK hc i pins s σ H E I hf st hg
    subst hP hw hK
    have hg:i < x.cps.size:=hg
    obtain ⟨f0,f1,f2,f3,f4,f5⟩:=hf it (by simp)
    have hx:x.cps[i]?=some (x.cps[i]'hg):=Array.getElem?_eq_getElem hg
    have go:∀ (h':Heap),h'.IsStrIter it (strIterType x) x t (i+1)→Heap.SameBut it s.heap h'→∃ u,some (Value.str ⟨#[x.cps[i]'hg]⟩ s.toks)=some u ∧
        wpAny (model X.prog X.w) X.A (letOwnedTupleGo tg (.ref it) u) (fun _ s2=>∃ v H',Inv X pins σ H' s2∧RelV v u∧(Itx x).yld i H v H'∧s2.heap.IsStrIter it (strIterType x) x t (i+1)∧∀ b∈[it],H' b=none) E { s with heap:=h',toks:=s.toks+1 }:=fun h' st' sb=>by
      have I1:Inv X pins σ H { s with heap:=h',toks:=s.toks+1 }:=I.turned (t':=s.toks+1) (fun b o hb e=>(sb.2 b hb).trans e) f0 f1 f3 f4 f5
      obtain ⟨o,e,c,d⟩:=id st'
      refine ⟨_,rfl,go_of (s:={ s with heap:=h',toks:=s.toks+1 }) e c d ?_ ⟨.str ⟨#[x.cps[i]'hg]⟩,H,I1,⟨_,rfl⟩,⟨rfl,_,hx,rfl⟩,st',fun b hb=>(hf b hb).1⟩⟩
      unfold strIterType
      split <;> decide
    cases c:x.cps.all (· < 128) with
    | true=>
      have e:strIterType x = "str_ascii_iterator" := by unfold strIterType;rw [c];rfl
      rw [e] at st
      exact wpAny_pyNext_ascii_item st hx fun h' st' sb=>go h' (by rw [e];exact st') sb
    | false=>
      have e:strIterType x = "str_iterator" := by unfold strIterType;rw [c];rfl
      rw [e] at st
      exact wpAny_pyNext_wide_item st hx fun h' st' sb=>go h' (by rw [e];exact st') sb
  done:=by
    intro X hP hw hK hc i pins s σ H E I hf st hg
    subst hP hw hK
    have hg:x.cps.size≤i:=hg
    obtain ⟨f0,f1,f2,f3,f4,f5⟩:=hf it (by simp)
    have hx:x.cps[i]?=none:=Array.getElem?_eq_none hg
    cases c:x.cps.all (· < 128) with
    | true=>
      have e:strIterType x = "str_ascii_iterator" := by unfold strIterType;rw [c];rfl
      rw [e] at st
      exact wpAny_pyNext_ascii_end (I.ok.hd hc) st hx fun h' eb=>⟨rfl,I.turned (t':=s.toks) (fun b o hb e=>eb b o hb e) f0 f1 f3 f4 f5⟩
    | false=>
      have e:strIterType x = "str_iterator" := by unfold strIterType;rw [c];rfl
      rw [e] at st
      exact wpAny_pyNext_wide_end (I.ok.hd hc) st hx fun h' eb=>⟨rfl,I.turned (t':=s.toks) (fun b o hb e=>eb b o hb e) f0 f1 f3 f4 f5⟩
  self:=fun _ _ _ _ _ st h=>by
    cases c:x.cps.all (· < 128) with
    | true=>
      have e:strIterType x = "str_ascii_iterator" := by unfold strIterType;rw [c];rfl
      rw [e] at st
      exact wpAny_pyIter_striter_ascii st h
    | false=>
      have e:strIterType x = "str_iterator" := by unfold strIterType;rw [c];rfl
      rw [e] at st
      exact wpAny_pyIter_striter_wide st h
section
variable {X:Cx} {tg:Expr}
def iStr (tl:TE):TI:=fun σ H R=>tl σ H fun x H1=>∃ z,x=.str z∧R (Itx z) H1
theorem pi_str {l:Expr} {tl:TE} (hl:PE X l tl):PI X tg l (iStr tl):=by
  intro pins s σ H R I h
  refine thn (hl pins s σ H _ I h) fun v s1 ⟨x,H1,I1,r1,q1⟩=>?_
  obtain ⟨z,rfl,q⟩:=q1
  obtain ⟨t,rfl⟩:=r1
  refine wpAny_pyIter_strU ?_
  refine ⟨s1.heap.objs.size,[s1.heap.objs.size],_,_,H1,rfl,I1.kept (t':=s1.toks) fun b o e=>Heap.get?_push_of_some _ e,turn_str z t _,⟨_,Heap.get?_push_size _ rfl,rfl,rfl⟩,fun b hb=>?_,q⟩
  have e:b=s1.heap.objs.size:=by simpa using hb
  subst e
  exact I1.fpOk (Nat.le_refl _) (I1.hok.fresh (Nat.le_refl _))
end
section
variable {NL:List Str} {ix:List Nat} {g:TG} {tt:TT} {te:TE} {σ:St} {H1:Hp} {Qs:Hp→Prop} {acc:Addr}
theorem comp_str {z:Str} (hn:z.cps.size < 10000) (Pv:Nat→List V→Hp→Prop)
    (hacc:∀ i ys H2,Pv i ys H2→H2 acc=some (.lst ys)∧ys.length≤i) (h0:Pv 0 [] (upd H1 acc (.lst []))) (hstop:∀ ys H2,Pv z.cps.size ys H2→Qs H2)
    (hturn:∀ i c ys H2,z.cps[i]?=some c→Pv i ys H2→g (.str ⟨#[c]⟩) (comp0 NL ix σ) H2 fun σ' H4=>σ'.drop NL.length=ix.map (fun j=>σ.getD j none)∧tt σ' H4 fun b H5=>
      if b=true then te σ' H5 fun v H6=>H6 acc=some (.lst ys)∧Pv (i+1) (ys++[v]) (upd H6 acc (.lst (ys++[v]))) else Pv (i+1) ys H5) :
    ∃ W:Nat→Nat→List V→Hp→Prop,(∃ m,W 0 m [] (upd H1 acc (.lst []))) ∧
    ∀ i m ys H2,W i m ys H2→H2 acc=some (.lst ys)∧ys.length < sizeLine ∧
      (((Itx z).stop i H2∧Qs H2)∨((Itx z).go i H2∧∃ N:List V→Hp→Prop,(∀ ys' H',N ys' H'→∃ m',m' < m∧W (i+1) m' ys' H') ∧
        ∀ x H3,(Itx z).yld i H2 x H3→g x (comp0 NL ix σ) H3 fun σ' H4=>σ'.drop NL.length=ix.map (fun j=>σ.getD j none)∧tt σ' H4 fun b H5=>
          if b=true then te σ' H5 fun v H6=>H6 acc=some (.lst ys)∧N (ys++[v]) (upd H6 acc (.lst (ys++[v]))) else N ys H5)):=by
  refine comp_big z.cps.size hn Pv hacc h0 (fun ys H2 hp=>⟨Nat.le_refl _,hstop ys H2 hp⟩) fun i ys H2 hi hp=>⟨hi,?_⟩
  rintro x H3 ⟨rfl,c,hc,rfl⟩
  exact hturn i c ys H3 hc hp
end
section
variable {X:Cx}
end
end L2
namespace L2
open PySem PySem.Spec PyProof.Rows
section
variable {X:Cx}
def rCatA (K:PySem.W.Frag):R2:=fun x y H Q=>∃ a b xs ys,x=.ref a∧y=.ref b∧SqT K H a xs∧SqT K H b ys∧xs.length+ys.length≤sizeLine ∧
  (xs=[]→Q (.ref b) H)∧(xs≠[]→ys=[]→Q (.ref a) H)∧(xs≠[]→ys≠[]→∀ p,H p=none→Q (.ref p) (upd H p (.tup (xs++ys))))
theorem cat_tup0 {prog:Program} {w:World} {A:Around} {E:Value→Shared→Prop} {s:Shared} {t b:Addr} {vs ws:List Value} {Q:Value→Shared→Prop} (ht:IsTup s.heap t vs.toArray) (hb:IsTup s.heap b ws.toArray) (hv:vs=[])
    (h:Q (.ref b) s):wpAny (model prog w) A (binaryOp .Add (.ref t) (.ref b)) Q E s:=by
  obtain ⟨⟨cls,dd,data,sl⟩,ho,hc,n,hd⟩:=id ht
  obtain ⟨⟨cls2,dd2,data2,sl2⟩,ho2,hc2,n2,hd2⟩:=id hb
  simp only at hc hd hc2 hd2
  subst hc hd hc2 hd2
  exact concat_meets ⟨_,ho,rfl⟩ ⟨_,ho2,rfl⟩ noFill_tuple_add seq_tuple_add PySem.F.slot_tuple_add PySem.F.entry_tuple_add (PySem.F.args_tuple_add_2 _ _)
      (tuple_addW0 t b vs.toArray ws.toArray n n2 dd dd2 sl sl2 (by simp [hv])) ⟨ho,ho2,h⟩
theorem op_catA:OpR X (binaryOp .Add) (rCatA X.K):=by
  intro pins s σ H x y v u Q I rx ry h
  obtain ⟨a,b,xs,ys,rfl,rfl,ha,hb,hz,q0,q1,q2⟩:=h
  by_cases hx:xs=[]
  · cases rx
    cases ry
    obtain ⟨its,r1,p1,_⟩:=I.tuple ha
    obtain ⟨its2,r2,p2,_⟩:=I.tuple hb
    exact cat_tup0 p1 p2 (r1.nil_iff.mpr hx) ⟨.ref b,H,I,rfl,q0 hx⟩
  · exact op_catT pins s σ H _ _ v u Q I rx ry ⟨a,b,xs,ys,rfl,rfl,ha,hb,hx,hz,q1 hx,q2 hx⟩
end
end L2
namespace L2
open PySem PySem.Spec PyProof.Rows PySem.W
def DPrsT (P:Program) (w:World) (h:Heap) (D:Addr) (items:Array Value) (ps:List (List Key × Addr × Value)):Prop:=
  ps.length=items.size∧∀ (j:Nat) (k:List Key) (b:Addr) (v:Value),ps[j]?=some (k,b,v)→∃ a:Addr,items[j]?=some (Value.ref a)∧a≠D∧b≠D∧IsTup h a #[.ref b,v]∧(tupleKind (mixKind P w)).is h k b
theorem DPrsT.keeps {P:Program} {w:World} {h h':Heap} {D I:Addr} {items:Array Value} {ps:List (List Key × Addr × Value)} (p:DPrsT P w h D items ps) (nI:∀ a:Addr,Value.ref a∈items→a≠I) (nIb:∀ (j:Nat) k b v,ps[j]?=some (k,b,v)→b≠I)
    (k:∀ b o,b≠I→b≠D→h.get? b=some o→h'.get? b=some o):DPrsT P w h' D items ps:=by
  refine ⟨p.1,fun j kk b v e=>?_⟩
  obtain ⟨a,ha,hD,hbD,⟨o,e1,e2⟩,o2,its,n,e3,r⟩:=p.2 j kk b v e
  exact ⟨a,ha,hD,hbD,⟨o,k a o (nI a (Array.mem_of_getElem? ha)) hD e1,e2⟩,o2,its,n,k b o2 (nIb j kk b v e) hbD e3,r⟩
section
variable {prog:Program} {w:World} {A:Around} {E:Value→Shared→Prop}
end
section
variable {prog:Program} {w:World} {A:Around} {E:Value→Shared→Prop} {s:Shared}
end
section
variable {X:Cx}
end
end L2
namespace L2
open PySem PySem.Spec PyProof.Rows
section
variable {X:Cx}
theorem op_isnotB:OpR X (compareOp .IsNot) (fun x y H Q=>∃ c d,x=.bl c∧y=.bl d∧Q (.bl (c != d)) H):=by
  intro pins s σ H x y v u Q I rx ry h
  obtain ⟨c,d,rfl,rfl,q⟩:=h
  cases rx
  cases ry
  exact isnot_bool (fin_bl I q rfl)
end
end L2
namespace L2
open PySem PySem.Spec PyProof.Rows
theorem ObjOk.obj {P:Program} {w:World} {H:Hp} {h:Heap} {a:Addr} {o:HO} (x:ObjOk P w H h a o):∃ u,h.get? a=some u:=by
  cases o with
  | lst xs=>obtain ⟨_,_,_,_,e⟩:=x;exact ⟨_,e⟩
  | tup xs=>obtain ⟨⟨_,o,e,_⟩,_⟩:=x;exact ⟨_,e⟩
  | dK kvs=>obtain ⟨_,_,_,_,o,_,_,e,_⟩:=x;exact ⟨_,e⟩
  | dT kvs=>obtain ⟨_,_,_,_,o,_,_,e,_⟩:=x;exact ⟨_,e⟩
  | set S n=>obtain ⟨o,_,_,_,e,_⟩:=x;exact ⟨_,e⟩
  | ins C dx fs=>obtain ⟨_,_,_,e,_⟩:=x;exact ⟨_,e⟩
  | own y=>exact x
  | xd fs=>obtain ⟨_,⟨_,_,_,e,_⟩,_⟩:=x;exact ⟨_,e⟩
  | rng lo hi=>obtain ⟨_,_,_,e⟩:=x;exact ⟨_,e⟩
  | frz ob u=>exact ⟨_,x.1⟩
  | tbl ps=>exact ⟨_,x⟩
  | met f y=>exact ⟨_,x⟩
  | ext φ=>exact x.2.1
def FlyS (l:List Env) (H₀:Hp) (h₀:Heap) (H':Hp) (a C:Addr) (h:Heap):Prop:=
  ∃ B a0,Heap.FlyingW B l a (.ref C) a0 h∧(∀ b o,h₀.get? b=some o→b ∉ frs l→∃ o',B.get? b=some o'∧(H₀ b=none→o'=o))∧∀ b u,H' b=some u→∃ o,B.get? b=some o
def CXE (P:Program) (w:World):CXT:=fun outer H s E e s'=>∃ a C H',e=.ref a∧s'.os=s.os∧AllBare s'.gens∧Un (frs outer) [] H H' s.heap s'.heap∧HOk P w H' s'.heap∧FlyS outer H s.heap H' a C s'.heap∧H' a=none∧E e (some C) H'
section
variable {P:Program} {w:World} {K:PySem.W.Frag} {mg:Str→Option Value} {base:Heap} {N:List Str} {qual:Str} {scope:Scope} {f:Addr} {cd:Value} {A:Around} {outer:List Env} {s:Shared} {H:Hp} {E:XK}
end
end L2
namespace L2
open PySem PySem.Spec PyProof.Rows
def excO (a C:Addr):HO:=.ext fun h=>∃ o vs,h.get? a=some o∧o.cls=.ref C∧o.data=.fields vs
def Up (X:Cx) (pins:List (Addr × Obj)) (σ:St) (a C:Addr) (H2:Hp) (s:Shared):Prop:=
  ∃ H1 s1,Inv X pins σ H1 s1∧s.os=s1.os∧AllBare s.gens∧Un (frs X.stack) [] H1 H2 s1.heap s.heap∧HOk X.prog X.w H2 s.heap∧FlyS X.stack H1 s1.heap H2 a C s.heap∧H2 a=none
section
variable {X:Cx} {pins:List (Addr × Obj)} {σ:St} {a C:Addr} {H1 H2:Hp} {s s1:Shared} {B h h':Heap} {a0:Value}
theorem excO_ok (H:Hp) (e:∃ o vs,h.get? a=some o∧o.cls=.ref C∧o.data=.fields vs):ObjOk X.prog X.w H h a (excO a C):=by
  refine ⟨e,?_,fun h1 h2 ⟨o,vs,x1,x2,x3⟩ k=>⟨o,vs,k _ x1,x2,x3⟩⟩
  obtain ⟨o,_,e,_⟩:=e
  exact ⟨o,e⟩
theorem Up.inv (U:Up X pins σ a C H2 s):Inv X pins σ (upd H2 a (excO a C)) s:=by
  obtain ⟨H1,s1,I,os,bare,un,hok,⟨B,a0,fl,k0,tr⟩,ha⟩:=U
  obtain ⟨oe,vs,e1,e2,e3,_⟩:=fl.first
  have na:∀ b o,s1.heap.get? b=some o→b≠a:=fun b o e z=>by
    subst z
    by_cases hb:b∈frs X.stack
    · obtain ⟨_,o',e',nf⟩:=fl.2.2.1.mem hb
      rw [e1] at e';cases e'
      exact nf vs e3
    · obtain ⟨o',e',_⟩:=k0 b o e hb
      rw [fl.2.1] at e';cases e'
  have up:∀ b u,H2 b=some u→upd H2 a (excO a C) b=some u:=fun b u e=>by rw [upd_ne (ne_of_none e ha)];exact e
  refine I.call' (ch:=[]) os ⟨un.keep,un.slot,fun b o e n hx=>?_,un.there,fun b xs e=>up _ _ (un.tups b xs e),fun b o u e=>up _ _ (un.frzs b o u e),fun b ps e=>?_⟩ (fun b o e=>?_) bare (fun _ z=>nomatch z)
  · rw [upd_ne (na b o e)];exact un.free b o e n hx
  · obtain ⟨more,e2⟩:=un.tbls b ps e
    exact ⟨more,up _ _ e2⟩
  · by_cases hb:b=a
    · subst hb
      rw [upd_same] at e;cases e
      exact excO_ok _ ⟨oe,vs,e1,e2,e3⟩
    · rw [upd_ne hb] at e
      exact (hok b o e).stay (fun _ _ _ q=>q) (fun c q=>up _ _ q) fun c xs q=>up _ _ q
abbrev Cx.caught (X:Cx) (a:Addr):Cx:={ X with A:=X.A.mark (some (.ref a)),calm:=false,xe:=fun _ _=>False }
theorem Inv.caught {H:Hp} (I:Inv X pins σ H s) (a:Addr):Inv (X.caught a) pins σ H s:=
  ⟨⟨I.ok.mod,I.ok.kind,I.ok.glob,I.ok.blt,I.ok.above,I.ok.inj,I.ok.has,I.ok.cab,(fun z=>nomatch z),I.ok.frames,I.ok.stk,I.ok.exf,I.ok.bs,I.ok.bsz,I.ok.noex,I.ok.exfs,I.ok.funs,I.ok.frf⟩,I.os,I.bare,I.base,I.loc,I.cell,I.free,I.freeC,I.pin,I.hok,I.len⟩
end
section
variable {X:Cx} {x n:Str} {i:Nat} {np pos:Pos} {b₀:Stmt} {suite:List Stmt} {rest:List ExceptHandler} {Cl:Addr} {th:Addr→TS} {tr:Addr→Addr→TS}
end
def PassesAt (CX:CXT) (X:Cx) (E:XK) (σ:St):Prop:=∀ (pins:List (Addr × Obj)) (H:Hp) (s:Shared) (e:Value) (s':Shared),Inv X pins σ H s→CX X.stack H s E e s'→X.xe e s'
theorem Passes.at {CX:CXT} {X:Cx} {E:XK} {σ:St} (h:Passes CX X E):PassesAt CX X E σ:=fun pins H s e s' I q=>h pins σ H s e s' I q
end L2
namespace L2
open PySem PySem.Spec PyProof.Rows PySem.W PySem.Calls PySem.Builtin PySem.Builtin.ObjectAttr PySem.Builtin.Getset_descriptor
structure ExK (K:Frag) (C:Addr):Prop where
  ga:findIn K (.ref C) "__getattribute__" = some (some (.builtin "BaseException.__getattribute__"))
  gn:findIn K (.ref C) "__getattr__" = some none
  cl:findIn K (.ref C) "__class__" = some (some (.builtin "object.__class__"))
  gt:specialIn K (.builtin "object.__class__") "__get__" = some (some (.builtin "getset_descriptor.__get__"))
  tk:takesIn K (.builtin "object.__class__")=some true
  ob:mroIn K C (.type "object")=some true
  be:mroIn K C (.type "BaseException")=some true
  cd:(clsIn K C).isSome=true
section
variable {prog:Program} {w:World} {A:Around} {E:Value→Shared→Prop} {s:Shared} {K:Frag} {x C:Addr} {R:Result→Shared→Prop}
end
end L2
namespace L2
open PySem PySem.Spec PyProof.Rows PySem.W
section
variable {X:Cx}
end
def HasX (P:Program) (w:World) (K:Frag) (mg:Str→Option Value) (base:Heap) (x:Str) (k:Nat) (ps:List Str) (sp:Sp):Prop:=
  ∃ f fd,FnOk P w K mg base (CXE P w) k f fd ps sp∧Binds K fd ps []∧keepIn K (.ref f)=true∧mg x=some (.ref f)
section
variable {P:Program} {w:World} {K:Frag} {mg:Str→Option Value} {base:Heap}
theorem HasX.mono {x:Str} {j k:Nat} {ps:List Str} {sp:Sp} (G:HasX P w K mg base x j ps sp) (h:j≤k):HasX P w K mg base x k ps sp:=
  let ⟨f,fd,F,r⟩:=G;⟨f,fd,F.mono h,r⟩
end
section
variable {X:Cx} {x:Str} {k:Nat} {ps:List Str} {sp:Sp} {p pos:Pos} {e:Expr} {es:List Expr} {t:TA} {E:XK} {σ0:St}
end
end L2
namespace L2
open PySem PySem.Spec PyProof.Rows PySem.W
@[irreducible] def bigL:Int:=2 ^ 1000
section
variable {X:Cx}
theorem op_fdivL:OpR X (binaryOp .FloorDiv) (rI (fun _ j=>0 < j∧j < bigL) fun i j=>.int (i / j)):=opI fun i j _ _ _ _ _ hc q=>by
  have h1:(0:Int) < j:=hc.1
  have h2:j < 2 ^ 1000:=by have:=hc.2;unfold bigL at this;exact this
  refine floordiv_int (by omega) (by rw [Int.fdiv_eq_ediv_of_nonneg i (by omega)];exact q) (.inl (PyProof.noPylong_of_log2 ?_))
  have h3:j.natAbs < 2 ^ 1000:=by
    have:(j.natAbs:Int) < ((2 ^ 1000:Nat):Int):=by
      rw [Int.natAbs_of_nonneg (by omega)]
      exact_mod_cast h2
    exact_mod_cast this
  have h4:=(Nat.log2_lt (by omega)).mpr h3
  omega
end
end L2
namespace L2
open PySem PySem.Spec PyProof.Rows PySem.W
section
variable {X:Cx}
theorem op_eq_nil (hu:X.A.units < cLine):OpR X (compareOp .Eq) (fun x y H Q=>∃ a b xs,x=.ref a∧y=.ref b∧SqL X.K H a xs∧SqL X.K H b []∧Q (.bl xs.isEmpty) H):=by
  intro pins s σ H x y v u Q I rx ry h
  obtain ⟨a,b,xs,rfl,rfl,h1,h2,q⟩:=h
  cases xs with
  | nil=>exact op_eq_lst hu pins s σ H _ _ v u Q I rx ry ⟨a,b,[],[],rfl,rfl,h1,h2,rfl,rfl,q⟩
  | cons z zs=>
    cases (show v=Value.ref a from rx)
    cases (show u=Value.ref b from ry)
    obtain ⟨us,r1,l1,_⟩:=I.list h1
    obtain ⟨ws,r2,l2,_⟩:=I.list h2
    have e1:=r1.length
    have e2:=r2.length
    rw [List.length_cons] at e1
    rw [List.length_nil] at e2
    exact SeqAt.eq_list_lengthsAt l1.isList l2.isList (by simp;omega) hu ⟨.bl _,H,I,rfl,q⟩
theorem op_ne_nil (hu:X.A.units < cLine):OpR X (compareOp .NotEq) (fun x y H Q=>∃ a b xs,x=.ref a∧y=.ref b∧SqL X.K H a xs∧SqL X.K H b []∧Q (.bl (!xs.isEmpty)) H):=by
  intro pins s σ H x y v u Q I rx ry h
  obtain ⟨a,b,xs,rfl,rfl,h1,h2,q⟩:=h
  cases xs with
  | nil=>exact op_ne_lst hu pins s σ H _ _ v u Q I rx ry ⟨a,b,[],[],rfl,rfl,h1,h2,rfl,rfl,q⟩
  | cons z zs=>
    cases (show v=Value.ref a from rx)
    cases (show u=Value.ref b from ry)
    obtain ⟨us,r1,l1,_⟩:=I.list h1
    obtain ⟨ws,r2,l2,_⟩:=I.list h2
    have e1:=r1.length
    have e2:=r2.length
    rw [List.length_cons] at e1
    rw [List.length_nil] at e2
    exact SeqAt.RcNeAt.lists_lengths l1.isList l2.isList (by simp;omega) hu _ _ _ _ ⟨.bl _,H,I,rfl,q⟩
end
end L2
namespace L2
open PySem PySem.Spec PyProof.Rows PySem.W
section
variable {X:Cx}
end
end L2
namespace L2
open PySem PySem.Spec PyProof.Rows PySem.W
abbrev IsZipB (h:Heap) (z TI TO p:Addr) (b:Bool):Prop:=h.get? z=some { cls:=.type "zip", data:=.fields #[rawInt (p:Int),.bool b,.bool false,.ref TI,.ref TO] }
section
variable {prog:Program} {w:World} {A:Around} {E:Value→Shared→Prop} {s:Shared}
end
def ZSt (κ1 κ2:SK) (z TI TO i1 i2:Addr) (k:Nat) (h:Heap):Prop:=
  ((IsZip h z TI TO .none)∨∃ p b,IsZipB h z TI TO p b∧(∃ o,h.get? p=some o))∧IsPair h TI (.ref i1) (.ref i2)∧(∃ a b,IsPair h TO a b)∧κ1.own i1 k h∧κ2.own i2 k h
theorem ZSt.keep {κ1 κ2:SK} {z TI TO i1 i2:Addr} {k:Nat} {h h':Heap} (x:ZSt κ1 κ2 z TI TO i1 i2 k h) (k1:∀ b∈[z,TI,TO,i1,i2],∀ o,h.get? b=some o→h'.get? b=some o) (k2:∀ b o,h.get? b=some o→∃ o',h'.get? b=some o'):ZSt κ1 κ2 z TI TO i1 i2 k h':=by
  obtain ⟨hz,hTI,⟨a,c,hTO⟩,h1,h2⟩:=x
  refine ⟨?_,k1 TI (by simp) _ hTI,⟨a,c,k1 TO (by simp) _ hTO⟩,SK.own_at h1 fun o q=>k1 i1 (by simp) o q,SK.own_at h2 fun o q=>k1 i2 (by simp) o q⟩
  rcases hz with hz | ⟨p,b,hz,o,hp⟩
  · exact .inl (k1 z (by simp) _ hz)
  · exact .inr ⟨p,b,k1 z (by simp) _ hz,k2 _ _ hp⟩
section
variable {X:Cx} {pins:List (Addr × Obj)} {σ:St} {H:Hp} {s:Shared} {A:Around} {E:Value→Shared→Prop} {κ1 κ2:SK} {z TI TO i1 i2:Addr}
end
def NewTups (H0 H:Hp) (as:List Addr) (xs ys:List V):Prop:=
  as.Nodup∧(∀ b,b ∉ as→H b=H0 b)∧∀ (i:Nat) (a:Addr),as[i]?=some a→H0 a=none∧∃ x y,xs[i]?=some x∧ys[i]?=some y∧H a=some (.tup [x,y])
theorem NewTups.nil {H:Hp} {xs ys:List V}:NewTups H H [] xs ys:=⟨List.nodup_nil,fun _ _=>rfl,fun i a e=>by simp at e⟩
theorem NewTups.same {H0 H:Hp} {as:List Addr} {xs ys:List V} (n:NewTups H0 H as xs ys):Same H0 H:=fun b u e=>by
  have nb:b ∉ as:=fun hb=>by
    obtain ⟨i,hi⟩:=List.getElem?_of_mem hb
    rw [(n.2.2 i b hi).1] at e;cases e
  exact (n.2.1 b nb).trans e
theorem NewTups.push {H0 H:Hp} {as:List Addr} {xs ys:List V} {p:Addr} {x y:V} (n:NewTups H0 H as xs ys) (hp:H p=none) (hx:xs[as.length]?=some x) (hy:ys[as.length]?=some y):NewTups H0 (upd H p (.tup [x,y])) (as++[p]) xs ys:=by
  have np:p ∉ as:=fun hm=>by
    obtain ⟨i,hi⟩:=List.getElem?_of_mem hm
    obtain ⟨_,x,y,_,_,e⟩:=n.2.2 i p hi
    rw [hp] at e;cases e
  refine ⟨List.nodup_append.mpr ⟨n.1,by simp,fun a ha b hb=>by simp at hb;subst hb;exact fun e=>np (e ▸ ha)⟩,fun b hb=>?_,fun i a e=>?_⟩
  · have h1:b ∉ as:=fun q=>hb (by simp [q])
    have h2:b≠p:=fun q=>hb (by simp [q])
    rw [upd_ne h2];exact n.2.1 b h1
  · rcases Nat.lt_or_ge i as.length with q | q
    · rw [List.getElem?_append_left q] at e
      obtain ⟨e1,x,y,e2,e3,e4⟩:=n.2.2 i a e
      exact ⟨e1,x,y,e2,e3,by rw [upd_ne (fun z=>np (by rw [← z];exact List.mem_of_getElem? e))];exact e4⟩
    · have q0:i=as.length:=by
        have:=(List.getElem?_eq_some_iff.mp e).1
        simp at this;omega
      subst q0
      have ea:p=a:=by simpa using e
      subst ea
      exact ⟨by rw [← n.2.1 p np];exact hp,x,y,hx,hy,upd_same⟩
section
variable {X:Cx} {pins:List (Addr × Obj)} {σ:St} {A:Around} {κ1 κ2:SK} {z TI TO i1 i2 S:Addr} {xs ys:List V} {H0:Hp} {res:Value} {R:Result→Shared→Prop} {g0:Array GenState} {d0:Drawn} {o0:OsState}
end
end L2
namespace L2
open PySem PySem.Spec PyProof.Rows PySem.W Tim
section
variable {prog:Program} {w:World} {A:Around} {E:Value→Shared→Prop} {s:Shared}
end
section
variable {X:Cx} {pins:List (Addr × Obj)} {σ:St} {H:Hp} {s:Shared} {A:Around} {E:Value→Shared→Prop} {κ1 κ2:SK} {z TI TO i1 i2:Addr} {xs ys:List V}
theorem ZSt.zip {k:Nat} {h:Heap} (x:ZSt κ1 κ2 z TI TO i1 i2 k h):∃ o,h.get? z=some o∧o.cls=.type "zip" := by
  rcases x.1 with e | ⟨_,_,e,_⟩
  · exact ⟨_,e,rfl⟩
  · exact ⟨_,e,rfl⟩
end
end L2
namespace L2
open PySem PySem.Spec PyProof.Rows PySem.W
def Best (kf:Nat→Int) (b j:Nat):Prop:=b < j∧∀ i,i < j→kf i≤kf b∧(i < b→kf i < kf b)
theorem Best.one (kf:Nat→Int):Best kf 0 1:=⟨by omega,fun i hi=>⟨by rw [show i=0 by omega];exact Int.le_refl _,fun h=>by omega⟩⟩
theorem Best.stay {kf:Nat→Int} {b j:Nat} (h:Best kf b j) (hn:¬ kf b < kf j):Best kf b (j+1):=⟨by have:=h.1;omega,fun i hi=>by
  rcases Nat.lt_or_ge i j with q | q
  · exact h.2 i q
  · have:i=j:=by omega
    subst this
    exact ⟨by omega,fun z=>by have:=h.1;omega⟩⟩
theorem Best.new {kf:Nat→Int} {b j:Nat} (h:Best kf b j) (hn:kf b < kf j):Best kf j (j+1):=⟨by omega,fun i hi=>by
  rcases Nat.lt_or_ge i j with q | q
  · have:=(h.2 i q).1
    exact ⟨by omega,fun _=>by omega⟩
  · have:i=j:=by omega
    subst this
    exact ⟨Int.le_refl _,fun z=>by omega⟩⟩
section
variable {X:Cx} {pins:List (Addr × Obj)} {σ:St}
variable {A:Around} {R:Result→Shared→Prop} {H0:Hp} {a fa S It:Addr} {xs:List V} {kf:Nat→Int}
end
section
variable {X:Cx}
end
end L2
namespace L2
open PySem PySem.Spec PyProof.Rows PySem.W
theorem rev_pick (items:Array Value):(List.filterMap (fun k:Nat=>items[((items.size:Int) - 1+(k:Int) * -1).toNat]?) (List.range items.size))=items.toList.reverse:=by
  apply List.ext_getElem?
  intro i
  have e:(List.range items.size).filterMap (fun k:Nat=>items[((items.size:Int) - 1+(k:Int) * -1).toNat]?)=(List.range items.size).map fun k=>items.getD (items.size - 1 - k) .none:=by
    have go:∀ l:List Nat,(∀ k∈l,k < items.size)→l.filterMap (fun k:Nat=>items[((items.size:Int) - 1+(k:Int) * -1).toNat]?)=l.map fun k=>items.getD (items.size - 1 - k) .none:=fun l=>by
      induction l with
      | nil=>intro _;rfl
      | cons k l ih=>
        intro hl
        have hk:=hl k List.mem_cons_self
        rw [List.filterMap_cons,List.map_cons,ih fun x hx=>hl x (List.mem_cons_of_mem _ hx),show ((items.size:Int) - 1+(k:Int) * -1).toNat=items.size - 1 - k by omega,Array.getElem?_eq_getElem (by omega),Array.getD_eq_getD_getElem?,Array.getElem?_eq_getElem (by omega)]
        rfl
    exact go _ fun k hk=>List.mem_range.mp hk
  rw [e,List.getElem?_map]
  rcases Nat.lt_or_ge i items.size with c | c
  · rw [List.getElem?_range c,List.getElem?_reverse (by simpa using c),Array.length_toList,Array.getElem?_toList,Array.getElem?_eq_getElem (by omega)]
    show some (items.getD (items.size - 1 - i) .none)=some _
    rw [Array.getD_eq_getD_getElem?,Array.getElem?_eq_getElem (by omega)];rfl
  · rw [List.getElem?_eq_none (by simpa using c),List.getElem?_eq_none (by simpa using c)];rfl
theorem places_rev (n:Nat):Builtin.Slice.slicePlaces ((n:Int) - 1) (-1) (-1)=n:=by
  unfold Builtin.Slice.slicePlaces
  rw [if_neg (by decide)]
  split
  · rename_i h
    have:((n:Int) - 1 - -1 - 1) / - -1=(n:Int) - 1:=by
      rw [show (- -1:Int)=1 by decide,Int.ediv_one];omega
    rw [this];omega
  · omega
section
variable {prog:Program} {w:World} {A:Around} {E:Value→Shared→Prop} {s:Shared}
theorem part_none {Q:Option Int→Shared→Prop} (h:Q none s):wpAny (model prog w) A (Builtin.Slice.slicePartIndex .none) Q E s:=wpAny_pure h
theorem part_int {i:Int} {tk:Tok} {Q:Option Int→Shared→Prop} (h:Q (some i) s):wpAny (model prog w) A (Builtin.Slice.slicePartIndex (.int i tk)) Q E s:=by
  unfold Builtin.Slice.slicePartIndex
  rw [if_neg (by show ¬ (false=true);decide)]
  refine wpAny_bind (wpAny_specialOf_val (T := "int") rfl (r:=some (.builtin "int.__index__")) (by kernel_rfl) ?_)
  rw [if_neg (by decide)]
  show wpAny _ _ (pure i >>= _) _ _ _
  exact wpAny_bind (wpAny_pure (wpAny_pure h))
theorem getItem_tuple_rev {t sl:Addr} {items:Array Value} {tk:Tok} {Q:Value→Shared→Prop} (ht:IsTup s.heap t items) (hs:s.heap.get? sl=some { cls:=.type "slice", data:=.fields #[.none,.none,.int (-1) tk] }) (hz:items.size≤sizeLine)
    (h:Q (.ref s.heap.objs.size) { s with heap:=s.heap.push { cls:=.type "tuple", data:=.seq items.toList.reverse.toArray } }):wpAny (model prog w) A (getItem (.ref t) (.ref sl)) Q E s:=by
  have hT:s.TypeIs (.ref t) "tuple" := ht.typeIs
  have hTs:s.TypeIs (.ref sl) "slice" := ⟨_,hs,rfl⟩
  refine wpAny_getItem_slot hT (by decide) PyProof.Rows.slot_tuple_getitem (wpAny_call_entry PyProof.Rows.slot_tuple_getitem hT PyProof.Rows.entry_tuple_getitem ?_ (PyProof.Rows.args_tuple_getitem _ _))
  obtain ⟨o,ho,hc,n,hd⟩:=id ht
  have f1:wpAny (model prog w) A.in1 (Builtin.Slice.sliceApplied (.ref sl) (pure (items.size:Int))) (fun r s'=>r=((items.size:Int) - 1,-1,items.size)∧s'=s) E s:=by
    unfold Builtin.Slice.sliceApplied Builtin.Slice.sliceFields
    refine wpAny_bind (wpAny_bind (wpAny_field hs rfl (x:=.none) rfl (wpAny_bind (wpAny_field hs rfl (x:=.none) rfl (wpAny_bind (wpAny_field hs rfl (x:=.int (-1) tk) rfl (wpAny_pure ?_)))))))
    dsimp only
    refine wpAny_bind (part_int ?_)
    show wpAny _ _ (Builtin.Slice.slicePartIndex .none >>= _) _ _ _
    refine wpAny_bind (part_none ?_)
    refine wpAny_bind (part_none ?_)
    refine wpAny_bind (wpAny_pure ?_)
    show wpAny _ _ (pure ((items.size:Int) - 1,(-1:Int),Builtin.Slice.slicePlaces ((items.size:Int) - 1) (-1) (-1))) _ _ _
    rw [places_rev]
    exact wpAny_pure ⟨rfl,rfl⟩
  show wpAny _ _ (Builtin.Tuple.tupleItemsOf (.ref t) >>= _) _ _ _
  refine wpAny_bind (PyProof.Rows.tupleItemsOf_ ht ?_)
  refine wpAny_bind (wpAny_typeOf hTs ?_)
  rw [if_pos (by decide)]
  refine wpAny_bind (thn f1 fun r s' hr=>?_)
  obtain ⟨rfl,rfl⟩:=hr
  dsimp only
  have nb:¬ (((items.size:Int) - 1 == 0 && (-1:Int) == 1 && items.size == items.size)=true):=by simp
  rw [if_neg nb,rev_pick]
  show wpAny _ _ (newTuple items.toList.reverse >>= _) _ _ _
  exact wpAny_bind (wpAny_newTuple (wpAny_pure ⟨_,rfl,h⟩) (by rw [List.length_reverse,Array.length_toList];exact hz))
end
section
variable {X:Cx} {e st:Expr} {te:TE} {ts:TO} {pos p2:Pos}
def tRevT (K:PySem.W.Frag) (te:TE) (ts:TO):TE:=fun σ H Q=>te σ H fun x H1=>ts σ H1 fun o H2=>∃ (a:Addr) (xs:List V),o=some (-1)∧x=.ref a∧SqT K H2 a xs∧∀ r:Addr,H2 r=none→Q (.ref r) (upd H2 r (.tup xs.reverse))
theorem vals_rev:∀ {xs:List V} {us:List Value},Vals xs us→Vals xs.reverse us.reverse
  | [],_,.nil=>.nil
  | x :: xs,_,.cons r t=>by
    rw [List.reverse_cons,List.reverse_cons]
    exact (vals_rev t).append (.cons r .nil)
theorem pe_revT (K:PySem.W.Frag) (he:PE X e te) (hs:PO X (some st) ts) (hK:X.K=K:=by rfl):PE X (.Subscript e (.Slice none none (some st) p2) pos) (tRevT K te ts):=by
  subst hK
  intro pins s σ H Q I h
  refine Subscript_ (thn (he pins s σ H _ I h) fun v s1 ⟨x,H1,I1,r1,q1⟩=>?_)
  refine wpAny_Slice ?_
  rw [evalPart_none]
  refine wpAny_pure (wpAny_pure ?_)
  refine thn (hs pins s1 σ H1 _ I1 q1) fun vs s3 ⟨o,H3,I3,po,q3⟩=>?_
  obtain ⟨a,xs,rfl,rfl,hq,q⟩:=q3
  cases r1
  cases po with
  | int i tk=>
  have I4:Inv X pins σ H3 { s3 with heap:=s3.heap.push { cls:=.type "slice", data:=.fields #[.none,.none,.int (-1) tk] } }:=I3.kept (t':=s3.toks) fun b ob q=>Heap.get?_push_of_some _ q
  show wpAny (model X.prog X.w) X.A (subscriptTail e (.Slice none none (some st) p2) (.ref a) (.ref s3.heap.objs.size)) (EP X pins σ Q) X.xe { s3 with heap:=s3.heap.push { cls:=.type "slice", data:=.fields #[.none,.none,.int (-1) tk] } }
  obtain ⟨its,r,ht,hz⟩:=I4.tuple hq
  have hlen:=r.length
  refine tail_any (ops:=[.ref a,.ref s3.heap.objs.size]) (T := "tuple") ht.typeIs PyProof.Rows.slot_tuple_getitem.lookup ?_ (by with_unfolding_all rfl)
  refine getItem_tuple_rev ht (Heap.get?_push_size _ rfl) (by rw [List.size_toArray];omega) ?_
  have rl:its.toArray.toList.reverse=its.reverse:=by simp
  rw [rl]
  refine ⟨.ref _,_,I4.laid (t':=s3.toks) (o:=.tup xs.reverse) (fun b ob q=>Heap.get?_push_of_some _ q) (Nat.le_refl _) ?_,rfl,q _ (I4.hok.fresh (Nat.le_refl _))⟩
  exact ⟨⟨by rw [List.length_reverse];exact hz,_,Heap.get?_push_size _ rfl,rfl⟩,its.reverse,vals_rev r,_,Heap.get?_push_size _ rfl,rfl,0,rfl⟩
end
end L2
namespace L2
open PySem PySem.Spec PyProof.Rows PySem.W
section
variable {prog:Program} {w:World} {A:Around} {E:Value→Shared→Prop} {s:Shared}
theorem SetA.empty {led:Bool} {h:Heap} {r:Addr} {n:Nat} (x:SetA w led h r [] n):∃ ep t,h.get? r=some { cls:=.type "set", data:=.set #[] ep t }∧SetS w led #[] t []:=by
  obtain ⟨es,ep,t,hg,hS,_⟩:=x
  have:es=#[]:=by
    have e:es.toList=[]:=by
      refine List.eq_nil_iff_forall_not_mem.mpr fun e he=>?_
      have:=(hS.mem (keyOf e)).mp (List.mem_map.mpr ⟨e,he,rfl⟩)
      cases this
    simpa using e
  subst this
  exact ⟨ep,t,hg,hS⟩
end
section
variable {X:Cx}
end
end L2
namespace L2
open PySem
theorem mid {t u:TS} {D:Ends} {σ:St} {H:Hp} (P:St→Hp→Prop) (h2:∀ σ' H',P σ' H'→u D σ' H') (h1:∀ E:Ends,(∀ σ' H',P σ' H'→E.nx σ' H')→t E σ H):tSeq t u D σ H:=h1 { D with nx:=u D } h2
end L2
namespace L2
open PySem PySem.Spec PyProof.Rows PySem.W
section
variable {prog:Program} {w:World} {A:Around} {E:Value→Shared→Prop} {s:Shared}
end
section
variable {X:Cx} {pos:Pos}
theorem noFill_tuple_mul:fillsNumberSlot (.type "tuple") "mul" = pure false:=
  PySem.fillsNumberSlot_seq (id := "tuple.__mul__") (r:=some (.builtin "tuple.__rmul__")) PySem.F.slot_tuple_mul.lookup (by decide +kernel) PySem.F.slot_tuple_rmul.lookup (by decide +kernel)
theorem repeat_tuple:seqRepeat? (.type "tuple")=pure (some (.builtin "tuple.__mul__")):=by
  unfold seqRepeat?
  rw [PySem.seqSlot_of (T := "tuple") (name := "__mul__") (id := "tuple.__mul__") PySem.F.slot_tuple_mul.lookup (by decide +kernel),PySem.seqSlot_of (T := "tuple") (name := "__rmul__") (id := "tuple.__rmul__") PySem.F.slot_tuple_rmul.lookup (by decide +kernel)]
  rfl
theorem int_rmul_tup (a:Int) (t:Tok) (l:Addr) (items:Array Value) (n:Nat) (dd:Option Addr) (sl:Array (Option Value)) :
    Meets (Builtin.«int.__rmul__» ⟨[.int a t,.ref l],[]⟩) (fun _ R s=>s.heap.get? l=some { cls:=.type "tuple", dict:=dd,data:=.seq items n,slots:=sl }∧R (.ok (.ret Value.notImplemented)) s):=
  .of_wp fun prog w A R s h=>by obtain ⟨hp,g,d,tk,os⟩:=s;obtain ⟨hl,h⟩:=h;wp_walk;exact ⟨_,rfl,h⟩
theorem tup_mul_one (l:Addr) (x:Value) (n:Nat) (dd:Option Addr) (sl:Array (Option Value)) (k:Int) (t:Tok) (h2:2≤k) (h3:k≤1000) :
    Meets (Builtin.«tuple.__mul__» ⟨[.ref l,.int k t],[]⟩) (fun _ R s=>s.heap.get? l=some { cls:=.type "tuple", dict:=dd,data:=.seq #[x] n,slots:=sl }∧R (.ok (.ret (.ref s.heap.objs.size))) { s with heap:=s.heap.push { cls:=.type "tuple", data:=.seq (List.replicate k.toNat x).toArray } }):=
  .of_wp fun prog w A R s h=>by
    obtain ⟨hp,g,d,tk,os⟩:=s
    obtain ⟨hl,h⟩:=h
    wp_walk
    rw [if_neg (by rw [Bool.or_eq_true,decide_eq_true_eq,decide_eq_true_eq];omega)]
    have f2:=AutoSeq1.sub_tuple_tuple
    wp_walk using wpAny_loadPart' hl
    rw [if_neg (by
      intro e
      rcases Bool.or_eq_true _ _ ▸ e with e | e
      · cases e
      · have:k=1:=eq_of_beq e
        omega)]
    dsimp only
    rw [if_neg (by
      intro e
      rcases Bool.or_eq_true _ _ ▸ e with e | e
      · have:=of_decide_eq_true e
        omega
      · cases e)]
    have sz:((#[x]:Array Value).size:Int)=1:=rfl
    rw [if_neg (by rw [sz];omega)]
    skip
    have tm:¬ Builtin.Tuple.tupleTooMany (((#[x]:Array Value).size:Int) * k)=true:=by
      rw [sz];unfold Builtin.Tuple.tupleTooMany
      intro e
      have:=of_decide_eq_true e
      have h:(1000:Int)≤(sizeLine:Int):=by decide
      omega
    rw [if_neg tm]
    have fe:∀ (m:Nat) (acc:List Value),List.foldl (fun x1 x2=>x1++x2) acc.toArray (List.replicate m #[x])=(acc++List.replicate m x).toArray:=by
      intro m
      induction m with
      | zero=>intro acc;simp
      | succ m ih=>
        intro acc
        rw [List.replicate_succ,List.foldl_cons]
        have:=ih (acc++[x])
        rw [show acc.toArray++#[x]=(acc++[x]).toArray by simp,this,List.replicate_succ,List.append_assoc]
        rfl
    have fe0:=fe k.toNat []
    rw [List.nil_append] at fe0
    rw [show (List.foldl (fun x1 x2=>x1++x2) #[] (List.replicate k.toNat #[x]))=(List.replicate k.toNat x).toArray from fe0]
    unfold Builtin.Tuple.tupleExact
    refine wpAny_bind (wpAny_newObj_type (wpAny_pure ⟨_,rfl,h⟩) ?_)
    show (List.replicate k.toNat x).toArray.size≤sizeLine
    rw [List.size_toArray,List.length_replicate]
    have h:(1000:Nat)≤sizeLine:=by decide
    omega
def rRepT (K:PySem.W.Frag):R2:=fun x y H Q=>∃ a k v,x=.ref a∧y=.int k∧SqT K H a [v]∧2≤k∧k≤1000∧∀ p,H p=none→Q (.ref p) (upd H p (.tup (List.replicate k.toNat v)))
theorem vals_rep {v:V} {u:Value} (r:RelV v u):∀ n,Vals (List.replicate n v) (List.replicate n u)
  | 0=>.nil
  | n+1=>.cons r (vals_rep r n)
theorem op_repT:OpR X (binaryOp .Mult) (rRepT X.K):=by
  intro pins s σ H x y v u Q I rx ry h
  obtain ⟨a,k,z,rfl,rfl,ha,k2,k3,q⟩:=h
  cases rx
  obtain ⟨t,rfl⟩:=ry
  obtain ⟨its,r1,p1,_⟩:=I.tuple ha
  obtain ⟨u,rfl,ru⟩:=vals1 r1
  obtain ⟨o,ho,hc,hd⟩:=id p1
  obtain ⟨cl,dd,dt,sl⟩:=o
  dsimp only at hc hd
  obtain ⟨n,hd⟩:=hd
  subst hc hd
  refine wpAny_binaryOp_repeat_ref (T := "tuple") (U := "int") (by decide) ⟨_,ho,rfl⟩ (fun s'=>typeIs_int s' k t) noFill_tuple_mul PySem.F.fills_int_mul PySem.F.slot_int_rmul repeat_tuple PySem.F.slot_int_index.lookup
    (call_meets PySem.F.slot_int_rmul (typeIs_int s k t) PySem.F.entry_int_rmul (PySem.F.args_int_rmul_2 _ _) (int_rmul_tup k t a _ n dd sl)
      ⟨ho,rfl,⟨_,ho,rfl⟩,call_meets PySem.F.slot_tuple_mul ⟨_,ho,rfl⟩ PySem.F.entry_tuple_mul (PySem.F.args_tuple_mul_2 _ _) (tup_mul_one a u n dd sl k t k2 k3) ⟨ho,?_⟩⟩)
  refine ⟨.ref s.heap.objs.size,_,I.laid (t':=s.toks) (o:=.tup (List.replicate k.toNat z)) (fun b ob q=>Heap.get?_push_of_some _ q) (Nat.le_refl _) ?_,rfl,q _ (I.hok.fresh (Nat.le_refl _))⟩
  refine ⟨⟨?_,_,Heap.get?_push_size _ rfl,rfl⟩,_,vals_rep ru _,IsTup.new _ _⟩
  rw [List.length_replicate]
  have h:(1000:Nat)≤sizeLine:=by decide
  omega
end
end L2
namespace HT
open PySem PySem.Spec PyProof.Rows
section
variable {prog:Program} {w:World} {A:Around} {E:Value→Shared→Prop} {s:Shared}
theorem getItem_tuple_all {t sl:Addr} {items:Array Value} {vl vu:Value} {lo hi:Option Int} {Q:Value→Shared→Prop} (ht:IsTup s.heap t items) (hs:s.heap.IsSliceOf sl vl vu .none) (pl:IsPart vl lo) (pu:IsPart vu hi)
    (h1:sIx items.size 0 lo=0) (h2:sIx items.size items.size hi=items.size) (h:Q (.ref t) s):wpAny (model prog w) A (getItem (.ref t) (.ref sl)) Q E s:=by
  obtain ⟨os,hos,hcs,hds⟩:=id hs
  have hTs:s.TypeIs (.ref sl) "slice" := ⟨os,hos,hcs⟩
  unfold getItem
  try with_reducible refine wpAny_holding ?_
  first | refine wpAny_bind (wpAny_pure ?_) | skip
  refine wpAny_bind (wpAny_sequenceKey ht.typeIs (by decide) ?_)
  refine wpAny_bind (wpAny_callSpecial?_slot (name:=Str.ofString "__getitem__") ht.typeIs PyProof.Rows.slot_tuple_getitem
    (wpAny_call_entry PyProof.Rows.slot_tuple_getitem ht.typeIs entry_tuple_getitem ?_ (args_tuple_getitem _ _)))
  show wpAny _ _ (Builtin.Tuple.tupleItemsOf (.ref t) >>= _) _ _ s
  refine wpAny_bind (tupleItemsOf_ ht ?_)
  refine wpAny_bind (wpAny_typeOf hTs ?_)
  rw [if_pos (by decide)]
  refine wpAny_bind (sliceApplied_gen hs pl pu ?_)
  have hyes:((((sIx items.size 0 lo:Nat):Int) == 0 && (1:Int) == 1 && (sIx items.size items.size hi - sIx items.size 0 lo) == items.size)=true):=by
    rw [h1,h2];simp
  show wpAny _ _ (if (((sIx items.size 0 lo:Nat):Int) == 0 && (1:Int) == 1 && (sIx items.size items.size hi - sIx items.size 0 lo) == items.size)=true then _ else _) _ _ s
  rw [if_pos hyes]
  unfold Builtin.Tuple.tupleIsExact
  refine wpAny_bind (wpAny_bind (wpAny_typeOf ht.typeIs (wpAny_pure ?_)))
  rw [if_pos (by decide)]
  refine wpAny_bind (wpAny_rule ?_)
  first
    | exact wpAny_pure ⟨_,rfl,wpAny_pure h⟩
    | exact wpAny_bind (wpAny_pure (wpAny_pure ⟨_,rfl,wpAny_pure h⟩))
end
end HT
namespace L2
open PySem PySem.Spec PyProof.Rows
section
variable {X:Cx}
def rSlTA (K:PySem.W.Frag):V→Option Int→Option Int→Hp→VK→Prop:=fun x lo hi H Q=>∃ a xs,x=.ref a∧SqT K H a xs ∧
  ((HT.sIx xs.length 0 lo=0∧HT.sIx xs.length xs.length hi=xs.length)→Q (.ref a) H)∧(¬ (HT.sIx xs.length 0 lo=0∧HT.sIx xs.length xs.length hi=xs.length)→∀ p,H p=none→Q (.ref p) (upd H p (.tup (cutV xs lo hi))))
theorem sl_tupA:SlR X (rSlTA X.K):=by
  intro pins s σ H x v vl vu lo hi sl Q I rx hs pl pu h
  obtain ⟨a,xs,rfl,hx,q1,q2⟩:=h
  by_cases hw:HT.sIx xs.length 0 lo=0∧HT.sIx xs.length xs.length hi=xs.length
  · cases rx
    obtain ⟨its,r,ht,hz⟩:=I.tuple hx
    have hlen:its.toArray.size=xs.length:=by rw [List.size_toArray];exact r.length.symm
    refine ⟨"tuple", _,PyProof.Rows.slot_tuple_getitem.lookup,ht.typeIs,?_⟩
    exact HT.getItem_tuple_all ht hs pl pu (by rw [hlen];exact hw.1) (by rw [hlen];exact hw.2) ⟨.ref a,H,I,rfl,q1 hw⟩
  · exact sl_tup pins s σ H _ v vl vu lo hi sl Q I rx hs pl pu ⟨a,xs,rfl,hx,hw,q2 hw⟩
end
end L2
namespace L2
open PySem PySem.Spec PyProof.Rows PySem.W
section
variable {X:Cx}
variable {e st:Expr} {te:TE} {ts:TO} {pos p2:Pos}
theorem tup_mul_nil (l:Addr) (x:Value) (n:Nat) (dd:Option Addr) (sl:Array (Option Value)) (t:Tok) :
    Meets (Builtin.«tuple.__mul__» ⟨[.ref l,.int 0 t],[]⟩) (fun _ R s=>s.heap.get? l=some { cls:=.type "tuple", dict:=dd,data:=.seq #[x] n,slots:=sl }∧R (.ok (.ret (.ref s.heap.objs.size))) { s with heap:=s.heap.push { cls:=.type "tuple", data:=.seq #[] } }):=
  .of_wp fun prog w A R s h=>by
    obtain ⟨hp,g,d,tk,os⟩:=s
    obtain ⟨hl,h⟩:=h
    have f2:=AutoSeq1.sub_tuple_tuple
    wp_walk using wpAny_loadPart' hl
    exact ⟨_,rfl,h⟩
def rRepT0 (K:PySem.W.Frag):R2:=fun x y H Q=>∃ a k v,x=.ref a∧y=.int k∧SqT K H a [v]∧(k=0∨2≤k)∧k≤1000∧∀ p,H p=none→Q (.ref p) (upd H p (.tup (List.replicate k.toNat v)))
theorem op_repT0 (K:PySem.W.Frag) (hK:X.K=K:=by rfl):OpR X (binaryOp .Mult) (rRepT0 K):=by
  subst hK
  intro pins s σ H x y v u Q I rx ry h
  obtain ⟨a,k,z,rfl,rfl,ha,k2,k3,q⟩:=h
  rcases k2 with rfl | k2
  · cases rx
    obtain ⟨t,rfl⟩:=ry
    obtain ⟨its,r1,p1,_⟩:=I.tuple ha
    obtain ⟨u,rfl,ru⟩:=vals1 r1
    obtain ⟨o,ho,hc,hd⟩:=id p1
    obtain ⟨cl,dd,dt,sl⟩:=o
    dsimp only at hc hd
    obtain ⟨n,hd⟩:=hd
    subst hc hd
    refine wpAny_binaryOp_repeat_ref (T := "tuple") (U := "int") (by decide) ⟨_,ho,rfl⟩ (fun s'=>typeIs_int s' 0 t) noFill_tuple_mul PySem.F.fills_int_mul PySem.F.slot_int_rmul repeat_tuple PySem.F.slot_int_index.lookup
      (call_meets PySem.F.slot_int_rmul (typeIs_int s 0 t) PySem.F.entry_int_rmul (PySem.F.args_int_rmul_2 _ _) (int_rmul_tup 0 t a _ n dd sl)
        ⟨ho,rfl,⟨_,ho,rfl⟩,call_meets PySem.F.slot_tuple_mul ⟨_,ho,rfl⟩ PySem.F.entry_tuple_mul (PySem.F.args_tuple_mul_2 _ _) (tup_mul_nil a u n dd sl t) ⟨ho,?_⟩⟩)
    refine ⟨.ref s.heap.objs.size,_,I.laid (t':=s.toks) (o:=.tup []) (fun b ob q=>Heap.get?_push_of_some _ q) (Nat.le_refl _) ?_,rfl,q _ (I.hok.fresh (Nat.le_refl _))⟩
    exact ⟨⟨Nat.zero_le _,_,Heap.get?_push_size _ rfl,rfl⟩,_,.nil,IsTup.new _ _⟩
  · exact op_repT pins s σ H _ _ v u Q I rx ry ⟨a,k,z,rfl,rfl,ha,k2,k3,q⟩
end
end L2
namespace L2
open PySem PySem.Spec PyProof.Rows PySem.W
mutual
inductive Td (H:Hp):V→PyData→Prop
  | non:Td H .non .none
  | bl (b:Bool):Td H (.bl b) (.bool b)
  | int (i:Int):Td H (.int i) (.int i)
  | str (z:Str):Td H (.str z) (.str z)
  | lst {a:Addr} {xs:List V} {ds:List PyData}:H a=some (.lst xs)→Tds H xs ds→Td H (.ref a) (.list ds)
  | tup {a:Addr} {xs:List V} {ds:List PyData}:H a=some (.tup xs)→Tds H xs ds→Td H (.ref a) (.tuple ds)
  | dct {a:Addr} {kvs:List (Key × V)} {ps:List (PyData × PyData)}:H a=some (.dK kvs)→Tds H (kvs.map fun p=>kV p.1) (ps.map (·.1))→Tds H (kvs.map (·.2)) (ps.map (·.2))→Td H (.ref a) (.dict ps)
inductive Tds (H:Hp):List V→List PyData→Prop
  | nil:Tds H [] []
  | cons {v:V} {d:PyData} {vs:List V} {ds:List PyData}:Td H v d→Tds H vs ds→Tds H (v :: vs) (d :: ds)
end
mutual
theorem Td.same {H H':Hp} (s:Same H H'):∀ {v:V} {d:PyData},Td H v d→Td H' v d
  | _,_,.non=>.non
  | _,_,.bl b=>.bl b
  | _,_,.int i=>.int i
  | _,_,.str z=>.str z
  | _,_,.lst e t=>.lst (s _ _ e) (t.same s)
  | _,_,.tup e t=>.tup (s _ _ e) (t.same s)
  | _,_,.dct e t u=>.dct (s _ _ e) (t.same s) (u.same s)
theorem Tds.same {H H':Hp} (s:Same H H'):∀ {vs:List V} {ds:List PyData},Tds H vs ds→Tds H' vs ds
  | _,_,.nil=>.nil
  | _,_,.cons t u=>.cons (t.same s) (u.same s)
end
mutual
def noList:PyData→Bool
  | .none | .bool _ | .int _ | .str _=>true
  | .list _=>false
  | .tuple xs=>noListAll xs
  | .dict kvs=>noListKv kvs
def noListAll:List PyData→Bool
  | []=>true
  | x :: xs=>noList x && noListAll xs
def noListKv:List (PyData × PyData)→Bool
  | []=>true
  | (k,v) :: r=>noList k && noList v && noListKv r
end
theorem noListKv_keys:∀ kvs:List (PyData × PyData),noListKv kvs=true→noListAll (kvs.map (·.1))=true∧noListAll (kvs.map (·.2))=true
  | [],_=>⟨by simp only [List.map_nil,noListAll],by simp only [List.map_nil,noListAll]⟩
  | (k,v) :: r,h=>by
    simp only [noListKv,Bool.and_eq_true] at h
    obtain ⟨a,b⟩:=noListKv_keys r h.2
    simp only [List.map_cons,noListAll,Bool.and_eq_true]
    exact ⟨⟨h.1.1,a⟩,⟨h.1.2,b⟩⟩
theorem pairs_vals {P:Program} {w:World} {es:List DictEntry} {vs:List (Key × Value)} (h:Pairs (mixKind P w) es vs):∀ {kvs:List (Key × V)},KV kvs vs→Vals (kvs.map fun p=>kV p.1) (es.map (·.key))∧Vals (kvs.map (·.2)) (es.map (·.val)):=by
  induction h with
  | nil=>intro kvs r;cases r;exact ⟨.nil,.nil⟩
  | cons hk hv _ ih=>
    intro kvs r
    cases r with
    | cons r1 r2=>
      obtain ⟨a,b⟩:=ih r2
      refine ⟨.cons ?_ a,.cons (by show RelV _ _;simp only [hv];exact r1.2) b⟩
      show RelV (kV _) _
      simp only [r1.1]
      rcases keyIs_shape hk with ⟨i,t,e,e'⟩ | ⟨x,t,e,e'⟩
      · rw [e,e'];exact ⟨t,rfl⟩
      · rw [e,e'];exact ⟨t,rfl⟩
section
variable {X:Cx} {pins:List (Addr × Obj)} {σ:St} {H:Hp} {s:Shared}
mutual
theorem reads_td (I:Inv X pins σ H s):∀ {v:V} {d:PyData},Td H v d→∀ {u:Value},RelV v u→∃ as,Reads s.heap u d as∧(noList d=true→sysModules ∉ as)
  | _,_,.non,_,r=>by cases r;exact ⟨[],.none,fun _ h=>by cases h⟩
  | _,_,.bl b,_,r=>by cases r;exact ⟨[],.bool b,fun _ h=>by cases h⟩
  | _,_,.int i,_,r=>by obtain ⟨t,rfl⟩:=r;exact ⟨[],.int i t,fun _ h=>by cases h⟩
  | _,_,.str z,_,r=>by obtain ⟨t,rfl⟩:=r;exact ⟨[],.str z t,fun _ h=>by cases h⟩
  | _,_,.lst e t,_,r=>by
    cases r
    obtain ⟨_,its,n,rv,g⟩:=I.hok _ _ e
    obtain ⟨as,ra,_⟩:=reads_tds I t rv
    exact ⟨_,.list g rfl rfl ra,fun h=>by simp only [noList] at h;cases h⟩
  | _,_,.tup e t,_,r=>by
    cases r
    obtain ⟨_,its,rv,o,g,c,n,dd⟩:=I.hok _ _ e
    obtain ⟨as,ra,na⟩:=reads_tds I t rv
    exact ⟨as,.tuple g c dd ra,fun h=>na (by simpa only [noList] using h)⟩
  | _,_,.dct e t u,_,r=>by
    cases r
    obtain ⟨_,hs,vs,kv,o,es,ep,g,ex,dd,_,pr,_⟩:=I.hok _ _ e
    obtain ⟨v1,v2⟩:=pairs_vals pr kv
    obtain ⟨as,ra,na⟩:=reads_tds I t v1
    obtain ⟨bs,rb,nb⟩:=reads_tds I u v2
    refine ⟨_,.dict g ex.1 dd ra rb,fun h=>?_⟩
    simp only [noList] at h
    obtain ⟨h1,h2⟩:=noListKv_keys _ h
    intro m
    rcases List.mem_append.mp m with m | m
    · rcases List.mem_cons.mp m with m | m
      · exact beq_eq_false_iff_ne.mp hs m.symm
      · exact na h1 m
    · exact nb h2 m
theorem reads_tds (I:Inv X pins σ H s):∀ {vs:List V} {ds:List PyData},Tds H vs ds→∀ {us:List Value},Vals vs us→∃ as,ReadsAll s.heap us ds as∧(noListAll ds=true→sysModules ∉ as)
  | _,_,.nil,_,r=>by cases r;exact ⟨[],.nil,fun _ h=>by cases h⟩
  | _,_,.cons t u,_,r=>by
    cases r with
    | cons r1 r2=>
      obtain ⟨as,ra,na⟩:=reads_td I t r1
      obtain ⟨bs,rb,nb⟩:=reads_tds I u r2
      refine ⟨as++bs,.cons ra rb,fun h=>?_⟩
      simp only [noListAll,Bool.and_eq_true] at h
      intro m
      rcases List.mem_append.mp m with m | m
      · exact na h.1 m
      · exact nb h.2 m
end
structure Fit (d:PyData):Prop where
  sh:d.showable=true
  lv:d.leavesShort 61=true
  wt:d.weight≤200000
  dp:d.depth≤20
  md:d.hasDict=false∨noList d=true
theorem Fit.sz {d:PyData} (f:Fit d):d.shown.length≤sizeLine:=by
  have h:=PyData.shown_le 61 (by decide) d f.lv
  have:=f.wt
  rw [sizeLine_eq]
  omega
variable {k:Nat}
theorem call_repr_any (hr:Room k X.A):CallR X (.builtin "repr") (fun xs H Q=>∃ v d,xs=[v]∧Td H v d∧Fit d∧Q (.str d.shown) H):=by
  intro pins s σ H xs us Q I r h
  obtain ⟨v,d,rfl,t,f,q⟩:=h
  obtain ⟨u,rfl,rx⟩:=vals1 r
  have fin:∀ (h':Heap) (u:Tok) (tk:Tok),(∀ b o,s.heap.get? b=some o→h'.get? b=some o)→EP X pins σ Q (.str d.shown u) { s with heap:=h',toks:=tk }:=fun h' u tk hk=>⟨.str d.shown,H,I.kept (t':=tk) hk,⟨u,rfl⟩,q⟩
  have sz:=f.sz
  have ref:∀ a:Addr,u=.ref a→wpAny (model X.prog X.w) X.A (call (.builtin "repr") [u]) (EP X pins σ Q) X.xe s:=fun a e=>by
    subst e
    obtain ⟨as,rd,na⟩:=reads_td I t rx
    have un:=hr.un
    have dp:=f.dp
    refine repr_of_reads' rd f.sh (fun z=>?_) hr.gd (by omega) (fun _ _ e=>e) (fun h' u tk hk=>fin h' u tk hk) sz
    rcases f.md with m | m
    · rw [m] at z;cases z
    · exact na m
  cases t with
  | non=>cases rx;exact P.repr_of_none (fin _ _ _ fun _ _ e=>e)
  | bl b=>cases rx;exact P.repr_of_bool (by cases b <;> exact fin _ _ _ fun _ _ e=>e)
  | int i=>obtain ⟨t,rfl⟩:=rx;exact P.repr_of_int (of_decide_eq_true f.sh) (fin _ _ _ fun _ _ e=>e)
  | str z=>obtain ⟨t,rfl⟩:=rx;exact P.repr_of_str (fin _ _ _ fun _ _ e=>e) sz
  | lst e t=>cases rx;exact ref _ rfl
  | tup e t=>cases rx;exact ref _ rfl
  | dct e t u=>cases rx;exact ref _ rfl
end
section
variable {H:Hp}
theorem Tds.len:∀ {vs:List V} {ds:List PyData},Tds H vs ds→vs.length=ds.length
  | _,_,.nil=>rfl
  | _,_,.cons _ u=>by rw [List.length_cons,List.length_cons,u.len]
theorem Tds.append:∀ {vs:List V} {ds:List PyData},Tds H vs ds→∀ {ws:List V} {es:List PyData},Tds H ws es→Tds H (vs++ws) (ds++es)
  | _,_,.nil,_,_,t=>t
  | _,_,.cons a u,_,_,t=>.cons a (u.append t)
theorem Tds.one {v:V} {d:PyData} (t:Td H v d):Tds H [v] [d]:=.cons t .nil
theorem Tds.take:∀ {vs:List V} {ds:List PyData} (n:Nat),Tds H vs ds→Tds H (vs.take n) (ds.take n)
  | _,_,0,_=>.nil
  | _,_,_+1,.nil=>.nil
  | _,_,n+1,.cons a u=>.cons a (u.take n)
theorem Tds.drop:∀ {vs:List V} {ds:List PyData} (n:Nat),Tds H vs ds→Tds H (vs.drop n) (ds.drop n)
  | _,_,0,t=>t
  | _,_,_+1,.nil=>.nil
  | _,_,n+1,.cons a u=>u.drop n
theorem Tds.reverse:∀ {vs:List V} {ds:List PyData},Tds H vs ds→Tds H vs.reverse ds.reverse
  | _,_,.nil=>.nil
  | _,_,.cons a u=>by rw [List.reverse_cons,List.reverse_cons];exact u.reverse.append (.one a)
theorem Tds.get:∀ {vs:List V} {ds:List PyData} {i:Nat} {v:V},Tds H vs ds→vs[i]?=some v→∃ d,ds[i]?=some d∧Td H v d
  | _,_,_,_,.nil,e=>by simp at e
  | _,_,0,_,.cons a u,e=>by simp at e;subst e;exact ⟨_,rfl,a⟩
  | _,_,i+1,_,.cons a u,e=>u.get (i:=i) (by simpa using e)
theorem Tds.ints (ns:List Int):Tds H (ns.map V.int) (ns.map PyData.int):=by
  induction ns with
  | nil=>exact .nil
  | cons n ns ih=>exact .cons (.int n) ih
end
structure Gd (hd hl:Bool) (c e:Nat) (d:PyData):Prop where
  sh:d.showable=true
  lv:d.leavesShort 61=true
  wt:d.weight≤c
  dp:d.depth≤e
  nd:hd=false→d.hasDict=false
  nl:hl=false→noList d=true
structure Gs (hd hl:Bool) (c e:Nat) (ds:List PyData):Prop where
  sh:PyData.showableAll ds=true
  lv:PyData.leavesShortAll 61 ds=true
  wt:PyData.weightAll ds≤c
  dp:PyData.depthAll ds≤e
  nd:hd=false→PyData.hasDictAll ds=false
  nl:hl=false→noListAll ds=true
section
variable {hd hl:Bool} {c c' e e':Nat} {d:PyData} {ds es:List PyData}
theorem Gd.fit (g:Gd hd hl c e d) (h:hd=false∨hl=false) (hc:c≤200000) (he:e≤20):Fit d:=
  ⟨g.sh,g.lv,Nat.le_trans g.wt hc,Nat.le_trans g.dp he,h.imp g.nd g.nl⟩
theorem Gd.mono (g:Gd hd hl c e d) (hc:c≤c') (he:e≤e'):Gd hd hl c' e' d:=⟨g.sh,g.lv,Nat.le_trans g.wt hc,Nat.le_trans g.dp he,g.nd,g.nl⟩
theorem Gd.up (g:Gd false false c e d):Gd hd hl c e d:=⟨g.sh,g.lv,g.wt,g.dp,fun _=>g.nd rfl,fun _=>g.nl rfl⟩
theorem Gs.up (g:Gs false false c e ds):Gs hd hl c e ds:=⟨g.sh,g.lv,g.wt,g.dp,fun _=>g.nd rfl,fun _=>g.nl rfl⟩
theorem Gs.mono (g:Gs hd hl c e ds) (hc:c≤c') (he:e≤e'):Gs hd hl c' e' ds:=⟨g.sh,g.lv,Nat.le_trans g.wt hc,Nat.le_trans g.dp he,g.nd,g.nl⟩
theorem Gs.nil:Gs hd hl 0 0 []:=⟨by simp only [PyData.showableAll],by simp only [PyData.leavesShortAll],by simp only [PyData.weightAll];omega,by simp only [PyData.depthAll];omega,fun _=>by simp only [PyData.hasDictAll],fun _=>by simp only [noListAll]⟩
theorem Gs.cons (g:Gd hd hl c e d) (h:Gs hd hl c' e ds):Gs hd hl (c+1+c') e (d :: ds):=by
  have:=g.wt;have:=h.wt;have:=g.dp;have:=h.dp
  refine ⟨?_,?_,?_,?_,fun z=>?_,fun z=>?_⟩
  · simp only [PyData.showableAll,g.sh,h.sh,Bool.and_self]
  · simp only [PyData.leavesShortAll,g.lv,h.lv,Bool.and_self]
  · simp only [PyData.weightAll];omega
  · simp only [PyData.depthAll];omega
  · simp only [PyData.hasDictAll,g.nd z,h.nd z,Bool.or_self]
  · simp only [noListAll,g.nl z,h.nl z,Bool.and_self]
theorem Gs.uncons (g:Gs hd hl c e (d :: ds)):∃ c1 c2,Gd hd hl c1 e d∧Gs hd hl c2 e ds∧c1+1+c2≤c:=by
  obtain ⟨s,l,w,p,n,m⟩:=g
  simp only [PyData.showableAll,Bool.and_eq_true] at s
  simp only [PyData.leavesShortAll,Bool.and_eq_true] at l
  simp only [PyData.weightAll] at w
  simp only [PyData.depthAll] at p
  refine ⟨d.weight,PyData.weightAll ds,⟨s.1,l.1,Nat.le_refl _,by omega,fun z=>?_,fun z=>?_⟩,⟨s.2,l.2,Nat.le_refl _,by omega,fun z=>?_,fun z=>?_⟩,w⟩
  · have:=n z;simp only [PyData.hasDictAll,Bool.or_eq_false_iff] at this;exact this.1
  · have:=m z;simp only [noListAll,Bool.and_eq_true] at this;exact this.1
  · have:=n z;simp only [PyData.hasDictAll,Bool.or_eq_false_iff] at this;exact this.2
  · have:=m z;simp only [noListAll,Bool.and_eq_true] at this;exact this.2
theorem Gs.append:∀ {ds:List PyData} {c:Nat},Gs hd hl c e ds→Gs hd hl c' e es→Gs hd hl (c+c') e (ds++es)
  | [],c,_,h=>h.mono (by omega) (Nat.le_refl _)
  | d :: ds,c,g,h=>by
    obtain ⟨c1,c2,g1,g2,l⟩:=g.uncons
    exact (Gs.cons g1 (g2.append h)).mono (by omega) (Nat.le_refl _)
theorem Gs.drop:∀ {ds:List PyData} {c:Nat} (n:Nat),Gs hd hl c e ds→Gs hd hl c e (ds.drop n)
  | _,_,0,g=>g
  | [],c,_+1,g=>g
  | d :: ds,c,n+1,g=>by
    obtain ⟨c1,c2,g1,g2,l⟩:=g.uncons
    exact (g2.drop n).mono (by omega) (Nat.le_refl _)
theorem Gs.take:∀ {ds:List PyData} {c:Nat} (n:Nat),Gs hd hl c e ds→Gs hd hl c e (ds.take n)
  | _,_,0,g=>Gs.nil.mono (Nat.zero_le _) (Nat.zero_le _)
  | [],c,_+1,g=>g
  | d :: ds,c,n+1,g=>by
    obtain ⟨c1,c2,g1,g2,l⟩:=g.uncons
    exact (Gs.cons g1 (g2.take n)).mono (by omega) (Nat.le_refl _)
theorem Gs.one (g:Gd hd hl c e d):Gs hd hl (c+1) e [d]:=(Gs.cons g (Gs.nil.mono (Nat.le_refl 0) (Nat.zero_le e))).mono (by omega) (Nat.le_refl _)
theorem Gs.reverse:∀ {ds:List PyData} {c:Nat},Gs hd hl c e ds→Gs hd hl c e ds.reverse
  | [],c,g=>g
  | d :: ds,c,g=>by
    obtain ⟨c1,c2,g1,g2,l⟩:=g.uncons
    rw [List.reverse_cons]
    exact (g2.reverse.append (Gs.one g1)).mono (by omega) (Nat.le_refl _)
theorem Gs.all:∀ {ds:List PyData},(∀ d∈ds,Gd hd hl c e d)→Gs hd hl ((c+1) * ds.length) e ds
  | [],_=>Gs.nil.mono (Nat.zero_le _) (Nat.zero_le _)
  | d :: ds,h=>by
    refine (Gs.cons (h d List.mem_cons_self) (Gs.all (ds:=ds) fun x hx=>h x (List.mem_cons_of_mem _ hx))).mono ?_ (Nat.le_refl _)
    rw [List.length_cons,Nat.mul_succ];omega
theorem Gd.tup (g:Gs hd hl c e ds):Gd hd hl c (e+1) (.tuple ds):=
  ⟨by simp only [PyData.showable];exact g.sh,by simp only [PyData.leavesShort];exact g.lv,by simp only [PyData.weight];exact g.wt,by simp only [PyData.depth];have:=g.dp;omega,fun z=>by simp only [PyData.hasDict];exact g.nd z,fun z=>by simp only [noList];exact g.nl z⟩
theorem Gd.lst (g:Gs hd true c e ds):Gd hd true c (e+1) (.list ds):=
  ⟨by simp only [PyData.showable];exact g.sh,by simp only [PyData.leavesShort];exact g.lv,by simp only [PyData.weight];exact g.wt,by simp only [PyData.depth];have:=g.dp;omega,fun z=>by simp only [PyData.hasDict];exact g.nd z,fun z=>by cases z⟩
theorem Gd.dct0:Gd true hl 0 1 (.dict []):=
  ⟨by simp only [PyData.showable,PyData.showableKv],by simp only [PyData.leavesShort,PyData.leavesShortKv],by simp only [PyData.weight,PyData.weightKv];omega,by simp only [PyData.depth,PyData.depthKv];omega,(fun z=>by cases z),fun z=>by simp only [noList,noListKv]⟩
theorem Gd.dct1 {kd:PyData} (g:Gd true hl c e kd) (h:Gd true hl c' e d):Gd true hl (c+c'+2) (e+1) (.dict [(kd,d)]):=by
  have:=g.wt;have:=h.wt;have:=g.dp;have:=h.dp
  refine ⟨by simp only [PyData.showable,PyData.showableKv,g.sh,h.sh,Bool.and_self],by simp only [PyData.leavesShort,PyData.leavesShortKv,g.lv,h.lv,Bool.and_self],by simp only [PyData.weight,PyData.weightKv];omega,by simp only [PyData.depth,PyData.depthKv];omega,(fun z=>by cases z),fun z=>by simp only [noList,noListKv,g.nl z,h.nl z,Bool.and_self]⟩
theorem Gd.non:Gd hd hl 0 0 .none:=⟨by simp only [PyData.showable],by simp only [PyData.leavesShort],by simp only [PyData.weight];omega,by simp only [PyData.depth];omega,fun _=>by simp only [PyData.hasDict],fun _=>by simp only [noList]⟩
theorem Gd.bl (b:Bool):Gd hd hl 0 0 (.bool b):=⟨by simp only [PyData.showable],by simp only [PyData.leavesShort],by simp only [PyData.weight];omega,by simp only [PyData.depth];omega,fun _=>by simp only [PyData.hasDict],fun _=>by simp only [noList]⟩
theorem Gd.str {z:Str} (h:∀ c∈z.cps.toList,c < 1000):Gd hd hl z.cps.size 0 (.str z):=⟨by simp only [PyData.showable],by
    simp only [PyData.leavesShort,List.all_eq_true,decide_eq_true_eq]
    intro c hc
    have:=h c hc
    have e:16 ^ 8=4294967296:=by decide
    omega,by simp only [PyData.weight];omega,by simp only [PyData.depth];omega,fun _=>by simp only [PyData.hasDict],fun _=>by simp only [noList]⟩
end
end L2
namespace L2
open PySem PySem.Spec PyProof.Rows PySem.W
theorem iteB {c:Bool} {A B:Prop} (h:c=false) (q:B):if c=true then A else B:=by rw [h];exact iteF q
theorem iteA {c:Bool} {A B:Prop} (h:c=true) (q:A):if c=true then A else B:=by rw [h];exact iteT q
end L2
namespace W56
open PySem
def S:Nat→Nat
  | 0=>0
  | m+1=>5 * S m+1
def it (x:Nat):Nat→Nat
  | 0=>x
  | m+1=>5 * it x m+1
theorem it_eq (x:Nat):∀ m,it x m=x+S m * (4 * x+1)
  | 0=>by simp [it,S]
  | m+1=>by
    show 5 * it x m+1=x+(5 * S m+1) * (4 * x+1)
    rw [it_eq x m,Nat.add_mul,Nat.mul_assoc]
    generalize S m * (4 * x+1)=q
    omega
theorem it_add (x:Nat) (a:Nat):∀ b,it x (a+b)=it (it x a) b
  | 0=>rfl
  | b+1=>by show 5 * it x (a+b)+1=5 * it (it x a) b+1;rw [it_add x a b]
theorem S_two (n:Nat):S (2 * n)=2 * (S n * (2 * S n+1)):=by
  have h:=it_eq 0 (n+n)
  rw [it_add,it_eq (it 0 n) n,it_eq 0 n] at h
  simp only [Nat.mul_zero,Nat.zero_add,Nat.mul_one] at h
  rw [show 2 * n=n+n by omega,← h,Nat.mul_add,Nat.mul_one]
  generalize hq:S n * (4 * S n)=q
  have e1:S n * (2 * S n+1)=S n * (2 * S n)+S n:=by rw [Nat.mul_add,Nat.mul_one]
  have e2:S n * (4 * S n)=2 * (S n * (2 * S n)):=by rw [show 4 * S n=2 * (2 * S n) by omega,Nat.mul_left_comm]
  rw [e1]
  omega
theorem S_par:∀ m,S m % 2=m % 2
  | 0=>rfl
  | m+1=>by show (5 * S m+1) % 2=(m+1) % 2;have:=S_par m;omega
theorem cop (k c:Nat):Nat.Coprime (2 ^ k) (2 * c+1):=by
  apply Nat.Coprime.pow_left
  show Nat.gcd 2 (2 * c+1)=1
  rw [Nat.gcd_rec,show (2 * c+1) % 2=1 by omega]
  rfl
theorem S_dvd:∀ k m,2 ^ k ∣ S m→2 ^ k ∣ m
  | 0,m,_=>⟨m,by simp⟩
  | k+1,m,h=>by
    have h2:2 ∣ S m:=Nat.dvd_trans ⟨2 ^ k,by rw [Nat.pow_succ,Nat.mul_comm]⟩ h
    have pm:=S_par m
    obtain ⟨n,rfl⟩:∃ n,m=2 * n:=⟨m / 2,by have:=Nat.mod_eq_zero_of_dvd h2;omega⟩
    rw [S_two,Nat.pow_succ,Nat.mul_comm (2 ^ k) 2] at h
    have h3:2 ^ k ∣ S n * (2 * S n+1):=Nat.dvd_of_mul_dvd_mul_left (by decide) h
    have h4:=(cop k (S n)).dvd_of_dvd_mul_right h3
    have h5:=S_dvd k n h4
    rw [Nat.pow_succ,Nat.mul_comm (2 ^ k) 2]
    exact Nat.mul_dvd_mul_left 2 h5
theorem it_inj {k x a b:Nat} (hab:a < b) (hb:b < 2 ^ k):¬ it x a % 2 ^ k=it x b % 2 ^ k:=by
  intro h
  obtain ⟨d,rfl⟩:∃ d,b=a+d:=⟨b - a,by omega⟩
  rw [it_add,it_eq (it x a) d] at h
  generalize it x a=y at h
  have h1:2 ^ k ∣ S d * (4 * y+1):=by
    have:=Nat.sub_mod_eq_zero_of_mod_eq h.symm
    rw [Nat.add_sub_cancel_left] at this
    exact Nat.dvd_of_mod_eq_zero this
  rw [show 4 * y+1=2 * (2 * y)+1 by omega] at h1
  have h2:=S_dvd k d ((cop k (2 * y)).dvd_of_dvd_mul_right h1)
  have:=Nat.le_of_dvd (by omega) h2
  omega
theorem full {l:List Nat} {M:Nat} (nd:l.Nodup) (lt:∀ x∈l,x < M) (len:M≤l.length) {j:Nat} (hj:j < M):j∈l:=by
  by_cases h:j∈l
  · exact h
  · have n2:(j :: l).Nodup:=List.nodup_cons.mpr ⟨h,nd⟩
    have:=n2.length_le_of_subset (l₂:=List.range M) fun x hx=>by
      rcases List.mem_cons.mp hx with z | z
      · rw [z];exact List.mem_range.mpr hj
      · exact List.mem_range.mpr (lt x z)
    rw [List.length_cons,List.length_range] at this
    omega
theorem it_all (k x j:Nat) (hj:j < 2 ^ k):∃ m,m < 2 ^ k∧it x m % 2 ^ k=j:=by
  have nd:((List.range (2 ^ k)).map fun m=>it x m % 2 ^ k).Nodup:=by
    rw [List.nodup_iff_pairwise_ne,List.pairwise_map]
    refine List.Pairwise.imp_of_mem ?_ (List.pairwise_lt_range (n:=2 ^ k))
    intro a b ha hb ab
    exact it_inj ab (List.mem_range.mp hb)
  have:=full nd (M:=2 ^ k) (fun y hy=>by
    obtain ⟨m,_,rfl⟩:=List.mem_map.mp hy
    exact Nat.mod_lt _ (Nat.pow_pos (by decide))) (by simp) hj
  obtain ⟨m,hm,e⟩:=List.mem_map.mp this
  exact ⟨m,List.mem_range.mp hm,e⟩
def road (mask:Nat) (i p:Nat):Nat→Nat × Nat
  | 0=>(i,p)
  | m+1=>SetTable.leap mask (road mask i p m).1 (road mask i p m).2
theorem road_p (mask i p:Nat):∀ m,(road mask i p m).2=p / 32 ^ m
  | 0=>by simp [road]
  | m+1=>by
    show (road mask i p m).2 / 32=p / 32 ^ (m+1)
    rw [road_p mask i p m,Nat.div_div_eq_div_mul,Nat.pow_succ]
theorem road_it {mask i p k m:Nat} (hM:mask+1=2 ^ k) (h0:∀ n,m≤n→(road mask i p n).2=0):∀ n,(road mask i p (m+n)).1 % 2 ^ k=it (road mask i p m).1 n % 2 ^ k
  | 0=>rfl
  | n+1=>by
    have ih:=road_it hM h0 n
    show ((road mask i p (m+n)).1 * 5+1+(road mask i p (m+n)).2 / 32) % (mask+1) % 2 ^ k=(5 * it (road mask i p m).1 n+1) % 2 ^ k
    rw [h0 (m+n) (by omega),hM,Nat.mod_mod]
    simp only [Nat.zero_div,Nat.add_zero]
    rw [Nat.add_mod,Nat.mul_comm,Nat.mul_mod,ih,← Nat.mul_mod,← Nat.add_mod]
theorem road_lt {mask i p:Nat} (hi:i < mask+1):∀ m,(road mask i p m).1 < mask+1
  | 0=>hi
  | m+1=>Nat.mod_lt _ (by omega)
theorem road_all {mask i p k j:Nat} (hM:mask+1=2 ^ k) (hi:i < mask+1) (hp:p < 32 ^ 13) (hj:j < mask+1):∃ m,m < mask+15∧(road mask i p m).1=j:=by
  have h0:∀ n,13≤n→(road mask i p n).2=0:=fun n hn=>by
    rw [road_p]
    exact Nat.div_eq_of_lt (Nat.lt_of_lt_of_le hp (Nat.pow_le_pow_right (by decide) hn))
  obtain ⟨m,hm,e⟩:=it_all k (road mask i p 13).1 j (by omega)
  refine ⟨13+m,by omega,?_⟩
  have:=road_it hM h0 m
  rw [e,← hM,Nat.mod_eq_of_lt (road_lt hi _)] at this
  exact this
theorem bits_lt (h:Int):SetTable.bits h < 32 ^ 13:=by
  unfold SetTable.bits
  have h1:=Int.emod_lt_of_pos h (show (0:Int) < 2 ^ 64 by decide)
  have h2:=Int.emod_nonneg h (show (2 ^ 64:Int)≠0 by decide)
  have e:(32:Nat) ^ 13=36893488147419103232:=by decide
  have e2:(2 ^ 64:Int)=18446744073709551616:=by decide
  rw [e]
  rw [e2] at h1 h2 ⊢
  omega
theorem road_shift (mask i p:Nat):∀ m,road mask i p (m+1)=road mask (SetTable.leap mask i p).1 (SetTable.leap mask i p).2 m
  | 0=>rfl
  | m+1=>by
    show SetTable.leap mask (road mask i p (m+1)).1 (road mask i p (m+1)).2=SetTable.leap mask (road mask (SetTable.leap mask i p).1 (SetTable.leap mask i p).2 m).1 (road mask (SetTable.leap mask i p).1 (SetTable.leap mask i p).2 m).2
    rw [road_shift mask i p m]
theorem free_none {mask:Nat} {owner:Array (Option Nat)}:∀ fuel i p,SetTable.layClean.free mask owner fuel i p=none→∀ m,m < fuel→(owner.getD (road mask i p m).1 (some 0)).isNone=false
  | 0,_,_,_,m,hm=>absurd hm (Nat.not_lt_zero _)
  | fuel+1,i,p,h,m,hm=>by
    unfold SetTable.layClean.free at h
    cases e:(List.range (SetTable.runEnd mask i+1 - i)).find? (fun k=>(owner.getD (i+k) (some 0)).isNone) with
    | some k=>rw [e] at h;cases h
    | none=>
      rw [e] at h
      cases m with
      | zero=>
        have hr:i≤SetTable.runEnd mask i:=by unfold SetTable.runEnd;split <;> omega
        have:=List.find?_eq_none.mp e 0 (List.mem_range.mpr (by omega))
        rw [Nat.add_zero] at this
        exact Bool.eq_false_iff.mpr this
      | succ m=>
        rw [road_shift]
        exact free_none fuel _ _ h m (by omega)
theorem free_ok {mask:Nat} {owner:Array (Option Nat)}:∀ fuel i p j,SetTable.layClean.free mask owner fuel i p=some j→(owner.getD j (some 0)).isNone=true
  | 0,_,_,_,h=>by unfold SetTable.layClean.free at h;cases h
  | fuel+1,i,p,j,h=>by
    unfold SetTable.layClean.free at h
    cases e:(List.range (SetTable.runEnd mask i+1 - i)).find? (fun k=>(owner.getD (i+k) (some 0)).isNone) with
    | some k=>
      rw [e] at h
      cases h
      exact List.find?_some (p:=fun k=>(owner.getD (i+k) (some 0)).isNone) e
    | none=>
      rw [e] at h
      exact free_ok fuel _ _ j h
theorem free_some {mask k:Nat} {owner:Array (Option Nat)} (hM:mask+1=2 ^ k) {j:Nat} (hj:j < mask+1) (hn:(owner.getD j (some 0)).isNone=true) (h:Int) :
    ∃ j',SetTable.layClean.free mask owner (SetTable.turns mask) (SetTable.bits h % (mask+1)) (SetTable.bits h)=some j'∧(owner.getD j' (some 0)).isNone=true:=by
  cases e:SetTable.layClean.free mask owner (SetTable.turns mask) (SetTable.bits h % (mask+1)) (SetTable.bits h) with
  | some j'=>exact ⟨j',rfl,free_ok _ _ _ _ e⟩
  | none=>
    obtain ⟨m,hm,er⟩:=road_all hM (i:=SetTable.bits h % (mask+1)) (p:=SetTable.bits h) (Nat.mod_lt _ (by omega)) (bits_lt h) hj
    have:=free_none _ _ _ e m hm
    rw [er,hn] at this
    cases this
structure Own (mask:Nat) (owner:Array (Option Nat)) (js:List Nat):Prop where
  sz:owner.size=mask+1
  nd:js.Nodup
  lt:∀ j∈js,j < mask+1
  at_:∀ i j:Nat,js[i]?=some j→owner[j]?=some (some i)
  no:∀ j:Nat,j < mask+1→j ∉ js→owner[j]?=some none
theorem getD_none {owner:Array (Option Nat)} {j:Nat}:(owner.getD j (some 0)).isNone=true ↔ owner[j]?=some none:=by
  rw [Array.getD_eq_getD_getElem?]
  cases e:owner[j]? with
  | none=>simp
  | some v=>cases v <;> simp
theorem Own.step {mask k:Nat} {owner:Array (Option Nat)} {js:List Nat} (hM:mask+1=2 ^ k) (o:Own mask owner js) (hl:js.length < mask+1) (h:Int) :
    ∃ j,SetTable.layClean.free mask owner (SetTable.turns mask) (SetTable.bits h % (mask+1)) (SetTable.bits h)=some j∧Own mask (owner.setIfInBounds j (some js.length)) (js++[j]):=by
  obtain ⟨j0,hj0,hn0⟩:∃ j,j < mask+1∧j ∉ js:=by
    refine Classical.byContradiction fun hc=>?_
    have sub:∀ j∈List.range (mask+1),j∈js:=fun j hj=>Classical.byContradiction fun z=>hc ⟨j,List.mem_range.mp hj,z⟩
    have:=(List.nodup_range (n:=mask+1)).length_le_of_subset sub
    rw [List.length_range] at this
    omega
  obtain ⟨j,e,hn⟩:=free_some hM hj0 (getD_none.mpr (o.no j0 hj0 hn0)) h
  have hj:=getD_none.mp hn
  have jl:j < owner.size:=by
    obtain ⟨hh,_⟩:=Array.getElem?_eq_some_iff.mp hj
    exact hh
  have jn:j ∉ js:=fun z=>by
    obtain ⟨i,hi,ei⟩:=List.getElem_of_mem z
    have:=o.at_ i j (by rw [List.getElem?_eq_getElem hi,ei])
    rw [hj] at this
    cases this
  have sz:=o.sz
  refine ⟨j,e,⟨by rw [Array.size_setIfInBounds];exact sz,?_,?_,?_,?_⟩⟩
  · rw [List.nodup_append]
    exact ⟨o.nd,by simp,fun a ha b hb z=>jn (by rw [← List.mem_singleton.mp hb,← z];exact ha)⟩
  · intro i hi
    rcases List.mem_append.mp hi with z | z
    · exact o.lt i z
    · rw [List.mem_singleton.mp z];omega
  · intro i j' hi
    rcases Nat.lt_or_ge i js.length with z | z
    · rw [List.getElem?_append_left z] at hi
      have ne:j≠j':=fun y=>jn (by rw [y];exact List.mem_of_getElem? hi)
      rw [Array.getElem?_setIfInBounds_ne ne]
      exact o.at_ i j' hi
    · rw [List.getElem?_append_right z] at hi
      have e0:i - js.length=0:=by
        have:=(List.getElem?_eq_some_iff.mp hi).1
        simp at this;omega
      rw [e0] at hi
      obtain rfl:j=j':=by simpa using hi
      rw [Array.getElem?_setIfInBounds_self_of_lt jl,show i=js.length by omega]
  · intro j' h1 h2
    have ne:j≠j':=fun y=>h2 (by rw [y];simp)
    rw [Array.getElem?_setIfInBounds_ne ne]
    exact o.no j' h1 fun z=>h2 (List.mem_append_left _ z)
theorem Own.start (mask:Nat):Own mask (Array.replicate (mask+1) none) []:=
  ⟨by simp,List.nodup_nil,(fun j h=>by cases h),(fun i j h=>by cases h),fun j h _=>by rw [Array.getElem?_replicate,if_pos h]⟩
end W56
namespace W56
open PySem
theorem range_all {α:Type} (l:List α):(List.range l.length).filterMap (l[·]?)=l:=by
  induction l with
  | nil=>rfl
  | cons a l ih=>
    rw [List.length_cons,List.range_succ_eq_map,List.filterMap_cons]
    show a :: ((List.range l.length).map Nat.succ).filterMap ((a :: l)[·]?)=_
    rw [List.filterMap_map]
    congr 1
end W56
namespace L2
open PySem PySem.Spec PyProof.Rows PySem.W
section
variable {X:Cx}
end
theorem Gd.int {hd hl:Bool} {i:Int} (h:i.natAbs < 10 ^ 12):Gd hd hl 41 0 (.int i):=by
  have s1:=ints_showable (ns:=[i]) (fun n hn=>by rw [List.mem_singleton.mp hn];exact h)
  simp only [PyData.showable,List.map_cons,List.map_nil,PyData.showableAll,Bool.and_true] at s1
  refine ⟨by simp only [PyData.showable];exact s1,?_,?_,by simp only [PyData.depth];omega,fun _=>by simp only [PyData.hasDict],fun _=>by simp only [noList]⟩
  · simp only [PyData.leavesShort,decide_eq_true_eq]
    exact Nat.le_trans (PyData.shown_int_le h) (by decide)
  · have:=weight_ints [i] (fun n hn=>by rw [List.mem_singleton.mp hn];exact h)
    simp only [List.map_cons,List.map_nil,PyData.weightAll,List.length_singleton] at this
    omega
end L2
namespace L2
open PySem PySem.Spec PyProof.Rows PySem.W
def isTupD:PyData→Bool | .tuple _=>true | _=>false
def isStrD:PyData→Bool | .str _=>true | _=>false
def isIntD:PyData→Bool | .int _=>true | .bool _=>true | _=>false
def isBlD:PyData→Bool | .bool _=>true | _=>false
section
variable {K:PySem.W.Frag} {H:Hp} {v:V} {d:PyData}
theorem td_tup (h:Td H v d):∃ t,TyOf K H v t∧kitOne K t (.type "tuple")=some (isTupD d):=by
  cases h with
  | non=>exact ⟨_,.non,by rfl⟩
  | bl b=>exact ⟨_,.bl b,by rfl⟩
  | int i=>exact ⟨_,.int i,by rfl⟩
  | str z=>exact ⟨_,.str z,by rfl⟩
  | lst e _=>exact ⟨_,.lst e,by rfl⟩
  | tup e _=>exact ⟨_,.tup e,by rfl⟩
  | dct e _ _=>exact ⟨_,.dK e,by rfl⟩
theorem td_str (h:Td H v d):∃ t,TyOf K H v t∧kitOne K t (.type "str")=some (isStrD d):=by
  cases h with
  | non=>exact ⟨_,.non,by rfl⟩
  | bl b=>exact ⟨_,.bl b,by rfl⟩
  | int i=>exact ⟨_,.int i,by rfl⟩
  | str z=>exact ⟨_,.str z,by rfl⟩
  | lst e _=>exact ⟨_,.lst e,by rfl⟩
  | tup e _=>exact ⟨_,.tup e,by rfl⟩
  | dct e _ _=>exact ⟨_,.dK e,by rfl⟩
theorem td_int (h:Td H v d):∃ t,TyOf K H v t∧kitOne K t (.type "int")=some (isIntD d):=by
  cases h with
  | non=>exact ⟨_,.non,by rfl⟩
  | bl b=>exact ⟨_,.bl b,by rfl⟩
  | int i=>exact ⟨_,.int i,by rfl⟩
  | str z=>exact ⟨_,.str z,by rfl⟩
  | lst e _=>exact ⟨_,.lst e,by rfl⟩
  | tup e _=>exact ⟨_,.tup e,by rfl⟩
  | dct e _ _=>exact ⟨_,.dK e,by rfl⟩
theorem td_bl (h:Td H v d):∃ t,TyOf K H v t∧kitOne K t (.type "bool")=some (isBlD d):=by
  cases h with
  | non=>exact ⟨_,.non,by rfl⟩
  | bl b=>exact ⟨_,.bl b,by rfl⟩
  | int i=>exact ⟨_,.int i,by rfl⟩
  | str z=>exact ⟨_,.str z,by rfl⟩
  | lst e _=>exact ⟨_,.lst e,by rfl⟩
  | tup e _=>exact ⟨_,.tup e,by rfl⟩
  | dct e _ _=>exact ⟨_,.dK e,by rfl⟩
end
theorem isTup_ex {H:Hp} {v:V} {d:PyData} (h:Td H v d) (b:isTupD d=true):∃ a xs ds,v=.ref a∧d=.tuple ds∧H a=some (.tup xs)∧Tds H xs ds:=by
  cases h with
  | tup e t=>exact ⟨_,_,_,rfl,rfl,e,t⟩
  | _=>cases b
theorem isStr_ex {H:Hp} {v:V} {d:PyData} (h:Td H v d) (b:isStrD d=true):∃ z,v=.str z∧d=.str z:=by
  cases h with
  | str z=>exact ⟨_,rfl,rfl⟩
  | _=>cases b
def wholeD:PyData→Bool | .int _=>true | _=>false
def dl (ps:List Addr) (H:Hp):Hp:=fun a=>if a∈ps then none else H a
theorem dl_same (ps:List Addr) (H:Hp):Same (dl ps H) H:=fun b o e=>by
  unfold dl at e
  split at e
  · cases e
  · exact e
theorem dl_at {ps:List Addr} {H:Hp} {a:Addr} {o:HO} (h:H a=some o) (n:a ∉ ps):dl ps H a=some o:=by unfold dl;rw [if_neg n];exact h
theorem dl_keep {ps:List Addr} {H H':Hp} (h:∀ b o,b ∉ ps→H b=some o→H' b=some o):Same (dl ps H) (dl ps H'):=fun b o e=>by
  unfold dl at e ⊢
  split at e
  · cases e
  · rename_i n
    rw [if_neg n];exact h b o n e
end L2
namespace L2
open PySem PySem.Spec PyProof.Rows PySem.W
section
variable {X:Cx}
def rSlU:V→Option Int→Option Int→Hp→VK→Prop:=fun x lo hi H Q=>∃ a xs,x=.ref a∧H a=some (.tup xs)∧∀ r H',Same H H'→H' r=some (.tup (cutV xs lo hi))→Q (.ref r) H'
theorem cut_whole {xs:List V} {lo hi:Option Int} (h:HT.sIx xs.length 0 lo=0∧HT.sIx xs.length xs.length hi=xs.length):cutV xs lo hi=xs:=by
  unfold cutV
  rw [h.1,h.2,List.drop_zero,Nat.sub_zero,List.take_length]
theorem sl_tupU:SlR X rSlU:=by
  intro pins s σ H x v vl vu lo hi sl Q I rx hs pl pu h
  obtain ⟨a,xs,rfl,hx,q⟩:=h
  refine sl_tupA pins s σ H _ v vl vu lo hi sl Q I rx hs pl pu ⟨a,xs,rfl,SqT.of hx,fun w=>?_,fun _ p hp=>?_⟩
  · exact q a H (Same.refl H) (by rw [cut_whole w];exact hx)
  · exact q p _ ((Same.refl H).new hp) upd_same
def rCatU:R2:=fun x y H Q=>∃ a b xs ys,x=.ref a∧y=.ref b∧H a=some (.tup xs)∧H b=some (.tup ys)∧xs.length+ys.length≤sizeLine∧∀ r H',Same H H'→H' r=some (.tup (xs++ys))→Q (.ref r) H'
theorem op_catU:OpR X (binaryOp .Add) rCatU:=by
  intro pins s σ H x y v u Q I rx ry h
  obtain ⟨a,b,xs,ys,rfl,rfl,ha,hb,hz,q⟩:=h
  refine op_catA pins s σ H _ _ v u Q I rx ry ⟨a,b,xs,ys,rfl,rfl,SqT.of ha,SqT.of hb,hz,fun e=>?_,fun _ e=>?_,fun _ _ p hp=>?_⟩
  · exact q b H (Same.refl H) (by rw [e,List.nil_append];exact hb)
  · exact q a H (Same.refl H) (by rw [e,List.append_nil];exact ha)
  · exact q p _ ((Same.refl H).new hp) upd_same
end
theorem Gd.big {hd hl:Bool} {i:Int} (h:i.natAbs < 10 ^ 60):Gd hd hl 201 0 (.int i):=by
  have e:i.natAbs < 2 ^ 200:=Nat.lt_trans h (by decide)
  have lg:i.natAbs≠0→i.natAbs.log2 < 200:=fun n0=>(Nat.log2_lt n0).mpr e
  have l0:i.natAbs.log2 < 200:=by
    by_cases n0:i.natAbs=0
    · rw [n0];decide
    · exact lg n0
  refine ⟨?_,?_,?_,by simp only [PyData.depth];omega,fun _=>by simp only [PyData.hasDict],fun _=>by simp only [noList]⟩
  · simp only [PyData.showable,decide_eq_true_eq];omega
  · simp only [PyData.leavesShort,decide_eq_true_eq]
    have e:=int_text_length_le10 (k:=60) (by decide) h
    show (Str.ofString (toString i)).length≤61
    rw [PySem.ofString_length];exact e
  · simp only [PyData.weight]
    split <;> omega
end L2
namespace L2
open PySem PySem.Spec PyProof.Rows PySem.W
structure PSw (X:Cx) (sts:List Stmt) (t:TS):Prop where
  h:PSs X sts t
structure Pw (X:Cx) (st:Stmt) (t:TS):Prop where
  h:PS X st t
structure PEw (X:Cx) (e:Expr) (t:TE):Prop where
  h:PE X e t
structure PAw (X:Cx) (es:List Expr) (t:TA):Prop where
  h:PA X es t
section
variable {X:Cx}
theorem exw {sts:List Stmt} {R:TS→Prop} (h:∃ t,PSw X sts t∧R t):∃ t,PSs X sts t∧R t:=let ⟨t,a,b⟩:=h;⟨t,a.h,b⟩
theorem w_cons {st:Stmt} {rest:List Stmt} {t u:TS} (h1:Pw X st t) (h2:PSw X rest u):PSw X (st :: rest) (tSeq t u):=⟨pss_cons h1.h h2.h⟩
theorem w_one {st:Stmt} {t:TS} (h:Pw X st t):PSw X [st] t:=⟨pss_one h.h⟩
theorem w_set {i:Nat} {x:Str} {e:Expr} {te:TE} {pos' pos:Pos} (hN:X.N.Nodup) (hi:X.N[i]?=some x) (hx:Loc X.env.scope x) (he:PEw X e te) (hs:swapsWith e (some (.Name x pos')) pos.line X.env=pure false:=by rfl) (hf:X.fn x=true∨X.env.scope.names.lookup x=some .local:=by first | exact .inl rfl | exact .inr rfl | assumption) :
    Pw X (.Assign [.Name x pos'] e pos) (tAsg te (gName i)):=⟨ps_set hN hi hx he.h hs hf⟩
theorem w_ix {a b:Expr} {ta tb:TE} {pos:Pos} {r:R2} (hr:IxR X r) (ha:PEw X a ta) (hb:PEw X b tb) (hs:PlainIx b):PEw X (.Subscript a b pos) (tOp r ta tb):=⟨pe_ix hr ha.h hb.h hs⟩
theorem w_op {a b:Expr} {ta tb:TE} {pos:Pos} {op:Operator} {r:R2} (ho:OpR X (binaryOp op) r) (ha:PEw X a ta) (hb:PEw X b tb):PEw X (.BinOp a op b pos) (tOp r ta tb):=⟨pe_op ho ha.h hb.h⟩
theorem w_lst {es:List Expr} {t:TA} {pos:Pos} (h:PAw X es t):PEw X (.List es pos) (tLst t):=⟨pe_lst h.h⟩
theorem w_tup {es:List Expr} {t:TA} {pos:Pos} {x1} (h:PAw X es t):PEw X (.Tuple es x1 pos) (tTup t):=⟨pe_tup h.h⟩
theorem w_acons {e:Expr} {es:List Expr} {te:TE} {t:TA} (ha:PEw X e te) (hr:PAw X es t) (hs:starEach (e :: es) X.env=(false,eval e X.env) :: starEach es X.env:=by rfl):PAw X (e :: es) (tCons te t):=⟨pa_cons ha.h hr.h hs⟩
theorem w_anil:PAw X [] tNil:=⟨pa_nil⟩
theorem w_str {x:Str} {j} {pos:Pos}:PEw X (.Constant (.str x) j pos) (tC (.str x)):=⟨pe_str⟩
end
end L2
namespace L2
open PySem PySem.Spec PyProof.Rows PySem.W
def nK (z:Nat):Key:=.inl (z:Int)
theorem nK_inj {a b:Nat} (h:nK a=nK b):a=b:=by
  have h':(Sum.inl (a:Int):Key)=.inl (b:Int):=h
  injection h' with h'
  omega
structure Ks (m:Nat) (kvs:List (Key × V)) (zs:List Nat):Prop where
  ks:kvs.map (·.1)=zs.map nK
  nd:zs.Nodup
  le:∀ z∈zs,z≤m
theorem Ks.nil {m:Nat}:Ks m [] []:=⟨rfl,List.nodup_nil,fun _ h=>nomatch h⟩
theorem Ks.any {m:Nat} {kvs:List (Key × V)} {zs:List Nat} (h:Ks m kvs zs) (s:Nat):(kvs.any fun kv=>decide (kv.1=nK s))=decide (s∈zs):=by
  rw [Bool.eq_iff_iff,List.any_eq_true,decide_eq_true_eq]
  constructor
  · rintro ⟨p,hp,e⟩
    have m1:p.1∈kvs.map (·.1):=List.mem_map.mpr ⟨p,hp,rfl⟩
    rw [h.ks] at m1
    obtain ⟨z,hz,ez⟩:=List.mem_map.mp m1
    have:=nK_inj (ez.trans (of_decide_eq_true e))
    rw [← this];exact hz
  · intro hs
    have m1:nK s∈kvs.map (·.1):=by rw [h.ks];exact List.mem_map.mpr ⟨s,hs,rfl⟩
    obtain ⟨p,hp,e⟩:=List.mem_map.mp m1
    exact ⟨p,hp,decide_eq_true e⟩
theorem Ks.isSome {m:Nat} {kvs:List (Key × V)} {zs:List Nat} (h:Ks m kvs zs) (s:Nat):(valV kvs (nK s)).isSome=decide (s∈zs):=by rw [← valV_any];exact h.any s
theorem Ks.put {m:Nat} {kvs:List (Key × V)} {zs:List Nat} (h:Ks m kvs zs) {z:Nat} (v:V) (hz:z≤m):∃ zs',Ks m (putK kvs (nK z) v) zs'∧∀ x,x∈zs' ↔ x∈zs∨x=z:=by
  have an:=h.any z
  by_cases e:z∈zs
  · refine ⟨zs,⟨?_,h.nd,h.le⟩,fun x=>⟨.inl,fun o=>o.elim id fun q=>q ▸ e⟩⟩
    unfold putK
    rw [if_pos (an.trans (decide_eq_true e)),List.map_map,← h.ks]
    refine List.map_congr_left fun p _=>?_
    show (if p.1=nK z then (p.1,v) else p).1=p.1
    split <;> rfl
  · refine ⟨zs++[z],⟨?_,?_,fun x hx=>?_⟩,fun x=>by simp⟩
    · unfold putK
      rw [if_neg (by rw [an,decide_eq_false e];decide),List.map_append,h.ks,List.map_append];rfl
    · rw [List.nodup_append]
      exact ⟨h.nd,by simp,fun a ha b hb q=>e (by rw [← List.mem_singleton.mp hb,← q];exact ha)⟩
    · rcases List.mem_append.mp hx with q | q
      · exact h.le x q
      · rw [List.mem_singleton.mp q];exact hz
theorem Ks.merge {m:Nat} (v:V):∀ (T:List Nat) {kvs:List (Key × V)} {zs:List Nat},Ks m kvs zs→(∀ t∈T,t≤m)→∃ zs',Ks m (mergeK kvs ((T.map nK).map fun j=>(j,v))) zs'∧∀ x,x∈zs' ↔ x∈zs∨x∈T
  | [],kvs,zs,h,_=>⟨zs,h,fun x=>by simp⟩
  | t :: T,kvs,zs,h,hT=>by
    obtain ⟨z1,h1,m1⟩:=h.put v (hT t List.mem_cons_self)
    obtain ⟨z2,h2,m2⟩:=Ks.merge v T h1 fun x hx=>hT x (List.mem_cons_of_mem _ hx)
    refine ⟨z2,h2,fun x=>?_⟩
    rw [m2,m1,List.mem_cons,or_assoc]
theorem nodup_le {zs:List Nat} {m:Nat} (nd:zs.Nodup) (le:∀ z∈zs,z≤m):zs.length≤m+1:=by
  have p:zs.Perm ((List.range (m+1)).filter fun x=>decide (x∈zs)):=(List.perm_ext_iff_of_nodup nd (List.nodup_range.filter _)).mpr fun x=>by
    rw [List.mem_filter,List.mem_range,decide_eq_true_eq]
    exact ⟨fun h=>⟨by have:=le x h;omega,h⟩,fun h=>h.2⟩
  rw [p.length_eq]
  have:=List.length_filter_le (fun x=>decide (x∈zs)) (List.range (m+1))
  rw [List.length_range] at this;exact this
theorem Ks.len {m:Nat} {kvs:List (Key × V)} {zs:List Nat} (h:Ks m kvs zs):zs.length≤m+1:=nodup_le h.nd h.le
theorem Ks.keys {m:Nat} {kvs:List (Key × V)} {zs:List Nat} (h:Ks m kvs zs):kvs.map (·.1)=(zs.map fun z:Nat=>(z:Int)).map Sum.inl:=by
  rw [h.ks,List.map_map];rfl
theorem Ks.sorted {m n:Nat} {kvs:List (Key × V)} {zs:List Nat} (h:Ks m kvs zs) {p:Nat→Bool} (hm:∀ x,x∈zs ↔ x < n∧p x=true) {ns:List Int} (pm:ns.Perm (zs.map fun z:Nat=>(z:Int))) (so:ns.Pairwise (·≤·)) :
    ns.map V.int=((List.range n).filter p).map fun z:Nat=>V.int (z:Int):=by
  have q:zs.Perm ((List.range n).filter p):=(List.perm_ext_iff_of_nodup h.nd (List.nodup_range.filter _)).mpr fun x=>by
    rw [List.mem_filter,List.mem_range];exact hm x
  have e:ns=((List.range n).filter p).map fun z:Nat=>(z:Int):=by
    refine (pm.trans (q.map _)).eq_of_pairwise (fun a b _ _ l1 l2=>Int.le_antisymm l1 l2) so ?_
    rw [List.pairwise_map]
    exact (List.pairwise_lt_range.filter _).imp fun h=>by omega
  rw [e,List.map_map];rfl
end L2
namespace L2
open PySem PySem.Spec PyProof.Rows
structure RoomH (k:Nat) (A:Around):Prop where
  dp:A.depth+3 * k+5 < recursionLimit
  un:A.units+16 * k+200 < cLine
  gd:A.guards=some []
theorem RoomH.mono {j k:Nat} {A:Around} (r:RoomH k A) (h:j≤k):RoomH j A:=⟨by have:=r.dp;omega,by have:=r.un;omega,r.gd⟩
theorem RoomH.deeper {k:Nat} {A:Around} (r:RoomH (k+1) A) (env:Env):RoomH k (A.deeper env):=
  ⟨by have:=r.dp;show A.depth+1+3 * k+5 < _;omega,by have:=r.un;show A.units+3+16 * k+200 < _;omega,by first | exact r.gd | (simpa [Around.under,Code.isGuard,guardIds] using r.gd)⟩
theorem RoomH.depth {k:Nat} {A:Around} (r:RoomH k A):A.depth < recursionLimit:=by have:=r.dp;omega
theorem RoomH.units0 {k:Nat} {A:Around} (r:RoomH k A):A.units < cLine:=by have:=r.un;omega
theorem Room.caught {k:Nat} {X:Cx} (r:Room k X.A) (a:Addr):RoomH k (X.caught a).A:=⟨r.dp,r.un,r.gd⟩
theorem Room.h {k:Nat} {A:Around} (r:Room k A):RoomH k A:=⟨r.dp,r.un,r.gd⟩
structure FnOkH (P:Program) (w:World) (K:PySem.W.Frag) (mg:Str→Option Value) (base:Heap) (CX:CXT) (k:Nat) (f:Addr) (fd:FuncData) (ps:List Str) (sp:Sp):Prop where
  len:∀ vs H Q E,sp vs H Q E→vs.length=ps.length
  run:∀ (A:Around) (outer:List Env) (s:Shared) (H:Hp) (args:Args) (us:List Value) (vs:List V) (Q:VK) (E:XK),RoomH k A→Env0 P w K mg base A outer s H→BindsTo s fd args (ps.zip us)→Vals vs us→sp vs H Q E →
    codeAny (model P w) A (.call (.ref f) args) (CR CX outer P w H s Q E) s
theorem FnOkH.mono {P:Program} {w:World} {K:PySem.W.Frag} {mg:Str→Option Value} {base:Heap} {CX:CXT} {j k:Nat} {f:Addr} {fd:FuncData} {ps:List Str} {sp:Sp} (F:FnOkH P w K mg base CX j f fd ps sp) (h:j≤k) :
    FnOkH P w K mg base CX k f fd ps sp:=⟨F.len,fun A outer s H args us vs Q E hr=>F.run A outer s H args us vs Q E (hr.mono h)⟩
section
variable {X:Cx} {CX:CXT} {k:Nat} {f C:Addr} {fd:FuncData} {ps:List Str} {sp:Sp} {dvs:List V} {ds:List Value} {E:XK} {x m:Str} {p pos apos:Pos} {e o:Expr} {es:List Expr} {ta:TE} {t:TA}
end
section
variable {P:Program} {w:World} {K:PySem.W.Frag} {mg:Str→Option Value} {base:Heap}
end
def HasH (P:Program) (w:World) (K:PySem.W.Frag) (mg:Str→Option Value) (base:Heap) (x:Str) (k:Nat) (ps:List Str) (sp:Sp):Prop:=
  ∃ f fd,FnOkH P w K mg base CX0 k f fd ps sp∧Binds K fd ps []∧PySem.W.keepIn K (.ref f)=true∧mg x=some (.ref f)
section
variable {P:Program} {w:World} {K:PySem.W.Frag} {mg:Str→Option Value} {base:Heap}
theorem HasH.mono {x:Str} {j k:Nat} {ps:List Str} {sp:Sp} (G:HasH P w K mg base x j ps sp) (h:j≤k):HasH P w K mg base x k ps sp:=
  let ⟨f,fd,F,r⟩:=G;⟨f,fd,F.mono h,r⟩
end
end L2
namespace W7
def wd (ups:List Int) (lab:List Nat):Nat→Nat→List Nat
  | 0,_=>[]
  | f+1,k=>lab.getD k 0 :: (if ups.getD k 0 < 0 then [] else wd ups lab f (ups.getD k 0).toNat)
structure TreeOk (ups:List Int) (lab:List Nat):Prop where
  len:ups.length=lab.length
  pos:0 < ups.length
  most:ups.length≤60
  root:ups.getD 0 0=-1
  up:∀ k,0 < k→k < ups.length→0≤ups.getD k 0∧ups.getD k 0 < (k:Int)
theorem TreeOk.lt {ups:List Int} {lab:List Nat} (t:TreeOk ups lab) {k:Nat} (h:k < ups.length) (h0:¬ ups.getD k 0 < 0):(ups.getD k 0).toNat < k:=by
  rcases Nat.eq_zero_or_pos k with e | e
  · subst e;have:=t.root;omega
  · have:=t.up k e h;omega
def W (ups:List Int) (lab:List Nat) (k:Nat):List Nat:=wd ups lab (k+1) k
def R (ups:List Int) (lab:List Nat) (k:Int):List Nat:=if k < 0 then [] else W ups lab k.toNat
end W7
namespace W47
abbrev Knot:=Nat × List Int
def bel (net:List Knot) (k:Nat):List Nat:=(net.getD k (0,[])).2.map Int.toNat
def U (net:List Knot):Nat→Nat→List Nat
  | 0,_=>[]
  | f+1,k=>k :: ((bel net k).map (U net f)).flatten
def u (net:List Knot) (k:Nat):List Nat:=U net (k+1) k
structure Net (net:List Knot):Prop where
  num:∀ k,k < net.length→∀ l∈bel net k,l < k
variable {net:List Knot}
theorem Net.at' (h:Net net) (k:Nat):∀ l∈bel net k,l < k:=fun l hl=>by
  rcases Nat.lt_or_ge k net.length with c | c
  · exact h.num k c l hl
  · unfold bel at hl
    rw [List.getD_eq_getElem?_getD,List.getElem?_eq_none c] at hl
    cases hl
def sz (net:List Knot) (k:Nat):Int:=((u net k).length:Nat)
def met (net:List Knot) (j:Nat):Nat:=(u net (net.length - 1)).count j
def G (net:List Knot):Nat→Nat→Nat
  | 0,j=>if j=net.length - 1 then 1 else 0
  | t+1,j=>G net t j+met net (net.length - 1 - t) * (bel net (net.length - 1 - t)).count j
abbrev St:=List (Nat × Int) × List Int × List Nat
def step (net:List Knot):St→St
  | ((r,a) :: st,us,ks)=>((bel net r).map (fun l=>(l,(us.length:Int)))++st,us++[a],ks++[r])
  | s=>s
def run (net:List Knot):Nat→St
  | 0=>([(net.length - 1,-1)],[],[])
  | i+1=>step net (run net i)
end W47
namespace S46
open PySem L2 W7
def top (i:Nat):Stmt:=PySem.Challenge.pw_upwords_k46_what_is_a_net.main.body.getD i (.Pass ⟨0,0,0,0⟩)
abbrev s_is_whole:Stmt:=top 2
abbrev N_is_whole:List Str:=["thing"]
theorem sc_is_whole:FnScope N_is_whole ["thing"] (defScope s_is_whole):=⟨rfl,rfl,rfl,by decide +kernel,rfl,by decide +kernel,by decide +kernel⟩
abbrev s_is_number_below:Stmt:=top 3
abbrev N_is_number_below:List Str:=["thing", "behind"]
theorem sc_is_number_below:FnScope N_is_number_below ["thing", "behind"] (defScope s_is_number_below):=⟨rfl,rfl,rfl,by decide +kernel,rfl,by decide +kernel,by decide +kernel⟩
abbrev s_is_letters:Stmt:=top 4
abbrev N_is_letters:List Str:=["thing"]
theorem sc_is_letters:FnScope N_is_letters ["thing"] (defScope s_is_letters):=⟨rfl,rfl,rfl,by decide +kernel,rfl,by decide +kernel,by decide +kernel⟩
abbrev s_is_letter:Stmt:=top 5
abbrev N_is_letter:List Str:=["thing"]
theorem sc_is_letter:FnScope N_is_letter ["thing"] (defScope s_is_letter):=⟨rfl,rfl,rfl,by decide +kernel,rfl,by decide +kernel,by decide +kernel⟩
abbrev s_is_net:Stmt:=top 9
abbrev N_is_net:List Str:=["thing"]
theorem sc_is_net:FnScope N_is_net ["thing"] (defScope s_is_net):=⟨rfl,rfl,rfl,by decide +kernel,rfl,by decide +kernel,by decide +kernel⟩
abbrev s_is_knot:Stmt:=top 10
abbrev N_is_knot:List Str:=["thing", "number"]
theorem sc_is_knot:FnScope N_is_knot ["thing", "number"] (defScope s_is_knot):=⟨rfl,rfl,rfl,by decide +kernel,rfl,by decide +kernel,by decide +kernel⟩
abbrev s_law_store:Stmt:=top 12
abbrev N_law_store:List Str:=["cell", "k"]
theorem sc_law_store:FnScope N_law_store ["cell", "k"] (defScope s_law_store):=⟨rfl,rfl,rfl,by decide +kernel,rfl,by decide +kernel,by decide +kernel⟩
abbrev s_law_draw:Stmt:=top 13
abbrev N_law_draw:List Str:=["store", "many", "got", "prime", "part"]
theorem sc_law_draw:FnScope N_law_draw ["store", "many"] (defScope s_law_draw):=⟨rfl,rfl,rfl,by decide +kernel,rfl,by decide +kernel,by decide +kernel⟩
abbrev s_law_net:Stmt:=top 14
abbrev N_law_net:List Str:=["store", "most", "way", "many", "letters", "net", "k", "few", "here", "beneath"]
theorem sc_law_net:FnScope N_law_net ["store", "most"] (defScope s_law_net):=⟨rfl,rfl,rfl,by decide +kernel,rfl,by decide +kernel,by decide +kernel⟩
abbrev s_law_whole:Stmt:=top 15
abbrev N_law_whole:List Str:=["thing"]
theorem sc_law_whole:FnScope N_law_whole ["thing"] (defScope s_law_whole):=⟨rfl,rfl,rfl,by decide +kernel,rfl,by decide +kernel,by decide +kernel⟩
abbrev s_law_is_net:Stmt:=top 16
abbrev N_law_is_net:List Str:=["thing", "k", "knot"]
theorem sc_law_is_net:FnScope N_law_is_net ["thing"] (defScope s_law_is_net):=⟨rfl,rfl,rfl,by decide +kernel,rfl,by decide +kernel,by decide +kernel⟩
abbrev s_law_bent:Stmt:=top 17
abbrev N_law_bent:List Str:=["store", "net", "way", "at", "here", "beneath", "place", "odd", "sign", "knots", "some", "turned"]
theorem sc_law_bent:FnScope N_law_bent ["store", "net"] (defScope s_law_bent):=⟨rfl,rfl,rfl,by decide +kernel,rfl,by decide +kernel,by decide +kernel⟩
abbrev s_law_right:Stmt:=top 18
abbrev N_law_right:List Str:=["thing", "kept", "due", "found"]
theorem sc_law_right:FnScope N_law_right ["thing"] (defScope s_law_right):=⟨rfl,rfl,rfl,by decide +kernel,rfl,by decide +kernel,by decide +kernel⟩
abbrev s_law:Stmt:=top 19
abbrev N_law:List Str:=["script", "cell", "store", "net", "turn", "things"]
theorem sc_law:FnScope N_law ["script"] (defScope s_law):=⟨rfl,rfl,rfl,by decide +kernel,rfl,by decide +kernel,by decide +kernel⟩
structure Blt7 (mg:Str→Option Value):Prop extends Blt mg where
  all:mg "all" = none
  repr:mg "repr" = none
  letters:∃ u,mg "LETTERS" = some u∧RelV (.str "abcdefghijklmnopqrstuvwxyz") u
  knots:∃ u,mg "MOST_KNOTS" = some u∧RelV (.int 60) u
  beneath:∃ u,mg "MOST_BENEATH" = some u∧RelV (.int 60) u
abbrev Lw (c:Nat):Prop:=97≤c∧c < 123
abbrev Knot:=W47.Knot
def KnotAt (H:Hp) (a:Addr) (kn:Knot):Prop:=∃ b,H a=some (.tup [.str ⟨#[kn.1]⟩,.ref b])∧H b=some (.tup (kn.2.map V.int))
theorem KnotAt.same {H H':Hp} {a:Addr} {kn:Knot} (h:KnotAt H a kn) (s:Same H H'):KnotAt H' a kn:=let ⟨b,x,y⟩:=h;⟨b,s _ _ x,s _ _ y⟩
def KnotsAt (H:Hp) (as:List Addr) (net:List Knot):Prop:=as.length=net.length∧∀ (i:Nat) (a:Addr) (kn:Knot),as[i]?=some a→net[i]?=some kn→KnotAt H a kn
theorem KnotsAt.same {H H':Hp} {as:List Addr} {net:List Knot} (h:KnotsAt H as net) (s:Same H H'):KnotsAt H' as net:=⟨h.1,fun i a kn x y=>(h.2 i a kn x y).same s⟩
theorem KnotsAt.snoc {H:Hp} {as:List Addr} {net:List Knot} {a:Addr} {kn:Knot} (h:KnotsAt H as net) (k:KnotAt H a kn):KnotsAt H (as++[a]) (net++[kn]):=by
  refine ⟨by rw [List.length_append,List.length_append,h.1];rfl,fun i b m x y=>?_⟩
  rcases Nat.lt_or_ge i as.length with lt | ge
  · rw [List.getElem?_append_left lt] at x
    rw [List.getElem?_append_left (by rw [← h.1];exact lt)] at y
    exact h.2 i b m x y
  · rw [List.getElem?_append_right ge] at x
    rw [List.getElem?_append_right (by rw [← h.1];exact ge),← h.1] at y
    cases e:i - as.length with
    | zero=>
      rw [e] at x y
      cases x;cases y
      exact k
    | succ n=>rw [e] at x;cases x
def NetAt (H:Hp) (t:Addr) (net:List Knot):Prop:=∃ as:List Addr,H t=some (.tup (as.map V.ref))∧KnotsAt H as net
theorem NetAt.same {H H':Hp} {t:Addr} {net:List Knot} (h:NetAt H t net) (s:Same H H'):NetAt H' t net:=let ⟨as,x,y⟩:=h;⟨as,s _ _ x,y.same s⟩
structure NetOk (net:List Knot):Prop where
  pos:0 < net.length
  most:net.length≤60
  low:∀ kn∈net,Lw kn.1
  few:∀ kn∈net,kn.2.length≤60
  num:∀ (k:Nat) (kn:Knot),net[k]?=some kn→∀ n∈kn.2,0≤n∧n < (k:Int)
section
variable {P:Program} {w:World} {K:PySem.W.Frag} {mg:Str→Option Value} {base:Heap} {k:Nat}
theorem ints_at {us:List Int} {i:Int} (h0:0≤i) (h1:i < (us.length:Int)):atI (us.map V.int) i=some (.int (us.getD i.toNat 0)):=by
  have hk:i.toNat < us.length:=by omega
  have e:=atI_nat (xs:=us.map V.int) (j:=i.toNat) (v:=.int (us.getD i.toNat 0)) (by rw [List.getElem?_map,List.getElem?_eq_getElem hk,List.getD_eq_getElem?_getD,List.getElem?_eq_getElem hk];rfl)
  rw [show ((i.toNat:Nat):Int)=i by omega] at e
  exact e
theorem menu {us:List Int} {n lo hi:Int} (h0:0≤n) (h1:n < (us.length:Int)) (hb:∀ v∈us,lo≤v∧v≤hi):∃ v:Int,atI (us.map V.int) n=some (.int v)∧lo≤v∧v≤hi:=by
  refine ⟨_,ints_at h0 h1,?_⟩
  have hk:n.toNat < us.length:=by omega
  rw [List.getD_eq_getElem?_getD,List.getElem?_eq_getElem hk]
  exact hb _ (List.getElem_mem hk)
theorem big18 {m:Int} (h:m < 1000000000000000000):m < bigL:=by
  have e:(1000000000000000000:Int) < bigL:=by unfold bigL;decide +kernel
  exact Int.lt_trans h e
def sp_store:Sp:=fun vs H Q _=>∃ (cell kk:Int),vs=[.int cell,.int kk]∧0≤kk∧kk≤63∧∀ (p:Addr) (H':Hp),H p=none→Same H H'→Deck H' p kk→Q (.ref p) H'
theorem has_store (D:Df K mg "_law_store" s_law_store) (B:Blt7 mg):Has P w K mg base "_law_store" (k+1) ["cell", "k"] sp_store:=by
  refine D.has sc_law_store (fun _ _ _ _ _ _ us hl=>match us,hl with | [_,_],_=>rfl) (fun vs H Q E h=>by obtain ⟨a,kk,rfl,_⟩:=h;rfl) (fun f cdv A outer s H vs Q E hr h=>?_)
  obtain ⟨cell,kk,rfl,k0,k63,q⟩:=h
  refine ⟨_,(pss_one (ps_ret (pe_lst (pa_cons (pe_callB (call_max2 rfl) rfl B.max bt_max (pa_cons pe_int (pa_cons (pe_op op_sub (pv 0) (pe_op op_pow pe_int pe_int)) pa_nil))) (pa_cons (pe_op op_mod (pv 0) pe_int) (pa_cons (pv 1) pa_nil)))))),?_⟩
  refine ⟨_,rfl,_,_,rfl,rfl,⟨by decide,by decide,by decide⟩,_,_,rfl,rfl,_,_,rfl,?_⟩
  refine ⟨_,rfl,_,_,rfl,rfl,(by decide:(0:Int) < 1000000000000000009),_,rfl,(by show 3≤sizeLine;decide),fun p hp=>?_⟩
  exact q p _ hp ((Same.refl H).new hp) ⟨_,_,kk,upd_same,k0,Int.le_refl _⟩
def sp_draw:Sp:=fun vs H Q _=>∃ (p:Addr) (m c:Int),vs=[.ref p,.int m]∧Deck H p c∧c < 1000000∧0 < m∧m < 1000000000000000000∧∀ (n:Int) (H':Hp),0≤n→n < m→Kd p (c+1) H H'→Q (.int n) H'
theorem has_draw (D:Df K mg "_law_draw" s_law_draw) (B:Blt7 mg):Has P w K mg base "_law_draw" (k+1) ["store", "many"] sp_draw:=by
  refine D.has sc_law_draw (fun _ _ _ _ _ _ us hl=>match us,hl with | [_,_],_=>rfl) (fun vs H Q E h=>by obtain ⟨p,m,c,rfl,_⟩:=h;rfl) (fun f cdv A outer s H vs Q E hr h=>?_)
  obtain ⟨p,m,c,rfl,⟨x,y,z,hp,z0,z1⟩,c6,m0,m1,q⟩:=h
  refine ⟨_,(pss_cons (ps_if (pt_cmpR op_gt (pe_ix ix_list (pv 0) pe_int (fun _ _=>rfl)) pe_int (nomark _))
  (pss_cons (ps_set (i:=2) sc_law_draw.nd rfl (by first | exact Or.inl rfl | exact Or.inr rfl) (pe_op op_mod (pe_ix ix_list (pv 0) pe_int (fun _ _=>rfl)) (pv 1)))
  (pss_cons (ps_asg (pe_op op_fdivL (pe_ix ix_list (pv 0) pe_int (fun _ _=>rfl)) (pv 1)) (pg_sub (pv 0) pe_int set_list))
  (pss_one (ps_ret (pv 2)))))
  pss_nil)
  (pss_cons (ps_asg (pe_op op_add (pe_ix ix_list (pv 0) pe_int (fun _ _=>rfl)) pe_int) (pg_sub (pv 0) pe_int set_list))
  (pss_cons (ps_set (i:=3) sc_law_draw.nd rfl (by first | exact Or.inl rfl | exact Or.inr rfl) (pe_ix ix_list (pe_lst (pa_cons pe_int (pa_cons pe_int (pa_cons pe_int (pa_cons pe_int (pa_cons pe_int (pa_cons pe_int (pa_cons pe_int pa_nil)))))))) (pe_op op_mod (pe_ix ix_list (pv 0) pe_int (fun _ _=>rfl)) pe_int) (fun _ _=>rfl)))
  (pss_cons (ps_set (i:=4) sc_law_draw.nd rfl (by first | exact Or.inl rfl | exact Or.inr rfl) (pe_op op_mod (pe_op op_add (pe_op op_add (pe_op op_mul (pe_ix ix_list (pv 0) pe_int (fun _ _=>rfl)) pe_int) (pe_op op_mul pe_int (pe_ix ix_list (pv 0) pe_int (fun _ _=>rfl)))) pe_int) (pv 3)))
  (pss_cons (ps_set (i:=4) sc_law_draw.nd rfl (by first | exact Or.inl rfl | exact Or.inr rfl) (pe_op op_mod (pe_op op_add (pe_op op_add (pe_op op_pow (pv 4) pe_int) (pe_op op_mul pe_int (pe_ix ix_list (pv 0) pe_int (fun _ _=>rfl)))) pe_int) pe_int))
  (pss_one (ps_ret (pe_op op_mod (pe_op op_fdivL (pe_op op_mod (pe_op op_mul (pv 4) (pv 4)) pe_int) pe_int) (pv 1))))))))),?_⟩
  refine ⟨_,rfl,p,_,_,_,rfl,rfl,SqL.of hp,rfl,_,_,rfl,rfl,_,rfl,ite2 (fun cnd=>?_) (fun cnd=>?_)⟩
  · refine ⟨_,rfl,p,_,_,_,rfl,rfl,SqL.of hp,rfl,_,rfl,_,_,rfl,rfl,m0,?_⟩
    refine ⟨_,rfl,p,_,_,_,rfl,rfl,SqL.of hp,rfl,_,rfl,_,_,rfl,rfl,⟨m0,big18 m1⟩,?_⟩
    refine ⟨_,rfl,p,_,_,0,rfl,rfl,hp,rfl,_,rfl,?_⟩
    exact q _ _ (Int.emod_nonneg _ (by omega)) (Int.emod_lt_of_pos _ m0) ⟨⟨_,y,z,upd_same,z0,by omega⟩,fun b o hb e=>by rw [upd_ne hb];exact e⟩
  · refine ⟨_,rfl,p,_,_,_,rfl,rfl,SqL.of hp,rfl,_,_,rfl,rfl,?_⟩
    refine ⟨_,rfl,p,_,_,2,rfl,rfl,hp,rfl,?_⟩
    have hp':upd H p (.lst [.int x,.int y,.int (z+1)]) p=some (.lst [.int x,.int y,.int (z+1)]):=upd_same
    have hk':∀ b o,b≠p→H b=some o→upd H p (.lst [.int x,.int y,.int (z+1)]) b=some o:=fun b o hb e=>by rw [upd_ne hb];exact e
    show (fun HH=>_) (upd H p (.lst [.int x,.int y,.int (z+1)]))
    generalize upd H p (.lst [.int x,.int y,.int (z+1)])=H1 at hp' hk'
    refine ⟨(by show 7≤sizeLine;decide),fun r1 hr1=>?_⟩
    have rp:p≠r1:=ne_of_none hp' hr1
    refine ⟨_,rfl,p,_,_,_,rfl,rfl,SqL.of (by rw [upd_ne rp];exact hp'),rfl,_,_,rfl,rfl,(by decide:(0:Int) < 7),?_⟩
    obtain ⟨v,hv,v0,v1⟩:=menu (us:=[2147483647,2147483629,2147483587,2147483579,2147483563,2147483549,2147483543]) (n:=(z+1) % 7) (lo:=1) (hi:=2147483647) (Int.emod_nonneg _ (by decide)) (Int.emod_lt_of_pos _ (by decide)) (by decide)
    refine ⟨r1,_,_,_,rfl,rfl,SqL.of upd_same,hv,?_⟩
    have hp2:upd H1 r1 (.lst ([2147483647,2147483629,2147483587,2147483579,2147483563,2147483549,2147483543].map V.int)) p=some (.lst [.int x,.int y,.int (z+1)]):=by rw [upd_ne rp];exact hp'
    have hk2:∀ b o,b≠p→H b=some o→upd H1 r1 (.lst ([2147483647,2147483629,2147483587,2147483579,2147483563,2147483549,2147483543].map V.int)) b=some o:=fun b o hb e=>by
      have:=hk' b o hb e
      rw [upd_ne (ne_of_none this hr1)];exact this
    show (fun HH=>_) (upd H1 r1 (.lst ([2147483647,2147483629,2147483587,2147483579,2147483563,2147483549,2147483543].map V.int)))
    generalize upd H1 r1 (.lst ([2147483647,2147483629,2147483587,2147483579,2147483563,2147483549,2147483543].map V.int))=H2 at hp2 hk2
    refine ⟨_,rfl,p,_,_,_,rfl,rfl,SqL.of hp2,rfl,_,_,rfl,rfl,.inr ⟨by decide,by decide⟩,_,rfl,p,_,_,_,rfl,rfl,SqL.of hp2,rfl,_,_,rfl,rfl,.inl ⟨by decide,by decide⟩,_,_,rfl,rfl,_,_,rfl,rfl,_,rfl,_,_,rfl,rfl,(show 0 < v by omega),?_⟩
    have y1:=Int.emod_nonneg (y * 69621+104729 * (z+1)+1013) (show v≠0 by omega)
    have y2:=Int.emod_lt_of_pos (y * 69621+104729 * (z+1)+1013) (show 0 < v by omega)
    generalize hyy:(y * 69621+104729 * (z+1)+1013) % v=yy at y1 y2
    refine ⟨_,rfl,_,_,rfl,rfl,⟨by decide,by decide,by rw [hyy];omega⟩,_,rfl,p,_,_,_,rfl,rfl,SqL.of hp2,rfl,_,_,rfl,rfl,.inl ⟨by decide,by decide⟩,_,_,rfl,rfl,_,_,rfl,rfl,_,_,rfl,rfl,(by decide:(0:Int) < 2305843009213693951),?_⟩
    rw [hyy]
    have w1:=Int.emod_nonneg (yy ^ (3:Int).toNat+31 * (z+1)+7) (show (2305843009213693951:Int)≠0 by decide)
    have w2:=Int.emod_lt_of_pos (yy ^ (3:Int).toNat+31 * (z+1)+7) (show (0:Int) < 2305843009213693951 by decide)
    refine ⟨_,rfl,_,rfl,_,_,rfl,rfl,.inl ⟨by omega,by omega⟩,_,_,rfl,rfl,(by decide:(0:Int) < 2305843009213693921),_,_,rfl,rfl,⟨by decide,big18 (by decide)⟩,_,rfl,_,_,rfl,rfl,m0,?_⟩
    exact q _ _ (Int.emod_nonneg _ (by omega)) (Int.emod_lt_of_pos _ m0) ⟨⟨x,_,z+1,hp2,by omega,by omega⟩,hk2⟩
end
end S46
namespace S46
open PySem L2 W7
theorem KnotsAt.tups {H H':Hp} {as:List Addr} {net:List Knot} (h:KnotsAt H as net) (t:∀ a xs,H a=some (.tup xs)→H' a=some (.tup xs)):KnotsAt H' as net:=
  ⟨h.1,fun i a kn x y=>let ⟨b,p,q⟩:=h.2 i a kn x y;⟨b,t _ _ p,t _ _ q⟩⟩
theorem kd_tups {p:Addr} {c d:Int} {H H':Hp} (h:Deck H p d) (k:Kd p c H H'):∀ a xs,H a=some (.tup xs)→H' a=some (.tup xs):=fun a xs e=>k.keep _ _ (ne_deck h e (by intro _ _ _ z;cases z)) e
structure Nts (p u:Addr) (i:Nat) (as:List Addr) (net:List Knot) (H':Hp):Prop where
  at':H' u=some (.lst (as.map V.ref))
  kn:KnotsAt H' as net
  len:net.length=i
  low:∀ kn∈net,Lw kn.1
  few:∀ kn∈net,kn.2.length≤60
  num:∀ (k:Nat) (kn:Knot),net[k]?=some kn→∀ n∈kn.2,0≤n∧n < (k:Int)
theorem Nts.kd {p u:Addr} {i:Nat} {as:List Addr} {net:List Knot} {H1 H2:Hp} {c d:Int} (h:Nts p u i as net H1) (up:u≠p) (dk:Deck H1 p c) (k:Kd p d H1 H2):Nts p u i as net H2:=
  ⟨k.keep _ _ up h.at',h.kn.tups (kd_tups dk k),h.len,h.low,h.few,h.num⟩
theorem Nts.same {p u:Addr} {i:Nat} {as:List Addr} {net:List Knot} {H1 H2:Hp} (h:Nts p u i as net H1) (k:Same H1 H2):Nts p u i as net H2:=
  ⟨k _ _ h.at',h.kn.same k,h.len,h.low,h.few,h.num⟩
structure Ben (p b:Addr) (i:Nat) (nums:List Int) (H':Hp):Prop where
  at':H' b=some (.lst (nums.map V.int))∨H' b=some (.tup (nums.map V.int))
  np:b≠p
  few:nums.length≤60
  num:0 < i→∀ n∈nums,0≤n∧n < (i:Int)
theorem Ben.kd {p b:Addr} {i:Nat} {nums:List Int} {H1 H2:Hp} {d:Int} (h:Ben p b i nums H1) (k:Kd p d H1 H2):Ben p b i nums H2:=
  ⟨h.at'.imp (k.keep _ _ h.np) (k.keep _ _ h.np),h.np,h.few,h.num⟩
theorem let4 {n:Int} (h0:0≤n) (h1:n < 4):∃ L:Str,atI [V.str (Str.ofString "abcdefghijklmnopqrstuvwxyz"),.str (Str.ofString "ab"),.str (Str.ofString "z"),.str (Str.ofString "abc")] n=some (.str L)∧(∀ c∈L.cps.toList,Lw c)∧0 < L.length∧L.length≤26:=by
  have:n=0∨n=1∨n=2∨n=3:=by omega
  rcases this with rfl | rfl | rfl | rfl <;> exact ⟨_,rfl,by decide +kernel,by decide +kernel,by decide +kernel⟩
theorem str_at {L:Str} {i:Int} (al:∀ c∈L.cps.toList,Lw c) (h0:0≤i) (h1:i < (L.length:Int)):∃ c,atI L.cps.toList i=some c∧Lw c:=by
  have hl:L.cps.toList.length=L.length:=by simp [Str.length]
  have hk:i.toNat < L.cps.toList.length:=by omega
  have e:=atI_nat (xs:=L.cps.toList) (j:=i.toNat) (List.getElem?_eq_getElem hk)
  rw [show ((i.toNat:Nat):Int)=i by omega] at e
  exact ⟨_,e,al _ (List.getElem_mem hk)⟩
section
variable {P:Program} {w:World} {K:PySem.W.Frag} {mg:Str→Option Value} {base:Heap} {k:Nat}
def sp_net:Sp:=fun vs H Q _=>∃ (p:Addr) (c:Int),vs=[.ref p,.int 60]∧Deck H p c∧0≤c∧c < 900000∧∀ (t:Addr) (net:List Knot) (H':Hp),Kd p (c+5000) H H'→NetAt H' t net→NetOk net→Q (.ref t) H'
theorem has_net (D:Df K mg "_law_net" s_law_net) (B:Blt7 mg) (G_law_draw:Has P w K mg base "_law_draw" k ["store", "many"] sp_draw):Has P w K mg base "_law_net" (k+1) ["store", "most"] sp_net:=by
  refine D.has sc_law_net (fun _ _ _ _ _ _ us hl=>match us,hl with | [_,_],_=>rfl) (fun vs H Q E h=>by obtain ⟨p,c,rfl,_⟩:=h;rfl) (fun f cdv A outer s H vs Q E hr h=>?_)
  obtain ⟨p,c,rfl,hd,cc0,cc1,q⟩:=h
  refine ⟨_,(pss_cons (ps_set (i:=2) sc_law_net.nd rfl (by first | exact Or.inl rfl | exact Or.inr rfl) (pe_callH G_law_draw hr rfl (pa_cons (pv 0) (pa_cons pe_int pa_nil))))
  (pss_cons (ps_set (i:=3) sc_law_net.nd rfl (by first | exact Or.inl rfl | exact Or.inr rfl) (pe_ix ix_list (pe_lst (pa_cons (pe_op op_add pe_int (pe_callH G_law_draw hr rfl (pa_cons (pv 0) (pa_cons pe_int pa_nil)))) (pa_cons (pe_op op_add pe_int (pe_callH G_law_draw hr rfl (pa_cons (pv 0) (pa_cons (pv 1) pa_nil)))) (pa_cons (pv 1) pa_nil)))) (pe_callH G_law_draw hr rfl (pa_cons (pv 0) (pa_cons pe_int pa_nil))) (fun _ _=>rfl)))
  (pss_cons (ps_set (i:=4) sc_law_net.nd rfl (by first | exact Or.inl rfl | exact Or.inr rfl) (pe_ix ix_list (pe_lst (pa_cons pe_str (pa_cons pe_str (pa_cons pe_str (pa_cons pe_str pa_nil))))) (pe_callH G_law_draw hr rfl (pa_cons (pv 0) (pa_cons pe_int pa_nil))) (fun _ _=>rfl)))
  (pss_cons (ps_set (i:=5) sc_law_net.nd rfl (by first | exact Or.inl rfl | exact Or.inr rfl) (pe_lst pa_nil))
  (pss_cons (ps_for PassesOwn.never rfl (pi_range1 rfl B.range (pa_cons (pv 3) pa_nil)) (pg_name (i:=6) sc_law_net.nd rfl (by first | exact Or.inl rfl | exact Or.inr rfl))
  (pss_cons (ps_set (i:=7) sc_law_net.nd rfl (by first | exact Or.inl rfl | exact Or.inr rfl) (pe_callH G_law_draw hr rfl (pa_cons (pv 0) (pa_cons pe_int pa_nil))))
  (pss_cons (ps_set (i:=8) sc_law_net.nd rfl (by first | exact Or.inl rfl | exact Or.inr rfl) (pe_ix ix_str (pv 4) (pe_callH G_law_draw hr rfl (pa_cons (pv 0) (pa_cons (pe_callB call_len_str rfl B.len bt_len (pa_cons (pv 4) pa_nil)) pa_nil))) (fun _ _=>rfl)))
  (pss_cons (ps_comp (i:=9) sc_law_net.nd rfl (by first | exact Or.inl rfl | exact Or.inr rfl) rfl (pi_range1 rfl B.range (pa_cons (pe_ix ix_list (pe_lst (pa_cons pe_int (pa_cons pe_int (pa_cons pe_int (pa_cons (pv 7) (pa_cons (pv 7) (pa_cons (pv 7) (pa_cons (pv 7) pa_nil)))))))) (pv 2) (fun _ _=>rfl)) pa_nil)) (NL:=["j"]) (ix:=[6]) (csc (defScope s_law_net) N_law_net) (fun cl C s₃ H₃ fp pins=>⟨(pg_name (i:=0) (show List.Nodup (["j", "k"]:List Str) from by decide +kernel) rfl (by first | exact Or.inl rfl | exact Or.inr rfl)),pifs_nil,(pe_op op_add (pe_callB (call_max2 rfl) rfl B.max bt_max (pa_cons pe_int (pa_cons (pe_op op_sub (pv 1) pe_int) pa_nil))) (pe_op op_mul pe_int (pv 0)))⟩))
  (pss_cons (ps_if (pt_cmpR op_gt (pv 2) pe_int (nomark _))
  (pss_one (ps_comp (i:=9) sc_law_net.nd rfl (by first | exact Or.inl rfl | exact Or.inr rfl) rfl (pi_list (pv 9)) (NL:=["j"]) (ix:=[0,6]) (csc (defScope s_law_net) N_law_net) (fun cl C s₃ H₃ fp pins=>⟨(pg_name (i:=0) (show List.Nodup (["j", "store", "k"]:List Str) from by decide +kernel) rfl (by first | exact Or.inl rfl | exact Or.inr rfl)),pifs_nil,(pe_callH G_law_draw hr rfl (pa_cons (pv 1) (pa_cons (pe_op op_add (pv 2) (pe_callTy call_int1 rfl B.int_ bt_int (pa_cons (pe_cmpR op_eq (pv 2) pe_int (nomark _)) pa_nil))) pa_nil)))⟩)))
  pss_nil)
  (pss_cons (ps_if (pt_cmpR op_eq (pv 2) pe_int (nomark _))
  (pss_one (ps_comp (i:=9) sc_law_net.nd rfl (by first | exact Or.inl rfl | exact Or.inr rfl) rfl (pi_range1 rfl B.range (pa_cons (pv 7) pa_nil)) (NL:=["j"]) (ix:=[6]) (csc (defScope s_law_net) N_law_net) (fun cl C s₃ H₃ fp pins=>⟨(pg_name (i:=0) (show List.Nodup (["j", "k"]:List Str) from by decide +kernel) rfl (by first | exact Or.inl rfl | exact Or.inr rfl)),pifs_nil,(pe_callB (call_max2 rfl) rfl B.max bt_max (pa_cons pe_int (pa_cons (pe_op op_sub (pe_op op_sub (pv 1) pe_int) (pv 0)) pa_nil)))⟩)))
  pss_nil)
  (pss_cons (ps_if (PW.pt (pw_and (pt_cmpR op_eq (pv 2) pe_int (nomark _)) (pw_and (pt_cmpR op_gt (pv 6) pe_int (nomark _)) (pw_and1 (pt_cmpR op_eq (pe_callH G_law_draw hr rfl (pa_cons (pv 0) (pa_cons pe_int pa_nil))) pe_int (nomark _))))))
  (pss_one (ps_asg (pe_ix ix_list (pv 5) (pe_callH G_law_draw hr rfl (pa_cons (pv 0) (pa_cons (pv 6) pa_nil))) (fun _ _=>rfl)) (pg_tup rfl (pgs_cons (pg_name (i:=8) sc_law_net.nd rfl (by first | exact Or.inl rfl | exact Or.inr rfl)) (pgs_cons (pg_name (i:=9) sc_law_net.nd rfl (by first | exact Or.inl rfl | exact Or.inr rfl)) pgs_nil)))))
  pss_nil)
  (pss_cons (ps_if (PW.pt (pw_and (pt_cmpR op_eq (pv 2) pe_int (nomark _)) (pw_and1 (pt_cmpR op_gt (pv 6) pe_int (nomark _)))))
  (pss_one (ps_set (i:=9) sc_law_net.nd rfl (by first | exact Or.inl rfl | exact Or.inr rfl) (pe_op op_cat (pe_op op_cat (pe_lst (pa_cons (pe_op op_sub (pv 6) pe_int) pa_nil)) (pv 9)) (pe_lst (pa_cons (pe_op op_sub (pv 6) pe_int) pa_nil)))))
  pss_nil)
  (pss_one (ps_expr (pe_bm PySem.F.plainAttrs_list PySem.F.slot_list_append PySem.F.type_list_append mt_append (pv 5) (pa_cons (pe_tup (pa_cons (pv 8) (pa_cons (pe_ifExp (pt_cmpR op_gt (pv 6) pe_int (nomark _)) (pe_callTy call_tuple_of rfl B.tuple_ bt_tuple (pa_cons (pv 9) pa_nil)) (pe_tup pa_nil)) pa_nil))) pa_nil))))))))))))
  (pss_one (ps_ret (pe_callTy call_tuple_of rfl B.tuple_ bt_tuple (pa_cons (pv 5) pa_nil))))))))),?_⟩
  refine ⟨_,rfl,p,7,c,rfl,hd,by omega,by decide,by decide,fun way H1 w0 w1 kd1=>?_⟩
  refine ⟨_,rfl,p,5,_,rfl,kd1.deck,by omega,by decide,by decide,fun n1 H2 a0 a1 kd2=>?_⟩
  refine ⟨_,_,rfl,rfl,_,rfl,_,rfl,p,60,_,rfl,kd2.deck,by omega,by decide,by decide,fun n2 H3 b0 b1 kd3=>?_⟩
  refine ⟨_,_,rfl,rfl,_,rfl,(by show 3≤sizeLine;decide),fun r1 hr1=>?_⟩
  have kq3:=(((kd1.trans kd2).trans kd3).new (o:=.lst [.int (1+n1),.int (1+n2),.int 60]) hr1)
  refine ⟨_,rfl,p,3,_,rfl,kq3.deck,by omega,by decide,by decide,fun n3 H4 d0 d1 kd4=>?_⟩
  have ku4:=kq3.trans kd4
  obtain ⟨many,hmany,mn1,mn60⟩:=menu (us:=[1+n1,1+n2,60]) (n:=n3) (lo:=1) (hi:=60) d0 d1 (by
    intro z hz
    simp only [List.mem_cons,List.not_mem_nil,or_false] at hz
    rcases hz with rfl | rfl | rfl <;> omega)
  refine ⟨r1,_,_,_,rfl,rfl,SqL.of (kd4.keep _ _ (kd3.deck.ne hr1) upd_same),hmany,?_⟩
  refine ⟨(by show 4≤sizeLine;decide),fun r2 hr2=>?_⟩
  have kq4:=ku4.new (o:=.lst [V.str (Str.ofString "abcdefghijklmnopqrstuvwxyz"),.str (Str.ofString "ab"),.str (Str.ofString "z"),.str (Str.ofString "abc")]) hr2
  refine ⟨_,rfl,p,4,_,rfl,kq4.deck,by omega,by decide,by decide,fun n4 H5 g0 g1 kd5=>?_⟩
  obtain ⟨L,hL,Ll,L0,L26⟩:=let4 g0 g1
  refine ⟨r2,_,_,_,rfl,rfl,SqL.of (kd5.keep _ _ (ku4.deck.ne hr2) upd_same),hL,?_⟩
  have ku5:=kq4.trans kd5
  refine ⟨(by show 0≤sizeLine;decide),fun u hu0=>?_⟩
  have hup:u≠p:=ku5.deck.ne hu0
  have hHu:H u=none:=ku5.fresh hu0
  refine ⟨_,rfl,many,rfl,by omega,by omega,?_⟩
  refine for_range (lo:=0) (n:=many.toNat) (fun i σ H'=>∃ (as:List Addr) (net:List Knot) (o6 o7 o8 o9:Option V),
      σ=[some (.ref p),some (.int 60),some (.int way),some (.int many),some (.str L),some (.ref u),o6,o7,o8,o9]∧Kd p (c+6+66 * i) H H'∧Nts p u i as net H')
    ⟨[],[],none,none,none,none,rfl,(ku5.new hu0).mono (by omega),upd_same,⟨rfl,fun i a kn x=>by cases x⟩,rfl,by simp,by simp,fun k kn x=>by cases x⟩ ?_ ?_
  · rintro i σ H' hi ⟨as,net,o6,o7,o8,o9,rfl,kd,nts⟩
    have i60:i < 60:=by omega
    have kone:(if decide (V.int (0+(i:Int))=V.int 0)=true then (1:Int) else 0)=if i=0 then 1 else 0:=by
      by_cases z:i=0
      · subst z;rfl
      · rw [if_neg z,if_neg (by rw [decide_eq_true_eq];intro e;injection e with e;omega)]
    refine ⟨_,rfl,p,4,_,rfl,kd.deck,by omega,by decide,by decide,fun few G1 f0 f1 e1=>?_⟩
    refine ⟨_,rfl,_,rfl,_,rfl,_,rfl,by exact Nat.le_of_lt (small1000 (by omega)),p,_,_,rfl,e1.deck,by omega,by omega,by omega,fun n G2 p0 p1 e2=>?_⟩
    obtain ⟨ch,hch,chl⟩:=str_at Ll p0 p1
    refine ⟨_,_,_,rfl,rfl,by exact Nat.le_of_lt (small1000 (by omega)),hch,?_⟩
    have kd2:=(kd.trans e1).trans e2
    have nts2:=(nts.kd hup kd.deck e1).kd hup e1.deck e2
    dsimp only [gName]
    refine mid (fun σ HX=>∃ (b:Addr) (nums:List Int),σ=[some (.ref p),some (.int 60),some (.int way),some (.int many),some (.str L),some (.ref u),some (.int (0+(i:Int))),some (.int few),some (.str ⟨#[ch]⟩),some (.ref b)]∧Kd p (c+6+66 * i+2) H HX∧Nts p u i as net HX∧Ben p b i nums HX∧HX b=some (.lst (nums.map V.int))∧(way=3∨way=4∨way=5∨way=6→nums.length≤3)) ?_ fun E nx=>?_
    rotate_left
    · refine ⟨_,rfl,_,rfl,_,rfl,_,rfl,(by show 7≤sizeLine;decide),fun r3 hr3=>?_⟩
      have kd3:=kd2.new (o:=.lst ([V.int 1,.int 2,.int 60,.int few,.int few,.int few,.int few])) hr3
      have nts3:=nts2.same ((Same.refl G2).new (o:=.lst ([V.int 1,.int 2,.int 60,.int few,.int few,.int few,.int few])) hr3)
      have at3:upd G2 r3 (.lst [V.int 1,.int 2,.int 60,.int few,.int few,.int few,.int few]) r3=some (.lst [V.int 1,.int 2,.int 60,.int few,.int few,.int few,.int few]):=upd_same
      show (fun HH=>_) (upd G2 r3 (.lst [V.int 1,.int 2,.int 60,.int few,.int few,.int few,.int few]))
      generalize upd G2 r3 (.lst [V.int 1,.int 2,.int 60,.int few,.int few,.int few,.int few])=G3 at kd3 nts3 at3
      have hmn:∃ m:Int,atI ([V.int 1,.int 2,.int 60,.int few,.int few,.int few,.int few]) way=some (.int m)∧0≤m∧m≤60∧(way=3∨way=4∨way=5∨way=6→m≤3):=by
        have:way=0∨way=1∨way=2∨way=3∨way=4∨way=5∨way=6:=by omega
        rcases this with rfl | rfl | rfl | rfl | rfl | rfl | rfl <;> exact ⟨_,rfl,by omega,by omega,by omega⟩
      obtain ⟨m,hm,m0,m60,m3⟩:=hmn
      refine ⟨_,rfl,r3,_,_,_,rfl,rfl,SqL.of at3,hm,?_⟩
      refine ⟨m,rfl,by omega,by omega,fun acc hacc=>?_⟩
      refine comp_by m.toNat (by omega) (fun j ys HX=>∃ nums:List Int,HX acc=some (.lst ys)∧ys=nums.map V.int∧nums.length=j∧(0 < i→∀ n∈nums,0≤n∧n < (i:Int))∧Same G3 HX) (fun j ys HX h=>by obtain ⟨nums,h1,rfl,h2,_⟩:=h;exact ⟨h1,by rw [List.length_map];omega⟩) ⟨[],upd_same,rfl,rfl,(fun _ n hn=>by cases hn),(Same.refl G3).new hacc⟩ ?_ ?_
      · rintro ys HX ⟨nums,h1,rfl,h2,h3,h4⟩
        have kdX:Kd p (c+6+66 * i+2) H HX:=(kd3.same h4).mono (by omega)
        exact ⟨Nat.le_refl _,nx _ _ ⟨acc,nums,rfl,kdX,nts3.same h4,⟨.inl h1,kd3.deck.ne hacc,by omega,h3⟩,h1,fun z=>by have:=m3 z;omega⟩⟩
      · rintro j ys HX hj ⟨nums,h1,rfl,h2,h3,h4⟩
        refine ⟨hj,?_⟩
        rintro x H'' ⟨rfl,rfl⟩
        refine ⟨rfl,?_⟩
        refine ⟨_,rfl,_,_,rfl,rfl,_,_,rfl,_,rfl,_,_,rfl,rfl,.inl ⟨by decide,by decide⟩,_,_,rfl,rfl,h1,?_⟩
        refine ⟨nums++[_],upd_same,by rw [List.map_append];rfl,by rw [List.length_append,h2];rfl,fun i0 n hn=>?_,h4.write hacc⟩
        rcases List.mem_append.mp hn with hn | hn
        · exact h3 i0 n hn
        · rw [List.mem_singleton.mp hn]
          split <;> omega
    rintro σ HX ⟨b,nums,rfl,kdX,ntsX,ben,hb,nl3⟩
    refine mid (fun σ HX=>∃ (b:Addr) (nums:List Int),σ=[some (.ref p),some (.int 60),some (.int way),some (.int many),some (.str L),some (.ref u),some (.int (0+(i:Int))),some (.int few),some (.str ⟨#[ch]⟩),some (.ref b)]∧Kd p (c+6+66 * i+62) H HX∧Nts p u i as net HX∧Ben p b i nums HX∧HX b=some (.lst (nums.map V.int))∧(way=3∨way=4∨way=5∨way=6→nums.length≤3)) ?_ fun E nx=>?_
    rotate_left
    · refine ⟨_,rfl,_,_,rfl,rfl,_,rfl,ite2 (fun cnd=>?_) (fun cnd=>?_)⟩
      · refine ⟨_,rfl,b,rfl,⟨_,SqL.of hb⟩,fun acc hacc=>?_⟩
        refine comp_lst (xs:=nums.map V.int) (by rw [List.length_map];have:=ben.few;omega) (fun j ys HY=>∃ nn:List Int,HY acc=some (.lst ys)∧ys=nn.map V.int∧nn.length=j∧(0 < i→∀ n∈nn,0≤n∧n < (i:Int))∧Kd p (c+6+66 * i+2+j) HX HY∧j≤nums.length)
          (fun j ys HY h=>by obtain ⟨nn,_,_,_,_,h5,_⟩:=h;exact SqL.of (h5.keep _ _ ben.np hb)) (fun j ys HY h=>by obtain ⟨nn,h1,rfl,h2,_⟩:=h;exact ⟨h1,by rw [List.length_map];omega⟩) ⟨[],upd_same,rfl,rfl,(fun _ n hn=>by cases hn),((Kd.refl kdX.deck).new hacc).mono (by omega),Nat.zero_le _⟩ ?_ ?_
        · rintro ys HY ⟨nn,h1,rfl,h2,h3,h4,h5⟩
          rw [List.length_map] at h2 h4
          have bf:=ben.few
          refine nx _ _ ⟨acc,nn,rfl,(kdX.trans h4).mono (by omega),ntsX.kd hup kdX.deck h4,⟨.inl h1,kdX.deck.ne hacc,by omega,h3⟩,h1,fun z=>by have:=nl3 z;omega⟩
        · rintro j x ys HY hx ⟨nn,h1,rfl,h2,h3,h4,h5⟩
          have jl:=(List.getElem?_eq_some_iff.mp hx).1
          rw [List.length_map] at jl
          have bf:=ben.few
          refine ⟨rfl,?_⟩
          refine ⟨_,rfl,_,rfl,_,rfl,rfl,.inr ⟨_,rfl,_,_,rfl,rfl,p,_,_,rfl,h4.deck,by omega,?_,?_,fun n G n0 n1 e=>?_⟩⟩
          · rw [kone];split <;> omega
          · rw [kone];split <;> omega
          have hacG:G acc=some (.lst (nn.map V.int)):=e.keep _ _ (kdX.deck.ne hacc) h1
          refine ⟨hacG,nn++[n],upd_same,by rw [List.map_append];rfl,by rw [List.length_append,h2];rfl,fun i0 z hz=>?_,((h4.trans e).mono (by omega)).write hacc (kdX.deck.ne hacc),by omega⟩
          rcases List.mem_append.mp hz with hz | hz
          · exact h3 i0 z hz
          · rw [List.mem_singleton.mp hz]
            refine ⟨n0,?_⟩
            rw [kone,if_neg (by omega)] at n1
            omega
      · exact nx _ _ ⟨b,nums,rfl,kdX.mono (by omega),ntsX,ben,hb,nl3⟩
    clear nl3 hb ben ntsX kdX
    rintro σ HX ⟨b,nums,rfl,kdX,ntsX,ben,hb,nl3⟩
    refine mid (fun σ HX=>∃ (b:Addr) (nums:List Int),σ=[some (.ref p),some (.int 60),some (.int way),some (.int many),some (.str L),some (.ref u),some (.int (0+(i:Int))),some (.int few),some (.str ⟨#[ch]⟩),some (.ref b)]∧Kd p (c+6+66 * i+62) H HX∧Nts p u i as net HX∧Ben p b i nums HX∧HX b=some (.lst (nums.map V.int))∧(way=3∨way=4∨way=5∨way=6→nums.length≤3)) ?_ fun E nx=>?_
    rotate_left
    · refine ⟨_,rfl,rfl,_,rfl,ite2 (fun cnd=>?_) (fun cnd=>?_)⟩
      · refine ⟨_,rfl,few,rfl,by omega,by omega,fun acc hacc=>?_⟩
        refine comp_by few.toNat (by omega) (fun j ys HY=>∃ nn:List Int,HY acc=some (.lst ys)∧ys=nn.map V.int∧nn.length=j∧(0 < i→∀ n∈nn,0≤n∧n < (i:Int))∧Same HX HY) (fun j ys HY h=>by obtain ⟨nn,h1,rfl,h2,_⟩:=h;exact ⟨h1,by rw [List.length_map];omega⟩) ⟨[],upd_same,rfl,rfl,(fun _ n hn=>by cases hn),(Same.refl HX).new hacc⟩ ?_ ?_
        · rintro ys HY ⟨nn,h1,rfl,h2,h3,h4⟩
          exact ⟨Nat.le_refl _,nx _ _ ⟨acc,nn,rfl,kdX.same h4,ntsX.same h4,⟨.inl h1,kdX.deck.ne hacc,by omega,h3⟩,h1,fun z=>by omega⟩⟩
        · rintro j ys HY hj ⟨nn,h1,rfl,h2,h3,h4⟩
          refine ⟨hj,?_⟩
          rintro x H'' ⟨rfl,rfl⟩
          refine ⟨rfl,?_⟩
          refine ⟨_,rfl,_,_,rfl,rfl,_,rfl,_,_,rfl,rfl,_,_,rfl,h1,?_⟩
          refine ⟨nn++[_],upd_same,by rw [List.map_append];rfl,by rw [List.length_append,h2];rfl,fun i0 n hn=>?_,h4.write hacc⟩
          rcases List.mem_append.mp hn with hn | hn
          · exact h3 i0 n hn
          · rw [List.mem_singleton.mp hn]
            split <;> omega
      · exact nx _ _ ⟨b,nums,rfl,kdX,ntsX,ben,hb,nl3⟩
    clear nl3 hb ben ntsX kdX
    rintro σ HX ⟨b,nums,rfl,kdX,ntsX,ben,hb,nl3⟩
    refine mid (fun σ HX=>∃ (c8:Nat) (b:Addr) (nums:List Int),σ=[some (.ref p),some (.int 60),some (.int way),some (.int many),some (.str L),some (.ref u),some (.int (0+(i:Int))),some (.int few),some (.str ⟨#[c8]⟩),some (.ref b)]∧Lw c8∧Kd p (c+6+66 * i+64) H HX∧Nts p u i as net HX∧Ben p b i nums HX∧(way=6→HX b=some (.lst (nums.map V.int))∧nums.length≤3)) ?_ fun E nx=>?_
    rotate_left
    · refine ⟨_,rfl,rfl,_,rfl,ite2 (fun c5=>?_) (fun c5=>?_)⟩
      · have w5:way=5:=by have:=of_decide_eq_true c5;injection this
        refine ⟨_,rfl,_,_,rfl,rfl,_,rfl,ite2 (fun ck=>?_) (fun ck=>?_)⟩
        · have ik:0 < i:=by have:=of_decide_eq_true ck;omega
          refine ⟨_,rfl,p,3,_,rfl,kdX.deck,by omega,by decide,by decide,fun n5 G5 q0 q1 e5=>?_⟩
          refine ⟨rfl,_,rfl,ite2 (fun cd=>?_) (fun cd=>?_)⟩
          · refine ⟨_,rfl,_,rfl,_,rfl,p,_,_,rfl,e5.deck,by omega,by omega,by omega,fun n6 G6 q2 q3 e6=>?_⟩
            have nts6:=(ntsX.kd hup kdX.deck e5).kd hup e5.deck e6
            have al:=nts6.kn.1
            have nl:=nts6.len
            have h6:n6.toNat < as.length:=by omega
            have h6':n6.toNat < net.length:=by omega
            have ea:as[n6.toNat]?=some as[n6.toNat]:=List.getElem?_eq_getElem h6
            have en:net[n6.toNat]?=some net[n6.toNat]:=List.getElem?_eq_getElem h6'
            obtain ⟨b6,k1,k2⟩:=nts6.kn.2 _ _ _ ea en
            have hat:=atI_nat (xs:=as.map V.ref) (j:=n6.toNat) (v:=.ref as[n6.toNat]) (by rw [List.getElem?_map,ea];rfl)
            rw [show ((n6.toNat:Nat):Int)=n6 by omega] at hat
            refine ⟨u,_,_,_,rfl,rfl,SqL.of nts6.at',hat,?_⟩
            refine ⟨_,_,rfl,SqT.of k1,rfl,_,_,rfl,_,_,rfl,rfl,?_⟩
            refine nx _ _ ⟨net[n6.toNat].1,b6,net[n6.toNat].2,rfl,nts6.low _ (List.getElem_mem h6'),((kdX.trans e5).trans e6).mono (by omega),nts6,⟨.inr k2,ne_deck e6.deck k2 (by intro _ _ _ z;cases z),nts6.few _ (List.getElem_mem h6'),fun _ z hz=>?_⟩,fun z=>by omega⟩
            have:=nts6.num _ _ en z hz
            omega
          · exact nx _ _ ⟨ch,b,nums,rfl,chl,(kdX.trans e5).mono (by omega),ntsX.kd hup kdX.deck e5,ben.kd e5,fun z=>by omega⟩
        · exact nx _ _ ⟨ch,b,nums,rfl,chl,kdX.mono (by omega),ntsX,ben,fun z=>by omega⟩
      · exact nx _ _ ⟨ch,b,nums,rfl,chl,kdX.mono (by omega),ntsX,ben,fun z=>⟨hb,nl3 (by omega)⟩⟩
    clear nl3 hb ben ntsX kdX
    rintro σ HX ⟨c8,b,nums,rfl,lc8,kdX,ntsX,ben,nl3⟩
    refine mid (fun σ HX=>∃ (b:Addr) (nums:List Int),σ=[some (.ref p),some (.int 60),some (.int way),some (.int many),some (.str L),some (.ref u),some (.int (0+(i:Int))),some (.int few),some (.str ⟨#[c8]⟩),some (.ref b)]∧Kd p (c+6+66 * i+64) H HX∧Nts p u i as net HX∧Ben p b i nums HX) ?_ fun E nx=>?_
    rotate_left
    · refine ⟨_,rfl,rfl,_,rfl,ite2 (fun c6=>?_) (fun c6=>?_)⟩
      · have w6:way=6:=by have:=of_decide_eq_true c6;injection this
        obtain ⟨hb,n3⟩:=nl3 w6
        refine ⟨_,rfl,_,_,rfl,rfl,_,rfl,ite2 (fun ck=>?_) (fun ck=>?_)⟩
        · have ik:1 < i:=by have:=of_decide_eq_true ck;omega
          have hk1:(0:Int)+(i:Int) - 1=((i - 1:Nat):Int):=by omega
          refine ⟨_,rfl,_,_,rfl,rfl,(by show 1≤sizeLine;decide),fun r1 hr1=>?_⟩
          have s1:Same HX (upd HX r1 (.lst [.int (0+(i:Int) - 1)])):=(Same.refl HX).new hr1
          have a1:upd HX r1 (.lst [.int (0+(i:Int) - 1)]) r1=some (.lst [.int (0+(i:Int) - 1)]):=upd_same
          show (fun HH=>_) (upd HX r1 (.lst [.int (0+(i:Int) - 1)]))
          generalize upd HX r1 (.lst [.int (0+(i:Int) - 1)])=G1 at s1 a1
          refine ⟨_,rfl,r1,b,_,_,rfl,rfl,a1,s1 _ _ hb,by rw [List.length_map];show 1+_≤_;exact Nat.le_of_lt (small1000 (by omega)),fun r2 hr2=>?_⟩
          have s2:Same G1 (upd G1 r2 (.lst ([.int (0+(i:Int) - 1)]++nums.map V.int))):=(Same.refl G1).new hr2
          have a2:upd G1 r2 (.lst ([.int (0+(i:Int) - 1)]++nums.map V.int)) r2=some (.lst ([.int (0+(i:Int) - 1)]++nums.map V.int)):=upd_same
          show (fun HH=>_) (upd G1 r2 (.lst ([.int (0+(i:Int) - 1)]++nums.map V.int)))
          generalize upd G1 r2 (.lst ([.int (0+(i:Int) - 1)]++nums.map V.int))=G2' at s2 a2
          refine ⟨_,rfl,_,_,rfl,rfl,(by show 1≤sizeLine;decide),fun r3 hr3=>?_⟩
          have s3:Same G2' (upd G2' r3 (.lst [.int (0+(i:Int) - 1)])):=(Same.refl G2').new hr3
          have a3:upd G2' r3 (.lst [.int (0+(i:Int) - 1)]) r3=some (.lst [.int (0+(i:Int) - 1)]):=upd_same
          show (fun HH=>_) (upd G2' r3 (.lst [.int (0+(i:Int) - 1)]))
          generalize upd G2' r3 (.lst [.int (0+(i:Int) - 1)])=G3' at s3 a3
          refine ⟨r2,r3,_,_,rfl,rfl,s3 _ _ a2,a3,by rw [List.length_append,List.length_map];show 1+_+1≤_;exact Nat.le_of_lt (small1000 (by omega)),fun r4 hr4=>?_⟩
          have s4:Same G3' (upd G3' r4 (.lst ([.int (0+(i:Int) - 1)]++nums.map V.int++[.int (0+(i:Int) - 1)]))):=(Same.refl G3').new hr4
          have a4:upd G3' r4 (.lst ([.int (0+(i:Int) - 1)]++nums.map V.int++[.int (0+(i:Int) - 1)])) r4=some (.lst (([0+(i:Int) - 1]++nums++[0+(i:Int) - 1]).map V.int)):=by rw [upd_same];simp
          have sA:=((s1.trans s2).trans s3).trans s4
          refine nx _ _ ⟨r4,[0+(i:Int) - 1]++nums++[0+(i:Int) - 1],rfl,kdX.same sA,ntsX.same sA,⟨.inl a4,(kdX.same ((s1.trans s2).trans s3)).deck.ne hr4,?_,fun i0 n hn=>?_⟩⟩
          · rw [List.length_append,List.length_append];show 1+_+1≤_;omega
          · rcases List.mem_append.mp hn with hn | hn
            · rcases List.mem_append.mp hn with hn | hn
              · rw [List.mem_singleton.mp hn];omega
              · exact ben.num i0 n hn
            · rw [List.mem_singleton.mp hn];omega
        · exact nx _ _ ⟨b,nums,rfl,kdX,ntsX,ben⟩
      · exact nx _ _ ⟨b,nums,rfl,kdX,ntsX,ben⟩
    clear nl3 ben ntsX kdX
    rintro σ HX ⟨b,nums,rfl,kdX,ntsX,ben⟩
    have huX:=ntsX.at'
    have al:=ntsX.kn.1
    have nl:=ntsX.len
    have fin:∀ (a:Addr) (nn:List Int) (HA:Hp),Kd p (c+6+66 * i+64) H HA→Nts p u i as net HA→KnotAt HA a (c8,nn)→nn.length≤60→(∀ n∈nn,0≤n∧n < (i:Int)) →
        ∃ (as':List Addr) (net':List Knot),upd HA u (.lst (as.map V.ref++[.ref a])) u=some (.lst (as'.map V.ref))∧Kd p (c+6+66 * (i+1:Nat)) H (upd HA u (.lst (as.map V.ref++[.ref a])))∧Nts p u (i+1) as' net' (upd HA u (.lst (as.map V.ref++[.ref a]))):=by
      intro a nn HA kA nA hA fA mA
      have tU:∀ x xs,HA x=some (.tup xs)→upd HA u (.lst (as.map V.ref++[.ref a])) x=some (.tup xs):=fun x xs e=>by
        rw [upd_ne (ne_of e nA.at' (by intro z;cases z))];exact e
      refine ⟨as++[a],net++[(c8,nn)],by rw [upd_same,List.map_append];rfl,(kA.mono (by omega)).write hHu hup,by rw [upd_same,List.map_append];rfl,(nA.kn.snoc hA).tups tU,by rw [List.length_append,nA.len];rfl,fun kn hk=>?_,fun kn hk=>?_,fun z kn hz=>?_⟩
      · rcases List.mem_append.mp hk with hk | hk
        · exact nA.low kn hk
        · rw [List.mem_singleton.mp hk];exact lc8
      · rcases List.mem_append.mp hk with hk | hk
        · exact nA.few kn hk
        · rw [List.mem_singleton.mp hk];exact fA
      · rcases Nat.lt_or_ge z net.length with lt | ge
        · rw [List.getElem?_append_left lt] at hz
          exact nA.num z kn hz
        · rw [List.getElem?_append_right ge] at hz
          cases e:z - net.length with
          | zero=>
            rw [e] at hz
            cases hz
            intro n hn
            have:=mA n hn
            omega
          | succ y=>rw [e] at hz;cases hz
    refine ⟨_,rfl,.inl ⟨rfl,_,SqL.of huX⟩,_,rfl,_,rfl,_,_,rfl,rfl,_,rfl,ite2 (fun ck=>?_) (fun ck=>?_)⟩
    · have ik:0 < i:=by have:=of_decide_eq_true ck;omega
      have bnum:=ben.num ik
      have bfew:=ben.few
      rcases ben.at' with hb | hb
      · refine ⟨_,rfl,b,_,rfl,.inl ⟨SqL.of hb,fun b1 hb1=>?_⟩⟩
        refine ⟨(by show 2≤sizeLine;decide),fun a1 ha1=>?_⟩
        have sA:Same HX (upd (upd HX b1 (.tup (nums.map V.int))) a1 (.tup [.str ⟨#[c8]⟩,.ref b1])):=((Same.refl HX).new hb1).new ha1
        have hA:KnotAt (upd (upd HX b1 (.tup (nums.map V.int))) a1 (.tup [.str ⟨#[c8]⟩,.ref b1])) a1 (c8,nums):=⟨b1,upd_same,by rw [upd_ne (ne_of_none upd_same ha1)];exact upd_same⟩
        show (fun HH=>_) (upd (upd HX b1 (.tup (nums.map V.int))) a1 (.tup [.str ⟨#[c8]⟩,.ref b1]))
        generalize upd (upd HX b1 (.tup (nums.map V.int))) a1 (.tup [.str ⟨#[c8]⟩,.ref b1])=HA at sA hA
        refine ⟨u,_,_,rfl,rfl,sA _ _ huX,by rw [List.length_map];exact small1000 (by omega),?_⟩
        obtain ⟨as',net',f1,f2,f3⟩:=fin a1 nums HA (kdX.same sA) (ntsX.same sA) hA bfew bnum
        exact ⟨as',net',_,_,_,_,rfl,f2,f3⟩
      · refine ⟨_,rfl,b,_,rfl,.inr ⟨SqT.of hb,?_⟩⟩
        refine ⟨(by show 2≤sizeLine;decide),fun a1 ha1=>?_⟩
        have sA:Same HX (upd HX a1 (.tup [.str ⟨#[c8]⟩,.ref b])):=(Same.refl HX).new ha1
        have hA:KnotAt (upd HX a1 (.tup [.str ⟨#[c8]⟩,.ref b])) a1 (c8,nums):=⟨b,upd_same,sA _ _ hb⟩
        show (fun HH=>_) (upd HX a1 (.tup [.str ⟨#[c8]⟩,.ref b]))
        generalize upd HX a1 (.tup [.str ⟨#[c8]⟩,.ref b])=HA at sA hA
        refine ⟨u,_,_,rfl,rfl,sA _ _ huX,by rw [List.length_map];exact small1000 (by omega),?_⟩
        obtain ⟨as',net',f1,f2,f3⟩:=fin a1 nums HA (kdX.same sA) (ntsX.same sA) hA bfew bnum
        exact ⟨as',net',_,_,_,_,rfl,f2,f3⟩
    · refine ⟨(by show 0≤sizeLine;decide),fun b1 hb1=>?_⟩
      refine ⟨(by show 2≤sizeLine;decide),fun a1 ha1=>?_⟩
      have sA:Same HX (upd (upd HX b1 (.tup [])) a1 (.tup [.str ⟨#[c8]⟩,.ref b1])):=((Same.refl HX).new hb1).new ha1
      have hA:KnotAt (upd (upd HX b1 (.tup [])) a1 (.tup [.str ⟨#[c8]⟩,.ref b1])) a1 (c8,[]):=⟨b1,upd_same,by rw [upd_ne (ne_of_none upd_same ha1)];exact upd_same⟩
      show (fun HH=>_) (upd (upd HX b1 (.tup [])) a1 (.tup [.str ⟨#[c8]⟩,.ref b1]))
      generalize upd (upd HX b1 (.tup [])) a1 (.tup [.str ⟨#[c8]⟩,.ref b1])=HA at sA hA
      refine ⟨u,_,_,rfl,rfl,sA _ _ huX,by rw [List.length_map];exact small1000 (by omega),?_⟩
      obtain ⟨as',net',f1,f2,f3⟩:=fin a1 [] HA (kdX.same sA) (ntsX.same sA) hA (by decide) (by simp)
      exact ⟨as',net',_,_,_,_,rfl,f2,f3⟩
  · rintro σ H' ⟨as,net,o6,o7,o8,o9,rfl,kd,nts⟩
    refine ⟨_,rfl,u,_,rfl,.inl ⟨SqL.of nts.at',fun t ht=>?_⟩⟩
    have sT:Same H' (upd H' t (.tup (as.map V.ref))):=(Same.refl H').new ht
    exact q t net _ ((kd.new ht).mono (by omega)) ⟨as,upd_same,nts.kn.same sT⟩ ⟨by have:=nts.len;omega,by have:=nts.len;omega,nts.low,nts.few,nts.num⟩
end
end S46
namespace L2
section
variable {NL:List PySem.Str} {ix:List Nat} {g:TG} {tt:TT} {te:TE} {σ:St} {H1:Hp} {Qs:Hp→Prop} {acc:PySem.Addr}
theorem comp_tupl {K:PySem.W.Frag} {a:PySem.Addr} {xs:List V} (hn:xs.length < 1000) (Pv:Nat→List V→Hp→Prop)
    (hl:∀ i ys H2,Pv i ys H2→SqT K H2 a xs) (hacc:∀ i ys H2,Pv i ys H2→H2 acc=some (.lst ys)∧ys.length≤i) (h0:Pv 0 [] (upd H1 acc (.lst []))) (hstop:∀ ys H2,Pv xs.length ys H2→Qs H2)
    (hturn:∀ i x ys H2,xs[i]?=some x→Pv i ys H2→g x (comp0 NL ix σ) H2 fun σ' H4=>σ'.drop NL.length=ix.map (fun j=>σ.getD j none)∧tt σ' H4 fun b H5=>
      if b=true then te σ' H5 fun v H6=>H6 acc=some (.lst ys)∧Pv (i+1) (ys++[v]) (upd H6 acc (.lst (ys++[v]))) else Pv (i+1) ys H5) :
    ∃ W:Nat→Nat→List V→Hp→Prop,(∃ m,W 0 m [] (upd H1 acc (.lst []))) ∧
    ∀ i m ys H2,W i m ys H2→H2 acc=some (.lst ys)∧ys.length < PySem.sizeLine ∧
      (((Itt K a).stop i H2∧Qs H2)∨((Itt K a).go i H2∧∃ N:List V→Hp→Prop,(∀ ys' H',N ys' H'→∃ m',m' < m∧W (i+1) m' ys' H') ∧
        ∀ x H3,(Itt K a).yld i H2 x H3→g x (comp0 NL ix σ) H3 fun σ' H4=>σ'.drop NL.length=ix.map (fun j=>σ.getD j none)∧tt σ' H4 fun b H5=>
          if b=true then te σ' H5 fun v H6=>H6 acc=some (.lst ys)∧N (ys++[v]) (upd H6 acc (.lst (ys++[v]))) else N ys H5)):=by
  refine comp_by xs.length hn Pv hacc h0 (fun ys H2 hp=>⟨⟨xs,hl _ _ _ hp,Nat.le_refl _⟩,hstop ys H2 hp⟩) fun i ys H2 hi hp=>?_
  have hs:=hl _ _ _ hp
  refine ⟨⟨xs,xs[i],hs,List.getElem?_eq_getElem hi⟩,?_⟩
  rintro x H3 ⟨rfl,hx⟩
  exact hturn i x ys H3 (hx xs hs) hp
end
end L2
namespace S46
open PySem L2 W7
theorem str_ext {a b:Str} (h:a.cps.toList=b.cps.toList):a=b:=by
  cases a;cases b
  congr
  exact Array.toList_inj.mp h
def lwB (c:Nat):Bool:=decide (97≤c) && decide (c < 123)
theorem lwB_iff {c:Nat}:lwB c=true ↔ Lw c:=by unfold lwB Lw;rw [Bool.and_eq_true,decide_eq_true_eq,decide_eq_true_eq]
theorem in_abc {c:Nat} (h:c < 1000):(!(Builtin.Str.occurrences (Str.ofString "abcdefghijklmnopqrstuvwxyz") ⟨#[c]⟩ 0 (Str.ofString "abcdefghijklmnopqrstuvwxyz").length 1).isEmpty)=lwB c:=by
  have all:∀ c:Nat,c < 1000→(!(Builtin.Str.occurrences (Str.ofString "abcdefghijklmnopqrstuvwxyz") ⟨#[c]⟩ 0 (Str.ofString "abcdefghijklmnopqrstuvwxyz").length 1).isEmpty)=lwB c:=by decide +kernel
  exact all c h
def letD:PyData→Bool
  | .str z=>z.cps.toList.all lwB
  | _=>false
def Short (d:PyData):Prop:=∀ z,d=.str z→z.length≤900∧∀ c∈z.cps.toList,c < 1000
def OneD (d:PyData):Prop:=∃ c,d=.str ⟨#[c]⟩∧Lw c
def belowD:PyData→Int→Bool
  | .int i,n=>decide (0≤i) && decide (i < n)
  | _,_=>false
def KnotD (d:PyData) (k:Nat):Prop:=∃ (x:PyData) (us:List Int),d=.tuple [x,.tuple (us.map .int)]∧OneD x∧us.length≤60∧∀ u∈us,0≤u∧u < (k:Int)
def NetD (d:PyData):Prop:=∃ ks:List PyData,d=.tuple ks∧1≤ks.length∧ks.length≤60∧∀ (i:Nat) (kd:PyData),ks[i]?=some kd→KnotD kd i
def ShK (d:PyData):Prop:=∀ x r,d=.tuple (x :: r)→Short x
def ShN (d:PyData):Prop:=∀ ks,d=.tuple ks→∀ kd∈ks,ShK kd
theorem below_all {ds:List PyData} {n:Nat}:(ds.all fun d=>belowD d (n:Int))=true ↔ ∃ us:List Int,ds=us.map .int∧∀ u∈us,0≤u∧u < (n:Int):=by
  rw [List.all_eq_true]
  constructor
  · intro h
    induction ds with
    | nil=>exact ⟨[],rfl,fun _ h=>nomatch h⟩
    | cons d ds ih=>
      obtain ⟨us,rfl,hu⟩:=ih fun x hx=>h x (List.mem_cons_of_mem _ hx)
      have hd:=h d List.mem_cons_self
      cases d with
      | int i=>
        have hd':(decide (0≤i) && decide (i < (n:Int)))=true:=hd
        rw [Bool.and_eq_true,decide_eq_true_eq,decide_eq_true_eq] at hd'
        exact ⟨i :: us,rfl,fun u hu'=>(List.mem_cons.mp hu').elim (fun e=>e ▸ hd') (hu u)⟩
      | _=>cases hd
  · rintro ⟨us,rfl,hu⟩ d hd
    obtain ⟨u,hu',rfl⟩:=List.mem_map.mp hd
    show (decide (0≤u) && decide (u < (n:Int)))=true
    rw [decide_eq_true (hu u hu').1,decide_eq_true (hu u hu').2];rfl
theorem one_str {z:Str} (h:z.cps.toList.all lwB=true) (l:z.length=1):OneD (.str z):=by
  have e:z.cps.toList.length=1:=by rw [Array.length_toList];exact l
  obtain ⟨c,hc⟩:=List.length_eq_one_iff.mp e
  refine ⟨c,?_,lwB_iff.mp (List.all_eq_true.mp h c (by rw [hc];simp))⟩
  congr 1
  apply str_ext
  rw [hc]
section
variable {P:Program} {w:World} {K:PySem.W.Frag} {mg:Str→Option Value} {base:Heap} {k:Nat}
def sp_wholeT:Sp:=fun vs H Q _=>∃ (v:V) (d:PyData),vs=[v]∧Td H v d∧Q (.bl (wholeD d)) H
theorem has_wholeT (D:Df K mg "is_whole" s_is_whole) (B:Blt7 mg):Has P w K mg base "is_whole" (k+1) ["thing"] sp_wholeT:=by
  refine D.has sc_is_whole (fun _ _ _ _ _ _ us hl=>match us,hl with | [_],_=>rfl) (fun vs H Q E h=>by obtain ⟨x,d,rfl,_⟩:=h;rfl) (fun f cdv A outer s H vs Q E hr h=>?_)
  obtain ⟨v,d,rfl,td,q⟩:=h
  refine ⟨_,(pss_one (ps_ret (pe_and (pe_callB call_isinst rfl B.isinstance bt_isinstance (pa_cons (pv 0) (pa_cons (pe_bltn (v:=.ty "int") rfl B.int_ bt_int rfl) pa_nil))) (pe_one (pe_not (pe_callB call_isinst rfl B.isinstance bt_isinstance (pa_cons (pv 0) (pa_cons (pe_bltn (v:=.ty "bool") rfl B.bool_ bt_bool rfl) pa_nil)))))))),?_⟩
  obtain ⟨t1,a1,a2⟩:=td_int (K:=K) td
  obtain ⟨t2,b1,b2⟩:=td_bl (K:=K) td
  refine ⟨_,rfl,_,t1, "int", _,rfl,a1,a2,_,rfl,ite2 (fun c=>?_) (fun c=>?_)⟩
  · refine ⟨_,rfl,_,t2, "bool", _,rfl,b1,b2,_,rfl,?_⟩
    have e:wholeD d=!isBlD d:=by cases d <;> first | rfl | cases c
    rw [← e];exact q
  · have e:wholeD d=false:=by cases d <;> first | rfl | (exact absurd rfl c)
    rw [e] at q;exact q
def sp_lettersT:Sp:=fun vs H Q _=>∃ (v:V) (d:PyData),vs=[v]∧Td H v d∧Short d∧∀ H',Same H H'→Q (.bl (letD d)) H'
theorem has_lettersT (D:Df K mg "is_letters" s_is_letters) (B:Blt7 mg):Has P w K mg base "is_letters" (k+1) ["thing"] sp_lettersT:=by
  refine D.has sc_is_letters (fun _ _ _ _ _ _ us hl=>match us,hl with | [_],_=>rfl) (fun vs H Q E h=>by obtain ⟨x,d,rfl,_⟩:=h;rfl) (fun f cdv A outer s H vs Q E hr h=>?_)
  obtain ⟨v,d,rfl,td,sh,q⟩:=h
  obtain ⟨u2,h_LETTERS,r_LETTERS⟩:=B.letters
  refine ⟨_,(pss_one (ps_ret (pe_and (pe_callB call_isinst rfl B.isinstance bt_isinstance (pa_cons (pv 0) (pa_cons (pe_bltn (v:=.ty "str") rfl B.str_ bt_str rfl) pa_nil))) (pe_one (pe_callB (call_all rfl) rfl B.all bt_all (pa_cons (pe_comp rfl (pi_str (pv 0)) (NL:=["sign"]) (ix:=[]) (csc (defScope s_is_letters) N_is_letters) (fun cl C s₃ H₃ fp pins=>⟨(pg_name (i:=0) (show List.Nodup (["sign"]:List Str) from by decide +kernel) rfl (by first | exact Or.inl rfl | exact Or.inr rfl)),pifs_nil,(pe_cmpR op_in_str (pv 0) (pe_glob (v:=.str "abcdefghijklmnopqrstuvwxyz") rfl h_LETTERS r_LETTERS) (by with_unfolding_all rfl))⟩)) pa_nil)))))),?_⟩
  obtain ⟨t1,a1,a2⟩:=td_str (K:=K) td
  refine ⟨_,rfl,_,t1, "str", _,rfl,a1,a2,_,rfl,ite2 (fun c=>?_) (fun c=>?_)⟩
  rotate_left
  · have e:letD d=false:=by cases d <;> first | rfl | (exact absurd rfl c)
    have:=q H (Same.refl H)
    rw [e] at this;exact this
  obtain ⟨z,rfl,rfl⟩:=isStr_ex td c
  obtain ⟨zl,zc⟩:=sh z rfl
  have zs:z.cps.size≤900:=zl
  refine ⟨_,rfl,_,rfl,fun a1 ha1=>?_⟩
  refine comp_str (by omega) (fun i ys HX=>HX a1=some (.lst ys)∧Same H HX∧ys=((z.cps.toList.take i).map lwB).map V.bl)
    (fun i ys HX h=>⟨h.1,by rw [h.2.2,List.length_map,List.length_map,List.length_take];exact Nat.min_le_left _ _⟩) ⟨upd_same,(Same.refl H).new ha1,rfl⟩ ?_ ?_
  rotate_left
  · rintro i ch ys HX hc ⟨g1,g2,rfl⟩
    have hc':z.cps.toList[i]?=some ch:=by rw [← Array.getElem?_toList] at hc;exact hc
    refine ⟨rfl,_,rfl,_,_,rfl,rfl,?_⟩
    rw [in_abc (zc ch (List.mem_of_getElem? hc'))]
    refine ⟨g1,upd_same,g2.write ha1,?_⟩
    rw [List.take_succ,hc',List.map_append,List.map_append];rfl
  rintro ys H1 ⟨g1,s1,rfl⟩
  refine ⟨a1,_,rfl,SqL.of g1,?_⟩
  have e:(((z.cps.toList.take z.cps.size).map lwB).all id)=letD (.str z):=by
    show _=z.cps.toList.all lwB
    rw [← Array.length_toList,List.take_length,List.all_map];rfl
  rw [e]
  exact q _ s1
def sp_oneT:Sp:=fun vs H Q _=>∃ (v:V) (d:PyData),vs=[v]∧Td H v d∧Short d∧∀ (b:Bool) (H':Hp),Same H H'→(b=true ↔ OneD d)→Q (.bl b) H'
theorem has_oneT (D:Df K mg "is_letter" s_is_letter) (B:Blt7 mg) (G_is_letters:Has P w K mg base "is_letters" k ["thing"] sp_lettersT):Has P w K mg base "is_letter" (k+1) ["thing"] sp_oneT:=by
  refine D.has sc_is_letter (fun _ _ _ _ _ _ us hl=>match us,hl with | [_],_=>rfl) (fun vs H Q E h=>by obtain ⟨x,d,rfl,_⟩:=h;rfl) (fun f cdv A outer s H vs Q E hr h=>?_)
  obtain ⟨v,d,rfl,td,sh,q⟩:=h
  refine ⟨_,(pss_one (ps_ret (pe_and (pe_callH G_is_letters hr rfl (pa_cons (pv 0) pa_nil)) (pe_one (pe_cmpR op_eq (pe_callB call_len_str rfl B.len bt_len (pa_cons (pv 0) pa_nil)) pe_int (nomark _)))))),?_⟩
  refine ⟨_,rfl,v,d,rfl,td,sh,fun H1 s1=>⟨_,rfl,ite2 (fun c=>?_) (fun c=>?_)⟩⟩
  rotate_left
  · refine q false H1 s1 ⟨(fun z=>by cases z),fun ⟨ch,e2,lw⟩=>?_⟩
    subst e2
    exact absurd (show letD (.str ⟨#[ch]⟩)=true by show [ch].all lwB=true;simp [lwB_iff.mpr lw]) c
  have hs:isStrD d=true:=by cases d <;> first | rfl | cases c
  obtain ⟨z,rfl,rfl⟩:=isStr_ex td hs
  obtain ⟨zl,_⟩:=sh z rfl
  refine ⟨_,rfl,z,rfl,Nat.le_of_lt (small1000 (by omega)),rfl,?_⟩
  refine q _ H1 s1 ⟨fun h=>?_,fun ⟨ch,e2,lw⟩=>?_⟩
  · have h2:(V.int ((z.length:Nat):Int)=V.int 1):=of_decide_eq_true h
    injection h2 with h2
    exact one_str c (by omega)
  · injection e2 with e2
    subst e2
    rfl
def sp_belowT:Sp:=fun vs H Q _=>∃ (v:V) (d:PyData) (n:Int),vs=[v,.int n]∧Td H v d∧Q (.bl (belowD d n)) H
theorem has_belowT (D:Df K mg "is_number_below" s_is_number_below) (B:Blt7 mg) (G_is_whole:Has P w K mg base "is_whole" k ["thing"] sp_wholeT):Has P w K mg base "is_number_below" (k+1) ["thing", "behind"] sp_belowT:=by
  refine D.has sc_is_number_below (fun _ _ _ _ _ _ us hl=>match us,hl with | [_,_],_=>rfl) (fun vs H Q E h=>by obtain ⟨x,d,n,rfl,_⟩:=h;rfl) (fun f cdv A outer s H vs Q E hr h=>?_)
  obtain ⟨v,d,n,rfl,td,q⟩:=h
  refine ⟨_,(pss_one (ps_ret (pe_and (pe_callH G_is_whole hr rfl (pa_cons (pv 0) pa_nil)) (pe_one (pe_chain op_le op_lt pe_int (pv 0) (pv 1)))))),?_⟩
  refine ⟨_,rfl,v,d,rfl,td,_,rfl,?_⟩
  cases td with
  | int i=>
    refine iteT ⟨_,rfl,_,_,rfl,rfl,_,rfl,ite2 (fun c=>?_) (fun c=>?_)⟩
    · refine ⟨_,rfl,_,_,rfl,rfl,?_⟩
      have q':Q (.bl (decide (0≤i) && decide (i < n))) H:=q
      rw [c,Bool.true_and] at q'
      exact q'
    · have q':Q (.bl (decide (0≤i) && decide (i < n))) H:=q
      rw [Bool.eq_false_iff.mpr c,Bool.false_and] at q'
      exact q'
  | _=>exact iteF q
def sp_knotT:Sp:=fun vs H Q _=>∃ (v:V) (d:PyData) (n:Nat),vs=[v,.int (n:Int)]∧Td H v d∧ShK d∧∀ (b:Bool) (H':Hp),Same H H'→(b=true ↔ KnotD d n)→Q (.bl b) H'
theorem has_knotT (D:Df K mg "is_knot" s_is_knot) (B:Blt7 mg) (G_is_letter:Has P w K mg base "is_letter" k ["thing"] sp_oneT) (G_is_number_below:Has P w K mg base "is_number_below" k ["thing", "behind"] sp_belowT):Has P w K mg base "is_knot" (k+1) ["thing", "number"] sp_knotT:=by
  refine D.has sc_is_knot (fun _ _ _ _ _ _ us hl=>match us,hl with | [_,_],_=>rfl) (fun vs H Q E h=>by obtain ⟨x,d,n,rfl,_⟩:=h;rfl) (fun f cdv A outer s H vs Q E hr h=>?_)
  obtain ⟨v,d,n,rfl,td,sh,q⟩:=h
  obtain ⟨u2,h_MOST_BENEATH,r_MOST_BENEATH⟩:=B.beneath
  refine ⟨_,(pss_cons (ps_if (PW.pt (pw_or (pt_not (pt_val (pe_callB call_isinst rfl B.isinstance bt_isinstance (pa_cons (pv 0) (pa_cons (pe_bltn (v:=.ty "tuple") rfl B.tuple_ bt_tuple rfl) pa_nil))))) (pw_or (pt_cmpR op_ne (pe_callB call_len_seq rfl B.len bt_len (pa_cons (pv 0) pa_nil)) pe_int (nomark _)) (pw_or1 (pt_not (pt_val (pe_callH G_is_letter hr rfl (pa_cons (pe_ix ix_tup (pv 0) pe_int (fun _ _=>rfl)) pa_nil))))))))
  (pss_one (ps_ret pe_bl))
  pss_nil)
  (pss_cons (ps_if (PW.pt (pw_or (pt_not (pt_val (pe_callB call_isinst rfl B.isinstance bt_isinstance (pa_cons (pe_ix ix_tup (pv 0) pe_int (fun _ _=>rfl)) (pa_cons (pe_bltn (v:=.ty "tuple") rfl B.tuple_ bt_tuple rfl) pa_nil))))) (pw_or1 (pt_cmpR op_gt (pe_callB call_len_seq rfl B.len bt_len (pa_cons (pe_ix ix_tup (pv 0) pe_int (fun _ _=>rfl)) pa_nil)) (pe_glob (v:=.int 60) rfl h_MOST_BENEATH r_MOST_BENEATH) (nomark _)))))
  (pss_one (ps_ret pe_bl))
  pss_nil)
  (pss_one (ps_ret (pe_callB (call_all rfl) rfl B.all bt_all (pa_cons (pe_comp rfl (pi_tup (pe_ix ix_tup (pv 0) pe_int (fun _ _=>rfl))) (NL:=["part"]) (ix:=[1]) (csc (defScope s_is_knot) N_is_knot) (fun cl C s₃ H₃ fp pins=>⟨(pg_name (i:=0) (show List.Nodup (["part", "number"]:List Str) from by decide +kernel) rfl (by first | exact Or.inl rfl | exact Or.inr rfl)),pifs_nil,(pe_callH G_is_number_below hr rfl (pa_cons (pv 0) (pa_cons (pv 1) pa_nil)))⟩)) pa_nil)))))),?_⟩
  have no:¬ KnotD d n→(false=true ↔ KnotD d n):=fun n=>⟨(fun z=>by cases z),fun z=>absurd z n⟩
  obtain ⟨t1,a1,a2⟩:=td_tup (K:=K) td
  refine ⟨_,rfl,_,t1, "tuple", _,rfl,a1,a2,_,rfl,?_⟩
  by_cases ct:isTupD d=true
  rotate_left
  · refine iteA (by rw [Bool.eq_false_iff.mpr ct];rfl) ?_
    exact q false H (Same.refl H) (no fun ⟨x,us,e,_⟩=>ct (by rw [e];rfl))
  refine iteB (by rw [ct];rfl) ?_
  obtain ⟨a,xs,ds,rfl,rfl,ha,tds⟩:=isTup_ex td ct
  have xl:=tds.len
  refine ⟨_,rfl,a,_,rfl,.inr (SqT.of ha),rfl,_,rfl,?_⟩
  by_cases cl:xs.length=2
  rotate_left
  · refine iteA (by simp;omega) ?_
    exact q false H (Same.refl H) (no fun ⟨x,us,e,_⟩=>cl (by rw [xl];injection e with e;rw [e];rfl))
  refine iteB (by rw [cl];simp) ?_
  obtain ⟨x,y,rfl⟩:∃ x y,xs=[x,y]:=by
    match xs,cl with
    | [x,y],_=>exact ⟨x,y,rfl⟩
  obtain ⟨dx,ds2,rfl,tx,t2⟩:∃ dx ds2,ds=dx :: ds2∧Td H x dx∧Tds H [y] ds2:=by
    cases tds with
    | cons tx t2=>exact ⟨_,_,rfl,tx,t2⟩
  obtain ⟨dy,rfl,ty⟩:∃ dy,ds2=[dy]∧Td H y dy:=by
    cases t2 with
    | cons ty t3=>cases t3;exact ⟨_,rfl,ty⟩
  have inv:∀ {x:PyData} {us:List Int},PyData.tuple [dx,dy]=.tuple [x,.tuple (us.map .int)]→dx=x∧dy=.tuple (us.map .int):=fun {x us} e=>by
    injection e with e
    injection e with ea eb
    injection eb with eb _
    exact ⟨ea,eb⟩
  refine ⟨_,rfl,a,_,_,_,rfl,rfl,SqT.of ha,rfl,x,dx,rfl,tx,sh dx [dy] rfl,fun b H1 s1 hb=>⟨_,rfl,?_⟩⟩
  cases b with
  | false=>
    refine iteA rfl ?_
    exact q false H1 s1 (no fun ⟨x',us,e,o,_⟩=>by have:=hb.mpr ((inv e).1 ▸ o);cases this)
  | true=>
  have od:OneD dx:=hb.mp rfl
  refine iteB rfl ?_
  have ha1:=s1 _ _ ha
  obtain ⟨t2,b1,b2⟩:=td_tup (K:=K) (ty.same s1)
  refine ⟨_,rfl,a,_,_,_,rfl,rfl,SqT.of ha1,rfl,_,t2, "tuple", _,rfl,b1,b2,_,rfl,?_⟩
  by_cases cu:isTupD dy=true
  rotate_left
  · refine iteA (by rw [Bool.eq_false_iff.mpr cu];rfl) ?_
    exact q false H1 s1 (no fun ⟨x',us,e,_⟩=>cu (by rw [(inv e).2];rfl))
  refine iteB (by rw [cu];rfl) ?_
  obtain ⟨u,us0,dus,rfl,rfl,hu,tdu⟩:=isTup_ex (ty.same s1) cu
  have ul:=tdu.len
  refine ⟨_,rfl,a,_,_,_,rfl,rfl,SqT.of ha1,rfl,u,_,rfl,.inr (SqT.of hu),_,_,rfl,rfl,_,rfl,?_⟩
  by_cases c60:us0.length≤60
  rotate_left
  · refine iteA (by simp;omega) ?_
    exact q false H1 s1 (no fun ⟨x',us,e,_,l,_⟩=>c60 (by
      have e2:=(inv e).2
      injection e2 with e2
      rw [ul,e2,List.length_map];exact l))
  refine iteB (by simp;omega) ?_
  refine ⟨_,rfl,a,_,_,_,rfl,rfl,SqT.of ha1,rfl,u,rfl,⟨_,SqT.of hu⟩,fun ac hac=>?_⟩
  refine comp_tupl (K:=K) (a:=u) (xs:=us0) (by omega) (fun i ys HX=>HX ac=some (.lst ys)∧Same H1 HX∧ys=((dus.take i).map fun d=>belowD d (n:Int)).map V.bl)
    (fun i ys HX h=>SqT.of (h.2.1 _ _ hu)) (fun i ys HX h=>⟨h.1,by rw [h.2.2,List.length_map,List.length_map,List.length_take];exact Nat.min_le_left _ _⟩) ⟨upd_same,(Same.refl H1).new hac,rfl⟩ ?_ ?_
  rotate_left
  · rintro i x ys HX hx ⟨g1,g2,rfl⟩
    obtain ⟨dd,e1,td2⟩:=tdu.get hx
    refine ⟨rfl,_,rfl,_,rfl,x,dd,(n:Int),rfl,td2.same g2,g1,upd_same,g2.write hac,?_⟩
    rw [List.take_succ,e1,List.map_append,List.map_append];rfl
  rintro ys H2 ⟨g1,s2,rfl⟩
  refine ⟨ac,_,rfl,SqL.of g1,?_⟩
  rw [ul,List.take_length,List.all_map]
  refine q _ H2 (s1.trans s2) ?_
  have e0:(id ∘ fun d=>belowD d (n:Int))=fun d=>belowD d (n:Int):=rfl
  rw [e0,below_all]
  constructor
  · rintro ⟨us,rfl,hus⟩
    exact ⟨dx,us,rfl,od,by rw [List.length_map] at ul;omega,hus⟩
  · rintro ⟨x',us,e,_,l,hus⟩
    have e2:=(inv e).2
    injection e2 with e2
    exact ⟨us,e2,hus⟩
def sp_netT:Sp:=fun vs H Q _=>∃ (v:V) (d:PyData),vs=[v]∧Td H v d∧ShN d∧∀ (b:Bool) (H':Hp),Same H H'→(b=true ↔ NetD d)→Q (.bl b) H'
theorem has_netT (D:Df K mg "is_net" s_is_net) (B:Blt7 mg) (G_is_knot:Has P w K mg base "is_knot" k ["thing", "number"] sp_knotT):Has P w K mg base "is_net" (k+1) ["thing"] sp_netT:=by
  refine D.has sc_is_net (fun _ _ _ _ _ _ us hl=>match us,hl with | [_],_=>rfl) (fun vs H Q E h=>by obtain ⟨x,d,rfl,_⟩:=h;rfl) (fun f cdv A outer s H vs Q E hr h=>?_)
  obtain ⟨v,d,rfl,td,sh,q⟩:=h
  obtain ⟨u2,h_MOST_KNOTS,r_MOST_KNOTS⟩:=B.knots
  refine ⟨_,(pss_cons (ps_if (PW.pt (pw_or (pt_not (pt_val (pe_callB call_isinst rfl B.isinstance bt_isinstance (pa_cons (pv 0) (pa_cons (pe_bltn (v:=.ty "tuple") rfl B.tuple_ bt_tuple rfl) pa_nil))))) (pw_or1 (pt_not (pt_chain op_le op_le pe_int (pe_callB call_len_seq rfl B.len bt_len (pa_cons (pv 0) pa_nil)) (pe_glob (v:=.int 60) rfl h_MOST_KNOTS r_MOST_KNOTS))))))
  (pss_one (ps_ret pe_bl))
  pss_nil)
  (pss_one (ps_ret (pe_callB (call_all rfl) rfl B.all bt_all (pa_cons (pe_comp rfl (pi_enum rfl B.enumerate (pa_cons (pv 0) pa_nil)) (NL:=["number", "part"]) (ix:=[]) (csc (defScope s_is_net) N_is_net) (fun cl C s₃ H₃ fp pins=>⟨(pg_tupK K (n:=2) rfl (pgs_cons (pg_name (i:=0) (show List.Nodup (["number", "part"]:List Str) from by decide +kernel) rfl (by first | exact Or.inl rfl | exact Or.inr rfl)) (pgs_cons (pg_name (i:=1) (show List.Nodup (["number", "part"]:List Str) from by decide +kernel) rfl (by first | exact Or.inl rfl | exact Or.inr rfl)) pgs_nil))),pifs_nil,(pe_callH G_is_knot hr rfl (pa_cons (pv 1) (pa_cons (pv 0) pa_nil)))⟩)) pa_nil))))),?_⟩
  have no:¬ NetD d→(false=true ↔ NetD d):=fun n=>⟨(fun z=>by cases z),fun z=>absurd z n⟩
  obtain ⟨t1,a1,a2⟩:=td_tup (K:=K) td
  refine ⟨_,rfl,_,t1, "tuple", _,rfl,a1,a2,_,rfl,?_⟩
  by_cases ct:isTupD d=true
  rotate_left
  · refine iteA (by rw [Bool.eq_false_iff.mpr ct];rfl) ?_
    exact q false H (Same.refl H) (no fun ⟨ks,e,_⟩=>ct (by rw [e];rfl))
  refine iteB (by rw [ct];rfl) ?_
  obtain ⟨a,xs,ds,rfl,rfl,ha,tds⟩:=isTup_ex td ct
  have xl:=tds.len
  refine ⟨_,rfl,a,_,rfl,.inr (SqT.of ha),_,_,rfl,rfl,_,rfl,?_⟩
  by_cases c60:1≤xs.length∧xs.length≤60
  rotate_left
  · have bad:¬ NetD (.tuple ds):=fun ⟨ks,e,l1,l6,_⟩=>c60 (by injection e with e;rw [xl,e];exact ⟨l1,l6⟩)
    by_cases c1:1≤xs.length
    · refine iteA (decide_eq_true (by omega)) ?_
      refine ⟨_,_,rfl,rfl,_,rfl,?_⟩
      refine iteA (by simp;omega) ?_
      exact q false H (Same.refl H) (no bad)
    · refine iteB (decide_eq_false (by omega)) ?_
      exact ⟨_,rfl,q false H (Same.refl H) (no bad)⟩
  refine iteA (decide_eq_true (by omega)) ?_
  refine ⟨_,_,rfl,rfl,_,rfl,?_⟩
  refine iteB (by simp;omega) ?_
  refine ⟨_,rfl,.tup a,rfl,⟨_,.inl ha⟩,fun ac hac=>?_⟩
  refine comp_enum (κ:=.tup a) (xs:=xs) (by omega) (fun i ys HX=>HX ac=some (.lst ys)∧Same H HX∧∃ bs:List Bool,ys=bs.map V.bl∧bs.length=i∧∀ (j:Nat) (b:Bool) (kd:PyData),bs[j]?=some b→ds[j]?=some kd→(b=true ↔ KnotD kd j))
    (fun i ys HX h=>.inl (h.2.1 _ _ ha)) (fun i ys HX h=>⟨h.1,by obtain ⟨_,_,bs,rfl,l,_⟩:=h;rw [List.length_map,l];exact Nat.le_refl _⟩) ⟨upd_same,(Same.refl H).new hac,[],rfl,rfl,fun j b kd e=>nomatch e⟩ ?_ ?_
  rotate_left
  · rintro i x ys HX p hx ⟨g1,g2,bs,rfl,bl,hb⟩ hp
    obtain ⟨kd,e1,td2⟩:=tds.get hx
    refine ⟨p,_,rfl,SqT.of upd_same,rfl,_,_,rfl,_,_,rfl,rfl,?_⟩
    have sP:Same HX (upd HX p (.tup [.int (i:Int),x])):=(Same.refl HX).new hp
    have g1':=sP _ _ g1
    have g2':=g2.trans sP
    show (fun HH=>_) (upd HX p (.tup [.int (i:Int),x]))
    generalize upd HX p (.tup [.int (i:Int),x])=HY at sP g1' g2'
    refine ⟨rfl,_,rfl,_,rfl,x,kd,i,rfl,td2.same g2',sh ds rfl kd (List.mem_of_getElem? e1),fun b H3 s3 hb3=>?_⟩
    refine ⟨s3 _ _ g1',upd_same,(g2'.trans s3).write hac,bs++[b],by rw [List.map_append];rfl,by rw [List.length_append,bl];rfl,fun j b' kd' eb ek=>?_⟩
    rcases Nat.lt_or_ge j bs.length with l | l
    · rw [List.getElem?_append_left l] at eb
      exact hb j b' kd' eb ek
    · rw [List.getElem?_append_right l] at eb
      have ej:j=i:=by
        have:=(List.getElem?_eq_some_iff.mp eb).1
        simp at this
        omega
      subst ej
      rw [bl,Nat.sub_self] at eb
      rw [e1] at ek
      cases eb;cases ek
      exact hb3
  rintro ys H2 ⟨g1,s2,bs,rfl,bl,hb⟩
  refine ⟨ac,_,rfl,SqL.of g1,?_⟩
  refine q _ H2 s2 ?_
  rw [List.all_eq_true]
  constructor
  · intro h
    refine ⟨ds,rfl,by omega,by omega,fun i kd ek=>?_⟩
    have il:=(List.getElem?_eq_some_iff.mp ek).1
    have ib:i < bs.length:=by omega
    exact (hb i bs[i] kd (List.getElem?_eq_getElem ib) ek).mp (h _ (List.getElem_mem ib))
  · rintro ⟨ks,e,_,_,hk⟩ b hbm
    injection e with e
    subst e
    obtain ⟨j,hj,ej⟩:=List.getElem_of_mem hbm
    have jl:j < ds.length:=by omega
    have:=(hb j b ds[j] (by rw [List.getElem?_eq_getElem hj,ej]) (List.getElem?_eq_getElem jl)).mpr (hk j _ (List.getElem?_eq_getElem jl))
    exact this
end
end S46
namespace S46
open PySem L2 W7
theorem line_ok0:0≤sizeLine:=Nat.zero_le _
section
variable {P:Program} {w:World} {K:PySem.W.Frag} {mg:Str→Option Value} {base:Heap} {k:Nat}
theorem has_lwholeT (D:Df K mg "_law_whole" s_law_whole) (B:Blt7 mg):Has P w K mg base "_law_whole" (k+1) ["thing"] sp_wholeT:=by
  refine D.has sc_law_whole (fun _ _ _ _ _ _ us hl=>match us,hl with | [_],_=>rfl) (fun vs H Q E h=>by obtain ⟨x,d,rfl,_⟩:=h;rfl) (fun f cdv A outer s H vs Q E hr h=>?_)
  obtain ⟨v,d,rfl,td,q⟩:=h
  refine ⟨_,(pss_one (ps_ret (pe_and (pe_callB call_isinst rfl B.isinstance bt_isinstance (pa_cons (pv 0) (pa_cons (pe_bltn (v:=.ty "int") rfl B.int_ bt_int rfl) pa_nil))) (pe_one (pe_not (pe_callB call_isinst rfl B.isinstance bt_isinstance (pa_cons (pv 0) (pa_cons (pe_bltn (v:=.ty "bool") rfl B.bool_ bt_bool rfl) pa_nil)))))))),?_⟩
  obtain ⟨t1,a1,a2⟩:=td_int (K:=K) td
  obtain ⟨t2,b1,b2⟩:=td_bl (K:=K) td
  refine ⟨_,rfl,_,t1, "int", _,rfl,a1,a2,_,rfl,ite2 (fun c=>?_) (fun c=>?_)⟩
  · refine ⟨_,rfl,_,t2, "bool", _,rfl,b1,b2,_,rfl,?_⟩
    have e:wholeD d=!isBlD d:=by cases d <;> first | rfl | cases c
    rw [← e];exact q
  · have e:wholeD d=false:=by cases d <;> first | rfl | (exact absurd rfl c)
    rw [e] at q;exact q
theorem has_lnetT (D:Df K mg "_law_is_net" s_law_is_net) (B:Blt7 mg) (G_law_whole:Has P w K mg base "_law_whole" k ["thing"] sp_wholeT):Has P w K mg base "_law_is_net" (k+1) ["thing"] sp_netT:=by
  refine D.has sc_law_is_net (fun _ _ _ _ _ _ us hl=>match us,hl with | [_],_=>rfl) (fun vs H Q E h=>by obtain ⟨x,d,rfl,_⟩:=h;rfl) (fun f cdv A outer s H vs Q E hr h=>?_)
  obtain ⟨v,d,rfl,td,sh,q⟩:=h
  refine ⟨_,(pss_cons (ps_if (PW.pt (pw_or (pt_not (pt_val (pe_callB call_isinst rfl B.isinstance bt_isinstance (pa_cons (pv 0) (pa_cons (pe_bltn (v:=.ty "tuple") rfl B.tuple_ bt_tuple rfl) pa_nil))))) (pw_or1 (pt_not (pt_chain op_le op_le pe_int (pe_callB call_len_seq rfl B.len bt_len (pa_cons (pv 0) pa_nil)) pe_int)))))
  (pss_one (ps_ret pe_bl))
  pss_nil)
  (pss_cons (ps_for PassesOwn.never rfl (pi_enum rfl B.enumerate (pa_cons (pv 0) pa_nil)) (pg_tup rfl (pgs_cons (pg_name (i:=1) sc_law_is_net.nd rfl (by first | exact Or.inl rfl | exact Or.inr rfl)) (pgs_cons (pg_name (i:=2) sc_law_is_net.nd rfl (by first | exact Or.inl rfl | exact Or.inr rfl)) pgs_nil)))
  (pss_cons (ps_if (PW.pt (pw_or (pt_not (pt_val (pe_callB call_isinst rfl B.isinstance bt_isinstance (pa_cons (pv 2) (pa_cons (pe_bltn (v:=.ty "tuple") rfl B.tuple_ bt_tuple rfl) pa_nil))))) (pw_or (pt_cmpR op_ne (pe_callB call_len_seq rfl B.len bt_len (pa_cons (pv 2) pa_nil)) pe_int (nomark _)) (pw_or (pt_not (pt_val (pe_callB call_isinst rfl B.isinstance bt_isinstance (pa_cons (pe_ix ix_tup (pv 2) pe_int (fun _ _=>rfl)) (pa_cons (pe_bltn (v:=.ty "str") rfl B.str_ bt_str rfl) pa_nil))))) (pw_or1 (pt_cmpR op_ne (pe_callB call_len_str rfl B.len bt_len (pa_cons (pe_ix ix_tup (pv 2) pe_int (fun _ _=>rfl)) pa_nil)) pe_int (nomark _)))))))
  (pss_one (ps_ret pe_bl))
  pss_nil)
  (pss_cons (ps_if (PW.pt (pw_or (pt_cmpR op_notin_str (pe_ix ix_tup (pv 2) pe_int (fun _ _=>rfl)) pe_str (by with_unfolding_all rfl)) (pw_or (pt_not (pt_val (pe_callB call_isinst rfl B.isinstance bt_isinstance (pa_cons (pe_ix ix_tup (pv 2) pe_int (fun _ _=>rfl)) (pa_cons (pe_bltn (v:=.ty "tuple") rfl B.tuple_ bt_tuple rfl) pa_nil))))) (pw_or1 (pt_cmpR op_gt (pe_callB call_len_seq rfl B.len bt_len (pa_cons (pe_ix ix_tup (pv 2) pe_int (fun _ _=>rfl)) pa_nil)) pe_int (nomark _))))))
  (pss_one (ps_ret pe_bl))
  pss_nil)
  (pss_one (ps_if (pt_cmpR (op_ne_nil hr.units0) (pe_comp rfl (pi_tup (pe_ix ix_tup (pv 2) pe_int (fun _ _=>rfl))) (NL:=["number"]) (ix:=[1]) (csc (defScope s_law_is_net) N_law_is_net) (fun cl C s₃ H₃ fp pins=>⟨(pg_name (i:=0) (show List.Nodup (["number", "k"]:List Str) from by decide +kernel) rfl (by first | exact Or.inl rfl | exact Or.inr rfl)),(pifs_one (PW.pt (pw_or (pt_not (pt_val (pe_callH G_law_whole hr rfl (pa_cons (pv 0) pa_nil)))) (pw_or (pt_cmpR op_lt (pv 0) pe_int (nomark _)) (pw_or1 (pt_cmpR op_ge (pv 0) (pv 1) (nomark _))))))),(pv 0)⟩)) (pe_lst pa_nil) (nomark _))
  (pss_one (ps_ret pe_bl))
  pss_nil)))))
  (pss_one (ps_ret pe_bl)))),?_⟩
  have no:¬ NetD d→(false=true ↔ NetD d):=fun n=>⟨(fun z=>by cases z),fun z=>absurd z n⟩
  obtain ⟨t1,a1,a2⟩:=td_tup (K:=K) td
  refine ⟨_,rfl,_,t1, "tuple", _,rfl,a1,a2,_,rfl,?_⟩
  by_cases ct:isTupD d=true
  rotate_left
  · refine iteA (by rw [Bool.eq_false_iff.mpr ct];rfl) ?_
    exact q false H (Same.refl H) (no fun ⟨ks,e,_⟩=>ct (by rw [e];rfl))
  refine iteB (by rw [ct];rfl) ?_
  obtain ⟨a,xs,ds,rfl,rfl,ha,tds⟩:=isTup_ex td ct
  have xl:=tds.len
  refine ⟨_,rfl,a,_,rfl,.inr (SqT.of ha),_,_,rfl,rfl,_,rfl,?_⟩
  by_cases c60:1≤xs.length∧xs.length≤60
  rotate_left
  · have bad:¬ NetD (.tuple ds):=fun ⟨ks,e,l1,l6,_⟩=>c60 (by injection e with e;rw [xl,e];exact ⟨l1,l6⟩)
    by_cases c1:1≤xs.length
    · refine iteA (decide_eq_true (by omega)) ?_
      refine ⟨_,_,rfl,rfl,_,rfl,?_⟩
      refine iteA (by simp;omega) ?_
      exact q false H (Same.refl H) (no bad)
    · refine iteB (decide_eq_false (by omega)) ?_
      exact ⟨_,rfl,q false H (Same.refl H) (no bad)⟩
  refine iteA (decide_eq_true (by omega)) ?_
  refine ⟨_,_,rfl,rfl,_,rfl,?_⟩
  refine iteB (by simp;omega) ?_
  refine ⟨_,rfl,.tup a,rfl,⟨_,.inl ha⟩,?_⟩
  refine for_enum (κ:=.tup a) (xs:=xs) (fun i σ HX=>∃ o1 o2:Option V,σ=[some (.ref a),o1,o2]∧Same H HX∧∀ (j:Nat) (kd:PyData),j < i→ds[j]?=some kd→KnotD kd j) ⟨none,none,rfl,Same.refl H,fun j kd h=>absurd h (Nat.not_lt_zero _)⟩
    (fun i σ HX _ h=>by obtain ⟨_,_,_,s,_⟩:=h;exact .inl (s _ _ ha)) ?_ ?_
  rotate_left
  · rintro σ HX ⟨o1,o2,rfl,sX,hk⟩
    refine q true HX sX ⟨fun _=>⟨ds,rfl,by omega,by omega,fun i kd e=>hk i kd ?_ e⟩,fun _=>rfl⟩
    have:=(List.getElem?_eq_some_iff.mp e).1
    omega
  rintro i x σ HX p hx ⟨o1,o2,rfl,sX,hk⟩ hp
  obtain ⟨kd,e1,td2⟩:=tds.get hx
  refine ⟨p,_,rfl,SqT.of upd_same,rfl,_,_,rfl,_,_,rfl,rfl,?_⟩
  have sP:Same HX (upd HX p (.tup [.int (i:Int),x])):=(Same.refl HX).new hp
  have s1:=sX.trans sP
  show (fun HH=>_) (upd HX p (.tup [.int (i:Int),x]))
  generalize upd HX p (.tup [.int (i:Int),x])=H1 at sP s1
  have tk:=td2.same s1
  have bad:¬ KnotD kd i→(false=true ↔ NetD (.tuple ds)):=fun n=>no fun ⟨ks,e,_,_,h⟩=>n (by injection e with e;subst e;exact h i kd e1)
  have shk:=sh ds rfl kd (List.mem_of_getElem? e1)
  obtain ⟨t2,b1,b2⟩:=td_tup (K:=K) tk
  refine ⟨_,rfl,_,t2, "tuple", _,rfl,b1,b2,_,rfl,?_⟩
  by_cases ck:isTupD kd=true
  rotate_left
  · refine iteA (by rw [Bool.eq_false_iff.mpr ck];rfl) ?_
    exact q false H1 s1 (bad fun ⟨x,us,e,_⟩=>ck (by rw [e];rfl))
  refine iteB (by rw [ck];rfl) ?_
  obtain ⟨b,ys,dk,rfl,rfl,hb,tdk⟩:=isTup_ex tk ck
  have yl:=tdk.len
  refine ⟨_,rfl,b,_,rfl,.inr (SqT.of hb),rfl,_,rfl,?_⟩
  by_cases cl:ys.length=2
  rotate_left
  · refine iteA (by simp;omega) ?_
    exact q false H1 s1 (bad fun ⟨x,us,e,_⟩=>cl (by rw [yl];injection e with e;rw [e];rfl))
  refine iteB (by rw [cl];simp) ?_
  obtain ⟨x,y,rfl⟩:∃ x y,ys=[x,y]:=by
    match ys,cl with
    | [x,y],_=>exact ⟨x,y,rfl⟩
  obtain ⟨dx,ds2,rfl,tx,t3⟩:∃ dx ds2,dk=dx :: ds2∧Td H1 x dx∧Tds H1 [y] ds2:=by
    cases tdk with
    | cons tx t2=>exact ⟨_,_,rfl,tx,t2⟩
  obtain ⟨dy,rfl,ty⟩:∃ dy,ds2=[dy]∧Td H1 y dy:=by
    cases t3 with
    | cons ty t3=>cases t3;exact ⟨_,rfl,ty⟩
  have inv:∀ {x:PyData} {us:List Int},PyData.tuple [dx,dy]=.tuple [x,.tuple (us.map .int)]→dx=x∧dy=.tuple (us.map .int):=fun {x us} e=>by
    injection e with e
    injection e with ea eb
    injection eb with eb _
    exact ⟨ea,eb⟩
  obtain ⟨t3,c1,c2⟩:=td_str (K:=K) tx
  refine ⟨_,rfl,b,_,_,_,rfl,rfl,SqT.of hb,rfl,_,t3, "str", _,rfl,c1,c2,_,rfl,?_⟩
  by_cases cs:isStrD dx=true
  rotate_left
  · refine iteA (by rw [Bool.eq_false_iff.mpr cs];rfl) ?_
    exact q false H1 s1 (bad fun ⟨x',us,e,o,_⟩=>cs (by obtain ⟨c,ec,_⟩:=o;rw [(inv e).1,ec];rfl))
  refine iteB (by rw [cs];rfl) ?_
  obtain ⟨z,rfl,rfl⟩:=isStr_ex tx cs
  obtain ⟨zl,zc⟩:=shk (.str z) [dy] rfl z rfl
  refine ⟨_,rfl,b,_,_,_,rfl,rfl,SqT.of hb,rfl,z,rfl,Nat.le_of_lt (small1000 (by omega)),rfl,_,rfl,?_⟩
  by_cases z1:z.length=1
  rotate_left
  · refine iteA (by simp;omega) ?_
    exact q false H1 s1 (bad fun ⟨x',us,e,o,_⟩=>z1 (by obtain ⟨c,ec,_⟩:=o;have:=(inv e).1;rw [ec] at this;injection this with this;rw [this];rfl))
  refine iteB (by rw [z1];simp) ?_
  obtain ⟨c,rfl⟩:∃ c,z=⟨#[c]⟩:=by
    have e:z.cps.toList.length=1:=by rw [Array.length_toList];exact z1
    obtain ⟨c,hc⟩:=List.length_eq_one_iff.mp e
    exact ⟨c,str_ext hc⟩
  have c1000:c < 1000:=zc c (by simp)
  refine ⟨_,rfl,b,_,_,_,rfl,rfl,SqT.of hb,rfl,_,_,rfl,rfl,_,rfl,?_⟩
  rw [in_abc c1000]
  by_cases lc:lwB c=true
  rotate_left
  · refine iteA (by rw [Bool.eq_false_iff.mpr lc];rfl) ?_
    refine q false H1 s1 (bad fun ⟨x',us,e,o,_⟩=>lc ?_)
    obtain ⟨c',ec,lw⟩:=o
    have h:=(inv e).1
    rw [ec] at h
    have e3:c=c':=by simpa using h
    rw [e3];exact lwB_iff.mpr lw
  refine iteB (by rw [lc];rfl) ?_
  have od:OneD (.str ⟨#[c]⟩):=⟨c,rfl,lwB_iff.mp lc⟩
  obtain ⟨t4,f1,f2⟩:=td_tup (K:=K) ty
  refine ⟨_,rfl,b,_,_,_,rfl,rfl,SqT.of hb,rfl,_,t4, "tuple", _,rfl,f1,f2,_,rfl,?_⟩
  by_cases cu:isTupD dy=true
  rotate_left
  · refine iteA (by rw [Bool.eq_false_iff.mpr cu];rfl) ?_
    exact q false H1 s1 (bad fun ⟨x',us,e,_⟩=>cu (by rw [(inv e).2];rfl))
  refine iteB (by rw [cu];rfl) ?_
  obtain ⟨u,us0,dus,rfl,rfl,hu,tdu⟩:=isTup_ex ty cu
  have ul:=tdu.len
  refine ⟨_,rfl,b,_,_,_,rfl,rfl,SqT.of hb,rfl,u,_,rfl,.inr (SqT.of hu),_,_,rfl,rfl,_,rfl,?_⟩
  by_cases c6:us0.length≤60
  rotate_left
  · refine iteA (by simp;omega) ?_
    exact q false H1 s1 (bad fun ⟨x',us,e,_,l,_⟩=>c6 (by
      have e2:=(inv e).2
      injection e2 with e2
      rw [ul,e2,List.length_map];exact l))
  refine iteB (by simp;omega) ?_
  refine ⟨_,rfl,b,_,_,_,rfl,rfl,SqT.of hb,rfl,u,rfl,⟨_,SqT.of hu⟩,fun ac hac=>?_⟩
  refine comp_tupl (K:=K) (a:=u) (xs:=us0) (by omega) (fun m ys HX=>HX ac=some (.lst ys)∧Same H1 HX∧ys.length≤m∧(ys=[] ↔ ((dus.take m).all fun d=>belowD d (i:Int))=true))
    (fun m ys HX h=>SqT.of (h.2.1 _ _ hu)) (fun m ys HX h=>⟨h.1,h.2.2.1⟩) ⟨upd_same,(Same.refl H1).new hac,Nat.le_refl _,by simp⟩ ?_ ?_
  rotate_left
  · rintro m x ys HX hx ⟨g1,g2,gl,ge⟩
    obtain ⟨dd,e2,td3⟩:=tdu.get hx
    have td4:=td3.same g2
    have tka:((dus.take (m+1)).all fun d=>belowD d (i:Int))=(((dus.take m).all fun d=>belowD d (i:Int)) && belowD dd (i:Int)):=by
      rw [List.take_succ,e2,List.all_append]
      simp
    have yes:belowD dd (i:Int)=true→HX ac=some (.lst ys)∧Same H1 HX∧ys.length≤m+1∧(ys=[] ↔ ((dus.take (m+1)).all fun d=>belowD d (i:Int))=true):=fun h=>⟨g1,g2,by omega,by rw [tka,h,Bool.and_true];exact ge⟩
    have nope:belowD dd (i:Int)=false→HX ac=some (.lst ys)∧upd HX ac (.lst (ys++[x])) ac=some (.lst (ys++[x]))∧Same H1 (upd HX ac (.lst (ys++[x])))∧(ys++[x]).length≤m+1∧(ys++[x]=[] ↔ ((dus.take (m+1)).all fun d=>belowD d (i:Int))=true):=fun h=>⟨g1,upd_same,g2.write hac,by rw [List.length_append];show ys.length+1≤m+1;omega,by rw [tka,h,Bool.and_false];simp⟩
    refine ⟨rfl,_,rfl,x,dd,rfl,td4,_,rfl,?_⟩
    cases td4 with
    | int n=>
      refine iteB rfl ⟨_,rfl,_,_,rfl,rfl,_,rfl,?_⟩
      by_cases n0:n < 0
      · refine iteA (decide_eq_true n0) ?_
        refine iteT ⟨_,rfl,nope ?_⟩
        show (decide (0≤n) && decide (n < (i:Int)))=false
        rw [decide_eq_false (by omega)];rfl
      · refine iteB (decide_eq_false n0) ⟨_,rfl,_,rfl,_,_,rfl,rfl,_,rfl,?_⟩
        by_cases ni:n < (i:Int)
        · refine iteB (decide_eq_false (by omega)) (yes ?_)
          show (decide (0≤n) && decide (n < (i:Int)))=true
          rw [decide_eq_true (by omega),decide_eq_true ni];rfl
        · refine iteA (decide_eq_true (by omega)) ⟨_,rfl,nope ?_⟩
          show (decide (0≤n) && decide (n < (i:Int)))=false
          rw [decide_eq_false ni,Bool.and_false]
    | _=>exact iteA rfl (iteT ⟨_,rfl,nope rfl⟩)
  rintro ys H2 ⟨g1,s2,gl,ge⟩
  rw [ul,List.take_length] at ge
  refine ⟨line_ok0,fun nl hnl=>?_⟩
  refine ⟨ac,nl,ys,rfl,rfl,SqL.of (by rw [upd_ne (ne_of_none g1 hnl)];exact g1),SqL.of upd_same,_,rfl,?_⟩
  have s3:Same H2 (upd H2 nl (.lst [])):=(Same.refl H2).new hnl
  cases ys with
  | nil=>
    refine iteB rfl ⟨_,_,rfl,(s1.trans s2).trans s3,fun j kd' hj ek=>?_⟩
    rcases Nat.lt_or_ge j i with l | l
    · exact hk j kd' l ek
    · have:j=i:=by omega
      subst this
      rw [e1] at ek
      cases ek
      obtain ⟨us,rfl,hus⟩:=below_all.mp (ge.mp rfl)
      exact ⟨_,us,rfl,od,by rw [List.length_map] at ul;omega,hus⟩
  | cons y0 yr=>
    refine iteA rfl ?_
    refine q false _ ((s1.trans s2).trans s3) (bad fun ⟨x',us,e,_,l,hus⟩=>?_)
    have e2:=(inv e).2
    injection e2 with e2
    have:=ge.mpr (below_all.mpr ⟨us,e2,hus⟩)
    cases this
def sp_rightT:Sp:=fun vs H Q _=>∃ (v:V) (d:PyData),vs=[v]∧Td H v d∧ShN d∧Fit d∧∀ H',Same H H'→Q (.bl true) H'
theorem has_rightT (D:Df K mg "_law_right" s_law_right) (B:Blt7 mg) (G_law_is_net:Has P w K mg base "_law_is_net" k ["thing"] sp_netT) (G_is_net:Has P w K mg base "is_net" k ["thing"] sp_netT):Has P w K mg base "_law_right" (k+1) ["thing"] sp_rightT:=by
  refine D.has sc_law_right (fun _ _ _ _ _ _ us hl=>match us,hl with | [_],_=>rfl) (fun vs H Q E h=>by obtain ⟨x,d,rfl,_⟩:=h;rfl) (fun f cdv A outer s H vs Q E hr h=>?_)
  obtain ⟨v,d,rfl,td,sh,ft,q⟩:=h
  refine ⟨_,(pss_cons (ps_set (i:=1) sc_law_right.nd rfl (by first | exact Or.inl rfl | exact Or.inr rfl) (pe_callB (call_repr_any hr) rfl B.repr bt_repr (pa_cons (pv 0) pa_nil)))
  (pss_cons (ps_set (i:=2) sc_law_right.nd rfl (by first | exact Or.inl rfl | exact Or.inr rfl) (pe_callH G_law_is_net hr rfl (pa_cons (pv 0) pa_nil)))
  (pss_cons (ps_for PassesOwn.never rfl (pi_list (pe_lst (pa_cons (pe_callH G_is_net hr rfl (pa_cons (pv 0) pa_nil)) (pa_cons (pe_callH G_is_net hr rfl (pa_cons (pv 0) pa_nil)) pa_nil)))) (pg_name (i:=3) sc_law_right.nd rfl (by first | exact Or.inl rfl | exact Or.inr rfl))
  (pss_one (ps_if (PW.pt (pw_or (pt_not (pt_val (pe_callB call_isinst rfl B.isinstance bt_isinstance (pa_cons (pv 3) (pa_cons (pe_bltn (v:=.ty "bool") rfl B.bool_ bt_bool rfl) pa_nil))))) (pw_or1 (pt_cmpR op_ne (pv 3) (pv 2) (nomark _)))))
  (pss_one (ps_ret pe_bl))
  pss_nil)))
  (pss_one (ps_ret (pe_cmpR op_eq (pe_callB (call_repr_any hr) rfl B.repr bt_repr (pa_cons (pv 0) pa_nil)) (pv 1) (nomark _))))))),?_⟩
  refine ⟨_,rfl,v,d,rfl,td,ft,?_⟩
  refine ⟨_,rfl,v,d,rfl,td,sh,fun b0 H1 s1 h0=>?_⟩
  refine ⟨_,rfl,v,d,rfl,td.same s1,sh,fun b1 H2 s2 h1=>?_⟩
  have s02:=s1.trans s2
  refine ⟨_,rfl,v,d,rfl,td.same s02,sh,fun b2 H3 s3 h2=>?_⟩
  have e1:b1=b0:=by rw [Bool.eq_iff_iff,h1,h0]
  have e2:b2=b0:=by rw [Bool.eq_iff_iff,h2,h0]
  subst e1 e2
  have s03:=s02.trans s3
  refine ⟨(by show 2≤sizeLine;decide),fun l hl=>?_⟩
  have s4:Same H3 (upd H3 l (.lst [.bl b2,.bl b2])):=(Same.refl H3).new hl
  have g4:upd H3 l (.lst [.bl b2,.bl b2]) l=some (.lst [.bl b2,.bl b2]):=upd_same
  show (fun HH=>_) (upd H3 l (.lst [.bl b2,.bl b2]))
  generalize upd H3 l (.lst [.bl b2,.bl b2])=H4 at s4 g4
  refine ⟨l,rfl,⟨_,SqL.of g4⟩,?_⟩
  refine for_list (K:=K) (xs:=[V.bl b2,.bl b2]) (fun i σ HX=>∃ o3:Option V,σ=[some v,some (.str d.shown),some (.bl b2),o3]∧HX=H4) ⟨none,rfl,rfl⟩ (fun i σ HX _ h=>by obtain ⟨_,_,rfl⟩:=h;exact SqL.of g4) ?_ ?_
  · rintro i x σ HX hx ⟨o3,rfl,rfl⟩
    have ex:x=.bl b2:=by
      have:=List.mem_of_getElem? hx
      simpa using this
    subst ex
    refine ⟨_,rfl,_,_, "bool", true,rfl,.bl _,kit_same _ _,_,rfl,iteB rfl ?_⟩
    refine ⟨_,rfl,_,rfl,rfl,_,rfl,?_⟩
    refine iteB (by simp) ⟨_,rfl,rfl⟩
  · rintro σ HX ⟨o3,rfl,rfl⟩
    have tdE:=td.same (s03.trans s4)
    refine ⟨_,rfl,v,d,rfl,tdE,ft,_,rfl,rfl,?_⟩
    rw [decide_eq_true rfl]
    exact q _ (s03.trans s4)
end
end S46
namespace L2
open PySem PySem.Spec PyProof.Rows PySem.W
theorem tup_mul_all (l:Addr) (xs:List Value) (n:Nat) (dd:Option Addr) (sl:Array (Option Value)) (k:Int) (t:Tok) (h0:0 < xs.length) (h1:xs.length≤100) (h2:2≤k) (h3:k≤100) :
    Meets (Builtin.«tuple.__mul__» ⟨[.ref l,.int k t],[]⟩) (fun _ R s=>s.heap.get? l=some { cls:=.type "tuple", dict:=dd,data:=.seq xs.toArray n,slots:=sl }∧R (.ok (.ret (.ref s.heap.objs.size))) { s with heap:=s.heap.push { cls:=.type "tuple", data:=.seq (List.replicate k.toNat xs).flatten.toArray } }):=
  .of_wp fun prog w A R s h=>by
    obtain ⟨hp,g,d,tk,os⟩:=s
    obtain ⟨hl,h⟩:=h
    wp_walk
    rw [if_neg (by rw [Bool.or_eq_true,decide_eq_true_eq,decide_eq_true_eq];omega)]
    have f2:=AutoSeq1.sub_tuple_tuple
    wp_walk using wpAny_loadPart' hl
    have ne:xs.toArray.isEmpty=false:=by
      cases xs with
      | nil=>simp at h0
      | cons=>rfl
    rw [if_neg (by
      intro e
      rcases Bool.or_eq_true _ _ ▸ e with e | e
      · rw [ne] at e;cases e
      · have:k=1:=eq_of_beq e
        omega)]
    dsimp only
    rw [if_neg (by
      intro e
      rcases Bool.or_eq_true _ _ ▸ e with e | e
      · have:=of_decide_eq_true e
        omega
      · rw [ne] at e;cases e)]
    have sz:((xs.toArray.size:Nat):Int)=(xs.length:Int):=by rw [List.size_toArray]
    have bb:(xs.length:Int) * k≤100 * 100:=Int.mul_le_mul (by omega) h3 (by omega) (by omega)
    have sl1:(10000:Int)≤(sizeLine:Int):=by decide
    rw [if_neg (by rw [sz];first | omega | (intro e;have:=of_decide_eq_true e;omega))]
    have tm:¬ Builtin.Tuple.tupleTooMany (((xs.toArray.size:Nat):Int) * k)=true:=by
      rw [sz];unfold Builtin.Tuple.tupleTooMany
      intro e
      have:=of_decide_eq_true e
      omega
    rw [if_neg tm]
    have fe:∀ (m:Nat) (acc:List Value),List.foldl (fun x1 x2=>x1++x2) acc.toArray (List.replicate m xs.toArray)=(acc++(List.replicate m xs).flatten).toArray:=by
      intro m
      induction m with
      | zero=>intro acc;simp
      | succ m ih=>
        intro acc
        rw [List.replicate_succ,List.foldl_cons]
        have:=ih (acc++xs)
        rw [show acc.toArray++xs.toArray=(acc++xs).toArray by simp,this,List.replicate_succ,List.flatten_cons,List.append_assoc]
    have fe0:=fe k.toNat []
    rw [List.nil_append] at fe0
    rw [show (List.foldl (fun x1 x2=>x1++x2) #[] (List.replicate k.toNat xs.toArray))=(List.replicate k.toNat xs).flatten.toArray from fe0]
    unfold Builtin.Tuple.tupleExact
    refine wpAny_bind (wpAny_newObj_type (wpAny_pure ⟨_,rfl,h⟩) ?_)
    show (List.replicate k.toNat xs).flatten.toArray.size≤sizeLine
    rw [List.size_toArray,List.length_flatten,List.map_replicate,List.sum_replicate_nat]
    have:k.toNat * xs.length≤100 * 100:=Nat.mul_le_mul (by omega) h1
    have h:(10000:Nat)≤sizeLine:=by decide
    omega
theorem vals_reps {vs:List V} {us:List Value} (r:Vals vs us):∀ n,Vals (List.replicate n vs).flatten (List.replicate n us).flatten
  | 0=>.nil
  | n+1=>by
    rw [List.replicate_succ,List.replicate_succ,List.flatten_cons,List.flatten_cons]
    exact r.append (vals_reps r n)
section
variable {X:Cx}
def rRepU:R2:=fun x y H Q=>∃ a k vs,x=.ref a∧y=.int k∧H a=some (.tup vs)∧0 < vs.length∧vs.length≤100∧2≤k∧k≤100∧∀ p,H p=none→Q (.ref p) (upd H p (.tup (List.replicate k.toNat vs).flatten))
theorem op_repU:OpR X (binaryOp .Mult) rRepU:=by
  intro pins s σ H x y v u Q I rx ry h
  obtain ⟨a,k,vs,rfl,rfl,ha,v0,v1,k2,k3,q⟩:=h
  cases rx
  obtain ⟨t,rfl⟩:=ry
  obtain ⟨its,r1,p1,_⟩:=I.tuple (SqT.of ha)
  obtain ⟨o,ho,hc,hd⟩:=id p1
  obtain ⟨cl,dd,dt,sl⟩:=o
  dsimp only at hc hd
  obtain ⟨n,hd⟩:=hd
  subst hc hd
  have il:=r1.length
  refine wpAny_binaryOp_repeat_ref (T := "tuple") (U := "int") (by decide) ⟨_,ho,rfl⟩ (fun s'=>typeIs_int s' k t) noFill_tuple_mul PySem.F.fills_int_mul PySem.F.slot_int_rmul repeat_tuple PySem.F.slot_int_index.lookup
    (call_meets PySem.F.slot_int_rmul (typeIs_int s k t) PySem.F.entry_int_rmul (PySem.F.args_int_rmul_2 _ _) (int_rmul_tup k t a _ n dd sl)
      ⟨ho,rfl,⟨_,ho,rfl⟩,call_meets PySem.F.slot_tuple_mul ⟨_,ho,rfl⟩ PySem.F.entry_tuple_mul (PySem.F.args_tuple_mul_2 _ _) (tup_mul_all a its n dd sl k t (by omega) (by omega) k2 k3) ⟨ho,?_⟩⟩)
  refine ⟨.ref s.heap.objs.size,_,I.laid (t':=s.toks) (o:=.tup (List.replicate k.toNat vs).flatten) (fun b ob q=>Heap.get?_push_of_some _ q) (Nat.le_refl _) ?_,rfl,q _ (I.hok.fresh (Nat.le_refl _))⟩
  refine ⟨⟨?_,_,Heap.get?_push_size _ rfl,rfl⟩,_,vals_reps r1 _,IsTup.new _ _⟩
  rw [List.length_flatten,List.map_replicate,List.sum_replicate_nat]
  have:k.toNat * vs.length≤100 * 100:=Nat.mul_le_mul (by omega) v1
  have h:(10000:Nat)≤sizeLine:=by decide
  omega
end
end L2
namespace S46
open PySem L2 W7
mutual
def txtOk:PyData→Bool
  | .str z=>decide (z.length≤900) && z.cps.toList.all fun c=>decide (c < 1000)
  | .tuple ds=>txtAll ds
  | .list ds=>txtAll ds
  | _=>true
def txtAll:List PyData→Bool
  | []=>true
  | d :: ds=>txtOk d && txtAll ds
end
theorem txtAll_iff:∀ ds:List PyData,txtAll ds=true ↔ ∀ d∈ds,txtOk d=true
  | []=>by simp [txtAll]
  | d :: ds=>by rw [txtAll,Bool.and_eq_true,txtAll_iff ds];simp
theorem txt_short {d:PyData} (h:txtOk d=true):Short d:=fun z e=>by
  subst e
  rw [txtOk,Bool.and_eq_true,decide_eq_true_eq,List.all_eq_true] at h
  exact ⟨h.1,fun c hc=>of_decide_eq_true (h.2 c hc)⟩
theorem txt_shn {d:PyData} (h:txtOk d=true):ShN d:=fun ks e kd hk x r ek=>by
  subst e
  rw [txtOk,txtAll_iff] at h
  have:=h kd hk
  rw [ek,txtOk,txtAll_iff] at this
  exact txt_short (this x List.mem_cons_self)
theorem deck_neT {H:Hp} {p r:Addr} {c:Int} {xs:List V} (h:Deck H p c) (e:H r=some (.tup xs)):r≠p:=by
  rintro rfl
  obtain ⟨_,_,_,e2,_⟩:=h
  rw [e] at e2;cases e2
theorem dlk {H H':Hp} {p:Addr} {c:Int} (h:Kd p c H H'):Same (dl [p] H) (dl [p] H'):=dl_keep fun b o n e=>h.keep b o (fun z=>n (by simp [z])) e
theorem dls {H H':Hp} {p:Addr} (h:Same H H'):Same (dl [p] H) (dl [p] H'):=dl_keep fun b o n e=>h b o e
def Tv (p:Addr) (H:Hp) (hd hl:Bool) (c e:Nat) (v:V):Prop:=∃ d,Td (dl [p] H) v d∧Gd hd hl c e d∧txtOk d=true
def Tl (p:Addr) (H:Hp) (hd hl:Bool) (c e:Nat) (xs:List V):Prop:=∃ ds,Tds (dl [p] H) xs ds∧Gs hd hl c e ds∧∀ d∈ds,txtOk d=true
section
variable {p r:Addr} {H H':Hp} {hd hl:Bool} {c c' e e':Nat} {v:V} {xs ys:List V}
theorem Tv.same (h:Tv p H hd hl c e v) (s:Same H H'):Tv p H' hd hl c e v:=let ⟨d,t,g,x⟩:=h;⟨d,t.same (dls s),g,x⟩
theorem Tv.kd {k:Int} (h:Tv p H hd hl c e v) (s:Kd p k H H'):Tv p H' hd hl c e v:=let ⟨d,t,g,x⟩:=h;⟨d,t.same (dlk s),g,x⟩
theorem Tv.mono (h:Tv p H hd hl c e v) (hc:c≤c') (he:e≤e'):Tv p H hd hl c' e' v:=let ⟨d,t,g,x⟩:=h;⟨d,t,g.mono hc he,x⟩
theorem Tv.up (h:Tv p H false false c e v):Tv p H hd hl c e v:=let ⟨d,t,g,x⟩:=h;⟨d,t,g.up,x⟩
theorem Tl.mono (h:Tl p H hd hl c e xs) (hc:c≤c') (he:e≤e'):Tl p H hd hl c' e' xs:=let ⟨d,t,g,x⟩:=h;⟨d,t,g.mono hc he,x⟩
theorem Tl.up (h:Tl p H false false c e xs):Tl p H hd hl c e xs:=let ⟨d,t,g,x⟩:=h;⟨d,t,g.up,x⟩
theorem Tl.nil:Tl p H hd hl 0 e []:=⟨[],.nil,Gs.nil.mono (Nat.le_refl _) (Nat.zero_le _),fun _ h=>nomatch h⟩
theorem Tl.cons (h:Tv p H hd hl c e v) (g:Tl p H hd hl c' e xs):Tl p H hd hl (c+1+c') e (v :: xs):=by
  obtain ⟨d,t,g1,x⟩:=h
  obtain ⟨ds,t2,g2,x2⟩:=g
  exact ⟨d :: ds,.cons t t2,Gs.cons g1 g2,fun a ha=>(List.mem_cons.mp ha).elim (fun q=>q ▸ x) (x2 a)⟩
theorem Tl.append (h:Tl p H hd hl c e xs) (g:Tl p H hd hl c' e ys):Tl p H hd hl (c+c') e (xs++ys):=by
  obtain ⟨d,t,g1,x⟩:=h
  obtain ⟨ds,t2,g2,x2⟩:=g
  exact ⟨d++ds,t.append t2,g1.append g2,fun a ha=>(List.mem_append.mp ha).elim (x a) (x2 a)⟩
theorem Tl.all:∀ {xs:List V},(∀ x∈xs,Tv p H hd hl c e x)→Tl p H hd hl ((c+1) * xs.length) e xs
  | [],_=>Tl.nil.mono (Nat.zero_le _) (Nat.le_refl _)
  | x :: xs,h=>(Tl.cons (h x List.mem_cons_self) (Tl.all fun y hy=>h y (List.mem_cons_of_mem _ hy))).mono (by rw [List.length_cons,Nat.mul_add];omega) (Nat.le_refl _)
theorem Tl.all_le {n:Nat} (h:∀ x∈xs,Tv p H hd hl c e x) (l:xs.length≤n):Tl p H hd hl ((c+1) * n) e xs:=(Tl.all h).mono (Nat.mul_le_mul_left _ l) (Nat.le_refl _)
theorem tv_int {i:Int} (h:i.natAbs < 10 ^ 12):Tv p H hd hl 41 e (.int i):=⟨_,.int i,(Gd.int h).mono (Nat.le_refl _) (Nat.zero_le _),rfl⟩
theorem tv_big {i:Int} (h:i.natAbs < 10 ^ 60):Tv p H hd hl 201 e (.int i):=⟨_,.int i,(Gd.big h).mono (Nat.le_refl _) (Nat.zero_le _),rfl⟩
theorem tv_non:Tv p H hd hl 0 e .non:=⟨_,.non,Gd.non.mono (Nat.le_refl _) (Nat.zero_le _),rfl⟩
theorem tv_bl (b:Bool):Tv p H hd hl 0 e (.bl b):=⟨_,.bl b,(Gd.bl b).mono (Nat.le_refl _) (Nat.zero_le _),rfl⟩
theorem tv_str {z:Str} (l:z.length≤900) (h:∀ c∈z.cps.toList,c < 1000):Tv p H hd hl z.length e (.str z):=⟨_,.str z,(Gd.str h).mono (Nat.le_refl _) (Nat.zero_le _),by
  rw [txtOk,decide_eq_true l,Bool.true_and,List.all_eq_true]
  exact fun c hc=>decide_eq_true (h c hc)⟩
theorem tv_tup (h:H r=some (.tup xs)) (n:r≠p) (t:Tl p H hd hl c e xs):Tv p H hd hl c (e+1) (.ref r):=by
  obtain ⟨ds,t,g,x⟩:=t
  exact ⟨_,.tup (dl_at h (by simpa using n)) t,Gd.tup g,by rw [txtOk,txtAll_iff];exact x⟩
theorem tv_lst (h:H r=some (.lst xs)) (n:r≠p) (t:Tl p H hd true c e xs):Tv p H hd true c (e+1) (.ref r):=by
  obtain ⟨ds,t,g,x⟩:=t
  exact ⟨_,.lst (dl_at h (by simpa using n)) t,Gd.lst g,by rw [txtOk,txtAll_iff];exact x⟩
theorem tv_dct0 (h:H r=some (.dK [])) (n:r≠p):Tv p H true hl 0 (e+1) (.ref r):=
  ⟨_,.dct (ps:=[]) (dl_at h (by simpa using n)) .nil .nil,Gd.dct0.mono (Nat.le_refl _) (by omega),rfl⟩
theorem tv_dct1 {z:Str} (h:H r=some (.dK [(.inr z,v)])) (n:r≠p) (hz:∀ c∈z.cps.toList,c < 1000) (t:Tv p H true hl c e v):Tv p H true hl (z.cps.size+c+2) (e+1) (.ref r):=by
  obtain ⟨d,t,g,x⟩:=t
  exact ⟨_,.dct (ps:=[(.str z,d)]) (dl_at h (by simpa using n)) (.cons (.str z) .nil) (.cons t .nil),Gd.dct1 ((Gd.str hz).mono (Nat.le_refl _) (Nat.zero_le _)) g,rfl⟩
end
def Th (p:Addr) (H:Hp) (c e:Nat) (v:V):Prop:=∃ hd hl,(hd=false∨hl=false)∧Tv p H hd hl c e v
theorem Th.same {p:Addr} {H H':Hp} {c e:Nat} {v:V} (h:Th p H c e v) (s:Same H H'):Th p H' c e v:=let ⟨a,b,o,t⟩:=h;⟨a,b,o,t.same s⟩
theorem Th.ask {p:Addr} {H:Hp} {c e:Nat} {v:V} (h:Th p H c e v) (hc:c≤200000) (he:e≤20):∃ d,Td H v d∧ShN d∧Fit d:=by
  obtain ⟨a,b,o,d,t,g,x⟩:=h
  exact ⟨d,t.same (dl_same _ _),txt_shn x,g.fit o hc he⟩
structure Env (p t b:Addr) (as:List Addr) (us:List Int) (odd sign:V) (c:Int) (J:Hp):Prop where
  dk:Deck J p c
  ht:J t=some (.tup (as.map V.ref))
  hb:J b=some (.tup (us.map V.int))
  tk:∀ x∈as.map V.ref,Tv p J false false 2600 2 x
  to:Tv p J false true 250 2 odd
  ts:Tv p J false false 250 2 sign
theorem Env.same {p t b:Addr} {as:List Addr} {us:List Int} {odd sign:V} {c:Int} {J J':Hp} (h:Env p t b as us odd sign c J) (s:Same J J'):Env p t b as us odd sign c J':=by
  obtain ⟨x,y,z,e,r⟩:=h.dk
  exact ⟨⟨x,y,z,s _ _ e,r⟩,s _ _ h.ht,s _ _ h.hb,fun a ha=>(h.tk a ha).same s,h.to.same s,h.ts.same s⟩
end S46
namespace S46
open PySem L2 W7
theorem at_in {α:Type} {xs:List α} {i:Int} (h0:0≤i) (h1:i < (xs.length:Int)):∃ v,atI xs i=some v∧v∈xs:=by
  have hk:i.toNat < xs.length:=by omega
  have e:=atI_nat (xs:=xs) (j:=i.toNat) (List.getElem?_eq_getElem hk)
  rw [show ((i.toNat:Nat):Int)=i by omega] at e
  exact ⟨_,e,List.getElem_mem hk⟩
theorem cut_mem {xs:List V} {lo hi:Option Int} {x:V} (h:x∈cutV xs lo hi):x∈xs:=List.mem_of_mem_drop (List.mem_of_mem_take h)
theorem ln (n:Nat) (h:n≤1000:=by decide):n≤sizeLine:=Nat.le_of_lt (small1000 h)
theorem low_ok {c:Nat} (h:Lw c):∀ x∈(⟨#[c]⟩:Str).cps.toList,x < 1000:=fun x hx=>by
  have:x=c:=by simpa using hx
  rw [this];have:=h.2;omega
theorem len_to {xs:List V} {i:Int} (h0:0≤i):(cutV xs none (some i)).length≤i.toNat:=by
  obtain ⟨j,rfl⟩:∃ j:Nat,i=(j:Int):=⟨i.toNat,by omega⟩
  have e1:(cutV xs none (some (j:Int))).length=((xs.drop 0).take (HT.sIx xs.length xs.length (some (j:Int)) - 0)).length:=rfl
  rw [e1,HT.sIx_nat,List.length_take]
  omega
theorem len_from {xs:List V} {i:Int} (h0:0≤i):(cutV xs (some i) none).length≤xs.length - i.toNat:=by
  obtain ⟨j,rfl⟩:∃ j:Nat,i=(j:Int):=⟨i.toNat,by omega⟩
  have e2:(cutV xs (some (j:Int)) none).length=((xs.drop (HT.sIx xs.length 0 (some (j:Int)))).take (xs.length - HT.sIx xs.length 0 (some (j:Int)))).length:=rfl
  rw [e2,HT.sIx_nat,List.length_take,List.length_drop]
  omega
theorem len_two {xs:List V} {i:Int} (h0:0≤i):(cutV xs (some i) (some (i+2))).length≤2:=by
  obtain ⟨j,rfl⟩:∃ j:Nat,i=(j:Int):=⟨i.toNat,by omega⟩
  have e2:(cutV xs (some (j:Int)) (some ((j:Int)+2))).length=((xs.drop (HT.sIx xs.length 0 (some (j:Int)))).take (HT.sIx xs.length xs.length (some ((j+2:Nat):Int)) - HT.sIx xs.length 0 (some (j:Int)))).length:=rfl
  rw [e2,HT.sIx_nat,HT.sIx_nat,List.length_take]
  omega
section
variable {P:Program} {w:World} {K:PySem.W.Frag} {mg:Str→Option Value} {base:Heap} {k:Nat}
def sp_bent:Sp:=fun vs H Q _=>∃ (p t:Addr) (net:List Knot) (c:Int),vs=[.ref p,.ref t]∧Deck H p c∧0≤c∧c < 800000∧NetAt H t net∧NetOk net∧∀ (v:V) (H':Hp),Kd p (c+6) H H'→Th p H' 190000 9 v→Q v H'
theorem has_bent (D:Df K mg "_law_bent" s_law_bent) (B:Blt7 mg) (G_law_draw:Has P w K mg base "_law_draw" k ["store", "many"] sp_draw):Has P w K mg base "_law_bent" (k+1) ["store", "net"] sp_bent:=by
  refine D.has sc_law_bent (fun _ _ _ _ _ _ us hl=>match us,hl with | [_,_],_=>rfl) (fun vs H Q E h=>by obtain ⟨p,t,net,c,rfl,_⟩:=h;rfl) (fun f cdv A outer s H vs Q E hr h=>?_)
  obtain ⟨p,t,net,c,rfl,dk,cc0,cc8,na,ok,q⟩:=h
  refine exw ?_
  refine ⟨_,(w_cons (Pw.mk (ps_set (i:=2) sc_law_bent.nd rfl (by first | exact Or.inl rfl | exact Or.inr rfl) (pe_callH G_law_draw hr rfl (pa_cons (pv 0) (pa_cons pe_int pa_nil)))))
  (w_cons (Pw.mk (ps_set (i:=3) sc_law_bent.nd rfl (by first | exact Or.inl rfl | exact Or.inr rfl) (pe_ix ix_list (pe_lst (pa_cons (pe_callH G_law_draw hr rfl (pa_cons (pv 0) (pa_cons (pe_callB call_len_seq rfl B.len bt_len (pa_cons (pv 1) pa_nil)) pa_nil))) (pa_cons (pe_op op_sub (pe_callB call_len_seq rfl B.len bt_len (pa_cons (pv 1) pa_nil)) pe_int) (pa_cons pe_int pa_nil)))) (pe_callH G_law_draw hr rfl (pa_cons (pv 0) (pa_cons pe_int pa_nil))) (fun _ _=>rfl))))
  (w_cons (Pw.mk (ps_asg (pe_ix ix_tup (pv 1) (pv 3) (fun _ _=>rfl)) (pg_tup rfl (pgs_cons (pg_name (i:=4) sc_law_bent.nd rfl (by first | exact Or.inl rfl | exact Or.inr rfl)) (pgs_cons (pg_name (i:=5) sc_law_bent.nd rfl (by first | exact Or.inl rfl | exact Or.inr rfl)) pgs_nil)))))
  (w_cons (Pw.mk (ps_set (i:=6) sc_law_bent.nd rfl (by first | exact Or.inl rfl | exact Or.inr rfl) (pe_callH G_law_draw hr rfl (pa_cons (pv 0) (pa_cons (pe_op op_add (pe_callB call_len_seq rfl B.len bt_len (pa_cons (pv 5) pa_nil)) pe_int) pa_nil)))))
  (w_cons (w_set (i:=7) sc_law_bent.nd rfl (by first | exact Or.inl rfl | exact Or.inr rfl) (w_ix ix_list (w_lst (w_acons (PEw.mk (pv 3)) (w_acons (PEw.mk (pe_op op_add (pv 3) pe_int)) (w_acons (PEw.mk (pe_un un_neg pe_int)) (w_acons (PEw.mk pe_bl) (w_acons (PEw.mk pe_bl) (w_acons w_str (w_acons (PEw.mk pe_non) (w_acons (PEw.mk (pe_tup (pa_cons pe_int pa_nil))) (w_acons (PEw.mk (pe_lst (pa_cons pe_int pa_nil))) (w_acons (PEw.mk (pe_op op_pow pe_int pe_int)) (w_acons (PEw.mk (pe_callB (call_max2 rfl) rfl B.max bt_max (pa_cons pe_int (pa_cons (pe_op op_sub (pv 3) pe_int) pa_nil)))) (w_acons (PEw.mk pe_int) w_anil))))))))))))) (PEw.mk (pe_callH G_law_draw hr rfl (pa_cons (pv 0) (pa_cons pe_int pa_nil)))) (fun _ _=>rfl)))
  (w_cons (w_set (i:=8) sc_law_bent.nd rfl (by first | exact Or.inl rfl | exact Or.inr rfl) (w_ix ix_list (w_lst (w_acons w_str (w_acons w_str (w_acons w_str (w_acons (PEw.mk pe_int) (w_acons (PEw.mk pe_non) (w_acons w_str (w_acons w_str (w_acons w_str (w_acons (PEw.mk pe_bl) (w_acons (w_tup (w_acons w_str w_anil)) (w_acons w_str (w_acons w_str w_anil))))))))))))) (PEw.mk (pe_callH G_law_draw hr rfl (pa_cons (pv 0) (pa_cons pe_int pa_nil)))) (fun _ _=>rfl)))
  (w_cons (Pw.mk (ps_set (i:=9) sc_law_bent.nd rfl (by first | exact Or.inl rfl | exact Or.inr rfl) (pe_lst (pa_cons (pe_tup (pa_cons (pv 8) (pa_cons (pv 5) pa_nil))) (pa_cons (pe_tup (pa_cons (pv 4) (pa_cons (pe_op op_catU (pe_op op_catU (pe_slice sl_tupU (pv 5) po_none (po_some (pv 6))) (pe_tup (pa_cons (pv 7) pa_nil))) (pe_slice sl_tupU (pv 5) (po_some (pv 6)) po_none)) pa_nil))) (pa_cons (pe_tup (pa_cons (pv 4) (pa_cons (pe_op op_catU (pe_op op_catU (pe_slice sl_tupU (pv 5) po_none (po_some (pv 6))) (pe_tup (pa_cons (pv 7) pa_nil))) (pe_slice sl_tupU (pv 5) (po_some (pe_op op_add (pv 6) pe_int)) po_none)) pa_nil))) (pa_cons (pe_tup (pa_cons (pv 4) (pa_cons (pe_callTy call_list_of rfl B.list_ bt_list (pa_cons (pv 5) pa_nil)) pa_nil))) (pa_cons (pe_tup (pa_cons (pv 4) pa_nil)) pa_nil))))))))
  (w_cons (Pw.mk (ps_set (i:=9) sc_law_bent.nd rfl (by first | exact Or.inl rfl | exact Or.inr rfl) (pe_op op_cat (pv 9) (pe_lst (pa_cons (pe_tup (pa_cons (pv 4) (pa_cons (pv 5) (pa_cons (pe_tup pa_nil) pa_nil)))) (pa_cons (pe_tup (pa_cons (pv 5) (pa_cons (pv 4) pa_nil))) (pa_cons (pe_lst (pa_cons (pv 4) (pa_cons (pv 5) pa_nil))) (pa_cons (pv 4) (pa_cons pe_non (pa_cons (pe_tup (pa_cons (pv 4) (pa_cons (pe_op (op_repT0 K) (pe_tup (pa_cons pe_int pa_nil)) pe_int) pa_nil))) (pa_cons (pe_tup (pa_cons (pv 4) (pa_cons pe_non pa_nil))) pa_nil)))))))))))
  (w_cons (Pw.mk (ps_set (i:=9) sc_law_bent.nd rfl (by first | exact Or.inl rfl | exact Or.inr rfl) (pe_op op_cat (pv 9) (pe_lst (pa_cons (pe_tup (pa_cons (pv 4) (pa_cons (pe_op (op_repT0 K) (pe_tup (pa_cons pe_int pa_nil)) pe_int) pa_nil))) (pa_cons (pe_tup pa_nil) (pa_cons (pe_disp (pps_cons (pv 4) (pv 5) pps_nil) rfl rfl (by simp) (by decide)) (pa_cons (pe_tup (pa_cons (pv 4) (pa_cons pe_dnewK pa_nil))) (pa_cons (pe_tup (pa_cons (pv 4) (pa_cons (pe_revT K (pv 5) (po_some (pe_un un_neg pe_int))) pa_nil))) pa_nil)))))))))
  (w_cons (Pw.mk (ps_if (pt_cmpR op_lt (pv 2) pe_int (nomark _))
  (pss_one (ps_ret (pe_op op_catU (pe_op op_catU (pe_slice sl_tupU (pv 1) po_none (po_some (pv 3))) (pe_tup (pa_cons (pe_ix ix_list (pv 9) (pv 2) (fun _ _=>rfl)) pa_nil))) (pe_slice sl_tupU (pv 1) (po_some (pe_op op_add (pv 3) pe_int)) po_none))))
  pss_nil))
  (w_cons (Pw.mk (ps_set (i:=10) sc_law_bent.nd rfl (by first | exact Or.inl rfl | exact Or.inr rfl) (pe_lst (pa_cons (pe_op op_catU (pe_slice sl_tupU (pv 1) po_none (po_some (pv 3))) (pe_slice sl_tupU (pv 1) (po_some (pe_op op_add (pv 3) pe_int)) po_none)) (pa_cons (pe_op op_catU (pe_slice sl_tupU (pv 1) po_none (po_some (pe_op op_add (pv 3) pe_int))) (pe_slice sl_tupU (pv 1) (po_some (pv 3)) po_none)) (pa_cons (pe_revT K (pv 1) (po_some (pe_un un_neg pe_int))) (pa_cons (pe_callTy call_list_of rfl B.list_ bt_list (pa_cons (pv 1) pa_nil)) (pa_cons (pe_slice sl_tupU (pe_op op_repU (pv 1) pe_int) po_none (po_some pe_int)) (pa_cons (pe_slice sl_tupU (pe_op op_repU (pv 1) pe_int) po_none (po_some pe_int)) pa_nil)))))))))
  (w_cons (Pw.mk (ps_set (i:=11) sc_law_bent.nd rfl (by first | exact Or.inl rfl | exact Or.inr rfl) (pe_revT K (pe_slice sl_tupU (pv 1) (po_some (pv 3)) (po_some (pe_op op_add (pv 3) pe_int))) (po_some (pe_un un_neg pe_int)))))
  (w_cons (w_set (i:=10) sc_law_bent.nd rfl (by first | exact Or.inl rfl | exact Or.inr rfl) (w_op op_cat (PEw.mk (pv 10)) (w_lst (w_acons (PEw.mk (pe_op op_catU (pe_op op_catU (pe_slice sl_tupU (pv 1) po_none (po_some (pv 3))) (pv 11)) (pe_slice sl_tupU (pv 1) (po_some (pe_op op_add (pv 3) pe_int)) po_none))) (w_acons (PEw.mk (pe_tup (pa_cons (pv 1) pa_nil))) (w_acons (PEw.mk (pe_disp (pps_cons pe_str (pv 1) pps_nil) rfl rfl (by simp) (by decide))) (w_acons (PEw.mk (pe_ix ix_tup (pv 1) (pv 3) (fun _ _=>rfl))) (w_acons (w_op (op_repT0 K) (w_tup (w_acons (w_tup (w_acons w_str (w_acons (PEw.mk (pe_tup pa_nil)) w_anil))) w_anil)) (PEw.mk pe_int)) w_anil))))))))
  (w_one (Pw.mk (ps_ret (pe_ix ix_list (pv 10) (pe_op op_sub (pv 2) pe_int) (fun _ _=>rfl)))))))))))))))))),?_⟩
  obtain ⟨as,ht,kl,kat⟩:=na
  have n0:=ok.pos
  have n6:=ok.most
  have al:(as.map V.ref).length=net.length:=by rw [List.length_map];exact kl
  have tp:t≠p:=deck_neT dk ht
  have tk0:∀ x∈as.map V.ref,Tv p H false false 2600 2 x:=fun x hx=>by
    obtain ⟨a,ha,rfl⟩:=List.mem_map.mp hx
    obtain ⟨i,hi,ei⟩:=List.getElem_of_mem ha
    have hn:i < net.length:=by omega
    obtain ⟨b,e1,e2⟩:=kat i a net[i] (by rw [List.getElem?_eq_getElem hi,ei]) (List.getElem?_eq_getElem hn)
    have lw:=ok.low net[i] (List.getElem_mem hn)
    have fw:=ok.few net[i] (List.getElem_mem hn)
    have nm:=ok.num i net[i] (List.getElem?_eq_getElem hn)
    have tb:Tv p H false false (42 * 60) 1 (.ref b):=tv_tup e2 (deck_neT dk e2) (Tl.all_le (c:=41) (fun x hx=>by
      obtain ⟨u,hu,rfl⟩:=List.mem_map.mp hx
      have:=nm u hu
      have e12:(10:Nat) ^ 12=1000000000000:=by decide
      exact tv_int (by omega)) (by rw [List.length_map];exact fw))
    exact (tv_tup e1 (deck_neT dk e1) (Tl.cons (tv_str (e:=1) (show 1≤900 by decide) (low_ok lw)) (Tl.cons tb Tl.nil))).mono (by have:(⟨#[net[i].1]⟩:Str).length=1:=rfl;omega) (Nat.le_refl _)
  refine ⟨_,rfl,p,28,c,rfl,dk,by omega,by decide,by decide,fun way H1 w0 w1 k1=>?_⟩
  have ht1:=k1.keep _ _ tp ht
  refine ⟨_,rfl,_,rfl,t,_,rfl,.inr (SqT.of ht1),p,_,_,rfl,k1.deck,by omega,by rw [al];omega,by rw [al];omega,fun a1 H2 a10 a11 k2=>?_⟩
  have ht2:=k2.keep _ _ tp ht1
  refine ⟨_,rfl,t,_,rfl,.inr (SqT.of ht2),_,_,rfl,rfl,ln 3,fun l hl=>?_⟩
  have lp:l≠p:=k2.deck.ne hl
  generalize hJ:upd H2 l _=J0
  have s0:Same H2 J0:=by rw [← hJ];exact (Same.refl H2).new hl
  have g0:J0 l=some (.lst ([a1,((as.map V.ref).length:Int) - 1,0].map V.int)):=by rw [← hJ];exact upd_same
  clear hJ
  have k2':=k2.same s0
  refine ⟨_,rfl,p,3,_,rfl,k2'.deck,by omega,by decide,by decide,fun i3 H3 i30 i31 k3=>?_⟩
  obtain ⟨at',ea,aa0,aa1⟩:=menu (us:=[a1,((as.map V.ref).length:Int) - 1,0]) (lo:=0) (hi:=(net.length:Int) - 1) i30 i31 (fun v hv=>by
    simp only [List.mem_cons,List.not_mem_nil,or_false] at hv
    rw [al] at a11 hv
    rcases hv with rfl | rfl | rfl <;> omega)
  refine ⟨l,_,_,_,rfl,rfl,SqL.of (k3.keep _ _ lp g0),ea,?_⟩
  have kk:=((k1.trans k2').trans k3)
  have ht3:=kk.keep _ _ tp ht
  have tk3:=fun x hx=>(tk0 x hx).kd kk
  obtain ⟨kn,ekn,hkn⟩:=at_in (xs:=as.map V.ref) aa0 (by omega)
  obtain ⟨a,ha,rfl⟩:=List.mem_map.mp hkn
  obtain ⟨i,hi,ei⟩:=List.getElem_of_mem ha
  have hn:i < net.length:=by omega
  obtain ⟨b,e1,e2⟩:=kat i a net[i] (by rw [List.getElem?_eq_getElem hi,ei]) (List.getElem?_eq_getElem hn)
  have lw:=ok.low net[i] (List.getElem_mem hn)
  have fw:=ok.few net[i] (List.getElem_mem hn)
  have nm:=ok.num i net[i] (List.getElem?_eq_getElem hn)
  have bp:b≠p:=deck_neT dk e2
  have e1':=kk.keep _ _ (deck_neT dk e1) e1
  have e2':=kk.keep _ _ bp e2
  have us12:∀ u∈net[i].2,u.natAbs < 10 ^ 12:=fun u hu=>by
    have:=nm u hu
    have e12:(10:Nat) ^ 12=1000000000000:=by decide
    omega
  generalize net[i].1=ch at lw e1'
  generalize net[i].2=us at fw us12 e2'
  clear kat e1 e2 nm
  refine ⟨_,rfl,_,rfl,t,_,_,_,rfl,rfl,SqT.of ht3,ekn,a,_,rfl,SqT.of e1',rfl,_,_,rfl,_,_,rfl,rfl,?_⟩
  have ul:(us.map V.int).length=us.length:=List.length_map _
  refine ⟨_,rfl,_,rfl,b,_,rfl,.inr (SqT.of e2'),_,_,rfl,rfl,p,_,_,rfl,kk.deck,by omega,by omega,by omega,fun pl H4 pl0 pl1 k4=>?_⟩
  have kk4:=kk.trans k4
  have ht4:=k4.keep _ _ tp ht3
  have hb4:=k4.keep _ _ bp e2'
  have tk4:=fun x hx=>(tk3 x hx).kd k4
  clear ht1 ht2 k1 k2 k2' k3 k4 kk s0 g0 hl ht3 e1' e2' tk3 ea
  have at12:at'.natAbs < 10 ^ 12∧(at'+1).natAbs < 10 ^ 12∧(if at' - 1 > 0 then at' - 1 else 0:Int).natAbs < 10 ^ 12:=by
    have e12:(10:Nat) ^ 12=1000000000000:=by decide
    refine ⟨by omega,by omega,?_⟩
    split <;> omega
  refine ⟨_,rfl,_,rfl,_,_,rfl,rfl,_,rfl,ln 1,fun o1 ho1=>?_⟩
  generalize hJ:upd H4 o1 _=J1
  have s1:Same H4 J1:=by rw [← hJ];exact (Same.refl H4).new ho1
  have g1:J1 o1=some (.tup [.int 0]):=by rw [← hJ];exact upd_same
  clear hJ
  have kj1:=kk4.same s1
  refine ⟨ln 1,fun o2 ho2=>?_⟩
  have o2p:o2≠p:=kj1.deck.ne ho2
  generalize hJ:upd J1 o2 _=J2
  have s2:Same J1 J2:=by rw [← hJ];exact (Same.refl J1).new ho2
  have g2:J2 o2=some (.lst [.int 0]):=by rw [← hJ];exact upd_same
  clear hJ
  have kj2:=kj1.same s2
  refine ⟨_,_,rfl,rfl,⟨by decide,by decide,by decide⟩,_,rfl,_,_,rfl,rfl,_,_,rfl,ln 12,fun l hl=>?_⟩
  have lp:l≠p:=kj2.deck.ne hl
  generalize hJ:upd J2 l _=J3
  have s3:Same J2 J3:=by rw [← hJ];exact (Same.refl J2).new hl
  have kj3:=kj2.same s3
  have od0:∃ xo:List V,J3 l=some (.lst xo)∧xo.length=12∧∀ x∈xo,Tv p J3 false true 250 2 x:=by
    rw [← hJ]
    rw [← hJ] at s3 kj3
    have q1:=tv_tup (e:=0) (s3 _ _ (s2 _ _ g1)) (deck_neT kj3.deck (s3 _ _ (s2 _ _ g1))) (Tl.cons (hd:=false) (hl:=true) (tv_int (i:=0) (by decide)) Tl.nil)
    have q2:=tv_lst (e:=0) (hd:=false) (s3 _ _ g2) o2p (Tl.cons (tv_int (i:=0) (by decide)) Tl.nil)
    refine ⟨_,upd_same,rfl,fun x hx=>?_⟩
    simp only [List.mem_cons,List.not_mem_nil,or_false] at hx
    rcases hx with rfl | rfl | rfl | rfl | rfl | rfl | rfl | rfl | rfl | rfl | rfl | rfl
    · exact (tv_int (e:=0) at12.1).mono (by decide) (by decide)
    · exact (tv_int (e:=0) at12.2.1).mono (by decide) (by decide)
    · exact (tv_int (e:=0) (by decide)).mono (by decide) (by decide)
    · exact (tv_bl (e:=0) _).mono (by decide) (by decide)
    · exact (tv_bl (e:=0) _).mono (by decide) (by decide)
    · exact (tv_str (e:=0) (by decide) (by decide +kernel)).mono (by decide +kernel) (by decide)
    · exact (tv_non (e:=0)).mono (by decide) (by decide)
    · exact q1.mono (by decide) (by decide)
    · exact q2.mono (by decide) (by decide)
    · exact (tv_big (e:=0) (by decide +kernel)).mono (by decide) (by decide)
    · exact (tv_int (e:=0) at12.2.2).mono (by decide) (by decide)
    · exact (tv_int (e:=0) (by decide)).mono (by decide) (by decide)
  clear hJ
  obtain ⟨xo,gxo,xol,txo⟩:=od0
  refine ⟨_,rfl,p,12,_,rfl,kj3.deck,by omega,by decide,by decide,fun i5 H5 i50 i51 k5=>?_⟩
  obtain ⟨odd,eodd,modd⟩:=at_in (xs:=xo) i50 (by omega)
  refine ⟨l,_,_,_,rfl,rfl,SqL.of (k5.keep _ _ lp gxo),eodd,?_⟩
  have to5:=(txo odd modd).kd k5
  have s43:=(s1.trans s2).trans s3
  have kk5:=kj3.trans k5
  have ht5:=k5.keep _ _ tp (s43 _ _ ht4)
  have hb5:=k5.keep _ _ bp (s43 _ _ hb4)
  have tk5:=fun x hx=>((tk4 x hx).same s43).kd k5
  clear txo modd gxo xol eodd s1 s2 s3 g1 g2 kj1 kj2 kj3 k5 kk4 ht4 hb4 tk4 s43 ho1 ho2 hl lp o2p i50 i51
  refine ⟨ln 1,fun o1 ho1=>?_⟩
  generalize hJ:upd H5 o1 _=J1
  have s1:Same H5 J1:=by rw [← hJ];exact (Same.refl H5).new ho1
  have g1:J1 o1=some (.tup [.str "a"]):=by rw [← hJ];exact upd_same
  clear hJ
  have kj1:=kk5.same s1
  refine ⟨ln 12,fun l hl=>?_⟩
  have lp:l≠p:=kj1.deck.ne hl
  generalize hJ:upd J1 l _=J3
  have s3:Same J1 J3:=by rw [← hJ];exact (Same.refl J1).new hl
  have kj3:=kj1.same s3
  have od0:∃ xo:List V,J3 l=some (.lst xo)∧xo.length=12∧∀ x∈xo,Tv p J3 false false 250 2 x:=by
    rw [← hJ]
    rw [← hJ] at s3 kj3
    have q1:=tv_tup (e:=0) (s3 _ _ g1) (deck_neT kj3.deck (s3 _ _ g1)) (Tl.cons (hd:=false) (hl:=false) (tv_str (z := "a") (by decide) (by decide +kernel)) Tl.nil)
    refine ⟨_,upd_same,rfl,fun x hx=>?_⟩
    simp only [List.mem_cons,List.not_mem_nil,or_false] at hx
    have st:∀ {J:Hp} (z:Str),z.length≤250→(∀ c∈z.cps.toList,c < 1000)→Tv p J false false 250 2 (.str z):=fun {J} z h1 h2=>(tv_str (e:=2) (by omega) h2).mono h1 (Nat.le_refl _)
    rcases hx with rfl | rfl | rfl | rfl | rfl | rfl | rfl | rfl | rfl | rfl | rfl | rfl
    · exact st _ (by decide +kernel) (by decide +kernel)
    · exact st _ (by decide +kernel) (by decide +kernel)
    · exact st _ (by decide +kernel) (by decide +kernel)
    · exact (tv_int (e:=0) (by decide)).mono (by decide) (by decide)
    · exact (tv_non (e:=0)).mono (by decide) (by decide)
    · exact st _ (by decide +kernel) (by decide +kernel)
    · exact st _ (by decide +kernel) (by decide +kernel)
    · exact st _ (by decide +kernel) (by decide +kernel)
    · exact (tv_bl (e:=0) _).mono (by decide) (by decide)
    · exact q1.mono (by decide +kernel) (by decide)
    · exact st _ (by decide +kernel) (by decide +kernel)
    · exact st _ (by decide +kernel) (by decide +kernel)
  clear hJ
  obtain ⟨xo,gxo,xol,txo⟩:=od0
  refine ⟨_,rfl,p,12,_,rfl,kj3.deck,by omega,by decide,by decide,fun i6 H6 i60 i61 k6=>?_⟩
  obtain ⟨sign,esg,msg⟩:=at_in (xs:=xo) i60 (by omega)
  refine ⟨l,_,_,_,rfl,rfl,SqL.of (k6.keep _ _ lp gxo),esg,?_⟩
  have ts6:=(txo sign msg).kd k6
  have s43:=s1.trans s3
  have kk6:=(kj3.trans k6).mono (show _≤c+6 by omega)
  have E:Env p t b as us odd sign (c+6) H6:=⟨kk6.deck,k6.keep _ _ tp (s43 _ _ ht5),k6.keep _ _ bp (s43 _ _ hb5),fun x hx=>((tk5 x hx).same s43).kd k6,(to5.same s43).kd k6,ts6⟩
  clear txo msg gxo xol esg s1 s3 g1 kj1 kj3 k6 kk5 ht5 hb5 tk5 s43 ho1 hl lp ts6 to5 i60 i61
  have chl:(⟨#[ch]⟩:Str).length=1:=rfl
  have cho:=low_ok lw
  have tus:∀ {J:Hp},∀ x∈us.map V.int,Tv p J false true 41 2 x:=fun {J} x hx=>by
    obtain ⟨u,hu,rfl⟩:=List.mem_map.mp hx
    exact tv_int (us12 u hu)
  have tuz:∀ {J:Hp},Tl p J false true 2520 2 (us.map V.int):=fun {J}=>(Tl.all_le (n:=60) tus (by omega)).mono (by decide) (Nat.le_refl _)
  have tuf:∀ {J:Hp},Tl p J false false 2520 0 (us.map V.int):=fun {J}=>(Tl.all_le (c:=41) (n:=60) (fun x hx=>by
    obtain ⟨u,hu,rfl⟩:=List.mem_map.mp hx
    exact tv_int (us12 u hu)) (by omega)).mono (by decide) (Nat.le_refl _)
  have thr:∀ {J:Hp} {hd hl:Bool} {e:Nat},Tv p J hd hl 1 e (.str ⟨#[ch]⟩):=fun {J hd hl e}=>tv_str (show 1≤900 by decide) cho
  have tcut:∀ {J:Hp} (lo hi:Option Int),(cutV (us.map V.int) lo hi).length≤60:=fun {J} lo hi=>Nat.le_trans (cutV_length _ _ _) (by omega)
  have bag:∀ v∈([]:List V),Th p H6 6000 6 v:=fun _ h=>nomatch h
  refine ⟨_,rfl,_,rfl,ln 2,fun r1 hr1=>?_⟩
  have r1p:r1≠p:=E.dk.ne hr1
  generalize hJ:upd H6 r1 _=J2
  have s3:Same H6 J2:=by rw [← hJ];exact (Same.refl H6).new hr1
  have g4:J2 r1=some (.tup [sign,.ref b]):=by rw [← hJ];exact upd_same
  clear hJ hr1
  have E:=E.same s3
  have bag:=fun v hv=>(bag v hv).same s3
  have kk6:=kk6.same s3
  have bag:∀ v∈(.ref r1 :: []),Th p J2 6000 6 v:=fun v hv=>(List.mem_cons.mp hv).elim (fun q=>q ▸ ⟨false,false,.inl rfl,(tv_tup g4 r1p (Tl.cons E.ts (Tl.cons (Tv.mono (tv_tup E.hb (deck_neT E.dk E.hb) tuf) (Nat.le_refl _) (show 1≤2 by decide)) Tl.nil))).mono (by first | decide | omega | (show 1+2520+2≤_;decide)) (by decide)⟩) (bag v)
  refine ⟨_,rfl,_,rfl,_,rfl,_,rfl,b,_,rfl,E.hb,fun r5 J6 s7 g8=>?_⟩
  have E:=E.same s7
  have bag:=fun v hv=>(bag v hv).same s7
  have kk6:=kk6.same s7
  have r5p:r5≠p:=deck_neT E.dk g8
  refine ⟨_,rfl,ln 1,fun r9 hr9=>?_⟩
  have r9p:r9≠p:=E.dk.ne hr9
  generalize hJ:upd J6 r9 _=J10
  have s11:Same J6 J10:=by rw [← hJ];exact (Same.refl J6).new hr9
  have g12:J10 r9=some (.tup [odd]):=by rw [← hJ];exact upd_same
  clear hJ hr9
  have E:=E.same s11
  have bag:=fun v hv=>(bag v hv).same s11
  have kk6:=kk6.same s11
  have g8:=s11 _ _ g8
  refine ⟨r5,r9,_,_,rfl,rfl,g8,g12,(by have:=tcut (J:=J10) none (some pl);show _+1≤sizeLine;exact ln _ (by omega)),fun r13 J14 s15 g16=>?_⟩
  have E:=E.same s15
  have bag:=fun v hv=>(bag v hv).same s15
  have kk6:=kk6.same s15
  have g8:=s15 _ _ g8
  have g12:=s15 _ _ g12
  have r13p:r13≠p:=deck_neT E.dk g16
  refine ⟨_,rfl,_,rfl,_,rfl,b,_,rfl,E.hb,fun r17 J18 s19 g20=>?_⟩
  have E:=E.same s19
  have bag:=fun v hv=>(bag v hv).same s19
  have kk6:=kk6.same s19
  have g16:=s19 _ _ g16
  have r17p:r17≠p:=deck_neT E.dk g20
  refine ⟨r13,r17,_,_,rfl,rfl,g16,g20,(by have:=tcut (J:=J18) none (some pl);have:=tcut (J:=J18) (some pl) none;rw [List.length_append,List.length_singleton];exact ln _ (by omega)),fun r21 J22 s23 g24=>?_⟩
  have E:=E.same s23
  have bag:=fun v hv=>(bag v hv).same s23
  have kk6:=kk6.same s23
  have g16:=s23 _ _ g16
  have g20:=s23 _ _ g20
  have r21p:r21≠p:=deck_neT E.dk g24
  refine ⟨ln 2,fun r25 hr25=>?_⟩
  have r25p:r25≠p:=E.dk.ne hr25
  generalize hJ:upd J22 r25 _=J26
  have s27:Same J22 J26:=by rw [← hJ];exact (Same.refl J22).new hr25
  have g28:J26 r25=some (.tup [.str ⟨#[ch]⟩,.ref r21]):=by rw [← hJ];exact upd_same
  clear hJ hr25
  have E:=E.same s27
  have bag:=fun v hv=>(bag v hv).same s27
  have kk6:=kk6.same s27
  have g24:=s27 _ _ g24
  have xr21:Tv p J26 false true 5291 3 (.ref r21):=(tv_tup g24 r21p (((Tl.all_le (n:=60) (fun x hx=>tus x (cut_mem hx)) (tcut (J:=J26) none (some pl))).append (Tl.cons E.to Tl.nil)).append (Tl.all_le (n:=60) (fun x hx=>tus x (cut_mem hx)) (tcut (J:=J26) (some pl) none)))).mono (by decide) (by decide)
  have bag:∀ v∈(.ref r25 :: (.ref r1 :: [])),Th p J26 6000 6 v:=fun v hv=>(List.mem_cons.mp hv).elim (fun q=>q ▸ ⟨false,true,.inl rfl,(tv_tup g28 r25p (Tl.cons thr (Tl.cons xr21 Tl.nil))).mono (by first | decide | omega | (show 1+2520+2≤_;decide)) (by decide)⟩) (bag v)
  refine ⟨_,rfl,_,rfl,_,rfl,_,rfl,b,_,rfl,E.hb,fun r29 J30 s31 g32=>?_⟩
  have E:=E.same s31
  have bag:=fun v hv=>(bag v hv).same s31
  have kk6:=kk6.same s31
  have r29p:r29≠p:=deck_neT E.dk g32
  refine ⟨_,rfl,ln 1,fun r33 hr33=>?_⟩
  have r33p:r33≠p:=E.dk.ne hr33
  generalize hJ:upd J30 r33 _=J34
  have s35:Same J30 J34:=by rw [← hJ];exact (Same.refl J30).new hr33
  have g36:J34 r33=some (.tup [odd]):=by rw [← hJ];exact upd_same
  clear hJ hr33
  have E:=E.same s35
  have bag:=fun v hv=>(bag v hv).same s35
  have kk6:=kk6.same s35
  have g32:=s35 _ _ g32
  refine ⟨r29,r33,_,_,rfl,rfl,g32,g36,(by have:=tcut (J:=J34) none (some pl);show _+1≤sizeLine;exact ln _ (by omega)),fun r37 J38 s39 g40=>?_⟩
  have E:=E.same s39
  have bag:=fun v hv=>(bag v hv).same s39
  have kk6:=kk6.same s39
  have g32:=s39 _ _ g32
  have g36:=s39 _ _ g36
  have r37p:r37≠p:=deck_neT E.dk g40
  refine ⟨_,rfl,_,rfl,_,_,rfl,rfl,_,rfl,b,_,rfl,E.hb,fun r41 J42 s43 g44=>?_⟩
  have E:=E.same s43
  have bag:=fun v hv=>(bag v hv).same s43
  have kk6:=kk6.same s43
  have g40:=s43 _ _ g40
  have r41p:r41≠p:=deck_neT E.dk g44
  refine ⟨r37,r41,_,_,rfl,rfl,g40,g44,(by have:=tcut (J:=J42) none (some pl);have:=tcut (J:=J42) (some (pl+1)) none;rw [List.length_append,List.length_singleton];exact ln _ (by omega)),fun r45 J46 s47 g48=>?_⟩
  have E:=E.same s47
  have bag:=fun v hv=>(bag v hv).same s47
  have kk6:=kk6.same s47
  have g40:=s47 _ _ g40
  have g44:=s47 _ _ g44
  have r45p:r45≠p:=deck_neT E.dk g48
  refine ⟨ln 2,fun r49 hr49=>?_⟩
  have r49p:r49≠p:=E.dk.ne hr49
  generalize hJ:upd J46 r49 _=J50
  have s51:Same J46 J50:=by rw [← hJ];exact (Same.refl J46).new hr49
  have g52:J50 r49=some (.tup [.str ⟨#[ch]⟩,.ref r45]):=by rw [← hJ];exact upd_same
  clear hJ hr49
  have E:=E.same s51
  have bag:=fun v hv=>(bag v hv).same s51
  have kk6:=kk6.same s51
  have g48:=s51 _ _ g48
  have xr45:Tv p J50 false true 5291 3 (.ref r45):=(tv_tup g48 r45p (((Tl.all_le (n:=60) (fun x hx=>tus x (cut_mem hx)) (tcut (J:=J50) none (some pl))).append (Tl.cons E.to Tl.nil)).append (Tl.all_le (n:=60) (fun x hx=>tus x (cut_mem hx)) (tcut (J:=J50) (some (pl+1)) none)))).mono (by decide) (by decide)
  have bag:∀ v∈(.ref r49 :: (.ref r25 :: (.ref r1 :: []))),Th p J50 6000 6 v:=fun v hv=>(List.mem_cons.mp hv).elim (fun q=>q ▸ ⟨false,true,.inl rfl,(tv_tup g52 r49p (Tl.cons thr (Tl.cons xr45 Tl.nil))).mono (by first | decide | omega | (show 1+2520+2≤_;decide)) (by decide)⟩) (bag v)
  refine ⟨_,rfl,_,rfl,b,_,rfl,.inr (SqT.of E.hb),fun r53 hr53=>?_⟩
  have r53p:r53≠p:=E.dk.ne hr53
  generalize hJ:upd J50 r53 _=J54
  have s55:Same J50 J54:=by rw [← hJ];exact (Same.refl J50).new hr53
  have g56:J54 r53=some (.lst (us.map V.int)):=by rw [← hJ];exact upd_same
  clear hJ hr53
  have E:=E.same s55
  have bag:=fun v hv=>(bag v hv).same s55
  have kk6:=kk6.same s55
  refine ⟨ln 2,fun r57 hr57=>?_⟩
  have r57p:r57≠p:=E.dk.ne hr57
  generalize hJ:upd J54 r57 _=J58
  have s59:Same J54 J58:=by rw [← hJ];exact (Same.refl J54).new hr57
  have g60:J58 r57=some (.tup [.str ⟨#[ch]⟩,.ref r53]):=by rw [← hJ];exact upd_same
  clear hJ hr57
  have E:=E.same s59
  have bag:=fun v hv=>(bag v hv).same s59
  have kk6:=kk6.same s59
  have g56:=s59 _ _ g56
  have bag:∀ v∈(.ref r57 :: (.ref r49 :: (.ref r25 :: (.ref r1 :: [])))),Th p J58 6000 6 v:=fun v hv=>(List.mem_cons.mp hv).elim (fun q=>q ▸ ⟨false,true,.inl rfl,(tv_tup g60 r57p (Tl.cons thr (Tl.cons (tv_lst g56 r53p tuz) Tl.nil))).mono (by first | decide | omega | (show 1+2520+2≤_;decide)) (by decide)⟩) (bag v)
  refine ⟨_,rfl,ln 1,fun r61 hr61=>?_⟩
  have r61p:r61≠p:=E.dk.ne hr61
  generalize hJ:upd J58 r61 _=J62
  have s63:Same J58 J62:=by rw [← hJ];exact (Same.refl J58).new hr61
  have g64:J62 r61=some (.tup [.str ⟨#[ch]⟩]):=by rw [← hJ];exact upd_same
  clear hJ hr61
  have E:=E.same s63
  have bag:=fun v hv=>(bag v hv).same s63
  have kk6:=kk6.same s63
  have bag:∀ v∈(.ref r61 :: (.ref r57 :: (.ref r49 :: (.ref r25 :: (.ref r1 :: []))))),Th p J62 6000 6 v:=fun v hv=>(List.mem_cons.mp hv).elim (fun q=>q ▸ ⟨false,false,.inl rfl,(tv_tup (e:=0) g64 r61p (Tl.cons thr Tl.nil)).mono (by first | decide | omega | (show 1+2520+2≤_;decide)) (by decide)⟩) (bag v)
  refine ⟨ln 5,fun r65 hr65=>?_⟩
  have r65p:r65≠p:=E.dk.ne hr65
  generalize hJ:upd J62 r65 _=J66
  have s67:Same J62 J66:=by rw [← hJ];exact (Same.refl J62).new hr65
  have g68:J66 r65=some (.lst [.ref r1,.ref r25,.ref r49,.ref r57,.ref r61]):=by rw [← hJ];exact upd_same
  clear hJ hr65
  have E:=E.same s67
  have bag:=fun v hv=>(bag v hv).same s67
  have kk6:=kk6.same s67
  refine ⟨_,rfl,_,rfl,_,rfl,ln 0,fun r69 hr69=>?_⟩
  have r69p:r69≠p:=E.dk.ne hr69
  generalize hJ:upd J66 r69 _=J70
  have s71:Same J66 J70:=by rw [← hJ];exact (Same.refl J66).new hr69
  have g72:J70 r69=some (.tup []):=by rw [← hJ];exact upd_same
  clear hJ hr69
  have E:=E.same s71
  have bag:=fun v hv=>(bag v hv).same s71
  have kk6:=kk6.same s71
  have g68:=s71 _ _ g68
  refine ⟨ln 3,fun r73 hr73=>?_⟩
  have r73p:r73≠p:=E.dk.ne hr73
  generalize hJ:upd J70 r73 _=J74
  have s75:Same J70 J74:=by rw [← hJ];exact (Same.refl J70).new hr73
  have g76:J74 r73=some (.tup [.str ⟨#[ch]⟩,.ref b,.ref r69]):=by rw [← hJ];exact upd_same
  clear hJ hr73
  have E:=E.same s75
  have bag:=fun v hv=>(bag v hv).same s75
  have kk6:=kk6.same s75
  have g68:=s75 _ _ g68
  have g72:=s75 _ _ g72
  have bag:∀ v∈(.ref r73 :: (.ref r61 :: (.ref r57 :: (.ref r49 :: (.ref r25 :: (.ref r1 :: [])))))),Th p J74 6000 6 v:=fun v hv=>(List.mem_cons.mp hv).elim (fun q=>q ▸ ⟨false,false,.inl rfl,(tv_tup g76 r73p (Tl.cons thr (Tl.cons (tv_tup E.hb (deck_neT E.dk E.hb) tuf) (Tl.cons (tv_tup (e:=0) g72 r69p Tl.nil) Tl.nil)))).mono (by first | decide | omega | (show 1+2520+2≤_;decide)) (by decide)⟩) (bag v)
  refine ⟨_,rfl,_,rfl,ln 2,fun r77 hr77=>?_⟩
  have r77p:r77≠p:=E.dk.ne hr77
  generalize hJ:upd J74 r77 _=J78
  have s79:Same J74 J78:=by rw [← hJ];exact (Same.refl J74).new hr77
  have g80:J78 r77=some (.tup [.ref b,.str ⟨#[ch]⟩]):=by rw [← hJ];exact upd_same
  clear hJ hr77
  have E:=E.same s79
  have bag:=fun v hv=>(bag v hv).same s79
  have kk6:=kk6.same s79
  have g68:=s79 _ _ g68
  have bag:∀ v∈(.ref r77 :: (.ref r73 :: (.ref r61 :: (.ref r57 :: (.ref r49 :: (.ref r25 :: (.ref r1 :: []))))))),Th p J78 6000 6 v:=fun v hv=>(List.mem_cons.mp hv).elim (fun q=>q ▸ ⟨false,false,.inl rfl,(tv_tup g80 r77p (Tl.cons (tv_tup E.hb (deck_neT E.dk E.hb) tuf) (Tl.cons thr Tl.nil))).mono (by first | decide | omega | (show 1+2520+2≤_;decide)) (by decide)⟩) (bag v)
  refine ⟨_,rfl,_,rfl,ln 2,fun r81 hr81=>?_⟩
  have r81p:r81≠p:=E.dk.ne hr81
  generalize hJ:upd J78 r81 _=J82
  have s83:Same J78 J82:=by rw [← hJ];exact (Same.refl J78).new hr81
  have g84:J82 r81=some (.lst [.str ⟨#[ch]⟩,.ref b]):=by rw [← hJ];exact upd_same
  clear hJ hr81
  have E:=E.same s83
  have bag:=fun v hv=>(bag v hv).same s83
  have kk6:=kk6.same s83
  have g68:=s83 _ _ g68
  have bag:∀ v∈(.ref r81 :: (.ref r77 :: (.ref r73 :: (.ref r61 :: (.ref r57 :: (.ref r49 :: (.ref r25 :: (.ref r1 :: [])))))))),Th p J82 6000 6 v:=fun v hv=>(List.mem_cons.mp hv).elim (fun q=>q ▸ ⟨false,true,.inl rfl,(tv_lst g84 r81p (Tl.cons thr (Tl.cons (Tv.up (tv_tup E.hb (deck_neT E.dk E.hb) tuf)) Tl.nil))).mono (by first | decide | omega | (show 1+2520+2≤_;decide)) (by decide)⟩) (bag v)
  have bag:∀ v∈(.str ⟨#[ch]⟩ :: (.ref r81 :: (.ref r77 :: (.ref r73 :: (.ref r61 :: (.ref r57 :: (.ref r49 :: (.ref r25 :: (.ref r1 :: []))))))))),Th p J82 6000 6 v:=fun v hv=>(List.mem_cons.mp hv).elim (fun q=>q ▸ ⟨false,false,.inl rfl,(thr (e:=0)).mono (by first | decide | omega | (show 1+2520+2≤_;decide)) (by decide)⟩) (bag v)
  have bag:∀ v∈(.non :: (.str ⟨#[ch]⟩ :: (.ref r81 :: (.ref r77 :: (.ref r73 :: (.ref r61 :: (.ref r57 :: (.ref r49 :: (.ref r25 :: (.ref r1 :: [])))))))))),Th p J82 6000 6 v:=fun v hv=>(List.mem_cons.mp hv).elim (fun q=>q ▸ ⟨false,false,.inl rfl,(tv_non (e:=0)).mono (by first | decide | omega | (show 1+2520+2≤_;decide)) (by decide)⟩) (bag v)
  refine ⟨_,rfl,_,rfl,ln 1,fun r85 hr85=>?_⟩
  have r85p:r85≠p:=E.dk.ne hr85
  generalize hJ:upd J82 r85 _=J86
  have s87:Same J82 J86:=by rw [← hJ];exact (Same.refl J82).new hr85
  have g88:J86 r85=some (.tup [.int 0]):=by rw [← hJ];exact upd_same
  clear hJ hr85
  have E:=E.same s87
  have bag:=fun v hv=>(bag v hv).same s87
  have kk6:=kk6.same s87
  have g68:=s87 _ _ g68
  refine ⟨r85,61,.int 0,rfl,rfl,SqT.of g88,.inr (by decide),by decide,fun r89 hr89=>?_⟩
  have r89p:r89≠p:=E.dk.ne hr89
  generalize hJ:upd J86 r89 _=J90
  have s91:Same J86 J90:=by rw [← hJ];exact (Same.refl J86).new hr89
  have g92:J90 r89=some (.tup (List.replicate 61 (.int 0))):=by rw [← hJ];exact upd_same
  clear hJ hr89
  have E:=E.same s91
  have bag:=fun v hv=>(bag v hv).same s91
  have kk6:=kk6.same s91
  have g68:=s91 _ _ g68
  have g88:=s91 _ _ g88
  refine ⟨ln 2,fun r93 hr93=>?_⟩
  have r93p:r93≠p:=E.dk.ne hr93
  generalize hJ:upd J90 r93 _=J94
  have s95:Same J90 J94:=by rw [← hJ];exact (Same.refl J90).new hr93
  have g96:J94 r93=some (.tup [.str ⟨#[ch]⟩,.ref r89]):=by rw [← hJ];exact upd_same
  clear hJ hr93
  have E:=E.same s95
  have bag:=fun v hv=>(bag v hv).same s95
  have kk6:=kk6.same s95
  have g68:=s95 _ _ g68
  have g92:=s95 _ _ g92
  have bag:∀ v∈(.ref r93 :: (.non :: (.str ⟨#[ch]⟩ :: (.ref r81 :: (.ref r77 :: (.ref r73 :: (.ref r61 :: (.ref r57 :: (.ref r49 :: (.ref r25 :: (.ref r1 :: []))))))))))),Th p J94 6000 6 v:=fun v hv=>(List.mem_cons.mp hv).elim (fun q=>q ▸ ⟨false,false,.inl rfl,(tv_tup g96 r93p (Tl.cons thr (Tl.cons (tv_tup (e:=0) g92 r89p (Tl.all_le (c:=41) (n:=61) (fun x hx=>by rw [(List.mem_replicate.mp hx).2];exact tv_int (by decide)) (by rw [List.length_replicate];exact Nat.le_refl _))) Tl.nil))).mono (by first | decide | omega | (show 1+2520+2≤_;decide)) (by decide)⟩) (bag v)
  refine ⟨_,rfl,ln 2,fun r97 hr97=>?_⟩
  have r97p:r97≠p:=E.dk.ne hr97
  generalize hJ:upd J94 r97 _=J98
  have s99:Same J94 J98:=by rw [← hJ];exact (Same.refl J94).new hr97
  have g100:J98 r97=some (.tup [.str ⟨#[ch]⟩,.non]):=by rw [← hJ];exact upd_same
  clear hJ hr97
  have E:=E.same s99
  have bag:=fun v hv=>(bag v hv).same s99
  have kk6:=kk6.same s99
  have g68:=s99 _ _ g68
  have bag:∀ v∈(.ref r97 :: (.ref r93 :: (.non :: (.str ⟨#[ch]⟩ :: (.ref r81 :: (.ref r77 :: (.ref r73 :: (.ref r61 :: (.ref r57 :: (.ref r49 :: (.ref r25 :: (.ref r1 :: [])))))))))))),Th p J98 6000 6 v:=fun v hv=>(List.mem_cons.mp hv).elim (fun q=>q ▸ ⟨false,false,.inl rfl,(tv_tup (e:=0) g100 r97p (Tl.cons thr (Tl.cons tv_non Tl.nil))).mono (by first | decide | omega | (show 1+2520+2≤_;decide)) (by decide)⟩) (bag v)
  refine ⟨ln 7,fun r101 hr101=>?_⟩
  have r101p:r101≠p:=E.dk.ne hr101
  generalize hJ:upd J98 r101 _=J102
  have s103:Same J98 J102:=by rw [← hJ];exact (Same.refl J98).new hr101
  have g104:J102 r101=some (.lst [.ref r73,.ref r77,.ref r81,.str ⟨#[ch]⟩,.non,.ref r93,.ref r97]):=by rw [← hJ];exact upd_same
  clear hJ hr101
  have E:=E.same s103
  have bag:=fun v hv=>(bag v hv).same s103
  have kk6:=kk6.same s103
  have g68:=s103 _ _ g68
  refine ⟨r65,r101,_,_,rfl,rfl,g68,g104,ln 12,fun r105 hr105=>?_⟩
  have r105p:r105≠p:=E.dk.ne hr105
  generalize hJ:upd J102 r105 _=J106
  have s107:Same J102 J106:=by rw [← hJ];exact (Same.refl J102).new hr105
  have g108:J106 r105=some (.lst ([.ref r1,.ref r25,.ref r49,.ref r57,.ref r61]++[.ref r73,.ref r77,.ref r81,.str ⟨#[ch]⟩,.non,.ref r93,.ref r97])):=by rw [← hJ];exact upd_same
  clear hJ hr105
  have E:=E.same s107
  have bag:=fun v hv=>(bag v hv).same s107
  have kk6:=kk6.same s107
  have g68:=s107 _ _ g68
  have g104:=s107 _ _ g104
  refine ⟨_,rfl,_,rfl,ln 1,fun r109 hr109=>?_⟩
  have r109p:r109≠p:=E.dk.ne hr109
  generalize hJ:upd J106 r109 _=J110
  have s111:Same J106 J110:=by rw [← hJ];exact (Same.refl J106).new hr109
  have g112:J110 r109=some (.tup [.int 0]):=by rw [← hJ];exact upd_same
  clear hJ hr109
  have E:=E.same s111
  have bag:=fun v hv=>(bag v hv).same s111
  have kk6:=kk6.same s111
  have g108:=s111 _ _ g108
  refine ⟨r109,60,.int 0,rfl,rfl,SqT.of g112,.inr (by decide),by decide,fun r113 hr113=>?_⟩
  have r113p:r113≠p:=E.dk.ne hr113
  generalize hJ:upd J110 r113 _=J114
  have s115:Same J110 J114:=by rw [← hJ];exact (Same.refl J110).new hr113
  have g116:J114 r113=some (.tup (List.replicate 60 (.int 0))):=by rw [← hJ];exact upd_same
  clear hJ hr113
  have E:=E.same s115
  have bag:=fun v hv=>(bag v hv).same s115
  have kk6:=kk6.same s115
  have g108:=s115 _ _ g108
  have g112:=s115 _ _ g112
  refine ⟨ln 2,fun r117 hr117=>?_⟩
  have r117p:r117≠p:=E.dk.ne hr117
  generalize hJ:upd J114 r117 _=J118
  have s119:Same J114 J118:=by rw [← hJ];exact (Same.refl J114).new hr117
  have g120:J118 r117=some (.tup [.str ⟨#[ch]⟩,.ref r113]):=by rw [← hJ];exact upd_same
  clear hJ hr117
  have E:=E.same s119
  have bag:=fun v hv=>(bag v hv).same s119
  have kk6:=kk6.same s119
  have g108:=s119 _ _ g108
  have g116:=s119 _ _ g116
  have bag:∀ v∈(.ref r117 :: (.ref r97 :: (.ref r93 :: (.non :: (.str ⟨#[ch]⟩ :: (.ref r81 :: (.ref r77 :: (.ref r73 :: (.ref r61 :: (.ref r57 :: (.ref r49 :: (.ref r25 :: (.ref r1 :: []))))))))))))),Th p J118 6000 6 v:=fun v hv=>(List.mem_cons.mp hv).elim (fun q=>q ▸ ⟨false,false,.inl rfl,(tv_tup g120 r117p (Tl.cons thr (Tl.cons (tv_tup (e:=0) g116 r113p (Tl.all_le (c:=41) (n:=60) (fun x hx=>by rw [(List.mem_replicate.mp hx).2];exact tv_int (by decide)) (by rw [List.length_replicate];exact Nat.le_refl _))) Tl.nil))).mono (by first | decide | omega | (show 1+2520+2≤_;decide)) (by decide)⟩) (bag v)
  refine ⟨ln 0,fun r121 hr121=>?_⟩
  have r121p:r121≠p:=E.dk.ne hr121
  generalize hJ:upd J118 r121 _=J122
  have s123:Same J118 J122:=by rw [← hJ];exact (Same.refl J118).new hr121
  have g124:J122 r121=some (.tup []):=by rw [← hJ];exact upd_same
  clear hJ hr121
  have E:=E.same s123
  have bag:=fun v hv=>(bag v hv).same s123
  have kk6:=kk6.same s123
  have g108:=s123 _ _ g108
  have bag:∀ v∈(.ref r121 :: (.ref r117 :: (.ref r97 :: (.ref r93 :: (.non :: (.str ⟨#[ch]⟩ :: (.ref r81 :: (.ref r77 :: (.ref r73 :: (.ref r61 :: (.ref r57 :: (.ref r49 :: (.ref r25 :: (.ref r1 :: [])))))))))))))),Th p J122 6000 6 v:=fun v hv=>(List.mem_cons.mp hv).elim (fun q=>q ▸ ⟨false,false,.inl rfl,(tv_tup (e:=0) g124 r121p Tl.nil).mono (by first | decide | omega | (show 1+2520+2≤_;decide)) (by decide)⟩) (bag v)
  refine fun r125 hr125=>?_
  have r125p:r125≠p:=E.dk.ne hr125
  refine ⟨_,rfl,_,rfl,upd_same,[(.inr (⟨#[ch]⟩:Str),.ref b)],rfl,by simp,?_⟩
  rw [show mergeK [] [((Sum.inr (⟨#[ch]⟩:Str):Key),.ref b)]=[(Sum.inr (⟨#[ch]⟩:Str),.ref b)] from rfl,upd_upd]
  generalize hJ:upd J122 r125 _=J126
  have s127:Same J122 J126:=by rw [← hJ];exact (Same.refl J122).new hr125
  have g128:J126 r125=some (.dK [(.inr (⟨#[ch]⟩:Str),.ref b)]):=by rw [← hJ];exact upd_same
  clear hJ hr125
  have E:=E.same s127
  have bag:=fun v hv=>(bag v hv).same s127
  have kk6:=kk6.same s127
  have g108:=s127 _ _ g108
  have bag:∀ v∈(.ref r125 :: (.ref r121 :: (.ref r117 :: (.ref r97 :: (.ref r93 :: (.non :: (.str ⟨#[ch]⟩ :: (.ref r81 :: (.ref r77 :: (.ref r73 :: (.ref r61 :: (.ref r57 :: (.ref r49 :: (.ref r25 :: (.ref r1 :: []))))))))))))))),Th p J126 6000 6 v:=fun v hv=>(List.mem_cons.mp hv).elim (fun q=>q ▸ ⟨true,false,.inr rfl,(tv_dct1 g128 r125p cho (Tv.up (tv_tup E.hb (deck_neT E.dk E.hb) tuf))).mono (by first | decide | omega | (show 1+2520+2≤_;decide)) (by decide)⟩) (bag v)
  refine ⟨_,rfl,fun r129 hr129=>?_⟩
  have r129p:r129≠p:=E.dk.ne hr129
  generalize hJ:upd J126 r129 _=J130
  have s131:Same J126 J130:=by rw [← hJ];exact (Same.refl J126).new hr129
  have g132:J130 r129=some (.dK []):=by rw [← hJ];exact upd_same
  clear hJ hr129
  have E:=E.same s131
  have bag:=fun v hv=>(bag v hv).same s131
  have kk6:=kk6.same s131
  have g108:=s131 _ _ g108
  refine ⟨ln 2,fun r133 hr133=>?_⟩
  have r133p:r133≠p:=E.dk.ne hr133
  generalize hJ:upd J130 r133 _=J134
  have s135:Same J130 J134:=by rw [← hJ];exact (Same.refl J130).new hr133
  have g136:J134 r133=some (.tup [.str ⟨#[ch]⟩,.ref r129]):=by rw [← hJ];exact upd_same
  clear hJ hr133
  have E:=E.same s135
  have bag:=fun v hv=>(bag v hv).same s135
  have kk6:=kk6.same s135
  have g108:=s135 _ _ g108
  have g132:=s135 _ _ g132
  have bag:∀ v∈(.ref r133 :: (.ref r125 :: (.ref r121 :: (.ref r117 :: (.ref r97 :: (.ref r93 :: (.non :: (.str ⟨#[ch]⟩ :: (.ref r81 :: (.ref r77 :: (.ref r73 :: (.ref r61 :: (.ref r57 :: (.ref r49 :: (.ref r25 :: (.ref r1 :: [])))))))))))))))),Th p J134 6000 6 v:=fun v hv=>(List.mem_cons.mp hv).elim (fun q=>q ▸ ⟨true,false,.inr rfl,(tv_tup g136 r133p (Tl.cons thr (Tl.cons (tv_dct0 (e:=0) g132 r129p) Tl.nil))).mono (by first | decide | omega | (show 1+2520+2≤_;decide)) (by decide)⟩) (bag v)
  refine ⟨_,rfl,_,rfl,_,rfl,_,rfl,b,_,rfl,rfl,SqT.of E.hb,fun r137 hr137=>?_⟩
  have r137p:r137≠p:=E.dk.ne hr137
  generalize hJ:upd J134 r137 _=J138
  have s139:Same J134 J138:=by rw [← hJ];exact (Same.refl J134).new hr137
  have g140:J138 r137=some (.tup (us.map V.int).reverse):=by rw [← hJ];exact upd_same
  clear hJ hr137
  have E:=E.same s139
  have bag:=fun v hv=>(bag v hv).same s139
  have kk6:=kk6.same s139
  have g108:=s139 _ _ g108
  refine ⟨ln 2,fun r141 hr141=>?_⟩
  have r141p:r141≠p:=E.dk.ne hr141
  generalize hJ:upd J138 r141 _=J142
  have s143:Same J138 J142:=by rw [← hJ];exact (Same.refl J138).new hr141
  have g144:J142 r141=some (.tup [.str ⟨#[ch]⟩,.ref r137]):=by rw [← hJ];exact upd_same
  clear hJ hr141
  have E:=E.same s143
  have bag:=fun v hv=>(bag v hv).same s143
  have kk6:=kk6.same s143
  have g108:=s143 _ _ g108
  have g140:=s143 _ _ g140
  have bag:∀ v∈(.ref r141 :: (.ref r133 :: (.ref r125 :: (.ref r121 :: (.ref r117 :: (.ref r97 :: (.ref r93 :: (.non :: (.str ⟨#[ch]⟩ :: (.ref r81 :: (.ref r77 :: (.ref r73 :: (.ref r61 :: (.ref r57 :: (.ref r49 :: (.ref r25 :: (.ref r1 :: []))))))))))))))))),Th p J142 6000 6 v:=fun v hv=>(List.mem_cons.mp hv).elim (fun q=>q ▸ ⟨false,false,.inl rfl,(tv_tup g144 r141p (Tl.cons thr (Tl.cons (tv_tup (e:=0) g140 r137p (Tl.all_le (c:=41) (n:=60) (fun x hx=>by obtain ⟨u,hu,rfl⟩:=List.mem_map.mp (List.mem_reverse.mp hx);exact tv_int (us12 u hu)) (by rw [List.length_reverse];omega))) Tl.nil))).mono (by first | decide | omega | (show 1+2520+2≤_;decide)) (by decide)⟩) (bag v)
  refine ⟨ln 5,fun r145 hr145=>?_⟩
  have r145p:r145≠p:=E.dk.ne hr145
  generalize hJ:upd J142 r145 _=J146
  have s147:Same J142 J146:=by rw [← hJ];exact (Same.refl J142).new hr145
  have g148:J146 r145=some (.lst [.ref r117,.ref r121,.ref r125,.ref r133,.ref r141]):=by rw [← hJ];exact upd_same
  clear hJ hr145
  have E:=E.same s147
  have bag:=fun v hv=>(bag v hv).same s147
  have kk6:=kk6.same s147
  have g108:=s147 _ _ g108
  refine ⟨r105,r145,_,_,rfl,rfl,g108,g148,ln 17,fun r149 hr149=>?_⟩
  have r149p:r149≠p:=E.dk.ne hr149
  generalize hJ:upd J146 r149 _=J150
  have s151:Same J146 J150:=by rw [← hJ];exact (Same.refl J146).new hr149
  have g152:J150 r149=some (.lst ([.ref r1,.ref r25,.ref r49,.ref r57,.ref r61]++[.ref r73,.ref r77,.ref r81,.str ⟨#[ch]⟩,.non,.ref r93,.ref r97]++[.ref r117,.ref r121,.ref r125,.ref r133,.ref r141])):=by rw [← hJ];exact upd_same
  clear hJ hr149
  have E:=E.same s151
  have bag:=fun v hv=>(bag v hv).same s151
  have kk6:=kk6.same s151
  have g108:=s151 _ _ g108
  have g148:=s151 _ _ g148
  have bag17:∀ v∈([.ref r1,.ref r25,.ref r49,.ref r57,.ref r61]++[.ref r73,.ref r77,.ref r81,.str ⟨#[ch]⟩,.non,.ref r93,.ref r97]++[.ref r117,.ref r121,.ref r125,.ref r133,.ref r141]:List V),Th p J150 6000 6 v:=fun v hv=>bag v (by
    simp only [List.mem_append,List.mem_cons,List.not_mem_nil,or_false] at hv ⊢
    simp only [or_comm,or_left_comm,or_assoc] at hv ⊢
    exact hv)
  have l17:(([.ref r1,.ref r25,.ref r49,.ref r57,.ref r61]++[.ref r73,.ref r77,.ref r81,.str ⟨#[ch]⟩,.non,.ref r93,.ref r97]++[.ref r117,.ref r121,.ref r125,.ref r133,.ref r141]:List V).length:Nat)=17:=rfl
  have gl:=g152
  generalize ([.ref r1,.ref r25,.ref r49,.ref r57,.ref r61]++[.ref r73,.ref r77,.ref r81,.str ⟨#[ch]⟩,.non,.ref r93,.ref r97]++[.ref r117,.ref r121,.ref r125,.ref r133,.ref r141]:List V)=kns at gl bag17 l17
  clear bag
  have bag:=bag17
  have cl1:=len_to (xs:=as.map V.ref) aa0
  have cl2:=len_from (xs:=as.map V.ref) (i:=at'+1) (by omega)
  have cl3:=len_to (xs:=as.map V.ref) (i:=at'+1) (by omega)
  have cl4:=len_from (xs:=as.map V.ref) aa0
  have cl5:=len_from (xs:=as.map V.ref) (i:=at'+2) (by omega)
  have tcs:∀ {J:Hp} {hd hl:Bool} (lo hi:Option Int),(∀ x∈as.map V.ref,Tv p J false false 2600 2 x)→Tl p J hd hl (2601 * (cutV (as.map V.ref) lo hi).length) 2 (cutV (as.map V.ref) lo hi):=fun lo hi h=>(Tl.all fun x hx=>h x (cut_mem hx)).up
  refine ⟨_,rfl,_,_,rfl,rfl,_,rfl,?_⟩
  by_cases c17:way < 17
  · refine iteA (decide_eq_true c17) ?_
    obtain ⟨kv,ekv,mkv⟩:=at_in (xs:=kns) w0 (by omega)
    refine ⟨_,rfl,_,rfl,_,rfl,t,_,rfl,E.ht,fun r153 J154 s155 g156=>?_⟩
    have E:=E.same s155
    have bag:=fun v hv=>(bag v hv).same s155
    have kk6:=kk6.same s155
    have gl:=s155 _ _ gl
    have r153p:r153≠p:=deck_neT E.dk g156
    refine ⟨_,rfl,_,rfl,r149,_,_,_,rfl,rfl,SqL.of gl,ekv,ln 1,fun r157 hr157=>?_⟩
    have r157p:r157≠p:=E.dk.ne hr157
    generalize hJ:upd J154 r157 _=J158
    have s159:Same J154 J158:=by rw [← hJ];exact (Same.refl J154).new hr157
    have g160:J158 r157=some (.tup [kv]):=by rw [← hJ];exact upd_same
    clear hJ hr157
    have E:=E.same s159
    have bag:=fun v hv=>(bag v hv).same s159
    have kk6:=kk6.same s159
    have gl:=s159 _ _ gl
    have g156:=s159 _ _ g156
    refine ⟨r153,r157,_,_,rfl,rfl,g156,g160,(by show _+1≤sizeLine;exact ln _ (by omega)),fun r161 J162 s163 g164=>?_⟩
    have E:=E.same s163
    have bag:=fun v hv=>(bag v hv).same s163
    have kk6:=kk6.same s163
    have gl:=s163 _ _ gl
    have g156:=s163 _ _ g156
    have g160:=s163 _ _ g160
    have r161p:r161≠p:=deck_neT E.dk g164
    refine ⟨_,rfl,_,rfl,_,_,rfl,rfl,_,rfl,t,_,rfl,E.ht,fun r165 J166 s167 g168=>?_⟩
    have E:=E.same s167
    have bag:=fun v hv=>(bag v hv).same s167
    have kk6:=kk6.same s167
    have gl:=s167 _ _ gl
    have g164:=s167 _ _ g164
    have r165p:r165≠p:=deck_neT E.dk g168
    refine ⟨r161,r165,_,_,rfl,rfl,g164,g168,(by rw [List.length_append,List.length_singleton];exact ln _ (by omega)),fun r169 J170 s171 g172=>?_⟩
    have E:=E.same s171
    have bag:=fun v hv=>(bag v hv).same s171
    have kk6:=kk6.same s171
    have gl:=s171 _ _ gl
    have g164:=s171 _ _ g164
    have g168:=s171 _ _ g168
    have r169p:r169≠p:=deck_neT E.dk g172
    obtain ⟨hd,hl,o,tv⟩:=bag kv mkv
    exact q _ _ kk6 ⟨hd,hl,o,(tv_tup g172 r169p ((((tcs none (some at') E.tk).mono (Nat.le_refl _) (show 2≤6 by decide)).append (Tl.cons tv Tl.nil)).append ((tcs (some (at'+1)) none E.tk).mono (Nat.le_refl _) (show 2≤6 by decide)))).mono (by omega) (by decide)⟩
  refine iteB (decide_eq_false c17) ?_
  clear bag bag17 gl
  have bag:∀ v∈([]:List V),Th p J150 190000 8 v:=fun _ h=>nomatch h
  refine ⟨_,rfl,_,rfl,_,rfl,t,_,rfl,E.ht,fun r173 J174 s175 g176=>?_⟩
  have E:=E.same s175
  have bag:=fun v hv=>(bag v hv).same s175
  have kk6:=kk6.same s175
  have r173p:r173≠p:=deck_neT E.dk g176
  refine ⟨_,rfl,_,rfl,_,_,rfl,rfl,_,rfl,t,_,rfl,E.ht,fun r177 J178 s179 g180=>?_⟩
  have E:=E.same s179
  have bag:=fun v hv=>(bag v hv).same s179
  have kk6:=kk6.same s179
  have g176:=s179 _ _ g176
  have r177p:r177≠p:=deck_neT E.dk g180
  refine ⟨r173,r177,_,_,rfl,rfl,g176,g180,ln _ (by omega),fun r181 J182 s183 g184=>?_⟩
  have E:=E.same s183
  have bag:=fun v hv=>(bag v hv).same s183
  have kk6:=kk6.same s183
  have g176:=s183 _ _ g176
  have g180:=s183 _ _ g180
  have r181p:r181≠p:=deck_neT E.dk g184
  have bag:∀ v∈(.ref r181 :: []),Th p J182 190000 8 v:=fun v hv=>(List.mem_cons.mp hv).elim (fun q=>q ▸ ⟨false,false,.inl rfl,(tv_tup g184 r181p ((tcs none (some at') E.tk).append (tcs (some (at'+1)) none E.tk))).mono (by first | decide | omega | (show 1+2520+2≤_;decide)) (by decide)⟩) (bag v)
  refine ⟨_,rfl,_,rfl,_,_,rfl,rfl,_,rfl,t,_,rfl,E.ht,fun r185 J186 s187 g188=>?_⟩
  have E:=E.same s187
  have bag:=fun v hv=>(bag v hv).same s187
  have kk6:=kk6.same s187
  have r185p:r185≠p:=deck_neT E.dk g188
  refine ⟨_,rfl,_,rfl,_,rfl,t,_,rfl,E.ht,fun r189 J190 s191 g192=>?_⟩
  have E:=E.same s191
  have bag:=fun v hv=>(bag v hv).same s191
  have kk6:=kk6.same s191
  have g188:=s191 _ _ g188
  have r189p:r189≠p:=deck_neT E.dk g192
  refine ⟨r185,r189,_,_,rfl,rfl,g188,g192,ln _ (by omega),fun r193 J194 s195 g196=>?_⟩
  have E:=E.same s195
  have bag:=fun v hv=>(bag v hv).same s195
  have kk6:=kk6.same s195
  have g188:=s195 _ _ g188
  have g192:=s195 _ _ g192
  have r193p:r193≠p:=deck_neT E.dk g196
  have bag:∀ v∈(.ref r193 :: (.ref r181 :: [])),Th p J194 190000 8 v:=fun v hv=>(List.mem_cons.mp hv).elim (fun q=>q ▸ ⟨false,false,.inl rfl,(tv_tup g196 r193p ((tcs none (some (at'+1)) E.tk).append (tcs (some at') none E.tk))).mono (by first | decide | omega | (show 1+2520+2≤_;decide)) (by decide)⟩) (bag v)
  refine ⟨_,rfl,_,rfl,_,rfl,t,_,rfl,rfl,SqT.of E.ht,fun r197 hr197=>?_⟩
  have r197p:r197≠p:=E.dk.ne hr197
  generalize hJ:upd J194 r197 _=J198
  have s199:Same J194 J198:=by rw [← hJ];exact (Same.refl J194).new hr197
  have g200:J198 r197=some (.tup (as.map V.ref).reverse):=by rw [← hJ];exact upd_same
  clear hJ hr197
  have E:=E.same s199
  have bag:=fun v hv=>(bag v hv).same s199
  have kk6:=kk6.same s199
  have bag:∀ v∈(.ref r197 :: (.ref r193 :: (.ref r181 :: []))),Th p J198 190000 8 v:=fun v hv=>(List.mem_cons.mp hv).elim (fun q=>q ▸ ⟨false,false,.inl rfl,(tv_tup g200 r197p (Tl.all_le (n:=60) (fun x hx=>E.tk x (List.mem_reverse.mp hx)) (by rw [List.length_reverse];omega))).mono (by first | decide | omega | (show 1+2520+2≤_;decide)) (by decide)⟩) (bag v)
  refine ⟨_,rfl,t,_,rfl,.inr (SqT.of E.ht),fun r201 hr201=>?_⟩
  have r201p:r201≠p:=E.dk.ne hr201
  generalize hJ:upd J198 r201 _=J202
  have s203:Same J198 J202:=by rw [← hJ];exact (Same.refl J198).new hr201
  have g204:J202 r201=some (.lst (as.map V.ref)):=by rw [← hJ];exact upd_same
  clear hJ hr201
  have E:=E.same s203
  have bag:=fun v hv=>(bag v hv).same s203
  have kk6:=kk6.same s203
  have bag:∀ v∈(.ref r201 :: (.ref r197 :: (.ref r193 :: (.ref r181 :: [])))),Th p J202 190000 8 v:=fun v hv=>(List.mem_cons.mp hv).elim (fun q=>q ▸ ⟨false,true,.inl rfl,(tv_lst g204 r201p ((Tl.all_le (n:=60) E.tk (by omega)).up)).mono (by first | decide | omega | (show 1+2520+2≤_;decide)) (by decide)⟩) (bag v)
  refine ⟨_,rfl,t,61,_,rfl,rfl,E.ht,by omega,by omega,by decide,by decide,fun r205 hr205=>?_⟩
  have r205p:r205≠p:=E.dk.ne hr205
  generalize hJ:upd J202 r205 _=J206
  have s207:Same J202 J206:=by rw [← hJ];exact (Same.refl J202).new hr205
  have g208:J206 r205=some (.tup (List.replicate 61 (as.map V.ref)).flatten):=by rw [← hJ];exact upd_same
  clear hJ hr205
  have E:=E.same s207
  have bag:=fun v hv=>(bag v hv).same s207
  have kk6:=kk6.same s207
  refine ⟨_,rfl,r205,_,rfl,g208,fun r209 J210 s211 g212=>?_⟩
  have E:=E.same s211
  have bag:=fun v hv=>(bag v hv).same s211
  have kk6:=kk6.same s211
  have g208:=s211 _ _ g208
  have r209p:r209≠p:=deck_neT E.dk g212
  have bag:∀ v∈(.ref r209 :: (.ref r201 :: (.ref r197 :: (.ref r193 :: (.ref r181 :: []))))),Th p J210 190000 8 v:=fun v hv=>(List.mem_cons.mp hv).elim (fun q=>q ▸ ⟨false,false,.inl rfl,(tv_tup g212 r209p (Tl.all_le (n:=61) (fun x hx=>E.tk x (by obtain ⟨l,hl,hx⟩:=List.mem_flatten.mp (cut_mem hx);rw [(List.mem_replicate.mp hl).2] at hx;exact hx)) (len_to (by decide)))).mono (by first | decide | omega | (show 1+2520+2≤_;decide)) (by decide)⟩) (bag v)
  refine ⟨_,rfl,t,60,_,rfl,rfl,E.ht,by omega,by omega,by decide,by decide,fun r213 hr213=>?_⟩
  have r213p:r213≠p:=E.dk.ne hr213
  generalize hJ:upd J210 r213 _=J214
  have s215:Same J210 J214:=by rw [← hJ];exact (Same.refl J210).new hr213
  have g216:J214 r213=some (.tup (List.replicate 60 (as.map V.ref)).flatten):=by rw [← hJ];exact upd_same
  clear hJ hr213
  have E:=E.same s215
  have bag:=fun v hv=>(bag v hv).same s215
  have kk6:=kk6.same s215
  refine ⟨_,rfl,r213,_,rfl,g216,fun r217 J218 s219 g220=>?_⟩
  have E:=E.same s219
  have bag:=fun v hv=>(bag v hv).same s219
  have kk6:=kk6.same s219
  have g216:=s219 _ _ g216
  have r217p:r217≠p:=deck_neT E.dk g220
  have bag:∀ v∈(.ref r217 :: (.ref r209 :: (.ref r201 :: (.ref r197 :: (.ref r193 :: (.ref r181 :: [])))))),Th p J218 190000 8 v:=fun v hv=>(List.mem_cons.mp hv).elim (fun q=>q ▸ ⟨false,false,.inl rfl,(tv_tup g220 r217p (Tl.all_le (n:=60) (fun x hx=>E.tk x (by obtain ⟨l,hl,hx⟩:=List.mem_flatten.mp (cut_mem hx);rw [(List.mem_replicate.mp hl).2] at hx;exact hx)) (len_to (by decide)))).mono (by first | decide | omega | (show 1+2520+2≤_;decide)) (by decide)⟩) (bag v)
  refine ⟨ln 6,fun r221 hr221=>?_⟩
  have r221p:r221≠p:=E.dk.ne hr221
  generalize hJ:upd J218 r221 _=J222
  have s223:Same J218 J222:=by rw [← hJ];exact (Same.refl J218).new hr221
  have g224:J222 r221=some (.lst [.ref r181,.ref r193,.ref r197,.ref r201,.ref r209,.ref r217]):=by rw [← hJ];exact upd_same
  clear hJ hr221
  have E:=E.same s223
  have bag:=fun v hv=>(bag v hv).same s223
  have kk6:=kk6.same s223
  refine ⟨_,rfl,_,rfl,_,rfl,_,rfl,_,_,rfl,rfl,_,rfl,t,_,rfl,E.ht,fun r225 J226 s227 g228=>?_⟩
  have E:=E.same s227
  have bag:=fun v hv=>(bag v hv).same s227
  have kk6:=kk6.same s227
  have g224:=s227 _ _ g224
  have r225p:r225≠p:=deck_neT E.dk g228
  refine ⟨_,rfl,_,rfl,r225,_,rfl,rfl,SqT.of g228,fun r229 hr229=>?_⟩
  have r229p:r229≠p:=E.dk.ne hr229
  generalize hJ:upd J226 r229 _=J230
  have s231:Same J226 J230:=by rw [← hJ];exact (Same.refl J226).new hr229
  have g232:J230 r229=some (.tup (cutV (as.map V.ref) (some at') (some (at'+2))).reverse):=by rw [← hJ];exact upd_same
  clear hJ hr229
  have E:=E.same s231
  have bag:=fun v hv=>(bag v hv).same s231
  have kk6:=kk6.same s231
  have g224:=s231 _ _ g224
  have g228:=s231 _ _ g228
  have cl6:=len_two (xs:=as.map V.ref) aa0
  refine ⟨_,rfl,_,rfl,_,rfl,_,rfl,t,_,rfl,E.ht,fun r233 J234 s235 g236=>?_⟩
  have E:=E.same s235
  have bag:=fun v hv=>(bag v hv).same s235
  have kk6:=kk6.same s235
  have g224:=s235 _ _ g224
  have g232:=s235 _ _ g232
  have r233p:r233≠p:=deck_neT E.dk g236
  refine ⟨_,rfl,r233,r229,_,_,rfl,rfl,g236,g232,(by rw [List.length_reverse];exact ln _ (by omega)),fun r237 J238 s239 g240=>?_⟩
  have E:=E.same s239
  have bag:=fun v hv=>(bag v hv).same s239
  have kk6:=kk6.same s239
  have g224:=s239 _ _ g224
  have g232:=s239 _ _ g232
  have g236:=s239 _ _ g236
  have r237p:r237≠p:=deck_neT E.dk g240
  refine ⟨_,rfl,_,rfl,_,_,rfl,rfl,_,rfl,t,_,rfl,E.ht,fun r241 J242 s243 g244=>?_⟩
  have E:=E.same s243
  have bag:=fun v hv=>(bag v hv).same s243
  have kk6:=kk6.same s243
  have g224:=s243 _ _ g224
  have g232:=s243 _ _ g232
  have g240:=s243 _ _ g240
  have r241p:r241≠p:=deck_neT E.dk g244
  refine ⟨r237,r241,_,_,rfl,rfl,g240,g244,(by rw [List.length_append,List.length_reverse];exact ln _ (by omega)),fun r245 J246 s247 g248=>?_⟩
  have E:=E.same s247
  have bag:=fun v hv=>(bag v hv).same s247
  have kk6:=kk6.same s247
  have g224:=s247 _ _ g224
  have g232:=s247 _ _ g232
  have g240:=s247 _ _ g240
  have g244:=s247 _ _ g244
  have r245p:r245≠p:=deck_neT E.dk g248
  have bag:∀ v∈(.ref r245 :: (.ref r217 :: (.ref r209 :: (.ref r201 :: (.ref r197 :: (.ref r193 :: (.ref r181 :: []))))))),Th p J246 190000 8 v:=fun v hv=>(List.mem_cons.mp hv).elim (fun q=>q ▸ ⟨false,false,.inl rfl,(tv_tup g248 r245p (((tcs none (some at') E.tk).append (Tl.all_le (n:=2) (fun x hx=>E.tk x (cut_mem (List.mem_reverse.mp hx))) (by rw [List.length_reverse];exact cl6))).append (tcs (some (at'+2)) none E.tk))).mono (by first | decide | omega | (show 1+2520+2≤_;decide)) (by decide)⟩) (bag v)
  refine ⟨_,rfl,ln 1,fun r249 hr249=>?_⟩
  have r249p:r249≠p:=E.dk.ne hr249
  generalize hJ:upd J246 r249 _=J250
  have s251:Same J246 J250:=by rw [← hJ];exact (Same.refl J246).new hr249
  have g252:J250 r249=some (.tup [.ref t]):=by rw [← hJ];exact upd_same
  clear hJ hr249
  have E:=E.same s251
  have bag:=fun v hv=>(bag v hv).same s251
  have kk6:=kk6.same s251
  have g224:=s251 _ _ g224
  have g232:=s251 _ _ g232
  have bag:∀ v∈(.ref r249 :: (.ref r245 :: (.ref r217 :: (.ref r209 :: (.ref r201 :: (.ref r197 :: (.ref r193 :: (.ref r181 :: [])))))))),Th p J250 190000 8 v:=fun v hv=>(List.mem_cons.mp hv).elim (fun q=>q ▸ ⟨false,false,.inl rfl,(tv_tup g252 r249p (Tl.cons (tv_tup E.ht (deck_neT E.dk E.ht) (Tl.all_le (n:=60) E.tk (by omega))) Tl.nil)).mono (by first | decide | omega | (show 1+2520+2≤_;decide)) (by decide)⟩) (bag v)
  refine fun r253 hr253=>?_
  have r253p:r253≠p:=E.dk.ne hr253
  refine ⟨_,rfl,upd_same,[(.inr (Str.ofString "a"),.ref t)],rfl,by simp,?_⟩
  rw [show mergeK [] [((Sum.inr (Str.ofString "a"):Key),.ref t)]=[(Sum.inr (Str.ofString "a"),.ref t)] from rfl,upd_upd]
  generalize hJ:upd J250 r253 _=J254
  have s255:Same J250 J254:=by rw [← hJ];exact (Same.refl J250).new hr253
  have g256:J254 r253=some (.dK [(.inr (Str.ofString "a"),.ref t)]):=by rw [← hJ];exact upd_same
  clear hJ hr253
  have E:=E.same s255
  have bag:=fun v hv=>(bag v hv).same s255
  have kk6:=kk6.same s255
  have g224:=s255 _ _ g224
  have g232:=s255 _ _ g232
  have tda:=tv_dct1 (hl:=false) g256 r253p (by decide +kernel) (Tv.up (tv_tup E.ht (deck_neT E.dk E.ht) (Tl.all_le (n:=60) E.tk (by omega))))
  have bag:∀ v∈(.ref r253 :: (.ref r249 :: (.ref r245 :: (.ref r217 :: (.ref r209 :: (.ref r201 :: (.ref r197 :: (.ref r193 :: (.ref r181 :: []))))))))),Th p J254 190000 8 v:=fun v hv=>(List.mem_cons.mp hv).elim (fun q=>q ▸ ⟨true,false,.inr rfl,tda.mono (by decide +kernel) (by decide)⟩) (bag v)
  have tka:=E.tk _ hkn
  have bag:∀ v∈(.ref a :: (.ref r253 :: (.ref r249 :: (.ref r245 :: (.ref r217 :: (.ref r209 :: (.ref r201 :: (.ref r197 :: (.ref r193 :: (.ref r181 :: [])))))))))),Th p J254 190000 8 v:=fun v hv=>(List.mem_cons.mp hv).elim (fun q=>q ▸ ⟨false,false,.inl rfl,(tka).mono (by first | decide | omega | (show 1+2520+2≤_;decide)) (by decide)⟩) (bag v)
  refine ⟨_,rfl,_,rfl,t,_,_,_,rfl,rfl,SqT.of E.ht,ekn,ln 0,fun r257 hr257=>?_⟩
  have r257p:r257≠p:=E.dk.ne hr257
  generalize hJ:upd J254 r257 _=J258
  have s259:Same J254 J258:=by rw [← hJ];exact (Same.refl J254).new hr257
  have g260:J258 r257=some (.tup []):=by rw [← hJ];exact upd_same
  clear hJ hr257
  have E:=E.same s259
  have bag:=fun v hv=>(bag v hv).same s259
  have kk6:=kk6.same s259
  have g224:=s259 _ _ g224
  have g232:=s259 _ _ g232
  refine ⟨ln 2,fun r261 hr261=>?_⟩
  have r261p:r261≠p:=E.dk.ne hr261
  generalize hJ:upd J258 r261 _=J262
  have s263:Same J258 J262:=by rw [← hJ];exact (Same.refl J258).new hr261
  have g264:J262 r261=some (.tup [.str "a", .ref r257]):=by rw [← hJ];exact upd_same
  clear hJ hr261
  have E:=E.same s263
  have bag:=fun v hv=>(bag v hv).same s263
  have kk6:=kk6.same s263
  have g224:=s263 _ _ g224
  have g232:=s263 _ _ g232
  have g260:=s263 _ _ g260
  refine ⟨ln 1,fun r265 hr265=>?_⟩
  have r265p:r265≠p:=E.dk.ne hr265
  generalize hJ:upd J262 r265 _=J266
  have s267:Same J262 J266:=by rw [← hJ];exact (Same.refl J262).new hr265
  have g268:J266 r265=some (.tup [.ref r261]):=by rw [← hJ];exact upd_same
  clear hJ hr265
  have E:=E.same s267
  have bag:=fun v hv=>(bag v hv).same s267
  have kk6:=kk6.same s267
  have g224:=s267 _ _ g224
  have g232:=s267 _ _ g232
  have g260:=s267 _ _ g260
  have g264:=s267 _ _ g264
  refine ⟨r265,61,.ref r261,rfl,rfl,SqT.of g268,.inr (by decide),by decide,fun r269 hr269=>?_⟩
  have r269p:r269≠p:=E.dk.ne hr269
  generalize hJ:upd J266 r269 _=J270
  have s271:Same J266 J270:=by rw [← hJ];exact (Same.refl J266).new hr269
  have g272:J270 r269=some (.tup (List.replicate 61 (.ref r261))):=by rw [← hJ];exact upd_same
  clear hJ hr269
  have E:=E.same s271
  have bag:=fun v hv=>(bag v hv).same s271
  have kk6:=kk6.same s271
  have g224:=s271 _ _ g224
  have g232:=s271 _ _ g232
  have g260:=s271 _ _ g260
  have g264:=s271 _ _ g264
  have g268:=s271 _ _ g268
  have ta1:Tv p J270 false false 10 2 (.ref r261):=(tv_tup g264 r261p (Tl.cons (tv_str (z := "a") (by decide) (by decide +kernel)) (Tl.cons (tv_tup (e:=0) g260 r257p Tl.nil) Tl.nil))).mono (by decide +kernel) (by decide)
  have bag:∀ v∈(.ref r269 :: (.ref a :: (.ref r253 :: (.ref r249 :: (.ref r245 :: (.ref r217 :: (.ref r209 :: (.ref r201 :: (.ref r197 :: (.ref r193 :: (.ref r181 :: []))))))))))),Th p J270 190000 8 v:=fun v hv=>(List.mem_cons.mp hv).elim (fun q=>q ▸ ⟨false,false,.inl rfl,(tv_tup g272 r269p (Tl.all_le (n:=61) (fun x hx=>by rw [(List.mem_replicate.mp hx).2];exact ta1) (by rw [List.length_replicate];exact Nat.le_refl _))).mono (by first | decide | omega | (show 1+2520+2≤_;decide)) (by decide)⟩) (bag v)
  refine ⟨ln 5,fun r273 hr273=>?_⟩
  have r273p:r273≠p:=E.dk.ne hr273
  generalize hJ:upd J270 r273 _=J274
  have s275:Same J270 J274:=by rw [← hJ];exact (Same.refl J270).new hr273
  have g276:J274 r273=some (.lst [.ref r245,.ref r249,.ref r253,.ref a,.ref r269]):=by rw [← hJ];exact upd_same
  clear hJ hr273
  have E:=E.same s275
  have bag:=fun v hv=>(bag v hv).same s275
  have kk6:=kk6.same s275
  have g224:=s275 _ _ g224
  have g232:=s275 _ _ g232
  refine ⟨r221,r273,_,_,rfl,rfl,g224,g276,ln 11,fun r277 hr277=>?_⟩
  have r277p:r277≠p:=E.dk.ne hr277
  generalize hJ:upd J274 r277 _=J278
  have s279:Same J274 J278:=by rw [← hJ];exact (Same.refl J274).new hr277
  have g280:J278 r277=some (.lst ([.ref r181,.ref r193,.ref r197,.ref r201,.ref r209,.ref r217]++[.ref r245,.ref r249,.ref r253,.ref a,.ref r269])):=by rw [← hJ];exact upd_same
  clear hJ hr277
  have E:=E.same s279
  have bag:=fun v hv=>(bag v hv).same s279
  have kk6:=kk6.same s279
  have g224:=s279 _ _ g224
  have g232:=s279 _ _ g232
  have g276:=s279 _ _ g276
  obtain ⟨kv,ekv,mkv⟩:=at_in (xs:=([.ref r181,.ref r193,.ref r197,.ref r201,.ref r209,.ref r217]++[.ref r245,.ref r249,.ref r253,.ref a,.ref r269]:List V)) (i:=way - 17) (by omega) (by show way - 17 < 11;omega)
  refine ⟨_,rfl,_,rfl,_,_,rfl,rfl,r277,_,_,_,rfl,rfl,SqL.of g280,ekv,?_⟩
  have th11:=bag kv (by
    simp only [List.mem_append,List.mem_cons,List.not_mem_nil,or_false] at mkv ⊢
    simp only [or_comm,or_left_comm,or_assoc] at mkv ⊢
    exact mkv)
  obtain ⟨hd,hl,o,tv⟩:=th11
  exact q _ _ kk6 ⟨hd,hl,o,tv.mono (Nat.le_refl _) (by decide)⟩
end
end S46
namespace S46
open PySem L2 W7
theorem NetAt.kd {H H':Hp} {p t:Addr} {c d:Int} {net:List Knot} (h:NetAt H t net) (dk:Deck H p d) (k:Kd p c H H'):NetAt H' t net:=by
  obtain ⟨as,a,b⟩:=h
  exact ⟨as,kd_tups dk k _ _ a,b.tups (kd_tups dk k)⟩
def knD (kn:Knot):PyData:=.tuple [.str ⟨#[kn.1]⟩,.tuple (kn.2.map .int)]
theorem knots_td {H:Hp}:∀ {as:List Addr} {net:List Knot},KnotsAt H as net→Tds H (as.map V.ref) (net.map knD)
  | [],[],_=>.nil
  | [],_ :: _,h=>by have:=h.1;cases this
  | _ :: _,[],h=>by have:=h.1;cases this
  | a :: as,kn :: net,h=>by
    obtain ⟨b,e1,e2⟩:=h.2 0 a kn rfl rfl
    refine .cons (.tup e1 (.cons (.str _) (.cons (.tup e2 (Tds.ints _)) .nil))) (knots_td ⟨by have:=h.1;simpa using this,fun i a kn x y=>h.2 (i+1) a kn (by simpa using x) (by simpa using y)⟩)
theorem net_netD {net:List Knot} (ok:NetOk net):NetD (.tuple (net.map knD)):=by
  refine ⟨_,rfl,by rw [List.length_map];exact ok.pos,by rw [List.length_map];exact ok.most,fun i kd e=>?_⟩
  rw [List.getElem?_map] at e
  cases e2:net[i]? with
  | none=>rw [e2] at e;cases e
  | some kn=>
    rw [e2] at e
    cases e
    have m:=List.mem_of_getElem? e2
    exact ⟨_,kn.2,rfl,⟨kn.1,rfl,ok.low kn m⟩,ok.few kn m,ok.num i kn e2⟩
theorem net_shn {net:List Knot} (ok:NetOk net):ShN (.tuple (net.map knD)):=fun ks e kd hk x r ek=>by
  injection e with e
  subst e
  obtain ⟨kn,hkn,rfl⟩:=List.mem_map.mp hk
  have lw:=ok.low kn hkn
  unfold knD at ek
  injection ek with ek
  injection ek with ea _
  subst ea
  intro z ez
  injection ez with ez
  subst ez
  exact ⟨show 1≤900 by decide,low_ok lw⟩
section
variable {P:Program} {w:World} {K:PySem.W.Frag} {mg:Str→Option Value} {base:Heap} {k:Nat}
def sp_law:PySem.W.Frag→Sp:=fun K vs H Q _=>∃ (a:Addr) (ns:List Int),vs=[.ref a]∧SqL K H a (ns.map V.int)∧ns.length≤63∧∀ H',Q (.bl true) H'
theorem ok_law {f:Addr} {fd:FuncData} (F:Fun K "law" "law" s_law f fd) (B:Blt7 mg) (G_law_store:Has P w K mg base "_law_store" k ["cell", "k"] sp_store) (G_law_net:Has P w K mg base "_law_net" k ["store", "most"] sp_net) (G_is_net:Has P w K mg base "is_net" k ["thing"] sp_netT)
    (G_law_bent:Has P w K mg base "_law_bent" k ["store", "net"] sp_bent) (G_law_right:Has P w K mg base "_law_right" k ["thing"] sp_rightT) :
    FnOk P w K mg base CX0 (k+1) f fd ["script"] (sp_law K):=by
  refine F.ok sc_law (fun vs H Q E h=>by obtain ⟨a,ns,rfl,_⟩:=h;rfl) (fun cdv A outer s H vs Q E hr h=>?_)
  obtain ⟨a,ns,rfl,hS,h63,q⟩:=h
  refine exw ?_
  refine ⟨_,(w_cons (Pw.mk (ps_for PassesOwn.never rfl (pi_list (pe_op op_cat (pe_slice sl_list (pv 0) po_none (po_some pe_int)) (pe_lst (pa_cons (pe_callB call_len_seq rfl B.len bt_len (pa_cons (pv 0) pa_nil)) pa_nil)))) (pg_name (i:=1) sc_law.nd rfl (by first | exact Or.inl rfl | exact Or.inr rfl))
  (pss_cons (ps_set (i:=2) sc_law.nd rfl (by first | exact Or.inl rfl | exact Or.inr rfl) (pe_callH G_law_store hr rfl (pa_cons (pv 1) (pa_cons (pe_callB call_len_seq rfl B.len bt_len (pa_cons (pv 0) pa_nil)) pa_nil))))
  (pss_cons (ps_set (i:=3) sc_law.nd rfl (by first | exact Or.inl rfl | exact Or.inr rfl) (pe_callH G_law_net hr rfl (pa_cons (pv 2) (pa_cons pe_int pa_nil))))
  (pss_cons (ps_if (pt_cmpR op_isnotB (pe_callH G_is_net hr rfl (pa_cons (pv 3) pa_nil)) pe_bl (nomark _))
  (pss_one (ps_ret pe_bl))
  pss_nil)
  (pss_one (ps_for PassesOwn.never rfl (pi_range1 rfl B.range (pa_cons pe_int pa_nil)) (pg_name (i:=4) sc_law.nd rfl (by first | exact Or.inl rfl | exact Or.inr rfl))
  (pss_one (ps_if (pt_not (pt_val (pe_callH G_law_right hr rfl (pa_cons (pe_callH G_law_bent hr rfl (pa_cons (pv 2) (pa_cons (pv 3) pa_nil))) pa_nil))))
  (pss_one (ps_ret pe_bl))
  pss_nil)))))))))
  (w_cons (w_set (i:=5) sc_law.nd rfl (by first | exact Or.inl rfl | exact Or.inr rfl) (w_lst (w_acons (PEw.mk pe_non) (w_acons (PEw.mk pe_int) (w_acons (PEw.mk pe_bl) (w_acons w_str (w_acons w_str (w_acons (PEw.mk (pe_lst pa_nil)) (w_acons (PEw.mk (pe_tup pa_nil)) (w_acons (PEw.mk pe_dnewK) (w_acons (PEw.mk (pe_tup (pa_cons (pe_tup pa_nil) pa_nil))) (w_acons (w_tup (w_acons w_str (w_acons (PEw.mk (pe_tup pa_nil)) w_anil))) (w_acons (w_tup (w_acons (w_tup (w_acons w_str (w_acons (PEw.mk (pe_tup pa_nil)) w_anil))) w_anil)) (w_acons (w_tup (w_acons (w_tup (w_acons w_str (w_acons (PEw.mk (pe_tup (pa_cons pe_int pa_nil))) w_anil))) w_anil)) w_anil))))))))))))))
  (w_cons (w_set (i:=5) sc_law.nd rfl (by first | exact Or.inl rfl | exact Or.inr rfl) (w_op op_cat (PEw.mk (pv 5)) (w_lst (w_acons (w_tup (w_acons (w_tup (w_acons w_str (w_acons (PEw.mk (pe_tup pa_nil)) w_anil))) (w_acons (w_tup (w_acons w_str (w_acons (PEw.mk (pe_tup (pa_cons pe_int pa_nil))) w_anil))) w_anil))) (w_acons (w_tup (w_acons (w_tup (w_acons w_str (w_acons (PEw.mk (pe_tup pa_nil)) w_anil))) (w_acons (w_tup (w_acons w_str (w_acons (PEw.mk (pe_tup (pa_cons pe_int pa_nil))) w_anil))) w_anil))) (w_acons (w_op (op_repT0 K) (w_tup (w_acons (w_tup (w_acons w_str (w_acons (PEw.mk (pe_tup pa_nil)) w_anil))) w_anil)) (PEw.mk pe_int)) (w_acons (w_op (op_repT0 K) (w_tup (w_acons (w_tup (w_acons w_str (w_acons (PEw.mk (pe_tup pa_nil)) w_anil))) w_anil)) (PEw.mk pe_int)) w_anil)))))))
  (w_cons (w_set (i:=5) sc_law.nd rfl (by first | exact Or.inl rfl | exact Or.inr rfl) (w_op op_cat (PEw.mk (pv 5)) (w_lst (w_acons (w_lst (w_acons (w_tup (w_acons w_str (w_acons (PEw.mk (pe_tup pa_nil)) w_anil))) w_anil)) (w_acons (PEw.mk (pe_tup (pa_cons (pe_tup (pa_cons (pe_tup (pa_cons (pe_tup (pa_cons (pe_tup (pa_cons (pe_tup (pa_cons (pe_tup (pa_cons (pe_tup pa_nil) pa_nil)) pa_nil)) pa_nil)) pa_nil)) pa_nil)) pa_nil)) pa_nil))) w_anil)))))
  (w_one (Pw.mk (ps_ret (pe_cmpR (op_eq_nil hr.units0) (pe_comp rfl (pi_list (pv 5)) (NL:=["thing"]) (ix:=[]) (csc (defScope s_law) N_law) (fun cl C s₃ H₃ fp pins=>⟨(pg_name (i:=0) (show List.Nodup (["thing"]:List Str) from by decide +kernel) rfl (by first | exact Or.inl rfl | exact Or.inr rfl)),(pifs_one (pt_not (pt_val (pe_callH G_law_right hr rfl (pa_cons (pv 0) pa_nil))))),(pv 0)⟩)) (pe_lst pa_nil) (nomark _))))))))),?_⟩
  refine mid (fun σ HX=>∃ (o1 o2 o3 o4:Option V) (q:Addr) (ys:List V),σ=[some (.ref a),o1,o2,o3,o4,none]∧HX q=some (.lst ys)) ?_ fun E2 nx=>?_
  rotate_left
  · refine ⟨_,rfl,_,rfl,a,_,rfl,hS,fun r1 hr1=>?_⟩
    obtain ⟨zs,ez,zl⟩:∃ zs:List Int,cutV (ns.map V.int) none (some 10)=zs.map V.int∧zs.length≤63:=by
      refine ⟨(ns.drop (HT.sIx (ns.map V.int).length 0 none)).take (HT.sIx (ns.map V.int).length (ns.map V.int).length (some 10) - HT.sIx (ns.map V.int).length 0 none),?_,?_⟩
      · unfold cutV;rw [List.map_take,List.map_drop]
      · rw [List.length_take,List.length_drop];omega
    rw [ez]
    have s1:Same H (upd H r1 (.lst (zs.map V.int))):=(Same.refl H).new hr1
    have h1a:upd H r1 (.lst (zs.map V.int)) r1=some (.lst (zs.map V.int)):=upd_same
    show (fun HH=>_) (upd H r1 (.lst (zs.map V.int)))
    generalize upd H r1 (.lst (zs.map V.int))=H1 at s1 h1a
    refine ⟨_,rfl,a,_,rfl,.inl (SqL.keepS hS s1),(by show 1≤sizeLine;decide),fun r2 hr2=>?_⟩
    rw [List.length_map]
    have s2:Same H1 (upd H1 r2 (.lst [.int (ns.length:Int)])):=(Same.refl H1).new hr2
    have h2a:upd H1 r2 (.lst [.int (ns.length:Int)]) r2=some (.lst [.int (ns.length:Int)]):=upd_same
    show (fun HH=>_) (upd H1 r2 (.lst [.int (ns.length:Int)]))
    generalize upd H1 r2 (.lst [.int (ns.length:Int)])=H2 at s2 h2a
    refine ⟨r1,r2,_,_,rfl,rfl,s2 _ _ h1a,h2a,by rw [List.length_map];show _+1≤_;exact Nat.le_of_lt (small1000 (by omega)),fun r hr3=>?_⟩
    have s3:Same H2 (upd H2 r (.lst (zs.map V.int++[.int (ns.length:Int)]))):=(Same.refl H2).new hr3
    have h3a:upd H2 r (.lst (zs.map V.int++[.int (ns.length:Int)])) r=some (.lst (zs.map V.int++[.int (ns.length:Int)])):=upd_same
    show (fun HH=>_) (upd H2 r (.lst (zs.map V.int++[.int (ns.length:Int)])))
    generalize upd H2 r (.lst (zs.map V.int++[.int (ns.length:Int)]))=H3 at s3 h3a
    have s03:Same H H3:=(s1.trans s2).trans s3
    refine ⟨r,rfl,⟨_,SqL.of h3a⟩,?_⟩
    refine for_list (K:=K) (xs:=zs.map V.int++[.int (ns.length:Int)]) (fun i σ HX=>∃ o1 o2 o3 o4:Option V,σ=[some (.ref a),o1,o2,o3,o4,none]∧Same H3 HX) ⟨none,none,none,none,rfl,Same.refl H3⟩ (fun i σ HX _ h=>by obtain ⟨_,_,_,_,_,s⟩:=h;exact SqL.of (s _ _ h3a)) ?_ ?_
    · rintro i x σ HX hx ⟨o1,o2,o3,o4,rfl,sX⟩
      obtain ⟨cell,rfl⟩:∃ cell:Int,x=.int cell:=by
        have:=List.mem_of_getElem? hx
        rcases List.mem_append.mp this with m | m
        · obtain ⟨c,_,rfl⟩:=List.mem_map.mp m;exact ⟨c,rfl⟩
        · exact ⟨_,List.mem_singleton.mp m⟩
      have s0X:=s03.trans sX
      refine ⟨_,rfl,_,rfl,a,_,rfl,.inl (SqL.keepS hS s0X),cell,_,rfl,by rw [List.length_map];omega,by rw [List.length_map];omega,fun p G1 fp e1 dk=>?_⟩
      rw [List.length_map] at dk
      refine ⟨_,rfl,p,_,rfl,dk,by omega,by omega,fun t net G2 kd n2 ok=>?_⟩
      have e2:Same HX G2:=fun b o e=>kd.keep b o (ne_of_none e fp) (e1 b o e)
      obtain ⟨as2,ht2,kt2⟩:=id n2
      refine ⟨_,rfl,.ref t,_,rfl,.tup ht2 (knots_td kt2),net_shn ok,fun b G3 e3 hb=>?_⟩
      have bt:b=true:=hb.mpr (net_netD ok)
      subst bt
      refine ⟨_,_,rfl,rfl,_,rfl,iteB rfl ?_⟩
      have dk3:Deck G3 p ((ns.length:Int)+5000):=by
        obtain ⟨x,y,z,e,r⟩:=kd.deck
        exact ⟨x,y,z,e3 _ _ e,r⟩
      have n3:=n2.same e3
      have eX3:=e2.trans e3
      refine ⟨10,rfl,by decide,by decide,?_⟩
      refine for_range (lo:=0) (n:=10) (fun j σ HY=>∃ o4:Option V,σ=[some (.ref a),some (.int cell),some (.ref p),some (.ref t),o4,none]∧Same HX HY∧Deck HY p ((ns.length:Int)+5000+6 * j)∧NetAt HY t net) ⟨_,rfl,eX3,dk3.mono (by omega),n3⟩ ?_ ?_
      · rintro j σ HY hj ⟨o4',rfl,sY,dY,nY⟩
        refine ⟨_,rfl,_,rfl,p,t,net,_,rfl,dY,by omega,by omega,nY,ok,fun v G5 k5 th=>?_⟩
        obtain ⟨d,td,sh,ft⟩:=th.ask (by decide) (by decide)
        refine ⟨v,d,rfl,td,sh,ft,fun G6 e6=>?_⟩
        have d6:Deck G6 p ((ns.length:Int)+5000+6 * ((j+1:Nat):Int)):=by
          obtain ⟨x,y,z,e,r⟩:=k5.deck.mono (show _≤(ns.length:Int)+5000+6 * ((j+1:Nat):Int) by omega)
          exact ⟨x,y,z,e6 _ _ e,r⟩
        exact ⟨_,rfl,iteF ⟨_,rfl,fun b o e=>e6 _ _ (k5.keep b o (ne_of_none e fp) (sY b o e)),d6,(nY.kd dY k5).same e6⟩⟩
      · rintro σ HY ⟨o4',rfl,sY,_,_⟩
        exact ⟨_,_,_,_,rfl,sX.trans sY⟩
    · rintro σ HX ⟨o1,o2,o3,o4,rfl,sX⟩
      exact nx _ _ ⟨_,_,_,_,r,_,rfl,sX _ _ h3a⟩
  rintro σ H6 ⟨o1,o2,o3,o4,p,ys,rfl,hq⟩
  have bag:∀ v∈([]:List V),Th p H6 190000 12 v:=fun _ h=>nomatch h
  have bag:∀ v∈(.non :: []),Th p H6 190000 12 v:=fun v hv=>(List.mem_cons.mp hv).elim (fun q=>q ▸ ⟨false,false,.inl rfl,((tv_non:Tv p H6 false false _ 0 _)).mono (by first | decide | decide +kernel | omega) (by decide)⟩) (bag v)
  have bag:∀ v∈(.int 0 :: (.non :: [])),Th p H6 190000 12 v:=fun v hv=>(List.mem_cons.mp hv).elim (fun q=>q ▸ ⟨false,false,.inl rfl,((tv_int (by decide):Tv p H6 false false _ 0 _)).mono (by first | decide | decide +kernel | omega) (by decide)⟩) (bag v)
  have bag:∀ v∈(.bl true :: (.int 0 :: (.non :: []))),Th p H6 190000 12 v:=fun v hv=>(List.mem_cons.mp hv).elim (fun q=>q ▸ ⟨false,false,.inl rfl,((tv_bl _:Tv p H6 false false _ 0 _)).mono (by first | decide | decide +kernel | omega) (by decide)⟩) (bag v)
  have bag:∀ v∈(.str (Str.ofString "") :: (.bl true :: (.int 0 :: (.non :: [])))),Th p H6 190000 12 v:=fun v hv=>(List.mem_cons.mp hv).elim (fun q=>q ▸ ⟨false,false,.inl rfl,((tv_str (by decide +kernel) (by decide +kernel):Tv p H6 false false _ 0 _)).mono (by first | decide | decide +kernel | omega) (by decide)⟩) (bag v)
  have bag:∀ v∈(.str (Str.ofString "a") :: (.str (Str.ofString "") :: (.bl true :: (.int 0 :: (.non :: []))))),Th p H6 190000 12 v:=fun v hv=>(List.mem_cons.mp hv).elim (fun q=>q ▸ ⟨false,false,.inl rfl,((tv_str (by decide +kernel) (by decide +kernel):Tv p H6 false false _ 0 _)).mono (by first | decide | decide +kernel | omega) (by decide)⟩) (bag v)
  refine ⟨ln 0,fun r1 hr1=>?_⟩
  have r1p:r1≠p:=(ne_of_none hq hr1).symm
  generalize hJ:upd H6 r1 _=J2
  have s3:Same H6 J2:=by rw [← hJ];exact (Same.refl H6).new hr1
  have g4:J2 r1=some (.lst []):=by rw [← hJ];exact upd_same
  clear hJ hr1
  have hq:=s3 _ _ hq
  have bag:=fun v hv=>(bag v hv).same s3
  have bag:∀ v∈(.ref r1 :: (.str (Str.ofString "a") :: (.str (Str.ofString "") :: (.bl true :: (.int 0 :: (.non :: [])))))),Th p J2 190000 12 v:=fun v hv=>(List.mem_cons.mp hv).elim (fun q=>q ▸ ⟨false,true,.inl rfl,(tv_lst (e:=0) g4 r1p Tl.nil).mono (by first | decide | decide +kernel | omega) (by decide)⟩) (bag v)
  refine ⟨ln 0,fun r5 hr5=>?_⟩
  have r5p:r5≠p:=(ne_of_none hq hr5).symm
  generalize hJ:upd J2 r5 _=J6
  have s7:Same J2 J6:=by rw [← hJ];exact (Same.refl J2).new hr5
  have g8:J6 r5=some (.tup []):=by rw [← hJ];exact upd_same
  clear hJ hr5
  have hq:=s7 _ _ hq
  have bag:=fun v hv=>(bag v hv).same s7
  have bag:∀ v∈(.ref r5 :: (.ref r1 :: (.str (Str.ofString "a") :: (.str (Str.ofString "") :: (.bl true :: (.int 0 :: (.non :: []))))))),Th p J6 190000 12 v:=fun v hv=>(List.mem_cons.mp hv).elim (fun q=>q ▸ ⟨false,false,.inl rfl,(tv_tup (e:=0) g8 r5p Tl.nil).mono (by first | decide | decide +kernel | omega) (by decide)⟩) (bag v)
  refine fun r9 hr9=>?_
  have r9p:r9≠p:=(ne_of_none hq hr9).symm
  generalize hJ:upd J6 r9 _=J10
  have s11:Same J6 J10:=by rw [← hJ];exact (Same.refl J6).new hr9
  have g12:J10 r9=some (.dK []):=by rw [← hJ];exact upd_same
  clear hJ hr9
  have hq:=s11 _ _ hq
  have bag:=fun v hv=>(bag v hv).same s11
  have bag:∀ v∈(.ref r9 :: (.ref r5 :: (.ref r1 :: (.str (Str.ofString "a") :: (.str (Str.ofString "") :: (.bl true :: (.int 0 :: (.non :: [])))))))),Th p J10 190000 12 v:=fun v hv=>(List.mem_cons.mp hv).elim (fun q=>q ▸ ⟨true,false,.inr rfl,(tv_dct0 (e:=0) g12 r9p).mono (by first | decide | decide +kernel | omega) (by decide)⟩) (bag v)
  refine ⟨ln 0,fun r13 hr13=>?_⟩
  have r13p:r13≠p:=(ne_of_none hq hr13).symm
  generalize hJ:upd J10 r13 _=J14
  have s15:Same J10 J14:=by rw [← hJ];exact (Same.refl J10).new hr13
  have g16:J14 r13=some (.tup []):=by rw [← hJ];exact upd_same
  clear hJ hr13
  have hq:=s15 _ _ hq
  have bag:=fun v hv=>(bag v hv).same s15
  refine ⟨ln 1,fun r17 hr17=>?_⟩
  have r17p:r17≠p:=(ne_of_none hq hr17).symm
  generalize hJ:upd J14 r17 _=J18
  have s19:Same J14 J18:=by rw [← hJ];exact (Same.refl J14).new hr17
  have g20:J18 r17=some (.tup [.ref r13]):=by rw [← hJ];exact upd_same
  clear hJ hr17
  have hq:=s19 _ _ hq
  have bag:=fun v hv=>(bag v hv).same s19
  have g16:=s19 _ _ g16
  have bag:∀ v∈(.ref r17 :: (.ref r9 :: (.ref r5 :: (.ref r1 :: (.str (Str.ofString "a") :: (.str (Str.ofString "") :: (.bl true :: (.int 0 :: (.non :: []))))))))),Th p J18 190000 12 v:=fun v hv=>(List.mem_cons.mp hv).elim (fun q=>q ▸ ⟨false,false,.inl rfl,(tv_tup (e:=1) g20 r17p (Tl.cons ((tv_tup (e:=0) g16 r13p Tl.nil).mono (Nat.le_refl _) (show 1≤1 by decide)) Tl.nil)).mono (by first | decide | decide +kernel | omega) (by decide)⟩) (bag v)
  refine ⟨ln 0,fun r21 hr21=>?_⟩
  have r21p:r21≠p:=(ne_of_none hq hr21).symm
  generalize hJ:upd J18 r21 _=J22
  have s23:Same J18 J22:=by rw [← hJ];exact (Same.refl J18).new hr21
  have g24:J22 r21=some (.tup []):=by rw [← hJ];exact upd_same
  clear hJ hr21
  have hq:=s23 _ _ hq
  have bag:=fun v hv=>(bag v hv).same s23
  refine ⟨ln 2,fun r25 hr25=>?_⟩
  have r25p:r25≠p:=(ne_of_none hq hr25).symm
  generalize hJ:upd J22 r25 _=J26
  have s27:Same J22 J26:=by rw [← hJ];exact (Same.refl J22).new hr25
  have g28:J26 r25=some (.tup [.str (Str.ofString "a"),.ref r21]):=by rw [← hJ];exact upd_same
  clear hJ hr25
  have hq:=s27 _ _ hq
  have bag:=fun v hv=>(bag v hv).same s27
  have g24:=s27 _ _ g24
  have bag:∀ v∈(.ref r25 :: (.ref r17 :: (.ref r9 :: (.ref r5 :: (.ref r1 :: (.str (Str.ofString "a") :: (.str (Str.ofString "") :: (.bl true :: (.int 0 :: (.non :: [])))))))))),Th p J26 190000 12 v:=fun v hv=>(List.mem_cons.mp hv).elim (fun q=>q ▸ ⟨false,false,.inl rfl,(tv_tup (e:=1) g28 r25p (Tl.cons (tv_str (by decide +kernel) (by decide +kernel)) (Tl.cons ((tv_tup (e:=0) g24 r21p Tl.nil).mono (Nat.le_refl _) (show 1≤1 by decide)) Tl.nil))).mono (by first | decide | decide +kernel | omega) (by decide)⟩) (bag v)
  refine ⟨ln 0,fun r29 hr29=>?_⟩
  have r29p:r29≠p:=(ne_of_none hq hr29).symm
  generalize hJ:upd J26 r29 _=J30
  have s31:Same J26 J30:=by rw [← hJ];exact (Same.refl J26).new hr29
  have g32:J30 r29=some (.tup []):=by rw [← hJ];exact upd_same
  clear hJ hr29
  have hq:=s31 _ _ hq
  have bag:=fun v hv=>(bag v hv).same s31
  refine ⟨ln 2,fun r33 hr33=>?_⟩
  have r33p:r33≠p:=(ne_of_none hq hr33).symm
  generalize hJ:upd J30 r33 _=J34
  have s35:Same J30 J34:=by rw [← hJ];exact (Same.refl J30).new hr33
  have g36:J34 r33=some (.tup [.str (Str.ofString "a"),.ref r29]):=by rw [← hJ];exact upd_same
  clear hJ hr33
  have hq:=s35 _ _ hq
  have bag:=fun v hv=>(bag v hv).same s35
  have g32:=s35 _ _ g32
  refine ⟨ln 1,fun r37 hr37=>?_⟩
  have r37p:r37≠p:=(ne_of_none hq hr37).symm
  generalize hJ:upd J34 r37 _=J38
  have s39:Same J34 J38:=by rw [← hJ];exact (Same.refl J34).new hr37
  have g40:J38 r37=some (.tup [.ref r33]):=by rw [← hJ];exact upd_same
  clear hJ hr37
  have hq:=s39 _ _ hq
  have bag:=fun v hv=>(bag v hv).same s39
  have g32:=s39 _ _ g32
  have g36:=s39 _ _ g36
  have bag:∀ v∈(.ref r37 :: (.ref r25 :: (.ref r17 :: (.ref r9 :: (.ref r5 :: (.ref r1 :: (.str (Str.ofString "a") :: (.str (Str.ofString "") :: (.bl true :: (.int 0 :: (.non :: []))))))))))),Th p J38 190000 12 v:=fun v hv=>(List.mem_cons.mp hv).elim (fun q=>q ▸ ⟨false,false,.inl rfl,(tv_tup (e:=2) g40 r37p (Tl.cons ((tv_tup (e:=1) g36 r33p (Tl.cons (tv_str (by decide +kernel) (by decide +kernel)) (Tl.cons ((tv_tup (e:=0) g32 r29p Tl.nil).mono (Nat.le_refl _) (show 1≤1 by decide)) Tl.nil))).mono (Nat.le_refl _) (show 2≤2 by decide)) Tl.nil)).mono (by first | decide | decide +kernel | omega) (by decide)⟩) (bag v)
  refine ⟨ln 1,fun r41 hr41=>?_⟩
  have r41p:r41≠p:=(ne_of_none hq hr41).symm
  generalize hJ:upd J38 r41 _=J42
  have s43:Same J38 J42:=by rw [← hJ];exact (Same.refl J38).new hr41
  have g44:J42 r41=some (.tup [.int 0]):=by rw [← hJ];exact upd_same
  clear hJ hr41
  have hq:=s43 _ _ hq
  have bag:=fun v hv=>(bag v hv).same s43
  refine ⟨ln 2,fun r45 hr45=>?_⟩
  have r45p:r45≠p:=(ne_of_none hq hr45).symm
  generalize hJ:upd J42 r45 _=J46
  have s47:Same J42 J46:=by rw [← hJ];exact (Same.refl J42).new hr45
  have g48:J46 r45=some (.tup [.str (Str.ofString "a"),.ref r41]):=by rw [← hJ];exact upd_same
  clear hJ hr45
  have hq:=s47 _ _ hq
  have bag:=fun v hv=>(bag v hv).same s47
  have g44:=s47 _ _ g44
  refine ⟨ln 1,fun r49 hr49=>?_⟩
  have r49p:r49≠p:=(ne_of_none hq hr49).symm
  generalize hJ:upd J46 r49 _=J50
  have s51:Same J46 J50:=by rw [← hJ];exact (Same.refl J46).new hr49
  have g52:J50 r49=some (.tup [.ref r45]):=by rw [← hJ];exact upd_same
  clear hJ hr49
  have hq:=s51 _ _ hq
  have bag:=fun v hv=>(bag v hv).same s51
  have g44:=s51 _ _ g44
  have g48:=s51 _ _ g48
  have bag:∀ v∈(.ref r49 :: (.ref r37 :: (.ref r25 :: (.ref r17 :: (.ref r9 :: (.ref r5 :: (.ref r1 :: (.str (Str.ofString "a") :: (.str (Str.ofString "") :: (.bl true :: (.int 0 :: (.non :: [])))))))))))),Th p J50 190000 12 v:=fun v hv=>(List.mem_cons.mp hv).elim (fun q=>q ▸ ⟨false,false,.inl rfl,(tv_tup (e:=2) g52 r49p (Tl.cons ((tv_tup (e:=1) g48 r45p (Tl.cons (tv_str (by decide +kernel) (by decide +kernel)) (Tl.cons ((tv_tup (e:=0) g44 r41p (Tl.cons (tv_int (by decide)) Tl.nil)).mono (Nat.le_refl _) (show 1≤1 by decide)) Tl.nil))).mono (Nat.le_refl _) (show 2≤2 by decide)) Tl.nil)).mono (by first | decide | decide +kernel | omega) (by decide)⟩) (bag v)
  refine ⟨ln 12,fun r53 hr53=>?_⟩
  have r53p:r53≠p:=(ne_of_none hq hr53).symm
  generalize hJ:upd J50 r53 _=J54
  have s55:Same J50 J54:=by rw [← hJ];exact (Same.refl J50).new hr53
  have g56:J54 r53=some (.lst [.non,.int 0,.bl true,.str (Str.ofString ""),.str (Str.ofString "a"),.ref r1,.ref r5,.ref r9,.ref r17,.ref r25,.ref r37,.ref r49]):=by rw [← hJ];exact upd_same
  clear hJ hr53
  have hq:=s55 _ _ hq
  have bag:=fun v hv=>(bag v hv).same s55
  refine ⟨_,rfl,?_⟩
  refine ⟨ln 0,fun r57 hr57=>?_⟩
  have r57p:r57≠p:=(ne_of_none hq hr57).symm
  generalize hJ:upd J54 r57 _=J58
  have s59:Same J54 J58:=by rw [← hJ];exact (Same.refl J54).new hr57
  have g60:J58 r57=some (.tup []):=by rw [← hJ];exact upd_same
  clear hJ hr57
  have hq:=s59 _ _ hq
  have bag:=fun v hv=>(bag v hv).same s59
  have g56:=s59 _ _ g56
  refine ⟨ln 2,fun r61 hr61=>?_⟩
  have r61p:r61≠p:=(ne_of_none hq hr61).symm
  generalize hJ:upd J58 r61 _=J62
  have s63:Same J58 J62:=by rw [← hJ];exact (Same.refl J58).new hr61
  have g64:J62 r61=some (.tup [.str (Str.ofString "a"),.ref r57]):=by rw [← hJ];exact upd_same
  clear hJ hr61
  have hq:=s63 _ _ hq
  have bag:=fun v hv=>(bag v hv).same s63
  have g56:=s63 _ _ g56
  have g60:=s63 _ _ g60
  refine ⟨ln 1,fun r65 hr65=>?_⟩
  have r65p:r65≠p:=(ne_of_none hq hr65).symm
  generalize hJ:upd J62 r65 _=J66
  have s67:Same J62 J66:=by rw [← hJ];exact (Same.refl J62).new hr65
  have g68:J66 r65=some (.tup [.int 0]):=by rw [← hJ];exact upd_same
  clear hJ hr65
  have hq:=s67 _ _ hq
  have bag:=fun v hv=>(bag v hv).same s67
  have g56:=s67 _ _ g56
  have g60:=s67 _ _ g60
  have g64:=s67 _ _ g64
  refine ⟨ln 2,fun r69 hr69=>?_⟩
  have r69p:r69≠p:=(ne_of_none hq hr69).symm
  generalize hJ:upd J66 r69 _=J70
  have s71:Same J66 J70:=by rw [← hJ];exact (Same.refl J66).new hr69
  have g72:J70 r69=some (.tup [.str (Str.ofString "b"),.ref r65]):=by rw [← hJ];exact upd_same
  clear hJ hr69
  have hq:=s71 _ _ hq
  have bag:=fun v hv=>(bag v hv).same s71
  have g56:=s71 _ _ g56
  have g60:=s71 _ _ g60
  have g64:=s71 _ _ g64
  have g68:=s71 _ _ g68
  refine ⟨ln 2,fun r73 hr73=>?_⟩
  have r73p:r73≠p:=(ne_of_none hq hr73).symm
  generalize hJ:upd J70 r73 _=J74
  have s75:Same J70 J74:=by rw [← hJ];exact (Same.refl J70).new hr73
  have g76:J74 r73=some (.tup [.ref r61,.ref r69]):=by rw [← hJ];exact upd_same
  clear hJ hr73
  have hq:=s75 _ _ hq
  have bag:=fun v hv=>(bag v hv).same s75
  have g56:=s75 _ _ g56
  have g60:=s75 _ _ g60
  have g64:=s75 _ _ g64
  have g68:=s75 _ _ g68
  have g72:=s75 _ _ g72
  have bag:∀ v∈(.ref r73 :: (.ref r49 :: (.ref r37 :: (.ref r25 :: (.ref r17 :: (.ref r9 :: (.ref r5 :: (.ref r1 :: (.str (Str.ofString "a") :: (.str (Str.ofString "") :: (.bl true :: (.int 0 :: (.non :: []))))))))))))),Th p J74 190000 12 v:=fun v hv=>(List.mem_cons.mp hv).elim (fun q=>q ▸ ⟨false,false,.inl rfl,(tv_tup (e:=2) g76 r73p (Tl.cons ((tv_tup (e:=1) g64 r61p (Tl.cons (tv_str (by decide +kernel) (by decide +kernel)) (Tl.cons ((tv_tup (e:=0) g60 r57p Tl.nil).mono (Nat.le_refl _) (show 1≤1 by decide)) Tl.nil))).mono (Nat.le_refl _) (show 2≤2 by decide)) (Tl.cons ((tv_tup (e:=1) g72 r69p (Tl.cons (tv_str (by decide +kernel) (by decide +kernel)) (Tl.cons ((tv_tup (e:=0) g68 r65p (Tl.cons (tv_int (by decide)) Tl.nil)).mono (Nat.le_refl _) (show 1≤1 by decide)) Tl.nil))).mono (Nat.le_refl _) (show 2≤2 by decide)) Tl.nil))).mono (by first | decide | decide +kernel | omega) (by decide)⟩) (bag v)
  refine ⟨ln 0,fun r77 hr77=>?_⟩
  have r77p:r77≠p:=(ne_of_none hq hr77).symm
  generalize hJ:upd J74 r77 _=J78
  have s79:Same J74 J78:=by rw [← hJ];exact (Same.refl J74).new hr77
  have g80:J78 r77=some (.tup []):=by rw [← hJ];exact upd_same
  clear hJ hr77
  have hq:=s79 _ _ hq
  have bag:=fun v hv=>(bag v hv).same s79
  have g56:=s79 _ _ g56
  refine ⟨ln 2,fun r81 hr81=>?_⟩
  have r81p:r81≠p:=(ne_of_none hq hr81).symm
  generalize hJ:upd J78 r81 _=J82
  have s83:Same J78 J82:=by rw [← hJ];exact (Same.refl J78).new hr81
  have g84:J82 r81=some (.tup [.str (Str.ofString "a"),.ref r77]):=by rw [← hJ];exact upd_same
  clear hJ hr81
  have hq:=s83 _ _ hq
  have bag:=fun v hv=>(bag v hv).same s83
  have g56:=s83 _ _ g56
  have g80:=s83 _ _ g80
  refine ⟨ln 1,fun r85 hr85=>?_⟩
  have r85p:r85≠p:=(ne_of_none hq hr85).symm
  generalize hJ:upd J82 r85 _=J86
  have s87:Same J82 J86:=by rw [← hJ];exact (Same.refl J82).new hr85
  have g88:J86 r85=some (.tup [.int 1]):=by rw [← hJ];exact upd_same
  clear hJ hr85
  have hq:=s87 _ _ hq
  have bag:=fun v hv=>(bag v hv).same s87
  have g56:=s87 _ _ g56
  have g80:=s87 _ _ g80
  have g84:=s87 _ _ g84
  refine ⟨ln 2,fun r89 hr89=>?_⟩
  have r89p:r89≠p:=(ne_of_none hq hr89).symm
  generalize hJ:upd J86 r89 _=J90
  have s91:Same J86 J90:=by rw [← hJ];exact (Same.refl J86).new hr89
  have g92:J90 r89=some (.tup [.str (Str.ofString "b"),.ref r85]):=by rw [← hJ];exact upd_same
  clear hJ hr89
  have hq:=s91 _ _ hq
  have bag:=fun v hv=>(bag v hv).same s91
  have g56:=s91 _ _ g56
  have g80:=s91 _ _ g80
  have g84:=s91 _ _ g84
  have g88:=s91 _ _ g88
  refine ⟨ln 2,fun r93 hr93=>?_⟩
  have r93p:r93≠p:=(ne_of_none hq hr93).symm
  generalize hJ:upd J90 r93 _=J94
  have s95:Same J90 J94:=by rw [← hJ];exact (Same.refl J90).new hr93
  have g96:J94 r93=some (.tup [.ref r81,.ref r89]):=by rw [← hJ];exact upd_same
  clear hJ hr93
  have hq:=s95 _ _ hq
  have bag:=fun v hv=>(bag v hv).same s95
  have g56:=s95 _ _ g56
  have g80:=s95 _ _ g80
  have g84:=s95 _ _ g84
  have g88:=s95 _ _ g88
  have g92:=s95 _ _ g92
  have bag:∀ v∈(.ref r93 :: (.ref r73 :: (.ref r49 :: (.ref r37 :: (.ref r25 :: (.ref r17 :: (.ref r9 :: (.ref r5 :: (.ref r1 :: (.str (Str.ofString "a") :: (.str (Str.ofString "") :: (.bl true :: (.int 0 :: (.non :: [])))))))))))))),Th p J94 190000 12 v:=fun v hv=>(List.mem_cons.mp hv).elim (fun q=>q ▸ ⟨false,false,.inl rfl,(tv_tup (e:=2) g96 r93p (Tl.cons ((tv_tup (e:=1) g84 r81p (Tl.cons (tv_str (by decide +kernel) (by decide +kernel)) (Tl.cons ((tv_tup (e:=0) g80 r77p Tl.nil).mono (Nat.le_refl _) (show 1≤1 by decide)) Tl.nil))).mono (Nat.le_refl _) (show 2≤2 by decide)) (Tl.cons ((tv_tup (e:=1) g92 r89p (Tl.cons (tv_str (by decide +kernel) (by decide +kernel)) (Tl.cons ((tv_tup (e:=0) g88 r85p (Tl.cons (tv_int (by decide)) Tl.nil)).mono (Nat.le_refl _) (show 1≤1 by decide)) Tl.nil))).mono (Nat.le_refl _) (show 2≤2 by decide)) Tl.nil))).mono (by first | decide | decide +kernel | omega) (by decide)⟩) (bag v)
  refine ⟨ln 0,fun r97 hr97=>?_⟩
  have r97p:r97≠p:=(ne_of_none hq hr97).symm
  generalize hJ:upd J94 r97 _=J98
  have s99:Same J94 J98:=by rw [← hJ];exact (Same.refl J94).new hr97
  have g100:J98 r97=some (.tup []):=by rw [← hJ];exact upd_same
  clear hJ hr97
  have hq:=s99 _ _ hq
  have bag:=fun v hv=>(bag v hv).same s99
  have g56:=s99 _ _ g56
  refine ⟨ln 2,fun r101 hr101=>?_⟩
  have r101p:r101≠p:=(ne_of_none hq hr101).symm
  generalize hJ:upd J98 r101 _=J102
  have s103:Same J98 J102:=by rw [← hJ];exact (Same.refl J98).new hr101
  have g104:J102 r101=some (.tup [.str (Str.ofString "a"),.ref r97]):=by rw [← hJ];exact upd_same
  clear hJ hr101
  have hq:=s103 _ _ hq
  have bag:=fun v hv=>(bag v hv).same s103
  have g56:=s103 _ _ g56
  have g100:=s103 _ _ g100
  refine ⟨ln 1,fun r105 hr105=>?_⟩
  have r105p:r105≠p:=(ne_of_none hq hr105).symm
  generalize hJ:upd J102 r105 _=J106
  have s107:Same J102 J106:=by rw [← hJ];exact (Same.refl J102).new hr105
  have g108:J106 r105=some (.tup [.ref r101]):=by rw [← hJ];exact upd_same
  clear hJ hr105
  have hq:=s107 _ _ hq
  have bag:=fun v hv=>(bag v hv).same s107
  have g56:=s107 _ _ g56
  have g100:=s107 _ _ g100
  have g104:=s107 _ _ g104
  refine ⟨r105,60,.ref r101,rfl,rfl,SqT.of g108,.inr (by decide),by decide,fun r109 hr109=>?_⟩
  have r109p:r109≠p:=(ne_of_none hq hr109).symm
  generalize hJ:upd J106 r109 _=J110
  have s111:Same J106 J110:=by rw [← hJ];exact (Same.refl J106).new hr109
  have g112:J110 r109=some (.tup (List.replicate 60 (.ref r101))):=by rw [← hJ];exact upd_same
  clear hJ hr109
  have hq:=s111 _ _ hq
  have bag:=fun v hv=>(bag v hv).same s111
  have g56:=s111 _ _ g56
  have g100:=s111 _ _ g100
  have g104:=s111 _ _ g104
  have g108:=s111 _ _ g108
  have tar101:Tv p J110 false false 10 2 (.ref r101):=(tv_tup (e:=1) g104 r101p (Tl.cons (tv_str (by decide +kernel) (by decide +kernel)) (Tl.cons (tv_tup (e:=0) g100 r97p Tl.nil) Tl.nil))).mono (by decide +kernel) (by decide)
  have bag:∀ v∈(.ref r109 :: (.ref r93 :: (.ref r73 :: (.ref r49 :: (.ref r37 :: (.ref r25 :: (.ref r17 :: (.ref r9 :: (.ref r5 :: (.ref r1 :: (.str (Str.ofString "a") :: (.str (Str.ofString "") :: (.bl true :: (.int 0 :: (.non :: []))))))))))))))),Th p J110 190000 12 v:=fun v hv=>(List.mem_cons.mp hv).elim (fun q=>q ▸ ⟨false,false,.inl rfl,(tv_tup g112 r109p (Tl.all_le (n:=60) (fun x hx=>by rw [(List.mem_replicate.mp hx).2];exact tar101) (by rw [List.length_replicate];exact Nat.le_refl _))).mono (by first | decide | decide +kernel | omega) (by decide)⟩) (bag v)
  refine ⟨ln 0,fun r113 hr113=>?_⟩
  have r113p:r113≠p:=(ne_of_none hq hr113).symm
  generalize hJ:upd J110 r113 _=J114
  have s115:Same J110 J114:=by rw [← hJ];exact (Same.refl J110).new hr113
  have g116:J114 r113=some (.tup []):=by rw [← hJ];exact upd_same
  clear hJ hr113
  have hq:=s115 _ _ hq
  have bag:=fun v hv=>(bag v hv).same s115
  have g56:=s115 _ _ g56
  refine ⟨ln 2,fun r117 hr117=>?_⟩
  have r117p:r117≠p:=(ne_of_none hq hr117).symm
  generalize hJ:upd J114 r117 _=J118
  have s119:Same J114 J118:=by rw [← hJ];exact (Same.refl J114).new hr117
  have g120:J118 r117=some (.tup [.str (Str.ofString "a"),.ref r113]):=by rw [← hJ];exact upd_same
  clear hJ hr117
  have hq:=s119 _ _ hq
  have bag:=fun v hv=>(bag v hv).same s119
  have g56:=s119 _ _ g56
  have g116:=s119 _ _ g116
  refine ⟨ln 1,fun r121 hr121=>?_⟩
  have r121p:r121≠p:=(ne_of_none hq hr121).symm
  generalize hJ:upd J118 r121 _=J122
  have s123:Same J118 J122:=by rw [← hJ];exact (Same.refl J118).new hr121
  have g124:J122 r121=some (.tup [.ref r117]):=by rw [← hJ];exact upd_same
  clear hJ hr121
  have hq:=s123 _ _ hq
  have bag:=fun v hv=>(bag v hv).same s123
  have g56:=s123 _ _ g56
  have g116:=s123 _ _ g116
  have g120:=s123 _ _ g120
  refine ⟨r121,61,.ref r117,rfl,rfl,SqT.of g124,.inr (by decide),by decide,fun r125 hr125=>?_⟩
  have r125p:r125≠p:=(ne_of_none hq hr125).symm
  generalize hJ:upd J122 r125 _=J126
  have s127:Same J122 J126:=by rw [← hJ];exact (Same.refl J122).new hr125
  have g128:J126 r125=some (.tup (List.replicate 61 (.ref r117))):=by rw [← hJ];exact upd_same
  clear hJ hr125
  have hq:=s127 _ _ hq
  have bag:=fun v hv=>(bag v hv).same s127
  have g56:=s127 _ _ g56
  have g116:=s127 _ _ g116
  have g120:=s127 _ _ g120
  have g124:=s127 _ _ g124
  have tar117:Tv p J126 false false 10 2 (.ref r117):=(tv_tup (e:=1) g120 r117p (Tl.cons (tv_str (by decide +kernel) (by decide +kernel)) (Tl.cons (tv_tup (e:=0) g116 r113p Tl.nil) Tl.nil))).mono (by decide +kernel) (by decide)
  have bag:∀ v∈(.ref r125 :: (.ref r109 :: (.ref r93 :: (.ref r73 :: (.ref r49 :: (.ref r37 :: (.ref r25 :: (.ref r17 :: (.ref r9 :: (.ref r5 :: (.ref r1 :: (.str (Str.ofString "a") :: (.str (Str.ofString "") :: (.bl true :: (.int 0 :: (.non :: [])))))))))))))))),Th p J126 190000 12 v:=fun v hv=>(List.mem_cons.mp hv).elim (fun q=>q ▸ ⟨false,false,.inl rfl,(tv_tup g128 r125p (Tl.all_le (n:=61) (fun x hx=>by rw [(List.mem_replicate.mp hx).2];exact tar117) (by rw [List.length_replicate];exact Nat.le_refl _))).mono (by first | decide | decide +kernel | omega) (by decide)⟩) (bag v)
  refine ⟨ln 4,fun r129 hr129=>?_⟩
  have r129p:r129≠p:=(ne_of_none hq hr129).symm
  generalize hJ:upd J126 r129 _=J130
  have s131:Same J126 J130:=by rw [← hJ];exact (Same.refl J126).new hr129
  have g132:J130 r129=some (.lst [.ref r73,.ref r93,.ref r109,.ref r125]):=by rw [← hJ];exact upd_same
  clear hJ hr129
  have hq:=s131 _ _ hq
  have bag:=fun v hv=>(bag v hv).same s131
  have g56:=s131 _ _ g56
  refine ⟨r53,r129,_,_,rfl,rfl,g56,g132,ln 16,fun r133 hr133=>?_⟩
  have r133p:r133≠p:=(ne_of_none hq hr133).symm
  generalize hJ:upd J130 r133 _=J134
  have s135:Same J130 J134:=by rw [← hJ];exact (Same.refl J130).new hr133
  have g136:J134 r133=some (.lst ([.non,.int 0,.bl true,.str (Str.ofString ""),.str (Str.ofString "a"),.ref r1,.ref r5,.ref r9,.ref r17,.ref r25,.ref r37,.ref r49]++[.ref r73,.ref r93,.ref r109,.ref r125])):=by rw [← hJ];exact upd_same
  clear hJ hr133
  have hq:=s135 _ _ hq
  have bag:=fun v hv=>(bag v hv).same s135
  have g56:=s135 _ _ g56
  have g132:=s135 _ _ g132
  refine ⟨_,rfl,?_⟩
  refine ⟨ln 0,fun r137 hr137=>?_⟩
  have r137p:r137≠p:=(ne_of_none hq hr137).symm
  generalize hJ:upd J134 r137 _=J138
  have s139:Same J134 J138:=by rw [← hJ];exact (Same.refl J134).new hr137
  have g140:J138 r137=some (.tup []):=by rw [← hJ];exact upd_same
  clear hJ hr137
  have hq:=s139 _ _ hq
  have bag:=fun v hv=>(bag v hv).same s139
  have g136:=s139 _ _ g136
  refine ⟨ln 2,fun r141 hr141=>?_⟩
  have r141p:r141≠p:=(ne_of_none hq hr141).symm
  generalize hJ:upd J138 r141 _=J142
  have s143:Same J138 J142:=by rw [← hJ];exact (Same.refl J138).new hr141
  have g144:J142 r141=some (.tup [.str (Str.ofString "a"),.ref r137]):=by rw [← hJ];exact upd_same
  clear hJ hr141
  have hq:=s143 _ _ hq
  have bag:=fun v hv=>(bag v hv).same s143
  have g136:=s143 _ _ g136
  have g140:=s143 _ _ g140
  refine ⟨ln 1,fun r145 hr145=>?_⟩
  have r145p:r145≠p:=(ne_of_none hq hr145).symm
  generalize hJ:upd J142 r145 _=J146
  have s147:Same J142 J146:=by rw [← hJ];exact (Same.refl J142).new hr145
  have g148:J146 r145=some (.lst [.ref r141]):=by rw [← hJ];exact upd_same
  clear hJ hr145
  have hq:=s147 _ _ hq
  have bag:=fun v hv=>(bag v hv).same s147
  have g136:=s147 _ _ g136
  have g140:=s147 _ _ g140
  have g144:=s147 _ _ g144
  have bag:∀ v∈(.ref r145 :: (.ref r125 :: (.ref r109 :: (.ref r93 :: (.ref r73 :: (.ref r49 :: (.ref r37 :: (.ref r25 :: (.ref r17 :: (.ref r9 :: (.ref r5 :: (.ref r1 :: (.str (Str.ofString "a") :: (.str (Str.ofString "") :: (.bl true :: (.int 0 :: (.non :: []))))))))))))))))),Th p J146 190000 12 v:=fun v hv=>(List.mem_cons.mp hv).elim (fun q=>q ▸ ⟨false,true,.inl rfl,(tv_lst (e:=2) g148 r145p (Tl.cons ((tv_tup (e:=1) g144 r141p (Tl.cons (tv_str (by decide +kernel) (by decide +kernel)) (Tl.cons ((tv_tup (e:=0) g140 r137p Tl.nil).mono (Nat.le_refl _) (show 1≤1 by decide)) Tl.nil))).mono (Nat.le_refl _) (show 2≤2 by decide)) Tl.nil)).mono (by first | decide | decide +kernel | omega) (by decide)⟩) (bag v)
  refine ⟨ln 0,fun r149 hr149=>?_⟩
  have r149p:r149≠p:=(ne_of_none hq hr149).symm
  generalize hJ:upd J146 r149 _=J150
  have s151:Same J146 J150:=by rw [← hJ];exact (Same.refl J146).new hr149
  have g152:J150 r149=some (.tup []):=by rw [← hJ];exact upd_same
  clear hJ hr149
  have hq:=s151 _ _ hq
  have bag:=fun v hv=>(bag v hv).same s151
  have g136:=s151 _ _ g136
  refine ⟨ln 1,fun r153 hr153=>?_⟩
  have r153p:r153≠p:=(ne_of_none hq hr153).symm
  generalize hJ:upd J150 r153 _=J154
  have s155:Same J150 J154:=by rw [← hJ];exact (Same.refl J150).new hr153
  have g156:J154 r153=some (.tup [.ref r149]):=by rw [← hJ];exact upd_same
  clear hJ hr153
  have hq:=s155 _ _ hq
  have bag:=fun v hv=>(bag v hv).same s155
  have g136:=s155 _ _ g136
  have g152:=s155 _ _ g152
  refine ⟨ln 1,fun r157 hr157=>?_⟩
  have r157p:r157≠p:=(ne_of_none hq hr157).symm
  generalize hJ:upd J154 r157 _=J158
  have s159:Same J154 J158:=by rw [← hJ];exact (Same.refl J154).new hr157
  have g160:J158 r157=some (.tup [.ref r153]):=by rw [← hJ];exact upd_same
  clear hJ hr157
  have hq:=s159 _ _ hq
  have bag:=fun v hv=>(bag v hv).same s159
  have g136:=s159 _ _ g136
  have g152:=s159 _ _ g152
  have g156:=s159 _ _ g156
  refine ⟨ln 1,fun r161 hr161=>?_⟩
  have r161p:r161≠p:=(ne_of_none hq hr161).symm
  generalize hJ:upd J158 r161 _=J162
  have s163:Same J158 J162:=by rw [← hJ];exact (Same.refl J158).new hr161
  have g164:J162 r161=some (.tup [.ref r157]):=by rw [← hJ];exact upd_same
  clear hJ hr161
  have hq:=s163 _ _ hq
  have bag:=fun v hv=>(bag v hv).same s163
  have g136:=s163 _ _ g136
  have g152:=s163 _ _ g152
  have g156:=s163 _ _ g156
  have g160:=s163 _ _ g160
  refine ⟨ln 1,fun r165 hr165=>?_⟩
  have r165p:r165≠p:=(ne_of_none hq hr165).symm
  generalize hJ:upd J162 r165 _=J166
  have s167:Same J162 J166:=by rw [← hJ];exact (Same.refl J162).new hr165
  have g168:J166 r165=some (.tup [.ref r161]):=by rw [← hJ];exact upd_same
  clear hJ hr165
  have hq:=s167 _ _ hq
  have bag:=fun v hv=>(bag v hv).same s167
  have g136:=s167 _ _ g136
  have g152:=s167 _ _ g152
  have g156:=s167 _ _ g156
  have g160:=s167 _ _ g160
  have g164:=s167 _ _ g164
  refine ⟨ln 1,fun r169 hr169=>?_⟩
  have r169p:r169≠p:=(ne_of_none hq hr169).symm
  generalize hJ:upd J166 r169 _=J170
  have s171:Same J166 J170:=by rw [← hJ];exact (Same.refl J166).new hr169
  have g172:J170 r169=some (.tup [.ref r165]):=by rw [← hJ];exact upd_same
  clear hJ hr169
  have hq:=s171 _ _ hq
  have bag:=fun v hv=>(bag v hv).same s171
  have g136:=s171 _ _ g136
  have g152:=s171 _ _ g152
  have g156:=s171 _ _ g156
  have g160:=s171 _ _ g160
  have g164:=s171 _ _ g164
  have g168:=s171 _ _ g168
  refine ⟨ln 1,fun r173 hr173=>?_⟩
  have r173p:r173≠p:=(ne_of_none hq hr173).symm
  generalize hJ:upd J170 r173 _=J174
  have s175:Same J170 J174:=by rw [← hJ];exact (Same.refl J170).new hr173
  have g176:J174 r173=some (.tup [.ref r169]):=by rw [← hJ];exact upd_same
  clear hJ hr173
  have hq:=s175 _ _ hq
  have bag:=fun v hv=>(bag v hv).same s175
  have g136:=s175 _ _ g136
  have g152:=s175 _ _ g152
  have g156:=s175 _ _ g156
  have g160:=s175 _ _ g160
  have g164:=s175 _ _ g164
  have g168:=s175 _ _ g168
  have g172:=s175 _ _ g172
  refine ⟨ln 1,fun r177 hr177=>?_⟩
  have r177p:r177≠p:=(ne_of_none hq hr177).symm
  generalize hJ:upd J174 r177 _=J178
  have s179:Same J174 J178:=by rw [← hJ];exact (Same.refl J174).new hr177
  have g180:J178 r177=some (.tup [.ref r173]):=by rw [← hJ];exact upd_same
  clear hJ hr177
  have hq:=s179 _ _ hq
  have bag:=fun v hv=>(bag v hv).same s179
  have g136:=s179 _ _ g136
  have g152:=s179 _ _ g152
  have g156:=s179 _ _ g156
  have g160:=s179 _ _ g160
  have g164:=s179 _ _ g164
  have g168:=s179 _ _ g168
  have g172:=s179 _ _ g172
  have g176:=s179 _ _ g176
  have bag:∀ v∈(.ref r177 :: (.ref r145 :: (.ref r125 :: (.ref r109 :: (.ref r93 :: (.ref r73 :: (.ref r49 :: (.ref r37 :: (.ref r25 :: (.ref r17 :: (.ref r9 :: (.ref r5 :: (.ref r1 :: (.str (Str.ofString "a") :: (.str (Str.ofString "") :: (.bl true :: (.int 0 :: (.non :: [])))))))))))))))))),Th p J178 190000 12 v:=fun v hv=>(List.mem_cons.mp hv).elim (fun q=>q ▸ ⟨false,false,.inl rfl,(tv_tup (e:=7) g180 r177p (Tl.cons ((tv_tup (e:=6) g176 r173p (Tl.cons ((tv_tup (e:=5) g172 r169p (Tl.cons ((tv_tup (e:=4) g168 r165p (Tl.cons ((tv_tup (e:=3) g164 r161p (Tl.cons ((tv_tup (e:=2) g160 r157p (Tl.cons ((tv_tup (e:=1) g156 r153p (Tl.cons ((tv_tup (e:=0) g152 r149p Tl.nil).mono (Nat.le_refl _) (show 1≤1 by decide)) Tl.nil)).mono (Nat.le_refl _) (show 2≤2 by decide)) Tl.nil)).mono (Nat.le_refl _) (show 3≤3 by decide)) Tl.nil)).mono (Nat.le_refl _) (show 4≤4 by decide)) Tl.nil)).mono (Nat.le_refl _) (show 5≤5 by decide)) Tl.nil)).mono (Nat.le_refl _) (show 6≤6 by decide)) Tl.nil)).mono (Nat.le_refl _) (show 7≤7 by decide)) Tl.nil)).mono (by first | decide | decide +kernel | omega) (by decide)⟩) (bag v)
  refine ⟨ln 2,fun r181 hr181=>?_⟩
  have r181p:r181≠p:=(ne_of_none hq hr181).symm
  generalize hJ:upd J178 r181 _=J182
  have s183:Same J178 J182:=by rw [← hJ];exact (Same.refl J178).new hr181
  have g184:J182 r181=some (.lst [.ref r145,.ref r177]):=by rw [← hJ];exact upd_same
  clear hJ hr181
  have hq:=s183 _ _ hq
  have bag:=fun v hv=>(bag v hv).same s183
  have g136:=s183 _ _ g136
  refine ⟨r133,r181,_,_,rfl,rfl,g136,g184,ln 18,fun r185 hr185=>?_⟩
  have r185p:r185≠p:=(ne_of_none hq hr185).symm
  generalize hJ:upd J182 r185 _=J186
  have s187:Same J182 J186:=by rw [← hJ];exact (Same.refl J182).new hr185
  have g188:J186 r185=some (.lst ([.non,.int 0,.bl true,.str (Str.ofString ""),.str (Str.ofString "a"),.ref r1,.ref r5,.ref r9,.ref r17,.ref r25,.ref r37,.ref r49]++[.ref r73,.ref r93,.ref r109,.ref r125]++[.ref r145,.ref r177])):=by rw [← hJ];exact upd_same
  clear hJ hr185
  have hq:=s187 _ _ hq
  have bag:=fun v hv=>(bag v hv).same s187
  have g136:=s187 _ _ g136
  have g184:=s187 _ _ g184
  have bagA:∀ v∈([.non,.int 0,.bl true,.str (Str.ofString ""),.str (Str.ofString "a"),.ref r1,.ref r5,.ref r9,.ref r17,.ref r25,.ref r37,.ref r49]++[.ref r73,.ref r93,.ref r109,.ref r125]++[.ref r145,.ref r177]:List V),Th p J186 190000 12 v:=fun v hv=>bag v (by
    simp only [List.mem_append,List.mem_cons,List.not_mem_nil,or_false] at hv ⊢
    simp only [or_comm,or_left_comm,or_assoc] at hv ⊢
    exact hv)
  have l18:([.non,.int 0,.bl true,.str (Str.ofString ""),.str (Str.ofString "a"),.ref r1,.ref r5,.ref r9,.ref r17,.ref r25,.ref r37,.ref r49]++[.ref r73,.ref r93,.ref r109,.ref r125]++[.ref r145,.ref r177]:List V).length=18:=rfl
  have gl:=g188
  generalize ([.non,.int 0,.bl true,.str (Str.ofString ""),.str (Str.ofString "a"),.ref r1,.ref r5,.ref r9,.ref r17,.ref r25,.ref r37,.ref r49]++[.ref r73,.ref r93,.ref r109,.ref r125]++[.ref r145,.ref r177]:List V)=ths at gl bagA l18
  refine ⟨_,rfl,r185,rfl,⟨_,SqL.of gl⟩,fun acc hacc=>?_⟩
  refine comp_lst (K:=K) (a:=r185) (xs:=ths) (by omega) (fun j ys HX=>HX acc=some (.lst ys)∧ys=[]∧Same J186 HX)
    (fun j ys HX h=>SqL.of (h.2.2 _ _ gl)) (fun j ys HX h=>⟨h.1,by rw [h.2.1];exact Nat.zero_le _⟩) ⟨upd_same,rfl,(Same.refl J186).new hacc⟩ ?_ ?_
  · rintro ys HX ⟨g1,rfl,g3⟩
    refine ⟨ln 0,fun nl hnl=>?_⟩
    refine ⟨acc,nl,[],rfl,rfl,SqL.of (by rw [upd_ne (ne_of_none g1 hnl)];exact g1),SqL.of upd_same,?_⟩
    exact q _
  · rintro j x ys HX hx ⟨g1,rfl,g3⟩
    obtain ⟨d,td,sh,ft⟩:=((bagA x (List.mem_of_getElem? hx)).same g3).ask (by decide) (by decide)
    refine ⟨rfl,_,rfl,x,d,rfl,td,sh,ft,fun H9 s9=>?_⟩
    exact ⟨_,rfl,iteF ⟨s9 _ _ g1,rfl,g3.trans s9⟩⟩
end
end S46
namespace S46
open PySem L2 W7
theorem df_mk {K:PySem.W.Frag} {h:Heap} {mg:Str→Option Value} {x:Str} {st:Stmt} {f:Addr} {oc:Value} {od an:Option Addr} {osl:Array (Option Value)} {kV doc pm cdv ct:Value} (X:K.In h) (G:h.Ns mainGlobals mg)
    (a:PySem.W.nsIn K mainGlobals x=some (some (.ref f))) (l:K.lookup f=some ⟨oc,od,.func (PySem.W.fnOf x x (defArgs st) (defBody st) (defScope st) .none kV doc pm an cdv ct),osl⟩) (c:PySem.W.codeIn K cdv x=true) (kk:PySem.W.keepIn K (.ref f)=true):Df K mg x st:=
  ⟨f,_,fun_mk l c kk,PySem.W.mg_of X G a⟩
theorem blt_mk {K:PySem.W.Frag} {h:Heap} {mg:Str→Option Value} (X:K.In h) (G:h.Ns mainGlobals mg)
    (z1:PySem.W.nsIn K mainGlobals "len" = some none) (z2:PySem.W.nsIn K mainGlobals "range" = some none) (z3:PySem.W.nsIn K mainGlobals "zip" = some none) (z4:PySem.W.nsIn K mainGlobals "enumerate" = some none)
    (z5:PySem.W.nsIn K mainGlobals "max" = some none) (z6:PySem.W.nsIn K mainGlobals "min" = some none) (z7:PySem.W.nsIn K mainGlobals "int" = some none) (z8:PySem.W.nsIn K mainGlobals "str" = some none)
    (z9:PySem.W.nsIn K mainGlobals "bool" = some none) (z10:PySem.W.nsIn K mainGlobals "list" = some none) (z11:PySem.W.nsIn K mainGlobals "tuple" = some none) (z12:PySem.W.nsIn K mainGlobals "isinstance" = some none):Blt mg:=
  ⟨PySem.W.mg_none_of X G z1,PySem.W.mg_none_of X G z2,PySem.W.mg_none_of X G z3,PySem.W.mg_none_of X G z4,PySem.W.mg_none_of X G z5,PySem.W.mg_none_of X G z6,PySem.W.mg_none_of X G z7,PySem.W.mg_none_of X G z8,
    PySem.W.mg_none_of X G z9,PySem.W.mg_none_of X G z10,PySem.W.mg_none_of X G z11,PySem.W.mg_none_of X G z12⟩
theorem all_ok {P:Program} {w:World} {K:PySem.W.Frag} {mg:Str→Option Value} {fa:Addr} (hfa:mg "law" = some (.ref fa)) (B:Blt7 mg)
    (d1:Df K mg "is_whole" s_is_whole) (d2:Df K mg "is_number_below" s_is_number_below) (d3:Df K mg "is_letters" s_is_letters) (d4:Df K mg "is_letter" s_is_letter) (d5:Df K mg "is_net" s_is_net) (d6:Df K mg "is_knot" s_is_knot) (d7:Df K mg "_law_store" s_law_store) (d8:Df K mg "_law_draw" s_law_draw) (d9:Df K mg "_law_net" s_law_net) (d10:Df K mg "_law_whole" s_law_whole) (d11:Df K mg "_law_is_net" s_law_is_net) (d12:Df K mg "_law_bent" s_law_bent) (d13:Df K mg "_law_right" s_law_right) (d14:Df K mg "law" s_law) :
    ∃ fd:FuncData,(∀ (s:Shared) (v:Value),BindsTo s fd ⟨[v],[]⟩ [("script", v)])∧∀ base:Heap,FnOk P w K mg base CX0 12 fa fd ["script"] (sp_law K):=by
  obtain ⟨f,fd,F,m⟩:=d14
  have e:=hfa.symm.trans m
  cases e
  refine ⟨fd,?_,fun base=>?_⟩
  · obtain ⟨oc,od,kV,doc,pm,an,cdv,ct,osl,rfl,_,_⟩:=F.ex
    exact fun s v=>.of_eq rfl
  have g_store:=has_store (P:=P) (w:=w) (base:=base) (k:=0) d7 B
  have g_draw:=has_draw (P:=P) (w:=w) (base:=base) (k:=0) d8 B
  have g_net:=has_net (k:=1) d9 B g_draw
  have g_whole:=has_wholeT (P:=P) (w:=w) (base:=base) (k:=0) d1 B
  have g_below:=has_belowT (k:=1) d2 B g_whole
  have g_letters:=has_lettersT (P:=P) (w:=w) (base:=base) (k:=0) d3 B
  have g_one:=has_oneT (k:=1) d4 B g_letters
  have g_knot:=has_knotT (k:=2) d6 B g_one g_below
  have g_isnet:=has_netT (k:=3) d5 B g_knot
  have g_lwhole:=has_lwholeT (P:=P) (w:=w) (base:=base) (k:=0) d10 B
  have g_lnet:=has_lnetT (k:=1) d11 B g_lwhole
  have g_right:=has_rightT (k:=4) d13 B (g_lnet.mono (by decide)) g_isnet
  have g_bent:=has_bent (k:=1) d12 B g_draw
  exact (ok_law (k:=5) F B (g_store.mono (by decide)) (g_net.mono (by decide)) (g_isnet.mono (by decide)) (g_bent.mono (by decide)) g_right).mono (by decide)
end S46
open PySem PySem.W PyProof.Rows
set_option maxRecDepth 100000 in
set_option maxHeartbeats 0 in
theorem PySem.Challenge.cw_upwords_k46_what_is_a_net_holds : PySem.Challenge.rw_upwords_k46_what_is_a_net.Holds := by
  w_on; o_law; k_head; (case hw => w_witness2)
  k_fill
  refine L2.walk_ofK (l := PySem.Challenge.rw_upwords_k46_what_is_a_net) (n := 63) (k := 12) (x := "script") (CX := L2.CX0) (sp := S46.sp_law) rfl (by decide) rfl ⟨rfl, by decide, by decide, rfl⟩ (fun w h Y => PySem.W.kIn_of Y) ?F
    (fun K H a ns hl _ hS => ⟨a, ns, rfl, hS, hl, fun _ => rfl⟩) (fun _ _ _ _ z => z)
  case F =>
    intro w mg fa h KX G hmg
    have B : L2.Blt mg := by
      refine' S46.blt_mk KX G ?z1 ?z2 ?z3 ?z4 ?z5 ?z6 ?z7 ?z8 ?z9 ?z10 ?z11 ?z12
      (case z1 => k_is); (case z2 => k_is); (case z3 => k_is); (case z4 => k_is); (case z5 => k_is); (case z6 => k_is); (case z7 => k_is); (case z8 => k_is); (case z9 => k_is); (case z10 => k_is); (case z11 => k_is); (case z12 => k_is)
    have Bx0 : mg "all" = none := by
      refine' PySem.W.mg_none_of KX G ?z
      (case z => k_is)
    have Bx1 : mg "repr" = none := by
      refine' PySem.W.mg_none_of KX G ?z
      (case z => k_is)
    have Bx2 : ∃ u, mg "LETTERS" = some u ∧ L2.RelV (.str "abcdefghijklmnopqrstuvwxyz") u := by
      refine' ⟨_, PySem.W.mg_of KX G ?z, ?r⟩
      (case z => k_is)
      (case r => exact ⟨_, rfl⟩)
    have Bx3 : ∃ u, mg "MOST_KNOTS" = some u ∧ L2.RelV (.int 60) u := by
      refine' ⟨_, PySem.W.mg_of KX G ?z, ?r⟩
      (case z => k_is)
      (case r => exact ⟨_, rfl⟩)
    have Bx4 : ∃ u, mg "MOST_BENEATH" = some u ∧ L2.RelV (.int 60) u := by
      refine' ⟨_, PySem.W.mg_of KX G ?z, ?r⟩
      (case z => k_is)
      (case r => exact ⟨_, rfl⟩)
    have d1 : L2.Df (L2.KOf KX) mg "is_whole" S46.s_is_whole := by
      dsimp only [L2.KOf]; refine' S46.df_mk KX G ?a ?l ?c ?k
      (case a => k_is); (case l => k_is); (case c => k_is); (case k => k_is)
    have d2 : L2.Df (L2.KOf KX) mg "is_number_below" S46.s_is_number_below := by
      dsimp only [L2.KOf]; refine' S46.df_mk KX G ?a ?l ?c ?k
      (case a => k_is); (case l => k_is); (case c => k_is); (case k => k_is)
    have d3 : L2.Df (L2.KOf KX) mg "is_letters" S46.s_is_letters := by
      dsimp only [L2.KOf]; refine' S46.df_mk KX G ?a ?l ?c ?k
      (case a => k_is); (case l => k_is); (case c => k_is); (case k => k_is)
    have d4 : L2.Df (L2.KOf KX) mg "is_letter" S46.s_is_letter := by
      dsimp only [L2.KOf]; refine' S46.df_mk KX G ?a ?l ?c ?k
      (case a => k_is); (case l => k_is); (case c => k_is); (case k => k_is)
    have d5 : L2.Df (L2.KOf KX) mg "is_net" S46.s_is_net := by
      dsimp only [L2.KOf]; refine' S46.df_mk KX G ?a ?l ?c ?k
      (case a => k_is); (case l => k_is); (case c => k_is); (case k => k_is)
    have d6 : L2.Df (L2.KOf KX) mg "is_knot" S46.s_is_knot := by
      dsimp only [L2.KOf]; refine' S46.df_mk KX G ?a ?l ?c ?k
      (case a => k_is); (case l => k_is); (case c => k_is); (case k => k_is)
    have d7 : L2.Df (L2.KOf KX) mg "_law_store" S46.s_law_store := by
      dsimp only [L2.KOf]; refine' S46.df_mk KX G ?a ?l ?c ?k
      (case a => k_is); (case l => k_is); (case c => k_is); (case k => k_is)
    have d8 : L2.Df (L2.KOf KX) mg "_law_draw" S46.s_law_draw := by
      dsimp only [L2.KOf]; refine' S46.df_mk KX G ?a ?l ?c ?k
      (case a => k_is); (case l => k_is); (case c => k_is); (case k => k_is)
    have d9 : L2.Df (L2.KOf KX) mg "_law_net" S46.s_law_net := by
      dsimp only [L2.KOf]; refine' S46.df_mk KX G ?a ?l ?c ?k
      (case a => k_is); (case l => k_is); (case c => k_is); (case k => k_is)
    have d10 : L2.Df (L2.KOf KX) mg "_law_whole" S46.s_law_whole := by
      dsimp only [L2.KOf]; refine' S46.df_mk KX G ?a ?l ?c ?k
      (case a => k_is); (case l => k_is); (case c => k_is); (case k => k_is)
    have d11 : L2.Df (L2.KOf KX) mg "_law_is_net" S46.s_law_is_net := by
      dsimp only [L2.KOf]; refine' S46.df_mk KX G ?a ?l ?c ?k
      (case a => k_is); (case l => k_is); (case c => k_is); (case k => k_is)
    have d12 : L2.Df (L2.KOf KX) mg "_law_bent" S46.s_law_bent := by
      dsimp only [L2.KOf]; refine' S46.df_mk KX G ?a ?l ?c ?k
      (case a => k_is); (case l => k_is); (case c => k_is); (case k => k_is)
    have d13 : L2.Df (L2.KOf KX) mg "_law_right" S46.s_law_right := by
      dsimp only [L2.KOf]; refine' S46.df_mk KX G ?a ?l ?c ?k
      (case a => k_is); (case l => k_is); (case c => k_is); (case k => k_is)
    have d14 : L2.Df (L2.KOf KX) mg "law" S46.s_law := by
      dsimp only [L2.KOf]; refine' S46.df_mk KX G ?a ?l ?c ?k
      (case a => k_is); (case l => k_is); (case c => k_is); (case k => k_is)
    obtain ⟨fd, h1, h2⟩ := S46.all_ok (P := PySem.Challenge.rw_upwords_k46_what_is_a_net.prog) (w := w) hmg ⟨B, Bx0, Bx1, Bx2, Bx3, Bx4⟩ d1 d2 d3 d4 d5 d6 d7 d8 d9 d10 d11 d12 d13 d14
    exact ⟨fd, h1, fun base _ _ => h2 base⟩
