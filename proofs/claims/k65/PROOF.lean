import PyProof.Rows.All
import Wide.All
import OpenK.AllK
import Wide.FinOn
import Lean
import PyProof.EqAt
import PyProof.EqKinds
import PyProof.TupleCall
import PyProof.WalkInts
import PyProof.NeKinds
import KE.KSortTup
import KE.KLam
import PyProof.ListRange
import KE.KDictOf
import PyProof.DictWalks
import PyProof.AttrMissSeq
import KE.KDictSum
import PyProof.Rows.TupAdd
import KE.KTryOn
import PyProof.NsDelKeeps
import PyProof.ExcAttrAll.ValueError
import KE.KMinKey
import PyProof.ListStr
import PyProof.StrWalks
import PyProof.Rows.Range3
import PySem.Challenge.RW_upwords_k65_words_that_fit_numbered
set_option Elab.async false
set_option linter.all false
set_option maxRecDepth 100000
namespace L2
open PySem PySem.Spec PyProof.Rows
abbrev Key:=Sum Int Str
def keyIs:Key→Value→Bool
  | .inl k,v=>Value.isInt k v
  | .inr x,v=>Value.isStrOf x v
def keyH (w:World):Key→Int
  | .inl k=>hashInt k
  | .inr x=>hashStr w x
theorem keyIs_shape:∀ {k:Key} {v:Value},keyIs k v=true→(∃ i t,k=Sum.inl i∧v=Value.int i t)∨(∃ x t,k=Sum.inr x∧v=Value.str x t)
  | .inl i,v,h=>by
    obtain ⟨t,e⟩:=Value.isInt_shape (k:=i) (v:=v) h
    exact .inl ⟨i,t,rfl,e⟩
  | .inr x,v,h=>by
    obtain ⟨t,e⟩:=Value.isStrOf_shape (x:=x) (v:=v) h
    exact .inr ⟨x,t,rfl,e⟩
theorem keyIs_int (i:Int) (t:Tok):keyIs (.inl i) (.int i t)=true:=by simp [keyIs,Value.isInt]
theorem keyIs_str (x:Str) (t:Tok):keyIs (.inr x) (.str x t)=true:=by simp [keyIs,Value.isStrOf]
theorem key_ll (a b:Int):decide ((Sum.inl a:Key)=Sum.inl b)=(a == b):=by
  by_cases e:a=b
  · subst e;simp
  · have h:¬ (Sum.inl a:Key)=Sum.inl b:=fun q=>e (Sum.inl.inj q)
    rw [decide_eq_false h]
    exact (beq_eq_false_iff_ne.mpr e).symm
theorem key_rr (a b:Str):decide ((Sum.inr a:Key)=Sum.inr b)=decide (a=b):=by
  by_cases e:a=b
  · subst e;simp
  · have h:¬ (Sum.inr a:Key)=Sum.inr b:=fun q=>e (Sum.inr.inj q)
    rw [decide_eq_false h,decide_eq_false e]
theorem key_lr (a:Int) (b:Str):decide ((Sum.inl a:Key)=Sum.inr b)=false:=decide_eq_false (fun q=>nomatch q)
theorem key_rl (a:Str) (b:Int):decide ((Sum.inr a:Key)=Sum.inl b)=false:=decide_eq_false (fun q=>nomatch q)
def mixKind (prog:Program) (w:World):PySem.KeyKind prog w Key where
  is:=keyIs
  hash:=keyH w
  inj:=fun v a b ha hb=>by
    rcases keyIs_shape ha with ⟨i,t,rfl,rfl⟩ | ⟨x,t,rfl,rfl⟩
    · rcases keyIs_shape hb with ⟨j,u,rfl,e⟩ | ⟨y,u,rfl,e⟩
      · injection e with e1 _;rw [e1]
      · exact nomatch e
    · rcases keyIs_shape hb with ⟨j,u,rfl,e⟩ | ⟨y,u,rfl,e⟩
      · exact nomatch e
      · injection e with e1 _;rw [e1]
  byValue:=fun k v h=>by
    rcases keyIs_shape h with ⟨i,t,rfl,rfl⟩ | ⟨x,t,rfl,rfl⟩ <;> rfl
  pyHash:=fun hv h=>by
    rcases keyIs_shape hv with ⟨i,t,rfl,rfl⟩ | ⟨x,t,rfl,rfl⟩
    · exact wpAny_pyHash_int h
    · exact wpAny_pyHash_str h
  eqBool:=fun hu hv h=>by
    rcases keyIs_shape hu with ⟨i,t,rfl,rfl⟩ | ⟨x,t,rfl,rfl⟩
    · rcases keyIs_shape hv with ⟨j,u,rfl,rfl⟩ | ⟨y,u,rfl,rfl⟩
      · rw [key_ll] at h;exact wpAny_eqBool_int h
      · rw [key_lr] at h;exact SeqAt.EqAt.int_str i t y u _ _ _ _ h
    · rcases keyIs_shape hv with ⟨j,u,rfl,rfl⟩ | ⟨y,u,rfl,rfl⟩
      · rw [key_rl] at h;exact SeqAt.EqAt.str_int x t j u _ _ _ _ h
      · rw [key_rr] at h;exact wpAny_eqBool_str h
  «strs»:=fun k x t v h=>by
    rcases keyIs_shape h with ⟨i,u,rfl,e⟩ | ⟨y,u,rfl,e⟩
    · exact nomatch e
    · injection e with e1 _
      subst e1
      cases v <;> rfl
theorem mixKind_int (prog:Program) (w:World) (i:Int) (t:Tok):(mixKind prog w).is (.inl i) (.int i t)=true:=keyIs_int i t
theorem mixKind_str (prog:Program) (w:World) (x:Str) (t:Tok):(mixKind prog w).is (.inr x) (.str x t)=true:=keyIs_str x t
end L2
namespace L2
open PySem PySem.Spec PyProof.Rows
inductive V where
  | non | bl (b:Bool) | int (i:Int) | str (x:Str) | byt (b:Array UInt8) | flt (b:UInt64) | ref (a:Addr) | ty (n:String)
  deriving DecidableEq
def RelV:V→Value→Prop
  | .non,u=>u=Value.none
  | .bl b,u=>u=Value.bool b
  | .int i,u=>∃ t,u=Value.int i t
  | .str x,u=>∃ t,u=Value.str x t
  | .byt b,u=>∃ t,u=Value.bytes b t
  | .flt b,u=>∃ t,u=Value.float b t
  | .ref a,u=>u=Value.ref a
  | .ty n,u=>u=Value.type n
abbrev Vals:List V→List Value→Prop:=Paired RelV
theorem Vals.length {xs:List V} {us:List Value} (r:Vals xs us):xs.length=us.length:=Paired.length r
theorem Vals.get:∀ {xs:List V} {us:List Value} {i:Nat} {x:V},Vals xs us→xs[i]?=some x→∃ u,us[i]?=some u∧RelV x u
  | _,_,_,_,.nil,e=>by simp at e
  | _,_,0,_,.cons r _,e=>by simp at e;subst e;exact ⟨_,rfl,r⟩
  | _,_,i+1,x,.cons _ t,e=>by
    obtain ⟨u,h1,h2⟩:=Vals.get (i:=i) (x:=x) t (by simpa using e)
    exact ⟨u,by simpa using h1,h2⟩
theorem Vals.set {x:V} {u:Value} (r:RelV x u):∀ {xs:List V} {us:List Value} (i:Nat),Vals xs us→Vals (xs.set i x) (us.set i u)
  | _,_,_,.nil=>.nil
  | _,_,0,.cons _ t=>.cons r t
  | _,_,i+1,.cons q t=>.cons q (Vals.set r i t)
theorem Vals.append:∀ {xs ys:List V} {us ws:List Value},Vals xs us→Vals ys ws→Vals (xs++ys) (us++ws)
  | _,_,_,_,.nil,s=>s
  | _,_,_,_,.cons r t,s=>.cons r (Vals.append t s)
theorem Vals.take:∀ {xs:List V} {us:List Value} (n:Nat),Vals xs us→Vals (xs.take n) (us.take n)
  | _,_,0,_=>.nil
  | _,_,_+1,.nil=>.nil
  | _,_,n+1,.cons r t=>.cons r (Vals.take n t)
theorem Vals.drop:∀ {xs:List V} {us:List Value} (n:Nat),Vals xs us→Vals (xs.drop n) (us.drop n)
  | _,_,0,r=>r
  | _,_,_+1,.nil=>.nil
  | _,_,n+1,.cons _ t=>Vals.drop n t
def RelO:Option V→Option Value→Prop
  | some v,some u=>RelV v u
  | none,none=>True
  | _,_=>False
def KV {κ:Type}:List (κ × V)→List (κ × Value)→Prop:=Paired fun (p:κ × V) (q:κ × Value)=>p.1=q.1∧RelV p.2 q.2
def kV:Key→V
  | .inl i=>.int i
  | .inr x=>.str x
inductive HO where
    | lst (xs:List V)
    | tup (xs:List V)
    | dK (kvs:List (Key × V)) | dT (kvs:List (List Key × V))
    | set (S:Int→Bool) (n:Nat)
    | ins (C dx:Addr) (fs:List (Str × V))
    | own (x:Addr)
    | xd (fs:List (Str × V))
    | met (f x:Addr)
    | rng (lo hi:Int)
    | frz (o:Obj) (u:HO)
    | tbl (ps:Array Value)
    | ext (φ:Heap→Prop)
abbrev Hp:=Addr→Option HO
def upd (H:Hp) (a:Addr) (o:HO):Hp:=fun b=>if b=a then some o else H b
theorem upd_same {H:Hp} {a:Addr} {o:HO}:upd H a o a=some o:=by unfold upd;rw [if_pos rfl]
theorem upd_ne {H:Hp} {a b:Addr} {o:HO} (h:b≠a):upd H a o b=H b:=by unfold upd;rw [if_neg h]
theorem upd_upd {H:Hp} {a:Addr} {o u:HO}:upd (upd H a o) a u=upd H a u:=by
  funext b;unfold upd;split <;> rfl
theorem ne_of {H:Hp} {a b:Addr} {o u:HO} (h:H a=some o) (h':H b=some u) (d:o≠u):a≠b:=by
  intro e;subst e;rw [h] at h';exact d (Option.some.inj h')
theorem ne_of_none {H:Hp} {a b:Addr} {o:HO} (h:H a=some o) (h':H b=none):a≠b:=by
  intro e;subst e;rw [h] at h';cases h'
section
variable (P:Program) (w:World)
def ObjOk (H:Hp) (h:Heap) (a:Addr):HO→Prop
  | .lst xs=>xs.length≤sizeLine∧∃ (its:List Value) (n:Nat),Vals xs its∧h.get? a=some { cls:=.type "list", data:=.seq its.toArray n }
  | .tup xs=>(xs.length≤sizeLine∧∃ o,h.get? a=some o∧o.dict=none)∧∃ its:List Value,Vals xs its∧IsTup h a its.toArray
  | .dK kvs=>kvs.length≤sizeLine∧(a == sysModules)=false∧∃ vs,KV kvs vs∧h.DictOf (mixKind P w) a vs
  | .dT kvs=>kvs.length≤sizeLine∧(a == sysModules)=false∧∃ xs:List (List Key × Addr × Value),
      Paired (fun (p:List Key × V) (q:List Key × Addr × Value)=>p.1=q.1∧H q.2.1=some (.tup (p.1.map kV))∧RelV p.2 q.2.2) kvs xs ∧
      ∃ o es ep,h.get? a=some o∧o.ExactDict∧o.data=.dict es ep∧es.toList=xs.map (entryOfKey (tupleKind (mixKind P w)))∧(xs.map (·.1)).Nodup
  | .set S n=>h.SetOf (intKind P w) a S n
  | .ins C dx fs=>H dx=some (.own a)∧fs.length≤1000∧dx≠a∧h.get? a=some (PySem.W.instObj C dx) ∧
      ∃ mA,h.Ns1 dx mA∧(∀ f,RelO (fs.lookup f) (mA f))∧PySem.Within mA (fs.map (·.1))
  | .own _=>∃ o,h.get? a=some o
  | .xd fs=>∃ mA,h.Ns1 a mA∧∀ f,RelO (fs.lookup f) (mA f)
  | .rng lo hi=>∃ t u v,h.get? a=some { cls:=.type "range", data:=.fields #[.int lo t,.int hi u,.int 1 v] }
  | .frz o u=>h.get? a=some o∧ObjOk H h a u
  | .tbl ps=>h.get? a=some { cls:=.none,data:=.fields ps }
  | .met f x=>h.get? a=some (PySem.W.methodObj (.ref f) (.ref x))
  | .ext φ=>φ h∧(∃ o,h.get? a=some o)∧∀ h1 h2:Heap,φ h1→(∀ o,h1.get? a=some o→h2.get? a=some o)→φ h2
def HOk (H:Hp) (h:Heap):Prop:=∀ a o,H a=some o→ObjOk P w H h a o
end
section
variable {P:Program} {w:World} {H H':Hp} {h h':Heap} {a:Addr} {o:HO}
theorem ObjOk.lt (x:ObjOk P w H h a o):a < h.objs.size:=by
  cases o with
  | lst xs=>obtain ⟨_,_,_,_,e⟩:=x;exact Heap.lt_size e
  | tup xs=>obtain ⟨_,_,_,p⟩:=x;exact p.lt
  | dK kvs=>obtain ⟨_,_,_,_,o,_,_,e,_⟩:=x;exact Heap.lt_size e
  | dT kvs=>obtain ⟨_,_,_,_,o,_,_,e,_⟩:=x;exact Heap.lt_size e
  | set S n=>obtain ⟨o,_,_,_,e,_⟩:=x;exact Heap.lt_size e
  | ins C dx fs=>obtain ⟨_,_,_,e,_⟩:=x;exact Heap.lt_size e
  | own y=>obtain ⟨_,e⟩:=x;exact Heap.lt_size e
  | xd fs=>obtain ⟨_,⟨_,_,_,e,_⟩,_⟩:=x;exact Heap.lt_size e
  | rng lo hi=>obtain ⟨_,_,_,e⟩:=x;exact Heap.lt_size e
  | frz ob u=>obtain ⟨e,_⟩:=x;exact Heap.lt_size e
  | tbl ps=>exact Heap.lt_size (show h.get? a=some _ from x)
  | met f y=>exact Heap.lt_size (show h.get? a=some _ from x)
  | ext φ=>obtain ⟨_,⟨_,e⟩,_⟩:=x;exact Heap.lt_size e
theorem Paired.mapP {α β:Type} {F G:α→β→Prop}:∀ {l₁:List α} {l₂:List β},Paired F l₁ l₂→(∀ a b,F a b→G a b)→Paired G l₁ l₂
  | _,_,.nil,_=>.nil
  | _,_,.cons r t,f=>.cons (f _ _ r) (Paired.mapP t f)
theorem ObjOk.stay (x:ObjOk P w H h a o) (k:∀ b u,(b=a∨H b=some (.own a))→h.get? b=some u→h'.get? b=some u)
    (ho:∀ b,H b=some (.own a)→H' b=some (.own a)) (ht:∀ b xs,H b=some (.tup xs)→H' b=some (.tup xs)):ObjOk P w H' h' a o:=by
  induction o with
  | lst xs=>obtain ⟨z,its,n,r,e⟩:=x;exact ⟨z,its,n,r,k _ _ (.inl rfl) e⟩
  | tup xs=>obtain ⟨⟨z,o1,e1,c1⟩,its,r,ob,e,c⟩:=x;exact ⟨⟨z,o1,k _ _ (.inl rfl) e1,c1⟩,its,r,ob,k _ _ (.inl rfl) e,c⟩
  | dK kvs=>obtain ⟨z,y,vs,r,ob,es,ep,e,c⟩:=x;exact ⟨z,y,vs,r,ob,es,ep,k _ _ (.inl rfl) e,c⟩
  | dT kvs=>
    obtain ⟨z,y,xs,r,ob,es,ep,e,c⟩:=x
    exact ⟨z,y,xs,Paired.mapP r fun p q z=>⟨z.1,ht _ _ z.2.1,z.2.2⟩,ob,es,ep,k _ _ (.inl rfl) e,c⟩
  | set S n=>obtain ⟨ob,es,ep,t,e,c⟩:=x;exact ⟨ob,es,ep,t,k _ _ (.inl rfl) e,c⟩
  | ins C dx fs=>
    obtain ⟨d,z,ne,e,mA,⟨od,es,ep,e2,c⟩,r⟩:=x
    exact ⟨ho _ d,z,ne,k _ _ (.inl rfl) e,mA,⟨od,es,ep,k _ _ (.inr d) e2,c⟩,r⟩
  | own y=>obtain ⟨ob,e⟩:=x;exact ⟨ob,k _ _ (.inl rfl) e⟩
  | xd fs=>obtain ⟨mA,⟨od,es,ep,e,c⟩,r⟩:=x;exact ⟨mA,⟨od,es,ep,k _ _ (.inl rfl) e,c⟩,r⟩
  | rng lo hi=>obtain ⟨t,u,v,e⟩:=x;exact ⟨t,u,v,k _ _ (.inl rfl) e⟩
  | frz ob u ih=>obtain ⟨e,q⟩:=x;exact ⟨k _ _ (.inl rfl) e,ih q⟩
  | tbl ps=>
    have e:h.get? a=some { cls:=.none,data:=.fields ps }:=x
    show h'.get? a=some { cls:=.none,data:=.fields ps }
    exact k a _ (.inl rfl) e
  | met f y=>
    have e:h.get? a=some (PySem.W.methodObj (.ref f) (.ref y)):=x
    show h'.get? a=some (PySem.W.methodObj (.ref f) (.ref y))
    exact k a _ (.inl rfl) e
  | ext φ=>obtain ⟨p,⟨o,e⟩,st⟩:=x;exact ⟨st _ _ p fun o q=>k _ _ (.inl rfl) q,⟨o,k _ _ (.inl rfl) e⟩,st⟩
theorem HOk.lt (x:HOk P w H h) (e:H a=some o):a < h.objs.size:=(x a o e).lt
theorem HOk.fresh (x:HOk P w H h) (e:h.objs.size≤a):H a=none:=by
  cases q:H a with
  | none=>rfl
  | some u=>exact absurd (Nat.lt_of_lt_of_le (x.lt q) e) (Nat.lt_irrefl _)
theorem HOk.kept (x:HOk P w H h) (k:∀ b u,h.get? b=some u→h'.get? b=some u):HOk P w H h':=fun a o e=>
  (x a o e).stay (fun b u _ q=>k b u q) (fun _ q=>q) fun _ _ q=>q
theorem HOk.laid (x:HOk P w H h) (k:∀ b u,h.get? b=some u→h'.get? b=some u) (hp:h.objs.size≤a) (new:ObjOk P w (upd H a o) h' a o):HOk P w (upd H a o) h':=fun b u e=>by
  have hn:=x.fresh hp
  by_cases hb:b=a
  · subst hb;rw [upd_same] at e;cases e;exact new
  · rw [upd_ne hb] at e
    exact (x b u e).stay (fun c v _ q=>k c v q) (fun c q=>by rw [upd_ne (ne_of_none q hn)];exact q) fun c xs q=>by rw [upd_ne (ne_of_none q hn)];exact q
end
def Rd (H:Hp) (a:Addr) (u:HO):Prop:=H a=some u∨∃ o,H a=some (.frz o u)
theorem Rd.ok {P:Program} {w:World} {H:Hp} {h:Heap} {a:Addr} {u:HO} (r:Rd H a u) (x:HOk P w H h):ObjOk P w H h a u:=by
  rcases r with r | ⟨o,r⟩
  · exact x a u r
  · obtain ⟨_,q⟩:=x a _ r
    exact q
def Mut:Option HO→Prop
  | some (.lst _)=>True
  | some (.dK _)=>True
  | some (.dT _)=>True
  | some (.set _ _)=>True
  | some (.ins _ _ _)=>True
  | some (.ext _)=>True
  | _=>False
section
variable {P:Program} {w:World} {H:Hp} {h h':Heap} {x e:Addr} {o':HO}
theorem HOk.write (ok:HOk P w H h) (mu:Mut (H x)) (he:e=x∨H e=some (.own x)) (k:∀ b u,b≠e→h.get? b=some u→h'.get? b=some u) (heo:∃ u,h'.get? e=some u)
    (new:ObjOk P w (upd H x o') h' x o'):HOk P w (upd H x o') h':=fun b u q=>by
  have nown:∀ c y,H c=some (.own y)→c≠x:=fun c y r z=>by subst z;rw [r] at mu;exact mu
  have ntup:∀ c xs,H c=some (.tup xs)→c≠x:=fun c xs r z=>by subst z;rw [r] at mu;exact mu
  by_cases hb:b=x
  · subst hb;rw [upd_same] at q;cases q;exact new
  · rw [upd_ne hb] at q
    by_cases hbe:b=e
    · have q':H b=some (.own x):=by
        rcases he with z | z
        · exact absurd (hbe.trans z) hb
        · rw [hbe];exact z
      rw [q] at q';cases q'
      obtain ⟨v,hv⟩:=heo
      exact ⟨v,by rw [hbe];exact hv⟩
    · refine (ok b u q).stay (fun c v hc r=>k c v ?_ r) (fun c r=>by rw [upd_ne (nown c b r)];exact r) fun c xs r=>by rw [upd_ne (ntup c xs r)];exact r
      rcases hc with rfl | hc
      · exact hbe
      · rintro rfl
        rcases he with z | z
        · exact nown c b hc z
        · rw [hc] at z;cases z;exact hb rfl
end
structure Un (fs ex:List Addr) (H H':Hp) (h h':Heap):Prop where
  keep:∀ b o,h.get? b=some o→H b=none→b ∉ fs→b ∉ ex→h'.get? b=some o
  slot:∀ b o,h.get? b=some o→H b=none→b∈fs→b ∉ ex→∃ sl,h'.get? b=some { o with slots:=sl }
  free:∀ b o,h.get? b=some o→H b=none→b ∉ ex→H' b=none
  there:∀ b o,h.get? b=some o→b ∉ ex→∃ o',h'.get? b=some o'
  tups:∀ b xs,H b=some (.tup xs)→H' b=some (.tup xs)
  frzs:∀ b o u,H b=some (.frz o u)→H' b=some (.frz o u)
  tbls:∀ b ps,H b=some (.tbl ps)→∃ more,H' b=some (.tbl (ps++more))
section
variable {fs fs' ex ex':List Addr} {H H1 H2:Hp} {h h1 h2 h':Heap} {a x e:Addr} {o:HO}
theorem Un.any (u:Un fs ex H H1 h h1) {b:Addr} {ob:Obj} (q:h.get? b=some ob) (n:H b=none) (hx:b ∉ ex):∃ sl,h1.get? b=some { ob with slots:=sl }:=by
  by_cases hb:b∈fs
  · exact u.slot b ob q n hb hx
  · exact ⟨ob.slots,u.keep b ob q n hb hx⟩
theorem Un.kept (k:∀ b u,h.get? b=some u→h'.get? b=some u):Un fs ex H H h h':=
  ⟨fun b ob q _ _ _=>k b ob q,fun b ob q _ _ _=>⟨ob.slots,k b ob q⟩,fun _ _ _ n _=>n,fun b ob q _=>⟨ob,k b ob q⟩,fun _ _ q=>q,fun _ _ _ q=>q,fun _ ps q=>⟨#[],by rw [q];simp⟩⟩
theorem Un.refl:Un fs ex H H h h:=Un.kept fun _ _ q=>q
theorem Un.laid (k:∀ b u,h.get? b=some u→h'.get? b=some u) (hp:h.objs.size≤a) (hn:H a=none):Un fs ex H (upd H a o) h h' where
  keep:=fun b u q _ _ _=>k b u q
  slot:=fun b u q _ _ _=>⟨u.slots,k b u q⟩
  free:=fun b u q n _=>by rw [upd_ne (Nat.ne_of_lt (Nat.lt_of_lt_of_le (Heap.lt_size q) hp))];exact n
  there:=fun b u q _=>⟨u,k b u q⟩
  tups:=fun b xs q=>by rw [upd_ne (ne_of_none q hn)];exact q
  frzs:=fun b u xs q=>by rw [upd_ne (ne_of_none q hn)];exact q
  tbls:=fun b ps q=>⟨#[],by rw [upd_ne (ne_of_none q hn),q];simp⟩
theorem Un.write (mu:Mut (H x)) (he:e=x∨H e=some (.own x)) (k:∀ b u,b≠e→h.get? b=some u→h'.get? b=some u) (heo:∃ u,h'.get? e=some u):Un fs ex H (upd H x o) h h':=by
  have hx:∀ b,H b=none→b≠x:=fun b n z=>by subst z;rw [n] at mu;exact mu
  have hb:∀ b,H b=none→b≠e:=fun b n z=>by
    subst z
    rcases he with r | r
    · exact hx b n r
    · rw [n] at r;cases r
  have hm:∀ b u,H b=some u→¬ Mut (some u)→b≠x:=fun b u q nm z=>by subst z;rw [q] at mu;exact nm mu
  refine ⟨fun b u q n _ _=>k b u (hb b n) q,fun b u q n _ _=>⟨u.slots,k b u (hb b n) q⟩,fun b u q n _=>by rw [upd_ne (hx b n)];exact n,fun b u q _=>?_,
    fun b xs q=>by rw [upd_ne (hm b _ q fun z=>z)];exact q,fun b u xs q=>by rw [upd_ne (hm b _ q fun z=>z)];exact q,fun b ps q=>⟨#[],by rw [upd_ne (hm b _ q fun z=>z),q];simp⟩⟩
  by_cases hbe:b=e
  · subst hbe;exact heo
  · exact ⟨u,k b u hbe q⟩
end
def trk (h:Heap) (H:Hp):List Addr:=(List.range h.objs.size).filter fun a=>(H a).isSome
def hidT (h:Heap) (H:Hp):Heap:=PySem.W.hideAll h (trk h H)
theorem hidT_size (h:Heap) (H:Hp):(hidT h H).objs.size=h.objs.size:=PySem.W.hideAll_size _ _
theorem hidT_get {h:Heap} {H:Hp} {b:Addr} {o:Obj} (e:h.get? b=some o) (n:H b=none):(hidT h H).get? b=some o:=
  PySem.W.hideAll_get _ e fun hm=>by
    have q:(H b).isSome=true:=(List.mem_filter.mp hm).2
    rw [n] at q;simp at q
theorem of_hidT {h:Heap} {H:Hp} {b:Addr} {o:Obj} (e:(hidT h H).get? b=some o):h.get? b=some o∧H b=none:=by
  have e':h.get? b=some o:=PySem.W.of_hideAll (trk h H) e
  refine ⟨e',?_⟩
  cases q:H b with
  | none=>rfl
  | some x=>
    have hm:b∈trk h H:=List.mem_filter.mpr ⟨List.mem_range.mpr (Heap.lt_size e'),by simp [q]⟩
    have z:(hidT h H).get? b=none:=PySem.W.hideAll_none (trk h H) hm
    rw [z] at e;cases e
def allNews (g h:Heap) (L:Addr):List (Addr × Obj):=(List.range h.objs.size).filterMap fun a=>if a=L∨(g.get? a).isSome=true then none else (h.get? a).map fun o=>(a,o)
def rest (g h:Heap) (L d:Addr):List (Addr × Obj):=(allNews g h L).filter fun p=>decide (p.1≠d)
end L2
namespace L2
open PySem PySem.Spec PyProof.Rows
structure Mod (K:PySem.W.Frag) (mg:Str→Option Value) (base:Heap):Prop where
  kin:K.In base
  glob:base.Ns mainGlobals mg
  blt:∃ mb,base.Ns builtinsNs mb∧∀ x:Str,x ≠ "__name__" → mb x=bootBuiltins x
  nolimit:base.NoLimit
structure Cx where
  prog:Program
  w:World
  K:PySem.W.Frag
  mg:Str→Option Value
  base:Heap
  A:Around
  N:List Str
  s₀:Shared
  H₀:Hp
  env:Env
  outer:List Env
  stack:List Env
  ex:List Addr
  fn:Str→Bool
  calm:Bool
  pn:List (Addr × Obj)
  xe:Value→Shared→Prop
def frs (l:List Env):List Addr:=l.filterMap (·.frame)
abbrev Cx.fs (X:Cx):List Addr:=frs X.outer
def Vis (sc:Scope) (x:Str):Prop:=sc.names.lookup x=some .local∨sc.names.lookup x=some .cell∨sc.names.lookup x=some .free
def Loc (sc:Scope) (x:Str):Prop:=sc.names.lookup x=some .local∨sc.names.lookup x=some .cell
def Look (env:Env) (h:Heap) (m:Str→Option Value) (x:Str) (u:Value):Prop:=
  (env.kindOf x=some .local∧m x=some u)∨((env.kindOf x=some .cell∨env.kindOf x=some .free)∧∃ c,env.cells.lookup x=some c∧h.IsCell c (some u))
structure Cx.Ok (X:Cx):Prop where
  mod:Mod X.K X.mg X.base
  kind:X.env.scope.kind=.function
  glob:X.env.globals=mainGlobals
  blt:X.env.builtins=builtinsNs
  above:X.s₀.heap.objs.size≤X.env.locals
  inj:∀ x y c,X.env.cells.lookup x=some c→X.env.cells.lookup y=some c→x=y
  has:∀ x,(X.env.kindOf x=some .cell∨X.env.kindOf x=some .free)→∃ c,X.env.cells.lookup x=some c
  cab:∀ x c,X.fn x=true→X.env.cells.lookup x=some c→X.s₀.heap.objs.size≤c
  hd:X.calm=true→X.A.handled=none
  frames:X.A.frames=some X.stack
  stk:X.stack=X.outer∨(X.stack=X.env :: X.outer∧X.env.frame=some X.env.locals)
  exf:∀ b∈X.ex,b≠X.env.locals∧∀ x c,X.env.cells.lookup x=some c→c≠b
  bs:∀ b o,X.base.get? b=some o→X.s₀.heap.get? b=some o∧X.H₀ b=none
  bsz:X.base.objs.size≤X.s₀.heap.objs.size
  noex:∀ b o,X.base.get? b=some o→b ∉ X.ex
  exfs:∀ b∈X.ex,b ∉ X.fs
  funs:X.s₀.heap.FunFrames X.base X.outer
  frf:∀ b∈X.fs,X.H₀ b=none
structure Inv (X:Cx) (pins:List (Addr × Obj)) (σ:List (Option V)) (H:Hp) (s:Shared):Prop where
  ok:X.Ok
  os:s.os=X.s₀.os
  bare:AllBare s.gens
  base:Un X.fs X.ex X.H₀ H X.s₀.heap s.heap
  loc:∃ m,s.heap.Ns X.env.locals m∧∀ (i:Nat) (x:Str) (v:V),X.N[i]?=some x→σ[i]?=some (some v)→Vis X.env.scope x→∃ u,RelV v u∧Look X.env s.heap m x u
  cell:∀ x c,X.env.cells.lookup x=some c→∃ v,s.heap.IsCell c v
  free:H X.env.locals=none
  freeC:∀ x c,X.env.cells.lookup x=some c→H c=none
  pin:∀ p∈X.pn++pins,s.heap.get? p.1=some p.2∧H p.1=none∧p.1≠X.env.locals∧p.1 ∉ X.fs∧∀ v,p.2.data≠.cell v
  hok:HOk X.prog X.w H s.heap
  len:σ.length=X.N.length
section
variable {X:Cx} {pins:List (Addr × Obj)} {σ:List (Option V)} {H H':Hp} {s:Shared} {h':Heap}
theorem Cx.Ok.nofr (ok:X.Ok) {b:Addr} {o:Obj} (e:X.base.get? b=some o):b ∉ X.fs:=fun hb=>by
  have:=(ok.funs.mem hb).1
  rw [e] at this;cases this
theorem Inv.bs (I:Inv X pins σ H s):∀ b o,X.base.get? b=some o→s.heap.get? b=some o∧H b=none:=fun b o e=>
  ⟨I.base.keep b o (I.ok.bs b o e).1 (I.ok.bs b o e).2 (I.ok.nofr e) (I.ok.noex b o e),I.base.free b o (I.ok.bs b o e).1 (I.ok.bs b o e).2 (I.ok.noex b o e)⟩
theorem Inv.bk (I:Inv X pins σ H s):∀ b o,X.base.get? b=some o→s.heap.get? b=some o:=fun b o e=>(I.bs b o e).1
theorem Inv.mod (I:Inv X pins σ H s):Mod X.K X.mg X.base:=I.ok.mod
theorem Inv.kIn (I:Inv X pins σ H s):X.K.In s.heap:=I.ok.mod.kin.keeps I.bk
theorem Inv.nolimit (I:Inv X pins σ H s):s.heap.NoLimit:=I.ok.mod.nolimit.keeps I.bk
theorem Inv.fr (I:Inv X pins σ H s):∃ m,Fr X.base X.env.locals s.heap m:=
  let ⟨m,hn,_⟩:=I.loc
  ⟨m,hn,I.bk,Nat.le_trans I.ok.bsz I.ok.above⟩
theorem Inv.lt (I:Inv X pins σ H s):X.env.locals < s.heap.objs.size:=let ⟨_,hn,_⟩:=I.loc;hn.lt
theorem Inv.sz (I:Inv X pins σ H s):X.s₀.heap.objs.size≤s.heap.objs.size:=Nat.le_trans I.ok.above (Nat.le_of_lt I.lt)
theorem Inv.nofs (I:Inv X pins σ H s) {a:Addr} (h:s.heap.objs.size≤a):a ∉ X.fs:=fun hb=>by
  obtain ⟨_,o,ho,_⟩:=I.ok.funs.mem hb
  exact absurd (Nat.lt_of_lt_of_le (Heap.lt_size ho) (Nat.le_trans I.sz h)) (Nat.lt_irrefl _)
theorem Inv.cne (I:Inv X pins σ H s):∀ x c,X.env.cells.lookup x=some c→c≠X.env.locals:=fun x c e z=>by
  obtain ⟨v,o,ho,hd⟩:=I.cell x c e
  obtain ⟨m,⟨o',es,ep,ho',hd',_⟩,_⟩:=I.loc
  rw [z,ho'] at ho;cases ho;rw [hd'] at hd;cases hd
theorem Inv.funs (I:Inv X pins σ H s):s.heap.FunFrames X.base X.outer:=by
  have all:∀ (l:List Env),(∀ b∈frs l,b∈X.fs)→X.s₀.heap.FunFrames X.base l→s.heap.FunFrames X.base l:=by
    intro l
    induction l with
    | nil=>intro _ _;trivial
    | cons env r ih=>
      intro hs hl
      obtain ⟨hk,⟨L,o,hf,hn,ho,hd⟩,hr⟩:=hl
      have hL:L∈X.fs:=hs L (by unfold frs;rw [List.filterMap_cons,hf];exact List.mem_cons_self)
      obtain ⟨sl,e⟩:=I.base.slot L o ho (I.ok.frf L hL) hL fun z=>I.ok.exfs L z hL
      exact ⟨hk,⟨L,_,hf,hn,e,hd⟩,ih (fun b hb=>hs b (by unfold frs;rw [List.filterMap_cons,hf];exact List.mem_cons_of_mem _ hb)) hr⟩
  exact all X.outer (fun _ hb=>hb) I.ok.funs
theorem Inv.stack (I:Inv X pins σ H s):s.heap.FunFrames X.base X.stack:=by
  rcases I.ok.stk with e | ⟨e,hf⟩
  · rw [e];exact I.funs
  · rw [e]
    obtain ⟨m,hn,_⟩:=I.loc
    refine .cons (by rw [I.ok.kind];decide) hf hn ?_ I.funs
    exact Heap.get?_none_of_le (Nat.le_trans I.ok.bsz I.ok.above)
theorem Inv.stkSub (I:Inv X pins σ H s):∀ b∈frs X.stack,b∈X.env.locals :: X.fs:=fun b hb=>by
  rcases I.ok.stk with e | ⟨e,hf⟩
  · rw [e] at hb;exact List.mem_cons_of_mem _ hb
  · rw [e] at hb
    unfold frs at hb
    rw [List.filterMap_cons,hf] at hb
    exact hb
theorem Inv.stkFree (I:Inv X pins σ H s):∀ b∈frs X.stack,H b=none:=fun b hb=>by
  rcases List.mem_cons.mp (I.stkSub b hb) with e | hb
  · rw [e];exact I.free
  · obtain ⟨_,o,ho,_⟩:=I.ok.funs.mem hb
    exact I.base.free b o ho (I.ok.frf b hb) fun z=>I.ok.exfs b z hb
theorem Inv.step {g':Array GenState} {t':Nat} {d':Drawn} {ch:List Addr} (I:Inv X pins σ H s)
    (hch:∀ b∈ch,(b∈X.ex∨X.s₀.heap.objs.size≤b)∧b≠X.env.locals∧(∀ x c,X.env.cells.lookup x=some c→c≠b)∧∀ p∈X.pn++pins,p.1≠b)
    (keep:∀ b o,b≠X.env.locals→b ∉ X.fs→b ∉ ch→s.heap.get? b=some o→H b=none→h'.get? b=some o)
    (slot:∀ b o,b≠X.env.locals→b∈X.fs→b ∉ ch→s.heap.get? b=some o→H b=none→∃ sl,h'.get? b=some { o with slots:=sl }) (free:∀ b o,b ∉ ch→s.heap.get? b=some o→H b=none→H' b=none)
    (there:∀ b o,b ∉ ch→s.heap.get? b=some o→∃ o',h'.get? b=some o')
    (tups:∀ b xs,H b=some (.tup xs)→H' b=some (.tup xs)) (frzs:∀ b o u,H b=some (.frz o u)→H' b=some (.frz o u)) (tbls:∀ b ps,H b=some (.tbl ps)→∃ more,H' b=some (.tbl (ps++more)))
    (ns:∀ m,s.heap.Ns X.env.locals m→h'.Ns X.env.locals m) (hok:HOk X.prog X.w H' h') (hg:AllBare g') :
    Inv X pins σ H' { s with heap:=h',gens:=g',drawn:=d',toks:=t' }:=by
  have neL:∀ b o,X.s₀.heap.get? b=some o→b≠X.env.locals:=fun b o e=>Nat.ne_of_lt (Nat.lt_of_lt_of_le (Heap.lt_size e) I.ok.above)
  have neC:∀ b o,X.s₀.heap.get? b=some o→b ∉ X.ex→b ∉ ch:=fun b o e hx hb=>by
    rcases (hch b hb).1 with z | z
    · exact hx z
    · exact absurd (Nat.lt_of_lt_of_le (Heap.lt_size e) z) (Nat.lt_irrefl _)
  have cellK:∀ x c,X.env.cells.lookup x=some c→∀ v,s.heap.IsCell c v→h'.IsCell c v:=fun x c e v ⟨o,ho,hd⟩=>by
    have nch:c ∉ ch:=fun z=>(hch c z).2.2.1 x c e rfl
    by_cases hc:c∈X.fs
    · obtain ⟨sl,q⟩:=slot c o (I.cne x c e) hc nch ho (I.freeC x c e)
      exact ⟨_,q,hd⟩
    · exact ⟨o,keep c o (I.cne x c e) hc nch ho (I.freeC x c e),hd⟩
  refine ⟨I.ok,I.os,hg,⟨fun b o e n hb hx=>?_,fun b o e n hb hx=>?_,fun b o e n hx=>?_,fun b o e hx=>?_,fun b xs e=>tups b xs (I.base.tups b xs e),fun b o xs e=>frzs b o xs (I.base.frzs b o xs e),fun b ps e=>?_⟩,?_,fun x c e=>?_,?_,fun x c e=>?_,fun p hp=>?_,hok,I.len⟩
  · exact keep b o (neL b o e) hb (neC b o e hx) (I.base.keep b o e n hb hx) (I.base.free b o e n hx)
  · obtain ⟨sl,e1⟩:=I.base.slot b o e n hb hx
    obtain ⟨sl',e2⟩:=slot b _ (neL b o e) hb (neC b o e hx) e1 (I.base.free b o e n hx)
    exact ⟨sl',e2⟩
  · obtain ⟨o',e1⟩:=I.base.there b o e hx
    exact free b o' (neC b o e hx) e1 (I.base.free b o e n hx)
  · obtain ⟨o',e1⟩:=I.base.there b o e hx
    exact there b o' (neC b o e hx) e1
  · obtain ⟨m1,e1⟩:=I.base.tbls b ps e
    obtain ⟨m2,e2⟩:=tbls b _ e1
    exact ⟨m1++m2,by rw [e2,Array.append_assoc]⟩
  · obtain ⟨m,hn,hl⟩:=I.loc
    refine ⟨m,ns m hn,fun i x v e1 e2 e3=>?_⟩
    obtain ⟨u,r,l⟩:=hl i x v e1 e2 e3
    refine ⟨u,r,?_⟩
    rcases l with l | ⟨k,c,e,z⟩
    · exact .inl l
    · exact .inr ⟨k,c,e,cellK x c e _ z⟩
  · obtain ⟨v,z⟩:=I.cell x c e
    exact ⟨v,cellK x c e v z⟩
  · obtain ⟨m,⟨o,_,_,ho,_⟩,_⟩:=I.loc
    exact free _ o (fun z=>(hch _ z).2.1 rfl) ho I.free
  · obtain ⟨v,o,ho,hd⟩:=I.cell x c e
    exact free c o (fun z=>(hch c z).2.2.1 x c e rfl) ho (I.freeC x c e)
  · obtain ⟨e,n,ne,nf,d⟩:=I.pin p hp
    have nch:p.1 ∉ ch:=fun z=>(hch p.1 z).2.2.2 p hp rfl
    exact ⟨keep p.1 p.2 ne nf nch e n,free p.1 p.2 nch e n,ne,nf,d⟩
theorem Inv.un {t':Nat} (I:Inv X pins σ H s) (u:Un X.fs [] H H' s.heap h') (hok:HOk X.prog X.w H' h'):Inv X pins σ H' { s with heap:=h',toks:=t' }:=by
  obtain ⟨m,⟨o,es,ep,ho,r⟩,_⟩:=id I.loc
  obtain ⟨sl,hL⟩:=u.any ho I.free (by simp)
  exact I.step (g':=s.gens) (d':=s.drawn) (ch:=[]) (fun _ z=>nomatch z) (fun b o _ hb _ e n=>u.keep b o e n hb (by simp)) (fun b o _ hb _ e n=>u.slot b o e n hb (by simp)) (fun b o _ e n=>u.free b o e n (by simp)) (fun b o _ e=>u.there b o e (by simp)) u.tups u.frzs u.tbls (fun m' hm=>by
    obtain ⟨o',es',ep',ho',r'⟩:=hm
    rw [ho] at ho';cases ho'
    exact ⟨_,es',ep',hL,r'⟩) hok I.bare
theorem Inv.call {g':Array GenState} {t':Nat} {d':Drawn} {ch:List Addr} (I:Inv X pins σ H s) (u:Un (frs X.stack) ch H H' s.heap h') (hok:HOk X.prog X.w H' h') (hg:AllBare g')
    (hch:∀ b∈ch,(b∈X.ex∨X.s₀.heap.objs.size≤b)∧b≠X.env.locals∧(∀ x c,X.env.cells.lookup x=some c→c≠b)∧∀ p∈X.pn++pins,p.1≠b) :
    Inv X pins σ H' { s with heap:=h',gens:=g',drawn:=d',toks:=t' }:=by
  obtain ⟨m,⟨o,es,ep,ho,r⟩,_⟩:=id I.loc
  obtain ⟨sl,hL⟩:=u.any ho I.free fun z=>(hch _ z).2.1 rfl
  exact I.step (ch:=ch) hch (fun b o hL hb hc e n=>u.keep b o e n (fun z=>(List.mem_cons.mp (I.stkSub b z)).elim hL hb) hc) (fun b o _ _ hc e n=>u.any e n hc) (fun b o hc e n=>u.free b o e n hc) (fun b o hc e=>u.there b o e hc) u.tups u.frzs u.tbls (fun m' hm=>by
    obtain ⟨o',es',ep',ho',r'⟩:=hm
    rw [ho] at ho';cases ho'
    exact ⟨_,es',ep',hL,r'⟩) hok hg
theorem Inv.turned {t':Nat} {it:Addr} (I:Inv X pins σ H s) (k:∀ b o,b≠it→s.heap.get? b=some o→h'.get? b=some o) (hn:H it=none) (hL:it≠X.env.locals)
    (h1:it∈X.ex∨X.s₀.heap.objs.size≤it) (h2:∀ x c,X.env.cells.lookup x=some c→c≠it) (h3:∀ p∈X.pn++pins,p.1≠it):Inv X pins σ H { s with heap:=h',toks:=t' }:=by
  have nit:∀ b u,H b=some u→b≠it:=fun b u e z=>by rw [z,hn] at e;cases e
  refine I.step (g':=s.gens) (d':=s.drawn) (ch:=[it]) (fun b hb=>?_) (fun b o _ _ hc e _=>k b o (fun z=>hc (by simp [z])) e) (fun b o _ _ hc e _=>⟨o.slots,k b o (fun z=>hc (by simp [z])) e⟩) (fun _ _ _ _ n=>n)
    (fun b o hc e=>⟨o,k b o (fun z=>hc (by simp [z])) e⟩) (fun _ _ e=>e) (fun _ _ _ e=>e) (fun b ps e=>⟨#[],by rw [e];simp⟩) (fun m hm=>?_) (fun b u e=>?_) I.bare
  · have e:b=it:=by simpa using hb
    subst e
    exact ⟨h1,hL,h2,h3⟩
  · obtain ⟨o,es,ep,ho,r⟩:=hm
    exact ⟨o,es,ep,k _ o (Ne.symm hL) ho,r⟩
  · refine (I.hok b u e).stay (fun c v hc q=>k c v ?_ q) (fun _ q=>q) fun _ _ q=>q
    rcases hc with z | z
    · rw [z];exact nit b u e
    · exact nit c _ z
theorem Inv.tok (I:Inv X pins σ H s) (t:Nat):Inv X pins σ H { s with toks:=t }:=I.un (h':=s.heap) (t':=t) Un.refl I.hok
theorem Inv.kept {t':Nat} (I:Inv X pins σ H s) (k:∀ b u,s.heap.get? b=some u→h'.get? b=some u):Inv X pins σ H { s with heap:=h',toks:=t' }:=I.un (Un.kept k) (I.hok.kept k)
theorem Inv.laid {a:Addr} {o:HO} {t':Nat} (I:Inv X pins σ H s) (k:∀ b u,s.heap.get? b=some u→h'.get? b=some u) (hp:s.heap.objs.size≤a) (new:ObjOk X.prog X.w (upd H a o) h' a o) :
    Inv X pins σ (upd H a o) { s with heap:=h',toks:=t' }:=I.un (Un.laid k hp (I.hok.fresh hp)) (I.hok.laid k hp new)
theorem Inv.write {x e:Addr} {o:HO} {t':Nat} (I:Inv X pins σ H s) (mu:Mut (H x)) (he:e=x∨H e=some (.own x)) (k:∀ b u,b≠e→s.heap.get? b=some u→h'.get? b=some u) (heo:∃ u,h'.get? e=some u)
    (new:ObjOk X.prog X.w (upd H x o) h' x o):Inv X pins σ (upd H x o) { s with heap:=h',toks:=t' }:=I.un (Un.write mu he k heo) (I.hok.write mu he k heo new)
theorem Inv.weak {σ':List (Option V)} (I:Inv X pins σ H s) (hl:σ'.length=σ.length) (w:∀ (i:Nat) v,σ'[i]?=some (some v)→σ[i]?=some (some v)):Inv X pins σ' H s:=
  ⟨I.ok,I.os,I.bare,I.base,let ⟨m,hn,hl'⟩:=I.loc;⟨m,hn,fun i x v e1 e2 e3=>hl' i x v e1 (w i v e2) e3⟩,I.cell,I.free,I.freeC,I.pin,I.hok,hl.trans I.len⟩
theorem Inv.pins_of {pins':List (Addr × Obj)} (I:Inv X pins σ H s) (h:∀ p∈pins',s.heap.get? p.1=some p.2∧H p.1=none∧p.1≠X.env.locals∧p.1 ∉ X.fs∧∀ v,p.2.data≠.cell v):Inv X pins' σ H s:=
  ⟨I.ok,I.os,I.bare,I.base,I.loc,I.cell,I.free,I.freeC,fun p hp=>(List.mem_append.mp hp).elim (fun z=>I.pin p (List.mem_append_left _ z)) (h p),I.hok,I.len⟩
theorem nodup_ix {N:List Str} (hN:N.Nodup) {i j:Nat} {x:Str} (a:N[i]?=some x) (b:N[j]?=some x):i=j:=by
  obtain ⟨h1,e1⟩:=List.getElem?_eq_some_iff.mp a
  obtain ⟨h2,e2⟩:=List.getElem?_eq_some_iff.mp b
  exact (List.getElem_inj hN).mp (e1.trans e2.symm)
theorem store_ok2 {M:Model} {A:Around} {E:Value→Shared→Prop} {i:Nat} {x:Str} {v:V} {u:Value} {Q:Unit→Shared→Prop} (I:Inv X pins σ H s) (hN:X.N.Nodup) (hi:X.N[i]?=some x) (hx:Loc X.env.scope x) (r:RelV v u)
    (h:∀ s',Inv X pins (σ.set i (some v)) H s'→(∃ a,Heap.SameBut a s.heap s'.heap∧(a=X.env.locals∨X.env.cells.lookup x=some a))→Q () s') (hf:X.fn x=true∨X.env.scope.names.lookup x=some .local:=by first | exact .inl rfl | exact .inr rfl | assumption):wpAny M A (storeName X.env x u) Q E s:=by
  obtain ⟨m,hn,hl⟩:=id I.loc
  have hcls:(X.env.scope.kind == .class || (X.env.scope.kind == .module && X.env.locals != X.env.globals))=false:=by rw [I.ok.kind];rfl
  have hiσ:i < σ.length:=by rw [I.len];exact (List.getElem?_eq_some_iff.mp hi).1
  have cne:=I.cne
  have tracked:∀ {a:Addr} {h':Heap},(∃ o,s.heap.get? a=some o∧H a=none)→Heap.SameBut a s.heap h'→HOk X.prog X.w H h':=fun {a h'} ha hs b ob e=>by
    obtain ⟨_,_,hfree⟩:=ha
    refine (I.hok b ob e).stay (fun c w' hc q=>(hs.2 c ?_).trans q) (fun _ q=>q) fun _ _ q=>q
    rintro rfl
    rcases hc with rfl | hc
    · rw [hfree] at e;cases e
    · rw [hfree] at hc;cases hc
  rcases hx with hk | hk
  · refine wpAny_storeName_local hk hn (fun h' hn' hs=>?_) hcls
    obtain ⟨oL,_,_,hoL,_⟩:=id hn
    refine h _ ⟨I.ok,I.os,I.bare,⟨fun b o e n hb hx=>?_,fun b o e n hb hx=>?_,I.base.free,fun b o e hx=>?_,I.base.tups,I.base.frzs,I.base.tbls⟩,⟨_,hn',fun j y v' e1 e2 e3=>?_⟩,fun y c e=>?_,I.free,I.freeC,fun p hp=>?_,tracked ⟨oL,hoL,I.free⟩ hs,by simpa using I.len⟩ ⟨_,hs,.inl rfl⟩
    · exact (hs.2 b (Nat.ne_of_lt (Nat.lt_of_lt_of_le (Heap.lt_size e) I.ok.above))).trans (I.base.keep b o e n hb hx)
    · obtain ⟨sl,e1⟩:=I.base.slot b o e n hb hx
      exact ⟨sl,(hs.2 b (Nat.ne_of_lt (Nat.lt_of_lt_of_le (Heap.lt_size e) I.ok.above))).trans e1⟩
    · obtain ⟨o',e1⟩:=I.base.there b o e hx
      exact ⟨o',(hs.2 b (Nat.ne_of_lt (Nat.lt_of_lt_of_le (Heap.lt_size e) I.ok.above))).trans e1⟩
    · by_cases hj:j=i
      · subst hj
        rw [hi] at e1;cases e1
        rw [List.getElem?_set_self hiσ] at e2
        cases e2
        exact ⟨u,r,.inl ⟨hk,by simp⟩⟩
      · rw [List.getElem?_set_ne (Ne.symm hj)] at e2
        obtain ⟨u',r',q⟩:=hl j y v' e1 e2 e3
        refine ⟨u',r',?_⟩
        rcases q with ⟨k,e⟩ | ⟨k,c,e,z⟩
        · refine .inl ⟨k,?_⟩
          have:y≠x:=fun e=>hj (nodup_ix hN e1 (e ▸ hi))
          simp [this,e]
        · exact .inr ⟨k,c,e,z.sameBut hs (cne y c e)⟩
    · obtain ⟨w',z⟩:=I.cell y c e
      exact ⟨w',z.sameBut hs (cne y c e)⟩
    · obtain ⟨e,n,ne,nf,d⟩:=I.pin p hp
      exact ⟨(hs.2 p.1 ne).trans e,n,ne,nf,d⟩
  · have hfn:X.fn x=true:=by
      rcases hf with z | z
      · exact z
      · rw [z] at hk;cases hk
    obtain ⟨c,hc⟩:=I.ok.has x (.inl hk)
    obtain ⟨w',z⟩:=I.cell x c hc
    refine wpAny_storeName_cell I.ok.kind hk hc z (fun h' hc' hs=>?_)
    obtain ⟨oc,hoc,hocd⟩:=id z
    refine h { s with heap:=h' } ⟨I.ok,I.os,I.bare,⟨fun b o e n hb hx=>?_,fun b o e n hb hx=>?_,I.base.free,fun b o e hx=>?_,I.base.tups,I.base.frzs,I.base.tbls⟩,⟨m,hn.sameBut hs (Ne.symm (cne x c hc)),fun j y v' e1 e2 e3=>?_⟩,fun y c' e=>?_,I.free,I.freeC,fun p hp=>?_,tracked ⟨oc,hoc,I.freeC x c hc⟩ hs,by simpa using I.len⟩ ⟨c,hs,.inr hc⟩
    · exact (hs.2 b (Nat.ne_of_lt (Nat.lt_of_lt_of_le (Heap.lt_size e) (I.ok.cab x c hfn hc)))).trans (I.base.keep b o e n hb hx)
    · obtain ⟨sl,e1⟩:=I.base.slot b o e n hb hx
      exact ⟨sl,(hs.2 b (Nat.ne_of_lt (Nat.lt_of_lt_of_le (Heap.lt_size e) (I.ok.cab x c hfn hc)))).trans e1⟩
    · obtain ⟨o',e1⟩:=I.base.there b o e hx
      exact ⟨o',(hs.2 b (Nat.ne_of_lt (Nat.lt_of_lt_of_le (Heap.lt_size e) (I.ok.cab x c hfn hc)))).trans e1⟩
    · by_cases hj:j=i
      · subst hj
        rw [hi] at e1;cases e1
        rw [List.getElem?_set_self hiσ] at e2
        cases e2
        exact ⟨u,r,.inr ⟨.inl hk,c,hc,hc'⟩⟩
      · rw [List.getElem?_set_ne (Ne.symm hj)] at e2
        obtain ⟨u',r',q⟩:=hl j y v' e1 e2 e3
        refine ⟨u',r',?_⟩
        rcases q with q | ⟨k,c',e,z'⟩
        · exact .inl q
        · refine .inr ⟨k,c',e,z'.sameBut hs ?_⟩
          rintro rfl
          exact hj (nodup_ix hN e1 (I.ok.inj _ _ _ e hc ▸ hi))
    · by_cases hcc:c'=c
      · subst hcc;exact ⟨_,hc'⟩
      · obtain ⟨w2,z2⟩:=I.cell y c' e
        exact ⟨w2,z2.sameBut hs hcc⟩
    · obtain ⟨e,n,ne,nf,d⟩:=I.pin p hp
      refine ⟨(hs.2 p.1 ?_).trans e,n,ne,nf,d⟩
      intro q
      rw [q,hoc] at e
      have q':oc=p.2:=Option.some.inj e
      exact d w' (by rw [← q'];exact hocd)
theorem store_ok {M:Model} {A:Around} {E:Value→Shared→Prop} {i:Nat} {x:Str} {v:V} {u:Value} {Q:Unit→Shared→Prop} (I:Inv X pins σ H s) (hN:X.N.Nodup) (hi:X.N[i]?=some x) (hx:Loc X.env.scope x) (r:RelV v u)
    (h:∀ s',Inv X pins (σ.set i (some v)) H s'→Q () s') (hf:X.fn x=true∨X.env.scope.names.lookup x=some .local:=by first | exact .inl rfl | exact .inr rfl | assumption):wpAny M A (storeName X.env x u) Q E s:=
  store_ok2 I hN hi hx r (fun s' I' _=>h s' I') hf
theorem Inv.call' {s':Shared} {ch:List Addr} (I:Inv X pins σ H s) (ho:s'.os=s.os) (u:Un (frs X.stack) ch H H' s.heap s'.heap) (hok:HOk X.prog X.w H' s'.heap) (hg:AllBare s'.gens)
    (hch:∀ b∈ch,(b∈X.ex∨X.s₀.heap.objs.size≤b)∧b≠X.env.locals∧(∀ x c,X.env.cells.lookup x=some c→c≠b)∧∀ p∈X.pn++pins,p.1≠b):Inv X pins σ H' s':=by
  obtain ⟨h',g',d',t',o'⟩:=s'
  have e:o'=s.os:=ho
  subst e
  exact I.call (g':=g') (t':=t') (d':=d') u hok hg hch
end
abbrev XK:=Value→Option Addr→Hp→Prop
abbrev St:=List (Option V)
abbrev VK:=V→Hp→Prop
abbrev TE:=St→Hp→VK→Prop
abbrev TT:=St→Hp→(Bool→Hp→Prop)→Prop
abbrev TA:=St→Hp→(List V→Hp→Prop)→Prop
structure Ends where
  nx:St→Hp→Prop
  rt:VK
  bk:St→Hp→Prop:=fun _ _=>False
  ct:St→Hp→Prop:=fun _ _=>False
abbrev TS:=Ends→St→Hp→Prop
def EP (X:Cx) (pins:List (Addr × Obj)) (σ:St) (Q:VK) (u:Value) (s':Shared):Prop:=∃ v H',Inv X pins σ H' s'∧RelV v u∧Q v H'
def TP (X:Cx) (pins:List (Addr × Obj)) (σ:St) (Q:Bool→Hp→Prop) (b:Bool) (s':Shared):Prop:=∃ H',Inv X pins σ H' s'∧Q b H'
def AP (X:Cx) (pins:List (Addr × Obj)) (σ:St) (Q:List V→Hp→Prop) (us:List Value) (s':Shared):Prop:=∃ vs H',Inv X pins σ H' s'∧Vals vs us∧Q vs H'
def SP (X:Cx) (pins:List (Addr × Obj)) (D:Ends) (f:Flow) (s':Shared):Prop:=
  match f with
  | .next=>∃ σ' H',Inv X pins σ' H' s'∧D.nx σ' H'
  | .brk=>∃ σ' H',Inv X pins σ' H' s'∧D.bk σ' H'
  | .cont=>∃ σ' H',Inv X pins σ' H' s'∧D.ct σ' H'
  | .ret u=>∃ v σ' H',Inv X pins σ' H' s'∧RelV v u∧D.rt v H'
def PE (X:Cx) (e:Expr) (t:TE):Prop:=
  ∀ (pins:List (Addr × Obj)) (s:Shared) (σ:St) (H:Hp) (Q:VK),Inv X pins σ H s→t σ H Q→wpAny (model X.prog X.w) X.A (eval e X.env) (EP X pins σ Q) X.xe s
def PT (X:Cx) (e:Expr) (t:TT):Prop:=
  ∀ (pins:List (Addr × Obj)) (s:Shared) (σ:St) (H:Hp) (Q:Bool→Hp→Prop),Inv X pins σ H s→t σ H Q→wpAny (model X.prog X.w) X.A (isTrue e X.env (eval e X.env)) (TP X pins σ Q) X.xe s
def PW (X:Cx) (e:Expr) (t:TT):Prop:=
  ∀ (whole:Sem Value) (pins:List (Addr × Obj)) (s:Shared) (σ:St) (H:Hp) (Q:Bool→Hp→Prop),Inv X pins σ H s→t σ H Q→wpAny (model X.prog X.w) X.A (isTrue e X.env whole) (TP X pins σ Q) X.xe s
theorem PW.pt {X:Cx} {e:Expr} {t:TT} (h:PW X e t):PT X e t:=h _
def PA (X:Cx) (es:List Expr) (t:TA):Prop:=
  ∀ (pos:Pos) (pins:List (Addr × Obj)) (s:Shared) (σ:St) (H:Hp) (Q:List V→Hp→Prop),Inv X pins σ H s→t σ H Q→wpAny (model X.prog X.w) X.A (spliced (backTo pos (starEach es X.env))) (AP X pins σ Q) X.xe s
def PS (X:Cx) (st:Stmt) (t:TS):Prop:=
  ∀ (pins:List (Addr × Obj)) (s:Shared) (σ:St) (H:Hp) (D:Ends),Inv X pins σ H s→t D σ H→wpAny (model X.prog X.w) X.A (exec st X.env) (SP X pins D) X.xe s
def PSs (X:Cx) (st:List Stmt) (t:TS):Prop:=
  ∀ (pins:List (Addr × Obj)) (s:Shared) (σ:St) (H:Hp) (D:Ends),Inv X pins σ H s→t D σ H→wpAny (model X.prog X.w) X.A (execs st X.env) (SP X pins D) X.xe s
theorem thn {α:Type} {t:Sem α} {Q Q':α→Shared→Prop} {M:Model} {A:Around} {E:Value→Shared→Prop} {s:Shared} (h:wpAny M A t Q E s) (hQ:∀ a s,Q a s→Q' a s):wpAny M A t Q' E s:=wpAny_mono h hQ fun _ _ x=>x
end L2
namespace L2
open PySem PySem.Spec PyProof.Rows
section
variable {X:Cx}
def tVar (i:Nat):TE:=fun σ H Q=>∃ v,σ[i]?=some (some v)∧Q v H
def tC (v:V):TE:=fun _ H Q=>Q v H
theorem pe_var {i:Nat} {x:Str} {pos:Pos} (hN:X.N[i]?=some x) (hv:Vis X.env.scope x) (hd:(x == ("__debug__" : Str))=false:=by decide) (hcd:(x == ("__classdict__" : Str))=false:=by decide):PE X (.Name x pos) (tVar i):=by
  intro pins s σ H Q I h
  obtain ⟨v,e,h⟩:=h
  obtain ⟨m,hn,hl⟩:=I.loc
  obtain ⟨u,r,l⟩:=hl i x v hN e hv
  have fin:EP X pins σ Q u s:=⟨v,H,I,r,h⟩
  rcases l with ⟨hk,hm⟩ | ⟨hk,c,hc,hcell⟩
  · exact wpAny_Name (wpAny_loadName_local I.ok.kind hk hn hm fin) hd
  · rcases hk with hk | hk
    · exact wpAny_Name (wpAny_loadName_cell I.ok.kind hk hc hcell fin) hd
    · exact wpAny_Name (wpAny_loadName_free I.ok.kind hk hc hcell fin hcd) hd
theorem pe_int {i j pos}:PE X (.Constant (.int i) j pos) (tC (.int i)):=fun _ _ _ H _ I h=>wpAny_Constant_int ⟨.int i,H,I.tok _,⟨_,rfl⟩,h⟩
theorem pe_bl {b j pos}:PE X (.Constant (.bool b) j pos) (tC (.bl b)):=fun _ _ _ H _ I h=>Constant_bool ⟨.bl b,H,I,rfl,h⟩
theorem pe_non {j pos}:PE X (.Constant .none j pos) (tC .non):=fun _ _ _ H _ I h=>Constant_none ⟨.non,H,I,rfl,h⟩
theorem pe_str {x j pos}:PE X (.Constant (.str x) j pos) (tC (.str x)):=fun _ _ _ H _ I h=>Calls.Constant_str ⟨.str x,H,I.tok _,⟨_,rfl⟩,h⟩
def Gl (X:Cx) (x:Str):Prop:=X.env.kindOf x=some .globalImplicit
theorem ld_glob {E:Value→Shared→Prop} {pins:List (Addr × Obj)} {s:Shared} {σ:St} {H:Hp} {x:Str} {u:Value} {pos:Pos} {Q:Value→Shared→Prop} (I:Inv X pins σ H s) (hg:Gl X x) (hm:X.mg x=some u) (h:Q u s)
    (hd:(x == ("__debug__" : Str))=false:=by decide):wpAny (model X.prog X.w) X.A (eval (.Name x pos) X.env) Q E s:=
  Calls.Name_function_global I.ok.kind hg (Calls.loadGlobal_global (by rw [I.ok.glob];exact I.mod.glob.keeps I.bk) hm h) hd
theorem ld_blt {E:Value→Shared→Prop} {pins:List (Addr × Obj)} {s:Shared} {σ:St} {H:Hp} {x:Str} {u:Value} {pos:Pos} {Q:Value→Shared→Prop} (I:Inv X pins σ H s) (hg:Gl X x) (hm:X.mg x=none) (hv:bootBuiltins x=some u) (h:Q u s)
    (hn:x ≠ "__name__" := by decide) (hd:(x == ("__debug__" : Str))=false:=by decide):wpAny (model X.prog X.w) X.A (eval (.Name x pos) X.env) Q E s:=by
  obtain ⟨mb,h1,h2⟩:=I.mod.blt
  exact Calls.Name_function_global I.ok.kind hg (Calls.loadGlobal_builtin (by rw [I.ok.glob];exact I.mod.glob.keeps I.bk) hm (by rw [I.ok.blt];exact h1.keeps I.bk) ((h2 x hn).trans hv) h) hd
theorem pe_glob {x:Str} {v:V} {u:Value} {pos:Pos} (hg:Gl X x) (hm:X.mg x=some u) (r:RelV v u) (hd:(x == ("__debug__" : Str))=false:=by decide):PE X (.Name x pos) (tC v):=
  fun _ _ _ H _ I h=>ld_glob I hg hm ⟨v,H,I,r,h⟩ hd
theorem pe_bltn {x:Str} {v:V} {u:Value} {pos:Pos} (hg:Gl X x) (hm:X.mg x=none) (hv:bootBuiltins x=some u) (r:RelV v u) (hn:x ≠ "__name__" := by decide) (hd:(x == ("__debug__" : Str))=false:=by decide):PE X (.Name x pos) (tC v):=
  fun _ _ _ H _ I h=>ld_blt I hg hm hv ⟨v,H,I,r,h⟩ hn hd
variable {a b:Expr} {ta tb:TE} {pos:Pos}
def PC (X:Cx) (op:CmpOp) (a b:Expr) (t:TE):Prop:=
  ∀ (pins:List (Addr × Obj)) (s:Shared) (σ:St) (H:Hp) (Q:VK),Inv X pins σ H s→t σ H Q →
    wpAny (model X.prog X.w) X.A (eval a X.env) (fun v s₁=>wpAny (model X.prog X.w) X.A (eval b X.env) (fun u s₂=>wpAny (model X.prog X.w) X.A (compareOp op v u) (EP X pins σ Q) X.xe s₂) X.xe s₁) X.xe s
theorem nobehind (b:Expr) {op:CmpOp} (h:op≠.In) (h2:op≠.NotIn):behindInMarks op b=false:=by
  have e1:(op == CmpOp.In)=false:=by cases op <;> first | rfl | exact absurd rfl h
  have e2:(op == CmpOp.NotIn)=false:=by cases op <;> first | rfl | exact absurd rfl h2
  cases b <;> simp [behindInMarks,e1,e2]
def tB (t:TE):TT:=fun σ H Q=>t σ H fun x H1=>∃ c,x=.bl c∧Q c H1
theorem pt_cmp {op:CmpOp} {t:TE} (h:PC X op a b t) (h1:behindInMarks op b=false:=by first | exact nobehind _ (by decide) (by decide) | rfl):PT X (.Compare a [op] [b] pos) (tB t):=by
  intro pins s σ H Q I hw
  refine wpAny_isTrue_Compare1 (thn (h pins s σ H _ I hw) fun v s1 h1=>thn h1 fun u s2 h2=>thn h2 fun c s3 ⟨x,H1,I1,r1,q1⟩=>?_) h1
  obtain ⟨d,rfl,q⟩:=q1
  cases r1
  exact wpAny_truthy_bool ⟨H1,I1,q⟩
theorem pt_val {e:Expr} {t:TE} (h:PE X e t) (he:∀ whole,isTrue e X.env whole=(do let v ← whole;standAt e.pos;holding [v] (truthy v)):=by intro _;rfl):PT X e (tB t):=by
  intro pins s σ H Q I hw
  refine isTrue_plain (thn (h pins s σ H _ I hw) fun v s1 ⟨x,H1,I1,r1,q1⟩=>?_) (he _)
  obtain ⟨d,rfl,q⟩:=q1
  cases r1
  exact wpAny_truthy_bool ⟨H1,I1,q⟩
variable {tA tB':TT} {rest:List Expr}
def tAnd (t u:TT):TT:=fun σ H Q=>t σ H fun c H1=>if c=true then u σ H1 Q else Q false H1
def tOr (t u:TT):TT:=fun σ H Q=>t σ H fun c H1=>if c=true then Q true H1 else u σ H1 Q
def tNot (t:TT):TT:=fun σ H Q=>t σ H fun c H1=>Q (!c) H1
theorem pw_and1 (ha:PT X a tA):PW X (.BoolOp .And [a] pos) tA:=by
  intro wh pins s σ H Q I h
  refine isTrue_and (thn (ha pins s σ H Q I h) fun c s1 e=>?_)
  cases c with
  | true=>exact isTrue_and_nil e
  | false=>exact e
theorem pw_or1 (ha:PT X a tA):PW X (.BoolOp .Or [a] pos) tA:=by
  intro wh pins s σ H Q I h
  refine isTrue_or (thn (ha pins s σ H Q I h) fun c s1 e=>?_)
  cases c with
  | false=>exact isTrue_or_nil e
  | true=>exact e
theorem pw_and (ha:PT X a tA) (hb:PW X (.BoolOp .And (b :: rest) pos) tB'):PW X (.BoolOp .And (a :: b :: rest) pos) (tAnd tA tB'):=by
  intro wh pins s σ H Q I h
  refine isTrue_and (thn (ha pins s σ H _ I h) fun c s1 ⟨H1,I1,q1⟩=>?_)
  cases c with
  | true=>exact hb wh pins s1 σ H1 Q I1 q1
  | false=>exact ⟨H1,I1,q1⟩
theorem pw_or (ha:PT X a tA) (hb:PW X (.BoolOp .Or (b :: rest) pos) tB'):PW X (.BoolOp .Or (a :: b :: rest) pos) (tOr tA tB'):=by
  intro wh pins s σ H Q I h
  refine isTrue_or (thn (ha pins s σ H _ I h) fun c s1 ⟨H1,I1,q1⟩=>?_)
  cases c with
  | true=>exact ⟨H1,I1,q1⟩
  | false=>exact hb wh pins s1 σ H1 Q I1 q1
theorem pt_not (ha:PT X a tA):PT X (.UnaryOp .Not a pos) (tNot tA):=by
  intro pins s σ H Q I h
  exact isTrue_not (ha pins s σ H (fun c H1=>Q (!c) H1) I h)
def tAndV (ta tb:TE):TE:=fun σ H Q=>ta σ H fun x H1=>∃ c,x=.bl c∧if c=true then tb σ H1 Q else Q (.bl false) H1
def tOrV (ta tb:TE):TE:=fun σ H Q=>ta σ H fun x H1=>∃ c,x=.bl c∧if c=true then Q (.bl true) H1 else tb σ H1 Q
def tNotV (ta:TE):TE:=fun σ H Q=>ta σ H fun x H1=>∃ c,x=.bl c∧Q (.bl (!c)) H1
theorem pe_one {op} {t:TE} (h:PE X a t):PE X (.BoolOp op [a] pos) t:=fun pins s σ H Q I hw=>BoolOp_one (h pins s σ H Q I hw)
theorem pe_and (ha:PE X a ta) (hb:PE X (.BoolOp .And (b :: rest) pos) tb):PE X (.BoolOp .And (a :: b :: rest) pos) (tAndV ta tb):=by
  intro pins s σ H Q I h
  refine BoolOp_and (thn (ha pins s σ H _ I h) fun v s1 ⟨x,H1,I1,r1,q1⟩=>?_)
  obtain ⟨c,rfl,q1⟩:=q1
  cases r1
  refine wpAny_truthy_bool ?_
  cases c with
  | true=>exact hb pins s1 σ H1 Q I1 q1
  | false=>exact ⟨.bl false,H1,I1,rfl,q1⟩
theorem pe_or (ha:PE X a ta) (hb:PE X (.BoolOp .Or (b :: rest) pos) tb):PE X (.BoolOp .Or (a :: b :: rest) pos) (tOrV ta tb):=by
  intro pins s σ H Q I h
  refine BoolOp_or (thn (ha pins s σ H _ I h) fun v s1 ⟨x,H1,I1,r1,q1⟩=>?_)
  obtain ⟨c,rfl,q1⟩:=q1
  cases r1
  refine wpAny_truthy_bool ?_
  cases c with
  | false=>exact hb pins s1 σ H1 Q I1 q1
  | true=>exact ⟨.bl true,H1,I1,rfl,q1⟩
theorem pe_not (ha:PE X a ta):PE X (.UnaryOp .Not a pos) (tNotV ta):=by
  intro pins s σ H Q I h
  refine UnaryOp_ (thn (ha pins s σ H _ I h) fun v s1 ⟨x,H1,I1,r1,q1⟩=>?_)
  obtain ⟨c,rfl,q1⟩:=q1
  cases r1
  exact not_of (wpAny_truthy_bool ⟨.bl (!c),H1,I1,rfl,q1⟩)
def tIf (t:TT) (ta tb:TE):TE:=fun σ H Q=>t σ H fun c H1=>if c=true then ta σ H1 Q else tb σ H1 Q
theorem pe_ifExp {c:Expr} (hc:PT X c tA) (ha:PE X a ta) (hb:PE X b tb):PE X (.IfExp c a b pos) (tIf tA ta tb):=by
  intro pins s σ H Q I h
  refine wpAny_IfExp (thn (hc pins s σ H _ I h) fun d s1 ⟨H1,I1,q1⟩=>?_)
  cases d with
  | true=>exact ha pins s1 σ H1 Q I1 q1
  | false=>exact hb pins s1 σ H1 Q I1 q1
end
end L2
namespace L2
open PySem PySem.Spec PyProof.Rows
def SqL (K:PySem.W.Frag) (H:Hp) (a:Addr) (xs:List V):Prop:=
  Rd H a (.lst xs) ∨
    ∃ (o:Obj) (its:Array Value) (n:Nat),K.lookup a=some o∧o.cls=.type "list" ∧ o.dict=none∧o.data=.seq its n∧its.size≤sizeLine∧Vals xs its.toList
def SqT (K:PySem.W.Frag) (H:Hp) (a:Addr) (xs:List V):Prop:=
  Rd H a (.tup xs) ∨
    ∃ (o:Obj) (its:Array Value) (n:Nat),K.lookup a=some o∧o.cls=.type "tuple" ∧ o.data=.seq its n∧its.size≤sizeLine∧Vals xs its.toList
def absV:Value→Option V
  | .none=>some .non
  | .bool b=>some (.bl b)
  | .int i _=>some (.int i)
  | .str x _=>some (.str x)
  | .bytes b _=>some (.byt b)
  | .float b _=>some (.flt b)
  | .ref a=>some (.ref a)
  | .type n=>some (.ty n)
  | _=>none
theorem RelV.abs {x:V} {u:Value} (r:RelV x u):absV u=some x:=by
  cases x with
  | non=>cases r;rfl
  | bl _=>cases r;rfl
  | int _=>obtain ⟨t,rfl⟩:=r;rfl
  | str _=>obtain ⟨t,rfl⟩:=r;rfl
  | byt _=>obtain ⟨t,rfl⟩:=r;rfl
  | flt _=>obtain ⟨t,rfl⟩:=r;rfl
  | ref _=>cases r;rfl
  | ty _=>cases r;rfl
theorem RelV.inj {x y:V} {u:Value} (r:RelV x u) (q:RelV y u):x=y:=Option.some.inj (r.abs.symm.trans q.abs)
theorem Vals.inj:∀ {xs ys:List V} {us:List Value},Vals xs us→Vals ys us→xs=ys
  | _,_,_,.nil,.nil=>rfl
  | _,_,_,.cons r t,.cons r' t'=>by rw [r.inj r',Vals.inj t t']
section
variable {X:Cx} {pins:List (Addr × Obj)} {σ:St} {H:Hp} {s:Shared} {a:Addr} {xs ys:List V}
theorem SqL.of {K:PySem.W.Frag} (h:H a=some (.lst xs)):SqL K H a xs:=.inl (.inl h)
theorem SqT.of {K:PySem.W.Frag} (h:H a=some (.tup xs)):SqT K H a xs:=.inl (.inl h)
theorem Inv.list (I:Inv X pins σ H s) (h:SqL X.K H a xs):∃ its:List Value,Vals xs its∧PlainL s.heap a its.toArray∧xs.length≤sizeLine:=by
  rcases h with h | ⟨o,its,n,hk,hc,hd,hs,hz,r⟩
  · obtain ⟨z,its,n,r,e⟩:=h.ok I.hok
    exact ⟨its,r,⟨_,n,e,rfl,rfl,rfl⟩,z⟩
  · refine ⟨its.toList,r,⟨o,n,I.kIn a o hk,hc,hd,by simpa using hs⟩,?_⟩
    have e:=r.length
    simp only [Array.length_toList] at e
    omega
theorem Inv.tuple (I:Inv X pins σ H s) (h:SqT X.K H a xs):∃ its:List Value,Vals xs its∧IsTup s.heap a its.toArray∧xs.length≤sizeLine:=by
  rcases h with h | ⟨o,its,n,hk,hc,hs,hz,r⟩
  · obtain ⟨z,its,r,p⟩:=h.ok I.hok
    exact ⟨its,r,p,z.1⟩
  · refine ⟨its.toList,r,⟨o,I.kIn a o hk,hc,n,by simpa using hs⟩,?_⟩
    have e:=r.length
    simp only [Array.length_toList] at e
    omega
theorem Inv.list_inj (I:Inv X pins σ H s) (h:SqL X.K H a xs) (h':SqL X.K H a ys):xs=ys:=by
  obtain ⟨its,r,⟨o,n,e,_,_,d⟩,_⟩:=I.list h
  obtain ⟨its',r',⟨o',n',e',_,_,d'⟩,_⟩:=I.list h'
  rw [e] at e';cases e'
  rw [d] at d'
  injection d' with d1 _
  have:its=its':=by simpa using congrArg Array.toList d1
  subst this
  exact r.inj r'
end
abbrev Cx.wish (X:Cx) (E:Value→Shared→Prop):Cx:={ X with xe:=E }
abbrev Cx.nox (X:Cx):Cx:=X.wish fun _ _=>False
theorem Cx.Ok.wish {X:Cx} (ok:X.Ok) (E:Value→Shared→Prop):(X.wish E).Ok:=
  ⟨ok.mod,ok.kind,ok.glob,ok.blt,ok.above,ok.inj,ok.has,ok.cab,ok.hd,ok.frames,ok.stk,ok.exf,ok.bs,ok.bsz,ok.noex,ok.exfs,ok.funs,ok.frf⟩
theorem Cx.Ok.unwish {X:Cx} {E:Value→Shared→Prop} (ok:(X.wish E).Ok):X.Ok:=
  ⟨ok.mod,ok.kind,ok.glob,ok.blt,ok.above,ok.inj,ok.has,ok.cab,ok.hd,ok.frames,ok.stk,ok.exf,ok.bs,ok.bsz,ok.noex,ok.exfs,ok.funs,ok.frf⟩
section
variable {X:Cx} {pins:List (Addr × Obj)} {σ:St} {H:Hp} {s:Shared} {E:Value→Shared→Prop}
theorem Inv.wish (I:Inv X pins σ H s) (E:Value→Shared→Prop):Inv (X.wish E) pins σ H s:=⟨I.ok.wish E,I.os,I.bare,I.base,I.loc,I.cell,I.free,I.freeC,I.pin,I.hok,I.len⟩
theorem Inv.unwish (I:Inv (X.wish E) pins σ H s):Inv X pins σ H s:=⟨I.ok.unwish,I.os,I.bare,I.base,I.loc,I.cell,I.free,I.freeC,I.pin,I.hok,I.len⟩
theorem SP.unwish {D:Ends} {f:Flow} {s':Shared} (h:SP (X.wish E) pins D f s'):SP X pins D f s':=by
  cases f with
  | next=>obtain ⟨σ',H',I,q⟩:=h;exact ⟨σ',H',I.unwish,q⟩
  | brk=>obtain ⟨σ',H',I,q⟩:=h;exact ⟨σ',H',I.unwish,q⟩
  | cont=>obtain ⟨σ',H',I,q⟩:=h;exact ⟨σ',H',I.unwish,q⟩
  | ret u=>obtain ⟨v,σ',H',I,r,q⟩:=h;exact ⟨v,σ',H',I.unwish,r,q⟩
theorem PSs.nox {st:List Stmt} {t:TS} (h:PSs X.nox st t):PSs X st t:=fun pins s σ H D I hw=>
  wpAny_mono (h pins s σ H D (I.wish _) hw) (fun _ _ q=>q.unwish) fun _ _ z=>False.elim z
end
section
variable {X:Cx} {st:Stmt} {rest:List Stmt} {t u:TS} {e:Expr} {te:TE} {pos:Pos}
def tNext:TS:=fun D σ H=>D.nx σ H
def tSeq (t u:TS):TS:=fun D σ H=>t { D with nx:=u D } σ H
theorem pss_nil:PSs X [] tNext:=fun _ _ σ H _ I h=>wpAny_execs_nil ⟨σ,H,I,h⟩
theorem pss_cons (h1:PS X st t) (h2:PSs X rest u):PSs X (st :: rest) (tSeq t u):=by
  intro pins s σ H D I h
  refine wpAny_execs_cons (thn (h1 pins s σ H { D with nx:=u D } I h) fun f s1 q=>?_)
  cases f with
  | next=>
    obtain ⟨σ',H',I',q⟩:=q
    exact h2 pins s1 σ' H' D I' q
  | ret v=>exact q
  | brk=>exact q
  | cont=>exact q
theorem pss_one (h1:PS X st t):PSs X [st] t:=by
  intro pins s σ H D I h
  refine wpAny_execs_cons (thn (h1 pins s σ H D I h) fun f s1 q=>?_)
  cases f with
  | next=>exact wpAny_execs_nil q
  | ret v=>exact q
  | brk=>exact q
  | cont=>exact q
theorem Inv.quiet {pins:List (Addr × Obj)} {σ:St} {H:Hp} {s:Shared} (I:Inv X pins σ H s):interactive X.env=false:=by simp [interactive,I.ok.kind]
def tDrop (te:TE):TS:=fun D σ H=>te σ H fun _ H1=>D.nx σ H1
theorem ps_expr (he:PE X e te) (hs:swapsWith e none pos.line X.env=pure false:=by rfl):PS X (.Expr e pos) (tDrop te):=by
  intro pins s σ H D I h
  exact wpAny_Expr_any (thn (he pins s σ H _ I h) fun v s1 ⟨x,H1,I1,r1,q1⟩=>⟨σ,H1,I1,q1⟩) I.quiet hs
def tRet (te:TE):TS:=fun D σ H=>te σ H D.rt
theorem ps_ret (he:PE X e te):PS X (.Return (some e) pos) (tRet te):=by
  intro pins s σ H D I h
  exact wpAny_Return_some (thn (he pins s σ H _ I h) fun v s1 ⟨x,H1,I1,r1,q1⟩=>⟨x,σ,H1,I1,r1,q1⟩)
def tIfS (c:TT) (t u:TS):TS:=fun D σ H=>c σ H fun b H1=>if b=true then t D σ H1 else u D σ H1
theorem ps_if {c:Expr} {a b:List Stmt} {tc:TT} (hc:PT X c tc) (ha:PSs X a t) (hb:PSs X b u):PS X (.If c a b pos) (tIfS tc t u):=by
  intro pins s σ H D I h
  refine wpAny_If (thn (hc pins s σ H _ I h) fun d s1 ⟨H1,I1,q1⟩=>?_)
  cases d with
  | true=>exact ha pins s1 σ H1 D I1 q1
  | false=>exact hb pins s1 σ H1 D I1 q1
end
abbrev TG:=V→St→Hp→(St→Hp→Prop)→Prop
abbrev TGs:=List V→St→Hp→(St→Hp→Prop)→Prop
def PG (X:Cx) (target:Expr) (t:TG):Prop:=
  ∀ (pins:List (Addr × Obj)) (s:Shared) (σ:St) (H:Hp) (v:V) (u:Value) (Q:St→Hp→Prop),Inv X pins σ H s→RelV v u→t v σ H Q →
    wpAny (model X.prog X.w) X.A (assign target X.env u) (fun _ s'=>∃ σ' H',Inv X pins σ' H' s'∧Q σ' H') X.xe s
def PGs (X:Cx) (ts:List Expr) (t:TGs):Prop:=
  ∀ (pins:List (Addr × Obj)) (s:Shared) (σ:St) (H:Hp) (vs:List V) (us:List Value) (Q:St→Hp→Prop),Inv X pins σ H s→Vals vs us→t vs σ H Q →
    wpAny (model X.prog X.w) X.A (assignInOrder ((assignEach ts X.env).map (·.2)) us) (fun _ s'=>∃ σ' H',Inv X pins σ' H' s'∧Q σ' H') X.xe s
abbrev TSet:=V→V→V→Hp→(Hp→Prop)→Prop
def PSet (X:Cx) (t:TSet):Prop:=
  ∀ (pins:List (Addr × Obj)) (s:Shared) (σ:St) (H:Hp) (o i v:V) (ov iv u:Value) (Q:Hp→Prop),Inv X pins σ H s→RelV o ov→RelV i iv→RelV v u→t o i v H Q →
    wpAny (model X.prog X.w) X.A (setItem ov iv u) (fun _ s'=>∃ H',Inv X pins σ H' s'∧Q H') X.xe s
section
variable {X:Cx} {pos:Pos}
def gName (i:Nat):TG:=fun v σ H Q=>Q (σ.set i (some v)) H
theorem pg_name {i:Nat} {x:Str} (hN:X.N.Nodup) (hi:X.N[i]?=some x) (hx:Loc X.env.scope x) (hf:X.fn x=true∨X.env.scope.names.lookup x=some .local:=by first | exact .inl rfl | exact .inr rfl | assumption):PG X (.Name x pos) (gName i):=by
  intro pins s σ H v u Q I r h
  exact wpAny_assign_Name (store_ok I hN hi hx r (fun s' I'=>⟨_,H,I',h⟩) hf)
def gNil:TGs:=fun vs σ H Q=>vs=[]∧Q σ H
def gCons (t:TG) (u:TGs):TGs:=fun vs σ H Q=>∃ v r,vs=v :: r∧t v σ H fun σ' H'=>u r σ' H' Q
theorem pgs_nil:PGs X [] gNil:=by
  intro pins s σ H vs us Q I r h
  obtain ⟨e,h⟩:=h
  subst e
  cases r
  exact assignInOrder_nil ⟨σ,H,I,h⟩
theorem pgs_cons {e:Expr} {es:List Expr} {t:TG} {u:TGs} (h1:PG X e t) (h2:PGs X es u)
    (hs:(assignEach (e :: es) X.env).map (·.2)=assign e X.env :: (assignEach es X.env).map (·.2):=by rfl):PGs X (e :: es) (gCons t u):=by
  intro pins s σ H vs us Q I r h
  obtain ⟨v,vr,e1,h⟩:=h
  subst e1
  cases r with
  | cons r rr=>
    rw [hs]
    refine assignInOrder_cons (thn (h1 pins s σ H _ _ _ I r h) fun _ s1 ⟨σ1,H1,I1,q1⟩=>?_)
    exact h2 pins s1 σ1 H1 _ _ Q I1 rr q1
def gTup (K:PySem.W.Frag) (n:Nat) (t:TGs):TG:=fun v σ H Q=>∃ a xs,v=.ref a∧SqT K H a xs∧xs.length=n∧t xs σ H Q
theorem pg_tup {es:List Expr} {k:Nat} {t:TGs} {n:Nat} (hc:X.calm=true) (h:PGs X es t)
    (hn:(assignEach es X.env).length=n:=by rfl) (hst:(assignEach es X.env).findIdx? (·.1)=none:=by rfl):PG X (.Tuple es k pos) (gTup X.K n t):=by
  intro pins s σ H v u Q I r hw
  obtain ⟨a,xs,e1,hq,hl,hw⟩:=hw
  subst e1
  cases r
  obtain ⟨its,rv,ht,hz⟩:=I.tuple hq
  refine assign_Tuple_tuple (I.ok.hd hc) ht (by simp [hn,← hl,rv.length]) hst fun h' hx=>?_
  have I1:Inv X pins σ H { s with heap:=h' }:=I.kept (t':=s.toks) fun b o e=>hx b o (Nat.ne_of_lt (Heap.lt_size e)) e
  exact h pins _ σ H xs _ Q I1 (by simpa using rv) hw
def gSub (to ti:TE) (t:TSet):TG:=fun v σ H Q=>to σ H fun o H1=>ti σ H1 fun i H2=>t o i v H2 fun H3=>Q σ H3
theorem pg_sub {o i:Expr} {to ti:TE} {t:TSet} (ho:PE X o to) (hi:PE X i ti) (hs:PSet X t)
    (ha:∀ v,assign (.Subscript o i pos) X.env v=(do
      let ov ← holding [v] (eval o X.env)
      let iv ← holding [v,ov] (eval i X.env)
      standAt pos
      holding [v,ov,iv] (setItem ov iv v)
      release [v,ov,iv] []):=by intro _;rfl):PG X (.Subscript o i pos) (gSub to ti t):=by
  intro pins s σ H v u Q I r h
  rw [ha]
  refine wpAny_bind (wpAny_holding (thn (ho pins s σ H _ I h) fun ov s1 ⟨x,H1,I1,r1,q1⟩=>?_))
  refine wpAny_bind (wpAny_holding (thn (hi pins s1 σ H1 _ I1 q1) fun iv s2 ⟨y,H2,I2,r2,q2⟩=>?_))
  refine wpAny_bind (wpAny_standAt (wpAny_bind (wpAny_holding (thn (hs pins s2 σ H2 x y v ov iv u _ I2 r1 r2 r q2) fun _ s3 ⟨H3,I3,q3⟩=>?_))))
  exact wpAny_release ⟨σ,H3,I3,q3⟩
def tAsg (te:TE) (g:TG):TS:=fun D σ H=>te σ H fun x H1=>g x σ H1 D.nx
theorem ps_asg {tg e:Expr} {te:TE} {g:TG} (he:PE X e te) (hg:PG X tg g) (hs:swapsWithSole [tg] e pos.line X.env=pure false:=by rfl) (hw:swappedStores [tg] e X.env=pure none:=by rfl)
    (h1:(assignEach [tg] X.env).map (·.2)=[assign tg X.env]:=by rfl):PS X (.Assign [tg] e pos) (tAsg te g):=by
  intro pins s σ H D I h
  refine wpAny_Assign_stores (thn (he pins s σ H _ I h) fun v s1 ⟨x,H1,I1,r1,q1⟩=>?_) hs hw
  rw [h1]
  exact thn (hg pins s1 σ H1 x v _ I1 r1 q1) fun _ s2 q=>q
theorem ps_set {i:Nat} {x:Str} {e:Expr} {te:TE} {pos':Pos} (hN:X.N.Nodup) (hi:X.N[i]?=some x) (hx:Loc X.env.scope x) (he:PE X e te) (hs:swapsWith e (some (.Name x pos')) pos.line X.env=pure false:=by rfl) (hf:X.fn x=true∨X.env.scope.names.lookup x=some .local:=by first | exact .inl rfl | exact .inr rfl | assumption) :
    PS X (.Assign [.Name x pos'] e pos) (tAsg te (gName i)):=by
  intro pins s σ H D I h
  refine wpAny_Assign_Name (thn (he pins s σ H _ I h) fun v s1 ⟨y,H1,I1,r1,q1⟩=>?_) hs
  exact store_ok I1 hN hi hx r1 (fun s2 I2=>⟨_,H1,I2,q1⟩) hf
end
section
variable {X:Cx} {pos:Pos}
def tWhile (c:TT) (tb:TS):TS:=fun D σ H=>∃ W:Nat→St→Hp→Prop,(∃ m,W m σ H)∧∀ m σ H,W m σ H →
  c σ H fun b H1=>if b=true then ∃ N:St→Hp→Prop,(∀ σ' H',N σ' H'→∃ m',m' < m∧W m' σ' H')∧tb { D with nx:=N,ct:=N,bk:=D.nx } σ H1 else D.nx σ H1
theorem ps_while {c:Expr} {body:List Stmt} {tc:TT} {tb:TS} (hp:PassesOwn (model X.prog X.w) X.A X.env X.xe) (hc:PT X c tc) (hb:PSs X body tb):PS X (.While c body [] pos) (tWhile tc tb):=by
  intro pins s σ H D I h
  obtain ⟨W,⟨m0,w0⟩,turn⟩:=h
  refine wpAny_While (codeAny_whileLoop (fun n s'=>∃ σ' H',Inv X pins σ' H' s'∧W n σ' H') ?_ m0 ⟨σ,H,I,w0⟩)
  rintro n s1 ⟨σ1,H1,I1,w1⟩
  refine wpAny_passesOwn hp (thn (hc pins s1 σ1 H1 _ I1 (turn n σ1 H1 w1)) fun b s2 ⟨H2,I2,q2⟩=>?_)
  cases b with
  | true=>
    obtain ⟨N,hN,q2⟩:=q2
    rw [if_pos rfl]
    refine wpAny_passesOwn hp (thn (hb pins s2 σ1 H2 _ I2 q2) fun f s3 q3=>?_)
    cases f with
    | next=>
      obtain ⟨σ3,H3,I3,n3⟩:=q3
      obtain ⟨m',hm,w3⟩:=hN σ3 H3 n3
      exact ⟨m',hm,σ3,H3,I3,w3⟩
    | cont=>
      obtain ⟨σ3,H3,I3,n3⟩:=q3
      obtain ⟨m',hm,w3⟩:=hN σ3 H3 n3
      exact ⟨m',hm,σ3,H3,I3,w3⟩
    | brk=>exact q3
    | ret v=>exact q3
  | false=>
    rw [if_neg Bool.false_ne_true]
    exact wpAny_execs_nil ⟨σ1,H2,I2,q2⟩
end
structure It where
  go:Nat→Hp→Prop
  yld:Nat→Hp→V→Hp→Prop
  stop:Nat→Hp→Prop
def FpOk (X:Cx) (pins:List (Addr × Obj)) (H:Hp) (b:Addr):Prop:=
  H b=none∧b≠X.env.locals∧b ∉ X.fs∧(b∈X.ex∨X.s₀.heap.objs.size≤b)∧(∀ x c,X.env.cells.lookup x=some c→c≠b)∧∀ p∈X.pn++pins,p.1≠b
theorem Inv.fpOk {X:Cx} {pins:List (Addr × Obj)} {σ:St} {H H':Hp} {s:Shared} {b:Addr} (I:Inv X pins σ H s) (hb:s.heap.objs.size≤b) (hn:H' b=none):FpOk X pins H' b:=by
  refine ⟨hn,Nat.ne_of_gt (Nat.lt_of_lt_of_le I.lt hb),I.nofs hb,.inr (Nat.le_trans I.sz hb),fun x c e z=>?_,fun p hp z=>?_⟩
  · obtain ⟨v,q⟩:=I.cell x c e
    exact absurd (Nat.lt_of_lt_of_le q.lt (by rw [z];exact hb)) (Nat.lt_irrefl _)
  · exact absurd (Nat.lt_of_lt_of_le (Heap.lt_size (I.pin p hp).1) (by rw [z];exact hb)) (Nat.lt_irrefl _)
structure Turn (P:Program) (w:World) (K:PySem.W.Frag) (tg:Expr) (J:It) (fp:List Addr) (it:Addr) (tn:Nat→Heap→Prop):Prop where
  mem:it∈fp
  obj:∀ i h,tn i h→∀ b∈fp,∃ o,h.get? b=some o∧∀ v,o.data≠.cell v
  keep:∀ i h h',tn i h→(∀ b∈fp,∀ o,h.get? b=some o→h'.get? b=some o)→tn i h'
  item:∀ (X:Cx),X.prog=P→X.w=w→X.K=K→X.calm=true→∀ (i:Nat) (pins:List (Addr × Obj)) (s:Shared) (σ:St) (H:Hp) (E:Value→Shared→Prop),Inv X pins σ H s→(∀ b∈fp,FpOk X pins H b)→tn i s.heap→J.go i H →
    wpAny (model P w) X.A (pyNext (.ref it)) (fun r s1=>∃ u,r=some u ∧
      wpAny (model P w) X.A (letOwnedTupleGo tg (.ref it) u) (fun _ s2=>∃ x H',Inv X pins σ H' s2∧RelV x u∧J.yld i H x H'∧tn (i+1) s2.heap∧∀ b∈fp,H' b=none) E s1) E s
  done:∀ (X:Cx),X.prog=P→X.w=w→X.K=K→X.calm=true→∀ (i:Nat) (pins:List (Addr × Obj)) (s:Shared) (σ:St) (H:Hp) (E:Value→Shared→Prop),Inv X pins σ H s→(∀ b∈fp,FpOk X pins H b)→tn i s.heap→J.stop i H →
    wpAny (model P w) X.A (pyNext (.ref it)) (fun r s1=>r=none∧Inv X pins σ H s1) E s
  self:∀ (A:Around) (i:Nat) (s:Shared) (Q:Value→Shared→Prop) (E:Value→Shared→Prop),tn i s.heap→Q (.ref it) s→wpAny (model P w) A (pyIter (.ref it)) Q E s
abbrev TI:=St→Hp→(It→Hp→Prop)→Prop
def PIE (X:Cx) (pins:List (Addr × Obj)) (σ:St) (tg:Expr) (R:It→Hp→Prop) (itv:Value) (s2:Shared):Prop:=
  ∃ (it:Addr) (fp:List Addr) (tn:Nat→Heap→Prop) (J:It) (H':Hp),itv=.ref it∧Inv X pins σ H' s2∧Turn X.prog X.w X.K tg J fp it tn∧tn 0 s2.heap∧(∀ b∈fp,FpOk X pins H' b)∧R J H'
def PI (X:Cx) (tg iter:Expr) (wi:TI):Prop:=
  ∀ (pins:List (Addr × Obj)) (s:Shared) (σ:St) (H:Hp) (R:It→Hp→Prop),Inv X pins σ H s→wi σ H R →
    wpAny (model X.prog X.w) X.A (eval iter X.env) (fun v s1=>wpAny (model X.prog X.w) X.A (pyIter v) (PIE X pins σ tg R) X.xe s1) X.xe s
theorem go_of {M:Model} {A:Around} {E:Value→Shared→Prop} {s:Shared} {tg:Expr} {it:Addr} {u:Value} {o:Obj} {n:String} {vs:Array Value} {Q:Unit→Shared→Prop} (ho:s.heap.get? it=some o) (hc:o.cls=.type n) (hd:o.data=.fields vs)
    (hn:["enumerate", "zip", "dict_itemiterator", "dict_reverseitemiterator", "odict_iterator", "itertools.zip_longest", "itertools.pairwise"].contains n=false) (hQ:Q () s):wpAny M A (letOwnedTupleGo tg (.ref it) u) Q E s:=by
  unfold letOwnedTupleGo
  cases tg <;> first
    | exact wpAny_pure hQ
    | (cases u <;> first
        | exact wpAny_pure hQ
        | (refine wpAny_bind (wpAny_load ho ?_)
           rw [hc,hd]
           show wpAny M A (if (["enumerate", "zip", "dict_itemiterator", "dict_reverseitemiterator", "odict_iterator", "itertools.zip_longest", "itertools.pairwise"].contains n && vs[0]? == some (rawInt _))=true then _ else _) Q E s
           rw [if_neg (by intro h;rw [hn,Bool.false_and] at h;cases h)]
           exact wpAny_pure hQ))
def Itl (K:PySem.W.Frag) (a:Addr):It:=
  ⟨fun i H=>∃ xs x,SqL K H a xs∧xs[i]?=some x,fun i H x H'=>H'=H∧∀ xs,SqL K H a xs→xs[i]?=some x,fun i H=>∃ xs,SqL K H a xs∧xs.length≤i⟩
def Itr (lo:Int) (n:Nat):It:=⟨fun i _=>i < n,fun i H x H'=>H'=H∧x=.int (lo+i),fun i _=>n≤i⟩
theorem turn_list {P:Program} {w:World} {K:PySem.W.Frag} {tg:Expr} (a it:Addr):Turn P w K tg (Itl K a) [it] it (fun i h=>h.IsListIter it a i) where
  mem:=by simp
  obj:=fun i h st b hb=>by
    have e:b=it:=by simpa using hb
    subst e
    obtain ⟨o,e,c,d⟩:=st
    exact ⟨o,e,fun v z=>by rw [d] at z;cases z⟩
  keep:=fun i h h' st k=>st.at fun o e=>k it (by simp) o e
  item:=by
    intro X hP hw hK hc i pins s σ H E I hf st hg
    subst hP hw hK
    obtain ⟨xs,x,hq,hx⟩:=hg
    obtain ⟨its,rv,p,hz⟩:=I.list hq
    obtain ⟨u,hu,ru⟩:=rv.get hx
    obtain ⟨f0,f1,f2,f3,f4,f5⟩:=hf it (by simp)
    refine wpAny_pyNext_list_item st p.isList (x:=u) (by simpa using hu) fun h' st' sb=>?_
    have I1:Inv X pins σ H { s with heap:=h' }:=I.turned (t':=s.toks) (fun b o hb e=>(sb.2 b hb).trans e) f0 f1 f3 f4 f5
    obtain ⟨o,e,c,d⟩:=id st'
    exact ⟨u,rfl,go_of (s:={ s with heap:=h' }) e c d (by decide) ⟨x,H,I1,ru,⟨rfl,fun ys hy=>by rw [I.list_inj hy hq];exact hx⟩,st',fun b hb=>(hf b hb).1⟩⟩
  done:=by
    intro X hP hw hK hc i pins s σ H E I hf st hg
    subst hP hw hK
    obtain ⟨xs,hq,hx⟩:=hg
    obtain ⟨its,rv,p,hz⟩:=I.list hq
    obtain ⟨f0,f1,f2,f3,f4,f5⟩:=hf it (by simp)
    have hl:=rv.length
    exact wpAny_pyNext_list_end (I.ok.hd hc) st p.isList (by simp;omega) fun h' eb=>⟨rfl,I.turned (t':=s.toks) (fun b o hb e=>eb b o hb e) f0 f1 f3 f4 f5⟩
  self:=fun _ _ _ _ _ st h=>wpAny_pyIter_listiter st h
theorem turn_range {P:Program} {w:World} {K:PySem.W.Frag} {tg:Expr} (it:Addr) (lo:Int) (n:Nat):Turn P w K tg (Itr lo n) [it] it (fun i h=>IsRangeIter h it (lo+(i:Nat) * 1) ((n:Int) - (i:Nat)) 1) where
  mem:=by simp
  obj:=fun i h st b hb=>by
    have e:b=it:=by simpa using hb
    subst e
    exact ⟨_,st,fun v z=>by
      have z':Data.fields _=Data.cell v:=z
      cases z'⟩
  keep:=fun i h h' st k=>k it (by simp) _ st
  item:=by
    intro X hP hw hK hc i pins s σ H E I hf st hg
    subst hP hw hK
    obtain ⟨f0,f1,f2,f3,f4,f5⟩:=hf it (by simp)
    have W:=Walks.range (prog:=X.prog) (w:=X.w) (I.ok.hd hc) it lo 1 n
    refine W.item i s _ _ hg st fun v h' tk hv st' kk=>?_
    obtain ⟨t,rfl⟩:=hv
    have I1:Inv X pins σ H { s with heap:=h',toks:=tk }:=I.turned (fun b o hb e=>kk b o (by simpa using hb) e) f0 f1 f3 f4 f5
    refine ⟨_,rfl,go_of (s:={ s with heap:=h',toks:=tk }) (n := "range_iterator") st' rfl rfl (by decide) ⟨.int (lo+i),H,I1,⟨t,?_⟩,⟨rfl,rfl⟩,st',fun b hb=>(hf b hb).1⟩⟩
    rw [Int.mul_one]
  done:=by
    intro X hP hw hK hc i pins s σ H E I hf st hg
    subst hP hw hK
    obtain ⟨f0,f1,f2,f3,f4,f5⟩:=hf it (by simp)
    exact wpAny_pyNext_range_end (I.ok.hd hc) st (by have:n≤i:=hg;omega) fun h' eb=>⟨rfl,I.turned (t':=s.toks) (fun b o hb e=>eb b o hb e) f0 f1 f3 f4 f5⟩
  self:=fun _ _ _ _ _ st h=>wpAny_pyIter_rangeiter st h
end L2
namespace L2
open PySem PySem.Spec PyProof.Rows
section
variable {X:Cx} {tg:Expr}
def iList (K:PySem.W.Frag) (tl:TE):TI:=fun σ H R=>tl σ H fun x H1=>∃ a,x=.ref a∧(∃ xs,SqL K H1 a xs)∧R (Itl K a) H1
theorem pi_list {l:Expr} {tl:TE} (hl:PE X l tl):PI X tg l (iList X.K tl):=by
  intro pins s σ H R I h
  refine thn (hl pins s σ H _ I h) fun v s1 ⟨x,H1,I1,r1,q1⟩=>?_
  obtain ⟨a,e,⟨xs,hq⟩,q⟩:=q1
  subst e
  cases r1
  obtain ⟨its,rv,p,hz⟩:=I1.list hq
  refine wpAny_pyIter_list p.isList ?_
  refine ⟨s1.heap.objs.size,[s1.heap.objs.size],_,_,H1,rfl,I1.kept (t':=s1.toks) fun b o e=>Heap.get?_push_of_some _ e,turn_list a _,⟨_,Heap.get?_push_size _ rfl,rfl,rfl⟩,fun b hb=>?_,q⟩
  have e:b=s1.heap.objs.size:=by simpa using hb
  subst e
  exact I1.fpOk (Nat.le_refl _) (I1.hok.fresh (Nat.le_refl _))
theorem range_it {pins:List (Addr × Obj)} {σ:St} {H:Hp} {s:Shared} {R:It→Hp→Prop} {E:Value→Shared→Prop} {lo hi:Int} {t u v:Tok} {tk:Nat} (I:Inv X pins σ H s) (h1:-(2 ^ 62)≤lo) (h2:lo < 2 ^ 62) (h3:-(2 ^ 62)≤hi) (h4:hi < 2 ^ 62)
    (q:R (Itr lo (hi - lo).toNat) H):wpAny (model X.prog X.w) X.A (pyIter (.ref s.heap.objs.size)) (PIE X pins σ tg R) E { s with heap:=s.heap.push { cls:=.type "range", data:=.fields #[.int lo t,.int hi u,.int 1 v] },toks:=tk }:=by
  refine wpAny_pyIter_range (IsRange.new ..) (small_one h1 h2 h3 h4) ?_
  have I1:Inv X pins σ H { s with heap:=s.heap.push { cls:=.type "range", data:=.fields #[.int lo t,.int hi u,.int 1 v] },toks:=tk }:=I.kept fun b o e=>Heap.get?_push_of_some _ e
  refine ⟨(s.heap.push { cls:=.type "range", data:=.fields #[.int lo t,.int hi u,.int 1 v] }).objs.size,[(s.heap.push { cls:=.type "range", data:=.fields #[.int lo t,.int hi u,.int 1 v] }).objs.size],_,_,H,rfl,
    I1.kept (t':=tk) fun b o e=>Heap.get?_push_of_some _ e,turn_range _ lo (hi - lo).toNat,?_,fun b hb=>?_,q⟩
  · have e1:lo+((0:Nat):Int) * 1=lo:=by simp
    have e2:(((hi - lo).toNat:Nat):Int) - ((0:Nat):Int)=Builtin.Range.rangeSize lo hi 1:=by rw [rangeSize_one];split <;> omega
    show IsRangeIter _ _ (lo+((0:Nat):Int) * 1) ((((hi - lo).toNat:Nat):Int) - ((0:Nat):Int)) 1
    rw [e1,e2]
    exact Heap.get?_push_size _ rfl
  · have e:b=(s.heap.push { cls:=.type "range", data:=.fields #[.int lo t,.int hi u,.int 1 v] }).objs.size:=by simpa using hb
    subst e
    exact I1.fpOk (Nat.le_refl _) (I1.hok.fresh (Nat.le_refl _))
def iRng1 (ta:TA):TI:=fun σ H R=>ta σ H fun vs H1=>∃ j:Int,vs=[.int j]∧-(2 ^ 62)≤j∧j < 2 ^ 62∧R (Itr 0 j.toNat) H1
def iRng2 (ta:TA):TI:=fun σ H R=>ta σ H fun vs H1=>∃ i j:Int,vs=[.int i,.int j]∧(-(2 ^ 62)≤i∧i < 2 ^ 62∧-(2 ^ 62)≤j∧j < 2 ^ 62)∧R (Itr i (j - i).toNat) H1
theorem pi_range1 {a:Expr} {ta:TA} {p pos:Pos} (hg:Gl X "range") (hm:X.mg "range" = none) (ha:PA X [a] ta) (hs:starEach [a] X.env=[(false,eval a X.env)]:=by rfl):PI X tg (.Call (.Name "range" p) [a] [] pos) (iRng1 ta):=by
  intro pins s σ H R I h
  refine Call_ (ld_blt I hg hm boot_range (PyProof.Rows.callWith_type1 (thn (ha pos pins s σ H _ I h) fun us s1 ⟨vs,H1,I1,r1,q1⟩=>?_) hs rfl))
  obtain ⟨j,e,q1,q2,q⟩:=q1
  subst e
  cases r1 with
  | cons r rr=>
    cases rr
    obtain ⟨t,rfl⟩:=r
    exact call_range_1 (range_it I1 (by omega) (by omega) q1 q2 (by simpa using q))
theorem pi_range2 {a b:Expr} {ta:TA} {p pos:Pos} (hg:Gl X "range") (hm:X.mg "range" = none) (ha:PA X [a,b] ta) (hs:starEach [a,b] X.env=[(false,eval a X.env),(false,eval b X.env)]:=by rfl) (hs2:starEach [b] X.env=[(false,eval b X.env)]:=by rfl) :
    PI X tg (.Call (.Name "range" p) [a,b] [] pos) (iRng2 ta):=by
  intro pins s σ H R I h
  refine Call_ (ld_blt I hg hm boot_range (PyProof.Rows.callWith_type1 (thn (ha pos pins s σ H _ I h) fun us s1 ⟨vs,H1,I1,r1,q1⟩=>?_) (by rw [hs,hs2]) (by rw [hs2];rfl)))
  obtain ⟨i,j,e,⟨q1,q2,q3,q4⟩,q⟩:=q1
  subst e
  cases r1 with
  | cons r rr=>
    cases rr with
    | cons r' rr=>
      cases rr
      obtain ⟨t,rfl⟩:=r
      obtain ⟨t',rfl⟩:=r'
      exact call_range_2 (range_it I1 q1 q2 q3 q4 q)
def tFor (wi:TI) (g:TG) (tb:TS):TS:=fun D σ H=>wi σ H fun J H1=>∃ W:Nat→Nat→St→Hp→Prop,(∃ m,W 0 m σ H1)∧∀ i m σ H,W i m σ H →
  (J.stop i H∧D.nx σ H)∨(J.go i H∧∃ N:St→Hp→Prop,(∀ σ' H',N σ' H'→∃ m',m' < m∧W (i+1) m' σ' H')∧∀ x H',J.yld i H x H'→g x σ H' fun σ2 H2=>tb { D with nx:=N,ct:=N,bk:=D.nx } σ2 H2)
def pinsAt (fp:List Addr) (h:Heap):List (Addr × Obj):=fp.filterMap fun b=>(h.get? b).map fun o=>(b,o)
theorem mem_pinsAt {fp:List Addr} {h:Heap} {b:Addr} {o:Obj} (hb:b∈fp) (e:h.get? b=some o):(b,o)∈pinsAt fp h:=List.mem_filterMap.mpr ⟨b,hb,by rw [e];rfl⟩
theorem of_pinsAt {fp:List Addr} {h:Heap} {p:Addr × Obj} (hp:p∈pinsAt fp h):p.1∈fp∧h.get? p.1=some p.2:=by
  obtain ⟨b,hb,e⟩:=List.mem_filterMap.mp hp
  cases q:h.get? b with
  | none=>rw [q] at e;cases e
  | some o=>
    rw [q] at e
    have e':(b,o)=p:=Option.some.inj e
    subst e'
    exact ⟨hb,q⟩
theorem Inv.pinned {pins:List (Addr × Obj)} {σ:St} {H:Hp} {s:Shared} {fp:List Addr} (I:Inv X pins σ H s) (hf:∀ b∈fp,FpOk X pins H b) (ho:∀ b∈fp,∃ o,s.heap.get? b=some o∧∀ v,o.data≠.cell v):Inv X (pins++pinsAt fp s.heap) σ H s:=
  I.pins_of fun p hp=>(List.mem_append.mp hp).elim (fun z=>I.pin p (List.mem_append_right _ z)) fun z=>by
    obtain ⟨hb,e⟩:=of_pinsAt z
    obtain ⟨f0,f1,f2,_⟩:=hf p.1 hb
    obtain ⟨o,e',d⟩:=ho p.1 hb
    rw [e] at e';cases e'
    exact ⟨e,f0,f1,f2,d⟩
theorem Inv.unpinned {pins pl:List (Addr × Obj)} {σ:St} {H:Hp} {s:Shared} (I:Inv X (pins++pl) σ H s):Inv X pins σ H s:=I.pins_of fun p hp=>I.pin p (List.mem_append_right _ (List.mem_append_left _ hp))
theorem ps_for {iter:Expr} {body:List Stmt} {wi:TI} {g:TG} {tb:TS} {pos:Pos} (hp:PassesOwn (model X.prog X.w) X.A X.env X.xe) (hc:X.calm=true) (hi:PI X tg iter wi) (hg:PG X tg g) (hb:PSs X body tb)
    (hs:∀ x,foldedSetIterable iter X.env x=pure x:=by intro _;rfl):PS X (.For tg iter body [] pos) (tFor wi g tb):=by
  intro pins s σ H D I h
  refine wpAny_For (thn (hi pins s σ H _ I h) fun v s1 h1=>thn h1 fun itv s2 h2=>?_) hs
  obtain ⟨it,fp,tn,J,H2,e,I2,T,st2,f2,W,⟨m0,w0⟩,turn⟩:=h2
  subst e
  have stat:∀ {H':Hp},(∀ b∈fp,H' b=none)→∀ b∈fp,FpOk X pins H' b:=fun hn b hb=>⟨hn b hb,(f2 b hb).2⟩
  refine codeAny_forLoop_any (fun n s'=>∃ i σ' H',Inv X pins σ' H' s'∧tn i s'.heap∧(∀ b∈fp,H' b=none)∧W i n σ' H') ?_ m0 ⟨0,σ,H2,I2,st2,fun b hb=>(f2 b hb).1,w0⟩
  rintro n s3 ⟨i,σ3,H3,I3,st3,fr3,w3⟩
  rcases turn i n σ3 H3 w3 with ⟨stop,qn⟩ | ⟨go,N,hN,step⟩
  · refine wpAny_passesOwn hp (thn (T.done X rfl rfl rfl hc i pins s3 σ3 H3 X.xe I3 (stat fr3) st3 stop) fun r s4 ⟨hr,I4⟩=>?_)
    subst hr
    exact wpAny_execs_nil ⟨σ3,H3,I4,qn⟩
  · refine wpAny_passesOwn hp (thn (T.item X rfl rfl rfl hc i pins s3 σ3 H3 X.xe I3 (stat fr3) st3 go) fun r s4 ⟨u,hr,h4⟩=>?_)
    subst hr
    refine wpAny_passesOwn hp (thn h4 fun _ s5 ⟨x,H5,I5,r5,y5,st5,fr5⟩=>?_)
    have I5':=I5.pinned (stat fr5) (T.obj _ _ st5)
    refine wpAny_passesOwn hp (thn (hg _ s5 σ3 H5 x u _ I5' r5 (step x H5 y5)) fun _ s6 ⟨σ6,H6,I6,q6⟩=>?_)
    refine wpAny_passesOwn hp (thn (hb _ s6 σ6 H6 _ I6 q6) fun f s7 q7=>?_)
    have again:∀ {σ7:St} {H7:Hp},Inv X (pins++pinsAt fp s5.heap) σ7 H7 s7→N σ7 H7→∃ m,m < n∧∃ i σ' H',Inv X pins σ' H' s7∧tn i s7.heap∧(∀ b∈fp,H' b=none)∧W i m σ' H':=fun {σ7 H7} I7 n7=>by
      obtain ⟨m',hm,w7⟩:=hN σ7 H7 n7
      refine ⟨m',hm,i+1,σ7,H7,I7.unpinned,T.keep _ _ _ st5 fun b hb o e=>(I7.pin (b,o) (List.mem_append_right _ (List.mem_append_right _ (mem_pinsAt hb e)))).1,fun b hb=>?_,w7⟩
      obtain ⟨o,e,d⟩:=T.obj _ _ st5 b hb
      exact (I7.pin (b,o) (List.mem_append_right _ (List.mem_append_right _ (mem_pinsAt hb e)))).2.1
    cases f with
    | next=>obtain ⟨σ7,H7,I7,n7⟩:=q7;exact again I7 n7
    | cont=>obtain ⟨σ7,H7,I7,n7⟩:=q7;exact again I7 n7
    | brk=>obtain ⟨σ7,H7,I7,q7⟩:=q7;exact ⟨σ7,H7,I7.unpinned,q7⟩
    | ret v=>obtain ⟨x7,σ7,H7,I7,r7,q7⟩:=q7;exact ⟨x7,σ7,H7,I7.unpinned,r7,q7⟩
end
theorem for_list {K:PySem.W.Frag} {a:Addr} {xs:List V} {g:TG} {tb:TS} {D:Ends} {σ:St} {H:Hp} (Pv:Nat→St→Hp→Prop) (h0:Pv 0 σ H) (hl:∀ i σ H,i≤xs.length→Pv i σ H→SqL K H a xs)
    (hs:∀ i x σ H,xs[i]?=some x→Pv i σ H→g x σ H fun σ2 H2=>tb { D with nx:=Pv (i+1),ct:=Pv (i+1),bk:=D.nx } σ2 H2) (hd:∀ σ H,Pv xs.length σ H→D.nx σ H) :
    ∃ W:Nat→Nat→St→Hp→Prop,(∃ m,W 0 m σ H)∧∀ i m σ H,W i m σ H →
      ((Itl K a).stop i H∧D.nx σ H)∨((Itl K a).go i H∧∃ N:St→Hp→Prop,(∀ σ' H',N σ' H'→∃ m',m' < m∧W (i+1) m' σ' H')∧∀ x H',(Itl K a).yld i H x H'→g x σ H' fun σ2 H2=>tb { D with nx:=N,ct:=N,bk:=D.nx } σ2 H2):=by
  refine ⟨fun i m σ H=>m=xs.length - i∧i≤xs.length∧Pv i σ H,⟨xs.length,by simp,Nat.zero_le _,h0⟩,?_⟩
  rintro i m σ H ⟨rfl,hi,p⟩
  have q:=hl i σ H hi p
  by_cases hlt:i < xs.length
  · refine .inr ⟨⟨xs,xs[i],q,by simp [hlt]⟩,Pv (i+1),fun σ' H' p'=>⟨xs.length - (i+1),by omega,rfl,hlt,p'⟩,fun x H' y=>?_⟩
    obtain ⟨e,y⟩:=y
    subst e
    exact hs i x σ _ (y xs q) p
  · have e:i=xs.length:=by omega
    subst e
    exact .inl ⟨⟨xs,q,Nat.le_refl _⟩,hd σ H p⟩
theorem for_range {lo:Int} {n:Nat} {g:TG} {tb:TS} {D:Ends} {σ:St} {H:Hp} (Pv:Nat→St→Hp→Prop) (h0:Pv 0 σ H)
    (hs:∀ i σ H,i < n→Pv i σ H→g (.int (lo+i)) σ H fun σ2 H2=>tb { D with nx:=Pv (i+1),ct:=Pv (i+1),bk:=D.nx } σ2 H2) (hd:∀ σ H,Pv n σ H→D.nx σ H) :
    ∃ W:Nat→Nat→St→Hp→Prop,(∃ m,W 0 m σ H)∧∀ i m σ H,W i m σ H →
      ((Itr lo n).stop i H∧D.nx σ H)∨((Itr lo n).go i H∧∃ N:St→Hp→Prop,(∀ σ' H',N σ' H'→∃ m',m' < m∧W (i+1) m' σ' H')∧∀ x H',(Itr lo n).yld i H x H'→g x σ H' fun σ2 H2=>tb { D with nx:=N,ct:=N,bk:=D.nx } σ2 H2):=by
  refine ⟨fun i m σ H=>m=n - i∧i≤n∧Pv i σ H,⟨n,by simp,Nat.zero_le _,h0⟩,?_⟩
  rintro i m σ H ⟨rfl,hi,p⟩
  by_cases hlt:i < n
  · refine .inr ⟨hlt,Pv (i+1),fun σ' H' p'=>⟨n - (i+1),by omega,rfl,hlt,p'⟩,fun x H' y=>?_⟩
    obtain ⟨e,y⟩:=y
    subst e y
    exact hs i σ _ hlt p
  · have e:i=n:=by omega
    subst e
    exact .inl ⟨Nat.le_refl _,hd σ H p⟩
end L2
namespace L2
open PySem PySem.Spec PyProof.Rows
abbrev R2:=V→V→Hp→VK→Prop
def OpR (X:Cx) (f:Value→Value→Sem Value) (r:R2):Prop:=
  ∀ (pins:List (Addr × Obj)) (s:Shared) (σ:St) (H:Hp) (x y:V) (v u:Value) (Q:VK),Inv X pins σ H s→RelV x v→RelV y u→r x y H Q →
    wpAny (model X.prog X.w) X.A (f v u) (EP X pins σ Q) X.xe s
def UnR (X:Cx) (f:Value→Sem Value) (r:V→Hp→VK→Prop):Prop:=
  ∀ (pins:List (Addr × Obj)) (s:Shared) (σ:St) (H:Hp) (x:V) (v:Value) (Q:VK),Inv X pins σ H s→RelV x v→r x H Q →
    wpAny (model X.prog X.w) X.A (f v) (EP X pins σ Q) X.xe s
def CallR (X:Cx) (f:Value) (r:List V→Hp→VK→Prop):Prop:=
  ∀ (pins:List (Addr × Obj)) (s:Shared) (σ:St) (H:Hp) (xs:List V) (us:List Value) (Q:VK),Inv X pins σ H s→Vals xs us→r xs H Q →
    wpAny (model X.prog X.w) X.A (call f us) (EP X pins σ Q) X.xe s
def TruR (X:Cx) (r:V→Hp→(Bool→Hp→Prop)→Prop):Prop:=
  ∀ (pins:List (Addr × Obj)) (s:Shared) (σ:St) (H:Hp) (x:V) (v:Value) (Q:Bool→Hp→Prop),Inv X pins σ H s→RelV x v→r x H Q →
    wpAny (model X.prog X.w) X.A (truthy v) (TP X pins σ Q) X.xe s
def tOp (r:R2) (ta tb:TE):TE:=fun σ H Q=>ta σ H fun x H1=>tb σ H1 fun y H2=>r x y H2 Q
def tUn (r:V→Hp→VK→Prop) (ta:TE):TE:=fun σ H Q=>ta σ H fun x H1=>r x H1 Q
def rI (C:Int→Int→Prop) (g:Int→Int→V):R2:=fun x y H Q=>∃ i j,x=.int i∧y=.int j∧C i j∧Q (g i j) H
def rI0 (g:Int→Int→V):R2:=fun x y H Q=>∃ i j,x=.int i∧y=.int j∧Q (g i j) H
def rU (g:Int→V):V→Hp→VK→Prop:=fun x H Q=>∃ i,x=.int i∧Q (g i) H
section
variable {X:Cx} {a b c:Expr} {ta tb tc:TE} {pos:Pos}
theorem binT (ha:PE X a ta) (hb:PE X b tb) {pins:List (Addr × Obj)} {s:Shared} {σ:St} {H:Hp} {R:V→V→Hp→Prop} (I:Inv X pins σ H s)
    (h:ta σ H fun x H1=>tb σ H1 fun y H2=>R x y H2) {Q:Value→Shared→Prop} {f:Value→Value→Sem Value}
    (hf:∀ v u s2 x y H2,Inv X pins σ H2 s2→RelV x v→RelV y u→R x y H2→wpAny (model X.prog X.w) X.A (f v u) Q X.xe s2) :
    wpAny (model X.prog X.w) X.A (eval a X.env) (fun v s₁=>wpAny (model X.prog X.w) X.A (eval b X.env) (fun u s₂=>wpAny (model X.prog X.w) X.A (f v u) Q X.xe s₂) X.xe s₁) X.xe s:=by
  refine thn (ha pins s σ H _ I h) fun v s1 ⟨x,H1,I1,r1,q1⟩=>?_
  refine thn (hb pins s1 σ H1 _ I1 q1) fun u s2 ⟨y,H2,I2,r2,q2⟩=>?_
  exact hf v u s2 x y H2 I2 r1 r2 q2
theorem pe_op {op:Operator} {r:R2} (ho:OpR X (binaryOp op) r) (ha:PE X a ta) (hb:PE X b tb):PE X (.BinOp a op b pos) (tOp r ta tb):=by
  intro pins s σ H Q I h
  exact wpAny_BinOp (binT ha hb I h fun v u s2 x y H2 I2 rx ry q=>ho pins s2 σ H2 x y v u Q I2 rx ry q)
theorem pe_un {op:UnaryOp} {r:V→Hp→VK→Prop} (ho:UnR X (unaryOp op) r) (ha:PE X a ta):PE X (.UnaryOp op a pos) (tUn r ta):=by
  intro pins s σ H Q I h
  exact UnaryOp_ (thn (ha pins s σ H _ I h) fun v s1 ⟨x,H1,I1,r1,q1⟩=>ho pins s1 σ H1 x v Q I1 r1 q1)
theorem opI {f:Value→Value→Sem Value} {C:Int→Int→Prop} {g:Int→Int→Int}
    (rule:∀ (i j:Int) (t u:Tok) (s:Shared) (Q:Value→Shared→Prop) (E:Value→Shared→Prop),C i j→Q (.int (g i j) s.toks) { s with toks:=s.toks+1 }→wpAny (model X.prog X.w) X.A (f (.int i t) (.int j u)) Q E s) :
    OpR X f (rI C fun i j=>.int (g i j)):=by
  intro pins s σ H x y v u Q I rx ry h
  obtain ⟨i,j,rfl,rfl,hc,q⟩:=h
  obtain ⟨t,rfl⟩:=rx
  obtain ⟨t',rfl⟩:=ry
  exact rule i j t t' s _ _ hc ⟨.int (g i j),H,I.tok _,⟨_,rfl⟩,q⟩
theorem opI0 {f:Value→Value→Sem Value} {g:Int→Int→Int}
    (rule:∀ (i j:Int) (t u:Tok) (s:Shared) (Q:Value→Shared→Prop) (E:Value→Shared→Prop),Q (.int (g i j) s.toks) { s with toks:=s.toks+1 }→wpAny (model X.prog X.w) X.A (f (.int i t) (.int j u)) Q E s) :
    OpR X f (rI0 fun i j=>.int (g i j)):=by
  intro pins s σ H x y v u Q I rx ry h
  obtain ⟨i,j,rfl,rfl,q⟩:=h
  obtain ⟨t,rfl⟩:=rx
  obtain ⟨t',rfl⟩:=ry
  exact rule i j t t' s _ _ ⟨.int (g i j),H,I.tok _,⟨_,rfl⟩,q⟩
theorem opB0 {f:Value→Value→Sem Value} {g:Int→Int→Bool}
    (rule:∀ (i j:Int) (t u:Tok) (s:Shared) (Q:Value→Shared→Prop) (E:Value→Shared→Prop),Q (.bool (g i j)) s→wpAny (model X.prog X.w) X.A (f (.int i t) (.int j u)) Q E s) :
    OpR X f (rI0 fun i j=>.bl (g i j)):=by
  intro pins s σ H x y v u Q I rx ry h
  obtain ⟨i,j,rfl,rfl,q⟩:=h
  obtain ⟨t,rfl⟩:=rx
  obtain ⟨t',rfl⟩:=ry
  exact rule i j t t' s _ _ ⟨.bl (g i j),H,I,rfl,q⟩
def CDiv (i j:Int):Prop:=0 < j∧j < 1073741824
def CPow (i j:Int):Prop:=0≤j∧j≤1000000∧i.natAbs < 2 ^ 64
def CMul (i j:Int):Prop:=(-(2 ^ 64) < i∧i < 2 ^ 64)∨(-(2 ^ 64) < j∧j < 2 ^ 64)
theorem CMul.ok {i j:Int} (h:CMul i j):IntMulOk i j:=by
  rcases h with ⟨h1,h2⟩ | ⟨h1,h2⟩
  · exact .of_left (intBits_le_64 h1 h2)
  · exact .of_right (intBits_le_64 h1 h2)
theorem op_add:OpR X (binaryOp .Add) (rI0 fun i j=>.int (i+j)):=opI0 fun _ _ _ _ _ _ _ q=>add_int q
theorem op_sub:OpR X (binaryOp .Sub) (rI0 fun i j=>.int (i - j)):=opI0 fun _ _ _ _ _ _ _ q=>sub_int q
theorem op_mul:OpR X (binaryOp .Mult) (rI CMul fun i j=>.int (i * j)):=opI fun _ _ _ _ _ _ _ hc q=>mul_int q hc.ok
theorem op_fdiv:OpR X (binaryOp .FloorDiv) (rI CDiv fun i j=>.int (i / j)):=opI fun i j _ _ _ _ _ hc q=>by
  have h1:(0:Int) < j:=hc.1
  have h2:j < 1073741824:=hc.2
  exact floordiv_int (by omega) (by rw [Int.fdiv_eq_ediv_of_nonneg i (by omega)];exact q) (.inl (PyProof.noPylong_small (by omega)))
theorem op_mod:OpR X (binaryOp .Mod) (rI (fun _ j=>0 < j) fun i j=>.int (i % j)):=opI fun i j _ _ _ _ _ hc q=>by
  have h1:(0:Int) < j:=hc
  exact mod_int' (by omega) (by rw [Int.fmod_eq_emod_of_nonneg i (by omega)];exact q)
theorem op_pow:OpR X (binaryOp .Pow) (rI CPow fun i j=>.int (i ^ j.toNat)):=opI fun _ _ _ _ _ _ _ hc q=>pow_int_small hc.1 hc.2.1 hc.2.2 q
theorem unI {f:Value→Sem Value} {g:Int→Int}
    (rule:∀ (i:Int) (t:Tok) (s:Shared) (Q:Value→Shared→Prop) (E:Value→Shared→Prop),Q (.int (g i) s.toks) { s with toks:=s.toks+1 }→wpAny (model X.prog X.w) X.A (f (.int i t)) Q E s) :
    UnR X f (rU fun i=>.int (g i)):=by
  intro pins s σ H x v Q I rx h
  obtain ⟨i,rfl,q⟩:=h
  obtain ⟨t,rfl⟩:=rx
  exact rule i t s _ _ ⟨.int (g i),H,I.tok _,⟨_,rfl⟩,q⟩
theorem un_neg:UnR X (unaryOp .USub) (rU fun i=>.int (-i)):=unI fun _ _ _ _ _ q=>neg_int q
end
def scal:V→V→Bool
  | .non,.non=>true | .non,.int _=>true | .int _,.non=>true | .non,.bl _=>true | .bl _,.non=>true | .non,.str _=>true | .str _,.non=>true
  | .int _,.int _=>true | .bl _,.bl _=>true | .str _,.str _=>true | .byt _,.byt _=>true
  | .int _,.str _=>true | .str _,.int _=>true | .bl _,.str _=>true | .str _,.bl _=>true
  | _,_=>false
def rEq:R2:=fun x y H Q=>scal x y=true∧Q (.bl (decide (x=y))) H
def rNe:R2:=fun x y H Q=>scal x y=true∧Q (.bl (!decide (x=y))) H
theorem dec_int {i j:Int}:decide (V.int i=V.int j)=(i == j):=by
  rw [Bool.eq_iff_iff]
  simp
theorem dec_bl {i j:Bool}:decide (V.bl i=V.bl j)=(i == j):=by
  rw [Bool.eq_iff_iff]
  simp
theorem dec_str {i j:Str}:decide (V.str i=V.str j)=(i == j):=by
  rw [Bool.eq_iff_iff]
  simp
theorem dec_byt {i j:Array UInt8}:decide (V.byt i=V.byt j)=(i.toList == j.toList):=by
  rw [Bool.eq_iff_iff]
  cases i
  cases j
  simp
section
variable {X:Cx} {a b c:Expr} {ta tb tc:TE} {pos:Pos}
theorem fin_bl {pins:List (Addr × Obj)} {σ:St} {H:Hp} {s:Shared} {Q:VK} {k k':Bool} (I:Inv X pins σ H s) (q:Q (.bl k) H) (e:k=k'):EP X pins σ Q (.bool k') s:=by
  subst e
  exact ⟨.bl k,H,I,rfl,q⟩
theorem op_eq:OpR X (compareOp .Eq) rEq:=by
  intro pins s σ H x y v u Q I rx ry h
  obtain ⟨hs,q⟩:=h
  cases x with
  | non=>
    cases rx
    cases y with
    | non=>cases ry;exact PySem.EqNone.eq_none_none (fin_bl I q (by simp))
    | bl j=>cases ry;exact PySem.EqNone.eq_none_bool (fin_bl I q (by simp))
    | int j=>obtain ⟨t',rfl⟩:=ry;exact PySem.EqNone.eq_none_int (fin_bl I q (by simp))
    | str j=>obtain ⟨t',rfl⟩:=ry;exact PySem.EqNone.eq_none_str (fin_bl I q (by simp))
    | _=>exact absurd (show false=true from hs) Bool.false_ne_true
  | bl i=>
    cases rx
    cases y with
    | non=>cases ry;exact PySem.EqNone.eq_bool_none (fin_bl I q (by simp))
    | bl j=>cases ry;exact eq_bool (fin_bl I q dec_bl)
    | str j=>obtain ⟨t',rfl⟩:=ry;exact PySem.EqMixed.eq_bool_str (fin_bl I q (by simp))
    | _=>exact absurd (show false=true from hs) Bool.false_ne_true
  | int i=>
    obtain ⟨t,rfl⟩:=rx
    cases y with
    | non=>cases ry;exact PySem.EqNone.eq_int_none (fin_bl I q (by simp))
    | int j=>obtain ⟨t',rfl⟩:=ry;exact eq_int (fin_bl I q dec_int)
    | str j=>obtain ⟨t',rfl⟩:=ry;exact PySem.EqMixed.eq_int_str (fin_bl I q (by simp))
    | _=>exact absurd (show false=true from hs) Bool.false_ne_true
  | str i=>
    obtain ⟨t,rfl⟩:=rx
    cases y with
    | non=>cases ry;exact PySem.EqNone.eq_str_none (fin_bl I q (by simp))
    | bl j=>cases ry;exact PySem.EqMixed.eq_str_bool (fin_bl I q (by simp))
    | int j=>obtain ⟨t',rfl⟩:=ry;exact PySem.EqMixed.eq_str_int (fin_bl I q (by simp))
    | str j=>obtain ⟨t',rfl⟩:=ry;exact eq_str (fin_bl I q dec_str)
    | _=>exact absurd (show false=true from hs) Bool.false_ne_true
  | byt i=>
    obtain ⟨t,rfl⟩:=rx
    cases y with
    | byt j=>obtain ⟨t',rfl⟩:=ry;exact PySem.W.eq_bytes (fin_bl I q dec_byt)
    | _=>exact absurd (show false=true from hs) Bool.false_ne_true
  | _=>cases y <;> exact absurd (show false=true from hs) Bool.false_ne_true
theorem op_ne:OpR X (compareOp .NotEq) rNe:=by
  intro pins s σ H x y v u Q I rx ry h
  obtain ⟨hs,q⟩:=h
  cases x with
  | non=>
    cases rx
    cases y with
    | non=>cases ry;exact PySem.EqNone.ne_none_none (fin_bl I q (by simp))
    | bl j=>cases ry;exact PySem.EqNone.ne_none_bool (fin_bl I q (by simp))
    | int j=>obtain ⟨t',rfl⟩:=ry;exact PySem.EqNone.ne_none_int (fin_bl I q (by simp))
    | str j=>obtain ⟨t',rfl⟩:=ry;exact PySem.EqNone.ne_none_str (fin_bl I q (by simp))
    | _=>exact absurd (show false=true from hs) Bool.false_ne_true
  | bl i=>
    cases rx
    cases y with
    | non=>cases ry;exact PySem.EqNone.ne_bool_none (fin_bl I q (by simp))
    | bl j=>cases ry;exact ne_bool (fin_bl I q (congrArg not dec_bl))
    | str j=>obtain ⟨t',rfl⟩:=ry;exact PySem.EqMixed.ne_bool_str (fin_bl I q (by simp))
    | _=>exact absurd (show false=true from hs) Bool.false_ne_true
  | int i=>
    obtain ⟨t,rfl⟩:=rx
    cases y with
    | non=>cases ry;exact PySem.EqNone.ne_int_none (fin_bl I q (by simp))
    | int j=>obtain ⟨t',rfl⟩:=ry;exact ne_int (fin_bl I q (congrArg not dec_int))
    | str j=>obtain ⟨t',rfl⟩:=ry;exact PySem.EqMixed.ne_int_str (fin_bl I q (by simp))
    | _=>exact absurd (show false=true from hs) Bool.false_ne_true
  | str i=>
    obtain ⟨t,rfl⟩:=rx
    cases y with
    | non=>cases ry;exact PySem.EqNone.ne_str_none (fin_bl I q (by simp))
    | bl j=>cases ry;exact PySem.EqMixed.ne_str_bool (fin_bl I q (by simp))
    | int j=>obtain ⟨t',rfl⟩:=ry;exact PySem.EqMixed.ne_str_int (fin_bl I q (by simp))
    | str j=>obtain ⟨t',rfl⟩:=ry;exact ne_str (fin_bl I q (congrArg not dec_str))
    | _=>exact absurd (show false=true from hs) Bool.false_ne_true
  | byt i=>
    obtain ⟨t,rfl⟩:=rx
    cases y with
    | byt j=>obtain ⟨t',rfl⟩:=ry;exact PySem.W.ne_bytes (fin_bl I q (congrArg not dec_byt))
    | _=>exact absurd (show false=true from hs) Bool.false_ne_true
  | _=>cases y <;> exact absurd (show false=true from hs) Bool.false_ne_true
theorem op_lt:OpR X (compareOp .Lt) (rI0 fun i j=>.bl (decide (i < j))):=opB0 fun _ _ _ _ _ _ _ q=>lt_int q
theorem op_le:OpR X (compareOp .LtE) (rI0 fun i j=>.bl (decide (i≤j))):=opB0 fun _ _ _ _ _ _ _ q=>le_int q
theorem op_gt:OpR X (compareOp .Gt) (rI0 fun i j=>.bl (decide (j < i))):=opB0 fun _ _ _ _ _ _ _ q=>gt_int q
theorem op_ge:OpR X (compareOp .GtE) (rI0 fun i j=>.bl (decide (j≤i))):=opB0 fun _ _ _ _ _ _ _ q=>ge_int q
theorem op_lt_str:OpR X (compareOp .Lt) (fun x y H Q=>∃ i j,x=.str i∧y=.str j∧Q (.bl (decide (i.cps.toList < j.cps.toList))) H):=by
  intro pins s σ H x y v u Q I rx ry h
  obtain ⟨i,j,rfl,rfl,q⟩:=h
  obtain ⟨t,rfl⟩:=rx
  obtain ⟨t',rfl⟩:=ry
  exact lt_str (fin_bl I q rfl)
theorem op_in_str:OpR X (compareOp .In) (fun x y H Q=>∃ i j,x=.str i∧y=.str j∧Q (.bl (!(Builtin.Str.occurrences j i 0 j.length 1).isEmpty)) H):=by
  intro pins s σ H x y v u Q I rx ry h
  obtain ⟨i,j,rfl,rfl,q⟩:=h
  obtain ⟨t,rfl⟩:=rx
  obtain ⟨t',rfl⟩:=ry
  exact in_str (fin_bl I q rfl)
theorem nomark (b:Expr) {op:CmpOp} (h:op≠.In:=by decide) (h2:op≠.NotIn:=by decide):behindInMarks op b=false:=by
  have e1:(op == CmpOp.In)=false:=by cases op <;> first | rfl | exact absurd rfl h
  have e2:(op == CmpOp.NotIn)=false:=by cases op <;> first | rfl | exact absurd rfl h2
  cases b <;> simp [behindInMarks,e1,e2]
theorem pe_cmpR {op:CmpOp} {r:R2} (ho:OpR X (compareOp op) r) (ha:PE X a ta) (hb:PE X b tb) (hm:behindInMarks op b=false):PE X (.Compare a [op] [b] pos) (tOp r ta tb):=by
  intro pins s σ H Q I h
  exact wpAny_Compare1 (binT ha hb I h fun v u s2 x y H2 I2 rx ry q=>ho pins s2 σ H2 x y v u Q I2 rx ry q) hm
def tTest (t:TE):TT:=fun σ H Q=>t σ H fun x H'=>∃ k,x=.bl k∧Q k H'
theorem pt_cmpR {op:CmpOp} {r:R2} (ho:OpR X (compareOp op) r) (ha:PE X a ta) (hb:PE X b tb) (hm:behindInMarks op b=false):PT X (.Compare a [op] [b] pos) (tTest (tOp r ta tb)):=by
  intro pins s σ H Q I h
  refine wpAny_isTrue_Compare1 (thn (ha pins s σ H _ I h) fun v s1 ⟨x,H1,I1,r1,q1⟩=>thn (hb pins s1 σ H1 _ I1 q1) fun u s2 ⟨y,H2,I2,r2,q2⟩=>
    thn (ho pins s2 σ H2 x y v u _ I2 r1 r2 q2) fun c s3 ⟨z,H3,I3,r3,k,e,q3⟩=>?_) hm
  subst e
  cases r3
  exact wpAny_truthy_bool ⟨H3,I3,q3⟩
def tChain (r r':R2) (ta tb tc:TE):TE:=fun σ H Q=>ta σ H fun x H1=>tb σ H1 fun y H2=>r x y H2 fun z H3=>∃ k,z=.bl k ∧
  (if k=true then tc σ H3 fun w' H4=>r' y w' H4 Q else Q (.bl false) H3)
theorem pe_chain {op op':CmpOp} {r r':R2} (ho:OpR X (compareOp op) r) (ho':OpR X (compareOp op') r') (ha:PE X a ta) (hb:PE X b tb) (hc:PE X c tc)
    (hm:lastMarks [op,op'] [b,c]=false:=by with_unfolding_all rfl):PE X (.Compare a [op,op'] [b,c] pos) (tChain r r' ta tb tc):=by
  intro pins s σ H Q I h
  refine Compare_chain (thn (ha pins s σ H _ I h) fun v s1 ⟨x,H1,I1,r1,q1⟩=>chain_link (thn (hb pins s1 σ H1 _ I1 q1) fun u s2 ⟨y,H2,I2,r2,q2⟩=>
    thn (ho pins s2 σ H2 x y v u _ I2 r1 r2 q2) fun d s3 ⟨z,H3,I3,r3,k,e,q3⟩=>?_)) hm
  subst e
  cases r3
  refine wpAny_truthy_bool ?_
  cases k with
  | false=>exact ite_ff ⟨.bl false,H3,I3,rfl,q3⟩
  | true=>exact ite_tt (chain_last (thn (hc pins s3 σ H3 _ I3 q3) fun w' s4 ⟨z',H4,I4,r4,q4⟩=>ho' pins s4 σ H4 y z' u w' Q I4 r2 r4 q4))
def TruV (K:PySem.W.Frag) (x:V) (H:Hp) (k:Bool):Prop:=
  match x with
  | .non=>k=false
  | .bl b=>k=b
  | .int i=>k=(i != 0)
  | .str y=>y.length≤sizeLine∧k=((y.length:Int) != 0)
  | .byt y=>y.size≤sizeLine∧k=((y.size:Int) != 0)
  | .ref p=>(∃ xs,SqL K H p xs∧k=!xs.isEmpty)∨(∃ xs,SqT K H p xs∧k=!xs.isEmpty)∨∃ kvs,H p=some (.dK kvs)∧k=!kvs.isEmpty
  | _=>False
theorem isEmpty_kv {κ:Type} {kvs:List (κ × V)} {vs:List (κ × Value)} (r:KV kvs vs):(!vs.isEmpty)=!kvs.isEmpty:=by
  cases r <;> rfl
theorem isEmpty_of {xs:List V} {its:List Value} (r:Vals xs its):(!its.toArray.isEmpty)=!xs.isEmpty:=by
  cases r <;> simp
theorem line63:(sizeLine:Nat) < 2 ^ 63:=by rw [sizeLine_eq];decide
theorem tru_ok:TruR X (fun x H Q=>∃ k,TruV X.K x H k∧Q k H):=by
  intro pins s σ H x v Q I rx h
  obtain ⟨k,e,q⟩:=h
  have hl:=line63
  have hs:sizeLine=16777216:=sizeLine_eq
  cases x with
  | non=>
    cases rx
    have e':k=false:=e
    subst e'
    exact truthy_none ⟨H,I,q⟩
  | bl b=>
    cases rx
    have e':k=b:=e
    subst e'
    exact wpAny_truthy_bool ⟨H,I,q⟩
  | int i=>
    obtain ⟨t,rfl⟩:=rx
    have e':k=(i != 0):=e
    subst e'
    exact PySem.P.truthy_int ⟨H,I,q⟩
  | str y=>
    obtain ⟨t,rfl⟩:=rx
    obtain ⟨hy,e'⟩:y.length≤sizeLine∧k=((y.length:Int) != 0):=e
    subst e'
    exact PySem.P.truthy_str (by omega) ⟨H,I.tok _,q⟩
  | byt y=>
    obtain ⟨t,rfl⟩:=rx
    obtain ⟨hy,e'⟩:y.size≤sizeLine∧k=((y.size:Int) != 0):=e
    subst e'
    exact PySem.W.truthy_bytes (by omega) ⟨H,I.tok _,q⟩
  | ref p=>
    cases rx
    have e':(∃ xs,SqL X.K H p xs∧k=!xs.isEmpty)∨(∃ xs,SqT X.K H p xs∧k=!xs.isEmpty)∨∃ kvs,H p=some (.dK kvs)∧k=!kvs.isEmpty:=e
    rcases e' with ⟨xs,hx,e'⟩ | ⟨xs,hx,e'⟩ | ⟨kvs,hx,e'⟩
    · subst e'
      obtain ⟨its,r,pl,hz⟩:=I.list hx
      have hlen:=r.length
      exact wpAny_truthy_list pl.isList (by simp only [List.size_toArray];omega) ⟨H,I.tok _,by rw [isEmpty_of r];exact q⟩
    · subst e'
      obtain ⟨its,r,pl,hz⟩:=I.tuple hx
      have hlen:=r.length
      exact truthy_tuple pl (by simp only [List.size_toArray];omega) ⟨H,I.tok _,by rw [isEmpty_of r];exact q⟩
    · subst e'
      obtain ⟨hz,hS,vs,r,m⟩:kvs.length≤sizeLine∧(p == sysModules)=false∧∃ vs,KV kvs vs∧s.heap.DictOf (mixKind X.prog X.w) p vs:=I.hok p _ hx
      have hlen:kvs.length=vs.length:=Paired.length r
      exact wpAny_truthy_dict hS m (by omega) ⟨H,I.tok _,by rw [isEmpty_kv r];exact q⟩
  | _=>exact (show False from e).elim
theorem pt_truth (ha:PE X a ta) (he:∀ whole,isTrue a X.env whole=(do let v ← whole;standAt a.pos;holding [v] (truthy v))) :
    PT X a (fun σ H Q=>ta σ H fun x H'=>∃ k,TruV X.K x H' k∧Q k H'):=by
  intro pins s σ H Q I h
  exact isTrue_plain (thn (ha pins s σ H _ I h) fun v s1 ⟨x,H1,I1,r1,q1⟩=>tru_ok pins s1 σ H1 x v Q I1 r1 q1) (he _)
theorem op_add_str:OpR X (binaryOp .Add) (fun x y H Q=>∃ i j,x=.str i∧y=.str j∧i.length+j.length≤sizeLine∧Q (.str (i++j)) H):=by
  intro pins s σ H x y v u Q I rx ry h
  obtain ⟨i,j,rfl,rfl,hz,q⟩:=h
  obtain ⟨t,rfl⟩:=rx
  obtain ⟨t',rfl⟩:=ry
  exact add_str (fun t' tk=>⟨.str (i++j),H,I.tok _,⟨_,rfl⟩,q⟩) hz
theorem vals1 {x:V} {us:List Value} (r:Vals [x] us):∃ u,us=[u]∧RelV x u:=by
  cases r with
  | cons r1 r2=>cases r2;exact ⟨_,rfl,r1⟩
theorem vals2 {x y:V} {us:List Value} (r:Vals [x,y] us):∃ u w',us=[u,w']∧RelV x u∧RelV y w':=by
  cases r with
  | cons r1 r2=>
    cases r2 with
    | cons r3 r4=>cases r4;exact ⟨_,_,rfl,r1,r3⟩
theorem call_min2 (hc:X.calm=true):CallR X (.builtin "min") (fun xs H Q=>∃ i j,xs=[.int i,.int j]∧Q (.int (if j < i then j else i)) H):=by
  intro pins s σ H xs us Q I r h
  obtain ⟨i,j,rfl,q⟩:=h
  obtain ⟨u,w',rfl,⟨t,rfl⟩,⟨t',rfl⟩⟩:=vals2 r
  refine min_two_ints (I.ok.hd hc) fun h' tk k=>⟨_,H,I.kept k,?_,q⟩
  by_cases hj:j < i
  · rw [if_pos hj,if_pos hj];exact ⟨_,rfl⟩
  · rw [if_neg hj,if_neg hj];exact ⟨_,rfl⟩
theorem call_int1:CallR X (.type "int") (fun xs H Q=>(∃ i,xs=[.int i]∧Q (.int i) H)∨∃ k,xs=[.bl k]∧Q (.int (if k then 1 else 0)) H):=by
  intro pins s σ H xs us Q I r h
  rcases h with ⟨i,rfl,q⟩ | ⟨k,rfl,q⟩
  · obtain ⟨u,rfl,t,rfl⟩:=vals1 r
    exact call_int_int ⟨.int i,H,I,⟨_,rfl⟩,q⟩
  · obtain ⟨u,rfl,r1⟩:=vals1 r
    cases r1
    exact call_int_bool ⟨.int (if k then 1 else 0),H,I.tok _,⟨_,rfl⟩,q⟩
def LenV (K:PySem.W.Frag) (x:V) (H:Hp) (n:Nat):Prop:=
  match x with
  | .str y=>y.length≤sizeLine∧n=y.length
  | .byt y=>y.size≤sizeLine∧n=y.size
  | .ref p=>(∃ xs,SqL K H p xs∧n=xs.length)∨∃ xs,SqT K H p xs∧n=xs.length
  | _=>False
theorem call_len:CallR X (.builtin "len") (fun xs H Q=>∃ x n,xs=[x]∧LenV X.K x H n∧Q (.int n) H):=by
  intro pins s σ H xs us Q I r h
  obtain ⟨x,n,rfl,e,q⟩:=h
  obtain ⟨u,rfl,rx⟩:=vals1 r
  have hl:=line63
  have hs:sizeLine=16777216:=sizeLine_eq
  cases x with
  | str y=>
    obtain ⟨t,rfl⟩:=rx
    obtain ⟨hy,e'⟩:y.length≤sizeLine∧n=y.length:=e
    subst e'
    exact len_str (by omega) ⟨.int _,H,I.tok _,⟨_,rfl⟩,q⟩
  | byt y=>
    obtain ⟨t,rfl⟩:=rx
    obtain ⟨hy,e'⟩:y.size≤sizeLine∧n=y.size:=e
    subst e'
    exact PySem.W.len_bytes (by omega) ⟨.int _,H,I.tok _,⟨_,rfl⟩,q⟩
  | ref p=>
    cases rx
    have e':(∃ xs,SqL X.K H p xs∧n=xs.length)∨∃ xs,SqT X.K H p xs∧n=xs.length:=e
    rcases e' with ⟨xs,hx,e'⟩ | ⟨xs,hx,e'⟩
    · subst e'
      obtain ⟨its,r',pl,hz⟩:=I.list hx
      have hlen:=r'.length
      exact Calls.call_len_list pl.isList (by simp only [List.size_toArray];omega) ⟨.int xs.length,H,I.tok _,⟨_,by simp only [List.size_toArray];rw [hlen]⟩,q⟩
    · subst e'
      obtain ⟨its,r',pl,hz⟩:=I.tuple hx
      have hlen:=r'.length
      exact len_tuple pl (by simp only [List.size_toArray];omega) ⟨.int xs.length,H,I.tok _,⟨_,by simp only [List.size_toArray];rw [hlen]⟩,q⟩
  | _=>exact (show False from e).elim
end
end L2
namespace L2
open PySem PySem.Spec PyProof.Rows
structure ObjM (h:Heap) (x dx C:Addr) (mA:Str→Option Value):Prop where
  obj:h.get? x=some (PySem.W.instObj C dx)
  ns:h.Ns1 dx mA
  ne:dx≠x
theorem lookIn_ns {h:Heap} {dx:Addr} {mA:Str→Option Value} (n:h.Ns1 dx mA):∃ od,h.get? dx=some od∧∀ name,PySem.W.lookIn name od=some (mA name):=by
  obtain ⟨o,es,ep,ho,hd,hk,_,hm⟩:=n
  refine ⟨o,ho,fun name=>?_⟩
  have e:=hm name
  unfold nsFind findBy at e
  rw [← Array.find?_toList] at e
  unfold PySem.W.lookIn
  rw [hd]
  dsimp only
  split
  · rename_i y q
    rw [q] at e
    exact congrArg some e
  · rename_i q
    rw [q] at e
    have a:es.toList.any (·.refKey)=false:=by
      rw [List.any_eq_false]
      intro y hy
      obtain ⟨z,t,hkey⟩:=hk y (Array.mem_toList_iff.mp hy)
      simp [DictEntry.refKey,hkey]
    have a':¬ es.toList.any (·.refKey)=true:=by rw [a];exact Bool.false_ne_true
    rw [if_neg a']
    exact congrArg some e
theorem ObjM.look {h:Heap} {x dx C:Addr} {mA:Str→Option Value} (I:ObjM h x dx C mA):∃ od,PySem.W.InstAt h x (PySem.W.instObj C dx) C (some od)∧∀ name,PySem.W.lookIn name od=some (mA name):=
  let ⟨od,ho,hl⟩:=lookIn_ns I.ns
  ⟨od,⟨I.obj,rfl,rfl,ho⟩,hl⟩
section
variable {prog:Program} {w:World} {A:Around} {E:Value→Shared→Prop} {s:Shared} {K:PySem.W.Frag} {x dx C f:Addr} {mA:Str→Option Value} {name:Str} {v:Value}
end
section
variable {P:Program} {w:World} {H H':Hp} {h h':Heap} {a C dx:Addr} {fs fs':List (Str × V)}
theorem ins_get (hok:HOk P w H h) (e:H a=some (.ins C dx fs)):∃ mA,ObjM h a dx C mA∧(∀ f,RelO (fs.lookup f) (mA f))∧PySem.Within mA (fs.map (·.1))∧fs.length≤1000∧H dx=some (.own a):=by
  obtain ⟨d,z,ne,ob,mA,n,r,q⟩:=(show ObjOk P w H h a (.ins C dx fs) from hok a _ e)
  exact ⟨mA,⟨ob,n,ne⟩,r,q,z,d⟩
end
structure Cls (K:PySem.W.Frag) (C:Addr):Prop where
  pg:PySem.W.plainGet K C Str.empty=true
  hd:PySem.W.hasDictIn K C=true
  po:PySem.W.plainOver K C=true
  sa:PySem.W.findIn K (.ref C) "__setattr__" = some (some (.builtin "object.__setattr__"))
theorem Cls.get {K:PySem.W.Frag} {C:Addr} (c:Cls K C) (f:Str):PySem.W.plainGet K C f=true:=c.pg
section
variable {X:Cx} {pins:List (Addr × Obj)} {σ:St} {H:Hp} {s:Shared} {a C dx:Addr} {fs:List (Str × V)} {f:Str} {v:V} {A:Around} {E:Value→Shared→Prop}
theorem Inv.made (I:Inv X pins σ H s):Inv X pins σ (upd (upd H s.heap.objs.size (.own (s.heap.objs.size+1))) (s.heap.objs.size+1) (.ins C s.heap.objs.size []))
    { s with heap:=(s.heap.push PySem.W.emptyDict).push (PySem.W.instObj C s.heap.objs.size) }:=by
  have e1:(s.heap.push PySem.W.emptyDict).get? s.heap.objs.size=some PySem.W.emptyDict:=Heap.get?_push_size s.heap rfl
  have e2:((s.heap.push PySem.W.emptyDict).push (PySem.W.instObj C s.heap.objs.size)).get? (s.heap.objs.size+1)=some (PySem.W.instObj C s.heap.objs.size):=by
    have:=Heap.get?_push_size (s.heap.push PySem.W.emptyDict) (o:=PySem.W.instObj C s.heap.objs.size) rfl
    rwa [Heap.size_push] at this
  have e3:(s.heap.push PySem.W.emptyDict).Ns s.heap.objs.size (fun _=>none):=⟨PySem.W.emptyDict,#[],_,e1,rfl,(fun e he=>absurd he (by simp)),fun _=>rfl⟩
  have I1:=I.laid (a:=s.heap.objs.size) (o:=.own (s.heap.objs.size+1)) (h':=s.heap.push PySem.W.emptyDict) (t':=s.toks) (fun b u q=>Heap.get?_push_of_some _ q) (Nat.le_refl _) ⟨_,e1⟩
  refine I1.laid (a:=s.heap.objs.size+1) (o:=.ins C s.heap.objs.size []) (t':=s.toks) (fun b u q=>Heap.get?_push_of_some _ q) (Nat.le_of_eq (Heap.size_push _ _)) ?_
  have ne:s.heap.objs.size≠s.heap.objs.size+1:=Nat.ne_of_lt (Nat.lt_succ_self _)
  refine ⟨by rw [upd_ne ne,upd_same],Nat.zero_le _,ne,e2,fun _=>none,(Heap.Ns1.of_empty e3).at fun o q=>Heap.get?_push_of_some _ q,fun _=>True.intro,fun y hy=>absurd rfl hy⟩
end
section
variable {X:Cx} {o e value:Expr} {f:Str} {pos pos' tpos:Pos} {ta tv:TE}
end
section
variable {X:Cx} {pins:List (Addr × Obj)} {σ:St} {H:Hp} {s:Shared} {A:Around} {E:Value→Shared→Prop} {Q:Value→Shared→Prop} {c:Value} {b:Bool}
inductive TyOf (K:PySem.W.Frag) (H:Hp):V→Value→Prop where
  | non:TyOf K H .non (.type "NoneType")
  | bl (x:Bool):TyOf K H (.bl x) (.type "bool")
  | int (i:Int):TyOf K H (.int i) (.type "int")
  | str (x:Str):TyOf K H (.str x) (.type "str")
  | flt (x:UInt64):TyOf K H (.flt x) (.type "float")
  | lst {a:Addr} {xs:List V} (e:H a=some (.lst xs)):TyOf K H (.ref a) (.type "list")
  | frz {a:Addr} {o:Obj} {xs:List V} (e:H a=some (.frz o (.lst xs))):TyOf K H (.ref a) (.type "list")
  | tup {a:Addr} {xs:List V} (e:H a=some (.tup xs)):TyOf K H (.ref a) (.type "tuple")
  | dK {a:Addr} {kvs:List (Key × V)} (e:H a=some (.dK kvs)):TyOf K H (.ref a) (.type "dict")
  | dT {a:Addr} {kvs:List (List Key × V)} (e:H a=some (.dT kvs)):TyOf K H (.ref a) (.type "dict")
  | ins {a C dx:Addr} {fs:List (Str × V)} (e:H a=some (.ins C dx fs)) (cl:Cls K C) (ha:PySem.W.findIn K (.ref C) "__class__" = some (some (.builtin "object.__class__")))
      (hn:PySem.W.specialIn K (.builtin "object.__class__") "__get__" = some (some (.builtin "getset_descriptor.__get__"))) (htk:PySem.W.takesIn K (.builtin "object.__class__")=some true)
      (hm:PySem.W.mroIn K C (.type "object")=some true):TyOf K H (.ref a) (.ref C)
theorem isinst_ok {x:V} {u t:Value} (I:Inv X pins σ H s) (rx:RelV x u) (ty:TyOf X.K H x t) (e:PySem.W.kitOne X.K t c=some b) (h:∀ tk,Q (.bool b) { s with toks:=tk }) :
    wpAny (model X.prog X.w) A (call (.builtin "isinstance") [u,c]) Q E s:=by
  cases ty with
  | non=>cases (show u=Value.none from rx);exact PySem.W.kia_one PySem.W.kitx_none I.kIn True.intro e (fun z=>nomatch z) h
  | bl y=>cases (show u=Value.bool y from rx);exact PySem.W.kia_one PySem.W.kitx_bool I.kIn True.intro e (fun z=>nomatch z) h
  | int i=>obtain ⟨t,q⟩:=(show ∃ t,u=Value.int i t from rx);cases q;exact PySem.W.kia_one PySem.W.kitx_int I.kIn True.intro e (fun z=>nomatch z) h
  | str y=>obtain ⟨t,q⟩:=(show ∃ t,u=Value.str y t from rx);cases q;exact PySem.W.kia_one PySem.W.kitx_str I.kIn True.intro e (fun z=>nomatch z) h
  | flt y=>obtain ⟨t,q⟩:=(show ∃ t,u=Value.float y t from rx);cases q;exact PySem.W.kia_one PySem.W.kitx_float I.kIn True.intro e (fun z=>nomatch z) h
  | @lst a xs ea=>
    cases (show u=Value.ref a from rx)
    obtain ⟨_,_,n,_,h1⟩:=(show ObjOk X.prog X.w H s.heap a (.lst xs) from I.hok a _ ea)
    exact PySem.W.kia_one PySem.W.kitx_list I.kIn ⟨_,h1,rfl⟩ e (fun z=>nomatch z) h
  | @frz a ob xs ea=>
    cases (show u=Value.ref a from rx)
    obtain ⟨_,_,_,n,_,h1⟩:=(show ObjOk X.prog X.w H s.heap a (.frz ob (.lst xs)) from I.hok a _ ea)
    exact PySem.W.kia_one PySem.W.kitx_list I.kIn ⟨_,h1,rfl⟩ e (fun z=>nomatch z) h
  | @tup a xs ea=>
    cases (show u=Value.ref a from rx)
    obtain ⟨_,_,_,p⟩:=(show ObjOk X.prog X.w H s.heap a (.tup xs) from I.hok a _ ea)
    obtain ⟨o,h1,h2,_⟩:=p
    exact PySem.W.kia_one PySem.W.kitx_tuple I.kIn ⟨o,h1,h2⟩ e (fun z=>nomatch z) h
  | @dK a kvs ea=>
    cases (show u=Value.ref a from rx)
    obtain ⟨_,_,vs,_,p⟩:=(show ObjOk X.prog X.w H s.heap a (.dK kvs) from I.hok a _ ea)
    obtain ⟨o,es,ep,h1,h2,_⟩:=p
    exact PySem.W.kia_one PySem.W.kitx_dict I.kIn ⟨o,h1,h2.1⟩ e (fun z=>nomatch z) h
  | @dT a kvs ea=>
    cases (show u=Value.ref a from rx)
    obtain ⟨_,_,xs,_,o,es,ep,h1,h2,_⟩:=(show ObjOk X.prog X.w H s.heap a (.dT kvs) from I.hok a _ ea)
    exact PySem.W.kia_one PySem.W.kitx_dict I.kIn ⟨o,h1,h2.1⟩ e (fun z=>nomatch z) h
  | @ins a C dx fs ea cl ha hn htk hm=>
    cases (show u=Value.ref a from rx)
    obtain ⟨mA,O,_⟩:=ins_get I.hok ea
    obtain ⟨od,J,_⟩:=O.look
    exact PySem.W.kia_one (PySem.W.kitx_own (cl.get _) cl.hd ha hn htk hm) I.kIn J e (fun z=>nomatch z) h
end
end L2
namespace L2
open PySem PySem.Spec PyProof.Rows
structure Room (k:Nat) (A:Around):Prop where
  hd:A.handled=none
  dp:A.depth+3 * k+5 < recursionLimit
  un:A.units+16 * k+200 < cLine
  gd:A.guards=some []
theorem Room.mono {j k:Nat} {A:Around} (r:Room k A) (h:j≤k):Room j A:=⟨r.hd,by have:=r.dp;omega,by have:=r.un;omega,by first | exact r.gd | (simpa [Around.under,Code.isGuard,guardIds] using r.gd)⟩
theorem Room.deeper {k:Nat} {A:Around} (r:Room (k+1) A) (env:Env):Room k (A.deeper env):=
  ⟨r.hd,by have:=r.dp;show A.depth+1+3 * k+5 < _;omega,by have:=r.un;show A.units+3+16 * k+200 < _;omega,by first | exact r.gd | (simpa [Around.under,Code.isGuard,guardIds] using r.gd)⟩
theorem Room.in1 {k:Nat} {A:Around} (r:Room (k+1) A):Room k A.in1:=
  ⟨r.hd,by have:=r.dp;show A.depth+3 * k+5 < _;omega,by have:=r.un;show A.units+1+16 * k+200 < _;omega,by first | exact r.gd | (simpa [Around.under,Code.isGuard,guardIds] using r.gd)⟩
theorem Room.depth {k:Nat} {A:Around} (r:Room k A):A.depth < recursionLimit:=by have:=r.dp;omega
theorem Room.units {k:Nat} {A:Around} (r:Room k A):A.units+64 < cLine:=by have:=r.un;omega
def tNil:TA:=fun _ H Q=>Q [] H
def tCons (ta:TE) (tr:TA):TA:=fun σ H Q=>ta σ H fun x H1=>tr σ H1 fun xs H2=>Q (x :: xs) H2
section
variable {X:Cx} {e:Expr} {es:List Expr} {te:TE} {t:TA} {pos:Pos}
theorem pa_nil:PA X [] tNil:=fun _ _ _ _ H Q I h=>Calls.spliced_nil ⟨[],H,I,.nil,h⟩
theorem pa_cons (ha:PE X e te) (hr:PA X es t) (hs:starEach (e :: es) X.env=(false,eval e X.env) :: starEach es X.env:=by rfl):PA X (e :: es) (tCons te t):=by
  intro pos pins s σ H Q I h
  rw [hs]
  show wpAny _ _ (spliced ((false,eval e X.env) :: backTo pos (starEach es X.env))) _ _ s
  refine Calls.spliced_cons (thn (ha pins s σ H _ I h) fun u s1 ⟨x,H1,I1,r1,q1⟩=>?_)
  exact thn (hr pos pins s1 σ H1 _ I1 q1) fun us s2 ⟨xs,H2,I2,r2,q2⟩=>⟨x :: xs,H2,I2,.cons r1 r2,q2⟩
def tTup (t:TA):TE:=fun σ H Q=>t σ H fun xs H1=>xs.length≤sizeLine∧∀ p,H1 p=none→Q (.ref p) (upd H1 p (.tup xs))
def tLst (t:TA):TE:=fun σ H Q=>t σ H fun xs H1=>xs.length≤sizeLine∧∀ p,H1 p=none→Q (.ref p) (upd H1 p (.lst xs))
theorem pe_tup {x1} (h:PA X es t):PE X (.Tuple es x1 pos) (tTup t):=by
  intro pins s σ H Q I hq
  refine wpAny_Tuple_spliced (thn (h pos pins s σ H _ I hq) fun us s1 ⟨xs,H1,I1,r,z,q⟩=>⟨by rw [← r.length];exact z,?_⟩)
  have hf:H1 s1.heap.objs.size=none:=I1.hok.fresh (Nat.le_refl _)
  refine ⟨.ref s1.heap.objs.size,upd H1 s1.heap.objs.size (.tup xs),I1.laid (t':=s1.toks) (fun b u e=>Heap.get?_push_of_some _ e) (Nat.le_refl _) ?_,rfl,q _ hf⟩
  exact ⟨⟨z,_,Heap.get?_push_size _ rfl,rfl⟩,us,r,⟨_,Heap.get?_push_size _ rfl,rfl,_,rfl⟩⟩
theorem pe_lst (h:PA X es t):PE X (.List es pos) (tLst t):=by
  intro pins s σ H Q I hq
  refine wpAny_List_spliced (thn (h pos pins s σ H _ I hq) fun us s1 ⟨xs,H1,I1,r,z,q⟩=>⟨by rw [← r.length];exact z,?_⟩)
  have hf:H1 s1.heap.objs.size=none:=I1.hok.fresh (Nat.le_refl _)
  refine ⟨.ref s1.heap.objs.size,upd H1 s1.heap.objs.size (.lst xs),I1.laid (t':=s1.toks) (fun b u e=>Heap.get?_push_of_some _ e) (Nat.le_refl _) ?_,rfl,q _ hf⟩
  exact ⟨z,us,0,r,Heap.get?_push_size _ rfl⟩
end
abbrev Sp:=List V→Hp→VK→XK→Prop
abbrev CXT:=List Env→Hp→Shared→XK→Value→Shared→Prop
structure Env0 (P:Program) (w:World) (K:PySem.W.Frag) (mg:Str→Option Value) (base:Heap) (A:Around) (outer:List Env) (s:Shared) (H:Hp):Prop where
  frames:A.frames=some outer
  mod:Mod K mg base
  bs:∀ b o,base.get? b=some o→s.heap.get? b=some o∧H b=none
  bsz:base.objs.size≤s.heap.objs.size
  funs:s.heap.FunFrames base outer
  frf:∀ b∈frs outer,H b=none
  hok:HOk P w H s.heap
  bare:AllBare s.gens
def CE (outer:List Env) (P:Program) (w:World) (H:Hp) (s:Shared) (Q:VK) (u:Value) (s':Shared):Prop:=
  ∃ v H',s'.os=s.os∧AllBare s'.gens∧Un (frs outer) [] H H' s.heap s'.heap∧HOk P w H' s'.heap∧RelV v u∧Q v H'
def CR (CX:CXT) (outer:List Env) (P:Program) (w:World) (H:Hp) (s:Shared) (Q:VK) (E:XK) (r:Result) (s':Shared):Prop:=
  match r with
  | .ok (.ret u)=>CE outer P w H s Q u s'
  | .ok _=>False
  | .error e=>CX outer H s E e s'
structure FnOk (P:Program) (w:World) (K:PySem.W.Frag) (mg:Str→Option Value) (base:Heap) (CX:CXT) (k:Nat) (f:Addr) (fd:FuncData) (ps:List Str) (sp:Sp):Prop where
  len:∀ vs H Q E,sp vs H Q E→vs.length=ps.length
  run:∀ (A:Around) (outer:List Env) (s:Shared) (H:Hp) (args:Args) (us:List Value) (vs:List V) (Q:VK) (E:XK),Room k A→Env0 P w K mg base A outer s H→BindsTo s fd args (ps.zip us)→Vals vs us→sp vs H Q E →
    codeAny (model P w) A (.call (.ref f) args) (CR CX outer P w H s Q E) s
theorem FnOk.mono {P:Program} {w:World} {K:PySem.W.Frag} {mg:Str→Option Value} {base:Heap} {CX:CXT} {j k:Nat} {f:Addr} {fd:FuncData} {ps:List Str} {sp:Sp} (F:FnOk P w K mg base CX j f fd ps sp) (h:j≤k) :
    FnOk P w K mg base CX k f fd ps sp:=⟨F.len,fun A outer s H args us vs Q E hr=>F.run A outer s H args us vs Q E (hr.mono h)⟩
theorem FnOk.imp {P:Program} {w:World} {K:PySem.W.Frag} {mg:Str→Option Value} {base:Heap} {CX:CXT} {k:Nat} {f:Addr} {fd:FuncData} {ps:List Str} {sp sp':Sp} (F:FnOk P w K mg base CX k f fd ps sp)
    (h:∀ vs H Q E,sp' vs H Q E→sp vs H Q E):FnOk P w K mg base CX k f fd ps sp':=
  ⟨fun vs H Q E q=>F.len vs H Q E (h _ _ _ _ q),fun A outer s H args us vs Q E hr he hb hv hs=>F.run A outer s H args us vs Q E hr he hb hv (h _ _ _ _ hs)⟩
theorem Env0.in1 {P:Program} {w:World} {K:PySem.W.Frag} {mg:Str→Option Value} {base:Heap} {A:Around} {outer:List Env} {s:Shared} {H:Hp} (e:Env0 P w K mg base A outer s H) :
    Env0 P w K mg base A.in1 outer s H:=⟨e.frames,e.mod,e.bs,e.bsz,e.funs,e.frf,e.hok,e.bare⟩
section
variable {X:Cx} {pins:List (Addr × Obj)} {σ:St} {H:Hp} {s s':Shared}
theorem Inv.env0 (I:Inv X pins σ H s):Env0 X.prog X.w X.K X.mg X.base X.A X.stack s H:=
  ⟨I.ok.frames,I.ok.mod,I.bs,Nat.le_trans I.ok.bsz I.sz,I.stack,I.stkFree,I.hok,I.bare⟩
theorem Inv.after {Q:VK} {u:Value} (I:Inv X pins σ H s) (h:CE X.stack X.prog X.w H s Q u s'):EP X pins σ Q u s':=by
  obtain ⟨v,H',os,bare,un,hok,r,q⟩:=h
  obtain ⟨hh,g,d,t,os'⟩:=s'
  obtain rfl:os'=s.os:=os
  exact ⟨v,H',I.call (h':=hh) (g':=g) (d':=d) (t':=t) (ch:=[]) un hok bare (fun b z=>absurd z (by simp)),r,q⟩
end
def tCall (sp:Sp) (dvs:List V) (E:XK) (t:TA):TE:=fun σ H Q=>t σ H fun vs H1=>sp (vs++dvs) H1 Q E
def Binds (K:PySem.W.Frag) (fd:FuncData) (ps:List Str) (ds:List Value):Prop:=
  ∀ (s:Shared) (us:List Value),K.In s.heap→(us++ds).length=ps.length→BindsTo s fd ⟨us,[]⟩ (ps.zip (us++ds))
theorem Binds.all {K:PySem.W.Frag} {fd:FuncData} {ps:List Str} (h:∀ us:List Value,us.length=ps.length→bindArgs fd ⟨us,[]⟩=pure (ps.zip us)):Binds K fd ps []:=fun s us _ hl=>by
  rw [List.append_nil] at hl ⊢
  exact .of_eq (h us hl)
def Passes (CX:CXT) (X:Cx) (E:XK):Prop:=∀ (pins:List (Addr × Obj)) (σ:St) (H:Hp) (s:Shared) (e:Value) (s':Shared),Inv X pins σ H s→CX X.stack H s E e s'→X.xe e s'
section
variable {X:Cx} {CX:CXT} {k:Nat} {f C:Addr} {fd:FuncData} {ps:List Str} {sp:Sp} {dvs:List V} {ds:List Value} {E:XK} {x m:Str} {p pos apos:Pos} {e o:Expr} {es:List Expr} {ta:TE} {t:TA}
theorem run_fn {pins:List (Addr × Obj)} {σ:St} {H:Hp} {s:Shared} {Q:VK} {us:List Value} {vs:List V} (F:FnOk X.prog X.w X.K X.mg X.base CX k f fd ps sp) (hr:Room k X.A) (hb:Binds X.K fd ps ds) (hd:Vals dvs ds) (hx:Passes CX X E)
    (I:Inv X pins σ H s) (r:Vals vs us) (h:sp (vs++dvs) H Q E):wpAny (model X.prog X.w) X.A (call (.ref f) us) (EP X pins σ Q) X.xe s:=by
  have r2:Vals (vs++dvs) (us++ds):=r.append hd
  have hl:(us++ds).length=ps.length:=by rw [← r2.length];exact F.len _ _ _ _ h
  refine wpAny_call (codeAny_mono (F.run X.A X.stack s H ⟨us,[]⟩ (us++ds) (vs++dvs) Q E hr I.env0 (hb s us I.kIn hl) r2 h) fun r s' hq=>?_)
  cases r with
  | error e=>exact hx pins σ H s e s' I hq
  | ok fl=>
    cases fl with
    | ret u=>exact I.after hq
    | next=>exact False.elim hq
    | brk=>exact False.elim hq
    | cont=>exact False.elim hq
theorem pe_call (F:FnOk X.prog X.w X.K X.mg X.base CX k f fd ps sp) (hr:Room k X.A) (hg:Gl X x) (hm:X.mg x=some (.ref f)) (hk:PySem.W.keepIn X.K (.ref f)=true) (hb:Binds X.K fd ps ds) (hd:Vals dvs ds) (hx:Passes CX X E)
    (ha:PA X (e :: es) t) (hdb:(x == ("__debug__" : Str))=false:=by decide) (he:starEach (e :: es) X.env=(false,eval e X.env) :: starEach es X.env:=by rfl) (hpl:(backTo pos (starEach es X.env)).any (·.1)=false:=by rfl) :
    PE X (.Call (.Name x p) (e :: es) [] pos) (tCall sp dvs E t):=by
  intro pins s σ H Q I h
  refine wpAny_Call_Name_kw (ld_glob I hg hm ?_ hdb)
  refine PySem.W.callWith_K (h₀:=X.base) I.ok.mod.kin hk (thn (ha pos pins s σ H _ I h) fun us s1 ⟨vs,H1,I1,r,q⟩=>⟨I1.kIn,?_⟩) he hpl
  exact run_fn F hr hb hd hx I1 r q
end
section
variable {X:Cx} {CX:CXT} {k:Nat} {f C:Addr} {fd:FuncData} {ps ks:List Str} {sp:Sp} {E:XK} {x m:Str} {p pos apos kpos:Pos} {e o:Expr} {es:List Expr} {kws:List Keyword} {te ta:TE} {t tk:TA} {nm:Option Str}
variable {g:List Value→List Value→List Value} {gV:List V→List V→List V}
end
structure FnScope (N P:List Str) (sc:Scope):Prop where
  kind:sc.kind=.function
  co:sc.isCoroutine=false
  gen:sc.isGenerator=false
  nd:N.Nodup
  pre:N.take P.length=P
  par:∀ x∈P,sc.names.lookup x=some .local∨sc.names.lookup x=some .cell
  nofree:∀ y∈sc.names,y.2≠.free
theorem bindL_out {kindOf:Str→Option NameKind} {x:Str}:∀ {binds:List (Str × Value)} {m:Str→Option Value},(∀ v,(x,v) ∉ binds)→bindL kindOf binds m x=m x
  | [],_,_=>rfl
  | (n,v) :: r,m,h=>by
    unfold bindL
    rw [bindL_out fun w hw=>h w (List.mem_cons_of_mem _ hw)]
    split
    · have:x≠n:=by rintro rfl;exact h v List.mem_cons_self
      simp [this]
    · rfl
theorem bindC_out {kindOf:Str→Option NameKind} {x:Str}:∀ {binds:List (Str × Value)} {m:Str→Option Value},(∀ v,(x,v) ∉ binds)→bindC kindOf binds m x=m x
  | [],_,_=>rfl
  | (n,v) :: r,m,h=>by
    unfold bindC
    rw [bindC_out fun w hw=>h w (List.mem_cons_of_mem _ hw)]
    split
    · rfl
    · have:x≠n:=by rintro rfl;exact h v List.mem_cons_self
      simp [this]
theorem bindL_get {kindOf:Str→Option NameKind} {x:Str} {v:Value}:∀ {P:List Str} {vs:List Value} {i:Nat} {m:Str→Option Value},P.Nodup→P[i]?=some x→vs[i]?=some v→kindOf x=some .local →
    bindL kindOf (P.zip vs) m x=some v
  | [],_,_,_,_,h,_,_=>by simp at h
  | _ :: _,[],_,_,_,_,h,_=>by simp at h
  | p :: P,w :: vs,0,m,nd,h1,h2,hk=>by
    simp at h1 h2;subst h1;subst h2
    show bindL kindOf ((p,w) :: P.zip vs) m p=_
    unfold bindL
    rw [bindL_out fun v hv=>(List.nodup_cons.mp nd).1 (List.of_mem_zip hv).1,if_pos hk]
    simp
  | p :: P,w :: vs,i+1,m,nd,h1,h2,hk=>by
    show bindL kindOf ((p,w) :: P.zip vs) m x=_
    unfold bindL
    exact bindL_get (i:=i) (List.nodup_cons.mp nd).2 (by simpa using h1) (by simpa using h2) hk
theorem bindC_get {kindOf:Str→Option NameKind} {x:Str} {v:Value}:∀ {P:List Str} {vs:List Value} {i:Nat} {m:Str→Option Value},P.Nodup→P[i]?=some x→vs[i]?=some v→kindOf x≠some .local →
    bindC kindOf (P.zip vs) m x=some v
  | [],_,_,_,_,h,_,_=>by simp at h
  | _ :: _,[],_,_,_,_,h,_=>by simp at h
  | p :: P,w :: vs,0,m,nd,h1,h2,hk=>by
    simp at h1 h2;subst h1;subst h2
    show bindC kindOf ((p,w) :: P.zip vs) m p=_
    unfold bindC
    rw [bindC_out fun v hv=>(List.nodup_cons.mp nd).1 (List.of_mem_zip hv).1,if_neg hk]
    simp
  | p :: P,w :: vs,i+1,m,nd,h1,h2,hk=>by
    show bindC kindOf ((p,w) :: P.zip vs) m x=_
    unfold bindC
    exact bindC_get (i:=i) (List.nodup_cons.mp nd).2 (by simpa using h1) (by simpa using h2) hk
def start (N:List Str) (vs:List V):St:=vs.map some++List.replicate (N.length - vs.length) none
def cxOf (CX:CXT) (P:Program) (w:World) (K:PySem.W.Frag) (mg:Str→Option Value) (base:Heap) (N:List Str) (qual:Str) (scope:Scope) (f:Addr) (cd:Value) (A:Around) (outer:List Env) (s:Shared) (H:Hp) (E:XK):Cx where
  prog:=P
  w:=w
  K:=K
  mg:=mg
  base:=base
  A:=A.deeper (envOfC qual scope s.heap.objs.size f cd)
  N:=N
  s₀:=s
  H₀:=H
  env:=envOfC qual scope s.heap.objs.size f cd
  outer:=outer
  stack:=envOfC qual scope s.heap.objs.size f cd :: outer
  ex:=[]
  calm:=true
  fn:=fun _=>true
  pn:=[]
  xe:=fun e s'=>wpAny (model P w) (A.deeper (envOfC qual scope s.heap.objs.size f cd)) (leaving (envOfC qual scope s.heap.objs.size f cd) e) (fun _ s''=>CX outer H s E e s'') (fun e' s''=>CX outer H s E e' s'') s'
theorem cell_has {sc:Scope} {n:Nat} {x:Str} (h:sc.names.lookup x=some .cell):∃ c,(cellsFrom n sc.names []).lookup x=some c:=by
  have q:=PySem.W.cellsFrom_some sc.names n [] (.inl h)
  exact Option.isSome_iff_exists.mp q
theorem inv_start {CX:CXT} {P:Program} {w:World} {K:PySem.W.Frag} {mg:Str→Option Value} {base:Heap} {N ps:List Str} {qual:Str} {scope:Scope} {f:Addr} {cd:Value} {A:Around} {outer:List Env} {s s1:Shared} {H:Hp} {E:XK} {us:List Value} {vs:List V}
    (S:FnScope N ps scope) (hd:A.handled=none) (e0:Env0 P w K mg base A outer s H) (hl:vs.length=ps.length) (r:Vals vs us)
    (x:InCallC s s.heap.objs.size (bindL (envOfC qual scope s.heap.objs.size f cd).kindOf (ps.zip us) fun _=>none) (cellsFrom (s.heap.objs.size+1) scope.names []) (bindC (envOfC qual scope s.heap.objs.size f cd).kindOf (ps.zip us) fun _=>none) s1) :
    Inv (cxOf CX P w K mg base N qual scope f cd A outer s H E) [] (start N vs) H s1:=by
  have hpl:ps.length≤N.length:=by have:=congrArg List.length S.pre;rw [List.length_take] at this;omega
  obtain ⟨h1,tk,rfl,hk⟩:=x.done
  have noA:∀ b:Addr,b ∉ (cxOf CX P w K mg base N qual scope f cd A outer s H E).ex:=fun b z=>absurd (show b∈([]:List Addr) from z) (by simp)
  refine ⟨⟨e0.mod,S.kind,rfl,rfl,Nat.le_refl _,fun y z c h1 h2=>?_,fun y hy=>?_,fun y c _ h=>?_,fun _=>hd,Around.frames_deeper e0.frames,.inr ⟨rfl,rfl⟩,fun b z=>absurd z (noA b),e0.bs,e0.bsz,fun b _ _=>noA b,fun b z=>absurd z (noA b),e0.funs,e0.frf⟩,
    rfl,e0.bare,Un.kept hk,⟨_,x.toInCall.ns,fun i y v h1 h2 h3=>?_⟩,fun y c h=>⟨_,x.cell y c h⟩,e0.hok.fresh (Nat.le_refl _),fun y c h=>?_,fun p hp=>absurd (show p∈([]:List (Addr × Obj)) from hp) (by simp),e0.hok.kept hk,?_⟩
  · exact name_of_addr x.apart (PySem.mem_of_lookup h1) (PySem.mem_of_lookup h2)
  · have hy:scope.names.lookup y=some .cell∨scope.names.lookup y=some .free:=hy
    rcases hy with hy | hy
    · exact cell_has hy
    · exact absurd rfl (S.nofree _ (PySem.mem_of_lookup hy))
  · exact Nat.le_of_lt (x.above y c (PySem.mem_of_lookup h))
  · have hi:i < vs.length:=by
      unfold start at h2
      by_cases hi:i < vs.length
      · exact hi
      · rw [List.getElem?_append_right (by simpa using hi)] at h2
        rw [List.getElem?_replicate] at h2
        split at h2 <;> cases h2
    have ha:vs[i]?=some v:=by
      unfold start at h2
      rw [List.getElem?_append_left (by simpa using hi),List.getElem?_map] at h2
      cases e:vs[i]? with
      | none=>rw [e] at h2;cases h2
      | some a=>rw [e] at h2;cases h2;rfl
    obtain ⟨u,hu,rv⟩:=r.get ha
    have hp:ps[i]?=some y:=by
      rw [← S.pre,List.getElem?_take_of_lt (by omega)];exact h1
    have ndP:ps.Nodup:=by rw [← S.pre];exact S.nd.sublist (List.take_sublist _ _)
    refine ⟨u,rv,?_⟩
    rcases S.par y (List.mem_of_getElem? hp) with k | k
    · exact .inl ⟨k,bindL_get ndP hp hu k⟩
    · obtain ⟨c,e⟩:=cell_has (n:=s.heap.objs.size+1) k
      refine .inr ⟨.inl k,c,e,?_⟩
      have q:=x.cell y c e
      rw [bindC_get ndP hp hu (by show scope.names.lookup y≠_;rw [k];decide)] at q
      exact q
  · exact e0.hok.fresh (Nat.le_of_lt (x.above y c (PySem.mem_of_lookup h)))
  · unfold start
    show _=N.length
    rw [List.length_append,List.length_map,List.length_replicate]
    omega
theorem fn_of {CX:CXT} {P:Program} {w:World} {K:PySem.W.Frag} {mg:Str→Option Value} {base:Heap} {k:Nat} {f:Addr} {name qual:Str} {params:Arguments} {body:List Stmt} {scope:Scope} {dV kV doc pm cdv ct oc:Value} {an od:Option Addr}
    {osl:Array (Option Value)} {N ps:List Str} {sp:Sp} (lk:K.lookup f=some ⟨oc,od,.func (PySem.W.fnOf name qual params body scope dV kV doc pm an cdv ct),osl⟩) (hcd:PySem.W.codeIn K cdv qual=true) (S:FnScope N ps scope)
    (len:∀ vs H Q E,sp vs H Q E→vs.length=ps.length)
    (hbody:∀ (A:Around) (outer:List Env) (s:Shared) (H:Hp) (vs:List V) (Q:VK) (E:XK),Room k (A.deeper (envOfC qual scope s.heap.objs.size f cdv))→sp vs H Q E →
      ∃ t,PSs (cxOf CX P w K mg base N qual scope f cdv A outer s H E) body t∧t { nx:=fun _ H'=>Q .non H',rt:=Q } (start N vs) H) :
    FnOk P w K mg base CX (k+1) f (PySem.W.fnOf name qual params body scope dV kV doc pm an cdv ct) ps sp:=by
  refine ⟨len,fun A outer s H args us vs Q E hr e0 hb r hsp=>?_⟩
  have hl:=len _ _ _ _ hsp
  have KX:K.In s.heap:=e0.mod.kin.keeps fun b o e=>(e0.bs b o e).1
  have lim:s.heap.NoLimit:=e0.mod.nolimit.keeps fun b o e=>(e0.bs b o e).1
  have hkind:∀ y∈ps.zip us,scope.names.lookup y.1=some .local∨(scope.names.lookup y.1=some .cell∧((cellsFrom (s.heap.objs.size+1) scope.names []).lookup y.1).isSome=true):=fun ⟨n,v⟩ hy=>by
    rcases S.par n (List.of_mem_zip hy).1 with q | q
    · exact .inl q
    · exact .inr ⟨q,PySem.W.cellsFrom_some _ _ _ (.inl q)⟩
  refine codeAny_call_function hr.depth (KX _ _ lk) rfl S.co S.gen rfl (PySem.W.codeRec_of KX hcd) (hb _ _ _ _ ?_)
  refine wpAny_newFunctionEnv_cells S.kind hkind fun env he s1 x=>?_
  subst he
  refine ⟨lim.keeps x.toInCall.keep,codeAny_func ?_⟩
  obtain ⟨t,ht,hq⟩:=hbody A outer s H vs Q E (hr.deeper _) hsp
  have I:Inv (cxOf CX P w K mg base N qual scope f cdv A outer s H E) [] (start N vs) H s1:=inv_start S hr.hd e0 hl r x
  refine wpAny_mono (ht [] s1 (start N vs) H _ I hq) (fun fl s' hs=>?_) fun e s' hs=>hs
  have fin:∀ {σ':St} {H':Hp} {v:V} {u:Value},Inv (cxOf CX P w K mg base N qual scope f cdv A outer s H E) [] σ' H' s'→RelV v u→Q v H'→CE outer P w H s Q u s':=
    fun {σ' H' v u} J rv q=>⟨v,H',J.os,J.bare,J.base,J.hok,rv,q⟩
  cases fl with
  | ret u=>
    obtain ⟨v,σ',H',J,rv,q⟩:=hs
    exact fin J rv q
  | next=>
    obtain ⟨σ',H',J,q⟩:=hs
    exact fin (v:=V.non) (u:=Value.none) J rfl q
  | brk=>
    obtain ⟨_,_,_,q⟩:=hs
    exact False.elim q
  | cont=>
    obtain ⟨_,_,_,q⟩:=hs
    exact False.elim q
end L2
namespace L2
open PySem PySem.Spec PyProof.Rows
section
variable {X:Cx} {x:Str} {p pos:Pos} {e:Expr} {es:List Expr} {t:TA} {id T:String} {r:List V→Hp→VK→Prop}
def tCB (r:List V→Hp→VK→Prop) (t:TA):TE:=fun σ H Q=>t σ H fun vs H1=>r vs H1 Q
theorem pe_callB (hc:CallR X (.builtin id) r) (hg:Gl X x) (hm:X.mg x=none) (hv:bootBuiltins x=some (.builtin id)) (ha:PA X (e :: es) t) (hn:x ≠ "__name__" := by decide) (hdb:(x == ("__debug__" : Str))=false:=by decide)
    (he:starEach (e :: es) X.env=(false,eval e X.env) :: starEach es X.env:=by rfl) (hpl:(backTo pos (starEach es X.env)).any (·.1)=false:=by rfl):PE X (.Call (.Name x p) (e :: es) [] pos) (tCB r t):=by
  intro pins s σ H Q I h
  refine wpAny_Call_Name_kw (ld_blt I hg hm hv ?_ hn hdb)
  exact PyProof.Rows.callWith_builtin1 (thn (ha pos pins s σ H _ I h) fun us s1 ⟨vs,H1,I1,r1,q1⟩=>hc pins s1 σ H1 vs us Q I1 r1 q1) he hpl
theorem pe_callTy (hc:CallR X (.type T) r) (hg:Gl X x) (hm:X.mg x=none) (hv:bootBuiltins x=some (.type T)) (ha:PA X (e :: es) t) (hn:x ≠ "__name__" := by decide) (hdb:(x == ("__debug__" : Str))=false:=by decide)
    (he:starEach (e :: es) X.env=(false,eval e X.env) :: starEach es X.env:=by rfl) (hpl:(backTo pos (starEach es X.env)).any (·.1)=false:=by rfl):PE X (.Call (.Name x p) (e :: es) [] pos) (tCB r t):=by
  intro pins s σ H Q I h
  refine wpAny_Call_Name_kw (ld_blt I hg hm hv ?_ hn hdb)
  exact PyProof.Rows.callWith_type1 (thn (ha pos pins s σ H _ I h) fun us s1 ⟨vs,H1,I1,r1,q1⟩=>hc pins s1 σ H1 vs us Q I1 r1 q1) he hpl
end
end L2
namespace HT
open PySem PyProof.Rows
section
open PySem.SeqAt
open PySem.AutoSeq1 (wpAny_loadPart')
open PySem.MeetsSeq PySem.MeetsSeq2 PySem.MeetsSeq3
end
section
variable {prog:Program} {w:World} {A:Around} {E:Value→Shared→Prop} {s:Shared}
def sIx (n d:Nat):Option Int→Nat
  | none=>d
  | some v=>if v < 0 then (v+(n:Int)).toNat else min v.toNat n
theorem sIx_none (n d:Nat):sIx n d none=d:=rfl
theorem sIx_nat (n d k:Nat):sIx n d (some (k:Int))=min k n:=by
  show (if (k:Int) < 0 then ((k:Int)+(n:Int)).toNat else min (k:Int).toNat n)=min k n
  rw [if_neg (by omega),Int.toNat_natCast]
theorem sIx_le (n d:Nat) (hd:d≤n) (o:Option Int):sIx n d o≤n:=by
  cases o with
  | none=>exact hd
  | some v=>
    show (if v < 0 then (v+(n:Int)).toNat else min v.toNat n)≤n
    by_cases hv:v < 0
    · rw [if_pos hv];omega
    · rw [if_neg hv];exact Nat.min_le_right _ _
end
end HT
namespace L2
open PySem PySem.Spec PyProof.Rows
abbrev TO:=St→Hp→(Option Int→Hp→Prop)→Prop
def PO (X:Cx) (e:Option Expr) (t:TO):Prop:=
  ∀ (pins:List (Addr × Obj)) (s:Shared) (σ:St) (H:Hp) (Q:Option Int→Hp→Prop),Inv X pins σ H s→t σ H Q →
    wpAny (model X.prog X.w) X.A (evalPart e X.env) (fun u s'=>∃ o H',Inv X pins σ H' s'∧IsPart u o∧Q o H') X.xe s
def tNoPart:TO:=fun _ H Q=>Q none H
def tPart (t:TE):TO:=fun σ H Q=>t σ H fun x H1=>∃ i,x=.int i∧Q (some i) H1
section
variable {X:Cx} {e:Expr} {te:TE} {lo hi:Option Expr} {tl th:TO} {pos p2:Pos}
theorem po_none:PO X none tNoPart:=by
  intro pins s σ H Q I h
  rw [evalPart_none]
  exact wpAny_pure ⟨none,H,I,.none,h⟩
theorem po_some (h:PE X e te):PO X (some e) (tPart te):=by
  intro pins s σ H Q I hw
  rw [evalPart_some]
  refine thn (h pins s σ H _ I hw) fun u s1 ⟨x,H1,I1,r1,q1⟩=>?_
  obtain ⟨i,rfl,q⟩:=q1
  obtain ⟨t,rfl⟩:=r1
  exact ⟨some i,H1,I1,.int i t,q⟩
def SlR (X:Cx) (r:V→Option Int→Option Int→Hp→VK→Prop):Prop:=
  ∀ (pins:List (Addr × Obj)) (s:Shared) (σ:St) (H:Hp) (x:V) (v vl vu:Value) (lo hi:Option Int) (sl:Addr) (Q:VK),Inv X pins σ H s→RelV x v→s.heap.IsSliceOf sl vl vu .none→IsPart vl lo→IsPart vu hi→r x lo hi H Q →
    ∃ T id,typeLookup (.type T) "__getitem__" = pure (some (.builtin id))∧s.TypeIs v T∧wpAny (model X.prog X.w) X.A (getItem v (.ref sl)) (EP X pins σ Q) X.xe s
def tSl (r:V→Option Int→Option Int→Hp→VK→Prop) (te:TE) (tl th:TO):TE:=fun σ H Q=>te σ H fun x H1=>tl σ H1 fun l H2=>th σ H2 fun u H3=>r x l u H3 Q
theorem pe_slice {r:V→Option Int→Option Int→Hp→VK→Prop} (hr:SlR X r) (he:PE X e te) (hl:PO X lo tl) (hu:PO X hi th):PE X (.Subscript e (.Slice lo hi none p2) pos) (tSl r te tl th):=by
  intro pins s σ H Q I h
  refine Subscript_ (thn (he pins s σ H _ I h) fun v s1 ⟨x,H1,I1,r1,q1⟩=>?_)
  refine wpAny_Slice (thn (hl pins s1 σ H1 _ I1 q1) fun vl s2 ⟨l,H2,I2,pl,q2⟩=>thn (hu pins s2 σ H2 _ I2 q2) fun vu s3 ⟨u,H3,I3,pu,q3⟩=>?_)
  rw [evalPart_none]
  refine wpAny_pure ?_
  have I4:Inv X pins σ H3 { s3 with heap:=s3.heap.push { cls:=.type "slice", data:=.fields #[vl,vu,.none] } }:=I3.kept (t':=s3.toks) fun b ob q=>Heap.get?_push_of_some _ q
  obtain ⟨T,id,hT,ht,hg⟩:=hr pins { s3 with heap:=s3.heap.push { cls:=.type "slice", data:=.fields #[vl,vu,.none] } } σ H3 x v vl vu l u s3.heap.objs.size Q I4 r1 (Heap.IsSliceOf.new ..) pl pu q3
  show wpAny (model X.prog X.w) X.A (subscriptTail e (.Slice lo hi none p2) v (.ref s3.heap.objs.size)) (EP X pins σ Q) X.xe { s3 with heap:=s3.heap.push { cls:=.type "slice", data:=.fields #[vl,vu,.none] } }
  exact tail_any (ops:=[.ref s3.heap.objs.size,v]) ht hT hg (by with_unfolding_all rfl)
def cutV (xs:List V) (lo hi:Option Int):List V:=(xs.drop (HT.sIx xs.length 0 lo)).take (HT.sIx xs.length xs.length hi - HT.sIx xs.length 0 lo)
theorem cutV_length (xs:List V) (lo hi:Option Int):(cutV xs lo hi).length≤xs.length:=by
  unfold cutV
  rw [List.length_take,List.length_drop]
  omega
end
end L2
namespace L2
open PySem PySem.Spec PyProof.Rows
def ixN (n:Nat) (i:Int):Option Nat:=if 0≤i then (if i < n then some i.toNat else none) else if -(n:Int)≤i then some (i+n).toNat else none
def atI {α:Type} (xs:List α) (i:Int):Option α:=(ixN xs.length i).bind fun j=>xs[j]?
theorem ixN_seq {n:Nat} {i:Int} {j:Nat} (h:ixN n i=some j):seqIndex? i n=some j∧j < n∧-(n:Int)≤i∧i < n:=by
  unfold ixN at h
  by_cases h0:0≤i
  · rw [if_pos h0] at h
    by_cases h1:i < n
    · rw [if_pos h1] at h
      have e:i.toNat=j:=Option.some.inj h
      exact ⟨by rw [seqIndex_of h0 h1,e],by omega,by omega,h1⟩
    · rw [if_neg h1] at h;cases h
  · rw [if_neg h0] at h
    by_cases h1:-(n:Int)≤i
    · rw [if_pos h1] at h
      have e:(i+n).toNat=j:=Option.some.inj h
      exact ⟨by rw [seqIndex_neg (by omega) h1,e],by omega,h1,by omega⟩
    · rw [if_neg h1] at h;cases h
theorem atI_get {α:Type} {xs:List α} {i:Int} {v:α} (h:atI xs i=some v):∃ j,seqIndex? i xs.length=some j∧xs[j]?=some v∧j < xs.length∧-(xs.length:Int)≤i∧i < xs.length:=by
  unfold atI at h
  cases e:ixN xs.length i with
  | none=>rw [e] at h;cases h
  | some j=>
    rw [e] at h
    obtain ⟨h1,h2,h3,h4⟩:=ixN_seq e
    exact ⟨j,h1,h,h2,h3,h4⟩
theorem atI_nat {α:Type} {xs:List α} {j:Nat} {v:α} (h:xs[j]?=some v):atI xs (j:Int)=some v:=by
  have hj:j < xs.length:=(List.getElem?_eq_some_iff.mp h).1
  have e:ixN xs.length (j:Int)=some j:=by
    unfold ixN
    rw [if_pos (by omega),if_pos (by omega)];simp
  unfold atI;rw [e];exact h
theorem atI_last {α:Type} (xs:List α) (v:α):atI (xs++[v]) (-1)=some v:=by
  have hl:(xs++[v]).length=xs.length+1:=by simp
  have e:ixN (xs++[v]).length (-1)=some xs.length:=by
    unfold ixN
    rw [hl,if_neg (by decide),if_pos (by omega)]
    congr 1
    omega
  unfold atI
  rw [e]
  show (xs++[v])[xs.length]?=some v
  simp
def PlainIx (b:Expr):Prop:=∀ o i,subscripted b false o i=operate [o,i] (getItem o i)
def IxR (X:Cx) (r:R2):Prop:=
  ∀ (value slice:Expr) (pins:List (Addr × Obj)) (s:Shared) (σ:St) (H:Hp) (x y:V) (v u:Value) (Q:VK),Inv X pins σ H s→RelV x v→RelV y u→r x y H Q →
    subscripted slice false v u=operate [v,u] (getItem v u)→wpAny (model X.prog X.w) X.A (subscriptTail value slice v u) (EP X pins σ Q) X.xe s
def MtR (X:Cx) (id:String) (r:V→List V→Hp→VK→Prop):Prop:=
  ∀ (pins:List (Addr × Obj)) (s:Shared) (σ:St) (H:Hp) (x:V) (xs:List V) (v:Value) (us:List Value) (Q:VK),Inv X pins σ H s→RelV x v→Vals xs us→r x xs H Q →
    wpAny (model X.prog X.w) X.A (call (.builtin id) (v :: us)) (EP X pins σ Q) X.xe s
section
variable {X:Cx} {a b:Expr} {ta tb:TE} {pos:Pos}
theorem IxR.or {r r':R2} (h:IxR X r) (h':IxR X r'):IxR X (fun x y H Q=>r x y H Q∨r' x y H Q):=by
  intro value slice pins s σ H x y v u Q I rx ry q hs
  rcases q with q | q
  · exact h value slice pins s σ H x y v u Q I rx ry q hs
  · exact h' value slice pins s σ H x y v u Q I rx ry q hs
theorem pe_ix {r:R2} (hr:IxR X r) (ha:PE X a ta) (hb:PE X b tb) (hs:PlainIx b):PE X (.Subscript a b pos) (tOp r ta tb):=by
  intro pins s σ H Q I h
  exact Subscript_ (binT ha hb I h fun v u s2 x y H2 I2 rx ry q=>hr a b pins s2 σ H2 x y v u Q I2 rx ry q (hs _ _))
def rIxL (K:PySem.W.Frag):R2:=fun x y H Q=>∃ p xs i v,x=.ref p∧y=.int i∧SqL K H p xs∧atI xs i=some v∧Q v H
def rIxT (K:PySem.W.Frag):R2:=fun x y H Q=>∃ p xs i v,x=.ref p∧y=.int i∧SqT K H p xs∧atI xs i=some v∧Q v H
def rIxS:R2:=fun x y H Q=>∃ z i c,x=.str z∧y=.int i∧z.length≤sizeLine∧atI z.cps.toList i=some c∧Q (.str ⟨#[c]⟩) H
theorem ix_list:IxR X (rIxL X.K):=by
  intro value slice pins s σ H x y v u Q I rx ry h hs
  obtain ⟨p,xs,i,z,rfl,rfl,hq,he,q⟩:=h
  cases rx
  obtain ⟨t,rfl⟩:=ry
  obtain ⟨its,r,pl,hz⟩:=I.list hq
  obtain ⟨j,h1,h2,h3,h4,h5⟩:=atI_get he
  obtain ⟨w,ew,rw'⟩:=r.get h2
  have hl:=r.length
  have hn:=line63
  have fin:EP X pins σ Q w s:=⟨z,H,I,rw',q⟩
  by_cases h0:0≤i
  · have hj:i.toNat=j:=by
      rw [seqIndex_of h0 h5] at h1
      exact Option.some.inj h1
    exact item_listR pl.isList h0 (by omega) (by rw [hj];simpa using ew) fin hs
  · have hj:(i+(its.toArray.size:Int)).toNat=j:=by
      rw [seqIndex_neg (by omega) h4] at h1
      rw [List.size_toArray,← hl]
      exact Option.some.inj h1
    exact subscriptTail_builtinR (x:=w) pl.isList.typeIs slot_list_getitem.lookup
      (wpAny_getItem_list_neg (Q:=fun r s'=>r=w∧EP X pins σ Q r s') pl.isList (by omega) (by rw [List.size_toArray] <;> omega) (by omega) (by rw [hj];simpa using ew) ⟨rfl,fin⟩) hs
theorem ix_tup:IxR X (rIxT X.K):=by
  intro value slice pins s σ H x y v u Q I rx ry h hs
  obtain ⟨p,xs,i,z,rfl,rfl,hq,he,q⟩:=h
  cases rx
  obtain ⟨t,rfl⟩:=ry
  obtain ⟨its,r,pl,hz⟩:=I.tuple hq
  obtain ⟨j,h1,h2,h3,h4,h5⟩:=atI_get he
  obtain ⟨w,ew,rw'⟩:=r.get h2
  have hl:=r.length
  have hn:=line63
  have fin:EP X pins σ Q w s:=⟨z,H,I,rw',q⟩
  exact subscriptTail_builtinR (x:=w) pl.typeIs slot_tuple_getitem.lookup
    (getItem_tuple (j:=j) (Q:=fun r s'=>r=w∧EP X pins σ Q r s') pl (by omega) (by omega) (by rw [List.size_toArray,← hl];exact h1) (by simpa using ew) ⟨rfl,fin⟩) hs
theorem ix_str:IxR X rIxS:=by
  intro value slice pins s σ H x y v u Q I rx ry h hs
  obtain ⟨z,i,c,rfl,rfl,hz,he,q⟩:=h
  obtain ⟨t,rfl⟩:=rx
  obtain ⟨t',rfl⟩:=ry
  obtain ⟨j,h1,h2,h3,h4,h5⟩:=atI_get he
  have hl:z.cps.toList.length=z.length:=by simp [Str.length]
  rw [hl] at h1 h4 h5
  have hn:=line63
  exact tail_any (typeIs_str s z t) slot_str_getitem.lookup (getItem_str (c:=c) (by
    have e1:decide (i < -(2 ^ 63:Int))=false:=decide_eq_false (by omega)
    have e2:decide (i ≥ 2 ^ 63)=false:=decide_eq_false (by omega)
    rw [e1,e2,Bool.or_false]) (by rw [h1];simpa using h2) ⟨.str ⟨#[c]⟩,H,I.tok _,⟨_,rfl⟩,q⟩) hs
def rIx (K:PySem.W.Frag):R2:=fun x y H Q=>rIxL K x y H Q∨rIxT K x y H Q∨rIxS x y H Q
theorem ix_seq:IxR X (rIx X.K):=ix_list.or (ix_tup.or ix_str)
theorem mapSeq_set (its:List Value) (n j:Nat) (u:Value):Obj.mapSeq (·.setIfInBounds j u) { cls:=.type "list", data:=.seq its.toArray n }={ cls:=.type "list", data:=.seq (its.set j u).toArray n }:=by
  simp [Obj.mapSeq]
theorem Inv.lst {pins:List (Addr × Obj)} {σ:St} {H:Hp} {s:Shared} {p:Addr} {xs:List V} (I:Inv X pins σ H s) (h:H p=some (.lst xs)) :
    ∃ (its:List Value) (n:Nat),Vals xs its∧s.heap.get? p=some { cls:=.type "list", data:=.seq its.toArray n }∧xs.length≤sizeLine:=by
  obtain ⟨z,its,n,r,e⟩:=I.hok p _ h
  exact ⟨its,n,r,e,z⟩
theorem Inv.lstUpd {pins:List (Addr × Obj)} {σ:St} {H:Hp} {s:Shared} {p:Addr} {xs ys:List V} {its its':List Value} {n n':Nat} {f:Obj→Obj} (I:Inv X pins σ H s) (h:H p=some (.lst xs))
    (ho:s.heap.get? p=some { cls:=.type "list", data:=.seq its.toArray n }) (hf:f { cls:=.type "list", data:=.seq its.toArray n }={ cls:=.type "list", data:=.seq its'.toArray n' }) (r:Vals ys its') (hz:ys.length≤sizeLine) (t:Nat) :
    Inv X pins σ (upd H p (.lst ys)) { s with heap:=s.heap.update p f,toks:=t }:=by
  have e:(s.heap.update p f).get? p=some { cls:=.type "list", data:=.seq its'.toArray n' }:=by
    rw [Heap.get?_update_self f ho (by rw [hf] <;> rfl),hf]
  refine I.write (x:=p) (e:=p) (by rw [h];trivial) (.inl rfl) (fun b u hb q=>(Heap.get?_update_other _ _ (Ne.symm hb)).trans q) ⟨_,e⟩ ?_
  exact ⟨hz,its',n',r,e⟩
def rSetL:V→V→V→Hp→(Hp→Prop)→Prop:=fun o i v H Q=>∃ p xs k j,o=.ref p∧i=.int k∧H p=some (.lst xs)∧ixN xs.length k=some j∧Q (upd H p (.lst (xs.set j v)))
theorem set_list:PSet X rSetL:=by
  intro pins s σ H o i v ov iv u Q I ro ri rv h
  obtain ⟨p,xs,k,j,rfl,rfl,hp,hj,q⟩:=h
  cases ro
  obtain ⟨t,rfl⟩:=ri
  obtain ⟨its,n,r,ho,hz⟩:=I.lst hp
  obtain ⟨h1,h2,h3,h4⟩:=ixN_seq hj
  have hl:=r.length
  have hn:=line63
  have I':Inv X pins σ (upd H p (.lst (xs.set j v))) { s with heap:=s.heap.update p (Obj.mapSeq (·.setIfInBounds j u)) }:=
    I.lstUpd hp ho (mapSeq_set its n j u) (r.set rv j) (by rw [List.length_set];exact hz) s.toks
  by_cases h0:0≤k
  · have hk:k.toNat=j:=by
      rw [seqIndex_of h0 h4] at h1
      exact Option.some.inj h1
    exact PySem.W.ki_setAt ho h0 (by omega) (by rw [List.size_toArray,← hl];exact h4) (by rw [hk];exact ⟨_,I',q⟩)
  · have hk:(k+(its.toArray.size:Int)).toNat=j:=by
      rw [seqIndex_neg (by omega) h3] at h1
      rw [List.size_toArray,← hl]
      exact Option.some.inj h1
    exact PySem.W.ki_setBack ho (by omega) (by rw [List.size_toArray,← hl];exact h3) (by omega) (by rw [hk];exact ⟨_,I',q⟩)
theorem slice_bounds (lo hi:Option Int) (n:Nat):(sliceBounds lo hi none n).1=((HT.sIx n 0 lo:Nat):Int)∧(sliceBounds lo hi none n).2.1=((HT.sIx n n hi:Nat):Int)∧(sliceBounds lo hi none n).2.2=1:=by
  refine ⟨?_,?_,rfl⟩
  · cases lo with
    | none=>simp [sliceBounds,HT.sIx]
    | some i=>
      simp only [sliceBounds,HT.sIx,Option.getD_none,show (1:Int) > 0 by decide,if_true]
      by_cases h:i < 0
      · simp only [h,if_true] <;> omega
      · simp only [h,if_false] <;> omega
  · cases hi with
    | none=>simp [sliceBounds,HT.sIx]
    | some i=>
      simp only [sliceBounds,HT.sIx,Option.getD_none,show (1:Int) > 0 by decide,if_true]
      by_cases h:i < 0
      · simp only [h,if_true] <;> omega
      · simp only [h,if_false] <;> omega
theorem slicePick_cut (its:List Value) (lo hi:Option Int):slicePick its.toArray lo hi none=((its.drop (HT.sIx its.length 0 lo)).take (HT.sIx its.length its.length hi - HT.sIx its.length 0 lo)).toArray:=by
  obtain ⟨h1,h2,h3⟩:=slice_bounds lo hi its.toArray.size
  unfold slicePick
  rw [h1,h2,h3]
  simp only [sliceRange_one,pick_run,List.size_toArray] <;> rfl
def rSlL (K:PySem.W.Frag):V→Option Int→Option Int→Hp→VK→Prop:=fun x lo hi H Q=>∃ a xs,x=.ref a∧SqL K H a xs∧∀ p,H p=none→Q (.ref p) (upd H p (.lst (cutV xs lo hi)))
theorem sl_list:SlR X (rSlL X.K):=by
  intro pins s σ H x v vl vu lo hi sl Q I rx hs pl pu h
  obtain ⟨a,xs,rfl,hx,q⟩:=h
  cases rx
  obtain ⟨its,r,ht,hz⟩:=I.list hx
  have hlen:=r.length
  refine ⟨"list", _,slot_list_getitem.lookup,ht.isList.typeIs,?_⟩
  refine wpAny_getItem_list_slice ht.isList hs pl pu .none (by simp) ?_ (by rw [List.size_toArray] <;> omega)
  rw [slicePick_cut,← hlen]
  refine ⟨.ref s.heap.objs.size,_,I.laid (t':=s.toks) (o:=.lst (cutV xs lo hi)) (fun b ob q=>Heap.get?_push_of_some _ q) (Nat.le_refl _) ?_,rfl,q _ (I.hok.fresh (Nat.le_refl _))⟩
  exact ⟨Nat.le_trans (cutV_length xs lo hi) hz,_,0,(r.drop (HT.sIx xs.length 0 lo)).take (HT.sIx xs.length xs.length hi - HT.sIx xs.length 0 lo),Heap.get?_push_size _ rfl⟩
def flatV:V→Bool
  | .non=>true
  | .bl _=>true
  | .int _=>true
  | .str _=>true
  | _=>false
def eqV:V→V→Bool
  | .non,.non=>true
  | .bl a,.bl b=>a == b
  | .bl a,.int b=>(if a then 1 else 0) == b
  | .int a,.bl b=>a == (if b then 1 else 0)
  | .int a,.int b=>a == b
  | .str a,.str b=>a == b
  | _,_=>false
theorem eqAt_V {A:Around} {s:Shared} {y x:V} {u v:Value} (ry:RelV y u) (rx:RelV x v) (fy:flatV y=true) (fx:flatV x=true):SeqAt.EqAt A s u v (eqV y x):=by
  cases y with
  | non=>
    cases ry
    cases x with
    | non=>cases rx;exact SeqAt.EqAt.same _
    | bl b=>cases rx;exact SeqAt.EqAt.none_bool b
    | int b=>obtain ⟨t,rfl⟩:=rx;exact SeqAt.EqAt.none_int b t
    | str b=>obtain ⟨t,rfl⟩:=rx;exact SeqAt.EqAt.none_str b t
    | _=>exact absurd (show false=true from fx) Bool.false_ne_true
  | bl a=>
    cases ry
    cases x with
    | non=>cases rx;exact SeqAt.EqAt.bool_none a
    | bl b=>cases rx;exact SeqAt.EqAt.bool_bool a b
    | int b=>obtain ⟨t,rfl⟩:=rx;exact SeqAt.EqAt.bool_int a b t
    | str b=>obtain ⟨t,rfl⟩:=rx;exact SeqAt.EqAt.bool_str a b t
    | _=>exact absurd (show false=true from fx) Bool.false_ne_true
  | int a=>
    obtain ⟨t',rfl⟩:=ry
    cases x with
    | non=>cases rx;exact SeqAt.EqAt.int_none a t'
    | bl b=>cases rx;exact SeqAt.EqAt.int_bool a t' b
    | int b=>obtain ⟨t,rfl⟩:=rx;exact SeqAt.EqAt.int_int a t' b t
    | str b=>obtain ⟨t,rfl⟩:=rx;exact SeqAt.EqAt.int_str a t' b t
    | _=>exact absurd (show false=true from fx) Bool.false_ne_true
  | str a=>
    obtain ⟨t',rfl⟩:=ry
    cases x with
    | non=>cases rx;exact SeqAt.EqAt.str_none a t'
    | bl b=>cases rx;exact SeqAt.EqAt.str_bool a t' b
    | int b=>obtain ⟨t,rfl⟩:=rx;exact SeqAt.EqAt.str_int a t' b t
    | str b=>obtain ⟨t,rfl⟩:=rx;exact SeqAt.EqAt.str_str a t' b t
    | _=>exact absurd (show false=true from fx) Bool.false_ne_true
  | _=>exact absurd (show false=true from fy) Bool.false_ne_true
def eqU (x:V) (u:Value):Bool:=match u with
  | .none=>eqV .non x
  | .bool b=>eqV (.bl b) x
  | .int i _=>eqV (.int i) x
  | .str z _=>eqV (.str z) x
  | _=>false
theorem eqU_of {x y:V} {u:Value} (r:RelV y u) (f:flatV y=true):eqU x u=eqV y x:=by
  cases y with
  | non=>cases r;rfl
  | bl b=>cases r;rfl
  | int i=>obtain ⟨t,rfl⟩:=r;rfl
  | str z=>obtain ⟨t,rfl⟩:=r;rfl
  | _=>exact absurd (show false=true from f) Bool.false_ne_true
theorem any_eqU {x:V}:∀ {xs:List V} {us:List Value},Vals xs us→xs.all flatV=true→us.any (eqU x)=xs.any fun y=>eqV y x
  | _,_,.nil,_=>rfl
  | y :: xs,u :: us,.cons r t,f=>by
    rw [List.all_cons,Bool.and_eq_true] at f
    rw [List.any_cons,List.any_cons,eqU_of r f.1,any_eqU t f.2]
theorem mem_eqAt {A:Around} {s:Shared} {x:V} {v:Value} (rx:RelV x v) (fx:flatV x=true):∀ {xs:List V} {us:List Value},Vals xs us→xs.all flatV=true→∀ u∈us,SeqAt.EqAt A s u v (eqU x u)
  | _,_,.nil,_=>fun u hu=>by cases hu
  | y :: xs,u :: us,.cons r t,f=>fun u' hu=>by
    rw [List.all_cons,Bool.and_eq_true] at f
    rcases List.mem_cons.mp hu with rfl | hu
    · rw [eqU_of r f.1];exact eqAt_V r rx f.1 fx
    · exact mem_eqAt rx fx t f.2 u' hu
def inV (x:V) (xs:List V):Bool:=xs.any fun y=>eqV y x
def rIn (K:PySem.W.Frag) (neg:Bool):R2:=fun x y H Q=>∃ p xs,y=.ref p∧(SqL K H p xs∨SqT K H p xs)∧flatV x=true∧xs.all flatV=true∧Q (.bl (if neg then !inV x xs else inV x xs)) H
theorem op_in_seq:OpR X (compareOp .In) (rIn X.K false):=by
  intro pins s σ H x y v u Q I rx ry h
  obtain ⟨p,xs,rfl,hq,fx,fs,q⟩:=h
  cases ry
  rcases hq with hq | hq
  · obtain ⟨its,r,pl,hz⟩:=I.list hq
    refine SeqAt.in_listAt (eqU x) pl.isList (fun w hw=>mem_eqAt rx fx r fs w (by simpa using hw)) ⟨.bl _,H,I,rfl,?_⟩
    rw [show its.toArray.any (eqU x)=its.any (eqU x) by simp,any_eqU r fs]
    exact q
  · obtain ⟨its,r,pl,hz⟩:=I.tuple hq
    refine SeqAt.in_tupleAt (eqU x) pl (fun w hw=>mem_eqAt rx fx r fs w (by simpa using hw)) ⟨.bl _,H,I,rfl,?_⟩
    rw [show its.toArray.any (eqU x)=its.any (eqU x) by simp,any_eqU r fs]
    exact q
theorem op_notIn_seq:OpR X (compareOp .NotIn) (rIn X.K true):=by
  intro pins s σ H x y v u Q I rx ry h
  obtain ⟨p,xs,rfl,hq,fx,fs,q⟩:=h
  cases ry
  rcases hq with hq | hq
  · obtain ⟨its,r,pl,hz⟩:=I.list hq
    refine SeqAt.notIn_listAt (eqU x) pl.isList (fun w hw=>mem_eqAt rx fx r fs w (by simpa using hw)) ⟨.bl _,H,I,rfl,?_⟩
    rw [show its.toArray.any (eqU x)=its.any (eqU x) by simp,any_eqU r fs]
    exact q
  · obtain ⟨its,r,pl,hz⟩:=I.tuple hq
    refine SeqAt.notIn_tupleAt (eqU x) pl (fun w hw=>mem_eqAt rx fx r fs w (by simpa using hw)) ⟨.bl _,H,I,rfl,?_⟩
    rw [show its.toArray.any (eqU x)=its.any (eqU x) by simp,any_eqU r fs]
    exact q
theorem call_len_seq:CallR X (.builtin "len") (fun xs H Q=>∃ p ys,xs=[.ref p]∧(SqL X.K H p ys∨SqT X.K H p ys)∧Q (.int ys.length) H):=by
  intro pins s σ H xs us Q I r h
  obtain ⟨p,ys,rfl,hq,q⟩:=h
  obtain ⟨u,rfl,rx⟩:=vals1 r
  cases rx
  have hn:=line63
  rcases hq with hq | hq
  · obtain ⟨its,r',pl,hz⟩:=I.list hq
    have hlen:=r'.length
    exact Calls.call_len_list pl.isList (by simp only [List.size_toArray] <;> omega) ⟨.int ys.length,H,I.tok _,⟨s.toks+1,by rw [List.size_toArray,hlen]⟩,q⟩
  · obtain ⟨its,r',pl,hz⟩:=I.tuple hq
    have hlen:=r'.length
    exact len_tuple pl (by simp only [List.size_toArray] <;> omega) ⟨.int ys.length,H,I.tok _,⟨s.toks+1,by rw [List.size_toArray,hlen]⟩,q⟩
theorem call_len_str:CallR X (.builtin "len") (fun xs H Q=>∃ z,xs=[.str z]∧z.length≤sizeLine∧Q (.int z.length) H):=by
  intro pins s σ H xs us Q I r h
  obtain ⟨z,rfl,hz,q⟩:=h
  obtain ⟨u,rfl,t,rfl⟩:=vals1 r
  have hn:=line63
  exact len_str (by omega) ⟨.int z.length,H,I.tok _,⟨_,rfl⟩,q⟩
theorem call_tuple_of:CallR X (.type "tuple") (fun xs H Q=>∃ p ys,xs=[.ref p]∧((SqL X.K H p ys∧∀ l,H l=none→Q (.ref l) (upd H l (.tup ys)))∨(SqT X.K H p ys∧Q (.ref p) H))):=by
  intro pins s σ H xs us Q I r h
  obtain ⟨p,ys,rfl,h⟩:=h
  obtain ⟨u,rfl,rx⟩:=vals1 r
  cases rx
  rcases h with ⟨hq,q⟩ | ⟨hq,q⟩
  · obtain ⟨its,r',pl,hz⟩:=I.list hq
    have hlen:=r'.length
    refine call_tuple_list pl.isList (fun h' kp=>?_) (by simp only [List.size_toArray] <;> omega)
    have I1:Inv X pins σ H { s with heap:=h' }:=I.kept (t':=s.toks) kp
    have I2:Inv X pins σ (upd H h'.objs.size (.tup ys)) { s with heap:=h'.push { cls:=.type "tuple", data:=.seq its.toArray } }:=
      I1.laid (t':=s.toks) (fun b o e=>Heap.get?_push_of_some _ e) (Nat.le_refl _) (show ObjOk X.prog X.w _ _ _ (.tup ys) from ⟨⟨hz,_,Heap.get?_push_size _ rfl,rfl⟩,its,r',IsTup.new _ _⟩)
    exact ⟨.ref h'.objs.size,_,I2,rfl,q _ (I1.hok.fresh (Nat.le_refl _))⟩
  · obtain ⟨its,r',pl,hz⟩:=I.tuple hq
    exact call_tuple_same pl ⟨.ref p,H,I,rfl,q⟩
def tyV (K:PySem.W.Frag) (T:String) (x:V) (H:Hp):Prop:=match x with
  | .str _=>T = "str"
  | .int _=>T = "int"
  | .ref p=>(T = "list" ∧ ∃ xs,SqL K H p xs)∨(T = "tuple" ∧ ∃ o,K.lookup p=some o∧o.cls=.type "tuple" ∧ o.dict=none) ∨
      (T = "dict" ∧ ((∃ kvs,H p=some (.dK kvs))∨∃ kvs,H p=some (.dT kvs)))∨(T = "set" ∧ ∃ S n,H p=some (.set S n))
  | _=>False
theorem tyV_is {pins:List (Addr × Obj)} {σ:St} {H:Hp} {s:Shared} {T:String} {x:V} {v:Value} (I:Inv X pins σ H s) (r:RelV x v) (ty:tyV X.K T x H) :
    s.TypeIs v T∧∀ a,v=.ref a→∃ ob,s.heap.get? a=some ob∧ob.dict=none:=by
  cases x with
  | str z=>
    obtain ⟨t,rfl⟩:=r
    cases (show T = "str" from ty)
    exact ⟨typeIs_str s z t,fun _ e=>nomatch e⟩
  | int i=>
    obtain ⟨t,rfl⟩:=r
    cases (show T = "int" from ty)
    exact ⟨typeIs_int s i t,fun _ e=>nomatch e⟩
  | ref p=>
    cases r
    rcases ty with ⟨rfl,xs,hq⟩ | ⟨rfl,o,hk,hc,hd⟩ | ⟨rfl,hk⟩ | ⟨rfl,S,n,hk⟩
    · obtain ⟨its,_,pl,_⟩:=I.list hq
      refine ⟨pl.isList.typeIs,fun a e=>?_⟩
      cases e
      obtain ⟨o,n,e,c,hd,_⟩:=pl
      exact ⟨o,e,hd⟩
    · refine ⟨⟨o,I.kIn p o hk,hc⟩,fun a e=>?_⟩
      cases e
      exact ⟨o,I.kIn _ o hk,hd⟩
    · have z:∃ o,s.heap.get? p=some o∧o.ExactDict:=by
        rcases hk with ⟨kvs,hk⟩ | ⟨kvs,hk⟩
        · obtain ⟨_,_,_,_,o,_,_,e,ex,_⟩:=I.hok p _ hk
          exact ⟨o,e,ex⟩
        · obtain ⟨_,_,_,_,o,_,_,e,ex,_⟩:=I.hok p _ hk
          exact ⟨o,e,ex⟩
      obtain ⟨o,e,ex⟩:=z
      refine ⟨⟨o,e,ex.1⟩,fun a e2=>?_⟩
      cases e2
      exact ⟨o,e,ex.2.1⟩
    · obtain ⟨o,_,_,_,e,ex,_⟩:=I.hok p _ hk
      refine ⟨⟨o,e,ex.1⟩,fun a e2=>?_⟩
      cases e2
      exact ⟨o,e,ex.2.1⟩
  | _=>exact False.elim ty
def tBM (K:PySem.W.Frag) (T:String) (r:V→List V→Hp→VK→Prop) (to:TE) (t:TA):TE:=fun σ H Q=>to σ H fun x H1=>tyV K T x H1∧t σ H1 fun xs H2=>r x xs H2 Q
variable {o e:Expr} {es:List Expr} {to:TE} {t:TA} {name:Str} {apos cpos:Pos} {T id:String} {r:V→List V→Hp→VK→Prop}
theorem pe_bm (pa:PlainAttrs T) (slot:Slot T name id) (hty:typeOf (.builtin id)=pure (.type "method_descriptor")) (hm:MtR X id r) (ho:PE X o to) (ha:PA X (e :: es) t)
    (hbase:attributeBase o name X.env (eval o X.env)=eval o X.env:=by rfl)
    (hfew:((backTo cpos (starEach (e :: es) X.env)).all (fun x=>!x.1) && (backToKw cpos (keywordEach [] X.env)).all (fun x=>x.1.isSome)
      && decide ((e :: es).length+([]:List Keyword).length+(if ([]:List Keyword).isEmpty then 0 else 1) < 30))=true:=by rfl)
    (hline:(apos.endLine == cpos.line)=true:=by rfl) (hs:starEach (e :: es) X.env=(false,eval e X.env) :: starEach es X.env:=by rfl) (hplain:(backTo cpos (starEach es X.env)).any (·.1)=false:=by rfl) :
    PE X (.Call (.Attribute o name apos) (e :: es) [] cpos) (tBM X.K T r to t):=by
  intro pins s σ H Q I h
  refine wpAny_Call_method_late hbase hfew hline rfl (thn (ho pins s σ H _ I h) fun v s1 ⟨x,H1,I1,r1,ty,q1⟩=>?_)
  obtain ⟨h1,h2⟩:=tyV_is I1 r1 ty
  refine ⟨T,id,pa,slot,hty,h1,h2,?_⟩
  have hA:=ha cpos pins s1 σ H1 _ I1 q1
  rw [hs] at hA ⊢
  refine Calls.callWith_builtin (by show (false || (backTo cpos (starEach es X.env)).any (·.1))=false;rw [hplain] <;> rfl) (Calls.evalArgs_plain ?_)
  exact thn hA fun us s2 ⟨vs,H2,I2,r2,q2⟩=>hm pins s2 σ H2 x vs v us Q I2 r1 r2 q2
/- xs.append(e),list.index on a module's tuple .. are MtR facts of 06m -/
end
end L2
namespace L2
open PySem PySem.Spec PyProof.Rows
def MtM (X:Cx) (id:String) (r:V→List V→Hp→VK→Prop):Prop:=
  ∀ (pins:List (Addr × Obj)) (s:Shared) (σ:St) (H:Hp) (x:V) (xs:List V) (v:Value) (us:List Value) (Q:VK),Inv X pins σ H s→RelV x v→Vals xs us→r x xs H Q →
    wpAny (model X.prog X.w) X.A (call (.builtin id) (v :: us)) (EP X pins σ Q) X.xe s
theorem Vals.one:∀ {x:V} {us:List Value},Vals [x] us→∃ u,us=[u]∧RelV x u
  | _,_,.cons r .nil=>⟨_,rfl,r⟩
theorem Vals.two:∀ {x y:V} {us:List Value},Vals [x,y] us→∃ u v,us=[u,v]∧RelV x u∧RelV y v
  | _,_,_,.cons r (.cons q .nil)=>⟨_,_,rfl,r,q⟩
theorem Vals.zero:∀ {us:List Value},Vals [] us→us=[]
  | _,.nil=>rfl
theorem Vals.eraseIdx:∀ {xs:List V} {us:List Value} (i:Nat),Vals xs us→Vals (xs.eraseIdx i) (us.eraseIdx i)
  | _,_,_,.nil=>.nil
  | _,_,0,.cons _ t=>t
  | _,_,i+1,.cons r t=>.cons r (Vals.eraseIdx i t)
theorem Vals.reverse {xs:List V} {us:List Value} (h:Vals xs us):Vals xs.reverse us.reverse:=by
  induction h with
  | nil=>exact .nil
  | cons r t ih=>rw [List.reverse_cons,List.reverse_cons];exact Vals.append ih (.cons r .nil)
theorem Vals.rep {xs:List V} {us:List Value} (h:Vals xs us):∀ k:Nat,Vals (List.replicate k xs).flatten (List.replicate k us).flatten
  | 0=>.nil
  | k+1=>by
    rw [List.replicate_succ,List.replicate_succ,List.flatten_cons,List.flatten_cons]
    exact Vals.append h (Vals.rep h k)
theorem foldl_rep (its:List Value):∀ (k:Nat) (acc:List Value),
    List.foldl (fun x1 x2=>x1++x2) acc.toArray (List.replicate k its.toArray)=(acc++(List.replicate k its).flatten).toArray
  | 0,acc=>by simp
  | k+1,acc=>by
    have e:acc.toArray++its.toArray=(acc++its).toArray:=by simp
    have e2:(acc++its)++(List.replicate k its).flatten=acc++(List.replicate (k+1) its).flatten:=by
      rw [List.replicate_succ,List.flatten_cons,List.append_assoc]
    rw [← e2,← foldl_rep its k (acc++its),← e,List.replicate_succ,List.foldl_cons]
section
variable {X:Cx} {pins:List (Addr × Obj)} {σ:St} {H:Hp} {s:Shared} {l b:Addr} {xs ys zs:List V}
theorem Inv.lset {its its':List Value} {n:Nat} {f:Array Value→Array Value} {t':Nat} (I:Inv X pins σ H s) (hH:H l=some (.lst xs))
    (e:s.heap.get? l=some { cls:=.type "list", data:=.seq its.toArray n }) (hf:f its.toArray=its'.toArray) (hv:Vals ys its') (hz:ys.length≤sizeLine) :
    Inv X pins σ (upd H l (.lst ys)) { s with heap:=s.heap.update l (Obj.mapSeq f),toks:=t' }:=by
  have q:=PySem.IsL.update e f
  rw [hf] at q
  refine I.write (x:=l) (e:=l) (by rw [hH];exact trivial) (.inl rfl) (fun b' u hb hu=>(Heap.get?_update_other s.heap (Obj.mapSeq f) (Ne.symm hb)).trans hu) ⟨_,q⟩ ?_
  exact ⟨hz,its',_,hv,q⟩
theorem Inv.lnew {its:List Value} {t':Nat} (I:Inv X pins σ H s) (hv:Vals ys its) (hz:ys.length≤sizeLine) :
    Inv X pins σ (upd H s.heap.objs.size (.lst ys)) { s with heap:=s.heap.push { cls:=.type "list", data:=.seq its.toArray },toks:=t' }:=
  I.laid (fun _ _ q=>Heap.get?_push_of_some _ q) (Nat.le_refl _) ⟨hz,its,0,hv,Heap.get?_push_size _ rfl⟩
theorem Inv.fresh (I:Inv X pins σ H s):H s.heap.objs.size=none:=I.hok.fresh (Nat.le_refl _)
theorem Inv.lstM (I:Inv X pins σ H s) (hH:H l=some (.lst xs)):xs.length≤sizeLine∧∃ (its:List Value) (n:Nat),Vals xs its∧xs.length=its.length∧s.heap.get? l=some { cls:=.type "list", data:=.seq its.toArray n }:=by
  obtain ⟨z,its,n,r,e⟩:=I.hok l _ hH
  exact ⟨z,its,n,r,r.length,e⟩
theorem notLongL {n:Nat} (h:n≤sizeLine):Builtin.List.listTooLong n=false:=by
  unfold Builtin.List.listTooLong
  exact decide_eq_false (by omega)
end
section
variable {X:Cx}
def rAppend:V→List V→Hp→VK→Prop:=fun x vs H Q=>∃ l xs y,x=.ref l∧vs=[y]∧H l=some (.lst xs)∧xs.length < sizeLine∧Q .non (upd H l (.lst (xs++[y])))
theorem mt_append:MtM X "list.append" rAppend:=by
  intro pins s σ H x vs v us Q I rx rv h
  obtain ⟨l,xs,y,rfl,rfl,hH,hz,q⟩:=h
  cases rx
  obtain ⟨u,rfl,ru⟩:=rv.one
  obtain ⟨z,its,n,r,hl,e⟩:=I.lstM hH
  refine call_meets F.slot_list_append ⟨_,e,rfl⟩ F.entry_list_append (F.args_list_append_2 _ _) (PySem.list_append l its.toArray n u (by rw [List.size_toArray];omega)) ⟨e,?_⟩
  refine ⟨.non,_,I.lset (its':=its++[u]) hH e (by simp) (r.append (.cons ru .nil)) ?_,rfl,q⟩
  rw [List.length_append,List.length_singleton]
  omega
def rExtend:V→List V→Hp→VK→Prop:=fun x vs H Q=>∃ l b xs zs,x=.ref l∧vs=[.ref b]∧H l=some (.lst xs)∧H b=some (.lst zs)∧xs.length+zs.length≤sizeLine∧Q .non (upd H l (.lst (xs++zs)))
theorem mt_extend:MtM X "list.extend" rExtend:=by
  intro pins s σ H x vs v us Q I rx rv h
  obtain ⟨l,b,xs,zs,rfl,rfl,hH,hB,hz,q⟩:=h
  cases rx
  obtain ⟨u,rfl,ru⟩:=rv.one
  cases ru
  obtain ⟨z,its,n,r,hl,e⟩:=I.lstM hH
  obtain ⟨z2,its2,n2,r2,hl2,e2⟩:=I.lstM hB
  have hsz:its.toArray.size+its2.toArray.size≤sizeLine:=by rw [List.size_toArray,List.size_toArray];omega
  have hlong:¬ (!its.toArray.isEmpty && Builtin.List.listTooLong (its.toArray.size+its2.toArray.size))=true:=by
    rw [notLongL hsz,Bool.and_false]
    exact Bool.false_ne_true
  refine call_meets F.slot_list_extend ⟨_,e,rfl⟩ F.entry_list_extend (F.args_list_extend_2 _ _)
    (AutoSeq1.list_extend_list_list_0 l its.toArray n b its2.toArray n2 hlong (by rw [List.size_toArray];omega) (by omega)) ⟨e,e2,?_⟩
  refine ⟨.non,_,I.lset (its':=its++its2) hH e (by simp) (r.append r2) ?_,rfl,q⟩
  rw [List.length_append]
  omega
def rCat:R2:=fun x y H Q=>∃ l b xs zs,x=.ref l∧y=.ref b∧H l=some (.lst xs)∧H b=some (.lst zs)∧xs.length+zs.length≤sizeLine∧∀ p,H p=none→Q (.ref p) (upd H p (.lst (xs++zs)))
theorem op_cat:OpR X (binaryOp .Add) rCat:=by
  intro pins s σ H x y v u Q I rx ry h
  obtain ⟨l,b,xs,zs,rfl,rfl,hH,hB,hz,q⟩:=h
  cases rx
  cases ry
  obtain ⟨z,its,n,r,hl,e⟩:=I.lstM hH
  obtain ⟨z2,its2,n2,r2,hl2,e2⟩:=I.lstM hB
  refine PySem.P.add_list e e2 ?_ (by rw [List.size_toArray,List.size_toArray];omega)
  have ea:its.toArray++its2.toArray=(its++its2).toArray:=by simp
  rw [ea]
  exact ⟨.ref _,_,I.lnew (t':=s.toks) (r.append r2) (by rw [List.length_append];omega),rfl,q _ I.fresh⟩
def rRep:R2:=fun x y H Q=>∃ l k xs,x=.ref l∧y=.int k∧H l=some (.lst xs)∧-(2 ^ 63)≤k∧k < 2 ^ 63∧xs.length * k.toNat≤sizeLine ∧
  ∀ p,H p=none→Q (.ref p) (upd H p (.lst (List.replicate k.toNat xs).flatten))
theorem len_rep {α:Type} (xs:List α) (k:Nat):(List.replicate k xs).flatten.length=k * xs.length:=by
  induction k with
  | zero=>simp
  | succ k ih=>rw [List.replicate_succ,List.flatten_cons,List.length_append,ih,Nat.succ_mul,Nat.add_comm]
theorem op_rep:OpR X (binaryOp .Mult) rRep:=by
  intro pins s σ H x y v u Q I rx ry h
  obtain ⟨l,k,xs,rfl,rfl,hH,h1,h2,hz,q⟩:=h
  cases rx
  obtain ⟨t,rfl⟩:=ry
  obtain ⟨z,its,n,r,hl,e⟩:=I.lstM hH
  have hlen:its.toArray.size * k.toNat≤sizeLine:=by rw [List.size_toArray,← hl];exact hz
  have hcap:¬ its.toArray.size * k.toNat > (2 ^ 63 - 1) / 8:=by
    have:(sizeLine:Nat)≤(2 ^ 63 - 1) / 8:=by decide
    omega
  have hfit:¬ (!Builtin.List.listFitsIndex k)=true:=by
    rw [fitsIndex_both h1 h2]
    exact Bool.false_ne_true
  have hlong:¬ Builtin.List.listTooLong (its.toArray.size * k.toNat)=true:=by
    rw [notLongL hlen]
    exact Bool.false_ne_true
  have hnew:List.foldl (fun x1 x2=>x1++x2) #[] (List.replicate (if its.toArray.isEmpty=true then 0 else k.toNat) its.toArray)=(List.replicate k.toNat its).flatten.toArray:=by
    have f0:∀ m:Nat,List.foldl (fun x1 x2=>x1++x2) #[] (List.replicate m its.toArray)=(List.replicate m its).flatten.toArray:=fun m=>by
      have:=foldl_rep its m []
      rw [List.nil_append] at this
      exact this
    rw [f0]
    cases its with
    | nil=>simp
    | cons a r'=>rw [if_neg (by simp)]
  refine wpAny_binaryOp_repeat_ref (T := "list") (U := "int") (by decide) ⟨_,e,rfl⟩ (fun s'=>typeIs_int s' k t) noFill_list_mul F.fills_int_mul F.slot_int_rmul repeat_list F.slot_int_index.lookup
    (call_meets F.slot_int_rmul (typeIs_int s k t) F.entry_int_rmul (F.args_int_rmul_2 _ _) (int___rmul___int_list k t l its.toArray n)
      ⟨e,rfl,⟨_,e,rfl⟩,call_meets F.slot_list_mul ⟨_,e,rfl⟩ F.entry_list_mul (F.args_list_mul_2 _ _) (AutoListH.list___mul___list_int_3 l its.toArray n k t hfit hcap hlong) ⟨e,?_⟩⟩)
  rw [hnew]
  exact ⟨.ref _,_,I.lnew (t':=s.toks) (r.rep k.toNat) (by rw [len_rep,Nat.mul_comm];exact hz),rfl,q _ I.fresh⟩
end
section
variable {prog:Program} {w:World} {A:Around} {E:Value→Shared→Prop} {s:Shared}
end
section
variable {X:Cx}
end
end L2
namespace Att
open PySem PySem.W PySem.Calls PyProof.Rows
theorem ints_of_wellAll {P:Params} {h:Heap}:∀ (ns:List Int) (vs:List Value),WellAll P h vs (ns.map WData.int)→IntsAre vs ns:=by
  intro ns
  induction ns with
  | nil=>
    intro vs w
    rw [List.map_nil] at w
    cases w
    exact .nil
  | cons n ns ih=>
    intro vs w
    rw [List.map_cons] at w
    cases w with
    | cons a b=>
      cases a
      exact .cons _ _ (ih _ b)
theorem script_of {l:OpenLaw} {n:Nat} (hn:l.most=some n) {P:Params} {h:Heap} {args:List WData} {vals:List Value}
    (hpre:l.row.toRowW.claim.pre args=true) (hwl:WellAll P h vals args) :
    ∃ a vs ns,vals=[Value.ref a]∧args=[WData.list (ns.map WData.int)]∧h.get? a=some { cls:=.type "list", data:=.seq vs.toArray }∧IntsAre vs ns∧ns.length≤n:=by
  have hsh:WShape.hasAll [] args [.list .int]=true:=(pre_splitW hpre).1
  have hc:l.pre.holds [] { args:=args }=true:=(pre_splitW hpre).2
  obtain ⟨d,r,rfl,h1,h2⟩:=hasAllW_cons hsh
  obtain rfl:=hasAllW_nil h2
  obtain ⟨xs,rfl,h3⟩:=hasW_list h1
  obtain ⟨ns,rfl⟩:=items_int h3
  have hlen:ns.length≤n:=by
    unfold OpenLaw.pre at hc
    have h4:(WTm.not (.lt (.lit (.int (n:Int))) (.len (.arg 0)))).holds [] { args:=[.list (ns.map .int)] }=true:=by
      have h4:=(holds_andW hc).1
      rw [hn] at h4
      exact h4
    have h5:=condW_of h4 (w_not (w_lt w_lit (w_len_list (w_arg rfl))))
    rw [List.length_map] at h5
    refine Nat.le_of_not_lt fun q=>?_
    have q':(n:Int) < ((ns.length:Nat):Int):=by omega
    first
      | (rw [decide_eq_true q'] at h5;exact absurd h5 (by decide))
      | (simp at h5;omega)
  cases hwl with
  | cons w1 w2=>
    cases w2
    cases w1 with
    | list ho hall=>exact ⟨_,_,ns,rfl,rfl,ho,ints_of_wellAll ns _ hall,hlen⟩
theorem post_true (l:OpenLaw) (args:List WData):l.row.toRowW.claim.post args (.bool true) args=true:=
  postW_of (r:=l.row.toRowW) (X:=(true == true))
    (show WShape.has [] (.bool true) .bool=true by first | rfl | decide | simp [WShape.has,WShape.arms,WShape.armsAll])
    (show (WTm.eq .res (.lit (.bool true))).value [] { args:=args,res:=some (.bool true),after:=args }=some (.bool (true == true)) from w_eq_bool (w_res rfl) w_lit) rfl
theorem attach_call {l:OpenLaw} {n:Nat} {q:Program} {loose:List Str} {XP:(Str→Option Value)→Heap→Prop} {YP:World→Heap→Prop} {d:DefRec}
    (hn:l.most=some n) (hdf:d.params.defaults=[])
    (call:∀ (w:World) (s₀ s₁:Shared) (mg mb:Str→Option Value) (fa:Addr) (o:Obj) (pm cd doc:Value) (a:Addr) (vs:List Value) (ns:List Int),
      Ground q loose [] XP w s₀ mg mb s₁.heap→YP w s₁.heap →
      s₁.heap.get? fa=some o→o.data=.func (docDef d.name d.params d.body d.scope pm cd doc)→s₁.heap.CodeRec cd d.name→mg d.name=some (.ref fa) →
      s₁.heap.get? a=some { cls:=.type "list", data:=.seq vs.toArray }→IntsAre vs ns→ns.length≤n→s₁.gens=#[] →
      codeAny (model l.prog w) callerA (.call (.ref fa) ⟨[.ref a],[]⟩) (fun r s'=>r=.ok (.ret (.bool true))∧OldK s₁.heap s'.heap∧s'.os=s₁.os∧AllBare s'.gens) s₁) :
    WalkO q loose XP YP l.row.toRowW d [] (fun f vs=>PySem.call f vs):=by
  intro w s₀ s₁ mg mb G Y fa o pm cd doc dV kV ho hd hcd hD hmg hg args vals as hpre hlay hrd hwl hlo
  obtain rfl:dV=.none:=Dflts.none hD hdf
  obtain rfl:kV=.none:=Dflts.noKw hD
  obtain ⟨a,vs,ns,rfl,rfl,hobj,hints,hlen⟩:=script_of hn hpre hwl
  refine enter_call (codeAny_mono (call w s₀ s₁ mg mb fa o pm cd doc a vs ns G Y ho (fd_plain hd) hcd hmg hobj hints hlen hg) fun r s' hq=>?_)
  obtain ⟨rfl,h2,h3,h4⟩:=hq
  exact ⟨.inl ⟨.bool true,.bool true,[],rfl,fun _=>rfl,.bool true,post_true l _,fun _=>⟨List.Pairwise.nil,fun _ hm=>(nomatch hm)⟩⟩,h2,h3,h4⟩
section
variable {prog:Program} {w:World} {A:Around} {E:Value→Shared→Prop} {s:Shared} {K:Frag}
def ledger (h:Heap) (L d:Addr):List (Addr × Obj):=(List.range h.objs.size).filterMap fun a=>if a=L∨a=d then none else (h.get? a).map fun o=>(a,o)
end
end Att
namespace L2
open PySem PySem.Spec PyProof.Rows
theorem vals_ints:∀ {vs:List Value} {ns:List Int},IntsAre vs ns→Vals (ns.map V.int) vs
  | _,_,.nil=>.nil
  | _,_,.cons n t h=>.cons ⟨t,rfl⟩ (vals_ints h)
def Only (H:Hp):Prop:=∀ b,H b=none∨∃ o xs,H b=some (.frz o (.lst xs))
theorem law_call {P:Program} {w:World} {K:PySem.W.Frag} {mg mb:Str→Option Value} {CX:CXT} {k:Nat} {fa a:Addr} {fd:FuncData} {x:Str} {sp:Sp} {s₁:Shared} {vs:List Value} {ns:List Int}
    (KX:K.In s₁.heap) (hns:s₁.heap.Ns mainGlobals mg) (hb:s₁.heap.Ns builtinsNs mb) (hbb:∀ x:Str,x ≠ "__name__" → mb x=bootBuiltins x) (hlim:s₁.heap.NoLimit) (hg:s₁.gens=#[])
    (ha:s₁.heap.get? a=some { cls:=.type "list", data:=.seq vs.toArray }) (hi:IntsAre vs ns) (hl:ns.length≤sizeLine) (hr:Room k callerA)
    (F:∀ base:Heap,K.In base→base.Ns mainGlobals mg→FnOk P w K mg base CX k fa fd [x] sp) (hbind:∀ (s:Shared) (u:Value),BindsTo s fd ⟨[u],[]⟩ [(x,u)])
    (hsp:∀ H:Hp,Only H→SqL K H a (ns.map V.int)→sp [.ref a] H (fun v _=>v=.bl true) fun _ _ _=>False)
    (hCX:∀ H e s',CX [] H s₁ (fun _ _ _=>False) e s'→False) :
    codeAny (model P w) callerA (.call (.ref fa) ⟨[.ref a],[]⟩) (fun r s'=>r=.ok (.ret (.bool true))∧OldK s₁.heap s'.heap∧s'.os=s₁.os∧AllBare s'.gens) s₁:=by
  have rv:=vals_ints hi
  have lenV:=hi.length
  have core:∀ H:Hp,Only H→SqL K H a (ns.map V.int)→HOk P w H s₁.heap→(∀ b,H b≠none→b=a)→(H a≠none→K.lookup a=none) →
      codeAny (model P w) callerA (.call (.ref fa) ⟨[.ref a],[]⟩) (fun r s'=>r=.ok (.ret (.bool true))∧OldK s₁.heap s'.heap∧s'.os=s₁.os∧AllBare s'.gens) s₁:=by
    intro H hO hS hok hA hK
    have base_of:∀ {b:Addr} {o:Obj},s₁.heap.get? b=some o→H b=none→(hidT s₁.heap H).get? b=some o:=fun e n=>hidT_get e n
    have noA:∀ {b:Addr} {o:Obj} {es:Array DictEntry} {ep:Nat},s₁.heap.get? b=some o→o.data=.dict es ep→H b=none:=fun {b o es ep} e d=>by
      cases q:H b with
      | none=>rfl
      | some u=>
        have e':b=a:=hA b (by rw [q];simp)
        subst e'
        rw [ha] at e;cases e
        have d':Data.seq vs.toArray _=Data.dict es ep:=d
        cases d'
    have nsK:∀ {b:Addr} {m:Str→Option Value},s₁.heap.Ns b m→(hidT s₁.heap H).Ns b m:=fun {b m} ⟨o,es,ep,e,d,r⟩=>⟨o,es,ep,base_of e (noA e d),d,r⟩
    have hKb:K.In (hidT s₁.heap H):=fun b o e=>base_of (KX b o e) (by
      cases q:H b with
      | none=>rfl
      | some u=>
        have e':b=a:=hA b (by rw [q];simp)
        subst e'
        rw [hK (by rw [q];simp)] at e;cases e)
    have hM:Mod K mg (hidT s₁.heap H):=⟨hKb,nsK hns,⟨mb,nsK hb,hbb⟩,let ⟨mc,h1,h2⟩:=hlim;⟨mc,nsK h1,h2⟩⟩
    have e0:Env0 P w K mg (hidT s₁.heap H) callerA [] s₁ H:=⟨rfl,hM,fun b o e=>of_hidT e,Nat.le_of_eq (hidT_size _ _),trivial,fun b hb=>absurd (show b∈([]:List Addr) from hb) (by simp),hok,.of_eq hg⟩
    refine codeAny_mono ((F _ hKb (nsK hns)).run callerA [] s₁ H ⟨[.ref a],[]⟩ [.ref a] [.ref a] _ _ hr e0 (hbind s₁ (.ref a)) (.cons rfl .nil) (hsp H hO hS)) fun r s' h=>?_
    cases r with
    | error e=>exact (hCX H e s' h).elim
    | ok fl=>
      cases fl with
      | next=>exact False.elim h
      | brk=>exact False.elim h
      | cont=>exact False.elim h
      | ret u=>
        obtain ⟨v,H',os,bare,un,hok',r',q⟩:=h
        have q':v=.bl true:=q
        subst q'
        obtain rfl:u=Value.bool true:=r'
        refine ⟨rfl,OldK.of_keep fun b o e=>?_,os,bare⟩
        cases q:H b with
        | none=>exact un.keep b o e q (by intro z;exact absurd (show b∈([]:List Addr) from z) (by simp)) (by simp)
        | some u=>
          rcases hO b with z | ⟨ob,xs,z⟩
          · rw [q] at z;cases z
          · have z2:=un.frzs b ob _ z
            obtain ⟨e1,_⟩:=hok b _ z
            obtain ⟨e2,_⟩:=hok' b _ z2
            rw [e] at e1;cases e1
            exact e2
  cases hk:K.lookup a with
  | some o=>
    have e:=KX a o hk
    rw [ha] at e
    cases e
    refine core (fun _=>none) (fun _=>.inl rfl) (.inr ⟨_,vs.toArray,_,hk,rfl,rfl,rfl,by rw [List.size_toArray,lenV];exact hl,by simpa using rv⟩) (fun b u z=>by have z':(none:Option HO)=some u:=z;cases z') (fun b z=>absurd rfl z) fun z=>absurd rfl z
  | none=>
    refine core (fun b=>if b=a then some (.frz { cls:=.type "list", data:=.seq vs.toArray } (.lst (ns.map V.int))) else none) (fun b=>?_) (.inl (.inr ⟨{ cls:=.type "list", data:=.seq vs.toArray },if_pos rfl⟩)) (fun b u z=>?_) (fun b z=>?_) fun _=>hk
    · by_cases hb:b=a
      · exact .inr ⟨_,_,if_pos hb⟩
      · exact .inl (if_neg hb)
    · by_cases hb:b=a
      · have z':=(if_pos hb).symm.trans z
        cases z'
        subst hb
        exact ⟨ha,by rw [List.length_map];exact hl,vs,_,rv,ha⟩
      · have z':=(if_neg hb).symm.trans z
        cases z'
    · by_cases hb:b=a
      · exact hb
      · exact absurd (if_neg hb) z
end L2
namespace L2
open PySem PySem.Spec PyProof.Rows
abbrev KOf {K:PySem.W.Frag} {h:Heap} (_:K.In h):PySem.W.Frag:=K
theorem walk_of {l:PySem.W.OpenLaw} {n k:Nat} {q:Program} {loose:List Str} {XP:(Str→Option Value)→Heap→Prop} {YP:World→Heap→Prop} {d:DefRec} {K:Params→PySem.W.Frag} {CX:World→CXT} {sp:World→Sp} {x:Str}
    (hn:l.most=some n) (hn2:n≤sizeLine) (hdf:d.params.defaults=[]) (hr:Room k callerA)
    (hY:∀ (w:World) (h:Heap),YP w h→(K w.params).In h)
    (F:∀ (w:World) (mg:Str→Option Value) (fa:Addr) (h:Heap),(K w.params).In h→h.Ns mainGlobals mg→mg d.name=some (.ref fa) →
      ∃ fd:FuncData,(∀ (s:Shared) (u:Value),BindsTo s fd ⟨[u],[]⟩ [(x,u)]) ∧
        ∀ base:Heap,(K w.params).In base→base.Ns mainGlobals mg→FnOk l.prog w (K w.params) mg base (CX w) k fa fd [x] (sp w))
    (hsp:∀ (w:World) (H:Hp) (a:Addr) (ns:List Int),ns.length≤n→Only H→SqL (K w.params) H a (ns.map V.int)→sp w [.ref a] H (fun v _=>v=.bl true) fun _ _ _=>False)
    (hCX:∀ (w:World) (H:Hp) (s:Shared) (e:Value) (s':Shared),CX w [] H s (fun _ _ _=>False) e s'→False) :
    PySem.W.WalkO q loose XP YP l.row.toRowW d [] (fun f vs=>PySem.call f vs):=by
  refine Att.attach_call hn hdf fun w s₀ s₁ mg mb fa o pm cd doc a vs ns G Y ho hd hcd hmg hobj hints hlen hg=>?_
  have KX:=hY w _ Y
  obtain ⟨fd,hb,hF⟩:=F w mg fa _ KX G.T.g hmg
  exact law_call KX G.T.g G.T.b G.T.builtins G.T.nolimit hg hobj hints (Nat.le_trans hlen hn2) hr hF hb (fun H hO hS=>hsp w H a ns hlen hO hS) fun H e s'=>hCX w H s₁ e s'
theorem walk_ofK {l:PySem.W.OpenLaw} {n k:Nat} {q:Program} {loose:List Str} {XP:(Str→Option Value)→Heap→Prop} {YP:World→Heap→Prop} {d:DefRec} {K:Params→PySem.W.Frag} {CX:CXT} {sp:PySem.W.Frag→Sp} {x:Str}
    (hn:l.most=some n) (hn2:n≤sizeLine) (hdf:d.params.defaults=[]) (hr:Room k callerA)
    (hY:∀ (w:World) (h:Heap),YP w h→(K w.params).In h)
    (F:∀ (w:World) (mg:Str→Option Value) (fa:Addr) (h:Heap),(K w.params).In h→h.Ns mainGlobals mg→mg d.name=some (.ref fa) →
      ∃ fd:FuncData,(∀ (s:Shared) (u:Value),BindsTo s fd ⟨[u],[]⟩ [(x,u)]) ∧
        ∀ base:Heap,(K w.params).In base→base.Ns mainGlobals mg→FnOk l.prog w (K w.params) mg base CX k fa fd [x] (sp (K w.params)))
    (hsp:∀ (K:PySem.W.Frag) (H:Hp) (a:Addr) (ns:List Int),ns.length≤n→Only H→SqL K H a (ns.map V.int)→sp K [.ref a] H (fun v _=>v=.bl true) fun _ _ _=>False)
    (hCX:∀ (H:Hp) (s:Shared) (e:Value) (s':Shared),CX [] H s (fun _ _ _=>False) e s'→False) :
    PySem.W.WalkO q loose XP YP l.row.toRowW d [] (fun f vs=>PySem.call f vs):=
  walk_of (K:=K) (CX:=fun _=>CX) (sp:=fun w=>sp (K w.params)) hn hn2 hdf hr hY F (fun w H a ns h1 h2 h3=>hsp (K w.params) H a ns h1 h2 h3) fun _ H s e s'=>hCX H s e s'
end L2
namespace L2
open PySem PySem.Spec PyProof.Rows
def defArgs (s:Stmt):Arguments:=match s with
  | .FunctionDef _ a _ _ _ _ _ _ _ _=>a
  | _=>{ posonlyargs:=[],args:=[],vararg:=none,kwonlyargs:=[],kw_defaults:=[],kwarg:=none,defaults:=[] }
def defBody (s:Stmt):List Stmt:=match s with
  | .FunctionDef _ _ b _ _ _ _ _ _ _=>b
  | _=>[]
def defScope (s:Stmt):Scope:=match s with
  | .FunctionDef _ _ _ _ _ _ sc _ _ _=>sc
  | _=>{ kind:=.function,names:=[],isGenerator:=false,isCoroutine:=false }
abbrev CX0:CXT:=fun _ _ _ _ _ _=>False
abbrev E0:XK:=fun _ _ _=>False
theorem pass0 {X:Cx}:Passes CX0 X E0:=fun _ _ _ _ _ _ _ h=>h.elim
structure Fun (K:PySem.W.Frag) (x qual:Str) (st:Stmt) (f:Addr) (fd:FuncData):Prop where
  ex:∃ (oc:Value) (od:Option Addr) (kV doc pm:Value) (an:Option Addr) (cdv ct:Value) (osl:Array (Option Value)),
    fd=PySem.W.fnOf x qual (defArgs st) (defBody st) (defScope st) .none kV doc pm an cdv ct∧K.lookup f=some ⟨oc,od,.func fd,osl⟩∧PySem.W.codeIn K cdv qual=true
  kp:PySem.W.keepIn K (.ref f)=true
section
variable {P:Program} {w:World} {K:PySem.W.Frag} {mg:Str→Option Value} {base:Heap}
theorem Fun.ok {x qual:Str} {st:Stmt} {f:Addr} {fd:FuncData} {N ps:List Str} {k:Nat} {sp:Sp} (F:Fun K x qual st f fd) (S:FnScope N ps (defScope st)) (len:∀ vs H Q E,sp vs H Q E→vs.length=ps.length)
    (hbody:∀ (cdv:Value) (A:Around) (outer:List Env) (s:Shared) (H:Hp) (vs:List V) (Q:VK) (E:XK),Room k (A.deeper (envOfC qual (defScope st) s.heap.objs.size f cdv))→sp vs H Q E →
      ∃ t,PSs (cxOf CX0 P w K mg base N qual (defScope st) f cdv A outer s H E).nox (defBody st) t∧t { nx:=fun _ H'=>Q .non H',rt:=Q } (start N vs) H):FnOk P w K mg base CX0 (k+1) f fd ps sp:=by
  obtain ⟨oc,od,kV,doc,pm,an,cdv,ct,osl,rfl,lk,hcd⟩:=F.ex
  refine fn_of lk hcd S len fun A outer s H vs Q E hr hsp=>?_
  obtain ⟨t,h,q⟩:=hbody cdv A outer s H vs Q E hr hsp
  exact ⟨t,h.nox,q⟩
theorem Fun.binds {x qual:Str} {st:Stmt} {f:Addr} {fd:FuncData} {ps:List Str} (F:Fun K x qual st f fd)
    (h:∀ (kV doc pm:Value) (an:Option Addr) (cdv ct:Value) (us:List Value),us.length=ps.length→bindArgs (PySem.W.fnOf x qual (defArgs st) (defBody st) (defScope st) .none kV doc pm an cdv ct) ⟨us,[]⟩=pure (ps.zip us)):Binds K fd ps []:=by
  obtain ⟨oc,od,kV,doc,pm,an,cdv,ct,osl,rfl,lk,hcd⟩:=F.ex
  exact .all (h kV doc pm an cdv ct)
theorem fun_mk {x qual:Str} {st:Stmt} {f:Addr} {oc:Value} {od an:Option Addr} {osl:Array (Option Value)} {kV doc pm cdv ct:Value} (l:K.lookup f=some ⟨oc,od,.func (PySem.W.fnOf x qual (defArgs st) (defBody st) (defScope st) .none kV doc pm an cdv ct),osl⟩)
    (c:PySem.W.codeIn K cdv qual=true) (k:PySem.W.keepIn K (.ref f)=true):Fun K x qual st f (PySem.W.fnOf x qual (defArgs st) (defBody st) (defScope st) .none kV doc pm an cdv ct):=⟨⟨oc,od,kV,doc,pm,an,cdv,ct,osl,rfl,l,c⟩,k⟩
end
theorem hu_of {A:Around} {k:Nat} (hr:Room k A):A.units+1 < cLine:=Nat.lt_of_le_of_lt (Nat.add_le_add_left (by decide:1≤64) _) hr.units
theorem small1000 {n:Nat} (h:n≤1000):n < sizeLine:=Nat.lt_of_le_of_lt h (by decide)
section
variable {X:Cx}
theorem pv (i:Nat) {x:Str} {pos:Pos} (hN:X.N[i]?=some x:=by rfl) (hv:Vis X.env.scope x:=by first | exact Or.inl rfl | exact Or.inr (Or.inl rfl) | exact Or.inr (Or.inr rfl)) (hd:(x == ("__debug__" : Str))=false:=by decide)
    (hcd:(x == ("__classdict__" : Str))=false:=by decide):PE X (.Name x pos) (tVar i):=pe_var hN hv hd hcd
end
theorem iteF {A B:Prop} (h:B):if false=true then A else B:=by
  rw [if_neg Bool.false_ne_true]
  exact h
theorem iteT {A B:Prop} (h:A):if true=true then A else B:=by
  rw [if_pos rfl]
  exact h
theorem ite2 {c A B:Prop} [Decidable c] (h1:c→A) (h2:¬ c→B):if c then A else B:=by
  by_cases h:c
  · rw [if_pos h]
    exact h1 h
  · rw [if_neg h]
    exact h2 h
def Same (H H':Hp):Prop:=∀ b o,H b=some o→H' b=some o
theorem Same.refl (H:Hp):Same H H:=fun _ _ h=>h
theorem Same.trans {H H1 H2:Hp} (a:Same H H1) (b:Same H1 H2):Same H H2:=fun c o h=>b c o (a c o h)
theorem Same.free {H H':Hp} (e:Same H H') {l:Addr} (h:H' l=Option.none):H l=Option.none:=by
  cases q:H l with
  | none=>rfl
  | some o=>
    rw [e l o q] at h
    cases h
theorem Same.seq {K:PySem.W.Frag} {H H':Hp} {a:Addr} {xs:List V} (e:Same H H') (h:SqL K H a xs):SqL K H' a xs:=by
  rcases h with (h | ⟨o,h⟩) | h
  · exact .inl (.inl (e _ _ h))
  · exact .inl (.inr ⟨o,e _ _ h⟩)
  · exact .inr h
end L2
set_option maxHeartbeats 16000000
namespace L2
open PySem PySem.Spec PyProof.Rows
theorem lookup_mem {α:Type}:∀ {cl:List (Str × α)} {x:Str} {c:α},cl.lookup x=some c→(x,c)∈cl
  | [],_,_,h=>by simp at h
  | (y,d) :: r,x,c,h=>by
    rw [List.lookup_cons] at h
    cases e:x == y with
    | true=>
      rw [e] at h
      have e':x=y:=eq_of_beq e
      cases h
      rw [e'];exact List.mem_cons_self
    | false=>
      rw [e] at h
      exact List.mem_cons_of_mem _ (lookup_mem h)
theorem lookup_of_mem {α:Type}:∀ {cl:List (Str × α)} {x:Str} {c:α},(x,c)∈cl→∃ c',cl.lookup x=some c'
  | [],_,_,h=>nomatch h
  | (y,d) :: r,x,c,h=>by
    rw [List.lookup_cons]
    cases e:x == y with
    | true=>exact ⟨d,rfl⟩
    | false=>
      rcases List.mem_cons.mp h with h | h
      · cases h
        simp at e
      · exact lookup_of_mem h
theorem closure_go {env:Env} {f:(Str × NameKind)→List (Str × Addr)→Sem (ForInStep (List (Str × Addr)))}
    (h1:∀ x k cs,k≠NameKind.free→f (x,k) cs=pure (.yield cs)) (h2:∀ x cs c,env.cells.lookup x=some c→f (x,NameKind.free) cs=pure (.yield ((x,c) :: cs))) :
    ∀ (names:List (Str × NameKind)) (acc:List (Str × Addr)),(∀ x,(x,NameKind.free)∈names→∃ c,env.cells.lookup x=some c) →
      ∃ cl,forIn names acc f=pure cl∧(∀ p∈cl,p∈acc∨env.cells.lookup p.1=some p.2)∧(∀ p∈acc,p∈cl)∧∀ x,(x,NameKind.free)∈names→∃ c,(x,c)∈cl
  | [],acc,_=>⟨acc,rfl,fun _ h=>.inl h,fun _ h=>h,fun _ h=>nomatch h⟩
  | (x,k) :: r,acc,h=>by
    by_cases hk:k=NameKind.free
    · subst hk
      obtain ⟨c,hc⟩:=h x List.mem_cons_self
      obtain ⟨cl,e,a,b,d⟩:=closure_go h1 h2 r ((x,c) :: acc) fun y hy=>h y (List.mem_cons_of_mem _ hy)
      refine ⟨cl,?_,fun p hp=>?_,fun p hp=>b p (List.mem_cons_of_mem _ hp),fun y hy=>?_⟩
      · rw [List.forIn_cons,h2 x acc c hc,pure_bind];exact e
      · rcases a p hp with q | q
        · rcases List.mem_cons.mp q with q | q
          · subst q;exact .inr hc
          · exact .inl q
        · exact .inr q
      · rcases List.mem_cons.mp hy with q | q
        · cases q;exact ⟨c,b _ List.mem_cons_self⟩
        · exact d y q
    · obtain ⟨cl,e,a,b,d⟩:=closure_go h1 h2 r acc fun y hy=>h y (List.mem_cons_of_mem _ hy)
      refine ⟨cl,?_,a,b,fun y hy=>?_⟩
      · rw [List.forIn_cons,h1 x k acc hk,pure_bind];exact e
      · rcases List.mem_cons.mp hy with q | q
        · cases q;exact absurd rfl hk
        · exact d y q
theorem closure_ok {scope:Scope} {env:Env} (h:∀ x,(x,NameKind.free)∈scope.names→∃ c,env.cells.lookup x=some c) :
    ∃ cl,closureFor scope env=pure cl∧(∀ x c,cl.lookup x=some c→env.cells.lookup x=some c)∧∀ x,(x,NameKind.free)∈scope.names→∃ c,cl.lookup x=some c:=by
  have go:=closure_go (env:=env) (f:=fun x cs=>match x with | (name,kind)=>if (kind == NameKind.free)=true then do let a ← cellOf env name;pure (.yield ((name,a) :: cs)) else pure (.yield cs))
    (fun x k cs hk=>by
      have:(k == NameKind.free)=false:=by simpa using hk
      simp only [this,Bool.false_eq_true,if_false])
    (fun x cs c hc=>by
      simp only [beq_self_eq_true,if_true]
      unfold cellOf
      rw [hc,pure_bind])
    scope.names [] h
  obtain ⟨cl,e,a,_,d⟩:=go
  refine ⟨cl,?_,fun x c hx=>?_,fun x hx=>?_⟩
  · unfold closureFor
    simp only [bind_pure]
    exact e
  · rcases a _ (lookup_mem hx) with q | q
    · exact nomatch q
    · exact q
  · obtain ⟨c,hc⟩:=d x hx
    exact lookup_of_mem hc
theorem relabel_lookup {env:Env} {x:Str} {k:NameKind}:∀ {names:List (Str × NameKind)},
    (names.map fun (n,k)=>if (k == NameKind.free && env.scope.kind == .function && env.kindOf n == some .cell) then (n,NameKind.cell) else (n,k)).lookup x=some k →
      names.lookup x=some k∨(k=.cell∧names.lookup x=some .free)
  | [],h=>by simp at h
  | (n,j) :: r,h=>by
    have ih:=@relabel_lookup env x k r
    rw [List.lookup_cons]
    change List.lookup x ((if (j == NameKind.free && env.scope.kind == .function && env.kindOf n == some .cell)=true then (n,NameKind.cell) else (n,j)) :: _)=_ at h
    by_cases hc:(j == NameKind.free && env.scope.kind == .function && env.kindOf n == some .cell)=true
    · rw [if_pos hc,List.lookup_cons] at h
      have hj:j=NameKind.free:=by
        simp only [Bool.and_eq_true] at hc
        exact eq_of_beq hc.1.1
      cases hx:x == n with
      | true=>rw [hx] at h;cases h;exact .inr ⟨rfl,by rw [hj]⟩
      | false=>rw [hx] at h;exact ih h
    · rw [if_neg hc,List.lookup_cons] at h
      cases hx:x == n with
      | true=>rw [hx] at h;exact .inl h
      | false=>rw [hx] at h;exact ih h
def cxComp (X:Cx) (scope:Scope) (NL:List Str) (ix:List Nat) (cl:List (Str × Addr)) (C:Addr) (s₃:Shared) (H₃:Hp) (fp:List Addr) (pins:List (Addr × Obj)):Cx where
  prog:=X.prog
  w:=X.w
  K:=X.K
  mg:=X.mg
  base:=X.base
  A:=X.A
  N:=NL++ix.map fun j=>X.N.getD j ""
  s₀:=s₃
  H₀:=H₃
  env:=compEnvC scope cl C X.env
  outer:=X.stack
  stack:=X.stack
  ex:=fp
  fn:=fun _=>false
  calm:=X.calm
  pn:=X.pn++pins
  xe:=fun _ _=>False
def comp0 (NL:List Str) (ix:List Nat) (σ:St):St:=NL.map (fun _=>none)++ix.map fun j=>σ.getD j none
def PIfs (X:Cx) (ifs:List Expr) (t:TT):Prop:=
  ∀ (pins:List (Addr × Obj)) (s:Shared) (σ:St) (H:Hp) (Q:Bool→Hp→Prop),Inv X pins σ H s→t σ H Q →
    wpAny (model X.prog X.w) X.A (forIn ifs true fun c r=>if r=true then do let ok ← isTrue c X.env (eval c X.env);pure (ForInStep.yield ok) else pure (ForInStep.yield r)) (TP X pins σ Q) X.xe s
def tYes:TT:=fun _ H Q=>Q true H
theorem pifs_nil {X:Cx}:PIfs X [] tYes:=fun _ _ _ H _ I h=>wpAny_tests_nil ⟨H,I,h⟩
theorem pifs_one {X:Cx} {c:Expr} {t:TT} (h:PT X c t):PIfs X [c] t:=fun pins s σ H Q I q=>wpAny_tests_one (h pins s σ H Q I q)
def tComp (NL:List Str) (ix:List Nat) (wi:TI) (g:TG) (tt:TT) (te:TE):TE:=fun σ H Q=>
  wi σ H fun J H1=>∀ acc,H1 acc=none→∃ W:Nat→Nat→List V→Hp→Prop,(∃ m,W 0 m [] (upd H1 acc (.lst []))) ∧
    ∀ i m ys H2,W i m ys H2→H2 acc=some (.lst ys)∧ys.length < sizeLine ∧
      ((J.stop i H2∧Q (.ref acc) H2)∨(J.go i H2∧∃ N:List V→Hp→Prop,(∀ ys' H',N ys' H'→∃ m',m' < m∧W (i+1) m' ys' H') ∧
        ∀ x H3,J.yld i H2 x H3→g x (comp0 NL ix σ) H3 fun σ' H4=>σ'.drop NL.length=ix.map (fun j=>σ.getD j none)∧tt σ' H4 fun b H5=>
          if b=true then te σ' H5 fun v H6=>H6 acc=some (.lst ys)∧N (ys++[v]) (upd H6 acc (.lst (ys++[v]))) else N ys H5))
section
variable {X:Cx} {pins:List (Addr × Obj)} {σ:St} {H:Hp} {s:Shared}
structure CompScope (X:Cx) (scope:Scope) (NL:List Str) (ix:List Nat):Prop where
  kind:scope.kind=.function
  cell:∀ y∈scope.names,y.2≠.cell
  names:∀ y∈scope.names,y.2=.local→scope.names.lookup y.1=some .local
  free:∀ y∈scope.names,y.2=.free→X.env.kindOf y.1=some .cell∨X.env.kindOf y.1=some .free
  cap:∀ j∈ix,∃ x,X.N[j]?=some x∧scope.names.lookup x=some .free
theorem comp_inv {scope:Scope} {NL:List Str} {ix:List Nat} {cl:List (Str × Addr)} {fp:List Addr} {tn:Nat→Heap→Prop} {s₃:Shared} {h₁:Heap} {m:Str→Option Value} {tk:Nat}
    (S:CompScope X scope NL ix) (I:Inv X pins σ H s₃) (c1:∀ x c,cl.lookup x=some c→X.env.cells.lookup x=some c) (c2:∀ x,(x,NameKind.free)∈scope.names→∃ c,cl.lookup x=some c)
    (hf:∀ b∈fp,FpOk X pins H b) (ho:∀ b∈fp,∃ o,s₃.heap.get? b=some o) (hn:h₁.Ns s₃.heap.objs.size m) (old:∀ b o,s₃.heap.get? b=some o→h₁.get? b=some o) :
    Inv (cxComp X scope NL ix cl s₃.heap.objs.size s₃ H fp pins) [] (comp0 NL ix σ) H { s₃ with heap:=h₁,toks:=tk }:=by
  have e0:=I.env0
  have lt:∀ b o,s₃.heap.get? b=some o→b≠s₃.heap.objs.size:=fun b o e=>Nat.ne_of_lt (Heap.lt_size e)
  have nst:∀ b,b≠X.env.locals→b ∉ X.fs→b ∉ frs X.stack:=fun b h1 h2 h3=>(List.mem_cons.mp (I.stkSub b h3)).elim h1 h2
  have ok:(cxComp X scope NL ix cl s₃.heap.objs.size s₃ H fp pins).Ok:=
    { mod:=I.ok.mod
      kind:=S.kind
      glob:=I.ok.glob
      blt:=I.ok.blt
      above:=Nat.le_refl _
      inj:=fun x y c h1 h2=>I.ok.inj x y c (c1 x c h1) (c1 y c h2)
      has:=fun x hx=>by
        have hfree:scope.names.lookup x=some .free:=by
          rcases hx with hx | hx
          · rcases relabel_lookup hx with q | ⟨_,q⟩
            · exact absurd rfl (S.cell _ (lookup_mem q))
            · exact q
          · rcases relabel_lookup hx with q | ⟨z,_⟩
            · exact q
            · cases z
        exact c2 x (lookup_mem hfree)
      cab:=fun _ _ z=>nomatch z
      hd:=I.ok.hd
      frames:=I.ok.frames
      stk:=.inl rfl
      exf:=fun b hb=>⟨let ⟨o,e⟩:=ho b hb;lt b o e,fun x c hx=>(hf b hb).2.2.2.2.1 x c (c1 x c hx)⟩
      bs:=I.bs
      bsz:=e0.bsz
      noex:=fun b o e hb=>by
        rcases (hf b hb).2.2.2.1 with z | z
        · exact I.ok.noex b o e z
        · exact absurd (Nat.lt_of_lt_of_le (Heap.lt_size e) (Nat.le_trans I.ok.bsz z)) (Nat.lt_irrefl _)
      exfs:=fun b hb=>nst b (hf b hb).2.1 (hf b hb).2.2.1
      funs:=e0.funs
      frf:=e0.frf }
  refine ⟨ok,rfl,I.bare,Un.kept old,⟨m,hn,fun i x v e1 e2 e3=>?_⟩,fun x c e=>?_,I.hok.fresh (Nat.le_refl _),fun x c e=>I.freeC x c (c1 x c e),fun p hp=>?_,I.hok.kept old,?_⟩
  · have hl:NL.length≤i:=by
      rcases Nat.lt_or_ge i NL.length with z | z
      · exfalso
        unfold comp0 at e2
        rw [List.getElem?_append_left (by simpa using z),List.getElem?_map] at e2
        cases q:NL[i]? with
        | none=>rw [q] at e2;cases e2
        | some y=>rw [q] at e2;cases e2
      · exact z
    unfold comp0 at e2
    rw [List.getElem?_append_right (by simpa using hl),List.length_map,List.getElem?_map] at e2
    change (NL++ix.map fun j=>X.N.getD j "")[i]?=some x at e1
    rw [List.getElem?_append_right hl,List.getElem?_map] at e1
    cases q:ix[i - NL.length]? with
    | none=>rw [q] at e1;cases e1
    | some j=>
      rw [q] at e1 e2
      have e1':X.N.getD j "" = x:=Option.some.inj e1
      have e2':σ.getD j none=some v:=Option.some.inj e2
      obtain ⟨x',hx',hfr⟩:=S.cap j (List.mem_of_getElem? q)
      have exx:x'=x:=by
        rw [← e1',List.getD_eq_getElem?_getD,hx'];rfl
      subst exx
      have hσ:σ[j]?=some (some v):=by
        rw [List.getD_eq_getElem?_getD] at e2'
        cases z:σ[j]? with
        | none=>rw [z] at e2';cases e2'
        | some o=>rw [z] at e2';exact congrArg some e2'
      have kd:=S.free _ (lookup_mem hfr) rfl
      have vis:Vis X.env.scope x':=by
        rcases kd with z | z
        · exact .inr (.inl z)
        · exact .inr (.inr z)
      obtain ⟨m',hn',hl'⟩:=I.loc
      obtain ⟨u,r,l⟩:=hl' j x' v hx' hσ vis
      refine ⟨u,r,.inr ?_⟩
      have hk':(compEnvC scope cl s₃.heap.objs.size X.env).kindOf x'=some .cell∨(compEnvC scope cl s₃.heap.objs.size X.env).kindOf x'=some .free:=by
        rcases e3 with z | z | z
        · rcases relabel_lookup z with w | ⟨w,_⟩
          · rw [hfr] at w;cases w
          · cases w
        · exact .inl z
        · exact .inr z
      refine ⟨hk',?_⟩
      obtain ⟨c,hc⟩:=c2 x' (lookup_mem hfr)
      rcases l with ⟨k,_⟩ | ⟨k,c',ec,o,ho',hd⟩
      · rcases kd with z | z
        · rw [k] at z;cases z
        · rw [k] at z;cases z
      · have:c'=c:=by
          have:=c1 x' c hc
          rw [ec] at this
          exact Option.some.inj this
        subst this
        exact ⟨c',hc,o,old _ _ ho',hd⟩
  · obtain ⟨v,o,ho',hd⟩:=I.cell x c (c1 x c e)
    exact ⟨v,o,old _ _ ho',hd⟩
  · have hp':p∈X.pn++pins:=by
      rcases List.mem_append.mp hp with z | z
      · exact z
      · exact nomatch z
    obtain ⟨e,n,ne,nf,d⟩:=I.pin p hp'
    exact ⟨old _ _ e,n,lt _ _ e,nst _ ne nf,d⟩
  · show (NL.map (fun _=>(none:Option V))++ix.map fun j=>σ.getD j none).length=(NL++ix.map fun j=>X.N.getD j "").length
    simp
theorem comp_run {scope:Scope} {NL:List Str} {ix:List Nat} {elt tg iter:Expr} {ifs:List Expr} {pos:Pos} {g:TG} {tt:TT} {te:TE} {cl:List (Str × Addr)} {fp:List Addr} {it:Addr} {tn:Nat→Heap→Prop} {J:It} {Q:VK}
    {E:Value→Shared→Prop} {RR:Value→Addr→Result→Shared→Prop}
    (hc:X.calm=true) (S:CompScope X scope NL ix) (c1:∀ x c,cl.lookup x=some c→X.env.cells.lookup x=some c) (c2:∀ x,(x,NameKind.free)∈scope.names→∃ c,cl.lookup x=some c)
    (hb:∀ (cl:List (Str × Addr)) (C:Addr) (s₃:Shared) (H₃:Hp) (fp:List Addr) (pins:List (Addr × Obj)),PG (cxComp X scope NL ix cl C s₃ H₃ fp pins) tg g∧PIfs (cxComp X scope NL ix cl C s₃ H₃ fp pins) ifs tt∧PE (cxComp X scope NL ix cl C s₃ H₃ fp pins) elt te)
    (I:Inv X pins σ H s) (T:Turn X.prog X.w X.K tg J fp it tn) (st:tn 0 s.heap) (hf:∀ b∈fp,FpOk X pins H b)
    (q:∀ acc,H acc=none→∃ W:Nat→Nat→List V→Hp→Prop,(∃ m,W 0 m [] (upd H acc (.lst []))) ∧
      ∀ i m ys H2,W i m ys H2→H2 acc=some (.lst ys)∧ys.length < sizeLine ∧
      ((J.stop i H2∧Q (.ref acc) H2)∨(J.go i H2∧∃ N:List V→Hp→Prop,(∀ ys' H',N ys' H'→∃ m',m' < m∧W (i+1) m' ys' H') ∧
        ∀ x H3,J.yld i H2 x H3→g x (comp0 NL ix σ) H3 fun σ' H4=>σ'.drop NL.length=ix.map (fun j=>σ.getD j none)∧tt σ' H4 fun b H5=>
          if b=true then te σ' H5 fun v H6=>H6 acc=some (.lst ys)∧N (ys++[v]) (upd H6 acc (.lst (ys++[v]))) else N ys H5)))
    (hRR:∀ (acc C:Addr) (H':Hp) (s':Shared) (m':Str→Option Value),Inv X pins σ H' s'→s'.heap.Ns C m'→FpOk X pins H' C→Q (.ref acc) H'→RR (.ref acc) C (.ok .next) s') :
    wpAny (model X.prog X.w) X.A (newList []) (fun acc s₃=>wpAny (model X.prog X.w) X.A (newFunctionEnv scope X.env.globals cl [] X.env.qual none .none (some X.env)) (fun cenv s₄=>
      codeAny (model X.prog X.w) X.A (.compStart (.ListComp elt [⟨tg,iter,ifs,0⟩] scope pos) 0 (.ref it) acc { cenv with scope:=relabel scope X.env }) (RR acc cenv.locals) s₄) E s₃) E s:=by
  refine wpAny_newObj_type (wpAny_newFunctionEnv S.cell (by intro y hy;simp at hy) (fun h₁ hns₁ hsb₁=>?_) S.kind)
  have I3:Inv X pins σ (upd H s.heap.objs.size (.lst [])) { s with heap:=s.heap.push { cls:=.type "list", data:=.seq ([]:List Value).toArray },toks:=s.toks }:=I.lnew (its:=[]) .nil (Nat.zero_le _)
  have hfr:H s.heap.objs.size=none:=I.hok.fresh (Nat.le_refl _)
  generalize hs3:({ s with heap:=s.heap.push { cls:=.type "list", data:=.seq ([]:List Value).toArray },toks:=s.toks }:Shared)=s₃ at I3
  have hsz:s₃.heap.objs.size=s.heap.objs.size+1:=by rw [← hs3];exact Heap.size_push ..
  have old1:∀ b o,s.heap.get? b=some o→s₃.heap.get? b=some o:=fun b o e=>by rw [← hs3];exact Heap.get?_push_of_some _ e
  have key:codeAny (model X.prog X.w) X.A (.compStart (.ListComp elt [⟨tg,iter,ifs,0⟩] scope pos) 0 (.ref it) (.ref s.heap.objs.size) (compEnvC scope cl s₃.heap.objs.size X.env))
      (RR (.ref s.heap.objs.size) s₃.heap.objs.size) { s₃ with heap:=h₁,toks:=s₃.toks+0 }:=by
    have hns:h₁.Ns s₃.heap.objs.size (fun _=>none):=by
      have:=hns₁
      rw [← hs3]
      exact this
    have hsb:Heap.SameBut s₃.heap.objs.size (s₃.heap.push { cls:=.type "dict", data:=.dict #[] }) h₁:=by
      have:=hsb₁
      rw [← hs3]
      exact this
    have old:∀ b o,s₃.heap.get? b=some o→h₁.get? b=some o:=fun b o e=>hsb.extBut b o (Nat.ne_of_lt (Heap.lt_size e)) (Heap.get?_push_of_some _ e)
    have hf3:∀ b∈fp,FpOk X pins (upd H s.heap.objs.size (.lst [])) b:=fun b hb'=>by
      obtain ⟨o,e,_⟩:=T.obj 0 _ st b hb'
      have ne:b≠s.heap.objs.size:=Nat.ne_of_lt (Heap.lt_size e)
      exact ⟨by rw [upd_ne ne];exact (hf b hb').1,(hf b hb').2⟩
    have ho3:∀ b∈fp,∃ o,s₃.heap.get? b=some o:=fun b hb'=>by
      obtain ⟨o,e,_⟩:=T.obj 0 _ st b hb'
      exact ⟨o,old1 b o e⟩
    have st1:tn 0 h₁:=T.keep 0 _ _ st fun b hb' o e=>old b o (old1 b o e)
    have I4:=comp_inv (tn:=tn) (tk:=s₃.toks+0) S I3 c1 c2 hf3 ho3 hns old
    obtain ⟨W,⟨m0,w0⟩,turn⟩:=q s.heap.objs.size hfr
    obtain ⟨hg,ht,he⟩:=hb cl s₃.heap.objs.size s₃ (upd H s.heap.objs.size (.lst [])) fp pins
    generalize hX':cxComp X scope NL ix cl s₃.heap.objs.size s₃ (upd H s.heap.objs.size (.lst [])) fp pins=X' at I4 hg ht he
    have p1:X'.prog=X.prog:=by rw [← hX'];rfl
    have p2:X'.w=X.w:=by rw [← hX'];rfl
    have p3:X'.K=X.K:=by rw [← hX'];rfl
    have p4:X'.A=X.A:=by rw [← hX'];rfl
    have p5:X'.env=compEnvC scope cl s₃.heap.objs.size X.env:=by rw [← hX'];rfl
    have p6:X'.calm=true:=by rw [← hX'];exact hc
    have p7:X'.xe=fun _ _=>False:=by rw [← hX'];rfl
    have stat:∀ {H':Hp},(∀ b∈fp,H' b=none)→∀ b∈fp,FpOk X' [] H' b:=fun {H'} hn b hb'=>by
      have z:=hf3 b hb'
      obtain ⟨o,eo⟩:=ho3 b hb'
      rw [← hX']
      refine ⟨hn b hb',Nat.ne_of_lt (Heap.lt_size eo),fun q=>(List.mem_cons.mp (I3.stkSub b q)).elim z.2.1 z.2.2.1,.inl hb',fun x c hx=>z.2.2.2.2.1 x c (c1 x c hx),fun p hp=>?_⟩
      rcases List.mem_append.mp hp with w | w
      · exact z.2.2.2.2.2 p w
      · exact nomatch w
    have fin:∀ i n ys H' s',Inv X' [] (comp0 NL ix σ) H' s'→W i n ys H'→Q (.ref s.heap.objs.size) H'→RR (.ref s.heap.objs.size) s₃.heap.objs.size (.ok .next) s':=fun i n ys H' s' I' w' q'=>by
      obtain ⟨m',hn',_⟩:=I'.loc
      have hos:s'.os=s₃.os:=by have:=I'.os;rw [← hX'] at this;exact this
      have hu:Un (frs X.stack) fp (upd H s.heap.objs.size (.lst [])) H' s₃.heap s'.heap:=by have:=I'.base;rw [← hX'] at this;exact this
      have hk:HOk X.prog X.w H' s'.heap:=by have:=I'.hok;rw [← hX'] at this;exact this
      have hfC:H' s₃.heap.objs.size=none:=by have:=I'.free;rw [← hX'] at this;exact this
      have hnC:s'.heap.Ns s₃.heap.objs.size m':=by rw [p5] at hn';exact hn'
      exact hRR _ _ H' s' m' (I3.call' hos hu hk I'.bare fun b hb'=>⟨(hf3 b hb').2.2.2.1,(hf3 b hb').2.1,(hf3 b hb').2.2.2.2.1,(hf3 b hb').2.2.2.2.2⟩) hnC (I3.fpOk (Nat.le_refl _) hfC) q'
    have loop:∀ s₄:Shared,Inv X' [] (comp0 NL ix σ) (upd H s.heap.objs.size (.lst [])) s₄→tn 0 s₄.heap→codeAny (model X.prog X.w) X.A (.compLoop (.ListComp elt [⟨tg,iter,ifs,0⟩] scope pos) 0 (.ref it) (.ref s.heap.objs.size) (compEnvC scope cl s₃.heap.objs.size X.env))
        (RR (.ref s.heap.objs.size) s₃.heap.objs.size) s₄:=fun s₄ I4 st1=>by
      refine codeAny_loop rfl (fun n s'=>∃ i ys H',Inv X' [] (comp0 NL ix σ) H' s'∧tn i s'.heap∧(∀ b∈fp,H' b=none)∧W i n ys H') (fun n s' hI=>?_) m0 ⟨0,[],_,I4,st1,fun b hb'=>(hf3 b hb').1,w0⟩
      obtain ⟨i,ys,H',I',st',fr',w'⟩:=hI
      show wpAny _ X.A ((compTurn (.ListComp elt [⟨tg,iter,ifs,0⟩] scope pos) 0 (.ref it) (.ref s.heap.objs.size) (compEnvC scope cl s₃.heap.objs.size X.env)).onRaise (fun x=>do noteFrame x (compEnvC scope cl s₃.heap.objs.size X.env);theTreesLotGoes x)) _ _ s'
      refine wpAny_noted ?_
      rw [compTurn_list]
      obtain ⟨hacc,hz8,alt⟩:=turn i n ys H' w'
      rcases alt with ⟨stop,qn⟩ | ⟨go,N,hN,step⟩
      · have d:=T.done X' p1 p2 p3 p6 i [] s' (comp0 NL ix σ) H' (notedBy (model X.prog X.w) X.A (compEnvC scope cl s₃.heap.objs.size X.env) fun e s'=>RR (.ref s.heap.objs.size) s₃.heap.objs.size (.error e) s') I' (stat fr') st' stop
        rw [p4] at d
        refine wpAny_bind (wpAny_standAt (wpAny_bind (thn d fun r s1 ⟨hr,I1⟩=>?_)))
        subst hr
        exact wpAny_pure (fin i n ys H' s1 I1 w' qn)
      · have d:=T.item X' p1 p2 p3 p6 i [] s' (comp0 NL ix σ) H' (notedBy (model X.prog X.w) X.A (compEnvC scope cl s₃.heap.objs.size X.env) fun e s'=>RR (.ref s.heap.objs.size) s₃.heap.objs.size (.error e) s') I' (stat fr') st' go
        rw [p4] at d
        refine wpAny_bind (wpAny_standAt (wpAny_bind (thn d fun r s1 ⟨u,hr,h4⟩=>?_)))
        subst hr
        refine wpAny_bind (thn h4 fun _ s5 ⟨x,H5,I5,r5,y5,st5,fr5⟩=>?_)
        have I5':=I5.pinned (stat fr5) (T.obj _ _ st5)
        have nofail:∀ {α:Type} {t:Sem α} {R:α→Shared→Prop} {sx:Shared},wpAny (model X'.prog X'.w) X'.A t R X'.xe sx→wpAny (model X.prog X.w) X.A t R (notedBy (model X.prog X.w) X.A (compEnvC scope cl s₃.heap.objs.size X.env) fun e s'=>RR (.ref s.heap.objs.size) s₃.heap.objs.size (.error e) s') sx:=fun {α t R sx} hh=>by
          rw [p1,p2,p4,p7] at hh
          exact wpAny_mono hh (fun _ _ z=>z) fun _ _ z=>z.elim
        have again:∀ {σ7:St} {H7:Hp} {s7:Shared} {ys':List V},σ7.drop NL.length=ix.map (fun j=>σ.getD j none)→Inv X' ([]++pinsAt fp s5.heap) σ7 H7 s7→(∃ m',m' < n∧W (i+1) m' ys' H7)→∃ m,m < n∧∃ i ys H',Inv X' [] (comp0 NL ix σ) H' s7∧tn i s7.heap∧(∀ b∈fp,H' b=none)∧W i m ys H':=fun {σ7 H7 s7 ys'} hσ I7 n7=>by
          obtain ⟨m',hm,w7⟩:=n7
          have Iw:Inv X' ([]++pinsAt fp s5.heap) (comp0 NL ix σ) H7 s7:=I7.weak (by rw [I7.len,I'.len]) fun j v hj=>by
            have hlj:NL.length≤j:=by
              rcases Nat.lt_or_ge j NL.length with z | z
              · exfalso
                unfold comp0 at hj
                rw [List.getElem?_append_left (by simpa using z),List.getElem?_map] at hj
                cases q:NL[j]? with
                | none=>rw [q] at hj;cases hj
                | some y=>rw [q] at hj;cases hj
              · exact z
            unfold comp0 at hj
            rw [List.getElem?_append_right (by simpa using hlj),List.length_map,← hσ,List.getElem?_drop] at hj
            rw [← hj]
            congr 1
            omega
          refine ⟨m',hm,i+1,ys',H7,Iw.unpinned,T.keep _ _ _ st5 fun b hb' o e=>(I7.pin (b,o) (List.mem_append_right _ (List.mem_append_right _ (mem_pinsAt hb' e)))).1,fun b hb'=>?_,w7⟩
          obtain ⟨o,e,d⟩:=T.obj _ _ st5 b hb'
          exact (I7.pin (b,o) (List.mem_append_right _ (List.mem_append_right _ (mem_pinsAt hb' e)))).2.1
        have hg':=nofail (hg _ s5 (comp0 NL ix σ) H5 x u _ I5' r5 (step x H5 y5))
        rw [p5] at hg'
        refine wpAny_bind (thn hg' fun _ s6 ⟨σ6,H6,I6,hσ6,q6⟩=>?_)
        have ht':=nofail (ht _ s6 σ6 H6 _ I6 q6)
        rw [p5] at ht'
        refine wpAny_bind (thn ht' fun ok s7 ⟨H7,I7,q7⟩=>?_)
        cases ok with
        | false=>
          have q7':N ys H7:=by simpa using q7
          exact wpAny_pure ⟨rfl,again hσ6 I7 (hN _ _ q7')⟩
        | true=>
          have q7':=(if_pos rfl).mp q7
          have he':=nofail (he _ s7 σ6 H7 _ I7 q7')
          rw [p5] at he'
          refine wpAny_bind (wpAny_bind (thn he' fun v s8 ⟨y,H8,I8,r8,ha8,q8⟩=>?_))
          have ap:=nofail (mt_append _ s8 σ6 H8 (.ref s.heap.objs.size) [y] (.ref s.heap.objs.size) [v] (fun _ H9=>H9=upd H8 s.heap.objs.size (.lst (ys++[y]))) I8 rfl (.cons r8 .nil) ⟨_,ys,y,rfl,rfl,ha8,hz8,rfl⟩)
          refine wpAny_bind (thn ap fun _ s9 ⟨z,H9,I9,r9,e9⟩=>wpAny_pure (wpAny_pure ⟨rfl,?_⟩))
          subst e9
          exact again hσ6 I9 (hN _ _ q8)
    exact codeAny_compStart_list (loop _ I4 st1) (T.self X.A 0 _ _ _ st1 (loop _ I4 st1))
  exact key
theorem pe_comp {scope:Scope} {NL:List Str} {ix:List Nat} {elt tg iter:Expr} {ifs:List Expr} {pos:Pos} {wi:TI} {g:TG} {tt:TT} {te:TE}
    (hc:X.calm=true) (hi:PI X tg iter wi) (S:CompScope X scope NL ix)
    (hb:∀ (cl:List (Str × Addr)) (C:Addr) (s₃:Shared) (H₃:Hp) (fp:List Addr) (pins:List (Addr × Obj)),PG (cxComp X scope NL ix cl C s₃ H₃ fp pins) tg g∧PIfs (cxComp X scope NL ix cl C s₃ H₃ fp pins) ifs tt∧PE (cxComp X scope NL ix cl C s₃ H₃ fp pins) elt te)
    (hs:∀ x,foldedSetIterable iter X.env x=pure x:=by intro _;rfl):PE X (.ListComp elt [⟨tg,iter,ifs,0⟩] scope pos) (tComp NL ix wi g tt te):=by
  intro pins s σ H Q I h
  obtain ⟨cl,hcl,c1,c2⟩:=closure_ok (scope:=scope) (env:=X.env) fun x hx=>by
    rcases S.free _ hx rfl with z | z
    · exact I.ok.has x (.inl z)
    · exact I.ok.has x (.inr z)
  rw [eval_ListComp]
  refine wpAny_comprehension_free (use:=none) rfl hs hcl S.kind S.names (thn (hi pins s σ H _ I h) fun xv s1 h1=>thn h1 fun itv s2 h2=>?_)
  obtain ⟨it,fp,tn,J,H2,rfl,I2,T,st2,f2,q⟩:=h2
  refine comp_run (RR:=fun acc C=>compPost (model X.prog X.w) X.A X.xe none (EP X pins σ Q) acc C) hc S c1 c2 hb I2 T st2 f2 q ?_
  intro acc C H' s' m' I' hn fC q'
  refine ⟨m',hn,fun h' sb=>⟨.ref acc,H',?_,rfl,q'⟩⟩
  exact I'.turned (t':=s'.toks) (fun b o hb e=>sb.extBut b o hb e) fC.1 fC.2.1 fC.2.2.2.1 fC.2.2.2.2.1 fC.2.2.2.2.2
theorem ps_comp {i:Nat} {y:Str} {py spos:Pos} {scope:Scope} {NL:List Str} {ix:List Nat} {elt tg iter:Expr} {ifs:List Expr} {pos:Pos} {wi:TI} {g:TG} {tt:TT} {te:TE}
    (hN:X.N.Nodup) (hiy:X.N[i]?=some y) (hy:Loc X.env.scope y)
    (hc:X.calm=true) (hi:PI X tg iter wi) (S:CompScope X scope NL ix)
    (hb:∀ (cl:List (Str × Addr)) (C:Addr) (s₃:Shared) (H₃:Hp) (fp:List Addr) (pins:List (Addr × Obj)),PG (cxComp X scope NL ix cl C s₃ H₃ fp pins) tg g∧PIfs (cxComp X scope NL ix cl C s₃ H₃ fp pins) ifs tt∧PE (cxComp X scope NL ix cl C s₃ H₃ fp pins) elt te)
    (hsw:swapsWith (.ListComp elt [⟨tg,iter,ifs,0⟩] scope pos) (some (.Name y py)) spos.line X.env=pure true:=by rfl)
    (hs:∀ x,foldedSetIterable iter X.env x=pure x:=by intro _;rfl)
    (hf:X.fn y=true∨X.env.scope.names.lookup y=some .local:=by first | exact .inl rfl | exact .inr rfl | assumption) :
    PS X (.Assign [.Name y py] (.ListComp elt [⟨tg,iter,ifs,0⟩] scope pos) spos) (tAsg (tComp NL ix wi g tt te) (gName i)):=by
  intro pins s σ H D I h
  obtain ⟨cl,hcl,c1,c2⟩:=closure_ok (scope:=scope) (env:=X.env) fun x hx=>by
    rcases S.free _ hx rfl with z | z
    · exact I.ok.has x (.inl z)
    · exact I.ok.has x (.inr z)
  rw [exec_Assign_Name_used _ _ _ _ hsw]
  refine wpAny_bind (wpAny_standAt (wpAny_bind ?_))
  show wpAny _ X.A (do let _ ← comprehension (.ListComp elt [⟨tg,iter,ifs,0⟩] scope pos) scope X.env _ (newList []) false (eval iter X.env) (some (assign (.Name y py) X.env))) _ _ s
  refine wpAny_bind (thn (wpAny_comprehension_free (use:=some (assign (.Name y py) X.env)) (Q:=fun _ s'=>SP X pins D .next s') rfl hs hcl S.kind S.names
    (thn (hi pins s σ H _ I h) fun xv s1 h1=>thn h1 fun itv s2 h2=>?_)) fun _ s' hq=>wpAny_pure (wpAny_pure hq))
  obtain ⟨it,fp,tn,J,H2,rfl,I2,T,st2,f2,q⟩:=h2
  refine comp_run (RR:=fun acc C=>compPost (model X.prog X.w) X.A X.xe (some (assign (.Name y py) X.env)) (fun _ s'=>SP X pins D .next s') acc C) (Q:=fun x H1=>gName i x σ H1 D.nx) hc S c1 c2 hb I2 T st2 f2 q ?_
  intro acc C H' s' m' I' hn fC q'
  show wpAny _ X.A (assign (.Name y py) X.env (.ref acc)) _ _ _
  refine wpAny_assign_Name (store_ok2 I' hN hiy hy (v:=.ref acc) rfl (fun s'' I'' hsb=>?_) hf)
  obtain ⟨a,sb,ha⟩:=hsb
  have hne:C≠a:=by
    rcases ha with z | z
    · rw [z];exact fC.2.1
    · exact fun w=>fC.2.2.2.2.1 y a z w.symm
  refine ⟨m',hn.sameBut sb hne,fun h' sb'=>⟨_,H',?_,q'⟩⟩
  exact I''.turned (t':=s''.toks) (fun b o hb e=>sb'.extBut b o hb e) fC.1 fC.2.1 fC.2.2.2.1 fC.2.2.2.2.1 fC.2.2.2.2.2
theorem comp_by {J:It} {NL:List Str} {ix:List Nat} {g:TG} {tt:TT} {te:TE} {σ:St} {H1:Hp} {Qs:Hp→Prop} {acc:Addr} (n:Nat) (hn:n < 1000) (Pv:Nat→List V→Hp→Prop)
    (hacc:∀ i ys H2,Pv i ys H2→H2 acc=some (.lst ys)∧ys.length≤i) (h0:Pv 0 [] (upd H1 acc (.lst []))) (hstop:∀ ys H2,Pv n ys H2→J.stop n H2∧Qs H2)
    (hturn:∀ i ys H2,i < n→Pv i ys H2→J.go i H2∧∀ x H3,J.yld i H2 x H3→g x (comp0 NL ix σ) H3 fun σ' H4=>σ'.drop NL.length=ix.map (fun j=>σ.getD j none)∧tt σ' H4 fun b H5=>
      if b=true then te σ' H5 fun v H6=>H6 acc=some (.lst ys)∧Pv (i+1) (ys++[v]) (upd H6 acc (.lst (ys++[v]))) else Pv (i+1) ys H5) :
    ∃ W:Nat→Nat→List V→Hp→Prop,(∃ m,W 0 m [] (upd H1 acc (.lst []))) ∧
    ∀ i m ys H2,W i m ys H2→H2 acc=some (.lst ys)∧ys.length < sizeLine ∧
      ((J.stop i H2∧Qs H2)∨(J.go i H2∧∃ N:List V→Hp→Prop,(∀ ys' H',N ys' H'→∃ m',m' < m∧W (i+1) m' ys' H') ∧
        ∀ x H3,J.yld i H2 x H3→g x (comp0 NL ix σ) H3 fun σ' H4=>σ'.drop NL.length=ix.map (fun j=>σ.getD j none)∧tt σ' H4 fun b H5=>
          if b=true then te σ' H5 fun v H6=>H6 acc=some (.lst ys)∧N (ys++[v]) (upd H6 acc (.lst (ys++[v]))) else N ys H5)):=by
  refine ⟨fun i m ys H2=>i≤n∧m=n - i∧Pv i ys H2,⟨n,Nat.zero_le _,rfl,h0⟩,fun i m ys H2 ⟨hi,hm,hp⟩=>?_⟩
  obtain ⟨a1,a2⟩:=hacc i ys H2 hp
  refine ⟨a1,small1000 (by omega),?_⟩
  rcases Nat.lt_or_ge i n with lt | ge
  · obtain ⟨go,tn⟩:=hturn i ys H2 lt hp
    exact .inr ⟨go,Pv (i+1),fun ys' H' hN=>⟨n - (i+1),by omega,by omega,rfl,hN⟩,tn⟩
  · have e:i=n:=by omega
    subst e
    exact .inl (hstop ys H2 hp)
end
end L2
namespace L2
open PySem PySem.Spec PyProof.Rows
section
variable {prog:Program} {w:World} {A:Around} {E:Value→Shared→Prop} {s:Shared}
theorem nextOf_tuple_item {it t:Addr} {i:Nat} {items:Array Value} {x:Value} {Q:Value→Shared→Prop} (hit:s.heap.IsTupleIter it t i)
    (ht:s.heap.IsTuple t items) (hx:items[i]?=some x)
    (hQ:∀ h',h'.IsTupleIter it t (i+1)→Heap.SameBut it s.heap h'→Q x { s with heap:=h' }) :
    wpAny (model prog w) A (Builtin.SmallTypes.nextOf (.ref it)) Q E s:=by
  obtain ⟨o,ho,hc,hd⟩:=id hit
  obtain ⟨ol,hol,_,nl,hdl⟩:=ht
  unfold Builtin.SmallTypes.nextOf
  refine wpAny_bind (wpAny_callSpecial?_slot (name:=Str.ofString "__next__") hit.typeIs F.slot_tuple_iterator_next
    (wpAny_call_entry F.slot_tuple_iterator_next hit.typeIs F.entry_tuple_iterator_next ?_ (F.args_tuple_iterator_next_1 _)))
  show wpAny _ _ (field (.ref it) 0 >>= _) _ _ s
  refine wpAny_bind (wpAny_field ho hd (x:=.ref t) rfl ?_)
  show wpAny _ _ (if (Value.ref t == Value.none)=true then _ else _) _ _ s
  rw [if_neg (show ¬ ((Value.ref t == Value.none)=true) from Bool.false_ne_true)]
  show wpAny _ _ (field (.ref it) 1 >>= _) _ _ s
  refine wpAny_bind (wpAny_field ho hd (x:=.int i 0) rfl ?_)
  show wpAny _ _ (seqItems? (.ref t) >>= _) _ _ s
  refine wpAny_bind (wpAny_seqItems hol hdl ?_)
  simp only [Int.toNat_natCast,hx]
  refine wpAny_bind (wpAny_setField ho hd (by simp) (wpAny_pure ⟨x,rfl,wpAny_pure (hQ _ ?_ (Heap.SameBut.update ..))⟩))
  exact ⟨_,Heap.get?_update_self _ ho (Obj.isFreed_of_fields (Obj.data_mapFields hd _)),(Obj.cls_mapFields ..).trans hc,by
    rw [Obj.data_mapFields hd];simp [rawInt]⟩
theorem nextOf_tuple_end {it t:Addr} {i:Nat} {items:Array Value} {Q:Value→Shared→Prop} (hh:A.handled=none)
    (hit:s.heap.IsTupleIter it t i) (ht:s.heap.IsTuple t items) (hx:items[i]?=none)
    (hE:∀ h' e,Heap.ExtBut it s.heap h'→(∃ o,h'.get? e=some o∧o.cls=.type "StopIteration")→E (.ref e) { s with heap:=h' }) :
    wpAny (model prog w) A (Builtin.SmallTypes.nextOf (.ref it)) Q E s:=by
  obtain ⟨o,ho,hc,hd⟩:=id hit
  obtain ⟨ol,hol,_,nl,hdl⟩:=ht
  unfold Builtin.SmallTypes.nextOf
  refine wpAny_bind (wpAny_callSpecial?_slot (name:=Str.ofString "__next__") hit.typeIs F.slot_tuple_iterator_next
    (wpAny_call_entry F.slot_tuple_iterator_next hit.typeIs F.entry_tuple_iterator_next ?_ (F.args_tuple_iterator_next_1 _)))
  show wpAny _ _ (field (.ref it) 0 >>= _) _ _ s
  refine wpAny_bind (wpAny_field ho hd (x:=.ref t) rfl ?_)
  show wpAny _ _ (if (Value.ref t == Value.none)=true then _ else _) _ _ s
  rw [if_neg (show ¬ ((Value.ref t == Value.none)=true) from Bool.false_ne_true)]
  show wpAny _ _ (field (.ref it) 1 >>= _) _ _ s
  refine wpAny_bind (wpAny_field ho hd (x:=.int i 0) rfl ?_)
  show wpAny _ _ (seqItems? (.ref t) >>= _) _ _ s
  refine wpAny_bind (wpAny_seqItems hol hdl ?_)
  simp only [Int.toNat_natCast,hx]
  refine wpAny_bind (wpAny_rule (wpAny_bind (wpAny_setField ho hd (by simp) ?_)))
  show wpAny _ _ (newExc (.type "StopIteration") [] >>= _) _ _ _
  refine wpAny_bind ?_
  simp only [newExc,newTuple]
  refine wpAny_bind (wpAny_newObj_type ?_ (by size_fits))
  refine wpAny_bind (m:=firstArgMember _ _) (wpAny_of_eq (a:=Value.none) (by first | rfl | (simp only [firstArgMember];rfl)) ?_)
  refine wpAny_newObj_type ?_ (by size_fits)
  simp only [raiseNew]
  refine wpAny_bind (wpAny_handled ?_)
  first | rw [show A.in1.handled=none from hh] | rw [hh]
  refine wpAny_bind (wpAny_pure (wpAny_throw ?_))
  exact hE _ _ (((Heap.SameBut.update ..).extBut.push _).push _) ⟨_,Heap.get?_push_size _ rfl,rfl⟩
end
theorem draws_tuple {prog:Program} {w:World} {A:Around} (hh:A.handled=none) (it l:Addr) (hne:l≠it) (items:Array Value) :
    Draws prog w A it [it,l] items.size (fun i v=>items[i]?=some v) (fun i h=>h.IsTupleIter it l i∧h.IsTuple l items) where
  live:=fun _ _ st=>let ⟨o,ho,_⟩:=st.1;⟨o,ho⟩
  frame:=fun _ _ _ st hk=>⟨st.1.at fun o e=>hk it (by simp) o e,let ⟨o,ho,r⟩:=st.2;⟨o,hk l (by simp) o ho,r⟩⟩
  item:=fun i s Q E hi st hQ=>by
    refine nextOf_tuple_item st.1 st.2 (x:=items[i]) (by simp [hi]) fun h' hit' hs'=>?_
    exact hQ _ h' s.toks (by simp [hi]) ⟨hit',st.2.extBut hs'.extBut hne⟩ hs'
  done:=fun s Q E st hE=>nextOf_tuple_end hh st.1 st.2 (by simp) hE
theorem draws_str {prog:Program} {w:World} {A:Around} (hh:A.handled=none) (it:Addr) (x:Str) (t:Tok) :
    Draws prog w A it [it] x.cps.size (fun i v=>∃ c u,x.cps[i]?=some c∧v=.str ⟨#[c]⟩ u) (fun i h=>h.IsStrIter it (strIterType x) x t i):=by
  unfold strIterType
  cases x.cps.all (· < 128) with
  | true=>exact Draws.strAscii hh it x t
  | false=>exact Draws.strWide hh it x t
inductive SK where
  | lst (a:Addr) | tup (a:Addr) | str (x:Str)
def SK.val:SK→V
  | .lst a=>.ref a
  | .tup a=>.ref a
  | .str x=>.str x
def signs (x:Str):List V:=x.cps.toList.map fun c=>.str ⟨#[c]⟩
def SK.has (H:Hp):SK→List V→Prop
  | .lst a,xs=>Rd H a (.lst xs)
  | .tup a,xs=>Rd H a (.tup xs)
  | .str x,xs=>xs=signs x
def SK.own (it:Addr) (k:Nat) (h:Heap):SK→Prop
  | .lst a=>h.IsListIter it a k
  | .tup a=>h.IsTupleIter it a k
  | .str x=>∃ t,h.IsStrIter it (strIterType x) x t k
theorem SK.own_at {it:Addr} {k:Nat} {h h':Heap} {κ:SK} (x:κ.own it k h) (e:∀ o,h.get? it=some o→h'.get? it=some o):κ.own it k h':=by
  cases κ with
  | lst a=>exact Heap.IsListIter.at x e
  | tup a=>exact Heap.IsTupleIter.at x e
  | str y=>obtain ⟨t,o,ho,r⟩:=x;exact ⟨t,o,e o ho,r⟩
theorem SK.own_obj {it:Addr} {k:Nat} {h:Heap} {κ:SK} (x:κ.own it k h):∃ o,h.get? it=some o∧(∀ v,o.data≠.cell v)∧o.cls≠.type "tuple" ∧ o.cls≠.type "zip" ∧ o.cls≠.type "enumerate" := by
  cases κ with
  | lst a=>obtain ⟨o,ho,c,d⟩:=x;exact ⟨o,ho,(fun v z=>by rw [d] at z;cases z),(fun z=>by rw [c] at z;simp at z),(fun z=>by rw [c] at z;simp at z),(fun z=>by rw [c] at z;simp at z)⟩
  | tup a=>obtain ⟨o,ho,c,d⟩:=x;exact ⟨o,ho,(fun v z=>by rw [d] at z;cases z),(fun z=>by rw [c] at z;simp at z),(fun z=>by rw [c] at z;simp at z),(fun z=>by rw [c] at z;simp at z)⟩
  | str y=>
    obtain ⟨t,o,ho,c,d⟩:=x
    refine ⟨o,ho,(fun v z=>by rw [d] at z;cases z),?_,?_,?_⟩ <;>
    · intro z
      rw [c] at z
      unfold strIterType at z
      split at z <;> simp at z
theorem Rd.inj {H:Hp} {a:Addr} {u v:HO} (hu:∀ o w,u≠.frz o w) (hv:∀ o w,v≠.frz o w) (x:Rd H a u) (y:Rd H a v):u=v:=by
  rcases x with x | ⟨o,x⟩ <;> rcases y with y | ⟨p,y⟩ <;> rw [x] at y
  · exact Option.some.inj y
  · exact absurd (Option.some.inj y) (hu p v)
  · exact absurd (Option.some.inj y).symm (hv o u)
  · have:=Option.some.inj y
    injection this
theorem SK.inj {H:Hp} {κ:SK} {xs ys:List V} (x:κ.has H xs) (y:κ.has H ys):xs=ys:=by
  cases κ with
  | lst a=>have:=Rd.inj (u:=.lst xs) (v:=.lst ys) (fun _ _ z=>nomatch z) (fun _ _ z=>nomatch z) x y;injection this
  | tup a=>have:=Rd.inj (u:=.tup xs) (v:=.tup ys) (fun _ _ z=>nomatch z) (fun _ _ z=>nomatch z) x y;injection this
  | str z=>exact Eq.trans x (Eq.symm y)
def SK.box:SK→List Addr
  | .lst a=>[a]
  | .tup a=>[a]
  | .str _=>[]
theorem SK.box_some {H:Hp} {κ:SK} {xs:List V} (x:κ.has H xs) {b:Addr} (hb:b∈κ.box):H b≠none:=by
  cases κ with
  | lst a => have e:b=a:=by simpa [SK.box] using hb
             subst e;intro z;rcases x with q | ⟨o,q⟩ <;> (rw [z] at q;cases q)
  | tup a => have e:b=a:=by simpa [SK.box] using hb
             subst e;intro z;rcases x with q | ⟨o,q⟩ <;> (rw [z] at q;cases q)
  | str z=>simp [SK.box] at hb
section
variable {X:Cx} {pins:List (Addr × Obj)} {σ:St} {H:Hp} {s:Shared}
theorem sk_draws {κ:SK} {it:Addr} {k:Nat} {xs:List V} {A:Around} (I:Inv X pins σ H s) (hv:κ.has H xs) (hit:κ.own it k s.heap) (hn:H it=none) (hh:A.handled=none) :
    ∃ (P:Nat→Value→Prop) (St:Nat→Heap→Prop),Draws X.prog X.w A it (it :: κ.box) xs.length P St∧St k s.heap∧(∀ i u,P i u→∃ x,xs[i]?=some x∧RelV x u)∧(∀ i h,St i h→κ.own it i h):=by
  have ne:∀ b∈κ.box,b≠it:=fun b hb z=>SK.box_some hv hb (by rw [z];exact hn)
  cases κ with
  | lst a=>
    obtain ⟨_,its,n,r,e⟩:=Rd.ok hv I.hok
    have hl:s.heap.IsList a its.toArray:=⟨_,e,rfl,n,rfl⟩
    have D:=Draws.list (prog:=X.prog) (w:=X.w) hh it a (ne a (by simp [SK.box])) its.toArray
    rw [List.size_toArray,← r.length] at D
    refine ⟨_,_,D,⟨hit,hl⟩,fun i u hu=>?_,fun i h st=>st.1⟩
    · have hu':its[i]?=some u:=by simpa using hu
      have hlt:i < xs.length:=by rw [r.length];exact (List.getElem?_eq_some_iff.mp hu').1
      obtain ⟨u',e1,e2⟩:=r.get (List.getElem?_eq_getElem hlt)
      rw [hu'] at e1;cases e1
      exact ⟨_,List.getElem?_eq_getElem hlt,e2⟩
  | tup a=>
    obtain ⟨_,its,r,ht⟩:=Rd.ok hv I.hok
    have hl:s.heap.IsTuple a its.toArray:=ht
    have D:=draws_tuple (prog:=X.prog) (w:=X.w) hh it a (ne a (by simp [SK.box])) its.toArray
    rw [List.size_toArray,← r.length] at D
    refine ⟨_,_,D,⟨hit,hl⟩,fun i u hu=>?_,fun i h st=>st.1⟩
    · have hu':its[i]?=some u:=by simpa using hu
      have hlt:i < xs.length:=by rw [r.length];exact (List.getElem?_eq_some_iff.mp hu').1
      obtain ⟨u',e1,e2⟩:=r.get (List.getElem?_eq_getElem hlt)
      rw [hu'] at e1;cases e1
      exact ⟨_,List.getElem?_eq_getElem hlt,e2⟩
  | str z=>
    obtain ⟨t,hit⟩:=hit
    have hv':xs=signs z:=hv
    subst hv'
    have D:=draws_str (prog:=X.prog) (w:=X.w) hh it z t
    have e:(signs z).length=z.cps.size:=by simp [signs]
    rw [← e] at D
    refine ⟨_,_,D,hit,fun i u hu=>?_,fun i h st=>⟨t,st⟩⟩
    · obtain ⟨c,u',hc,rfl⟩:=hu
      refine ⟨.str ⟨#[c]⟩,?_,⟨u',rfl⟩⟩
      simp only [signs,List.getElem?_map,Array.getElem?_toList,hc,Option.map_some]
theorem Inv.turnedNew {ch:List Addr} {p:Addr} {o:HO} {h':Heap} {tk:Nat} (I:Inv X pins σ H s)
    (hch:∀ b∈ch,FpOk X pins H b) (k:∀ b ob,b ∉ ch→s.heap.get? b=some ob→h'.get? b=some ob) (hp:s.heap.objs.size≤p) (new:ObjOk X.prog X.w (upd H p o) h' p o) :
    Inv X pins σ (upd H p o) { s with heap:=h',toks:=tk }:=by
  have hn:H p=none:=I.hok.fresh hp
  refine I.call (g':=s.gens) (d':=s.drawn) (ch:=ch) ⟨fun b u q _ _ hx=>k b u hx q,fun b u q _ _ hx=>⟨u.slots,k b u hx q⟩,fun b u q n _=>?_,fun b u q hx=>⟨u,k b u hx q⟩,fun b xs q=>?_,fun b u xs q=>?_,fun b ps q=>⟨#[],?_⟩⟩ (fun b u e=>?_) I.bare
    fun b hb=>⟨(hch b hb).2.2.2.1,(hch b hb).2.1,(hch b hb).2.2.2.2.1,(hch b hb).2.2.2.2.2⟩
  · rw [upd_ne (Nat.ne_of_lt (Nat.lt_of_lt_of_le (Heap.lt_size q) hp))];exact n
  · rw [upd_ne (ne_of_none q hn)];exact q
  · rw [upd_ne (ne_of_none q hn)];exact q
  · rw [upd_ne (ne_of_none q hn),q];simp
  · by_cases hb:b=p
    · subst hb;rw [upd_same] at e;cases e;exact new
    · rw [upd_ne hb] at e
      refine (I.hok b u e).stay (fun c v hc q=>k c v (fun hm=>?_) q) (fun c q=>by rw [upd_ne (ne_of_none q hn)];exact q) fun c xs q=>by rw [upd_ne (ne_of_none q hn)];exact q
      have z:=(hch c hm).1
      rcases hc with hc | hc
      · rw [hc,e] at z;cases z
      · rw [hc] at z;cases z
theorem Inv.turnedMany {ch:List Addr} {h':Heap} {tk:Nat} (I:Inv X pins σ H s)
    (hch:∀ b∈ch,FpOk X pins H b) (k:∀ b ob,b ∉ ch→s.heap.get? b=some ob→h'.get? b=some ob):Inv X pins σ H { s with heap:=h',toks:=tk }:=by
  refine I.call (g':=s.gens) (d':=s.drawn) (ch:=ch) ⟨fun b u q _ _ hx=>k b u hx q,fun b u q _ _ hx=>⟨u.slots,k b u hx q⟩,fun b u q n _=>n,fun b u q hx=>⟨u,k b u hx q⟩,fun b xs q=>q,fun b u xs q=>q,fun b ps q=>⟨#[],by rw [q];simp⟩⟩ (fun b u e=>?_) I.bare
    fun b hb=>⟨(hch b hb).2.2.2.1,(hch b hb).2.1,(hch b hb).2.2.2.2.1,(hch b hb).2.2.2.2.2⟩
  refine (I.hok b u e).stay (fun c v hc q=>k c v (fun hm=>?_) q) (fun _ q=>q) fun _ _ q=>q
  have z:=(hch c hm).1
  rcases hc with hc | hc
  · rw [hc,e] at z;cases z
  · rw [hc] at z;cases z
end
def Ite (κ:SK):It:=
  ⟨fun i H=>∃ xs x,κ.has H xs∧xs[i]?=some x,fun i H v H'=>∃ p x,v=.ref p∧H p=none∧H'=upd H p (.tup [.int i,x])∧∀ xs,κ.has H xs→xs[i]?=some x,fun i H=>∃ xs,κ.has H xs∧xs.length=i⟩
theorem turn_enum {P:Program} {w:World} {K:PySem.W.Frag} {elts:List Expr} {x1:Nat} {tpos:Pos} (κ:SK) (e it:Addr) (hei:e≠it) :
    Turn P w K (.Tuple elts x1 tpos) (Ite κ) [e,it] e (fun i h=>(∃ old,IsEnum h e it i old)∧κ.own it i h) where
  mem:=by simp
  obj:=fun i h st b hb=>by
    obtain ⟨⟨old,he⟩,ho⟩:=st
    simp only [List.mem_cons,List.not_mem_nil,or_false] at hb
    rcases hb with rfl | rfl
    · exact ⟨_,he,fun v z=>by
        have z':Data.fields _=Data.cell v:=z
        cases z'⟩
    · obtain ⟨o,h1,h2,_⟩:=SK.own_obj ho
      exact ⟨o,h1,h2⟩
  keep:=fun i h h' st k=>by
    obtain ⟨⟨old,he⟩,ho⟩:=st
    exact ⟨⟨old,k e (by simp) _ he⟩,SK.own_at ho fun o q=>k it (by simp) o q⟩
  item:=by
    intro X hP hw hK hc i pins s σ H E I hf st hg
    subst hP hw hK
    obtain ⟨⟨old,he⟩,ho⟩:=st
    obtain ⟨xs,x,hx,hxi⟩:=hg
    have hlt:i < xs.length:=(List.getElem?_eq_some_iff.mp hxi).1
    have hh:X.A.in1.handled=none:=I.ok.hd hc
    obtain ⟨Pp,St,D,hst,hrel,hown⟩:=sk_draws (A:=X.A.in1) I hx ho (hf it (by simp)).1 hh
    have hef:e ∉ it :: κ.box:=fun z=>by
      rcases List.mem_cons.mp z with z | z
      · exact hei z
      · exact SK.box_some hx z (hf e (by simp)).1
    refine wpAny_pyNext_enum_itemD D he hst hlt hei hef fun y h' tk hy ho' hst' hT hsz hk=>⟨_,rfl,?_⟩
    refine wpAny_letOwnedTupleGo_enum ho' fun h'' he'' hs''=>?_
    obtain ⟨x',hx',rx⟩:=hrel i y hy
    have exx:x'=x:=Option.some.inj (hx'.symm.trans hxi)
    subst exx
    have kk:∀ b ob,b ∉ [e,it]→s.heap.get? b=some ob→h''.get? b=some ob:=fun b ob hb q=>
      (hs''.2 b (fun z=>hb (by simp [z]))).trans (hk b ob (fun z=>hb (by simp [z])) (fun z=>hb (by simp [z])) q)
    have ne:s.heap.objs.size≠e:=Nat.ne_of_gt (Heap.lt_size he)
    have hT':h''.get? s.heap.objs.size=some { cls:=.type "tuple", data:=.seq #[.int i tk,y] }:=(hs''.2 _ ne).trans hT
    refine ⟨.ref s.heap.objs.size,upd H s.heap.objs.size (.tup [.int i,x']),I.turnedNew (tk:=tk+1) hf kk (Nat.le_refl _) ⟨⟨(by show 2≤sizeLine;decide),_,hT',rfl⟩,[.int i tk,y],.cons ⟨tk,rfl⟩ (.cons rx .nil),_,hT',rfl,0,rfl⟩,rfl,
      ⟨_,x',rfl,I.hok.fresh (Nat.le_refl _),rfl,fun ys hy'=>by rw [SK.inj hy' hx];exact hxi⟩,⟨⟨y,by simpa using he''⟩,SK.own_at (hown _ _ hst') fun o q=>(hs''.2 it (Ne.symm hei)).trans q⟩,fun b hb=>?_⟩
    obtain ⟨o,hob,_⟩:∃ o,s.heap.get? b=some o∧True:=by
      simp only [List.mem_cons,List.not_mem_nil,or_false] at hb
      rcases hb with rfl | rfl
      · exact ⟨_,he,trivial⟩
      · obtain ⟨o,h1,_⟩:=SK.own_obj ho;exact ⟨o,h1,trivial⟩
    rw [upd_ne (Nat.ne_of_lt (Heap.lt_size hob))]
    exact (hf b hb).1
  done:=by
    intro X hP hw hK hc i pins s σ H E I hf st hg
    subst hP hw hK
    obtain ⟨⟨old,he⟩,ho⟩:=st
    obtain ⟨xs,hx,hlen⟩:=hg
    have hh:X.A.in1.handled=none:=I.ok.hd hc
    obtain ⟨Pp,St,D,hst,hrel,hown⟩:=sk_draws (A:=X.A.in1) I hx ho (hf it (by simp)).1 hh
    have hst':St xs.length s.heap:=by rw [hlen];exact hst
    refine wpAny_pyNext_enum_endD D he hst' fun h' hx'=>⟨rfl,?_⟩
    have f:=hf it (by simp)
    exact I.turned (t':=s.toks) (fun b o hb q=>hx' b o hb q) f.1 f.2.1 f.2.2.2.1 f.2.2.2.2.1 f.2.2.2.2.2
  self:=fun _ _ _ _ _ st h=>let ⟨⟨_,he⟩,_⟩:=st;wpAny_pyIter_enum he h
open AutoSeq1 (wpAny_loadPart') in
set_option maxHeartbeats 4000000 in
theorem meets_enumerate_newT (l:Addr) (items:Array Value) (n:Nat) (dct:Option Addr) (sl:Array (Option Value)) :
    Meets (Builtin.«enumerate.__new__» ⟨[.type "enumerate", .ref l],[]⟩) (fun _ R s=>s.heap.get? l=some { cls:=.type "tuple", dict:=dct,data:=.seq items n,slots:=sl } ∧
      R (.ok (.ret (.ref (s.heap.push { cls:=.type "tuple_iterator", data:=.fields #[.ref l,.int 0 0] }).objs.size)))
        { s with heap:=(s.heap.push { cls:=.type "tuple_iterator", data:=.fields #[.ref l,.int 0 0] }).push { cls:=.type "enumerate", data:=.fields #[.none,.bool false,.ref s.heap.objs.size,rawInt 0,.none,.none] } }):=
  .of_wp fun prog w A R s h=>by
    obtain ⟨hp,g,d,tk,os⟩:=s;obtain ⟨hl,h⟩:=h
    have hsub:=sub_enumerate
    have hL:Heap.IsTuple (Shared.heap ⟨hp,g,d,tk,os⟩) l items:=⟨_,hl,rfl,n,rfl⟩
    wp_walk using wpAny_loadPart' hl
    refine wpAny_stack_any fun st=>wpAny_pure ?_
    split
    · rename_i c _ _ _ _ _
      cases (c == Value.type "enumerate")
      · wp_walk using wpAny_loadPart' hl,wpAny_pyIter_tuple hL
        exact ⟨_,rfl,h⟩
      · wp_walk using wpAny_loadPart' hl,wpAny_pyIter_tuple hL
        exact ⟨_,rfl,h⟩
    · wp_walk using wpAny_loadPart' hl,wpAny_pyIter_tuple hL
      exact ⟨_,rfl,h⟩
theorem call_enumerate_tuple {prog:Program} {w:World} {A:Around} {E:Value→Shared→Prop} {s:Shared} {l:Addr} {items:Array Value} {Q:Value→Shared→Prop} (hL:s.heap.IsTuple l items)
    (h:∀ h',IsEnum h' (s.heap.objs.size+1) s.heap.objs.size 0 .none→h'.IsTupleIter s.heap.objs.size l 0→h'.objs.size=s.heap.objs.size+2 →
      (∀ b o,s.heap.get? b=some o→h'.get? b=some o)→Q (.ref (s.heap.objs.size+1)) { s with heap:=h' }) :
    wpAny (model prog w) A (call (.type "enumerate") [.ref l]) Q E s:=by
  obtain ⟨⟨c,dct,dt,sl⟩,hl,hc,n,hd⟩:=hL
  replace hc:c=.type "tuple" := hc
  replace hd:dt=.seq items n:=hd
  subst hc hd
  refine callType_new F.called_enumerate (by decide) (F.typeCall_enumerate_1 _) (F.newCall_enumerate_1 _) (fun obj=>F.args_object_init_2 obj _) F.entry_enumerate_new
    (meets_enumerate_newT l items n dct sl) ⟨hl,?_⟩
  have hz:(s.heap.push { cls:=.type "tuple_iterator", data:=.fields #[.ref l,.int 0 0] }).objs.size=s.heap.objs.size+1:=Heap.size_push ..
  show _∧_
  rw [hz]
  have he:IsEnum ((s.heap.push { cls:=.type "tuple_iterator", data:=.fields #[.ref l,.int 0 0] }).push
      { cls:=.type "enumerate", data:=.fields #[.none,.bool false,.ref s.heap.objs.size,rawInt 0,.none,.none] }) (s.heap.objs.size+1) s.heap.objs.size 0 .none:=by
    have:=Heap.get?_push_size (s.heap.push { cls:=.type "tuple_iterator", data:=.fields #[.ref l,.int 0 0] })
      (o:={ cls:=.type "enumerate", data:=.fields #[.none,.bool false,.ref s.heap.objs.size,rawInt 0,.none,.none] }) rfl
    rw [hz] at this;exact this
  refine ⟨⟨_,he,rfl⟩,h _ he ⟨_,Heap.get?_push_of_some _ (Heap.get?_push_size _ rfl),rfl,rfl⟩ (by rw [Heap.size_push,hz]) fun b o x=>Heap.get?_push_of_some _ (Heap.get?_push_of_some _ x)⟩
section
variable {X:Cx} {pins:List (Addr × Obj)} {σ:St} {H:Hp} {s:Shared}
theorem call_enum {κ:SK} {xs:List V} {u:Value} {E:Value→Shared→Prop} {Q:Value→Shared→Prop} (I:Inv X pins σ H s) (hv:κ.has H xs) (r:RelV κ.val u)
    (h:∀ h',IsEnum h' (s.heap.objs.size+1) s.heap.objs.size 0 .none→κ.own s.heap.objs.size 0 h'→(∀ b o,s.heap.get? b=some o→h'.get? b=some o)→Q (.ref (s.heap.objs.size+1)) { s with heap:=h' }) :
    wpAny (model X.prog X.w) X.A (call (.type "enumerate") [u]) Q E s:=by
  cases κ with
  | lst a=>
    cases (show u=Value.ref a from r)
    obtain ⟨_,its,n,rr,e⟩:=Rd.ok hv I.hok
    exact call_enumerate_list ⟨_,e,rfl,n,rfl⟩ fun h' a1 a2 _ a4=>h h' a1 a2 a4
  | tup a=>
    cases (show u=Value.ref a from r)
    obtain ⟨_,its,rr,e⟩:=Rd.ok hv I.hok
    exact call_enumerate_tuple e fun h' a1 a2 _ a4=>h h' a1 a2 a4
  | str x=>
    obtain ⟨t,q⟩:=(show ∃ t,u=Value.str x t from r)
    subst q
    exact call_enumerate_str fun h' a1 a2 _ a4=>h h' a1 ⟨t,a2⟩ a4
def iEnum (ta:TA):TI:=fun σ H R=>ta σ H fun vs H1=>∃ κ:SK,vs=[κ.val]∧(∃ xs,κ.has H1 xs)∧R (Ite κ) H1
theorem pi_enum {a:Expr} {ta:TA} {p pos:Pos} {elts:List Expr} {x1:Nat} {tpos:Pos} (hg:Gl X "enumerate") (hm:X.mg "enumerate" = none) (ha:PA X [a] ta)
    (hs:starEach [a] X.env=[(false,eval a X.env)]:=by rfl):PI X (.Tuple elts x1 tpos) (.Call (.Name "enumerate" p) [a] [] pos) (iEnum ta):=by
  intro pins s σ H R I h
  refine Call_ (ld_blt I hg hm boot_enumerate (PyProof.Rows.callWith_type1 (thn (ha pos pins s σ H _ I h) fun us s1 ⟨vs,H1,I1,r1,q1⟩=>?_) hs rfl))
  obtain ⟨κ,e,⟨xs,hx⟩,q⟩:=q1
  subst e
  obtain ⟨u,rfl,ru⟩:=vals1 r1
  refine call_enum I1 hx ru fun h' he hi hk=>?_
  refine wpAny_pyIter_enum he ⟨s1.heap.objs.size+1,[s1.heap.objs.size+1,s1.heap.objs.size],_,_,H1,rfl,I1.kept (t':=s1.toks) hk,turn_enum κ _ _ (Nat.ne_of_gt (Nat.lt_succ_self _)),⟨⟨_,he⟩,hi⟩,fun b hb=>?_,q⟩
  have hge:s1.heap.objs.size≤b:=by
    simp only [List.mem_cons,List.not_mem_nil,or_false] at hb
    rcases hb with rfl | rfl
    · exact Nat.le_succ _
    · exact Nat.le_refl _
  exact I1.fpOk hge (I1.hok.fresh hge)
end
structure ZA (z TI TO i1 i2:Addr) (fp1 fp2:List Addr):Prop where
  TIz:TI≠z
  TOz:TO≠z
  i1z:i1≠z
  i2z:i2≠z
  TITO:TI≠TO
  TIi1:TI≠i1
  TIi2:TI≠i2
  TOi1:TO≠i1
  TOi2:TO≠i2
  i12:i1≠i2
  z1:z ∉ fp1
  z2:z ∉ fp2
  o1:TO ∉ fp1
  o2:TO ∉ fp2
  a1:i2 ∉ fp1
  a2:i1 ∉ fp2
section
variable {prog:Program} {w:World} {A:Around} {E:Value→Shared→Prop} {s:Shared}
theorem zip_next_itemD {z TI TO i1 i2:Addr} {fp1 fp2:List Addr} {n1 n2 k:Nat} {P1 P2:Nat→Value→Prop} {S1 S2:Nat→Heap→Prop} {a b:Value} {Q:Value→Shared→Prop} (Z:ZA z TI TO i1 i2 fp1 fp2)
    (D1:Draws prog w A i1 fp1 n1 P1 S1) (D2:Draws prog w A i2 fp2 n2 P2 S2)
    (hz:IsZip s.heap z TI TO .none) (hTI:IsPair s.heap TI (.ref i1) (.ref i2)) (hTO:IsPair s.heap TO a b) (h1:S1 k s.heap) (h2:S2 k s.heap) (l1:k < n1) (l2:k < n2)
    (hQ:∀ x y h' tk,P1 k x→P2 k y→IsZip h' z TI TO (rawInt s.heap.objs.size)→IsPair h' TO x y→S1 (k+1) h'→S2 (k+1) h'→IsPair h' s.heap.objs.size x y→h'.objs.size=s.heap.objs.size+1 →
      (∀ c o,c≠z→c≠TO→c≠i1→c≠i2→s.heap.get? c=some o→h'.get? c=some o)→Q (.ref s.heap.objs.size) { s with heap:=h',toks:=tk }) :
    wpAny (model prog w) A (Builtin.«zip.__next__» ⟨[.ref z],[]⟩) (fun fin s'=>∃ v,fin=.done (.ret v)∧Q v s') E s:=by
  obtain ⟨hp,g,d,tk₀,os⟩:=s
  show wpAny _ _ (field (.ref z) 2 >>= _) _ _ _
  refine wpAny_bind (wpAny_field hz rfl (x:=.bool false) rfl ?_)
  show wpAny _ _ (field (.ref z) 3 >>= _) _ _ _
  refine wpAny_bind (wpAny_field hz rfl (x:=.ref TI) rfl ?_)
  refine wpAny_bind (wpAny_seqItems hTI rfl ?_)
  show wpAny _ _ (Builtin.SmallTypes.ownedTupleIsFree (.ref z) >>= _) _ _ _
  refine wpAny_bind ?_
  unfold Builtin.SmallTypes.ownedTupleIsFree
  refine wpAny_bind (wpAny_field hz rfl (x:=.none) rfl (wpAny_pure ?_))
  simp only [if_true]
  refine wpAny_bind (wpAny_rule ?_)
  refine wpAny_bind (wpAny_field hz rfl (x:=.ref TO) rfl ?_)
  refine wpAny_bind (wpAny_setField_rec hz (by simp) fun h₁ hz₁ hs₁=>?_)
  replace hz₁:IsZip h₁ z TI TO .ellipsis:=hz₁
  replace hs₁:Heap.SameBut z hp h₁:=hs₁
  refine wpAny_bind ?_
  simp only [List.zipIdx_cons,List.zipIdx_nil,List.forIn_cons,List.forIn_nil]
  refine wpAny_bind (wpAny_bind (wpAny_onRaise ?_))
  show wpAny _ _ (Builtin.SmallTypes.nextOf (.ref i1) >>= _) _ _ _
  have h1₁:S1 k h₁:=D1.frame _ _ _ h1 fun c hc o e=>hs₁.extBut _ _ (fun q=>Z.z1 (q ▸ hc)) e
  refine wpAny_bind (D1.item k _ _ _ l1 h1₁ fun x h₂ tk₂ hx h1₂ hs₂=>wpAny_pure ?_)
  replace hs₂:Heap.SameBut i1 h₁ h₂:=hs₂
  have hTO₂:IsPair h₂ TO a b:=hs₂.extBut _ _ Z.TOi1 (hs₁.extBut _ _ Z.TOz hTO)
  refine wpAny_bind (wpAny_seqItems (s:=⟨h₂,g,d,tk₂,os⟩) hTO₂ rfl ?_)
  refine wpAny_bind (wpAny_updateSeq_pair (s:=⟨h₂,g,d,tk₂,os⟩) hTO₂ fun h₃ hTO₃ hs₃=>?_)
  replace hTO₃:IsPair h₃ TO x b:=hTO₃
  replace hs₃:Heap.SameBut TO h₂ h₃:=hs₃
  refine wpAny_bind (wpAny_letGo (wpAny_pure ?_))
  refine wpAny_bind (wpAny_bind (wpAny_onRaise ?_))
  show wpAny _ _ (Builtin.SmallTypes.nextOf (.ref i2) >>= _) _ _ _
  have h2₃:S2 k h₃:=D2.frame _ _ _ h2 fun c hc o e=>hs₃.extBut _ _ (fun q=>Z.o2 (q ▸ hc)) (hs₂.extBut _ _ (fun q=>Z.a2 (q ▸ hc)) (hs₁.extBut _ _ (fun q=>Z.z2 (q ▸ hc)) e))
  refine wpAny_bind (D2.item k _ _ _ l2 h2₃ fun y h₄ tk₄ hy h2₄ hs₄=>wpAny_pure ?_)
  replace hs₄:Heap.SameBut i2 h₃ h₄:=hs₄
  have hTO₄:IsPair h₄ TO x b:=hs₄.extBut _ _ Z.TOi2 hTO₃
  refine wpAny_bind (wpAny_seqItems (s:=⟨h₄,g,d,tk₄,os⟩) hTO₄ rfl ?_)
  refine wpAny_bind (wpAny_updateSeq_pair (s:=⟨h₄,g,d,tk₄,os⟩) hTO₄ fun h₅ hTO₅ hs₅=>?_)
  replace hTO₅:IsPair h₅ TO x y:=hTO₅
  replace hs₅:Heap.SameBut TO h₄ h₅:=hs₅
  refine wpAny_bind (wpAny_letGo (wpAny_pure (wpAny_pure ?_)))
  refine wpAny_bind (wpAny_seqItems (s:=⟨h₅,g,d,tk₄,os⟩) hTO₅ rfl ?_)
  refine wpAny_bind (wpAny_newTuple ?_)
  have hsz:h₅.objs.size=hp.objs.size:=by rw [hs₅.1,hs₄.1,hs₃.1,hs₂.1,hs₁.1]
  have hz₅:IsZip h₅ z TI TO .ellipsis:=hs₅.extBut _ _ Z.TOz.symm (hs₄.extBut _ _ Z.i2z.symm (hs₃.extBut _ _ Z.TOz.symm (hs₂.extBut _ _ Z.i1z.symm hz₁)))
  have hk₅:∀ c o,c≠z→c≠TO→c≠i1→c≠i2→hp.get? c=some o→h₅.get? c=some o:=fun c o c1 c2 c3 c4 e=>
    hs₅.extBut _ _ c2 (hs₄.extBut _ _ c4 (hs₃.extBut _ _ c2 (hs₂.extBut _ _ c3 (hs₁.extBut _ _ c1 e))))
  have h1₅:S1 (k+1) h₅:=D1.frame _ _ _ h1₂ fun c hc o e=>hs₅.extBut _ _ (fun q=>Z.o1 (q ▸ hc)) (hs₄.extBut _ _ (fun q=>Z.a1 (q ▸ hc)) (hs₃.extBut _ _ (fun q=>Z.o1 (q ▸ hc)) e))
  have h2₅:S2 (k+1) h₅:=D2.frame _ _ _ h2₄ fun c hc o e=>hs₅.extBut _ _ (fun q=>Z.o2 (q ▸ hc)) e
  have hzlt:z < h₅.objs.size:=Heap.lt_size hz₅
  show wpAny _ _ (Builtin.SmallTypes.ownedTupleHandOut (.ref z) (.ref h₅.objs.size) >>= _) _ _ _
  refine wpAny_bind ?_
  unfold Builtin.SmallTypes.ownedTupleHandOut
  have hz₆:IsZip (h₅.push { cls:=.type "tuple", data:=.seq #[x,y] }) z TI TO .ellipsis:=Heap.get?_push_of_some _ hz₅
  refine wpAny_bind (wpAny_setField_rec hz₆ (by simp) fun h₇ hz₇ hs₇=>?_)
  replace hz₇:IsZip h₇ z TI TO (rawInt h₅.objs.size):=hz₇
  replace hs₇:Heap.SameBut z (h₅.push { cls:=.type "tuple", data:=.seq #[x,y] }) h₇:=hs₇
  refine wpAny_setField_rec hz₇ (by simp) fun h₈ hz₈ hs₈=>?_
  replace hz₈:IsZip h₈ z TI TO (rawInt h₅.objs.size):=hz₈
  replace hs₈:Heap.SameBut z h₇ h₈:=hs₈
  have up:∀ c o,c≠z→h₅.get? c=some o→h₈.get? c=some o:=fun c o c1 e=>hs₈.extBut _ _ c1 (hs₇.extBut _ _ c1 (Heap.get?_push_of_some _ e))
  have hT₈:IsPair h₈ h₅.objs.size x y:=hs₈.extBut _ _ (Nat.ne_of_gt hzlt) (hs₇.extBut _ _ (Nat.ne_of_gt hzlt) (Heap.get?_push_size _ rfl))
  have hz8:h₈.objs.size=h₅.objs.size+1:=by rw [hs₈.1,hs₇.1,Heap.size_push]
  rw [hsz] at hz₈ hT₈ hz8
  refine wpAny_pure ⟨_,rfl,?_⟩
  show Q (.ref h₅.objs.size) _
  rw [hsz]
  exact hQ x y h₈ tk₄ hx hy hz₈ (up _ _ Z.TOz hTO₅) (D1.frame _ _ _ h1₅ fun c hc o e=>up c o (fun q=>Z.z1 (q ▸ hc)) e) (D2.frame _ _ _ h2₅ fun c hc o e=>up c o (fun q=>Z.z2 (q ▸ hc)) e) hT₈ hz8 fun c o c1 c2 c3 c4 e=>up c o c1 (hk₅ c o c1 c2 c3 c4 e)
theorem zip_next_endD {z TI TO i1 i2:Addr} {fp1 fp2:List Addr} {n1 n2 k:Nat} {P1 P2:Nat→Value→Prop} {S1 S2:Nat→Heap→Prop} {a b:Value} {Q:Fin→Shared→Prop} (Z:ZA z TI TO i1 i2 fp1 fp2)
    (D1:Draws prog w A i1 fp1 n1 P1 S1) (D2:Draws prog w A i2 fp2 n2 P2 S2)
    (hz:IsZip s.heap z TI TO .none) (hTI:IsPair s.heap TI (.ref i1) (.ref i2)) (hTO:IsPair s.heap TO a b) (h1:S1 k s.heap) (h2:S2 k s.heap) (hend:n1=k∨(k < n1∧n2=k))
    (hE:∀ h' e tk,(∀ c o,c≠z→c≠TO→c≠i1→c≠i2→s.heap.get? c=some o→h'.get? c=some o)→(∃ o,h'.get? e=some o∧o.cls=.type "StopIteration")→E (.ref e) { s with heap:=h',toks:=tk }) :
    wpAny (model prog w) A (Builtin.«zip.__next__» ⟨[.ref z],[]⟩) Q E s:=by
  obtain ⟨hp,g,d,tk₀,os⟩:=s
  show wpAny _ _ (field (.ref z) 2 >>= _) _ _ _
  refine wpAny_bind (wpAny_field hz rfl (x:=.bool false) rfl ?_)
  show wpAny _ _ (field (.ref z) 3 >>= _) _ _ _
  refine wpAny_bind (wpAny_field hz rfl (x:=.ref TI) rfl ?_)
  refine wpAny_bind (wpAny_seqItems hTI rfl ?_)
  show wpAny _ _ (Builtin.SmallTypes.ownedTupleIsFree (.ref z) >>= _) _ _ _
  refine wpAny_bind ?_
  unfold Builtin.SmallTypes.ownedTupleIsFree
  refine wpAny_bind (wpAny_field hz rfl (x:=.none) rfl (wpAny_pure ?_))
  simp only [if_true]
  refine wpAny_bind (wpAny_rule ?_)
  refine wpAny_bind (wpAny_field hz rfl (x:=.ref TO) rfl ?_)
  refine wpAny_bind (wpAny_setField_rec hz (by simp) fun h₁ hz₁ hs₁=>?_)
  replace hz₁:IsZip h₁ z TI TO .ellipsis:=hz₁
  replace hs₁:Heap.SameBut z hp h₁:=hs₁
  refine wpAny_bind ?_
  simp only [List.zipIdx_cons,List.zipIdx_nil,List.forIn_cons,List.forIn_nil]
  refine wpAny_bind (wpAny_bind (wpAny_onRaise ?_))
  show wpAny _ _ (Builtin.SmallTypes.nextOf (.ref i1) >>= _) _ _ _
  have h1₁:S1 k h₁:=D1.frame _ _ _ h1 fun c hc o e=>hs₁.extBut _ _ (fun q=>Z.z1 (q ▸ hc)) e
  rcases hend with hn | ⟨l1,hn⟩
  · subst hn
    refine wpAny_bind (D1.done _ _ _ h1₁ fun h₂ e hs₂ he=>?_)
    obtain ⟨oe,hoe,hce⟩:=he
    replace hs₂:Heap.ExtBut i1 h₁ h₂:=hs₂
    have hz₂:IsZip h₂ z TI TO .ellipsis:=hs₂ _ _ Z.i1z.symm hz₁
    have hez:e≠z:=fun x=>by subst x;rw [hz₂] at hoe;cases hoe;simp at hce
    exact wpAny_setField_rec hz₂ (by simp) fun h₃ _ hs₃=>hE h₃ e _ (fun c o c1 _ c3 _ x=>hs₃.extBut _ _ c1 (hs₂ _ _ c3 (hs₁.extBut _ _ c1 x))) ⟨oe,hs₃.extBut _ _ hez hoe,hce⟩
  · subst hn
    refine wpAny_bind (D1.item _ _ _ _ l1 h1₁ fun x h₂ tk₂ hx h1₂ hs₂=>wpAny_pure ?_)
    replace hs₂:Heap.SameBut i1 h₁ h₂:=hs₂
    have hTO₂:IsPair h₂ TO a b:=hs₂.extBut _ _ Z.TOi1 (hs₁.extBut _ _ Z.TOz hTO)
    refine wpAny_bind (wpAny_seqItems (s:=⟨h₂,g,d,tk₂,os⟩) hTO₂ rfl ?_)
    refine wpAny_bind (wpAny_updateSeq_pair (s:=⟨h₂,g,d,tk₂,os⟩) hTO₂ fun h₃ hTO₃ hs₃=>?_)
    replace hs₃:Heap.SameBut TO h₂ h₃:=hs₃
    refine wpAny_bind (wpAny_letGo (wpAny_pure ?_))
    refine wpAny_bind (wpAny_bind (wpAny_onRaise ?_))
    show wpAny _ _ (Builtin.SmallTypes.nextOf (.ref i2) >>= _) _ _ _
    have h2₃:=D2.frame _ _ h₃ h2 fun c hc o e=>hs₃.extBut _ _ (fun q=>Z.o2 (q ▸ hc)) (hs₂.extBut _ _ (fun q=>Z.a2 (q ▸ hc)) (hs₁.extBut _ _ (fun q=>Z.z2 (q ▸ hc)) e))
    refine wpAny_bind (D2.done _ _ _ h2₃ fun h₄ e hs₄ he=>?_)
    obtain ⟨oe,hoe,hce⟩:=he
    replace hs₄:Heap.ExtBut i2 h₃ h₄:=hs₄
    have hz₄:IsZip h₄ z TI TO .ellipsis:=hs₄ _ _ Z.i2z.symm (hs₃.extBut _ _ Z.TOz.symm (hs₂.extBut _ _ Z.i1z.symm hz₁))
    have hez:e≠z:=fun x=>by subst x;rw [hz₄] at hoe;cases hoe;simp at hce
    exact wpAny_setField_rec hz₄ (by simp) fun h₅ _ hs₅=>hE h₅ e _ (fun c o c1 c2 c3 c4 x=>hs₅.extBut _ _ c1 (hs₄ _ _ c4 (hs₃.extBut _ _ c2 (hs₂.extBut _ _ c3 (hs₁.extBut _ _ c1 x))))) ⟨oe,hs₅.extBut _ _ hez hoe,hce⟩
end
def Itz (κ1 κ2:SK):It:=
  ⟨fun i H=>∃ xs ys x y,κ1.has H xs∧κ2.has H ys∧xs[i]?=some x∧ys[i]?=some y,
   fun i H v H'=>∃ p x y,v=.ref p∧H p=none∧H'=upd H p (.tup [x,y])∧(∀ xs,κ1.has H xs→xs[i]?=some x)∧∀ ys,κ2.has H ys→ys[i]?=some y,
   fun i H=>∃ xs ys,κ1.has H xs∧κ2.has H ys∧(xs.length=i∨(i < xs.length∧ys.length=i))⟩
theorem turn_zip {P:Program} {w:World} {K:PySem.W.Frag} {elts:List Expr} {x1:Nat} {tpos:Pos} (κ1 κ2:SK) (z TI TO i1 i2:Addr) (hnd:[z,TI,TO,i1,i2].Nodup) :
    Turn P w K (.Tuple elts x1 tpos) (Itz κ1 κ2) [z,TI,TO,i1,i2] z (fun i h=>IsZip h z TI TO .none∧IsPair h TI (.ref i1) (.ref i2)∧(∃ a b,IsPair h TO a b)∧κ1.own i1 i h∧κ2.own i2 i h) where
  mem:=by simp
  obj:=fun i h st b hb=>by
    obtain ⟨hz,hTI,⟨a,c,hTO⟩,h1,h2⟩:=st
    simp only [List.mem_cons,List.not_mem_nil,or_false] at hb
    rcases hb with rfl | rfl | rfl | rfl | rfl
    · exact ⟨_,hz,fun v y=>by have y':Data.fields _=Data.cell v:=y;cases y'⟩
    · exact ⟨_,hTI,fun v y=>by have y':Data.seq _ _=Data.cell v:=y;cases y'⟩
    · exact ⟨_,hTO,fun v y=>by have y':Data.seq _ _=Data.cell v:=y;cases y'⟩
    · obtain ⟨o,e1,e2,_⟩:=SK.own_obj h1;exact ⟨o,e1,e2⟩
    · obtain ⟨o,e1,e2,_⟩:=SK.own_obj h2;exact ⟨o,e1,e2⟩
  keep:=fun i h h' st k=>by
    obtain ⟨hz,hTI,⟨a,c,hTO⟩,h1,h2⟩:=st
    exact ⟨k z (by simp) _ hz,k TI (by simp) _ hTI,⟨a,c,k TO (by simp) _ hTO⟩,SK.own_at h1 fun o q=>k i1 (by simp) o q,SK.own_at h2 fun o q=>k i2 (by simp) o q⟩
  item:=by
    intro X hP hw hK hc i pins s σ H E I hf st hg
    subst hP hw hK
    obtain ⟨hz,hTI,⟨a,c,hTO⟩,h1,h2⟩:=st
    obtain ⟨xs,ys,x,y,hx,hy,hxi,hyi⟩:=hg
    have l1:i < xs.length:=(List.getElem?_eq_some_iff.mp hxi).1
    have l2:i < ys.length:=(List.getElem?_eq_some_iff.mp hyi).1
    have hh:X.A.in1.handled=none:=I.ok.hd hc
    obtain ⟨P1,S1,D1,s1,r1,w1⟩:=sk_draws (A:=X.A.in1) I hx h1 (hf i1 (by simp)).1 hh
    obtain ⟨P2,S2,D2,s2,r2,w2⟩:=sk_draws (A:=X.A.in1) I hy h2 (hf i2 (by simp)).1 hh
    simp only [List.nodup_cons,List.mem_cons,List.not_mem_nil,or_false,not_or] at hnd
    obtain ⟨⟨n1,n2,n3,n4⟩,⟨n5,n6,n7⟩,⟨n8,n9⟩,n10,_⟩:=hnd
    have nb:∀ {κ:SK} {zs:List V} {b it:Addr},κ.has H zs→H b=none→b≠it→b ∉ it :: κ.box:=fun {κ zs b it} hκ hb hne q=>by
      rcases List.mem_cons.mp q with q | q
      · exact hne q
      · exact SK.box_some hκ q hb
    have Z:ZA z TI TO i1 i2 (i1 :: κ1.box) (i2 :: κ2.box):=
      { TIz:=Ne.symm n1,TOz:=Ne.symm n2,i1z:=Ne.symm n3,i2z:=Ne.symm n4,TITO:=n5,TIi1:=n6,TIi2:=n7,TOi1:=n8,TOi2:=n9,i12:=n10
        z1:=nb hx (hf z (by simp)).1 n3,z2:=nb hy (hf z (by simp)).1 n4,o1:=nb hx (hf TO (by simp)).1 n8,o2:=nb hy (hf TO (by simp)).1 n9,a1:=nb hx (hf i2 (by simp)).1 (Ne.symm n10),a2:=nb hy (hf i1 (by simp)).1 n10 }
    have hT:s.TypeIs (.ref z) "zip" := ⟨_,hz,rfl⟩
    unfold pyNext
    refine wpAny_bind (wpAny_attempt (wpAny_callSpecial?_slot (name:=Str.ofString "__next__") hT F.slot_zip_next
      (wpAny_call_entry F.slot_zip_next hT F.entry_zip_next
        (zip_next_itemD Z D1 D2 hz hTI hTO s1 s2 l1 l2 fun u v h' tk hu hv hz' hTO' s1' s2' hT' hsz hk=>wpAny_pure ⟨_,rfl,?_⟩) (F.args_zip_next_1 _))))
    refine wpAny_letOwnedTupleGo_zip hz' fun h'' hz'' hs''=>?_
    obtain ⟨x',hx',rx⟩:=r1 i u hu
    obtain ⟨y',hy',ry⟩:=r2 i v hv
    have ex:x'=x:=Option.some.inj (hx'.symm.trans hxi)
    have ey:y'=y:=Option.some.inj (hy'.symm.trans hyi)
    subst ex ey
    have kk:∀ b ob,b ∉ [z,TI,TO,i1,i2]→s.heap.get? b=some ob→h''.get? b=some ob:=fun b ob hb q=>
      (hs''.2 b (fun e=>hb (by simp [e]))).trans (hk b ob (fun e=>hb (by simp [e])) (fun e=>hb (by simp [e])) (fun e=>hb (by simp [e])) (fun e=>hb (by simp [e])) q)
    have ne:s.heap.objs.size≠z:=Nat.ne_of_gt (Heap.lt_size hz)
    have hT'':h''.get? s.heap.objs.size=some { cls:=.type "tuple", data:=.seq #[u,v] }:=(hs''.2 _ ne).trans hT'
    refine ⟨.ref s.heap.objs.size,upd H s.heap.objs.size (.tup [x',y']),I.turnedNew (tk:=tk) hf kk (Nat.le_refl _) ⟨⟨(by show 2≤sizeLine;decide),_,hT'',rfl⟩,[u,v],.cons rx (.cons ry .nil),_,hT'',rfl,0,rfl⟩,rfl,
      ⟨_,x',y',rfl,I.hok.fresh (Nat.le_refl _),rfl,fun zs hzs=>by rw [SK.inj hzs hx];exact hxi,fun zs hzs=>by rw [SK.inj hzs hy];exact hyi⟩,
      ⟨hz'',hs''.extBut _ _ (Ne.symm n1) (hk _ _ (Ne.symm n1) n5 n6 n7 hTI),⟨_,_,hs''.extBut _ _ (Ne.symm n2) hTO'⟩,SK.own_at (w1 _ _ s1') fun o q=>(hs''.2 i1 (Ne.symm n3)).trans q,SK.own_at (w2 _ _ s2') fun o q=>(hs''.2 i2 (Ne.symm n4)).trans q⟩,fun b hb=>?_⟩
    have hob:∃ o,s.heap.get? b=some o:=by
      simp only [List.mem_cons,List.not_mem_nil,or_false] at hb
      rcases hb with rfl | rfl | rfl | rfl | rfl
      · exact ⟨_,hz⟩
      · exact ⟨_,hTI⟩
      · exact ⟨_,hTO⟩
      · obtain ⟨o,e1,_⟩:=SK.own_obj h1;exact ⟨o,e1⟩
      · obtain ⟨o,e1,_⟩:=SK.own_obj h2;exact ⟨o,e1⟩
    obtain ⟨o,hob⟩:=hob
    rw [upd_ne (Nat.ne_of_lt (Heap.lt_size hob))]
    exact (hf b hb).1
  done:=by
    intro X hP hw hK hc i pins s σ H E I hf st hg
    subst hP hw hK
    obtain ⟨hz,hTI,⟨a,c,hTO⟩,h1,h2⟩:=st
    obtain ⟨xs,ys,hx,hy,hend⟩:=hg
    have hh:X.A.in1.handled=none:=I.ok.hd hc
    obtain ⟨P1,S1,D1,s1,r1,w1⟩:=sk_draws (A:=X.A.in1) I hx h1 (hf i1 (by simp)).1 hh
    obtain ⟨P2,S2,D2,s2,r2,w2⟩:=sk_draws (A:=X.A.in1) I hy h2 (hf i2 (by simp)).1 hh
    simp only [List.nodup_cons,List.mem_cons,List.not_mem_nil,or_false,not_or] at hnd
    obtain ⟨⟨n1,n2,n3,n4⟩,⟨n5,n6,n7⟩,⟨n8,n9⟩,n10,_⟩:=hnd
    have nb:∀ {κ:SK} {zs:List V} {b it:Addr},κ.has H zs→H b=none→b≠it→b ∉ it :: κ.box:=fun {κ zs b it} hκ hb hne q=>by
      rcases List.mem_cons.mp q with q | q
      · exact hne q
      · exact SK.box_some hκ q hb
    have Z:ZA z TI TO i1 i2 (i1 :: κ1.box) (i2 :: κ2.box):=
      { TIz:=Ne.symm n1,TOz:=Ne.symm n2,i1z:=Ne.symm n3,i2z:=Ne.symm n4,TITO:=n5,TIi1:=n6,TIi2:=n7,TOi1:=n8,TOi2:=n9,i12:=n10
        z1:=nb hx (hf z (by simp)).1 n3,z2:=nb hy (hf z (by simp)).1 n4,o1:=nb hx (hf TO (by simp)).1 n8,o2:=nb hy (hf TO (by simp)).1 n9,a1:=nb hx (hf i2 (by simp)).1 (Ne.symm n10),a2:=nb hy (hf i1 (by simp)).1 n10 }
    have hT:s.TypeIs (.ref z) "zip" := ⟨_,hz,rfl⟩
    unfold pyNext
    refine wpAny_bind (wpAny_attempt (wpAny_callSpecial?_slot (name:=Str.ofString "__next__") hT F.slot_zip_next
      (wpAny_call_entry F.slot_zip_next hT F.entry_zip_next (zip_next_endD Z D1 D2 hz hTI hTO s1 s2 hend fun h' e tk hk he=>?_) (F.args_zip_next_1 _))))
    obtain ⟨o,ho,hcl⟩:=he
    refine wpAny_bind (wpAny_isInstance (T := "StopIteration") (b:=true) ⟨o,ho,hcl⟩ isSubtype_stop ?_)
    exact wpAny_pure ⟨rfl,I.turnedMany hf fun b ob hb q=>hk b ob (fun e=>hb (by simp [e])) (fun e=>hb (by simp [e])) (fun e=>hb (by simp [e])) (fun e=>hb (by simp [e])) q⟩
  self:=fun _ _ _ _ _ st h=>wpAny_pyIter_zip st.1 h
def itObj (v:Value):SK→Obj
  | .lst _=>{ cls:=.type "list_iterator", data:=.fields #[v,.int 0 0] }
  | .tup _=>{ cls:=.type "tuple_iterator", data:=.fields #[v,.int 0 0] }
  | .str x=>{ cls:=.type (strIterType x),data:=.fields #[v,.int 0 0] }
theorem itObj_live (v:Value) (κ:SK):(itObj v κ).isFreed=false:=by cases κ <;> rfl
def Iters (h:Heap) (v:Value) (o:Obj):Prop:=∀ (prog:Program) (w:World) (A:Around) (E:Value→Shared→Prop) (s:Shared) (Q:Value→Shared→Prop),(∀ b ob,h.get? b=some ob→s.heap.get? b=some ob)→Q (.ref s.heap.objs.size) { s with heap:=s.heap.push o }→wpAny (model prog w) A (pyIter v) Q E s
theorem sk_iters {X:Cx} {pins:List (Addr × Obj)} {σ:St} {H:Hp} {s:Shared} {κ:SK} {xs:List V} {u:Value} (I:Inv X pins σ H s) (hv:κ.has H xs) (r:RelV κ.val u):Iters s.heap u (itObj u κ):=by
  intro prog w A E s' Q k h
  cases κ with
  | lst a=>
    cases (show u=Value.ref a from r)
    obtain ⟨_,its,n,rr,e⟩:=Rd.ok hv I.hok
    exact wpAny_pyIter_list (items:=its.toArray) ⟨_,k _ _ e,rfl,n,rfl⟩ h
  | tup a=>
    cases (show u=Value.ref a from r)
    obtain ⟨_,its,rr,o,e,c⟩:=Rd.ok hv I.hok
    exact wpAny_pyIter_tuple (items:=its.toArray) ⟨o,k _ _ e,c⟩ h
  | str x=>
    obtain ⟨t,q⟩:=(show ∃ t,u=Value.str x t from r)
    subst q
    exact wpAny_pyIter_strU h
theorem sk_own0 {κ:SK} {u:Value} {h h':Heap} {it:Addr} (r:RelV κ.val u) (e:h.get? it=some (itObj u κ)):κ.own it 0 h:=by
  cases κ with
  | lst a=>cases (show u=Value.ref a from r);exact ⟨_,e,rfl,rfl⟩
  | tup a=>cases (show u=Value.ref a from r);exact ⟨_,e,rfl,rfl⟩
  | str x=>obtain ⟨t,q⟩:=(show ∃ t,u=Value.str x t from r);subst q;exact ⟨t,_,e,rfl,rfl⟩
abbrev zH1 (h:Heap) (o1:Obj):Heap:=h.push o1
abbrev zH2 (h:Heap) (o1 o2:Obj):Heap:=(zH1 h o1).push o2
abbrev zH3 (h:Heap) (o1 o2:Obj):Heap:=(zH2 h o1 o2).push { cls:=.type "tuple", data:=.seq #[.ref h.objs.size,.ref (zH1 h o1).objs.size] }
abbrev zH4 (h:Heap) (o1 o2:Obj):Heap:=(zH3 h o1 o2).push { cls:=.type "tuple", data:=.seq #[.none,.none] }
abbrev zH5 (h:Heap) (o1 o2:Obj):Heap:=(zH4 h o1 o2).push { cls:=.type "zip", data:=.fields #[.none,.bool false,.bool false,.ref (zH2 h o1 o2).objs.size,.ref (zH3 h o1 o2).objs.size] }
set_option maxHeartbeats 4000000 in
theorem meets_zipG (v1 v2:Value) (o1 o2:Obj) :
    Meets (Builtin.«zip.__new__» ⟨[.type "zip", v1,v2],[]⟩) (fun _ R s=>Iters s.heap v1 o1∧Iters s.heap v2 o2 ∧
      R (.ok (.ret (.ref (zH4 s.heap o1 o2).objs.size))) { s with heap:=zH5 s.heap o1 o2 }):=
  .of_wp fun prog w A R s h=>by
    obtain ⟨hp,g,d,tk,os⟩:=s;obtain ⟨hl1,hl2,h⟩:=h
    have hsub:=sub_zip
    have g1:∀ (A:Around) (E:Value→Shared→Prop) (Q:Value→Shared→Prop),Q (.ref hp.objs.size) ⟨hp.push o1,g,d,tk,os⟩→wpAny (model prog w) A (pyIter v1) Q E ⟨hp,g,d,tk,os⟩:=fun A E Q q=>hl1 prog w A E ⟨hp,g,d,tk,os⟩ Q (fun _ _ e=>e) q
    have g2:∀ (A:Around) (E:Value→Shared→Prop) (Q:Value→Shared→Prop),Q (.ref (hp.push o1).objs.size) ⟨(hp.push o1).push o2,g,d,tk,os⟩→wpAny (model prog w) A (pyIter v2) Q E ⟨hp.push o1,g,d,tk,os⟩:=fun A E Q q=>hl2 prog w A E ⟨hp.push o1,g,d,tk,os⟩ Q (fun _ _ e=>Heap.get?_push_of_some _ e) q
    wp_walk using g1 _ _ _,g2 _ _ _
    exact ⟨_,rfl,h⟩
theorem call_zipG {prog:Program} {w:World} {A:Around} {E:Value→Shared→Prop} {s:Shared} {v1 v2:Value} {o1 o2:Obj} {Q:Value→Shared→Prop} (f1:o1.isFreed=false) (f2:o2.isFreed=false) (hl1:Iters s.heap v1 o1) (hl2:Iters s.heap v2 o2)
    (h:∀ h',IsZip h' (s.heap.objs.size+4) (s.heap.objs.size+2) (s.heap.objs.size+3) .none→IsPair h' (s.heap.objs.size+2) (.ref s.heap.objs.size) (.ref (s.heap.objs.size+1)) →
      IsPair h' (s.heap.objs.size+3) .none .none→h'.get? s.heap.objs.size=some o1→h'.get? (s.heap.objs.size+1)=some o2 →
      (∀ c o,s.heap.get? c=some o→h'.get? c=some o)→Q (.ref (s.heap.objs.size+4)) { s with heap:=h' }) :
    wpAny (model prog w) A (call (.type "zip") [v1,v2]) Q E s:=by
  refine callType_new F.called_zip (by decide) (F.typeCall_zip_2 _ _) (F.newCall_zip_2 _ _) (fun obj=>F.args_object_init_3 obj _ _) F.entry_zip_new
    (meets_zipG v1 v2 o1 o2) ⟨hl1,hl2,?_⟩
  have z1:(zH1 s.heap o1).objs.size=s.heap.objs.size+1:=Heap.size_push ..
  have z2:(zH2 s.heap o1 o2).objs.size=s.heap.objs.size+2:=by rw [Heap.size_push,z1]
  have z3:(zH3 s.heap o1 o2).objs.size=s.heap.objs.size+3:=by rw [Heap.size_push,z2]
  have z4:(zH4 s.heap o1 o2).objs.size=s.heap.objs.size+4:=by rw [Heap.size_push,z3]
  have g5:(zH5 s.heap o1 o2).get? (zH4 s.heap o1 o2).objs.size=some _:=Heap.get?_push_size _ rfl
  have g4:(zH5 s.heap o1 o2).get? (zH3 s.heap o1 o2).objs.size=some _:=Heap.get?_push_of_some _ (Heap.get?_push_size _ rfl)
  have g3:(zH5 s.heap o1 o2).get? (zH2 s.heap o1 o2).objs.size=some _:=Heap.get?_push_of_some _ (Heap.get?_push_of_some _ (Heap.get?_push_size _ rfl))
  have g2:(zH5 s.heap o1 o2).get? (zH1 s.heap o1).objs.size=some _:=Heap.get?_push_of_some _ (Heap.get?_push_of_some _ (Heap.get?_push_of_some _ (Heap.get?_push_size _ f2)))
  have g1:(zH5 s.heap o1 o2).get? s.heap.objs.size=some _:=Heap.get?_push_of_some _ (Heap.get?_push_of_some _ (Heap.get?_push_of_some _ (Heap.get?_push_of_some _ (Heap.get?_push_size _ f1))))
  show _∧_
  rw [z2,z3,z4] at g5
  rw [z1,z2] at g3
  rw [z3] at g4
  rw [z1] at g2
  rw [z4]
  exact ⟨⟨_,g5,rfl⟩,h _ g5 g3 g4 g1 g2 fun c o x=>
    Heap.get?_push_of_some _ (Heap.get?_push_of_some _ (Heap.get?_push_of_some _ (Heap.get?_push_of_some _ (Heap.get?_push_of_some _ x))))⟩
section
variable {X:Cx}
def iZip (ta:TA):TI:=fun σ H R=>ta σ H fun vs H1=>∃ κ1 κ2:SK,vs=[κ1.val,κ2.val]∧(∃ xs,κ1.has H1 xs)∧(∃ ys,κ2.has H1 ys)∧R (Itz κ1 κ2) H1
theorem pi_zip {a b:Expr} {ta:TA} {p pos:Pos} {elts:List Expr} {x1:Nat} {tpos:Pos} (hg:Gl X "zip") (hm:X.mg "zip" = none) (ha:PA X [a,b] ta)
    (hs:starEach [a,b] X.env=[(false,eval a X.env),(false,eval b X.env)]:=by rfl) (hs2:starEach [b] X.env=[(false,eval b X.env)]:=by rfl):PI X (.Tuple elts x1 tpos) (.Call (.Name "zip" p) [a,b] [] pos) (iZip ta):=by
  intro pins s σ H R I h
  refine Call_ (ld_blt I hg hm boot_zip (PyProof.Rows.callWith_type1 (thn (ha pos pins s σ H _ I h) fun us s1 ⟨vs,H1,I1,r1,q1⟩=>?_) (by rw [hs,hs2]) (by rw [hs2];rfl)))
  obtain ⟨κ1,κ2,e,⟨xs,hx⟩,⟨ys,hy⟩,q⟩:=q1
  subst e
  obtain ⟨u,v,rfl,ru,rv⟩:=vals2 r1
  refine call_zipG (itObj_live u κ1) (itObj_live v κ2) (sk_iters I1 hx ru) (sk_iters I1 hy rv) fun h' hz hTI hTO h1 h2 hk=>?_
  refine wpAny_pyIter_zip hz ⟨s1.heap.objs.size+4,[s1.heap.objs.size+4,s1.heap.objs.size+2,s1.heap.objs.size+3,s1.heap.objs.size,s1.heap.objs.size+1],_,_,H1,rfl,I1.kept (t':=s1.toks) hk,
    turn_zip κ1 κ2 _ _ _ _ _ (by simp),⟨hz,hTI,⟨_,_,hTO⟩,sk_own0 (h':=h') ru h1,sk_own0 (h':=h') rv h2⟩,fun b hb=>?_,q⟩
  have hge:s1.heap.objs.size≤b:=by
    simp only [List.mem_cons,List.not_mem_nil,or_false] at hb
    rcases hb with rfl | rfl | rfl | rfl | rfl <;> first | exact Nat.le_add_right _ _ | exact Nat.le_refl _
  exact I1.fpOk hge (I1.hok.fresh hge)
end
theorem for_zip {κ1 κ2:SK} {xs ys:List V} {g:TG} {tb:TS} {D:Ends} {σ:St} {H:Hp} (Pv:Nat→St→Hp→Prop) (h0:Pv 0 σ H) (hlen:xs.length=ys.length) (hl:∀ i σ H,i≤xs.length→Pv i σ H→κ1.has H xs∧κ2.has H ys)
    (hs:∀ i x y σ H p,xs[i]?=some x→ys[i]?=some y→Pv i σ H→H p=none→g (.ref p) σ (upd H p (.tup [x,y])) fun σ2 H2=>tb { D with nx:=Pv (i+1),ct:=Pv (i+1),bk:=D.nx } σ2 H2) (hd:∀ σ H,Pv xs.length σ H→D.nx σ H) :
    ∃ W:Nat→Nat→St→Hp→Prop,(∃ m,W 0 m σ H)∧∀ i m σ H,W i m σ H →
      ((Itz κ1 κ2).stop i H∧D.nx σ H)∨((Itz κ1 κ2).go i H∧∃ N:St→Hp→Prop,(∀ σ' H',N σ' H'→∃ m',m' < m∧W (i+1) m' σ' H')∧∀ x H',(Itz κ1 κ2).yld i H x H'→g x σ H' fun σ2 H2=>tb { D with nx:=N,ct:=N,bk:=D.nx } σ2 H2):=by
  refine ⟨fun i m σ H=>i≤xs.length∧m=xs.length - i∧Pv i σ H,⟨xs.length,Nat.zero_le _,rfl,h0⟩,fun i m σ H ⟨hi,hm,hp⟩=>?_⟩
  obtain ⟨a1,a2⟩:=hl i σ H hi hp
  rcases Nat.lt_or_ge i xs.length with lt | ge
  · have lt2:i < ys.length:=by omega
    refine .inr ⟨⟨xs,ys,xs[i],ys[i],a1,a2,List.getElem?_eq_getElem lt,List.getElem?_eq_getElem lt2⟩,Pv (i+1),fun σ' H' hn=>⟨xs.length - (i+1),by omega,by omega,rfl,hn⟩,fun x H' hy=>?_⟩
    obtain ⟨p,x',y',rfl,hpn,rfl,e1,e2⟩:=hy
    exact hs i x' y' σ H p (e1 xs a1) (e2 ys a2) hp hpn
  · have e:i=xs.length:=by omega
    subst e
    exact .inl ⟨⟨xs,ys,a1,a2,.inl rfl⟩,hd σ H hp⟩
theorem for_enum {κ:SK} {xs:List V} {g:TG} {tb:TS} {D:Ends} {σ:St} {H:Hp} (Pv:Nat→St→Hp→Prop) (h0:Pv 0 σ H) (hl:∀ i σ H,i≤xs.length→Pv i σ H→κ.has H xs)
    (hs:∀ (i:Nat) x σ H p,xs[i]?=some x→Pv i σ H→H p=none→g (.ref p) σ (upd H p (.tup [.int i,x])) fun σ2 H2=>tb { D with nx:=Pv (i+1),ct:=Pv (i+1),bk:=D.nx } σ2 H2) (hd:∀ σ H,Pv xs.length σ H→D.nx σ H) :
    ∃ W:Nat→Nat→St→Hp→Prop,(∃ m,W 0 m σ H)∧∀ i m σ H,W i m σ H →
      ((Ite κ).stop i H∧D.nx σ H)∨((Ite κ).go i H∧∃ N:St→Hp→Prop,(∀ σ' H',N σ' H'→∃ m',m' < m∧W (i+1) m' σ' H')∧∀ x H',(Ite κ).yld i H x H'→g x σ H' fun σ2 H2=>tb { D with nx:=N,ct:=N,bk:=D.nx } σ2 H2):=by
  refine ⟨fun i m σ H=>i≤xs.length∧m=xs.length - i∧Pv i σ H,⟨xs.length,Nat.zero_le _,rfl,h0⟩,fun i m σ H ⟨hi,hm,hp⟩=>?_⟩
  have a1:=hl i σ H hi hp
  rcases Nat.lt_or_ge i xs.length with lt | ge
  · refine .inr ⟨⟨xs,xs[i],a1,List.getElem?_eq_getElem lt⟩,Pv (i+1),fun σ' H' hn=>⟨xs.length - (i+1),by omega,by omega,rfl,hn⟩,fun x H' hy=>?_⟩
    obtain ⟨p,x',rfl,hpn,rfl,e1⟩:=hy
    exact hs i x' σ H p (e1 xs a1) hp hpn
  · have e:i=xs.length:=by omega
    subst e
    exact .inl ⟨⟨xs,a1,rfl⟩,hd σ H hp⟩
def cutS (z:Str) (lo hi:Option Int):Str:=⟨((z.cps.toList.drop (HT.sIx z.length 0 lo)).take (HT.sIx z.length z.length hi - HT.sIx z.length 0 lo)).toArray⟩
theorem clip_s (i:Int) (n d:Nat):max 0 (min (if i < 0 then i+(n:Int) else i) (n:Int))=((HT.sIx n d (some i):Nat):Int):=by
  simp only [HT.sIx]
  split
  · omega
  · omega
theorem range_cut (a b:Nat):sliceRange (a:Int) (b:Int) 1=(List.range (b - a)).map fun k=>a+k:=by
  unfold sliceRange
  simp only [show ((1:Int) > 0)=True from by simp,if_true]
  by_cases hlt:(a:Int) < b
  · have e3:(((b:Int) - a+1 - 1) / 1).toNat=b - a:=by
      rw [Int.ediv_one];omega
    simp only [hlt,if_true,e3]
    refine List.map_congr_left fun k _=>?_
    omega
  · have:b - a=0:=by omega
    simp [hlt,this]
theorem sliceIdx_cut (lo hi:Option Int) (n:Nat):Builtin.Str.strSliceIndices lo hi 1 n=(List.range (HT.sIx n n hi - HT.sIx n 0 lo)).map fun k=>HT.sIx n 0 lo+k:=by
  unfold Builtin.Str.strSliceIndices
  simp only [show ((1:Int) > 0)=True from by simp,if_true]
  cases lo with
  | none=>
    cases hi with
    | none=>exact range_cut 0 n
    | some j=>dsimp only;rw [clip_s j n n];exact range_cut 0 _
  | some i=>
    cases hi with
    | none=>dsimp only;rw [clip_s i n 0];exact range_cut _ n
    | some j=>dsimp only;rw [clip_s i n 0,clip_s j n n];exact range_cut _ _
theorem slice_text (z:Str) (t:Tok) (l u:Option (Int × Tok)):∀ (Q:Value→Shared→Prop) (s:Shared),z.length≤sizeLine→(∀ t' s',s'.heap=s.heap→s'.gens=s.gens→s'.drawn=s.drawn→s'.os=s.os→Q (.str (cutS z (l.map (·.1)) (u.map (·.1))) t') s')→(sliceMade z t l u none).post Q s:=by
  intro Q s hz h
  have hidx:=sliceIdx_cut (l.map (·.1)) (u.map (·.1)) z.length
  have hle:HT.sIx z.length z.length (u.map (·.1))≤z.length:=HT.sIx_le _ _ (Nat.le_refl _) _
  have hlo:HT.sIx z.length 0 (l.map (·.1))≤z.length:=HT.sIx_le _ _ (Nat.zero_le _) _
  have hzl:z.length=z.cps.toList.length:=by simp [Str.length]
  have cut:((slicePicked z l u none).filterMap (z.cps[·]?))=(z.cps.toList.drop (HT.sIx z.length 0 (l.map (·.1)))).take (HT.sIx z.length z.length (u.map (·.1)) - HT.sIx z.length 0 (l.map (·.1))):=by
    have p:=StrLaws.picks z.cps.toList (HT.sIx z.length z.length (u.map (·.1)) - HT.sIx z.length 0 (l.map (·.1))) (HT.sIx z.length 0 (l.map (·.1))) (by omega)
    rw [← p]
    unfold slicePicked
    simp only [Option.map_none,Option.getD_none]
    rw [hidx]
    congr 1
    funext k
    simp
  unfold sliceMade
  split
  · rename_i c
    have whole:cutS z (l.map (·.1)) (u.map (·.1))=z:=by
      unfold cutS
      have e:(slicePicked z l u none).length=z.length:=by
        simp only [Bool.and_eq_true,beq_iff_eq] at c
        exact c.2
      have e':HT.sIx z.length z.length (u.map (·.1)) - HT.sIx z.length 0 (l.map (·.1))=z.length:=by
        unfold slicePicked at e
        simp only [Option.map_none,Option.getD_none] at e
        rw [hidx] at e
        simpa using e
      have e0:HT.sIx z.length 0 (l.map (·.1))=0:=by omega
      rw [e',e0,List.drop_zero,hzl,List.take_length]
    have:=h t s rfl rfl rfl rfl
    rw [whole] at this
    exact this
  · rw [cut]
    have hl':(⟨((z.cps.toList.drop (HT.sIx z.length 0 (l.map (·.1)))).take (HT.sIx z.length z.length (u.map (·.1)) - HT.sIx z.length 0 (l.map (·.1)))).toArray⟩:Str).length≤sizeLine:=by
      have:(⟨((z.cps.toList.drop (HT.sIx z.length 0 (l.map (·.1)))).take (HT.sIx z.length z.length (u.map (·.1)) - HT.sIx z.length 0 (l.map (·.1)))).toArray⟩:Str).length≤z.length:=by
        simp only [Str.length,List.size_toArray,List.length_take,List.length_drop]
        have:z.cps.size=z.length:=rfl
        omega
      omega
    first
      | exact ⟨hl',h _ _ rfl rfl rfl rfl⟩
      | exact h _ _ rfl rfl rfl rfl
def rSlS:V→Option Int→Option Int→Hp→VK→Prop:=fun x lo hi H Q=>∃ z,x=.str z∧z.length≤sizeLine∧Q (.str (cutS z lo hi)) H
theorem sl_str {X:Cx}:SlR X rSlS:=by
  intro pins s σ H x v vl vu lo hi sl Q I rx hs pl pu h
  obtain ⟨z,rfl,hz,q⟩:=h
  obtain ⟨t,rfl⟩:=rx
  refine ⟨"str", _,F.slot_str_getitem.lookup,typeIs_str s z t,?_⟩
  have part:∀ {v:Value} {o:Option Int},IsPart v o→∃ p:Option (Int × Tok),v=partValue p∧p.map (·.1)=o:=fun {v o} p=>by
    cases p with
    | none=>exact ⟨none,rfl,rfl⟩
    | int i t=>exact ⟨some (i,t),rfl,rfl⟩
  obtain ⟨l,rfl,rfl⟩:=part pl
  obtain ⟨u,rfl,rfl⟩:=part pu
  refine wpAny_getItem_str_slice (l:=l) (u:=u) (st:=none) hs rfl (slice_text z t l u _ s hz fun t' s' e1 e2 e3 e4=>⟨.str _,H,?_,⟨t',rfl⟩,q⟩)
  obtain ⟨hp,g,d,tk,os⟩:=s'
  cases e1;cases e2;cases e3;cases e4
  exact I.tok tk
theorem call_isinst {X:Cx}:CallR X (.builtin "isinstance") (fun vs H Q=>∃ x t T b,vs=[x,.ty T]∧TyOf X.K H x t∧PySem.W.kitOne X.K t (.type T)=some b∧Q (.bl b) H):=by
  intro pins s σ H xs us Q I r h
  obtain ⟨x,t,T,b,rfl,ty,e,q⟩:=h
  obtain ⟨u,v,rfl,ru,rv⟩:=vals2 r
  cases (show v=Value.type T from rv)
  exact isinst_ok I ru ty e fun tk=>⟨.bl b,H,I.tok tk,rfl,q⟩
end L2
namespace L2
open PySem PySem.Spec PyProof.Rows
theorem csc {X:Cx} {scope:Scope} {NL:List Str} {ix:List Nat} (esc:Scope) (N:List Str) (h1:X.env.scope=esc:=by rfl) (h2:X.N=N:=by rfl) (c1:scope.kind=.function:=by rfl)
    (c2:∀ y∈scope.names,y.2≠.cell:=by decide +kernel) (c3:∀ y∈scope.names,y.2=.local→scope.names.lookup y.1=some .local:=by decide +kernel)
    (c4:∀ y∈scope.names,y.2=.free→esc.names.lookup y.1=some .cell∨esc.names.lookup y.1=some .free:=by decide +kernel)
    (c5:∀ j∈ix,(N[j]?).bind (fun x=>scope.names.lookup x)=some .free:=by decide +kernel):CompScope X scope NL ix where
  kind:=c1
  cell:=c2
  names:=c3
  free:=fun y hy hf=>by
    have:=c4 y hy hf
    rw [← h1] at this
    exact this
  cap:=fun j hj=>by
    have:=c5 j hj
    rw [h2]
    cases e:N[j]? with
    | none=>rw [e] at this;cases this
    | some x=>rw [e] at this;exact ⟨x,rfl,this⟩
def Has (P:Program) (w:World) (K:PySem.W.Frag) (mg:Str→Option Value) (base:Heap) (x:Str) (k:Nat) (ps:List Str) (sp:Sp):Prop:=
  ∃ f fd,FnOk P w K mg base CX0 k f fd ps sp∧Binds K fd ps []∧PySem.W.keepIn K (.ref f)=true∧mg x=some (.ref f)
section
variable {P:Program} {w:World} {K:PySem.W.Frag} {mg:Str→Option Value} {base:Heap}
theorem Has.mono {x:Str} {j k:Nat} {ps:List Str} {sp:Sp} (G:Has P w K mg base x j ps sp) (h:j≤k):Has P w K mg base x k ps sp:=
  let ⟨f,fd,F,r⟩:=G;⟨f,fd,F.mono h,r⟩
def Df (K:PySem.W.Frag) (mg:Str→Option Value) (x:Str) (st:Stmt):Prop:=∃ f fd,Fun K x x st f fd∧mg x=some (.ref f)
theorem Df.has {x:Str} {st:Stmt} {N ps:List Str} {k:Nat} {sp:Sp} (D:Df K mg x st) (S:FnScope N ps (defScope st))
    (hb:∀ (kV doc pm:Value) (an:Option Addr) (cdv ct:Value) (us:List Value),us.length=ps.length→bindArgs (PySem.W.fnOf x x (defArgs st) (defBody st) (defScope st) .none kV doc pm an cdv ct) ⟨us,[]⟩=pure (ps.zip us))
    (len:∀ vs H Q E,sp vs H Q E→vs.length=ps.length)
    (hbody:∀ (f:Addr) (cdv:Value) (A:Around) (outer:List Env) (s:Shared) (H:Hp) (vs:List V) (Q:VK) (E:XK),Room k (A.deeper (envOfC x (defScope st) s.heap.objs.size f cdv))→sp vs H Q E →
      ∃ t,PSs (cxOf CX0 P w K mg base N x (defScope st) f cdv A outer s H E).nox (defBody st) t∧t { nx:=fun _ H'=>Q .non H',rt:=Q } (start N vs) H):Has P w K mg base x (k+1) ps sp:=by
  obtain ⟨f,fd,F,m⟩:=D
  exact ⟨f,fd,F.ok S len fun cdv A outer s H vs Q E hr h=>hbody f cdv A outer s H vs Q E hr h,F.binds hb,F.kp,m⟩
end
theorem pe_callH {X:Cx} {x:Str} {k:Nat} {ps:List Str} {sp:Sp} {p pos:Pos} {e:Expr} {es:List Expr} {t:TA} (G:Has X.prog X.w X.K X.mg X.base x k ps sp) (hr:Room k X.A) (hg:Gl X x) (ha:PA X (e :: es) t)
    (hdb:(x == ("__debug__" : Str))=false:=by decide) (he:starEach (e :: es) X.env=(false,eval e X.env) :: starEach es X.env:=by rfl) (hpl:(backTo pos (starEach es X.env)).any (·.1)=false:=by rfl) :
    PE X (.Call (.Name x p) (e :: es) [] pos) (tCall sp [] E0 t):=by
  obtain ⟨f,fd,F,b,kp,m⟩:=G
  exact pe_call F hr hg m kp b .nil pass0 ha hdb he hpl
structure Blt (mg:Str→Option Value):Prop where
  len:mg "len" = none
  range:mg "range" = none
  zip:mg "zip" = none
  enumerate:mg "enumerate" = none
  max:mg "max" = none
  min:mg "min" = none
  int_:mg "int" = none
  str_:mg "str" = none
  bool_:mg "bool" = none
  list_:mg "list" = none
  tuple_:mg "tuple" = none
  isinstance:mg "isinstance" = none
section
variable {p q:Addr} {H H1 H2:Hp} {o:HO}
end
theorem bt_len:bootBuiltins "len" = some (.builtin "len"):=by decide +kernel
theorem bt_min:bootBuiltins "min" = some (.builtin "min"):=by decide +kernel
theorem bt_all:bootBuiltins "all" = some (.builtin "all"):=by decide +kernel
theorem bt_sorted:bootBuiltins "sorted" = some (.builtin "sorted"):=by decide +kernel
theorem bt_isinstance:bootBuiltins "isinstance" = some (.builtin "isinstance"):=by decide +kernel
theorem bt_int:bootBuiltins "int" = some (.type "int"):=by decide +kernel
theorem bt_str:bootBuiltins "str" = some (.type "str"):=by decide +kernel
theorem bt_bool:bootBuiltins "bool" = some (.type "bool"):=by decide +kernel
theorem bt_tuple:bootBuiltins "tuple" = some (.type "tuple"):=by decide +kernel
theorem Same.new {H0 H:Hp} {q:Addr} {o:HO} (h:Same H0 H) (hq:H q=none):Same H0 (upd H q o):=fun b u e=>by
  have:=h b u e
  rw [upd_ne (ne_of_none this hq)];exact this
theorem Same.write {H0 H:Hp} {q:Addr} {o:HO} (h:Same H0 H) (hq:H0 q=none):Same H0 (upd H q o):=fun b u e=>by
  rw [upd_ne (ne_of_none e hq)];exact h b u e
theorem app_list (a y:Str):(a++y).cps.toList=a.cps.toList++y.cps.toList:=by
  show (a.cps++y.cps).toList=_
  simp
end L2
namespace L2
open PySem PySem.Spec PyProof.Rows
section
variable {X:Cx}
theorem mt_startswith:MtR X "str.startswith" (fun x vs H Q=>∃ z p,x=.str z∧vs=[.str p]∧Q (.bl (Txt.startswith z p)) H):=by
  intro pins s σ H x xs v us Q I rx rv h
  obtain ⟨z,p,rfl,rfl,q⟩:=h
  obtain ⟨t,rfl⟩:=rx
  obtain ⟨u,rfl,t',rfl⟩:=rv.one
  exact SC.startswith ⟨.bl _,H,I,rfl,q⟩
theorem pe_starts {o e:Expr} {to te:TE} {apos cpos:Pos} (ho:PE X o to) (he:PE X e te) (hbase:attributeBase o "startswith" X.env (eval o X.env)=eval o X.env:=by rfl)
    (h1:starEach [e] X.env=[(false,eval e X.env)]:=by rfl) (hl:(apos.endLine == cpos.line)=true:=by rfl) :
    PE X (.Call (.Attribute o "startswith" apos) [e] [] cpos) (tBM X.K "str" (fun x vs H Q=>∃ z p,x=.str z∧vs=[.str p]∧Q (.bl (Txt.startswith z p)) H) to (tCons te tNil)):=
  pe_bm PySem.F.plainAttrs_str PySem.F.slot_str_startswith PySem.F.type_str_startswith mt_startswith ho (pa_cons he pa_nil h1) hbase (by rw [h1];rfl) hl h1 (by rfl)
theorem pg_tupK (K:PySem.W.Frag) {es:List Expr} {k:Nat} {t:TGs} {n:Nat} {pos:Pos} (hc:X.calm=true) (h:PGs X es t) (hK:X.K=K:=by rfl) (hn:(assignEach es X.env).length=n:=by rfl)
    (hst:(assignEach es X.env).findIdx? (·.1)=none:=by rfl):PG X (.Tuple es k pos) (gTup K n t):=by
  subst hK
  exact pg_tup hc h hn hst
theorem strsAre_of:∀ {ys:List Str} {us:List Value},Vals (ys.map V.str) us→StrsAre us ys
  | [],[],_=>.nil
  | [],_ :: _,h=>nomatch h
  | _ :: _,[],h=>nomatch h
  | y :: r,u :: us,h=>by
    cases h with
    | cons a b=>
      obtain ⟨t,rfl⟩:=a
      exact .cons y t (strsAre_of b)
theorem mt_join:MtR X "str.join" (fun x vs H Q=>∃ z a ys,x=.str z∧vs=[.ref a]∧SqL X.K H a (ys.map V.str)∧(ys.map (·.length)).sum+ys.length * z.length≤16777216∧Q (.str (Txt.join z ys)) H):=by
  intro pins s σ H x xs v us Q I rx rv h
  obtain ⟨z,a,ys,rfl,rfl,hl,hok,q⟩:=h
  obtain ⟨t,rfl⟩:=rx
  obtain ⟨u,rfl,ru⟩:=rv.one
  cases (show u=Value.ref a from ru)
  obtain ⟨its,r,ht,hz⟩:=I.list hl
  exact join_list ht.isList (strsAre_of (by simpa using r)) hok fun t' k=>⟨.str _,H,I.tok k,⟨t',rfl⟩,q⟩
theorem op_mul_str:OpR X (binaryOp .Mult) (fun x y H Q=>∃ z n,x=.str z∧y=.int n∧MulOk z n∧Q (.str (Txt.mul z n)) H):=by
  intro pins s σ H x y v u Q I rx ry h
  obtain ⟨z,n,rfl,rfl,hok,q⟩:=h
  obtain ⟨t,rfl⟩:=rx
  obtain ⟨t',rfl⟩:=ry
  exact SB.mul hok fun t' k=>⟨.str _,H,I.tok k,⟨t',rfl⟩,q⟩
theorem flat_strs (ns:List Str):(ns.map V.str).all flatV=true:=by
  rw [List.all_eq_true];intro x hx;obtain ⟨n,_,rfl⟩:=List.mem_map.mp hx;rfl
end
section
variable {NL:List Str} {ix:List Nat} {g:TG} {tt:TT} {te:TE} {σ:St} {H1:Hp} {Qs:Hp→Prop} {acc:Addr}
theorem comp_lst {K:PySem.W.Frag} {a:Addr} {xs:List V} (hn:xs.length < 1000) (Pv:Nat→List V→Hp→Prop)
    (hl:∀ i ys H2,Pv i ys H2→SqL K H2 a xs) (hacc:∀ i ys H2,Pv i ys H2→H2 acc=some (.lst ys)∧ys.length≤i) (h0:Pv 0 [] (upd H1 acc (.lst []))) (hstop:∀ ys H2,Pv xs.length ys H2→Qs H2)
    (hturn:∀ i x ys H2,xs[i]?=some x→Pv i ys H2→g x (comp0 NL ix σ) H2 fun σ' H4=>σ'.drop NL.length=ix.map (fun j=>σ.getD j none)∧tt σ' H4 fun b H5=>
      if b=true then te σ' H5 fun v H6=>H6 acc=some (.lst ys)∧Pv (i+1) (ys++[v]) (upd H6 acc (.lst (ys++[v]))) else Pv (i+1) ys H5) :
    ∃ W:Nat→Nat→List V→Hp→Prop,(∃ m,W 0 m [] (upd H1 acc (.lst []))) ∧
    ∀ i m ys H2,W i m ys H2→H2 acc=some (.lst ys)∧ys.length < sizeLine ∧
      (((Itl K a).stop i H2∧Qs H2)∨((Itl K a).go i H2∧∃ N:List V→Hp→Prop,(∀ ys' H',N ys' H'→∃ m',m' < m∧W (i+1) m' ys' H') ∧
        ∀ x H3,(Itl K a).yld i H2 x H3→g x (comp0 NL ix σ) H3 fun σ' H4=>σ'.drop NL.length=ix.map (fun j=>σ.getD j none)∧tt σ' H4 fun b H5=>
          if b=true then te σ' H5 fun v H6=>H6 acc=some (.lst ys)∧N (ys++[v]) (upd H6 acc (.lst (ys++[v]))) else N ys H5)):=by
  refine comp_by xs.length hn Pv hacc h0 (fun ys H2 hp=>⟨⟨xs,hl _ _ _ hp,Nat.le_refl _⟩,hstop ys H2 hp⟩) fun i ys H2 hi hp=>?_
  have hs:=hl _ _ _ hp
  refine ⟨⟨xs,xs[i],hs,List.getElem?_eq_getElem hi⟩,?_⟩
  rintro x H3 ⟨rfl,hx⟩
  exact hturn i x ys H3 (hx xs hs) hp
end
theorem kit_int_bool (K:PySem.W.Frag):PySem.W.kitOne K (.type "int") (.type "bool")=some false:=by rfl
theorem kit_same (K:PySem.W.Frag) (T:String):PySem.W.kitOne K (.type T) (.type T)=some true:=by
  unfold PySem.W.kitOne
  rw [if_pos (beq_self_eq_true _)]
theorem foldl_repN (xs:Array Nat):∀ (n:Nat) (acc:Array Nat),((List.replicate n xs).foldl (·++·) acc).size=acc.size+n * xs.size
  | 0,acc=>by simp
  | n+1,acc=>by
    rw [List.replicate_succ,List.foldl_cons,foldl_repN xs n,Array.size_append,Nat.succ_mul]
    omega
theorem mul_len {c:Nat} {n:Int} (h:0≤n):(Txt.mul ⟨#[c]⟩ n).cps.toList.length=n.toNat:=by
  unfold Txt.mul
  split
  · have:n.toNat=0:=by omega
    rw [this];rfl
  · split
    · rename_i h1 h2
      have h3:n=1:=by
        simp only [Bool.or_eq_true,beq_iff_eq] at h2
        rcases h2 with h2 | h2
        · exact h2
        · have h4:(⟨#[c]⟩:Str).length=1:=rfl
          omega
      subst h3;rfl
    · rw [Array.length_toList]
      show (List.foldl (·++·) #[] (List.replicate n.toNat #[c])).size=n.toNat
      rw [foldl_repN]
      simp
abbrev Deck (H:Hp) (p:Addr) (c:Int):Prop:=∃ x y z:Int,H p=some (.lst [.int x,.int y,.int z])∧0≤z∧z≤c
structure Kd (p:Addr) (c:Int) (H H':Hp):Prop where
  deck:Deck H' p c
  keep:∀ b o,b≠p→H b=some o→H' b=some o
section
variable {p q:Addr} {H H1 H2:Hp} {o:HO} {c d:Int}
theorem Deck.mono (h:Deck H p c) (e:c≤d):Deck H p d:=let ⟨x,y,z,a,b,f⟩:=h;⟨x,y,z,a,b,Int.le_trans f e⟩
theorem Kd.mono (h:Kd p c H H1) (e:c≤d):Kd p d H H1:=⟨h.deck.mono e,h.keep⟩
theorem Kd.refl (h:Deck H p c):Kd p c H H:=⟨h,fun _ _ _ e=>e⟩
theorem Kd.trans (a:Kd p c H H1) (b:Kd p d H1 H2):Kd p d H H2:=⟨b.deck,fun k u hc e=>b.keep k u hc (a.keep k u hc e)⟩
theorem Kd.new (a:Kd p c H H1) (hq:H1 q=none):Kd p c H (upd H1 q o):=by
  obtain ⟨⟨x,y,z,e,r⟩,k⟩:=a
  refine ⟨⟨x,y,z,by rw [upd_ne (ne_of_none e hq)];exact e,r⟩,fun b u hc h=>?_⟩
  have:=k b u hc h
  rw [upd_ne (ne_of_none this hq)];exact this
theorem Kd.write (a:Kd p c H H1) (hq:H q=none) (hp:q≠p):Kd p c H (upd H1 q o):=by
  obtain ⟨⟨x,y,z,e,r⟩,k⟩:=a
  refine ⟨⟨x,y,z,by rw [upd_ne (Ne.symm hp)];exact e,r⟩,fun b u hc h=>?_⟩
  rw [upd_ne (ne_of_none h hq)];exact k b u hc h
theorem Deck.ne (h:Deck H p c) (hq:H q=none):q≠p:=by
  obtain ⟨x,y,z,e,_⟩:=h
  exact Ne.symm (ne_of_none e hq)
theorem Kd.same (a:Kd p c H H1) (s:Same H1 H2):Kd p c H H2:=by
  obtain ⟨⟨x,y,z,e,r⟩,k⟩:=a
  exact ⟨⟨x,y,z,s _ _ e,r⟩,fun b u hc h=>s _ _ (k b u hc h)⟩
theorem Kd.fresh (a:Kd p c H H1) (hq:H1 q=none):H q=none:=by
  cases e:H q with
  | none=>rfl
  | some u=>
    have:=a.keep q u (a.deck.ne hq) e
    rw [hq] at this;cases this
theorem ne_deck {o:HO} (h:Deck H p c) (e:H q=some o) (ho:∀ x y z:Int,o≠.lst [.int x,.int y,.int z]):q≠p:=fun k=>by
  obtain ⟨x,y,z,hp,_⟩:=h
  subst k
  rw [hp] at e
  exact ho x y z (Option.some.inj e).symm
end
end L2
namespace L2
open PySem PySem.Spec PyProof.Rows
section
variable {X:Cx}
end
end L2
namespace L2
open PySem PySem.Spec PyProof.Rows
section
variable {X:Cx}
theorem strsAre_get {vs:List Value} {ss:List Str} (h:StrsAre vs ss):Vals (ss.map V.str) vs:=by
  induction h with
  | nil=>exact .nil
  | cons y t _ ih=>exact .cons ⟨t,rfl⟩ ih
theorem range_all (bs:List Bool):(List.range bs.length).all (fun i=>bs.getD i true)=bs.all id:=by
  rw [Bool.eq_iff_iff,List.all_eq_true,List.all_eq_true]
  constructor
  · intro h b hb
    obtain ⟨i,hi,rfl⟩:=List.getElem_of_mem hb
    have:=h i (List.mem_range.mpr hi)
    rw [List.getD_eq_getElem?_getD,List.getElem?_eq_getElem hi] at this
    exact this
  · intro h i hi
    have hi':=List.mem_range.mp hi
    rw [List.getD_eq_getElem?_getD,List.getElem?_eq_getElem hi']
    exact h _ (List.getElem_mem hi')
theorem call_all (hc:X.calm=true):CallR X (.builtin "all") (fun vs H Q=>∃ (a:Addr) (bs:List Bool),vs=[.ref a]∧SqL X.K H a (bs.map V.bl)∧Q (.bl (bs.all id)) H):=by
  intro pins s σ H xs us Q I r h
  obtain ⟨a,bs,rfl,hl,q⟩:=h
  obtain ⟨u,rfl,ru⟩:=vals1 r
  cases (show u=Value.ref a from ru)
  obtain ⟨its,rv,ht,hz⟩:=I.list hl
  have hlen:=rv.length
  rw [List.length_map] at hlen
  have hh:X.A.in1.handled=none:=I.ok.hd hc
  have hlt:a < s.heap.objs.size:=by obtain ⟨o,e,_⟩:=ht.isList;exact Heap.lt_size e
  refine call_all_walk (wpAny_pyIter_list ht.isList ⟨s.heap.objs.size,_,_,_,_,_,fun i=>bs.getD i true,rfl,Walks.list hh s.heap.objs.size a (Nat.ne_of_lt hlt) its.toArray,?_,?_,?_⟩)
  · exact ⟨⟨_,Heap.get?_push_size _ rfl,rfl,rfl⟩,Heap.IsList.push ht.isList _⟩
  · intro i v s' Q' E' hv hQ
    have hv':its[i]?=some v:=by simpa using hv
    have hi:i < (bs.map V.bl).length:=by rw [List.length_map,hlen];exact (List.getElem?_eq_some_iff.mp hv').1
    obtain ⟨u',e1,e2⟩:=rv.get (List.getElem?_eq_getElem hi)
    rw [hv'] at e1
    cases e1
    rw [List.getElem_map] at e2
    cases (show v=Value.bool _ from e2)
    refine wpAny_truthy_bool ?_
    have hb:bs.getD i true=bs[i]'(by simpa using hi):=by rw [List.getD_eq_getElem?_getD,List.getElem?_eq_getElem (by simpa using hi)];rfl
    rw [← hb]
    exact hQ
  · intro h' tk hk
    refine ⟨.bl (bs.all id),H,?_,?_,q⟩
    · exact I.kept (t':=tk) fun b o e=>hk b o (by simp;exact Nat.ne_of_lt (Heap.lt_size e)) (Heap.get?_push_of_some _ e)
    · show Value.bool _=Value.bool _
      rw [← range_all,hlen,List.size_toArray]
end
end L2
namespace L2
open PySem.W PyProof.Rows
section
variable {α β:Type} {n:Nat} {lt:Nat→Nat→Bool}
structure TotB (n:Nat) (lt:Nat→Nat→Bool):Prop where
  asym:∀ i j,lt i j=true→lt j i=false
  tr:∀ i j k,lt j i=false→lt k j=false→lt k i=false
  tot:∀ i j,i < n→j < n→lt i j=false→lt j i=false→i=j
variable (o:TotB n lt)
include o
end
open PySem PySem.Spec
def shV:V→Nat
  | .int _=>1
  | .str _=>2
  | _=>0
def ltV:V→V→Bool
  | .int i,.int j=>decide (i < j)
  | .str a,.str b=>decide (a.cps.toList < b.cps.toList)
  | _,_=>false
def lexV:List V→List V→Bool
  | x :: xs,y :: ys=>if x=y then lexV xs ys else ltV x y
  | [],_ :: _=>true
  | _,_=>false
theorem str_eq {a b:Str} (h:a.cps.toList=b.cps.toList):a=b:=by
  obtain ⟨x⟩:=a;obtain ⟨y⟩:=b
  have:x=y:=Array.toList_inj.mp h
  rw [this]
theorem two_kinds {x y:V} (hs:shV x=shV y) (h0:shV x≠0):(∃ i j,x=.int i∧y=.int j)∨∃ a b,x=.str a∧y=.str b:=by
  cases x <;> cases y <;> simp [shV] at hs h0 ⊢
theorem ltV_asym {x y:V} (h:ltV x y=true):ltV y x=false:=by
  cases x <;> cases y <;> simp [ltV] at h ⊢
  · omega
  · exact List.not_lt.mp (List.lt_asymm h)
theorem ltV_tot {x y:V} (hs:shV x=shV y) (h0:shV x≠0) (h1:ltV x y=false) (h2:ltV y x=false):x=y:=by
  rcases two_kinds hs h0 with ⟨i,j,rfl,rfl⟩ | ⟨a,b,rfl,rfl⟩
  · have h1':¬ i < j:=of_decide_eq_false h1
    have h2':¬ j < i:=of_decide_eq_false h2
    rw [show i=j by omega]
  · have h1':¬ a.cps.toList < b.cps.toList:=of_decide_eq_false h1
    have h2':¬ b.cps.toList < a.cps.toList:=of_decide_eq_false h2
    rw [str_eq (List.le_antisymm (List.not_lt.mp h2') (List.not_lt.mp h1'))]
theorem ltV_tr {x y z:V} (hs:shV x=shV y) (ht:shV y=shV z) (h0:shV x≠0) (h1:ltV y x=false) (h2:ltV z y=false):ltV z x=false:=by
  rcases two_kinds hs h0 with ⟨i,j,rfl,rfl⟩ | ⟨a,b,rfl,rfl⟩
  · rcases two_kinds ht (by simp [shV]) with ⟨_,k,e,rfl⟩ | ⟨_,_,e,_⟩
    · have h1':¬ j < i:=of_decide_eq_false h1
      cases e
      have h2':¬ k < j:=of_decide_eq_false h2
      exact decide_eq_false (by omega)
    · cases e
  · rcases two_kinds ht (by simp [shV]) with ⟨_,_,e,_⟩ | ⟨_,c,e,rfl⟩
    · cases e
    · cases e
      have h1':¬ b.cps.toList < a.cps.toList:=of_decide_eq_false h1
      have h2':¬ c.cps.toList < b.cps.toList:=of_decide_eq_false h2
      exact decide_eq_false (List.not_lt.mpr (List.le_trans (List.not_lt.mp h1') (List.not_lt.mp h2')))
theorem lexV_asym:∀ (xs ys:List V),lexV xs ys=true→lexV ys xs=false
  | x :: xs,y :: ys,h=>by
    unfold lexV at h ⊢
    by_cases e:x=y
    · rw [if_pos e] at h;rw [if_pos e.symm];exact lexV_asym xs ys h
    · rw [if_neg e] at h;rw [if_neg (Ne.symm e)];exact ltV_asym h
  | [],_ :: _,_=>rfl
  | [],[],h=>by cases h
  | _ :: _,[],h=>by cases h
theorem lexV_tot:∀ (xs ys:List V),xs.map shV=ys.map shV→0 ∉ xs.map shV→lexV xs ys=false→lexV ys xs=false→xs=ys
  | x :: xs,y :: ys,hs,h0,h1,h2=>by
    simp only [List.map_cons,List.cons.injEq] at hs
    simp only [List.map_cons,List.mem_cons,not_or] at h0
    unfold lexV at h1 h2
    by_cases e:x=y
    · rw [if_pos e] at h1;rw [if_pos e.symm] at h2
      rw [e,lexV_tot xs ys hs.2 h0.2 h1 h2]
    · rw [if_neg e] at h1;rw [if_neg (Ne.symm e)] at h2
      exact absurd (ltV_tot hs.1 (Ne.symm h0.1) h1 h2) e
  | [],[],_,_,_,_=>rfl
  | [],_ :: _,hs,_,_,_=>by cases hs
  | _ :: _,[],hs,_,_,_=>by cases hs
theorem lexV_tr:∀ (xs ys zs:List V),xs.map shV=ys.map shV→ys.map shV=zs.map shV→0 ∉ xs.map shV→lexV ys xs=false→lexV zs ys=false→lexV zs xs=false
  | x :: xs,y :: ys,z :: zs,hs,ht,h0,h1,h2=>by
    simp only [List.map_cons,List.cons.injEq] at hs ht
    simp only [List.map_cons,List.mem_cons,not_or] at h0
    unfold lexV at h1 h2 ⊢
    by_cases e:y=x
    · rw [if_pos e] at h1
      by_cases f:z=y
      · rw [if_pos f] at h2;rw [if_pos (f.trans e)];exact lexV_tr xs ys zs hs.2 ht.2 h0.2 h1 h2
      · rw [if_neg f] at h2;rw [if_neg (fun q=>f (q.trans e.symm)),← e];exact h2
    · rw [if_neg e] at h1
      by_cases f:z=y
      · rw [if_pos f] at h2;rw [if_neg (fun q=>e (f.symm.trans q)),f];exact h1
      · rw [if_neg f] at h2
        by_cases g:z=x
        · exact absurd (ltV_tot hs.1.symm (by rw [← hs.1];exact Ne.symm h0.1) h1 (by rw [← g];exact h2)) e
        · rw [if_neg g];exact ltV_tr hs.1 ht.1 (Ne.symm h0.1) h1 h2
  | [],[],[],_,_,_,_,_=>rfl
  | [],_ :: _,_,hs,_,_,_,_=>by cases hs
  | _ :: _,[],_,hs,_,_,_,_=>by cases hs
  | [],[],_ :: _,_,ht,_,_,_=>by cases ht
  | _ :: _,_ :: _,[],_,ht,_,_,_=>by cases ht
structure Keys (n:Nat) (K:Nat→List V) (sh:List Nat):Prop where
  shp:∀ i,(K i).map shV=sh
  ne:sh≠[]
  z:0 ∉ sh
  inj:∀ i j,i < n→j < n→K i=K j→i=j
theorem Keys.tot {n:Nat} {K:Nat→List V} {sh:List Nat} (k:Keys n K sh):TotB n (fun i j=>lexV (K i) (K j)) where
  asym:=fun i j h=>lexV_asym _ _ h
  tr:=fun i j l h1 h2=>lexV_tr _ _ _ ((k.shp i).trans (k.shp j).symm) ((k.shp j).trans (k.shp l).symm) (by rw [k.shp];exact k.z) h1 h2
  tot:=fun i j hi hj h1 h2=>k.inj i j hi hj (lexV_tot _ _ ((k.shp i).trans (k.shp j).symm) (by rw [k.shp];exact k.z) h1 h2)
section
variable {prog:Program} {w:World} {A:Around} {E:Value→Shared→Prop} {s:Shared} {Q:Bool→Shared→Prop}
variable {n:Nat} {K:Nat→List V} {sh:List Nat} {ks:List Value}
end
end L2
namespace L2
open PySem PySem.Spec PyProof.Rows PySem.W
section
variable {prog:Program} {w:World} {A:Around} {E:Value→Shared→Prop} {s:Shared} {K:Nat→List V} {sh:List Nat} {vs:List Value}
end
section
variable {X:Cx}
end
end L2
namespace L2
open PySem PySem.Spec PyProof.Rows PySem.W
section
variable {X:Cx} {pins:List (Addr × Obj)} {σ:St} {H:Hp} {s:Shared}
end
end L2
namespace L2
open PySem PySem.Spec PyProof.Rows PySem.W
def codeO (c:Addr) (qual:Str):HO:=.ext fun h=>h.CodeRec (.ref c) qual
def LamAt (P:Addr) (lp:Pos) (qual:Str) (H:Hp):Prop:=∃ ps,H P=some (.tbl ps)∧TriplesOk ps.toList∧(codeAmong lp ps.toList=none∨∃ c,codeAmong lp ps.toList=some (.ref c)∧H c=some (codeO c qual))
abbrev Lm:=Addr × Pos × Str
def Lams (ls:List Lm) (H:Hp):Prop:=∀ l∈ls,LamAt l.1 l.2.1 l.2.2 H
structure Kt (ls:List Lm) (H H':Hp):Prop where
  lam:Lams ls H'
  keep:∀ b o,(∀ ps,o≠.tbl ps)→H b=some o→H' b=some o
  here:∀ b,H' b=none→H b=none
section
variable {P q:Addr} {lp:Pos} {qual:Str} {H H1 H2:Hp} {o:HO} {ls:List Lm} {xs:List V}
theorem Kt.tup (a:Kt ls H H1) (h:H q=some (.tup xs)):H1 q=some (.tup xs):=a.keep _ _ (fun _ z=>by cases z) h
end
section
variable {X:Cx} {pins:List (Addr × Obj)} {σ:St} {H:Hp} {s:Shared}
end
end L2
namespace L2
open PySem PySem.Spec PyProof.Rows PySem.W
section
variable {prog:Program} {w:World} {A:Around} {E:Value→Shared→Prop} {s:Shared}
end
theorem vals_at:∀ {xs:List V} {us:List Value},xs.length=us.length→(∀ (i:Nat) (x:V) (u:Value),xs[i]?=some x→us[i]?=some u→RelV x u)→Vals xs us
  | [],[],_,_=>.nil
  | [],_ :: _,h,_=>by cases h
  | _ :: _,[],h,_=>by cases h
  | x :: xs,u :: us,h,k=>.cons (k 0 x u rfl rfl) (vals_at (by simpa using h) fun i y v a b=>k (i+1) y v (by simpa using a) (by simpa using b))
section
variable {X:Cx}
end
end L2
namespace L2
open PySem PySem.Spec PyProof.Rows PySem.W
end L2
namespace L2
open PySem PySem.Spec PyProof.Rows PySem.W
theorem ix_listK {X:Cx} (K:PySem.W.Frag) (hK:X.K=K:=by rfl):IxR X (rIxL K):=by
  subst hK;exact ix_list
end L2
namespace L2
open PySem PySem.Spec PyProof.Rows PySem.W
section
variable {X:Cx} {k:Nat}
theorem ix_tupK (K:PySem.W.Frag) (hK:X.K=K:=by rfl):IxR X (rIxT K):=by
  subst hK;exact ix_tup
end
end L2
namespace L2
open PySem PySem.Spec PyProof.Rows PySem.W
end L2
namespace L2
open PySem PySem.Spec PyProof.Rows PySem.W
section
variable {X:Cx} {k:Nat}
end
end L2
namespace L2
open PySem PySem.Spec PyProof.Rows PySem.W
section
variable {X:Cx} {k:Nat}
theorem op_notIn_seqK (K:PySem.W.Frag) (hK:X.K=K:=by rfl):OpR X (compareOp .NotIn) (rIn K true):=by
  subst hK;exact op_notIn_seq
theorem call_len_seqK (K:PySem.W.Frag) (hK:X.K=K:=by rfl):CallR X (.builtin "len") (fun xs H Q=>∃ p ys,xs=[.ref p]∧(SqL K H p ys∨SqT K H p ys)∧Q (.int (ys.length:Nat)) H):=by
  subst hK;exact call_len_seq
end
end L2
namespace L2
open PySem PySem.Spec PyProof.Rows PySem.W
def keyOf (e:Int × Value):Str:=match e.2 with | .str x _=>x | _=>Str.empty
structure SetS (w:World) (led:Bool) (es:Array (Int × Value)) (t:SetTable) (S:List Str):Prop where
  ent:∀ e∈es.toList,∃ x tk,e=(hashStr w x,Value.str x tk)
  nd:(es.toList.map keyOf).Nodup
  mem:∀ x,x∈es.toList.map keyOf ↔ x∈S
  fit:t.fits es.size=true
  led:t.led=led
  pl:es.size=0∨t.plain=false
theorem relay_led (t:SetTable) (es:Array (Int × Value)) (n:Nat):(relayAll t es n).2.1.led=t.led∧(t.plain=false→(relayAll t es n).2.1.plain=false):=by
  unfold relayAll
  cases e:t.relaid (es.map (·.1)) n with
  | none=>exact ⟨rfl,fun _=>rfl⟩
  | some p=>
    obtain ⟨t',order⟩:=p
    dsimp only
    have hl:t'.led=t.led∧t'.plain=t.plain:=by
      unfold SetTable.relaid SetTable.laid at e
      cases e2:SetTable.layClean (SetTable.sizeAbove n - 1) (es.map (·.1)) with
      | none=>rw [e2] at e;cases e
      | some o=>
        rw [e2] at e
        injection e with e
        injection e with e1 e3
        rw [← e1]
        exact ⟨rfl,rfl⟩
    split
    · exact ⟨hl.1,fun h=>by rw [hl.2];exact h⟩
    · exact ⟨rfl,fun _=>rfl⟩
theorem or_led (t:SetTable) (n:Nat):(t.orStandIn n).led=t.led:=by
  unfold SetTable.orStandIn
  split <;> rfl
theorem lay_led (t:SetTable) (es:Array (Int × Value)) (h:Int) (x:Value):(layNew t es h x).2.1.led=t.led:=by
  unfold layNew
  cases e:t.freeSlot h with
  | none=>rfl
  | some p=>
    obtain ⟨slot,wd⟩:=p
    exact or_led _ _
theorem keyOf_perm {a b:List (Int × Value)} (p:a.Perm b):(a.map keyOf).Perm (b.map keyOf):=p.map _
theorem SetS.grow {w:World} {led:Bool} {es es':Array (Int × Value)} {t t':SetTable} {S:List Str} {x:Str} {tk:Tok} (h:SetS w led es t S) (nx:x ∉ S) (p:es'.toList.Perm (es.push (hashStr w x,.str x tk)).toList) (f:t'.fits es'.size=true) (l:t'.led=led) (q:t'.plain=false):SetS w led es' t' (S++[x]) where
  ent:=fun e he=>by
    have:=p.mem_iff.mp he
    rw [Array.toList_push] at this
    rcases List.mem_append.mp this with z | z
    · exact h.ent e z
    · exact ⟨x,tk,List.mem_singleton.mp z⟩
  nd:=by
    rw [(keyOf_perm p).nodup_iff,Array.toList_push,List.map_append,List.nodup_append]
    refine ⟨h.nd,by simp,fun a ha b hb=>?_⟩
    have hb':b=x:=by simpa [keyOf] using hb
    subst hb'
    exact fun e=>nx (by rw [← e];exact (h.mem a).mp ha)
  mem:=fun y=>by
    rw [(keyOf_perm p).mem_iff,Array.toList_push,List.map_append,List.mem_append,List.mem_append,h.mem y]
    simp [keyOf]
  fit:=f
  led:=l
  pl:=.inr q
theorem SetS.relay {w:World} {led:Bool} {es:Array (Int × Value)} {t:SetTable} {S:List Str} (h:SetS w led es t S) (q:t.plain=false) (n:Nat):SetS w led (relayAll t es n).1 (relayAll t es n).2.1 S where
  ent:=fun e he=>h.ent e ((relayAll_perm t es n).mem_iff.mp he)
  nd:=by rw [(keyOf_perm (relayAll_perm t es n)).nodup_iff];exact h.nd
  mem:=fun y=>by rw [(keyOf_perm (relayAll_perm t es n)).mem_iff];exact h.mem y
  fit:=relayAll_fits t es n
  led:=(relay_led t es n).1.trans h.led
  pl:=.inr ((relay_led t es n).2 q)
structure SetA (w:World) (led:Bool) (h:Heap) (a:Addr) (S:List Str) (n:Nat):Prop where
  ex:∃ es ep t,h.get? a=some { cls:=.type "set", data:=.set es ep t }∧SetS w led es t S∧es.size≤n
section
variable {prog:Program} {w:World} {A:Around} {E:Value→Shared→Prop} {s:Shared}
theorem store_set {a:Addr} {es es':Array (Int × Value)} {ep:Nat} {t t':SetTable} {Q:Unit→Shared→Prop} (ha:s.heap.get? a=some { cls:=.type "set", data:=.set es ep t }) (hz:es'.size≤sizeLine)
    (h:∀ h',Heap.SameBut a s.heap h'→h'.get? a=some { cls:=.type "set", data:=.set es' (ep+1) t' }→Q () { s with heap:=h' }):wpAny (model prog w) A (storeSet a es' t') Q E s:=by
  unfold storeSet
  refine wpAny_bind (wpAny_load ha ?_)
  dsimp only
  rw [if_neg (by omega)]
  refine wpAny_update ha (h _ (Heap.SameBut.update ..) ?_)
  rw [Heap.get?_update_self _ ha rfl]
  rfl
theorem gave_ok {b:Bool} {Q:Unit→Shared→Prop} (h:Q () s):wpAny (model prog w) A (match b with | true=>rule "set.scan.the-table-gave-way" | false=>pure ()) Q E s:=by
  cases b with
  | true=>exact wpAny_rule h
  | false=>exact wpAny_pure h
theorem add_text {a:Addr} {S:List Str} {n:Nat} {led:Bool} {x:Str} {tk:Tok} {Q:Bool→Shared→Prop} (ha:SetA w led s.heap a S n) (hn:n+1 < scanBound)
    (h:∀ b h',Heap.SameBut a s.heap h'→SetA w led h' a (S++[x]) (n+1)→Q b { s with heap:=h',toks:=s.toks+1 }):wpAny (model prog w) A (setAdd a (.str x tk)) Q E s:=by
  obtain ⟨es,ep,t,hget,hS,hsz⟩:=ha
  have hsc:scanBound=4096:=rfl
  have is:(strKind prog w).is x (.str x tk)=true:=by show (x == x)=true;exact beq_self_eq_true x
  have elems:ElemsOf (strKind prog w) es.toList:=fun e he=>by
    obtain ⟨y,tk',rfl⟩:=hS.ent e he
    exact ⟨⟨y,by show (y == y)=true;exact beq_self_eq_true y,rfl⟩,rfl⟩
  unfold setAdd
  refine wpAny_holding (wpAny_bind ((strKind prog w).pyHash is ?_))
  unfold setAddHashed
  refine wpAny_holding ?_
  rw [setAddHashedIn.eq_def]
  show wpAny _ _ (setState a >>= _) _ _ _
  refine wpAny_bind (wpAny_setState_of (s:={ s with toks:=s.toks+1 }) hget rfl hS.fit ?_)
  have bs:byScan (.str x tk) es=true:=by
    unfold byScan
    have h1:(Value.str x tk).scannable=true:=rfl
    have h2:(es.all fun e=>e.2.scannable)=true:=by
      rw [Array.all_eq_true_iff_forall_mem]
      intro e he
      exact (elems e (Array.mem_toList_iff.mpr he)).2
    rw [h1,h2,decide_eq_true (by omega)];rfl
  dsimp only
  rw [if_pos bs]
  refine wpAny_bind ?_
  unfold setAddByScan
  refine wpAny_bind (wpAny_rule (wpAny_bind (wpAny_setScan_of (s:={ s with toks:=s.toks+1 }) is hget rfl hS.fit elems ?_)))
  cases ef:List.findIdx? (fun e=>(strKind prog w).is x e.2) es.toList with
  | some j=>
    dsimp only
    refine wpAny_pure (wpAny_pure ?_)
    have xin:x∈S:=by
      rw [← hS.mem x]
      obtain ⟨hj,hp,_⟩:=List.findIdx?_eq_some_iff_getElem.mp ef
      have hm:=List.getElem_mem hj
      obtain ⟨y,tk',e⟩:=hS.ent _ hm
      rw [e] at hp
      have:y=x:=eq_of_beq (show (y == x)=true from hp)
      subst this
      exact List.mem_map.mpr ⟨_,hm,by rw [e];rfl⟩
    refine h false s.heap (Heap.SameBut.refl ..) ⟨es,ep,t,hget,⟨hS.ent,hS.nd,fun y=>?_,hS.fit,hS.led,hS.pl⟩,by omega⟩
    rw [hS.mem y,List.mem_append]
    constructor
    · exact .inl
    · rintro (z | z)
      · exact z
      · rw [List.mem_singleton.mp z];exact xin
  | none=>
    dsimp only
    have xout:x ∉ S:=fun hin=>by
      rw [← hS.mem x] at hin
      obtain ⟨e,he,ek⟩:=List.mem_map.mp hin
      have:=List.findIdx?_eq_none_iff.mp ef e he
      obtain ⟨y,tk',rfl⟩:=hS.ent e he
      have ey:y=x:=ek
      subst ey
      exact absurd (show (strKind prog w).is y (.str y tk')=true from (by show (y == y)=true;exact beq_self_eq_true y)) (by rw [this];simp)
    have lp:=layNew_perm t es ((strKind prog w).hash x) (.str x tk)
    have lf:=layNew_fits t es ((strKind prog w).hash x) (.str x tk)
    have ll:=lay_led t es ((strKind prog w).hash x) (.str x tk)
    have lz:=lp.length_eq
    rw [Array.length_toList,Array.length_toList,Array.size_push] at lz
    generalize layNew t es ((strKind prog w).hash x) (.str x tk)=L at lp lf ll lz
    obtain ⟨es1,t1,wd,gv⟩:=L
    dsimp only at lp lf ll lz ⊢
    have zl:sizeLine=268435455∨4096≤sizeLine:=.inr (by rw [sizeLine_eq];decide)
    have zz:es1.size≤sizeLine:=by rcases zl with z | z <;> omega
    refine wpAny_bind (gave_ok ?_)
    have fin:∀ t2:SetTable,t2.fits es1.size=true→t2.led=led→t2.plain=false →
        wpAny (model prog w) A (do
          storeSet a es1 t2
          have __do_jp:Unit→Sem (Option Bool):=fun __r=>pure (some true)
          if (!wd && t2.tooFull)=true then
            match relayAll t2 es1 (SetTable.grown es1.size) with
            | (es,t,gave)=>do
              (match gave with | true=>rule "set.scan.the-table-gave-way" | false=>pure ())
              let __r ← storeSet a es t
              __do_jp __r
          else __do_jp ()) (fun r s'=>wpAny (model prog w) A (match r with | some added=>pure added | none=>setAddHashedIn a (.str x tk) ((strKind prog w).hash x) 99999) Q E s') E { s with toks:=s.toks+1 }:=fun t2 f2 l2 p2=>by
      have g:=hS.grow (es':=es1) (t':=t2) (tk:=tk) xout lp f2 l2 p2
      refine wpAny_bind (store_set (s:={ s with toks:=s.toks+1 }) hget zz fun h1 sb1 hg1=>?_)
      dsimp only
      split
      · have gr:=g.relay p2 (SetTable.grown es1.size)
        have rz:=(relayAll_perm t2 es1 (SetTable.grown es1.size)).length_eq
        rw [Array.length_toList,Array.length_toList] at rz
        generalize relayAll t2 es1 (SetTable.grown es1.size)=Rr at gr rz
        obtain ⟨es3,t3,gv3⟩:=Rr
        dsimp only at gr rz ⊢
        refine wpAny_bind (gave_ok ?_)
        refine wpAny_bind (store_set (s:={ s with heap:=h1,toks:=s.toks+1 }) hg1 (by omega) fun h2 sb2 hg2=>?_)
        refine wpAny_pure (wpAny_pure ?_)
        exact h true h2 (sb1.trans sb2) ⟨es3,_,t3,hg2,gr,by omega⟩
      · refine wpAny_pure (wpAny_pure ?_)
        exact h true h1 sb1 ⟨es1,_,t2,hg1,g,by omega⟩
    by_cases hp:t1.plain=true
    · rw [if_pos hp,hashByValue.eq_5]
      refine wpAny_bind (wpAny_pure ?_)
      have ff:=fin { mask:=t1.mask,place:=t1.place,dummies:=t1.dummies,finger:=t1.finger,led:=t1.led,moves:=t1.moves,plain:=false } lf (ll.trans hS.led) rfl
      exact ff
    · rw [if_neg hp]
      refine wpAny_bind (wpAny_pure ?_)
      have ff:=fin t1 lf (ll.trans hS.led) (by simpa using hp)
      exact ff
end
end L2
namespace L2
open PySem PySem.Spec PyProof.Rows PySem.W
def ledOf (w:World):Bool:=!w.params.followText "set-order"
section
variable {prog:Program} {w:World} {A:Around} {E:Value→Shared→Prop} {s:Shared}
theorem by_text {Q:Bool→Shared→Prop} (h:Q (w.params.followText "set-order") s):wpAny (model prog w) A setsByText Q E s:=by
  unfold setsByText
  exact wpAny_bind (wpAny_askSetting (wpAny_pure h))
theorem code_set_new_led (a:Value) {Q₁:Value→Shared→Prop} (h:Q₁ (.ref s.heap.objs.size) { s with heap:=s.heap.push { cls:=.type "set", data:=.set #[] 0 (SetTable.fresh 0 0 (ledOf w)) } }) :
    codeAny (model prog w) A (.call (.builtin "set.__new__") ⟨[.type "set", a],[]⟩) (wants Q₁ E) s:=by
  refine codeAny_call_builtin F.plain_set_new F.entry_set_new ?_
  rw [F.newCall_set_1]
  refine wpAny_pure ?_
  unfold Builtin.«set.__new__» Builtin.Frozenset.newClass
  dsimp only
  refine wpAny_bind (wpAny_bind ?_)
  show wpAny _ _ (pure true) _ _ _
  refine wpAny_pure ?_
  rw [if_neg (by decide)]
  refine wpAny_bind ?_
  rw [F.sub_set_set]
  refine wpAny_pure ?_
  rw [if_neg (by decide)]
  refine wpAny_pure ?_
  unfold newSet
  refine wpAny_bind (wpAny_bind (by_text ?_))
  dsimp only
  refine wpAny_newObj_type ?_
  exact wpAny_pure h
theorem SetA.keeps {led:Bool} {h h':Heap} {a:Addr} {S:List Str} {n:Nat} (x:SetA w led h a S n) (k:∀ o,h.get? a=some o→h'.get? a=some o):SetA w led h' a S n:=by
  obtain ⟨es,ep,t,e,r⟩:=x
  exact ⟨es,ep,t,k _ e,r⟩
theorem SetA.start {h:Heap} {a:Addr} {led:Bool} (e:h.get? a=some { cls:=.type "set", data:=.set #[] 0 (SetTable.fresh 0 0 led) }):SetA w led h a [] 0:=
  ⟨#[],0,_,e,⟨fun x hx=>by simp at hx,by simp,fun x=>by simp,by rfl,rfl,.inl rfl⟩,Nat.le_refl _⟩
theorem SetA.typeIs {led:Bool} {a:Addr} {S:List Str} {n:Nat} (x:SetA w led s.heap a S n):s.TypeIs (.ref a) "set" := by
  obtain ⟨es,ep,t,e,r⟩:=x
  exact ⟨_,e,rfl⟩
theorem set_loop {led:Bool} {l I S:Addr} {items:Array Value} {ss:List Str} {R:Result→Shared→Prop} (hv:StrsAre items.toList ss) (hh:A.handled=none) (lI:l≠I) (SI:S≠I) (Sl:S≠l) (hn:items.size+1 < scanBound) :
    ∀ (k i:Nat) (s:Shared),items.size - i=k→i≤items.size→s.heap.IsListIter I l i→s.heap.IsList l items→SetA w led s.heap S (ss.take i) i →
      (∀ h' tk,(∀ b o,b≠I→b≠S→s.heap.get? b=some o→h'.get? b=some o)→SetA w led h' S ss items.size→R (.ok (.ret .none)) { s with heap:=h',toks:=tk }) →
      codeAny (model prog w) A (.builtin "set.update.loop" ⟨[.ref S,.ref I],[]⟩) R s
  | 0,i,s,hk,hi,h1,h2,h3,h=>by
    have ei:i=items.size:=by omega
    subst ei
    refine codeAny_builtin F.entry_set_update_loop ?_
    rw [Around.under_plainId F.plain_set_update_loop _]
    show wpAny _ A.in1 (pyNext (.ref I) >>= _) _ _ s
    have Wk:=Walks.list (prog:=prog) (w:=w) (A:=A.in1) hh I l lI items
    have sl:ss.length=items.size:=by have:=hv.length;simpa using this.symm
    refine wpAny_bind (Wk.done s _ _ ⟨h1,h2⟩ fun h' tk kp=>wpAny_pure ?_)
    refine h h' tk (fun b o n1 _ e=>kp b o (by simpa using n1) e) ?_
    have:=h3.keeps (h':=h') fun o e=>kp S o (by simpa using SI) e
    rw [List.take_of_length_le (by omega)] at this
    exact this
  | k+1,i,s,hk,hi,h1,h2,h3,h=>by
    have il:i < items.size:=by omega
    refine codeAny_builtin F.entry_set_update_loop ?_
    rw [Around.under_plainId F.plain_set_update_loop _]
    show wpAny _ A.in1 (pyNext (.ref I) >>= _) _ _ s
    have Wk:=Walks.list (prog:=prog) (w:=w) (A:=A.in1) hh I l lI items
    have sl:ss.length=items.size:=by have:=hv.length;simpa using this.symm
    refine wpAny_bind (Wk.item i s _ _ il ⟨h1,h2⟩ fun v h' tk hP hSt kp=>?_)
    obtain ⟨x,tkx,rfl,hx⟩:∃ x tkx,v=.str x tkx∧ss[i]?=some x:=by
      have hx:ss[i]?=some (ss[i]'(by omega)):=List.getElem?_eq_getElem _
      obtain ⟨u,e1,e2⟩:=(strsAre_get hv).get (i:=i) (x:=V.str (ss[i]'(by omega))) (by rw [List.getElem?_map,hx];rfl)
      rw [Array.getElem?_toList,hP] at e1
      cases e1
      obtain ⟨tkx,e3⟩:=e2
      exact ⟨_,tkx,e3,hx⟩
    have h3':=h3.keeps (h':=h') fun o e=>kp S o (by simpa using SI) e
    dsimp only
    refine wpAny_bind (wpAny_holding (add_text (s:={ s with heap:=h',toks:=tk }) h3' (by omega) fun b h2' sb hA=>?_))
    refine wpAny_pure ⟨plainId_quiet F.plain_set_update_loop _,?_⟩
    have et:ss.take i++[x]=ss.take (i+1):=by rw [List.take_succ,hx];rfl
    rw [et] at hA
    refine set_loop hv hh lI SI Sl hn k (i+1) { s with heap:=h2',toks:=tk+1 } (by omega) (by omega) ?_ ?_ hA fun h4 tk4 k4 hA4=>?_
    · exact hSt.1.at fun o e=>sb.extBut _ _ (Ne.symm SI) e
    · obtain ⟨o,e,r⟩:=hSt.2
      exact ⟨o,sb.extBut _ _ (Ne.symm Sl) e,r⟩
    · exact h h4 tk4 (fun b o n1 n2 e=>k4 b o n1 n2 (sb.extBut _ _ n2 (kp b o (by simpa using n1) e))) hA4
end
end L2
namespace L2
open PySem PySem.Spec PyProof.Rows PySem.W
section
variable {prog:Program} {w:World} {A:Around} {E:Value→Shared→Prop} {s:Shared}
theorem name_set:typeNameCut 200 (Value.type "set")=pure "set" := by kernel_rfl
theorem set_init {D l:Addr} {items:Array Value} {ss:List Str} {Pf:PySem.Fin→Shared→Prop} (hget:s.heap.get? D=some { cls:=.type "set", data:=.set #[] 0 (SetTable.fresh 0 0 (ledOf w)) }) (hl:s.heap.IsList l items) (Dl:D≠l) (hv:StrsAre items.toList ss) (hh:A.handled=none) (hn:items.size+1 < scanBound)
    (h:∀ h' tk,(∀ b o,b≠D→s.heap.get? b=some o→h'.get? b=some o)→SetA w (ledOf w) h' D ss items.size→Pf (.done (.ret .none)) { s with heap:=h',toks:=tk }) :
    wpAny (model prog w) A (Builtin.«set.__init__» ⟨[.ref D,.ref l],[]⟩) Pf E s:=by
  have hT:s.TypeIs (.ref D) "set" := ⟨_,hget,rfl⟩
  have hTl:s.TypeIs (.ref l) "list" := by obtain ⟨o,e,r,_⟩:=hl;exact ⟨o,e,r⟩
  unfold Builtin.«set.__init__»
  refine wpAny_bind ?_
  unfold noKeywords
  show wpAny _ _ (pure ()) _ _ _
  refine wpAny_pure ?_
  dsimp only
  unfold typeNameOfCut shownTypeOf
  refine wpAny_bind (wpAny_bind (wpAny_bind (wpAny_typeOf hT ?_)))
  rw [if_neg (by decide)]
  refine wpAny_pure ?_
  rw [name_set]
  refine wpAny_pure ?_
  refine wpAny_bind ?_
  unfold checkCount
  show wpAny _ _ (pure ()) _ _ _
  refine wpAny_pure ?_
  refine wpAny_bind ?_
  show wpAny _ _ (pure D) _ _ _
  refine wpAny_pure ?_
  refine wpAny_bind ?_
  unfold setUsed
  refine wpAny_bind (wpAny_setState_of hget rfl rfl (wpAny_pure ?_))
  have hfill:(((#[],0,SetTable.fresh 0 0 (ledOf w)):Array (Int × Value) × Nat × SetTable).2.2.fill != 0)=false:=rfl
  rw [hfill,if_neg (by decide)]
  refine wpAny_bind ?_
  unfold Builtin.Frozenset.updateFrom
  refine wpAny_bind ?_
  unfold Builtin.Frozenset.isAnySet
  refine wpAny_bind (wpAny_isInstance hTl F.sub_list_set ?_)
  refine wpAny_isInstance hTl F.sub_list_frozenset ?_
  rw [if_neg (by decide)]
  refine wpAny_bind (wpAny_typeOf hTl ?_)
  rw [if_neg (by decide)]
  have lD:l < s.heap.objs.size:=by obtain ⟨o,e,_⟩:=hl;exact Heap.lt_size e
  have DD:D < s.heap.objs.size:=Heap.lt_size hget
  refine wpAny_bind (wpAny_pyIter_list hl ?_)
  refine wpAny_bind (wpAny_runValue ?_)
  refine set_loop (led:=ledOf w) (l:=l) hv (show A.handled=none from hh) (Nat.ne_of_lt lD) (Nat.ne_of_lt DD) Dl hn items.size 0 { s with heap:=s.heap.push { cls:=.type "list_iterator", data:=.fields #[.ref l,.int 0 0] } } (Nat.sub_zero _) (Nat.zero_le _) ⟨_,Heap.get?_push_size _ rfl,rfl,rfl⟩ (Heap.IsList.push hl _) (SetA.start (Heap.get?_push_of_some _ hget)) fun h' tk kp hA=>?_
  refine wpAny_pure (wpAny_pure ?_)
  exact h h' tk (fun b o n e=>kp b o (Nat.ne_of_lt (Heap.lt_size e)) n (Heap.get?_push_of_some _ e)) hA
theorem set_call {l:Addr} {items:Array Value} {ss:List Str} {Q:Value→Shared→Prop} (hl:s.heap.IsList l items) (hv:StrsAre items.toList ss) (hh:A.handled=none) (hn:items.size+1 < scanBound)
    (h:∀ h' tk,(∀ b o,s.heap.get? b=some o→h'.get? b=some o)→SetA w (ledOf w) h' s.heap.objs.size ss items.size→Q (.ref s.heap.objs.size) { s with heap:=h',toks:=tk }) :
    wpAny (model prog w) A (call (.type "set") [.ref l]) Q E s:=by
  have hlt:l < s.heap.objs.size:=by obtain ⟨o,e,_⟩:=hl;exact Heap.lt_size e
  obtain ⟨c,tl,hmro⟩:=F.called_set.mro
  refine wpAny_call (codeAny_of_tree ?_)
  show wpAny _ _ (pure (Fin.again (.builtin "type.__call__" ⟨[.type "set", .ref l],[]⟩))) _ _ _
  refine wpAny_pure ⟨Code.quiet_builtin _ (by decide +kernel),codeAny_builtin F.entry_type_call ?_⟩
  rw [Around.under_plain (weight_type_call_type "set" [.ref l] []) rfl]
  unfold Builtin.«type.__call__»
  dsimp only
  rw [if_neg (by decide),if_neg (by rw [F.called_set.canCreate];decide)]
  refine wpAny_bind ?_
  rw [F.typeCall_set_1]
  refine wpAny_pure ?_
  refine wpAny_bind ?_
  rw [hmro]
  refine wpAny_pure ?_
  rw [if_neg (by simp)]
  refine wpAny_bind ?_
  rw [F.called_set.made]
  refine wpAny_pure ?_
  dsimp only
  refine wpAny_bind (wpAny_pure ?_)
  refine wpAny_bind (wpAny_holding (wpAny_call ?_))
  refine code_set_new_led _ ?_
  have hget:(s.heap.push { cls:=.type "set", data:=.set #[] 0 (SetTable.fresh 0 0 (ledOf w)) }).get? s.heap.objs.size=some { cls:=.type "set", data:=.set #[] 0 (SetTable.fresh 0 0 (ledOf w)) }:=Heap.get?_push_size _ rfl
  have hT:({ s with heap:=s.heap.push { cls:=.type "set", data:=.set #[] 0 (SetTable.fresh 0 0 (ledOf w)) } }:Shared).TypeIs (.ref s.heap.objs.size) "set" := ⟨_,hget,rfl⟩
  refine wpAny_bind (wpAny_isInstance hT F.called_set.sub ?_)
  rw [if_neg (by decide)]
  refine wpAny_bind (wpAny_holding ?_)
  refine wpAny_callSpecial?_slot hT F.called_set.init (wpAny_call (codeAny_call_builtin F.called_set.init.plain F.entry_set_init (check_set_init_1 hT ?_)))
  refine set_init (s:={ s with heap:=s.heap.push { cls:=.type "set", data:=.set #[] 0 (SetTable.fresh 0 0 (ledOf w)) } }) hget (Heap.IsList.push hl _) (Ne.symm (Nat.ne_of_lt hlt)) hv hh hn fun h' tk kp hA=>?_
  dsimp only
  rw [if_neg (by decide)]
  refine wpAny_pure ?_
  exact h h' tk (fun b o e=>kp b o (Nat.ne_of_lt (Heap.lt_size e)) (Heap.get?_push_of_some _ e)) hA
end
end L2
namespace L2
open PySem PySem.Spec PyProof.Rows PySem.W
theorem slot_seti_next:Slot "set_iterator" (Str.ofString "__next__") "set_iterator.__next__" := Slot.of (owner := "set_iterator") (n := "__next__") (by kernel_rfl) (by kernel_rfl) (by kernel_rfl) (by kernel_rfl) (.inl (by kernel_rfl)) (by kernel_rfl)
theorem entry_seti_next:entryFor table "set_iterator.__next__" = some Builtin.«set_iterator.__next__»:=by kernel_rfl
theorem entry_set_iter:entryFor table "set.__iter__" = some Builtin.«frozenset.__iter__»:=by kernel_rfl
theorem own_seti:List.lookup (String.ofList ['r','o','t','a','r','e','t','i','_','t','e','s'].reverse) Manifest.owners=some Manifest.sig_set_iterator:=by kernel_rfl
theorem args_seti_next (a:Value):argsOk "set_iterator.__next__" { pos:=[a] }:=by
  show (match Manifest.signature? "set_iterator.__next__" with | some sig=>Bind.checkArgs "set_iterator.__next__" sig { pos:=[a] } | none=>pure ())=pure ()
  rw [signature?_of (id := "set_iterator.__next__") (n:=['_','_','t','x','e','n','_','_']) (o:=['r','o','t','a','r','e','t','i','_','t','e','s']) (by kernel_rfl) own_seti]
  kernel_rfl
theorem perm_pick {α:Type}:∀ {xs:List α} {i:Nat} {x:α},xs[i]?=some x→(x :: xs.eraseIdx i).Perm xs
  | [],i,x,h=>by simp at h
  | y :: ys,0,x,h=>by
    have:y=x:=by simpa using h
    subst this
    exact List.Perm.refl _
  | y :: ys,i+1,x,h=>by
    have ih:=perm_pick (xs:=ys) (i:=i) (x:=x) (by simpa using h)
    rw [List.eraseIdx_cons_succ]
    exact (List.Perm.swap y x _).trans (ih.cons y)
theorem pick_go {α:Type} (next:Nat→Nat):∀ (fuel k:Nat) (left:List α) (out:Array α),left.length=fuel→(pickOrder.go next fuel k left out).toList.Perm (out.toList++left)
  | 0,k,left,out,h=>by
    rw [pickOrder.go.eq_1]
    have:left=[]:=List.length_eq_zero_iff.mp h
    rw [this,List.append_nil]
  | fuel+1,k,left,out,h=>by
    have lt:next k % left.length < left.length:=Nat.mod_lt _ (by omega)
    have e:left[next k % left.length]?=some left[next k % left.length]:=List.getElem?_eq_getElem lt
    rw [pickOrder.go.eq_2,e]
    dsimp only
    refine (pick_go next fuel (k+1) _ _ (by rw [List.length_eraseIdx_of_lt lt];omega)).trans ?_
    rw [Array.toList_push,List.append_assoc]
    exact List.Perm.append_left _ (perm_pick e)
theorem pick_perm {α:Type} (next:Nat→Nat) (xs:Array α):(pickOrder next xs).toList.Perm xs.toList:=by
  unfold pickOrder
  have:=pick_go next xs.size 0 xs.toList #[] (by simp)
  simpa using this
section
variable {prog:Program} {w:World} {A:Around} {E:Value→Shared→Prop}
theorem choose_ok {s:Shared} {src:Source} {n:Nat} {Q:Nat→Shared→Prop} (hn:n≠0) (h:∀ i d,i < n→Q i { s with drawn:=d }):wpAny (model prog w) A (choose src n) Q E s:=by
  intro Γ p hΓ
  unfold choose
  rw [Sem.wp_choose]
  refine ⟨hn,?_⟩
  rw [Sem.wp_pure]
  exact h _ _ (Nat.mod_lt _ (by omega))
theorem draw_ok {α:Type}:∀ (n:Nat) (xs:List α) (s:Shared) (Q:List α→Shared→Prop),xs.length=n→(∀ ys d,ys.Perm xs→Q ys { s with drawn:=d })→wpAny (model prog w) A (drawOrder n xs) Q E s
  | 0,xs,s,Q,h,q=>by
    rw [drawOrder.eq_1]
    have:xs=[]:=List.length_eq_zero_iff.mp h
    subst this
    exact wpAny_pure (q [] s.drawn (List.Perm.refl _))
  | n+1,xs,s,Q,h,q=>by
    rw [drawOrder.eq_3 _ _ (fun e=>by rw [e] at h;cases h)]
    refine wpAny_bind (choose_ok (by omega) fun i d hi=>?_)
    have e:xs[i]?=some xs[i]:=List.getElem?_eq_getElem hi
    rw [e]
    dsimp only
    refine wpAny_bind (draw_ok n (xs.eraseIdx i) _ _ (by rw [List.length_eraseIdx_of_lt hi];omega) fun ys d' hp=>?_)
    exact wpAny_pure (q _ _ ((hp.cons _).trans (perm_pick e)))
theorem below_one (p:Nat):SetTable.below #[p] 0=0∧SetTable.below #[p] (p+1)=1:=by
  constructor
  · simp [SetTable.below,SetTable.below.go]
  · simp [SetTable.below,SetTable.below.go]
abbrev setIt (f:Value) (i:Nat) (D:Addr) (n ep:Nat):Obj:={ cls:=.type "set_iterator", data:=.fields #[f,rawInt (i:Int),.ref D,rawInt (n:Int),rawInt (ep:Int)] }
theorem seti_get {h:Heap} {I:Addr} {f g:Value} {i j:Nat} {D:Addr} {n ep:Nat} (e:h.get? I=some (setIt f i D n ep)):(h.update I (Obj.mapFields fun vs=>vs.setIfInBounds 1 (rawInt ((i:Int)+1)))).get? I=some (setIt f (i+1) D n ep):=by
  rw [Heap.get?_update_self _ e rfl]
  rfl
variable {s:Shared}
theorem seti_stop {I:Addr} {o:Obj} {vs:Array Value} {Pf:PySem.Fin→Shared→Prop} (hh:A.handled=none) (ho:s.heap.get? I=some o) (hd:o.data=.fields vs) (h2:2 < vs.size)
    (hE:∀ h' e,Heap.ExtBut I s.heap h'→(∃ o,h'.get? e=some o∧o.cls=.type "StopIteration")→E (.ref e) { s with heap:=h' }) :
    wpAny (model prog w) A (do setField (.ref I) 2 .none;let __do_lift ← newExc (.type "StopIteration") [];raiseNew __do_lift) Pf E s:=by
  refine wpAny_bind (wpAny_setField ho hd h2 ?_)
  refine wpAny_bind ?_
  simp only [newExc,newTuple]
  refine wpAny_bind (wpAny_newObj_type ?_ (by size_fits))
  refine wpAny_bind (m:=firstArgMember _ _) (wpAny_of_eq (a:=Value.none) (by first | rfl | (simp only [firstArgMember];rfl)) ?_)
  refine wpAny_newObj_type ?_ (by size_fits)
  simp only [raiseNew]
  refine wpAny_bind (wpAny_handled ?_)
  rw [hh]
  refine wpAny_bind (wpAny_pure (wpAny_throw ?_))
  exact hE _ _ (((Heap.SameBut.update ..).extBut.push _).push _) ⟨_,Heap.get?_push_size _ rfl,rfl⟩
theorem seti_pre {I D:Addr} {f:Value} {i ep:Nat} {es:Array (Int × Value)} {t:SetTable} {Pf:PySem.Fin→Shared→Prop} (hI:s.heap.get? I=some (setIt f i D es.size ep)) (hD:s.heap.get? D=some { cls:=.type "set", data:=.set es ep t }) (hf:t.fits es.size=true)
    (h:wpAny (model prog w) A (match f with
          | .int slot tok=>do
            let __do_lift ← setNext D slot.toNat i ep
            match __do_lift with
              | some (x,next)=>do
                setField (.ref I) 0 (rawInt next)
                setField (.ref I) 1 (rawInt ((i:Int)+1))
                ret x
              | none=>do
                setField (.ref I) 2 .none
                let __do_lift ← newExc (.type "StopIteration") []
                raiseNew __do_lift
          | x=>do
            let __x ← seqItems? f
            match __x with
              | some places=>
                match places[i]? with
                | some (.int place tok)=>do
                  let x ← setNextDrawn D place.toNat ep
                  setField (.ref I) 1 (rawInt ((i:Int)+1))
                  ret x
                | some val=>unsupported "internal:set_iterator"
                | none=>do
                  setField (.ref I) 0 (rawInt 0)
                  setField (.ref I) 2 .none
                  let __do_lift ← newExc (.type "StopIteration") []
                  raiseNew __do_lift
              | x=>unsupported "internal:set_iterator") Pf E s) :
    wpAny (model prog w) A (Builtin.«set_iterator.__next__» ⟨[.ref I],[]⟩) Pf E s:=by
  unfold Builtin.«set_iterator.__next__»
  refine wpAny_bind ?_
  show wpAny _ _ (pure (Value.ref I,[])) _ _ _
  refine wpAny_pure ?_
  dsimp only
  refine wpAny_bind (wpAny_fieldsOf hI rfl ?_)
  show wpAny _ _ (setEntries D >>= _) _ _ s
  unfold setEntries
  refine wpAny_bind (wpAny_bind (wpAny_setState_of hD rfl hf (wpAny_pure ?_)))
  dsimp only
  rw [if_neg (by simp)]
  simp only [Int.toNat_natCast]
  exact h
theorem setNext_text {D:Addr} {slot i ep:Nat} {es:Array (Int × Value)} {t:SetTable} {Q:Option (Value × Nat)→Shared→Prop} (bt:w.params.followText "set-order" = true) (hD:s.heap.get? D=some { cls:=.type "set", data:=.set es ep t }) (hf:t.fits es.size=true)
    (h:Q (((pickOrder (w.params.setOrder D ep) es)[i]?).map fun e=>(e.2,slot)) s):wpAny (model prog w) A (setNext D slot i ep) Q E s:=by
  unfold setNext
  refine wpAny_bind (wpAny_setState_of hD rfl hf ?_)
  dsimp only
  refine wpAny_bind (by_text ?_)
  rw [bt,if_pos rfl,if_neg (by simp)]
  unfold setWalk
  refine wpAny_bind (wpAny_bind (wpAny_setState_of hD rfl hf ?_))
  dsimp only
  refine wpAny_bind (by_text ?_)
  rw [bt,if_pos rfl]
  refine wpAny_bind (wpAny_askSetting (wpAny_pure (wpAny_pure h)))
theorem setNext_led {D:Addr} {slot i ep:Nat} {es:Array (Int × Value)} {t:SetTable} {Q:Option (Value × Nat)→Shared→Prop} (bt:w.params.followText "set-order" = false) (hD:s.heap.get? D=some { cls:=.type "set", data:=.set es ep t }) (hf:t.fits es.size=true) (hl:t.led=true) (hz:es.size≤1)
    (h:Q (match es[SetTable.below t.place slot]?,t.place[SetTable.below t.place slot]? with | some (_,x),some j=>some (x,j+1) | _,_=>none) s):wpAny (model prog w) A (setNext D slot i ep) Q E s:=by
  unfold setNext
  refine wpAny_bind (wpAny_setState_of hD rfl hf ?_)
  dsimp only
  refine wpAny_bind (by_text ?_)
  rw [bt,if_neg (by decide)]
  rw [if_neg (by
    show ¬ ((!t.plain && decide (es.size > 1))=true)
    rw [decide_eq_false (by omega)]
    simp)]
  refine wpAny_bind ?_
  show wpAny _ _ (if (!t.led && !es.isEmpty)=true then _ else pure ()) _ _ _
  rw [if_neg (by rw [hl];simp)]
  exact wpAny_pure (wpAny_pure h)
end
end L2
namespace L2
open PySem PySem.Spec PyProof.Rows PySem.W
theorem slot_seti_iter:Slot "set_iterator" (Str.ofString "__iter__") "set_iterator.__iter__" := Slot.of (owner := "set_iterator") (n := "__iter__") (by kernel_rfl) (by kernel_rfl) (by kernel_rfl) (by kernel_rfl) (.inl (by kernel_rfl)) (by kernel_rfl)
theorem entry_seti_iter:entryFor table "set_iterator.__iter__" = some Builtin.«dict_keyiterator.__iter__»:=by kernel_rfl
theorem args_seti_iter (a:Value):argsOk "set_iterator.__iter__" { pos:=[a] }:=by
  show (match Manifest.signature? "set_iterator.__iter__" with | some sig=>Bind.checkArgs "set_iterator.__iter__" sig { pos:=[a] } | none=>pure ())=pure ()
  rw [signature?_of (id := "set_iterator.__iter__") (n:=['_','_','r','e','t','i','_','_']) (o:=['r','o','t','a','r','e','t','i','_','t','e','s']) (by kernel_rfl) own_seti]
  kernel_rfl
section
variable {prog:Program} {w:World} {A:Around}
theorem seti_self {E:Value→Shared→Prop} {s:Shared} {I D:Addr} {f:Value} {i n ep:Nat} {Q:Value→Shared→Prop} (hI:s.heap.get? I=some (setIt f i D n ep)) (q:Q (.ref I) s):wpAny (model prog w) A (pyIter (.ref I)) Q E s:=by
  have hT:s.TypeIs (.ref I) "set_iterator" := ⟨_,hI,rfl⟩
  refine wpAny_pyIter_slot hT slot_seti_iter (wpAny_call_entry slot_seti_iter hT entry_seti_iter ?_ (args_seti_iter _))
  exact wpAny_pure ⟨.ref I,rfl, "set_iterator", _,hT,slot_seti_next.lookup,q⟩
theorem seti_next {E:Value→Shared→Prop} {s:Shared} {I D:Addr} {f:Value} {i n ep:Nat} {Q:Option Value→Shared→Prop} (hI:s.heap.get? I=some (setIt f i D n ep))
    (h:wpAny (model prog w) A.in1 (Builtin.«set_iterator.__next__» ⟨[.ref I],[]⟩) (fun fin s'=>∃ v,fin=Fin.done (Flow.ret v)∧Q (some v) s') (fun e s'=>(∃ o,s'.heap.get? (match e with | .ref a=>a | _=>0)=some o∧o.cls=.type "StopIteration")∧(∃ a,e=.ref a)∧Q none s') s) :
    wpAny (model prog w) A (pyNext (.ref I)) Q E s:=by
  have hT:s.TypeIs (.ref I) "set_iterator" := ⟨_,hI,rfl⟩
  unfold pyNext
  refine wpAny_bind (wpAny_attempt (wpAny_callSpecial?_slot (name:=Str.ofString "__next__") hT slot_seti_next (wpAny_call_entry slot_seti_next hT entry_seti_next ?_ (args_seti_next _))))
  refine wpAny_mono h (fun fin s' hf=>?_) (fun e s' he=>?_)
  · obtain ⟨v,e1,q⟩:=hf
    exact ⟨v,e1,wpAny_pure q⟩
  · obtain ⟨⟨o,ho,hc⟩,⟨a,rfl⟩,q⟩:=he
    refine wpAny_bind (wpAny_isInstance (T := "StopIteration") (b:=true) ⟨o,ho,hc⟩ isSubtype_stop ?_)
    exact wpAny_pure q
abbrev setAt (D:Addr) (es:Array (Int × Value)) (ep:Nat) (t:SetTable) (h:Heap):Prop:=h.get? D=some { cls:=.type "set", data:=.set es ep t }
theorem walks_text (bt:w.params.followText "set-order" = true) (hh:A.handled=none) {I D:Addr} (DI:D≠I) {es:Array (Int × Value)} {ep:Nat} {t:SetTable} (hf:t.fits es.size=true) :
    Walks prog w A I [I,D] [I] es.size (fun i v=>((pickOrder (w.params.setOrder D ep) es).toList.map (·.2))[i]?=some v) (fun i h=>h.get? I=some (setIt (rawInt 0) i D es.size ep)∧setAt D es ep t h) where
  sub:=fun b hb=>by simp at hb;simp [hb]
  frame:=fun i h h' st k=>⟨k I (by simp) _ st.1,k D (by simp) _ st.2⟩
  item:=fun i s Q E hi st hQ=>by
    have pz:(pickOrder (w.params.setOrder D ep) es).size=es.size:=by
      have:=(pick_perm (w.params.setOrder D ep) es).length_eq
      simpa using this
    have e:(pickOrder (w.params.setOrder D ep) es)[i]?=some ((pickOrder (w.params.setOrder D ep) es)[i]'(by omega)):=Array.getElem?_eq_getElem _
    refine seti_next st.1 (seti_pre st.1 st.2 hf ?_)
    show wpAny _ _ (setNext D 0 i ep >>= _) _ _ s
    refine wpAny_bind (setNext_text bt st.2 hf ?_)
    rw [e]
    dsimp only [Option.map_some]
    refine wpAny_bind (wpAny_setField st.1 rfl (by simp) ?_)
    have e1:(s.heap.update I (Obj.mapFields fun vs=>vs.setIfInBounds 0 (rawInt ((0:Nat):Int)))).get? I=some (setIt (rawInt 0) i D es.size ep):=by
      rw [Heap.get?_update_self _ st.1 rfl];rfl
    refine wpAny_bind (wpAny_setField (s:={ s with heap:=s.heap.update I (Obj.mapFields fun vs=>vs.setIfInBounds 0 (rawInt ((0:Nat):Int))) }) e1 rfl (by simp) (wpAny_pure ⟨_,rfl,?_⟩))
    refine hQ _ _ s.toks ?_ ⟨seti_get (g:=rawInt 0) (j:=0) e1,?_⟩ (fun b o hb eb=>?_)
    · rw [List.getElem?_map,Array.getElem?_toList,e];rfl
    · exact (Heap.get?_update_ne _ _ _ _ DI).trans ((Heap.get?_update_ne _ _ _ _ DI).trans st.2)
    · have nb:b≠I:=by simpa using hb
      rw [Heap.get?_update_ne _ _ _ _ nb,Heap.get?_update_ne _ _ _ _ nb];exact eb
  done:=fun s Q E st hQ=>by
    have pz:(pickOrder (w.params.setOrder D ep) es).size=es.size:=by
      have:=(pick_perm (w.params.setOrder D ep) es).length_eq
      simpa using this
    refine seti_next st.1 (seti_pre st.1 st.2 hf ?_)
    show wpAny _ _ (setNext D 0 es.size ep >>= _) _ _ s
    refine wpAny_bind (setNext_text bt st.2 hf ?_)
    rw [Array.getElem?_eq_none (by omega)]
    dsimp only [Option.map_none]
    refine seti_stop (show A.in1.handled=none from hh) st.1 rfl (by simp) fun h' e x ho=>⟨ho,⟨e,rfl⟩,hQ h' s.toks fun b o hb eb=>x b o (by simpa using hb) eb⟩
  self:=fun i s Q E st q=>seti_self st.1 q
theorem walks_led (bt:w.params.followText "set-order" = false) (hh:A.handled=none) {I D:Addr} (DI:D≠I) {es:Array (Int × Value)} {ep:Nat} {t:SetTable} (hf:t.fits es.size=true) (hl:t.led=true) (hz:es.size≤1) :
    Walks prog w A I [I,D] [I] es.size (fun i v=>(es.toList.map (·.2))[i]?=some v) (fun i h=>h.get? I=some (setIt (rawInt (if i=0 then 0 else ((t.place.getD 0 0:Nat):Int)+1)) i D es.size ep)∧setAt D es ep t h) where
  sub:=fun b hb=>by simp at hb;simp [hb]
  frame:=fun i h h' st k=>⟨k I (by simp) _ st.1,k D (by simp) _ st.2⟩
  item:=fun i s Q E hi st hQ=>by
    have i0:i=0:=by omega
    subst i0
    have pz:t.place.size=es.size:=by
      unfold SetTable.fits at hf
      simp only [Bool.and_eq_true,beq_iff_eq] at hf
      exact hf.1
    obtain ⟨p,hp⟩:∃ p,t.place=#[p]:=Array.size_eq_one_iff.mp (by omega)
    obtain ⟨en,hen⟩:∃ en,es=#[en]:=Array.size_eq_one_iff.mp (by omega)
    refine seti_next st.1 (seti_pre st.1 st.2 hf ?_)
    show wpAny _ _ (setNext D 0 0 ep >>= _) _ _ s
    refine wpAny_bind (setNext_led bt st.2 hf hl hz ?_)
    rw [hp,(below_one p).1,hen]
    show wpAny _ _ (do setField (.ref I) 0 (rawInt ((p+1:Nat):Int));setField (.ref I) 1 (rawInt (((0:Nat):Int)+1));ret en.2) _ _ s
    refine wpAny_bind (wpAny_setField st.1 rfl (by simp) ?_)
    have e1:(s.heap.update I (Obj.mapFields fun vs=>vs.setIfInBounds 0 (rawInt ((p+1:Nat):Int)))).get? I=some (setIt (rawInt ((p+1:Nat):Int)) 0 D es.size ep):=by
      rw [Heap.get?_update_self _ st.1 rfl];rfl
    refine wpAny_bind (wpAny_setField (s:={ s with heap:=s.heap.update I (Obj.mapFields fun vs=>vs.setIfInBounds 0 (rawInt ((p+1:Nat):Int))) }) e1 rfl (by simp) (wpAny_pure ⟨_,rfl,?_⟩))
    refine hQ _ _ s.toks ?_ ⟨?_,?_⟩ (fun b o hb eb=>?_)
    · rw [hen];rfl
    · have:=seti_get (g:=rawInt 0) (j:=0) e1
      rw [hp]
      exact this
    · exact (Heap.get?_update_ne _ _ _ _ DI).trans ((Heap.get?_update_ne _ _ _ _ DI).trans st.2)
    · have nb:b≠I:=by simpa using hb
      rw [Heap.get?_update_ne _ _ _ _ nb,Heap.get?_update_ne _ _ _ _ nb];exact eb
  done:=fun s Q E st hQ=>by
    have pz:t.place.size=es.size:=by
      unfold SetTable.fits at hf
      simp only [Bool.and_eq_true,beq_iff_eq] at hf
      exact hf.1
    refine seti_next st.1 (seti_pre st.1 st.2 hf ?_)
    have fin:wpAny (model prog w) A.in1 (do setField (.ref I) 2 .none;let __do_lift ← newExc (.type "StopIteration") [];raiseNew __do_lift) (fun fin s'=>∃ v,fin=Fin.done (Flow.ret v)∧Q (some v) s') (fun e s'=>(∃ o,s'.heap.get? (match e with | .ref a=>a | _=>0)=some o∧o.cls=.type "StopIteration")∧(∃ a,e=.ref a)∧Q none s') s:=
      seti_stop (show A.in1.handled=none from hh) st.1 rfl (by simp) fun h' e x ho=>⟨ho,⟨e,rfl⟩,hQ h' s.toks fun b o hb eb=>x b o (by simpa using hb) eb⟩
    rcases Nat.eq_zero_or_pos es.size with z | z
    · rw [if_pos z]
      show wpAny _ _ (setNext D 0 es.size ep >>= _) _ _ s
      refine wpAny_bind (setNext_led bt st.2 hf hl hz ?_)
      have:es=#[]:=Array.eq_empty_of_size_eq_zero z
      rw [this]
      exact fin
    · rw [if_neg (by omega)]
      obtain ⟨p,hp⟩:∃ p,t.place=#[p]:=Array.size_eq_one_iff.mp (by omega)
      obtain ⟨en,hen⟩:∃ en,es=#[en]:=Array.size_eq_one_iff.mp (by omega)
      have e0:((t.place.getD 0 0:Nat):Int)+1=((p+1:Nat):Int):=by rw [hp];rfl
      rw [e0]
      show wpAny _ _ (setNext D (p+1) es.size ep >>= _) _ _ s
      refine wpAny_bind (setNext_led bt st.2 hf hl hz ?_)
      rw [hp,(below_one p).2,hen]
      exact fin
  self:=fun i s Q E st q=>seti_self st.1 q
theorem walks_drawn (hh:A.handled=none) {I D T:Addr} (DI:D≠I) (TI:T≠I) {es:Array (Int × Value)} {ep:Nat} {t:SetTable} (hf:t.fits es.size=true) {ps:List Nat} (hp:ps.Perm (List.range es.size)) :
    Walks prog w A I [I,D,T] [I] es.size (fun i v=>(ps.map fun p=>(es.toList.getD p (0,.none)).2)[i]?=some v) (fun i h=>h.get? I=some (setIt (.ref T) i D es.size ep)∧setAt D es ep t h∧h.get? T=some { cls:=.type "tuple", data:=.seq (ps.map fun p:Nat=>rawInt (p:Int)).toArray }) where
  sub:=fun b hb=>by simp at hb;simp [hb]
  frame:=fun i h h' st k=>⟨k I (by simp) _ st.1,k D (by simp) _ st.2.1,k T (by simp) _ st.2.2⟩
  item:=fun i s Q E hi st hQ=>by
    have pl:ps.length=es.size:=by have:=hp.length_eq;simpa using this
    have ei:ps[i]?=some (ps[i]'(by omega)):=List.getElem?_eq_getElem _
    have pil:ps[i]'(by omega) < es.size:=List.mem_range.mp (hp.mem_iff.mp (List.getElem_mem _))
    refine seti_next st.1 (seti_pre st.1 st.2.1 hf ?_)
    show wpAny _ _ (seqItems? (.ref T) >>= _) _ _ s
    refine wpAny_bind (wpAny_seqItems st.2.2 rfl ?_)
    dsimp only
    have eg:(ps.map fun p:Nat=>rawInt (p:Int)).toArray[i]?=some (.int ((ps[i]'(by omega):Nat):Int) 0):=by
      rw [List.getElem?_toArray,List.getElem?_map,ei];rfl
    rw [eg]
    dsimp only
    unfold setNextDrawn
    refine wpAny_bind (wpAny_bind (wpAny_setState_of st.2.1 rfl hf ?_))
    dsimp only
    rw [if_neg (by simp),Int.toNat_natCast,Array.getElem?_eq_getElem pil]
    dsimp only
    refine wpAny_pure ?_
    refine wpAny_bind (wpAny_setField st.1 rfl (by simp) (wpAny_pure ⟨_,rfl,?_⟩))
    refine hQ _ _ s.toks ?_ ⟨seti_get (g:=rawInt 0) (j:=0) st.1,?_,?_⟩ (fun b o hb eb=>?_)
    · rw [List.getElem?_map,ei]
      show some ((es.toList.getD (ps[i]'(by omega)) (0,.none)).2)=_
      rw [List.getD_eq_getElem?_getD,Array.getElem?_toList,Array.getElem?_eq_getElem pil];rfl
    · exact (Heap.get?_update_ne _ _ _ _ DI).trans st.2.1
    · rw [Heap.get?_update_ne _ _ _ _ TI];exact st.2.2
    · have nb:b≠I:=by simpa using hb
      rw [Heap.get?_update_ne _ _ _ _ nb];exact eb
  done:=fun s Q E st hQ=>by
    have pl:ps.length=es.size:=by have:=hp.length_eq;simpa using this
    refine seti_next st.1 (seti_pre st.1 st.2.1 hf ?_)
    show wpAny _ _ (seqItems? (.ref T) >>= _) _ _ s
    refine wpAny_bind (wpAny_seqItems st.2.2 rfl ?_)
    dsimp only
    rw [show (ps.map fun p:Nat=>rawInt (p:Int)).toArray[es.size]?=none by rw [List.getElem?_toArray,List.getElem?_map,List.getElem?_eq_none (by omega)];rfl]
    dsimp only
    refine wpAny_bind (wpAny_setField st.1 rfl (by simp) ?_)
    have e1:(s.heap.update I (Obj.mapFields fun vs=>vs.setIfInBounds 0 (rawInt 0))).get? I=some (setIt (rawInt 0) es.size D es.size ep):=by
      rw [Heap.get?_update_self _ st.1 rfl];rfl
    refine seti_stop (s:={ s with heap:=s.heap.update I (Obj.mapFields fun vs=>vs.setIfInBounds 0 (rawInt 0)) }) (show A.in1.handled=none from hh) e1 rfl (by simp) fun h' e x ho=>⟨ho,⟨e,rfl⟩,hQ h' s.toks fun b o hb eb=>x b o (by simpa using hb) (by
      have nb:b≠I:=by simpa using hb
      rw [Heap.get?_update_ne _ _ _ _ nb];exact eb)⟩
  self:=fun i s Q E st q=>seti_self st.1 q
end
end L2
namespace L2
open PySem PySem.Spec PyProof.Rows PySem.W
section
variable {prog:Program} {w:World} {A:Around} {E:Value→Shared→Prop} {s:Shared}
theorem range_map_getD {α β:Type} (f:α→β) (l:List α) (d:α):((List.range l.length).map fun p=>f (l.getD p d))=l.map f:=by
  apply List.ext_getElem
  · simp
  · intro i h1 h2
    simp only [List.length_map] at h2
    rw [List.getElem_map,List.getElem_range,List.getElem_map,List.getD_eq_getElem?_getD,List.getElem?_eq_getElem h2];rfl
theorem set_iter {D:Addr} {es:Array (Int × Value)} {ep:Nat} {t:SetTable} {S:List Str} {Q:Value→Shared→Prop} (hD:setAt D es ep t s.heap) (hS:SetS w (ledOf w) es t S) (hz:es.size≤1000)
    (h:∀ (I:Addr) (fp:List Addr) (St:Nat→Heap→Prop) (vs:List Value) (h1:Heap) (d:Drawn),(∀ A':Around,A'.handled=none→Walks prog w A' I fp [I] es.size (fun i v=>vs[i]?=some v) St)→St 0 h1→s.heap.objs.size≤I→(∀ b∈fp,b < h1.objs.size)→(∀ b o,s.heap.get? b=some o→h1.get? b=some o)→vs.Perm (es.toList.map (·.2))→h1.get? I≠none→(∀ b∈fp,b=I∨b=D∨s.heap.objs.size≤b)→Q (.ref I) { s with heap:=h1,drawn:=d }) :
    wpAny (model prog w) A (pyIter (.ref D)) Q E s:=by
  have hT:s.TypeIs (.ref D) "set" := ⟨_,hD,rfl⟩
  have Dlt:D < s.heap.objs.size:=Heap.lt_size hD
  refine wpAny_pyIter_slot hT F.slot_set_iter (wpAny_call_entry F.slot_set_iter hT entry_set_iter ?_ (F.args_set_iter_1 _))
  unfold Builtin.«frozenset.__iter__» Builtin.Frozenset.slot0
  refine wpAny_bind (wpAny_bind ?_)
  show wpAny _ _ (pure (Value.ref D,[])) _ _ _
  refine wpAny_pure ?_
  show wpAny _ _ (pure D) _ _ _
  refine wpAny_pure ?_
  unfold Builtin.Frozenset.sizeOf setEntries
  refine wpAny_bind (wpAny_bind (wpAny_bind (wpAny_setState_of hD rfl hS.fit (wpAny_pure (wpAny_pure ?_)))))
  unfold setDrawn
  refine wpAny_bind (wpAny_bind (wpAny_setState_of hD rfl hS.fit ?_))
  dsimp only
  refine wpAny_bind (by_text (wpAny_pure ?_))
  have szp:∀ (g:Heap) (o:Obj),(g.push o).objs.size=g.objs.size+1:=fun g o=>Heap.size_push ..
  by_cases dr:(!w.params.followText "set-order" && (!t.plain && decide (es.size > 1)))=true
  · refine wpAny_ite_true ?_ ?_
    · exact decide_eq_true dr
    refine wpAny_bind (draw_ok es.size (List.range es.size) _ _ (by simp) fun ps d hp=>?_)
    have pl:ps.length=es.size:=by have:=hp.length_eq;simpa using this
    unfold newTuple
    refine wpAny_bind (wpAny_newObj_type ?_ (by
      show (ps.map fun i:Nat=>rawInt (i:Int)).toArray.size≤sizeLine
      rw [List.size_toArray,List.length_map,sizeLine_eq];omega))
    unfold setEpoch
    have hD1:setAt D es ep t (s.heap.push { cls:=.type "tuple", data:=.seq (ps.map fun i:Nat=>rawInt (i:Int)).toArray }):=Heap.get?_push_of_some _ hD
    refine wpAny_bind (wpAny_bind (wpAny_setState_of (s:={ s with heap:=s.heap.push { cls:=.type "tuple", data:=.seq (ps.map fun i:Nat=>rawInt (i:Int)).toArray },drawn:=d }) hD1 rfl hS.fit (wpAny_pure ?_)))
    dsimp only
    unfold newFields
    refine wpAny_bind (wpAny_newObj_type ?_)
    refine wpAny_pure ⟨_,rfl, "set_iterator", _,⟨_,Heap.get?_push_size _ rfl,rfl⟩,slot_seti_next.lookup,?_⟩
    have TI:s.heap.objs.size≠(s.heap.push { cls:=.type "tuple", data:=.seq (ps.map fun i:Nat=>rawInt (i:Int)).toArray }).objs.size:=by rw [szp];omega
    have DI:D≠(s.heap.push { cls:=.type "tuple", data:=.seq (ps.map fun i:Nat=>rawInt (i:Int)).toArray }).objs.size:=by rw [szp];exact Nat.ne_of_lt (Nat.lt_succ_of_lt Dlt)
    refine h _ _ _ _ _ d (fun A' hA'=>walks_drawn (T:=s.heap.objs.size) hA' DI TI hS.fit hp) ⟨Heap.get?_push_size _ rfl,Heap.get?_push_of_some _ hD1,Heap.get?_push_of_some _ (Heap.get?_push_size _ rfl)⟩ ?_ ?_ (fun b o e=>Heap.get?_push_of_some _ (Heap.get?_push_of_some _ e)) ?_ ?_ ?_
    · rw [szp];omega
    · intro b hb
      rw [szp,szp]
      simp only [List.mem_cons,List.not_mem_nil,or_false] at hb
      rcases hb with rfl | rfl | rfl
      · rw [szp];exact Nat.lt_succ_self _
      · exact Nat.lt_succ_of_lt (Nat.lt_succ_of_lt Dlt)
      · exact Nat.lt_succ_of_lt (Nat.lt_succ_self _)
    · have:=hp.map (fun p=>(es.toList.getD p (0,.none)).2)
      have e2:=range_map_getD (fun e:Int × Value=>e.2) es.toList (0,.none)
      rw [Array.length_toList] at e2
      rw [e2] at this
      exact this
    · rw [Heap.get?_push_size _ rfl];simp
    · intro b hb
      simp only [List.mem_cons,List.not_mem_nil,or_false] at hb
      rcases hb with rfl | rfl | rfl
      · exact .inl rfl
      · exact .inr (.inl rfl)
      · exact .inr (.inr (Nat.le_refl _))
  · refine wpAny_ite_false ?_ ?_
    · exact decide_eq_false dr
    refine wpAny_bind (wpAny_pure ?_)
    unfold setEpoch
    refine wpAny_bind (wpAny_bind (wpAny_setState_of hD rfl hS.fit (wpAny_pure ?_)))
    dsimp only
    unfold newFields
    refine wpAny_bind (wpAny_newObj_type ?_)
    refine wpAny_pure ⟨_,rfl, "set_iterator", _,⟨_,Heap.get?_push_size _ rfl,rfl⟩,slot_seti_next.lookup,?_⟩
    have DI:D≠s.heap.objs.size:=Nat.ne_of_lt Dlt
    have fpl:∀ b∈[s.heap.objs.size,D],b < (s.heap.push (setIt (rawInt 0) 0 D es.size ep)).objs.size:=fun b hb=>by
      rw [szp]
      simp only [List.mem_cons,List.not_mem_nil,or_false] at hb
      rcases hb with rfl | rfl
      · exact Nat.lt_succ_self _
      · exact Nat.lt_succ_of_lt Dlt
    have fpw:∀ b∈[s.heap.objs.size,D],b=s.heap.objs.size∨b=D∨s.heap.objs.size≤b:=fun b hb=>by
      simp only [List.mem_cons,List.not_mem_nil,or_false] at hb
      rcases hb with rfl | rfl
      · exact .inl rfl
      · exact .inr (.inl rfl)
    cases bt:w.params.followText "set-order" with
    | true=>
      refine h _ _ _ _ _ s.drawn (fun A' hA'=>walks_text bt hA' DI hS.fit) ⟨Heap.get?_push_size _ rfl,Heap.get?_push_of_some _ hD⟩ (Nat.le_refl _) fpl (fun b o e=>Heap.get?_push_of_some _ e) ((pick_perm _ es).map _) (by rw [Heap.get?_push_size _ rfl];simp) fpw
    | false=>
      have hl:t.led=true:=by rw [hS.led];unfold ledOf;rw [bt];rfl
      have z1:es.size≤1:=by
        rcases hS.pl with z | z
        · omega
        · rw [bt,z] at dr
          have:¬ es.size > 1:=fun c=>dr (by simp [c])
          omega
      refine h _ _ _ _ _ s.drawn (fun A' hA'=>walks_led bt hA' DI hS.fit hl z1) ⟨Heap.get?_push_size _ rfl,Heap.get?_push_of_some _ hD⟩ (Nat.le_refl _) fpl (fun b o e=>Heap.get?_push_of_some _ e) (List.Perm.refl _) (by rw [Heap.get?_push_size _ rfl];simp) fpw
theorem hint_set {r:Addr} {Q:Bool→Shared→Prop} (hT:s.TypeIs (.ref r) "set") (h:Q false s):wpAny (model prog w) A (Builtin.List.listLengthHint (.ref r)) Q E s:=by
  unfold Builtin.List.listLengthHint
  refine wpAny_bind (wpAny_specialOf hT F.slot_set_len.lookup ?_)
  dsimp only
  rw [show splitId "set.__len__" = some ("set", "__len__") by kernel_rfl]
  dsimp only
  refine wpAny_bind (wpAny_isInstance hT F.sub_set_set ?_)
  rw [if_neg (by decide)]
  refine wpAny_ite_true (by kernel_rfl) ?_
  refine wpAny_bind (wpAny_typeOf hT ?_)
  exact wpAny_pure h
end
end L2
namespace L2
open PySem PySem.Spec PyProof.Rows PySem.W
section
variable {prog:Program} {w:World} {A:Around} {E:Value→Shared→Prop} {s:Shared}
theorem set_collect {D:Addr} {es:Array (Int × Value)} {ep:Nat} {t:SetTable} {S:List Str} {Q:List Value→Shared→Prop} (hD:setAt D es ep t s.heap) (hS:SetS w (ledOf w) es t S) (hh:A.handled=none) (hz:es.size≤1000)
    (h:∀ h' tk d acc,(∀ b o,s.heap.get? b=some o→h'.get? b=some o)→s.heap.objs.size≤h'.objs.size→acc.Perm (es.toList.map (·.2))→Q acc { s with heap:=h',toks:=tk,drawn:=d }) :
    wpAny (model prog w) A (collect (.ref D)) Q E s:=by
  have Dlt:D < s.heap.objs.size:=Heap.lt_size hD
  unfold collect
  refine wpAny_bind (wpAny_runValue (codeAny_builtin F.entry_proto_collect ?_))
  rw [Around.under_plainId F.plain_proto_collect _]
  show wpAny _ A.in1 (newList [] >>= fun l=>again (.builtin "list.__iadd__" ⟨[l,.ref D],[]⟩)) _ _ s
  refine wpAny_bind (wpAny_newObj_type ?_)
  refine wpAny_pure ⟨plainId_quiet F.plain_list_iadd _,codeAny_builtin F.entry_list_iadd ?_⟩
  rw [Around.under_plainId F.plain_list_iadd _]
  show wpAny _ A.in1 (Builtin.List.listExtendWith (.ref s.heap.objs.size) (.ref D) (.ref s.heap.objs.size)) _ _ _
  have hS₁:(s.heap.push { cls:=.type "list", data:=.seq ([]:List Value).toArray }).get? s.heap.objs.size=some { cls:=.type "list", data:=.seq #[] 0 }:=Heap.get?_push_size _ rfl
  have hD1:setAt D es ep t (s.heap.push { cls:=.type "list", data:=.seq ([]:List Value).toArray }):=Heap.get?_push_of_some _ hD
  have szp:(s.heap.push { cls:=.type "list", data:=.seq ([]:List Value).toArray }).objs.size=s.heap.objs.size+1:=Heap.size_push ..
  have old1:∀ b o,s.heap.get? b=some o→(s.heap.push { cls:=.type "list", data:=.seq ([]:List Value).toArray }).get? b=some o:=fun b o e=>Heap.get?_push_of_some _ e
  generalize s.heap.push { cls:=.type "list", data:=.seq ([]:List Value).toArray }=g at hS₁ hD1 szp old1
  have hT:({ s with heap:=g }:Shared).TypeIs (.ref D) "set" := ⟨_,hD1,rfl⟩
  unfold Builtin.List.listExtendWith
  refine wpAny_bind (wpAny_typeOf hT ?_)
  rw [if_neg (by
    have:(s.heap.objs.size == D)=false:=by simpa using Nat.ne_of_gt Dlt
    show ¬ (((s.heap.objs.size == D) || _ || _)=true)
    rw [this];decide)]
  refine wpAny_bind (set_iter (s:={ s with heap:=g }) hD1 hS hz fun I fp St vs h1 d Wk st0 Ige fpl old2 vp hI fpw=>?_)
  have hT2:({ s with heap:=h1,drawn:=d }:Shared).TypeIs (.ref D) "set" := ⟨_,old2 _ _ hD1,rfl⟩
  refine wpAny_bind (wpAny_holding (hint_set hT2 ?_))
  dsimp only
  have Ige':s.heap.objs.size+1≤I:=by rw [← szp];exact Ige
  have vl:vs.length=es.size:=by have:=vp.length_eq;simpa using this
  have hS2:=old2 _ _ hS₁
  have nfp:s.heap.objs.size ∉ fp:=fun hm=>by
    rcases fpw _ hm with z | z | z
    · have z':s.heap.objs.size=I:=z
      rw [← z'] at Ige'
      exact Nat.not_succ_le_self _ Ige'
    · have z':s.heap.objs.size=D:=z
      rw [z'] at Dlt
      exact Nat.lt_irrefl _ Dlt
    · rw [szp] at z
      have z':s.heap.objs.size+1≤s.heap.objs.size:=z
      omega
  have fin:∀ (c0:Nat) (h2:Heap),h2.get? s.heap.objs.size=some { cls:=.type "list", data:=.seq #[] c0 }→(∀ b o,b≠s.heap.objs.size→h1.get? b=some o→h2.get? b=some o) →
      codeAny (model prog w) A (.builtin "list.extend.loop" ⟨[.ref s.heap.objs.size,.ref I,.ref s.heap.objs.size],[]⟩) (fun r s'=>match r with | .ok (.ret v)=>wpAny (model prog w) A (match v with | .ref a=>(do let __do_lift ← load a;match __do_lift.data with | .seq xs _=>pure xs.toList | _=>unsupported "internal:collect") | _=>unsupported "internal:collect") Q E s' | .ok _=>False | .error e=>E e s') { s with heap:=h2,drawn:=d }:=fun c0 h2 hg2 k2=>by
    refine codeAny_extend_loopS (Wk A.in1 hh).toS (by rw [sizeLine_eq];omega) s.heap.objs.size nfp (.ref s.heap.objs.size) es.size 0 _ #[] c0 (Nat.sub_zero _) (Nat.zero_le _) ((Wk A.in1 hh).frame 0 _ _ st0 fun b hb o e=>k2 b o (fun z=>nfp (by rw [← z];exact hb)) e) hg2 ⟨rfl,fun j v hj=>by simp at hj⟩ fun s' acc' c' mv hg3 it=>?_
    obtain ⟨hp',gn',dr',tk',os'⟩:=s'
    have e1:gn'=s.gens:=mv.gens
    have e2:dr'=d:=mv.drawn
    have e3:os'=s.os:=mv.os
    subst e1;subst e2;subst e3
    refine wpAny_bind (wpAny_load hg3 (wpAny_pure ?_))
    have ea:acc'.toList=vs:=by
      apply List.ext_getElem?
      intro i
      rcases Nat.lt_or_ge i es.size with c | c
      · have hi:i < acc'.size:=by rw [it.1];exact c
        have:=it.2 i acc'[i] (Array.getElem?_eq_getElem hi)
        rw [Array.getElem?_toList,Array.getElem?_eq_getElem hi,this]
      · rw [Array.getElem?_toList,Array.getElem?_eq_none (by rw [it.1];exact c),List.getElem?_eq_none (by omega)]
    rw [ea]
    refine h hp' tk' _ vs (fun b o e=>?_) ?_ vp
    · have bl:b≠s.heap.objs.size:=Nat.ne_of_lt (Heap.lt_size e)
      have bI:b≠I:=fun z=>by
        have h1:b < s.heap.objs.size:=Heap.lt_size e
        have h2:b=I:=z
        have h3:I < s.heap.objs.size:=by rw [← h2];exact h1
        exact absurd (Nat.lt_of_lt_of_le h3 (Nat.le_of_succ_le Ige')) (Nat.lt_irrefl _)
      exact mv.heap b o (by simp [bl,bI]) (k2 b o bl (old2 _ _ (old1 _ _ e)))
    · exact Nat.le_of_lt (Heap.lt_size hg3)
  rw [if_pos (by decide +kernel)]
  refine wpAny_bind (wpAny_rule (wpAny_bind ?_))
  unfold Builtin.List.listTouch
  refine wpAny_bind (listUpdate_at (a:=s.heap.objs.size) (s:={ s with heap:=h1,drawn:=d }) hS2 rfl ?_ (Nat.zero_le _) (by show 1≤sizeLine+1;omega))
  have g1:=get?_update_seq hS2 (fun x=>x.push Value.none)
  refine listUpdate_at (a:=s.heap.objs.size) (s:={ s with heap:=h1.update s.heap.objs.size (Obj.mapSeq fun x=>x.push Value.none),drawn:=d }) g1 rfl ?_ (by show 1≤sizeLine;rw [sizeLine_eq];decide) (Nat.zero_le _)
  have g2:=get?_update_seq g1 (fun x=>x.pop)
  refine wpAny_pure ⟨plainId_quiet (by kernel_rfl) _,?_⟩
  exact fin _ _ g2 fun b o n e=>(Heap.get?_update_ne _ _ _ _ n).trans ((Heap.get?_update_ne _ _ _ _ n).trans e)
theorem perm_strs:∀ {es:List (Int × Value)} {acc:List Value},(∀ e∈es,∃ x tk,e=(hashStr w x,Value.str x tk))→acc.Perm (es.map (·.2))→∃ ss,StrsAre acc ss∧ss.Perm (es.map keyOf):=fun {es acc} he hp=>by
  let f:Value→Str:=fun v=>match v with | .str x _=>x | _=>Str.empty
  have hall:∀ v∈acc,∃ x tk,v=Value.str x tk:=fun v hv=>by
    obtain ⟨e,hm,rfl⟩:=List.mem_map.mp (hp.mem_iff.mp hv)
    obtain ⟨x,tk,rfl⟩:=he e hm
    exact ⟨x,tk,rfl⟩
  have go:∀ (l:List Value),(∀ v∈l,∃ x tk,v=Value.str x tk)→StrsAre l (l.map f):=fun l=>by
    induction l with
    | nil=>intro _;exact .nil
    | cons v r ih=>
      intro hl
      obtain ⟨x,tk,rfl⟩:=hl v List.mem_cons_self
      exact .cons x tk (ih fun u hu=>hl u (List.mem_cons_of_mem _ hu))
  refine ⟨acc.map f,go acc hall,?_⟩
  have:=hp.map f
  rw [List.map_map] at this
  have e2:es.map (f ∘ fun e=>e.2)=es.map keyOf:=List.map_congr_left fun e _=>rfl
  rw [e2] at this
  exact this
theorem set_sorted {D:Addr} {S:List Str} {n:Nat} {Q:Value→Shared→Prop} (hA:SetA w (ledOf w) s.heap D S n) (hh:A.handled=none) (hn:n < 64)
    (h:∀ h' tk d l out ss' e,(∀ b o,s.heap.get? b=some o→h'.get? b=some o)→s.heap.objs.size≤l→h'.get? l=some (seqObj "list" out e)→StrsAre out.toList ss'→ss'.Nodup→(∀ x,x∈ss' ↔ x∈S)→sortedS ss'=true→ss'.length≤n→Q (.ref l) { s with heap:=h',toks:=tk,drawn:=d }) :
    wpAny (model prog w) A (call (.builtin "sorted") [.ref D]) Q E s:=by
  obtain ⟨es,ep,t,hD,hS,hsz⟩:=hA
  refine Calls.call_function_entry kind_sorted plain_sorted entry_sorted (args_sorted1 _) ?_
  unfold Builtin.«sorted»
  refine wpAny_bind (m:=checkCount "sorted" 1 1 _) (wpAny_pure ?_)
  refine wpAny_bind (set_collect (A:=A.in1) hD hS hh (by omega) fun h1 tk d acc old1 sz1 hp=>?_)
  obtain ⟨ss,hv,hpk⟩:=perm_strs hS.ent hp
  have al:acc.length=es.size:=by have:=hp.length_eq;simpa using this
  have fz:acc.length≤sizeLine:=by rw [sizeLine_eq];omega
  refine wpAny_bind (wpAny_newList ?_ fz)
  have hDL:(h1.push (seqObj "list" acc.toArray 0)).get? h1.objs.size=some (seqObj "list" acc.toArray 0):=Heap.get?_push_size _ rfl
  refine wpAny_bind (wpAny_holding (wpAny_call_entry slot_list_sort ⟨_,hDL,rfl⟩ entry_list_sort (list_sort_treeK (s:={ s with heap:=h1.push (seqObj "list" acc.toArray 0),toks:=tk,drawn:=d }) strKind_oneLt hDL (StrsAre.keysOf hv) (fun v₁ v₂ rest e=>keyKind_strs (by rw [← e];exact hv)) (by omega) fun st' a1 a2=>⟨_,rfl,?_⟩) (args_list_sort _)))
  obtain ⟨ss',b1,b2,b3⟩:=sorted_out_str hv a1 a2
  obtain ⟨e,he⟩:=sortedHeap_at hDL
  refine wpAny_pure ⟨_,rfl,h _ tk d h1.objs.size _ ss' e (fun b o eb=>?_) sz1 he b1 ?_ (fun x=>?_) b3 ?_⟩
  · have lt:=Heap.lt_size (old1 _ _ eb)
    rw [sortedHeap_old (Nat.ne_of_lt lt) (by rw [show (h1.push (seqObj "list" acc.toArray 0)).objs.size=h1.objs.size+1 from Heap.size_push ..];exact Nat.lt_succ_of_lt lt)]
    exact Heap.get?_push_of_some _ (old1 _ _ eb)
  · exact (b2.trans hpk).nodup_iff.mpr hS.nd
  · rw [(b2.trans hpk).mem_iff];exact hS.mem x
  · have t1:(es.toList.map keyOf).length=es.size:=by rw [List.length_map,Array.length_toList]
    have t2:=(b2.trans hpk).length_eq
    exact Nat.le_trans (Nat.le_of_eq (t2.trans t1)) hsz
end
end L2
namespace L2
open PySem PySem.Spec PyProof.Rows PySem.W
theorem Inv.drawn {X:Cx} {pins:List (Addr × Obj)} {σ:St} {H:Hp} {s:Shared} (I:Inv X pins σ H s) (d:Drawn):Inv X pins σ H { s with drawn:=d }:=
  ⟨I.ok,I.os,I.bare,I.base,I.loc,I.cell,I.free,I.freeC,I.pin,I.hok,I.len⟩
theorem bt_set:bootBuiltins "set" = some (.type "set"):=by kernel_rfl
theorem bt_sorted':bootBuiltins "sorted" = some (.builtin "sorted"):=by kernel_rfl
section
variable {X:Cx} {a:Expr} {ta:TA} {p p2 pos pos2:Pos}
end
end L2
namespace L2
open PySem PySem.Spec PyProof.Rows PySem.W
section
variable {X:Cx}
theorem mt_index:MtM X "list.index" (fun x vs H Q=>∃ (l:Addr) (ss:List Str) (y:Str),x=.ref l∧vs=[.str y]∧H l=some (.lst (ss.map V.str))∧y∈ss∧ss.length≤1000∧Q (.int ((ss.idxOf y:Nat):Int)) H):=by
  intro pins s σ H x vs v us Q I rx rv h
  obtain ⟨l,ss,y,rfl,rfl,hH,hm,hl,q⟩:=h
  cases rx
  obtain ⟨u,rfl,ru⟩:=rv.one
  have ru0:=ru
  obtain ⟨ty,rfl⟩:=ru
  obtain ⟨z,its,n,r,hz,e⟩:=I.lstM hH
  have rl:=r.length
  rw [List.length_map] at rl
  have jl:ss.idxOf y < ss.length:=List.idxOf_lt_length_of_mem hm
  have key:∀ (j:Nat) (hj:j < its.toArray.size),eqU (V.str y) its.toArray[j]=(ss[j]'(by rw [rl];simpa using hj) == y):=fun j hj=>by
    have hj':j < ss.length:=by rw [rl];simpa using hj
    obtain ⟨w',e1,e2⟩:=r.get (i:=j) (x:=V.str (ss[j])) (by rw [List.getElem?_map,List.getElem?_eq_getElem hj'];rfl)
    obtain ⟨t',rfl⟩:=e2
    have:its.toArray[j]=Value.str ss[j] t':=by
      rw [List.getElem?_eq_getElem (by omega)] at e1
      simpa using Option.some.inj e1
    rw [this]
    rfl
  refine call_meets F.slot_list_index ⟨_,e,rfl⟩ F.entry_list_index (F.args_list_index_2 _ _) (SeqAt.list_indexAt l its.toArray n none #[] (.str y ty) (eqU (V.str y)) (ss.idxOf y) (by rw [List.size_toArray];omega) (by omega) ?_ ?_) ⟨e,fun u hu=>mem_eqAt (x:=V.str y) ru0 rfl r (flat_strs ss) u (by simpa using hu),?_⟩
  · rw [key _ (by rw [List.size_toArray];omega),List.getElem_idxOf jl];exact beq_self_eq_true y
  · intro m hm' hlt
    rw [key m hm']
    have:=List.not_of_lt_findIdx (p:=(· == y)) (xs:=ss) (i:=m) hlt
    simpa using this
  · exact ⟨.int _,H,I.tok _,⟨_,rfl⟩,q⟩
end
end L2
namespace L2
open PySem PySem.Spec PyProof.Rows PySem.W
section
variable {X:Cx}
def rIndex:V→List V→Hp→VK→Prop:=fun x vs H Q=>∃ (l:Addr) (ss:List Str) (y:Str),x=.ref l∧vs=[.str y]∧H l=some (.lst (ss.map V.str))∧y∈ss∧ss.length≤1000∧Q (.int ((ss.idxOf y:Nat):Int)) H
theorem pe_indexK (K:PySem.W.Frag) {o e:Expr} {to te:TE} {apos cpos:Pos} (ho:PE X o to) (he:PE X e te) (hK:X.K=K:=by rfl) (hbase:attributeBase o "index" X.env (eval o X.env)=eval o X.env:=by rfl)
    (h1:starEach [e] X.env=[(false,eval e X.env)]:=by rfl) (hl:(apos.endLine == cpos.line)=true:=by rfl) :
    PE X (.Call (.Attribute o "index" apos) [e] [] cpos) (tBM K "list" rIndex to (tCons te tNil)):=by
  subst hK
  exact pe_bm PySem.F.plainAttrs_list PySem.F.slot_list_index PySem.F.type_list_index mt_index ho (pa_cons he pa_nil h1) hbase (by rw [h1];rfl) hl h1 (by rfl)
end
end L2
namespace L2
open PySem PySem.Spec PyProof.Rows
section
variable {κ:Type} [DecidableEq κ]
def valV (kvs:List (κ × V)) (k:κ):Option V:=(kvs.find? fun kv=>decide (kv.1=k)).map (·.2)
def putK (kvs:List (κ × V)) (k:κ) (v:V):List (κ × V):=
  if (kvs.any fun kv=>decide (kv.1=k))=true then kvs.map (fun kv=>if kv.1=k then (kv.1,v) else kv) else kvs++[(k,v)]
theorem valV_pos {p:κ × V} {r:List (κ × V)} {k:κ} (e:p.1=k):valV (p :: r) k=some p.2:=by simp [valV,List.find?_cons,e]
theorem valV_neg {p:κ × V} {r:List (κ × V)} {k:κ} (e:¬ p.1=k):valV (p :: r) k=valV r k:=by simp [valV,List.find?_cons,e]
theorem valV_any (k:κ):∀ kvs:List (κ × V),(kvs.any fun kv=>decide (kv.1=k))=(valV kvs k).isSome
  | []=>rfl
  | p :: r=>by
    rw [List.any_cons]
    by_cases e:p.1=k
    · simp only [valV_pos e,decide_eq_true e,Bool.true_or,Option.isSome_some]
    · rw [valV_neg e,decide_eq_false e,Bool.false_or];exact valV_any k r
theorem valV_map (k j:κ) (y:V):∀ kvs:List (κ × V),valV (kvs.map fun kv=>if kv.1=k then (kv.1,y) else kv) j=(valV kvs j).map fun x=>if j=k then y else x
  | []=>rfl
  | p :: r=>by
    have ih:=valV_map k j y r
    rw [List.map_cons]
    by_cases h:p.1=k
    · rw [if_pos h]
      by_cases e:p.1=j
      · rw [valV_pos (p:=(p.1,y)) e,valV_pos e,Option.map_some,if_pos (e.symm.trans h)]
      · rw [valV_neg (p:=(p.1,y)) e,valV_neg e,ih]
    · rw [if_neg h]
      by_cases e:p.1=j
      · rw [valV_pos (p:=p) e,valV_pos e,Option.map_some,if_neg (fun z=>h (e.trans z))]
      · rw [valV_neg (p:=p) e,valV_neg e,ih]
theorem valV_snoc (k j:κ) (y:V):∀ kvs:List (κ × V),valV kvs k=none→valV (kvs++[(k,y)]) j=if j=k then some y else valV kvs j
  | [],_=>by
    by_cases e:k=j
    · rw [if_pos e.symm];exact valV_pos (p:=(k,y)) e
    · rw [if_neg (fun z=>e z.symm)];exact valV_neg (p:=(k,y)) e
  | p :: r,hn=>by
    rw [List.cons_append]
    have hk:¬ p.1=k:=fun z=>by rw [valV_pos z] at hn;cases hn
    rw [valV_neg hk] at hn
    have ih:=valV_snoc k j y r hn
    by_cases e:p.1=j
    · rw [valV_pos e,valV_pos e,if_neg (fun z=>hk (e.trans z))]
    · rw [valV_neg e,valV_neg e,ih]
theorem valV_put (kvs:List (κ × V)) (k j:κ) (y:V):valV (putK kvs k y) j=if j=k then some y else valV kvs j:=by
  unfold putK
  by_cases a:(kvs.any fun kv=>decide (kv.1=k))=true
  · rw [if_pos a,valV_map]
    rw [valV_any] at a
    by_cases e:j=k
    · obtain ⟨x,hx⟩:=Option.isSome_iff_exists.mp a
      rw [if_pos e,e,hx,Option.map_some,if_pos rfl]
    · rw [if_neg e]
      cases valV kvs j with
      | none=>rfl
      | some x=>rw [Option.map_some,if_neg e]
  · rw [if_neg a]
    refine valV_snoc k j y kvs ?_
    rw [valV_any] at a
    cases q:valV kvs k with
    | none=>rfl
    | some x=>rw [q] at a;exact (a rfl).elim
theorem length_putK (kvs:List (κ × V)) (k:κ) (v:V):(putK kvs k v).length≤kvs.length+1:=by
  unfold putK
  split
  · rw [List.length_map];omega
  · rw [List.length_append,List.length_cons,List.length_nil];omega
theorem RelO.isSome_eq {o:Option V} {u:Option Value} (r:RelO o u):o.isSome=u.isSome:=by
  cases o with
  | none=>cases u with
    | none=>rfl
    | some _=>exact (show False from r).elim
  | some _=>cases u with
    | none=>exact (show False from r).elim
    | some _=>rfl
theorem RelO.getD {o:Option V} {u:Option Value} {d:V} {d':Value} (r:RelO o u) (rd:RelV d d'):RelV (o.getD d) (u.getD d'):=by
  cases o with
  | none=>cases u with
    | none=>exact rd
    | some _=>exact (show False from r).elim
  | some _=>cases u with
    | none=>exact (show False from r).elim
    | some _=>exact r
theorem KV.val {kvs:List (κ × V)} {vs:List (κ × Value)} (r:KV kvs vs) (k:κ):RelO (valV kvs k) (valueAt vs k):=by
  unfold KV at r
  induction r with
  | nil=>exact True.intro
  | @cons p q ps qs h t ih=>
    obtain ⟨h1,h2⟩:=h
    by_cases e:p.1=k
    · have e':q.1=k:=h1.symm.trans e
      have b:valueAt (q :: qs) k=some q.2:=by simp [valueAt,List.find?_cons,e']
      rw [valV_pos e,b];exact h2
    · have e':¬ q.1=k:=fun z=>e (h1.trans z)
      have b:valueAt (q :: qs) k=valueAt qs k:=by simp [valueAt,List.find?_cons,e']
      rw [valV_neg e,b];exact ih
theorem KV.any {kvs:List (κ × V)} {vs:List (κ × Value)} (r:KV kvs vs) (k:κ):(kvs.any fun kv=>decide (kv.1=k))=vs.any fun kv=>decide (kv.1=k):=by
  unfold KV at r
  induction r with
  | nil=>rfl
  | cons h t ih=>rw [List.any_cons,List.any_cons,ih,h.1]
theorem KV.repl {kvs:List (κ × V)} {vs:List (κ × Value)} (r:KV kvs vs) (k:κ) {y:V} {u:Value} (ry:RelV y u) :
    KV (kvs.map fun kv=>if kv.1=k then (kv.1,y) else kv) (vs.map fun kv=>if kv.1=k then (kv.1,u) else kv):=by
  unfold KV at r ⊢
  induction r with
  | nil=>exact .nil
  | @cons p q ps qs h t ih=>
    rw [List.map_cons,List.map_cons]
    refine .cons ?_ ih
    obtain ⟨h1,h2⟩:=h
    by_cases e:p.1=k
    · rw [if_pos e,if_pos (h1.symm.trans e)];exact ⟨h1,ry⟩
    · rw [if_neg e,if_neg (fun z=>e (h1.trans z))];exact ⟨h1,h2⟩
theorem KV.put {kvs:List (κ × V)} {vs:List (κ × Value)} (r:KV kvs vs) (k:κ) {y:V} {u:Value} (ry:RelV y u):KV (putK kvs k y) (stored vs k u):=by
  unfold putK stored
  rw [r.any k]
  by_cases e:(vs.any fun kv=>decide (kv.1=k))=true
  · rw [if_pos e,if_pos e];exact r.repl k ry
  · rw [if_neg e,if_neg e];exact Paired.snoc r ⟨rfl,ry⟩
theorem KV.keys {kvs:List (κ × V)} {vs:List (κ × Value)} (r:KV kvs vs):kvs.map (·.1)=vs.map (·.1):=by
  unfold KV at r
  induction r with
  | nil=>rfl
  | cons h t ih=>rw [List.map_cons,List.map_cons,ih,h.1]
theorem KV.length {kvs:List (κ × V)} {vs:List (κ × Value)} (r:KV kvs vs):kvs.length=vs.length:=Paired.length r
end
theorem kV_is {P:Program} {w:World} {k:Key} {u:Value} (r:RelV (kV k) u):(mixKind P w).is k u=true:=by
  cases k with
  | inl i=>obtain ⟨t,e⟩:=(show ∃ t,u=Value.int i t from r);subst e;exact mixKind_int P w i t
  | inr x=>obtain ⟨t,e⟩:=(show ∃ t,u=Value.str x t from r);subst e;exact mixKind_str P w x t
theorem items_are {P:Program} {w:World}:∀ {ks:List Key} {us:List Value},Vals (ks.map kV) us→ItemsAre (mixKind P w) ks us
  | [],_,r=>by rw [List.map_nil] at r;cases r;exact .nil
  | k :: ks,_,r=>by
    rw [List.map_cons] at r
    cases r with
    | cons h t=>exact .cons (kV_is h) (items_are t)
abbrev KT (H:Hp):List (List Key × V)→List (List Key × Addr × Value)→Prop:=Paired fun p q=>p.1=q.1∧H q.2.1=some (.tup (p.1.map kV))∧RelV p.2 q.2.2
theorem KT.val {H:Hp} {kvs:List (List Key × V)} {xs:List (List Key × Addr × Value)} (r:KT H kvs xs) (k:List Key):RelO (valV kvs k) ((atKey xs k).map (·.2)):=by
  induction r with
  | nil=>exact True.intro
  | @cons p q ps qs h t ih=>
    obtain ⟨h1,_,h2⟩:=h
    by_cases e:p.1=k
    · have e':q.1=k:=h1.symm.trans e
      have b:atKey (q :: qs) k=some q.2:=by simp [atKey,List.find?_cons,e']
      rw [valV_pos e,b];exact h2
    · have e':¬ q.1=k:=fun z=>e (h1.trans z)
      have b:atKey (q :: qs) k=atKey qs k:=by simp [atKey,List.find?_cons,e']
      rw [valV_neg e,b];exact ih
theorem KT.repl {H:Hp} {kvs:List (List Key × V)} {xs:List (List Key × Addr × Value)} (r:KT H kvs xs) (k:List Key) {y:V} {u:Value} (ry:RelV y u) :
    KT H (kvs.map fun kv=>if kv.1=k then (kv.1,y) else kv) (xs.map (putAt k u)):=by
  induction r with
  | nil=>exact .nil
  | @cons p q ps qs h t ih=>
    rw [List.map_cons,List.map_cons]
    refine .cons ?_ ih
    obtain ⟨h1,h2,h3⟩:=h
    unfold putAt
    by_cases e:p.1=k
    · rw [if_pos e,if_pos (h1.symm.trans e)];exact ⟨h1,h2,ry⟩
    · rw [if_neg e,if_neg (fun z=>e (h1.trans z))];exact ⟨h1,h2,h3⟩
theorem KT.put {H:Hp} {kvs:List (List Key × V)} {xs:List (List Key × Addr × Value)} (r:KT H kvs xs) (k:List Key) {b:Addr} {y:V} {u:Value} (hb:H b=some (.tup (k.map kV))) (ry:RelV y u) :
    KT H (putK kvs k y) (storedH xs k b u):=by
  have e:(kvs.any fun kv=>decide (kv.1=k))=(atKey xs k).isSome:=by
    rw [valV_any,(r.val k).isSome_eq,Option.isSome_map]
  unfold putK storedH
  rw [e]
  by_cases q:(atKey xs k).isSome=true
  · rw [if_pos q,if_pos q];exact r.repl k ry
  · rw [if_neg q,if_neg q];exact Paired.snoc r ⟨rfl,hb,ry⟩
theorem KT.keeps {H H':Hp} {kvs:List (List Key × V)} {xs:List (List Key × Addr × Value)} (r:KT H kvs xs) (ht:∀ b ys,H b=some (.tup ys)→H' b=some (.tup ys)):KT H' kvs xs:=
  Paired.mapP r fun _ _ z=>⟨z.1,ht _ _ z.2.1,z.2.2⟩
section
variable {P:Program} {w:World} {H:Hp} {h:Heap} {a:Addr}
theorem rd_of {u:HO} (ok:HOk P w H h) (e:Rd H a u):ObjOk P w H h a u:=e.ok ok
theorem dk_rd {kvs:List (Key × V)} (ok:HOk P w H h) (e:Rd H a (.dK kvs)):kvs.length≤sizeLine∧(a == sysModules)=false∧∃ vs,KV kvs vs∧h.DictOf (mixKind P w) a vs:=
  show ObjOk P w H h a (.dK kvs) from rd_of ok e
theorem dk_of {kvs:List (Key × V)} (ok:HOk P w H h) (e:H a=some (.dK kvs)):kvs.length≤sizeLine∧(a == sysModules)=false∧∃ vs,KV kvs vs∧h.DictOf (mixKind P w) a vs:=dk_rd ok (.inl e)
theorem key_of {ks:List Key} (ok:HOk P w H h) (e:H a=some (.tup (ks.map kV))):(tupleKind (mixKind P w)).is h ks a:=by
  obtain ⟨_,its,r,o,h1,h2,n,h3⟩:=(show ObjOk P w H h a (.tup (ks.map kV)) from ok a _ e)
  exact ⟨o,its.toArray,n,h1,h2,h3,by simpa using items_are r⟩
theorem dt_rd {kvs:List (List Key × V)} (ok:HOk P w H h) (e:Rd H a (.dT kvs)):kvs.length≤sizeLine∧(a == sysModules)=false ∧
    ∃ xs,KT H kvs xs∧h.DictOfH (tupleKind (mixKind P w)) a xs:=by
  obtain ⟨z,y,xs,r,o,es,ep,h1,h2,h3,h4,h5⟩:=(show ObjOk P w H h a (.dT kvs) from rd_of ok e)
  refine ⟨z,y,xs,r,o,es,ep,h1,h2,h3,h4,fun x hx=>?_,h5⟩
  have all:∀ {l:List (List Key × V)} {m:List (List Key × Addr × Value)},KT H l m→∀ x∈m,(tupleKind (mixKind P w)).is h x.1 x.2.1:=by
    intro l m q
    induction q with
    | nil=>intro x hx;exact nomatch hx
    | @cons p q ps qs hq t ih=>
      intro x hx
      rcases List.mem_cons.mp hx with e | hx
      · subst e
        exact key_of ok (by rw [← hq.1];exact hq.2.1)
      · exact ih x hx
  exact all r x hx
theorem dt_of {kvs:List (List Key × V)} (ok:HOk P w H h) (e:H a=some (.dT kvs)):kvs.length≤sizeLine∧(a == sysModules)=false ∧
    ∃ xs,KT H kvs xs∧h.DictOfH (tupleKind (mixKind P w)) a xs:=dt_rd ok (.inl e)
end
def DGet (H:Hp) (a:Addr) (y:V) (r:Option V):Prop:=
  (∃ kvs k,Rd H a (.dK kvs)∧y=kV k∧r=valV kvs k)∨∃ kvs k b,Rd H a (.dT kvs)∧y=.ref b∧H b=some (.tup (k.map kV))∧r=valV kvs k
def DPut (H:Hp) (a:Addr) (y v:V) (H':Hp):Prop:=
  (∃ kvs k,H a=some (.dK kvs)∧y=kV k∧kvs.length < sizeLine∧H'=upd H a (.dK (putK kvs k v))) ∨
  ∃ kvs k b,H a=some (.dT kvs)∧y=.ref b∧H b=some (.tup (k.map kV))∧kvs.length < sizeLine∧H'=upd H a (.dT (putK kvs k v))
theorem DGet.k {H:Hp} {a:Addr} {kvs:List (Key × V)} {k:Key} (e:H a=some (.dK kvs)):DGet H a (kV k) (valV kvs k):=.inl ⟨kvs,k,.inl e,rfl,rfl⟩
theorem DGet.t {H:Hp} {a b:Addr} {kvs:List (List Key × V)} {k:List Key} (e:H a=some (.dT kvs)) (eb:H b=some (.tup (k.map kV))):DGet H a (.ref b) (valV kvs k):=.inr ⟨kvs,k,b,.inl e,rfl,eb,rfl⟩
theorem DPut.k {H:Hp} {a:Addr} {kvs:List (Key × V)} {k:Key} {v:V} (e:H a=some (.dK kvs)) (hl:kvs.length < sizeLine):DPut H a (kV k) v (upd H a (.dK (putK kvs k v))):=.inl ⟨kvs,k,e,rfl,hl,rfl⟩
theorem DPut.t {H:Hp} {a b:Addr} {kvs:List (List Key × V)} {k:List Key} {v:V} (e:H a=some (.dT kvs)) (eb:H b=some (.tup (k.map kV))) (hl:kvs.length < sizeLine) :
    DPut H a (.ref b) v (upd H a (.dT (putK kvs k v))):=.inr ⟨kvs,k,b,e,rfl,eb,hl,rfl⟩
section
variable {X:Cx} {pins:List (Addr × Obj)} {σ:St} {H:Hp} {s:Shared} {a:Addr} {y v:V} {u r:Value} {o:Option V} {A:Around} {E:Value→Shared→Prop}
theorem Inv.big (I:Inv X pins σ H s):sysModules < s.heap.objs.size:=by
  have h:mainGlobals < s.heap.objs.size:=(I.mod.glob.keeps I.bk).lt
  exact Nat.lt_trans (by decide) h
theorem d_in {Q:Value→Shared→Prop} (hu:A.units+1 < cLine) (I:Inv X pins σ H s) (g:DGet H a y o) (ry:RelV y u) (h:∀ s',Inv X pins σ H s'→Q (.bool o.isSome) s') :
    wpAny (model X.prog X.w) A (compareOp .In u (.ref a)) Q E s:=by
  rcases g with ⟨kvs,k,e,ey,l⟩ | ⟨kvs,k,b,e,ey,eb,l⟩
  · subst ey
    obtain ⟨z,hd,vs,rel,dd⟩:=dk_rd I.hok e
    refine wpAny_in_of (kV_is ry) hd dd.mapOf ?_
    rw [← (rel.val k).isSome_eq,← l]
    exact h _ (I.tok _)
  · subst ey
    cases (show u=Value.ref b from ry)
    obtain ⟨z,hd,xs,rel,dd⟩:=dt_rd I.hok e
    refine wpAny_in_heap (tupleKind_room_in1 hu) (key_of I.hok eb) hd dd ?_
    have q:=(rel.val k).isSome_eq
    rw [Option.isSome_map] at q
    rw [← q,← l]
    exact h _ (I.tok _)
theorem d_write {h':Heap} {t':Nat} {ob:HO} (I:Inv X pins σ H s) (mu:Mut (H a)) (hs:Heap.SameBut a s.heap h') (he:∃ q,h'.get? a=some q) (new:ObjOk X.prog X.w (upd H a ob) h' a ob) :
    Inv X pins σ (upd H a ob) { s with heap:=h',toks:=t' }:=
  I.write (x:=a) (e:=a) mu (.inl rfl) (fun b q hb z=>(hs.2 b hb).trans z) he new
theorem dk_new {P:Program} {w:World} {H':Hp} {h':Heap} {kvs:List (Key × V)} {vs:List (Key × Value)} (z:kvs.length≤sizeLine) (hd:(a == sysModules)=false) (rel:KV kvs vs) (dd:h'.DictOf (mixKind P w) a vs) :
    ObjOk P w H' h' a (.dK kvs):=⟨z,hd,vs,rel,dd⟩
theorem d_setItem {H':Hp} {Q:Unit→Shared→Prop} (hu:A.units+1 < cLine) (I:Inv X pins σ H s) (g:DPut H a y v H') (ry:RelV y u) (rv:RelV v r) (h:∀ s',Inv X pins σ H' s'→Q () s') :
    wpAny (model X.prog X.w) A (setItem (.ref a) u r) Q E s:=by
  rcases g with ⟨kvs,k,e,ey,l,eH⟩ | ⟨kvs,k,b,e,ey,eb,l,eH⟩
  · subst ey eH
    obtain ⟨z,hd,vs,rel,dd⟩:=dk_of I.hok e
    have hz:vs.length≤sizeLine:=by rw [← rel.length];exact z
    have hl:(putK kvs k v).length≤sizeLine:=by have:=length_putK kvs k v;omega
    refine wpAny_setItem_pairs (hsz:=hz) (kV_is ry) dd fun h' dd' hs=>h _ ?_
    have he:∃ q,h'.get? a=some q:=let ⟨q,_,_,hq,_⟩:=dd';⟨q,hq⟩
    exact d_write I (by rw [e];exact True.intro) hs he (dk_new hl hd (rel.put k rv) dd')
  · subst ey eH
    cases (show u=Value.ref b from ry)
    obtain ⟨z,hd,xs,rel,dd⟩:=dt_of I.hok e
    have hz:xs.length≤sizeLine:=by rw [← Paired.length rel];exact z
    have hl:(putK kvs k v).length≤sizeLine:=by have:=length_putK kvs k v;omega
    refine wpAny_setItem_heap (hsz:=hz) (tupleKind_room_in1 hu) (key_of I.hok eb) dd fun h' dd' hs=>h _ ?_
    obtain ⟨q,es,ep,hq,h2,h3,h4,_,h5⟩:=dd'
    refine d_write I (by rw [e];exact True.intro) hs ⟨q,hq⟩ ⟨hl,hd,_,(rel.put k eb rv).keeps fun c ys ec=>?_,q,es,ep,hq,h2,h3,h4,h5⟩
    rw [upd_ne (ne_of ec e (fun z=>nomatch z))]
    exact ec
end
section
variable {X:Cx} {pins:List (Addr × Obj)} {σ:St} {H:Hp} {s:Shared} {a:Addr} {kvs:List (Key × V)} {k:Key} {u:Value} {A:Around} {E:Value→Shared→Prop}
end
def tDIn (ty td:TE):TE:=fun σ H Q=>ty σ H fun y H1=>td σ H1 fun x H2=>∃ a o,x=.ref a∧DGet H2 a y o∧Q (.bl o.isSome) H2
def sDPut (td ty tv:TE):TS:=fun D σ H=>tv σ H fun v H1=>td σ H1 fun x H2=>ty σ H2 fun y H3=>∃ a H4,x=.ref a∧DPut H3 a y v H4∧D.nx σ H4
section
variable {X:Cx} {o i e value:Expr} {pos pos' tpos:Pos} {td ty tv:TE}
theorem pc_din (hu:X.A.units+1 < cLine) (hi:PE X i ty) (ho:PE X o td):PC X .In i o (tDIn ty td):=by
  intro pins s σ H Q I h
  refine thn (hi pins s σ H _ I h) fun iv s1 ⟨y,H1,I1,ry,q1⟩=>thn (ho pins s1 σ H1 _ I1 q1) fun u s2 ⟨x,H2,I2,rx,a,ov,ex,g,q2⟩=>?_
  subst ex
  obtain rfl:u=Value.ref a:=rx
  exact d_in hu I2 g ry fun s3 I3=>⟨.bl ov.isSome,H2,I3,rfl,q2⟩
theorem ps_dput (hu:X.A.units+1 < cLine) (ho:PE X o td) (hi:PE X i ty) (hv:PE X value tv) (hs:swapsWith value (some (.Subscript o i pos')) pos.line X.env=pure false) :
    PS X (.Assign [.Subscript o i pos'] value pos) (sDPut td ty tv):=by
  intro pins s σ H D I h
  refine wpAny_Assign_Subscript (thn (hv pins s σ H _ I h) fun r s1 ⟨v,H1,I1,rv,q1⟩=>thn (ho pins s1 σ H1 _ I1 q1) fun u s2 ⟨x,H2,I2,rx,q2⟩=>thn (hi pins s2 σ H2 _ I2 q2) fun iv s3 ⟨y,H3,I3,ry,a,H4,ex,g,q3⟩=>?_) hs
  subst ex
  obtain rfl:u=Value.ref a:=rx
  exact d_setItem hu I3 g ry rv fun s4 I4=>⟨σ,H4,I4,q3⟩
end
theorem dk_empty {P:Program} {w:World} {H:Hp} (h:Heap) (hb:sysModules < h.objs.size):ObjOk P w H (h.push { cls:=.type "dict", data:=.dict #[] }) h.objs.size (.dK []):=
  ⟨Nat.zero_le _,beq_eq_false_iff_ne.mpr (Ne.symm (Nat.ne_of_lt hb)),[],.nil,Heap.DictOf.new h⟩
def tDNewK:TE:=fun _ H Q=>∀ p,H p=none→Q (.ref p) (upd H p (.dK []))
section
variable {X:Cx} {pos:Pos}
theorem pe_dnewK:PE X (.Dict [] [] pos) tDNewK:=fun pins s σ H Q I h=>
  wpAny_Dict_empty ⟨.ref s.heap.objs.size,_,I.laid (a:=s.heap.objs.size) (o:=.dK []) (t':=s.toks) (fun _ _ q=>Heap.get?_push_of_some _ q) (Nat.le_refl _) (dk_empty s.heap I.big),rfl,h _ (I.hok.fresh (Nat.le_refl _))⟩
end
def tPairs:List (TE × TE)→St→Hp→(List (V × V)→Hp→Prop)→Prop
  | [],_,H,Q=>Q [] H
  | (tk,tv) :: r,σ,H,Q=>tk σ H fun x H1=>tv σ H1 fun y H2=>tPairs r σ H2 fun ps H3=>Q ((x,y) :: ps) H3
abbrev VV:List (V × V)→List (Value × Value)→Prop:=Paired fun p q=>RelV p.1 q.1∧RelV p.2 q.2
def PPs (X:Cx) (pos:Pos) (keys:List (Option Expr)) (values:List Expr) (trs:List (TE × TE)):Prop:=
  ∀ (pins:List (Addr × Obj)) (s:Shared) (σ:St) (H:Hp) (Q:List (V × V)→Hp→Prop),Inv X pins σ H s→tPairs trs σ H Q →
    wpAny (model X.prog X.w) X.A (evalPairs (pairTrees keys values X.env pos)) (fun vs s'=>∃ ps H',Inv X pins σ H' s'∧VV ps vs∧Q ps H') X.xe s
theorem pps_nil {X:Cx} {pos:Pos}:PPs X pos [] [] []:=fun pins s σ H Q I h=>pairTrees_nil_walk ⟨[],H,I,.nil,h⟩
theorem pps_cons {X:Cx} {pos:Pos} {k v:Expr} {ks:List (Option Expr)} {vs:List Expr} {tk tv:TE} {trs:List (TE × TE)} (hk:PE X k tk) (hv:PE X v tv) (hr:PPs X pos ks vs trs) :
    PPs X pos (some k :: ks) (v :: vs) ((tk,tv) :: trs):=fun pins s σ H Q I h=>
  pairTrees_cons_walk (thn (hk pins s σ H _ I h) fun u s1 ⟨x,H1,I1,rx,q1⟩=>thn (hv pins s1 σ H1 _ I1 q1) fun w2 s2 ⟨y,H2,I2,ry,q2⟩=>
    thn (hr pins s2 σ H2 _ I2 q2) fun ws s3 ⟨ps,H3,I3,rel,q3⟩=>⟨(x,y) :: ps,H3,I3,.cons ⟨rx,ry⟩ rel,q3⟩)
def mergeK (kvs more:List (Key × V)):List (Key × V):=more.foldl (fun acc kv=>putK acc kv.1 kv.2) kvs
theorem KV.merge:∀ {more:List (Key × V)} {rs:List (Key × Value)} {kvs:List (Key × V)} {vs:List (Key × Value)},KV more rs→KV kvs vs→KV (mergeK kvs more) (merged vs rs):=by
  intro more rs kvs vs r
  unfold KV at r
  induction r generalizing kvs vs with
  | nil=>intro q;exact q
  | @cons p q ps qs h t ih=>
    intro r0
    have e:KV (putK kvs p.1 p.2) (stored vs q.1 q.2):=by
      have:=r0.put p.1 h.2
      rw [← h.1];exact this
    exact ih e
theorem length_mergeK:∀ (more kvs:List (Key × V)),(mergeK kvs more).length≤kvs.length+more.length
  | [],kvs=>by show kvs.length≤kvs.length+0;omega
  | p :: r,kvs=>by
    have h1:=length_mergeK r (putK kvs p.1 p.2)
    have h2:=length_putK kvs p.1 p.2
    show (mergeK (putK kvs p.1 p.2) r).length≤_
    rw [List.length_cons];omega
theorem carries_of {P:Program} {w:World}:∀ {kvs:List (Key × V)} {ws:List (Value × Value)},VV (kvs.map fun kv=>(kV kv.1,kv.2)) ws→∃ rs,Carries (mixKind P w) ws rs∧KV kvs rs
  | [],_,r=>by rw [List.map_nil] at r;cases r;exact ⟨[],True.intro,.nil⟩
  | p :: kvs,_,r=>by
    rw [List.map_cons] at r
    cases r with
    | @cons a b as bs h t=>
      obtain ⟨rs,c,q⟩:=carries_of (P:=P) (w:=w) t
      obtain ⟨b1,b2⟩:=b
      exact ⟨(p.1,b2) :: rs,⟨kV_is h.1,rfl,c⟩,.cons ⟨rfl,h.2⟩ q⟩
def tDisp (trs:List (TE × TE)):TE:=fun σ H Q=>∀ p,H p=none→tPairs trs σ (upd H p (.dK [])) fun ps H2=>H2 p=some (.dK [])∧∃ kvs:List (Key × V),ps=kvs.map (fun kv=>(kV kv.1,kv.2))∧kvs.length≤15∧Q (.ref p) (upd H2 p (.dK (mergeK [] kvs)))
theorem pe_disp {X:Cx} {pos:Pos} {keys:List (Option Expr)} {values:List Expr} {trs:List (TE × TE)} (h:PPs X pos keys values trs) (hall:keys.all (·.isSome)=true) (hl:keys.length=values.length) (h0:keys≠[])
    (h15:keys.length≤15):PE X (.Dict keys values pos) (tDisp trs):=by
  intro pins s σ H Q I q
  have hn:=I.hok.fresh (Nat.le_refl s.heap.objs.size)
  have I1:=I.laid (a:=s.heap.objs.size) (o:=.dK []) (h':=s.heap.push { cls:=.type "dict", data:=.dict #[] }) (t':=s.toks) (fun _ _ q=>Heap.get?_push_of_some _ q) (Nat.le_refl _) (dk_empty s.heap I.big)
  refine wpAny_Dict_walk (knd:=mixKind X.prog X.w) hall hl h0 h15 (thn (h pins _ σ _ _ I1 (q _ hn)) fun ws s2 ⟨ps,H2,I2,rel,e,kvs,ep,lk,q2⟩=>?_)
  subst ep
  obtain ⟨rs,c,rk⟩:=carries_of (P:=X.prog) (w:=X.w) rel
  obtain ⟨z,hd,vs0,r0,dd⟩:=dk_of I2.hok e
  cases r0
  refine ⟨rs,c,dd,fun h' dd' hs=>⟨.ref s.heap.objs.size,_,?_,rfl,q2⟩⟩
  have hz:(mergeK [] kvs).length≤sizeLine:=by
    have h1:=length_mergeK kvs []
    rw [List.length_nil] at h1
    rw [sizeLine_eq];omega
  have he:∃ q,h'.get? s.heap.objs.size=some q:=let ⟨q,_,_,hq,_⟩:=dd';⟨q,hq⟩
  exact d_write I2 (by rw [e];exact True.intro) hs he (dk_new hz hd (rk.merge .nil) dd')
structure M2 (X:Cx) (o:Expr) (m:Str) (apos:Pos) (e f:Expr) (cpos:Pos):Prop where
  base:attributeBase o m X.env (eval o X.env)=eval o X.env
  few:((backTo cpos (starEach [e,f] X.env)).all (fun x=>!x.1) && (backToKw cpos (keywordEach [] X.env)).all (fun x=>x.1.isSome)
    && decide (([e,f]:List Expr).length+([]:List Keyword).length+(if ([]:List Keyword).isEmpty then 0 else 1) < 30))=true
  line:(apos.endLine == cpos.line)=true
  trees:backTo cpos (starEach [e,f] X.env)=[(false,eval e X.env),(false,eval f X.env)]
section
variable {X:Cx} {pins:List (Addr × Obj)} {σ:St} {H:Hp} {s:Shared} {a:Addr} {y d:V} {u r:Value} {o:Option V} {A:Around} {E:Value→Shared→Prop}
end
section
variable {X:Cx} {o e f:Expr} {apos cpos:Pos} {td ty tx:TE}
end
section
variable {X:Cx} {pins:List (Addr × Obj)} {σ:St} {H:Hp} {s:Shared} {a:Addr} {kvs:List (Key × V)} {A:Around} {E:Value→Shared→Prop}
end
section
variable {X:Cx} {pins:List (Addr × Obj)} {σ:St} {H:Hp} {s:Shared} {a:Addr} {y:V} {u:Value} {A:Around} {E:Value→Shared→Prop}
end
end L2
namespace L2
open PySem PySem.Spec PyProof.Rows PySem.W
open MeetsSeq MeetsSeq2 MeetsSeq3 SeqRoads2 SeqAt
theorem is_kV {P:Program} {w:World} {k:Key} {u:Value} (h:(mixKind P w).is k u=true):RelV (kV k) u:=by
  cases k with
  | inl i=>obtain ⟨t,e⟩:=PySem.Value.isInt_shape (show Value.isInt i u=true from h);exact ⟨t,e⟩
  | inr x=>obtain ⟨t,e⟩:=PySem.Value.isStrOf_shape (show Value.isStrOf x u=true from h);exact ⟨t,e⟩
theorem kv_get {kvs:List (Key × V)} {vs:List (Key × Value)} (r:KV kvs vs):∀ {i:Nat} {k:Key} {v:V},kvs[i]?=some (k,v)→∃ x,vs[i]?=some (k,x)∧RelV v x:=by
  unfold KV at r
  induction r with
  | nil=>intro i k v h;simp at h
  | @cons p q _ _ h t ih=>
    intro i k v e
    cases i with
    | zero=>
      have e':p=(k,v):=by simpa using e
      subst e'
      obtain ⟨k',x⟩:=q
      obtain ⟨rfl,h2⟩:=h
      exact ⟨x,rfl,h2⟩
    | succ i=>exact ih (by simpa using e)
section
variable {X:Cx} {tg:Expr}
end
section
theorem small10000 {n:Nat} (h:n < 10000):n < sizeLine:=by
  rw [sizeLine_eq];omega
theorem comp_big {J:It} {NL:List Str} {ix:List Nat} {g:TG} {tt:TT} {te:TE} {σ:St} {H1:Hp} {Qs:Hp→Prop} {acc:Addr} (n:Nat) (hn:n < 10000) (Pv:Nat→List V→Hp→Prop)
    (hacc:∀ i ys H2,Pv i ys H2→H2 acc=some (.lst ys)∧ys.length≤i) (h0:Pv 0 [] (upd H1 acc (.lst []))) (hstop:∀ ys H2,Pv n ys H2→J.stop n H2∧Qs H2)
    (hturn:∀ i ys H2,i < n→Pv i ys H2→J.go i H2∧∀ x H3,J.yld i H2 x H3→g x (comp0 NL ix σ) H3 fun σ' H4=>σ'.drop NL.length=ix.map (fun j=>σ.getD j none)∧tt σ' H4 fun b H5=>
      if b=true then te σ' H5 fun v H6=>H6 acc=some (.lst ys)∧Pv (i+1) (ys++[v]) (upd H6 acc (.lst (ys++[v]))) else Pv (i+1) ys H5) :
    ∃ W:Nat→Nat→List V→Hp→Prop,(∃ m,W 0 m [] (upd H1 acc (.lst []))) ∧
    ∀ i m ys H2,W i m ys H2→H2 acc=some (.lst ys)∧ys.length < sizeLine ∧
      ((J.stop i H2∧Qs H2)∨(J.go i H2∧∃ N:List V→Hp→Prop,(∀ ys' H',N ys' H'→∃ m',m' < m∧W (i+1) m' ys' H') ∧
        ∀ x H3,J.yld i H2 x H3→g x (comp0 NL ix σ) H3 fun σ' H4=>σ'.drop NL.length=ix.map (fun j=>σ.getD j none)∧tt σ' H4 fun b H5=>
          if b=true then te σ' H5 fun v H6=>H6 acc=some (.lst ys)∧N (ys++[v]) (upd H6 acc (.lst (ys++[v]))) else N ys H5)):=by
  refine ⟨fun i m ys H2=>i≤n∧m=n - i∧Pv i ys H2,⟨n,Nat.zero_le _,rfl,h0⟩,fun i m ys H2 ⟨hi,hm,hp⟩=>?_⟩
  obtain ⟨a1,a2⟩:=hacc i ys H2 hp
  refine ⟨a1,small10000 (by omega),?_⟩
  rcases Nat.lt_or_ge i n with lt | ge
  · obtain ⟨go,tn⟩:=hturn i ys H2 lt hp
    exact .inr ⟨go,Pv (i+1),fun ys' H' hN=>⟨n - (i+1),by omega,by omega,rfl,hN⟩,tn⟩
  · have e:i=n:=by omega
    subst e
    exact .inl (hstop ys H2 hp)
end
section
variable {NL:List Str} {ix:List Nat} {g:TG} {tt:TT} {te:TE} {σ:St} {H1:Hp} {Qs:Hp→Prop} {acc:Addr}
end
section
variable {X:Cx}
end
end L2
namespace L2
open PySem PySem.Spec PyProof.Rows PySem.W
end L2
namespace L2
open PySem PySem.Spec PyProof.Rows PySem.W
theorem lk_list_keys:typeLookup (.type "list") "keys" = pure none:=by rw [typeLookup_type,builtinLookup_eq_fast];kernel_rfl
theorem keys_none {prog:Program} {w:World} {A:Around} {E:Value→Shared→Prop} {s:Shared} {a:Addr} {xs:Array Value} {k:Nat} {Q:Option Value→Shared→Prop}
    (hx:s.heap.get? a=some { cls:=.type "list", data:=.seq xs k }) (hA:A.handled=none)
    (h:∀ h' tk,(∀ b o,s.heap.get? b=some o→h'.get? b=some o)→Q none { s with heap:=h',toks:=tk }) :
    wpAny (model prog w) A (getAttr? (.ref a) "keys") Q E s:=by
  obtain ⟨hp,g,d,tk,os⟩:=s
  have hT:∀ tk',(⟨hp,g,d,tk',os⟩:Shared).TypeIs (.ref a) "list" := fun _=>⟨_,hx,rfl⟩
  have f1:=sub_AttributeError
  have f3:=F.slot_list_getattribute.lookup
  have f4:=F.slot_list_getattribute.bind (.ref a)
  have f5:=am_list_getattr_none
  unfold getAttr? getAttrBy? getAttrBy
  repeat (any_goals (first | assumption | exact hT _ | ((with_reducible show wpAny _ _ (call (Value.builtin "list.__getattribute__") _ _) _ _ _);refine call_meets F.slot_list_getattribute (hT _) am_entry_list_getattribute (F.args_list_getattribute_2 _ _) (meets_getattribute_miss_list a xs k #[] "keys" _ lk_list_keys (by decide) (by size_fits)) ⟨hx,hA,fun h' tk' e hx'=>?_⟩) | wp_step))
  obtain ⟨t',u',he⟩:=hx'.there
  show wpAny _ _ (getattributeRaised _ _ _ _ _ _ _) _ _ _
  unfold getattributeRaised
  repeat (any_goals (first | assumption | wp_step))
  exact h _ _ hx'.keeps
end L2
namespace L2
open PySem PySem.Spec PyProof.Rows PySem.W
theorem entry_dict_loop:entryFor table "dict.update.loop" = some Builtin.«dict.update.loop»:=entryFor_of_tree (by kernel_rfl)
theorem plain_dict_loop:plainId "dict.update.loop" = true:=by decide +kernel
section
variable {prog:Program} {w:World} {A:Around} {E:Value→Shared→Prop}
def DPrs (h:Heap) (D:Addr) (items:Array Value) (ps:List (Key × Value)):Prop:=
  ps.length=items.size∧∀ (j:Nat) (k:Key) (v:Value),ps[j]?=some (k,v)→∃ (a:Addr) (ku:Value),items[j]?=some (Value.ref a)∧a≠D∧RelV (kV k) ku∧IsTup h a #[ku,v]
theorem DPrs.keeps {h h':Heap} {D I:Addr} {items:Array Value} {ps:List (Key × Value)} (p:DPrs h D items ps) (nI:∀ a:Addr,Value.ref a∈items→a≠I) (k:∀ b o,b≠I→b≠D→h.get? b=some o→h'.get? b=some o):DPrs h' D items ps:=by
  refine ⟨p.1,fun j kk v e=>?_⟩
  obtain ⟨a,ku,ha,hD,hk,o,e1,e2⟩:=p.2 j kk v e
  exact ⟨a,ku,ha,hD,hk,o,k a o (nI a (Array.mem_of_getElem? ha)) hD e1,e2⟩
end
end L2
namespace L2
open PySem PySem.Spec PyProof.Rows PySem.W
section
variable {prog:Program} {w:World} {A:Around} {E:Value→Shared→Prop} {s:Shared}
end
end L2
namespace L2
open PySem PySem.Spec PyProof.Rows PySem.W
theorem build_ps {h:Heap}:∀ (as:List Addr) (kvs:List (Key × V)),as.length=kvs.length→(∀ (j:Nat) a k v,as[j]?=some a→kvs[j]?=some (k,v)→∃ ku vu,RelV (kV k) ku∧RelV v vu∧IsTup h a #[ku,vu]) →
    ∃ ps:List (Key × Value),KV kvs ps∧∀ (j:Nat) k vu,ps[j]?=some (k,vu)→∃ a ku,as[j]?=some a∧RelV (kV k) ku∧IsTup h a #[ku,vu]
  | [],[],_,_=>⟨[],.nil,fun j k vu e=>by simp at e⟩
  | a :: as,(k,v) :: kvs,hl,hp=>by
    obtain ⟨ps,r,q⟩:=build_ps as kvs (by simpa using hl) fun j a k v h1 h2=>hp (j+1) a k v (by simpa using h1) (by simpa using h2)
    obtain ⟨ku,vu,r1,r2,r3⟩:=hp 0 a k v rfl rfl
    refine ⟨(k,vu) :: ps,.cons ⟨rfl,r2⟩ r,fun j k' vu' e=>?_⟩
    cases j with
    | zero=>cases e;exact ⟨a,ku,rfl,r1,r3⟩
    | succ j=>exact q j k' vu' (by simpa using e)
section
variable {X:Cx}
end
theorem bt_dict:bootBuiltins "dict" = some (.type "dict"):=by decide +kernel
end L2
namespace Tim
open PySem PyProof.Rows
abbrev SM:=StateT SortSt Sem
def gal:Bool→Keyed→Array Keyed→Nat→Nat→Nat→SM (Option Nat):=sortPriv% PySem.Builtin.gallop
def mLo:Array Keyed→Array Keyed→SM (Array Keyed):=sortPriv% PySem.Builtin.mergeLo
def mHi:Array Keyed→Array Keyed→SM (Array Keyed):=sortPriv% PySem.Builtin.mergeHi
abbrev setG (st:SortSt) (g:Nat):SortSt:=SortSt.mk' (kindOf st) (arrOf st) (pendingOf st) g (failedOf st)
def bey (left:Bool) (x:Keyed) (xs:Array Keyed) (b:Nat) (i:Nat):SM (Option Bool):=do
  let p ← elem' xs (b+i)
  if left then lt' p x else return (← lt' x p).map (!·)
theorem gal_eq (left:Bool) (x:Keyed) (xs:Array Keyed) (b n h:Nat):gal left x xs b n h=(do
  let mut la:=0
  let mut o:=1
  let mut l:=0
  let mut r:=0
  let some right ← bey left x xs b h | return none
  if right then
    let mo:=n - h
    for _ in [0:n] do
      if o ≥ mo then break
      let some more ← bey left x xs b (h+o) | return none
      if !more then break
      la:=o
      o:=2 * o+1
    l:=h+la+1
    r:=h+min o mo
  else
    let mo:=h+1
    for _ in [0:n] do
      if o ≥ mo then break
      let some f ← bey left x xs b (h - o) | return none
      if f then break
      la:=o
      o:=2 * o+1
    l:=h+1 - min o mo
    r:=h - la
  for _ in [0:n] do
    if l ≥ r then break
    let m:=l+(r - l) / 2
    let some more ← bey left x xs b m | return none
    if more then l:=m+1 else r:=m
  return some r):=rfl
def putG (g:Nat):SM Unit:=modify fun s=>setG s g
theorem mLo_eq (a b:Array Keyed):mLo a b=(do
  rule "list.sort.merge-lo"
  let tt:=a.size+b.size
  let dn (o:Array Keyed) (p q:Nat):=o++a.extract p a.size++b.extract q b.size
  let la (o:Array Keyed) (p q:Nat):=o++b.extract q b.size++a.extract p a.size
  let mut o:Array Keyed:=#[← elem' b 0]
  let mut p:=0
  let mut q:=1
  if q == b.size then return dn o p q
  if p+1 == a.size then return la o p q
  let mut g:=gallopOf (← get)
  for _ in [0:tt] do
    let mut c:=0
    let mut d:=0
    for _ in [0:tt] do
      let some w ← lt' (← elem' b q) (← elem' a p) | return dn o p q
      if w then
        o:=o.push (← elem' b q);q:=q+1;d:=d+1;c:=0
        if q == b.size then return dn o p q
        if d ≥ g then break
      else
        o:=o.push (← elem' a p);p:=p+1;c:=c+1;d:=0
        if p+1 == a.size then return la o p q
        if c ≥ g then break
    rule "list.sort.gallop"
    g:=g+1
    for _ in [0:tt] do
      if g > 1 then g:=g - 1
      putG g
      let some k ← gal false (← elem' b q) a p (a.size - p) 0 | return dn o p q
      c:=k
      if k > 0 then
        o:=o++a.extract p (p+k);p:=p+k
        if p+1 == a.size then return la o p q
        if p == a.size then return dn o p q
      o:=o.push (← elem' b q);q:=q+1
      if q == b.size then return dn o p q
      let some k ← gal true (← elem' a p) b q (b.size - q) 0 | return dn o p q
      d:=k
      if k > 0 then
        o:=o++b.extract q (q+k);q:=q+k
        if q == b.size then return dn o p q
      o:=o.push (← elem' a p);p:=p+1
      if p+1 == a.size then return la o p q
      if c < 7 && d < 7 then break
    g:=g+1
    putG g
  unsupported "internal:list.sort.merge-bound"):=rfl
theorem mHi_eq (a b:Array Keyed):mHi a b=(do
  rule "list.sort.merge-hi"
  let tt:=a.size+b.size
  let dn (o:Array Keyed) (p q:Nat):=a.extract 0 p++b.extract 0 q++o.reverse
  let fb (o:Array Keyed) (p q:Nat):=b.extract 0 q++a.extract 0 p++o.reverse
  let mut p:=a.size - 1
  let mut q:=b.size
  let mut o:Array Keyed:=#[← elem' a p]
  if p == 0 then return dn o p q
  if q == 1 then return fb o p q
  let mut g:=gallopOf (← get)
  for _ in [0:tt] do
    let mut c:=0
    let mut d:=0
    for _ in [0:tt] do
      let some w ← lt' (← elem' b (q - 1)) (← elem' a (p - 1)) | return dn o p q
      if w then
        p:=p - 1;o:=o.push (← elem' a p);c:=c+1;d:=0
        if p == 0 then return dn o p q
        if c ≥ g then break
      else
        q:=q - 1;o:=o.push (← elem' b q);d:=d+1;c:=0
        if q == 1 then return fb o p q
        if d ≥ g then break
    rule "list.sort.gallop"
    g:=g+1
    for _ in [0:tt] do
      if g > 1 then g:=g - 1
      putG g
      let some f ← gal false (← elem' b (q - 1)) a 0 p (p - 1) | return dn o p q
      let k:=p - f
      c:=k
      if k > 0 then
        o:=o++(a.extract f p).reverse;p:=f
        if p == 0 then return dn o p q
      q:=q - 1;o:=o.push (← elem' b q)
      if q == 1 then return fb o p q
      let some f ← gal true (← elem' a (p - 1)) b 0 q (q - 1) | return dn o p q
      let k:=q - f
      d:=k
      if k > 0 then
        o:=o++(b.extract f q).reverse;q:=f
        if q == 1 then return fb o p q
        if q == 0 then return dn o p q
      p:=p - 1;o:=o.push (← elem' a p)
      if p == 0 then return dn o p q
      if c < 7 && d < 7 then break
    g:=g+1
    putG g
  unsupported "internal:list.sort.merge-bound"):=rfl
theorem mAt_eq (i:Nat):mergeAt' i=(do
  let s ← get
  let (some (u,n,w),some (v,m,_)):=((pendingOf s)[i]?,(pendingOf s)[i+1]?) | unsupported "internal:list.sort.pending"
  set (setPending s (((pendingOf s).setIfInBounds i (u,n+m,w)).eraseIdxIfInBounds (i+1)))
  let some k ← gal false (← elem' (arrOf s) v) (arrOf s) u n 0 | return false
  let (u,n):=(u+k,n - k)
  if n == 0 then return true
  let some m ← gal true (← elem' (arrOf s) (u+n - 1)) (arrOf s) v m (m - 1) | return false
  if m == 0 then return true
  let x:=(arrOf s).extract u v
  let y:=(arrOf s).extract v (v+m)
  let r ← if n≤m then mLo x y else mHi x y
  modify fun s=>setArr s (r.toList.zipIdx.foldl (fun a (p,j)=>a.setIfInBounds (u+j) p) (arrOf s))
  return (failedOf (← get)).isNone):=rfl
end Tim
namespace Tim
open PySem PyProof.Rows
section
variable {prog:Program} {w:World} {A:Around} {E:Value→Shared→Prop} {s:Shared} {a₀:Array Keyed} {κ:SortKind} {O:KeyOrd} {key:Keyed→O.α}
def Cmp (prog:Program) (w:World) (A:Around) (E:Value→Shared→Prop) (s:Shared) (a₀:Array Keyed) (κ:SortKind) (O:KeyOrd) (key:Keyed→O.α):Prop:=
  ∀ (x y:Keyed) (st:SortSt) (Q:Option Bool→SortSt→Prop),x∈a₀→y∈a₀→kindOf st=κ→Q (some (O.blt (key x) (key y))) st→wpS (model prog w) A E s (lt' x y) Q st
theorem wp_elem {xs:Array Keyed} {i:Nat} {p:Keyed} {st:SortSt} {Q:Keyed→SortSt→Prop} (e:xs[i]?=some p) (h:Q p st):wpS (model prog w) A E s (elem' xs i) Q st:=by
  rw [elem'_eq,e]
  exact wpS_pure h
abbrev isB (key:Keyed→O.α) (left:Bool) (x p:Keyed):Bool:=if left then O.blt (key p) (key x) else !O.blt (key x) (key p)
theorem wp_bey (C:Cmp prog w A E s a₀ κ O key) {left:Bool} {x p:Keyed} {xs:Array Keyed} {b i:Nat} {st:SortSt} {Q:Option Bool→SortSt→Prop} (hx:x∈a₀) (hp:p∈a₀) (e:xs[b+i]?=some p) (hk:kindOf st=κ)
    (h:Q (some (isB key left x p)) st):wpS (model prog w) A E s (bey left x xs b i) Q st:=by
  unfold bey
  refine wpS_bind (wp_elem e ?_)
  cases left with
  | true=>exact C p x st Q hp hx hk h
  | false=>exact wpS_bind (C x p st _ hx hp hk (wpS_pure h))
def binL (left:Bool) (x:Keyed) (xs:Array Keyed) (b n l0 r0:Nat):SM (Option Nat):=do
  let mut l:=l0
  let mut r:=r0
  for _ in [0:n] do
    if l ≥ r then break
    let m:=l+(r - l) / 2
    let some more ← bey left x xs b m | return none
    if more then l:=m+1 else r:=m
  return some r
theorem wp_binL {left:Bool} {x:Keyed} {xs:Array Keyed} {b n l0 r0:Nat} {st:SortSt} {Q:Option Nat→SortSt→Prop} (B:Nat→Bool)
    (ask:∀ (i:Nat) (Q':Option Bool→SortSt→Prop),i < n→Q' (some (B i)) st→wpS (model prog w) A E s (bey left x xs b i) Q' st)
    (mono:∀ i j,i≤j→j < n→B j=true→B i=true) (h1:l0≤r0) (h2:r0≤n) (h3:∀ i,i < l0→B i=true) (h4:∀ i,r0≤i→i < n→B i=false)
    (h:∀ k,k≤n→(∀ i,i < k→B i=true)→(∀ i,k≤i→i < n→B i=false)→Q (some k) st):wpS (model prog w) A E s (binL left x xs b n l0 r0) Q st:=by
  unfold binL
  refine wpS_bind (wpS_mono (wpS_forRange (I:=fun t c st'=>st'=st∧∃ l r,c=(none,l,r)∧l≤r∧r≤n∧r - l≤n - t∧(∀ i,i < l→B i=true)∧(∀ i,r≤i→i < n→B i=false))
    (Q:=fun c st'=>st'=st∧∃ l,c=(none,l,l)∧l≤n∧(∀ i,i < l→B i=true)∧(∀ i,l≤i→i < n→B i=false)) ?step ?fin ⟨rfl,l0,r0,rfl,h1,h2,by omega,h3,h4⟩) ?post)
  case post=>
    rintro c st' ⟨rfl,l,rfl,a,b,c⟩
    exact wpS_pure (h l a b c)
  case fin=>
    rintro c st' ⟨rfl,l,r,rfl,a1,a2,a3,a4,a5⟩
    have:r=l:=by omega
    subst this
    exact ⟨rfl,r,rfl,a2,a4,a5⟩
  case step=>
    rintro t c st' _ ht ⟨rfl,l,r,rfl,a1,a2,a3,a4,a5⟩
    dsimp only
    by_cases g:l ≥ r
    · rw [if_pos g]
      have:r=l:=by omega
      subst this
      exact wpS_pure ⟨rfl,r,rfl,a2,a4,a5⟩
    · rw [if_neg g]
      refine wpS_bind (ask _ _ (by omega) ?_)
      dsimp only
      cases e:B (l+(r - l) / 2) with
      | true=>
        rw [if_pos rfl]
        exact wpS_pure ⟨rfl,_,r,rfl,by omega,a2,by omega,fun i hi=>mono i _ (by omega) (by omega) e,a5⟩
      | false=>
        rw [if_neg (by simp)]
        refine wpS_pure ⟨rfl,l,_,rfl,by omega,by omega,by omega,a4,fun i hi hn=>?_⟩
        cases e':B i with
        | false=>rfl
        | true=>rw [mono _ i hi hn e'] at e;cases e
theorem wp_gal (C:Cmp prog w A E s a₀ κ O key) {left:Bool} {x:Keyed} {xs:Array Keyed} {b n hn:Nat} {st:SortSt} {Q:Option Nat→SortSt→Prop} (B:Nat→Bool) (hx:x∈a₀) (hk:kindOf st=κ)
    (hB:∀ i,i < n→∃ p,xs[b+i]?=some p∧p∈a₀∧B i=isB key left x p) (mono:∀ i j,i≤j→j < n→B j=true→B i=true) (hh:hn < n)
    (h:∀ k,k≤n→(∀ i,i < k→B i=true)→(∀ i,k≤i→i < n→B i=false)→Q (some k) st):wpS (model prog w) A E s (gal left x xs b n hn) Q st:=by
  have ask:∀ (i:Nat) (Q':Option Bool→SortSt→Prop),i < n→Q' (some (B i)) st→wpS (model prog w) A E s (bey left x xs b i) Q' st:=fun i Q' hi hq=>by
    obtain ⟨p,e1,e2,e3⟩:=hB i hi
    rw [e3] at hq
    exact wp_bey C hx e2 e1 hk hq
  have off:∀ i j,i≤j→j < n→B i=false→B j=false:=fun i j hij hj e=>by
    cases e':B j with
    | false=>rfl
    | true=>rw [mono i j hij hj e'] at e;cases e
  rw [gal_eq]
  refine wpS_bind (ask hn _ hh ?_)
  dsimp only
  cases e:B hn with
  | true=>
    rw [if_pos rfl]
    refine wpS_bind (wpS_mono (wpS_forRange (I:=fun t c st'=>st'=st∧∃ la o,c=(none,la,o)∧la < o∧t < o∧hn+la < n∧B (hn+la)=true)
      (Q:=fun c st'=>st'=st∧∃ la o,c=(none,la,o)∧la < o∧hn+la < n∧B (hn+la)=true∧(n - hn≤o∨(hn+o < n∧B (hn+o)=false))) ?step ?fin ⟨rfl,0,1,rfl,by omega,by omega,hh,e⟩) ?post)
    case post=>
      rintro c st' ⟨rfl,la,o,rfl,a1,a2,a3,a4⟩
      exact wp_binL (l0:=hn+la+1) (r0:=hn+min o (n - hn)) B ask mono (by omega) (by omega) (fun i hi=>mono i _ (by omega) a2 a3) (fun i hi hn'=>by
        rcases a4 with a4 | a4
        · omega
        · exact off _ i (by omega) hn' a4.2) h
    case fin=>
      rintro c st' ⟨rfl,la,o,rfl,a1,a2,a3,a4⟩
      exact ⟨rfl,la,o,rfl,a1,a3,a4,.inl (by omega)⟩
    case step=>
      rintro t c st' _ ht ⟨rfl,la,o,rfl,a1,a2,a3,a4⟩
      dsimp only
      by_cases g:o ≥ n - hn
      · rw [if_pos g]
        exact wpS_pure ⟨rfl,la,o,rfl,a1,a3,a4,.inl g⟩
      · rw [if_neg g]
        refine wpS_bind (ask _ _ (by omega) ?_)
        dsimp only
        cases e':B (hn+o) with
        | true=>
          rw [if_neg (by simp)]
          exact wpS_pure ⟨rfl,o,_,rfl,by omega,by omega,by omega,e'⟩
        | false=>
          rw [if_pos (by simp)]
          exact wpS_pure ⟨rfl,la,o,rfl,a1,a3,a4,.inr ⟨by omega,e'⟩⟩
  | false=>
    rw [if_neg (by simp)]
    refine wpS_bind (wpS_mono (wpS_forRange (I:=fun t c st'=>st'=st∧∃ la o,c=(none,la,o)∧la < o∧t < o∧la≤hn∧B (hn - la)=false)
      (Q:=fun c st'=>st'=st∧∃ la o,c=(none,la,o)∧la < o∧la≤hn∧B (hn - la)=false∧(hn+1≤o∨(o≤hn∧B (hn - o)=true))) ?step ?fin ⟨rfl,0,1,rfl,by omega,by omega,by omega,e⟩) ?post)
    case post=>
      rintro c st' ⟨rfl,la,o,rfl,a1,a2,a3,a4⟩
      exact wp_binL (l0:=hn+1 - min o (hn+1)) (r0:=hn - la) B ask mono (by omega) (by omega) (fun i hi=>by
        rcases a4 with a4 | a4
        · omega
        · exact mono i _ (by omega) (by omega) a4.2) (fun i hi hn'=>off _ i (by omega) hn' a3) h
    case fin=>
      rintro c st' ⟨rfl,la,o,rfl,a1,a2,a3,a4⟩
      exact ⟨rfl,la,o,rfl,a1,a3,a4,.inl (by omega)⟩
    case step=>
      rintro t c st' _ ht ⟨rfl,la,o,rfl,a1,a2,a3,a4⟩
      dsimp only
      by_cases g:o ≥ hn+1
      · rw [if_pos g]
        exact wpS_pure ⟨rfl,la,o,rfl,a1,a3,a4,.inl g⟩
      · rw [if_neg g]
        refine wpS_bind (ask _ _ (by omega) ?_)
        dsimp only
        cases e':B (hn - o) with
        | false=>
          rw [if_neg (by simp)]
          exact wpS_pure ⟨rfl,o,_,rfl,by omega,by omega,by omega,e'⟩
        | true=>
          rw [if_pos rfl]
          exact wpS_pure ⟨rfl,la,o,rfl,a1,a3,a4,.inr ⟨by omega,e'⟩⟩
def mrg (key:Keyed→O.α):List Keyed→List Keyed→List Keyed
  | [],ys=>ys
  | x :: xs,[]=>x :: xs
  | x :: xs,y :: ys=>if O.blt (key y) (key x)=true then y :: mrg key (x :: xs) ys else x :: mrg key xs (y :: ys)
termination_by xs ys=>xs.length+ys.length
abbrev Srt (key:Keyed→O.α) (l:List Keyed):Prop:=l.Pairwise fun x y=>O.blt (key y) (key x)=false
theorem mrg_nil (ys:List Keyed):mrg key [] ys=ys:=by unfold mrg;rfl
theorem mrg_nil':∀ (xs:List Keyed),mrg key xs []=xs
  | []=>mrg_nil _
  | x :: xs=>by unfold mrg;rfl
theorem mrg_cons (x y:Keyed) (xs ys:List Keyed):mrg key (x :: xs) (y :: ys)=if O.blt (key y) (key x)=true then y :: mrg key (x :: xs) ys else x :: mrg key xs (y :: ys):=by
  rw [mrg]
theorem mrg_lefts (y:Keyed) (ys xs:List Keyed):∀ us:List Keyed,(∀ x∈us,O.blt (key y) (key x)=false)→mrg key (us++xs) (y :: ys)=us++mrg key xs (y :: ys)
  | [],_=>rfl
  | u :: us,h=>by
    rw [List.cons_append,mrg_cons,if_neg (by rw [h u List.mem_cons_self];simp),mrg_lefts y ys xs us fun x hx=>h x (List.mem_cons_of_mem _ hx)]
    rfl
theorem mrg_rights (x:Keyed) (xs ys:List Keyed):∀ us:List Keyed,(∀ y∈us,O.blt (key y) (key x)=true)→mrg key (x :: xs) (us++ys)=us++mrg key (x :: xs) ys
  | [],_=>rfl
  | u :: us,h=>by
    rw [List.cons_append,mrg_cons,if_pos (h u List.mem_cons_self),mrg_rights x xs ys us fun x hx=>h x (List.mem_cons_of_mem _ hx)]
    rfl
theorem mrg_one (x:Keyed) (ys:List Keyed) (h:∀ y∈ys,O.blt (key y) (key x)=true):mrg key [x] ys=ys++[x]:=by
  have:=mrg_rights (O:=O) x [] [] ys h
  rw [List.append_nil,mrg_nil'] at this
  exact this
theorem mrg_first (y:Keyed) (xs:List Keyed) (h:∀ x∈xs,O.blt (key y) (key x)=true):mrg key xs [y]=y :: xs:=by
  cases xs with
  | nil=>exact mrg_nil _
  | cons x xs=>rw [mrg_cons,if_pos (h x List.mem_cons_self),mrg_nil']
theorem mrg_snocL (x:Keyed):∀ (xs zs:List Keyed),(∀ z∈zs,O.blt (key z) (key x)=true)→mrg key (xs++[x]) zs=mrg key xs zs++[x]
  | [],zs,h=>by rw [List.nil_append,mrg_one x zs h,mrg_nil]
  | u :: us,[],h=>by rw [mrg_nil',mrg_nil']
  | u :: us,z :: zs,h=>by
    rw [List.cons_append,mrg_cons,mrg_cons]
    split
    · have:=mrg_snocL x (u :: us) zs fun z hz=>h z (List.mem_cons_of_mem _ hz)
      rw [← List.cons_append,this];rfl
    · rw [mrg_snocL x us (z :: zs) h];rfl
termination_by xs zs=>xs.length+zs.length
theorem mrg_snocR (y:Keyed):∀ (xs zs:List Keyed),(∀ x∈xs,O.blt (key y) (key x)=false)→mrg key xs (zs++[y])=mrg key xs zs++[y]
  | [],zs,h=>by rw [mrg_nil,mrg_nil]
  | u :: us,[],h=>by
    have:=mrg_lefts (O:=O) y [] [] (u :: us) h
    rw [List.append_nil,mrg_nil] at this
    rw [List.nil_append,mrg_nil']
    exact this
  | u :: us,z :: zs,h=>by
    rw [List.cons_append,mrg_cons,mrg_cons]
    split
    · rw [mrg_snocR y (u :: us) zs h];rfl
    · have:=mrg_snocR y us (z :: zs) fun x hx=>h x (List.mem_cons_of_mem _ hx)
      rw [← List.cons_append,this];rfl
termination_by xs zs=>xs.length+zs.length
theorem mrg_snocLs (zs:List Keyed):∀ (us xs:List Keyed),(∀ u∈us,∀ z∈zs,O.blt (key z) (key u)=true)→mrg key (xs++us) zs=mrg key xs zs++us
  | [],xs,_=>by rw [List.append_nil,List.append_nil]
  | u :: us,xs,h=>by
    have e:=mrg_snocLs zs us (xs++[u]) fun v hv=>h v (List.mem_cons_of_mem _ hv)
    rw [mrg_snocL u _ _ (h u List.mem_cons_self),List.append_assoc,List.append_assoc] at e
    exact e
theorem mrg_snocRs (xs:List Keyed):∀ (us zs:List Keyed),(∀ u∈us,∀ x∈xs,O.blt (key u) (key x)=false)→mrg key xs (zs++us)=mrg key xs zs++us
  | [],zs,_=>by rw [List.append_nil,List.append_nil]
  | u :: us,zs,h=>by
    have e:=mrg_snocRs xs us (zs++[u]) fun v hv=>h v (List.mem_cons_of_mem _ hv)
    rw [mrg_snocR u _ _ (h u List.mem_cons_self),List.append_assoc,List.append_assoc] at e
    exact e
theorem mrg_perm:∀ (xs ys:List Keyed),(mrg key xs ys).Perm (xs++ys)
  | [],ys=>by rw [mrg_nil];exact .refl _
  | x :: xs,[]=>by rw [mrg_nil',List.append_nil]
  | x :: xs,y :: ys=>by
    rw [mrg_cons]
    split
    · exact ((mrg_perm (x :: xs) ys).cons y).trans List.perm_middle.symm
    · exact (mrg_perm xs (y :: ys)).cons x
termination_by xs ys=>xs.length+ys.length
theorem kle_tr {x y z:Keyed} (h1:O.blt (key y) (key x)=false) (h2:O.blt (key z) (key y)=false):O.blt (key z) (key x)=false:=KeyOrd.kle_trans (O:=O) (a:=key x) (b:=key y) (c:=key z) h1 h2
theorem kle_lt {x y:Keyed} (h:O.blt (key x) (key y)=true):O.blt (key y) (key x)=false:=KeyOrd.klt_asymm (O:=O) (a:=key x) (b:=key y) h
theorem mrg_srt:∀ (xs ys:List Keyed),Srt key xs→Srt key ys→Srt key (mrg key xs ys)
  | [],ys,_,h=>by rw [mrg_nil];exact h
  | x :: xs,[],h,_=>by rw [mrg_nil'];exact h
  | x :: xs,y :: ys,h1,h2=>by
    have k1:=List.pairwise_cons.mp h1
    have k2:=List.pairwise_cons.mp h2
    rw [mrg_cons]
    split
    · rename_i e
      refine List.pairwise_cons.mpr ⟨fun z hz=>?_,mrg_srt (x :: xs) ys h1 k2.2⟩
      rcases List.mem_append.mp ((mrg_perm _ _).mem_iff.mp hz) with hz | hz
      · rcases List.mem_cons.mp hz with rfl | hz
        · exact kle_lt e
        · exact kle_tr (kle_lt e) (k1.1 z hz)
      · exact k2.1 z hz
    · rename_i e
      have e':O.blt (key y) (key x)=false:=by simpa using e
      refine List.pairwise_cons.mpr ⟨fun z hz=>?_,mrg_srt xs (y :: ys) k1.2 h2⟩
      rcases List.mem_append.mp ((mrg_perm _ _).mem_iff.mp hz) with hz | hz
      · exact k1.1 z hz
      · rcases List.mem_cons.mp hz with rfl | hz
        · exact e'
        · exact kle_tr e' (k2.1 z hz)
termination_by xs ys=>xs.length+ys.length
end
end Tim
namespace Tim
open PySem PyProof.Rows
section
variable {prog:Program} {w:World} {A:Around} {E:Value→Shared→Prop} {s:Shared} {a₀:Array Keyed} {κ:SortKind} {O:KeyOrd} {key:Keyed→O.α}
structure Two (key:Keyed→O.α) (a₀ a b:Array Keyed):Prop where
  ma:∀ x∈a,x∈a₀
  mb:∀ x∈b,x∈a₀
  na:1≤a.size
  nb:1≤b.size
  sa:Srt key a.toList
  sb:Srt key b.toList
  fst:∀ x∈a,∀ y,b[0]?=some y→O.blt (key y) (key x)=true
  lst:∀ y∈b,∀ x,a[a.size - 1]?=some x→O.blt (key y) (key x)=true
theorem drop_at {a:Array Keyed} {p:Nat} {x:Keyed} (e:a[p]?=some x):a.toList.drop p=x :: a.toList.drop (p+1):=by
  obtain ⟨h,rfl⟩:=Array.getElem?_eq_some_iff.mp e
  rw [List.drop_eq_getElem_cons (by simpa using h)]
  simp
theorem ext_all (a:Array Keyed) (p:Nat):(a.extract p a.size).toList=a.toList.drop p:=by
  rw [Array.toList_extract,List.extract_eq_drop_take]
  exact List.take_of_length_le (by simp)
theorem ext_mid (a:Array Keyed) (p k:Nat):(a.extract p (p+k)).toList=(a.toList.drop p).take k:=by
  rw [Array.toList_extract,List.extract_eq_drop_take,Nat.add_sub_cancel_left]
theorem mem_mid {a:Array Keyed} {p k:Nat} {z:Keyed} (hz:z∈(a.toList.drop p).take k):∃ i,i < k∧a[p+i]?=some z:=by
  obtain ⟨i,hi,rfl⟩:=List.getElem_of_mem hz
  have hi':i < min k (a.size - p):=by simpa using hi
  refine ⟨i,by omega,?_⟩
  rw [List.getElem_take,List.getElem_drop,Array.getElem_toList,Array.getElem?_eq_getElem]
theorem mem_at {a:Array Keyed} {i:Nat} {x:Keyed} (e:a[i]?=some x):x∈a:=Array.mem_of_getElem? e
theorem at_lt {a:Array Keyed} {i:Nat} (h:i < a.size):∃ x,a[i]?=some x:=⟨_,Array.getElem?_eq_getElem h⟩
def LoI (key:Keyed→O.α) (a b o:Array Keyed) (p q:Nat):Prop:=o.toList++mrg key (a.toList.drop p) (b.toList.drop q)=mrg key a.toList b.toList
section
variable {a b o:Array Keyed} {p q k:Nat} {x y:Keyed}
theorem lo_b (I:LoI key a b o p q) (ex:a[p]?=some x) (ey:b[q]?=some y) (h:O.blt (key y) (key x)=true):LoI key a b (o.push y) p (q+1):=by
  unfold LoI at I ⊢
  rw [drop_at ex,drop_at ey,mrg_cons,if_pos h] at I
  rw [drop_at ex,Array.toList_push,List.append_assoc]
  exact I
theorem lo_a (I:LoI key a b o p q) (ex:a[p]?=some x) (ey:b[q]?=some y) (h:O.blt (key y) (key x)=false):LoI key a b (o.push x) (p+1) q:=by
  unfold LoI at I ⊢
  rw [drop_at ex,drop_at ey,mrg_cons,if_neg (by rw [h];simp)] at I
  rw [drop_at ey,Array.toList_push,List.append_assoc]
  exact I
theorem lo_as (I:LoI key a b o p q) (ey:b[q]?=some y) (h:∀ i x,i < k→a[p+i]?=some x→O.blt (key y) (key x)=false):LoI key a b (o++a.extract p (p+k)) (p+k) q:=by
  unfold LoI at I ⊢
  rw [drop_at ey] at I ⊢
  rw [Array.toList_append,ext_mid,List.append_assoc,← I]
  conv=>rhs;rw [← List.take_append_drop k (a.toList.drop p)]
  rw [mrg_lefts y _ _ _ fun z hz=>by obtain ⟨i,hi,e⟩:=mem_mid hz;exact h i z hi e,List.drop_drop]
theorem lo_bs (I:LoI key a b o p q) (ex:a[p]?=some x) (h:∀ i y,i < k→b[q+i]?=some y→O.blt (key y) (key x)=true):LoI key a b (o++b.extract q (q+k)) p (q+k):=by
  unfold LoI at I ⊢
  rw [drop_at ex] at I ⊢
  rw [Array.toList_append,ext_mid,List.append_assoc,← I]
  conv=>rhs;rw [← List.take_append_drop k (b.toList.drop q)]
  rw [mrg_rights x _ _ _ fun z hz=>by obtain ⟨i,hi,e⟩:=mem_mid hz;exact h i z hi e,List.drop_drop]
theorem lo_dnB (I:LoI key a b o p q) (h:q=b.size):(o++a.extract p a.size++b.extract q b.size).toList=mrg key a.toList b.toList:=by
  unfold LoI at I
  rw [Array.toList_append,Array.toList_append,ext_all,ext_all,← I,List.drop_of_length_le (l:=b.toList) (by simp [h]),mrg_nil',List.append_nil]
theorem lo_dnA (I:LoI key a b o p q) (h:p=a.size):(o++a.extract p a.size++b.extract q b.size).toList=mrg key a.toList b.toList:=by
  unfold LoI at I
  rw [Array.toList_append,Array.toList_append,ext_all,ext_all,← I,List.drop_of_length_le (l:=a.toList) (by simp [h]),mrg_nil,List.append_nil]
theorem lo_la (T:Two key a₀ a b) (I:LoI key a b o p q) (h:p+1=a.size):(o++b.extract q b.size++a.extract p a.size).toList=mrg key a.toList b.toList:=by
  obtain ⟨x,ex⟩:=at_lt (a:=a) (i:=p) (by omega)
  unfold LoI at I
  rw [drop_at ex,List.drop_of_length_le (l:=a.toList) (i:=p+1) (by simp [h]),mrg_one x _ fun y hy=>T.lst y (Array.mem_toList_iff.mp (List.mem_of_mem_drop hy)) x (by rw [← ex];congr 1;omega)] at I
  rw [Array.toList_append,Array.toList_append,ext_all,ext_all,← I,drop_at ex,List.drop_of_length_le (l:=a.toList) (i:=p+1) (by simp [h]),List.append_assoc]
end
abbrev LSt:=Option (Array Keyed) × Array Keyed × Nat × Nat × Nat × Nat × Nat
def loD (a b o:Array Keyed) (p q g c d:Nat):SM (ForInStep LSt):=do
  let x ← elem' a p
  if p+1+1 == a.size then return .done (some (o.push x++b.extract q b.size++a.extract (p+1) a.size),o.push x,p+1,q,g,c,d)
  else if c < 7 && d < 7 then return .done (none,o.push x,p+1,q,g,c,d)
  else return .yield (none,o.push x,p+1,q,g,c,d)
def loC (a b o:Array Keyed) (p q g c d:Nat):SM (ForInStep LSt):=do
  let y ← elem' b q
  if q+1 == b.size then return .done (some (o.push y++a.extract p a.size++b.extract (q+1) b.size),o.push y,p,q+1,g,c,d)
  else
    let x ← elem' a p
    let some k ← gal true x b (q+1) (b.size - (q+1)) 0 | return .done (some (o.push y++a.extract p a.size++b.extract (q+1) b.size),o.push y,p,q+1,g,c,d)
    if k > 0 then
      if q+1+k == b.size then return .done (some (o.push y++b.extract (q+1) (q+1+k)++a.extract p a.size++b.extract (q+1+k) b.size),o.push y++b.extract (q+1) (q+1+k),p,q+1+k,g,c,k)
      else loD a b (o.push y++b.extract (q+1) (q+1+k)) p (q+1+k) g c k
    else loD a b (o.push y) p (q+1) g c k
def loB (a b o:Array Keyed) (p q g c d:Nat):SM (ForInStep LSt):=do
  putG g
  let y ← elem' b q
  let some k ← gal false y a p (a.size - p) 0 | return .done (some (o++a.extract p a.size++b.extract q b.size),o,p,q,g,c,d)
  if k > 0 then
    if p+k+1 == a.size then return .done (some (o++a.extract p (p+k)++b.extract q b.size++a.extract (p+k) a.size),o++a.extract p (p+k),p+k,q,g,k,d)
    else if p+k == a.size then return .done (some (o++a.extract p (p+k)++a.extract (p+k) a.size++b.extract q b.size),o++a.extract p (p+k),p+k,q,g,k,d)
    else loC a b (o++a.extract p (p+k)) (p+k) q g k d
  else loC a b o p q g k d
def loA (a b:Array Keyed) (c:LSt):SM (ForInStep LSt):=
  if c.2.2.2.2.1 > 1 then loB a b c.2.1 c.2.2.1 c.2.2.2.1 (c.2.2.2.2.1 - 1) c.2.2.2.2.2.1 c.2.2.2.2.2.2
  else loB a b c.2.1 c.2.2.1 c.2.2.2.1 c.2.2.2.2.1 c.2.2.2.2.2.1 c.2.2.2.2.2.2
structure GoesOn (key:Keyed→O.α) (a b:Array Keyed) (st:SortSt) (m:Nat) (R:ForInStep LSt→SortSt→Prop):Prop where
  fin:∀ (out:Array Keyed) c g,out.toList=mrg key a.toList b.toList→R (.done (some out,c)) (setG st g)
  brk:∀ o p q g c d g',LoI key a b o p q→p+1 < a.size→q < b.size→m≤p+q→R (.done (none,o,p,q,g,c,d)) (setG st g')
  yld:∀ o p q g c d g',LoI key a b o p q→p+1 < a.size→q < b.size→m≤p+q→R (.yield (none,o,p,q,g,c,d)) (setG st g')
section
variable {a b o:Array Keyed} {p q k g c d m g':Nat} {x y:Keyed} {st:SortSt} {R:ForInStep LSt→SortSt→Prop}
theorem wp_loD (T:Two key a₀ a b) (G:GoesOn key a b st m R) (I:LoI key a b o p q) (hp:p+1 < a.size) (hq:q < b.size) (hm:m≤p+1+q) (h:∀ x y,a[p]?=some x→b[q]?=some y→O.blt (key y) (key x)=false) :
    wpS (model prog w) A E s (loD a b o p q g c d) R (setG st g'):=by
  obtain ⟨x,ex⟩:=at_lt (a:=a) (i:=p) (by omega)
  obtain ⟨y,ey⟩:=at_lt hq
  unfold loD
  refine wpS_bind (wp_elem ex ?_)
  have I':=lo_a I ex ey (h x y ex ey)
  by_cases e:p+1+1=a.size
  · rw [if_pos (by simpa using e)]
    exact wpS_pure (G.fin _ _ _ (lo_la T I' e))
  · rw [if_neg (by simpa using e)]
    split
    · exact wpS_pure (G.brk _ _ _ _ _ _ _ I' (by omega) hq hm)
    · exact wpS_pure (G.yld _ _ _ _ _ _ _ I' (by omega) hq hm)
theorem wp_loC (C:Cmp prog w A E s a₀ κ O key) (T:Two key a₀ a b) (hk:kindOf st=κ) (G:GoesOn key a b st m R) (I:LoI key a b o p q) (hp:p+1 < a.size) (hq:q < b.size) (hm:m≤p+1+(q+1)) (h:∀ x y,a[p]?=some x→b[q]?=some y→O.blt (key y) (key x)=true) :
    wpS (model prog w) A E s (loC a b o p q g c d) R (setG st g'):=by
  obtain ⟨x,ex⟩:=at_lt (a:=a) (i:=p) (by omega)
  obtain ⟨y,ey⟩:=at_lt hq
  unfold loC
  refine wpS_bind (wp_elem ey ?_)
  have I':=lo_b I ex ey (h x y ex ey)
  by_cases e:q+1=b.size
  · rw [if_pos (by simpa using e)]
    exact wpS_pure (G.fin _ _ _ (lo_dnB I' e))
  · rw [if_neg (by simpa using e)]
    refine wpS_bind (wp_elem ex ?_)
    refine wpS_bind (wp_gal C (fun i=>match b[q+1+i]? with | some y=>O.blt (key y) (key x) | none=>false) (T.ma x (mem_at ex)) hk (fun i hi=>?_) (fun i j hij hj=>?_) (by omega) fun k hk' ht hf=>?_)
    · obtain ⟨z,ez⟩:=at_lt (a:=b) (i:=q+1+i) (by omega)
      refine ⟨z,ez,T.mb z (mem_at ez),?_⟩
      rw [ez];rfl
    · obtain ⟨z,ez⟩:=at_lt (a:=b) (i:=q+1+i) (by omega)
      obtain ⟨v,ev⟩:=at_lt (a:=b) (i:=q+1+j) (by omega)
      rw [ez,ev]
      dsimp only
      intro hv
      rcases Nat.lt_or_ge i j with l | l
      · have:=List.pairwise_iff_getElem.mp T.sb (q+1+i) (q+1+j) (by simp;omega) (by simp;omega) (by omega)
        rw [Array.getElem_toList,Array.getElem_toList,(Array.getElem?_eq_some_iff.mp ez).2,(Array.getElem?_eq_some_iff.mp ev).2] at this
        exact KeyOrd.klt_of_kle_of_klt (O:=O) (a:=key z) (b:=key v) (c:=key x) this hv
      · have:i=j:=by omega
        subst this
        rw [ez] at ev;cases ev;exact hv
    · have fs:∀ i y,i < k→b[q+1+i]?=some y→O.blt (key y) (key x)=true:=fun i y hi e=>by
        have:=ht i hi
        rw [e] at this
        exact this
      have nx:q+1+k < b.size→∀ x' y',a[p]?=some x'→b[q+1+k]?=some y'→O.blt (key y') (key x')=false:=fun hlt x' y' e1 e2=>by
        have:=hf k (Nat.le_refl _) (by omega)
        rw [e2] at this
        rw [ex] at e1;cases e1
        exact this
      dsimp only
      by_cases k0:k > 0
      · rw [if_pos k0]
        have I2:=lo_bs I' ex fs
        by_cases e2:q+1+k=b.size
        · rw [if_pos (by simpa using e2)]
          exact wpS_pure (G.fin _ _ _ (lo_dnB I2 e2))
        · rw [if_neg (by simpa using e2)]
          exact wp_loD T G I2 hp (by omega) (by omega) (nx (by omega))
      · rw [if_neg k0]
        have:k=0:=by omega
        subst this
        exact wp_loD T G I' hp (by omega) (by omega) (nx (by omega))
theorem wp_loB (C:Cmp prog w A E s a₀ κ O key) (T:Two key a₀ a b) (hk:kindOf st=κ) (G:GoesOn key a b st m R) (I:LoI key a b o p q) (hp:p+1 < a.size) (hq:q < b.size) (hm:m≤p+1+(q+1)) :
    wpS (model prog w) A E s (loB a b o p q g c d) R (setG st g'):=by
  obtain ⟨y,ey⟩:=at_lt hq
  unfold loB
  refine wpS_bind (wpS_modify ?_)
  refine wpS_bind (wp_elem ey ?_)
  refine wpS_bind (wp_gal C (fun i=>match a[p+i]? with | some x=>!O.blt (key y) (key x) | none=>false) (T.mb y (mem_at ey)) hk (fun i hi=>?_) (fun i j hij hj=>?_) (by omega) fun k hk' ht hf=>?_)
  · obtain ⟨z,ez⟩:=at_lt (a:=a) (i:=p+i) (by omega)
    refine ⟨z,ez,T.ma z (mem_at ez),?_⟩
    rw [ez];rfl
  · obtain ⟨z,ez⟩:=at_lt (a:=a) (i:=p+i) (by omega)
    obtain ⟨v,ev⟩:=at_lt (a:=a) (i:=p+j) (by omega)
    rw [ez,ev]
    dsimp only
    intro hv
    have hv:O.blt (key y) (key v)=false:=by simpa using hv
    rcases Nat.lt_or_ge i j with l | l
    · have:=List.pairwise_iff_getElem.mp T.sa (p+i) (p+j) (by simp;omega) (by simp;omega) (by omega)
      rw [Array.getElem_toList,Array.getElem_toList,(Array.getElem?_eq_some_iff.mp ez).2,(Array.getElem?_eq_some_iff.mp ev).2] at this
      rw [kle_tr this hv];rfl
    · have:i=j:=by omega
      subst this
      rw [ez] at ev;cases ev;rw [hv];rfl
  · have fs:∀ i x,i < k→a[p+i]?=some x→O.blt (key y) (key x)=false:=fun i x hi e=>by
      have:=ht i hi
      rw [e] at this
      simpa using this
    have nx:p+k < a.size→∀ x' y',a[p+k]?=some x'→b[q]?=some y'→O.blt (key y') (key x')=true:=fun hlt x' y' e1 e2=>by
      have:=hf k (Nat.le_refl _) (by omega)
      rw [e1] at this
      rw [ey] at e2;cases e2
      simpa using this
    dsimp only
    by_cases k0:k > 0
    · rw [if_pos k0]
      have I2:=lo_as I ey fs
      by_cases e1:p+k+1=a.size
      · rw [if_pos (by simpa using e1)]
        exact wpS_pure (G.fin _ _ _ (lo_la T I2 e1))
      · rw [if_neg (by simpa using e1)]
        by_cases e2:p+k=a.size
        · rw [if_pos (by simpa using e2)]
          exact wpS_pure (G.fin _ _ _ (lo_dnA I2 e2))
        · rw [if_neg (by simpa using e2)]
          exact wp_loC (st:=st) C T hk G I2 (by omega) hq (by omega) (nx (by omega))
    · rw [if_neg k0]
      have:k=0:=by omega
      subst this
      exact wp_loC (st:=st) C T hk G I hp hq hm (nx (by omega))
theorem wp_loA (C:Cmp prog w A E s a₀ κ O key) (T:Two key a₀ a b) (hk:kindOf st=κ) (G:GoesOn key a b st m R) (I:LoI key a b o p q) (hp:p+1 < a.size) (hq:q < b.size) (hm:m≤p+1+(q+1)) :
    wpS (model prog w) A E s (loA a b (none,o,p,q,g,c,d)) R (setG st g'):=by
  unfold loA
  split
  · exact wp_loB C T hk G I hp hq hm
  · exact wp_loB C T hk G I hp hq hm
end
theorem wp_mLo (C:Cmp prog w A E s a₀ κ O key) {a b:Array Keyed} (T:Two key a₀ a b) {st:SortSt} (hk:kindOf st=κ) {Q:Array Keyed→SortSt→Prop} (h:∀ (o:Array Keyed) (g:Nat),o.toList=mrg key a.toList b.toList→Q o (setG st g)) :
    wpS (model prog w) A E s (mLo a b) Q st:=by
  have na:=T.na
  have nb:=T.nb
  obtain ⟨y0,ey⟩:=at_lt (a:=b) (i:=0) (by omega)
  obtain ⟨x0,ex⟩:=at_lt (a:=a) (i:=0) (by omega)
  rw [mLo_eq]
  refine wpS_bind (wpS_lift (wpAny_rule ⟨rfl,?_⟩))
  dsimp only
  refine wpS_bind (wp_elem ey ?_)
  have I0:LoI key a b #[y0] 0 1:=lo_b (o:=#[]) (by unfold LoI;rfl) ex ey (T.fst x0 (mem_at ex) y0 ey)
  have e0:st=setG st (gallopOf st):=rfl
  by_cases e1:1=b.size
  · rw [if_pos (by simpa using e1)]
    exact wpS_pure (h _ (gallopOf st) (lo_dnB I0 e1))
  rw [if_neg (by simpa using e1)]
  by_cases e2:0+1=a.size
  · rw [if_pos (by simpa using e2)]
    exact wpS_pure (h _ (gallopOf st) (lo_la T I0 e2))
  rw [if_neg (by simpa using e2)]
  refine wpS_bind (wpS_get ?_)
  refine wpS_bind (wpS_mono (wpS_forRange (I:=fun t c st'=>∃ o p q g g',c=(none,o,p,q,g)∧st'=setG st g'∧LoI key a b o p q∧p+1 < a.size∧q < b.size∧t+1≤p+q)
    (Q:=fun c st'=>∃ out c' g',c=(some out,c')∧st'=setG st g'∧out.toList=mrg key a.toList b.toList) ?step ?fin ⟨_,_,_,_,_,rfl,e0,I0,by omega,by omega,by omega⟩) ?post)
  case post=>
    rintro c st' ⟨out,c',g',rfl,rfl,e⟩
    exact wpS_pure (h _ _ e)
  case fin=>
    rintro c st' ⟨o,p,q,g,g',rfl,rfl,I,a1,a2,a3⟩
    omega
  case step=>
    rintro t c st' _ ht ⟨o,p,q,g,g',rfl,rfl,I,a1,a2,a3⟩
    dsimp only
    refine wpS_bind (wpS_mono (wpS_forRange (I:=fun t' c st'=>∃ o' p' q' c' d',c=(none,o',p',q',c',d')∧st'=setG st g'∧LoI key a b o' p' q'∧p'+1 < a.size∧q' < b.size∧p+q+t'≤p'+q')
      (Q:=fun c st'=>st'=setG st g'∧((∃ out c',c=(some out,c')∧out.toList=mrg key a.toList b.toList)∨∃ o' p' q' c' d',c=(none,o',p',q',c',d')∧LoI key a b o' p' q'∧p'+1 < a.size∧q' < b.size∧p+q+1≤p'+q')) ?s1 ?f1 ⟨_,_,_,_,_,rfl,rfl,I,a1,a2,by omega⟩) ?p1)
    case f1=>
      rintro c st' ⟨o',p',q',c',d',rfl,rfl,I',b1,b2,b3⟩
      omega
    case s1=>
      rintro t' c st' _ ht' ⟨o',p',q',c',d',rfl,rfl,I',b1,b2,b3⟩
      dsimp only
      obtain ⟨x,ex'⟩:=at_lt (a:=a) (i:=p') (by omega)
      obtain ⟨y,ey'⟩:=at_lt b2
      refine wpS_bind (wp_elem ey' (wpS_bind (wp_elem ex' (wpS_bind (C y x _ _ (T.mb y (mem_at ey')) (T.ma x (mem_at ex')) hk ?_)))))
      dsimp only
      cases e:O.blt (key y) (key x) with
      | true=>
        rw [if_pos rfl]
        refine wpS_bind (wp_elem ey' ?_)
        have I2:=lo_b I' ex' ey' e
        by_cases f1:q'+1=b.size
        · rw [if_pos (by simpa using f1)]
          exact wpS_pure ⟨rfl,.inl ⟨_,_,rfl,lo_dnB I2 f1⟩⟩
        · rw [if_neg (by simpa using f1)]
          split
          · exact wpS_pure ⟨rfl,.inr ⟨_,_,_,_,_,rfl,I2,b1,by omega,by omega⟩⟩
          · exact wpS_pure ⟨_,_,_,_,_,rfl,rfl,I2,b1,by omega,by omega⟩
      | false=>
        rw [if_neg (by simp)]
        refine wpS_bind (wp_elem ex' ?_)
        have I2:=lo_a I' ex' ey' e
        by_cases f1:p'+1+1=a.size
        · rw [if_pos (by simpa using f1)]
          exact wpS_pure ⟨rfl,.inl ⟨_,_,rfl,lo_la T I2 f1⟩⟩
        · rw [if_neg (by simpa using f1)]
          split
          · exact wpS_pure ⟨rfl,.inr ⟨_,_,_,_,_,rfl,I2,by omega,b2,by omega⟩⟩
          · exact wpS_pure ⟨_,_,_,_,_,rfl,rfl,I2,by omega,b2,by omega⟩
    case p1=>
      rintro c st' ⟨rfl,⟨out,c',rfl,e⟩ | ⟨o',p',q',c',d',rfl,I',b1,b2,b3⟩⟩
      · exact wpS_pure ⟨_,_,_,rfl,rfl,e⟩
      · dsimp only
        refine wpS_bind (wpS_lift (wpAny_rule ⟨rfl,?_⟩))
        refine wpS_bind (wpS_mono (wpS_forRange (I:=fun t' c st'=>∃ o' p' q' g c' d' g',c=(none,o',p',q',g,c',d')∧st'=setG st g'∧LoI key a b o' p' q'∧p'+1 < a.size∧q' < b.size∧p+q+1+t'≤p'+q')
          (Q:=fun c st'=>(∃ out c' g',c=(some out,c')∧st'=setG st g'∧out.toList=mrg key a.toList b.toList)∨∃ o' p' q' g c' d' g',c=(none,o',p',q',g,c',d')∧st'=setG st g'∧LoI key a b o' p' q'∧p'+1 < a.size∧q' < b.size∧p+q+1≤p'+q') ?s2 ?f2 ⟨_,_,_,_,_,_,_,rfl,rfl,I',b1,b2,by omega⟩) ?p2)
        case f2=>
          rintro c st' ⟨o',p',q',g,c',d',g',rfl,rfl,I',b1,b2,b3⟩
          omega
        case s2=>
          rintro t' c st' _ ht' ⟨o',p',q',g,c',d',g',rfl,rfl,I',b1,b2,b3⟩
          exact wp_loA (m:=p'+q'+2) C T hk ⟨fun out c g e=>.inl ⟨_,_,_,rfl,rfl,e⟩,fun o p q g c d g' I h1 h2 h3=>.inr ⟨_,_,_,_,_,_,_,rfl,rfl,I,h1,h2,by omega⟩,fun o p q g c d g' I h1 h2 h3=>⟨_,_,_,_,_,_,_,rfl,rfl,I,h1,h2,by omega⟩⟩ I' b1 b2 (by omega)
        case p2=>
          rintro c st' (⟨out,c',g',rfl,rfl,e⟩ | ⟨o',p',q',g,c',d',g',rfl,rfl,I',b1,b2,b3⟩)
          · exact wpS_pure ⟨_,_,_,rfl,rfl,e⟩
          · exact wpS_bind (wpS_modify (wpS_pure ⟨o',p',q',_,_,rfl,rfl,I',b1,b2,by omega⟩))
end
end Tim
namespace Tim
open PySem PyProof.Rows
section
variable {prog:Program} {w:World} {A:Around} {E:Value→Shared→Prop} {s:Shared} {a₀:Array Keyed} {κ:SortKind} {O:KeyOrd} {key:Keyed→O.α}
theorem ext_to (a:Array Keyed) (p:Nat):(a.extract 0 p).toList=a.toList.take p:=by
  rw [Array.toList_extract,List.extract_eq_drop_take,List.drop_zero,Nat.sub_zero]
theorem take_at {a:Array Keyed} {p:Nat} {x:Keyed} (e:a[p]?=some x):a.toList.take (p+1)=a.toList.take p++[x]:=by
  obtain ⟨h,rfl⟩:=Array.getElem?_eq_some_iff.mp e
  rw [List.take_succ_eq_append_getElem (by simpa using h)]
  simp
theorem take_mid (a:Array Keyed) {f p:Nat} (h:f≤p):a.toList.take p=a.toList.take f++(a.extract f p).toList:=by
  rw [Array.toList_extract,List.extract_eq_drop_take]
  have e:p=f+(p - f):=by omega
  conv=>lhs;rw [e]
  rw [List.take_add]
theorem mem_to {a:Array Keyed} {p:Nat} {z:Keyed} (hz:z∈a.toList.take p):∃ i,i < p∧a[i]?=some z:=by
  obtain ⟨i,hi,rfl⟩:=List.getElem_of_mem hz
  have hi':i < min p a.size:=by simpa using hi
  refine ⟨i,by omega,?_⟩
  rw [List.getElem_take,Array.getElem_toList,Array.getElem?_eq_getElem]
theorem mem_ext {a:Array Keyed} {f p:Nat} {z:Keyed} (hz:z∈(a.extract f p).toList):∃ i,f≤i∧i < p∧a[i]?=some z:=by
  rw [Array.toList_extract,List.extract_eq_drop_take] at hz
  obtain ⟨i,hi,e⟩:=mem_mid hz
  exact ⟨f+i,by omega,by omega,e⟩
theorem srt_at {a:Array Keyed} (h:Srt key a.toList) {i j:Nat} {x y:Keyed} (ex:a[i]?=some x) (ey:a[j]?=some y) (hij:i≤j):O.blt (key y) (key x)=false:=by
  obtain ⟨h1,rfl⟩:=Array.getElem?_eq_some_iff.mp ex
  obtain ⟨h2,rfl⟩:=Array.getElem?_eq_some_iff.mp ey
  rcases Nat.lt_or_ge i j with l | l
  · have:=List.pairwise_iff_getElem.mp h i j (by simpa using h1) (by simpa using h2) l
    simpa using this
  · have:i=j:=by omega
    subst this
    exact O.irrefl _
def HiI (key:Keyed→O.α) (a b o:Array Keyed) (p q:Nat):Prop:=mrg key (a.toList.take p) (b.toList.take q)++o.toList.reverse=mrg key a.toList b.toList
section
variable {a b o:Array Keyed} {p q f:Nat} {x y:Keyed}
theorem hi_a (I:HiI key a b o (p+1) q) (ex:a[p]?=some x) (h:∀ i z,i < q→b[i]?=some z→O.blt (key z) (key x)=true):HiI key a b (o.push x) p q:=by
  unfold HiI at I ⊢
  rw [take_at ex,mrg_snocL x _ _ fun z hz=>by obtain ⟨i,hi,e⟩:=mem_to hz;exact h i z hi e,List.append_assoc] at I
  rw [Array.toList_push,List.reverse_append]
  exact I
theorem hi_b (I:HiI key a b o p (q+1)) (ey:b[q]?=some y) (h:∀ i z,i < p→a[i]?=some z→O.blt (key y) (key z)=false):HiI key a b (o.push y) p q:=by
  unfold HiI at I ⊢
  rw [take_at ey,mrg_snocR y _ _ fun z hz=>by obtain ⟨i,hi,e⟩:=mem_to hz;exact h i z hi e,List.append_assoc] at I
  rw [Array.toList_push,List.reverse_append]
  exact I
theorem hi_as (I:HiI key a b o p q) (hf:f≤p) (h:∀ i u j z,f≤i→i < p→a[i]?=some u→j < q→b[j]?=some z→O.blt (key z) (key u)=true):HiI key a b (o++(a.extract f p).reverse) f q:=by
  unfold HiI at I ⊢
  rw [take_mid a hf,mrg_snocLs _ _ _ fun u hu z hz=>by
    obtain ⟨i,h1,h2,e⟩:=mem_ext hu
    obtain ⟨j,hj,e'⟩:=mem_to hz
    exact h i u j z h1 h2 e hj e',List.append_assoc] at I
  rw [Array.toList_append,List.reverse_append,Array.toList_reverse,List.reverse_reverse]
  exact I
theorem hi_bs (I:HiI key a b o p q) (hf:f≤q) (h:∀ i u j z,f≤i→i < q→b[i]?=some u→j < p→a[j]?=some z→O.blt (key u) (key z)=false):HiI key a b (o++(b.extract f q).reverse) p f:=by
  unfold HiI at I ⊢
  rw [take_mid b hf,mrg_snocRs _ _ _ fun u hu z hz=>by
    obtain ⟨i,h1,h2,e⟩:=mem_ext hu
    obtain ⟨j,hj,e'⟩:=mem_to hz
    exact h i u j z h1 h2 e hj e',List.append_assoc] at I
  rw [Array.toList_append,List.reverse_append,Array.toList_reverse,List.reverse_reverse]
  exact I
theorem hi_dnA (I:HiI key a b o p q) (h:p=0):(a.extract 0 p++b.extract 0 q++o.reverse).toList=mrg key a.toList b.toList:=by
  subst h
  unfold HiI at I
  rw [Array.toList_append,Array.toList_append,ext_to,ext_to,← I,List.take_zero,mrg_nil,Array.toList_reverse,List.nil_append]
theorem hi_dnB (I:HiI key a b o p q) (h:q=0):(a.extract 0 p++b.extract 0 q++o.reverse).toList=mrg key a.toList b.toList:=by
  subst h
  unfold HiI at I
  rw [Array.toList_append,Array.toList_append,ext_to,ext_to,← I,List.take_zero,mrg_nil',Array.toList_reverse,List.append_nil]
theorem hi_fb (T:Two key a₀ a b) (I:HiI key a b o p q) (h:q=1):(b.extract 0 q++a.extract 0 p++o.reverse).toList=mrg key a.toList b.toList:=by
  subst h
  obtain ⟨y,ey⟩:=at_lt (a:=b) (i:=0) T.nb
  have e:b.toList.take 1=[y]:=take_at ey
  unfold HiI at I
  rw [e,mrg_first y _ fun z hz=>by obtain ⟨i,hi,e'⟩:=mem_to hz;exact T.fst z (mem_at e') y ey] at I
  rw [Array.toList_append,Array.toList_append,ext_to,ext_to,← I,e,Array.toList_reverse]
  rfl
end
abbrev HSt:=Option (Array Keyed) × Nat × Nat × Array Keyed × Nat × Nat × Nat
def hiD (a b o:Array Keyed) (p q g c d:Nat):SM (ForInStep HSt):=do
  let x ← elem' a (p - 1)
  if p - 1 == 0 then return .done (some (a.extract 0 (p - 1)++b.extract 0 q++(o.push x).reverse),p - 1,q,o.push x,g,c,d)
  else if c < 7 && d < 7 then return .done (none,p - 1,q,o.push x,g,c,d)
  else return .yield (none,p - 1,q,o.push x,g,c,d)
def hiC (a b o:Array Keyed) (p q g c d:Nat):SM (ForInStep HSt):=do
  let y ← elem' b (q - 1)
  if q - 1 == 1 then return .done (some (b.extract 0 (q - 1)++a.extract 0 p++(o.push y).reverse),p,q - 1,o.push y,g,c,d)
  else
    let x ← elem' a (p - 1)
    let some f ← gal true x b 0 (q - 1) (q - 1 - 1) | return .done (some (a.extract 0 p++b.extract 0 (q - 1)++(o.push y).reverse),p,q - 1,o.push y,g,c,d)
    if q - 1 - f > 0 then
      if f == 1 then return .done (some (b.extract 0 f++a.extract 0 p++(o.push y++(b.extract f (q - 1)).reverse).reverse),p,f,o.push y++(b.extract f (q - 1)).reverse,g,c,q - 1 - f)
      else if f == 0 then return .done (some (a.extract 0 p++b.extract 0 f++(o.push y++(b.extract f (q - 1)).reverse).reverse),p,f,o.push y++(b.extract f (q - 1)).reverse,g,c,q - 1 - f)
      else hiD a b (o.push y++(b.extract f (q - 1)).reverse) p f g c (q - 1 - f)
    else hiD a b (o.push y) p (q - 1) g c (q - 1 - f)
def hiB (a b o:Array Keyed) (p q g c d:Nat):SM (ForInStep HSt):=do
  putG g
  let y ← elem' b (q - 1)
  let some f ← gal false y a 0 p (p - 1) | return .done (some (a.extract 0 p++b.extract 0 q++o.reverse),p,q,o,g,c,d)
  if p - f > 0 then
    if f == 0 then return .done (some (a.extract 0 f++b.extract 0 q++(o++(a.extract f p).reverse).reverse),f,q,o++(a.extract f p).reverse,g,p - f,d)
    else hiC a b (o++(a.extract f p).reverse) f q g (p - f) d
  else hiC a b o p q g (p - f) d
def hiA (a b:Array Keyed) (c:HSt):SM (ForInStep HSt):=
  if c.2.2.2.2.1 > 1 then hiB a b c.2.2.2.1 c.2.1 c.2.2.1 (c.2.2.2.2.1 - 1) c.2.2.2.2.2.1 c.2.2.2.2.2.2
  else hiB a b c.2.2.2.1 c.2.1 c.2.2.1 c.2.2.2.2.1 c.2.2.2.2.2.1 c.2.2.2.2.2.2
structure GoesHi (key:Keyed→O.α) (a b:Array Keyed) (st:SortSt) (m:Nat) (R:ForInStep HSt→SortSt→Prop):Prop where
  fin:∀ (out:Array Keyed) c g,out.toList=mrg key a.toList b.toList→R (.done (some out,c)) (setG st g)
  brk:∀ o p q g c d g',HiI key a b o p q→0 < p→p≤a.size→1 < q→q≤b.size→p+q≤m→R (.done (none,p,q,o,g,c,d)) (setG st g')
  yld:∀ o p q g c d g',HiI key a b o p q→0 < p→p≤a.size→1 < q→q≤b.size→p+q≤m→R (.yield (none,p,q,o,g,c,d)) (setG st g')
section
variable {a b o:Array Keyed} {p q k g c d m g':Nat} {x y:Keyed} {st:SortSt} {R:ForInStep HSt→SortSt→Prop}
theorem wp_hiD (G:GoesHi key a b st m R) (I:HiI key a b o (p+1) q) (hp:p+1≤a.size) (hq:1 < q) (hq':q≤b.size) (hm:p+q≤m) (h:∀ x i z,a[p]?=some x→i < q→b[i]?=some z→O.blt (key z) (key x)=true) :
    wpS (model prog w) A E s (hiD a b o (p+1) q g c d) R (setG st g'):=by
  obtain ⟨x,ex⟩:=at_lt (a:=a) (i:=p) (by omega)
  unfold hiD
  rw [Nat.add_sub_cancel]
  refine wpS_bind (wp_elem ex ?_)
  have I':=hi_a I ex fun i z=>h x i z ex
  by_cases e:p=0
  · rw [if_pos (by simpa using e)]
    exact wpS_pure (G.fin _ _ _ (hi_dnA I' e))
  · rw [if_neg (by simpa using e)]
    split
    · exact wpS_pure (G.brk _ _ _ _ _ _ _ I' (by omega) (by omega) hq hq' hm)
    · exact wpS_pure (G.yld _ _ _ _ _ _ _ I' (by omega) (by omega) hq hq' hm)
theorem wp_hiC (C:Cmp prog w A E s a₀ κ O key) (T:Two key a₀ a b) (hk:kindOf st=κ) (G:GoesHi key a b st m R) (I:HiI key a b o (p+1) (q+1)) (hp:p+1≤a.size) (hq:1 < q+1) (hq':q+1≤b.size) (hm:p+q≤m)
    (h:∀ y i z,b[q]?=some y→i < p+1→a[i]?=some z→O.blt (key y) (key z)=false) :
    wpS (model prog w) A E s (hiC a b o (p+1) (q+1) g c d) R (setG st g'):=by
  obtain ⟨x,ex⟩:=at_lt (a:=a) (i:=p) (by omega)
  obtain ⟨y,ey⟩:=at_lt (a:=b) (i:=q) (by omega)
  unfold hiC
  rw [Nat.add_sub_cancel,Nat.add_sub_cancel]
  refine wpS_bind (wp_elem ey ?_)
  have I':=hi_b I ey fun i z=>h y i z ey
  by_cases e:q=1
  · rw [if_pos (by simpa using e)]
    exact wpS_pure (G.fin _ _ _ (hi_fb T I' e))
  · rw [if_neg (by simpa using e)]
    refine wpS_bind (wp_elem ex ?_)
    refine wpS_bind (wp_gal C (fun i=>match b[0+i]? with | some y=>O.blt (key y) (key x) | none=>false) (T.ma x (mem_at ex)) hk (fun i hi=>?_) (fun i j hij hj=>?_) (by omega) fun f hf' ht hf=>?_)
    · obtain ⟨z,ez⟩:=at_lt (a:=b) (i:=0+i) (by omega)
      refine ⟨z,ez,T.mb z (mem_at ez),?_⟩
      rw [ez];rfl
    · obtain ⟨z,ez⟩:=at_lt (a:=b) (i:=0+i) (by omega)
      obtain ⟨v,ev⟩:=at_lt (a:=b) (i:=0+j) (by omega)
      rw [ez,ev]
      exact fun hv=>KeyOrd.klt_of_kle_of_klt (O:=O) (a:=key z) (b:=key v) (c:=key x) (srt_at T.sb ez ev (by omega)) hv
    · have fs:∀ i y,i < f→b[i]?=some y→O.blt (key y) (key x)=true:=fun i y hi e=>by
        have:=ht i hi
        rw [Nat.zero_add,e] at this
        exact this
      have nx:∀ i u,f≤i→i < q→b[i]?=some u→O.blt (key u) (key x)=false:=fun i u h1 h2 e=>by
        have:=hf i h1 h2
        rw [Nat.zero_add,e] at this
        exact this
      have go:∀ x' i z,a[p]?=some x'→i < f→b[i]?=some z→O.blt (key z) (key x')=true:=fun x' i z e1 hi e=>by
        rw [ex] at e1;cases e1
        exact fs i z hi e
      dsimp only
      by_cases k0:q - f > 0
      · rw [if_pos k0]
        have I2:=hi_bs I' hf' fun i u j z h1 h2 e1 hj e2=>kle_tr (srt_at T.sa e2 ex (by omega)) (nx i u h1 h2 e1)
        by_cases e1:f=1
        · rw [if_pos (by simpa using e1)]
          exact wpS_pure (G.fin _ _ _ (hi_fb T I2 e1))
        · rw [if_neg (by simpa using e1)]
          by_cases e2:f=0
          · rw [if_pos (by simpa using e2)]
            exact wpS_pure (G.fin _ _ _ (hi_dnB I2 e2))
          · rw [if_neg (by simpa using e2)]
            exact wp_hiD G I2 hp (by omega) (by omega) (by omega) go
      · rw [if_neg k0]
        have:f=q:=by omega
        subst this
        exact wp_hiD G I' hp (by omega) (by omega) (by omega) go
theorem wp_hiB (C:Cmp prog w A E s a₀ κ O key) (T:Two key a₀ a b) (hk:kindOf st=κ) (G:GoesHi key a b st m R) (I:HiI key a b o p (q+1)) (hp:0 < p) (hp':p≤a.size) (hq:1 < q+1) (hq':q+1≤b.size) (hm:p+q≤m+1) :
    wpS (model prog w) A E s (hiB a b o p (q+1) g c d) R (setG st g'):=by
  obtain ⟨y,ey⟩:=at_lt (a:=b) (i:=q) (by omega)
  unfold hiB
  rw [Nat.add_sub_cancel]
  refine wpS_bind (wpS_modify ?_)
  refine wpS_bind (wp_elem ey ?_)
  refine wpS_bind (wp_gal C (fun i=>match a[0+i]? with | some x=>!O.blt (key y) (key x) | none=>false) (T.mb y (mem_at ey)) hk (fun i hi=>?_) (fun i j hij hj=>?_) (by omega) fun f hf' ht hf=>?_)
  · obtain ⟨z,ez⟩:=at_lt (a:=a) (i:=0+i) (by omega)
    refine ⟨z,ez,T.ma z (mem_at ez),?_⟩
    rw [ez];rfl
  · obtain ⟨z,ez⟩:=at_lt (a:=a) (i:=0+i) (by omega)
    obtain ⟨v,ev⟩:=at_lt (a:=a) (i:=0+j) (by omega)
    rw [ez,ev]
    dsimp only
    intro hv
    have hv:O.blt (key y) (key v)=false:=by simpa using hv
    rw [kle_tr (srt_at T.sa ez ev (by omega)) hv];rfl
  · have fs:∀ i x,i < f→a[i]?=some x→O.blt (key y) (key x)=false:=fun i x hi e=>by
      have:=ht i hi
      rw [Nat.zero_add,e] at this
      simpa using this
    have nx:∀ i u,f≤i→i < p→a[i]?=some u→O.blt (key y) (key u)=true:=fun i u h1 h2 e=>by
      have:=hf i h1 h2
      rw [Nat.zero_add,e] at this
      simpa using this
    have go:∀ y' i z,b[q]?=some y'→i < f→a[i]?=some z→O.blt (key y') (key z)=false:=fun y' i z e1 hi e=>by
      rw [ey] at e1;cases e1
      exact fs i z hi e
    dsimp only
    by_cases k0:p - f > 0
    · rw [if_pos k0]
      have I2:=hi_as I hf' fun i u j z h1 h2 e1 hj e2=>KeyOrd.klt_of_kle_of_klt (O:=O) (a:=key z) (b:=key y) (c:=key u) (srt_at T.sb e2 ey (by omega)) (nx i u h1 h2 e1)
      by_cases e2:f=0
      · rw [if_pos (by simpa using e2)]
        exact wpS_pure (G.fin _ _ _ (hi_dnA I2 e2))
      · rw [if_neg (by simpa using e2)]
        obtain ⟨f',rfl⟩:∃ f',f=f'+1:=⟨f - 1,by omega⟩
        exact wp_hiC (st:=st) C T hk G I2 (by omega) hq hq' (by omega) go
    · rw [if_neg k0]
      have:f=p:=by omega
      subst this
      obtain ⟨f',rfl⟩:∃ f',f=f'+1:=⟨f - 1,by omega⟩
      exact wp_hiC (st:=st) C T hk G I (by omega) hq hq' (by omega) go
theorem wp_hiA (C:Cmp prog w A E s a₀ κ O key) (T:Two key a₀ a b) (hk:kindOf st=κ) (G:GoesHi key a b st m R) (I:HiI key a b o p q) (hp:0 < p) (hp':p≤a.size) (hq:1 < q) (hq':q≤b.size) (hm:p+q≤m+2) :
    wpS (model prog w) A E s (hiA a b (none,p,q,o,g,c,d)) R (setG st g'):=by
  obtain ⟨q,rfl⟩:∃ q',q=q'+1:=⟨q - 1,by omega⟩
  unfold hiA
  split
  · exact wp_hiB (p:=p) (q:=q) C T hk G I hp hp' hq hq' (by omega)
  · exact wp_hiB (p:=p) (q:=q) C T hk G I hp hp' hq hq' (by omega)
end
theorem wp_mHi (C:Cmp prog w A E s a₀ κ O key) {a b:Array Keyed} (T:Two key a₀ a b) {st:SortSt} (hk:kindOf st=κ) {Q:Array Keyed→SortSt→Prop} (h:∀ (o:Array Keyed) (g:Nat),o.toList=mrg key a.toList b.toList→Q o (setG st g)) :
    wpS (model prog w) A E s (mHi a b) Q st:=by
  have na:=T.na
  have nb:=T.nb
  obtain ⟨x0,ex⟩:=at_lt (a:=a) (i:=a.size - 1) (by omega)
  rw [mHi_eq]
  refine wpS_bind (wpS_lift (wpAny_rule ⟨rfl,?_⟩))
  dsimp only
  refine wpS_bind (wp_elem ex ?_)
  have I0:HiI key a b #[x0] (a.size - 1) b.size:=hi_a (o:=#[]) (by
    unfold HiI
    rw [show a.size - 1+1=a.size by omega,List.take_of_length_le (l:=a.toList) (by simp),List.take_of_length_le (l:=b.toList) (by simp)]
    simp) ex fun i z hi e=>T.lst z (mem_at e) x0 ex
  have e0:st=setG st (gallopOf st):=rfl
  by_cases e1:a.size - 1=0
  · rw [if_pos (by simpa using e1)]
    exact wpS_pure (h _ (gallopOf st) (hi_dnA I0 e1))
  rw [if_neg (by simpa using e1)]
  by_cases e2:b.size=1
  · rw [if_pos (by simpa using e2)]
    exact wpS_pure (h _ (gallopOf st) (hi_fb T I0 e2))
  rw [if_neg (by simpa using e2)]
  refine wpS_bind (wpS_get ?_)
  refine wpS_bind (wpS_mono (wpS_forRange (I:=fun t c st'=>∃ o p q g g',c=(none,p,q,o,g)∧st'=setG st g'∧HiI key a b o p q∧0 < p∧p≤a.size∧1 < q∧q≤b.size∧t+1+p+q≤a.size+b.size)
    (Q:=fun c st'=>∃ out c' g',c=(some out,c')∧st'=setG st g'∧out.toList=mrg key a.toList b.toList) ?step ?fin ⟨_,_,_,_,_,rfl,e0,I0,by omega,by omega,by omega,by omega,by omega⟩) ?post)
  case post=>
    rintro c st' ⟨out,c',g',rfl,rfl,e⟩
    exact wpS_pure (h _ _ e)
  case fin=>
    rintro c st' ⟨o,p,q,g,g',rfl,rfl,I,a1,a2,a3,a4,a5⟩
    omega
  case step=>
    rintro t c st' _ ht ⟨o,p,q,g,g',rfl,rfl,I,a1,a2,a3,a4,a5⟩
    dsimp only
    refine wpS_bind (wpS_mono (wpS_forRange (I:=fun t' c st'=>∃ o' p' q' c' d',c=(none,p',q',o',c',d')∧st'=setG st g'∧HiI key a b o' p' q'∧0 < p'∧p'≤a.size∧1 < q'∧q'≤b.size∧p'+q'+t'≤p+q)
      (Q:=fun c st'=>st'=setG st g'∧((∃ out c',c=(some out,c')∧out.toList=mrg key a.toList b.toList)∨∃ o' p' q' c' d',c=(none,p',q',o',c',d')∧HiI key a b o' p' q'∧0 < p'∧p'≤a.size∧1 < q'∧q'≤b.size∧p'+q'+1≤p+q)) ?s1 ?f1 ⟨_,_,_,_,_,rfl,rfl,I,a1,a2,a3,a4,by omega⟩) ?p1)
    case f1=>
      rintro c st' ⟨o',p',q',c',d',rfl,rfl,I',b1,b2,b3,b4,b5⟩
      omega
    case s1=>
      rintro t' c st' _ ht' ⟨o',p',q',c',d',rfl,rfl,I',b1,b2,b3,b4,b5⟩
      obtain ⟨p',rfl⟩:∃ z,p'=z+1:=⟨p' - 1,by omega⟩
      obtain ⟨q',rfl⟩:∃ z,q'=z+1:=⟨q' - 1,by omega⟩
      simp only [Nat.add_sub_cancel]
      obtain ⟨x,ex'⟩:=at_lt (a:=a) (i:=p') (by omega)
      obtain ⟨y,ey'⟩:=at_lt (a:=b) (i:=q') (by omega)
      refine wpS_bind (wp_elem ey' (wpS_bind (wp_elem ex' (wpS_bind (C y x _ _ (T.mb y (mem_at ey')) (T.ma x (mem_at ex')) hk ?_)))))
      dsimp only
      cases e:O.blt (key y) (key x) with
      | true=>
        rw [if_pos rfl]
        refine wpS_bind (wp_elem ex' ?_)
        have I2:=hi_a I' ex' fun i z hi ez=>KeyOrd.klt_of_kle_of_klt (O:=O) (a:=key z) (b:=key y) (c:=key x) (srt_at T.sb ez ey' (by omega)) e
        by_cases f1:p'=0
        · rw [if_pos (by simpa using f1)]
          exact wpS_pure ⟨rfl,.inl ⟨_,_,rfl,hi_dnA I2 f1⟩⟩
        · rw [if_neg (by simpa using f1)]
          split
          · exact wpS_pure ⟨rfl,.inr ⟨_,_,_,_,_,rfl,I2,by omega,by omega,by omega,by omega,by omega⟩⟩
          · exact wpS_pure ⟨_,_,_,_,_,rfl,rfl,I2,by omega,by omega,by omega,by omega,by omega⟩
      | false=>
        rw [if_neg (by simp)]
        refine wpS_bind (wp_elem ey' ?_)
        have I2:=hi_b I' ey' fun i z hi ez=>kle_tr (srt_at T.sa ez ex' (by omega)) e
        by_cases f1:q'=1
        · rw [if_pos (by simpa using f1)]
          exact wpS_pure ⟨rfl,.inl ⟨_,_,rfl,hi_fb T I2 f1⟩⟩
        · rw [if_neg (by simpa using f1)]
          split
          · exact wpS_pure ⟨rfl,.inr ⟨_,_,_,_,_,rfl,I2,by omega,by omega,by omega,by omega,by omega⟩⟩
          · exact wpS_pure ⟨_,_,_,_,_,rfl,rfl,I2,by omega,by omega,by omega,by omega,by omega⟩
    case p1=>
      rintro c st' ⟨rfl,⟨out,c',rfl,e⟩ | ⟨o',p',q',c',d',rfl,I',b1,b2,b3,b4,b5⟩⟩
      · exact wpS_pure ⟨_,_,_,rfl,rfl,e⟩
      · dsimp only
        refine wpS_bind (wpS_lift (wpAny_rule ⟨rfl,?_⟩))
        refine wpS_bind (wpS_mono (wpS_forRange (I:=fun t' c st'=>∃ o' p' q' g c' d' g',c=(none,p',q',o',g,c',d')∧st'=setG st g'∧HiI key a b o' p' q'∧0 < p'∧p'≤a.size∧1 < q'∧q'≤b.size∧p'+q'+1+t'≤p+q)
          (Q:=fun c st'=>(∃ out c' g',c=(some out,c')∧st'=setG st g'∧out.toList=mrg key a.toList b.toList)∨∃ o' p' q' g c' d' g',c=(none,p',q',o',g,c',d')∧st'=setG st g'∧HiI key a b o' p' q'∧0 < p'∧p'≤a.size∧1 < q'∧q'≤b.size∧p'+q'+1≤p+q) ?s2 ?f2 ⟨_,_,_,_,_,_,_,rfl,rfl,I',b1,b2,b3,b4,by omega⟩) ?p2)
        case f2=>
          rintro c st' ⟨o',p',q',g,c',d',g',rfl,rfl,I',b1,b2,b3,b4,b5⟩
          omega
        case s2=>
          rintro t' c st' _ ht' ⟨o',p',q',g,c',d',g',rfl,rfl,I',b1,b2,b3,b4,b5⟩
          exact wp_hiA (m:=p'+q' - 2) C T hk ⟨fun out c g e=>.inl ⟨_,_,_,rfl,rfl,e⟩,fun o p q g c d g' I h1 h2 h3 h4 h5=>.inr ⟨_,_,_,_,_,_,_,rfl,rfl,I,h1,h2,h3,h4,by omega⟩,fun o p q g c d g' I h1 h2 h3 h4 h5=>⟨_,_,_,_,_,_,_,rfl,rfl,I,h1,h2,h3,h4,by omega⟩⟩ I' b1 b2 b3 b4 (by omega)
        case p2=>
          rintro c st' (⟨out,c',g',rfl,rfl,e⟩ | ⟨o',p',q',g,c',d',g',rfl,rfl,I',b1,b2,b3,b4,b5⟩)
          · exact wpS_pure ⟨_,_,_,rfl,rfl,e⟩
          · exact wpS_bind (wpS_modify (wpS_pure ⟨o',p',q',_,_,rfl,rfl,I',b1,b2,b3,b4,by omega⟩))
end
end Tim
namespace Tim
open PySem PyProof.Rows
section
variable {prog:Program} {w:World} {A:Around} {E:Value→Shared→Prop} {s:Shared} {a₀:Array Keyed} {κ:SortKind} {O:KeyOrd} {key:Keyed→O.α}
theorem wr_list:∀ (l:List Keyed) (b m:Nat) (xs:Array Keyed),b+m+l.length≤xs.size →
    ((l.zipIdx m).foldl (fun a (p,j)=>a.setIfInBounds (b+j) p) xs).toList=xs.toList.take (b+m)++l++xs.toList.drop (b+m+l.length)
  | [],b,m,xs,h=>by simp
  | x :: l,b,m,xs,h=>by
    rw [List.length_cons] at h
    rw [List.zipIdx_cons,List.foldl_cons]
    have:=wr_list l b (m+1) (xs.setIfInBounds (b+m) x) (by rw [Array.size_setIfInBounds];omega)
    rw [this,Array.toList_setIfInBounds,List.length_cons,← Nat.add_assoc b m 1]
    have hl:b+m < xs.toList.length:=by simp;omega
    have e1:(xs.toList.set (b+m) x).take (b+m+1)=xs.toList.take (b+m)++[x]:=by
      rw [List.take_succ_eq_append_getElem (by simpa using hl),List.take_set_of_le (Nat.le_refl _),List.getElem_set_self]
    have e2:(xs.toList.set (b+m) x).drop (b+m+1+l.length)=xs.toList.drop (b+m+(l.length+1)):=by
      rw [List.drop_set_of_lt (by omega)]
      congr 1
      omega
    rw [e1,e2,List.append_assoc,List.append_assoc,List.append_assoc]
    rfl
abbrev Seg (key:Keyed→O.α) (xs:Array Keyed) (i j:Nat):Prop:=∀ p q x y,i≤p→p≤q→q < j→xs[p]?=some x→xs[q]?=some y→O.blt (key y) (key x)=false
theorem seg_srt {xs:Array Keyed} {i j:Nat} (h:Seg key xs i j):Srt key (xs.extract i j).toList:=by
  refine List.pairwise_iff_getElem.mpr fun p q hp hq hpq=>?_
  rw [Array.getElem_toList,Array.getElem_toList,Array.getElem_extract,Array.getElem_extract]
  have hq':q < min (j - i) (xs.size - i):=by simpa using hq
  exact h (i+p) (i+q) _ _ (by omega) (by omega) (by omega) (Array.getElem?_eq_getElem _) (Array.getElem?_eq_getElem _)
theorem seg_sub {xs:Array Keyed} {i j i' j':Nat} (h:Seg key xs i j) (h1:i≤i') (h2:j'≤j):Seg key xs i' j':=fun p q x y a b c=>h p q x y (by omega) b (by omega)
theorem seg_eq {xs ys:Array Keyed} {i j:Nat} (h:Seg key xs i j) (e:∀ t,i≤t→t < j→ys[t]?=xs[t]?):Seg key ys i j:=fun p q x y a b c ex ey=>h p q x y a b c (by rw [← e p a (by omega)];exact ex) (by rw [← e q (by omega) c];exact ey)
theorem perm_mem {xs ys:Array Keyed} (h:xs.Perm ys) {x:Keyed} (hx:x∈xs):x∈ys:=(Array.perm_iff_toList_perm.mp h).mem_iff.mp (Array.mem_toList_iff.mpr hx) |> Array.mem_toList_iff.mp
theorem three (L:List Keyed) {u v:Nat} (h:u≤v):L=L.take u++(L.drop u).take (v - u)++L.drop v:=by
  have e:L.drop v=(L.drop u).drop (v - u):=by rw [List.drop_drop];congr 1;omega
  rw [e,List.append_assoc,List.take_append_drop,List.take_append_drop]
abbrev pendM (p:Array (Nat × Nat × Nat)) (i sa n pw:Nat):Array (Nat × Nat × Nat):=(p.setIfInBounds i (sa,n,pw)).eraseIdxIfInBounds (i+1)
theorem wp_mAt (C:Cmp prog w A E s a₀ κ O key) {st:SortSt} {i sa na pw sb nb pw':Nat} {Q:Bool→SortSt→Prop} (hk:kindOf st=κ) (hf:failedOf st=none) (hp:(arrOf st).Perm a₀)
    (e1:(pendingOf st)[i]?=some (sa,na,pw)) (e2:(pendingOf st)[i+1]?=some (sb,nb,pw')) (hsb:sb=sa+na) (n1:1≤na) (n2:1≤nb) (hz:sb+nb≤(arrOf st).size)
    (s1:Seg key (arrOf st) sa sb) (s2:Seg key (arrOf st) sb (sb+nb))
    (h:∀ (arr':Array Keyed) (g:Nat),arr'.Perm a₀→(∀ t,t < sa∨sb+nb≤t→arr'[t]?=(arrOf st)[t]?)→Seg key arr' sa (sb+nb)→Q true (SortSt.mk' κ arr' (pendM (pendingOf st) i sa (na+nb) pw) g none)) :
    wpS (model prog w) A E s (mergeAt' i) Q st:=by
  subst hk
  rw [mAt_eq]
  refine wpS_bind (wpS_get ?_)
  rw [e1,e2]
  dsimp only
  generalize hL:arrOf st=xs at *
  refine wpS_bind (show wpS _ _ _ _ (modify fun _=>setPending st (pendM (pendingOf st) i sa (na+nb) pw)) _ _ from wpS_modify ?_)
  have stay:Q true (setPending st (pendM (pendingOf st) i sa (na+nb) pw)) ↔ Q true (SortSt.mk' (kindOf st) xs (pendM (pendingOf st) i sa (na+nb) pw) (gallopOf st) none):=by
    show Q true (SortSt.mk' (kindOf st) (arrOf st) _ (gallopOf st) (failedOf st)) ↔ _
    rw [hL,hf]
  obtain ⟨y0,ey⟩:=at_lt (a:=xs) (i:=sb) (by omega)
  refine wpS_bind (wp_elem ey ?_)
  have mem:∀ {t z},xs[t]?=some z→z∈a₀:=fun e=>perm_mem hp (mem_at e)
  refine wpS_bind (wp_gal C (fun t=>match xs[sa+t]? with | some x=>!O.blt (key y0) (key x) | none=>false) (mem ey) rfl (fun t ht=>?_) (fun t u htu hu=>?_) (by omega) fun k hk' ht hf'=>?_)
  · obtain ⟨z,ez⟩:=at_lt (a:=xs) (i:=sa+t) (by omega)
    refine ⟨z,ez,mem ez,?_⟩
    rw [ez];rfl
  · obtain ⟨z,ez⟩:=at_lt (a:=xs) (i:=sa+t) (by omega)
    obtain ⟨v,ev⟩:=at_lt (a:=xs) (i:=sa+u) (by omega)
    rw [ez,ev]
    dsimp only
    intro hv
    have hv:O.blt (key y0) (key v)=false:=by simpa using hv
    rw [kle_tr (s1 _ _ _ _ (by omega) (by omega) (by omega) ez ev) hv];rfl
  have lowA:∀ t x,sa≤t→t < sa+k→xs[t]?=some x→O.blt (key y0) (key x)=false:=fun t x h1 h2 e=>by
    have:=ht (t - sa) (by omega)
    rw [show sa+(t - sa)=t by omega,e] at this
    simpa using this
  have highA:∀ t x,sa+k≤t→t < sb→xs[t]?=some x→O.blt (key y0) (key x)=true:=fun t x h1 h2 e=>by
    have:=hf' (t - sa) (by omega) (by omega)
    rw [show sa+(t - sa)=t by omega,e] at this
    simpa using this
  dsimp only
  by_cases c1:na - k=0
  · rw [if_pos (by simpa using c1)]
    refine wpS_pure (stay.mpr (h xs _ hp (fun _ _=>rfl) fun p q x y a b c ex ey'=>?_))
    rcases Nat.lt_or_ge q sb with l | l
    · exact s1 p q x y a b l ex ey'
    · rcases Nat.lt_or_ge p sb with l' | l'
      · exact kle_tr (lowA p x a (by omega) ex) (s2 sb q y0 y (Nat.le_refl _) l c ey ey')
      · exact s2 p q x y l' b c ex ey'
  rw [if_neg (by simpa using c1)]
  obtain ⟨x1,ex⟩:=at_lt (a:=xs) (i:=sa+k+(na - k) - 1) (by omega)
  have ex1:xs[sb - 1]?=some x1:=by rw [← ex];congr 1;omega
  refine wpS_bind (wp_elem ex ?_)
  refine wpS_bind (wp_gal C (fun t=>match xs[sb+t]? with | some y=>O.blt (key y) (key x1) | none=>false) (mem ex) rfl (fun t ht=>?_) (fun t u htu hu=>?_) (by omega) fun m hm' gt gf=>?_)
  · obtain ⟨z,ez⟩:=at_lt (a:=xs) (i:=sb+t) (by omega)
    refine ⟨z,ez,mem ez,?_⟩
    rw [ez];rfl
  · obtain ⟨z,ez⟩:=at_lt (a:=xs) (i:=sb+t) (by omega)
    obtain ⟨v,ev⟩:=at_lt (a:=xs) (i:=sb+u) (by omega)
    rw [ez,ev]
    exact fun hv=>KeyOrd.klt_of_kle_of_klt (O:=O) (a:=key z) (b:=key v) (c:=key x1) (s2 _ _ _ _ (by omega) (by omega) (by omega) ez ev) hv
  have lowB:∀ t y,sb≤t→t < sb+m→xs[t]?=some y→O.blt (key y) (key x1)=true:=fun t y h1 h2 e=>by
    have:=gt (t - sb) (by omega)
    rw [show sb+(t - sb)=t by omega,e] at this
    exact this
  have highB:∀ t y,sb+m≤t→t < sb+nb→xs[t]?=some y→O.blt (key y) (key x1)=false:=fun t y h1 h2 e=>by
    have:=gf (t - sb) (by omega) (by omega)
    rw [show sb+(t - sb)=t by omega,e] at this
    exact this
  dsimp only
  by_cases c2:m=0
  · exfalso
    have a1:=highB sb y0 (by omega) (by omega) ey
    have a2:=highA (sb - 1) x1 (by omega) (by omega) ex1
    rw [a1] at a2;cases a2
  rw [if_neg (by simpa using c2)]
  have T:Two key a₀ (xs.extract (sa+k) sb) (xs.extract sb (sb+m)):=by
    have za:(xs.extract (sa+k) sb).size=sb - (sa+k):=by simp;omega
    refine ⟨fun x hx=>?_,fun x hx=>?_,by omega,by simp;omega,seg_srt (seg_sub s1 (by omega) (Nat.le_refl _)),seg_srt (seg_sub s2 (Nat.le_refl _) (by omega)),fun x hx y e=>?_,fun y hy x e=>?_⟩
    · obtain ⟨t,_,_,e⟩:=mem_ext (Array.mem_toList_iff.mpr hx);exact mem e
    · obtain ⟨t,_,_,e⟩:=mem_ext (Array.mem_toList_iff.mpr hx);exact mem e
    · obtain ⟨t,b1,b2,et⟩:=mem_ext (Array.mem_toList_iff.mpr hx)
      rw [Array.getElem?_extract,if_pos (by omega),Nat.add_zero,ey] at e
      cases e
      exact highA t x b1 b2 et
    · obtain ⟨t,b1,b2,et⟩:=mem_ext (Array.mem_toList_iff.mpr hy)
      rw [za,Array.getElem?_extract,if_pos (by omega),show sa+k+(sb - (sa+k) - 1)=sb - 1 by omega,ex1] at e
      cases e
      exact lowB t y b1 b2 et
  have fin:∀ (o:Array Keyed) (g:Nat),o.toList=mrg key (xs.extract (sa+k) sb).toList (xs.extract sb (sb+m)).toList →
      wpS (model prog w) A E s (do
        modify fun s=>setArr s (o.toList.zipIdx.foldl (fun a (p,j)=>a.setIfInBounds (sa+k+j) p) (arrOf s))
        return (failedOf (← get)).isNone) Q (setG (setPending st (pendM (pendingOf st) i sa (na+nb) pw)) g):=fun o g ho=>by
    refine wpS_bind (wpS_modify (wpS_bind (wpS_get (wpS_pure ?_))))
    show Q (failedOf st).isNone (SortSt.mk' (kindOf st) (o.toList.zipIdx.foldl (fun a (p,j)=>a.setIfInBounds (sa+k+j) p) (arrOf st)) _ g (failedOf st))
    rw [hL,hf]
    have pm:o.toList.Perm ((xs.extract (sa+k) sb).toList++(xs.extract sb (sb+m)).toList):=by rw [ho];exact mrg_perm _ _
    have ln:o.toList.length=sb+m - (sa+k):=by
      rw [pm.length_eq];simp;omega
    have wl:=wr_list o.toList (sa+k) 0 xs (by rw [ln];omega)
    rw [Nat.add_zero,ln,show sa+k+(sb+m - (sa+k))=sb+m by omega] at wl
    generalize List.foldl (fun a (x:Keyed × Nat)=>a.setIfInBounds (sa+k+x.snd) x.fst) xs o.toList.zipIdx=arr' at wl
    have z1:∀ t,t < sa+k→arr'[t]?=xs[t]?:=fun t h1=>by
      rw [← Array.getElem?_toList,wl,List.append_assoc,List.getElem?_append_left (by simp;omega),List.getElem?_take_of_lt h1,Array.getElem?_toList]
    have tk:(xs.toList.take (sa+k)).length=sa+k:=by simp;omega
    have z2:∀ t,sa+k≤t→t < sb+m→arr'[t]?=o.toList[t - (sa+k)]?:=fun t h1 h2=>by
      rw [← Array.getElem?_toList,wl,List.append_assoc,List.getElem?_append_right (by rw [tk];exact h1),tk,List.getElem?_append_left (by rw [ln];omega)]
    have z3:∀ t,sb+m≤t→arr'[t]?=xs[t]?:=fun t h1=>by
      rw [← Array.getElem?_toList,wl,List.getElem?_append_right (by rw [List.length_append,tk,ln];omega),List.length_append,tk,ln,List.getElem?_drop,← Array.getElem?_toList]
      congr 1
      omega
    have at2:∀ t z,sa+k≤t→t < sb+m→arr'[t]?=some z→∃ t',xs[t']?=some z∧sa+k≤t'∧t' < sb+m:=fun t z h1 h2 e=>by
      rw [z2 t h1 h2] at e
      rcases List.mem_append.mp (pm.mem_iff.mp (List.mem_of_getElem? e)) with hz' | hz'
      · obtain ⟨t',b1,b2,e'⟩:=mem_ext hz';exact ⟨t',e',b1,by omega⟩
      · obtain ⟨t',b1,b2,e'⟩:=mem_ext hz';exact ⟨t',e',by omega,b2⟩
    refine h arr' g ?_ (fun t ht=>?_) fun p q x y a b c ex' ey'=>?_
    · refine Array.Perm.trans (Array.perm_iff_toList_perm.mpr ?_) hp
      rw [wl,three xs.toList (u:=sa+k) (v:=sb+m) (by omega)]
      have e3:(xs.toList.drop (sa+k)).take (sb+m - (sa+k))=(xs.extract (sa+k) sb).toList++(xs.extract sb (sb+m)).toList:=by
        have q1:=take_mid xs (f:=sb) (p:=sb+m) (by omega)
        have q2:=take_mid xs (f:=sa+k) (p:=sb) (by omega)
        have q3:=take_mid xs (f:=sa+k) (p:=sb+m) (by omega)
        rw [q1,q2,List.append_assoc] at q3
        have:=List.append_cancel_left q3
        rw [this,Array.toList_extract,List.extract_eq_drop_take]
      have len:(List.take (sa+k) xs.toList++List.take (sb+m - (sa+k)) (List.drop (sa+k) xs.toList)++List.drop (sb+m) xs.toList)=xs.toList:=(three xs.toList (by omega)).symm
      rw [len]
      conv=>rhs;rw [three xs.toList (u:=sa+k) (v:=sb+m) (by omega),e3]
      exact ((List.Perm.refl _).append pm).append (.refl _)
    · rcases ht with ht | ht
      · exact z1 t (by omega)
      · exact z3 t (by omega)
    · have y0le:∀ t z,sb≤t→t < sb+nb→xs[t]?=some z→O.blt (key z) (key y0)=false:=fun t z h1 h2 e=>s2 sb t y0 z (Nat.le_refl _) h1 h2 ey e
      have lex1:∀ t z,sa≤t→t < sb→xs[t]?=some z→O.blt (key x1) (key z)=false:=fun t z h1 h2 e=>s1 t (sb - 1) z x1 h1 (by omega) (by omega) e ex1
      rcases Nat.lt_or_ge p (sa+k) with p1 | p1
      · rw [z1 p p1] at ex'
        have lo1:=lowA p x a p1 ex'
        have low:∀ t z,p≤t→t < sb+nb→xs[t]?=some z→O.blt (key z) (key x)=false:=fun t z h1 h2 e=>by
          rcases Nat.lt_or_ge t sb with l | l
          · exact s1 p t x z a h1 l ex' e
          · exact kle_tr lo1 (y0le t z l h2 e)
        rcases Nat.lt_or_ge q (sa+k) with q1 | q1
        · rw [z1 q q1] at ey';exact low q y b c ey'
        · rcases Nat.lt_or_ge q (sb+m) with q2 | q2
          · obtain ⟨t,e,b1,b2⟩:=at2 q y q1 q2 ey'
            exact low t y (by omega) (by omega) e
          · rw [z3 q q2] at ey';exact low q y b c ey'
      · rcases Nat.lt_or_ge p (sb+m) with p2 | p2
        · rcases Nat.lt_or_ge q (sb+m) with q2 | q2
          · rw [z2 p p1 p2] at ex'
            rw [z2 q (by omega) q2] at ey'
            rcases Nat.lt_or_ge p q with l | l
            · obtain ⟨g1,rfl⟩:=List.getElem?_eq_some_iff.mp ex'
              obtain ⟨g2,rfl⟩:=List.getElem?_eq_some_iff.mp ey'
              have so:Srt key o.toList:=by rw [ho];exact mrg_srt _ _ T.sa T.sb
              exact List.pairwise_iff_getElem.mp so _ _ g1 g2 (by omega)
            · have:p=q:=by omega
              subst this
              rw [ex'] at ey';cases ey'
              exact O.irrefl _
          · obtain ⟨t,e,b1,b2⟩:=at2 p x p1 p2 ex'
            rw [z3 q q2] at ey'
            rcases Nat.lt_or_ge t sb with l | l
            · exact kle_tr (lex1 t x (by omega) l e) (highB q y q2 c ey')
            · exact s2 t q x y l (by omega) c e ey'
        · rw [z3 p p2] at ex'
          rw [z3 q (by omega)] at ey'
          exact s2 p q x y (by omega) b c ex' ey'
  split
  · exact wpS_bind (wp_mLo (st:=setPending st (pendM (pendingOf st) i sa (na+nb) pw)) C T rfl fun o g ho=>fin o g ho)
  · exact wpS_bind (wp_mHi (st:=setPending st (pendM (pendingOf st) i sa (na+nb) pw)) C T rfl fun o g ho=>fin o g ho)
end
end Tim
namespace Tim
open PySem PyProof.Rows
section
variable {prog:Program} {w:World} {A:Around} {E:Value→Shared→Prop} {s:Shared} {a₀:Array Keyed} {κ:SortKind} {O:KeyOrd} {key:Keyed→O.α}
def Dist (key:Keyed→O.α) (a₀:Array Keyed):Prop:=(a₀.toList.map key).Nodup
theorem Dist.inj (D:Dist key a₀) {xs:Array Keyed} (h:xs.Perm a₀) {i j:Nat} {x y:Keyed} (ex:xs[i]?=some x) (ey:xs[j]?=some y) (h1:O.blt (key x) (key y)=false) (h2:O.blt (key y) (key x)=false):i=j:=by
  have nd:(xs.toList.map key).Nodup:=(List.Perm.nodup_iff ((Array.perm_iff_toList_perm.mp h).map key)).mpr D
  obtain ⟨g1,rfl⟩:=Array.getElem?_eq_some_iff.mp ex
  obtain ⟨g2,rfl⟩:=Array.getElem?_eq_some_iff.mp ey
  refine (List.getElem_inj (h₀:=by simpa using g1) (h₁:=by simpa using g2) nd).mp ?_
  rw [List.getElem_map,List.getElem_map,Array.getElem_toList,Array.getElem_toList]
  exact O.total _ _ h1 h2
theorem wp_ltAt (C:Cmp prog w A E s a₀ κ O key) {st:SortSt} {i j:Nat} {x y:Keyed} {Q:Option Bool→SortSt→Prop} (hk:kindOf st=κ) (hp:(arrOf st).Perm a₀) (ex:(arrOf st)[i]?=some x) (ey:(arrOf st)[j]?=some y)
    (h:Q (some (O.blt (key x) (key y))) st):wpS (model prog w) A E s (ltAt' i j) Q st:=by
  rw [ltAt'_eq]
  exact wpS_bind (wpS_get (wpS_bind (wp_elem ex (wpS_bind (wp_elem ey (C x y st Q (perm_mem hp (mem_at ex)) (perm_mem hp (mem_at ey)) hk h))))))
abbrev Fal (key:Keyed→O.α) (xs:Array Keyed) (i j:Nat):Prop:=∀ p q x y,i≤p→p≤q→q < j→xs[p]?=some x→xs[q]?=some y→O.blt (key x) (key y)=false
theorem seg_up {xs:Array Keyed} {lo n:Nat} {x y:Keyed} (h:Seg key xs lo (lo+n)) (h1:1≤n) (ex:xs[lo+n]?=some x) (ey:xs[lo+n - 1]?=some y) (hl:O.blt (key x) (key y)=false):Seg key xs lo (lo+(n+1)):=fun p q u v a b c eu ev=>by
  rcases Nat.lt_or_ge q (lo+n) with l | l
  · exact h p q u v a b l eu ev
  · have:q=lo+n:=by omega
    subst this
    rw [ex] at ev;cases ev
    rcases Nat.lt_or_ge p (lo+n) with l' | l'
    · exact kle_tr (h p (lo+n - 1) u y a (by omega) (by omega) eu ey) hl
    · have:p=lo+n:=by omega
      subst this
      rw [ex] at eu;cases eu
      exact O.irrefl _
theorem fal_up {xs:Array Keyed} {lo n:Nat} {x y:Keyed} (h:Fal key xs lo (lo+n)) (h1:1≤n) (ex:xs[lo+n]?=some x) (ey:xs[lo+n - 1]?=some y) (hl:O.blt (key y) (key x)=false):Fal key xs lo (lo+(n+1)):=fun p q u v a b c eu ev=>by
  rcases Nat.lt_or_ge q (lo+n) with l | l
  · exact h p q u v a b l eu ev
  · have:q=lo+n:=by omega
    subst this
    rw [ex] at ev;cases ev
    rcases Nat.lt_or_ge p (lo+n) with l' | l'
    · exact kle_tr hl (h p (lo+n - 1) u y a (by omega) (by omega) eu ey)
    · have:p=lo+n:=by omega
      subst this
      rw [ex] at eu;cases eu
      exact O.irrefl _
theorem seg_one (xs:Array Keyed) (lo:Nat):Seg key xs lo (lo+1):=fun p q x y a b c ex ey=>by
  have:p=q:=by omega
  subst this
  rw [ex] at ey;cases ey
  exact O.irrefl _
theorem wp_cnt (C:Cmp prog w A E s a₀ κ O key) (D:Dist key a₀) {st:SortSt} {lo nrem:Nat} {Q:Option Nat→SortSt→Prop} (hk:kindOf st=κ) (hp:(arrOf st).Perm a₀) (hn:lo+nrem≤(arrOf st).size) (h1:1≤nrem)
    (h:∀ (m:Nat) (arr':Array Keyed),arr'.Perm a₀→(∀ t,t < lo→arr'[t]?=(arrOf st)[t]?)→1≤m→m≤nrem→Seg key arr' lo (lo+m)→Q (some m) (setArr st arr')) :
    wpS (model prog w) A E s (countRun' lo nrem) Q st:=by
  have own:st=setArr st (arrOf st):=rfl
  rw [countRun'_eq]
  refine wpS_bind (wpS_mono (wpS_forRange (I:=fun t c st'=>st'=st∧c=(none,t)∧Seg key (arrOf st) lo (lo+t))
    (Q:=fun c st'=>st'=st∧∃ n,c=(none,n)∧1≤n∧n≤nrem∧Seg key (arrOf st) lo (lo+n)∧(n=nrem∨∀ x y,(arrOf st)[lo+n]?=some x→(arrOf st)[lo+n - 1]?=some y→O.blt (key x) (key y)=true)) ?step ?fin ⟨rfl,rfl,seg_one _ _⟩) ?post)
  case fin=>
    rintro c st' ⟨rfl,rfl,g⟩
    rw [show max 1 nrem=nrem by omega] at g ⊢
    exact ⟨rfl,nrem,rfl,h1,Nat.le_refl _,g,.inl rfl⟩
  case step=>
    rintro t c st' ht1 ht2 ⟨rfl,rfl,g⟩
    dsimp only
    obtain ⟨x,ex⟩:=at_lt (a:=arrOf st') (i:=lo+t) (by omega)
    obtain ⟨y,ey⟩:=at_lt (a:=arrOf st') (i:=lo+t - 1) (by omega)
    refine wpS_bind (wp_ltAt C hk hp ex ey ?_)
    dsimp only
    cases e:O.blt (key x) (key y) with
    | true=>
      rw [if_pos rfl]
      refine wpS_pure ⟨rfl,t,rfl,ht1,by omega,g,.inr fun x' y' a b=>?_⟩
      rw [ex] at a;cases a
      rw [ey] at b;cases b
      exact e
    | false=>
      rw [if_neg (by simp)]
      exact wpS_pure ⟨rfl,rfl,seg_up g ht1 ex ey e⟩
  case post=>
    rintro c st' ⟨rfl,n,rfl,n1,n2,g,g2⟩
    dsimp only
    by_cases e1:n=nrem
    · rw [if_pos (by simpa using e1)]
      exact wpS_pure (h n (arrOf st') hp (fun _ _=>rfl) n1 n2 g)
    rw [if_neg (by simpa using e1)]
    have g2:=g2.resolve_left e1
    by_cases e2:n > 1
    · rw [if_pos e2]
      obtain ⟨x,ex⟩:=at_lt (a:=arrOf st') (i:=lo) (by omega)
      obtain ⟨y,ey⟩:=at_lt (a:=arrOf st') (i:=lo+n - 1) (by omega)
      refine wpS_bind (wp_ltAt C hk hp ex ey ?_)
      dsimp only
      cases e:O.blt (key x) (key y) with
      | true=>
        rw [if_pos rfl]
        exact wpS_pure (h n (arrOf st') hp (fun _ _=>rfl) n1 n2 g)
      | false=>
        have:=D.inj hp ex ey e (g lo (lo+n - 1) x y (Nat.le_refl _) (by omega) (by omega) ex ey)
        omega
    · rw [if_neg e2]
      have:n=1:=by omega
      subst this
      refine wpS_bind (wpS_lift (wpAny_rule ⟨rfl,?_⟩))
      have f2:Fal key (arrOf st') lo (lo+(1+1)):=by
        obtain ⟨x,ex⟩:=at_lt (a:=arrOf st') (i:=lo+1) (by omega)
        obtain ⟨y,ey⟩:=at_lt (a:=arrOf st') (i:=lo+1 - 1) (by omega)
        refine fal_up (n:=1) (fun p q u v a b c eu ev=>?_) (Nat.le_refl _) ex ey (kle_lt (g2 x y ex ey))
        have:p=q:=by omega
        subst this
        rw [eu] at ev;cases ev
        exact O.irrefl _
      refine wpS_bind (wpS_mono (wpS_forRange (I:=fun t c st''=>st''=st'∧c=(none,t,0)∧Fal key (arrOf st') lo (lo+t))
        (Q:=fun c st''=>st''=st'∧∃ n,c=(none,n,0)∧2≤n∧n≤nrem∧Fal key (arrOf st') lo (lo+n)) ?s1 ?f1 ⟨rfl,rfl,f2⟩) ?p1)
      case f1=>
        rintro c st'' ⟨rfl,rfl,g⟩
        rw [show max (1+1) nrem=nrem by omega] at g ⊢
        exact ⟨rfl,nrem,rfl,by omega,Nat.le_refl _,g⟩
      case s1=>
        rintro t c st'' ht1 ht2 ⟨rfl,rfl,g⟩
        dsimp only
        obtain ⟨x,ex⟩:=at_lt (a:=arrOf st'') (i:=lo+t) (by omega)
        obtain ⟨y,ey⟩:=at_lt (a:=arrOf st'') (i:=lo+t - 1) (by omega)
        refine wpS_bind (wp_ltAt C hk hp ex ey ?_)
        dsimp only
        cases e:O.blt (key x) (key y) with
        | true=>
          rw [if_pos rfl,if_neg (by omega)]
          exact wpS_pure ⟨rfl,rfl,fal_up g (by omega) ex ey (kle_lt e)⟩
        | false=>
          rw [if_neg (by simp)]
          refine wpS_bind (wp_ltAt C hk hp ey ex ?_)
          dsimp only
          cases e':O.blt (key y) (key x) with
          | true=>
            rw [if_pos rfl]
            exact wpS_pure ⟨rfl,t,rfl,by omega,by omega,g⟩
          | false=>
            have:=D.inj hp ex ey e e'
            omega
      case p1=>
        rintro c st'' ⟨rfl,m,rfl,m1,m2,g⟩
        dsimp only
        rw [if_neg (by omega)]
        refine wpS_bind (wpS_reverse ?_)
        have mg:∀ t,(mirror (arrOf st'') lo (lo+m) ((lo+m - lo) / 2))[t]?=if lo≤t∧t < lo+m then (arrOf st'')[lo+(lo+m) - 1 - t]? else (arrOf st'')[t]?:=fun t=>getElem?_mirror_all (by omega) t
        have mp:=mirror_perm (arrOf st'') lo (lo+m) ((lo+m - lo) / 2)
        generalize mirror (arrOf st'') lo (lo+m) ((lo+m - lo) / 2)=xs at mg mp
        have hz:xs.size=(arrOf st'').size:=mp.size_eq
        have g3:Seg key xs lo (lo+m):=fun p q u v a b c eu ev=>by
          rw [mg,if_pos (by omega)] at eu ev
          exact g _ _ v u (by omega) (by omega) (by omega) ev eu
        have hp':xs.Perm a₀:=mp.trans hp
        have out:∀ t,t < lo→xs[t]?=(arrOf st'')[t]?:=fun t ht=>by rw [mg,if_neg (by omega)]
        refine wpS_bind (wpS_mono (wpS_forRange (I:=fun t c st3=>st3=setArr st'' xs∧c=(none,t)∧Seg key xs lo (lo+t))
          (Q:=fun c st3=>st3=setArr st'' xs∧∃ n,c=(none,n)∧1≤n∧n≤nrem∧Seg key xs lo (lo+n)) ?s2 ?f2 ⟨rfl,rfl,g3⟩) ?p2)
        case f2=>
          rintro c st3 ⟨rfl,rfl,g⟩
          rw [show max m nrem=nrem by omega] at g ⊢
          exact ⟨rfl,nrem,rfl,h1,Nat.le_refl _,g⟩
        case s2=>
          rintro t c st3 ht1 ht2 ⟨rfl,rfl,g⟩
          dsimp only
          obtain ⟨x,ex⟩:=at_lt (a:=xs) (i:=lo+t) (by omega)
          obtain ⟨y,ey⟩:=at_lt (a:=xs) (i:=lo+t - 1) (by omega)
          refine wpS_bind (wp_ltAt (st:=setArr st'' xs) C hk hp' ex ey ?_)
          dsimp only
          cases e:O.blt (key x) (key y) with
          | true=>
            rw [if_pos rfl]
            exact wpS_pure ⟨rfl,t,rfl,by omega,by omega,g⟩
          | false=>
            rw [if_neg (by simp)]
            exact wpS_pure ⟨rfl,rfl,seg_up g (by omega) ex ey e⟩
        case p2=>
          rintro c st3 ⟨rfl,n,rfl,n1,n2,g⟩
          exact wpS_pure (h n xs hp' out n1 n2 g)
theorem wp_bin (C:Cmp prog w A E s a₀ κ O key) {st:SortSt} {lo n ok:Nat} {Q:Bool→SortSt→Prop} (hk:kindOf st=κ) (hp:(arrOf st).Perm a₀) (hn:lo+n≤(arrOf st).size) (h1:1≤ok) (h2:ok≤n) (hs:Seg key (arrOf st) lo (lo+ok))
    (h:∀ (arr':Array Keyed),arr'.Perm a₀→(∀ t,t < lo→arr'[t]?=(arrOf st)[t]?)→Seg key arr' lo (lo+n)→Q true (setArr st arr')) :
    wpS (model prog w) A E s (binarySort' lo n ok) Q st:=by
  rw [binarySort'_eq]
  refine wpS_bind (wpS_mono (wpS_forRange (I:=fun t c st'=>c=(none,())∧∃ xs,st'=setArr st xs∧xs.Perm a₀∧(∀ t,t < lo→xs[t]?=(arrOf st)[t]?)∧Seg key xs lo (lo+t))
    (Q:=fun c st'=>c=(none,())∧∃ xs,st'=setArr st xs∧xs.Perm a₀∧(∀ t,t < lo→xs[t]?=(arrOf st)[t]?)∧Seg key xs lo (lo+n)) ?step ?fin ?init) ?post)
  case init=>
    rw [show max ok 1=ok by omega]
    exact ⟨rfl,_,rfl,hp,fun _ _=>rfl,hs⟩
  case fin=>
    rintro c st' ⟨rfl,xs,rfl,a1,a2,a3⟩
    rw [show max (max ok 1) n=n by omega] at a3
    exact ⟨rfl,xs,rfl,a1,a2,a3⟩
  case post=>
    rintro c st' ⟨rfl,xs,rfl,a1,a2,a3⟩
    exact wpS_pure (h xs a1 a2 a3)
  case step=>
    rintro k c st' hk1 hk2 ⟨rfl,xs,rfl,a1,a2,a3⟩
    have hz:xs.size=(arrOf st).size:=(a1.trans hp.symm).size_eq
    obtain ⟨x,ex⟩:=at_lt (a:=xs) (i:=lo+k) (by omega)
    refine wpS_bind (wpS_mono (wpS_forRange (I:=fun t c st''=>st''=setArr st xs∧∃ l r,c=(none,l,r)∧l≤r∧r≤k∧r - l≤k - t ∧
        (∀ i y,i < l→xs[lo+i]?=some y→O.blt (key x) (key y)=false)∧(∀ i y,r≤i→i < k→xs[lo+i]?=some y→O.blt (key x) (key y)=true))
      (Q:=fun c st''=>st''=setArr st xs∧∃ l r,c=(none,l,r)∧l≤k ∧
        (∀ i y,i < l→xs[lo+i]?=some y→O.blt (key x) (key y)=false)∧(∀ i y,l≤i→i < k→xs[lo+i]?=some y→O.blt (key x) (key y)=true)) ?s1 ?f1 ⟨rfl,0,k,rfl,by omega,by omega,by omega,fun i y hi=>by omega,fun i y b1 b2=>by omega⟩) ?p1)
    case f1=>
      rintro c st'' ⟨rfl,l,r,rfl,b1,b2,b3,b4,b5⟩
      have:l=r:=by omega
      subst this
      exact ⟨rfl,l,l,rfl,b2,b4,b5⟩
    case s1=>
      rintro t c st'' _ ht ⟨rfl,l,r,rfl,b1,b2,b3,b4,b5⟩
      dsimp only
      by_cases g:l ≥ r
      · rw [if_pos g]
        have:l=r:=by omega
        subst this
        exact wpS_pure ⟨rfl,l,l,rfl,b2,b4,b5⟩
      · rw [if_neg g]
        obtain ⟨y,ey⟩:=at_lt (a:=xs) (i:=lo+(l+r) / 2) (by omega)
        refine wpS_bind (wp_ltAt (st:=setArr st xs) C hk a1 ex ey ?_)
        dsimp only
        cases e:O.blt (key x) (key y) with
        | true=>
          rw [if_pos rfl]
          exact wpS_pure ⟨rfl,l,(l+r) / 2,rfl,by omega,by omega,by omega,b4,fun i z q1 q2 ez=>KeyOrd.klt_of_klt_of_kle (O:=O) (a:=key x) (b:=key y) (c:=key z) e (a3 _ _ y z (by omega) (by omega) (by omega) ey ez)⟩
        | false=>
          rw [if_neg (by simp)]
          exact wpS_pure ⟨rfl,(l+r) / 2+1,r,rfl,by omega,by omega,by omega,fun i z q1 ez=>kle_tr (a3 _ _ z y (by omega) (by omega) (by omega) ez ey) e,b5⟩
    case p1=>
      rintro c st'' ⟨rfl,l,r,rfl,b1,b2,b3⟩
      dsimp only
      rw [moveDown'_eq]
      have bg:∀ t,(bubble xs (lo+k) (lo+k - (lo+l)))[t]?=if t=lo+l then xs[lo+k]? else if lo+l < t∧t≤lo+k then xs[t - 1]? else xs[t]?:=fun t=>by
        rw [getElem?_bubble (by omega) _ (by omega),show lo+k - (lo+k - (lo+l))=lo+l by omega]
      have bp:=bubble_perm xs (lo+k) (lo+k - (lo+l))
      refine wpS_bind (wpS_modify (wpS_pure ⟨rfl,bubble xs (lo+k) (lo+k - (lo+l)),rfl,bp.trans a1,fun t ht=>?_,fun p q u v a b c eu ev=>?_⟩))
      · rw [bg,if_neg (by omega),if_neg (by omega)]
        exact a2 t ht
      · rw [bg] at eu ev
        by_cases p1:p=lo+l
        · rw [if_pos p1,ex] at eu
          cases eu
          by_cases q1:q=lo+l
          · rw [if_pos q1,ex] at ev
            cases ev
            exact O.irrefl _
          · rw [if_neg q1,if_pos (by omega)] at ev
            exact kle_lt (b3 (q - 1 - lo) v (by omega) (by omega) (by rw [← ev];congr 1;omega))
        · rw [if_neg p1] at eu
          by_cases q1:q=lo+l
          · rw [if_pos q1,ex] at ev
            cases ev
            rw [if_neg (by omega)] at eu
            exact b2 (p - lo) u (by omega) (by rw [← eu];congr 1;omega)
          · rw [if_neg q1] at ev
            split at eu <;> split at ev
            · exact a3 _ _ u v (by omega) (by omega) (by omega) eu ev
            · omega
            · exact a3 _ _ u v (by omega) (by omega) (by omega) eu ev
            · exact a3 _ _ u v (by omega) (by omega) (by omega) eu ev
end
end Tim
namespace Tim
open PySem PyProof.Rows
section
variable {prog:Program} {w:World} {A:Around} {E:Value→Shared→Prop} {s:Shared} {a₀:Array Keyed} {κ:SortKind} {O:KeyOrd} {key:Keyed→O.α}
abbrev Run3:=Nat × Nat × Nat
def Runs (key:Keyed→O.α) (xs:Array Keyed):List Run3→Nat→Nat→Prop
  | [],i,j=>i=j
  | r :: rs,i,j=>r.1=i∧1≤r.2.1∧Seg key xs i (i+r.2.1)∧Runs key xs rs (i+r.2.1) j
theorem runs_len {xs:Array Keyed}:∀ (l:List Run3) (i j:Nat),Runs key xs l i j→i+l.length≤j
  | [],i,j,h=>Nat.le_of_eq h
  | r :: rs,i,j,h=>by
    have:=runs_len rs _ j h.2.2.2
    have:=h.2.1
    rw [List.length_cons]
    omega
theorem runs_eq {xs ys:Array Keyed}:∀ (l:List Run3) (i j:Nat),Runs key xs l i j→(∀ t,i≤t→t < j→ys[t]?=xs[t]?)→Runs key ys l i j
  | [],i,j,h,_=>h
  | r :: rs,i,j,h,e=>by
    have:=runs_len rs _ j h.2.2.2
    exact ⟨h.1,h.2.1,seg_eq h.2.2.1 fun t t1 t2=>e t t1 (by omega),runs_eq rs _ j h.2.2.2 fun t t1 t2=>e t (by omega) t2⟩
theorem runs_snoc {xs:Array Keyed} {lo n:Nat}:∀ {l:List Run3} {i:Nat},Runs key xs l i lo→1≤n→Seg key xs lo (lo+n)→Runs key xs (l++[(lo,n,0)]) i (lo+n)
  | [],i,h,h1,h2=>by
    cases (show i=lo from h)
    exact ⟨rfl,h1,h2,rfl⟩
  | r :: rs,i,h,h1,h2=>⟨h.1,h.2.1,h.2.2.1,runs_snoc h.2.2.2 h1 h2⟩
theorem runs_modify {xs:Array Keyed} (f:Run3→Run3) (f1:∀ r,(f r).1=r.1) (f2:∀ r,(f r).2.1=r.2.1):∀ (l:List Run3) (k i j:Nat),Runs key xs l i j→Runs key xs (l.modify k f) i j
  | [],k,i,j,h=>by cases k <;> exact h
  | r :: rs,0,i,j,h=>by
    rw [List.modify_zero_cons]
    unfold Runs
    rw [f1,f2]
    exact h
  | r :: rs,k+1,i,j,h=>by
    rw [List.modify_succ_cons]
    exact ⟨h.1,h.2.1,h.2.2.1,runs_modify f f1 f2 rs k _ j h.2.2.2⟩
theorem runs_two {xs:Array Keyed}:∀ (k:Nat) (l:List Run3) (i j:Nat),Runs key xs l i j→k+1 < l.length→∃ sa na pw sb nb pw',l[k]?=some (sa,na,pw)∧l[k+1]?=some (sb,nb,pw')∧sb=sa+na∧1≤na∧1≤nb∧i≤sa∧sb+nb≤j ∧
    Seg key xs sa sb∧Seg key xs sb (sb+nb)∧∀ ys:Array Keyed,(∀ t,t < sa∨sb+nb≤t→ys[t]?=xs[t]?)→Seg key ys sa (sb+nb)→Runs key ys ((l.set k (sa,na+nb,pw)).eraseIdx (k+1)) i j
  | 0,(sa,na,pw) :: (sb,nb,pw') :: rs,i,j,h,_=>by
    obtain ⟨h1,h2,h3,h4,h5,h6,h7⟩:=h
    cases (show sa=i from h1)
    cases (show sb=sa+na from h4)
    have l:sa+na+nb+rs.length≤j:=runs_len rs _ j h7
    refine ⟨sa,na,pw,sa+na,nb,pw',rfl,rfl,rfl,h2,h5,Nat.le_refl _,by omega,h3,h6,fun ys e sg=>?_⟩
    show Runs key ys ((sa,na+nb,pw) :: rs) sa j
    refine ⟨rfl,by show 1≤na+nb;exact Nat.le_trans h2 (Nat.le_add_right _ _),?_,?_⟩
    · show Seg key ys sa (sa+(na+nb))
      rw [← Nat.add_assoc];exact sg
    · show Runs key ys rs (sa+(na+nb)) j
      rw [← Nat.add_assoc]
      exact runs_eq rs _ j h7 fun t t1 t2=>e t (.inr t1)
  | k+1,r :: rs,i,j,h,hl=>by
    rw [List.length_cons] at hl
    obtain ⟨sa,na,pw,sb,nb,pw',e1,e2,e3,e4,e5,e6,e7,e8,e9,e10⟩:=runs_two k rs _ j h.2.2.2 (by omega)
    have hr:=h.2.1
    refine ⟨sa,na,pw,sb,nb,pw',e1,e2,e3,e4,e5,by omega,e7,e8,e9,fun ys e sg=>?_⟩
    exact ⟨h.1,h.2.1,seg_eq h.2.2.1 fun t t1 t2=>e t (.inl (by omega)),e10 ys e sg⟩
  | 0,[_],_,_,_,hl=>by simp at hl
  | 0,[],_,_,_,hl=>by simp at hl
  | _+1,[],_,_,_,hl=>by simp at hl
theorem pendM_list (p:Array Run3) (i sa n pw:Nat):(pendM p i sa n pw).toList=(p.toList.set i (sa,n,pw)).eraseIdx (i+1):=by
  unfold pendM
  rw [Array.toList_eraseIdxIfInBounds,Array.toList_setIfInBounds]
theorem pendM_size (p:Array Run3) (i sa n pw:Nat) (h:i+1 < p.size):(pendM p i sa n pw).size=p.size - 1:=by
  rw [← Array.length_toList,pendM_list,List.length_eraseIdx,if_pos (by simpa using h),List.length_set,Array.length_toList]
theorem wp_mAt2 (C:Cmp prog w A E s a₀ κ O key) {st:SortSt} {i j:Nat} {Q:Bool→SortSt→Prop} (hk:kindOf st=κ) (hf:failedOf st=none) (hp:(arrOf st).Perm a₀) (hi:i+1 < (pendingOf st).size) (hr:Runs key (arrOf st) (pendingOf st).toList 0 j) (hj:j≤(arrOf st).size)
    (h:∀ (arr':Array Keyed) (pd':Array Run3) (g:Nat),arr'.Perm a₀→(∀ t,j≤t→arr'[t]?=(arrOf st)[t]?)→Runs key arr' pd'.toList 0 j→pd'.size+1=(pendingOf st).size→Q true (SortSt.mk' κ arr' pd' g none)) :
    wpS (model prog w) A E s (mergeAt' i) Q st:=by
  obtain ⟨sa,na,pw,sb,nb,pw',e1,e2,e3,e4,e5,e6,e7,e8,e9,e10⟩:=runs_two i _ 0 j hr (by simpa using hi)
  rw [Array.getElem?_toList] at e1 e2
  refine wp_mAt C hk hf hp e1 e2 e3 e4 e5 (by omega) e8 e9 fun arr' g c1 c2 c3=>h arr' _ g c1 (fun t ht=>c2 t (.inr (by omega))) ?_ ?_
  · rw [pendM_list];exact e10 arr' c2 c3
  · rw [pendM_size _ _ _ _ _ hi];omega
def RI (key:Keyed→O.α) (a₀:Array Keyed) (κ:SortKind) (lo:Nat) (st:SortSt):Prop:=∃ ys pd g,st=SortSt.mk' κ ys pd g none∧ys.Perm a₀∧Runs key ys pd.toList 0 lo∧lo≤a₀.size
theorem wp_runs (C:Cmp prog w A E s a₀ κ O key) (D:Dist key a₀) {g:Nat} {Q:Unit→SortSt→Prop}
    (h:∀ (arr':Array Keyed) (pd:Array Run3) (g:Nat),arr'.Perm a₀→Srt key arr'.toList→Q () (SortSt.mk' κ arr' pd g none)) :
    wpS (model prog w) A E s sortRuns' Q (SortSt.mk' κ a₀ #[] g none):=by
  rw [sortRuns'_eq]
  refine wpS_bind (wpS_get ?_)
  dsimp only
  show wpS _ _ _ _ (forIn [:a₀.size] _ _ >>= _) Q _
  refine wpS_bind (wpS_mono (wpS_forRange (I:=fun t c st'=>∃ lo,c=(none,lo)∧RI key a₀ κ lo st'∧t≤lo)
    (Q:=fun c st'=>∃ lo,c=(none,lo)∧RI key a₀ κ lo st'∧a₀.size≤lo) ?step ?fin ⟨0,rfl,⟨a₀,#[],g,rfl,.refl _,rfl,Nat.zero_le _⟩,Nat.le_refl _⟩) ?post)
  case fin=>
    rintro c st' ⟨lo,rfl,r,hl⟩
    exact ⟨lo,rfl,r,by omega⟩
  case step=>
    rintro t c st' _ ht ⟨lo,rfl,⟨xs,pd,g,rfl,p1,p2,p3⟩,hl⟩
    dsimp only
    by_cases c1:lo ≥ a₀.size
    · rw [if_pos c1]
      exact wpS_pure ⟨lo,rfl,⟨xs,pd,g,rfl,p1,p2,p3⟩,c1⟩
    rw [if_neg c1]
    have hz:xs.size=a₀.size:=p1.size_eq
    refine wpS_bind (wp_cnt (st:=SortSt.mk' κ xs pd g none) C D rfl p1 (by show lo+(a₀.size - lo)≤xs.size;omega) (by show 1≤a₀.size - lo;omega) fun found xs1 f1 f2 f3 f4 f5=>?_)
    have f4:found≤a₀.size - lo:=f4
    have r1:Runs key xs1 pd.toList 0 lo:=runs_eq _ 0 lo p2 fun t _ t2=>f2 t t2
    dsimp only
    generalize hmr:minRun' (arrOf (SortSt.mk' κ a₀ #[] _ none)).size (arrOf (SortSt.mk' κ a₀ #[] _ none)).size 0=mr
    by_cases c2:found < mr
    · rw [if_pos c2]
      refine wpS_bind (wpS_lift (wpAny_rule ⟨rfl,?_⟩))
      have hn:min (a₀.size - lo) mr≤a₀.size - lo:=Nat.min_le_left _ _
      have hn2:found≤min (a₀.size - lo) mr:=by omega
      show wpS _ _ _ _ (binarySort' lo (min (a₀.size - lo) mr) found >>= _) _ _
      generalize hnn:min ((arrOf (SortSt.mk' κ a₀ #[] _ none)).size - lo) mr=n
      have hnn:min (a₀.size - lo) mr=n:=hnn
      rw [hnn] at hn hn2
      have zz:xs1.size=a₀.size:=f1.size_eq
      refine wpS_bind (wp_bin (st:=setArr (SortSt.mk' κ xs pd g none) xs1) C rfl f1 (by show lo+n≤xs1.size;omega) f3 hn2 f5 fun xs2 q1 out q3=>?_)
      have q2:Runs key xs2 pd.toList 0 lo:=runs_eq _ 0 lo r1 fun t _ t2=>out t t2
      have n1:1≤n:=by omega
      rw [if_neg (by simp)]
      refine wpS_bind (wpS_get ?_)
      have push:∀ (ys:Array Keyed) (pd:Array (Nat × Nat × Nat)) (g':Nat),ys.Perm a₀→Runs key ys pd.toList 0 lo→Seg key ys lo (lo+n)→RI key a₀ κ (lo+n) (SortSt.mk' κ ys (pd.push (lo,n,0)) g' none):=fun ys pd g' b1 b2 b3=>
        ⟨ys,_,g',rfl,b1,by rw [Array.toList_push];exact runs_snoc b2 n1 b3,by omega⟩
      split
      · rename_i s1 m1 pw1 eb
        refine wpS_bind (wpS_mono (wpS_forRange (I:=fun t c st'=>c=(none,())∧∃ ys pd g',st'=SortSt.mk' κ ys pd g' none∧ys.Perm a₀∧Runs key ys pd.toList 0 lo∧Seg key ys lo (lo+n))
          (Q:=fun c st'=>c=(none,())∧∃ ys pd g',st'=SortSt.mk' κ ys pd g' none∧ys.Perm a₀∧Runs key ys pd.toList 0 lo∧Seg key ys lo (lo+n)) ?sA ?fA ⟨rfl,_,_,_,rfl,q1,q2,q3⟩) ?pA)
        case fA=>
          rintro c st' hh
          exact hh
        case sA=>
          rintro t c st' _ _ ⟨rfl,ys,pd,g',rfl,b1,b2,b3⟩
          refine wpS_bind (wpS_get ?_)
          split
          · rename_i x1 x2 older eo
            have big:pd.size > 1:=by
              rcases Nat.lt_or_ge 1 pd.size with l | l
              · exact l
              · have l':¬ (pendingOf (SortSt.mk' κ ys pd g' none)).size > 1:=by show ¬ pd.size > 1;omega
                rw [if_neg l'] at eo;cases eo
            split
            · exact wpS_pure ⟨rfl,ys,pd,g',rfl,b1,b2,b3⟩
            · have hz':ys.size=a₀.size:=b1.size_eq
              refine wpS_bind (wp_mAt2 C (st:=SortSt.mk' κ ys pd g' none) (i:=pd.size - 2) (j:=lo) rfl rfl b1 (by show pd.size - 2+1 < pd.size;omega) b2 (by show lo≤ys.size;omega) fun ys' pd' g2 c1 c2 c3 c4=>?_)
              rw [if_neg (by simp)]
              exact wpS_pure ⟨rfl,ys',pd',g2,rfl,c1,c3,seg_eq b3 fun t t1 t2=>c2 t t1⟩
          · exact wpS_pure ⟨rfl,ys,pd,g',rfl,b1,b2,b3⟩
        case pA=>
          rintro c st' ⟨rfl,ys,pd,g',rfl,b1,b2,b3⟩
          refine wpS_bind (wpS_modify (wpS_bind (wpS_modify (wpS_pure ⟨lo+n,rfl,push ys _ g' b1 ?_ b3,by omega⟩))))
          rw [Array.toList_modify]
          apply runs_modify
          · intro _;rfl
          · intro _;rfl
          · exact b2
      · exact wpS_bind (wpS_modify (wpS_pure ⟨lo+n,rfl,push _ _ _ q1 q2 q3,by omega⟩))
    · rw [if_neg c2]
      have q1:=f1
      have q2:=r1
      have q3:=f5
      have n1:=f3
      have hn:=f4
      generalize found=n at *
      refine wpS_bind (wpS_get ?_)
      have push:∀ (ys:Array Keyed) (pd:Array (Nat × Nat × Nat)) (g':Nat),ys.Perm a₀→Runs key ys pd.toList 0 lo→Seg key ys lo (lo+n)→RI key a₀ κ (lo+n) (SortSt.mk' κ ys (pd.push (lo,n,0)) g' none):=fun ys pd g' b1 b2 b3=>
        ⟨ys,_,g',rfl,b1,by rw [Array.toList_push];exact runs_snoc b2 n1 b3,by omega⟩
      split
      · rename_i s1 m1 pw1 eb
        refine wpS_bind (wpS_mono (wpS_forRange (I:=fun t c st'=>c=(none,())∧∃ ys pd g',st'=SortSt.mk' κ ys pd g' none∧ys.Perm a₀∧Runs key ys pd.toList 0 lo∧Seg key ys lo (lo+n))
          (Q:=fun c st'=>c=(none,())∧∃ ys pd g',st'=SortSt.mk' κ ys pd g' none∧ys.Perm a₀∧Runs key ys pd.toList 0 lo∧Seg key ys lo (lo+n)) ?sB ?fB ⟨rfl,_,_,_,rfl,q1,q2,q3⟩) ?pB)
        case fB=>
          rintro c st' hh
          exact hh
        case sB=>
          rintro t c st' _ _ ⟨rfl,ys,pd,g',rfl,b1,b2,b3⟩
          refine wpS_bind (wpS_get ?_)
          split
          · rename_i x1 x2 older eo
            have big:pd.size > 1:=by
              rcases Nat.lt_or_ge 1 pd.size with l | l
              · exact l
              · have l':¬ (pendingOf (SortSt.mk' κ ys pd g' none)).size > 1:=by show ¬ pd.size > 1;omega
                rw [if_neg l'] at eo;cases eo
            split
            · exact wpS_pure ⟨rfl,ys,pd,g',rfl,b1,b2,b3⟩
            · have hz':ys.size=a₀.size:=b1.size_eq
              refine wpS_bind (wp_mAt2 C (st:=SortSt.mk' κ ys pd g' none) (i:=pd.size - 2) (j:=lo) rfl rfl b1 (by show pd.size - 2+1 < pd.size;omega) b2 (by show lo≤ys.size;omega) fun ys' pd' g2 c1 c2 c3 c4=>?_)
              rw [if_neg (by simp)]
              exact wpS_pure ⟨rfl,ys',pd',g2,rfl,c1,c3,seg_eq b3 fun t t1 t2=>c2 t t1⟩
          · exact wpS_pure ⟨rfl,ys,pd,g',rfl,b1,b2,b3⟩
        case pB=>
          rintro c st' ⟨rfl,ys,pd,g',rfl,b1,b2,b3⟩
          refine wpS_bind (wpS_modify (wpS_bind (wpS_modify (wpS_pure ⟨lo+n,rfl,push ys _ g' b1 ?_ b3,by omega⟩))))
          rw [Array.toList_modify]
          apply runs_modify
          · intro _;rfl
          · intro _;rfl
          · exact b2
      · exact wpS_bind (wpS_modify (wpS_pure ⟨lo+n,rfl,push _ _ _ q1 q2 q3,by omega⟩))
  case post=>
    rintro c st' ⟨lo,rfl,⟨xs,pd,g,rfl,p1,p2,p3⟩,hl⟩
    have:lo=a₀.size:=by omega
    subst this
    dsimp only
    have l0:=runs_len _ _ _ p2
    rw [Array.length_toList] at l0
    refine wpS_bind (wpS_mono (wpS_forRange (I:=fun t c st'=>c=(none,())∧∃ ys pd g',st'=SortSt.mk' κ ys pd g' none∧ys.Perm a₀∧Runs key ys pd.toList 0 a₀.size∧pd.size+t≤a₀.size)
      (Q:=fun c st'=>c=(none,())∧∃ ys pd g',st'=SortSt.mk' κ ys pd g' none∧ys.Perm a₀∧Runs key ys pd.toList 0 a₀.size∧pd.size≤1) ?s3 ?f3 ⟨rfl,xs,pd,g,rfl,p1,p2,by omega⟩) ?p3)
    case f3=>
      rintro c st' ⟨rfl,ys,pd,g',rfl,b1,b2,b3⟩
      refine ⟨rfl,ys,pd,g',rfl,b1,b2,?_⟩
      have b3:pd.size+max 0 a₀.size≤a₀.size:=b3
      omega
    case s3=>
      rintro t c st' _ _ ⟨rfl,ys,pd,g',rfl,b1,b2,b3⟩
      refine wpS_bind (wpS_get ?_)
      by_cases c3:pd.size≤1
      · rw [if_pos (show (pendingOf (SortSt.mk' κ ys pd g' none)).size≤1 from c3)]
        exact wpS_pure ⟨rfl,ys,pd,g',rfl,b1,b2,c3⟩
      · rw [if_neg (show ¬ (pendingOf (SortSt.mk' κ ys pd g' none)).size≤1 from c3)]
        have hz':ys.size=a₀.size:=b1.size_eq
        refine wpS_bind (wp_mAt2 C (st:=SortSt.mk' κ ys pd g' none) (j:=a₀.size) rfl rfl b1 ?_ b2 (by show a₀.size≤ys.size;omega) fun ys' pd' g2 c1 c2 c3 c4=>?_)
        · have ix:∀ (P:Prop) [Decidable P],(if P then pd.size - 2 - 1 else pd.size - 2)+1 < pd.size:=fun P _=>by split <;> omega
          exact ix _
        · rw [if_neg (by simp)]
          have c4:pd'.size+1=pd.size:=c4
          exact wpS_pure ⟨rfl,ys',pd',g2,rfl,c1,c3,by omega⟩
    case p3=>
      rintro c st' ⟨rfl,ys,pd,g',rfl,b1,b2,b3⟩
      refine wpS_pure (h ys pd g' b1 ?_)
      have hz':ys.size=a₀.size:=b1.size_eq
      have sg:Seg key ys 0 a₀.size:=by
        rw [← Array.length_toList] at b3
        match e:pd.toList,b2,b3 with
        | [],b2,_=>exact fun p q x y a b c=>by have:0=a₀.size:=b2;omega
        | [r],b2,_=>
          have e2:0+r.2.1=a₀.size:=b2.2.2.2
          rw [← e2]
          exact b2.2.2.1
        | _ :: _ :: _,_,b3=>simp at b3
      have:=seg_srt sg
      rw [← hz',ext_to,List.take_of_length_le (by simp)] at this
      exact this
end
end Tim
namespace L2
open PySem PySem.Spec PyProof.Rows PySem.W Tim
section
variable {prog:Program} {w:World} {A:Around} {E:Value→Shared→Prop} {s:Shared}
theorem sort_big {a:Addr} {vs:List Value} {n:Nat} {P:PySem.Fin→Shared→Prop} (ho:s.heap.get? a=some (seqObj "list" vs.toArray n)) (h2:2≤vs.length) (hz:vs.length≤sizeLine) {κ:SortKind} {O:KeyOrd} {key:Keyed→O.α} (D:Dist key (pairsOf vs))
    (hk:∀ g:Heap,(∀ b o,b≠a→s.heap.get? b=some o→g.get? b=some o)→(∀ R:SortKind→Shared→Prop,R κ { s with heap:=g }→wpAny (model prog w) A (keyKind' vs.toArray) R E { s with heap:=g })∧Cmp prog w A E { s with heap:=g } (pairsOf vs) κ O key)
    (h:∀ xs:Array Keyed,xs.Perm (pairsOf vs)→Srt key xs.toList→P (.done (.ret .none)) { s with heap:=sortedHeap s.heap a vs (xs.map (·.2)) }) :
    wpAny (model prog w) A (Builtin.«list.sort» ⟨[.ref a],[]⟩) P E s:=by
  have al:a < s.heap.objs.size:=Heap.lt_size ho
  have nb:¬ vs.toArray.size < 2:=by rw [List.size_toArray];omega
  rw [list_sort_plain]
  refine wpAny_bind (listItems_at ho rfl (wpAny_bind (listUpdate_at ho rfl ?_ (by rw [List.size_toArray];exact hz) (Nat.zero_le _))))
  obtain ⟨e1,g1⟩:∃ e1,(s.heap.update a (Obj.mapSeq fun _=>(#[]:Array Value))).get? a=some (seqObj "list" #[] e1):=⟨_,get?_update_seq ho fun _=>#[]⟩
  refine wpAny_bind (seqEpoch_at g1 rfl (wpAny_bind (wpAny_newTuple ?_ (by show vs.length≤_;exact hz))))
  refine wpAny_bind (wpAny_newList (wpAny_holding ?_))
  have sz1:(s.heap.update a (Obj.mapSeq fun _=>(#[]:Array Value))).objs.size=s.heap.objs.size:=Heap.size_update ..
  have g2:=Heap.get?_push_of_some (seqObj "list" #[] 0) (Heap.get?_push_of_some (seqObj "tuple" vs.toArray 0) g1)
  have old:∀ b o,b≠a→s.heap.get? b=some o→(((s.heap.update a (Obj.mapSeq fun _=>(#[]:Array Value))).push (seqObj "tuple" vs.toArray 0)).push (seqObj "list" #[] 0)).get? b=some o:=fun b o hb e=>
    Heap.get?_push_of_some _ (Heap.get?_push_of_some _ ((Heap.get?_update_ne _ _ _ _ hb).trans e))
  obtain ⟨hkind,C⟩:=hk _ old
  show wpAny (model prog w) A _ P E { s with heap:=((s.heap.update a (Obj.mapSeq fun _=>(#[]:Array Value))).push (seqObj "tuple" vs.toArray 0)).push (seqObj "list" #[] 0) }
  have hfin:=h
  unfold sortedHeap at hfin
  generalize ((s.heap.update a (Obj.mapSeq fun _=>(#[]:Array Value))).push (seqObj "tuple" vs.toArray 0)).push (seqObj "list" #[] 0)=g at g2 hkind C hfin
  rw [if_neg nb,if_neg nb]
  refine wpAny_bind (hkind _ ?_)
  refine wpAny_bind (wpAny_mono (wp_runs (s:={ s with heap:=g }) (E:=E) C D (g:=7) (Q:=fun _ st'=>∃ xs pd g',st'=SortSt.mk' κ xs pd g' none∧xs.Perm (pairsOf vs)∧Srt key xs.toList) fun xs pd g' a1 a2=>⟨xs,pd,g',rfl,a1,a2⟩) ?_ fun _ _ e=>e)
  rintro ⟨⟨⟩,st'⟩ s' ⟨rfl,xs,pd,g',rfl,a1,a2⟩
  refine wpAny_bind (seqEpoch_at g2 rfl (wpAny_bind (listUpdate_at g2 rfl ?_ (Nat.zero_le _) ?_)))
  · show wpAny _ _ (if (e1 != e1)=true then _ else _) _ _ _
    rw [if_neg (by simp)]
    exact wpAny_pure (hfin xs a1 a2)
  · show (xs.map _).size≤_
    rw [Array.size_map,a1.size_eq,pairsOf_size]
    exact Nat.le_succ_of_le hz
abbrev keyS (p:Keyed):strKind.α:=(strOf p.1).cps.toList
theorem cmp_strs {vs:List Value} {ss:List Str} (hS:StrsAre vs ss):Cmp prog w A E s (pairsOf vs) oneType' strKind.toKeyOrd keyS:=by
  have is:∀ x:Keyed,x∈pairsOf vs→∃ z t,x.1=.str z t:=fun x hx=>by
    have:=Array.mem_toList_iff.mpr hx
    rw [pairsOf_toList] at this
    exact hS.all _ (mem_zip_self this).2
  intro x y st Q hx hy hk h
  obtain ⟨x1,t1,e1⟩:=is x hx
  obtain ⟨y1,u1,e2⟩:=is y hy
  rw [lt'_eq]
  refine wpS_bind (wpS_get ?_)
  rw [hk,keyLt'_oneType,e1,e2]
  refine wpS_bind (wpS_lift (wpAny_attempt (oneLt_str ⟨rfl,wpS_pure ?_⟩)))
  unfold keyS at h
  rw [e1,e2] at h
  exact h
theorem dist_strs {vs:List Value} {ss:List Str} (hS:StrsAre vs ss) (nd:ss.Nodup):Dist (O:=strKind.toKeyOrd) keyS (pairsOf vs):=by
  unfold Dist
  rw [pairsOf_toList]
  have e:(vs.zip vs).map keyS=ss.map fun z=>z.cps.toList:=by
    rw [← hS.strs,List.map_map]
    have:(vs.zip vs).map keyS=((vs.zip vs).map Prod.fst).map fun v=>(strOf v).cps.toList:=by rw [List.map_map];rfl
    rw [this,List.map_fst_zip (Nat.le_refl _)];rfl
  rw [e]
  unfold List.Nodup at nd ⊢
  rw [List.pairwise_map]
  exact nd.imp fun h e=>h (str_eq e)
theorem sort_strs {a:Addr} {vs:List Value} {ss:List Str} {n:Nat} {P:PySem.Fin→Shared→Prop} (ho:s.heap.get? a=some (seqObj "list" vs.toArray n)) (hS:StrsAre vs ss) (nd:ss.Nodup) (hz:vs.length≤sizeLine)
    (h:∀ (out:Array Value) (ss':List Str),StrsAre out.toList ss'→ss'.Perm ss→sortedS ss'=true→P (.done (.ret .none)) { s with heap:=sortedHeap s.heap a vs out }) :
    wpAny (model prog w) A (Builtin.«list.sort» ⟨[.ref a],[]⟩) P E s:=by
  rcases Nat.lt_or_ge vs.length 64 with l | l
  · refine list_sort_treeK strKind_oneLt ho hS.keysOf (fun v₁ v₂ rest e=>keyKind_strs (by rw [← e];exact hS)) l fun st' a1 a2=>?_
    obtain ⟨ss',b1,b2,b3⟩:=sorted_out_str hS a1 a2
    exact h _ ss' b1 b2 b3
  · obtain ⟨v₁,v₂,rest,rfl⟩:∃ v₁ v₂ rest,vs=v₁ :: v₂ :: rest:=by
      match vs,l with
      | v₁ :: v₂ :: rest,_=>exact ⟨v₁,v₂,rest,rfl⟩
    refine sort_big ho (by simp) hz (κ:=oneType') (O:=strKind.toKeyOrd) (key:=keyS) (dist_strs hS nd) (fun g _=>⟨fun R hR=>?_,cmp_strs hS⟩) fun xs a1 a2=>?_
    · rw [keyKind_strs hS];exact wpAny_pure hR
    · have mem:∀ i (hi:i < xs.size),∃ z t,xs[i].1=.str z t:=fun i hi=>by
        have m:xs[i]∈(pairsOf (v₁ :: v₂ :: rest)).toList:=(Array.perm_iff_toList_perm.mp a1).mem_iff.mp (by simp)
        rw [pairsOf_toList] at m
        exact hS.all _ (mem_zip_self m).2
      have kk:∀ i (hi:i < xs.size),KK strKind xs i=keyS xs[i]:=fun i hi=>by
        obtain ⟨z,t,e⟩:=mem i hi
        rw [KK_str hi (x:=z) (t:=t) (q:=xs[i].2) (Prod.ext e rfl)]
        unfold keyS;rw [e];rfl
      obtain ⟨ss',b1,b2,b3⟩:=sorted_out_str hS a1 (fun i j hij hj=>by
        rw [← a1.size_eq] at hj
        rw [kk i (by omega),kk j hj]
        rcases Nat.lt_or_ge i j with l | l
        · have:=List.pairwise_iff_getElem.mp a2 i j (by simp;omega) (by simpa using hj) l
          rw [Array.getElem_toList,Array.getElem_toList] at this
          exact this
        · have:i=j:=by omega
          subst this
          exact KeyOrd.kle_refl _)
      exact h _ ss' b1 b2 b3
end
section
variable {prog:Program} {w:World} {A:Around} {E:Value→Shared→Prop} {s:Shared} {T:String} {r d:Addr} {n:Nat} {P:Nat→Value→Prop} {OK:Heap→Prop}
theorem collect_src {R:List Value→Shared→Prop} (K:KdlSrc prog w T r d n P OK) (hh:A.handled=none) (hok:OK s.heap) (hn:n≤sizeLine)
    (h:∀ (g:Heap) (tk:Nat) (acc:Array Value),s.heap.objs.size≤g.objs.size→(∀ b o,s.heap.get? b=some o→g.get? b=some o)→ItemsOf P acc n→R acc.toList { s with heap:=g,toks:=tk }) :
    wpAny (model prog w) A (collect (.ref r)) R E s:=by
  obtain ⟨l1,l2⟩:=K.there _ hok
  unfold collect
  refine wpAny_bind (wpAny_runValue (codeAny_builtin F.entry_proto_collect ?_))
  rw [Around.under_plainId F.plain_proto_collect _]
  refine wpAny_bind (wpAny_newObj_type (wpAny_pure ⟨plainId_quiet F.plain_list_iadd _,codeAny_builtin F.entry_list_iadd ?_⟩))
  rw [Around.under_plainId F.plain_list_iadd _]
  have g0:(s.heap.push { cls:=.type "list", data:=.seq ([]:List Value).toArray }).get? s.heap.objs.size=some { cls:=.type "list", data:=.seq #[] }:=Heap.get?_push_size _ rfl
  refine wpAny_mono (kdl_extend (A:=A) (s:={ s with heap:=s.heap.push { cls:=.type "list", data:=.seq ([]:List Value).toArray } })
    (R:=fun (q:Result) (s':Shared)=>∃ (g:Heap) (tk:Nat) (xs:Array Value) (c':Nat),q=.ok (.ret (.ref s.heap.objs.size))∧s'={ s with heap:=g,toks:=tk }∧(∀ b o,s.heap.get? b=some o→g.get? b=some o) ∧
      g.get? s.heap.objs.size=some { cls:=.type "list", dict:=none,data:=.seq xs c',slots:=#[] }∧ItemsOf P xs n)
    K hh (K.keep _ _ hok fun b _ o e=>Heap.get?_push_of_some _ e) s.heap.objs.size (Nat.ne_of_gt l1) (Nat.ne_of_gt l2) (.ref s.heap.objs.size) 0 g0
    (fun g tk xs c' k1 k2 k3=>⟨g,tk,xs,c',rfl,rfl,fun b o e=>k1 b o (Nat.ne_of_lt (Heap.lt_size e)) (Heap.get?_push_of_some _ e),k2,k3⟩) hn) (fun f s' x=>?_) fun e s' x=>?_
  · cases f with
    | done f=>
      obtain ⟨g,tk,xs,c',e,rfl,k1,k2,k3⟩:=x
      cases e
      exact wpAny_bind (wpAny_load k2 (wpAny_pure (h g tk xs (Nat.le_of_lt (Heap.lt_size k2)) k1 k3)))
    | again c₁=>
      refine ⟨x.1,codeAny_mono x.2 fun q s₂ y=>?_⟩
      obtain ⟨g,tk,xs,c',rfl,rfl,k1,k2,k3⟩:=y
      exact wpAny_bind (wpAny_load k2 (wpAny_pure (h g tk xs (Nat.le_of_lt (Heap.lt_size k2)) k1 k3)))
  · obtain ⟨_,_,_,_,z,_⟩:=x
    cases z
end
section
variable {X:Cx}
theorem call_sortedD (hc:X.calm=true):CallR X (.builtin "sorted") (fun vs H Q=>∃ (a:Addr) (kvs:List (Key × V)) (zs:List Str),vs=[.ref a]∧Rd H a (.dK kvs)∧kvs.map (·.1)=zs.map Sum.inr∧zs.Nodup ∧
    ∀ (ss':List Str) (l:Addr),ss'.Perm zs→sortedS ss'=true→H l=none→Q (.ref l) (upd H l (.lst (ss'.map V.str)))):=by
  intro pins s σ H xs us Q I r h
  obtain ⟨a,kvs,zs,rfl,hq,hk,nd,q⟩:=h
  obtain ⟨u,rfl,ru⟩:=vals1 r
  cases (show u=Value.ref a from ru)
  have hh:X.A.in1.handled=none:=I.ok.hd hc
  obtain ⟨z,hy,vs,rv,dd⟩:=dk_rd I.hok hq
  obtain ⟨o,es,ep,ho,hrest⟩:=id dd
  have da:s.heap.DictAt (mixKind X.prog X.w) a vs ep:=⟨o,es,ho,hrest⟩
  have vl:=rv.length
  refine Calls.call_function_entry kind_sorted plain_sorted entry_sorted (args_sorted1 _) ?_
  unfold Builtin.«sorted»
  refine wpAny_bind (m:=checkCount "sorted" 1 1 _) (wpAny_pure ?_)
  have K:=kdl_dict (prog:=X.prog) (w:=X.w) (knd:=mixKind X.prog X.w) (kvs:=vs) (ep:=ep) hy
  refine wpAny_bind (collect_src (A:=X.A.in1) K hh da (by rw [← vl];exact z) fun h1 tk acc sz old1 hacc=>?_)
  have zl:zs.length=vs.length:=by
    have:=congrArg List.length hk
    rw [List.length_map,List.length_map] at this
    omega
  have hS:StrsAre acc.toList zs:=by
    refine strsAre_of (vals_at ?_ fun i x u hx hu=>?_)
    · simp [hacc.1,zl]
    · rw [List.getElem?_map] at hx
      rw [Array.getElem?_toList] at hu
      have il:i < zs.length:=by
        rw [zl,← hacc.1];exact (Array.getElem?_eq_some_iff.mp hu).1
      obtain ⟨kk,xx,e1,e2⟩:=hacc.2 i u hu
      have ki:(kvs.map (·.1))[i]?=some kk:=by
        have il':i < kvs.length:=by omega
        rw [List.getElem?_map,List.getElem?_eq_getElem il']
        obtain ⟨y,ey,_⟩:=kv_get rv (k:=kvs[i].1) (v:=kvs[i].2) (List.getElem?_eq_getElem il')
        rw [ey] at e1
        cases e1;rfl
      rw [hk,List.getElem?_map,List.getElem?_eq_getElem il] at ki
      rw [List.getElem?_eq_getElem il] at hx
      cases hx
      cases ki
      exact is_kV e2
  have al:acc.toList.length≤sizeLine:=by rw [Array.length_toList,hacc.1,← vl];exact z
  refine wpAny_bind (wpAny_newList ?_ al)
  have hL:(h1.push (seqObj "list" acc.toList.toArray 0)).get? h1.objs.size=some (seqObj "list" acc.toList.toArray 0):=Heap.get?_push_size _ rfl
  refine wpAny_bind (wpAny_holding (wpAny_call_entry slot_list_sort ⟨_,hL,rfl⟩ entry_list_sort (sort_strs (s:={ s with heap:=h1.push (seqObj "list" acc.toList.toArray 0),toks:=tk }) hL hS nd al fun out ss' b1 b2 b3=>⟨_,rfl,?_⟩) (args_list_sort _)))
  obtain ⟨e,he⟩:=sortedHeap_at (out:=out) hL
  have old:∀ b o,s.heap.get? b=some o→(sortedHeap (h1.push (seqObj "list" acc.toList.toArray 0)) h1.objs.size acc.toList out).get? b=some o:=fun b o eb=>by
    have lt:=Heap.lt_size (old1 _ _ eb)
    rw [sortedHeap_old (Nat.ne_of_lt lt) (by rw [show (h1.push (seqObj "list" acc.toList.toArray 0)).objs.size=h1.objs.size+1 from Heap.size_push ..];exact Nat.lt_succ_of_lt lt)]
    exact Heap.get?_push_of_some _ (old1 _ _ eb)
  have I2:=I.laid (t':=tk) old sz (show ObjOk X.prog X.w _ _ _ (.lst (ss'.map V.str)) from ⟨by rw [List.length_map,b2.length_eq,zl,← vl];exact z,out.toList,e,strsAre_get b1,he⟩)
  exact wpAny_pure ⟨_,rfl,.ref h1.objs.size,_,I2,rfl,q ss' _ b2 b3 (I.hok.fresh sz)⟩
theorem ps_raise0 {e:Option Expr} {c:Option Expr} {pos:Pos}:PS X (.Raise e c pos) (fun _ _ _=>False):=fun _ _ _ _ _ _ h=>h.elim
end
end L2
namespace L2
open PySem PySem.Spec PyProof.Rows PySem.W
section
variable {X:Cx}
variable {e st:Expr} {te:TE} {ts:TO} {pos p2:Pos}
end
def Itx (x:Str):It:=⟨fun i _=>i < x.cps.size,fun i H v H'=>H'=H∧∃ c,x.cps[i]?=some c∧v=.str ⟨#[c]⟩,fun i _=>x.cps.size≤i⟩
theorem turn_str {P:Program} {w:World} {K:PySem.W.Frag} {tg:Expr} (x:Str) (t:Tok) (it:Addr):Turn P w K tg (Itx x) [it] it (fun i h=>h.IsStrIter it (strIterType x) x t i) where
  mem:=by simp
  obj:=fun i h st b hb=>by
    have e:b=it:=by simpa using hb
    subst e
    obtain ⟨o,e,c,d⟩:=st
    exact ⟨o,e,fun v z=>by rw [d] at z;cases z⟩
  keep:=fun i h h' st k=>by
    obtain ⟨o,e,c,d⟩:=st
    exact ⟨o,k it (by simp) o e,c,d⟩
  item:=by
    intro X hP hw hK hc i pins s σ H E I hf st hg
    subst hP hw hK
    have hg:i < x.cps.size:=hg
    obtain ⟨f0,f1,f2,f3,f4,f5⟩:=hf it (by simp)
    have hx:x.cps[i]?=some (x.cps[i]'hg):=Array.getElem?_eq_getElem hg
    have go:∀ (h':Heap),h'.IsStrIter it (strIterType x) x t (i+1)→Heap.SameBut it s.heap h'→∃ u,some (Value.str ⟨#[x.cps[i]'hg]⟩ s.toks)=some u ∧
        wpAny (model X.prog X.w) X.A (letOwnedTupleGo tg (.ref it) u) (fun _ s2=>∃ v H',Inv X pins σ H' s2∧RelV v u∧(Itx x).yld i H v H'∧s2.heap.IsStrIter it (strIterType x) x t (i+1)∧∀ b∈[it],H' b=none) E { s with heap:=h',toks:=s.toks+1 }:=fun h' st' sb=>by
      have I1:Inv X pins σ H { s with heap:=h',toks:=s.toks+1 }:=I.turned (t':=s.toks+1) (fun b o hb e=>(sb.2 b hb).trans e) f0 f1 f3 f4 f5
      obtain ⟨o,e,c,d⟩:=id st'
      refine ⟨_,rfl,go_of (s:={ s with heap:=h',toks:=s.toks+1 }) e c d ?_ ⟨.str ⟨#[x.cps[i]'hg]⟩,H,I1,⟨_,rfl⟩,⟨rfl,_,hx,rfl⟩,st',fun b hb=>(hf b hb).1⟩⟩
      unfold strIterType
      split <;> decide
    cases c:x.cps.all (· < 128) with
    | true=>
      have e:strIterType x = "str_ascii_iterator" := by unfold strIterType;rw [c];rfl
      rw [e] at st
      exact wpAny_pyNext_ascii_item st hx fun h' st' sb=>go h' (by rw [e];exact st') sb
    | false=>
      have e:strIterType x = "str_iterator" := by unfold strIterType;rw [c];rfl
      rw [e] at st
      exact wpAny_pyNext_wide_item st hx fun h' st' sb=>go h' (by rw [e];exact st') sb
  done:=by
    intro X hP hw hK hc i pins s σ H E I hf st hg
    subst hP hw hK
    have hg:x.cps.size≤i:=hg
    obtain ⟨f0,f1,f2,f3,f4,f5⟩:=hf it (by simp)
    have hx:x.cps[i]?=none:=Array.getElem?_eq_none hg
    cases c:x.cps.all (· < 128) with
    | true=>
      have e:strIterType x = "str_ascii_iterator" := by unfold strIterType;rw [c];rfl
      rw [e] at st
      exact wpAny_pyNext_ascii_end (I.ok.hd hc) st hx fun h' eb=>⟨rfl,I.turned (t':=s.toks) (fun b o hb e=>eb b o hb e) f0 f1 f3 f4 f5⟩
    | false=>
      have e:strIterType x = "str_iterator" := by unfold strIterType;rw [c];rfl
      rw [e] at st
      exact wpAny_pyNext_wide_end (I.ok.hd hc) st hx fun h' eb=>⟨rfl,I.turned (t':=s.toks) (fun b o hb e=>eb b o hb e) f0 f1 f3 f4 f5⟩
  self:=fun _ _ _ _ _ st h=>by
    cases c:x.cps.all (· < 128) with
    | true=>
      have e:strIterType x = "str_ascii_iterator" := by unfold strIterType;rw [c];rfl
      rw [e] at st
      exact wpAny_pyIter_striter_ascii st h
    | false=>
      have e:strIterType x = "str_iterator" := by unfold strIterType;rw [c];rfl
      rw [e] at st
      exact wpAny_pyIter_striter_wide st h
section
variable {X:Cx} {tg:Expr}
def iStr (tl:TE):TI:=fun σ H R=>tl σ H fun x H1=>∃ z,x=.str z∧R (Itx z) H1
theorem pi_str {l:Expr} {tl:TE} (hl:PE X l tl):PI X tg l (iStr tl):=by
  intro pins s σ H R I h
  refine thn (hl pins s σ H _ I h) fun v s1 ⟨x,H1,I1,r1,q1⟩=>?_
  obtain ⟨z,rfl,q⟩:=q1
  obtain ⟨t,rfl⟩:=r1
  refine wpAny_pyIter_strU ?_
  refine ⟨s1.heap.objs.size,[s1.heap.objs.size],_,_,H1,rfl,I1.kept (t':=s1.toks) fun b o e=>Heap.get?_push_of_some _ e,turn_str z t _,⟨_,Heap.get?_push_size _ rfl,rfl,rfl⟩,fun b hb=>?_,q⟩
  have e:b=s1.heap.objs.size:=by simpa using hb
  subst e
  exact I1.fpOk (Nat.le_refl _) (I1.hok.fresh (Nat.le_refl _))
end
section
variable {NL:List Str} {ix:List Nat} {g:TG} {tt:TT} {te:TE} {σ:St} {H1:Hp} {Qs:Hp→Prop} {acc:Addr}
theorem comp_str {z:Str} (hn:z.cps.size < 10000) (Pv:Nat→List V→Hp→Prop)
    (hacc:∀ i ys H2,Pv i ys H2→H2 acc=some (.lst ys)∧ys.length≤i) (h0:Pv 0 [] (upd H1 acc (.lst []))) (hstop:∀ ys H2,Pv z.cps.size ys H2→Qs H2)
    (hturn:∀ i c ys H2,z.cps[i]?=some c→Pv i ys H2→g (.str ⟨#[c]⟩) (comp0 NL ix σ) H2 fun σ' H4=>σ'.drop NL.length=ix.map (fun j=>σ.getD j none)∧tt σ' H4 fun b H5=>
      if b=true then te σ' H5 fun v H6=>H6 acc=some (.lst ys)∧Pv (i+1) (ys++[v]) (upd H6 acc (.lst (ys++[v]))) else Pv (i+1) ys H5) :
    ∃ W:Nat→Nat→List V→Hp→Prop,(∃ m,W 0 m [] (upd H1 acc (.lst []))) ∧
    ∀ i m ys H2,W i m ys H2→H2 acc=some (.lst ys)∧ys.length < sizeLine ∧
      (((Itx z).stop i H2∧Qs H2)∨((Itx z).go i H2∧∃ N:List V→Hp→Prop,(∀ ys' H',N ys' H'→∃ m',m' < m∧W (i+1) m' ys' H') ∧
        ∀ x H3,(Itx z).yld i H2 x H3→g x (comp0 NL ix σ) H3 fun σ' H4=>σ'.drop NL.length=ix.map (fun j=>σ.getD j none)∧tt σ' H4 fun b H5=>
          if b=true then te σ' H5 fun v H6=>H6 acc=some (.lst ys)∧N (ys++[v]) (upd H6 acc (.lst (ys++[v]))) else N ys H5)):=by
  refine comp_big z.cps.size hn Pv hacc h0 (fun ys H2 hp=>⟨Nat.le_refl _,hstop ys H2 hp⟩) fun i ys H2 hi hp=>⟨hi,?_⟩
  rintro x H3 ⟨rfl,c,hc,rfl⟩
  exact hturn i c ys H3 hc hp
end
section
variable {X:Cx}
theorem pe_startsK (K:PySem.W.Frag) {o e:Expr} {to te:TE} {apos cpos:Pos} (ho:PE X o to) (he:PE X e te) (hK:X.K=K:=by rfl) (hbase:attributeBase o "startswith" X.env (eval o X.env)=eval o X.env:=by rfl)
    (h1:starEach [e] X.env=[(false,eval e X.env)]:=by rfl) (hl:(apos.endLine == cpos.line)=true:=by rfl) :
    PE X (.Call (.Attribute o "startswith" apos) [e] [] cpos) (tBM K "str" (fun x vs H Q=>∃ z p,x=.str z∧vs=[.str p]∧Q (.bl (Txt.startswith z p)) H) to (tCons te tNil)):=by
  subst hK
  exact pe_starts ho he hbase h1 hl
end
end L2
namespace L2
open PySem PySem.Spec PyProof.Rows
section
variable {X:Cx}
end
end L2
namespace L2
open PySem PySem.Spec PyProof.Rows PySem.W
section
variable {prog:Program} {w:World} {A:Around} {E:Value→Shared→Prop}
end
section
variable {prog:Program} {w:World} {A:Around} {E:Value→Shared→Prop} {s:Shared}
end
section
variable {X:Cx}
end
end L2
namespace L2
open PySem PySem.Spec PyProof.Rows
theorem ObjOk.obj {P:Program} {w:World} {H:Hp} {h:Heap} {a:Addr} {o:HO} (x:ObjOk P w H h a o):∃ u,h.get? a=some u:=by
  cases o with
  | lst xs=>obtain ⟨_,_,_,_,e⟩:=x;exact ⟨_,e⟩
  | tup xs=>obtain ⟨⟨_,o,e,_⟩,_⟩:=x;exact ⟨_,e⟩
  | dK kvs=>obtain ⟨_,_,_,_,o,_,_,e,_⟩:=x;exact ⟨_,e⟩
  | dT kvs=>obtain ⟨_,_,_,_,o,_,_,e,_⟩:=x;exact ⟨_,e⟩
  | set S n=>obtain ⟨o,_,_,_,e,_⟩:=x;exact ⟨_,e⟩
  | ins C dx fs=>obtain ⟨_,_,_,e,_⟩:=x;exact ⟨_,e⟩
  | own y=>exact x
  | xd fs=>obtain ⟨_,⟨_,_,_,e,_⟩,_⟩:=x;exact ⟨_,e⟩
  | rng lo hi=>obtain ⟨_,_,_,e⟩:=x;exact ⟨_,e⟩
  | frz ob u=>exact ⟨_,x.1⟩
  | tbl ps=>exact ⟨_,x⟩
  | met f y=>exact ⟨_,x⟩
  | ext φ=>exact x.2.1
def FlyS (l:List Env) (H₀:Hp) (h₀:Heap) (H':Hp) (a C:Addr) (h:Heap):Prop:=
  ∃ B a0,Heap.FlyingW B l a (.ref C) a0 h∧(∀ b o,h₀.get? b=some o→b ∉ frs l→∃ o',B.get? b=some o'∧(H₀ b=none→o'=o))∧∀ b u,H' b=some u→∃ o,B.get? b=some o
def CXE (P:Program) (w:World):CXT:=fun outer H s E e s'=>∃ a C H',e=.ref a∧s'.os=s.os∧AllBare s'.gens∧Un (frs outer) [] H H' s.heap s'.heap∧HOk P w H' s'.heap∧FlyS outer H s.heap H' a C s'.heap∧H' a=none∧E e (some C) H'
theorem hok_in {P:Program} {w:World} {H:Hp} {h h' B:Heap} (x:HOk P w H h) (hB:∀ b o,B.get? b=some o→h.get? b=some o) (hB':B.StaysIn h') (t:∀ b u,H b=some u→∃ o,B.get? b=some o):HOk P w H h':=fun a o e=>
  (x a o e).stay (fun b u hb q=>by
    have:∃ o,B.get? b=some o:=by
      rcases hb with rfl | hb
      · exact t _ _ e
      · exact t _ _ hb
    obtain ⟨o',e'⟩:=this
    have z:=hB _ _ e'
    rw [q] at z;cases z
    exact hB' _ _ e') (fun _ q=>q) fun _ _ q=>q
theorem fly_out {X:Cx} {pins:List (Addr × Obj)} {σ:St} {H1 H2:Hp} {s1:Shared} {B h2:Heap} (I:Inv X pins σ H1 s1) (hex:X.ex=[])
    (inB:∀ b o,s1.heap.get? b=some o→b ∉ frs X.stack→∃ o',B.get? b=some o'∧(H1 b=none→o'=o)) (st:B.StaysIn h2)
    (fr:∀ b o,s1.heap.get? b=some o→b∈frs X.stack→∃ sl,h2.get? b=some { o with slots:=sl }) (free:∀ b o,s1.heap.get? b=some o→H1 b=none→H2 b=none)
    (tups:∀ b xs,H1 b=some (.tup xs)→H2 b=some (.tup xs)) (frzs:∀ b o u,H1 b=some (.frz o u)→H2 b=some (.frz o u)) (tbls:∀ b ps,H1 b=some (.tbl ps)→∃ more,H2 b=some (.tbl (ps++more))) :
    Un X.fs [] X.H₀ H2 X.s₀.heap h2∧∀ b o,X.s₀.heap.get? b=some o→b ∉ X.fs→∃ o',B.get? b=some o'∧(X.H₀ b=none→o'=o):=by
  have nx:∀ b:Addr,b ∉ X.ex:=fun b=>by rw [hex];simp
  have ns:∀ b o,X.s₀.heap.get? b=some o→b ∉ X.fs→b ∉ frs X.stack:=fun b o e n z=>by
    rcases List.mem_cons.mp (I.stkSub b z) with q | q
    · rw [q] at e
      exact absurd (Nat.lt_of_lt_of_le (Heap.lt_size e) I.ok.above) (Nat.lt_irrefl _)
    · exact n q
  have toB:∀ b o,X.s₀.heap.get? b=some o→b ∉ X.fs→∃ o',B.get? b=some o'∧(X.H₀ b=none→o'=o):=fun b o e n=>by
    obtain ⟨o1,e1⟩:=I.base.there b o e (nx b)
    obtain ⟨o2,e2,k2⟩:=inB b o1 e1 (ns b o e n)
    refine ⟨o2,e2,fun h0=>?_⟩
    have z:=I.base.keep b o e h0 n (nx b)
    rw [e1] at z;cases z
    exact k2 (I.base.free b o e h0 (nx b))
  have inSt:∀ b∈X.fs,∀ o1,s1.heap.get? b=some o1→∃ sl,h2.get? b=some { o1 with slots:=sl }:=fun b hb o1 e1=>by
    by_cases hs:b∈frs X.stack
    · exact fr b o1 e1 hs
    · obtain ⟨o2,e2,k2⟩:=inB b o1 e1 hs
      have h1:H1 b=none:=by
        obtain ⟨_,o,ho,_⟩:=I.ok.funs.mem hb
        exact I.base.free b o ho (I.ok.frf b hb) (nx b)
      rw [k2 h1] at e2
      exact ⟨o1.slots,st _ _ e2⟩
  refine ⟨⟨fun b o e n hb _=>?_,fun b o e n hb _=>?_,fun b o e n _=>?_,fun b o e _=>?_,fun b xs e=>tups _ _ (I.base.tups _ _ e),fun b o u e=>frzs _ _ _ (I.base.frzs _ _ _ e),fun b ps e=>?_⟩,toB⟩
  · obtain ⟨o',e',k⟩:=toB b o e hb
    rw [k n] at e'
    exact st _ _ e'
  · obtain ⟨sl,e1⟩:=I.base.slot b o e n hb (nx b)
    obtain ⟨sl2,e2⟩:=inSt b hb _ e1
    exact ⟨sl2,e2⟩
  · obtain ⟨o1,e1⟩:=I.base.there b o e (nx b)
    exact free b o1 e1 (I.base.free b o e n (nx b))
  · obtain ⟨o1,e1⟩:=I.base.there b o e (nx b)
    by_cases hb:b∈X.fs
    · obtain ⟨sl,q⟩:=inSt b hb o1 e1
      exact ⟨_,q⟩
    · obtain ⟨o',e',_⟩:=toB b o e hb
      exact ⟨o',st _ _ e'⟩
  · obtain ⟨m1,e1⟩:=I.base.tbls b ps e
    obtain ⟨m2,e2⟩:=tbls b _ e1
    exact ⟨m1++m2,by rw [e2,Array.append_assoc]⟩
def Raises (X:Cx) (E:XK):Prop:=∀ (pins:List (Addr × Obj)) (σ:St) (H1:Hp) (s1:Shared) (h':Heap) (a C:Addr) (vs:List Value),Inv X pins σ H1 s1→Heap.MadeExcOf s1.heap h' a (.ref C) vs→E (.ref a) (some C) H1→X.xe (.ref a) { s1 with heap:=h' }
section
variable {P:Program} {w:World} {K:PySem.W.Frag} {mg:Str→Option Value} {base:Heap} {N:List Str} {qual:Str} {scope:Scope} {f:Addr} {cd:Value} {A:Around} {outer:List Env} {s:Shared} {H:Hp} {E:XK}
theorem raises_cx:Raises (cxOf (CXE P w) P w K mg base N qual scope f cd A outer s H E) E:=by
  intro pins σ H1 s1 h' a C vs I mk hE
  have stk:=I.stack
  have nTr:∀ b u,H1 b=some u→b ∉ frs (cxOf (CXE P w) P w K mg base N qual scope f cd A outer s H E).stack:=fun b u e z=>by
    rw [I.stkFree b z] at e;cases e
  have inB:∀ b o,s1.heap.get? b=some o→b ∉ frs (cxOf (CXE P w) P w K mg base N qual scope f cd A outer s H E).stack→(PySem.W.hideAll s1.heap (frs (cxOf (CXE P w) P w K mg base N qual scope f cd A outer s H E).stack)).get? b=some o:=fun b o e n=>PySem.W.hideAll_get _ e n
  show wpAny _ _ (leaving _ _) _ _ _
  refine wpAny_leaves_madeW (base:=PySem.W.hideAll s1.heap (frs (cxOf (CXE P w) P w K mg base N qual scope f cd A outer s H E).stack)) (h:=s1.heap) I.ok.frames rfl (fun b o q=>PySem.W.of_hideAll _ q)
    (PySem.W.funFrames_hide stk fun env he b hb=>List.mem_filterMap.mpr ⟨env,he,hb⟩) mk fun h2 t fl _ _ sm=>?_
  generalize PySem.W.hideAll s1.heap (frs (cxOf (CXE P w) P w K mg base N qual scope f cd A outer s H E).stack)=B at inB fl
  have BS:∀ b o,B.get? b=some o→s1.heap.get? b=some o∨True:=fun _ _ _=>.inr trivial
  obtain ⟨u,k1⟩:=fly_out (H2:=H1) (B:=B) (h2:=h2) I rfl (fun b o e n=>⟨o,inB b o e n,fun _=>rfl⟩) fl.1
    (fun b o e hb=>by
      obtain ⟨_,o',e',nf⟩:=stk.mem hb
      rw [e] at e';cases e'
      exact sm b o (mk.keeps _ _ e) nf)
    (fun _ _ _ z=>z) (fun _ _ z=>z) (fun _ _ _ z=>z) (fun b ps z=>⟨#[],by rw [z];simp⟩)
  have tr:∀ b u,H1 b=some u→∃ o,B.get? b=some o:=fun b u e=>by
    obtain ⟨o,eo⟩:=(I.hok b u e).obj
    exact ⟨o,inB b o eo (nTr b u e)⟩
  refine ⟨a,C,H1,rfl,I.os,I.bare,u,fun b o e=>?_,⟨B,_,fl,k1,tr⟩,?_,hE⟩
  · refine (I.hok b o e).stay (fun c v hc q=>?_) (fun _ q=>q) fun _ _ q=>q
    have nc:c ∉ frs (cxOf (CXE P w) P w K mg base N qual scope f cd A outer s H E).stack:=by
      rcases hc with rfl | hc
      · exact nTr _ _ e
      · exact nTr _ _ hc
    exact fl.1 _ _ (inB c v q nc)
  · cases q:H1 a with
    | none=>rfl
    | some u=>
      obtain ⟨o,eo⟩:=(I.hok a u q).obj
      rw [mk.new] at eo;cases eo
end
end L2
namespace L2
open PySem PySem.Spec PyProof.Rows
def excO (a C:Addr):HO:=.ext fun h=>∃ o vs,h.get? a=some o∧o.cls=.ref C∧o.data=.fields vs
def Up (X:Cx) (pins:List (Addr × Obj)) (σ:St) (a C:Addr) (H2:Hp) (s:Shared):Prop:=
  ∃ H1 s1,Inv X pins σ H1 s1∧s.os=s1.os∧AllBare s.gens∧Un (frs X.stack) [] H1 H2 s1.heap s.heap∧HOk X.prog X.w H2 s.heap∧FlyS X.stack H1 s1.heap H2 a C s.heap∧H2 a=none
section
variable {X:Cx} {pins:List (Addr × Obj)} {σ:St} {a C:Addr} {H1 H2:Hp} {s s1:Shared} {B h h':Heap} {a0:Value}
theorem excO_ok (H:Hp) (e:∃ o vs,h.get? a=some o∧o.cls=.ref C∧o.data=.fields vs):ObjOk X.prog X.w H h a (excO a C):=by
  refine ⟨e,?_,fun h1 h2 ⟨o,vs,x1,x2,x3⟩ k=>⟨o,vs,k _ x1,x2,x3⟩⟩
  obtain ⟨o,_,e,_⟩:=e
  exact ⟨o,e⟩
theorem Up.inv (U:Up X pins σ a C H2 s):Inv X pins σ (upd H2 a (excO a C)) s:=by
  obtain ⟨H1,s1,I,os,bare,un,hok,⟨B,a0,fl,k0,tr⟩,ha⟩:=U
  obtain ⟨oe,vs,e1,e2,e3,_⟩:=fl.first
  have na:∀ b o,s1.heap.get? b=some o→b≠a:=fun b o e z=>by
    subst z
    by_cases hb:b∈frs X.stack
    · obtain ⟨_,o',e',nf⟩:=fl.2.2.1.mem hb
      rw [e1] at e';cases e'
      exact nf vs e3
    · obtain ⟨o',e',_⟩:=k0 b o e hb
      rw [fl.2.1] at e';cases e'
  have up:∀ b u,H2 b=some u→upd H2 a (excO a C) b=some u:=fun b u e=>by rw [upd_ne (ne_of_none e ha)];exact e
  refine I.call' (ch:=[]) os ⟨un.keep,un.slot,fun b o e n hx=>?_,un.there,fun b xs e=>up _ _ (un.tups b xs e),fun b o u e=>up _ _ (un.frzs b o u e),fun b ps e=>?_⟩ (fun b o e=>?_) bare (fun _ z=>nomatch z)
  · rw [upd_ne (na b o e)];exact un.free b o e n hx
  · obtain ⟨more,e2⟩:=un.tbls b ps e
    exact ⟨more,up _ _ e2⟩
  · by_cases hb:b=a
    · subst hb
      rw [upd_same] at e;cases e
      exact excO_ok _ ⟨oe,vs,e1,e2,e3⟩
    · rw [upd_ne hb] at e
      exact (hok b o e).stay (fun _ _ _ q=>q) (fun c q=>up _ _ q) fun c xs q=>up _ _ q
theorem up_on (I:Inv X pins σ H1 s1) (os:s.os=s1.os) (bare:AllBare s.gens) (un:Un (frs X.stack) [] H1 H2 s1.heap s.heap) (hok:HOk X.prog X.w H2 s.heap) (hB:B.StaysIn s.heap) (ffs:s.heap.FunFrames B X.stack)
    (k0:∀ b o,s1.heap.get? b=some o→b ∉ frs X.stack→∃ o',B.get? b=some o'∧(H1 b=none→o'=o)) (tr:∀ b u,H2 b=some u→∃ o,B.get? b=some o) (ha:H2 a=none)
    (fl':Heap.FlyingW B X.stack a (.ref C) a0 h') (sm:s.heap.UpToSlots h'):Up X pins σ a C H2 { s with heap:=h' }:=by
  refine ⟨H1,s1,I,os,bare,⟨fun b o e n hb _=>?_,fun b o e n hb _=>?_,un.free,fun b o e _=>?_,un.tups,un.frzs,un.tbls⟩,hok_in hok hB fl'.1 tr,⟨B,a0,fl',k0,tr⟩,ha⟩
  · obtain ⟨o',e',k⟩:=k0 b o e hb
    rw [k n] at e'
    exact fl'.1 _ _ e'
  · obtain ⟨sl,e2⟩:=un.slot b o e n hb (by simp)
    obtain ⟨_,o',e',nf⟩:=ffs.mem hb
    rw [e2] at e';cases e'
    obtain ⟨sl3,e3⟩:=sm b _ e2 nf
    exact ⟨sl3,e3⟩
  · by_cases hb:b∈frs X.stack
    · obtain ⟨_,o',e',_⟩:=fl'.2.2.1.mem hb
      exact ⟨o',e'⟩
    · obtain ⟨o',e',_⟩:=k0 b o e hb
      exact ⟨o',fl'.1 _ _ e'⟩
theorem up_lands {M:Model} {A:Around} {E:Value→Shared→Prop} {Q:Unit→Shared→Prop} (U:Up X pins σ a C H2 s) (h:∀ h',Up X pins σ a C H2 { s with heap:=h' }→Q () { s with heap:=h' }) :
    wpAny M A (setFlight (.ref a) none) Q E s:=by
  obtain ⟨H1,s1,I,os,bare,un,hok,⟨B,a0,fl,k0,tr⟩,ha⟩:=U
  exact lands_againW fl fun h' fl' sm=>h h' (up_on I os bare un hok fl.1 fl.2.2.1 k0 tr ha fl' sm)
theorem up_looks {M:Model} {A:Around} {E:Value→Shared→Prop} {Q:Unit→Shared→Prop} (hA:A.frames=some X.stack) (hst:X.stack=X.env :: X.outer) (hf:X.env.frame=some X.env.locals) (U:Up X pins σ a C H2 s)
    (h:∀ h',Up X pins σ a C H2 { s with heap:=h' }→Q () { s with heap:=h' }) :
    wpAny M A (noteFrame (.ref a) X.env) (fun _ s2=>wpAny M A (setFlight (.ref a) none) Q E s2) E s:=by
  obtain ⟨H1,s1,I,os,bare,un,hok,⟨B,a0,fl,k0,tr⟩,ha⟩:=U
  have fl0:=fl
  rw [hst] at fl0 hA
  refine wpAny_looks_onW hA hf fl0 fun h1 hh sm=>?_
  refine wpAny_landsW hh fun h2 fl2 sm2=>?_
  rw [← hst] at fl2
  exact h h2 (up_on I os bare un hok fl.1 fl.2.2.1 k0 tr ha fl2 (sm.trans sm2))
abbrev Cx.caught (X:Cx) (a:Addr):Cx:={ X with A:=X.A.mark (some (.ref a)),calm:=false,xe:=fun _ _=>False }
theorem Inv.caught {H:Hp} (I:Inv X pins σ H s) (a:Addr):Inv (X.caught a) pins σ H s:=
  ⟨⟨I.ok.mod,I.ok.kind,I.ok.glob,I.ok.blt,I.ok.above,I.ok.inj,I.ok.has,I.ok.cab,(fun z=>nomatch z),I.ok.frames,I.ok.stk,I.ok.exf,I.ok.bs,I.ok.bsz,I.ok.noex,I.ok.exfs,I.ok.funs,I.ok.frf⟩,I.os,I.bare,I.base,I.loc,I.cell,I.free,I.freeC,I.pin,I.hok,I.len⟩
theorem Inv.uncaught {H:Hp} (ok:X.Ok) (I:Inv (X.caught a) pins σ H s):Inv X pins σ H s:=⟨ok,I.os,I.bare,I.base,I.loc,I.cell,I.free,I.freeC,I.pin,I.hok,I.len⟩
theorem Inv.goes {M:Model} {A:Around} {E:Value→Shared→Prop} {H:Hp} {i:Nat} {n:Str} {pos:Pos} {Q:Unit→Shared→Prop} (I:Inv X pins σ H s) (hN:X.N.Nodup) (hi:X.N[i]?=some n) (hl:X.env.kindOf n=some .local)
    (h:∀ s',Inv X pins (σ.set i none) H s'→Q () s'):wpAny M A (do bindName X.env n .none;unbindBehindTheSuite X.env n pos) Q E s:=by
  obtain ⟨m,hn,hl'⟩:=id I.loc
  have hcls:(X.env.scope.kind == .class || (X.env.scope.kind == .module && X.env.locals != X.env.globals))=false:=by rw [I.ok.kind];rfl
  have hiσ:i < σ.length:=by rw [I.len];exact (List.getElem?_eq_some_iff.mp hi).1
  refine wpAny_nameGoes_keeps hl hn hcls fun h' v hn' hs=>?_
  obtain ⟨oL,_,_,hoL,_⟩:=id hn
  refine h _ ⟨I.ok,I.os,I.bare,⟨fun b o e n hb hx=>?_,fun b o e n hb hx=>?_,I.base.free,fun b o e hx=>?_,I.base.tups,I.base.frzs,I.base.tbls⟩,⟨_,hn',fun j y v' e1 e2 e3=>?_⟩,fun y c e=>?_,I.free,I.freeC,fun p hp=>?_,fun b ob e=>?_,by simpa using I.len⟩
  · exact (hs.2 b (Nat.ne_of_lt (Nat.lt_of_lt_of_le (Heap.lt_size e) I.ok.above))).trans (I.base.keep b o e n hb hx)
  · obtain ⟨sl,e1⟩:=I.base.slot b o e n hb hx
    exact ⟨sl,(hs.2 b (Nat.ne_of_lt (Nat.lt_of_lt_of_le (Heap.lt_size e) I.ok.above))).trans e1⟩
  · obtain ⟨o',e1⟩:=I.base.there b o e hx
    exact ⟨o',(hs.2 b (Nat.ne_of_lt (Nat.lt_of_lt_of_le (Heap.lt_size e) I.ok.above))).trans e1⟩
  · by_cases hj:j=i
    · subst hj
      rw [List.getElem?_set_self hiσ] at e2
      cases e2
    · rw [List.getElem?_set_ne (Ne.symm hj)] at e2
      obtain ⟨u',r',q⟩:=hl' j y v' e1 e2 e3
      refine ⟨u',r',?_⟩
      rcases q with ⟨k,e⟩ | ⟨k,c,e,z⟩
      · refine .inl ⟨k,?_⟩
        have:y≠n:=fun e=>hj (nodup_ix hN e1 (e ▸ hi))
        simp [this,e]
      · exact .inr ⟨k,c,e,z.sameBut hs (I.cne y c e)⟩
  · obtain ⟨w',z⟩:=I.cell y c e
    exact ⟨w',z.sameBut hs (I.cne y c e)⟩
  · obtain ⟨e,n,ne,nf,d⟩:=I.pin p hp
    exact ⟨(hs.2 p.1 ne).trans e,n,ne,nf,d⟩
  · refine (I.hok b ob e).stay (fun c w' hc q=>(hs.2 c ?_).trans q) (fun _ q=>q) fun _ _ q=>q
    rintro rfl
    rcases hc with rfl | hc
    · rw [I.free] at e;cases e
    · rw [I.free] at hc;cases hc
end
def PH (X:Cx) (hs:List ExceptHandler) (th:Addr→Addr→TS):Prop:=
  ∀ (pins:List (Addr × Obj)) (s:Shared) (σ:St) (H2:Hp) (D:Ends) (a C:Addr),Up X pins σ a C H2 s→th a C D σ (upd H2 a (excO a C))→wpAny (model X.prog X.w) X.A (handleBy (.ref a) X.env hs) (SP X pins D) X.xe s
def Ends.goes (D:Ends) (i:Nat):Ends:=⟨fun σ H=>D.nx (σ.set i none) H,D.rt,fun σ H=>D.bk (σ.set i none) H,fun σ H=>D.ct (σ.set i none) H⟩
section
variable {X:Cx} {x n:Str} {i:Nat} {np pos:Pos} {b₀:Stmt} {suite:List Stmt} {rest:List ExceptHandler} {Cl:Addr} {th:Addr→TS} {tr:Addr→Addr→TS}
theorem typ_of {M:Model} {H:Hp} {h:Heap} {a C:Addr} (e:ObjOk X.prog X.w H h a (excO a C)):PySem.W.Looks M h (typeOf (.ref a)) (.ref C):=by
  obtain ⟨⟨o,vs,e1,e2,_⟩,_⟩:=e
  rw [← e2]
  exact (PySem.W.Looks.ld e1).andThen .now
theorem ph_as (hg:Gl X x) (hm:X.mg x=some (.ref Cl)) (hN:X.N.Nodup) (hi:X.N[i]?=some n) (hl:X.env.scope.names.lookup n=some .local) (hb:∀ a,PSs (X.caught a) (b₀ :: suite) (th a)) (hd:(x == ("__debug__" : Str))=false:=by decide) :
    PH X (.ExceptHandler (some (.Name x np)) (some n) (b₀ :: suite) pos :: rest) (fun a C D σ H=>PySem.W.exmOne X.K (.ref C) (.ref Cl)=some true∧th a (D.goes i) (σ.set i (some (.ref a))) H):=by
  intro pins s σ H2 D a C U h
  obtain ⟨hx,h⟩:=h
  have I:=U.inv
  refine wpAny_handleBy_cons (codeAny_handlers_test (ld_glob (I.caught a) hg hm ?_ hd)) (by intro q;cases q)
  refine (PySem.W.exm_one I.kIn (typ_of (I.hok a _ upd_same)) hx).here ?_
  refine codeAny_handlers_suite_as ?_
  refine up_lands U fun h' U'=>?_
  have I':=U'.inv
  refine store_ok I' hN hi (.inl hl) (v:=.ref a) rfl (fun s2 I2=>?_) (.inr hl)
  refine wpAny_mono (hb a pins s2 _ _ (D.goes i) (I2.caught a) h) (fun f s3 q=>?_) fun _ _ z=>False.elim z
  cases f with
  | next=>obtain ⟨σ',H',J,q⟩:=q;exact (J.uncaught I.ok).goes hN hi hl fun s4 J4=>⟨_,H',J4,q⟩
  | brk=>obtain ⟨σ',H',J,q⟩:=q;exact (J.uncaught I.ok).goes hN hi hl fun s4 J4=>⟨_,H',J4,q⟩
  | cont=>obtain ⟨σ',H',J,q⟩:=q;exact (J.uncaught I.ok).goes hN hi hl fun s4 J4=>⟨_,H',J4,q⟩
  | ret u=>obtain ⟨v,σ',H',J,r,q⟩:=q;exact (J.uncaught I.ok).goes hN hi hl fun s4 J4=>⟨v,_,H',J4,r,q⟩
end
def PassesAt (CX:CXT) (X:Cx) (E:XK) (σ:St):Prop:=∀ (pins:List (Addr × Obj)) (H:Hp) (s:Shared) (e:Value) (s':Shared),Inv X pins σ H s→CX X.stack H s E e s'→X.xe e s'
theorem Passes.at {CX:CXT} {X:Cx} {E:XK} {σ:St} (h:Passes CX X E):PassesAt CX X E σ:=fun pins H s e s' I q=>h pins σ H s e s' I q
abbrev Cx.tries (X:Cx) (pn:List (Addr × Obj)) (xe:Value→Shared→Prop):Cx:={ X with pn:=pn,xe:=xe }
def eTry (th:Addr→Addr→TS) (D:Ends) (σ:St):XK:=fun v c H'=>∃ a C,v=.ref a∧c=some C∧th a C D σ (upd H' a (excO a C))
def tTry (tb:XK→St→TS) (th:Addr→Addr→TS):TS:=fun D σ H=>tb (eTry th D σ) σ D σ H
theorem ps_try {X:Cx} {body:List Stmt} {h₀:ExceptHandler} {hs:List ExceptHandler} {pos:Pos} {tb:XK→St→TS} {th:Addr→Addr→TS}
    (hb:∀ pn xe E σ0,PassesAt (CXE X.prog X.w) (X.tries pn xe) E σ0→PSs (X.tries pn xe) body (tb E σ0)) (hh:PH X (h₀ :: hs) th)
    (hst:X.stack=X.env :: X.outer:=by rfl) (hf:X.env.frame=some X.env.locals:=by rfl):PS X (.Try body (h₀ :: hs) [] [] pos) (tTry tb th):=by
  intro pins s σ H D I h
  have toX:∀ {xe:Value→Shared→Prop} {pins':List (Addr × Obj)} {σ':St} {H':Hp} {s':Shared},Inv (X.tries (X.pn++pins) xe) pins' σ' H' s'→Inv X pins σ' H' s':=fun {xe pins' σ' H' s'} J=>
    ⟨I.ok,J.os,J.bare,J.base,J.loc,J.cell,J.free,J.freeC,fun p hp=>J.pin p (List.mem_append_left _ hp),J.hok,J.len⟩
  refine wpAny_Try_except ?_
  have J:∀ xe,Inv (X.tries (X.pn++pins) xe) [] σ H s:=fun xe=>
    ⟨⟨I.ok.mod,I.ok.kind,I.ok.glob,I.ok.blt,I.ok.above,I.ok.inj,I.ok.has,I.ok.cab,I.ok.hd,I.ok.frames,I.ok.stk,I.ok.exf,I.ok.bs,I.ok.bsz,I.ok.noex,I.ok.exfs,I.ok.funs,I.ok.frf⟩,I.os,I.bare,I.base,I.loc,I.cell,I.free,I.freeC,fun p hp=>by
      rw [List.append_nil] at hp
      exact I.pin p hp,I.hok,I.len⟩
  refine wpAny_mono (hb (X.pn++pins) (fun e s'=>∃ a C H2,e=.ref a∧Up X pins σ a C H2 s'∧th a C D σ (upd H2 a (excO a C))) (eTry th D σ) σ ?_ [] s σ H D (J _) h) (fun f s1 q=>?_) fun e s1 q=>?_
  · rintro pins' H1 s1 e s2 I1 ⟨a,C,H2,rfl,os,bare,un,hok,fly,ha,a',C',e1,e2,hE⟩
    cases e1;cases e2
    exact ⟨a,C,H2,rfl,⟨H1,s1,toX I1,os,bare,un,hok,fly,ha⟩,hE⟩
  · cases f with
    | next=>obtain ⟨σ',H',J,q⟩:=q;exact wpAny_execs_nil ⟨σ',H',toX J,q⟩
    | brk=>obtain ⟨σ',H',J,q⟩:=q;exact ⟨σ',H',toX J,q⟩
    | cont=>obtain ⟨σ',H',J,q⟩:=q;exact ⟨σ',H',toX J,q⟩
    | ret u=>obtain ⟨v,σ',H',J,r,q⟩:=q;exact ⟨v,σ',H',toX J,r,q⟩
  · obtain ⟨a,C,H2,rfl,U,hE⟩:=q
    exact up_looks I.ok.frames hst hf U fun h' U'=>hh pins _ σ H2 D a C U' hE
end L2
namespace L2
open PySem PySem.Spec PyProof.Rows PySem.W PySem.Calls PySem.Builtin PySem.Builtin.ObjectAttr PySem.Builtin.Getset_descriptor
structure ExK (K:Frag) (C:Addr):Prop where
  ga:findIn K (.ref C) "__getattribute__" = some (some (.builtin "BaseException.__getattribute__"))
  gn:findIn K (.ref C) "__getattr__" = some none
  cl:findIn K (.ref C) "__class__" = some (some (.builtin "object.__class__"))
  gt:specialIn K (.builtin "object.__class__") "__get__" = some (some (.builtin "getset_descriptor.__get__"))
  tk:takesIn K (.builtin "object.__class__")=some true
  ob:mroIn K C (.type "object")=some true
  be:mroIn K C (.type "BaseException")=some true
  cd:(clsIn K C).isSome=true
section
variable {prog:Program} {w:World} {A:Around} {E:Value→Shared→Prop} {s:Shared} {K:Frag} {x C:Addr} {R:Result→Shared→Prop}
theorem exc_class_get {tp:Value} (X:K.In s.heap) (L0:Looks (model prog w) s.heap (typeOf (.ref x)) (.ref C)) (L1:Looks (model prog w) s.heap (isSubtype (.ref C) (.type "object")) true)
    (h:R (.ok (.ret (.ref C))) s):codeAny (model prog w) A (.call (.builtin "getset_descriptor.__get__") ⟨[.builtin "object.__class__", .ref x,tp],[]⟩) R s:=by
  obtain ⟨hh,g,dr,t,os⟩:=s
  refine codeAny_call_builtin KF.slot_gs.plain KF.entry_gs (KF.slot_gs.check _ _ _ _ _ _ _ _ KF.type_class (KF.args_gs _ _ _) ?_)
  unfold Builtin.«getset_descriptor.__get__» descrGet
  rw [dga_obj]
  refine wpAny_bind (wpAny_pure ?_)
  unfold descrGetter descrCheckInstance descrNameAndClass isInstance
  simp only [KF.owner_class]
  repeat lk
  refine ⟨Code.quiet_builtin _ (by decide +kernel),codeAny_builtin KF.entry_class ?_⟩
  unfold Builtin.«object.__class__» shownTypeOf
  repeat lk
  exact h
theorem exc_find {M:Model} {h:Heap} (X:K.In h) (Z:ExK K C):Looks M h (find (.ref x) (.ref C) "__class__") (.bind (.builtin "getset_descriptor.__get__") (.builtin "object.__class__")):=by
  have L1:=looks_findIn (M:=M) X Z.cl
  have L2:Looks M h (getOf (some (.builtin "object.__class__"))) (some (.builtin "getset_descriptor.__get__")):=looks_specialIn X Z.gt
  have L3:=looks_takesIn (M:=M) X Z.tk
  refine L1.andThen (L2.andThen ?_)
  exact (show Looks M h (dataDescriptor? (some (.builtin "object.__class__")) (some (.builtin "getset_descriptor.__get__"))) (some (.builtin "getset_descriptor.__get__", .builtin "object.__class__")) from L3.andThen .now).andThen (Looks.tag .now)
theorem exc_entry {tk:Tok} {Q:Fin→Shared→Prop} (X:K.In s.heap) (Z:ExK K C) (L0:Looks (model prog w) s.heap (typeOf (.ref x)) (.ref C)) (h:Q (.done (.ret (.ref C))) s) :
    wpAny (model prog w) A (Builtin.«object.__getattribute__» ⟨[.ref x,.str "__class__" tk],[]⟩) Q E s:=by
  have L1:=looks_mroIn (M:=model prog w) X Z.ob
  have L2:=exc_find (M:=model prog w) (x:=x) X Z
  obtain ⟨hh,g,dr,t,os⟩:=s
  unfold Builtin.«object.__getattribute__»
  repeat (any_goals (first | assumption | (refine wpAny_bind (L0.at ?_)) | (refine wpAny_bind (L2.at ?_)) | wp_step))
  refine exc_class_get X L0 L1 ?_
  repeat (any_goals (first | assumption | wp_step))
theorem exc_kind:builtinKind "BaseException.__getattribute__" = some .slot:=by decide +kernel
theorem exc_split:splitId "BaseException.__getattribute__" = some ("BaseException", "__getattribute__"):=by decide +kernel
theorem exc_check {M:Model} {nameV:Value} {Q:Unit→Shared→Prop} (LI:Looks M s.heap (isInstance (.ref x) (.type "BaseException")) true) (h:Q () s) :
    wpAny M A (checkBuiltinCall "BaseException.__getattribute__" ⟨[.ref x,nameV],[]⟩) Q E s:=
  check_slot (i := "BaseException.__getattribute__") (owner := "BaseException") (n := "__getattribute__") (self:=.ref x) (rest:=[nameV]) (kw:=[]) exc_kind exc_split LI (F.args_bexc_ga (.ref x) nameV) h
theorem exc_call {tk:Tok} (X:K.In s.heap) (Z:ExK K C) (L0:Looks (model prog w) s.heap (typeOf (.ref x)) (.ref C)) (h:R (.ok (.ret (.ref C))) s) :
    codeAny (model prog w) A (.call (.builtin "BaseException.__getattribute__") ⟨[.ref x,.str "__class__" tk],[]⟩) R s:=
  codeAny_call_builtin F.attrBase_ValueError.ga.plain F.entry_bexc_ga (exc_check (L0.andThen (looks_mroIn (M:=model prog w) X Z.be)) (exc_entry X Z L0 h))
theorem exc_by {hh:Heap} {g:Array GenState} {dr:Drawn} {t:Nat} {os:OsState} {tk:Tok} {fill expr:Bool} {Q:Value→Shared→Prop} (X:K.In hh) (Z:ExK K C) (L0:Looks (model prog w) hh (typeOf (.ref x)) (.ref C)) (h:Q (.ref C) ⟨hh,g,dr,t,os⟩) :
    wpAny (model prog w) A (getAttrBy (.ref x) (.str "__class__" tk) fill expr) Q E ⟨hh,g,dr,t,os⟩:=by
  have f3:=F.attrBase_ValueError.ga.bind (.ref x)
  have hx0:(expr && onTheHeap (Value.builtin "BaseException.__getattribute__"))=false:=by cases expr <;> rfl
  have hx2:(Value.builtin "BaseException.__getattribute__" == Value.builtin "object.__getattribute__")=false:=by decide +kernel
  have hx1:(onTheHeap (Value.ref C) && Value.builtin "BaseException.__getattribute__" == Value.builtin "object.__getattribute__")=false:=by rw [hx2];rfl
  have L1:=looks_findIn (M:=model prog w) X Z.ga
  have L2:=looks_findIn (M:=model prog w) X Z.gn
  repeat (any_goals (first | assumption | (refine wpAny_bind (L0.at ?_)) | (refine wpAny_bind (L1.at ?_)) | (refine wpAny_bind (L2.at ?_)) | wp_step))
  refine exc_call X Z L0 ?_
  repeat (any_goals (first | assumption | wp_step))
theorem exc_class {hh:Heap} {g:Array GenState} {dr:Drawn} {t:Nat} {os:OsState} {Q:Option Value→Shared→Prop} (X:K.In hh) (Z:ExK K C) (L0:Looks (model prog w) hh (typeOf (.ref x)) (.ref C)) (h:Q (some (.ref C)) ⟨hh,g,dr,t+1,os⟩) :
    wpAny (model prog w) A (getAttr? (.ref x) "__class__") Q E ⟨hh,g,dr,t,os⟩:=by
  unfold getAttr? getAttrBy?
  repeat (any_goals (first | assumption | (with_reducible apply exc_by X Z L0) | wp_step))
end
end L2
namespace L2
open PySem PySem.Spec PyProof.Rows PySem.W
theorem kitx_exc {K:Frag} {a C:Addr} (Z:ExK K C):KitX K (.ref a) (.ref C) (fun h=>∃ o vs,h.get? a=some o∧o.cls=.ref C∧o.data=.fields vs) where
  ty:=fun M h _ ⟨o,vs,e1,e2,_⟩=>e2 ▸ (Looks.ld e1).andThen .now
  it:=fun M h X _=>by
    obtain ⟨cd,hcD⟩:=Option.isSome_iff_exists.mp Z.cd
    unfold clsIn at hcD
    split at hcD
    · rename_i c' d' cd' sl' ho
      intro A' Q' E' s' k q
      unfold isType loadHead
      exact wpAny_bind (wpAny_loadPart (k _ _ (X _ _ ho)) (wpAny_pure q))
    · cases hcD
  ne:=fun h tp dd its n sl X htp=>by
    obtain ⟨cd,hcD⟩:=Option.isSome_iff_exists.mp Z.cd
    refine Bool.eq_false_iff.mpr fun q=>?_
    have e:C=tp:=Value.ref.inj (beq_iff_eq.mp q)
    subst e
    unfold clsIn at hcD
    split at hcD
    · rename_i c' d' cd' sl' ho
      have z:=(X _ _ ho).symm.trans htp
      cases z
    · cases hcD
  ca:=fun {prog w A E Q s} X I k=>by
    obtain ⟨hh,g,d,t,os⟩:=s
    obtain ⟨o,vs,e1,e2,_⟩:=I
    exact exc_class (C:=C) X Z (e2 ▸ (Looks.ld e1).andThen .now) k
section
variable {X:Cx}
theorem vals_ref:∀ {Ds:List Addr} {its:List Value},Vals (Ds.map V.ref) its→its=Ds.map Value.ref
  | [],_,.nil=>rfl
  | D :: Ds,_ :: _,.cons r h=>by rw [vals_ref h];cases (show _=Value.ref D from r);rfl
theorem call_isinstE (K:Frag) (hK:X.K=K:=by rfl):CallR X (.builtin "isinstance") (fun vs H Q=>∃ (a C D:Addr) (b:Bool),vs=[.ref a,.ref D]∧H a=some (excO a C)∧ExK K C∧kitOne K (.ref C) (.ref D)=some b∧Q (.bl b) H):=by
  subst hK
  intro pins s σ H xs us Q I r h
  obtain ⟨a,C,D,b,rfl,ha,Z,e,q⟩:=h
  obtain ⟨u,v,rfl,ru,rv⟩:=vals2 r
  cases (show u=Value.ref a from ru)
  cases (show v=Value.ref D from rv)
  exact kia_one (kitx_exc Z) I.kIn (I.hok a _ ha).1 e (fun z=>nomatch z) fun tk=>⟨.bl b,H,I.tok tk,rfl,q⟩
theorem call_isinstEB (K:Frag) (hK:X.K=K:=by rfl):CallR X (.builtin "isinstance") (fun vs H Q=>∃ (a C:Addr) (T:String) (b:Bool),vs=[.ref a,.ty T]∧H a=some (excO a C)∧ExK K C∧kitOne K (.ref C) (.type T)=some b∧Q (.bl b) H):=by
  subst hK
  intro pins s σ H xs us Q I r h
  obtain ⟨a,C,T,b,rfl,ha,Z,e,q⟩:=h
  obtain ⟨u,v,rfl,ru,rv⟩:=vals2 r
  cases (show u=Value.ref a from ru)
  cases (show v=Value.type T from rv)
  exact kia_one (kitx_exc Z) I.kIn (I.hok a _ ha).1 e (fun z=>nomatch z) fun tk=>⟨.bl b,H,I.tok tk,rfl,q⟩
theorem call_isinstET (K:Frag) (hK:X.K=K:=by rfl):CallR X (.builtin "isinstance") (fun vs H Q=>∃ (a C c:Addr) (Ds:List Addr) (b:Bool),vs=[.ref a,.ref c]∧H a=some (excO a C)∧H c=some (.tup (Ds.map V.ref))∧ExK K C∧kitAny K (.ref C) (Ds.map Value.ref)=some b∧Q (.bl b) H):=by
  subst hK
  intro pins s σ H xs us Q I r h
  obtain ⟨a,C,c,Ds,b,rfl,ha,hc,Z,e,q⟩:=h
  obtain ⟨u,v,rfl,ru,rv⟩:=vals2 r
  cases (show u=Value.ref a from ru)
  cases (show v=Value.ref c from rv)
  obtain ⟨_,its,rv2,⟨o,h1,h2,n,h3⟩⟩:=(show ObjOk X.prog X.w H s.heap c (.tup (Ds.map V.ref)) from I.hok c _ hc)
  cases vals_ref rv2
  obtain ⟨cls,dd,dat,sl⟩:=o
  cases h2;cases h3
  exact kia_tup (kitx_exc Z) I.kIn (I.hok a _ ha).1 h1 e (fun z=>nomatch z) fun tk=>⟨.bl b,H,I.tok tk,rfl,q⟩
end
abbrev bmV:List Value:=[.type "ValueError", .type "Exception", .type "BaseException", .type "object"]
theorem exc_obj {K:Frag} {h:Heap} {C:Addr} {bmB:List Value} {newId:String} (X:K.In h) (q:excIn K C bmB newId=true) :
    ∃ bm N nm q bs hdct sn sub ab col dd k0 k1 k2 k3 k5 mN,h.get? C=some (excClassObj nm q C N bs bm hdct sn sub ab col dd k0 k1 k2 k3 k5 newId)∧h.Ns N mN∧mN "__init__" = none∧OwnTail h bmB bm:=by
  unfold excIn at q
  split at q
  · rename_i dd cd sl ho
    split at q
    · rename_i C' bm k0 k1 k2 k3 n k5 hm hs
      simp only [Bool.and_eq_true,beq_iff_eq,Bool.not_eq_true'] at q
      obtain ⟨⟨⟨⟨⟨rfl,rfl⟩,hdel⟩,ht⟩,hok⟩,hni⟩:=q
      obtain ⟨nm,bs,mro,ns,qn,hd,sn,sub,ab,col,del⟩:=cd
      dsimp only at hm hdel hok hni
      subst hm hdel
      have hsl:sl=#[k0,k1,k2,k3,some (.builtin n),k5]:=by
        obtain ⟨l⟩:=sl
        simp only at hs
        rw [hs]
      subst hsl
      exact ⟨bm,ns,nm,qn,bs,hd,sn,sub,ab,col,dd,k0,k1,k2,k3,k5,_,X _ _ ho,.of_isNs (isNs_of_in X hok),nsMap_none_of_in X hok hni,tail_of_in X ht⟩
    · cases q
  · cases q
def tRaise (E:XK) (C:Addr) (ta:TA):TS:=fun _ σ H=>ta σ H fun vs H1=>vs.length≤sizeLine∧∀ a,H1 a=none→E (.ref a) (some C) H1
theorem ps_raise {X:Cx} {E:XK} {x:Str} {C:Addr} {e₀:Expr} {rest:List Expr} {ta:TA} {np cpos pos:Pos} (R:Raises X E) (hm:X.mg x=some (.ref C)) (hq:excIn X.K C bmV "ValueError.__new__" = true) (hg:Gl X x) (ha:PA X (e₀ :: rest) ta)
    (hc:X.calm=true:=by rfl) (he:starEach (e₀ :: rest) X.env=(false,eval e₀ X.env) :: starEach rest X.env:=by rfl) (hplain:(backTo cpos (starEach rest X.env)).any (·.1)=false:=by rfl) (hd:(x == ("__debug__" : Str))=false:=by decide) :
    PS X (.Raise (some (.Call (.Name x np) (e₀ :: rest) [] cpos)) none pos) (tRaise E C ta):=by
  intro pins s σ H D I h
  obtain ⟨tl,N,nm,q,bs,hdct,sn,sub,ab,col,dd,k0,k1,k2,k3,k5,mN,hC,hN,hni,T⟩:=exc_obj I.ok.mod.kin hq
  refine wpAny_Raise_call_subT (C:=C) (nm:=nm) (q:=q) (N:=N) (bs:=bs) (bm:=tl) (hdct:=hdct) (sn:=sn) (sub:=sub) (ab:=ab) (col:=col) (dd:=dd) (k0:=k0) (k1:=k1) (k2:=k2) (k3:=k3) (k5:=k5)
    F.excBase_ValueError (mN:=mN) (T.hasType F.excBase_ValueError.hasBase) (I.ok.hd hc) (by rw [he];show (false || (backTo cpos (starEach rest X.env)).any (·.1))=false;rw [hplain];rfl) hni (ld_glob I hg hm ⟨rfl,?_⟩ hd)
  have hh:=ha cpos pins s σ H _ I h
  rw [he] at hh ⊢
  refine Calls.evalArgs_plain (wpAny_mono hh (fun vs s₂ h₂=>?_) fun _ _ y=>y)
  obtain ⟨us,H1,I1,r,hz,q⟩:=h₂
  refine ⟨rfl,by rw [← r.length];exact hz,I1.bk _ _ hC,hN.keeps I1.bk,T.keeps I1.bk,fun h' e mk=>R pins σ H1 s₂ h' e C vs I1 mk (q e ?_)⟩
  cases z:H1 e with
  | none=>rfl
  | some u=>
    obtain ⟨o,eo⟩:=(I1.hok e u z).obj
    rw [mk.new] at eo;cases eo
def HasX (P:Program) (w:World) (K:Frag) (mg:Str→Option Value) (base:Heap) (x:Str) (k:Nat) (ps:List Str) (sp:Sp):Prop:=
  ∃ f fd,FnOk P w K mg base (CXE P w) k f fd ps sp∧Binds K fd ps []∧keepIn K (.ref f)=true∧mg x=some (.ref f)
section
variable {P:Program} {w:World} {K:Frag} {mg:Str→Option Value} {base:Heap}
theorem HasX.mono {x:Str} {j k:Nat} {ps:List Str} {sp:Sp} (G:HasX P w K mg base x j ps sp) (h:j≤k):HasX P w K mg base x k ps sp:=
  let ⟨f,fd,F,r⟩:=G;⟨f,fd,F.mono h,r⟩
theorem Df.hasX {x:Str} {st:Stmt} {N ps:List Str} {k:Nat} {sp:Sp} (D:Df K mg x st) (S:FnScope N ps (defScope st))
    (hb:∀ (kV doc pm:Value) (an:Option Addr) (cdv ct:Value) (us:List Value),us.length=ps.length→bindArgs (fnOf x x (defArgs st) (defBody st) (defScope st) .none kV doc pm an cdv ct) ⟨us,[]⟩=pure (ps.zip us))
    (len:∀ vs H Q E,sp vs H Q E→vs.length=ps.length)
    (hbody:∀ (f:Addr) (cdv:Value) (A:Around) (outer:List Env) (s:Shared) (H:Hp) (vs:List V) (Q:VK) (E:XK),Room k (A.deeper (envOfC x (defScope st) s.heap.objs.size f cdv))→sp vs H Q E →
      ∃ t,PSs (cxOf (CXE P w) P w K mg base N x (defScope st) f cdv A outer s H E) (defBody st) t∧t { nx:=fun _ H'=>Q .non H',rt:=Q } (start N vs) H):HasX P w K mg base x (k+1) ps sp:=by
  obtain ⟨f,fd,F,m⟩:=D
  refine ⟨f,fd,?_,F.binds hb,F.kp,m⟩
  obtain ⟨oc,od,kV,doc,pm,an,cdv,ct,osl,rfl,lk,hcd⟩:=F.ex
  exact fn_of lk hcd S len fun A outer s H vs Q E hr hsp=>hbody f cdv A outer s H vs Q E hr hsp
end
section
variable {X:Cx} {x:Str} {k:Nat} {ps:List Str} {sp:Sp} {p pos:Pos} {e:Expr} {es:List Expr} {t:TA} {E:XK} {σ0:St}
theorem pe_callE (G:HasX X.prog X.w X.K X.mg X.base x k ps sp) (hx:Passes (CXE X.prog X.w) X E) (hr:Room k X.A) (hg:Gl X x) (ha:PA X (e :: es) t)
    (hdb:(x == ("__debug__" : Str))=false:=by decide) (he:starEach (e :: es) X.env=(false,eval e X.env) :: starEach es X.env:=by rfl) (hpl:(backTo pos (starEach es X.env)).any (·.1)=false:=by rfl) :
    PE X (.Call (.Name x p) (e :: es) [] pos) (tCall sp [] E t):=by
  obtain ⟨f,fd,F,b,kp,m⟩:=G
  exact pe_call F hr hg m kp b .nil hx ha hdb he hpl
theorem run_fnX {f:Addr} {fd:FuncData} {pins:List (Addr × Obj)} {H:Hp} {s:Shared} {Q:VK} {us:List Value} {vs:List V} (F:FnOk X.prog X.w X.K X.mg X.base (CXE X.prog X.w) k f fd ps sp) (hr:Room k X.A) (hb:Binds X.K fd ps []) (hx:PassesAt (CXE X.prog X.w) X E σ0)
    (I:Inv X pins σ0 H s) (r:Vals vs us) (h:sp (vs++[]) H Q E):wpAny (model X.prog X.w) X.A (call (.ref f) us) (EP X pins σ0 Q) X.xe s:=by
  have r2:Vals (vs++[]) (us++[]):=r.append .nil
  have hl:(us++[]).length=ps.length:=by rw [← r2.length];exact F.len _ _ _ _ h
  refine wpAny_call (codeAny_mono (F.run X.A X.stack s H ⟨us,[]⟩ (us++[]) (vs++[]) Q E hr I.env0 (hb s us I.kIn hl) r2 h) fun r s' hq=>?_)
  cases r with
  | error e=>exact hx pins H s e s' I hq
  | ok fl=>
    cases fl with
    | ret u=>exact I.after hq
    | next=>exact False.elim hq
    | brk=>exact False.elim hq
    | cont=>exact False.elim hq
theorem pe_callX (G:HasX X.prog X.w X.K X.mg X.base x k ps sp) (hx:PassesAt (CXE X.prog X.w) X E σ0) (hr:Room k X.A) (hg:Gl X x) (ha:PA X (e :: es) t)
    (hdb:(x == ("__debug__" : Str))=false:=by decide) (he:starEach (e :: es) X.env=(false,eval e X.env) :: starEach es X.env:=by rfl) (hpl:(backTo pos (starEach es X.env)).any (·.1)=false:=by rfl) :
    PE X (.Call (.Name x p) (e :: es) [] pos) (fun σ H Q=>σ=σ0∧tCall sp [] E t σ H Q):=by
  obtain ⟨f,fd,F,b,kp,hm⟩:=G
  rintro pins s σ H Q I ⟨rfl,h⟩
  refine wpAny_Call_Name_kw (ld_glob I hg hm ?_ hdb)
  refine callWith_K (h₀:=X.base) I.ok.mod.kin kp (thn (ha pos pins s σ H _ I h) fun us s1 ⟨vs,H1,I1,r,q⟩=>⟨I1.kIn,?_⟩) he hpl
  exact run_fnX F hr b hx I1 r q
end
end L2
namespace L2
open PySem PySem.Spec PyProof.Rows PySem.W
@[irreducible] def bigL:Int:=2 ^ 1000
section
variable {X:Cx}
theorem flat_bls (ns:List Bool):(ns.map V.bl).all flatV=true:=by
  rw [List.all_map];exact List.all_eq_true.mpr fun _ _=>rfl
def rCountB:V→List V→Hp→VK→Prop:=fun x vs H Q=>∃ (l:Addr) (ns:List Bool) (y:Bool),x=.ref l∧vs=[.bl y]∧H l=some (.lst (ns.map V.bl))∧Q (.int ((ns.count y:Nat):Int)) H
theorem mt_countB:MtM X "list.count" rCountB:=by
  intro pins s σ H x vs v us Q I rx rv h
  obtain ⟨l,ns,y,rfl,rfl,hH,q⟩:=h
  cases rx
  obtain ⟨u,rfl,ru⟩:=rv.one
  have ru0:=ru
  cases (show u=Value.bool y from ru)
  obtain ⟨z,its,n,r,hz,e⟩:=I.lstM hH
  refine call_meets F.slot_list_count ⟨_,e,rfl⟩ F.entry_list_count (F.args_list_count_2 _ _) (SeqAt.list_countAt l its.toArray n none #[] (.bool y) (eqU (V.bl y))) ⟨e,fun u hu=>mem_eqAt (x:=V.bl y) ru0 rfl r (flat_bls ns) u (by simpa using hu),?_⟩
  have key:∀ (ms:List Bool) (us:List Value),Vals (ms.map V.bl) us→us.countP (eqU (V.bl y))=ms.count y:=by
    intro ms
    induction ms with
    | nil=>intro us hv;cases hv;rfl
    | cons m ms ih=>
      intro us hv
      cases hv with
      | cons h t=>
        cases (show _=Value.bool m from h)
        rw [List.countP_cons,List.count_cons,ih _ t]
        cases m <;> cases y <;> rfl
  have ek:its.toArray.toList.countP (eqU (V.bl y))=ns.count y:=by rw [List.toList_toArray];exact key ns its r
  exact ⟨.int _,H,I.tok _,⟨_,by rw [ek]⟩,q⟩
theorem pe_countB (K:PySem.W.Frag) {o e:Expr} {to te:TE} {apos cpos:Pos} (ho:PE X o to) (he:PE X e te) (hK:X.K=K:=by rfl) (hbase:attributeBase o "count" X.env (eval o X.env)=eval o X.env:=by rfl)
    (h1:starEach [e] X.env=[(false,eval e X.env)]:=by rfl) (hl:(apos.endLine == cpos.line)=true:=by rfl) :
    PE X (.Call (.Attribute o "count" apos) [e] [] cpos) (tBM K "list" rCountB to (tCons te tNil)):=by
  subst hK
  exact pe_bm PySem.F.plainAttrs_list PySem.F.slot_list_count PySem.F.type_list_count mt_countB ho (pa_cons he pa_nil h1) hbase (by rw [h1];rfl) hl h1 (by rfl)
def rIndexT:V→List V→Hp→VK→Prop:=fun x vs H Q=>∃ (l:Addr) (ss:List Bool) (y:Bool),x=.ref l∧vs=[.bl y]∧H l=some (.lst (ss.map V.bl))∧y∈ss∧ss.length≤10000∧Q (.int ((ss.idxOf y:Nat):Int)) H
theorem mt_indexT:MtM X "list.index" rIndexT:=by
  intro pins s σ H x vs v us Q I rx rv h
  obtain ⟨l,ss,y,rfl,rfl,hH,hm,hl,q⟩:=h
  cases rx
  obtain ⟨u,rfl,ru⟩:=rv.one
  have ru0:=ru
  cases (show u=Value.bool y from ru)
  obtain ⟨z,its,n,r,hz,e⟩:=I.lstM hH
  have rl:=r.length
  rw [List.length_map] at rl
  have jl:ss.idxOf y < ss.length:=List.idxOf_lt_length_of_mem hm
  have key:∀ (j:Nat) (hj:j < its.toArray.size),eqU (V.bl y) its.toArray[j]=(ss[j]'(by rw [rl];simpa using hj) == y):=fun j hj=>by
    have hj':j < ss.length:=by rw [rl];simpa using hj
    obtain ⟨w',e1,e2⟩:=r.get (i:=j) (x:=V.bl (ss[j])) (by rw [List.getElem?_map,List.getElem?_eq_getElem hj'];rfl)
    cases (show w'=Value.bool ss[j] from e2)
    have:its.toArray[j]=Value.bool ss[j]:=by
      rw [List.getElem?_eq_getElem (by omega)] at e1
      simpa using Option.some.inj e1
    rw [this]
    generalize ss[j]=b
    cases b <;> cases y <;> rfl
  refine call_meets F.slot_list_index ⟨_,e,rfl⟩ F.entry_list_index (F.args_list_index_2 _ _) (SeqAt.list_indexAt l its.toArray n none #[] (.bool y) (eqU (V.bl y)) (ss.idxOf y) (by rw [List.size_toArray];omega) (by omega) ?_ ?_) ⟨e,fun u hu=>mem_eqAt (x:=V.bl y) ru0 rfl r (flat_bls ss) u (by simpa using hu),?_⟩
  · rw [key _ (by rw [List.size_toArray];omega),List.getElem_idxOf jl];exact beq_self_eq_true y
  · intro m hm' hlt
    rw [key m hm']
    have:=List.not_of_lt_findIdx (p:=(· == y)) (xs:=ss) (i:=m) hlt
    simpa using this
  · exact ⟨.int _,H,I.tok _,⟨_,rfl⟩,q⟩
theorem pe_indexT (K:PySem.W.Frag) {o e:Expr} {to te:TE} {apos cpos:Pos} (ho:PE X o to) (he:PE X e te) (hK:X.K=K:=by rfl) (hbase:attributeBase o "index" X.env (eval o X.env)=eval o X.env:=by rfl)
    (h1:starEach [e] X.env=[(false,eval e X.env)]:=by rfl) (hl:(apos.endLine == cpos.line)=true:=by rfl) :
    PE X (.Call (.Attribute o "index" apos) [e] [] cpos) (tBM K "list" rIndexT to (tCons te tNil)):=by
  subst hK
  exact pe_bm PySem.F.plainAttrs_list PySem.F.slot_list_index PySem.F.type_list_index mt_indexT ho (pa_cons he pa_nil h1) hbase (by rw [h1];rfl) hl h1 (by rfl)
end
end L2
namespace L2
open PySem PySem.Spec PyProof.Rows PySem.W
section
variable {prog:Program} {w:World} {A:Around} {E:Value→Shared→Prop} {s:Shared}
end
section
variable {X:Cx} {pins:List (Addr × Obj)} {σ:St} {H:Hp} {s:Shared} {A:Around} {E:Value→Shared→Prop} {κ1 κ2:SK} {z TI TO i1 i2:Addr}
end
section
variable {X:Cx} {pins:List (Addr × Obj)} {σ:St} {A:Around} {κ1 κ2:SK} {z TI TO i1 i2 S:Addr} {xs ys:List V} {H0:Hp} {res:Value} {R:Result→Shared→Prop} {g0:Array GenState} {d0:Drawn} {o0:OsState}
end
end L2
namespace L2
open PySem PySem.Spec PyProof.Rows PySem.W Tim
section
variable {prog:Program} {w:World} {A:Around} {E:Value→Shared→Prop} {s:Shared}
end
section
variable {X:Cx} {pins:List (Addr × Obj)} {σ:St} {H:Hp} {s:Shared} {A:Around} {E:Value→Shared→Prop} {κ1 κ2:SK} {z TI TO i1 i2:Addr} {xs ys:List V}
end
end L2
namespace L2
open PySem PySem.Spec PyProof.Rows PySem.W
section
variable {X:Cx} {pins:List (Addr × Obj)} {σ:St}
variable {A:Around} {R:Result→Shared→Prop} {H0:Hp} {a fa S It:Addr} {xs:List V} {kf:Nat→Int}
end
section
variable {X:Cx}
end
end L2
namespace L2
open PySem PySem.Spec PyProof.Rows PySem.W
section
variable {prog:Program} {w:World} {A:Around} {E:Value→Shared→Prop} {s:Shared}
theorem SetA.empty {led:Bool} {h:Heap} {r:Addr} {n:Nat} (x:SetA w led h r [] n):∃ ep t,h.get? r=some { cls:=.type "set", data:=.set #[] ep t }∧SetS w led #[] t []:=by
  obtain ⟨es,ep,t,hg,hS,_⟩:=x
  have:es=#[]:=by
    have e:es.toList=[]:=by
      refine List.eq_nil_iff_forall_not_mem.mpr fun e he=>?_
      have:=(hS.mem (keyOf e)).mp (List.mem_map.mpr ⟨e,he,rfl⟩)
      cases this
    simpa using e
  subst this
  exact ⟨ep,t,hg,hS⟩
end
def setO (w:World) (a:Addr) (S:List Str) (n:Nat):HO:=.ext fun h=>SetA w (ledOf w) h a S n
theorem setO_ok {P:Program} {w:World} {H:Hp} {h:Heap} {a:Addr} {S:List Str} {n:Nat} (x:SetA w (ledOf w) h a S n):ObjOk P w H h a (setO w a S n):=by
  refine ⟨x,?_,fun h1 h2 p k=>SetA.keeps p k⟩
  obtain ⟨es,ep,t,e,_⟩:=x
  exact ⟨_,e⟩
section
variable {X:Cx}
theorem setO_at {pins:List (Addr × Obj)} {σ:St} {H:Hp} {s:Shared} (I:Inv X pins σ H s) {a:Addr} {S:List Str} {n:Nat} (h:H a=some (setO X.w a S n)):SetA X.w (ledOf X.w) s.heap a S n:=(I.hok a _ h).1
theorem call_set_texts (hc:X.calm=true):CallR X (.type "set") (fun xs H Q=>∃ (l:Addr) (ss:List Str),xs=[.ref l]∧SqL X.K H l (ss.map V.str)∧ss.length < 4000∧∀ r,H r=none→Q (.ref r) (upd H r (setO X.w r ss ss.length))):=by
  intro pins s σ H xs us Q I r h
  obtain ⟨l,ss,rfl,hq,h4,q⟩:=h
  obtain ⟨u,rfl,ru⟩:=vals1 r
  cases (show u=Value.ref l from ru)
  obtain ⟨its,rv,ht,hz⟩:=I.list hq
  have hlen:=rv.length
  rw [List.length_map] at hlen
  have hh:X.A.handled=none:=I.ok.hd hc
  have hsz:its.toArray.size=its.length:=List.size_toArray ..
  refine set_call ht.isList (strsAre_of rv) hh (by show its.toArray.size+1 < 4096;omega) fun h2 tk2 old2 hA=>?_
  rw [hsz,← hlen] at hA
  exact ⟨.ref s.heap.objs.size,_,I.laid (t':=tk2) (h':=h2) (a:=s.heap.objs.size) (o:=setO X.w s.heap.objs.size ss ss.length) old2 (Nat.le_refl _) (setO_ok hA),rfl,q _ (I.hok.fresh (Nat.le_refl _))⟩
theorem call_set_textsW (w:World) (hc:X.calm=true) (hw:X.w=w:=by rfl):CallR X (.type "set") (fun xs H Q=>∃ (l:Addr) (ss:List Str),xs=[.ref l]∧SqL X.K H l (ss.map V.str)∧ss.length < 4000∧∀ r,H r=none→Q (.ref r) (upd H r (setO w r ss ss.length))):=by
  subst hw;exact call_set_texts hc
end
end L2
namespace L2
open PySem
theorem ar0 {α:Type} {p:List α→Prop} (h:p []) (us:List α) (hl:us.length=0):p us:=by
  cases us with
  | nil=>exact h
  | cons _ _=>cases hl
theorem ar1 {α:Type} {p:List α→Prop} (h:∀ a,p [a]) (us:List α) (hl:us.length=1):p us:=by
  cases us with
  | nil=>cases hl
  | cons a us=>exact ar0 (p:=fun us=>p (a :: us)) (h a) us (Nat.succ.inj hl)
theorem ar2 {α:Type} {p:List α→Prop} (h:∀ a b,p [a,b]) (us:List α) (hl:us.length=2):p us:=by
  cases us with
  | nil=>cases hl
  | cons a us=>exact ar1 (p:=fun us=>p (a :: us)) (h a) us (Nat.succ.inj hl)
theorem ar3 {α:Type} {p:List α→Prop} (h:∀ a b c,p [a,b,c]) (us:List α) (hl:us.length=3):p us:=by
  cases us with
  | nil=>cases hl
  | cons a us=>exact ar2 (p:=fun us=>p (a :: us)) (h a) us (Nat.succ.inj hl)
theorem ar4 {α:Type} {p:List α→Prop} (h:∀ a b c d,p [a,b,c,d]) (us:List α) (hl:us.length=4):p us:=by
  cases us with
  | nil=>cases hl
  | cons a us=>exact ar3 (p:=fun us=>p (a :: us)) (h a) us (Nat.succ.inj hl)
theorem mid {t u:TS} {D:Ends} {σ:St} {H:Hp} (P:St→Hp→Prop) (h2:∀ σ' H',P σ' H'→u D σ' H') (h1:∀ E:Ends,(∀ σ' H',P σ' H'→E.nx σ' H')→t E σ H):tSeq t u D σ H:=h1 { D with nx:=u D } h2
def appK (U:PySem.W.Frag→TS) (K:PySem.W.Frag) (D:Ends):St→Hp→Prop:=U K D
def tSeqK (T U:PySem.W.Frag→TS) (K:PySem.W.Frag):TS:=fun D σ H=>T K { D with nx:=appK U K D } σ H
theorem seqE {T U V:PySem.W.Frag→TS} (h:∀ K,U K=V K):∀ K,tSeq (T K) (U K)=tSeqK T V K:=by
  have e:U=V:=funext h
  subst e
  exact fun _=>rfl
theorem seqK {K:PySem.W.Frag} {t u V:PySem.W.Frag→TS} {D:Ends} {σ:St} {H:Hp} (e:∀ K,tSeq (t K) (u K)=V K) (h:V K D σ H):∀ K',K=K'→tSeq (t K') (u K') D σ H:=by
  rintro K' rfl;rw [e];exact h
end L2
namespace HT
open PySem PySem.Spec PyProof.Rows
section
variable {prog:Program} {w:World} {A:Around} {E:Value→Shared→Prop} {s:Shared}
end
end HT
namespace L2
open PySem PySem.Spec PyProof.Rows
section
variable {X:Cx}
end
end L2
namespace L2
open PySem PySem.Spec PyProof.Rows PySem.W
theorem iteB {c:Bool} {A B:Prop} (h:c=false) (q:B):if c=true then A else B:=by rw [h];exact iteF q
theorem iteA {c:Bool} {A B:Prop} (h:c=true) (q:A):if c=true then A else B:=by rw [h];exact iteT q
end L2
namespace L2
open PySem PySem.Spec PyProof.Rows PySem.W
theorem SetA.tight {w:World} {led:Bool} {h:Heap} {a:Addr} {S:List Str} {n:Nat} (x:SetA w led h a S n) {us:List Str} (sub:∀ z∈S,z∈us):SetA w led h a S us.length:=by
  obtain ⟨es,ep,t,e,hS,_⟩:=x
  refine ⟨es,ep,t,e,hS,?_⟩
  have:=hS.nd.length_le_of_subset (l₂:=us) fun z hz=>sub z ((hS.mem z).mp hz)
  rw [List.length_map,Array.length_toList] at this
  exact this
section
variable {X:Cx}
theorem call_sorted_setT (w:World) (hc:X.calm=true) (hw:X.w=w:=by rfl):CallR X (.builtin "sorted") (fun xs H Q=>∃ (a:Addr) (S:List Str) (n:Nat) (us:List Str),xs=[.ref a]∧H a=some (setO w a S n)∧(∀ z∈S,z∈us)∧us.length < 64 ∧
    ∀ (ss:List Str) (r:Addr),ss.Nodup→(∀ x,x∈ss ↔ x∈S)→sortedS ss=true→H r=none→Q (.ref r) (upd H r (.lst (ss.map V.str)))):=by
  subst hw
  intro pins s σ H xs us' Q I r h
  obtain ⟨a,S,n,us,rfl,ha,sub,n64,q⟩:=h
  obtain ⟨u,rfl,ru⟩:=vals1 r
  cases (show u=Value.ref a from ru)
  have hh:X.A.handled=none:=I.ok.hd hc
  refine set_sorted ((setO_at I ha).tight sub) hh n64 fun h3 tk3 d l3 out ss' e old3 lge hg3 hv3 nd3 mem3 srt3 len3=>?_
  have I3:=I.laid (t':=tk3) (h':=h3) (a:=l3) (o:=.lst (ss'.map V.str)) old3 lge (show ObjOk X.prog X.w _ _ _ (.lst (ss'.map V.str)) from ⟨by rw [List.length_map];exact Nat.le_of_lt (small1000 (by omega)),out.toList,e,strsAre_get hv3,hg3⟩)
  exact ⟨.ref l3,_,I3.drawn d,rfl,q ss' l3 nd3 mem3 srt3 (I.hok.fresh lge)⟩
end
end L2
namespace L2
open PySem PySem.Spec PyProof.Rows PySem.W
section
variable {K:PySem.W.Frag} {H:Hp} {v:V} {d:PyData}
end
def dl (ps:List Addr) (H:Hp):Hp:=fun a=>if a∈ps then none else H a
end L2
namespace L2
open PySem PySem.Spec PyProof.Rows PySem.W
section
variable {X:Cx}
end
end L2
namespace L2
open PySem PySem.Spec PyProof.Rows PySem.W
structure PSw (X:Cx) (sts:List Stmt) (t:TS):Prop where
  h:PSs X sts t
structure Pw (X:Cx) (st:Stmt) (t:TS):Prop where
  h:PS X st t
structure PEw (X:Cx) (e:Expr) (t:TE):Prop where
  h:PE X e t
structure PAw (X:Cx) (es:List Expr) (t:TA):Prop where
  h:PA X es t
section
variable {X:Cx}
theorem exw {sts:List Stmt} {R:TS→Prop} (h:∃ t,PSw X sts t∧R t):∃ t,PSs X sts t∧R t:=let ⟨t,a,b⟩:=h;⟨t,a.h,b⟩
theorem w_cons {st:Stmt} {rest:List Stmt} {t u:TS} (h1:Pw X st t) (h2:PSw X rest u):PSw X (st :: rest) (tSeq t u):=⟨pss_cons h1.h h2.h⟩
theorem w_one {st:Stmt} {t:TS} (h:Pw X st t):PSw X [st] t:=⟨pss_one h.h⟩
theorem w_set {i:Nat} {x:Str} {e:Expr} {te:TE} {pos' pos:Pos} (hN:X.N.Nodup) (hi:X.N[i]?=some x) (hx:Loc X.env.scope x) (he:PEw X e te) (hs:swapsWith e (some (.Name x pos')) pos.line X.env=pure false:=by rfl) (hf:X.fn x=true∨X.env.scope.names.lookup x=some .local:=by first | exact .inl rfl | exact .inr rfl | assumption) :
    Pw X (.Assign [.Name x pos'] e pos) (tAsg te (gName i)):=⟨ps_set hN hi hx he.h hs hf⟩
theorem w_ret {e:Expr} {te:TE} {pos:Pos} (he:PEw X e te):Pw X (.Return (some e) pos) (tRet te):=⟨ps_ret he.h⟩
theorem w_op {a b:Expr} {ta tb:TE} {pos:Pos} {op:Operator} {r:R2} (ho:OpR X (binaryOp op) r) (ha:PEw X a ta) (hb:PEw X b tb):PEw X (.BinOp a op b pos) (tOp r ta tb):=⟨pe_op ho ha.h hb.h⟩
theorem w_lst {es:List Expr} {t:TA} {pos:Pos} (h:PAw X es t):PEw X (.List es pos) (tLst t):=⟨pe_lst h.h⟩
theorem w_tup {es:List Expr} {t:TA} {pos:Pos} {x1} (h:PAw X es t):PEw X (.Tuple es x1 pos) (tTup t):=⟨pe_tup h.h⟩
theorem w_acons {e:Expr} {es:List Expr} {te:TE} {t:TA} (ha:PEw X e te) (hr:PAw X es t) (hs:starEach (e :: es) X.env=(false,eval e X.env) :: starEach es X.env:=by rfl):PAw X (e :: es) (tCons te t):=⟨pa_cons ha.h hr.h hs⟩
theorem w_anil:PAw X [] tNil:=⟨pa_nil⟩
theorem w_str {x:Str} {j} {pos:Pos}:PEw X (.Constant (.str x) j pos) (tC (.str x)):=⟨pe_str⟩
end
end L2
namespace L2
open PySem PySem.Spec PyProof.Rows PySem.W
section
variable {prog:Program} {w:World} {A:Around} {E:Value→Shared→Prop} {s:Shared}
theorem set_loopW {led:Bool} {I S:Addr} {fp:List Addr} {n:Nat} {Pv:Nat→Value→Prop} {St:Nat→Heap→Prop} {ss:List Str} {R:Result→Shared→Prop} (Wk:Walks prog w A.in1 I fp [I] n Pv St) (hP:∀ i v,Pv i v→∃ x tk,v=.str x tk∧ss[i]?=some x) (sl:ss.length=n) (SI:S≠I) (Sf:S ∉ fp) (hn:n+1 < scanBound) :
    ∀ (k i:Nat) (s:Shared),n - i=k→i≤n→St i s.heap→SetA w led s.heap S (ss.take i) i →
      (∀ h' tk,(∀ b o,b≠I→b≠S→s.heap.get? b=some o→h'.get? b=some o)→SetA w led h' S ss n→R (.ok (.ret .none)) { s with heap:=h',toks:=tk }) →
      codeAny (model prog w) A (.builtin "set.update.loop" ⟨[.ref S,.ref I],[]⟩) R s
  | 0,i,s,hk,hi,h1,h3,h=>by
    have ei:i=n:=by omega
    subst ei
    refine codeAny_builtin F.entry_set_update_loop ?_
    rw [Around.under_plainId F.plain_set_update_loop _]
    show wpAny _ A.in1 (pyNext (.ref I) >>= _) _ _ s
    refine wpAny_bind (Wk.done s _ _ h1 fun h' tk kp=>wpAny_pure ?_)
    refine h h' tk (fun b o n1 _ e=>kp b o (by simpa using n1) e) ?_
    have:=h3.keeps (h':=h') fun o e=>kp S o (by simpa using SI) e
    rw [List.take_of_length_le (by omega)] at this
    exact this
  | k+1,i,s,hk,hi,h1,h3,h=>by
    have il:i < n:=by omega
    refine codeAny_builtin F.entry_set_update_loop ?_
    rw [Around.under_plainId F.plain_set_update_loop _]
    show wpAny _ A.in1 (pyNext (.ref I) >>= _) _ _ s
    refine wpAny_bind (Wk.item i s _ _ il h1 fun v h' tk hv hSt kp=>?_)
    obtain ⟨x,tkx,rfl,hx⟩:=hP i v hv
    have h3':=h3.keeps (h':=h') fun o e=>kp S o (by simpa using SI) e
    dsimp only
    refine wpAny_bind (wpAny_holding (add_text (s:={ s with heap:=h',toks:=tk }) h3' (by omega) fun b h2' sb hA=>?_))
    refine wpAny_pure ⟨plainId_quiet F.plain_set_update_loop _,?_⟩
    have et:ss.take i++[x]=ss.take (i+1):=by rw [List.take_succ,hx];rfl
    rw [et] at hA
    refine set_loopW Wk hP sl SI Sf hn k (i+1) { s with heap:=h2',toks:=tk+1 } (by omega) (by omega) ?_ hA fun h4 tk4 k4 hA4=>?_
    · exact Wk.frame _ _ _ hSt fun b hb o e=>sb.extBut _ _ (fun z=>Sf (by rw [← z];exact hb)) e
    · exact h h4 tk4 (fun b o n1 n2 e=>k4 b o n1 n2 (sb.extBut _ _ n2 (kp b o (by simpa using n1) e))) hA4
theorem set_initS {D:Addr} {z:Str} {t:Tok} {Pf:PySem.Fin→Shared→Prop} (hget:s.heap.get? D=some { cls:=.type "set", data:=.set #[] 0 (SetTable.fresh 0 0 (ledOf w)) }) (hh:A.handled=none) (hn:z.cps.size+1 < scanBound)
    (h:∀ h' tk,(∀ b o,b≠D→s.heap.get? b=some o→h'.get? b=some o)→SetA w (ledOf w) h' D (z.cps.toList.map fun c=>(⟨#[c]⟩:Str)) z.cps.size→Pf (.done (.ret .none)) { s with heap:=h',toks:=tk }) :
    wpAny (model prog w) A (Builtin.«set.__init__» ⟨[.ref D,.str z t],[]⟩) Pf E s:=by
  have hT:s.TypeIs (.ref D) "set" := ⟨_,hget,rfl⟩
  have hTl:s.TypeIs (.str z t) "str" := typeIs_str _ _ _
  unfold Builtin.«set.__init__»
  refine wpAny_bind ?_
  unfold noKeywords
  show wpAny _ _ (pure ()) _ _ _
  refine wpAny_pure ?_
  dsimp only
  unfold typeNameOfCut shownTypeOf
  refine wpAny_bind (wpAny_bind (wpAny_bind (wpAny_typeOf hT ?_)))
  rw [if_neg (by decide)]
  refine wpAny_pure ?_
  rw [name_set]
  refine wpAny_pure ?_
  refine wpAny_bind ?_
  unfold checkCount
  show wpAny _ _ (pure ()) _ _ _
  refine wpAny_pure ?_
  refine wpAny_bind ?_
  show wpAny _ _ (pure D) _ _ _
  refine wpAny_pure ?_
  refine wpAny_bind ?_
  unfold setUsed
  refine wpAny_bind (wpAny_setState_of hget rfl rfl (wpAny_pure ?_))
  have hfill:(((#[],0,SetTable.fresh 0 0 (ledOf w)):Array (Int × Value) × Nat × SetTable).2.2.fill != 0)=false:=rfl
  rw [hfill,if_neg (by decide)]
  refine wpAny_bind ?_
  unfold Builtin.Frozenset.updateFrom
  refine wpAny_bind ?_
  unfold Builtin.Frozenset.isAnySet
  refine wpAny_bind (wpAny_isInstance hTl F.sub_str_set ?_)
  refine wpAny_isInstance hTl F.sub_str_frozenset ?_
  rw [if_neg (by decide)]
  refine wpAny_bind (wpAny_typeOf hTl ?_)
  rw [if_neg (by decide)]
  have DD:D < s.heap.objs.size:=Heap.lt_size hget
  refine wpAny_bind (wpAny_pyIter_str fun o St Wk st0=>?_)
  refine wpAny_bind (wpAny_runValue ?_)
  refine set_loopW (led:=ledOf w) (ss:=z.cps.toList.map fun c=>(⟨#[c]⟩:Str)) (Wk A.in1 hh) (fun i v hv=>?_) (by rw [List.length_map,Array.length_toList]) (Nat.ne_of_lt DD) (fun m=>Nat.ne_of_lt DD (List.mem_singleton.mp m)) hn z.cps.size 0 { s with heap:=s.heap.push o } (Nat.sub_zero _) (Nat.zero_le _) st0 (SetA.start (Heap.get?_push_of_some _ hget)) fun h' tk kp hA=>?_
  · obtain ⟨c,u,hc,rfl⟩:=hv
    exact ⟨_,_,rfl,by rw [List.getElem?_map,Array.getElem?_toList,hc];rfl⟩
  refine wpAny_pure (wpAny_pure ?_)
  exact h h' tk (fun b o n e=>kp b o (Nat.ne_of_lt (Heap.lt_size e)) n (Heap.get?_push_of_some _ e)) hA
theorem set_callS {z:Str} {t:Tok} {Q:Value→Shared→Prop} (hh:A.handled=none) (hn:z.cps.size+1 < scanBound)
    (h:∀ h' tk,(∀ b o,s.heap.get? b=some o→h'.get? b=some o)→SetA w (ledOf w) h' s.heap.objs.size (z.cps.toList.map fun c=>(⟨#[c]⟩:Str)) z.cps.size→Q (.ref s.heap.objs.size) { s with heap:=h',toks:=tk }) :
    wpAny (model prog w) A (call (.type "set") [.str z t]) Q E s:=by
  obtain ⟨c,tl,hmro⟩:=F.called_set.mro
  refine wpAny_call (codeAny_of_tree ?_)
  show wpAny _ _ (pure (Fin.again (.builtin "type.__call__" ⟨[.type "set", .str z t],[]⟩))) _ _ _
  refine wpAny_pure ⟨Code.quiet_builtin _ (by decide +kernel),codeAny_builtin F.entry_type_call ?_⟩
  rw [Around.under_plain (weight_type_call_type "set" [.str z t] []) rfl]
  unfold Builtin.«type.__call__»
  dsimp only
  rw [if_neg (by decide),if_neg (by rw [F.called_set.canCreate];decide)]
  refine wpAny_bind ?_
  rw [F.typeCall_set_1]
  refine wpAny_pure ?_
  refine wpAny_bind ?_
  rw [hmro]
  refine wpAny_pure ?_
  rw [if_neg (by simp)]
  refine wpAny_bind ?_
  rw [F.called_set.made]
  refine wpAny_pure ?_
  dsimp only
  refine wpAny_bind (wpAny_pure ?_)
  refine wpAny_bind (wpAny_holding (wpAny_call ?_))
  refine code_set_new_led _ ?_
  have hget:(s.heap.push { cls:=.type "set", data:=.set #[] 0 (SetTable.fresh 0 0 (ledOf w)) }).get? s.heap.objs.size=some { cls:=.type "set", data:=.set #[] 0 (SetTable.fresh 0 0 (ledOf w)) }:=Heap.get?_push_size _ rfl
  have hT:({ s with heap:=s.heap.push { cls:=.type "set", data:=.set #[] 0 (SetTable.fresh 0 0 (ledOf w)) } }:Shared).TypeIs (.ref s.heap.objs.size) "set" := ⟨_,hget,rfl⟩
  refine wpAny_bind (wpAny_isInstance hT F.called_set.sub ?_)
  rw [if_neg (by decide)]
  refine wpAny_bind (wpAny_holding ?_)
  refine wpAny_callSpecial?_slot hT F.called_set.init (wpAny_call (codeAny_call_builtin F.called_set.init.plain F.entry_set_init (check_set_init_1 hT ?_)))
  refine set_initS (s:={ s with heap:=s.heap.push { cls:=.type "set", data:=.set #[] 0 (SetTable.fresh 0 0 (ledOf w)) } }) hget hh hn fun h' tk kp hA=>?_
  dsimp only
  rw [if_neg (by decide)]
  refine wpAny_pure ?_
  exact h h' tk (fun b o e=>kp b o (Nat.ne_of_lt (Heap.lt_size e)) (Heap.get?_push_of_some _ e)) hA
end
section
variable {X:Cx}
theorem call_set_txt (hc:X.calm=true):CallR X (.type "set") (fun xs H Q=>∃ (z:Str),xs=[.str z]∧z.length < 4000∧∀ r,H r=none→Q (.ref r) (upd H r (setO X.w r (z.cps.toList.map fun c=>(⟨#[c]⟩:Str)) z.length))):=by
  intro pins s σ H xs us Q I r h
  obtain ⟨z,rfl,h4,q⟩:=h
  obtain ⟨u,rfl,t,rfl⟩:=vals1 r
  have hh:X.A.handled=none:=I.ok.hd hc
  have hz:z.cps.size < 4000:=h4
  refine set_callS hh (by show z.cps.size+1 < 4096;omega) fun h2 tk2 old2 hA=>?_
  exact ⟨.ref s.heap.objs.size,_,I.laid (t':=tk2) (h':=h2) (a:=s.heap.objs.size) (o:=setO X.w s.heap.objs.size _ _) old2 (Nat.le_refl _) (setO_ok hA),rfl,q _ (I.hok.fresh (Nat.le_refl _))⟩
theorem call_set_txtW (w:World) (hc:X.calm=true) (hw:X.w=w:=by rfl):CallR X (.type "set") (fun xs H Q=>∃ (z:Str),xs=[.str z]∧z.length < 4000∧∀ r,H r=none→Q (.ref r) (upd H r (setO w r (z.cps.toList.map fun c=>(⟨#[c]⟩:Str)) z.length))):=by
  subst hw;exact call_set_txt hc
theorem mt_endswith:MtR X "str.endswith" (fun x vs H Q=>∃ z p,x=.str z∧vs=[.str p]∧Q (.bl (Txt.endswith z p)) H):=by
  intro pins s σ H x xs v us Q I rx rv h
  obtain ⟨z,p,rfl,rfl,q⟩:=h
  obtain ⟨t,rfl⟩:=rx
  obtain ⟨u,rfl,t',rfl⟩:=rv.one
  exact SC.endswith ⟨.bl _,H,I,rfl,q⟩
theorem mt_partition:MtR X "str.partition" (fun x vs H Q=>∃ z p,x=.str z∧vs=[.str p]∧(p.length == 0)=false∧z.length≤sizeLine∧∀ r,H r=none→Q (.ref r) (upd H r (.tup [.str (Txt.partition z p).1,.str (Txt.partition z p).2.1,.str (Txt.partition z p).2.2]))):=by
  intro pins s σ H x xs v us Q I rx rv h
  obtain ⟨z,p,rfl,rfl,hp,hz,q⟩:=h
  obtain ⟨t,rfl⟩:=rx
  obtain ⟨u,rfl,t',rfl⟩:=rv.one
  refine call_meets F.slot_str_partition (typeIs_str _ _ _) F.entry_str_partition (F.args_str_partition_2 _ _) (meets_str_partition z p t t' hp hz) ?_
  have q':=q
  unfold Txt.partition at q'
  have z3:∀ a b c:V,[a,b,c].length≤sizeLine:=fun a b c=>by show 3≤sizeLine;rw [sizeLine_eq];decide
  revert q'
  cases Builtin.Str.occurrences z p 0 z.length 1 with
  | nil=>
    intro q'
    exact ⟨.ref s.heap.objs.size,_,I.laid (t':=s.toks+1) (fun b u e=>Heap.get?_push_of_some _ e) (Nat.le_refl _) (show ObjOk X.prog X.w _ _ _ (.tup [.str _,.str _,.str _]) from ⟨⟨z3 _ _ _,_,Heap.get?_push_size _ rfl,rfl⟩,_,.cons ⟨_,rfl⟩ (.cons ⟨_,rfl⟩ (.cons ⟨_,rfl⟩ .nil)),⟨_,Heap.get?_push_size _ rfl,rfl,_,rfl⟩⟩),rfl,q' _ (I.hok.fresh (Nat.le_refl _))⟩
  | cons i r=>
    intro q'
    exact ⟨.ref s.heap.objs.size,_,I.laid (t':=s.toks+1+1) (fun b u e=>Heap.get?_push_of_some _ e) (Nat.le_refl _) (show ObjOk X.prog X.w _ _ _ (.tup [.str _,.str _,.str _]) from ⟨⟨z3 _ _ _,_,Heap.get?_push_size _ rfl,rfl⟩,_,.cons ⟨_,rfl⟩ (.cons ⟨_,rfl⟩ (.cons ⟨_,rfl⟩ .nil)),⟨_,Heap.get?_push_size _ rfl,rfl,_,rfl⟩⟩),rfl,q' _ (I.hok.fresh (Nat.le_refl _))⟩
def tOrS (ta tb:TE):TE:=fun σ H Q=>ta σ H fun x H1=>∃ z,x=.str z∧z.length≤1000∧if z.length=0 then tb σ H1 Q else Q x H1
theorem pe_orS {a b:Expr} {rest:List Expr} {ta tb:TE} {pos:Pos} (ha:PE X a ta) (hb:PE X (.BoolOp .Or (b :: rest) pos) tb):PE X (.BoolOp .Or (a :: b :: rest) pos) (tOrS ta tb):=by
  intro pins s σ H Q I h
  refine BoolOp_or (thn (ha pins s σ H _ I h) fun v s1 ⟨x,H1,I1,r1,q1⟩=>?_)
  obtain ⟨z,rfl,zl,q1⟩:=q1
  obtain ⟨t,rfl⟩:=r1
  refine P.truthy_str (by omega) ?_
  by_cases e:z.length=0
  · rw [if_pos e] at q1
    have eb:(((z.length:Nat):Int) != 0)=false:=by rw [e];rfl
    rw [eb]
    exact hb pins _ σ H1 Q (I1.tok _) q1
  · rw [if_neg e] at q1
    have eb:(((z.length:Nat):Int) != 0)=true:=by simp;omega
    rw [eb]
    exact ⟨.str z,H1,I1.tok _,⟨t,rfl⟩,q1⟩
end
end L2
namespace W7
def wd (ups:List Int) (lab:List Nat):Nat→Nat→List Nat
  | 0,_=>[]
  | f+1,k=>lab.getD k 0 :: (if ups.getD k 0 < 0 then [] else wd ups lab f (ups.getD k 0).toNat)
structure TreeOk (ups:List Int) (lab:List Nat):Prop where
  len:ups.length=lab.length
  pos:0 < ups.length
  most:ups.length≤60
  root:ups.getD 0 0=-1
  up:∀ k,0 < k→k < ups.length→0≤ups.getD k 0∧ups.getD k 0 < (k:Int)
theorem TreeOk.lt {ups:List Int} {lab:List Nat} (t:TreeOk ups lab) {k:Nat} (h:k < ups.length) (h0:¬ ups.getD k 0 < 0):(ups.getD k 0).toNat < k:=by
  rcases Nat.eq_zero_or_pos k with e | e
  · subst e;have:=t.root;omega
  · have:=t.up k e h;omega
theorem TreeOk.neg {ups:List Int} {lab:List Nat} (t:TreeOk ups lab) {k:Nat} (h:k < ups.length):ups.getD k 0 < 0 ↔ ups.getD k 0=-1:=by
  rcases Nat.eq_zero_or_pos k with e | e
  · subst e;have:=t.root;omega
  · have:=t.up k e h;omega
theorem wd_fuel {ups:List Int} {lab:List Nat} (t:TreeOk ups lab):∀ (f g k:Nat),k < ups.length→k < f→k < g→wd ups lab f k=wd ups lab g k
  | 0,_,_,_,h,_=>absurd h (Nat.not_lt_zero _)
  | _+1,0,_,_,_,h=>absurd h (Nat.not_lt_zero _)
  | f+1,g+1,k,hk,hf,hg=>by
    simp only [wd]
    congr 1
    split
    · rfl
    · rename_i h0
      have:=t.lt hk h0
      exact wd_fuel t f g _ (by omega) (by omega) (by omega)
def W (ups:List Int) (lab:List Nat) (k:Nat):List Nat:=wd ups lab (k+1) k
theorem W_eq {ups:List Int} {lab:List Nat} (t:TreeOk ups lab) {k:Nat} (hk:k < ups.length):W ups lab k=lab.getD k 0 :: (if ups.getD k 0 < 0 then [] else W ups lab (ups.getD k 0).toNat):=by
  unfold W
  rw [wd]
  congr 1
  split
  · rfl
  · rename_i h0
    have:=t.lt hk h0
    exact wd_fuel t _ _ _ (by omega) (by omega) (by omega)
theorem W_len {ups:List Int} {lab:List Nat} (t:TreeOk ups lab):∀ (n k:Nat),k < n→k < ups.length→(W ups lab k).length≤k+1
  | 0,_,h,_=>absurd h (Nat.not_lt_zero _)
  | n+1,k,hn,hk=>by
    rw [W_eq t hk]
    split
    · simp
    · rename_i h0
      have:=t.lt hk h0
      have ih:=W_len t n (ups.getD k 0).toNat (by omega) (by omega)
      simp only [List.length_cons]
      omega
def R (ups:List Int) (lab:List Nat) (k:Int):List Nat:=if k < 0 then [] else W ups lab k.toNat
end W7
namespace S65
open PySem L2 W7
def top (i:Nat):Stmt:=PySem.Challenge.pw_upwords_k65_words_that_fit_numbered.main.body.getD i (.Pass ⟨0,0,0,0⟩)
abbrev s_is_whole:Stmt:=top 19
abbrev N_is_whole:List Str:=["thing"]
theorem sc_is_whole:FnScope N_is_whole ["thing"] (defScope s_is_whole):=⟨rfl,rfl,rfl,by decide +kernel,rfl,by decide +kernel,by decide +kernel⟩
abbrev s_is_number_below:Stmt:=top 20
abbrev N_is_number_below:List Str:=["thing", "behind"]
theorem sc_is_number_below:FnScope N_is_number_below ["thing", "behind"] (defScope s_is_number_below):=⟨rfl,rfl,rfl,by decide +kernel,rfl,by decide +kernel,by decide +kernel⟩
abbrev s_is_letters:Stmt:=top 21
abbrev N_is_letters:List Str:=["thing"]
theorem sc_is_letters:FnScope N_is_letters ["thing"] (defScope s_is_letters):=⟨rfl,rfl,rfl,by decide +kernel,rfl,by decide +kernel,by decide +kernel⟩
abbrev s_is_rising:Stmt:=top 22
abbrev N_is_rising:List Str:=["things"]
theorem sc_is_rising:FnScope N_is_rising ["things"] (defScope s_is_rising):=⟨rfl,rfl,rfl,by decide +kernel,rfl,by decide +kernel,by decide +kernel⟩
abbrev s_items_of:Stmt:=top 25
abbrev N_items_of:List Str:=["pattern", "items", "left", "part", "starred"]
theorem sc_items_of:FnScope N_items_of ["pattern"] (defScope s_items_of):=⟨rfl,rfl,rfl,by decide +kernel,rfl,by decide +kernel,by decide +kernel⟩
abbrev s_part_ahead:Stmt:=top 26
abbrev N_part_ahead:List Str:=["text", "halves"]
theorem sc_part_ahead:FnScope N_part_ahead ["text"] (defScope s_part_ahead):=⟨rfl,rfl,rfl,by decide +kernel,rfl,by decide +kernel,by decide +kernel⟩
abbrev s_letters_by:Stmt:=top 27
abbrev N_letters_by:List Str:=["part", "letters"]
theorem sc_letters_by:FnScope N_letters_by ["part"] (defScope s_letters_by):=⟨rfl,rfl,rfl,by decide +kernel,rfl,by decide +kernel,by decide +kernel⟩
abbrev s_words_of:Stmt:=top 29
abbrev N_words_of:List Str:=["tree", "words", "letter", "up"]
theorem sc_words_of:FnScope N_words_of ["tree"] (defScope s_words_of):=⟨rfl,rfl,rfl,by decide +kernel,rfl,by decide +kernel,by decide +kernel⟩
abbrev s_states_with:Stmt:=top 31
abbrev N_states_with:List Str:=["items", "states", "given", "found", "state"]
theorem sc_states_with:FnScope N_states_with ["items", "states"] (defScope s_states_with):=⟨rfl,rfl,rfl,by decide +kernel,rfl,by decide +kernel,by decide +kernel⟩
abbrev s_states_by:Stmt:=top 32
abbrev N_states_by:List Str:=["items", "states", "letter", "going"]
theorem sc_states_by:FnScope N_states_by ["items", "states", "letter"] (defScope s_states_by):=⟨rfl,rfl,rfl,by decide +kernel,rfl,by decide +kernel,by decide +kernel⟩
abbrev s_lengths_fitting:Stmt:=top 33
abbrev N_lengths_fitting:List Str:=["items", "word", "states", "lengths", "ahead", "letter"]
theorem sc_lengths_fitting:FnScope N_lengths_fitting ["items", "word"] (defScope s_lengths_fitting):=⟨rfl,rfl,rfl,by decide +kernel,rfl,by decide +kernel,by decide +kernel⟩
abbrev s_words_fitting:Stmt:=top 34
abbrev N_words_fitting:List Str:=["tree", "pattern", "items", "found", "word"]
theorem sc_words_fitting:FnScope N_words_fitting ["tree", "pattern"] (defScope s_words_fitting):=⟨rfl,rfl,rfl,by decide +kernel,rfl,by decide +kernel,by decide +kernel⟩
abbrev s_many_by:Stmt:=top 35
abbrev N_many_by:List Str:=["tree", "pattern"]
theorem sc_many_by:FnScope N_many_by ["tree", "pattern"] (defScope s_many_by):=⟨rfl,rfl,rfl,by decide +kernel,rfl,by decide +kernel,by decide +kernel⟩
abbrev s_word_by:Stmt:=top 36
abbrev N_word_by:List Str:=["tree", "pattern", "number", "words"]
theorem sc_word_by:FnScope N_word_by ["tree", "pattern", "number"] (defScope s_word_by):=⟨rfl,rfl,rfl,by decide +kernel,rfl,by decide +kernel,by decide +kernel⟩
abbrev s_number_by:Stmt:=top 37
abbrev N_number_by:List Str:=["tree", "pattern", "word", "words"]
theorem sc_number_by:FnScope N_number_by ["tree", "pattern", "word"] (defScope s_number_by):=⟨rfl,rfl,rfl,by decide +kernel,rfl,by decide +kernel,by decide +kernel⟩
abbrev s_law_mixed:Stmt:=top 39
abbrev N_law_mixed:List Str:=["cell", "k", "primes", "one"]
theorem sc_law_mixed:FnScope N_law_mixed ["cell", "k"] (defScope s_law_mixed):=⟨rfl,rfl,rfl,by decide +kernel,rfl,by decide +kernel,by decide +kernel⟩
abbrev s_law_deck:Stmt:=top 40
abbrev N_law_deck:List Str:=["cell", "at"]
theorem sc_law_deck:FnScope N_law_deck ["cell", "at"] (defScope s_law_deck):=⟨rfl,rfl,rfl,by decide +kernel,rfl,by decide +kernel,by decide +kernel⟩
abbrev s_law_draw:Stmt:=top 41
abbrev N_law_draw:List Str:=["deck_here", "many", "drawn"]
theorem sc_law_draw:FnScope N_law_draw ["deck_here", "many"] (defScope s_law_draw):=⟨rfl,rfl,rfl,by decide +kernel,rfl,by decide +kernel,by decide +kernel⟩
abbrev s_law_some:Stmt:=top 42
abbrev N_law_some:List Str:=["deck_here", "things"]
theorem sc_law_some:FnScope N_law_some ["deck_here", "things"] (defScope s_law_some):=⟨rfl,rfl,rfl,by decide +kernel,rfl,by decide +kernel,by decide +kernel⟩
abbrev s_law_letter:Stmt:=top 43
abbrev N_law_letter:List Str:=["deck_here"]
theorem sc_law_letter:FnScope N_law_letter ["deck_here"] (defScope s_law_letter):=⟨rfl,rfl,rfl,by decide +kernel,rfl,by decide +kernel,by decide +kernel⟩
abbrev s_law_tree:Stmt:=top 44
abbrev N_law_tree:List Str:=["deck_here", "most", "many", "way", "own", "signs", "ups", "labels", "k", "road", "up", "at"]
theorem sc_law_tree:FnScope N_law_tree ["deck_here", "most"] (defScope s_law_tree):=⟨rfl,rfl,rfl,by decide +kernel,rfl,by decide +kernel,by decide +kernel⟩
abbrev s_law_words:Stmt:=top 45
abbrev N_law_words:List Str:=["tree_here", "found", "place", "above"]
theorem sc_law_words:FnScope N_law_words ["tree_here"] (defScope s_law_words):=⟨rfl,rfl,rfl,by decide +kernel,rfl,by decide +kernel,by decide +kernel⟩
abbrev s_law_whole:Stmt:=top 46
abbrev N_law_whole:List Str:=["found", "due"]
theorem sc_law_whole:FnScope N_law_whole ["found", "due"] (defScope s_law_whole):=⟨rfl,rfl,rfl,by decide +kernel,rfl,by decide +kernel,by decide +kernel⟩
abbrev s_law_kind:Stmt:=top 47
abbrev N_law_kind:List Str:=["caught", "kinds", "others"]
theorem sc_law_kind:FnScope N_law_kind ["caught"] (defScope s_law_kind):=⟨rfl,rfl,rfl,by decide +kernel,rfl,by decide +kernel,by decide +kernel⟩
abbrev s_law_items:Stmt:=top 48
abbrev N_law_items:List Str:=["deck_here", "word", "most", "every", "found", "k", "more", "here", "own", "inner", "wide", "ways", "letters", "text", "starred"]
theorem sc_law_items:FnScope N_law_items ["deck_here", "word", "most"] (defScope s_law_items):=⟨rfl,rfl,rfl,by decide +kernel,rfl,by decide +kernel,by decide +kernel⟩
abbrev s_law_written:Stmt:=top 49
abbrev N_law_written:List Str:=["items_here"]
theorem sc_law_written:FnScope N_law_written ["items_here"] (defScope s_law_written):=⟨rfl,rfl,rfl,by decide +kernel,rfl,by decide +kernel,by decide +kernel⟩
abbrev s_law_taken:Stmt:=top 50
abbrev N_law_taken:List Str:=["items_here", "word", "found", "text", "letters", "starred", "behind", "at", "good"]
theorem sc_law_taken:FnScope N_law_taken ["items_here", "word"] (defScope s_law_taken):=⟨rfl,rfl,rfl,by decide +kernel,rfl,by decide +kernel,by decide +kernel⟩
abbrev s_law_refused:Stmt:=top 51
abbrev N_law_refused:List Str:=["way", "tree_here", "pattern", "thing", "word_here", "e"]
theorem sc_law_refused:FnScope N_law_refused ["way", "tree_here", "pattern", "thing"] (defScope s_law_refused):=⟨rfl,rfl,rfl,by decide +kernel,rfl,by decide +kernel,by decide +kernel⟩
abbrev s_law_fitting_words:Stmt:=top 52
abbrev N_law_fitting_words:List Str:=["words_here", "items_here", "every", "fit", "word", "length", "good"]
theorem sc_law_fitting_words:FnScope N_law_fitting_words ["words_here", "items_here"] (defScope s_law_fitting_words):=⟨rfl,rfl,rfl,by decide +kernel,rfl,by decide +kernel,by decide +kernel⟩
abbrev s_law:Stmt:=top 53
abbrev N_law:List Str:=["script", "at", "cell", "deck_here", "places", "many", "tree_here", "words_here", "items_here", "pattern", "every", "due", "k", "found", "odd", "alone", "word"]
theorem sc_law:FnScope N_law ["script"] (defScope s_law):=⟨rfl,rfl,rfl,by decide +kernel,rfl,by decide +kernel,by decide +kernel⟩
section
variable {P:Program} {w:World} {K:PySem.W.Frag} {mg:Str→Option Value} {base:Heap} {k:Nat}
def mk (l:List Nat):Str:=⟨l.toArray⟩
theorem mk_cps (l:List Nat):(mk l).cps.toList=l:=rfl
theorem mk_len (l:List Nat):(mk l).length=l.length:=by simp [mk,Str.length]
theorem str_ext {a b:Str} (h:a.cps.toList=b.cps.toList):a=b:=by
  obtain ⟨x⟩:=a;obtain ⟨y⟩:=b
  have:x=y:=Array.toList_inj.mp h
  rw [this]
theorem mk_app (c:Nat) (l:List Nat):(⟨#[c]⟩:Str)++mk l=mk (c :: l):=by
  apply str_ext
  rw [app_list]
  rfl
def TreeAt (H:Hp) (t:Addr) (ups:List Int) (lab:Str):Prop:=∃ u,H t=some (.tup [.ref u,.str lab])∧H u=some (.tup (ups.map V.int))∧TreeOk ups lab.cps.toList
theorem TreeAt.same {H H':Hp} {t:Addr} {ups:List Int} {lab:Str} (h:TreeAt H t ups lab) (s:Same H H'):TreeAt H' t ups lab:=by
  obtain ⟨u,a,b,c⟩:=h
  exact ⟨u,s _ _ a,s _ _ b,c⟩
def wordsV (ups:List Int) (lab:Str) (n:Nat):List V:=(List.range n).map fun j=>.str (mk (W ups lab.cps.toList j))
def sp_words:Sp:=fun vs H Q _=>∃ (t:Addr) (ups:List Int) (lab:Str),vs=[.ref t]∧TreeAt H t ups lab∧∀ (q:Addr) (H':Hp),Same H H'→H' q=some (.lst (wordsV ups lab ups.length))→Q (.ref q) H'
theorem has_words (D:Df K mg "words_of" s_words_of) (B:Blt mg):Has P w K mg base "words_of" (k+1) ["tree"] sp_words:=by
  refine D.has sc_words_of (fun _ _ _ _ _ _=>ar1 fun _=>rfl) (fun vs H Q E h=>by obtain ⟨t,ups,lab,rfl,_⟩:=h;rfl) (fun f cdv A outer s H vs Q E hr h=>?_)
  obtain ⟨t,ups,lab,rfl,⟨u,ht,hu,ok⟩,q⟩:=h
  refine ⟨_,(pss_cons (ps_set (i:=1) sc_words_of.nd rfl (by first | exact Or.inl rfl | exact Or.inr rfl) (pe_lst pa_nil))
  (pss_cons (ps_for PassesOwn.never rfl (pi_zip rfl B.zip (pa_cons (pe_ix ix_tup (pv 0) pe_int (fun _ _=>rfl)) (pa_cons (pe_ix ix_tup (pv 0) pe_int (fun _ _=>rfl)) pa_nil))) (pg_tup rfl (pgs_cons (pg_name (i:=2) sc_words_of.nd rfl (by first | exact Or.inl rfl | exact Or.inr rfl)) (pgs_cons (pg_name (i:=3) sc_words_of.nd rfl (by first | exact Or.inl rfl | exact Or.inr rfl)) pgs_nil)))
  (pss_one (ps_expr (pe_bm PySem.F.plainAttrs_list PySem.F.slot_list_append PySem.F.type_list_append mt_append (pv 1) (pa_cons (pe_ifExp (pt_cmpR op_eq (pv 3) (pe_un un_neg pe_int) (nomark _)) (pv 2) (pe_op op_add_str (pv 2) (pe_ix ix_list (pv 1) (pv 3) (fun _ _=>rfl)))) pa_nil)))))
  (pss_one (ps_ret (pv 1))))),?_⟩
  first | (dsimp only [cxOf,Cx.nox];generalize hK:K=K';revert K' hK;refine seqK (seqE <| seqE <| fun _=>rfl) ?_) | skip
  have hlen:(signs lab).length=(ups.map V.int).length:=by rw [List.length_map,ok.len];simp [signs]
  refine ⟨(by show 0≤sizeLine;decide),fun r hr0=>?_⟩
  have s0:Same H (upd H r (.lst [])):=(Same.refl H).new hr0
  refine ⟨_,rfl,t,_,_,_,rfl,rfl,SqT.of (s0 _ _ ht),rfl,_,rfl,t,_,_,_,rfl,rfl,SqT.of (s0 _ _ ht),rfl,.str lab,.tup u,rfl,⟨_,rfl⟩,⟨_,.inl (s0 _ _ hu)⟩,?_⟩
  refine for_zip (xs:=signs lab) (ys:=ups.map V.int) (fun i σ H'=>∃ o1 o2:Option V,σ=[some (.ref t),some (.ref r),o1,o2]∧Same H H'∧H' r=some (.lst (wordsV ups lab i))) ⟨none,none,rfl,s0,upd_same⟩ hlen
    (fun i σ H' hi h=>by obtain ⟨o1,o2,_,s1,_⟩:=h;exact ⟨rfl,.inl (s1 _ _ hu)⟩) ?_ ?_
  · rintro i x y σ H' p hx hy ⟨o1,o2,rfl,s1,hr1⟩ hp
    obtain ⟨c,hc,rfl⟩:∃ c,lab.cps.toList[i]?=some c∧x=.str ⟨#[c]⟩:=by
      simp only [signs,List.getElem?_map] at hx
      cases e:lab.cps.toList[i]? with
      | none=>rw [e] at hx;cases hx
      | some c=>rw [e] at hx;exact ⟨c,rfl,(Option.some.inj hx).symm⟩
    obtain ⟨v,hv,rfl⟩:∃ v,ups[i]?=some v∧y=.int v:=by
      simp only [List.getElem?_map] at hy
      cases e:ups[i]? with
      | none=>rw [e] at hy;cases hy
      | some v=>rw [e] at hy;exact ⟨v,rfl,(Option.some.inj hy).symm⟩
    have hi:i < ups.length:=(List.getElem?_eq_some_iff.mp hv).1
    have ev:ups.getD i 0=v:=by rw [List.getD_eq_getElem?_getD,hv];rfl
    have ec:lab.cps.toList.getD i 0=c:=by rw [List.getD_eq_getElem?_getD,hc];rfl
    have hm:=ok.most
    have s2:Same H (upd H' p (.tup [.str ⟨#[c]⟩,.int v])):=s1.new hp
    have hr2:upd H' p (.tup [.str ⟨#[c]⟩,.int v]) r=some (.lst (wordsV ups lab i)):=by rw [upd_ne (ne_of_none hr1 hp)];exact hr1
    have wl:(wordsV ups lab i).length=i:=by simp [wordsV]
    have step:wordsV ups lab (i+1)=wordsV ups lab i++[.str (mk (W ups lab.cps.toList i))]:=by
      unfold wordsV
      rw [List.range_succ,List.map_append];rfl
    refine ⟨p,_,rfl,SqT.of upd_same,rfl,_,_,rfl,_,_,rfl,rfl,?_⟩
    refine ⟨_,rfl,.inl ⟨rfl,_,SqL.of hr2⟩,_,rfl,_,rfl,rfl,_,rfl,ite2 (fun cnd=>?_) (fun cnd=>?_)⟩
    · have e1:V.int v=V.int (-1):=of_decide_eq_true cnd
      have e2:v=-1:=by injection e1
      have ew:W ups lab.cps.toList i=[c]:=by rw [W_eq ok hi,ev,ec,if_pos (by omega)]
      refine ⟨_,rfl,r,_,_,rfl,rfl,hr2,by rw [wl];exact small1000 (by omega),⟨_,_,rfl,s2.write hr0,?_⟩⟩
      rw [upd_same,step,ew]
      rfl
    · have e1:¬ V.int v=V.int (-1):=of_decide_eq_false (Bool.eq_false_iff.mpr cnd)
      have e2:v≠-1:=fun z=>e1 (by rw [z])
      have e3:¬ v < 0:=by
        have:=ok.neg hi
        rw [ev] at this
        omega
      have lt:=ok.lt hi (by rw [ev];exact e3)
      rw [ev] at lt
      have hat:atI (wordsV ups lab i) v=some (.str (mk (W ups lab.cps.toList v.toNat))):=by
        have e:atI (wordsV ups lab i) ((v.toNat:Nat):Int)=some (.str (mk (W ups lab.cps.toList v.toNat))):=atI_nat (by
          unfold wordsV
          rw [List.getElem?_map,List.getElem?_range lt];rfl)
        rw [show ((v.toNat:Nat):Int)=v by omega] at e
        exact e
      have wle:=W_len ok (v.toNat+1) v.toNat (by omega) (by omega)
      have ew:W ups lab.cps.toList i=c :: W ups lab.cps.toList v.toNat:=by rw [W_eq ok hi,ev,ec,if_neg e3]
      refine ⟨_,rfl,_,rfl,_,rfl,r,_,_,_,rfl,rfl,SqL.of hr2,hat,_,_,rfl,rfl,?_,r,_,_,rfl,rfl,hr2,by rw [wl];exact small1000 (by omega),⟨_,_,rfl,s2.write hr0,?_⟩⟩
      · rw [mk_len]
        have:(⟨#[c]⟩:Str).length=1:=rfl
        rw [this]
        exact Nat.le_of_lt (small1000 (by omega))
      · rw [upd_same,step,ew,mk_app]
  · rintro σ H' ⟨o1,o2,rfl,s1,hr1⟩
    refine ⟨_,rfl,q r H' s1 ?_⟩
    rw [hr1]
    congr 2
    simp [signs,ok.len]
theorem ints_at {us:List Int} {i:Int} (h0:0≤i) (h1:i < (us.length:Int)):atI (us.map V.int) i=some (.int (us.getD i.toNat 0)):=by
  have hk:i.toNat < us.length:=by omega
  have e:=atI_nat (xs:=us.map V.int) (j:=i.toNat) (v:=.int (us.getD i.toNat 0)) (by rw [List.getElem?_map,List.getElem?_eq_getElem hk,List.getD_eq_getElem?_getD,List.getElem?_eq_getElem hk];rfl)
  rw [show ((i.toNat:Nat):Int)=i by omega] at e
  exact e
abbrev Lw (c:Nat):Prop:=97≤c∧c < 123
theorem abc_low:∀ c∈(Str.ofString "abcdefghijklmnopqrstuvwxyz").cps.toList,Lw c:=by decide +kernel
theorem alph_at {i:Int} (h0:0≤i) (h1:i < 26):∃ c,atI (Str.ofString "abcdefghijklmnopqrstuvwxyz").cps.toList i=some c∧Lw c:=by
  have hl:(Str.ofString "abcdefghijklmnopqrstuvwxyz").cps.toList.length=26:=by decide +kernel
  have hk:i.toNat < (Str.ofString "abcdefghijklmnopqrstuvwxyz").cps.toList.length:=by omega
  have e:=atI_nat (xs:=(Str.ofString "abcdefghijklmnopqrstuvwxyz").cps.toList) (j:=i.toNat) (List.getElem?_eq_getElem hk)
  rw [show ((i.toNat:Nat):Int)=i by omega] at e
  exact ⟨_,e,abc_low _ (List.getElem_mem hk)⟩
structure GrOk (us:List Int):Prop where
  pos:0 < us.length
  root:us.getD 0 0=-1
  up:∀ k,0 < k→k < us.length→0≤us.getD k 0∧us.getD k 0 < (k:Int)
theorem getD_app {us vs:List Int} {j:Nat}:(us++vs).getD j 0=if j < us.length then us.getD j 0 else vs.getD (j - us.length) 0:=by
  simp only [List.getD_eq_getElem?_getD]
  split
  · rename_i h;rw [List.getElem?_append_left h]
  · rename_i h;rw [List.getElem?_append_right (by omega)]
theorem GrOk.snoc {us:List Int} (g:GrOk us) {v:Int} (h0:0≤v) (h1:v < (us.length:Int)):GrOk (us++[v]) where
  pos:=by rw [List.length_append];have:=g.pos;omega
  root:=by rw [getD_app,if_pos g.pos];exact g.root
  up:=fun j hj hl=>by
    rw [List.length_append,List.length_singleton] at hl
    rw [getD_app]
    split
    · rename_i h;exact g.up j hj h
    · rename_i h
      have e:j=us.length:=by omega
      subst e
      rw [Nat.sub_self]
      exact ⟨h0,h1⟩
theorem GrOk.one:GrOk [-1]:=⟨by decide,rfl,fun j h0 h1=>by
  have:j < 1:=h1
  omega⟩
theorem mem_getD {us:List Int} {j:Nat} (h:j < us.length):us.getD j 0∈us:=by
  rw [List.getD_eq_getElem?_getD,List.getElem?_eq_getElem h]
  exact List.getElem_mem h
theorem TreeAt.kd {H H':Hp} {p t:Addr} {c d:Int} {ups:List Int} {lab:Str} (h:TreeAt H t ups lab) (hp:Deck H p c) (s:Kd p d H H'):TreeAt H' t ups lab:=by
  obtain ⟨u,a,b,e⟩:=h
  exact ⟨u,s.keep _ _ (ne_deck hp a (fun _ _ _ z=>nomatch z)) a,s.keep _ _ (ne_deck hp b (fun _ _ _ z=>nomatch z)) b,e⟩
theorem menu7 {n:Int} (h0:0≤n) (h1:n < 7):∃ v:Int,atI [V.int 2147483629,.int 2147483587,.int 2147483579,.int 2147483563,.int 2147483549,.int 2147483543,.int 2147483497] n=some (.int v)∧0 < v∧v≤2147483629:=by
  have:n=0∨n=1∨n=2∨n=3∨n=4∨n=5∨n=6:=by omega
  rcases this with rfl | rfl | rfl | rfl | rfl | rfl | rfl <;> exact ⟨_,rfl,by decide,by decide⟩
def sp_mixed:Sp:=fun vs H Q _=>∃ cell j:Int,vs=[.int cell,.int j]∧0≤j∧j≤10000000∧∀ (n:Int) (H':Hp),Same H H'→Q (.int n) H'
theorem has_mixed (D:Df K mg "_law_mixed" s_law_mixed) (B:Blt mg):Has P w K mg base "_law_mixed" (k+1) ["cell", "k"] sp_mixed:=by
  refine D.has sc_law_mixed (fun _ _ _ _ _ _=>ar2 fun _ _=>rfl) (fun vs H Q E h=>by obtain ⟨a,i,rfl,_⟩:=h;rfl) (fun f cdv A outer s H vs Q E hr h=>?_)
  obtain ⟨cell,j,rfl,j0,j1,q⟩:=h
  refine ⟨_,(pss_cons (ps_set (i:=2) sc_law_mixed.nd rfl (by first | exact Or.inl rfl | exact Or.inr rfl) (pe_lst (pa_cons pe_int (pa_cons pe_int (pa_cons pe_int (pa_cons pe_int (pa_cons pe_int (pa_cons pe_int (pa_cons pe_int pa_nil)))))))))
  (pss_cons (ps_set (i:=3) sc_law_mixed.nd rfl (by first | exact Or.inl rfl | exact Or.inr rfl) (pe_op op_mod (pe_op op_add (pe_op op_add (pe_op op_mul (pe_op op_mod (pv 0) pe_int) (pe_op op_add (pe_op op_mul pe_int (pv 1)) pe_int)) (pe_op op_mul pe_int (pv 1))) pe_int) (pe_ix ix_list (pv 2) (pe_op op_mod (pv 1) pe_int) (fun _ _=>rfl))))
  (pss_cons (ps_set (i:=3) sc_law_mixed.nd rfl (by first | exact Or.inl rfl | exact Or.inr rfl) (pe_op op_mod (pe_op op_mul (pv 3) (pv 3)) (pe_ix ix_list (pv 2) (pe_op op_mod (pe_op op_add (pv 1) pe_int) pe_int) (fun _ _=>rfl))))
  (pss_cons (ps_set (i:=3) sc_law_mixed.nd rfl (by first | exact Or.inl rfl | exact Or.inr rfl) (pe_op op_mod (pe_op op_pow (pe_op op_add (pe_op op_add (pe_op op_mul (pv 3) pe_int) (pe_op op_mul pe_int (pv 1))) pe_int) pe_int) (pe_ix ix_list (pv 2) (pe_op op_mod (pe_op op_add (pv 1) pe_int) pe_int) (fun _ _=>rfl))))
  (pss_one (ps_ret (pe_op op_fdiv (pv 3) pe_int))))))),?_⟩
  first | (dsimp only [cxOf,Cx.nox];generalize hK:K=K';revert K' hK;refine seqK (seqE <| seqE <| seqE <| seqE <| fun _=>rfl) ?_) | skip
  refine ⟨(by show 7≤sizeLine;decide),fun r hr0=>?_⟩
  have hp:upd H r (.lst [V.int 2147483629,.int 2147483587,.int 2147483579,.int 2147483563,.int 2147483549,.int 2147483543,.int 2147483497]) r=_:=upd_same
  have s0:Same H (upd H r (.lst [V.int 2147483629,.int 2147483587,.int 2147483579,.int 2147483563,.int 2147483549,.int 2147483543,.int 2147483497])):=(Same.refl H).new hr0
  generalize upd H r (.lst [V.int 2147483629,.int 2147483587,.int 2147483579,.int 2147483563,.int 2147483549,.int 2147483543,.int 2147483497])=H1 at hp s0
  have m0:0≤cell % 2147483647:=Int.emod_nonneg _ (by decide)
  have m1:cell % 2147483647 < 2147483647:=Int.emod_lt_of_pos _ (by decide)
  obtain ⟨v1,hv1,a0,a1⟩:=menu7 (n:=j % 7) (Int.emod_nonneg _ (by decide)) (Int.emod_lt_of_pos _ (by decide))
  refine ⟨_,rfl,_,_,rfl,rfl,(by decide:(0:Int) < 2147483647),_,rfl,_,_,rfl,rfl,.inl ⟨by decide,by decide⟩,_,_,rfl,rfl,_,_,rfl,rfl,.inl ⟨by omega,by omega⟩,_,rfl,_,_,rfl,rfl,.inl ⟨by decide,by decide⟩,_,_,rfl,rfl,_,_,rfl,rfl,
    _,rfl,_,rfl,_,_,rfl,rfl,(by decide:(0:Int) < 7),r,_,_,_,rfl,rfl,SqL.of hp,hv1,_,_,rfl,rfl,a0,?_⟩
  have b0:=Int.emod_nonneg (cell % 2147483647 * (2 * j+3)+104729 * j+977) (show v1≠0 by omega)
  have b1:=Int.emod_lt_of_pos (cell % 2147483647 * (2 * j+3)+104729 * j+977) a0
  obtain ⟨v2,hv2,c0,c1⟩:=menu7 (n:=(j+3) % 7) (Int.emod_nonneg _ (by decide)) (Int.emod_lt_of_pos _ (by decide))
  refine ⟨_,rfl,_,rfl,_,_,rfl,rfl,.inl ⟨by omega,by omega⟩,_,rfl,_,rfl,_,_,rfl,rfl,_,_,rfl,rfl,(by decide:(0:Int) < 7),r,_,_,_,rfl,rfl,SqL.of hp,hv2,_,_,rfl,rfl,c0,?_⟩
  have d0:=Int.emod_nonneg ((cell % 2147483647 * (2 * j+3)+104729 * j+977) % v1 * ((cell % 2147483647 * (2 * j+3)+104729 * j+977) % v1)) (show v2≠0 by omega)
  have d1:=Int.emod_lt_of_pos ((cell % 2147483647 * (2 * j+3)+104729 * j+977) % v1 * ((cell % 2147483647 * (2 * j+3)+104729 * j+977) % v1)) c0
  obtain ⟨v3,hv3,e0,e1⟩:=menu7 (n:=(j+5) % 7) (Int.emod_nonneg _ (by decide)) (Int.emod_lt_of_pos _ (by decide))
  refine ⟨_,rfl,_,_,rfl,rfl,.inr ⟨by decide,by decide⟩,_,rfl,_,_,rfl,rfl,.inl ⟨by decide,by decide⟩,_,_,rfl,rfl,_,_,rfl,rfl,_,_,rfl,rfl,⟨by decide,by decide,by omega⟩,_,rfl,_,rfl,_,_,rfl,rfl,_,_,rfl,rfl,(by decide:(0:Int) < 7),r,_,_,_,rfl,rfl,SqL.of hp,hv3,_,_,rfl,rfl,e0,?_⟩
  exact ⟨_,rfl,_,_,rfl,rfl,⟨by decide,by decide⟩,q _ _ s0⟩
def sp_deck:Sp:=fun vs H Q _=>∃ cell i:Int,vs=[.int cell,.int i]∧∀ (p:Addr) (x y:Int),H p=none→Q (.ref p) (upd H p (.lst [.int x,.int y,.int (40 * i)]))
theorem has_deck (D:Df K mg "_law_deck" s_law_deck) (B:Blt mg):Has P w K mg base "_law_deck" (k+1) ["cell", "at"] sp_deck:=by
  refine D.has sc_law_deck (fun _ _ _ _ _ _=>ar2 fun _ _=>rfl) (fun vs H Q E h=>by obtain ⟨a,i,rfl,_⟩:=h;rfl) (fun f cdv A outer s H vs Q E hr h=>?_)
  obtain ⟨cell,i,rfl,q⟩:=h
  refine ⟨_,(pss_one (ps_ret (pe_lst (pa_cons (pe_op op_mul (pv 0) (pe_callTy call_int1 rfl B.int_ bt_int (pa_cons (pe_cmpR op_ge (pv 0) (pe_op op_pow pe_int pe_int) (nomark _)) pa_nil))) (pa_cons (pv 0) (pa_cons (pe_op op_mul pe_int (pv 1)) pa_nil)))))),?_⟩
  refine ⟨_,rfl,_,rfl,_,_,rfl,rfl,⟨by decide,by decide,by decide⟩,_,_,rfl,rfl,.inr ⟨_,rfl,?_⟩⟩
  refine ⟨_,_,rfl,rfl,.inr ⟨?_,?_⟩,_,rfl,_,rfl,_,_,rfl,rfl,.inl ⟨by decide,by decide⟩,(by show 3≤sizeLine;decide),fun p hp=>q p _ _ hp⟩
  · split <;> decide
  · split <;> decide
def sp_draw:Sp:=fun vs H Q _=>∃ (p:Addr) (m c:Int),vs=[.ref p,.int m]∧Deck H p c∧c < 1000000∧0 < m∧m < 1073741824∧∀ (n:Int) (H':Hp),0≤n→n < m→Kd p (c+1) H H'→Q (.int n) H'
theorem has_draw (D:Df K mg "_law_draw" s_law_draw) (B:Blt mg) (G_law_mixed:Has P w K mg base "_law_mixed" k ["cell", "k"] sp_mixed):Has P w K mg base "_law_draw" (k+1) ["deck_here", "many"] sp_draw:=by
  refine D.has sc_law_draw (fun _ _ _ _ _ _=>ar2 fun _ _=>rfl) (fun vs H Q E h=>by obtain ⟨a,i,c,rfl,_⟩:=h;rfl) (fun f cdv A outer s H vs Q E hr h=>?_)
  obtain ⟨p,m,c,rfl,⟨x,y,z,hp,z0,z1⟩,c6,m0,m1,q⟩:=h
  refine ⟨_,(pss_cons (ps_if (pt_cmpR op_gt (pe_ix ix_list (pv 0) pe_int (fun _ _=>rfl)) pe_int (nomark _))
  (pss_cons (ps_set (i:=2) sc_law_draw.nd rfl (by first | exact Or.inl rfl | exact Or.inr rfl) (pe_op op_mod (pe_ix ix_list (pv 0) pe_int (fun _ _=>rfl)) (pv 1)))
  (pss_cons (ps_asg (pe_op op_fdiv (pe_ix ix_list (pv 0) pe_int (fun _ _=>rfl)) (pv 1)) (pg_sub (pv 0) pe_int set_list))
  (pss_one (ps_ret (pv 2)))))
  pss_nil)
  (pss_cons (ps_asg (pe_op op_add (pe_ix ix_list (pv 0) pe_int (fun _ _=>rfl)) pe_int) (pg_sub (pv 0) pe_int set_list))
  (pss_one (ps_ret (pe_op op_mod (pe_callH G_law_mixed hr rfl (pa_cons (pe_ix ix_list (pv 0) pe_int (fun _ _=>rfl)) (pa_cons (pe_ix ix_list (pv 0) pe_int (fun _ _=>rfl)) pa_nil))) (pv 1)))))),?_⟩
  first | (dsimp only [cxOf,Cx.nox];generalize hK:K=K';revert K' hK;refine seqK (seqE <| seqE <| fun _=>rfl) ?_) | skip
  refine ⟨_,rfl,p,_,_,_,rfl,rfl,SqL.of hp,rfl,_,_,rfl,rfl,_,rfl,ite2 (fun cnd=>?_) (fun cnd=>?_)⟩
  · refine ⟨_,rfl,p,_,_,_,rfl,rfl,SqL.of hp,rfl,_,rfl,_,_,rfl,rfl,m0,?_⟩
    refine ⟨_,rfl,p,_,_,_,rfl,rfl,SqL.of hp,rfl,_,rfl,_,_,rfl,rfl,⟨m0,m1⟩,?_⟩
    refine ⟨_,rfl,p,_,_,0,rfl,rfl,hp,rfl,_,rfl,?_⟩
    exact q _ _ (Int.emod_nonneg _ (by omega)) (Int.emod_lt_of_pos _ m0) ⟨⟨_,y,z,upd_same,z0,by omega⟩,fun b o hb e=>by rw [upd_ne hb];exact e⟩
  · refine ⟨_,rfl,p,_,_,_,rfl,rfl,SqL.of hp,rfl,_,_,rfl,rfl,?_⟩
    refine ⟨_,rfl,p,_,_,2,rfl,rfl,hp,rfl,?_⟩
    have hp':upd H p (.lst [.int x,.int y,.int (z+1)]) p=some (.lst [.int x,.int y,.int (z+1)]):=upd_same
    have kd:Kd p (c+1) H (upd H p (.lst [.int x,.int y,.int (z+1)])):=⟨⟨x,y,z+1,upd_same,by omega,by omega⟩,fun b o hb e=>by rw [upd_ne hb];exact e⟩
    refine ⟨_,rfl,p,_,_,_,rfl,rfl,SqL.of hp',rfl,_,rfl,p,_,_,_,rfl,rfl,SqL.of hp',rfl,_,_,rfl,by omega,by omega,fun n H' s1=>?_⟩
    refine ⟨_,rfl,_,_,rfl,rfl,m0,?_⟩
    exact q _ _ (Int.emod_nonneg _ (by omega)) (Int.emod_lt_of_pos _ m0) (kd.same s1)
def sp_some:Sp:=fun vs H Q _=>∃ (p:Addr) (c:Int),Deck H p c∧c < 1000000 ∧
  ((∃ (q:Addr) (xs:List V),vs=[.ref p,.ref q]∧H q=some (.lst xs)∧q≠p∧0 < xs.length∧xs.length≤1000∧∀ (v:V) (H':Hp),v∈xs→Kd p (c+1) H H'→Q v H') ∨
   (∃ z:Str,vs=[.ref p,.str z]∧0 < z.length∧z.length≤1000∧∀ (ch:Nat) (H':Hp),ch∈z.cps.toList→Kd p (c+1) H H'→Q (.str ⟨#[ch]⟩) H'))
theorem has_some (D:Df K mg "_law_some" s_law_some) (B:Blt mg) (G_law_draw:Has P w K mg base "_law_draw" k ["deck_here", "many"] sp_draw):Has P w K mg base "_law_some" (k+1) ["deck_here", "things"] sp_some:=by
  refine D.has sc_law_some (fun _ _ _ _ _ _=>ar2 fun _ _=>rfl) (fun vs H Q E h=>by obtain ⟨p,c,_,_,⟨q,xs,rfl,_⟩ | ⟨z,rfl,_⟩⟩:=h <;> rfl) (fun f cdv A outer s H vs Q E hr h=>?_)
  obtain ⟨p,c,hd,c6,⟨r,xs,rfl,hr0,hne,x0,x1,q⟩ | ⟨z,rfl,z0,z1,q⟩⟩:=h
  · refine ⟨_,(pss_one (ps_ret (pe_ix ix_seq (pv 1) (pe_callH G_law_draw hr rfl (pa_cons (pv 0) (pa_cons (pe_callB call_len rfl B.len bt_len (pa_cons (pv 1) pa_nil)) pa_nil))) (fun _ _=>rfl)))),?_⟩
    refine ⟨_,rfl,_,rfl,_,rfl,_,_,rfl,.inl ⟨_,SqL.of hr0,rfl⟩,p,_,c,rfl,hd,c6,by omega,by omega,fun n H' n0 n1 kd=>?_⟩
    have hk:n.toNat < xs.length:=by omega
    have e:=atI_nat (xs:=xs) (j:=n.toNat) (List.getElem?_eq_getElem hk)
    rw [show ((n.toNat:Nat):Int)=n by omega] at e
    exact .inl ⟨r,_,_,_,rfl,rfl,SqL.of (kd.keep _ _ hne hr0),e,q _ _ (List.getElem_mem hk) kd⟩
  · refine ⟨_,(pss_one (ps_ret (pe_ix ix_seq (pv 1) (pe_callH G_law_draw hr rfl (pa_cons (pv 0) (pa_cons (pe_callB call_len rfl B.len bt_len (pa_cons (pv 1) pa_nil)) pa_nil))) (fun _ _=>rfl)))),?_⟩
    refine ⟨_,rfl,_,rfl,_,rfl,_,_,rfl,⟨Nat.le_of_lt (small1000 z1),rfl⟩,p,_,c,rfl,hd,c6,by omega,by omega,fun n H' n0 n1 kd=>?_⟩
    have hzl:z.length=z.cps.toList.length:=by simp [Str.length]
    have hk:n.toNat < z.cps.toList.length:=by omega
    have e:=atI_nat (xs:=z.cps.toList) (j:=n.toNat) (List.getElem?_eq_getElem hk)
    rw [show ((n.toNat:Nat):Int)=n by omega] at e
    exact .inr (.inr ⟨_,_,_,rfl,rfl,Nat.le_of_lt (small1000 z1),e,q _ _ (List.getElem_mem hk) kd⟩)
def sp_letter:Sp:=fun vs H Q _=>∃ (p:Addr) (c:Int),vs=[.ref p]∧Deck H p c∧c < 1000000∧∀ (ch:Nat) (H':Hp),Lw ch→Kd p (c+1) H H'→Q (.str ⟨#[ch]⟩) H'
theorem has_letter (D:Df K mg "_law_letter" s_law_letter) (B:Blt mg) (G_law_draw:Has P w K mg base "_law_draw" k ["deck_here", "many"] sp_draw):Has P w K mg base "_law_letter" (k+1) ["deck_here"] sp_letter:=by
  refine D.has sc_law_letter (fun _ _ _ _ _ _=>ar1 fun _=>rfl) (fun vs H Q E h=>by obtain ⟨p,c,rfl,_⟩:=h;rfl) (fun f cdv A outer s H vs Q E hr h=>?_)
  obtain ⟨p,c,rfl,hd,c6,q⟩:=h
  refine ⟨_,(pss_one (ps_ret (pe_ix ix_str pe_str (pe_callH G_law_draw hr rfl (pa_cons (pv 0) (pa_cons pe_int pa_nil))) (fun _ _=>rfl)))),?_⟩
  refine ⟨_,rfl,p,26,c,rfl,hd,c6,by decide,by decide,fun n H' n0 n1 kd=>?_⟩
  obtain ⟨ch,hc,lw⟩:=alph_at n0 n1
  refine ⟨_,_,_,rfl,rfl,?_,hc,q _ _ lw kd⟩
  show (Str.ofString "abcdefghijklmnopqrstuvwxyz").length≤sizeLine
  have:(Str.ofString "abcdefghijklmnopqrstuvwxyz").length=26:=by decide +kernel
  rw [this];decide
end
end S65
namespace S65
open PySem L2 W7
section
variable {P:Program} {w:World} {K:PySem.W.Frag} {mg:Str→Option Value} {base:Heap} {k:Nat}
theorem lst_strs_ne {xs:List V} (h:∀ v∈xs,∃ z,v=.str z) (h0:0 < xs.length):∀ x y z:Int,HO.lst xs≠.lst [.int x,.int y,.int z]:=by
  intro x y z e
  injection e with e
  subst e
  obtain ⟨z,hz⟩:=h (.int x) (by simp)
  cases hz
theorem foldl_memN (xs:Array Nat) (P:Nat→Prop) (h:∀ a∈xs.toList,P a):∀ (n:Nat) (acc:Array Nat),(∀ a∈acc.toList,P a)→∀ a∈((List.replicate n xs).foldl (·++·) acc).toList,P a
  | 0,acc,g=>g
  | n+1,acc,g=>by
    rw [List.replicate_succ,List.foldl_cons]
    refine foldl_memN xs P h n _ fun a ha=>?_
    rw [Array.toList_append] at ha
    exact (List.mem_append.mp ha).elim (g a) (h a)
theorem mul_low {ch:Nat} (h:Lw ch) (n:Int):∀ a∈(Txt.mul ⟨#[ch]⟩ n).cps.toList,Lw a:=by
  have one:∀ a∈(#[ch]:Array Nat).toList,Lw a:=fun a ha=>by rw [show a=ch by simpa using ha];exact h
  unfold Txt.mul
  split
  · exact fun a ha=>by cases ha
  · split
    · exact one
    · exact foldl_memN _ _ one _ _ fun a ha=>by cases ha
def sp_tree:Sp:=fun vs H Q _=>∃ (p:Addr) (most c:Int),vs=[.ref p,.int most]∧Deck H p c∧0≤c∧c < 900000∧1≤most∧most≤60∧∀ (t:Addr) (ups:List Int) (lab:Str) (H':Hp),Kd p (c+250) H H'→TreeAt H' t ups lab→(∀ x∈lab.cps.toList,Lw x)→(ups.length:Int)≤most→Q (.ref t) H'
theorem has_tree (D:Df K mg "_law_tree" s_law_tree) (B:Blt mg) (G_law_draw:Has P w K mg base "_law_draw" k ["deck_here", "many"] sp_draw) (G_law_some:Has P w K mg base "_law_some" k ["deck_here", "things"] sp_some)
    (G_law_letter:Has P w K mg base "_law_letter" k ["deck_here"] sp_letter):Has P w K mg base "_law_tree" (k+1) ["deck_here", "most"] sp_tree:=by
  refine D.has sc_law_tree (fun _ _ _ _ _ _=>ar2 fun _ _=>rfl) (fun vs H Q E h=>by obtain ⟨p,m,c,rfl,_⟩:=h;rfl) (fun f cdv A outer s H vs Q E hr h=>?_)
  obtain ⟨p,most,c,rfl,hd,cc0,cc1,ms1,ms60,q⟩:=h
  refine ⟨_,(pss_cons (ps_set (i:=2) sc_law_tree.nd rfl (by first | exact Or.inl rfl | exact Or.inr rfl) (pe_callH G_law_some hr rfl (pa_cons (pv 0) (pa_cons (pe_lst (pa_cons (pe_op op_add pe_int (pe_callH G_law_draw hr rfl (pa_cons (pv 0) (pa_cons (pv 1) pa_nil)))) (pa_cons (pe_op op_add pe_int (pe_callH G_law_draw hr rfl (pa_cons (pv 0) (pa_cons (pe_callB (call_min2 rfl) rfl B.min bt_min (pa_cons (pv 1) (pa_cons pe_int pa_nil))) pa_nil)))) (pa_cons (pv 1) pa_nil)))) pa_nil))))
  (pss_cons (ps_set (i:=3) sc_law_tree.nd rfl (by first | exact Or.inl rfl | exact Or.inr rfl) (pe_callH G_law_draw hr rfl (pa_cons (pv 0) (pa_cons pe_int pa_nil))))
  (pss_cons (ps_set (i:=4) sc_law_tree.nd rfl (by first | exact Or.inl rfl | exact Or.inr rfl) (pe_callH G_law_letter hr rfl (pa_cons (pv 0) pa_nil)))
  (pss_cons (ps_set (i:=5) sc_law_tree.nd rfl (by first | exact Or.inl rfl | exact Or.inr rfl) (pe_callH G_law_some hr rfl (pa_cons (pv 0) (pa_cons (pe_lst (pa_cons (pv 4) (pa_cons (pe_op op_add_str pe_str (pv 4)) (pa_cons pe_str (pa_cons (pe_op op_add_str pe_str (pv 4)) (pa_cons pe_str pa_nil)))))) pa_nil))))
  (pss_cons (ps_set (i:=6) sc_law_tree.nd rfl (by first | exact Or.inl rfl | exact Or.inr rfl) (pe_lst (pa_cons (pe_un un_neg pe_int) pa_nil)))
  (pss_cons (ps_set (i:=7) sc_law_tree.nd rfl (by first | exact Or.inl rfl | exact Or.inr rfl) (pe_callH G_law_some hr rfl (pa_cons (pv 0) (pa_cons (pv 5) pa_nil))))
  (pss_cons (ps_for PassesOwn.never rfl (pi_range2 rfl B.range (pa_cons pe_int (pa_cons (pv 2) pa_nil))) (pg_name (i:=8) sc_law_tree.nd rfl (by first | exact Or.inl rfl | exact Or.inr rfl))
  (pss_cons (ps_set (i:=9) sc_law_tree.nd rfl (by first | exact Or.inl rfl | exact Or.inr rfl) (pe_lst (pa_cons (pe_op op_sub (pv 8) pe_int) pa_nil)))
  (pss_cons (ps_while PassesOwn.never (pt_cmpR op_ge (pe_ix ix_list (pv 6) (pe_ix ix_list (pv 9) (pe_un un_neg pe_int) (fun _ _=>rfl)) (fun _ _=>rfl)) pe_int (nomark _))
  (pss_one (ps_expr (pe_bm PySem.F.plainAttrs_list PySem.F.slot_list_append PySem.F.type_list_append mt_append (pv 9) (pa_cons (pe_ix ix_list (pv 6) (pe_ix ix_list (pv 9) (pe_un un_neg pe_int) (fun _ _=>rfl)) (fun _ _=>rfl)) pa_nil)))))
  (pss_cons (ps_set (i:=10) sc_law_tree.nd rfl (by first | exact Or.inl rfl | exact Or.inr rfl) (pe_ix ix_list (pe_lst (pa_cons pe_int (pa_cons (pe_op op_sub (pe_callB call_len_seq rfl B.len bt_len (pa_cons (pv 9) pa_nil)) pe_int) (pa_cons (pe_op op_mod (pv 8) pe_int) (pa_cons (pe_callH G_law_draw hr rfl (pa_cons (pv 0) (pa_cons (pe_callB call_len_seq rfl B.len bt_len (pa_cons (pv 9) pa_nil)) pa_nil))) (pa_cons (pe_callB (call_min2 rfl) rfl B.min bt_min (pa_cons (pe_op op_sub (pe_callB call_len_seq rfl B.len bt_len (pa_cons (pv 9) pa_nil)) pe_int) (pa_cons (pe_callH G_law_draw hr rfl (pa_cons (pv 0) (pa_cons pe_int pa_nil))) pa_nil))) (pa_cons (pe_op op_sub (pe_op op_sub (pe_callB call_len_seq rfl B.len bt_len (pa_cons (pv 9) pa_nil)) pe_int) (pe_callB (call_min2 rfl) rfl B.min bt_min (pa_cons (pe_op op_sub (pe_callB call_len_seq rfl B.len bt_len (pa_cons (pv 9) pa_nil)) pe_int) (pa_cons (pe_callH G_law_draw hr rfl (pa_cons (pv 0) (pa_cons pe_int pa_nil))) pa_nil)))) pa_nil))))))) (pv 3) (fun _ _=>rfl)))
  (pss_cons (ps_expr (pe_bm PySem.F.plainAttrs_list PySem.F.slot_list_append PySem.F.type_list_append mt_append (pv 6) (pa_cons (pe_ix ix_list (pv 9) (pe_callB (call_min2 rfl) rfl B.min bt_min (pa_cons (pv 10) (pa_cons (pe_op op_sub (pe_callB call_len_seq rfl B.len bt_len (pa_cons (pv 9) pa_nil)) pe_int) pa_nil))) (fun _ _=>rfl)) pa_nil)))
  (pss_one (ps_set (i:=7) sc_law_tree.nd rfl (by first | exact Or.inl rfl | exact Or.inr rfl) (pe_op op_add_str (pv 7) (pe_callH G_law_some hr rfl (pa_cons (pv 0) (pa_cons (pv 5) pa_nil)))))))))))
  (pss_cons (ps_if (pt_cmpR op_eq (pe_callH G_law_draw hr rfl (pa_cons (pv 0) (pa_cons pe_int pa_nil))) pe_int (nomark _))
  (pss_cons (ps_set (i:=11) sc_law_tree.nd rfl (by first | exact Or.inl rfl | exact Or.inr rfl) (pe_callH G_law_draw hr rfl (pa_cons (pv 0) (pa_cons (pv 2) pa_nil))))
  (pss_one (ps_set (i:=7) sc_law_tree.nd rfl (by first | exact Or.inl rfl | exact Or.inr rfl) (pe_op op_add_str (pe_op op_add_str (pe_op op_mul_str (pv 4) (pv 11)) (pe_callH G_law_letter hr rfl (pa_cons (pv 0) pa_nil))) (pe_op op_mul_str (pv 4) (pe_op op_sub (pe_op op_sub (pv 2) (pv 11)) pe_int))))))
  pss_nil)
  (pss_one (ps_ret (pe_tup (pa_cons (pe_callTy call_tuple_of rfl B.tuple_ bt_tuple (pa_cons (pv 6) pa_nil)) (pa_cons (pv 7) pa_nil))))))))))))),?_⟩
  first | (dsimp only [cxOf,Cx.nox];generalize hK:K=K';revert K' hK;refine seqK (seqE <| seqE <| seqE <| seqE <| seqE <| seqE <| seqE <| seqE <| fun _=>rfl) ?_) | skip
  refine ⟨_,rfl,_,rfl,_,rfl,p,most,c,rfl,hd,by omega,by omega,by omega,fun n1 H1 a0 a1 kd1=>?_⟩
  refine ⟨_,_,rfl,rfl,_,rfl,_,rfl,_,_,rfl,p,_,c+1,rfl,kd1.deck,by omega,?_,?_,fun n2 H2 b0 b1 kd2=>?_⟩
  · split <;> omega
  · split <;> omega
  have b2:n2 < 8∧n2 < most:=by
    revert b1;split <;> omega
  refine ⟨_,_,rfl,rfl,_,rfl,(by show 3≤sizeLine;decide),fun r hr0=>?_⟩
  have kq2:=((kd1.trans kd2).new (o:=.lst [.int (1+n1),.int (1+n2),.int most]) hr0)
  refine ⟨p,_,kq2.deck,by omega,.inl ⟨r,_,rfl,upd_same,kd2.deck.ne hr0,(by show 0 < 3;decide),(by show 3≤1000;decide),fun v H3 hv kd3=>?_⟩⟩
  obtain ⟨many,rfl,mn1,mn60,mnm⟩:∃ m:Int,v=.int m∧1≤m∧m≤60∧m≤most:=by
    simp only [List.mem_cons,List.not_mem_nil,or_false] at hv
    rcases hv with rfl | rfl | rfl
    · exact ⟨_,rfl,by omega,by omega,by omega⟩
    · exact ⟨_,rfl,by omega,by omega,by omega⟩
    · exact ⟨_,rfl,by omega,by omega,by omega⟩
  have ku3:=kq2.trans kd3
  refine ⟨_,rfl,p,6,_,rfl,ku3.deck,by omega,by decide,by decide,fun way H4 c0 c1 kd4=>?_⟩
  have ku4:=ku3.trans kd4
  refine ⟨_,rfl,p,_,rfl,ku4.deck,by omega,fun ch H5 lch kd5=>?_⟩
  have ku5:=ku4.trans kd5
  have own1:(⟨#[ch]⟩:Str).length=1:=rfl
  have l1:(Str.ofString "a").length=1:=by decide +kernel
  have l2:(Str.ofString "ab").length=2:=by decide +kernel
  have l3:(Str.ofString "aab").length=3:=by decide +kernel
  have l4:(Str.ofString "abcdefghijklmnopqrstuvwxyz").length=26:=by decide +kernel
  have la:∀ x y:Str,(x++y).length=x.length+y.length:=fun x y=>by
    have:=congrArg List.length (app_list x y)
    rw [List.length_append] at this
    simpa [Str.length] using this
  refine ⟨_,rfl,_,rfl,_,rfl,_,_,rfl,rfl,by rw [l1,own1];decide,_,rfl,_,_,rfl,rfl,by rw [l3,own1];decide,(by show 5≤sizeLine;decide),fun r5 hr5=>?_⟩
  have kq5:=ku5.new (o:=.lst [.str ⟨#[ch]⟩,.str (Str.ofString "a" ++ ⟨#[ch]⟩),.str (Str.ofString "ab"),.str (Str.ofString "aab" ++ ⟨#[ch]⟩),.str (Str.ofString "abcdefghijklmnopqrstuvwxyz")]) hr5
  refine ⟨p,_,kq5.deck,by omega,.inl ⟨r5,_,rfl,upd_same,ku5.deck.ne hr5,(by show 0 < 5;decide),(by show 5≤1000;decide),fun v H6 hv kd6=>?_⟩⟩
  have lap:∀ x y:Str,(∀ a∈x.cps.toList,Lw a)→(∀ a∈y.cps.toList,Lw a)→∀ a∈(x++y).cps.toList,Lw a:=fun x y h1 h2 a ha=>by
    rw [app_list] at ha
    rcases List.mem_append.mp ha with ha | ha
    · exact h1 a ha
    · exact h2 a ha
  have lo1:∀ a∈(⟨#[ch]⟩:Str).cps.toList,Lw a:=fun a ha=>by rw [show a=ch by simpa using ha];exact lch
  have lo2:∀ a∈(Str.ofString "a").cps.toList,Lw a:=by decide +kernel
  have lo3:∀ a∈(Str.ofString "ab").cps.toList,Lw a:=by decide +kernel
  have lo4:∀ a∈(Str.ofString "aab").cps.toList,Lw a:=by decide +kernel
  obtain ⟨z,rfl,z0,z1,zlo⟩:∃ z:Str,v=.str z∧0 < z.length∧z.length≤1000∧∀ a∈z.cps.toList,Lw a:=by
    simp only [List.mem_cons,List.not_mem_nil,or_false] at hv
    rcases hv with rfl | rfl | rfl | rfl | rfl
    · exact ⟨_,rfl,by omega,by omega,lo1⟩
    · exact ⟨_,rfl,by rw [la];omega,by rw [la];omega,lap _ _ lo2 lo1⟩
    · exact ⟨_,rfl,by omega,by omega,lo3⟩
    · exact ⟨_,rfl,by rw [la];omega,by rw [la];omega,lap _ _ lo4 lo1⟩
    · exact ⟨_,rfl,by omega,by omega,abc_low⟩
  have ku6:=kq5.trans kd6
  refine ⟨_,rfl,(by show 1≤sizeLine;decide),fun u hu0=>?_⟩
  have kq6:=ku6.new (o:=.lst [.int (-1)]) hu0
  have hup:u≠p:=ku6.deck.ne hu0
  have hHu:H u=none:=ku6.fresh hu0
  refine ⟨_,rfl,_,rfl,p,_,kq6.deck,by omega,.inr ⟨z,rfl,z0,z1,fun ch7 H7 lm7 kd7=>?_⟩⟩
  have ku7:=(kq6.trans kd7).mono (show c+1+1+1+1+1+1+1≤c+7 by omega)
  have hu7:H7 u=some (.lst [.int (-1)]):=kd7.keep _ _ hup upd_same
  refine ⟨_,rfl,1,many,rfl,⟨by decide,by decide,by omega,by omega⟩,?_⟩
  refine for_range (lo:=1) (n:=(many - 1).toNat) (fun i σ H'=>∃ (us:List Int) (ls:List Nat) (tx:Str) (o8 o9 o10:Option V),
      σ=[some (.ref p),some (.int most),some (.int many),some (.int way),some (.str ⟨#[ch]⟩),some (.str z),some (.ref u),some (.str tx),o8,o9,o10,none]∧tx=mk ls∧Kd p (c+7+4 * i) H H'∧H' u=some (.lst (us.map V.int)) ∧
      us.length=i+1∧ls.length=i+1∧GrOk us∧∀ a∈ls,Lw a)
    ⟨[-1],[ch7],_,none,none,none,rfl,rfl,ku7.mono (by omega),hu7,rfl,rfl,GrOk.one,fun a ha=>by rw [List.mem_singleton.mp ha];exact zlo _ lm7⟩ ?_ ?_
  · rintro i σ H' hi ⟨us,ls,tx,o8,o9,o10,rfl,rfl,kd,hu,hlen,hls,gr,lls⟩
    have hul:(us.map V.int).length=us.length:=List.length_map _
    refine ⟨_,rfl,_,_,rfl,rfl,(by show 1≤sizeLine;decide),fun r1 hr1=>?_⟩
    have ur1:u≠r1:=ne_of_none hu hr1
    have rp1:r1≠p:=kd.deck.ne hr1
    refine ⟨fun m σ H''=>∃ (rs:List Int) (last:Int),σ=[some (.ref p),some (.int most),some (.int many),some (.int way),some (.str ⟨#[ch]⟩),some (.str z),some (.ref u),some (.str (mk ls)),some (.int (1+(i:Int))),some (.ref r1),o10,none] ∧
        H''=upd H' r1 (.lst ((rs++[last]).map V.int))∧0≤last∧last < 1+(i:Int)∧(∀ v∈rs,0≤v∧v < 1+(i:Int))∧m=last.toNat∧rs.length+last.toNat≤60,⟨_,[],1+(i:Int) - 1,rfl,rfl,by omega,by omega,by simp,rfl,by simp;omega⟩,?_⟩
    rintro m σ H'' ⟨rs,last,rfl,rfl,la0,la1,hrs,rfl,hrl⟩
    have hu'':upd H' r1 (.lst ((rs++[last]).map V.int)) u=some (.lst (us.map V.int)):=by rw [upd_ne ur1];exact hu
    have hlast:atI ((rs++[last]).map V.int) (-1)=some (.int last):=by rw [List.map_append];exact atI_last _ _
    have hat:=ints_at (us:=us) (i:=last) la0 (by omega)
    have hrd:((rs++[last]).map V.int).length=rs.length+1:=by simp
    refine ⟨_,rfl,_,rfl,_,rfl,r1,_,_,_,rfl,rfl,SqL.of upd_same,hlast,u,_,_,_,rfl,rfl,SqL.of hu'',hat,_,_,rfl,rfl,_,rfl,ite2 (fun cnd=>?_) (fun cnd=>?_)⟩
    · have cnd':0≤us.getD last.toNat 0:=of_decide_eq_true cnd
      have hlt:us.getD last.toNat 0 < last:=by
        rcases Nat.eq_zero_or_pos last.toNat with e | e
        · have:=gr.root;rw [e] at cnd';omega
        · have:=gr.up last.toNat e (by omega);omega
      refine ⟨_,fun σ' H3 h=>h,?_⟩
      refine ⟨_,rfl,.inl ⟨rfl,_,SqL.of upd_same⟩,_,rfl,_,rfl,_,rfl,r1,_,_,_,rfl,rfl,SqL.of upd_same,hlast,u,_,_,_,rfl,rfl,SqL.of hu'',hat,r1,_,_,rfl,rfl,upd_same,by rw [hrd];exact small1000 (by omega),?_⟩
      refine ⟨(us.getD last.toNat 0).toNat,by omega,rs++[last],us.getD last.toNat 0,rfl,?_,cnd',by omega,?_,rfl,?_⟩
      · rw [upd_upd,List.map_append (l₁:=rs++[last])];rfl
      · intro v hv
        rcases List.mem_append.mp hv with hv | hv
        · exact hrs v hv
        · have:v=last:=by simpa using hv
          omega
      · rw [List.length_append,List.length_singleton];omega
    · -- up
      have kr:Kd p (c+7+4 * i) H (upd H' r1 (.lst ((rs++[last]).map V.int))):=kd.new hr1
      generalize hHr:upd H' r1 (.lst ((rs++[last]).map V.int))=Hr at kr hu''
      have hrr:Hr r1=some (.lst ((rs++[last]).map V.int)):=by rw [← hHr];exact upd_same
      have mem:∀ v∈rs++[last],0≤v∧v < 1+(i:Int):=fun v hv=>by
        rcases List.mem_append.mp hv with hv | hv
        · exact hrs v hv
        · have:v=last:=by simpa using hv
          omega
      generalize hRS:rs++[last]=RS at hrd hrr mem
      have hRl:RS.length=rs.length+1:=by rw [← hRS];simp
      generalize hL:((RS.map V.int).length:Int)=L
      have L1:1≤L:=by omega
      have L61:L≤61:=by omega
      refine ⟨_,rfl,r1,_,rfl,.inl (SqL.of hrr),_,_,rfl,rfl,_,rfl,_,_,rfl,rfl,(by decide:(0:Int) < 2),_,rfl,_,rfl,r1,_,rfl,.inl (SqL.of hrr),p,_,_,rfl,kr.deck,by omega,?_,?_,fun n3 H3 d0 d1 kd3=>?_⟩
      · rw [hL];omega
      · rw [hL];omega
      rw [hL] at d1
      have ku3:=kr.trans kd3
      have hrr3:=kd3.keep _ _ rp1 hrr
      refine ⟨_,rfl,r1,_,rfl,.inl (SqL.of hrr3),_,_,rfl,rfl,_,rfl,p,3,_,rfl,ku3.deck,by omega,by decide,by decide,fun n4 H4 e0 e1 kd4=>?_⟩
      have ku4':=ku3.trans kd4
      have hrr4:=kd4.keep _ _ rp1 hrr3
      refine ⟨_,_,rfl,_,rfl,r1,_,rfl,.inl (SqL.of hrr4),_,_,rfl,rfl,_,rfl,r1,_,rfl,.inl (SqL.of hrr4),_,_,rfl,rfl,_,rfl,p,3,_,rfl,ku4'.deck,by omega,by decide,by decide,fun n5 H5' f0 f1 kd5=>?_⟩
      have ku5':=ku4'.trans kd5
      have hrr5:=kd5.keep _ _ rp1 hrr4
      refine ⟨_,_,rfl,_,_,rfl,rfl,(by show 6≤sizeLine;decide),fun r2 hr2=>?_⟩
      rw [hL]
      have hupv:∃ v:Int,atI [V.int 0,.int (L - 1),.int ((1+(i:Int)) % 2),.int n3,.int (if n4 < L - 1 then n4 else L - 1),.int (L - 1 - (if n5 < L - 1 then n5 else L - 1))] way=some (.int v)∧0≤v:=by
        have:way=0∨way=1∨way=2∨way=3∨way=4∨way=5:=by omega
        rcases this with rfl | rfl | rfl | rfl | rfl | rfl
        · exact ⟨_,rfl,by omega⟩
        · exact ⟨_,rfl,by omega⟩
        · exact ⟨_,rfl,by omega⟩
        · exact ⟨_,rfl,by omega⟩
        · exact ⟨_,rfl,by split <;> omega⟩
        · exact ⟨_,rfl,by split <;> omega⟩
      obtain ⟨up,hupv,up0⟩:=hupv
      refine ⟨_,rfl,r2,_,_,_,rfl,rfl,SqL.of upd_same,hupv,?_⟩
      have ku6':=ku5'.new (o:=.lst [V.int 0,.int (L - 1),.int ((1+(i:Int)) % 2),.int n3,.int (if n4 < L - 1 then n4 else L - 1),.int (L - 1 - (if n5 < L - 1 then n5 else L - 1))]) hr2
      have hrr6:upd H5' r2 (.lst [V.int 0,.int (L - 1),.int ((1+(i:Int)) % 2),.int n3,.int (if n4 < L - 1 then n4 else L - 1),.int (L - 1 - (if n5 < L - 1 then n5 else L - 1))]) r1=some (.lst (RS.map V.int)):=by rw [upd_ne (ne_of_none hrr5 hr2)];exact hrr5
      have hu5':H5' u=some (.lst (us.map V.int)):=kd5.keep _ _ hup (kd4.keep _ _ hup (kd3.keep _ _ hup hu''))
      have hu6':upd H5' r2 (.lst [V.int 0,.int (L - 1),.int ((1+(i:Int)) % 2),.int n3,.int (if n4 < L - 1 then n4 else L - 1),.int (L - 1 - (if n5 < L - 1 then n5 else L - 1))]) u=some (.lst (us.map V.int)):=by rw [upd_ne (ne_of_none hu5' hr2)];exact hu5'
      generalize upd H5' r2 (.lst [V.int 0,.int (L - 1),.int ((1+(i:Int)) % 2),.int n3,.int (if n4 < L - 1 then n4 else L - 1),.int (L - 1 - (if n5 < L - 1 then n5 else L - 1))])=H6' at ku6' hrr6 hu6'
      have hmn:0≤(if L - 1 < up then L - 1 else up)∧(if L - 1 < up then L - 1 else up) < (RS.length:Int):=by split <;> omega
      have hat6:=ints_at (us:=RS) hmn.1 hmn.2
      have hv6:=mem _ (mem_getD (us:=RS) (j:=(if L - 1 < up then L - 1 else up).toNat) (by omega))
      have hrl6:(RS.map V.int).length=RS.length:=List.length_map _
      refine ⟨_,rfl,.inl ⟨rfl,_,SqL.of hu6'⟩,_,rfl,_,rfl,_,rfl,r1,_,rfl,.inl (SqL.of hrr6),_,_,rfl,rfl,_,_,rfl,r1,_,_,_,rfl,rfl,SqL.of hrr6,(by rw [hL];exact hat6),u,_,_,rfl,rfl,hu6',by rw [hul];exact small1000 (by omega),?_⟩
      generalize RS.getD (if L - 1 < up then L - 1 else up).toNat 0=v6 at hv6
      have ku7':Kd p (c+7+4 * i+1+1+1) H (upd H6' u (.lst (us.map V.int++[.int v6]))):=ku6'.write hHu hup
      have hu7':upd H6' u (.lst (us.map V.int++[.int v6])) u=some (.lst (us.map V.int++[.int v6])):=upd_same
      generalize upd H6' u (.lst (us.map V.int++[.int v6]))=H7' at ku7' hu7'
      refine ⟨_,rfl,_,rfl,_,rfl,p,_,ku7'.deck,by omega,.inr ⟨z,rfl,z0,z1,fun c8 H8 lm8 kd8=>?_⟩⟩
      refine ⟨_,_,rfl,rfl,?_,?_⟩
      · rw [mk_len]
        have:(⟨#[c8]⟩:Str).length=1:=rfl
        rw [this];exact Nat.le_of_lt (small1000 (by omega))
      · refine ⟨us++[v6],ls++[c8],_,_,_,_,rfl,?_,(ku7'.trans kd8).mono (by omega),?_,?_,?_,gr.snoc hv6.1 (by omega),fun a ha=>(List.mem_append.mp ha).elim (lls a) fun ha=>by rw [List.mem_singleton.mp ha];exact zlo _ lm8⟩
        · apply str_ext;rw [app_list];rfl
        · rw [kd8.keep _ _ hup hu7',List.map_append];rfl
        · rw [List.length_append,hlen];rfl
        · rw [List.length_append,hls];rfl
  · rintro σ H' ⟨us,ls,tx,o8,o9,o10,rfl,rfl,kd,hu,hlen,hls,gr,lls⟩
    have fin:∀ (ls':List Nat) (d:Int) (H4:Hp),ls'.length=us.length→(∀ a∈ls',Lw a)→d≤c+250→Kd p d H H4→H4 u=some (.lst (us.map V.int))→∀ r7 t7,H4 r7=none→(upd H4 r7 (.tup (us.map V.int))) t7=none→Q (.ref t7) (upd (upd H4 r7 (.tup (us.map V.int))) t7 (.tup [.ref r7,.str (mk ls')])):=fun ls' d H4 e1 lo' e2 e3 e4 r7 t7 hr7 ht=>by
      refine q t7 us (mk ls') _ (((e3.mono e2).new hr7).new ht) ⟨r7,upd_same,?_,?_⟩ ?_ (by omega)
      · rw [upd_ne (ne_of_none upd_same ht)];exact upd_same
      · exact ⟨by rw [mk_cps];omega,gr.pos,by omega,gr.root,gr.up⟩
      · rw [mk_cps];exact lo'
    refine ⟨_,rfl,p,5,_,rfl,kd.deck,by omega,by decide,by decide,fun n1 H1 d0 d1 kd1=>?_⟩
    have ku1:=kd.trans kd1
    have hu1:=kd1.keep _ _ hup hu
    refine ⟨rfl,_,rfl,ite2 (fun cnd=>?_) (fun cnd=>?_)⟩
    · refine ⟨_,rfl,_,rfl,p,many,_,rfl,ku1.deck,by omega,by omega,by omega,fun at0 H2 e0 e1 kd2=>?_⟩
      have ku2:=ku1.trans kd2
      have hu2:=kd2.keep _ _ hup hu1
      have mo:∀ n:Int,0≤n→n≤60→MulOk (⟨#[ch]⟩:Str) n:=fun n h0 h1=>PyProof.Rows.mulOk_of 1 60 (by rw [own1];decide) (by omega) (by omega) (by decide) (by decide)
      have ml:∀ n:Int,0≤n→(Txt.mul ⟨#[ch]⟩ n).length=n.toNat:=fun n h0=>by
        have:=mul_len (c:=ch) h0
        simpa [Str.length] using this
      refine ⟨_,rfl,_,rfl,_,_,rfl,rfl,mo _ e0 (by omega),_,rfl,p,_,rfl,ku2.deck,by omega,fun c9 H3 lc9 kd3=>?_⟩
      have hc9:(⟨#[c9]⟩:Str).length=1:=rfl
      have ku3:=ku2.trans kd3
      have hu3:=kd3.keep _ _ hup hu2
      refine ⟨_,_,rfl,rfl,by rw [ml _ e0,hc9];exact Nat.le_of_lt (small1000 (by omega)),_,rfl,_,rfl,_,rfl,_,_,rfl,rfl,_,_,rfl,rfl,_,_,rfl,rfl,mo _ (by omega) (by omega),_,_,rfl,rfl,?_,?_⟩
      · rw [la,ml _ e0,hc9,ml _ (by omega)];exact Nat.le_of_lt (small1000 (by omega))
      refine ⟨_,rfl,u,_,rfl,.inl ⟨SqL.of hu3,fun r7 hr7=>?_⟩⟩
      refine ⟨_,rfl,(by show 2≤sizeLine;decide),fun t ht=>?_⟩
      have hs:Txt.mul ⟨#[ch]⟩ at0++⟨#[c9]⟩++Txt.mul ⟨#[ch]⟩ (many - at0 - 1)=mk (Txt.mul ⟨#[ch]⟩ at0++⟨#[c9]⟩++Txt.mul ⟨#[ch]⟩ (many - at0 - 1)).cps.toList:=str_ext rfl
      rw [hs]
      have lom:∀ n:Int,∀ a∈(Txt.mul ⟨#[ch]⟩ n).cps.toList,Lw a:=fun n a ha=>mul_low lch n a ha
      refine fin _ _ H3 ?_ (lap _ _ (lap _ _ (lom _) fun a ha=>by rw [show a=c9 by simpa using ha];exact lc9) (lom _)) (by omega) ku3 hu3 r7 t hr7 ht
      have t1:=la (Txt.mul ⟨#[ch]⟩ at0++⟨#[c9]⟩) (Txt.mul ⟨#[ch]⟩ (many - at0 - 1))
      have t2:=la (Txt.mul ⟨#[ch]⟩ at0) ⟨#[c9]⟩
      have t3:=ml at0 e0
      have t4:=ml (many - at0 - 1) (by omega)
      have e:(Txt.mul ⟨#[ch]⟩ at0++⟨#[c9]⟩++Txt.mul ⟨#[ch]⟩ (many - at0 - 1)).cps.toList.length=(Txt.mul ⟨#[ch]⟩ at0++⟨#[c9]⟩++Txt.mul ⟨#[ch]⟩ (many - at0 - 1)).length:=by simp [Str.length]
      omega
    · refine ⟨_,rfl,u,_,rfl,.inl ⟨SqL.of hu1,fun r7 hr7=>?_⟩⟩
      refine ⟨_,rfl,(by show 2≤sizeLine;decide),fun t ht=>?_⟩
      exact fin ls _ H1 (by omega) lls (by omega) ku1 hu1 r7 t hr7 ht
end
end S65
namespace S65
open PySem L2 W7
section
variable {P:Program} {w:World} {K:PySem.W.Frag} {mg:Str→Option Value} {base:Heap} {k:Nat}
theorem has_lwords (D:Df K mg "_law_words" s_law_words) (B:Blt mg):Has P w K mg base "_law_words" (k+1) ["tree_here"] sp_words:=by
  refine D.has sc_law_words (fun _ _ _ _ _ _=>ar1 fun _=>rfl) (fun vs H Q E h=>by obtain ⟨t,ups,lab,rfl,_⟩:=h;rfl) (fun f cdv A outer s H vs Q E hr h=>?_)
  obtain ⟨t,ups,lab,rfl,⟨u,ht,hu,ok⟩,q⟩:=h
  refine ⟨_,(pss_cons (ps_set (i:=1) sc_law_words.nd rfl (by first | exact Or.inl rfl | exact Or.inr rfl) (pe_lst pa_nil))
  (pss_cons (ps_for PassesOwn.never rfl (pi_enum rfl B.enumerate (pa_cons (pe_ix ix_tup (pv 0) pe_int (fun _ _=>rfl)) pa_nil)) (pg_tup rfl (pgs_cons (pg_name (i:=2) sc_law_words.nd rfl (by first | exact Or.inl rfl | exact Or.inr rfl)) (pgs_cons (pg_name (i:=3) sc_law_words.nd rfl (by first | exact Or.inl rfl | exact Or.inr rfl)) pgs_nil)))
  (pss_one (ps_expr (pe_bm PySem.F.plainAttrs_list PySem.F.slot_list_append PySem.F.type_list_append mt_append (pv 1) (pa_cons (pe_op op_add_str (pe_ix ix_str (pe_ix ix_tup (pv 0) pe_int (fun _ _=>rfl)) (pv 2) (fun _ _=>rfl)) (pe_ifExp (pt_cmpR op_ge (pv 3) pe_int (nomark _)) (pe_ix ix_list (pv 1) (pv 3) (fun _ _=>rfl)) pe_str)) pa_nil)))))
  (pss_one (ps_ret (pv 1))))),?_⟩
  first | (dsimp only [cxOf,Cx.nox];generalize hK:K=K';revert K' hK;refine seqK (seqE <| seqE <| fun _=>rfl) ?_) | skip
  refine ⟨(by show 0≤sizeLine;decide),fun r hr0=>?_⟩
  have s0:Same H (upd H r (.lst [])):=(Same.refl H).new hr0
  refine ⟨_,rfl,t,_,_,_,rfl,rfl,SqT.of (s0 _ _ ht),rfl,.tup u,rfl,⟨_,.inl (s0 _ _ hu)⟩,?_⟩
  refine for_enum (xs:=ups.map V.int) (fun i σ H'=>∃ o1 o2:Option V,σ=[some (.ref t),some (.ref r),o1,o2]∧Same H H'∧H' r=some (.lst (wordsV ups lab i))) ⟨none,none,rfl,s0,upd_same⟩
    (fun i σ H' hi h=>by obtain ⟨o1,o2,_,s1,_⟩:=h;exact .inl (s1 _ _ hu)) ?_ ?_
  · rintro i y σ H' p hy ⟨o1,o2,rfl,s1,hr1⟩ hp
    obtain ⟨v,hv,rfl⟩:∃ v,ups[i]?=some v∧y=.int v:=by
      simp only [List.getElem?_map] at hy
      cases e:ups[i]? with
      | none=>rw [e] at hy;cases hy
      | some v=>rw [e] at hy;exact ⟨v,rfl,(Option.some.inj hy).symm⟩
    have hi:i < ups.length:=(List.getElem?_eq_some_iff.mp hv).1
    have hi2:i < lab.cps.toList.length:=by rw [← ok.len];exact hi
    have ev:ups.getD i 0=v:=by rw [List.getD_eq_getElem?_getD,hv];rfl
    have ec:lab.cps.toList.getD i 0=lab.cps.toList[i]:=by rw [List.getD_eq_getElem?_getD,List.getElem?_eq_getElem hi2];rfl
    have hm:=ok.most
    have s2:Same H (upd H' p (.tup [.int i,.int v])):=s1.new hp
    have hr2:upd H' p (.tup [.int i,.int v]) r=some (.lst (wordsV ups lab i)):=by rw [upd_ne (ne_of_none hr1 hp)];exact hr1
    have wl:(wordsV ups lab i).length=i:=by simp [wordsV]
    have step:wordsV ups lab (i+1)=wordsV ups lab i++[.str (mk (W ups lab.cps.toList i))]:=by
      unfold wordsV
      rw [List.range_succ,List.map_append];rfl
    have hlab:lab.length=ups.length:=by rw [ok.len];simp [Str.length]
    have e1:=atI_nat (xs:=lab.cps.toList) (j:=i) (List.getElem?_eq_getElem hi2)
    have one1:(⟨#[lab.cps.toList[i]]⟩:Str).length=1:=rfl
    refine ⟨p,_,rfl,SqT.of upd_same,rfl,_,_,rfl,_,_,rfl,rfl,?_⟩
    refine ⟨_,rfl,.inl ⟨rfl,_,SqL.of hr2⟩,_,rfl,t,_,_,_,rfl,rfl,SqT.of (s2 _ _ ht),rfl,_,rfl,_,_,_,rfl,rfl,by rw [hlab];exact Nat.le_of_lt (small1000 (by omega)),e1,_,rfl,_,_,rfl,rfl,_,rfl,ite2 (fun cnd=>?_) (fun cnd=>?_)⟩
    · have e3:0≤v:=of_decide_eq_true cnd
      have lt:=ok.lt hi (by rw [ev];omega)
      rw [ev] at lt
      have hat:atI (wordsV ups lab i) v=some (.str (mk (W ups lab.cps.toList v.toNat))):=by
        have e:atI (wordsV ups lab i) ((v.toNat:Nat):Int)=some (.str (mk (W ups lab.cps.toList v.toNat))):=atI_nat (by
          unfold wordsV
          rw [List.getElem?_map,List.getElem?_range lt];rfl)
        rw [show ((v.toNat:Nat):Int)=v by omega] at e
        exact e
      have wle:=W_len ok (v.toNat+1) v.toNat (by omega) (by omega)
      have ew:W ups lab.cps.toList i=lab.cps.toList[i] :: W ups lab.cps.toList v.toNat:=by rw [W_eq ok hi,ev,ec,if_neg (by omega)]
      refine ⟨_,rfl,_,rfl,r,_,_,_,rfl,rfl,SqL.of hr2,hat,_,_,rfl,rfl,?_,r,_,_,rfl,rfl,hr2,by rw [wl];exact small1000 (by omega),⟨_,_,rfl,s2.write hr0,?_⟩⟩
      · rw [mk_len,one1];exact Nat.le_of_lt (small1000 (by omega))
      · rw [upd_same,step,ew,mk_app]
    · have e3:¬ 0≤v:=of_decide_eq_false (Bool.eq_false_iff.mpr cnd)
      have ew:W ups lab.cps.toList i=[lab.cps.toList[i]]:=by rw [W_eq ok hi,ev,ec,if_pos (by omega)]
      refine ⟨_,_,rfl,rfl,by rw [one1];decide,r,_,_,rfl,rfl,hr2,by rw [wl];exact small1000 (by omega),⟨_,_,rfl,s2.write hr0,?_⟩⟩
      rw [upd_same,step,ew]
      have:(⟨#[lab.cps.toList[i]]⟩:Str)++Str.ofString "" = mk [lab.cps.toList[i]]:=by apply str_ext;rw [app_list];rfl
      rw [this]
  · rintro σ H' ⟨o1,o2,rfl,s1,hr1⟩
    refine ⟨_,rfl,q r H' s1 ?_⟩
    rw [hr1,List.length_map]
def sp_whole:Sp:=fun vs H Q _=>∃ n:Int,vs=[.int n,.int n]∧Q (.bl true) H
theorem has_whole (D:Df K mg "_law_whole" s_law_whole) (B:Blt mg):Has P w K mg base "_law_whole" (k+1) ["found", "due"] sp_whole:=by
  refine D.has sc_law_whole (fun _ _ _ _ _ _=>ar2 fun _ _=>rfl) (fun vs H Q E h=>by obtain ⟨n,rfl,_⟩:=h;rfl) (fun f cdv A outer s H vs Q E hr h=>?_)
  obtain ⟨n,rfl,q⟩:=h
  refine ⟨_,(pss_one (ps_ret (pe_and (pe_callB call_isinst rfl B.isinstance bt_isinstance (pa_cons (pv 0) (pa_cons (pe_bltn (v:=.ty "int") rfl B.int_ bt_int rfl) pa_nil))) (pe_and (pe_not (pe_callB call_isinst rfl B.isinstance bt_isinstance (pa_cons (pv 0) (pa_cons (pe_bltn (v:=.ty "bool") rfl B.bool_ bt_bool rfl) pa_nil)))) (pe_one (pe_cmpR op_eq (pv 0) (pv 1) (nomark _))))))),?_⟩
  refine ⟨_,rfl,_,.type "int", "int", true,rfl,.int _,kit_same _ _,_,rfl,iteT ?_⟩
  refine ⟨_,rfl,_,.type "int", "bool", false,rfl,.int _,kit_int_bool _,_,rfl,_,rfl,iteT ?_⟩
  refine ⟨_,rfl,_,rfl,rfl,?_⟩
  rw [decide_eq_true rfl]
  exact q
end
end S65
namespace L2
open PySem PySem.Spec PyProof.Rows PySem.W PySem.StrLaws PySem.Builtin PySem.Builtin.Str
theorem occ_full (s sub:Str) (hi:Nat):∀ (l:List Nat) (st:Array Nat × Nat),st.fst.size=1→(forIn l st (occBody s sub hi 1)).run.fst=st.fst
  | [],st,h=>rfl
  | a :: l,st,h=>by
    rw [List.forIn_cons]
    unfold occBody
    rw [if_neg (by omega)]
    exact occ_full s sub hi l (st.fst,st.snd) h
theorem occ_first (s:Str) (c:Nat):∀ (l:List Nat) (pre:List Nat) (i:Nat) (post:List Nat),l=pre++i :: post→(∀ j∈pre,s.cps.toList[j]?≠some c)→s.cps.toList[i]?=some c→(forIn l ((#[]:Array Nat),0) (occBody s ⟨#[c]⟩ s.length 1)).run.fst=#[i]
  | l,[],i,post,e,_,h=>by
    subst e
    show (forIn (i :: post) ((#[]:Array Nat),0) (occBody s ⟨#[c]⟩ s.length 1)).run.fst=_
    rw [List.forIn_cons]
    have:=(subAt_one s c i).mpr h
    unfold occBody
    rw [if_pos ⟨⟨⟨by decide,Nat.zero_le _⟩,this.1⟩,this.2⟩]
    exact occ_full s _ _ post (#[i],i+(⟨#[c]⟩:Str).length) rfl
  | l,a :: pre,i,post,e,hn,h=>by
    subst e
    show (forIn (a :: (pre++i :: post)) ((#[]:Array Nat),0) (occBody s ⟨#[c]⟩ s.length 1)).run.fst=_
    rw [List.forIn_cons]
    have na:=hn a List.mem_cons_self
    unfold occBody
    rw [if_neg (fun z=>na ((subAt_one s c a).mp ⟨z.1.2,z.2⟩))]
    exact occ_first s c _ pre i post rfl (fun j hj=>hn j (List.mem_cons_of_mem _ hj)) h
theorem occ_at {s:Str} {a b:List Nat} {c:Nat} (e:s.cps.toList=a++c :: b) (h:c ∉ a):occurrences s ⟨#[c]⟩ 0 s.length 1=[a.length]:=by
  have sl:s.length=a.length+b.length+1:=by
    have:=congrArg List.length e
    rw [List.length_append,List.length_cons] at this
    have e2:s.cps.toList.length=s.length:=Array.length_toList
    omega
  rw [occ_eq]
  rw [occ_first s c _ (List.range' 0 a.length) a.length (List.range' (a.length+1) (b.length+1)) ?_ ?_ ?_]
  · have e1:(b.length+1+1)=b.length+2:=rfl
    have e2:a.length :: List.range' (a.length+1) (b.length+1)=List.range' (0+1 * a.length) (b.length+2):=by
      rw [show (0+1 * a.length)=a.length by omega];rfl
    rw [e2,List.range'_append]
    congr 1
    omega
  · intro j hj z
    have hj':j < a.length:=by
      obtain ⟨i,hi,rfl⟩:=List.mem_range'.mp hj
      omega
    rw [e,List.getElem?_append_left hj'] at z
    exact h (List.mem_of_getElem? z)
  · rw [e,List.getElem?_append_right (Nat.le_refl _),Nat.sub_self];rfl
theorem part_at {s:Str} {a b:List Nat} {c:Nat} (e:s.cps.toList=a++c :: b) (h:c ∉ a):(Txt.partition s ⟨#[c]⟩).1=⟨a.toArray⟩∧(Txt.partition s ⟨#[c]⟩).2.1=⟨#[c]⟩:=by
  unfold Txt.partition
  rw [occ_at e h]
  refine ⟨?_,rfl⟩
  show strSub s 0 a.length=_
  unfold strSub
  have:s.cps=(a++c :: b).toArray:=by rw [← e]
  rw [this]
  congr 1
  apply Array.toList_inj.mp
  simp
theorem starts_one {a:Nat} {l:List Nat} {b:Nat}:Txt.startswith (⟨(a :: l).toArray⟩:Str) ⟨#[b]⟩=decide (a=b):=by
  have h:=subAt_one (⟨(a :: l).toArray⟩:Str) b 0
  rw [Bool.eq_iff_iff,decide_eq_true_eq]
  unfold Txt.startswith
  rw [Bool.and_eq_true,decide_eq_true_eq,h]
  show some a=some b ↔ _
  simp
theorem starts_nil {b:Nat}:Txt.startswith (⟨#[]⟩:Str) ⟨#[b]⟩=false:=by
  unfold Txt.startswith
  rw [show decide (0+(⟨#[b]⟩:Str).length≤(⟨#[]⟩:Str).length)=false from rfl];rfl
theorem ends_one {l:List Nat} {a b:Nat}:Txt.endswith (⟨(l++[a]).toArray⟩:Str) ⟨#[b]⟩=decide (a=b):=by
  have e:(⟨(l++[a]).toArray⟩:Str).length=l.length+1:=by show (l++[a]).toArray.size=_;simp
  have h:=subAt_one (⟨(l++[a]).toArray⟩:Str) b l.length
  rw [Bool.eq_iff_iff,decide_eq_true_eq]
  unfold Txt.endswith
  have e1:(⟨(l++[a]).toArray⟩:Str).length - (⟨#[b]⟩:Str).length=l.length:=by rw [e];rfl
  have e2:decide (0+(⟨#[b]⟩:Str).length≤(⟨(l++[a]).toArray⟩:Str).length)=true:=decide_eq_true (by rw [e];show 0+1≤_;omega)
  rw [e1,e2,Bool.true_and]
  have h2:subAt (⟨(l++[a]).toArray⟩:Str) ⟨#[b]⟩ l.length=true ↔ (⟨(l++[a]).toArray⟩:Str).cps.toList[l.length]?=some b:=by
    constructor
    · exact fun z=>h.mp ⟨by rw [e];exact Nat.le_refl _,z⟩
    · exact fun z=>(h.mpr z).2
  rw [h2]
  show (l++[a])[l.length]?=some b ↔ _
  rw [List.getElem?_append_right (Nat.le_refl _),Nat.sub_self];simp
end L2
namespace W63
abbrev It:=List Nat × Bool
def good (it:It) (w:List Nat) (n:Nat):Bool:=decide (w.getD n 0∈it.1)
def nextF (it:It) (w:List Nat) (f:Nat→Bool):Nat→Bool
  | 0=>it.2 && f 0
  | n+1=>if it.2 then f (n+1) || (good it w n && nextF it w f n) else good it w n && f n
def D (its:List It) (w:List Nat):Nat→Nat→Bool
  | 0=>fun n=>n == 0
  | i+1=>nextF (its.getD i ([],false)) w (D its w i)
def st (its:List It) (i:Nat):Bool:=(its.getD i ([],false)).2
def gd (its:List It) (w:List Nat) (i n:Nat):Bool:=good (its.getD i ([],false)) w n
theorem D_zero (its:List It) (w:List Nat) (n:Nat):D its w 0 n=(n == 0):=rfl
theorem D_s0 (its:List It) (w:List Nat) (i:Nat):D its w (i+1) 0=(st its i && D its w i 0):=rfl
theorem D_star {its:List It} {w:List Nat} {i n:Nat} (h:st its i=true):D its w (i+1) (n+1)=(D its w i (n+1) || (gd its w i n && D its w (i+1) n)):=by
  show nextF _ _ _ _=_
  rw [nextF,if_pos (show (its.getD i ([],false)).2=true from h)];rfl
theorem D_plain {its:List It} {w:List Nat} {i n:Nat} (h:st its i=false):D its w (i+1) (n+1)=(gd its w i n && D its w i n):=by
  show nextF _ _ _ _=_
  rw [nextF,if_neg (show ¬ (its.getD i ([],false)).2=true by rw [show (its.getD i ([],false)).2=false from h];decide)];rfl
def N (its:List It) (w:List Nat) (s n:Nat):Bool:=if st its s then D its w (s+1) n else D its w s n
theorem st_len {its:List It}:st its its.length=false:=by
  unfold st;rw [List.getD_eq_getElem?_getD,List.getElem?_eq_none (Nat.le_refl _)];rfl
theorem N_len (its:List It) (w:List Nat) (n:Nat):N its w its.length n=D its w its.length n:=by
  unfold N;rw [st_len];rfl
def cl (its:List It) (T:Nat→Bool):Nat→Bool
  | 0=>T 0
  | s+1=>T (s+1) || (cl its T s && st its s)
theorem N_first (its:List It) (w:List Nat):∀ s,N its w s 0=cl its (fun s=>s == 0) s
  | 0=>by
    unfold N
    rw [D_s0,D_zero]
    cases h:st its 0 <;> rfl
  | s+1=>by
    have ih:=N_first its w s
    have e:N its w (s+1) 0=D its w (s+1) 0:=by
      unfold N
      cases h:st its (s+1)
      · rfl
      · rw [if_pos rfl,D_s0,h];rfl
    rw [e,D_s0,cl,← ih]
    unfold N
    cases h:st its s
    · simp
    · rw [if_pos rfl,D_s0,h];simp
def by_ (its:List It) (w:List Nat) (n:Nat) (s:Nat):Bool:=(st its s && gd its w s n && N its w s n) || (match s with | 0=>false | j+1=>!st its j && gd its w j n && N its w j n)
theorem N_next (its:List It) (w:List Nat) (n:Nat):∀ s,N its w s (n+1)=cl its (by_ its w n) s:=by
  have two:∀ s,D its w s (n+1)=(match s with | 0=>false | j+1=>(!st its j && gd its w j n && N its w j n) || (N its w j (n+1) && st its j)):=fun s=>by
    cases s with
    | zero=>rfl
    | succ j=>
      dsimp only
      cases h:st its j
      · rw [D_plain h];unfold N;rw [h];simp
      · unfold N;rw [h];simp
  have one:∀ s,N its w s (n+1)=((st its s && gd its w s n && N its w s n) || D its w s (n+1)):=fun s=>by
    unfold N
    cases h:st its s
    · simp
    · rw [if_pos rfl,if_pos rfl,D_star h,Bool.or_comm];simp
  intro s
  induction s with
  | zero=>rw [one,two,cl,by_]
  | succ j ih=>
    rw [one,two,cl,by_,← ih]
    dsimp only
    rw [Bool.or_assoc]
end W63
namespace W63
abbrev Lw (c:Nat):Prop:=97≤c∧c < 123
def abc:List Nat:=[97,98,99,100,101,102,103,104,105,106,107,108,109,110,111,112,113,114,115,116,117,118,119,120,121,122]
inductive Wr where
  | one (c:Nat)
  | dot
  | br (L:List Nat)
def Wr.txt:Wr→List Nat
  | .one c=>[c]
  | .dot=>[46]
  | .br L=>91 :: (L++[93])
def Wr.lets:Wr→List Nat
  | .one c=>[c]
  | .dot=>abc
  | .br L=>L
def Wr.Ok:Wr→Prop
  | .one c=>Lw c
  | .dot=>True
  | .br L=>L≠[]∧(∀ c∈L,Lw c)∧L.Pairwise (· < ·)
abbrev Wi:=Wr × Bool
def star (b:Bool):List Nat:=if b then [42] else []
def wt (x:Wi):List Nat:=x.1.txt++star x.2
def enc (xs:List Wi):List Nat:=(xs.map wt).flatten
def dec (xs:List Wi):List It:=xs.map fun x=>(x.1.lets,x.2)
theorem enc_cons (x:Wi) (xs:List Wi):enc (x :: xs)=x.1.txt++(star x.2++enc xs):=by
  show wt x++enc xs=_
  unfold wt;rw [List.append_assoc]
theorem enc_app (xs ys:List Wi):enc (xs++ys)=enc xs++enc ys:=by unfold enc;rw [List.map_append,List.flatten_append]
theorem txt_head (x:Wr) (h:x.Ok):∃ c r,x.txt=c :: r∧c≠42:=by
  cases x with
  | one c=>exact ⟨c,[],rfl,by have:Lw c:=h;unfold Lw at this;omega⟩
  | dot=>exact ⟨46,[],rfl,by decide⟩
  | br L=>exact ⟨91,L++[93],rfl,by decide⟩
theorem enc_head (xs:List Wi) (h:∀ x∈xs,x.1.Ok):enc xs=[]∨∃ c r,enc xs=c :: r∧c≠42:=by
  cases xs with
  | nil=>exact .inl rfl
  | cons x xs=>
    obtain ⟨c,r,e,n⟩:=txt_head x.1 (h x List.mem_cons_self)
    exact .inr ⟨c,r++(star x.2++enc xs),by rw [enc_cons,e];rfl,n⟩
theorem txt_pos (x:Wr):0 < x.txt.length:=by cases x <;> simp [Wr.txt]
theorem dec_len (xs:List Wi):(dec xs).length=xs.length:=List.length_map _
theorem lets_ok (x:Wr) (h:x.Ok):(∀ c∈x.lets,Lw c)∧x.lets.Pairwise (· < ·)∧x.lets≠[]:=by
  cases x with
  | one c=>exact ⟨fun d hd=>by rw [List.mem_singleton.mp hd];exact h,List.pairwise_singleton _ _,List.cons_ne_nil _ _⟩
  | dot=>exact ⟨by decide,by decide,by decide⟩
  | br L=>exact ⟨h.2.1,h.2.2,h.1⟩
theorem rise_len:∀ (L:List Nat) (lo:Nat),(∀ c∈L,lo≤c∧c < 123)→L.Pairwise (· < ·)→lo≤123→L.length≤123 - lo
  | [],_,_,_,_=>Nat.zero_le _
  | c :: L,lo,h,p,hl=>by
    have hc:=h c List.mem_cons_self
    have:=rise_len L (c+1) (fun d hd=>⟨List.rel_of_pairwise_cons p hd,(h d (List.mem_cons_of_mem _ hd)).2⟩) (List.Pairwise.of_cons p) (by omega)
    rw [List.length_cons];omega
theorem lets_len (x:Wr) (h:x.Ok):x.lets.length≤26:=by
  have:=lets_ok x h
  exact rise_len _ 97 (fun c hc=>this.1 c hc) this.2.1 (by omega)
end W63
namespace S65
open PySem L2 W7
open W63 (Wr Wi enc dec star)
structure Blt7 (mg:Str→Option Value):Prop extends Blt mg where
  all:mg "all" = none
  dict_:mg "dict" = none
  sorted:mg "sorted" = none
  set_:mg "set" = none
  letters:∃ u,mg "LETTERS" = some u∧RelV (.str "abcdefghijklmnopqrstuvwxyz") u
  most:∃ u,mg "MOST_SIGNS" = some u∧RelV (.int 40) u
  ValueError_:mg "ValueError" = none
theorem abc_mk:Str.ofString "abcdefghijklmnopqrstuvwxyz" = mk W63.abc:=by decide +kernel
theorem line_le {n:Nat} (h:n≤1000):n≤sizeLine:=Nat.le_of_lt (small1000 h)
theorem trues_all (n:Nat):(List.replicate n true).all id=true:=by
  rw [List.all_eq_true]
  intro b hb
  exact (List.mem_replicate.mp hb).2
theorem trues_snoc (n:Nat):(List.replicate n true).map V.bl++[.bl true]=(List.replicate (n+1) true).map V.bl:=by
  rw [List.replicate_succ',List.map_append];rfl
theorem in_letters {c:Nat} (h:Lw c):(!(Builtin.Str.occurrences (Str.ofString "abcdefghijklmnopqrstuvwxyz") ⟨#[c]⟩ 0 (Str.ofString "abcdefghijklmnopqrstuvwxyz").length 1).isEmpty)=true:=by
  rw [PySem.StrLaws.found_one,decide_eq_true_eq]
  have all:∀ i:Fin 26,(97+i.val)∈(Str.ofString "abcdefghijklmnopqrstuvwxyz").cps.toList:=by decide +kernel
  have:=all ⟨c - 97,by unfold Lw at h;omega⟩
  rw [show 97+(c - 97)=c by unfold Lw at h;omega] at this
  exact this
structure ItsAt (H:Hp) (l:Addr) (its:List W63.It):Prop where
  ex:∃ vs:List V,H l=some (.lst vs)∧vs.length=its.length∧∀ (i:Nat) (x:W63.It),its[i]?=some x→∃ a,vs[i]?=some (V.ref a)∧H a=some (.tup [.str (mk x.1),.bl x.2])
theorem ItsAt.same {H H':Hp} {l:Addr} {its:List W63.It} (h:ItsAt H l its) (s:Same H H'):ItsAt H' l its:=by
  obtain ⟨vs,a,b,c⟩:=h
  exact ⟨vs,s _ _ a,b,fun i x e=>let ⟨q,e1,e2⟩:=c i x e;⟨q,e1,s _ _ e2⟩⟩
section
variable {P:Program} {w:World} {K:PySem.W.Frag} {mg:Str→Option Value} {base:Heap} {k:Nat}
def sp_letters:Sp:=fun vs H Q _=>∃ z:Str,vs=[.str z]∧z.length≤60∧(∀ c∈z.cps.toList,Lw c)∧∀ H',Same H H'→Q (.bl true) H'
theorem has_letters (D:Df K mg "is_letters" s_is_letters) (B:Blt7 mg):Has P w K mg base "is_letters" (k+1) ["thing"] sp_letters:=by
  refine D.has sc_is_letters (fun _ _ _ _ _ _=>ar1 fun _=>rfl) (fun vs H Q E h=>by obtain ⟨x,rfl,_⟩:=h;rfl) (fun f cdv A outer s H vs Q E hr h=>?_)
  obtain ⟨z,rfl,zl,low,q⟩:=h
  obtain ⟨u2,h_LETTERS,r_LETTERS⟩:=B.letters
  refine ⟨_,(pss_one (ps_ret (pe_and (pe_callB call_isinst rfl B.isinstance bt_isinstance (pa_cons (pv 0) (pa_cons (pe_bltn (v:=.ty "str") rfl B.str_ bt_str rfl) pa_nil))) (pe_one (pe_callB (call_all rfl) rfl B.all bt_all (pa_cons (pe_comp rfl (pi_str (pv 0)) (NL:=["sign"]) (ix:=[]) (csc (defScope s_is_letters) N_is_letters) (fun cl C s₃ H₃ fp pins=>⟨(pg_name (i:=0) (show List.Nodup (["sign"]:List Str) from by decide +kernel) rfl (by first | exact Or.inl rfl | exact Or.inr rfl)),pifs_nil,(pe_cmpR op_in_str (pv 0) (pe_glob (v:=.str "abcdefghijklmnopqrstuvwxyz") rfl h_LETTERS r_LETTERS) (by with_unfolding_all rfl))⟩)) pa_nil)))))),?_⟩
  refine ⟨_,rfl,_,_,_,true,rfl,.str _,kit_same _ _,_,rfl,iteT ?_⟩
  have zs:z.cps.size≤60:=zl
  refine ⟨_,rfl,_,rfl,fun a1 ha1=>?_⟩
  refine comp_str (by omega) (fun i ys HX=>HX a1=some (.lst ys)∧Same H HX∧ys=(List.replicate i true).map V.bl)
    (fun i ys HX h=>⟨h.1,by rw [h.2.2,List.length_map,List.length_replicate];exact Nat.le_refl _⟩) ⟨upd_same,(Same.refl H).new ha1,rfl⟩ ?_ ?_
  rotate_left
  · rintro i c ys HX hc ⟨g1,g2,rfl⟩
    have hm:c∈z.cps.toList:=by rw [← Array.getElem?_toList] at hc;exact List.mem_of_getElem? hc
    refine ⟨rfl,_,rfl,_,_,rfl,rfl,?_⟩
    have e:(!(Builtin.Str.occurrences (Str.ofString "abcdefghijklmnopqrstuvwxyz") ⟨#[c]⟩ 0 (Str.ofString "abcdefghijklmnopqrstuvwxyz").length 1).isEmpty)=true:=in_letters (low c hm)
    rw [e]
    exact ⟨g1,upd_same,g2.write ha1,trues_snoc i⟩
  rintro ys H1 ⟨g1,s1,rfl⟩
  refine ⟨a1,_,rfl,SqL.of g1,?_⟩
  rw [trues_all]
  exact q _ s1
def sp_rising:Sp:=fun vs H Q _=>∃ L:List Nat,vs=[.str (mk L)]∧L.length≤60∧L.Pairwise (· < ·)∧∀ H',Same H H'→Q (.bl true) H'
theorem has_rising (D:Df K mg "is_rising" s_is_rising) (B:Blt7 mg):Has P w K mg base "is_rising" (k+1) ["things"] sp_rising:=by
  refine D.has sc_is_rising (fun _ _ _ _ _ _=>ar1 fun _=>rfl) (fun vs H Q E h=>by obtain ⟨l,rfl,_⟩:=h;rfl) (fun f cdv A outer s H vs Q E hr h=>?_)
  obtain ⟨L,rfl,l60,pw,q⟩:=h
  refine ⟨_,(pss_one (ps_ret (pe_callB (call_all rfl) rfl B.all bt_all (pa_cons (pe_comp rfl (pi_range2 rfl B.range (pa_cons pe_int (pa_cons (pe_callB call_len_str rfl B.len bt_len (pa_cons (pv 0) pa_nil)) pa_nil))) (NL:=["k"]) (ix:=[0]) (csc (defScope s_is_rising) N_is_rising) (fun cl C s₃ H₃ fp pins=>⟨(pg_name (i:=0) (show List.Nodup (["k", "things"]:List Str) from by decide +kernel) rfl (by first | exact Or.inl rfl | exact Or.inr rfl)),pifs_nil,(pe_cmpR op_lt_str (pe_ix ix_str (pv 1) (pe_op op_sub (pv 0) pe_int) (fun _ _=>rfl)) (pe_ix ix_str (pv 1) (pv 0) (fun _ _=>rfl)) (nomark _))⟩)) pa_nil)))),?_⟩
  have zb:(mk L).length≤sizeLine:=by rw [mk_len];exact line_le (by omega)
  refine ⟨_,rfl,_,rfl,zb,_,_,rfl,⟨by decide,by decide,by rw [mk_len];omega,by rw [mk_len];omega⟩,fun acc hacc=>?_⟩
  have eN:((((mk L).length:Nat):Int) - 1).toNat=L.length - 1:=by rw [mk_len];omega
  refine comp_by ((((mk L).length:Nat):Int) - 1).toNat (by omega) (fun i ys HX=>HX acc=some (.lst ys)∧Same H HX∧ys=(List.replicate i true).map V.bl)
    (fun i ys HX h=>⟨h.1,by rw [h.2.2,List.length_map,List.length_replicate];exact Nat.le_refl _⟩) ⟨upd_same,(Same.refl H).new hacc,rfl⟩ ?_ ?_
  rotate_left
  · rintro i ys HX hi ⟨g1,g2,rfl⟩
    refine ⟨hi,?_⟩
    rw [eN] at hi
    rintro x HX' ⟨rfl,rfl⟩
    have a1:atI (mk L).cps.toList (1+(i:Int) - 1)=some (L[i]'(by omega)):=by rw [show (1+(i:Int) - 1)=(i:Int) by omega];exact atI_nat (List.getElem?_eq_getElem _)
    have a2:atI (mk L).cps.toList (1+(i:Int))=some (L[i+1]'(by omega)):=by rw [show (1+(i:Int))=((i+1:Nat):Int) by omega];exact atI_nat (List.getElem?_eq_getElem _)
    have lt:L[i]'(by omega) < L[i+1]'(by omega):=List.pairwise_iff_getElem.mp pw i (i+1) (by omega) (by omega) (by omega)
    refine ⟨rfl,_,rfl,_,rfl,_,_,rfl,rfl,_,_,_,rfl,rfl,zb,a1,_,rfl,_,rfl,_,_,_,rfl,rfl,zb,a2,_,_,rfl,rfl,g1,upd_same,g2.write hacc,?_⟩
    have e:decide ((⟨#[L[i]'(by omega)]⟩:Str).cps.toList < (⟨#[L[i+1]'(by omega)]⟩:Str).cps.toList)=true:=by
      refine decide_eq_true ?_
      show [L[i]'(by omega)] < [L[i+1]'(by omega)]
      rw [List.cons_lt_cons_iff];exact .inl lt
    rw [e]
    exact trues_snoc i
  rintro ys H1 ⟨g1,s1,rfl⟩
  refine ⟨Nat.le_refl _,acc,_,rfl,SqL.of g1,?_⟩
  rw [trues_all]
  exact q _ s1
def sp_part:Sp:=fun vs H Q _=>∃ (x:Wr) (r:List Nat),vs=[.str (mk (x.txt++r))]∧x.Ok∧(x.txt++r).length≤40∧∀ H',Same H H'→Q (.str (mk x.txt)) H'
theorem has_part (D:Df K mg "part_ahead" s_part_ahead) (B:Blt7 mg):Has P w K mg base "part_ahead" (k+1) ["text"] sp_part:=by
  refine D.has sc_part_ahead (fun _ _ _ _ _ _=>ar1 fun _=>rfl) (fun vs H Q E h=>by obtain ⟨x,r,rfl,_⟩:=h;rfl) (fun f cdv A outer s H vs Q E hr h=>?_)
  obtain ⟨x,r,rfl,ok,l40,q⟩:=h
  refine ⟨_,(pss_cons (ps_if (pt_not (pt_val (pe_startsK K (pv 0) pe_str)))
  (pss_one (ps_ret (pe_ix ix_str (pv 0) pe_int (fun _ _=>rfl))))
  pss_nil)
  (pss_cons (ps_set (i:=1) sc_part_ahead.nd rfl (by first | exact Or.inl rfl | exact Or.inr rfl) (pe_bm PySem.F.plainAttrs_str PySem.F.slot_str_partition PySem.F.type_str_partition mt_partition (pv 0) (pa_cons pe_str pa_nil)))
  (pss_one (ps_ret (pe_op op_add_str (pe_ix ix_tup (pv 1) pe_int (fun _ _=>rfl)) (pe_ix ix_tup (pv 1) pe_int (fun _ _=>rfl))))))),?_⟩
  first | (dsimp only [cxOf,Cx.nox];generalize hK:K=K';revert K' hK;refine seqK (seqE <| seqE <| fun _=>rfl) ?_) | skip
  have zb:(mk (x.txt++r)).length≤sizeLine:=by rw [mk_len];exact line_le (by omega)
  have e1:Str.ofString "[" = mk [91]:=by decide +kernel
  have e2:Str.ofString "]" = mk [93]:=by decide +kernel
  refine ⟨_,rfl,rfl,_,_,rfl,rfl,_,rfl,?_⟩
  rw [e1]
  cases x with
  | one c=>
    have n91:c≠91:=by have:Lw c:=ok;unfold Lw at this;omega
    rw [show Txt.startswith (mk (Wr.txt (.one c)++r)) (mk [91])=false from (starts_one (a:=c) (l:=r) (b:=91)).trans (decide_eq_false n91)]
    refine iteT ?_
    refine ⟨_,rfl,_,_,_,rfl,rfl,zb,atI_nat (j:=0) (v:=c) rfl,?_⟩
    exact q _ (Same.refl H)
  | dot=>
    rw [show Txt.startswith (mk (Wr.txt .dot++r)) (mk [91])=false from (starts_one (a:=46) (l:=r) (b:=91)).trans (by decide)]
    refine iteT ?_
    refine ⟨_,rfl,_,_,_,rfl,rfl,zb,atI_nat (j:=0) (v:=46) rfl,?_⟩
    exact q _ (Same.refl H)
  | br L=>
    rw [show Txt.startswith (mk (Wr.txt (.br L)++r)) (mk [91])=true by show Txt.startswith (⟨(91 :: ((L++[93])++r)).toArray⟩:Str) ⟨#[91]⟩=true;rw [starts_one];rfl]
    refine iteF ?_
    have n93:93 ∉ 91 :: L:=fun m=>by
      rcases List.mem_cons.mp m with m | m
      · cases m
      · have:=ok.2.1 _ m;unfold W63.Lw at this;omega
    have el:(mk (Wr.txt (.br L)++r)).cps.toList=(91 :: L)++93 :: r:=by rw [mk_cps];show 91 :: (L++[93])++r=_;simp
    obtain ⟨p1,p2⟩:=part_at el n93
    refine ⟨_,rfl,rfl,_,_,rfl,rfl,by rw [e2];rfl,zb,fun t ht=>?_⟩
    rw [e2]
    have s1:Same H (upd H t (.tup [.str (Txt.partition (mk (Wr.txt (.br L)++r)) (mk [93])).1,.str (Txt.partition (mk (Wr.txt (.br L)++r)) (mk [93])).2.1,.str (Txt.partition (mk (Wr.txt (.br L)++r)) (mk [93])).2.2])):=(Same.refl H).new ht
    have g1:(Txt.partition (mk (Wr.txt (.br L)++r)) (mk [93])).1=mk (91 :: L):=p1
    have g2:(Txt.partition (mk (Wr.txt (.br L)++r)) (mk [93])).2.1=mk [93]:=p2
    refine ⟨_,rfl,t,_,_,_,rfl,rfl,SqT.of upd_same,rfl,_,rfl,t,_,_,_,rfl,rfl,SqT.of upd_same,rfl,_,_,rfl,rfl,?_,?_⟩
    · rw [g1,g2,mk_len,mk_len]
      have l40':(91 :: (L++[93])++r).length≤40:=l40
      simp at l40'
      exact line_le (by simp;omega)
    · rw [g1,g2]
      rw [show mk (91 :: L)++mk [93]=mk (Wr.txt (.br L)) from str_ext (by rw [app_list];rfl)]
      rw [g1,g2] at s1
      exact q _ s1
theorem cut_mk (a b:List Nat):cutS (mk (a++b)) (some ((a.length:Nat):Int)) none=mk b:=by
  apply str_ext
  show ((mk (a++b)).cps.toList.drop (HT.sIx (mk (a++b)).length 0 (some ((a.length:Nat):Int)))).take (HT.sIx (mk (a++b)).length (mk (a++b)).length none - HT.sIx (mk (a++b)).length 0 (some ((a.length:Nat):Int)))=b
  rw [mk_cps,mk_len,HT.sIx_nat,HT.sIx_none,List.length_append,Nat.min_eq_left (by omega),List.drop_left]
  exact List.take_of_length_le (by omega)
theorem cut_br (L:List Nat):cutS (mk (91 :: (L++[93]))) (some 1) (some (-1))=mk L:=by
  apply str_ext
  have l:(mk (91 :: (L++[93]))).length=L.length+2:=by rw [mk_len];simp
  show ((mk (91 :: (L++[93]))).cps.toList.drop (HT.sIx (mk (91 :: (L++[93]))).length 0 (some 1))).take (HT.sIx (mk (91 :: (L++[93]))).length (mk (91 :: (L++[93]))).length (some (-1)) - HT.sIx (mk (91 :: (L++[93]))).length 0 (some 1))=L
  have e1:HT.sIx (L.length+2) 0 (some 1)=1:=by simp only [HT.sIx];split <;> omega
  have e2:HT.sIx (L.length+2) (L.length+2) (some (-1))=L.length+1:=by simp only [HT.sIx];split <;> omega
  rw [mk_cps,l,e1,e2]
  show (L++[93]).take (L.length+1 - 1)=L
  rw [Nat.add_sub_cancel,List.take_left]
def sp_lby:Sp:=fun vs H Q _=>∃ x:Wr,vs=[.str (mk x.txt)]∧x.Ok∧x.txt.length≤40∧∀ H',Same H H'→Q (.str (mk x.lets)) H'
theorem has_lby (D:Df K mg "letters_by" s_letters_by) (B:Blt7 mg) (G_is_letters:Has P w K mg base "is_letters" k ["thing"] sp_letters) (G_is_rising:Has P w K mg base "is_rising" k ["things"] sp_rising):Has P w K mg base "letters_by" (k+1) ["part"] sp_lby:=by
  refine D.has sc_letters_by (fun _ _ _ _ _ _=>ar1 fun _=>rfl) (fun vs H Q E h=>by obtain ⟨x,rfl,_⟩:=h;rfl) (fun f cdv A outer s H vs Q E hr h=>?_)
  obtain ⟨x,rfl,ok,l40,q⟩:=h
  obtain ⟨u2,h_LETTERS,r_LETTERS⟩:=B.letters
  refine ⟨_,(pss_cons (ps_if (pt_cmpR op_eq (pv 0) pe_str (nomark _))
  (pss_one (ps_ret (pe_glob (v:=.str "abcdefghijklmnopqrstuvwxyz") rfl h_LETTERS r_LETTERS)))
  pss_nil)
  (pss_cons (ps_set (i:=1) sc_letters_by.nd rfl (by first | exact Or.inl rfl | exact Or.inr rfl) (pe_ifExp (pt_truth (pe_bm PySem.F.plainAttrs_str PySem.F.slot_str_endswith PySem.F.type_str_endswith mt_endswith (pv 0) (pa_cons pe_str pa_nil)) (fun _=>rfl)) (pe_slice sl_str (pv 0) (po_some pe_int) (po_some (pe_un un_neg pe_int))) (pv 0)))
  (pss_cons (ps_if (PW.pt (pw_or (pt_cmpR op_eq (pv 1) pe_str (nomark _)) (pw_or (pt_not (pt_val (pe_callH G_is_letters hr rfl (pa_cons (pv 1) pa_nil)))) (pw_or1 (pt_not (pt_val (pe_callH G_is_rising hr rfl (pa_cons (pv 1) pa_nil))))))))
  (pss_one ps_raise0)
  pss_nil)
  (pss_one (ps_ret (pv 1)))))),?_⟩
  first | (dsimp only [cxOf,Cx.nox];generalize hK:K=K';revert K' hK;refine seqK (seqE <| seqE <| seqE <| fun _=>rfl) ?_) | skip
  obtain ⟨low,pw,ne⟩:=W63.lets_ok x ok
  have ll:=W63.lets_len x ok
  have zb:(mk x.txt).length≤sizeLine:=by rw [mk_len];exact line_le (by omega)
  have e2:Str.ofString "]" = mk [93]:=by decide +kernel
  have e3:Str.ofString "." = mk [46]:=by decide +kernel
  have mi:∀ {a b:List Nat},mk a=mk b→a=b:=fun {a b} h=>by have:=congrArg (fun z:Str=>z.cps.toList) h;exact this
  refine ⟨_,rfl,rfl,_,rfl,?_⟩
  rw [e3]
  by_cases xd:x=.dot
  · subst xd
    refine iteA (decide_eq_true rfl) ?_
    rw [abc_mk]
    exact q _ (Same.refl H)
  refine L2.iteB (decide_eq_false fun e=>xd ?_) ?_
  · have e':mk x.txt=mk [46]:=by injection e
    have:=mi e'
    cases x with
    | one c=>injection this with h _;have:Lw c:=ok;unfold Lw at this;omega
    | dot=>rfl
    | br L=>injection this with h _;cases h
  dsimp only [tNext]
  refine mid (fun σ' H'=>σ'=[some (.str (mk x.txt)),some (.str (mk x.lets))]∧H'=H) ?_ fun E2 nx=>?_
  rotate_left
  · refine ⟨_,rfl,rfl,_,_,rfl,rfl,_,rfl,?_⟩
    rw [e2]
    cases x with
    | one c=>
      refine L2.iteB ?_ ?_
      · have:=ends_one (l:=[]) (a:=c) (b:=93)
        have lc:Lw c:=ok
        unfold Lw at lc
        exact this.trans (decide_eq_false (by omega))
      · exact ⟨_,rfl,nx _ _ ⟨rfl,rfl⟩⟩
    | dot=>exact absurd rfl xd
    | br L=>
      refine iteA ?_ ?_
      · exact (ends_one (l:=91 :: L) (a:=93) (b:=93)).trans (by decide)
      · refine ⟨_,rfl,_,rfl,_,rfl,_,rfl,_,rfl,zb,nx _ _ ⟨?_,rfl⟩⟩
        show [some (V.str (mk (Wr.txt (.br L)))),some (V.str (cutS (mk (91 :: (L++[93]))) (some 1) (some (-1))))]=_
        rw [cut_br];rfl
  rintro σ' H' ⟨rfl,rfl⟩
  have zl:(mk x.lets).length≤60:=by rw [mk_len];omega
  refine ⟨_,rfl,rfl,_,rfl,L2.iteB (decide_eq_false fun e=>?_) ?_⟩
  · have e':mk x.lets=Str.ofString "" := by injection e
    rw [show Str.ofString "" = mk [] by decide +kernel] at e'
    exact ne (mi e')
  refine ⟨_,rfl,_,rfl,zl,low,fun H1 s1=>⟨_,rfl,iteF ?_⟩⟩
  refine ⟨_,rfl,_,rfl,by omega,pw,fun H2 s2=>⟨_,rfl,iteF ?_⟩⟩
  exact ⟨_,rfl,q _ (s1.trans s2)⟩
def sp_items:Sp:=fun vs H Q _=>∃ xs:List Wi,vs=[.str (mk (enc xs))]∧(∀ x∈xs,x.1.Ok)∧(enc xs).length≤40∧∀ (l:Addr) (H':Hp),Same H H'→H l=none→ItsAt H' l (dec xs)→Q (.ref l) H'
theorem has_items (D:Df K mg "items_of" s_items_of) (B:Blt7 mg) (G_part_ahead:Has P w K mg base "part_ahead" k ["text"] sp_part) (G_letters_by:Has P w K mg base "letters_by" k ["part"] sp_lby):Has P w K mg base "items_of" (k+1) ["pattern"] sp_items:=by
  refine D.has sc_items_of (fun _ _ _ _ _ _=>ar1 fun _=>rfl) (fun vs H Q E h=>by obtain ⟨x,rfl,_⟩:=h;rfl) (fun f cdv A outer s H vs Q E hr h=>?_)
  obtain ⟨xs,rfl,ok,l40,q⟩:=h
  obtain ⟨u2,h_MOST_SIGNS,r_MOST_SIGNS⟩:=B.most
  refine ⟨_,(pss_cons (ps_if (PW.pt (pw_or (pt_not (pt_val (pe_callB call_isinst rfl B.isinstance bt_isinstance (pa_cons (pv 0) (pa_cons (pe_bltn (v:=.ty "str") rfl B.str_ bt_str rfl) pa_nil))))) (pw_or1 (pt_cmpR op_gt (pe_callB call_len_str rfl B.len bt_len (pa_cons (pv 0) pa_nil)) (pe_glob (v:=.int 40) rfl h_MOST_SIGNS r_MOST_SIGNS) (nomark _)))))
  (pss_one ps_raise0)
  pss_nil)
  (pss_cons (ps_set (i:=1) sc_items_of.nd rfl (by first | exact Or.inl rfl | exact Or.inr rfl) (pe_lst pa_nil))
  (pss_cons (ps_set (i:=2) sc_items_of.nd rfl (by first | exact Or.inl rfl | exact Or.inr rfl) (pv 0))
  (pss_cons (ps_while PassesOwn.never (pt_cmpR op_ne (pv 2) pe_str (nomark _))
  (pss_cons (ps_set (i:=3) sc_items_of.nd rfl (by first | exact Or.inl rfl | exact Or.inr rfl) (pe_callH G_part_ahead hr rfl (pa_cons (pv 2) pa_nil)))
  (pss_cons (ps_set (i:=2) sc_items_of.nd rfl (by first | exact Or.inl rfl | exact Or.inr rfl) (pe_slice sl_str (pv 2) (po_some (pe_callB call_len_str rfl B.len bt_len (pa_cons (pv 3) pa_nil))) po_none))
  (pss_cons (ps_set (i:=4) sc_items_of.nd rfl (by first | exact Or.inl rfl | exact Or.inr rfl) (pe_bm PySem.F.plainAttrs_str PySem.F.slot_str_startswith PySem.F.type_str_startswith mt_startswith (pv 2) (pa_cons pe_str pa_nil)))
  (pss_cons (ps_if (pt_val (pv 4))
  (pss_one (ps_set (i:=2) sc_items_of.nd rfl (by first | exact Or.inl rfl | exact Or.inr rfl) (pe_slice sl_str (pv 2) (po_some pe_int) po_none)))
  pss_nil)
  (pss_one (ps_expr (pe_bm PySem.F.plainAttrs_list PySem.F.slot_list_append PySem.F.type_list_append mt_append (pv 1) (pa_cons (pe_tup (pa_cons (pe_callH G_letters_by hr rfl (pa_cons (pv 3) pa_nil)) (pa_cons (pv 4) pa_nil))) pa_nil)))))))))
  (pss_one (ps_ret (pv 1))))))),?_⟩
  first | (dsimp only [cxOf,Cx.nox];generalize hK:K=K';revert K' hK;refine seqK (seqE <| seqE <| seqE <| seqE <| fun _=>rfl) ?_) | skip
  have zb:(mk (enc xs)).length≤sizeLine:=by rw [mk_len];exact line_le (by omega)
  have e1:Str.ofString "*" = mk [42]:=by decide +kernel
  have e0:Str.ofString "" = mk []:=by decide +kernel
  have mi:∀ {a b:List Nat},mk a=mk b→a=b:=fun {a b} h=>by have:=congrArg (fun z:Str=>z.cps.toList) h;exact this
  refine ⟨_,rfl,_,_,_,true,rfl,.str _,kit_same _ _,_,rfl,iteF ?_⟩
  refine ⟨_,rfl,_,rfl,zb,_,_,rfl,rfl,_,rfl,L2.iteB (decide_eq_false (by rw [mk_len];omega)) ?_⟩
  refine ⟨line_le (show 0≤1000 by omega),fun l hl=>?_⟩
  refine ⟨_,rfl,?_⟩
  refine ⟨fun m σ H''=>∃ (done todo:List Wi) (o3 o4:Option V),xs=done++todo∧σ=[some (.str (mk (enc xs))),some (.ref l),some (.str (mk (enc todo))),o3,o4]∧Same H H''∧ItsAt H'' l (dec done)∧m=todo.length,
    ⟨_,[],xs,none,none,rfl,rfl,(Same.refl H).new hl,⟨[],upd_same,rfl,fun i x e=>by cases e⟩,rfl⟩,?_⟩
  rintro m σ H2 ⟨done,todo,o3,o4,ex,rfl,s2,it,rfl⟩
  refine ⟨_,rfl,rfl,_,rfl,ite2 (fun cnd=>?_) (fun cnd=>?_)⟩
  rotate_left
  · have e:todo=[]:=by
      cases todo with
      | nil=>rfl
      | cons x rest=>
        refine absurd ?_ cnd
        rw [decide_eq_false ?_]
        · rfl
        intro z
        have z':mk (enc (x :: rest))=Str.ofString "" := by injection z
        rw [e0] at z'
        have:=congrArg List.length (mi z')
        rw [W63.enc_cons,List.length_append,List.length_nil] at this
        have:=W63.txt_pos x.1
        omega
    subst e
    rw [List.append_nil] at ex
    subst ex
    exact ⟨_,rfl,q _ _ s2 hl it⟩
  cases todo with
  | nil=>
    exact absurd cnd (by rw [e0];simp [enc])
  | cons x rest=>
    have okx:=ok x (by rw [ex];simp)
    have okr:∀ y∈rest,y.1.Ok:=fun y hy=>ok y (by rw [ex];simp [hy])
    have lx:(enc (x :: rest)).length≤40:=by rw [ex,W63.enc_app,List.length_append] at l40;omega
    have ec:=W63.enc_cons x rest
    rw [ec] at lx
    have lx2:=lx
    rw [List.length_append] at lx2
    refine ⟨_,fun σ' H3 h=>h,?_⟩
    refine ⟨_,rfl,x.1,star x.2++enc rest,by rw [ec];rfl,okx,lx,fun H3 s3=>?_⟩
    refine ⟨_,rfl,_,rfl,_,rfl,by rw [mk_len];exact line_le (by omega),_,rfl,_,rfl,by rw [mk_len,ec];exact line_le (by omega),?_⟩
    rw [ec,mk_len,cut_mk]
    have sw:Txt.startswith (mk (star x.2++enc rest)) (mk [42])=x.2:=by
      cases x.2 with
      | true=>exact (starts_one (a:=42) (l:=enc rest) (b:=42)).trans (by decide)
      | false=>
        rcases W63.enc_head rest okr with e | ⟨c,r,e,n⟩
        · show Txt.startswith (mk ([]++enc rest)) (mk [42])=false
          rw [e];exact starts_nil
        · show Txt.startswith (mk ([]++enc rest)) (mk [42])=false
          rw [e];exact (starts_one (a:=c) (l:=r) (b:=42)).trans (decide_eq_false n)
    refine ⟨_,rfl,rfl,_,_,rfl,rfl,?_⟩
    rw [e1,sw]
    dsimp only [gName]
    refine mid (fun σ' H'=>σ'=[some (.str (mk (enc xs))),some (.ref l),some (.str (mk (enc rest))),some (.str (mk x.1.txt)),some (.bl x.2)]∧H'=H3) ?_ fun E2 nx=>?_
    rotate_left
    · refine ⟨_,rfl,_,rfl,?_⟩
      cases hx:x.2 with
      | true=>
        refine iteT ?_
        refine ⟨_,rfl,_,rfl,_,rfl,by rw [mk_len];exact line_le (by simp [star,hx] at lx2 ⊢;omega),nx _ _ ⟨?_,rfl⟩⟩
        have:=cut_mk [42] (enc rest)
        rw [hx]
        show [_,_,some (V.str (cutS (mk ([42]++enc rest)) (some 1) none)),_,_]=_
        rw [show (some (1:Int))=some (([42]:List Nat).length:Int) from rfl,this]
      | false=>
        refine iteF ?_
        exact nx _ _ ⟨by rw [hx];rfl,rfl⟩
    rintro σ' H' ⟨rfl,rfl⟩
    obtain ⟨vs,hv,lv,at_⟩:=it.same s3
    refine ⟨_,rfl,.inl ⟨rfl,_,SqL.of hv⟩,_,rfl,x.1,rfl,okx,by omega,fun H4 s4=>?_⟩
    refine ⟨_,rfl,line_le (show 2≤1000 by omega),fun t ht=>?_⟩
    have hv4:=s4 _ _ hv
    have lt:l≠t:=ne_of_none hv4 ht
    have s5:Same H4 (upd H4 t (.tup [.str (mk x.1.lets),.bl x.2])):=(Same.refl H4).new ht
    have dl:done.length≤40:=by
      have:=W63.dec_len done
      have h1:∀ ys:List Wi,ys.length≤(enc ys).length:=fun ys=>by
        induction ys with
        | nil=>exact Nat.zero_le _
        | cons y ys ih=>rw [W63.enc_cons,List.length_append,List.length_append,List.length_cons];have:=W63.txt_pos y.1;omega
      have:=h1 done
      rw [ex,W63.enc_app,List.length_append] at l40
      omega
    have dl2:=W63.dec_len done
    refine ⟨l,vs,_,rfl,rfl,s5 _ _ hv4,Nat.lt_of_lt_of_le (show vs.length < 1000 by omega) (line_le (Nat.le_refl _)),?_⟩
    refine ⟨rest.length,by simp,done++[x],rest,_,_,by rw [ex];simp,rfl,((s2.trans s3).trans (s4.trans s5)).write hl,⟨vs++[.ref t],upd_same,by rw [List.length_append,lv,W63.dec_len,W63.dec_len,List.length_append];rfl,fun i y e=>?_⟩,rfl⟩
    have ed:dec (done++[x])=dec done++[(x.1.lets,x.2)]:=by unfold dec;rw [List.map_append];rfl
    rw [ed] at e
    rcases Nat.lt_or_ge i (dec done).length with h | h
    · rw [List.getElem?_append_left h] at e
      obtain ⟨a,e1,e2⟩:=at_ i y e
      refine ⟨a,by rw [List.getElem?_append_left (by omega)];exact e1,?_⟩
      have:=s5 _ _ (s4 _ _ e2)
      have na:a≠l:=fun z=>by rw [z,s5 _ _ hv4] at this;cases this
      rw [upd_ne na];exact this
    · rw [List.getElem?_append_right h] at e
      have hi:i=(dec done).length:=by
        have:=(List.getElem?_eq_some_iff.mp e).1
        simp at this
        omega
      rw [hi,Nat.sub_self] at e
      injection e with e
      subst e
      refine ⟨t,by rw [hi,List.getElem?_append_right (by omega),lv,Nat.sub_self];rfl,?_⟩
      rw [upd_ne (Ne.symm lt)];exact upd_same
end
end S65
namespace L2
open PySem PySem.Spec PyProof.Rows PySem.W
theorem stored_le (kvs:List (Key × Value)) (k:Key) (v:Value):(stored kvs k v).length≤kvs.length+1:=by
  unfold stored
  split
  · rw [List.length_map];omega
  · rw [List.length_append];exact Nat.le_refl _
theorem merged_le:∀ (kvs more:List (Key × Value)),(merged kvs more).length≤kvs.length+more.length
  | kvs,[]=>Nat.le_refl _
  | kvs,m :: more=>by
    have:=merged_le (stored kvs m.1 m.2) more
    have:=stored_le kvs m.1 m.2
    show (merged (stored kvs m.1 m.2) more).length≤_
    rw [List.length_cons];omega
section
variable {prog:Program} {w:World} {A:Around} {E:Value→Shared→Prop}
theorem dict_loopM {l I D:Addr} {items:Array Value} {ps:List (Key × Value)} {R:Result→Shared→Prop} (hh:A.handled=none) (lI:l≠I) (DI:D≠I) (Dl:D≠l) (nI:∀ a:Addr,Value.ref a∈items→a≠I) (hn:items.size < 10000) :
    ∀ (n i:Nat) (s:Shared),items.size - i=n→i≤items.size→s.heap.IsListIter I l i→s.heap.IsList l items→DPrs s.heap D items ps→s.heap.DictOf (mixKind prog w) D (merged [] (ps.take i)) →
      (∀ h' tk,(∀ b o,b≠I→b≠D→s.heap.get? b=some o→h'.get? b=some o)→h'.DictOf (mixKind prog w) D (merged [] ps)→R (.ok (.ret .none)) { s with heap:=h',toks:=tk }) →
      codeAny (model prog w) A (.builtin "dict.update.loop" ⟨[.ref D,.ref I,rawInt i,.none],[]⟩) R s
  | 0,i,s,hk,hi,h1,h2,h3,h4,h=>by
    have ei:i=items.size:=by omega
    subst ei
    refine codeAny_builtin entry_dict_loop ?_
    rw [Around.under_plainId plain_dict_loop _]
    show wpAny _ A.in1 (pyNext (.ref I) >>= _) _ _ s
    have Wk:=Walks.list (prog:=prog) (w:=w) (A:=A.in1) hh I l lI items
    refine wpAny_bind (Wk.done s _ _ ⟨h1,h2⟩ fun h' tk kp=>?_)
    refine wpAny_bind (m:=Builtin.Dict.addKeywords D []) (wpAny_pure (wpAny_pure ?_))
    refine h h' tk (fun b o n1 _ e=>kp b o (by simpa using n1) e) ?_
    rw [List.take_of_length_le (by rw [h3.1];exact Nat.le_refl _)] at h4
    obtain ⟨o,es,ep,e,r⟩:=h4
    exact ⟨o,es,ep,kp D o (by simpa using DI) e,r⟩
  | n+1,i,s,hk,hi,h1,h2,h3,h4,h=>by
    have il:i < items.size:=by omega
    refine codeAny_builtin entry_dict_loop ?_
    rw [Around.under_plainId plain_dict_loop _]
    show wpAny _ A.in1 (pyNext (.ref I) >>= _) _ _ s
    have Wk:=Walks.list (prog:=prog) (w:=w) (A:=A.in1) hh I l lI items
    refine wpAny_bind (Wk.item i s _ _ il ⟨h1,h2⟩ fun v h' tk hP hSt kp=>?_)
    obtain ⟨pk,pv,hps⟩:∃ pk pv,ps[i]?=some (pk,pv):=⟨_,_,List.getElem?_eq_getElem (by rw [h3.1];exact il)⟩
    obtain ⟨a,ku,ha,hD,hk',tup⟩:=h3.2 i pk pv hps
    have ev:v=.ref a:=Option.some.inj (hP.symm.trans ha)
    subst ev
    have aI:a≠I:=nI a (Array.mem_of_getElem? ha)
    obtain ⟨o,e1,e2,n2,e3⟩:=tup
    have e1':=kp a o (by simpa using aI) e1
    have hTt:(Shared.mk h' s.gens s.drawn tk s.os).TypeIs (.ref a) "tuple" := ⟨o,e1',e2⟩
    have h4':h'.DictOf (mixKind prog w) D (merged [] (ps.take i)):=by
      obtain ⟨o,es,ep,e,r⟩:=h4
      exact ⟨o,es,ep,kp D o (by simpa using DI) e,r⟩
    dsimp only
    refine wpAny_bind (wpAny_holding ?_)
    refine wpAny_bind (wpAny_tryCatch ?_)
    unfold Builtin.Dict.pairItems
    refine wpAny_bind (wpAny_typeOf hTt ?_)
    rw [if_pos (by decide)]
    refine wpAny_bind ?_
    unfold seqItems?
    refine wpAny_bind (wpAny_load e1' ?_)
    rw [e3]
    refine wpAny_pure (wpAny_pure ?_)
    refine wpAny_holding (wpAny_dictSet_pairs (kV_is hk') h4' (fun h2' dd sb=>?_) (Nat.le_of_lt (small10000 (by have:=merged_le [] (ps.take i);rw [List.length_take] at this;have:=Nat.min_le_left i ps.length;simp at *;omega))))
    refine wpAny_pure ⟨plainId_quiet plain_dict_loop _,?_⟩
    rw [← merged_take_succ [] ps i _ hps] at dd
    have kk:∀ b o,b≠I→b≠D→s.heap.get? b=some o→h2'.get? b=some o:=fun b o n1 n2 e=>(sb.2 b n2).trans (kp b o (by simpa using n1) e)
    refine dict_loopM hh lI DI Dl nI hn n (i+1) { s with heap:=h2',toks:=tk+1 } (by omega) (by omega) ?_ ?_ (h3.keeps nI kk) dd fun h5 tk5 k5 d5=>?_
    · exact hSt.1.at fun o e=>(sb.2 I (Ne.symm DI)).trans e
    · obtain ⟨o,e,r⟩:=hSt.2
      exact ⟨o,(sb.2 l (Ne.symm Dl)).trans e,r⟩
    · exact h h5 tk5 (fun b o n1 n2 e=>k5 b o n1 n2 (kk b o n1 n2 e)) d5
end
section
variable {prog:Program} {w:World} {A:Around} {E:Value→Shared→Prop} {s:Shared}
theorem dict_prsM {l:Addr} {items:List Value} {n:Nat} {ps:List (Key × Value)} {Q:Value→Shared→Prop} (hh:A.handled=none) (hl:s.heap.get? l=some { cls:=.type "list", data:=.seq items.toArray n }) (hps:DPrs s.heap s.heap.objs.size items.toArray ps) (hn:items.length < 10000)
    (h:∀ h' tk,(∀ b o,s.heap.get? b=some o→h'.get? b=some o)→h'.DictOf (mixKind prog w) s.heap.objs.size (merged [] ps)→Q (.ref s.heap.objs.size) { s with heap:=h',toks:=tk }) :
    wpAny (model prog w) A (call (.type "dict") [.ref l]) Q E s:=by
  have hlt:l < s.heap.objs.size:=Heap.lt_size hl
  refine callType_codes (Q₁:=fun obj s₁=>obj=.ref s.heap.objs.size∧s₁={ s with heap:=s.heap.push { cls:=.type "dict", data:=.dict #[] } }) F.kt_called_dict (F.kt_typeCall_dict_1 _) F.entry_dict_init (kt_code_dict_new _ ⟨rfl,rfl⟩) ?_
  rintro obj s₁ ⟨rfl,rfl⟩
  have hnew:(s.heap.push { cls:=.type "dict", data:=.dict #[] }).DictOf (mixKind prog w) s.heap.objs.size []:=Heap.DictOf.new s.heap
  refine ⟨hnew.typeIs,F.args_dict_init_2 _ _,?_⟩
  unfold Builtin.«dict.__init__»
  refine wpAny_bind ?_
  unfold Builtin.Dict.selfAndRest
  refine wpAny_bind (wpAny_notOrdered_dict hnew.typeIs ?_)
  show wpAny _ _ (pure (s.heap.objs.size,[Value.ref l])) _ _ _
  refine wpAny_pure ?_
  show wpAny _ _ (Builtin.Dict.updateFrom "dict.__init__" s.heap.objs.size (.ref l) [] .none) _ _ _
  unfold Builtin.Dict.updateFrom
  have hl1:(s.heap.push { cls:=.type "dict", data:=.dict #[] }).get? l=some { cls:=.type "list", data:=.seq items.toArray n }:=Heap.get?_push_of_some _ hl
  have hT:(Shared.mk (s.heap.push { cls:=.type "dict", data:=.dict #[] }) s.gens s.drawn s.toks s.os).TypeIs (.ref l) "list" := ⟨_,hl1,rfl⟩
  refine wpAny_bind (wpAny_typeOf hT ?_)
  rw [if_pos (by decide)]
  refine wpAny_bind (keys_none hl1 hh fun h2 tk2 k2=>?_)
  rw [if_pos (by rfl)]
  refine wpAny_bind (wpAny_rule ?_)
  have hl2:=k2 _ _ hl1
  refine wpAny_bind (wpAny_pyIter_list (s:={ s with heap:=h2,toks:=tk2 }) (items:=items.toArray) ⟨_,hl2,rfl,n,rfl⟩ ?_)
  refine wpAny_pure ⟨plainId_quiet plain_dict_loop _,?_⟩
  have D2:s.heap.objs.size < h2.objs.size:=by
    obtain ⟨o,es,ep,e,_⟩:=hnew
    exact Heap.lt_size (k2 _ _ e)
  have l2:l < h2.objs.size:=Heap.lt_size hl2
  have k02:∀ b o,s.heap.get? b=some o→h2.get? b=some o:=fun b o e=>k2 _ _ (Heap.get?_push_of_some _ e)
  have tlt:∀ a:Addr,Value.ref a∈items.toArray→a < s.heap.objs.size:=fun a ha=>by
    obtain ⟨j,hj,e⟩:=Array.getElem_of_mem ha
    have hj':j < ps.length:=by rw [hps.1];exact hj
    obtain ⟨a',ku,ha',_,_,o,e1,_⟩:=hps.2 j ps[j].1 ps[j].2 (List.getElem?_eq_getElem hj')
    have:a'=a:=by
      have e2:items.toArray[j]?=some (Value.ref a):=by rw [Array.getElem?_eq_getElem hj,e]
      rw [ha'] at e2
      cases e2;rfl
    subst this
    exact Heap.lt_size e1
  refine dict_loopM (l:=l) (D:=s.heap.objs.size) (ps:=ps) (show A.in1.handled=none from hh) (Nat.ne_of_lt l2) (Nat.ne_of_lt D2) (Nat.ne_of_gt hlt) (fun a ha=>Nat.ne_of_lt (Nat.lt_trans (tlt a ha) D2)) (by rw [List.size_toArray];exact hn) items.toArray.size 0 { s with heap:=h2.push { cls:=.type "list_iterator", data:=.fields #[.ref l,.int 0 0] },toks:=tk2 } (Nat.sub_zero _) (Nat.zero_le _) ⟨_,Heap.get?_push_size _ rfl,rfl,rfl⟩ ⟨_,Heap.get?_push_of_some _ hl2,rfl,n,rfl⟩ ?_ ?_ fun h' tk kp hd=>?_
  · refine ⟨hps.1,fun j k v e=>?_⟩
    obtain ⟨a,ku,ha,hD,hk,o,e1,e2⟩:=hps.2 j k v e
    exact ⟨a,ku,ha,hD,hk,o,Heap.get?_push_of_some _ (k02 _ _ e1),e2⟩
  · obtain ⟨o,es,ep,e,r⟩:=hnew
    exact ⟨o,es,ep,Heap.get?_push_of_some _ (k2 _ _ e),r⟩
  · exact ⟨rfl,h h' tk (fun b o e=>kp b o (Nat.ne_of_lt (Nat.lt_trans (Heap.lt_size e) D2)) (Nat.ne_of_lt (Heap.lt_size e)) (Heap.get?_push_of_some _ (k02 _ _ e))) hd⟩
end
section
variable {X:Cx}
theorem call_dict_prsM (hc:X.calm=true):CallR X (.type "dict") (fun vs H Q=>∃ (l:Addr) (as:List Addr) (kvs:List (Key × V)),vs=[.ref l]∧H l=some (.lst (as.map V.ref))∧as.length=kvs.length ∧
    (∀ (j:Nat) a k v,as[j]?=some a→kvs[j]?=some (k,v)→H a=some (.tup [kV k,v]))∧as.length < 10000∧∀ d,H d=none→Q (.ref d) (upd H d (.dK (mergeK [] kvs)))):=by
  intro pins s σ H xs us Q I r h
  obtain ⟨l,as,kvs,rfl,hH,hlen,hT,h1000,q⟩:=h
  obtain ⟨u,rfl,ru⟩:=vals1 r
  cases (show u=Value.ref l from ru)
  obtain ⟨z,its,n,rv,hz,e⟩:=I.lstM hH
  rw [List.length_map] at hz
  have hit:∀ (j:Nat) a,as[j]?=some a→its[j]?=some (Value.ref a):=fun j a ha=>by
    obtain ⟨w',e1,e2⟩:=rv.get (i:=j) (x:=V.ref a) (by rw [List.getElem?_map,ha];rfl)
    cases (show w'=Value.ref a from e2)
    exact e1
  obtain ⟨ps,pr,pq⟩:=build_ps (h:=s.heap) as kvs hlen fun j a k v h1 h2=>by
    obtain ⟨_,its',r',t'⟩:=(show ObjOk X.prog X.w H s.heap a (.tup [kV k,v]) from I.hok a _ (hT j a k v h1 h2))
    cases r' with
    | cons ra rb=>
      cases rb with
      | cons rb rc=>
        cases rc
        exact ⟨_,_,ra,rb,t'⟩
  have hb:sysModules < s.heap.objs.size:=I.big
  have pl:=pr.length
  refine dict_prsM (ps:=ps) (I.ok.hd hc) e ⟨?_,fun j k v e1=>?_⟩ (by omega) fun h' tk kp dd=>?_
  · rw [List.size_toArray];omega
  · obtain ⟨a,ku,ha,hk,t⟩:=pq j k v e1
    refine ⟨a,ku,by rw [List.getElem?_toArray];exact hit j a ha,?_,hk,t⟩
    obtain ⟨o,e2,_⟩:=t
    exact Nat.ne_of_lt (Heap.lt_size e2)
  · refine ⟨.ref s.heap.objs.size,_,I.laid (a:=s.heap.objs.size) (o:=.dK (mergeK [] kvs)) (t':=tk) (fun b o e=>kp b o e) (Nat.le_refl _) (dk_new (Nat.le_of_lt (small10000 (by have:=length_mergeK kvs [];simp at this;omega))) (beq_eq_false_iff_ne.mpr (Ne.symm (Nat.ne_of_lt hb))) (KV.merge pr .nil) dd),rfl,q _ (I.hok.fresh (Nat.le_refl _))⟩
end
theorem val_merge (k:Key) (y:V):∀ (ks:List Key) (kvs:List (Key × V)),(valV (mergeK kvs (ks.map fun j=>(j,y))) k).isSome=true ↔ ((valV kvs k).isSome=true∨k∈ks)
  | [],kvs=>by simp [mergeK]
  | j :: ks,kvs=>by
    show (valV (mergeK (putK kvs j y) (ks.map fun j=>(j,y))) k).isSome=true ↔ _
    rw [val_merge k y ks,valV_put]
    by_cases e:k=j
    · rw [if_pos e,e];simp
    · rw [if_neg e];simp [e]
end L2
namespace S65
open PySem L2 W7
open W63 (Wr Wi enc dec star)
abbrev nV (S:List Nat):List V:=S.map fun s:Nat=>V.int (s:Int)
theorem nV_len (S:List Nat):(nV S).length=S.length:=List.length_map _
theorem nV_snoc (S:List Nat) (s:Nat):nV S++[.int (s:Int)]=nV (S++[s]):=by unfold nV;rw [List.map_append];rfl
def stl (its:List W63.It) (T:Nat→Bool) (n:Nat):List Nat:=(List.range n).filter (W63.cl its T)
theorem stl_succ (its:List W63.It) (T:Nat→Bool) (n:Nat):stl its T (n+1)=stl its T n++(if W63.cl its T n=true then [n] else []):=by
  unfold stl
  rw [List.range_succ,List.filter_append]
  congr 1
  by_cases h:W63.cl its T n=true
  · rw [if_pos h,List.filter_cons_of_pos h];rfl
  · rw [if_neg h,List.filter_cons_of_neg h];rfl
theorem stl_le (its:List W63.It) (T:Nat→Bool) (n:Nat):(stl its T n).length≤n:=by
  have:=List.length_filter_le (W63.cl its T) (List.range n)
  rw [List.length_range] at this;exact this
theorem stl_mem {its:List W63.It} {T:Nat→Bool} {n s:Nat}:s∈stl its T n ↔ s < n∧W63.cl its T s=true:=by
  unfold stl;rw [List.mem_filter,List.mem_range]
theorem its_get {H:Hp} {its:List W63.It} {vs:List V} (h:vs.length=its.length∧∀ (i:Nat) (x:W63.It),its[i]?=some x→∃ a,vs[i]?=some (V.ref a)∧H a=some (.tup [.str (mk x.1),.bl x.2])) {i:Nat} (hi:i < its.length):∃ a,atI vs (i:Int)=some (V.ref a)∧H a=some (.tup [.str (mk (its.getD i ([],false)).1),.bl (its.getD i ([],false)).2]):=by
  obtain ⟨a,e1,e2⟩:=h.2 i _ (List.getElem?_eq_getElem hi)
  refine ⟨a,atI_nat e1,?_⟩
  rw [List.getD_eq_getElem?_getD,List.getElem?_eq_getElem hi];exact e2
section
variable {P:Program} {w:World} {K:PySem.W.Frag} {mg:Str→Option Value} {base:Heap} {k:Nat}
def sp_swith:Sp:=fun vs H Q _=>∃ (l r:Addr) (its:List W63.It) (T:List Nat),vs=[.ref l,.ref r]∧ItsAt H l its∧its.length≤40∧H r=some (.lst (nV T))∧T.length≤100 ∧
  ∀ (q:Addr) (H':Hp),Same H H'→H q=none→H' q=some (.lst (nV (stl its (fun s=>decide (s∈T)) (its.length+1))))→Q (.ref q) H'
theorem has_swith (D:Df K mg "states_with" s_states_with) (B:Blt7 mg):Has P w K mg base "states_with" (k+1) ["items", "states"] sp_swith:=by
  refine D.has sc_states_with (fun _ _ _ _ _ _=>ar2 fun _ _=>rfl) (fun vs H Q E h=>by obtain ⟨l,r,its,T,rfl,_⟩:=h;rfl) (fun f cdv A outer s H vs Q E hr h=>?_)
  obtain ⟨l,r,its,T,rfl,it,l40,hT,T100,q⟩:=h
  refine ⟨_,(pss_cons (ps_set (i:=2) sc_states_with.nd rfl (by first | exact Or.inl rfl | exact Or.inr rfl) (pe_callTy (call_dict_prsM rfl) rfl B.dict_ bt_dict (pa_cons (pe_comp rfl (pi_list (pv 1)) (NL:=["state"]) (ix:=[]) (csc (defScope s_states_with) N_states_with) (fun cl C s₃ H₃ fp pins=>⟨(pg_name (i:=0) (show List.Nodup (["state"]:List Str) from by decide +kernel) rfl (by first | exact Or.inl rfl | exact Or.inr rfl)),pifs_nil,(pe_tup (pa_cons (pv 0) (pa_cons pe_bl pa_nil)))⟩)) pa_nil)))
  (pss_cons (ps_set (i:=3) sc_states_with.nd rfl (by first | exact Or.inl rfl | exact Or.inr rfl) (pe_lst pa_nil))
  (pss_cons (ps_for PassesOwn.never rfl (pi_range1 rfl B.range (pa_cons (pe_op op_add (pe_callB call_len_seq rfl B.len bt_len (pa_cons (pv 0) pa_nil)) pe_int) pa_nil)) (pg_name (i:=4) sc_states_with.nd rfl (by first | exact Or.inl rfl | exact Or.inr rfl))
  (pss_one (ps_if (PW.pt (pw_or (pt_cmp (pc_din (hu_of hr) (pv 4) (pv 2)) (by with_unfolding_all rfl)) (pw_or1 (PW.pt (pw_and (pt_truth (pv 3) (fun _=>rfl)) (pw_and (pt_cmpR op_eq (pe_ix ix_list (pv 3) (pe_un un_neg pe_int) (fun _ _=>rfl)) (pe_op op_sub (pv 4) pe_int) (nomark _)) (pw_and1 (pt_val (pe_ix ix_tup (pe_ix ix_list (pv 0) (pe_op op_sub (pv 4) pe_int) (fun _ _=>rfl)) pe_int (fun _ _=>rfl))))))))))
  (pss_one (ps_expr (pe_bm PySem.F.plainAttrs_list PySem.F.slot_list_append PySem.F.type_list_append mt_append (pv 3) (pa_cons (pv 4) pa_nil))))
  pss_nil)))
  (pss_one (ps_ret (pv 3)))))),?_⟩
  first | (dsimp only [cxOf,Cx.nox];generalize hK:K=K';revert K' hK;refine seqK (seqE <| seqE <| seqE <| fun _=>rfl) ?_) | skip
  refine ⟨_,rfl,r,rfl,⟨_,SqL.of hT⟩,fun acc hacc=>?_⟩
  refine comp_lst (K:=K) (a:=r) (xs:=nV T) (by rw [nV_len];omega) (fun i ys HX=>HX acc=some (.lst ys)∧Same H HX∧∃ as:List Addr,ys=as.map V.ref∧as.length=i∧∀ (j:Nat) (a:Addr) (t:Nat),as[j]?=some a→T[j]?=some t→HX a=some (.tup [.int (t:Int),.bl true]))
    (fun i ys HX h=>SqL.of (h.2.1 _ _ hT)) (fun i ys HX h=>⟨h.1,by obtain ⟨as,e,e2,_⟩:=h.2.2;rw [e,List.length_map];omega⟩) ⟨upd_same,(Same.refl H).new hacc,[],rfl,rfl,fun j a t e=>by cases e⟩ ?_ ?_
  rotate_left
  · rintro i x ys HX hx ⟨g1,g2,as,rfl,la,ha⟩
    rw [List.getElem?_map] at hx
    cases e1:T[i]? with
    | none=>rw [e1] at hx;cases hx
    | some t=>
      rw [e1] at hx
      cases hx
      refine ⟨rfl,_,rfl,line_le (show 2≤1000 by omega),fun tt htt=>?_⟩
      have ne:acc≠tt:=ne_of_none g1 htt
      have s1:Same HX (upd HX tt (.tup [.int (t:Int),.bl true])):=(Same.refl HX).new htt
      refine ⟨s1 _ _ g1,upd_same,(g2.trans s1).write hacc,as++[tt],by rw [List.map_append];rfl,by rw [List.length_append,la];rfl,fun j a t' e2 e3=>?_⟩
      rcases Nat.lt_or_ge j as.length with h | h
      · rw [List.getElem?_append_left h] at e2
        have:=s1 _ _ (ha j a t' e2 e3)
        have na:a≠acc:=fun z=>by rw [z,s1 _ _ g1] at this;cases this
        rw [upd_ne na];exact this
      · rw [List.getElem?_append_right h] at e2
        have hj:j=as.length:=by
          have:=(List.getElem?_eq_some_iff.mp e2).1
          simp at this
          omega
        rw [hj,Nat.sub_self] at e2
        cases e2
        rw [hj,la,e1] at e3
        cases e3
        rw [upd_ne (Ne.symm ne)];exact upd_same
  rintro ys H1 ⟨g1,s1,as,rfl,la,ha⟩
  rw [nV_len] at la
  refine ⟨acc,as,(T.map fun t:Nat=>(Sum.inl (t:Int):Key)).map fun j=>(j,V.bl true),rfl,g1,by rw [List.length_map,List.length_map];exact la,fun j a kk v e1 e2=>?_,by omega,fun d hd=>?_⟩
  · rw [List.getElem?_map,List.getElem?_map] at e2
    cases e3:T[j]? with
    | none=>rw [e3] at e2;cases e2
    | some t=>
      rw [e3] at e2
      cases e2
      exact ha j a t e1 e3
  have hd1:upd H1 d (.dK (mergeK [] ((T.map fun t:Nat=>(Sum.inl (t:Int):Key)).map fun j=>(j,V.bl true)))) d=some (.dK (mergeK [] ((T.map fun t:Nat=>(Sum.inl (t:Int):Key)).map fun j=>(j,V.bl true)))):=upd_same
  have s2:Same H (upd H1 d (.dK (mergeK [] ((T.map fun t:Nat=>(Sum.inl (t:Int):Key)).map fun j=>(j,V.bl true))))):=s1.new hd
  show (fun HH=>_) (upd H1 d (.dK (mergeK [] ((T.map fun t:Nat=>(Sum.inl (t:Int):Key)).map fun j=>(j,V.bl true)))))
  generalize upd H1 d (.dK (mergeK [] ((T.map fun t:Nat=>(Sum.inl (t:Int):Key)).map fun j=>(j,V.bl true))))=H2 at hd1 s2
  have inT:∀ s:Nat,(valV (mergeK [] ((T.map fun t:Nat=>(Sum.inl (t:Int):Key)).map fun j=>(j,V.bl true))) (Sum.inl (s:Int))).isSome=decide (s∈T):=fun s=>by
    rw [Bool.eq_iff_iff,val_merge,decide_eq_true_eq]
    constructor
    · rintro (z | z)
      · cases z
      · obtain ⟨t,ht,e⟩:=List.mem_map.mp z
        injection e with e
        have:t=s:=by omega
        rw [← this];exact ht
    · exact fun h=>.inr (List.mem_map.mpr ⟨s,h,rfl⟩)
  generalize mergeK [] ((T.map fun t:Nat=>(Sum.inl (t:Int):Key)).map fun j=>(j,V.bl true))=kvs at hd1 inT
  refine ⟨line_le (show 0≤1000 by omega),fun fo hfo=>?_⟩
  obtain ⟨vs,hl,lv,at_⟩:=it
  have hl2:=s2 _ _ hl
  have fd:d≠fo:=ne_of_none hd1 hfo
  have Hfo:H fo=none:=s2.free hfo
  have s3:Same H (upd H2 fo (.lst [])):=s2.new hfo
  refine ⟨_,rfl,l,_,rfl,.inl (SqL.of (s3 _ _ hl)),_,_,rfl,rfl,_,rfl,by omega,by omega,?_⟩
  rw [lv]
  have en:(((its.length:Nat):Int)+1).toNat=its.length+1:=by omega
  rw [en]
  refine for_range (lo:=0) (n:=its.length+1) (fun i σ HX=>∃ o4:Option V,σ=[some (.ref l),some (.ref r),some (.ref d),some (.ref fo),o4]∧Same H HX∧HX d=some (.dK kvs)∧HX fo=some (.lst (nV (stl its (fun s=>decide (s∈T)) i)))) ⟨none,rfl,s3,by rw [upd_ne fd];exact hd1,upd_same⟩ ?_ ?_
  · rintro i σ HX hi ⟨o4,rfl,sX,hdX,hfX⟩
    have hlX:=sX _ _ hl
    have e0:(0:Int)+(i:Int)=(i:Int):=Int.zero_add _
    have hls:=stl_le its (fun s=>decide (s∈T)) i
    rw [e0]
    have app:W63.cl its (fun s=>decide (s∈T)) i=true→HX fo=some (.lst (nV (stl its (fun s=>decide (s∈T)) i)))∧(nV (stl its (fun s=>decide (s∈T)) i)).length < sizeLine∧Same H (upd HX fo (.lst (nV (stl its (fun s=>decide (s∈T)) i)++[.int (i:Int)])))∧upd HX fo (.lst (nV (stl its (fun s=>decide (s∈T)) i)++[.int (i:Int)])) d=some (.dK kvs)∧upd HX fo (.lst (nV (stl its (fun s=>decide (s∈T)) i)++[.int (i:Int)])) fo=some (.lst (nV (stl its (fun s=>decide (s∈T)) (i+1)))):=fun c=>by
      refine ⟨hfX,Nat.lt_of_lt_of_le (show _ < 1000 by rw [nV_len];omega) (line_le (Nat.le_refl _)),sX.write Hfo,by rw [upd_ne fd];exact hdX,?_⟩
      rw [upd_same,stl_succ,if_pos c,nV_snoc]
    refine ⟨_,rfl,_,rfl,d,_,rfl,DGet.k (k:=Sum.inl (i:Int)) hdX,_,rfl,?_⟩
    have stay:W63.cl its (fun s=>decide (s∈T)) i=false→HX fo=some (.lst (nV (stl its (fun s=>decide (s∈T)) (i+1)))):=fun c=>by
      rw [hfX,stl_succ,c,if_neg (by decide),List.append_nil]
    by_cases hin:i∈T
    · refine iteA ((inT i).trans (decide_eq_true hin)) ?_
      refine iteT ?_
      obtain ⟨a1,a2,a3,a4,a5⟩:=app (by cases i with | zero=>exact decide_eq_true hin | succ j=>rw [W63.cl,decide_eq_true hin];rfl)
      exact ⟨_,rfl,.inl ⟨rfl,_,SqL.of hfX⟩,_,rfl,fo,_,_,rfl,rfl,a1,a2,_,rfl,a3,a4,a5⟩
    refine L2.iteB ((inT i).trans (decide_eq_false hin)) ?_
    refine ⟨_,rfl,_,.inl ⟨_,SqL.of hfX,rfl⟩,?_⟩
    cases i with
    | zero=>
      refine L2.iteB rfl ?_
      refine iteF ?_
      exact ⟨_,rfl,sX,hdX,stay (decide_eq_false hin)⟩
    | succ j=>
      have ec:W63.cl its (fun s=>decide (s∈T)) (j+1)=(W63.cl its (fun s=>decide (s∈T)) j && W63.st its j):=by rw [W63.cl,decide_eq_false hin,Bool.false_or]
      have ej:((j+1:Nat):Int) - 1=(j:Int):=by omega
      by_cases cj:W63.cl its (fun s=>decide (s∈T)) j=true
      · have es:nV (stl its (fun s=>decide (s∈T)) (j+1))=nV (stl its (fun s=>decide (s∈T)) j)++[.int (j:Int)]:=by rw [stl_succ,if_pos cj,← nV_snoc]
        have al:atI (nV (stl its (fun s=>decide (s∈T)) (j+1))) (-1)=some (.int (j:Int)):=by rw [es];exact atI_last _ _
        refine iteA (by rw [es];simp) ?_
        refine ⟨_,rfl,_,rfl,fo,_,_,_,rfl,rfl,SqL.of hfX,al,_,rfl,_,_,rfl,rfl,rfl,_,rfl,?_⟩
        refine iteA (decide_eq_true (by show V.int (j:Int)=V.int (((j+1:Nat):Int) - 1);rw [ej])) ?_
        obtain ⟨ia,ie1,ie2⟩:=its_get (H:=H) ⟨lv,at_⟩ (i:=j) (by omega)
        refine ⟨_,rfl,_,rfl,_,_,rfl,rfl,l,_,_,_,rfl,rfl,SqL.of hlX,by rw [ej];exact ie1,ia,_,_,_,rfl,rfl,SqT.of (sX _ _ ie2),rfl,_,rfl,?_⟩
        cases sj:W63.st its j with
        | true=>
          refine iteA sj ?_
          obtain ⟨a1,a2,a3,a4,a5⟩:=app (by rw [ec,cj,sj];rfl)
          exact ⟨_,rfl,.inl ⟨rfl,_,SqL.of hfX⟩,_,rfl,fo,_,_,rfl,rfl,a1,a2,_,rfl,a3,a4,a5⟩
        | false=>
          refine L2.iteB sj ?_
          exact ⟨_,rfl,sX,hdX,stay (by rw [ec,sj];simp)⟩
      · have st':=stay (by rw [ec,Bool.eq_false_iff.mpr cj];rfl)
        rcases List.eq_nil_or_concat (stl its (fun s=>decide (s∈T)) (j+1)) with e | ⟨ys,t,e⟩
        · refine L2.iteB (by rw [e];rfl) ?_
          refine iteF ?_
          exact ⟨_,rfl,sX,hdX,st'⟩
        · have es:nV (stl its (fun s=>decide (s∈T)) (j+1))=nV ys++[.int (t:Int)]:=by rw [e,List.concat_eq_append,← nV_snoc]
          have al:atI (nV (stl its (fun s=>decide (s∈T)) (j+1))) (-1)=some (.int (t:Int)):=by rw [es];exact atI_last _ _
          have tm:t∈stl its (fun s=>decide (s∈T)) (j+1):=by rw [e];simp
          have tj:t≠j:=fun z=>cj (by rw [← z];exact (stl_mem.mp tm).2)
          refine iteA (by rw [es];simp) ?_
          refine ⟨_,rfl,_,rfl,fo,_,_,_,rfl,rfl,SqL.of hfX,al,_,rfl,_,_,rfl,rfl,rfl,_,rfl,?_⟩
          refine L2.iteB (decide_eq_false fun z=>tj ?_) ?_
          · have z':V.int (t:Int)=V.int (((j+1:Nat):Int) - 1):=z
            injection z' with z'
            omega
          · refine iteF ?_
            exact ⟨_,rfl,sX,hdX,st'⟩
  · rintro σ HX ⟨o4,rfl,sX,hdX,hfX⟩
    exact ⟨_,rfl,q fo HX sX Hfo hfX⟩
def byl (its:List W63.It) (S:List Nat) (c:Nat):List Nat:=(S.filter fun s=>decide (s < its.length) && decide (c∈(its.getD s ([],false)).1)).map fun s=>if W63.st its s=true then s else s+1
def sp_sby:Sp:=fun vs H Q _=>∃ (l r:Addr) (its:List W63.It) (S:List Nat) (c:Nat),vs=[.ref l,.ref r,.str ⟨#[c]⟩]∧ItsAt H l its∧its.length≤40∧H r=some (.lst (nV S))∧S.length≤41 ∧
  ∀ (q:Addr) (H':Hp),Same H H'→H q=none→H' q=some (.lst (nV (byl its S c)))→Q (.ref q) H'
theorem has_sby (D:Df K mg "states_by" s_states_by) (B:Blt7 mg):Has P w K mg base "states_by" (k+1) ["items", "states", "letter"] sp_sby:=by
  refine D.has sc_states_by (fun _ _ _ _ _ _=>ar3 fun _ _ _=>rfl) (fun vs H Q E h=>by obtain ⟨l,r,its,S,c,rfl,_⟩:=h;rfl) (fun f cdv A outer s H vs Q E hr h=>?_)
  obtain ⟨l,r,its,S,c,rfl,it,l40,hS,S41,q⟩:=h
  refine ⟨_,(pss_cons (ps_comp (i:=3) sc_states_by.nd rfl (by first | exact Or.inl rfl | exact Or.inr rfl) rfl (pi_list (pv 1)) (NL:=["state"]) (ix:=[0,2]) (csc (defScope s_states_by) N_states_by) (fun cl C s₃ H₃ fp pins=>⟨(pg_name (i:=0) (show List.Nodup (["state", "items", "letter"]:List Str) from by decide +kernel) rfl (by first | exact Or.inl rfl | exact Or.inr rfl)),(pifs_one (PW.pt (pw_and (pt_cmpR op_lt (pv 0) (pe_callB (call_len_seqK K) rfl B.len bt_len (pa_cons (pv 1) pa_nil)) (nomark _)) (pw_and1 (pt_cmpR op_in_str (pv 2) (pe_ix (ix_tupK K) (pe_ix (ix_listK K) (pv 1) (pv 0) (fun _ _=>rfl)) pe_int (fun _ _=>rfl)) (by with_unfolding_all rfl)))))),(pv 0)⟩))
  (pss_one (ps_ret (pe_comp rfl (pi_list (pv 3)) (NL:=["state"]) (ix:=[0]) (csc (defScope s_states_by) N_states_by) (fun cl C s₃ H₃ fp pins=>⟨(pg_name (i:=0) (show List.Nodup (["state", "items"]:List Str) from by decide +kernel) rfl (by first | exact Or.inl rfl | exact Or.inr rfl)),pifs_nil,(pe_ifExp (pt_val (pe_ix (ix_tupK K) (pe_ix (ix_listK K) (pv 1) (pv 0) (fun _ _=>rfl)) pe_int (fun _ _=>rfl))) (pv 0) (pe_op op_add (pv 0) pe_int))⟩))))),?_⟩
  obtain ⟨vs,hl,lv,at_⟩:=it
  refine ⟨_,rfl,r,rfl,⟨_,SqL.of hS⟩,fun acc hacc=>?_⟩
  refine comp_lst (K:=K) (a:=r) (xs:=nV S) (by rw [nV_len];omega) (fun i ys HX=>HX acc=some (.lst ys)∧Same H HX∧ys=nV ((S.take i).filter fun s=>decide (s < its.length) && decide (c∈(its.getD s ([],false)).1)))
    (fun i ys HX h=>SqL.of (h.2.1 _ _ hS)) (fun i ys HX h=>⟨h.1,by
      rw [h.2.2,nV_len]
      have:=List.length_filter_le (fun s=>decide (s < its.length) && decide (c∈(its.getD s ([],false)).1)) (S.take i)
      rw [List.length_take] at this;omega⟩) ⟨upd_same,(Same.refl H).new hacc,rfl⟩ ?_ ?_
  rotate_left
  · rintro i x ys HX hx ⟨g1,g2,rfl⟩
    rw [List.getElem?_map] at hx
    cases e1:S[i]? with
    | none=>rw [e1] at hx;cases hx
    | some t=>
      rw [e1] at hx
      cases hx
      have tk:S.take (i+1)=S.take i++[t]:=by rw [List.take_succ,e1];rfl
      refine ⟨rfl,_,rfl,_,rfl,l,_,rfl,.inl (SqL.of (g2 _ _ hl)),_,_,rfl,rfl,_,rfl,?_⟩
      by_cases lt:t < its.length
      · refine iteA (decide_eq_true (by rw [lv];omega)) ?_
        obtain ⟨ia,ie1,ie2⟩:=its_get (H:=H) ⟨lv,at_⟩ (i:=t) lt
        refine ⟨_,rfl,_,rfl,_,rfl,l,_,_,_,rfl,rfl,SqL.of (g2 _ _ hl),ie1,ia,_,_,_,rfl,rfl,SqT.of (g2 _ _ ie2),rfl,_,_,rfl,rfl,_,rfl,?_⟩
        rw [PySem.StrLaws.found_one,mk_cps]
        refine ite2 (fun cc=>?_) (fun cc=>?_)
        · refine ⟨_,rfl,g1,upd_same,g2.write hacc,?_⟩
          rw [tk,List.filter_append,List.filter_cons_of_pos (by rw [decide_eq_true lt,cc];rfl),nV_snoc];rfl
        · refine ⟨g1,g2,?_⟩
          rw [tk,List.filter_append,List.filter_cons_of_neg (by rw [Bool.eq_false_iff.mpr cc];simp)];simp
      · refine L2.iteB (decide_eq_false (by rw [lv];omega)) ?_
        refine iteF ?_
        refine ⟨g1,g2,?_⟩
        rw [tk,List.filter_append,List.filter_cons_of_neg (by rw [decide_eq_false lt];simp)];simp
  rintro ys H1 ⟨g1,s1,rfl⟩
  rw [nV_len,List.take_length] at g1
  have hf:=List.length_filter_le (fun s=>decide (s < its.length) && decide (c∈(its.getD s ([],false)).1)) S
  have ok:∀ t∈S.filter (fun s=>decide (s < its.length) && decide (c∈(its.getD s ([],false)).1)),t < its.length:=fun t ht=>by
    have:=(List.mem_filter.mp ht).2
    rw [Bool.and_eq_true] at this
    exact of_decide_eq_true this.1
  have eb:byl its S c=(S.filter (fun s=>decide (s < its.length) && decide (c∈(its.getD s ([],false)).1))).map fun s=>if W63.st its s=true then s else s+1:=rfl
  generalize S.filter (fun s=>decide (s < its.length) && decide (c∈(its.getD s ([],false)).1))=G at g1 hf ok eb
  refine ⟨_,rfl,acc,rfl,⟨_,SqL.of g1⟩,fun a2 ha2=>?_⟩
  refine comp_lst (K:=K) (a:=acc) (xs:=nV G) (by rw [nV_len];omega) (fun i ys HX=>HX a2=some (.lst ys)∧Same H1 HX∧ys=nV ((G.take i).map fun s=>if W63.st its s=true then s else s+1))
    (fun i ys HX h=>SqL.of (h.2.1 _ _ g1)) (fun i ys HX h=>⟨h.1,by rw [h.2.2,nV_len,List.length_map,List.length_take];omega⟩) ⟨upd_same,(Same.refl H1).new ha2,rfl⟩ ?_ ?_
  rotate_left
  · rintro i x ys HX hx ⟨g2,g3,rfl⟩
    rw [List.getElem?_map] at hx
    cases e1:G[i]? with
    | none=>rw [e1] at hx;cases hx
    | some t=>
      rw [e1] at hx
      cases hx
      have tk:G.take (i+1)=G.take i++[t]:=by rw [List.take_succ,e1];rfl
      have lt:=ok t (List.mem_of_getElem? e1)
      obtain ⟨ia,ie1,ie2⟩:=its_get (H:=H) ⟨lv,at_⟩ (i:=t) lt
      have sH:=s1.trans g3
      refine ⟨rfl,_,rfl,_,rfl,l,_,_,_,rfl,rfl,SqL.of (sH _ _ hl),ie1,ia,_,_,_,rfl,rfl,SqT.of (sH _ _ ie2),rfl,_,rfl,?_⟩
      refine ite2 (fun cc=>?_) (fun cc=>?_)
      · refine ⟨_,rfl,g2,upd_same,g3.write ha2,?_⟩
        rw [tk,List.map_append,nV_snoc]
        congr 2
        show [t]=[if W63.st its t=true then t else t+1]
        rw [if_pos (show W63.st its t=true from cc)]
      · refine ⟨_,rfl,_,_,rfl,rfl,g2,upd_same,g3.write ha2,?_⟩
        rw [tk,List.map_append,show (fun i j:Int=>V.int (i+j)) (t:Int) 1=V.int ((t+1:Nat):Int) from rfl,nV_snoc]
        congr 2
        show [t+1]=[if W63.st its t=true then t else t+1]
        rw [if_neg (show ¬ W63.st its t=true from cc)]
  rintro ys H2 ⟨g2,s2,rfl⟩
  rw [nV_len,List.take_length,← eb] at g2
  exact q a2 H2 (s1.trans s2) (s1.free ha2) g2
def SN (its:List W63.It) (ws:List Nat) (n:Nat):List Nat:=(List.range (its.length+1)).filter fun s=>W63.N its ws s n
theorem SN_first (its:List W63.It) (ws:List Nat):stl its (fun s=>decide (s∈[0])) (its.length+1)=SN its ws 0:=by
  have e:(fun s:Nat=>decide (s∈[0]))=fun s=>s == 0:=by funext s;rw [Bool.eq_iff_iff];simp
  unfold stl SN
  rw [e]
  exact List.filter_congr fun s _=>(W63.N_first its ws s).symm
theorem SN_next (its:List W63.It) (ws:List Nat) (n c:Nat) (hc:ws.getD n 0=c):stl its (fun s=>decide (s∈byl its (SN its ws n) c)) (its.length+1)=SN its ws (n+1):=by
  have gl:∀ s,W63.gd its ws s n=true→s < its.length∧c∈(its.getD s ([],false)).1:=fun s h=>by
    have m:c∈(its.getD s ([],false)).1:=by rw [← hc];exact of_decide_eq_true h
    refine ⟨?_,m⟩
    rcases Nat.lt_or_ge s its.length with l | l
    · exact l
    · rw [List.getD_eq_getElem?_getD,List.getElem?_eq_none l] at m;cases m
  have lg:∀ s,s < its.length→c∈(its.getD s ([],false)).1→W63.gd its ws s n=true:=fun s _ m=>by
    unfold W63.gd W63.good;rw [hc];exact decide_eq_true m
  have mem:∀ s,s∈byl its (SN its ws n) c ↔ ∃ t,t < its.length∧c∈(its.getD t ([],false)).1∧W63.N its ws t n=true∧(if W63.st its t=true then t else t+1)=s:=fun s=>by
    unfold byl SN
    rw [List.mem_map]
    constructor
    · rintro ⟨t,ht,e⟩
      obtain ⟨h1,h2⟩:=List.mem_filter.mp ht
      obtain ⟨h3,h4⟩:=List.mem_filter.mp h1
      rw [Bool.and_eq_true] at h2
      exact ⟨t,of_decide_eq_true h2.1,of_decide_eq_true h2.2,h4,e⟩
    · rintro ⟨t,h1,h2,h3,e⟩
      refine ⟨t,List.mem_filter.mpr ⟨List.mem_filter.mpr ⟨List.mem_range.mpr (by omega),h3⟩,by rw [decide_eq_true h1,decide_eq_true h2];rfl⟩,e⟩
  have e:(fun s:Nat=>decide (s∈byl its (SN its ws n) c))=W63.by_ its ws n:=by
    funext s
    rw [Bool.eq_iff_iff,decide_eq_true_eq,mem]
    unfold W63.by_
    constructor
    · rintro ⟨t,h1,h2,h3,e⟩
      by_cases st:W63.st its t=true
      · rw [if_pos st] at e
        subst e
        rw [st,lg t h1 h2,h3];rfl
      · rw [if_neg st] at e
        subst e
        dsimp only
        rw [Bool.eq_false_iff.mpr st,lg t h1 h2,h3];simp
    · intro h
      rw [Bool.or_eq_true] at h
      rcases h with h | h
      · rw [Bool.and_eq_true,Bool.and_eq_true] at h
        obtain ⟨a,b⟩:=gl s h.1.2
        exact ⟨s,a,b,h.2,by rw [if_pos h.1.1]⟩
      · cases s with
        | zero=>cases h
        | succ j=>
          dsimp only at h
          rw [Bool.and_eq_true,Bool.and_eq_true] at h
          obtain ⟨a,b⟩:=gl j h.1.2
          exact ⟨j,a,b,h.2,by rw [if_neg];intro z;rw [z] at h;simp at h⟩
  unfold stl
  rw [e]
  unfold SN
  exact List.filter_congr fun s _=>(W63.N_next its ws n s).symm
theorem SN_len (its:List W63.It) (ws:List Nat) (n:Nat):(SN its ws n).length≤its.length+1:=by
  have:=List.length_filter_le (fun s=>W63.N its ws s n) (List.range (its.length+1))
  rw [List.length_range] at this;exact this
theorem SN_in (its:List W63.It) (ws:List Nat) (n:Nat):its.length∈SN its ws n ↔ W63.D its ws its.length n=true:=by
  unfold SN
  rw [List.mem_filter,List.mem_range,W63.N_len]
  exact ⟨fun h=>h.2,fun h=>⟨Nat.lt_succ_self _,h⟩⟩
theorem byl_len (its:List W63.It) (S:List Nat) (c:Nat):(byl its S c).length≤S.length:=by
  unfold byl;rw [List.length_map];exact List.length_filter_le _ _
def lens (its:List W63.It) (ws:List Nat) (n:Nat):List Nat:=(List.range n).filter fun j=>W63.D its ws its.length j
theorem lens_succ (its:List W63.It) (ws:List Nat) (n:Nat):lens its ws (n+1)=lens its ws n++(if W63.D its ws its.length n=true then [n] else []):=by
  unfold lens
  rw [List.range_succ,List.filter_append]
  congr 1
  by_cases h:W63.D its ws its.length n=true
  · rw [if_pos h,List.filter_cons_of_pos h];rfl
  · rw [if_neg h,List.filter_cons_of_neg h];rfl
theorem lens_le (its:List W63.It) (ws:List Nat) (n:Nat):(lens its ws n).length≤n:=by
  have:=List.length_filter_le (fun j=>W63.D its ws its.length j) (List.range n)
  rw [List.length_range] at this;exact this
theorem nV_in (n:Nat) (S:List Nat):inV (V.int (n:Int)) (nV S)=decide (n∈S):=by
  unfold inV
  rw [Bool.eq_iff_iff,List.any_eq_true,decide_eq_true_eq]
  constructor
  · rintro ⟨v,hv,e⟩
    obtain ⟨t,ht,rfl⟩:=List.mem_map.mp hv
    have e':(t:Int)=(n:Int):=eq_of_beq e
    have:t=n:=by omega
    rw [← this];exact ht
  · exact fun h=>⟨_,List.mem_map.mpr ⟨n,h,rfl⟩,beq_self_eq_true (n:Int)⟩
theorem nV_flat (S:List Nat):(nV S).all flatV=true:=by
  rw [List.all_eq_true]
  intro v hv
  obtain ⟨t,_,rfl⟩:=List.mem_map.mp hv
  rfl
def sp_lens:Sp:=fun vs H Q _=>∃ (l:Addr) (its:List W63.It) (z:Str),vs=[.ref l,.str z]∧ItsAt H l its∧its.length≤40∧z.length≤60 ∧
  ∀ (q:Addr) (H':Hp),Same H H'→H q=none→H' q=some (.lst (nV (lens its z.cps.toList (z.length+1))))→Q (.ref q) H'
theorem has_lens (D:Df K mg "lengths_fitting" s_lengths_fitting) (B:Blt7 mg) (G_states_with:Has P w K mg base "states_with" k ["items", "states"] sp_swith) (G_states_by:Has P w K mg base "states_by" k ["items", "states", "letter"] sp_sby):Has P w K mg base "lengths_fitting" (k+1) ["items", "word"] sp_lens:=by
  refine D.has sc_lengths_fitting (fun _ _ _ _ _ _=>ar2 fun _ _=>rfl) (fun vs H Q E h=>by obtain ⟨l,its,z,rfl,_⟩:=h;rfl) (fun f cdv A outer s H vs Q E hr h=>?_)
  obtain ⟨l,its,z,rfl,it,l40,z60,q⟩:=h
  refine ⟨_,(pss_cons (ps_set (i:=2) sc_lengths_fitting.nd rfl (by first | exact Or.inl rfl | exact Or.inr rfl) (pe_callH G_states_with hr rfl (pa_cons (pv 0) (pa_cons (pe_lst (pa_cons pe_int pa_nil)) pa_nil))))
  (pss_cons (ps_set (i:=3) sc_lengths_fitting.nd rfl (by first | exact Or.inl rfl | exact Or.inr rfl) (pe_ifExp (pt_cmpR op_in_seq (pe_callB call_len_seq rfl B.len bt_len (pa_cons (pv 0) pa_nil)) (pv 2) (by with_unfolding_all rfl)) (pe_lst (pa_cons pe_int pa_nil)) (pe_lst pa_nil)))
  (pss_cons (ps_for PassesOwn.never rfl (pi_enum rfl B.enumerate (pa_cons (pv 1) pa_nil)) (pg_tup rfl (pgs_cons (pg_name (i:=4) sc_lengths_fitting.nd rfl (by first | exact Or.inl rfl | exact Or.inr rfl)) (pgs_cons (pg_name (i:=5) sc_lengths_fitting.nd rfl (by first | exact Or.inl rfl | exact Or.inr rfl)) pgs_nil)))
  (pss_cons (ps_set (i:=2) sc_lengths_fitting.nd rfl (by first | exact Or.inl rfl | exact Or.inr rfl) (pe_callH G_states_with hr rfl (pa_cons (pv 0) (pa_cons (pe_callH G_states_by hr rfl (pa_cons (pv 0) (pa_cons (pv 2) (pa_cons (pv 5) pa_nil)))) pa_nil))))
  (pss_one (ps_if (pt_cmpR op_in_seq (pe_callB call_len_seq rfl B.len bt_len (pa_cons (pv 0) pa_nil)) (pv 2) (by with_unfolding_all rfl))
  (pss_one (ps_expr (pe_bm PySem.F.plainAttrs_list PySem.F.slot_list_append PySem.F.type_list_append mt_append (pv 3) (pa_cons (pe_op op_add (pv 4) pe_int) pa_nil))))
  pss_nil))))
  (pss_one (ps_ret (pv 3)))))),?_⟩
  first | (dsimp only [cxOf,Cx.nox];generalize hK:K=K';revert K' hK;refine seqK (seqE <| seqE <| seqE <| fun _=>rfl) ?_) | skip
  refine ⟨_,rfl,line_le (show 1≤1000 by omega),fun r1 hr1=>?_⟩
  have s1:Same H (upd H r1 (.lst [.int 0])):=(Same.refl H).new hr1
  refine ⟨l,r1,its,[0],rfl,it.same s1,l40,upd_same,by decide,fun st H2 s2 hst hst2=>?_⟩
  rw [SN_first its z.cps.toList] at hst2
  have s12:=s1.trans s2
  obtain ⟨vs,hl,lv,at_⟩:=id it
  have hl2:=s12 _ _ hl
  dsimp only [gName]
  refine mid (fun σ' H'=>∃ ln,σ'=[some (.ref l),some (.str z),some (.ref st),some (.ref ln),none,none]∧Same H H'∧H' st=some (.lst (nV (SN its z.cps.toList 0)))∧H ln=none∧ln≠st∧H' ln=some (.lst (nV (lens its z.cps.toList 1)))) ?_ fun E2 nx=>?_
  rotate_left
  · refine ⟨_,rfl,l,_,rfl,.inl (SqL.of hl2),_,rfl,st,_,rfl,.inl (SqL.of hst2),rfl,nV_flat _,_,rfl,?_⟩
    show if (inV (V.int ((vs.length:Nat):Int)) _)=true then _ else _
    rw [lv,nV_in]
    by_cases h0:W63.D its z.cps.toList its.length 0=true
    · refine iteA (decide_eq_true ((SN_in _ _ _).mpr h0)) ?_
      refine ⟨line_le (show 1≤1000 by omega),fun ln hln=>nx _ _ ⟨ln,rfl,s12.new hln,?_,s12.free hln,?_,?_⟩⟩
      · rw [upd_ne (ne_of_none hst2 hln)];exact hst2
      · exact (ne_of_none hst2 hln).symm
      · rw [upd_same,lens_succ,if_pos h0];rfl
    · refine L2.iteB (decide_eq_false fun z=>h0 ((SN_in _ _ _).mp z)) ?_
      refine ⟨line_le (show 0≤1000 by omega),fun ln hln=>nx _ _ ⟨ln,rfl,s12.new hln,?_,s12.free hln,?_,?_⟩⟩
      · rw [upd_ne (ne_of_none hst2 hln)];exact hst2
      · exact (ne_of_none hst2 hln).symm
      · rw [upd_same,lens_succ,if_neg h0];rfl
  rintro σ' H' ⟨ln,rfl,s3,hs3,Hln,nls,hln3⟩
  clear hst2 hl2 s2 s12
  refine ⟨_,rfl,.str z,rfl,⟨_,rfl⟩,?_⟩
  have sl:(signs z).length=z.length:=by unfold signs;rw [List.length_map];exact Array.length_toList
  refine for_enum (xs:=signs z) (fun i σ HX=>∃ (st:Addr) (o4 o5:Option V),σ=[some (.ref l),some (.str z),some (.ref st),some (.ref ln),o4,o5]∧Same H HX∧HX st=some (.lst (nV (SN its z.cps.toList i)))∧ln≠st∧HX ln=some (.lst (nV (lens its z.cps.toList (i+1))))) ⟨st,none,none,rfl,s3,hs3,nls,hln3⟩ (fun i σ HX _ _=>rfl) ?_ ?_
  · rintro i x σ HX p hx ⟨st',o4,o5,rfl,sX,hsX,nls',hlX⟩ hp
    obtain ⟨c,hc,rfl⟩:∃ c,z.cps.toList[i]?=some c∧x=.str ⟨#[c]⟩:=by
      simp only [signs,List.getElem?_map] at hx
      cases e:z.cps.toList[i]? with
      | none=>rw [e] at hx;cases hx
      | some c=>rw [e] at hx;exact ⟨c,rfl,(Option.some.inj hx).symm⟩
    have ec:z.cps.toList.getD i 0=c:=by rw [List.getD_eq_getElem?_getD,hc];rfl
    have hi:i < z.length:=by
      have:=(List.getElem?_eq_some_iff.mp hc).1
      have e2:z.cps.toList.length=z.length:=Array.length_toList
      omega
    have s4:Same HX (upd HX p (.tup [.int (i:Int),.str ⟨#[c]⟩])):=(Same.refl HX).new hp
    refine ⟨p,_,rfl,SqT.of upd_same,rfl,_,_,rfl,_,_,rfl,rfl,?_⟩
    have hs4:=s4 _ _ hsX
    have hl4:=s4 _ _ hlX
    have s04:=sX.trans s4
    show (fun HH=>_) (upd HX p (.tup [.int (i:Int),.str ⟨#[c]⟩]))
    generalize upd HX p (.tup [.int (i:Int),.str ⟨#[c]⟩])=H4 at s4 hs4 hl4 s04
    have hSl:=SN_len its z.cps.toList i
    refine ⟨_,rfl,_,rfl,_,rfl,_,rfl,l,st',its,_,c,rfl,it.same s04,l40,hs4,by omega,fun r5 H5 s5 f5 h5=>?_⟩
    have bl:=byl_len its (SN its z.cps.toList i) c
    refine ⟨l,r5,its,_,rfl,(it.same s04).same s5,l40,h5,by omega,fun st6 H6 s6 f6 h6=>?_⟩
    rw [SN_next its z.cps.toList i c ec] at h6
    have s06:=s04.trans (s5.trans s6)
    have hl6:=s6 _ _ (s5 _ _ hl4)
    have n6:ln≠st6:=fun e=>by
      have:=s5 _ _ hl4
      rw [e,f6] at this;cases this
    refine ⟨_,rfl,l,_,rfl,.inl (SqL.of (s06 _ _ hl)),_,rfl,st6,_,rfl,.inl (SqL.of h6),rfl,nV_flat _,_,rfl,?_⟩
    show if (inV (V.int ((vs.length:Nat):Int)) _)=true then _ else _
    rw [lv,nV_in]
    by_cases h0:W63.D its z.cps.toList its.length (i+1)=true
    · refine iteA (decide_eq_true ((SN_in _ _ _).mpr h0)) ?_
      refine ⟨_,rfl,.inl ⟨rfl,_,SqL.of hl6⟩,_,rfl,_,_,rfl,rfl,ln,_,_,rfl,rfl,hl6,?_,st6,_,_,rfl,s06.write Hln,?_,n6,?_⟩
      · rw [nV_len];have:=lens_le its z.cps.toList (i+1);exact Nat.lt_of_lt_of_le (show _ < 1000 by omega) (line_le (Nat.le_refl _))
      · rw [upd_ne (Ne.symm n6)];exact h6
      · rw [upd_same,lens_succ its z.cps.toList (i+1),if_pos h0,← nV_snoc];rfl
    · refine L2.iteB (decide_eq_false fun z=>h0 ((SN_in _ _ _).mp z)) ?_
      exact ⟨st6,_,_,rfl,s06,h6,n6,by rw [hl6,lens_succ its z.cps.toList (i+1),if_neg h0,List.append_nil]⟩
  · rintro σ HX ⟨st',o4,o5,rfl,sX,hsX,nls',hlX⟩
    rw [sl] at hlX
    exact ⟨_,rfl,q ln HX sX Hln hlX⟩
end
end S65
namespace L2
open PySem PySem.Spec PyProof.Rows PySem.W
end L2
namespace L2
open PySem PySem.Spec PyProof.Rows
structure RoomH (k:Nat) (A:Around):Prop where
  dp:A.depth+3 * k+5 < recursionLimit
  un:A.units+16 * k+200 < cLine
  gd:A.guards=some []
theorem RoomH.mono {j k:Nat} {A:Around} (r:RoomH k A) (h:j≤k):RoomH j A:=⟨by have:=r.dp;omega,by have:=r.un;omega,r.gd⟩
theorem RoomH.deeper {k:Nat} {A:Around} (r:RoomH (k+1) A) (env:Env):RoomH k (A.deeper env):=
  ⟨by have:=r.dp;show A.depth+1+3 * k+5 < _;omega,by have:=r.un;show A.units+3+16 * k+200 < _;omega,by first | exact r.gd | (simpa [Around.under,Code.isGuard,guardIds] using r.gd)⟩
theorem RoomH.depth {k:Nat} {A:Around} (r:RoomH k A):A.depth < recursionLimit:=by have:=r.dp;omega
theorem Room.caught {k:Nat} {X:Cx} (r:Room k X.A) (a:Addr):RoomH k (X.caught a).A:=⟨r.dp,r.un,r.gd⟩
theorem Room.h {k:Nat} {A:Around} (r:Room k A):RoomH k A:=⟨r.dp,r.un,r.gd⟩
def cxOfH (CX:CXT) (P:Program) (w:World) (K:PySem.W.Frag) (mg:Str→Option Value) (base:Heap) (N:List Str) (qual:Str) (scope:Scope) (f:Addr) (cd:Value) (A:Around) (outer:List Env) (s:Shared) (H:Hp) (E:XK):Cx where
  prog:=P
  w:=w
  K:=K
  mg:=mg
  base:=base
  A:=A.deeper (envOfC qual scope s.heap.objs.size f cd)
  N:=N
  s₀:=s
  H₀:=H
  env:=envOfC qual scope s.heap.objs.size f cd
  outer:=outer
  stack:=envOfC qual scope s.heap.objs.size f cd :: outer
  ex:=[]
  calm:=false
  fn:=fun _=>true
  pn:=[]
  xe:=fun e s'=>wpAny (model P w) (A.deeper (envOfC qual scope s.heap.objs.size f cd)) (leaving (envOfC qual scope s.heap.objs.size f cd) e) (fun _ s''=>CX outer H s E e s'') (fun e' s''=>CX outer H s E e' s'') s'
theorem inv_startH {CX:CXT} {P:Program} {w:World} {K:PySem.W.Frag} {mg:Str→Option Value} {base:Heap} {N ps:List Str} {qual:Str} {scope:Scope} {f:Addr} {cd:Value} {A:Around} {outer:List Env} {s s1:Shared} {H:Hp} {E:XK} {us:List Value} {vs:List V}
    (S:FnScope N ps scope) (e0:Env0 P w K mg base A outer s H) (hl:vs.length=ps.length) (r:Vals vs us)
    (x:InCallC s s.heap.objs.size (bindL (envOfC qual scope s.heap.objs.size f cd).kindOf (ps.zip us) fun _=>none) (cellsFrom (s.heap.objs.size+1) scope.names []) (bindC (envOfC qual scope s.heap.objs.size f cd).kindOf (ps.zip us) fun _=>none) s1) :
    Inv (cxOfH CX P w K mg base N qual scope f cd A outer s H E) [] (start N vs) H s1:=by
  have hpl:ps.length≤N.length:=by have:=congrArg List.length S.pre;rw [List.length_take] at this;omega
  obtain ⟨h1,tk,rfl,hk⟩:=x.done
  have noA:∀ b:Addr,b ∉ (cxOfH CX P w K mg base N qual scope f cd A outer s H E).ex:=fun b z=>absurd (show b∈([]:List Addr) from z) (by simp)
  refine ⟨⟨e0.mod,S.kind,rfl,rfl,Nat.le_refl _,fun y z c h1 h2=>?_,fun y hy=>?_,fun y c _ h=>?_,fun z=>(nomatch z),Around.frames_deeper e0.frames,.inr ⟨rfl,rfl⟩,fun b z=>absurd z (noA b),e0.bs,e0.bsz,fun b _ _=>noA b,fun b z=>absurd z (noA b),e0.funs,e0.frf⟩,
    rfl,e0.bare,Un.kept hk,⟨_,x.toInCall.ns,fun i y v h1 h2 h3=>?_⟩,fun y c h=>⟨_,x.cell y c h⟩,e0.hok.fresh (Nat.le_refl _),fun y c h=>?_,fun p hp=>absurd (show p∈([]:List (Addr × Obj)) from hp) (by simp),e0.hok.kept hk,?_⟩
  · exact name_of_addr x.apart (PySem.mem_of_lookup h1) (PySem.mem_of_lookup h2)
  · have hy:scope.names.lookup y=some .cell∨scope.names.lookup y=some .free:=hy
    rcases hy with hy | hy
    · exact cell_has hy
    · exact absurd rfl (S.nofree _ (PySem.mem_of_lookup hy))
  · exact Nat.le_of_lt (x.above y c (PySem.mem_of_lookup h))
  · have hi:i < vs.length:=by
      unfold start at h2
      by_cases hi:i < vs.length
      · exact hi
      · rw [List.getElem?_append_right (by simpa using hi)] at h2
        rw [List.getElem?_replicate] at h2
        split at h2 <;> cases h2
    have ha:vs[i]?=some v:=by
      unfold start at h2
      rw [List.getElem?_append_left (by simpa using hi),List.getElem?_map] at h2
      cases e:vs[i]? with
      | none=>rw [e] at h2;cases h2
      | some a=>rw [e] at h2;cases h2;rfl
    obtain ⟨u,hu,rv⟩:=r.get ha
    have hp:ps[i]?=some y:=by
      rw [← S.pre,List.getElem?_take_of_lt (by omega)];exact h1
    have ndP:ps.Nodup:=by rw [← S.pre];exact S.nd.sublist (List.take_sublist _ _)
    refine ⟨u,rv,?_⟩
    rcases S.par y (List.mem_of_getElem? hp) with k | k
    · exact .inl ⟨k,bindL_get ndP hp hu k⟩
    · obtain ⟨c,e⟩:=cell_has (n:=s.heap.objs.size+1) k
      refine .inr ⟨.inl k,c,e,?_⟩
      have q:=x.cell y c e
      rw [bindC_get ndP hp hu (by show scope.names.lookup y≠_;rw [k];decide)] at q
      exact q
  · exact e0.hok.fresh (Nat.le_of_lt (x.above y c (PySem.mem_of_lookup h)))
  · unfold start
    show _=N.length
    rw [List.length_append,List.length_map,List.length_replicate]
    omega
structure FnOkH (P:Program) (w:World) (K:PySem.W.Frag) (mg:Str→Option Value) (base:Heap) (CX:CXT) (k:Nat) (f:Addr) (fd:FuncData) (ps:List Str) (sp:Sp):Prop where
  len:∀ vs H Q E,sp vs H Q E→vs.length=ps.length
  run:∀ (A:Around) (outer:List Env) (s:Shared) (H:Hp) (args:Args) (us:List Value) (vs:List V) (Q:VK) (E:XK),RoomH k A→Env0 P w K mg base A outer s H→BindsTo s fd args (ps.zip us)→Vals vs us→sp vs H Q E →
    codeAny (model P w) A (.call (.ref f) args) (CR CX outer P w H s Q E) s
theorem FnOkH.mono {P:Program} {w:World} {K:PySem.W.Frag} {mg:Str→Option Value} {base:Heap} {CX:CXT} {j k:Nat} {f:Addr} {fd:FuncData} {ps:List Str} {sp:Sp} (F:FnOkH P w K mg base CX j f fd ps sp) (h:j≤k) :
    FnOkH P w K mg base CX k f fd ps sp:=⟨F.len,fun A outer s H args us vs Q E hr=>F.run A outer s H args us vs Q E (hr.mono h)⟩
theorem fn_ofH {CX:CXT} {P:Program} {w:World} {K:PySem.W.Frag} {mg:Str→Option Value} {base:Heap} {k:Nat} {f:Addr} {name qual:Str} {params:Arguments} {body:List Stmt} {scope:Scope} {dV kV doc pm cdv ct oc:Value} {an od:Option Addr}
    {osl:Array (Option Value)} {N ps:List Str} {sp:Sp} (lk:K.lookup f=some ⟨oc,od,.func (PySem.W.fnOf name qual params body scope dV kV doc pm an cdv ct),osl⟩) (hcd:PySem.W.codeIn K cdv qual=true) (S:FnScope N ps scope)
    (len:∀ vs H Q E,sp vs H Q E→vs.length=ps.length)
    (hbody:∀ (A:Around) (outer:List Env) (s:Shared) (H:Hp) (vs:List V) (Q:VK) (E:XK),RoomH k (A.deeper (envOfC qual scope s.heap.objs.size f cdv))→sp vs H Q E →
      ∃ t,PSs (cxOfH CX P w K mg base N qual scope f cdv A outer s H E) body t∧t { nx:=fun _ H'=>Q .non H',rt:=Q } (start N vs) H) :
    FnOkH P w K mg base CX (k+1) f (PySem.W.fnOf name qual params body scope dV kV doc pm an cdv ct) ps sp:=by
  refine ⟨len,fun A outer s H args us vs Q E hr e0 hb r hsp=>?_⟩
  have hl:=len _ _ _ _ hsp
  have KX:K.In s.heap:=e0.mod.kin.keeps fun b o e=>(e0.bs b o e).1
  have lim:s.heap.NoLimit:=e0.mod.nolimit.keeps fun b o e=>(e0.bs b o e).1
  have hkind:∀ y∈ps.zip us,scope.names.lookup y.1=some .local∨(scope.names.lookup y.1=some .cell∧((cellsFrom (s.heap.objs.size+1) scope.names []).lookup y.1).isSome=true):=fun ⟨n,v⟩ hy=>by
    rcases S.par n (List.of_mem_zip hy).1 with q | q
    · exact .inl q
    · exact .inr ⟨q,PySem.W.cellsFrom_some _ _ _ (.inl q)⟩
  refine codeAny_call_function hr.depth (KX _ _ lk) rfl S.co S.gen rfl (PySem.W.codeRec_of KX hcd) (hb _ _ _ _ ?_)
  refine wpAny_newFunctionEnv_cells S.kind hkind fun env he s1 x=>?_
  subst he
  refine ⟨lim.keeps x.toInCall.keep,codeAny_func ?_⟩
  obtain ⟨t,ht,hq⟩:=hbody A outer s H vs Q E (hr.deeper _) hsp
  have I:Inv (cxOfH CX P w K mg base N qual scope f cdv A outer s H E) [] (start N vs) H s1:=inv_startH S e0 hl r x
  refine wpAny_mono (ht [] s1 (start N vs) H _ I hq) (fun fl s' hs=>?_) fun e s' hs=>hs
  have fin:∀ {σ':St} {H':Hp} {v:V} {u:Value},Inv (cxOfH CX P w K mg base N qual scope f cdv A outer s H E) [] σ' H' s'→RelV v u→Q v H'→CE outer P w H s Q u s':=
    fun {σ' H' v u} J rv q=>⟨v,H',J.os,J.bare,J.base,J.hok,rv,q⟩
  cases fl with
  | ret u=>
    obtain ⟨v,σ',H',J,rv,q⟩:=hs
    exact fin J rv q
  | next=>
    obtain ⟨σ',H',J,q⟩:=hs
    exact fin (v:=V.non) (u:=Value.none) J rfl q
  | brk=>
    obtain ⟨_,_,_,q⟩:=hs
    exact False.elim q
  | cont=>
    obtain ⟨_,_,_,q⟩:=hs
    exact False.elim q
section
variable {X:Cx} {CX:CXT} {k:Nat} {f C:Addr} {fd:FuncData} {ps:List Str} {sp:Sp} {dvs:List V} {ds:List Value} {E:XK} {x m:Str} {p pos apos:Pos} {e o:Expr} {es:List Expr} {ta:TE} {t:TA}
theorem run_fnH {pins:List (Addr × Obj)} {σ:St} {H:Hp} {s:Shared} {Q:VK} {us:List Value} {vs:List V} (F:FnOkH X.prog X.w X.K X.mg X.base CX k f fd ps sp) (hr:RoomH k X.A) (hb:Binds X.K fd ps ds) (hd:Vals dvs ds) (hx:Passes CX X E)
    (I:Inv X pins σ H s) (r:Vals vs us) (h:sp (vs++dvs) H Q E):wpAny (model X.prog X.w) X.A (call (.ref f) us) (EP X pins σ Q) X.xe s:=by
  have r2:Vals (vs++dvs) (us++ds):=r.append hd
  have hl:(us++ds).length=ps.length:=by rw [← r2.length];exact F.len _ _ _ _ h
  refine wpAny_call (codeAny_mono (F.run X.A X.stack s H ⟨us,[]⟩ (us++ds) (vs++dvs) Q E hr I.env0 (hb s us I.kIn hl) r2 h) fun r s' hq=>?_)
  cases r with
  | error e=>exact hx pins σ H s e s' I hq
  | ok fl=>
    cases fl with
    | ret u=>exact I.after hq
    | next=>exact False.elim hq
    | brk=>exact False.elim hq
    | cont=>exact False.elim hq
theorem pe_callN (F:FnOkH X.prog X.w X.K X.mg X.base CX k f fd ps sp) (hr:RoomH k X.A) (hg:Gl X x) (hm:X.mg x=some (.ref f)) (hk:PySem.W.keepIn X.K (.ref f)=true) (hb:Binds X.K fd ps ds) (hd:Vals dvs ds) (hx:Passes CX X E)
    (ha:PA X (e :: es) t) (hdb:(x == ("__debug__" : Str))=false:=by decide) (he:starEach (e :: es) X.env=(false,eval e X.env) :: starEach es X.env:=by rfl) (hpl:(backTo pos (starEach es X.env)).any (·.1)=false:=by rfl) :
    PE X (.Call (.Name x p) (e :: es) [] pos) (tCall sp dvs E t):=by
  intro pins s σ H Q I h
  refine wpAny_Call_Name_kw (ld_glob I hg hm ?_ hdb)
  refine PySem.W.callWith_K (h₀:=X.base) I.ok.mod.kin hk (thn (ha pos pins s σ H _ I h) fun us s1 ⟨vs,H1,I1,r,q⟩=>⟨I1.kIn,?_⟩) he hpl
  exact run_fnH F hr hb hd hx I1 r q
end
section
variable {P:Program} {w:World} {K:PySem.W.Frag} {mg:Str→Option Value} {base:Heap}
theorem Fun.okH {x qual:Str} {st:Stmt} {f:Addr} {fd:FuncData} {N ps:List Str} {k:Nat} {sp:Sp} (F:Fun K x qual st f fd) (S:FnScope N ps (defScope st)) (len:∀ vs H Q E,sp vs H Q E→vs.length=ps.length)
    (hbody:∀ (cdv:Value) (A:Around) (outer:List Env) (s:Shared) (H:Hp) (vs:List V) (Q:VK) (E:XK),RoomH k (A.deeper (envOfC qual (defScope st) s.heap.objs.size f cdv))→sp vs H Q E →
      ∃ t,PSs (cxOfH CX0 P w K mg base N qual (defScope st) f cdv A outer s H E).nox (defBody st) t∧t { nx:=fun _ H'=>Q .non H',rt:=Q } (start N vs) H):FnOkH P w K mg base CX0 (k+1) f fd ps sp:=by
  obtain ⟨oc,od,kV,doc,pm,an,cdv,ct,osl,rfl,lk,hcd⟩:=F.ex
  refine fn_ofH lk hcd S len fun A outer s H vs Q E hr hsp=>?_
  obtain ⟨t,h,q⟩:=hbody cdv A outer s H vs Q E hr hsp
  exact ⟨t,h.nox,q⟩
end
def HasH (P:Program) (w:World) (K:PySem.W.Frag) (mg:Str→Option Value) (base:Heap) (x:Str) (k:Nat) (ps:List Str) (sp:Sp):Prop:=
  ∃ f fd,FnOkH P w K mg base CX0 k f fd ps sp∧Binds K fd ps []∧PySem.W.keepIn K (.ref f)=true∧mg x=some (.ref f)
section
variable {P:Program} {w:World} {K:PySem.W.Frag} {mg:Str→Option Value} {base:Heap}
theorem HasH.mono {x:Str} {j k:Nat} {ps:List Str} {sp:Sp} (G:HasH P w K mg base x j ps sp) (h:j≤k):HasH P w K mg base x k ps sp:=
  let ⟨f,fd,F,r⟩:=G;⟨f,fd,F.mono h,r⟩
theorem Df.hasH {x:Str} {st:Stmt} {N ps:List Str} {k:Nat} {sp:Sp} (D:Df K mg x st) (S:FnScope N ps (defScope st))
    (hb:∀ (kV doc pm:Value) (an:Option Addr) (cdv ct:Value) (us:List Value),us.length=ps.length→bindArgs (PySem.W.fnOf x x (defArgs st) (defBody st) (defScope st) .none kV doc pm an cdv ct) ⟨us,[]⟩=pure (ps.zip us))
    (len:∀ vs H Q E,sp vs H Q E→vs.length=ps.length)
    (hbody:∀ (f:Addr) (cdv:Value) (A:Around) (outer:List Env) (s:Shared) (H:Hp) (vs:List V) (Q:VK) (E:XK),RoomH k (A.deeper (envOfC x (defScope st) s.heap.objs.size f cdv))→sp vs H Q E →
      ∃ t,PSs (cxOfH CX0 P w K mg base N x (defScope st) f cdv A outer s H E).nox (defBody st) t∧t { nx:=fun _ H'=>Q .non H',rt:=Q } (start N vs) H):HasH P w K mg base x (k+1) ps sp:=by
  obtain ⟨f,fd,F,m⟩:=D
  exact ⟨f,fd,F.okH S len fun cdv A outer s H vs Q E hr h=>hbody f cdv A outer s H vs Q E hr h,F.binds hb,F.kp,m⟩
end
theorem pe_callHH {X:Cx} {x:Str} {k:Nat} {ps:List Str} {sp:Sp} {p pos:Pos} {e:Expr} {es:List Expr} {t:TA} (G:HasH X.prog X.w X.K X.mg X.base x k ps sp) (hr:RoomH k X.A) (hg:Gl X x) (ha:PA X (e :: es) t)
    (hdb:(x == ("__debug__" : Str))=false:=by decide) (he:starEach (e :: es) X.env=(false,eval e X.env) :: starEach es X.env:=by rfl) (hpl:(backTo pos (starEach es X.env)).any (·.1)=false:=by rfl) :
    PE X (.Call (.Name x p) (e :: es) [] pos) (tCall sp [] E0 t):=by
  obtain ⟨f,fd,F,b,kp,m⟩:=G
  exact pe_callN F hr hg m kp b .nil pass0 ha hdb he hpl
end L2
namespace L2
open PySem PySem.Spec PyProof.Rows PySem.W
section
variable {X:Cx}
def stepN (lo hi c:Int):Nat:=(Builtin.Range.rangeSize lo hi c).toNat
theorem step_size {lo hi c:Int} (hc:0 < c):Builtin.Range.rangeSize lo hi c=if lo < hi then (hi - lo - 1) / c+1 else 0:=by
  unfold Builtin.Range.rangeSize
  rw [if_pos hc]
theorem step_nat {lo hi c:Int} (hc:0 < c):Builtin.Range.rangeSize lo hi c=((stepN lo hi c:Nat):Int):=by
  unfold stepN
  rw [Int.toNat_of_nonneg]
  rw [step_size hc]
  split
  · have:=Int.ediv_nonneg (show 0≤hi - lo - 1 by omega) (Int.le_of_lt hc);omega
  · exact Int.le_refl _
theorem step_le {lo hi c:Int} (hc:0 < c):(stepN lo hi c:Int)≤(if lo < hi then hi - lo else 0):=by
  rw [← step_nat hc,step_size hc]
  split
  · have:(hi - lo - 1) / c≤hi - lo - 1:=Int.ediv_le_self _ (by omega)
    omega
  · exact Int.le_refl _
theorem step_lt {lo hi c:Int} (hc:0 < c) {i:Nat} (hi':i < stepN lo hi c):lo+(i:Int) * c < hi:=by
  have h:(i:Int) < (stepN lo hi c:Int):=by exact_mod_cast hi'
  rw [← step_nat hc,step_size hc] at h
  split at h
  · have h2:(i:Int)≤(hi - lo - 1) / c:=by omega
    have h3:=(Int.le_ediv_iff_mul_le hc).mp h2
    omega
  · omega
theorem passes_no {P:Program} {w:World} {X:Cx}:Passes (CXE P w) X (fun _ _ _=>False):=fun _ _ _ _ _ _ _ h=>by
  obtain ⟨_,_,_,_,_,_,_,_,_,_,z⟩:=h
  exact z.elim
end
end L2
namespace L2
open PySem PySem.Spec PyProof.Rows PySem.W
section
variable {prog:Program} {w:World} {A:Around} {E:Value→Shared→Prop} {s:Shared}
theorem set_sortedB {D:Addr} {S:List Str} {n:Nat} {Q:Value→Shared→Prop} (hA:SetA w (ledOf w) s.heap D S n) (hh:A.handled=none) (hn:n≤1000)
    (h:∀ h' tk d l out ss' e,(∀ b o,s.heap.get? b=some o→h'.get? b=some o)→s.heap.objs.size≤l→h'.get? l=some (seqObj "list" out e)→StrsAre out.toList ss'→ss'.Nodup→(∀ x,x∈ss' ↔ x∈S)→sortedS ss'=true→ss'.length≤n→Q (.ref l) { s with heap:=h',toks:=tk,drawn:=d }) :
    wpAny (model prog w) A (call (.builtin "sorted") [.ref D]) Q E s:=by
  obtain ⟨es,ep,t,hD,hS,hsz⟩:=hA
  refine Calls.call_function_entry kind_sorted plain_sorted entry_sorted (args_sorted1 _) ?_
  unfold Builtin.«sorted»
  refine wpAny_bind (m:=checkCount "sorted" 1 1 _) (wpAny_pure ?_)
  refine wpAny_bind (set_collect (A:=A.in1) hD hS hh (by omega) fun h1 tk d acc old1 sz1 hp=>?_)
  obtain ⟨ss,hv,hpk⟩:=perm_strs hS.ent hp
  have al:acc.length=es.size:=by have:=hp.length_eq;simpa using this
  have fz:acc.length≤sizeLine:=by rw [sizeLine_eq];omega
  refine wpAny_bind (wpAny_newList ?_ fz)
  have hDL:(h1.push (seqObj "list" acc.toArray 0)).get? h1.objs.size=some (seqObj "list" acc.toArray 0):=Heap.get?_push_size _ rfl
  refine wpAny_bind (wpAny_holding (wpAny_call_entry slot_list_sort ⟨_,hDL,rfl⟩ entry_list_sort (sort_strs (s:={ s with heap:=h1.push (seqObj "list" acc.toArray 0),toks:=tk,drawn:=d }) hDL hv (hpk.nodup_iff.mpr hS.nd) fz fun out ss' b1 b2 b3=>⟨_,rfl,?_⟩) (args_list_sort _)))
  obtain ⟨e,he⟩:=sortedHeap_at (out:=out) hDL
  refine wpAny_pure ⟨_,rfl,h _ tk d h1.objs.size _ ss' e (fun b o eb=>?_) sz1 he b1 ?_ (fun x=>?_) b3 ?_⟩
  · have lt:=Heap.lt_size (old1 _ _ eb)
    rw [sortedHeap_old (Nat.ne_of_lt lt) (by rw [show (h1.push (seqObj "list" acc.toArray 0)).objs.size=h1.objs.size+1 from Heap.size_push ..];exact Nat.lt_succ_of_lt lt)]
    exact Heap.get?_push_of_some _ (old1 _ _ eb)
  · exact (b2.trans hpk).nodup_iff.mpr hS.nd
  · rw [(b2.trans hpk).mem_iff];exact hS.mem x
  · have t1:(es.toList.map keyOf).length=es.size:=by rw [List.length_map,Array.length_toList]
    have t2:=(b2.trans hpk).length_eq
    exact Nat.le_trans (Nat.le_of_eq (t2.trans t1)) hsz
end
section
variable {X:Cx}
theorem call_sorted_setB (w:World) (hc:X.calm=true) (hw:X.w=w:=by rfl):CallR X (.builtin "sorted") (fun xs H Q=>∃ (a:Addr) (S:List Str) (n:Nat),xs=[.ref a]∧H a=some (setO w a S n)∧n≤1000 ∧
    ∀ (ss:List Str) (r:Addr),ss.Nodup→(∀ x,x∈ss ↔ x∈S)→sortedS ss=true→ss.length≤n→H r=none→Q (.ref r) (upd H r (.lst (ss.map V.str)))):=by
  subst hw
  intro pins s σ H xs us Q I r h
  obtain ⟨a,S,n,rfl,ha,n64,q⟩:=h
  obtain ⟨u,rfl,ru⟩:=vals1 r
  cases (show u=Value.ref a from ru)
  have hh:X.A.handled=none:=I.ok.hd hc
  refine set_sortedB (setO_at I ha) hh n64 fun h3 tk3 d l3 out ss' e old3 lge hg3 hv3 nd3 mem3 srt3 len3=>?_
  have I3:=I.laid (t':=tk3) (h':=h3) (a:=l3) (o:=.lst (ss'.map V.str)) old3 lge (show ObjOk X.prog X.w _ _ _ (.lst (ss'.map V.str)) from ⟨by rw [List.length_map,sizeLine_eq];omega,out.toList,e,strsAre_get hv3,hg3⟩)
  exact ⟨.ref l3,_,I3.drawn d,rfl,q ss' l3 nd3 mem3 srt3 len3 (I.hok.fresh lge)⟩
end
def Itc (lo c:Int) (n:Nat):It:=⟨fun i _=>i < n,fun i H x H'=>H'=H∧x=.int (lo+i * c),fun i _=>n≤i⟩
theorem turn_step {P:Program} {w:World} {K:PySem.W.Frag} {tg:Expr} (it:Addr) (lo c:Int) (n:Nat):Turn P w K tg (Itc lo c n) [it] it (fun i h=>IsRangeIter h it (lo+(i:Nat) * c) ((n:Int) - (i:Nat)) c) where
  mem:=by simp
  obj:=fun i h st b hb=>by
    have e:b=it:=by simpa using hb
    subst e
    exact ⟨_,st,fun v z=>by
      have z':Data.fields _=Data.cell v:=z
      cases z'⟩
  keep:=fun i h h' st k=>k it (by simp) _ st
  item:=by
    intro X hP hw hK hc i pins s σ H E I hf st hg
    subst hP hw hK
    obtain ⟨f0,f1,f2,f3,f4,f5⟩:=hf it (by simp)
    have W:=Walks.range (prog:=X.prog) (w:=X.w) (I.ok.hd hc) it lo c n
    refine W.item i s _ _ hg st fun v h' tk hv st' kk=>?_
    obtain ⟨t,rfl⟩:=hv
    have I1:Inv X pins σ H { s with heap:=h',toks:=tk }:=I.turned (fun b o hb e=>kk b o (by simpa using hb) e) f0 f1 f3 f4 f5
    exact ⟨_,rfl,go_of (s:={ s with heap:=h',toks:=tk }) (n := "range_iterator") st' rfl rfl (by decide) ⟨.int (lo+i * c),H,I1,⟨t,rfl⟩,⟨rfl,rfl⟩,st',fun b hb=>(hf b hb).1⟩⟩
  done:=by
    intro X hP hw hK hc i pins s σ H E I hf st hg
    subst hP hw hK
    obtain ⟨f0,f1,f2,f3,f4,f5⟩:=hf it (by simp)
    exact wpAny_pyNext_range_end (I.ok.hd hc) st (by have:n≤i:=hg;omega) fun h' eb=>⟨rfl,I.turned (t':=s.toks) (fun b o hb e=>eb b o hb e) f0 f1 f3 f4 f5⟩
  self:=fun _ _ _ _ _ st h=>wpAny_pyIter_rangeiter st h
section
variable {X:Cx} {tg:Expr}
def iStep (ta:TA):TI:=fun σ H R=>ta σ H fun vs H1=>∃ lo hi c:Int,vs=[.int lo,.int hi,.int c]∧(0≤lo∧lo≤1000∧0≤hi∧hi≤1000∧0 < c∧c≤1000)∧R (Itc lo c (stepN lo hi c)) H1
theorem pi_step {a b c:Expr} {ta:TA} {p pos:Pos} (hg:Gl X "range") (hm:X.mg "range" = none) (ha:PA X [a,b,c] ta) (hs:starEach [a,b,c] X.env=[(false,eval a X.env),(false,eval b X.env),(false,eval c X.env)]:=by rfl) (hs2:starEach [b,c] X.env=[(false,eval b X.env),(false,eval c X.env)]:=by rfl) :
    PI X tg (.Call (.Name "range" p) [a,b,c] [] pos) (iStep ta):=by
  intro pins s σ H R I h
  refine Call_ (ld_blt I hg hm boot_range (PyProof.Rows.callWith_type1 (thn (ha pos pins s σ H _ I h) fun us s1 ⟨vs,H1,I1,r1,q1⟩=>?_) (by rw [hs,hs2]) (by rw [hs2];rfl)))
  obtain ⟨lo,hi,st,e,⟨l0,l1,h0,h1,c0,c1⟩,q⟩:=q1
  subst e
  cases r1 with
  | cons r rr=>
    cases rr with
    | cons r' rr=>
      cases rr with
      | cons r'' rr=>
      cases rr
      obtain ⟨t,rfl⟩:=r
      obtain ⟨t',rfl⟩:=r'
      obtain ⟨t'',rfl⟩:=r''
      refine call_range_3 (by omega) ?_ (Or.inl (PyProof.noPylong_small (by omega)))
      have en:=step_nat (lo:=lo) (hi:=hi) c0
      have le:=step_le (lo:=lo) (hi:=hi) c0
      have lm:stepN lo hi st≤1000:=by split at le <;> omega
      have I2:Inv X pins σ H1 { s1 with heap:=s1.heap.push { cls:=.type "range", data:=.fields #[.int lo t,.int hi t',.int st t''] } }:=I1.kept (t':=s1.toks) fun b o e=>Heap.get?_push_of_some _ e
      refine wpAny_pyIter_range (IsRange.new ..) ?_ ?_
      · unfold Builtin.Range.small
        rw [en]
        simp only [Builtin.Range.rangeFitsLong,Bool.and_eq_true,Bool.or_eq_true,decide_eq_true_eq,beq_iff_eq]
        rw [if_pos (by omega)]
        refine ⟨⟨⟨⟨?_,?_⟩,?_⟩,?_⟩,.inr ?_⟩ <;> (try simp only [Bool.and_eq_true,decide_eq_true_eq]) <;> omega
      · refine ⟨(s1.heap.push { cls:=.type "range", data:=.fields #[.int lo t,.int hi t',.int st t''] }).objs.size,[(s1.heap.push { cls:=.type "range", data:=.fields #[.int lo t,.int hi t',.int st t''] }).objs.size],_,_,H1,rfl,
          I2.kept (t':=s1.toks) fun b o e=>Heap.get?_push_of_some _ e,turn_step _ lo st (stepN lo hi st),?_,fun b hb=>?_,q⟩
        · show IsRangeIter _ _ (lo+((0:Nat):Int) * st) ((stepN lo hi st:Int) - ((0:Nat):Int)) st
          rw [show lo+((0:Nat):Int) * st=lo by simp,show (stepN lo hi st:Int) - ((0:Nat):Int)=(stepN lo hi st:Int) by simp]
          have:=Heap.get?_push_size (s1.heap.push { cls:=.type "range", data:=.fields #[.int lo t,.int hi t',.int st t''] }) (o:={ cls:=.type "range_iterator", data:=.fields #[rawInt lo,rawInt (Builtin.Range.rangeSize lo hi st),rawInt st] }) rfl
          exact Eq.mp (congrArg (fun z=>IsRangeIter _ _ lo z st) en) this
        · have e:b=(s1.heap.push { cls:=.type "range", data:=.fields #[.int lo t,.int hi t',.int st t''] }).objs.size:=by simpa using hb
          subst e
          exact I2.fpOk (Nat.le_refl _) (I2.hok.fresh (Nat.le_refl _))
theorem for_step {lo c:Int} {n:Nat} {g:TG} {tb:TS} {D:Ends} {σ:St} {H:Hp} (Pv:Nat→St→Hp→Prop) (h0:Pv 0 σ H)
    (hs:∀ (i:Nat) σ H,i < n→Pv i σ H→g (.int (lo+i * c)) σ H fun σ2 H2=>tb { D with nx:=Pv (i+1),ct:=Pv (i+1),bk:=D.nx } σ2 H2) (hd:∀ σ H,Pv n σ H→D.nx σ H) :
    ∃ W:Nat→Nat→St→Hp→Prop,(∃ m,W 0 m σ H)∧∀ i m σ H,W i m σ H →
      ((Itc lo c n).stop i H∧D.nx σ H)∨((Itc lo c n).go i H∧∃ N:St→Hp→Prop,(∀ σ' H',N σ' H'→∃ m',m' < m∧W (i+1) m' σ' H')∧∀ x H',(Itc lo c n).yld i H x H'→g x σ H' fun σ2 H2=>tb { D with nx:=N,ct:=N,bk:=D.nx } σ2 H2):=by
  refine ⟨fun i m σ H=>m=n - i∧i≤n∧Pv i σ H,⟨n,by simp,Nat.zero_le _,h0⟩,?_⟩
  rintro i m σ H ⟨rfl,hi,p⟩
  by_cases hlt:i < n
  · refine .inr ⟨hlt,Pv (i+1),fun σ' H' p'=>⟨n - (i+1),by omega,rfl,hlt,p'⟩,fun x H' y=>?_⟩
    obtain ⟨e,y⟩:=y
    subst e y
    exact hs i σ _ hlt p
  · have e:i=n:=by omega
    subst e
    exact .inl ⟨Nat.le_refl _,hd σ H p⟩
end
end L2
namespace S65
open PySem L2 W7
open W63 (Wr Wi enc dec star)
structure Uq (us bs:List Str):Prop where
  nd:us.Nodup
  mem:∀ x,x∈us ↔ x∈bs
  srt:PyProof.Rows.sortedS us=true
def lwd (its:List W63.It) (ws:List Nat):List Str:=((lens its ws (ws.length+1)).filter fun L=>decide (0 < L)).map fun L=>mk (ws.take L)
def fwd (its:List W63.It) (ups:List Int) (lab:Str) (n:Nat):List Str:=((List.range n).map fun p=>lwd its (W ups lab.cps.toList p)).flatten
theorem fwd_succ (its:List W63.It) (ups:List Int) (lab:Str) (n:Nat):fwd its ups lab (n+1)=fwd its ups lab n++lwd its (W ups lab.cps.toList n):=by
  unfold fwd
  rw [List.range_succ,List.map_append,List.flatten_append]
  simp
theorem lwd_len (its:List W63.It) (ws:List Nat):(lwd its ws).length≤ws.length+1:=by
  unfold lwd
  rw [List.length_map]
  exact Nat.le_trans (List.length_filter_le _ _) (lens_le _ _ _)
theorem fwd_len {its:List W63.It} {ups:List Int} {lab:Str}:∀ n,(∀ p,p < n→(W ups lab.cps.toList p).length≤20)→(fwd its ups lab n).length≤21 * n
  | 0,_=>Nat.le_refl _
  | n+1,h=>by
    rw [fwd_succ,List.length_append]
    have h1:=fwd_len (its:=its) n fun p hp=>h p (by omega)
    have h2:=lwd_len its (W ups lab.cps.toList n)
    have h3:=h n (by omega)
    omega
theorem mem_lwd {its:List W63.It} {ws:List Nat} {x:Str}:x∈lwd its ws ↔ ∃ L,0 < L∧L≤ws.length∧W63.D its ws its.length L=true∧x=mk (ws.take L):=by
  unfold lwd lens
  simp only [List.mem_map,List.mem_filter,List.mem_range,decide_eq_true_eq]
  constructor
  · rintro ⟨L,⟨⟨h1,h2⟩,h3⟩,rfl⟩
    exact ⟨L,h3,by omega,h2,rfl⟩
  · rintro ⟨L,h3,h1,h2,rfl⟩
    exact ⟨L,⟨⟨by omega,h2⟩,h3⟩,rfl⟩
theorem mem_fwd {its:List W63.It} {ups:List Int} {lab:Str} {n:Nat} {x:Str}:x∈fwd its ups lab n ↔ ∃ p L,p < n∧0 < L∧L≤(W ups lab.cps.toList p).length∧W63.D its (W ups lab.cps.toList p) its.length L=true∧x=mk ((W ups lab.cps.toList p).take L):=by
  unfold fwd
  simp only [List.mem_flatten,List.mem_map,List.mem_range]
  constructor
  · rintro ⟨l,⟨p,hp,rfl⟩,hx⟩
    obtain ⟨L,h⟩:=mem_lwd.mp hx
    exact ⟨p,L,hp,h⟩
  · rintro ⟨p,L,hp,h⟩
    exact ⟨_,⟨p,hp,rfl⟩,mem_lwd.mpr ⟨L,h⟩⟩
theorem cut_take (ws:List Nat) (L:Nat):cutS (mk ws) none (some (L:Int))=mk (ws.take L):=by
  apply str_ext
  have e:(cutS (mk ws) none (some (L:Int))).cps.toList=((mk ws).cps.toList.drop 0).take (HT.sIx (mk ws).length (mk ws).length (some (L:Int)) - 0):=rfl
  rw [e,HT.sIx_nat,mk_cps,mk_len,mk_cps,List.drop_zero,Nat.sub_zero]
  rcases Nat.le_total L ws.length with h | h
  · rw [Nat.min_eq_left h]
  · rw [Nat.min_eq_right h,List.take_length,List.take_of_length_le h]
theorem ItsAt.write {H:Hp} {l q:Addr} {its:List W63.It} {xs:List V} {o:HO} (h:ItsAt H l its) (n:l≠q) (e:H q=some (.lst xs)):ItsAt (upd H q o) l its:=by
  obtain ⟨vs,a,b,c⟩:=h
  refine ⟨vs,by rw [upd_ne n];exact a,b,fun i x e0=>?_⟩
  obtain ⟨p,e1,e2⟩:=c i x e0
  exact ⟨p,e1,by rw [upd_ne (ne_of e2 e (by intro z;cases z))];exact e2⟩
section
variable {P:Program} {w:World} {K:PySem.W.Frag} {mg:Str→Option Value} {base:Heap} {k:Nat}
def sp_wf:Sp:=fun vs H Q _=>∃ (t:Addr) (ups:List Int) (lab:Str) (xs:List Wi),vs=[.ref t,.str (mk (enc xs))]∧TreeAt H t ups lab∧(∀ x∈xs,x.1.Ok)∧(enc xs).length≤40∧xs.length≤40∧ups.length≤20 ∧
  ∀ (q:Addr) (us:List Str) (H':Hp),Same H H'→H q=none→Uq us (fwd (dec xs) ups lab ups.length)→us.length≤420→H' q=some (.lst (us.map V.str))→Q (.ref q) H'
theorem has_wf (D:Df K mg "words_fitting" s_words_fitting) (B:Blt7 mg) (G_items_of:Has P w K mg base "items_of" k ["pattern"] sp_items) (G_words_of:Has P w K mg base "words_of" k ["tree"] sp_words) (G_lengths_fitting:Has P w K mg base "lengths_fitting" k ["items", "word"] sp_lens):Has P w K mg base "words_fitting" (k+1) ["tree", "pattern"] sp_wf:=by
  refine D.has sc_words_fitting (fun _ _ _ _ _ _=>ar2 fun _ _=>rfl) (fun vs H Q E h=>by obtain ⟨t,ups,lab,xs,rfl,_⟩:=h;rfl) (fun f cdv A outer s H vs Q E hr h=>?_)
  obtain ⟨t,ups,lab,xs,rfl,tr,ok,l40,x40,u20,q⟩:=h
  refine ⟨_,(pss_cons (ps_set (i:=2) sc_words_fitting.nd rfl (by first | exact Or.inl rfl | exact Or.inr rfl) (pe_callH G_items_of hr rfl (pa_cons (pv 1) pa_nil)))
  (pss_cons (ps_set (i:=3) sc_words_fitting.nd rfl (by first | exact Or.inl rfl | exact Or.inr rfl) (pe_lst pa_nil))
  (pss_cons (ps_for PassesOwn.never rfl (pi_list (pe_callH G_words_of hr rfl (pa_cons (pv 0) pa_nil))) (pg_name (i:=4) sc_words_fitting.nd rfl (by first | exact Or.inl rfl | exact Or.inr rfl))
  (pss_one (ps_expr (pe_bm PySem.F.plainAttrs_list PySem.F.slot_list_extend PySem.F.type_list_extend mt_extend (pv 3) (pa_cons (pe_comp rfl (pi_list (pe_callH G_lengths_fitting hr rfl (pa_cons (pv 2) (pa_cons (pv 4) pa_nil)))) (NL:=["length"]) (ix:=[4]) (csc (defScope s_words_fitting) N_words_fitting) (fun cl C s₃ H₃ fp pins=>⟨(pg_name (i:=0) (show List.Nodup (["length", "word"]:List Str) from by decide +kernel) rfl (by first | exact Or.inl rfl | exact Or.inr rfl)),(pifs_one (pt_cmpR op_gt (pv 0) pe_int (nomark _))),(pe_slice sl_str (pv 1) po_none (po_some (pv 0)))⟩)) pa_nil)))))
  (pss_one (ps_ret (pe_callB (call_sorted_setB w rfl) rfl B.sorted bt_sorted' (pa_cons (pe_callTy (call_set_textsW w rfl) rfl B.set_ bt_set (pa_cons (pv 3) pa_nil)) pa_nil))))))),?_⟩
  first | (dsimp only [cxOf,Cx.nox];generalize hK:K=K';revert K' hK;refine seqK (seqE <| seqE <| seqE <| fun _=>rfl) ?_) | skip
  refine ⟨_,rfl,xs,rfl,ok,l40,fun li H1 s1 f1 it=>?_⟩
  refine ⟨line_le (show 0≤1000 by omega),fun fo hfo=>?_⟩
  have s2:Same H1 (upd H1 fo (.lst [])):=(Same.refl H1).new hfo
  have v2:upd H1 fo (.lst []) fo=some (.lst []):=upd_same
  show (fun HH=>_) (upd H1 fo (.lst []))
  generalize upd H1 fo (.lst [])=H2 at s2 v2
  refine ⟨_,rfl,t,ups,lab,rfl,(tr.same s1).same s2,fun wl H3 s3 hw=>?_⟩
  have Hfo:H fo=none:=s1.free hfo
  have s13:=s1.trans (s2.trans s3)
  obtain ⟨_,_,_,tok⟩:=id tr
  have lpos:=tok.pos
  have dl:=W63.dec_len xs
  have wll:(wordsV ups lab ups.length).length=ups.length:=by simp [wordsV]
  have wle:∀ p,p < ups.length→(W ups lab.cps.toList p).length≤20:=fun p hp=>by
    have:=W_len tok (p+1) p (Nat.lt_succ_self _) hp
    omega
  have it1:∃ ivs:List V,H1 li=some (.lst ivs):=let ⟨vs,e,_⟩:=it;⟨vs,e⟩
  have wfo:wl≠fo:=fun z=>by
    have:=s3 _ _ v2
    rw [← z,hw] at this
    have e2:wordsV ups lab ups.length=[]:=by injection (Option.some.inj this)
    rw [e2] at wll
    simp at wll
    omega
  refine ⟨wl,rfl,⟨_,SqL.of hw⟩,?_⟩
  have it3:=(it.same s2).same s3
  have nlf:li≠fo:=by obtain ⟨vs,e⟩:=it1;exact ne_of_none e hfo
  refine for_list (K:=K) (xs:=wordsV ups lab ups.length) (fun j σ HX=>∃ o4:Option V,σ=[some (.ref t),some (.str (mk (enc xs))),some (.ref li),some (.ref fo),o4]∧Same H HX∧HX wl=some (.lst (wordsV ups lab ups.length))∧ItsAt HX li (dec xs)∧HX fo=some (.lst ((fwd (dec xs) ups lab j).map V.str)))
    ⟨none,rfl,s13,hw,it3,s3 _ _ v2⟩ (fun j σ HX _ h=>by obtain ⟨_,_,_,h,_⟩:=h;exact SqL.of h) ?_ ?_
  rotate_left
  · rintro σ HX ⟨o4,rfl,sX,_,_,fX⟩
    rw [wll] at fX
    have fl:=fwd_len (its:=dec xs) (ups:=ups) (lab:=lab) ups.length wle
    refine ⟨_,rfl,fo,_,rfl,SqL.of fX,by omega,fun r1 hr1=>?_⟩
    have s4:Same HX (upd HX r1 (setO w r1 (fwd (dec xs) ups lab ups.length) (fwd (dec xs) ups lab ups.length).length)):=(Same.refl HX).new hr1
    have v4:upd HX r1 (setO w r1 (fwd (dec xs) ups lab ups.length) (fwd (dec xs) ups lab ups.length).length) r1=some (setO w r1 (fwd (dec xs) ups lab ups.length) (fwd (dec xs) ups lab ups.length).length):=upd_same
    show (fun HH=>_) (upd HX r1 (setO w r1 (fwd (dec xs) ups lab ups.length) (fwd (dec xs) ups lab ups.length).length))
    generalize upd HX r1 (setO w r1 (fwd (dec xs) ups lab ups.length) (fwd (dec xs) ups lab ups.length).length)=H4 at s4 v4
    refine ⟨r1,_,_,rfl,v4,by omega,fun us r2 nd mem srt ul hr2=>?_⟩
    exact q r2 us _ ((sX.trans s4).new hr2) (sX.free (s4.free hr2)) ⟨nd,mem,srt⟩ (by omega) upd_same
  rintro j x σ HX hx ⟨o4,rfl,sX,hwX,itX,fX⟩
  have jl:j < ups.length:=by
    have:=(List.getElem?_eq_some_iff.mp hx).1
    omega
  have ex:x=.str (mk (W ups lab.cps.toList j)):=by
    unfold wordsV at hx
    rw [List.getElem?_map,List.getElem?_range jl] at hx
    exact (Option.some.inj hx).symm
  subst ex
  have wj:=wle j jl
  generalize hws:W ups lab.cps.toList j=ws at wj
  have zl:(mk ws).length≤60:=by rw [mk_len];omega
  refine ⟨_,rfl,.inl ⟨rfl,_,SqL.of fX⟩,_,rfl,_,rfl,li,dec xs,_,rfl,itX,by omega,zl,fun ln H5 s5 f5 h5=>?_⟩
  rw [mk_cps,mk_len] at h5
  have ll:=lens_le (dec xs) ws (ws.length+1)
  refine ⟨ln,rfl,⟨_,SqL.of h5⟩,fun acc hacc=>?_⟩
  refine comp_lst (xs:=nV (lens (dec xs) ws (ws.length+1))) (by rw [nV_len];omega) (fun i ys HY=>HY acc=some (.lst ys)∧ys=((((lens (dec xs) ws (ws.length+1)).take i).filter fun L=>decide (0 < L)).map fun L=>V.str (mk (ws.take L)))∧Same H5 HY)
    (fun i ys HY h=>SqL.of (h.2.2 _ _ h5)) (fun i ys HY h=>⟨h.1,by rw [h.2.1,List.length_map];exact Nat.le_trans (List.length_filter_le _ _) (by rw [List.length_take];omega)⟩) ⟨upd_same,by simp,(Same.refl H5).new hacc⟩ ?_ ?_
  · rintro ys H6 ⟨g1,rfl,g3⟩
    rw [nV_len,List.take_length] at g1
    have fX6:=g3 _ _ (s5 _ _ fX)
    have al:acc≠fo:=fun z=>by
      have:=s5 _ _ fX
      rw [← z,hacc] at this;cases this
    have fl:=fwd_len (its:=dec xs) (ups:=ups) (lab:=lab) j fun p hp=>wle p (by omega)
    have ll2:=lwd_len (dec xs) ws
    have eq1:(((lens (dec xs) ws (ws.length+1)).filter fun L=>decide (0 < L)).map fun L=>V.str (mk (ws.take L)))=(lwd (dec xs) ws).map V.str:=by unfold lwd;rw [List.map_map];rfl
    rw [eq1] at g1
    refine ⟨fo,acc,_,_,rfl,rfl,fX6,g1,?_,?_⟩
    · rw [List.length_map,List.length_map]
      exact line_le (by omega)
    have sXF:=sX.trans (s5.trans g3)
    refine ⟨_,rfl,sXF.write Hfo,?_,?_,?_⟩
    · rw [upd_ne wfo];exact g3 _ _ (s5 _ _ hwX)
    · have i6:=(itX.same s5).same g3
      exact i6.write nlf fX6
    · rw [upd_same,fwd_succ,List.map_append,hws]
  · rintro i x ys H6 hx6 ⟨g1,rfl,g3⟩
    have il:i < (lens (dec xs) ws (ws.length+1)).length:=by have:=(List.getElem?_eq_some_iff.mp hx6).1;rwa [nV_len] at this
    have hL:(lens (dec xs) ws (ws.length+1))[i]?=some ((lens (dec xs) ws (ws.length+1))[i]):=List.getElem?_eq_getElem il
    generalize (lens (dec xs) ws (ws.length+1))[i]=L at hL
    have ex:x=.int (L:Int):=by
      unfold nV at hx6
      rw [List.getElem?_map,hL] at hx6
      exact (Option.some.inj hx6).symm
    subst ex
    have tk:=PySem.take_succ_filter (fun L=>decide (0 < L)) (lens (dec xs) ws (ws.length+1)) i L hL
    refine ⟨rfl,_,rfl,_,_,rfl,rfl,_,rfl,ite2 (fun cnd=>?_) (fun cnd=>?_)⟩
    · refine ⟨_,rfl,_,rfl,_,rfl,mk ws,rfl,line_le (by rw [mk_len];omega),g1,upd_same,?_,g3.write hacc⟩
      have c2:decide (0 < L)=true:=by
        have:(0:Int) < (L:Int):=by simpa using cnd
        exact decide_eq_true (by omega)
      rw [tk,c2,List.map_append,cut_take];rfl
    · refine ⟨g1,?_,g3⟩
      have c2:decide (0 < L)=false:=by
        have:¬ (0:Int) < (L:Int):=by simpa using cnd
        exact decide_eq_false (by omega)
      rw [tk,c2];simp
def sp_many:Sp:=fun vs H Q _=>∃ (t:Addr) (ups:List Int) (lab:Str) (xs:List Wi),vs=[.ref t,.str (mk (enc xs))]∧TreeAt H t ups lab∧(∀ x∈xs,x.1.Ok)∧(enc xs).length≤40∧xs.length≤40∧ups.length≤20 ∧
  ∀ (us:List Str) (H':Hp),Same H H'→Uq us (fwd (dec xs) ups lab ups.length)→Q (.int (us.length:Int)) H'
theorem has_many (D:Df K mg "many_by" s_many_by) (B:Blt7 mg) (G_words_fitting:Has P w K mg base "words_fitting" k ["tree", "pattern"] sp_wf):Has P w K mg base "many_by" (k+1) ["tree", "pattern"] sp_many:=by
  refine D.has sc_many_by (fun _ _ _ _ _ _=>ar2 fun _ _=>rfl) (fun vs H Q E h=>by obtain ⟨t,ups,lab,xs,rfl,_⟩:=h;rfl) (fun f cdv A outer s H vs Q E hr h=>?_)
  obtain ⟨t,ups,lab,xs,rfl,tr,ok,l40,x40,u20,q⟩:=h
  refine ⟨_,(pss_one (ps_ret (pe_callB call_len_seq rfl B.len bt_len (pa_cons (pe_callH G_words_fitting hr rfl (pa_cons (pv 0) (pa_cons (pv 1) pa_nil))) pa_nil)))),?_⟩
  refine ⟨_,rfl,_,rfl,t,ups,lab,xs,rfl,tr,ok,l40,x40,u20,fun r us H1 s1 f1 uq ul h1=>?_⟩
  refine ⟨r,_,rfl,.inl (SqL.of h1),?_⟩
  rw [List.length_map]
  exact q us H1 s1 uq
end
end S65
namespace S65
open PySem L2 W7
open W63 (Wr Wi enc dec star)
theorem rising_pair:∀ (l:List Str) (p:Str),PyProof.Rows.risingS p l=true→(p :: l).Pairwise (fun a b=>¬ b.cps.toList < a.cps.toList)
  | [],p,_=>List.pairwise_singleton _ _
  | x :: r,p,h=>by
    have h':(!PySem.Spec.ltCps x.cps.toList p.cps.toList && PyProof.Rows.risingS x r)=true:=h
    obtain ⟨h1,h2⟩:=(Bool.and_eq_true _ _).mp h'
    have ih:=rising_pair r x h2
    have px:¬ x.cps.toList < p.cps.toList:=by
      rw [PyProof.Rows.ltCps_eq] at h1
      simpa using h1
    refine List.pairwise_cons.mpr ⟨fun y hy=>?_,ih⟩
    rcases List.mem_cons.mp hy with rfl | hy
    · exact px
    · have xy:=List.rel_of_pairwise_cons ih hy
      exact List.not_lt.mpr (List.le_trans (List.not_lt.mp px) (List.not_lt.mp xy))
theorem sorted_pair:∀ ss:List Str,PyProof.Rows.sortedS ss=true→ss.Pairwise (fun a b=>¬ b.cps.toList < a.cps.toList)
  | [],_=>List.Pairwise.nil
  | x :: r,h=>rising_pair r x h
theorem glue_cps:∀ (ss:List Str) (acc:Array Nat),(List.foldl (fun acc (p:Str)=>acc++(Str.ofString "").cps++p.cps) acc ss).toList=acc.toList++(ss.map fun z:Str=>z.cps.toList).flatten
  | [],acc=>by simp
  | x :: r,acc=>by
    rw [List.foldl_cons,glue_cps r,Array.toList_append,Array.toList_append]
    have e:(Str.ofString "").cps.toList=[]:=rfl
    rw [e,List.append_nil,List.map_cons,List.flatten_cons,List.append_assoc]
theorem join_cps (ss:List Str):(Txt.join (Str.ofString "") ss).cps.toList=(ss.map fun z:Str=>z.cps.toList).flatten:=by
  cases ss with
  | nil=>rfl
  | cons x r=>
    have:=glue_cps r x.cps
    rw [List.map_cons,List.flatten_cons]
    exact this
theorem join_set {ss:List Str} (nd:ss.Nodup) (srt:PyProof.Rows.sortedS ss=true) (one:∀ z∈ss,∃ c,z=mk [c]∧Lw c) (ne:ss≠[]) :
    ∃ L:List Nat,Txt.join (Str.ofString "") ss=mk L∧L≠[]∧(∀ c∈L,Lw c)∧L.Pairwise (· < ·)∧(ss.map (·.length)).sum+ss.length * (Str.ofString "").length≤16777216:=by
  have ex:∀ (l:List Str),(∀ z∈l,∃ c,z=mk [c]∧Lw c)→∃ L:List Nat,l=L.map (fun c=>mk [c])∧∀ c∈L,Lw c:=fun l=>by
    induction l with
    | nil=>exact fun _=>⟨[],rfl,fun c h=>nomatch h⟩
    | cons z r ih=>
      intro h
      obtain ⟨L,e,lo⟩:=ih fun y hy=>h y (List.mem_cons_of_mem _ hy)
      obtain ⟨c,rfl,lc⟩:=h z List.mem_cons_self
      refine ⟨c :: L,by rw [e];rfl,fun d hd=>?_⟩
      rcases List.mem_cons.mp hd with rfl | hd
      · exact lc
      · exact lo d hd
  obtain ⟨L,rfl,lo⟩:=ex ss one
  have pw:L.Pairwise (· < ·):=by
    have p1:=sorted_pair _ srt
    rw [List.pairwise_map] at p1
    have p2:L.Pairwise (·≠·):=by
      have:((L.map fun c=>mk [c])).Pairwise (·≠·):=nd
      rw [List.pairwise_map] at this
      exact this.imp fun {a b} h e=>h (by rw [e])
    refine (p1.and p2).imp fun {a b} h=>?_
    have h1:¬ [b] < [a]:=h.1
    rw [List.cons_lt_cons_iff] at h1
    have:¬ b < a:=fun z=>h1 (.inl z)
    have:=h.2
    omega
  have l26:=W63.rise_len L 97 (fun c hc=>lo c hc) pw (by omega)
  refine ⟨L,?_,fun e=>ne (by rw [e];rfl),lo,pw,?_⟩
  · apply str_ext
    rw [join_cps,mk_cps,List.map_map]
    have:∀ l:List Nat,(l.map ((fun z:Str=>z.cps.toList) ∘ fun c=>mk [c])).flatten=l:=fun l=>by
      induction l with
      | nil=>rfl
      | cons a l ih=>rw [List.map_cons,List.flatten_cons,ih];rfl
    exact this L
  · have e0:(Str.ofString "").length=0:=rfl
    rw [e0,Nat.mul_zero,Nat.add_zero,List.map_map]
    have:∀ l:List Nat,(l.map ((fun z:Str=>z.length) ∘ fun c=>mk [c])).sum=l.length:=fun l=>by
      induction l with
      | nil=>rfl
      | cons a l ih=>rw [List.map_cons,List.sum_cons,ih,List.length_cons];show 1+_=_;omega
    rw [this];omega
structure LIts (H:Hp) (l:Addr) (xs:List Wi):Prop where
  ex:∃ vs:List V,H l=some (.lst vs)∧vs.length=xs.length∧∀ (i:Nat) (x:Wi),xs[i]?=some x→∃ a,vs[i]?=some (V.ref a)∧H a=some (.tup [.str (mk (W63.wt x)),.str (mk x.1.lets),.bl x.2])
theorem LIts.same {H H':Hp} {l:Addr} {xs:List Wi} (h:LIts H l xs) (s:Same H H'):LIts H' l xs:=by
  obtain ⟨vs,a,b,c⟩:=h
  exact ⟨vs,s _ _ a,b,fun i x e=>let ⟨q,e1,e2⟩:=c i x e;⟨q,e1,s _ _ e2⟩⟩
theorem LIts.kd {H H':Hp} {p l:Addr} {c d:Int} {xs:List Wi} (h:LIts H l xs) (k:Kd p c H H') (np:l≠p) (dk:Deck H p d):LIts H' l xs:=by
  obtain ⟨vs,a,b,e⟩:=h
  refine ⟨vs,k.keep _ _ np a,b,fun i x e1=>?_⟩
  obtain ⟨q,e2,e3⟩:=e i x e1
  refine ⟨q,e2,k.keep _ _ (fun z=>?_) e3⟩
  obtain ⟨_,_,_,e4,_⟩:=dk
  rw [z] at e3;rw [e3] at e4;cases e4
section
variable {P:Program} {w:World} {K:PySem.W.Frag} {mg:Str→Option Value} {base:Heap} {k:Nat}
def sp_lwrit:Sp:=fun vs H Q _=>∃ (l:Addr) (xs:List Wi),vs=[.ref l]∧LIts H l xs∧xs.length≤40∧(enc xs).length≤40∧∀ H',Same H H'→Q (.str (mk (enc xs))) H'
theorem has_lwrit (D:Df K mg "_law_written" s_law_written) (B:Blt7 mg):Has P w K mg base "_law_written" (k+1) ["items_here"] sp_lwrit:=by
  refine D.has sc_law_written (fun _ _ _ _ _ _=>ar1 fun _=>rfl) (fun vs H Q E h=>by obtain ⟨l,xs,rfl,_⟩:=h;rfl) (fun f cdv A outer s H vs Q E hr h=>?_)
  obtain ⟨l,xs,rfl,it,x40,e40,q⟩:=h
  refine ⟨_,(pss_one (ps_ret (pe_bm PySem.F.plainAttrs_str PySem.F.slot_str_join PySem.F.type_str_join mt_join pe_str (pa_cons (pe_comp rfl (pi_list (pv 0)) (NL:=["text", "letters", "starred"]) (ix:=[]) (csc (defScope s_law_written) N_law_written) (fun cl C s₃ H₃ fp pins=>⟨(pg_tupK K (n:=3) rfl (pgs_cons (pg_name (i:=0) (show List.Nodup (["text", "letters", "starred"]:List Str) from by decide +kernel) rfl (by first | exact Or.inl rfl | exact Or.inr rfl)) (pgs_cons (pg_name (i:=1) (show List.Nodup (["text", "letters", "starred"]:List Str) from by decide +kernel) rfl (by first | exact Or.inl rfl | exact Or.inr rfl)) (pgs_cons (pg_name (i:=2) (show List.Nodup (["text", "letters", "starred"]:List Str) from by decide +kernel) rfl (by first | exact Or.inl rfl | exact Or.inr rfl)) pgs_nil)))),pifs_nil,(pv 0)⟩)) pa_nil)))),?_⟩
  obtain ⟨vs,hv,lv,at_⟩:=it
  refine ⟨rfl,_,rfl,l,rfl,⟨_,SqL.of hv⟩,fun acc hacc=>?_⟩
  refine comp_lst (K:=K) (a:=l) (xs:=vs) (by omega) (fun i ys HX=>HX acc=some (.lst ys)∧Same H HX∧ys=((xs.take i).map fun x=>mk (W63.wt x)).map V.str)
    (fun i ys HX h=>SqL.of (h.2.1 _ _ hv)) (fun i ys HX h=>⟨h.1,by rw [h.2.2,List.length_map,List.length_map,List.length_take];omega⟩) ⟨upd_same,(Same.refl H).new hacc,rfl⟩ ?_ ?_
  rotate_left
  · rintro i v ys HX hx ⟨g1,g2,rfl⟩
    have il:i < xs.length:=by
      have:=(List.getElem?_eq_some_iff.mp hx).1
      omega
    obtain ⟨a,e1,e2⟩:=at_ i _ (List.getElem?_eq_getElem il)
    rw [hx] at e1
    cases e1
    have tk:xs.take (i+1)=xs.take i++[xs[i]]:=by rw [List.take_succ,List.getElem?_eq_getElem il];rfl
    refine ⟨a,_,rfl,SqT.of (g2 _ _ e2),rfl,_,_,rfl,_,_,rfl,_,_,rfl,rfl,?_⟩
    refine ⟨rfl,_,rfl,g1,upd_same,g2.write hacc,?_⟩
    rw [tk,List.map_append,List.map_append];rfl
  rintro ys H1 ⟨g1,s1,rfl⟩
  rw [lv,List.take_length] at g1
  refine ⟨_,acc,xs.map (fun x=>mk (W63.wt x)),rfl,rfl,SqL.of g1,?_,?_⟩
  · have e0:(Str.ofString "").length=0:=rfl
    have sm:∀ ys:List Wi,((ys.map fun x=>mk (W63.wt x)).map (·.length)).sum=(enc ys).length:=fun ys=>by
      induction ys with
      | nil=>rfl
      | cons y ys ih=>
        rw [List.map_cons,List.map_cons,List.sum_cons,ih,mk_len]
        show _=(W63.wt y++enc ys).length
        rw [List.length_append]
    rw [e0,Nat.mul_zero,sm];omega
  · have ej:Txt.join (Str.ofString "") (xs.map fun x=>mk (W63.wt x))=mk (enc xs):=by
      apply str_ext
      rw [join_cps,mk_cps,List.map_map];rfl
    rw [ej]
    exact q _ s1
def bV (f:Nat→Bool) (n:Nat):List V:=(List.range n).map fun j=>V.bl (f j)
theorem bV_len (f:Nat→Bool) (n:Nat):(bV f n).length=n:=by simp [bV]
theorem bV_succ (f:Nat→Bool) (n:Nat):bV f (n+1)=bV f n++[.bl (f n)]:=by unfold bV;rw [List.range_succ,List.map_append];rfl
theorem bV_at {f:Nat→Bool} {n j:Nat} (h:j < n):atI (bV f n) (j:Int)=some (.bl (f j)):=atI_nat (by unfold bV;rw [List.getElem?_map,List.getElem?_range h];rfl)
def sp_ltak:Sp:=fun vs H Q _=>∃ (l:Addr) (xs:List Wi) (z:Str),vs=[.ref l,.str z]∧LIts H l xs∧xs.length≤40∧z.length≤60 ∧
  ∀ (r:Addr) (H':Hp),Same H H'→H r=none→H' r=some (.lst (bV (W63.D (dec xs) z.cps.toList xs.length) (z.length+1)))→Q (.ref r) H'
theorem has_ltak (D:Df K mg "_law_taken" s_law_taken) (B:Blt7 mg):Has P w K mg base "_law_taken" (k+1) ["items_here", "word"] sp_ltak:=by
  refine D.has sc_law_taken (fun _ _ _ _ _ _=>ar2 fun _ _=>rfl) (fun vs H Q E h=>by obtain ⟨l,xs,z,rfl,_⟩:=h;rfl) (fun f cdv A outer s H vs Q E hr h=>?_)
  obtain ⟨l,xs,z,rfl,it,x40,z60,q⟩:=h
  refine ⟨_,(pss_cons (ps_set (i:=2) sc_law_taken.nd rfl (by first | exact Or.inl rfl | exact Or.inr rfl) (pe_op op_cat (pe_lst (pa_cons pe_bl pa_nil)) (pe_op op_rep (pe_lst (pa_cons pe_bl pa_nil)) (pe_callB call_len_str rfl B.len bt_len (pa_cons (pv 1) pa_nil)))))
  (pss_cons (ps_for PassesOwn.never rfl (pi_list (pv 0)) (pg_tup rfl (pgs_cons (pg_name (i:=3) sc_law_taken.nd rfl (by first | exact Or.inl rfl | exact Or.inr rfl)) (pgs_cons (pg_name (i:=4) sc_law_taken.nd rfl (by first | exact Or.inl rfl | exact Or.inr rfl)) (pgs_cons (pg_name (i:=5) sc_law_taken.nd rfl (by first | exact Or.inl rfl | exact Or.inr rfl)) pgs_nil))))
  (pss_cons (ps_set (i:=6) sc_law_taken.nd rfl (by first | exact Or.inl rfl | exact Or.inr rfl) (pe_lst pa_nil))
  (pss_cons (ps_for PassesOwn.never rfl (pi_range1 rfl B.range (pa_cons (pe_op op_add (pe_callB call_len_str rfl B.len bt_len (pa_cons (pv 1) pa_nil)) pe_int) pa_nil)) (pg_name (i:=7) sc_law_taken.nd rfl (by first | exact Or.inl rfl | exact Or.inr rfl))
  (pss_cons (ps_set (i:=8) sc_law_taken.nd rfl (by first | exact Or.inl rfl | exact Or.inr rfl) (pe_and (pe_cmpR op_gt (pv 7) pe_int (nomark _)) (pe_one (pe_cmpR op_in_str (pe_ix ix_str (pv 1) (pe_op op_sub (pv 7) pe_int) (fun _ _=>rfl)) (pv 4) (by with_unfolding_all rfl)))))
  (pss_one (ps_if (pt_val (pv 5))
  (pss_one (ps_expr (pe_bm PySem.F.plainAttrs_list PySem.F.slot_list_append PySem.F.type_list_append mt_append (pv 6) (pa_cons (pe_or (pe_ix ix_list (pv 2) (pv 7) (fun _ _=>rfl)) (pe_one (pe_and (pv 8) (pe_one (pe_ix ix_list (pv 6) (pe_un un_neg pe_int) (fun _ _=>rfl)))))) pa_nil))))
  (pss_one (ps_expr (pe_bm PySem.F.plainAttrs_list PySem.F.slot_list_append PySem.F.type_list_append mt_append (pv 6) (pa_cons (pe_and (pv 8) (pe_one (pe_ix ix_list (pv 2) (pe_op op_sub (pv 7) pe_int) (fun _ _=>rfl)))) pa_nil))))))))
  (pss_one (ps_set (i:=2) sc_law_taken.nd rfl (by first | exact Or.inl rfl | exact Or.inr rfl) (pv 6))))))
  (pss_one (ps_ret (pv 2))))),?_⟩
  first | (dsimp only [cxOf,Cx.nox];generalize hK:K=K';revert K' hK;refine seqK (seqE <| seqE <| fun _=>rfl) ?_) | skip
  have zb:z.length≤sizeLine:=line_le (by omega)
  have zl:z.cps.toList.length=z.length:=Array.length_toList
  refine ⟨line_le (show 1≤1000 by omega),fun r1 hr1=>?_⟩
  have s1:Same H (upd H r1 (.lst [.bl true])):=(Same.refl H).new hr1
  have h1:upd H r1 (.lst [.bl true]) r1=some (.lst [.bl true]):=upd_same
  show (fun HH=>_) (upd H r1 (.lst [.bl true]))
  generalize upd H r1 (.lst [.bl true])=G1 at s1 h1
  refine ⟨line_le (show 1≤1000 by omega),fun r2 hr2=>?_⟩
  have s2:Same G1 (upd G1 r2 (.lst [.bl false])):=(Same.refl G1).new hr2
  have h2:upd G1 r2 (.lst [.bl false]) r2=some (.lst [.bl false]):=upd_same
  show (fun HH=>_) (upd G1 r2 (.lst [.bl false]))
  generalize upd G1 r2 (.lst [.bl false])=G2 at s2 h2
  have e1:[V.bl false].length * (((z.length:Nat):Int)).toNat≤sizeLine:=line_le (by show 1 * _≤1000;omega)
  refine ⟨_,rfl,z,rfl,zb,r2,_,_,rfl,rfl,h2,by omega,by omega,e1,fun r3 hr3=>?_⟩
  have er:(List.replicate (((z.length:Nat):Int)).toNat [V.bl false]).flatten=List.replicate z.length (V.bl false):=by
    rw [Int.toNat_natCast]
    generalize z.length=n
    induction n with
    | zero=>rfl
    | succ n ih=>rw [List.replicate_succ,List.flatten_cons,ih];rfl
  rw [er]
  have s3:Same G2 (upd G2 r3 (.lst (List.replicate z.length (V.bl false)))):=(Same.refl G2).new hr3
  have h3:upd G2 r3 (.lst (List.replicate z.length (V.bl false))) r3=some (.lst (List.replicate z.length (V.bl false))):=upd_same
  show (fun HH=>_) (upd G2 r3 (.lst (List.replicate z.length (V.bl false))))
  generalize upd G2 r3 (.lst (List.replicate z.length (V.bl false)))=G3 at s3 h3
  have s13:=s1.trans (s2.trans s3)
  refine ⟨r1,r3,_,_,rfl,rfl,s3 _ _ (s2 _ _ h1),h3,line_le (by rw [List.length_replicate];show 1+z.length≤1000;omega),fun fr hfr=>?_⟩
  have e0:[V.bl true]++List.replicate z.length (V.bl false)=bV (W63.D (dec xs) z.cps.toList 0) (z.length+1):=by
    have:∀ n,[V.bl true]++List.replicate n (V.bl false)=bV (W63.D (dec xs) z.cps.toList 0) (n+1):=fun n=>by
      induction n with
      | zero=>rfl
      | succ n ih=>rw [bV_succ,← ih,List.replicate_succ',List.append_assoc];rfl
    exact this _
  rw [e0]
  have s04:Same H (upd G3 fr (.lst (bV (W63.D (dec xs) z.cps.toList 0) (z.length+1)))):=s13.new hfr
  obtain ⟨vs,hv,lv,at_⟩:=it
  have Hfr:H fr=none:=s13.free hfr
  refine ⟨_,rfl,l,rfl,⟨_,SqL.of (s04 _ _ hv)⟩,?_⟩
  refine for_list (K:=K) (xs:=vs) (fun i σ HX=>∃ (fr:Addr) (o3 o4 o5 o6 o7 o8:Option V),σ=[some (.ref l),some (.str z),some (.ref fr),o3,o4,o5,o6,o7,o8]∧Same H HX∧H fr=none∧HX fr=some (.lst (bV (W63.D (dec xs) z.cps.toList i) (z.length+1)))) ⟨fr,none,none,none,none,none,none,rfl,s04,Hfr,upd_same⟩ (fun i σ HX _ h=>by obtain ⟨_,_,_,_,_,_,_,_,sX,_⟩:=h;exact SqL.of (sX _ _ hv)) ?_ ?_
  rotate_left
  · rintro σ HX ⟨fr,o3,o4,o5,o6,o7,o8,rfl,sX,hf,hX⟩
    rw [lv] at hX
    exact ⟨_,rfl,q fr HX sX hf hX⟩
  rintro i v σ HX hx ⟨fr,o3,o4,o5,o6,o7,o8,rfl,sX,hf,hX⟩
  have il:i < xs.length:=by
    have:=(List.getElem?_eq_some_iff.mp hx).1
    omega
  obtain ⟨a,e1,e2⟩:=at_ i _ (List.getElem?_eq_getElem il)
  rw [hx] at e1
  cases e1
  have ed:(dec xs).getD i ([],false)=(xs[i].1.lets,xs[i].2):=by
    unfold dec
    rw [List.getD_eq_getElem?_getD,List.getElem?_map,List.getElem?_eq_getElem il];rfl
  have est:W63.st (dec xs) i=xs[i].2:=by unfold W63.st;rw [ed]
  have egd:∀ n,W63.gd (dec xs) z.cps.toList i n=decide (z.cps.toList.getD n 0∈xs[i].1.lets):=fun n=>by unfold W63.gd W63.good;rw [ed]
  generalize xs[i]=x at e2 ed est egd
  refine ⟨a,_,rfl,SqT.of (sX _ _ e2),rfl,_,_,rfl,_,_,rfl,_,_,rfl,rfl,?_⟩
  refine ⟨line_le (show 0≤1000 by omega),fun be hbe=>?_⟩
  have nfb:fr≠be:=ne_of_none hX hbe
  have Hbe:H be=none:=sX.free hbe
  refine ⟨_,rfl,z,rfl,zb,_,_,rfl,rfl,_,rfl,by omega,by omega,?_⟩
  have en:(((z.length:Nat):Int)+1).toNat=z.length+1:=by omega
  rw [en]
  refine for_range (lo:=0) (n:=z.length+1) (fun j σ HY=>∃ (o7 o8:Option V),σ=[some (.ref l),some (.str z),some (.ref fr),some (.str (mk (W63.wt x))),some (.str (mk x.1.lets)),some (.bl x.2),some (.ref be),o7,o8]∧Same H HY∧HY fr=some (.lst (bV (W63.D (dec xs) z.cps.toList i) (z.length+1)))∧HY be=some (.lst (bV (W63.D (dec xs) z.cps.toList (i+1)) j))) ⟨o7,o8,rfl,sX.new hbe,by rw [upd_ne nfb];exact hX,upd_same⟩ ?_ ?_
  rotate_left
  · rintro σ HY ⟨o7,o8,rfl,sY,hfY,hbY⟩
    exact ⟨_,rfl,be,_,_,_,_,_,_,rfl,sY,Hbe,hbY⟩
  rintro j σ HY hj ⟨o7,o8,rfl,sY,hfY,hbY⟩
  have z0:(0:Int)+(j:Int)=(j:Int):=Int.zero_add _
  rw [z0]
  have app:∀ b:Bool,b=W63.D (dec xs) z.cps.toList (i+1) j→(bV (W63.D (dec xs) z.cps.toList (i+1)) j).length < sizeLine∧Same H (upd HY be (.lst (bV (W63.D (dec xs) z.cps.toList (i+1)) j++[.bl b])))∧upd HY be (.lst (bV (W63.D (dec xs) z.cps.toList (i+1)) j++[.bl b])) fr=some (.lst (bV (W63.D (dec xs) z.cps.toList i) (z.length+1)))∧upd HY be (.lst (bV (W63.D (dec xs) z.cps.toList (i+1)) j++[.bl b])) be=some (.lst (bV (W63.D (dec xs) z.cps.toList (i+1)) (j+1))):=fun b e=>by
    refine ⟨Nat.lt_of_lt_of_le (show _ < 1000 by rw [bV_len];omega) (line_le (Nat.le_refl _)),sY.write Hbe,by rw [upd_ne nfb];exact hfY,?_⟩
    rw [upd_same,bV_succ,e]
  have fa:=bV_at (f:=W63.D (dec xs) z.cps.toList i) (n:=z.length+1) (j:=j) hj
  cases j with
  | zero=>
    refine ⟨_,rfl,_,_,rfl,rfl,_,rfl,L2.iteB (by rfl) ?_⟩
    refine ⟨_,rfl,_,rfl,?_⟩
    cases hx2:x.2 with
    | true=>
      refine iteT ?_
      refine ⟨_,rfl,.inl ⟨rfl,_,SqL.of hbY⟩,_,rfl,_,rfl,fr,_,_,_,rfl,rfl,SqL.of hfY,fa,_,rfl,?_⟩
      have e:W63.D (dec xs) z.cps.toList (i+1) 0=W63.D (dec xs) z.cps.toList i 0:=by rw [W63.D_s0,est,hx2,Bool.true_and]
      cases hd:W63.D (dec xs) z.cps.toList i 0 with
      | true=>
        refine iteT ?_
        obtain ⟨a1,a2,a3,a4⟩:=app true (by rw [e,hd])
        exact ⟨be,_,_,rfl,rfl,hbY,a1,_,_,rfl,a2,a3,a4⟩
      | false=>
        refine iteF ?_
        refine ⟨_,rfl,_,rfl,iteF ?_⟩
        obtain ⟨a1,a2,a3,a4⟩:=app false (by rw [e,hd])
        exact ⟨be,_,_,rfl,rfl,hbY,a1,_,_,rfl,a2,a3,a4⟩
    | false=>
      refine iteF ?_
      refine ⟨_,rfl,.inl ⟨rfl,_,SqL.of hbY⟩,_,rfl,_,rfl,iteF ?_⟩
      obtain ⟨a1,a2,a3,a4⟩:=app false (by rw [W63.D_s0,est,hx2];rfl)
      exact ⟨be,_,_,rfl,rfl,hbY,a1,_,_,rfl,a2,a3,a4⟩
  | succ n=>
    have ej:((n+1:Nat):Int) - 1=(n:Int):=by omega
    have zn:atI z.cps.toList (((n+1:Nat):Int) - 1)=some (z.cps.toList.getD n 0):=by
      rw [ej]
      refine atI_nat ?_
      rw [List.getD_eq_getElem?_getD,List.getElem?_eq_getElem (by omega)];rfl
    have fa':=bV_at (f:=W63.D (dec xs) z.cps.toList i) (n:=z.length+1) (j:=n) (by omega)
    have ba:atI (bV (W63.D (dec xs) z.cps.toList (i+1)) (n+1)) (-1)=some (.bl (W63.D (dec xs) z.cps.toList (i+1) n)):=by rw [bV_succ];exact atI_last _ _
    refine ⟨_,rfl,_,_,rfl,rfl,_,rfl,iteA (decide_eq_true (by show (0:Int) < ((n+1:Nat):Int);omega)) ?_⟩
    refine ⟨_,rfl,_,rfl,_,_,rfl,rfl,_,_,_,rfl,rfl,zb,zn,_,rfl,_,_,rfl,rfl,?_⟩
    rw [PySem.StrLaws.found_one,mk_cps,← egd n]
    refine ⟨_,rfl,_,rfl,?_⟩
    cases hx2:x.2 with
    | true=>
      refine iteT ?_
      have e:W63.D (dec xs) z.cps.toList (i+1) (n+1)=(W63.D (dec xs) z.cps.toList i (n+1) || (W63.gd (dec xs) z.cps.toList i n && W63.D (dec xs) z.cps.toList (i+1) n)):=W63.D_star (est.trans hx2)
      refine ⟨_,rfl,.inl ⟨rfl,_,SqL.of hbY⟩,_,rfl,_,rfl,fr,_,_,_,rfl,rfl,SqL.of hfY,fa,_,rfl,?_⟩
      cases hd:W63.D (dec xs) z.cps.toList i (n+1) with
      | true=>
        refine iteT ?_
        obtain ⟨a1,a2,a3,a4⟩:=app true (by rw [e,hd];rfl)
        exact ⟨be,_,_,rfl,rfl,hbY,a1,_,_,rfl,a2,a3,a4⟩
      | false=>
        refine iteF ?_
        refine ⟨_,rfl,_,rfl,?_⟩
        cases hg:W63.gd (dec xs) z.cps.toList i n with
        | true=>
          refine iteT ?_
          refine ⟨_,rfl,_,rfl,be,_,_,_,rfl,rfl,SqL.of hbY,ba,?_⟩
          obtain ⟨a1,a2,a3,a4⟩:=app (W63.D (dec xs) z.cps.toList (i+1) n) (by rw [e,hd,hg];rfl)
          exact ⟨be,_,_,rfl,rfl,hbY,a1,_,_,rfl,a2,a3,a4⟩
        | false=>
          refine iteF ?_
          obtain ⟨a1,a2,a3,a4⟩:=app false (by rw [e,hd,hg];rfl)
          exact ⟨be,_,_,rfl,rfl,hbY,a1,_,_,rfl,a2,a3,a4⟩
    | false=>
      refine iteF ?_
      have e:W63.D (dec xs) z.cps.toList (i+1) (n+1)=(W63.gd (dec xs) z.cps.toList i n && W63.D (dec xs) z.cps.toList i n):=W63.D_plain (est.trans hx2)
      refine ⟨_,rfl,.inl ⟨rfl,_,SqL.of hbY⟩,_,rfl,_,rfl,?_⟩
      cases hg:W63.gd (dec xs) z.cps.toList i n with
      | true=>
        refine iteT ?_
        refine ⟨_,rfl,_,rfl,_,_,rfl,rfl,fr,_,_,_,rfl,rfl,SqL.of hfY,by rw [ej];exact fa',?_⟩
        obtain ⟨a1,a2,a3,a4⟩:=app (W63.D (dec xs) z.cps.toList i n) (by rw [e,hg];rfl)
        exact ⟨be,_,_,rfl,rfl,hbY,a1,_,_,rfl,a2,a3,a4⟩
      | false=>
        refine iteF ?_
        obtain ⟨a1,a2,a3,a4⟩:=app false (by rw [e,hg];rfl)
        exact ⟨be,_,_,rfl,rfl,hbY,a1,_,_,rfl,a2,a3,a4⟩
end
end S65
namespace S65
open PySem L2 W7
open W63 (Wr Wi enc dec star)
def WAt (H:Hp) (v:V):Prop:=∃ (a:Addr) (x:Wr),v=.ref a∧x.Ok∧H a=some (.tup [.str (mk x.txt),.str (mk x.lets)])∧x.txt.length≤28
theorem WAt.same {H H':Hp} {v:V} (h:WAt H v) (s:Same H H'):WAt H' v:=let ⟨a,x,e,o,g,l⟩:=h;⟨a,x,e,o,s _ _ g,l⟩
theorem WAt.kd {H H':Hp} {p:Addr} {c d:Int} {v:V} (h:WAt H v) (k:Kd p c H H') (dk:Deck H p d):WAt H' v:=by
  obtain ⟨a,x,e,o,g,l⟩:=h
  refine ⟨a,x,e,o,k.keep _ _ (fun z=>?_) g,l⟩
  obtain ⟨_,_,_,e4,_⟩:=dk
  rw [z,e4] at g;cases g
theorem WAt.write {H:Hp} {v:V} {q:Addr} {ys zs:List V} (h:WAt H v) (hq:H q=some (.lst ys)):WAt (upd H q (.lst zs)) v:=by
  obtain ⟨a,x,e,o,g,l⟩:=h
  refine ⟨a,x,e,o,?_,l⟩
  rw [upd_ne (fun z=>by rw [z,hq] at g;cases g)];exact g
theorem cut_list (z:Str) (lo hi:Option Int):(cutS z lo hi).cps.toList=(z.cps.toList.drop (HT.sIx z.length 0 lo)).take (HT.sIx z.length z.length hi - HT.sIx z.length 0 lo):=rfl
theorem cut_low {z:Str} (h:∀ x∈z.cps.toList,Lw x) (lo hi:Option Int):∀ x∈(cutS z lo hi).cps.toList,Lw x:=fun x hx=>h x (by rw [cut_list] at hx;exact List.mem_of_mem_drop (List.mem_of_mem_take hx))
theorem cut_len (z:Str) (lo hi:Option Int):(cutS z lo hi).length≤z.length:=by
  have e:(cutS z lo hi).cps.toList.length=(cutS z lo hi).length:=Array.length_toList
  rw [← e,cut_list,List.length_take,List.length_drop]
  have:z.cps.toList.length=z.length:=Array.length_toList
  omega
theorem cut_one (z:Str) (i:Nat):(cutS z (some ((0:Int)+(i:Int))) (some ((0:Int)+(i:Int)+1))).length≤1:=by
  have e:(cutS z (some ((0:Int)+(i:Int))) (some ((0:Int)+(i:Int)+1))).cps.toList.length=(cutS z (some ((0:Int)+(i:Int))) (some ((0:Int)+(i:Int)+1))).length:=Array.length_toList
  rw [← e,cut_list,List.length_take,show ((0:Int)+(i:Int))=((i:Nat):Int) by omega,show ((i:Nat):Int)+1=((i+1:Nat):Int) by omega,HT.sIx_nat,HT.sIx_nat]
  omega
theorem str_one {z:Str} (l:z.length=1):∃ c,z=(⟨#[c]⟩:Str):=by
  obtain ⟨a⟩:=z
  obtain ⟨c,e⟩:=Array.size_eq_one_iff.mp (show a.size=1 from l)
  exact ⟨c,by rw [e]⟩
theorem str_len2 (a b:Str):(a++b).length=a.length+b.length:=by
  have e:(a++b).cps.toList.length=(a++b).length:=Array.length_toList
  rw [← e,app_list,List.length_append]
  have e1:a.cps.toList.length=a.length:=Array.length_toList
  have e2:b.cps.toList.length=b.length:=Array.length_toList
  omega
theorem mul_star (b:Bool):Txt.mul (Str.ofString "*") (if b then 1 else 0)=mk (star b):=by cases b <;> decide +kernel
theorem enc_sum (ys:List Wi):((ys.map fun x=>mk (W63.wt x)).map (·.length)).sum=(enc ys).length:=by
  induction ys with
  | nil=>rfl
  | cons y ys ih=>
    rw [List.map_cons,List.map_cons,List.sum_cons,ih,mk_len]
    show _=(W63.wt y++enc ys).length
    rw [List.length_append]
theorem enc_join (xs:List Wi):Txt.join (Str.ofString "") (xs.map fun x=>mk (W63.wt x))=mk (enc xs):=by
  apply str_ext
  rw [join_cps,mk_cps,List.map_map];rfl
section
variable {P:Program} {w:World} {K:PySem.W.Frag} {mg:Str→Option Value} {base:Heap} {k:Nat}
def sp_litems:Sp:=fun vs H Q _=>∃ (p:Addr) (word:Str) (most:Nat) (c:Int),vs=[.ref p,.str word,.int (most:Int)]∧Deck H p c∧0≤c∧c < 900000∧word.length≤60∧(∀ x∈word.cps.toList,Lw x)∧most≤40 ∧
  ∀ (l:Addr) (xs:List Wi) (H':Hp),Kd p (c+400) H H'→H l=none→l≠p→LIts H' l xs→(∀ x∈xs,x.1.Ok)→(enc xs).length≤40→xs.length≤40→Q (.ref l) H'
theorem has_litems (D:Df K mg "_law_items" s_law_items) (B:Blt7 mg) (G_law_draw:Has P w K mg base "_law_draw" k ["deck_here", "many"] sp_draw) (G_law_some:Has P w K mg base "_law_some" k ["deck_here", "things"] sp_some) (G_law_letter:Has P w K mg base "_law_letter" k ["deck_here"] sp_letter):Has P w K mg base "_law_items" (k+1) ["deck_here", "word", "most"] sp_litems:=by
  refine D.has sc_law_items (fun _ _ _ _ _ _=>ar3 fun _ _ _=>rfl) (fun vs H Q E h=>by obtain ⟨p,wo,m,c,rfl,_⟩:=h;rfl) (fun f cdv A outer s H vs Q E hr h=>?_)
  obtain ⟨p,word,most,c,rfl,dk,c0,c9,wl,wlo,m40,q⟩:=h
  refine ⟨_,(pss_cons (ps_set (i:=3) sc_law_items.nd rfl (by first | exact Or.inl rfl | exact Or.inr rfl) pe_str)
  (pss_cons (ps_set (i:=4) sc_law_items.nd rfl (by first | exact Or.inl rfl | exact Or.inr rfl) (pe_lst pa_nil))
  (pss_cons (ps_for PassesOwn.never rfl (pi_range1 rfl B.range (pa_cons (pe_callH G_law_draw hr rfl (pa_cons (pv 0) (pa_cons (pe_op op_add (pv 2) pe_int) pa_nil))) pa_nil)) (pg_name (i:=5) sc_law_items.nd rfl (by first | exact Or.inl rfl | exact Or.inr rfl))
  (pss_cons (ps_set (i:=6) sc_law_items.nd rfl (by first | exact Or.inl rfl | exact Or.inr rfl) (pe_callH G_law_letter hr rfl (pa_cons (pv 0) pa_nil)))
  (pss_cons (ps_set (i:=7) sc_law_items.nd rfl (by first | exact Or.inl rfl | exact Or.inr rfl) (pe_slice sl_str (pv 1) (po_some (pv 5)) (po_some (pe_op op_add (pv 5) pe_int))))
  (pss_cons (ps_set (i:=8) sc_law_items.nd rfl (by first | exact Or.inl rfl | exact Or.inr rfl) (pe_orS (pe_callH G_law_some hr rfl (pa_cons (pv 0) (pa_cons (pe_lst (pa_cons (pv 7) (pa_cons (pv 7) (pa_cons (pv 7) (pa_cons (pv 6) pa_nil))))) pa_nil))) (pe_one (pv 6))))
  (pss_cons (ps_set (i:=9) sc_law_items.nd rfl (by first | exact Or.inl rfl | exact Or.inr rfl) (pe_bm PySem.F.plainAttrs_str PySem.F.slot_str_join PySem.F.type_str_join mt_join pe_str (pa_cons (pe_callB (call_sorted_setT w rfl) rfl B.sorted bt_sorted' (pa_cons (pe_callTy (call_set_textsW w rfl) rfl B.set_ bt_set (pa_cons (pe_lst (pa_cons (pv 8) (pa_cons (pv 6) (pa_cons (pe_callH G_law_letter hr rfl (pa_cons (pv 0) pa_nil)) pa_nil)))) pa_nil)) pa_nil)) pa_nil)))
  (pss_cons (ps_set (i:=10) sc_law_items.nd rfl (by first | exact Or.inl rfl | exact Or.inr rfl) (pe_bm PySem.F.plainAttrs_str PySem.F.slot_str_join PySem.F.type_str_join mt_join pe_str (pa_cons (pe_callB (call_sorted_setT w rfl) rfl B.sorted bt_sorted' (pa_cons (pe_callTy (call_set_txtW w rfl) rfl B.set_ bt_set (pa_cons (pe_op op_add_str (pv 8) (pe_slice sl_str (pe_slice sl_str (pv 3) (po_some (pe_callH G_law_draw hr rfl (pa_cons (pv 0) (pa_cons pe_int pa_nil)))) po_none) po_none (po_some (pe_callH G_law_draw hr rfl (pa_cons (pv 0) (pa_cons pe_int pa_nil)))))) pa_nil)) pa_nil)) pa_nil)))
  (pss_cons (ps_set (i:=11) sc_law_items.nd rfl (by first | exact Or.inl rfl | exact Or.inr rfl) (pe_lst (pa_cons (pe_tup (pa_cons (pv 8) (pa_cons (pv 8) pa_nil))) (pa_cons (pe_tup (pa_cons (pv 8) (pa_cons (pv 8) pa_nil))) (pa_cons (pe_tup (pa_cons pe_str (pa_cons (pv 3) pa_nil))) pa_nil)))))
  (pss_cons (ps_for PassesOwn.never rfl (pi_list (pe_lst (pa_cons (pv 9) (pa_cons (pv 8) (pa_cons (pv 3) (pa_cons (pv 10) pa_nil)))))) (pg_name (i:=12) sc_law_items.nd rfl (by first | exact Or.inl rfl | exact Or.inr rfl))
  (pss_one (ps_expr (pe_bm PySem.F.plainAttrs_list PySem.F.slot_list_append PySem.F.type_list_append mt_append (pv 11) (pa_cons (pe_tup (pa_cons (pe_op op_add_str (pe_op op_add_str pe_str (pv 12)) pe_str) (pa_cons (pv 12) pa_nil))) pa_nil)))))
  (pss_cons (ps_asg (pe_callH G_law_some hr rfl (pa_cons (pv 0) (pa_cons (pv 11) pa_nil))) (pg_tup rfl (pgs_cons (pg_name (i:=13) sc_law_items.nd rfl (by first | exact Or.inl rfl | exact Or.inr rfl)) (pgs_cons (pg_name (i:=12) sc_law_items.nd rfl (by first | exact Or.inl rfl | exact Or.inr rfl)) pgs_nil))))
  (pss_cons (ps_set (i:=14) sc_law_items.nd rfl (by first | exact Or.inl rfl | exact Or.inr rfl) (pe_cmpR op_eq (pe_callH G_law_draw hr rfl (pa_cons (pv 0) (pa_cons pe_int pa_nil))) pe_int (nomark _)))
  (pss_cons (ps_set (i:=13) sc_law_items.nd rfl (by first | exact Or.inl rfl | exact Or.inr rfl) (pe_op op_add_str (pv 13) (pe_op op_mul_str pe_str (pe_callTy call_int1 rfl B.int_ bt_int (pa_cons (pv 14) pa_nil)))))
  (pss_one (ps_if (pt_cmpR op_le (pe_op op_add (pe_callB call_len_str rfl B.len bt_len (pa_cons (pe_bm PySem.F.plainAttrs_str PySem.F.slot_str_join PySem.F.type_str_join mt_join pe_str (pa_cons (pe_comp rfl (pi_list (pv 4)) (NL:=["one"]) (ix:=[]) (csc (defScope s_law_items) N_law_items) (fun cl C s₃ H₃ fp pins=>⟨(pg_name (i:=0) (show List.Nodup (["one"]:List Str) from by decide +kernel) rfl (by first | exact Or.inl rfl | exact Or.inr rfl)),pifs_nil,(pe_ix (ix_tupK K) (pv 0) pe_int (fun _ _=>rfl))⟩)) pa_nil)) pa_nil)) (pe_callB call_len_str rfl B.len bt_len (pa_cons (pv 13) pa_nil))) pe_int (nomark _))
  (pss_one (ps_expr (pe_bm PySem.F.plainAttrs_list PySem.F.slot_list_append PySem.F.type_list_append mt_append (pv 4) (pa_cons (pe_tup (pa_cons (pv 13) (pa_cons (pv 12) (pa_cons (pv 14) pa_nil)))) pa_nil))))
  pss_nil)))))))))))))
  (pss_one (ps_ret (pv 4)))))),?_⟩
  first | (dsimp only [cxOf,Cx.nox];generalize hK:K=K';revert K' hK;refine seqK (seqE <| seqE <| seqE <| fun _=>rfl) ?_) | skip
  refine ⟨line_le (show 0≤1000 by omega),fun fo hfo=>?_⟩
  have fp:fo≠p:=dk.ne hfo
  have kd0:Kd p c H (upd H fo (.lst [])):=(Kd.refl dk).new hfo
  refine ⟨_,rfl,_,rfl,_,_,rfl,rfl,p,_,_,rfl,kd0.deck,by omega,by omega,by omega,fun n H1 n0 n1 kd1=>?_⟩
  have h1:H1 fo=some (.lst []):=kd1.keep _ _ fp upd_same
  refine ⟨_,rfl,by omega,by omega,?_⟩
  refine for_range (lo:=0) (n:=n.toNat) (fun i σ HX=>∃ (xs:List Wi) (o5 o6 o7 o8 o9 o10 o11 o12 o13 o14:Option V),σ=[some (.ref p),some (.str word),some (.int (most:Int)),some (.str (Str.ofString "abcdefghijklmnopqrstuvwxyz")),some (.ref fo),o5,o6,o7,o8,o9,o10,o11,o12,o13,o14]∧Kd p (c+1+9 * i) H HX∧LIts HX fo xs∧(∀ x∈xs,x.1.Ok)∧(enc xs).length≤40∧xs.length≤i)
    ⟨[],none,none,none,none,none,none,none,none,none,none,rfl,(kd0.trans kd1).mono (by omega),⟨[],h1,rfl,fun i x e=>by cases e⟩,(fun x h=>nomatch h),by decide,Nat.zero_le _⟩ ?_ ?_
  · rintro i σ HX hi ⟨xs,o5,o6,o7,o8,o9,o10,o11,o12,o13,o14,rfl,kX,lX,ok,e40,xl⟩
    have i40:i < 41:=by omega
    refine ⟨_,rfl,p,_,rfl,kX.deck,by omega,fun ch H2 lch kd2=>?_⟩
    have wb:word.length≤sizeLine:=line_le (by omega)
    have kA:=(kX.trans kd2).mono (show c+1+9 * i+1≤c+2+9 * i by omega)
    have lA:=lX.kd kd2 fp kX.deck
    refine ⟨_,rfl,_,rfl,_,rfl,_,rfl,_,_,rfl,rfl,_,rfl,word,rfl,wb,?_⟩
    have hel:=cut_one word i
    have heo:=cut_low wlo (some ((0:Int)+(i:Int))) (some ((0:Int)+(i:Int)+1))
    generalize cutS word (some ((0:Int)+(i:Int))) (some ((0:Int)+(i:Int)+1))=he at hel heo
    clear lX kX kd2
    dsimp only [gName]
    refine mid (fun σ' H'=>∃ o:Nat,Lw o∧σ'=[some (.ref p),some (.str word),some (.int (most:Int)),some (.str (Str.ofString "abcdefghijklmnopqrstuvwxyz")),some (.ref fo),some (.int ((0:Int)+(i:Int))),some (.str ⟨#[ch]⟩),some (.str he),some (.str ⟨#[o]⟩),o9,o10,o11,o12,o13,o14]∧Kd p (c+3+9 * i) H H'∧LIts H' fo xs) ?_ fun E2 nx=>?_
    rotate_left
    · refine ⟨_,rfl,_,rfl,_,rfl,_,rfl,_,rfl,line_le (show 4≤1000 by omega),fun r hr=>?_⟩
      have s1:Same H2 (upd H2 r (.lst [.str he,.str he,.str he,.str ⟨#[ch]⟩])):=(Same.refl H2).new hr
      refine ⟨p,_,(kA.same s1).deck,by omega,.inl ⟨r,_,rfl,upd_same,kA.deck.ne hr,(by show 0 < 4;decide),(by show 4≤1000;decide),fun v H3 hv kd3=>?_⟩⟩
      have kB:=((kA.same s1).trans kd3).mono (show c+2+9 * i+1≤c+3+9 * i by omega)
      have lB:=(lA.same s1).kd kd3 fp (kA.same s1).deck
      have hv':v=.str he∨v=.str ⟨#[ch]⟩:=by
        simp only [List.mem_cons,List.not_mem_nil,or_false] at hv
        rcases hv with h | h | h | h
        · exact .inl h
        · exact .inl h
        · exact .inl h
        · exact .inr h
      rcases hv' with rfl | rfl
      · refine ⟨he,rfl,by omega,?_⟩
        by_cases h0:he.length=0
        · rw [if_pos h0]
          exact ⟨_,rfl,nx _ _ ⟨ch,lch,rfl,kB,lB⟩⟩
        · rw [if_neg h0]
          obtain ⟨o,rfl⟩:=str_one (show he.length=1 by omega)
          exact nx _ _ ⟨o,heo o (by simp),rfl,kB,lB⟩
      · refine ⟨_,rfl,by show 1≤1000;omega,?_⟩
        rw [if_neg (by show ¬ (1=0);omega)]
        exact nx _ _ ⟨ch,lch,rfl,kB,lB⟩
    clear kA lA
    rintro σ' HA ⟨o,lo,rfl,kA,lA⟩
    have lone:∀ {x:Nat},Lw x→∀ y∈(⟨#[x]⟩:Str).cps.toList,Lw y:=fun {x} h y hy=>by rw [show y=x by simpa using hy];exact h
    refine mid (fun σ' H'=>∃ M:List Nat,M≠[]∧(∀ c∈M,Lw c)∧M.Pairwise (· < ·)∧σ'=[some (.ref p),some (.str word),some (.int (most:Int)),some (.str (Str.ofString "abcdefghijklmnopqrstuvwxyz")),some (.ref fo),some (.int ((0:Int)+(i:Int))),some (.str ⟨#[ch]⟩),some (.str he),some (.str ⟨#[o]⟩),some (.str (mk M)),o10,o11,o12,o13,o14]∧Kd p (c+4+9 * i) H H'∧LIts H' fo xs) ?_ fun E2 nx=>?_
    rotate_left
    · refine ⟨rfl,_,rfl,_,rfl,_,rfl,p,_,rfl,kA.deck,by omega,fun c3 H4 lc3 kd4=>?_⟩
      have kB:=(kA.trans kd4).mono (show c+3+9 * i+1≤c+4+9 * i by omega)
      have lB:=lA.kd kd4 fp kA.deck
      refine ⟨line_le (show 3≤1000 by omega),fun r hr=>?_⟩
      have s1:Same H4 (upd H4 r (.lst [.str ⟨#[o]⟩,.str ⟨#[ch]⟩,.str ⟨#[c3]⟩])):=(Same.refl H4).new hr
      have h1:upd H4 r (.lst [.str ⟨#[o]⟩,.str ⟨#[ch]⟩,.str ⟨#[c3]⟩]) r=some (.lst [.str ⟨#[o]⟩,.str ⟨#[ch]⟩,.str ⟨#[c3]⟩]):=upd_same
      show (fun HH=>_) (upd H4 r (.lst [.str ⟨#[o]⟩,.str ⟨#[ch]⟩,.str ⟨#[c3]⟩]))
      generalize upd H4 r (.lst [.str ⟨#[o]⟩,.str ⟨#[ch]⟩,.str ⟨#[c3]⟩])=G1 at s1 h1
      refine ⟨r,[⟨#[o]⟩,⟨#[ch]⟩,⟨#[c3]⟩],rfl,SqL.of h1,(by show 3 < 4000;decide),fun st hst=>?_⟩
      have s2:Same G1 (upd G1 st (setO w st [⟨#[o]⟩,⟨#[ch]⟩,⟨#[c3]⟩] 3)):=(Same.refl G1).new hst
      refine ⟨st,_,_,[⟨#[o]⟩,⟨#[ch]⟩,⟨#[c3]⟩],rfl,upd_same,fun z hz=>hz,(by show 3 < 64;decide),fun ss r5 nd mem srt hr5=>?_⟩
      have hone:∀ z∈ss,∃ c,z=mk [c]∧Lw c:=fun z hz=>by
        have:=(mem z).mp hz
        simp only [List.mem_cons,List.not_mem_nil,or_false] at this
        rcases this with rfl | rfl | rfl
        · exact ⟨o,rfl,lo⟩
        · exact ⟨ch,rfl,lch⟩
        · exact ⟨c3,rfl,lc3⟩
      obtain ⟨M,ej,m0,mlo,mpw,bd⟩:=join_set nd srt hone (fun e=>by have:=(mem ⟨#[o]⟩).mpr (by simp);rw [e] at this;cases this)
      have s3:Same (upd G1 st (setO w st [⟨#[o]⟩,⟨#[ch]⟩,⟨#[c3]⟩] 3)) (upd (upd G1 st (setO w st [⟨#[o]⟩,⟨#[ch]⟩,⟨#[c3]⟩] 3)) r5 (.lst (ss.map V.str))):=(Same.refl _).new hr5
      refine ⟨_,r5,ss,rfl,rfl,SqL.of upd_same,bd,?_⟩
      rw [ej]
      exact nx _ _ ⟨M,m0,mlo,mpw,rfl,((kB.same s1).same s2).same s3,((lB.same s1).same s2).same s3⟩
    clear kA lA
    rintro σ' HB ⟨M,m0,mlo,mpw,rfl,kA,lA⟩
    have l26:(Str.ofString "abcdefghijklmnopqrstuvwxyz").length=26:=by decide +kernel
    refine mid (fun σ' H'=>∃ M2:List Nat,M2≠[]∧(∀ c∈M2,Lw c)∧M2.Pairwise (· < ·)∧σ'=[some (.ref p),some (.str word),some (.int (most:Int)),some (.str (Str.ofString "abcdefghijklmnopqrstuvwxyz")),some (.ref fo),some (.int ((0:Int)+(i:Int))),some (.str ⟨#[ch]⟩),some (.str he),some (.str ⟨#[o]⟩),some (.str (mk M)),some (.str (mk M2)),o11,o12,o13,o14]∧Kd p (c+6+9 * i) H H'∧LIts H' fo xs) ?_ fun E2 nx=>?_
    rotate_left
    · refine ⟨rfl,_,rfl,_,rfl,_,rfl,p,26,_,rfl,kA.deck,by omega,by decide,by decide,fun a H4 a0 a1 kd4=>?_⟩
      have kB:=kA.trans kd4
      have lB:=lA.kd kd4 fp kA.deck
      have c1:=cut_len (Str.ofString "abcdefghijklmnopqrstuvwxyz") (some a) none
      have c1o:=cut_low abc_low (some a) none
      refine ⟨_,rfl,_,rfl,line_le (by omega),_,rfl,p,25,_,rfl,kB.deck,by omega,by decide,by decide,fun b H5 b0 b1 kd5=>?_⟩
      have kC:=(kB.trans kd5).mono (show c+4+9 * i+1+1≤c+6+9 * i by omega)
      have lC:=lB.kd kd5 fp kB.deck
      generalize cutS (Str.ofString "abcdefghijklmnopqrstuvwxyz") (some a) none=y1 at c1 c1o
      have c2:=cut_len y1 none (some b)
      have c2o:=cut_low c1o none (some b)
      refine ⟨_,rfl,_,rfl,line_le (by omega),?_⟩
      generalize cutS y1 none (some b)=y2 at c2 c2o
      have ol:(⟨#[o]⟩:Str).length=1:=rfl
      have lt:=str_len2 (⟨#[o]⟩:Str) y2
      have to:∀ x∈((⟨#[o]⟩:Str)++y2).cps.toList,Lw x:=fun x hx=>by
        rw [app_list] at hx
        rcases List.mem_append.mp hx with hx | hx
        · exact lone lo x hx
        · exact c2o x hx
      have tm:o∈((⟨#[o]⟩:Str)++y2).cps.toList:=by rw [app_list];simp
      refine ⟨_,_,rfl,rfl,line_le (by omega),?_⟩
      generalize (⟨#[o]⟩:Str)++y2=tx at lt to tm
      refine ⟨tx,rfl,by omega,fun st hst=>?_⟩
      have s2:Same H5 (upd H5 st (setO w st (tx.cps.toList.map fun c=>(⟨#[c]⟩:Str)) tx.length)):=(Same.refl H5).new hst
      have tl:tx.cps.toList.length=tx.length:=Array.length_toList
      refine ⟨st,_,_,tx.cps.toList.map fun c=>(⟨#[c]⟩:Str),rfl,upd_same,fun z hz=>hz,by rw [List.length_map];omega,fun ss r5 nd mem srt hr5=>?_⟩
      have hone:∀ z∈ss,∃ c,z=mk [c]∧Lw c:=fun z hz=>by
        obtain ⟨x,hx,rfl⟩:=List.mem_map.mp ((mem z).mp hz)
        exact ⟨x,rfl,to x hx⟩
      obtain ⟨M2,ej,m0',mlo',mpw',bd⟩:=join_set nd srt hone (fun e=>by have:=(mem ⟨#[o]⟩).mpr (List.mem_map.mpr ⟨o,tm,rfl⟩);rw [e] at this;cases this)
      have s3:Same (upd H5 st (setO w st (tx.cps.toList.map fun c=>(⟨#[c]⟩:Str)) tx.length)) (upd (upd H5 st (setO w st (tx.cps.toList.map fun c=>(⟨#[c]⟩:Str)) tx.length)) r5 (.lst (ss.map V.str))):=(Same.refl _).new hr5
      refine ⟨_,r5,ss,rfl,rfl,SqL.of upd_same,bd,?_⟩
      rw [ej]
      exact nx _ _ ⟨M2,m0',mlo',mpw',rfl,(kC.same s2).same s3,(lC.same s2).same s3⟩
    clear kA lA
    rintro σ' HC ⟨M2,m0',mlo',mpw',rfl,kA,lA⟩
    have Mok:Wr.Ok (.br M):=⟨m0,mlo,mpw⟩
    have M2ok:Wr.Ok (.br M2):=⟨m0',mlo',mpw'⟩
    have ml:=W63.rise_len M 97 (fun c hc=>mlo c hc) mpw (by omega)
    have ml2:=W63.rise_len M2 97 (fun c hc=>mlo' c hc) mpw' (by omega)
    have oneok:Wr.Ok (.one o):=lo
    have fresh:∀ {q:Addr} {G:Hp},Kd p (c+6+9 * i) H G→G q=none→q≠p∧H q=none:=fun {q G} k h=>⟨k.deck.ne h,k.fresh h⟩
    refine mid (fun σ' H'=>∃ (wy:Addr) (vs:List V),σ'=[some (.ref p),some (.str word),some (.int (most:Int)),some (.str (Str.ofString "abcdefghijklmnopqrstuvwxyz")),some (.ref fo),some (.int ((0:Int)+(i:Int))),some (.str ⟨#[ch]⟩),some (.str he),some (.str ⟨#[o]⟩),some (.str (mk M)),some (.str (mk M2)),some (.ref wy),o12,o13,o14]∧Kd p (c+6+9 * i) H H'∧LIts H' fo xs∧H wy=none∧wy≠p∧wy≠fo∧H' wy=some (.lst vs)∧vs.length=3∧∀ v∈vs,WAt H' v) ?_ fun E2 nx=>?_
    rotate_left
    · refine ⟨_,rfl,_,rfl,line_le (show 2≤1000 by omega),fun b1 hb1=>?_⟩
      have sb1:Same HC (upd HC b1 (.tup [.str ⟨#[o]⟩,.str ⟨#[o]⟩])):=(Same.refl HC).new hb1
      have vb1:upd HC b1 (.tup [.str ⟨#[o]⟩,.str ⟨#[o]⟩]) b1=some (.tup [.str ⟨#[o]⟩,.str ⟨#[o]⟩]):=upd_same
      show (fun HH=>_) (upd HC b1 (.tup [.str ⟨#[o]⟩,.str ⟨#[o]⟩]))
      generalize upd HC b1 (.tup [.str ⟨#[o]⟩,.str ⟨#[o]⟩])=J1 at sb1 vb1
      refine ⟨_,rfl,_,rfl,line_le (show 2≤1000 by omega),fun b2 hb2=>?_⟩
      have sb2:Same J1 (upd J1 b2 (.tup [.str ⟨#[o]⟩,.str ⟨#[o]⟩])):=(Same.refl J1).new hb2
      have vb2:upd J1 b2 (.tup [.str ⟨#[o]⟩,.str ⟨#[o]⟩]) b2=some (.tup [.str ⟨#[o]⟩,.str ⟨#[o]⟩]):=upd_same
      show (fun HH=>_) (upd J1 b2 (.tup [.str ⟨#[o]⟩,.str ⟨#[o]⟩]))
      generalize upd J1 b2 (.tup [.str ⟨#[o]⟩,.str ⟨#[o]⟩])=J2 at sb2 vb2
      replace vb1:=sb2 _ _ vb1
      refine ⟨_,rfl,line_le (show 2≤1000 by omega),fun b3 hb3=>?_⟩
      have sb3:Same J2 (upd J2 b3 (.tup [.str (Str.ofString "."),.str (Str.ofString "abcdefghijklmnopqrstuvwxyz")])):=(Same.refl J2).new hb3
      have vb3:upd J2 b3 (.tup [.str (Str.ofString "."),.str (Str.ofString "abcdefghijklmnopqrstuvwxyz")]) b3=some (.tup [.str (Str.ofString "."),.str (Str.ofString "abcdefghijklmnopqrstuvwxyz")]):=upd_same
      show (fun HH=>_) (upd J2 b3 (.tup [.str (Str.ofString "."),.str (Str.ofString "abcdefghijklmnopqrstuvwxyz")]))
      generalize upd J2 b3 (.tup [.str (Str.ofString "."),.str (Str.ofString "abcdefghijklmnopqrstuvwxyz")])=J3 at sb3 vb3
      replace vb1:=sb3 _ _ vb1
      replace vb2:=sb3 _ _ vb2
      refine ⟨line_le (show 3≤1000 by omega),fun wy hwy=>?_⟩
      have s13:=(sb1.trans sb2).trans sb3
      have kB:=kA.same s13
      have lB:=lA.same s13
      obtain ⟨wp,wH⟩:=fresh kB hwy
      have wf:wy≠fo:=fun z=>by obtain ⟨vs,e,_⟩:=lB;rw [← z,hwy] at e;cases e
      have s4:Same J3 (upd J3 wy (.lst [.ref b1,.ref b2,.ref b3])):=(Same.refl J3).new hwy
      refine nx _ _ ⟨wy,_,rfl,kB.same s4,lB.same s4,wH,wp,wf,upd_same,rfl,fun v hv=>WAt.same ?_ s4⟩
      simp only [List.mem_cons,List.not_mem_nil,or_false] at hv
      rcases hv with rfl | rfl | rfl
      · exact ⟨b1,.one o,rfl,oneok,vb1,(by show 1≤28;omega)⟩
      · exact ⟨b2,.one o,rfl,oneok,vb2,(by show 1≤28;omega)⟩
      · refine ⟨b3,.dot,rfl,trivial,?_,by decide⟩
        rw [vb3,abc_mk,show Str.ofString "." = mk [46] by decide +kernel];rfl
    clear kA lA
    rintro σ' HD ⟨wy,vs,rfl,kA,lA,wH,wp,wf,hw,wl3,wat⟩
    have e1:Str.ofString "[" = mk [91]:=by decide +kernel
    have e2:Str.ofString "]" = mk [93]:=by decide +kernel
    refine mid (fun σ' H'=>∃ (o12:Option V) (vs:List V),σ'=[some (.ref p),some (.str word),some (.int (most:Int)),some (.str (Str.ofString "abcdefghijklmnopqrstuvwxyz")),some (.ref fo),some (.int ((0:Int)+(i:Int))),some (.str ⟨#[ch]⟩),some (.str he),some (.str ⟨#[o]⟩),some (.str (mk M)),some (.str (mk M2)),some (.ref wy),o12,o13,o14]∧Kd p (c+6+9 * i) H H'∧LIts H' fo xs∧H' wy=some (.lst vs)∧vs.length=7∧∀ v∈vs,WAt H' v) ?_ fun E2 nx=>?_
    rotate_left
    · refine ⟨_,rfl,_,rfl,_,rfl,_,rfl,line_le (show 4≤1000 by omega),fun lr hlr=>?_⟩
      have lrw:wy≠lr:=ne_of_none hw hlr
      have slr:Same HD (upd HD lr (.lst [.str (mk M),.str ⟨#[o]⟩,.str (Str.ofString "abcdefghijklmnopqrstuvwxyz"),.str (mk M2)])):=(Same.refl HD).new hlr
      have vlr:upd HD lr (.lst [.str (mk M),.str ⟨#[o]⟩,.str (Str.ofString "abcdefghijklmnopqrstuvwxyz"),.str (mk M2)]) lr=some (.lst [.str (mk M),.str ⟨#[o]⟩,.str (Str.ofString "abcdefghijklmnopqrstuvwxyz"),.str (mk M2)]):=upd_same
      show (fun HH=>_) (upd HD lr (.lst [.str (mk M),.str ⟨#[o]⟩,.str (Str.ofString "abcdefghijklmnopqrstuvwxyz"),.str (mk M2)]))
      generalize upd HD lr (.lst [.str (mk M),.str ⟨#[o]⟩,.str (Str.ofString "abcdefghijklmnopqrstuvwxyz"),.str (mk M2)])=JL at slr vlr
      replace hw:=slr _ _ hw
      refine ⟨lr,rfl,⟨_,SqL.of vlr⟩,?_⟩
      refine for_list (K:=K) (xs:=[.str (mk M),.str ⟨#[o]⟩,.str (Str.ofString "abcdefghijklmnopqrstuvwxyz"),.str (mk M2)]) (fun j σ HX=>∃ (o12:Option V) (vs:List V),σ=[some (.ref p),some (.str word),some (.int (most:Int)),some (.str (Str.ofString "abcdefghijklmnopqrstuvwxyz")),some (.ref fo),some (.int ((0:Int)+(i:Int))),some (.str ⟨#[ch]⟩),some (.str he),some (.str ⟨#[o]⟩),some (.str (mk M)),some (.str (mk M2)),some (.ref wy),o12,o13,o14]∧Kd p (c+6+9 * i) H HX∧LIts HX fo xs∧HX lr=some (.lst [.str (mk M),.str ⟨#[o]⟩,.str (Str.ofString "abcdefghijklmnopqrstuvwxyz"),.str (mk M2)])∧HX wy=some (.lst vs)∧vs.length=3+j∧∀ v∈vs,WAt HX v) ⟨o12,vs,rfl,kA.same slr,lA.same slr,vlr,hw,wl3,fun v hv=>(wat v hv).same slr⟩ (fun j σ HX _ h=>by obtain ⟨_,_,_,_,_,h,_⟩:=h;exact SqL.of h) ?_ ?_
      rotate_left
      · rintro σ HX ⟨o12,vs,rfl,kX,lX,_,hwX,wl,wX⟩
        exact nx _ _ ⟨o12,vs,rfl,kX,lX,hwX,wl,wX⟩
      rintro j v σ HX hx ⟨o12,vs,rfl,kX,lX,hlX,hwX,wl,wX⟩
      have j4:j < 4:=(List.getElem?_eq_some_iff.mp hx).1
      obtain ⟨N,rfl,nok⟩:∃ N:List Nat,v=.str (mk N)∧Wr.Ok (.br N):=by
        have:=List.mem_of_getElem? hx
        simp only [List.mem_cons,List.not_mem_nil,or_false] at this
        rcases this with rfl | rfl | rfl | rfl
        · exact ⟨M,rfl,Mok⟩
        · exact ⟨[o],rfl,List.cons_ne_nil _ _,fun c hc=>by rw [List.mem_singleton.mp hc];exact lo,List.pairwise_singleton _ _⟩
        · exact ⟨W63.abc,by rw [abc_mk],by decide,by decide,by decide⟩
        · exact ⟨M2,rfl,M2ok⟩
      have nl:=W63.rise_len N 97 (fun c hc=>nok.2.1 c hc) nok.2.2 (by omega)
      have t1:Str.ofString "[" ++ mk N++Str.ofString "]" = mk (Wr.txt (.br N)):=by
        rw [e1,e2]
        apply str_ext
        rw [app_list,app_list];rfl
      refine ⟨_,rfl,.inl ⟨rfl,_,SqL.of hwX⟩,_,rfl,_,_,rfl,rfl,by rw [e1,mk_len,mk_len];exact line_le (by simp;omega),_,_,rfl,rfl,by rw [str_len2,e1,e2,mk_len,mk_len,mk_len];exact line_le (by simp;omega),_,rfl,line_le (show 2≤1000 by omega),fun t ht=>?_⟩
      rw [t1]
      have s1:Same HX (upd HX t (.tup [.str (mk (Wr.txt (.br N))),.str (mk N)])):=(Same.refl HX).new ht
      have v1:upd HX t (.tup [.str (mk (Wr.txt (.br N))),.str (mk N)]) t=some (.tup [.str (mk (Wr.txt (.br N))),.str (mk N)]):=upd_same
      show (fun HH=>_) (upd HX t (.tup [.str (mk (Wr.txt (.br N))),.str (mk N)]))
      generalize upd HX t (.tup [.str (mk (Wr.txt (.br N))),.str (mk N)])=HY at s1 v1
      have hwY:=s1 _ _ hwX
      have lY:=lX.same s1
      refine ⟨wy,vs,_,rfl,rfl,hwY,Nat.lt_of_lt_of_le (show vs.length < 1000 by omega) (line_le (Nat.le_refl _)),?_⟩
      refine ⟨_,vs++[.ref t],rfl,(kX.same s1).write wH wp,?_,by rw [upd_ne (Ne.symm lrw)];exact s1 _ _ hlX,upd_same,by rw [List.length_append,wl];rfl,fun v hv=>WAt.write ?_ hwY⟩
      · obtain ⟨us,hu,lu,au⟩:=lY
        refine ⟨us,by rw [upd_ne (Ne.symm wf)];exact hu,lu,fun k x e=>?_⟩
        obtain ⟨a,ea,eb⟩:=au k x e
        exact ⟨a,ea,by rw [upd_ne (fun z=>by rw [z,hwY] at eb;cases eb)];exact eb⟩
      · rcases List.mem_append.mp hv with hv | hv
        · exact (wX v hv).same s1
        · rw [List.mem_singleton.mp hv]
          exact ⟨t,.br N,rfl,nok,v1,by show (91 :: (N++[93])).length≤28;simp;omega⟩
    clear kA lA hw wat
    rintro σ' HE ⟨o12,vs7,rfl,kA,lA,hw,wl7,wat⟩
    refine ⟨_,rfl,_,rfl,p,_,kA.deck,by omega,.inl ⟨wy,vs7,rfl,hw,wp,by omega,by omega,fun v HF hv kdF=>?_⟩⟩
    obtain ⟨a,x,rfl,xok,ha,xl⟩:=(wat v hv).kd kdF kA.deck
    have kB:=kA.trans kdF
    have lB:=lA.kd kdF fp kA.deck
    refine ⟨a,_,rfl,SqT.of ha,rfl,_,_,rfl,_,_,rfl,rfl,?_⟩
    refine ⟨_,rfl,p,3,_,rfl,kB.deck,by omega,by decide,by decide,fun n3 HG n30 n31 kdG=>⟨rfl,?_⟩⟩
    have kC:=(kB.trans kdG).mono (show c+6+9 * i+1+1≤c+1+9 * ((i+1:Nat):Int) by omega)
    have lC:=lB.kd kdG fp kB.deck
    generalize decide (V.int n3=V.int 0)=b
    refine ⟨_,rfl,_,rfl,.inr ⟨_,rfl,?_⟩⟩
    refine ⟨_,_,rfl,rfl,?_,?_⟩
    · have:(Str.ofString "*").length=1:=by decide +kernel
      exact PyProof.Rows.mulOk_of 1 60 (by omega) (by split <;> omega) (by split <;> omega) (by decide) (by decide)
    rw [mul_star]
    refine ⟨_,_,rfl,rfl,?_,?_⟩
    · rw [mk_len,mk_len]
      exact line_le (by cases b <;> simp [star] <;> omega)
    have et:mk x.txt++mk (star b)=mk (W63.wt (x,b)):=str_ext (by rw [app_list];rfl)
    rw [et]
    have wtl:(W63.wt (x,b)).length≤29:=by unfold W63.wt;rw [List.length_append];cases b <;> simp [star] <;> omega
    clear kA lA kB lB ha wat hw
    obtain ⟨us,hu,lu,au⟩:=id lC
    refine ⟨rfl,_,rfl,fo,rfl,⟨_,SqL.of hu⟩,fun acc hacc=>?_⟩
    refine comp_lst (K:=K) (a:=fo) (xs:=us) (by omega) (fun j ys HX=>HX acc=some (.lst ys)∧Same HG HX∧ys=((xs.take j).map fun x=>mk (W63.wt x)).map V.str)
      (fun j ys HX h=>SqL.of (h.2.1 _ _ hu)) (fun j ys HX h=>⟨h.1,by rw [h.2.2,List.length_map,List.length_map,List.length_take];omega⟩) ⟨upd_same,(Same.refl HG).new hacc,rfl⟩ ?_ ?_
    rotate_left
    · rintro j v ys HX hx ⟨g1,g2,rfl⟩
      have il:j < xs.length:=by
        have:=(List.getElem?_eq_some_iff.mp hx).1
        omega
      obtain ⟨a,e1,e2⟩:=au j _ (List.getElem?_eq_getElem il)
      rw [hx] at e1
      cases e1
      have tk:xs.take (j+1)=xs.take j++[xs[j]]:=by rw [List.take_succ,List.getElem?_eq_getElem il];rfl
      refine ⟨rfl,_,rfl,a,_,_,_,rfl,rfl,SqT.of (g2 _ _ e2),rfl,g1,upd_same,g2.write hacc,?_⟩
      rw [tk,List.map_append,List.map_append];rfl
    rintro ys HI ⟨g1,sI,rfl⟩
    rw [lu,List.take_length] at g1
    refine ⟨_,acc,xs.map (fun x=>mk (W63.wt x)),rfl,rfl,SqL.of g1,by rw [enc_sum,show (Str.ofString "").length=0 from rfl];omega,?_⟩
    rw [enc_join]
    refine ⟨_,rfl,by rw [mk_len];exact line_le (by omega),_,rfl,_,rfl,by rw [mk_len];exact line_le (by omega),_,_,rfl,rfl,_,_,rfl,rfl,_,rfl,?_⟩
    rw [mk_len,mk_len]
    have kI:=kC.same sI
    have lI:=lC.same sI
    refine ite2 (fun cc=>?_) (fun cc=>?_)
    · have cc':((enc xs).length:Int)+((W63.wt (x,b)).length:Int)≤40:=of_decide_eq_true cc
      obtain ⟨us,hu,lu,au⟩:=lI
      refine ⟨_,rfl,.inl ⟨rfl,_,SqL.of hu⟩,_,rfl,_,rfl,_,rfl,line_le (show 3≤1000 by omega),fun t ht=>?_⟩
      have s1:Same HI (upd HI t (.tup [.str (mk (W63.wt (x,b))),.str (mk x.lets),.bl b])):=(Same.refl HI).new ht
      have v1:upd HI t (.tup [.str (mk (W63.wt (x,b))),.str (mk x.lets),.bl b]) t=some (.tup [.str (mk (W63.wt (x,b))),.str (mk x.lets),.bl b]):=upd_same
      show (fun HH=>_) (upd HI t (.tup [.str (mk (W63.wt (x,b))),.str (mk x.lets),.bl b]))
      generalize upd HI t (.tup [.str (mk (W63.wt (x,b))),.str (mk x.lets),.bl b])=HJ at s1 v1
      have huJ:=s1 _ _ hu
      refine ⟨fo,us,_,rfl,rfl,huJ,Nat.lt_of_lt_of_le (show us.length < 1000 by omega) (line_le (Nat.le_refl _)),?_⟩
      refine ⟨xs++[(x,b)],_,_,_,_,_,_,_,_,_,_,rfl,(kI.same s1).write hfo fp,⟨us++[.ref t],upd_same,by rw [List.length_append,List.length_append,lu];rfl,fun k y e=>?_⟩,fun y hy=>?_,?_,by rw [List.length_append];show xs.length+1≤_;omega⟩
      · have tup:∀ {a:Addr} {zs:List V},HJ a=some (.tup zs)→upd HJ fo (.lst (us++[.ref t])) a=some (.tup zs):=fun {a zs} h=>by
          rw [upd_ne (fun z=>by rw [z,huJ] at h;cases h)];exact h
        rcases Nat.lt_or_ge k xs.length with h | h
        · rw [List.getElem?_append_left h] at e
          obtain ⟨a,e1,e2⟩:=au k y e
          exact ⟨a,by rw [List.getElem?_append_left (by omega)];exact e1,tup (s1 _ _ e2)⟩
        · rw [List.getElem?_append_right h] at e
          have hk:k=xs.length:=by
            have:=(List.getElem?_eq_some_iff.mp e).1
            simp at this
            omega
          rw [hk,Nat.sub_self] at e
          cases e
          exact ⟨t,by rw [hk,List.getElem?_append_right (by omega),lu,Nat.sub_self];rfl,tup v1⟩
      · rcases List.mem_append.mp hy with hy | hy
        · exact ok y hy
        · rw [List.mem_singleton.mp hy];exact xok
      · rw [W63.enc_app,List.length_append]
        have:enc [(x,b)]=W63.wt (x,b):=by show W63.wt (x,b)++[]=_;rw [List.append_nil]
        rw [this];omega
    · exact ⟨xs,_,_,_,_,_,_,_,_,_,_,rfl,kI,lI,ok,e40,by omega⟩
  · rintro σ HX ⟨xs,o5,o6,o7,o8,o9,o10,o11,o12,o13,o14,rfl,kX,lX,ok,e40,xl⟩
    exact ⟨_,rfl,q fo xs HX (kX.mono (by omega)) hfo fp lX ok e40 (by omega)⟩
end
end S65
namespace S65
open PySem L2 W7
theorem bt_ValueError:bootBuiltins "ValueError" = some (.type "ValueError"):=by decide +kernel
structure Exs (K:PySem.W.Frag) (mg:Str→Option Value) where
  c_UpError:Addr
  m_UpError:mg "UpError" = some (.ref c_UpError)
  c_NoPlace:Addr
  m_NoPlace:mg "NoPlace" = some (.ref c_NoPlace)
  c_NoNumber:Addr
  m_NoNumber:mg "NoNumber" = some (.ref c_NoNumber)
  c_NoWord:Addr
  m_NoWord:mg "NoWord" = some (.ref c_NoWord)
  c_NoRows:Addr
  m_NoRows:mg "NoRows" = some (.ref c_NoRows)
  c_NoRuns:Addr
  m_NoRuns:mg "NoRuns" = some (.ref c_NoRuns)
  c_NoCover:Addr
  m_NoCover:mg "NoCover" = some (.ref c_NoCover)
  c_NoText:Addr
  m_NoText:mg "NoText" = some (.ref c_NoText)
  c_TooMany:Addr
  m_TooMany:mg "TooMany" = some (.ref c_TooMany)
  c_NoTries:Addr
  m_NoTries:mg "NoTries" = some (.ref c_NoTries)
  c_NoPattern:Addr
  m_NoPattern:mg "NoPattern" = some (.ref c_NoPattern)
  c_NoLetter:Addr
  m_NoLetter:mg "NoLetter" = some (.ref c_NoLetter)
  c_NoLeaf:Addr
  m_NoLeaf:mg "NoLeaf" = some (.ref c_NoLeaf)
  c_NoChange:Addr
  m_NoChange:mg "NoChange" = some (.ref c_NoChange)
  c_NoLine:Addr
  m_NoLine:mg "NoLine" = some (.ref c_NoLine)
  c_NoTree:Addr
  m_NoTree:mg "NoTree" = some (.ref c_NoTree)
  q_NoNumber:PySem.W.excIn K c_NoNumber bmV "ValueError.__new__" = true
  z_NoNumber:ExK K c_NoNumber
  u_NoNumber:PySem.W.exmOne K (.ref c_NoNumber) (.ref c_UpError)=some true
  n0:PySem.W.kitOne K (.ref c_NoNumber) (.ref c_NoNumber)=some true
  n1:PySem.W.kitOne K (.ref c_NoNumber) (.ref c_NoWord)=some false
  n2:PySem.W.kitOne K (.ref c_NoNumber) (.ref c_NoPattern)=some false
  nv:PySem.W.kitOne K (.ref c_NoNumber) (.type "ValueError")=some true
  n3:PySem.W.kitAny K (.ref c_NoNumber) ([c_NoPlace,c_NoRows,c_NoRuns,c_NoCover,c_NoText,c_TooMany,c_NoTries,c_NoLetter].map Value.ref)=some false
  n4:PySem.W.kitAny K (.ref c_NoNumber) ([c_NoLeaf,c_NoChange,c_NoLine,c_NoTree].map Value.ref)=some false
  q_NoWord:PySem.W.excIn K c_NoWord bmV "ValueError.__new__" = true
  z_NoWord:ExK K c_NoWord
  u_NoWord:PySem.W.exmOne K (.ref c_NoWord) (.ref c_UpError)=some true
  w0:PySem.W.kitOne K (.ref c_NoWord) (.ref c_NoNumber)=some false
  w1:PySem.W.kitOne K (.ref c_NoWord) (.ref c_NoWord)=some true
  w2:PySem.W.kitOne K (.ref c_NoWord) (.ref c_NoPattern)=some false
  wv:PySem.W.kitOne K (.ref c_NoWord) (.type "ValueError")=some true
  w3:PySem.W.kitAny K (.ref c_NoWord) ([c_NoPlace,c_NoRows,c_NoRuns,c_NoCover,c_NoText,c_TooMany,c_NoTries,c_NoLetter].map Value.ref)=some false
  w4:PySem.W.kitAny K (.ref c_NoWord) ([c_NoLeaf,c_NoChange,c_NoLine,c_NoTree].map Value.ref)=some false
inductive Thg (H:Hp):V→Prop
  | non:Thg H .non
  | bl (b:Bool):Thg H (.bl b)
  | int (i:Int):Thg H (.int i)
  | str (z:Str):Thg H (.str z)
  | lst {a:Addr} {xs:List V} (e:H a=some (.lst xs)):Thg H (.ref a)
  | tup {a:Addr} {xs:List V} (e:H a=some (.tup xs)):Thg H (.ref a)
  | dct {a:Addr} {kvs:List (Key × V)} (e:H a=some (.dK kvs)):Thg H (.ref a)
theorem Thg.same {H H':Hp} {x:V} (h:Thg H x) (s:Same H H'):Thg H' x:=by
  cases h with
  | non=>exact .non
  | bl b=>exact .bl b
  | int i=>exact .int i
  | str z=>exact .str z
  | lst e=>exact .lst (s _ _ e)
  | tup e=>exact .tup (s _ _ e)
  | dct e=>exact .dct (s _ _ e)
def wh:V→Bool
  | .int _=>true
  | _=>false
def below:V→Int→Bool
  | .int i,n=>decide (0≤i) && decide (i < n)
  | _,_=>false
section
variable {P:Program} {w:World} {K:PySem.W.Frag} {mg:Str→Option Value} {base:Heap} {k:Nat}
theorem kit_none_int (K:PySem.W.Frag):PySem.W.kitOne K (.type "NoneType") (.type "int")=some false:=by rfl
theorem kit_str_int (K:PySem.W.Frag):PySem.W.kitOne K (.type "str") (.type "int")=some false:=by rfl
theorem kit_list_int (K:PySem.W.Frag):PySem.W.kitOne K (.type "list") (.type "int")=some false:=by rfl
theorem kit_tuple_int (K:PySem.W.Frag):PySem.W.kitOne K (.type "tuple") (.type "int")=some false:=by rfl
theorem kit_dict_int (K:PySem.W.Frag):PySem.W.kitOne K (.type "dict") (.type "int")=some false:=by rfl
theorem kit_bool_int (K:PySem.W.Frag):PySem.W.kitOne K (.type "bool") (.type "int")=some true:=by rfl
def sp_iswhole:Sp:=fun vs H Q _=>∃ x:V,vs=[x]∧Thg H x∧Q (.bl (wh x)) H
theorem has_iswhole (D:Df K mg "is_whole" s_is_whole) (B:Blt7 mg):Has P w K mg base "is_whole" (k+1) ["thing"] sp_iswhole:=by
  refine D.has sc_is_whole (fun _ _ _ _ _ _=>ar1 fun _=>rfl) (fun vs H Q E h=>by obtain ⟨x,rfl,_⟩:=h;rfl) (fun f cdv A outer s H vs Q E hr h=>?_)
  obtain ⟨x,rfl,th,q⟩:=h
  refine ⟨_,(pss_one (ps_ret (pe_and (pe_callB call_isinst rfl B.isinstance bt_isinstance (pa_cons (pv 0) (pa_cons (pe_bltn (v:=.ty "int") rfl B.int_ bt_int rfl) pa_nil))) (pe_one (pe_not (pe_callB call_isinst rfl B.isinstance bt_isinstance (pa_cons (pv 0) (pa_cons (pe_bltn (v:=.ty "bool") rfl B.bool_ bt_bool rfl) pa_nil)))))))),?_⟩
  cases th with
  | non=>exact ⟨_,rfl,_,_, "int", false,rfl,.non,kit_none_int _,_,rfl,iteF q⟩
  | str z=>exact ⟨_,rfl,_,_, "int", false,rfl,.str _,kit_str_int _,_,rfl,iteF q⟩
  | lst e=>exact ⟨_,rfl,_,_, "int", false,rfl,.lst e,kit_list_int _,_,rfl,iteF q⟩
  | tup e=>exact ⟨_,rfl,_,_, "int", false,rfl,.tup e,kit_tuple_int _,_,rfl,iteF q⟩
  | dct e=>exact ⟨_,rfl,_,_, "int", false,rfl,.dK e,kit_dict_int _,_,rfl,iteF q⟩
  | bl b=>
    refine ⟨_,rfl,_,_, "int", true,rfl,.bl _,kit_bool_int _,_,rfl,iteT ?_⟩
    exact ⟨_,rfl,_,_, "bool", true,rfl,.bl _,kit_same _ _,_,rfl,q⟩
  | int i=>
    refine ⟨_,rfl,_,.type "int", "int", true,rfl,.int _,kit_same _ _,_,rfl,iteT ?_⟩
    exact ⟨_,rfl,_,.type "int", "bool", false,rfl,.int _,kit_int_bool _,_,rfl,q⟩
def sp_below:Sp:=fun vs H Q _=>∃ (x:V) (n:Int),vs=[x,.int n]∧Thg H x∧Q (.bl (below x n)) H
theorem has_below (D:Df K mg "is_number_below" s_is_number_below) (B:Blt7 mg) (G_is_whole:Has P w K mg base "is_whole" k ["thing"] sp_iswhole):Has P w K mg base "is_number_below" (k+1) ["thing", "behind"] sp_below:=by
  refine D.has sc_is_number_below (fun _ _ _ _ _ _=>ar2 fun _ _=>rfl) (fun vs H Q E h=>by obtain ⟨x,y,rfl,_⟩:=h;rfl) (fun f cdv A outer s H vs Q E hr h=>?_)
  obtain ⟨x,n,rfl,th,q⟩:=h
  refine ⟨_,(pss_one (ps_ret (pe_and (pe_callH G_is_whole hr rfl (pa_cons (pv 0) pa_nil)) (pe_one (pe_chain op_le op_lt pe_int (pv 0) (pv 1)))))),?_⟩
  refine ⟨_,rfl,x,rfl,th,_,rfl,?_⟩
  cases x with
  | int i=>
    refine iteT ⟨_,rfl,_,_,rfl,rfl,_,rfl,ite2 (fun c=>?_) (fun c=>?_)⟩
    · refine ⟨_,rfl,_,_,rfl,rfl,?_⟩
      have q':Q (.bl (decide (0≤i) && decide (i < n))) H:=q
      rw [c,Bool.true_and] at q'
      exact q'
    · have q':Q (.bl (decide (0≤i) && decide (i < n))) H:=q
      rw [Bool.eq_false_iff.mpr c,Bool.false_and] at q'
      exact q'
  | _=>exact iteF q
def sp_kind (cN:Addr) (z:Str):Sp:=fun vs H Q _=>∃ a:Addr,vs=[.ref a]∧H a=some (excO a cN)∧∀ H',Same H H'→Q (.str z) H'
theorem has_kind (EX:Exs K mg) (D:Df K mg "_law_kind" s_law_kind) (B:Blt7 mg):HasH P w K mg base "_law_kind" (k+1) ["caught"] (sp_kind EX.c_NoNumber "number"):=by
  refine D.hasH sc_law_kind (fun _ _ _ _ _ _=>ar1 fun _=>rfl) (fun vs H Q E h=>by obtain ⟨a,rfl,_⟩:=h;rfl) (fun f cdv A outer s H vs Q E hr h=>?_)
  obtain ⟨a,rfl,ha,q⟩:=h
  refine ⟨_,(pss_cons (ps_set (i:=1) sc_law_kind.nd rfl (by first | exact Or.inl rfl | exact Or.inr rfl) (pe_lst (pa_cons (pe_callB (call_isinstE K) rfl B.isinstance bt_isinstance (pa_cons (pv 0) (pa_cons (pe_glob (x := "NoNumber") (v:=.ref EX.c_NoNumber) rfl EX.m_NoNumber rfl) pa_nil))) (pa_cons (pe_callB (call_isinstE K) rfl B.isinstance bt_isinstance (pa_cons (pv 0) (pa_cons (pe_glob (x := "NoWord") (v:=.ref EX.c_NoWord) rfl EX.m_NoWord rfl) pa_nil))) (pa_cons (pe_callB (call_isinstE K) rfl B.isinstance bt_isinstance (pa_cons (pv 0) (pa_cons (pe_glob (x := "NoPattern") (v:=.ref EX.c_NoPattern) rfl EX.m_NoPattern rfl) pa_nil))) pa_nil)))))
  (pss_cons (ps_set (i:=2) sc_law_kind.nd rfl (by first | exact Or.inl rfl | exact Or.inr rfl) (pe_callB (call_isinstET K) rfl B.isinstance bt_isinstance (pa_cons (pv 0) (pa_cons (pe_tup (pa_cons (pe_glob (x := "NoPlace") (v:=.ref EX.c_NoPlace) rfl EX.m_NoPlace rfl) (pa_cons (pe_glob (x := "NoRows") (v:=.ref EX.c_NoRows) rfl EX.m_NoRows rfl) (pa_cons (pe_glob (x := "NoRuns") (v:=.ref EX.c_NoRuns) rfl EX.m_NoRuns rfl) (pa_cons (pe_glob (x := "NoCover") (v:=.ref EX.c_NoCover) rfl EX.m_NoCover rfl) (pa_cons (pe_glob (x := "NoText") (v:=.ref EX.c_NoText) rfl EX.m_NoText rfl) (pa_cons (pe_glob (x := "TooMany") (v:=.ref EX.c_TooMany) rfl EX.m_TooMany rfl) (pa_cons (pe_glob (x := "NoTries") (v:=.ref EX.c_NoTries) rfl EX.m_NoTries rfl) (pa_cons (pe_glob (x := "NoLetter") (v:=.ref EX.c_NoLetter) rfl EX.m_NoLetter rfl) pa_nil))))))))) pa_nil))))
  (pss_cons (ps_if (PW.pt (pw_or (pt_val (pv 2)) (pw_or (pt_val (pe_callB (call_isinstET K) rfl B.isinstance bt_isinstance (pa_cons (pv 0) (pa_cons (pe_tup (pa_cons (pe_glob (x := "NoLeaf") (v:=.ref EX.c_NoLeaf) rfl EX.m_NoLeaf rfl) (pa_cons (pe_glob (x := "NoChange") (v:=.ref EX.c_NoChange) rfl EX.m_NoChange rfl) (pa_cons (pe_glob (x := "NoLine") (v:=.ref EX.c_NoLine) rfl EX.m_NoLine rfl) (pa_cons (pe_glob (x := "NoTree") (v:=.ref EX.c_NoTree) rfl EX.m_NoTree rfl) pa_nil))))) pa_nil)))) (pw_or1 (pt_cmpR op_ne (pe_countB K (pv 1) pe_bl) pe_int (nomark _))))))
  (pss_one (ps_ret pe_str))
  pss_nil)
  (pss_cons (ps_if (pt_not (pt_val (pe_callB (call_isinstEB K) rfl B.isinstance bt_isinstance (pa_cons (pv 0) (pa_cons (pe_bltn (v:=.ty "ValueError") rfl B.ValueError_ bt_ValueError rfl) pa_nil)))))
  (pss_one (ps_ret pe_str))
  pss_nil)
  (pss_one (ps_ret (pe_ix ix_list (pe_lst (pa_cons pe_str (pa_cons pe_str (pa_cons pe_str pa_nil)))) (pe_indexT K (pv 1) pe_bl) (fun _ _=>rfl)))))))),?_⟩
  first | (dsimp only [cxOf,Cx.nox];generalize hK:K=K';revert K' hK;refine seqK (seqE <| seqE <| seqE <| seqE <| fun _=>rfl) ?_) | skip
  refine ⟨_,rfl,a,EX.c_NoNumber,_,true,rfl,ha,EX.z_NoNumber,EX.n0,_,rfl,a,EX.c_NoNumber,_,false,rfl,ha,EX.z_NoNumber,EX.n1,_,rfl,a,EX.c_NoNumber,_,false,rfl,ha,EX.z_NoNumber,EX.n2,(by show 3≤sizeLine;decide),fun l1 hl1=>?_⟩
  have s1:Same H (upd H l1 (.lst [.bl true,.bl false,.bl false])):=(Same.refl H).new hl1
  have h1:upd H l1 (.lst [.bl true,.bl false,.bl false]) l1=some (.lst ([true,false,false].map V.bl)):=upd_same
  show (fun HH=>_) (upd H l1 (.lst [.bl true,.bl false,.bl false]))
  generalize upd H l1 (.lst [.bl true,.bl false,.bl false])=H1 at s1 h1
  have ha1:=s1 _ _ ha
  refine ⟨_,rfl,(by show 8≤sizeLine;decide),fun t2 ht2=>?_⟩
  have s2:Same H1 (upd H1 t2 (.tup [V.ref EX.c_NoPlace,V.ref EX.c_NoRows,V.ref EX.c_NoRuns,V.ref EX.c_NoCover,V.ref EX.c_NoText,V.ref EX.c_TooMany,V.ref EX.c_NoTries,V.ref EX.c_NoLetter])):=(Same.refl H1).new ht2
  have ha2:=s2 _ _ ha1
  have h2:=s2 _ _ h1
  refine ⟨a,EX.c_NoNumber,t2,_,false,rfl,ha2,upd_same,EX.z_NoNumber,EX.n3,?_⟩
  show (fun HH=>_) (upd H1 t2 (.tup [V.ref EX.c_NoPlace,V.ref EX.c_NoRows,V.ref EX.c_NoRuns,V.ref EX.c_NoCover,V.ref EX.c_NoText,V.ref EX.c_TooMany,V.ref EX.c_NoTries,V.ref EX.c_NoLetter]))
  generalize upd H1 t2 (.tup [V.ref EX.c_NoPlace,V.ref EX.c_NoRows,V.ref EX.c_NoRuns,V.ref EX.c_NoCover,V.ref EX.c_NoText,V.ref EX.c_TooMany,V.ref EX.c_NoTries,V.ref EX.c_NoLetter])=H2 at s2 ha2 h2
  refine ⟨_,rfl,_,rfl,iteF ?_⟩
  refine ⟨_,rfl,(by show 4≤sizeLine;decide),fun t3 ht3=>?_⟩
  have s3:Same H2 (upd H2 t3 (.tup [V.ref EX.c_NoLeaf,V.ref EX.c_NoChange,V.ref EX.c_NoLine,V.ref EX.c_NoTree])):=(Same.refl H2).new ht3
  have ha3:=s3 _ _ ha2
  have h3:=s3 _ _ h2
  refine ⟨a,EX.c_NoNumber,t3,_,false,rfl,ha3,upd_same,EX.z_NoNumber,EX.n4,?_⟩
  show (fun HH=>_) (upd H2 t3 (.tup [V.ref EX.c_NoLeaf,V.ref EX.c_NoChange,V.ref EX.c_NoLine,V.ref EX.c_NoTree]))
  generalize upd H2 t3 (.tup [V.ref EX.c_NoLeaf,V.ref EX.c_NoChange,V.ref EX.c_NoLine,V.ref EX.c_NoTree])=H3 at s3 ha3 h3
  refine ⟨_,rfl,iteF ?_⟩
  refine ⟨_,rfl,.inl ⟨rfl,_,SqL.of h3⟩,l1,[true,false,false],true,rfl,rfl,h3,rfl,_,rfl,L2.iteB (by rfl) ?_⟩
  refine ⟨_,rfl,a,EX.c_NoNumber, "ValueError", true,rfl,ha3,EX.z_NoNumber,EX.nv,_,rfl,iteF ?_⟩
  refine ⟨(by show 3≤sizeLine;decide),fun lr hlr=>?_⟩
  have s4:Same H3 (upd H3 lr (.lst [.str "number", .str "word", .str "pattern"])):=(Same.refl H3).new hlr
  refine ⟨_,rfl,.inl ⟨rfl,_,SqL.of (s4 _ _ h3)⟩,l1,[true,false,false],true,rfl,rfl,s4 _ _ h3,by simp,(by show 3≤10000;decide),?_⟩
  refine ⟨lr,_,_,.str "number", rfl,rfl,SqL.of upd_same,rfl,?_⟩
  exact q _ (((s1.trans s2).trans s3).trans s4)
theorem has_kindW (EX:Exs K mg) (D:Df K mg "_law_kind" s_law_kind) (B:Blt7 mg):HasH P w K mg base "_law_kind" (k+1) ["caught"] (sp_kind EX.c_NoWord "word"):=by
  refine D.hasH sc_law_kind (fun _ _ _ _ _ _=>ar1 fun _=>rfl) (fun vs H Q E h=>by obtain ⟨a,rfl,_⟩:=h;rfl) (fun f cdv A outer s H vs Q E hr h=>?_)
  obtain ⟨a,rfl,ha,q⟩:=h
  refine ⟨_,(pss_cons (ps_set (i:=1) sc_law_kind.nd rfl (by first | exact Or.inl rfl | exact Or.inr rfl) (pe_lst (pa_cons (pe_callB (call_isinstE K) rfl B.isinstance bt_isinstance (pa_cons (pv 0) (pa_cons (pe_glob (x := "NoNumber") (v:=.ref EX.c_NoNumber) rfl EX.m_NoNumber rfl) pa_nil))) (pa_cons (pe_callB (call_isinstE K) rfl B.isinstance bt_isinstance (pa_cons (pv 0) (pa_cons (pe_glob (x := "NoWord") (v:=.ref EX.c_NoWord) rfl EX.m_NoWord rfl) pa_nil))) (pa_cons (pe_callB (call_isinstE K) rfl B.isinstance bt_isinstance (pa_cons (pv 0) (pa_cons (pe_glob (x := "NoPattern") (v:=.ref EX.c_NoPattern) rfl EX.m_NoPattern rfl) pa_nil))) pa_nil)))))
  (pss_cons (ps_set (i:=2) sc_law_kind.nd rfl (by first | exact Or.inl rfl | exact Or.inr rfl) (pe_callB (call_isinstET K) rfl B.isinstance bt_isinstance (pa_cons (pv 0) (pa_cons (pe_tup (pa_cons (pe_glob (x := "NoPlace") (v:=.ref EX.c_NoPlace) rfl EX.m_NoPlace rfl) (pa_cons (pe_glob (x := "NoRows") (v:=.ref EX.c_NoRows) rfl EX.m_NoRows rfl) (pa_cons (pe_glob (x := "NoRuns") (v:=.ref EX.c_NoRuns) rfl EX.m_NoRuns rfl) (pa_cons (pe_glob (x := "NoCover") (v:=.ref EX.c_NoCover) rfl EX.m_NoCover rfl) (pa_cons (pe_glob (x := "NoText") (v:=.ref EX.c_NoText) rfl EX.m_NoText rfl) (pa_cons (pe_glob (x := "TooMany") (v:=.ref EX.c_TooMany) rfl EX.m_TooMany rfl) (pa_cons (pe_glob (x := "NoTries") (v:=.ref EX.c_NoTries) rfl EX.m_NoTries rfl) (pa_cons (pe_glob (x := "NoLetter") (v:=.ref EX.c_NoLetter) rfl EX.m_NoLetter rfl) pa_nil))))))))) pa_nil))))
  (pss_cons (ps_if (PW.pt (pw_or (pt_val (pv 2)) (pw_or (pt_val (pe_callB (call_isinstET K) rfl B.isinstance bt_isinstance (pa_cons (pv 0) (pa_cons (pe_tup (pa_cons (pe_glob (x := "NoLeaf") (v:=.ref EX.c_NoLeaf) rfl EX.m_NoLeaf rfl) (pa_cons (pe_glob (x := "NoChange") (v:=.ref EX.c_NoChange) rfl EX.m_NoChange rfl) (pa_cons (pe_glob (x := "NoLine") (v:=.ref EX.c_NoLine) rfl EX.m_NoLine rfl) (pa_cons (pe_glob (x := "NoTree") (v:=.ref EX.c_NoTree) rfl EX.m_NoTree rfl) pa_nil))))) pa_nil)))) (pw_or1 (pt_cmpR op_ne (pe_countB K (pv 1) pe_bl) pe_int (nomark _))))))
  (pss_one (ps_ret pe_str))
  pss_nil)
  (pss_cons (ps_if (pt_not (pt_val (pe_callB (call_isinstEB K) rfl B.isinstance bt_isinstance (pa_cons (pv 0) (pa_cons (pe_bltn (v:=.ty "ValueError") rfl B.ValueError_ bt_ValueError rfl) pa_nil)))))
  (pss_one (ps_ret pe_str))
  pss_nil)
  (pss_one (ps_ret (pe_ix ix_list (pe_lst (pa_cons pe_str (pa_cons pe_str (pa_cons pe_str pa_nil)))) (pe_indexT K (pv 1) pe_bl) (fun _ _=>rfl)))))))),?_⟩
  first | (dsimp only [cxOf,Cx.nox];generalize hK:K=K';revert K' hK;refine seqK (seqE <| seqE <| seqE <| seqE <| fun _=>rfl) ?_) | skip
  refine ⟨_,rfl,a,EX.c_NoWord,_,false,rfl,ha,EX.z_NoWord,EX.w0,_,rfl,a,EX.c_NoWord,_,true,rfl,ha,EX.z_NoWord,EX.w1,_,rfl,a,EX.c_NoWord,_,false,rfl,ha,EX.z_NoWord,EX.w2,(by show 3≤sizeLine;decide),fun l1 hl1=>?_⟩
  have s1:Same H (upd H l1 (.lst [.bl false,.bl true,.bl false])):=(Same.refl H).new hl1
  have h1:upd H l1 (.lst [.bl false,.bl true,.bl false]) l1=some (.lst ([false,true,false].map V.bl)):=upd_same
  show (fun HH=>_) (upd H l1 (.lst [.bl false,.bl true,.bl false]))
  generalize upd H l1 (.lst [.bl false,.bl true,.bl false])=H1 at s1 h1
  have ha1:=s1 _ _ ha
  refine ⟨_,rfl,(by show 8≤sizeLine;decide),fun t2 ht2=>?_⟩
  have s2:Same H1 (upd H1 t2 (.tup [V.ref EX.c_NoPlace,V.ref EX.c_NoRows,V.ref EX.c_NoRuns,V.ref EX.c_NoCover,V.ref EX.c_NoText,V.ref EX.c_TooMany,V.ref EX.c_NoTries,V.ref EX.c_NoLetter])):=(Same.refl H1).new ht2
  have ha2:=s2 _ _ ha1
  have h2:=s2 _ _ h1
  refine ⟨a,EX.c_NoWord,t2,_,false,rfl,ha2,upd_same,EX.z_NoWord,EX.w3,?_⟩
  show (fun HH=>_) (upd H1 t2 (.tup [V.ref EX.c_NoPlace,V.ref EX.c_NoRows,V.ref EX.c_NoRuns,V.ref EX.c_NoCover,V.ref EX.c_NoText,V.ref EX.c_TooMany,V.ref EX.c_NoTries,V.ref EX.c_NoLetter]))
  generalize upd H1 t2 (.tup [V.ref EX.c_NoPlace,V.ref EX.c_NoRows,V.ref EX.c_NoRuns,V.ref EX.c_NoCover,V.ref EX.c_NoText,V.ref EX.c_TooMany,V.ref EX.c_NoTries,V.ref EX.c_NoLetter])=H2 at s2 ha2 h2
  refine ⟨_,rfl,_,rfl,iteF ?_⟩
  refine ⟨_,rfl,(by show 4≤sizeLine;decide),fun t3 ht3=>?_⟩
  have s3:Same H2 (upd H2 t3 (.tup [V.ref EX.c_NoLeaf,V.ref EX.c_NoChange,V.ref EX.c_NoLine,V.ref EX.c_NoTree])):=(Same.refl H2).new ht3
  have ha3:=s3 _ _ ha2
  have h3:=s3 _ _ h2
  refine ⟨a,EX.c_NoWord,t3,_,false,rfl,ha3,upd_same,EX.z_NoWord,EX.w4,?_⟩
  show (fun HH=>_) (upd H2 t3 (.tup [V.ref EX.c_NoLeaf,V.ref EX.c_NoChange,V.ref EX.c_NoLine,V.ref EX.c_NoTree]))
  generalize upd H2 t3 (.tup [V.ref EX.c_NoLeaf,V.ref EX.c_NoChange,V.ref EX.c_NoLine,V.ref EX.c_NoTree])=H3 at s3 ha3 h3
  refine ⟨_,rfl,iteF ?_⟩
  refine ⟨_,rfl,.inl ⟨rfl,_,SqL.of h3⟩,l1,[false,true,false],true,rfl,rfl,h3,rfl,_,rfl,L2.iteB (by rfl) ?_⟩
  refine ⟨_,rfl,a,EX.c_NoWord, "ValueError", true,rfl,ha3,EX.z_NoWord,EX.wv,_,rfl,iteF ?_⟩
  refine ⟨(by show 3≤sizeLine;decide),fun lr hlr=>?_⟩
  have s4:Same H3 (upd H3 lr (.lst [.str "number", .str "word", .str "pattern"])):=(Same.refl H3).new hlr
  refine ⟨_,rfl,.inl ⟨rfl,_,SqL.of (s4 _ _ h3)⟩,l1,[false,true,false],true,rfl,rfl,s4 _ _ h3,by simp,(by show 3≤10000;decide),?_⟩
  refine ⟨lr,_,_,.str "word", rfl,rfl,SqL.of upd_same,rfl,?_⟩
  exact q _ (((s1.trans s2).trans s3).trans s4)
end
end S65
namespace S65
open PySem L2 W7
open W63 (Wr Wi enc dec star)
theorem lt_asymm':∀ x y:List Nat,¬ y < x→¬ x < y→x=y:=fun x y h1 h2=>List.le_antisymm (List.not_lt.mp h1) (List.not_lt.mp h2)
theorem sorted_one {a b:List Str} (h1:PyProof.Rows.sortedS a=true) (h2:PyProof.Rows.sortedS b=true) (p:a.Perm b):a=b:=
  p.eq_of_pairwise (fun x y _ _ l1 l2=>by
    have:=lt_asymm' x.cps.toList y.cps.toList l1 l2
    exact str_ext this) (sorted_pair a h1) (sorted_pair b h2)
theorem Uq.one {us us' bs:List Str} (h:Uq us bs) (h':Uq us' bs):us=us':=
  sorted_one h.srt h'.srt ((List.perm_ext_iff_of_nodup h.nd h'.nd).mpr fun x=>(h.mem x).trans (h'.mem x).symm)
theorem below_int {x:V} {n:Int} (h:below x n=true):∃ i:Int,x=.int i∧0≤i∧i < n:=by
  cases x with
  | int i=>
    have h':(decide (0≤i) && decide (i < n))=true:=h
    rw [Bool.and_eq_true] at h'
    exact ⟨i,rfl,of_decide_eq_true h'.1,of_decide_eq_true h'.2⟩
  | _=>cases h
theorem inV_str {z:Str}:∀ zs:List Str,inV (.str z) (zs.map V.str)=decide (z∈zs)
  | []=>rfl
  | y :: zs=>by
    have ih:=inV_str (z:=z) zs
    unfold inV at ih ⊢
    rw [List.map_cons,List.any_cons,ih]
    by_cases e:y=z
    · subst e;simp [eqV]
    · have:eqV (.str y) (.str z)=false:=by simp [eqV,e]
      rw [this,Bool.false_or]
      simp [Ne.symm e]
theorem strs_flat (us:List Str):(us.map V.str).all flatV=true:=by
  rw [List.all_eq_true]
  intro v hv
  obtain ⟨z,_,rfl⟩:=List.mem_map.mp hv
  rfl
section
variable {P:Program} {w:World} {K:PySem.W.Frag} {mg:Str→Option Value} {base:Heap} {k:Nat}
theorem kit_none_str (K:PySem.W.Frag):PySem.W.kitOne K (.type "NoneType") (.type "str")=some false:=by rfl
theorem kit_int_str (K:PySem.W.Frag):PySem.W.kitOne K (.type "int") (.type "str")=some false:=by rfl
theorem kit_list_str (K:PySem.W.Frag):PySem.W.kitOne K (.type "list") (.type "str")=some false:=by rfl
theorem kit_tuple_str (K:PySem.W.Frag):PySem.W.kitOne K (.type "tuple") (.type "str")=some false:=by rfl
theorem kit_dict_str (K:PySem.W.Frag):PySem.W.kitOne K (.type "dict") (.type "str")=some false:=by rfl
theorem kit_bool_str (K:PySem.W.Frag):PySem.W.kitOne K (.type "bool") (.type "str")=some false:=by rfl
def sp_wby (cN:Addr):Sp:=fun vs H Q E=>∃ (t:Addr) (ups:List Int) (lab:Str) (xs:List Wi) (x:V),vs=[.ref t,.str (mk (enc xs)),x]∧TreeAt H t ups lab∧(∀ x∈xs,x.1.Ok)∧(enc xs).length≤40∧xs.length≤40∧ups.length≤20∧Thg H x ∧
  ∀ us:List Str,Uq us (fwd (dec xs) ups lab ups.length)→(∀ (i:Int) (z:Str),x=.int i→0≤i→us[i.toNat]?=some z→∀ H':Hp,Same H H'→Q (.str z) H') ∧
  (below x (us.length:Int)=false→∀ a H',Same H H'→H' a=none→E (.ref a) (some cN) H')
theorem has_wby (EX:Exs K mg) (D:Df K mg "word_by" s_word_by) (B:Blt7 mg) (G_words_fitting:Has P w K mg base "words_fitting" k ["tree", "pattern"] sp_wf) (G_is_number_below:Has P w K mg base "is_number_below" k ["thing", "behind"] sp_below):HasX P w K mg base "word_by" (k+1) ["tree", "pattern", "number"] (sp_wby EX.c_NoNumber):=by
  refine D.hasX sc_word_by (fun _ _ _ _ _ _=>ar3 fun _ _ _=>rfl) (fun vs H Q E h=>by obtain ⟨t,ups,lab,xs,x,rfl,_⟩:=h;rfl) (fun f cdv A outer s H vs Q E hr h=>?_)
  obtain ⟨t,ups,lab,xs,x,rfl,tr,ok,l40,x40,u20,th,q⟩:=h
  refine ⟨_,(pss_cons (ps_set (i:=3) sc_word_by.nd rfl (by first | exact Or.inl rfl | exact Or.inr rfl) (pe_callH G_words_fitting hr rfl (pa_cons (pv 0) (pa_cons (pv 1) pa_nil))))
  (pss_cons (ps_if (pt_not (pt_val (pe_callH G_is_number_below hr rfl (pa_cons (pv 2) (pa_cons (pe_callB call_len_seq rfl B.len bt_len (pa_cons (pv 3) pa_nil)) pa_nil)))))
  (pss_one (ps_raise raises_cx EX.m_NoNumber EX.q_NoNumber rfl (pa_cons pe_str pa_nil)))
  pss_nil)
  (pss_one (ps_ret (pe_ix ix_list (pv 3) (pv 2) (fun _ _=>rfl)))))),?_⟩
  first | (dsimp only [cxOf,Cx.nox];generalize hK:K=K';revert K' hK;refine seqK (seqE <| seqE <| fun _=>rfl) ?_) | skip
  refine ⟨_,rfl,_,rfl,t,ups,lab,xs,rfl,tr,ok,l40,x40,u20,fun r us H1 s1 f1 uq ul h1=>?_⟩
  obtain ⟨q1,q2⟩:=q us uq
  refine ⟨_,rfl,_,rfl,r,_,rfl,.inl (SqL.of h1),x,_,rfl,th.same s1,_,rfl,?_⟩
  rw [List.length_map]
  cases eb:below x (us.length:Int) with
  | true=>
    refine iteF ?_
    obtain ⟨i,rfl,i0,i1⟩:=below_int eb
    have il:i.toNat < us.length:=by omega
    have at1:=atI_nat (xs:=us.map V.str) (j:=i.toNat) (v:=.str us[i.toNat]) (by rw [List.getElem?_map,List.getElem?_eq_getElem il];rfl)
    rw [show ((i.toNat:Nat):Int)=i by omega] at at1
    exact ⟨_,rfl,_,rfl,r,_,_,_,rfl,rfl,SqL.of h1,at1,q1 i _ rfl i0 (List.getElem?_eq_getElem il) H1 s1⟩
  | false=>exact iteT ⟨(by show 1≤sizeLine;decide),fun a ha=>q2 eb a H1 s1 ha⟩
def sp_nby (cW:Addr):Sp:=fun vs H Q E=>∃ (t:Addr) (ups:List Int) (lab:Str) (xs:List Wi) (x:V),vs=[.ref t,.str (mk (enc xs)),x]∧TreeAt H t ups lab∧(∀ x∈xs,x.1.Ok)∧(enc xs).length≤40∧xs.length≤40∧ups.length≤20∧Thg H x ∧
  ∀ us:List Str,Uq us (fwd (dec xs) ups lab ups.length)→(∀ z:Str,x=.str z→z∈us→∀ H':Hp,Same H H'→Q (.int ((us.idxOf z:Nat):Int)) H') ∧
  ((∀ z:Str,x=.str z→z ∉ us)→∀ a H',Same H H'→H' a=none→E (.ref a) (some cW) H')
theorem has_nby (EX:Exs K mg) (D:Df K mg "number_by" s_number_by) (B:Blt7 mg) (G_words_fitting:Has P w K mg base "words_fitting" k ["tree", "pattern"] sp_wf):HasX P w K mg base "number_by" (k+1) ["tree", "pattern", "word"] (sp_nby EX.c_NoWord):=by
  refine D.hasX sc_number_by (fun _ _ _ _ _ _=>ar3 fun _ _ _=>rfl) (fun vs H Q E h=>by obtain ⟨t,ups,lab,xs,x,rfl,_⟩:=h;rfl) (fun f cdv A outer s H vs Q E hr h=>?_)
  obtain ⟨t,ups,lab,xs,x,rfl,tr,ok,l40,x40,u20,th,q⟩:=h
  refine ⟨_,(pss_cons (ps_set (i:=3) sc_number_by.nd rfl (by first | exact Or.inl rfl | exact Or.inr rfl) (pe_callH G_words_fitting hr rfl (pa_cons (pv 0) (pa_cons (pv 1) pa_nil))))
  (pss_cons (ps_if (PW.pt (pw_or (pt_not (pt_val (pe_callB call_isinst rfl B.isinstance bt_isinstance (pa_cons (pv 2) (pa_cons (pe_bltn (v:=.ty "str") rfl B.str_ bt_str rfl) pa_nil))))) (pw_or1 (pt_cmpR op_notIn_seq (pv 2) (pv 3) (by with_unfolding_all rfl)))))
  (pss_one (ps_raise raises_cx EX.m_NoWord EX.q_NoWord rfl (pa_cons pe_str pa_nil)))
  pss_nil)
  (pss_one (ps_ret (pe_indexK K (pv 3) (pv 2)))))),?_⟩
  first | (dsimp only [cxOf,Cx.nox];generalize hK:K=K';revert K' hK;refine seqK (seqE <| seqE <| fun _=>rfl) ?_) | skip
  refine ⟨_,rfl,_,rfl,t,ups,lab,xs,rfl,tr,ok,l40,x40,u20,fun r us H1 s1 f1 uq ul h1=>?_⟩
  obtain ⟨q1,q2⟩:=q us uq
  have odd:(∀ z:Str,x=.str z→False)→∀ a,H1 a=none→E (.ref a) (some EX.c_NoWord) H1:=fun h a ha=>q2 (fun z e=>(h z e).elim) a H1 s1 ha
  cases th.same s1 with
  | non=>exact ⟨_,rfl,_,_, "str", false,rfl,.non,kit_none_str _,_,rfl,iteT (iteT ⟨(by show 1≤sizeLine;decide),odd (fun z e=>by cases e)⟩)⟩
  | bl b=>exact ⟨_,rfl,_,_, "str", false,rfl,.bl _,kit_bool_str _,_,rfl,iteT (iteT ⟨(by show 1≤sizeLine;decide),odd (fun z e=>by cases e)⟩)⟩
  | int i=>exact ⟨_,rfl,_,_, "str", false,rfl,.int _,kit_int_str _,_,rfl,iteT (iteT ⟨(by show 1≤sizeLine;decide),odd (fun z e=>by cases e)⟩)⟩
  | lst e=>exact ⟨_,rfl,_,_, "str", false,rfl,.lst e,kit_list_str _,_,rfl,iteT (iteT ⟨(by show 1≤sizeLine;decide),odd (fun z e=>by cases e)⟩)⟩
  | tup e=>exact ⟨_,rfl,_,_, "str", false,rfl,.tup e,kit_tuple_str _,_,rfl,iteT (iteT ⟨(by show 1≤sizeLine;decide),odd (fun z e=>by cases e)⟩)⟩
  | dct e=>exact ⟨_,rfl,_,_, "str", false,rfl,.dK e,kit_dict_str _,_,rfl,iteT (iteT ⟨(by show 1≤sizeLine;decide),odd (fun z e=>by cases e)⟩)⟩
  | str z=>
    refine ⟨_,rfl,_,_, "str", true,rfl,.str _,kit_same _ _,_,rfl,iteF ?_⟩
    refine ⟨_,rfl,_,rfl,r,_,rfl,.inl (SqL.of h1),rfl,strs_flat us,?_⟩
    have ei:(if true=true then !inV (V.str z) (us.map V.str) else inV (V.str z) (us.map V.str))=!decide (z∈us):=by rw [if_pos rfl,inV_str]
    rw [ei]
    by_cases hz:z∈us
    · rw [decide_eq_true hz]
      refine ⟨_,rfl,iteF ?_⟩
      exact ⟨_,rfl,.inl ⟨rfl,_,SqL.of h1⟩,_,rfl,r,us,z,rfl,rfl,h1,hz,by omega,q1 z rfl hz H1 s1⟩
    · rw [decide_eq_false hz]
      exact ⟨_,rfl,iteT ⟨(by show 1≤sizeLine;decide),fun a ha=>q2 (fun z' e=>by cases e;exact hz) a H1 s1 ha⟩⟩
def sp_ref:Sp:=fun vs H Q _=>∃ (t:Addr) (ups:List Int) (lab:Str) (xs:List Wi) (x:V),TreeAt H t ups lab∧(∀ x∈xs,x.1.Ok)∧(enc xs).length≤40∧xs.length≤40∧ups.length≤20∧Thg H x ∧
  ((vs=[.str "number", .ref t,.str (mk (enc xs)),x]∧∀ us:List Str,Uq us (fwd (dec xs) ups lab ups.length)→below x (us.length:Int)=false) ∨
   (vs=[.str "word", .ref t,.str (mk (enc xs)),x]∧∀ us:List Str,Uq us (fwd (dec xs) ups lab ups.length)→∀ z:Str,x=.str z→z ∉ us))∧∀ H',Same H H'→Q (.bl true) H'
theorem has_ref (EX:Exs K mg) (D:Df K mg "_law_refused" s_law_refused) (B:Blt7 mg) (G_word_by:HasX P w K mg base "word_by" k ["tree", "pattern", "number"] (sp_wby EX.c_NoNumber)) (G_number_by:HasX P w K mg base "number_by" k ["tree", "pattern", "word"] (sp_nby EX.c_NoWord))
    (GN:HasH P w K mg base "_law_kind" k ["caught"] (sp_kind EX.c_NoNumber "number")) (GW:HasH P w K mg base "_law_kind" k ["caught"] (sp_kind EX.c_NoWord "word")):Has P w K mg base "_law_refused" (k+1) ["way", "tree_here", "pattern", "thing"] sp_ref:=by
  refine D.has sc_law_refused (fun _ _ _ _ _ _=>ar4 fun _ _ _ _=>rfl) (fun vs H Q E h=>by obtain ⟨t,ups,lab,xs,x,_,_,_,_,_,_,⟨rfl,_⟩ | ⟨rfl,_⟩,_⟩:=h <;> rfl) (fun f cdv A outer s H vs Q E hr h=>?_)
  obtain ⟨t,ups,lab,xs,x,tr,ok,l40,x40,u20,th,⟨rfl,nn⟩ | ⟨rfl,nn⟩,q⟩:=h
  · have G_law_kind:=GN
    refine ⟨_,(pss_cons (ps_set (i:=4) sc_law_refused.nd rfl (by first | exact Or.inl rfl | exact Or.inr rfl) pe_str)
  (pss_cons (ps_try (fun pn xe E σ0 hx=>(pss_one (ps_if (pt_cmpR op_eq (pv 0) pe_str (nomark _))
  (pss_one (ps_expr (pe_callX G_word_by hx hr rfl (pa_cons (pv 1) (pa_cons (pv 2) (pa_cons (pv 3) pa_nil))))))
  (pss_one (ps_expr (pe_callX G_number_by hx hr rfl (pa_cons (pv 1) (pa_cons (pv 2) (pa_cons (pv 3) pa_nil)))))))))
  (ph_as rfl EX.m_UpError sc_law_refused.nd (i:=5) rfl rfl (fun a=>(pss_one (ps_set (i:=4) sc_law_refused.nd rfl (by first | exact Or.inl rfl | exact Or.inr rfl) (pe_callHH G_law_kind (Room.caught hr a) rfl (pa_cons (pv 5) pa_nil)))))))
  (pss_one (ps_ret (pe_cmpR op_eq (pv 4) (pv 0) (nomark _)))))),?_⟩
    first | (dsimp only [cxOf,Cx.nox];generalize hK:K=K';revert K' hK;refine seqK (seqE <| seqE <| fun _=>rfl) ?_) | skip
    refine ⟨_,rfl,rfl,_,rfl,iteA (decide_eq_true rfl) ?_⟩
    refine ⟨rfl,_,rfl,_,rfl,_,rfl,t,ups,lab,xs,x,rfl,tr,ok,l40,x40,u20,th,fun us uq=>⟨fun i z ei i0 hz=>?_,fun _ a H1 s1 ha=>?_⟩⟩
    · subst ei
      have:=nn us uq
      have il:=(List.getElem?_eq_some_iff.mp hz).1
      have b1:below (.int i) (us.length:Int)=true:=by
        show (decide (0≤i) && decide (i < _))=true
        rw [decide_eq_true i0,decide_eq_true (show i < (us.length:Int) by omega)];rfl
      rw [b1] at this;cases this
    · refine ⟨a,EX.c_NoNumber,rfl,rfl,EX.u_NoNumber,?_⟩
      have sA:Same H (upd H1 a (excO a EX.c_NoNumber)):=s1.new ha
      have hA:upd H1 a (excO a EX.c_NoNumber) a=some (excO a EX.c_NoNumber):=upd_same
      generalize upd H1 a (excO a EX.c_NoNumber)=HA at sA hA
      refine ⟨_,rfl,a,rfl,hA,fun H2 s2=>?_⟩
      refine ⟨_,rfl,_,rfl,rfl,?_⟩
      rw [decide_eq_true rfl]
      exact q _ (sA.trans s2)
  · have G_law_kind:=GW
    refine ⟨_,(pss_cons (ps_set (i:=4) sc_law_refused.nd rfl (by first | exact Or.inl rfl | exact Or.inr rfl) pe_str)
  (pss_cons (ps_try (fun pn xe E σ0 hx=>(pss_one (ps_if (pt_cmpR op_eq (pv 0) pe_str (nomark _))
  (pss_one (ps_expr (pe_callX G_word_by hx hr rfl (pa_cons (pv 1) (pa_cons (pv 2) (pa_cons (pv 3) pa_nil))))))
  (pss_one (ps_expr (pe_callX G_number_by hx hr rfl (pa_cons (pv 1) (pa_cons (pv 2) (pa_cons (pv 3) pa_nil)))))))))
  (ph_as rfl EX.m_UpError sc_law_refused.nd (i:=5) rfl rfl (fun a=>(pss_one (ps_set (i:=4) sc_law_refused.nd rfl (by first | exact Or.inl rfl | exact Or.inr rfl) (pe_callHH G_law_kind (Room.caught hr a) rfl (pa_cons (pv 5) pa_nil)))))))
  (pss_one (ps_ret (pe_cmpR op_eq (pv 4) (pv 0) (nomark _)))))),?_⟩
    first | (dsimp only [cxOf,Cx.nox];generalize hK:K=K';revert K' hK;refine seqK (seqE <| seqE <| fun _=>rfl) ?_) | skip
    refine ⟨_,rfl,rfl,_,rfl,L2.iteB (decide_eq_false (by decide)) ?_⟩
    refine ⟨rfl,_,rfl,_,rfl,_,rfl,t,ups,lab,xs,x,rfl,tr,ok,l40,x40,u20,th,fun us uq=>⟨fun z ei hz=>(nn us uq z ei hz).elim,fun _ a H1 s1 ha=>?_⟩⟩
    refine ⟨a,EX.c_NoWord,rfl,rfl,EX.u_NoWord,?_⟩
    have sA:Same H (upd H1 a (excO a EX.c_NoWord)):=s1.new ha
    have hA:upd H1 a (excO a EX.c_NoWord) a=some (excO a EX.c_NoWord):=upd_same
    generalize upd H1 a (excO a EX.c_NoWord)=HA at sA hA
    refine ⟨_,rfl,a,rfl,hA,fun H2 s2=>?_⟩
    refine ⟨_,rfl,_,rfl,rfl,?_⟩
    rw [decide_eq_true rfl]
    exact q _ (sA.trans s2)
end
end S65
namespace S65
open PySem L2 W7
open W63 (Wr Wi enc dec star)
theorem putK_in {kvs:List (Key × V)} {k:Key} (v:V) (h:k∈kvs.map (·.1)):(putK kvs k v).map (·.1)=kvs.map (·.1):=by
  have a:(kvs.any fun kv=>decide (kv.1=k))=true:=by
    obtain ⟨p,hp,e⟩:=List.mem_map.mp h
    exact List.any_eq_true.mpr ⟨p,hp,decide_eq_true e⟩
  unfold putK
  rw [if_pos a,List.map_map]
  refine List.map_congr_left fun p _=>?_
  show (if p.1=k then (p.1,v) else p).1=p.1
  split <;> rfl
theorem putK_out {kvs:List (Key × V)} {k:Key} (v:V) (h:¬ k∈kvs.map (·.1)):(putK kvs k v).map (·.1)=kvs.map (·.1)++[k]:=by
  have a:¬ (kvs.any fun kv=>decide (kv.1=k))=true:=fun a=>by
    obtain ⟨p,hp,e⟩:=List.any_eq_true.mp a
    exact h (List.mem_map.mpr ⟨p,hp,of_decide_eq_true e⟩)
  unfold putK
  rw [if_neg a,List.map_append];rfl
structure Kx (kvs:List (Key × V)) (zs:List Str):Prop where
  ks:kvs.map (·.1)=zs.map Sum.inr
  nd:zs.Nodup
theorem Kx.put {kvs:List (Key × V)} {zs:List Str} (h:Kx kvs zs) (z:Str) (v:V):∃ zs',Kx (putK kvs (.inr z) v) zs'∧(∀ x,x∈zs' ↔ x∈zs∨x=z)∧zs'.length≤zs.length+1:=by
  by_cases m:z∈zs
  · refine ⟨zs,⟨?_,h.nd⟩,fun x=>⟨.inl,fun o=>o.elim id fun q=>q ▸ m⟩,by omega⟩
    rw [putK_in v (by rw [h.ks];exact List.mem_map.mpr ⟨z,m,rfl⟩)];exact h.ks
  · have nk:¬ (Sum.inr z:Key)∈kvs.map (·.1):=fun e=>by
      rw [h.ks] at e
      obtain ⟨y,hy,ey⟩:=List.mem_map.mp e
      injection ey with ey
      subst ey;exact m hy
    refine ⟨zs++[z],⟨by rw [putK_out v nk,h.ks,List.map_append];rfl,?_⟩,fun x=>by simp,by simp⟩
    rw [List.nodup_append]
    exact ⟨h.nd,by simp,fun a ha b hb e=>m (by rw [← List.mem_singleton.mp hb,← e];exact ha)⟩
theorem Kx.len {kvs:List (Key × V)} {zs:List Str} (h:Kx kvs zs):kvs.length=zs.length:=by have:=congrArg List.length h.ks;simpa using this
def lwn (its:List W63.It) (ws:List Nat) (i:Nat):List Str:=((lens its ws i).filter fun L=>decide (0 < L)).map fun L=>mk (ws.take L)
theorem lwn_succ (its:List W63.It) (ws:List Nat) (i:Nat):lwn its ws (i+1)=lwn its ws i++(if W63.D its ws its.length i=true∧0 < i then [mk (ws.take i)] else []):=by
  unfold lwn
  rw [lens_succ,List.filter_append,List.map_append]
  congr 1
  by_cases h1:W63.D its ws its.length i=true
  · rw [if_pos h1]
    by_cases h2:0 < i
    · rw [if_pos ⟨h1,h2⟩,List.filter_cons_of_pos (p:=fun L=>decide (0 < L)) (decide_eq_true h2)];rfl
    · rw [if_neg (fun h=>h2 h.2),List.filter_cons_of_neg (p:=fun L=>decide (0 < L)) (by simpa using h2)];rfl
  · rw [if_neg h1,if_neg (fun h=>h1 h.1)];rfl
section
variable {P:Program} {w:World} {K:PySem.W.Frag} {mg:Str→Option Value} {base:Heap} {k:Nat}
def sp_fit:Sp:=fun vs H Q _=>∃ (r l:Addr) (ups:List Int) (lab:Str) (xs:List Wi),vs=[.ref r,.ref l]∧H r=some (.lst (wordsV ups lab ups.length))∧LIts H l xs∧xs.length≤40∧TreeOk ups lab.cps.toList∧ups.length≤20 ∧
  ∀ (t e d:Addr) (es us:List Str) (H':Hp),Same H H'→H e=none→H d=none→H' t=some (.tup [.ref e,.ref d])→H' e=some (.lst (es.map V.str))→H' d=some (.lst (us.map V.str))→Uq us (fwd (dec xs) ups lab ups.length)→us.length≤420→es.length≤421→Q (.ref t) H'
theorem has_fit (D:Df K mg "_law_fitting_words" s_law_fitting_words) (B:Blt7 mg) (G_law_taken:Has P w K mg base "_law_taken" k ["items_here", "word"] sp_ltak):Has P w K mg base "_law_fitting_words" (k+1) ["words_here", "items_here"] sp_fit:=by
  refine D.has sc_law_fitting_words (fun _ _ _ _ _ _=>ar2 fun _ _=>rfl) (fun vs H Q E h=>by obtain ⟨r,l,ups,lab,xs,rfl,_⟩:=h;rfl) (fun f cdv A outer s H vs Q E hr h=>?_)
  obtain ⟨r,l,ups,lab,xs,rfl,hr0,it,x40,tok,u20,q⟩:=h
  refine ⟨_,(pss_cons (ps_set (i:=2) sc_law_fitting_words.nd rfl (by first | exact Or.inl rfl | exact Or.inr rfl) (pe_disp (pps_cons pe_str pe_bl pps_nil) rfl rfl (by simp) (by decide)))
  (pss_cons (ps_set (i:=3) sc_law_fitting_words.nd rfl (by first | exact Or.inl rfl | exact Or.inr rfl) pe_dnewK)
  (pss_cons (ps_for PassesOwn.never rfl (pi_list (pv 0)) (pg_name (i:=4) sc_law_fitting_words.nd rfl (by first | exact Or.inl rfl | exact Or.inr rfl))
  (pss_one (ps_for PassesOwn.never rfl (pi_enum rfl B.enumerate (pa_cons (pe_callH G_law_taken hr rfl (pa_cons (pv 1) (pa_cons (pv 4) pa_nil))) pa_nil)) (pg_tup rfl (pgs_cons (pg_name (i:=5) sc_law_fitting_words.nd rfl (by first | exact Or.inl rfl | exact Or.inr rfl)) (pgs_cons (pg_name (i:=6) sc_law_fitting_words.nd rfl (by first | exact Or.inl rfl | exact Or.inr rfl)) pgs_nil)))
  (pss_cons (ps_dput (hu_of hr) (pv 2) (pe_slice sl_str (pv 4) po_none (po_some (pv 5))) pe_bl rfl)
  (pss_one (ps_if (PW.pt (pw_and (pt_val (pv 6)) (pw_and1 (pt_cmpR op_gt (pv 5) pe_int (nomark _)))))
  (pss_one (ps_dput (hu_of hr) (pv 3) (pe_slice sl_str (pv 4) po_none (po_some (pv 5))) pe_bl rfl))
  pss_nil))))))
  (pss_one (ps_ret (pe_tup (pa_cons (pe_callB (call_sortedD rfl) rfl B.sorted bt_sorted (pa_cons (pv 2) pa_nil)) (pa_cons (pe_callB (call_sortedD rfl) rfl B.sorted bt_sorted (pa_cons (pv 3) pa_nil)) pa_nil)))))))),?_⟩
  first | (dsimp only [cxOf,Cx.nox];generalize hK:K=K';revert K' hK;refine seqK (seqE <| seqE <| seqE <| fun _=>rfl) ?_) | skip
  have dl:=W63.dec_len xs
  have wll:(wordsV ups lab ups.length).length=ups.length:=by simp [wordsV]
  have wle:∀ p,p < ups.length→(W ups lab.cps.toList p).length≤20:=fun p hp=>by
    have:=W_len tok (p+1) p (Nat.lt_succ_self _) hp
    omega
  refine fun ev hev=>?_
  refine ⟨upd_same,[(.inr (Str.ofString ""),.bl true)],rfl,by simp,?_⟩
  have hm:mergeK [] [((Sum.inr (Str.ofString ""):Key),V.bl true)]=[(Sum.inr (Str.ofString ""),V.bl true)]:=rfl
  rw [hm,upd_upd]
  have s1:Same H (upd H ev (.dK [(Sum.inr (Str.ofString ""),V.bl true)])):=(Same.refl H).new hev
  have h1:upd H ev (.dK [(Sum.inr (Str.ofString ""),V.bl true)]) ev=some (.dK [(Sum.inr (Str.ofString ""),V.bl true)]):=upd_same
  show (fun HH=>_) (upd H ev (.dK [(Sum.inr (Str.ofString ""),V.bl true)]))
  generalize upd H ev (.dK [(Sum.inr (Str.ofString ""),V.bl true)])=H1 at s1 h1
  refine fun fi hfi=>?_
  have s2:Same H1 (upd H1 fi (.dK [])):=(Same.refl H1).new hfi
  have h2:upd H1 fi (.dK []) fi=some (.dK []):=upd_same
  show (fun HH=>_) (upd H1 fi (.dK []))
  generalize upd H1 fi (.dK [])=H2 at s2 h2
  have ef:ev≠fi:=ne_of_none h1 hfi
  have Hfi:H fi=none:=s1.free hfi
  have s02:=s1.trans s2
  have kx0:Kx [((Sum.inr (Str.ofString ""):Key),V.bl true)] [Str.ofString ""]:=⟨rfl,by simp⟩
  refine ⟨_,rfl,r,rfl,⟨_,SqL.of (s02 _ _ hr0)⟩,?_⟩
  refine for_list (K:=K) (xs:=wordsV ups lab ups.length) (fun j σ HX=>∃ (o4 o5 o6:Option V) (k1 k2:List (Key × V)) (z1 z2:List Str),σ=[some (.ref r),some (.ref l),some (.ref ev),some (.ref fi),o4,o5,o6]∧Same H HX∧HX ev=some (.dK k1)∧Kx k1 z1∧z1.length≤1+21 * j∧HX fi=some (.dK k2)∧Kx k2 z2∧z2.length≤21 * j∧∀ x,x∈z2 ↔ x∈fwd (dec xs) ups lab j)
    ⟨none,none,none,_,_,_,_,rfl,s02,s2 _ _ h1,kx0,by simp,h2,⟨rfl,List.nodup_nil⟩,by simp,fun x=>Iff.rfl⟩ (fun j σ HX _ h=>by obtain ⟨_,_,_,_,_,_,_,_,sX,_⟩:=h;exact SqL.of (sX _ _ hr0)) ?_ ?_
  · rintro j x σ HX hx ⟨o4,o5,o6,k1,k2,z1,z2,rfl,sX,he,kx1,zl1,hf,kx2,zl2,mz⟩
    have jl:j < ups.length:=by
      have:=(List.getElem?_eq_some_iff.mp hx).1
      omega
    have ex:x=.str (mk (W ups lab.cps.toList j)):=by
      unfold wordsV at hx
      rw [List.getElem?_map,List.getElem?_range jl] at hx
      exact (Option.some.inj hx).symm
    subst ex
    have wj:=wle j jl
    have fs:=fwd_succ (dec xs) ups lab j
    generalize W ups lab.cps.toList j=ws at wj fs
    refine ⟨_,rfl,_,rfl,l,xs,mk ws,rfl,it.same sX,x40,by rw [mk_len];omega,fun tk H3 s3 f3 h3=>?_⟩
    rw [mk_cps,mk_len] at h3
    have Htk:H tk=none:=sX.free f3
    have tke:tk≠ev:=(ne_of_none he f3).symm
    have tkf:tk≠fi:=(ne_of_none hf f3).symm
    refine ⟨.lst tk,rfl,⟨_,.inl h3⟩,?_⟩
    refine for_enum (xs:=bV (W63.D (dec xs) ws xs.length) (ws.length+1)) (fun i σ HY=>∃ (o5 o6:Option V) (k1 k2:List (Key × V)) (z1 z2:List Str),σ=[some (.ref r),some (.ref l),some (.ref ev),some (.ref fi),some (.str (mk ws)),o5,o6]∧Same H HY∧HY tk=some (.lst (bV (W63.D (dec xs) ws xs.length) (ws.length+1)))∧HY ev=some (.dK k1)∧Kx k1 z1∧z1.length≤1+21 * j+i∧HY fi=some (.dK k2)∧Kx k2 z2∧z2.length≤21 * j+i∧∀ x,x∈z2 ↔ x∈fwd (dec xs) ups lab j++lwn (dec xs) ws i)
      ⟨o5,o6,k1,k2,z1,z2,rfl,sX.trans s3,h3,s3 _ _ he,kx1,by omega,s3 _ _ hf,kx2,by omega,fun x=>by rw [mz];simp [lwn,lens]⟩ (fun i σ HY _ h=>by obtain ⟨_,_,_,_,_,_,_,_,h,_⟩:=h;exact .inl h) ?_ ?_
    · rintro i x σ HY p hx ⟨o5,o6,k1,k2,z1,z2,rfl,sY,ht,he,kx1,zl1,hf,kx2,zl2,mz⟩ hp
      have il:i < ws.length+1:=by
        have:=(List.getElem?_eq_some_iff.mp hx).1
        rw [bV_len] at this;exact this
      have ex:x=.bl (W63.D (dec xs) ws xs.length i):=by
        unfold bV at hx
        rw [List.getElem?_map,List.getElem?_range il] at hx
        exact (Option.some.inj hx).symm
      subst ex
      refine ⟨p,_,rfl,SqT.of upd_same,rfl,_,_,rfl,_,_,rfl,rfl,?_⟩
      have sP:Same HY (upd HY p (.tup [.int (i:Int),.bl (W63.D (dec xs) ws xs.length i)])):=(Same.refl HY).new hp
      show (fun HH=>_) (upd HY p (.tup [.int (i:Int),.bl (W63.D (dec xs) ws xs.length i)]))
      generalize upd HY p (.tup [.int (i:Int),.bl (W63.D (dec xs) ws xs.length i)])=HZ at sP
      have zsz:(mk ws).length≤sizeLine:=line_le (by rw [mk_len];omega)
      refine ⟨_,rfl,_,rfl,_,rfl,_,rfl,mk ws,rfl,zsz,?_⟩
      rw [cut_take]
      obtain ⟨z1',kx1',mz1,zl1'⟩:=kx1.put (mk (ws.take i)) (.bl true)
      have kl1:=kx1.len
      have he':=sP _ _ he
      have hf':=sP _ _ hf
      have ht':=sP _ _ ht
      refine ⟨ev,_,rfl,DPut.k (k:=Sum.inr (mk (ws.take i))) he' (small10000 (by omega)),?_⟩
      have sE:Same H (upd HZ ev (.dK (putK k1 (Sum.inr (mk (ws.take i))) (.bl true)))):=(sY.trans sP).write hev
      have he2:upd HZ ev (.dK (putK k1 (Sum.inr (mk (ws.take i))) (.bl true))) ev=some (.dK (putK k1 (Sum.inr (mk (ws.take i))) (.bl true))):=upd_same
      have hf2:upd HZ ev (.dK (putK k1 (Sum.inr (mk (ws.take i))) (.bl true))) fi=some (.dK k2):=by rw [upd_ne ef.symm];exact hf'
      have ht2:upd HZ ev (.dK (putK k1 (Sum.inr (mk (ws.take i))) (.bl true))) tk=some (.lst (bV (W63.D (dec xs) ws xs.length) (ws.length+1))):=by rw [upd_ne tke];exact ht'
      show (fun HH=>_) (upd HZ ev (.dK (putK k1 (Sum.inr (mk (ws.take i))) (.bl true))))
      generalize upd HZ ev (.dK (putK k1 (Sum.inr (mk (ws.take i))) (.bl true)))=HE at sE he2 hf2 ht2
      have ls:=lwn_succ (dec xs) ws i
      rw [dl] at ls
      refine ⟨_,rfl,_,rfl,?_⟩
      have stay:¬ (W63.D (dec xs) ws xs.length i=true∧0 < i)→∀ x,x∈z2 ↔ x∈fwd (dec xs) ups lab j++lwn (dec xs) ws (i+1):=fun hn x=>by rw [ls,if_neg hn,List.append_nil];exact mz x
      cases hd:W63.D (dec xs) ws xs.length i with
      | false=>exact iteF (iteF ⟨_,_,_,_,_,_,rfl,sE,ht2,he2,kx1',by omega,hf2,kx2,by omega,stay (by rw [hd];simp)⟩)
      | true=>
        refine iteT ⟨_,rfl,_,_,rfl,rfl,_,rfl,ite2 (fun cnd=>?_) (fun cnd=>?_)⟩
        · have i0:0 < i:=by
            have:(0:Int) < (i:Int):=by simpa using cnd
            omega
          refine ⟨_,rfl,_,rfl,_,rfl,_,rfl,mk ws,rfl,zsz,?_⟩
          rw [cut_take]
          obtain ⟨z2',kx2',mz2,zl2'⟩:=kx2.put (mk (ws.take i)) (.bl true)
          have kl2:=kx2.len
          refine ⟨fi,_,rfl,DPut.k (k:=Sum.inr (mk (ws.take i))) hf2 (small10000 (by omega)),?_⟩
          refine ⟨_,_,_,_,_,_,rfl,sE.write Hfi,by rw [upd_ne tkf];exact ht2,by rw [upd_ne ef];exact he2,kx1',by omega,upd_same,kx2',by omega,fun x=>?_⟩
          rw [mz2,mz,ls,if_pos ⟨hd,i0⟩]
          simp [or_assoc]
        · have i0:¬ 0 < i:=by
            have:¬ (0:Int) < (i:Int):=by simpa using cnd
            omega
          exact ⟨_,_,_,_,_,_,rfl,sE,ht2,he2,kx1',by omega,hf2,kx2,by omega,stay (fun h=>i0 h.2)⟩
    · rintro σ HY ⟨o5,o6,k1,k2,z1,z2,rfl,sY,ht,he,kx1,zl1,hf,kx2,zl2,mz⟩
      rw [bV_len] at zl1 zl2 mz
      exact ⟨_,_,_,_,_,_,_,rfl,sY,he,kx1,by omega,hf,kx2,by omega,fun x=>by rw [mz,fs];rfl⟩
  · rintro σ HX ⟨o4,o5,o6,k1,k2,z1,z2,rfl,sX,he,kx1,zl1,hf,kx2,zl2,mz⟩
    rw [wll] at zl1 zl2 mz
    refine ⟨_,rfl,ev,k1,z1,rfl,.inl he,kx1.ks,kx1.nd,fun es e pe se hle=>?_⟩
    have s4:Same HX (upd HX e (.lst (es.map V.str))):=(Same.refl HX).new hle
    have v4:upd HX e (.lst (es.map V.str)) e=some (.lst (es.map V.str)):=upd_same
    show (fun HH=>_) (upd HX e (.lst (es.map V.str)))
    generalize upd HX e (.lst (es.map V.str))=H4 at s4 v4
    refine ⟨_,rfl,fi,k2,z2,rfl,.inl (s4 _ _ hf),kx2.ks,kx2.nd,fun us d pd sd hld=>?_⟩
    have s5:Same H4 (upd H4 d (.lst (us.map V.str))):=(Same.refl H4).new hld
    have v5:upd H4 d (.lst (us.map V.str)) d=some (.lst (us.map V.str)):=upd_same
    show (fun HH=>_) (upd H4 d (.lst (us.map V.str)))
    generalize upd H4 d (.lst (us.map V.str))=H5 at s5 v5
    refine ⟨(by show 2≤sizeLine;decide),fun t ht=>?_⟩
    have s6:Same H5 (upd H5 t (.tup [.ref e,.ref d])):=(Same.refl H5).new ht
    have l1:=pe.length_eq
    have l2:=pd.length_eq
    exact q t e d es us _ (((sX.trans s4).trans s5).trans s6) (sX.free hle) (sX.free (s4.free hld)) upd_same (s6 _ _ (s5 _ _ v4)) (s6 _ _ v5) ⟨pd.nodup_iff.mpr kx2.nd,fun x=>pd.mem_iff.trans (mz x),sd⟩ (by omega) (by omega)
end
end S65
namespace S65
open PySem L2 W7
open W63 (Wr Wi enc dec star)
theorem W_low {ups:List Int} {lab:List Nat} (ok:TreeOk ups lab) (lw:∀ c∈lab,Lw c):∀ (n i:Nat),i < n→i < ups.length→∀ c∈W ups lab i,Lw c
  | 0,i,h,_=>absurd h (Nat.not_lt_zero _)
  | n+1,i,h,hi=>by
    rw [W_eq ok hi]
    have hc:Lw (lab.getD i 0):=by
      rw [List.getD_eq_getElem?_getD,List.getElem?_eq_getElem (by have:=ok.len;omega)]
      exact lw _ (List.getElem_mem _)
    split
    · exact fun c hc'=>by rw [List.mem_singleton.mp hc'];exact hc
    · rename_i hn
      have lt:=ok.lt hi hn
      intro c hc'
      rcases List.mem_cons.mp hc' with rfl | hc'
      · exact hc
      · exact W_low ok lw n _ (by omega) (by omega) c hc'
theorem words_get {ups:List Int} {lab:Str} {v:V} (h:v∈wordsV ups lab ups.length):∃ j,j < ups.length∧v=.str (mk (W ups lab.cps.toList j)):=by
  obtain ⟨j,hj,rfl⟩:=List.mem_map.mp h
  exact ⟨j,List.mem_range.mp hj,rfl⟩
theorem ab_ok:TreeOk [-1,0] (Str.ofString "ab").cps.toList:=⟨by decide +kernel,by decide,by decide,rfl,fun k h0 h1=>by
  have:k=1:=by have:k < 2:=h1;omega
  rw [this];decide⟩
theorem ten59:(420:Int)≤(10:Int) ^ (59:Int).toNat:=by decide +kernel
def ThN (H:Hp) (p:Addr) (x:V):Prop:=Thg H x∧x≠.ref p
theorem ThN.same {H H':Hp} {p:Addr} {x:V} (h:ThN H p x) (s:Same H H'):ThN H' p x:=⟨h.1.same s,h.2⟩
theorem ThN.kd {H H':Hp} {p:Addr} {c:Int} {x:V} (h:ThN H p x) (k:Kd p c H H'):ThN H' p x:=by
  refine ⟨?_,h.2⟩
  have n:=h.2
  cases h.1 with
  | non=>exact .non
  | bl b=>exact .bl b
  | int i=>exact .int i
  | str z=>exact .str z
  | lst e=>exact .lst (k.keep _ _ (fun z=>n (by rw [z])) e)
  | tup e=>exact .tup (k.keep _ _ (fun z=>n (by rw [z])) e)
  | dct e=>exact .dct (k.keep _ _ (fun z=>n (by rw [z])) e)
theorem bel_int {n i:Int} (h:i < 0∨n≤i):below (.int i) n=false:=by
  show (decide (0≤i) && decide (i < n))=false
  rcases h with h | h
  · rw [decide_eq_false (show ¬ 0≤i by omega)];rfl
  · rw [decide_eq_false (show ¬ i < n by omega),Bool.and_false]
theorem fwd_low {its:List W63.It} {ups:List Int} {lab:Str} (ok:TreeOk ups lab.cps.toList) (lw:∀ c∈lab.cps.toList,Lw c) {x:Str} (h:x∈fwd its ups lab ups.length):x.cps.toList≠[]∧∀ c∈x.cps.toList,Lw c:=by
  obtain ⟨p,L,hp,h0,hL,_,rfl⟩:=mem_fwd.mp h
  rw [mk_cps]
  refine ⟨fun e=>?_,fun c hc=>W_low ok lw (p+1) p (Nat.lt_succ_self _) hp c (List.mem_of_mem_take hc)⟩
  have:=congrArg List.length e
  rw [List.length_take,List.length_nil] at this
  omega
theorem ones_sum:∀ zs:List Str,(∀ z∈zs,z.length≤1)→(zs.map (·.length)).sum≤zs.length
  | [],_=>Nat.le_refl _
  | z :: zs,h=>by
    have:=ones_sum zs fun y hy=>h y (List.mem_cons_of_mem _ hy)
    have:=h z List.mem_cons_self
    rw [List.map_cons,List.sum_cons,List.length_cons]
    omega
theorem cut_first (z:Str):(cutS z none (some 1)).length≤1:=by
  have e:(cutS z none (some 1)).cps.toList.length=(cutS z none (some 1)).length:=Array.length_toList
  have e2:(cutS z none (some 1)).cps.toList=(z.cps.toList.drop 0).take (HT.sIx z.length z.length (some ((1:Nat):Int)) - 0):=rfl
  rw [← e,e2,List.length_take,HT.sIx_nat]
  omega
theorem join_ones {zs:List Str} (h:∀ z∈zs,z.length≤1) (l:zs.length≤40):(zs.map (·.length)).sum+zs.length * (Str.ofString "").length≤16777216:=by
  have e0:(Str.ofString "").length=0:=rfl
  have:=ones_sum zs h
  rw [e0,Nat.mul_zero];omega
theorem join_ones_len {zs:List Str} (h:∀ z∈zs,z.length≤1) (l:zs.length≤40):(Txt.join (Str.ofString "") zs).length≤40:=by
  have e:(Txt.join (Str.ofString "") zs).cps.toList.length=(Txt.join (Str.ofString "") zs).length:=Array.length_toList
  rw [← e,join_cps,List.length_flatten,List.map_map]
  have:=ones_sum zs h
  have e2:(zs.map (List.length ∘ fun z:Str=>z.cps.toList))=zs.map (·.length):=List.map_congr_left fun z _=>Array.length_toList
  rw [e2];omega
section
variable {P:Program} {w:World} {K:PySem.W.Frag} {mg:Str→Option Value} {base:Heap} {k:Nat}
def sp_law:PySem.W.Frag→Sp:=fun K vs H Q _=>∃ (a:Addr) (ns:List Int),vs=[.ref a]∧SqL K H a (ns.map V.int)∧ns.length≤63∧∀ H',Q (.bl true) H'
theorem ok_law {f:Addr} {fd:FuncData} (EX:Exs K mg) (F:Fun K "law" "law" s_law f fd) (B:Blt7 mg) (G_law_deck:Has P w K mg base "_law_deck" k ["cell", "at"] sp_deck) (G_law_draw:Has P w K mg base "_law_draw" k ["deck_here", "many"] sp_draw) (G_law_some:Has P w K mg base "_law_some" k ["deck_here", "things"] sp_some) (G_law_tree:Has P w K mg base "_law_tree" k ["deck_here", "most"] sp_tree)
    (G_law_words:Has P w K mg base "_law_words" k ["tree_here"] sp_words) (G_law_items:Has P w K mg base "_law_items" k ["deck_here", "word", "most"] sp_litems) (G_law_written:Has P w K mg base "_law_written" k ["items_here"] sp_lwrit) (G_law_fitting_words:Has P w K mg base "_law_fitting_words" k ["words_here", "items_here"] sp_fit) (G_law_whole:Has P w K mg base "_law_whole" k ["found", "due"] sp_whole)
    (G_many_by:Has P w K mg base "many_by" k ["tree", "pattern"] sp_many) (G_word_by:HasX P w K mg base "word_by" k ["tree", "pattern", "number"] (sp_wby EX.c_NoNumber)) (G_number_by:HasX P w K mg base "number_by" k ["tree", "pattern", "word"] (sp_nby EX.c_NoWord)) (G_law_refused:Has P w K mg base "_law_refused" k ["way", "tree_here", "pattern", "thing"] sp_ref) :
    FnOk P w K mg base CX0 (k+1) f fd ["script"] (sp_law K):=by
  refine F.ok sc_law (fun vs H Q E h=>by obtain ⟨a,ns,rfl,_⟩:=h;rfl) (fun cdv A outer s H vs Q E hr h=>?_)
  obtain ⟨a,ns,rfl,hS,h63,q⟩:=h
  refine exw ?_
  refine ⟨_,(w_cons (Pw.mk (ps_for PassesOwn.never rfl (pi_enum rfl B.enumerate (pa_cons (pe_op op_cat (pe_slice sl_list (pv 0) po_none (po_some pe_int)) (pe_lst (pa_cons (pe_callB call_len_seq rfl B.len bt_len (pa_cons (pv 0) pa_nil)) pa_nil))) pa_nil)) (pg_tup rfl (pgs_cons (pg_name (i:=1) sc_law.nd rfl (by first | exact Or.inl rfl | exact Or.inr rfl)) (pgs_cons (pg_name (i:=2) sc_law.nd rfl (by first | exact Or.inl rfl | exact Or.inr rfl)) pgs_nil))) (PSw.h (w_cons (Pw.mk (ps_set (i:=3) sc_law.nd rfl (by first | exact Or.inl rfl | exact Or.inr rfl) (pe_callH G_law_deck hr rfl (pa_cons (pv 2) (pa_cons (pv 1) pa_nil)))))
  (w_cons (Pw.mk (ps_asg (pe_ix ix_list (pe_lst (pa_cons (pe_tup (pa_cons pe_int (pa_cons pe_int pa_nil))) (pa_cons (pe_callH G_law_some hr rfl (pa_cons (pv 3) (pa_cons (pe_lst (pa_cons (pe_tup (pa_cons pe_int (pa_cons pe_int pa_nil))) (pa_cons (pe_tup (pa_cons pe_int (pa_cons pe_int pa_nil))) pa_nil))) pa_nil))) pa_nil))) (pe_callTy call_int1 rfl B.int_ bt_int (pa_cons (pe_cmpR op_eq (pv 1) pe_int (nomark _)) pa_nil)) (fun _ _=>rfl)) (pg_tup rfl (pgs_cons (pg_name (i:=4) sc_law.nd rfl (by first | exact Or.inl rfl | exact Or.inr rfl)) (pgs_cons (pg_name (i:=5) sc_law.nd rfl (by first | exact Or.inl rfl | exact Or.inr rfl)) pgs_nil)))))
  (w_cons (Pw.mk (ps_set (i:=6) sc_law.nd rfl (by first | exact Or.inl rfl | exact Or.inr rfl) (pe_callH G_law_tree hr rfl (pa_cons (pv 3) (pa_cons (pv 4) pa_nil)))))
  (w_cons (Pw.mk (ps_set (i:=7) sc_law.nd rfl (by first | exact Or.inl rfl | exact Or.inr rfl) (pe_callH G_law_words hr rfl (pa_cons (pv 6) pa_nil))))
  (w_cons (Pw.mk (ps_set (i:=8) sc_law.nd rfl (by first | exact Or.inl rfl | exact Or.inr rfl) (pe_callH G_law_items hr rfl (pa_cons (pv 3) (pa_cons (pe_callH G_law_some hr rfl (pa_cons (pv 3) (pa_cons (pv 7) pa_nil))) (pa_cons (pv 5) pa_nil))))))
  (w_cons (Pw.mk (ps_set (i:=9) sc_law.nd rfl (by first | exact Or.inl rfl | exact Or.inr rfl) (pe_callH G_law_written hr rfl (pa_cons (pv 8) pa_nil))))
  (w_cons (Pw.mk (ps_asg (pe_callH G_law_fitting_words hr rfl (pa_cons (pv 7) (pa_cons (pv 8) pa_nil))) (pg_tup rfl (pgs_cons (pg_name (i:=10) sc_law.nd rfl (by first | exact Or.inl rfl | exact Or.inr rfl)) (pgs_cons (pg_name (i:=11) sc_law.nd rfl (by first | exact Or.inl rfl | exact Or.inr rfl)) pgs_nil)))))
  (w_cons (Pw.mk (ps_if (pt_not (pt_val (pe_callH G_law_whole hr rfl (pa_cons (pe_callH G_many_by hr rfl (pa_cons (pv 6) (pa_cons (pv 9) pa_nil))) (pa_cons (pe_callB call_len_seq rfl B.len bt_len (pa_cons (pv 11) pa_nil)) pa_nil)))))
  (pss_one (ps_ret pe_bl))
  pss_nil))
  (w_cons (Pw.mk (ps_for PassesOwn.never rfl (pi_step rfl B.range (pa_cons pe_int (pa_cons (pe_callB call_len_seq rfl B.len bt_len (pa_cons (pv 11) pa_nil)) (pa_cons (pe_op op_add pe_int (pe_op op_fdiv (pe_callB call_len_seq rfl B.len bt_len (pa_cons (pv 11) pa_nil)) pe_int)) pa_nil)))) (pg_name (i:=12) sc_law.nd rfl (by first | exact Or.inl rfl | exact Or.inr rfl))
  (pss_cons (ps_set (i:=13) sc_law.nd rfl (by first | exact Or.inl rfl | exact Or.inr rfl) (pe_callE G_word_by passes_no hr rfl (pa_cons (pv 6) (pa_cons (pv 9) (pa_cons (pv 12) pa_nil)))))
  (pss_one (ps_if (PW.pt (pw_or (pt_not (pt_val (pe_callB call_isinst rfl B.isinstance bt_isinstance (pa_cons (pv 13) (pa_cons (pe_bltn (v:=.ty "str") rfl B.str_ bt_str rfl) pa_nil))))) (pw_or (pt_cmpR op_ne (pv 13) (pe_ix ix_list (pv 11) (pv 12) (fun _ _=>rfl)) (nomark _)) (pw_or1 (pt_not (pt_val (pe_callH G_law_whole hr rfl (pa_cons (pe_callE G_number_by passes_no hr rfl (pa_cons (pv 6) (pa_cons (pv 9) (pa_cons (pv 13) pa_nil)))) (pa_cons (pv 12) pa_nil)))))))))
  (pss_one (ps_ret pe_bl))
  pss_nil)))))
  (w_cons (w_set (i:=14) sc_law.nd rfl (by first | exact Or.inl rfl | exact Or.inr rfl) (w_lst (w_acons (PEw.mk (pe_un un_neg pe_int)) (w_acons (PEw.mk (pe_op op_sub (pe_op op_sub pe_int (pe_callB call_len_seq rfl B.len bt_len (pa_cons (pv 11) pa_nil))) pe_int)) (w_acons (PEw.mk (pe_op op_add (pe_callB call_len_seq rfl B.len bt_len (pa_cons (pv 11) pa_nil)) (pe_callH G_law_draw hr rfl (pa_cons (pv 3) (pa_cons (pe_op op_pow pe_int pe_int) pa_nil))))) (w_acons (PEw.mk (pe_op op_pow pe_int pe_int)) (w_acons (PEw.mk pe_bl) (w_acons (PEw.mk pe_non) (w_acons w_str (w_acons (PEw.mk (pe_lst (pa_cons pe_int pa_nil))) (w_acons (PEw.mk (pe_tup pa_nil)) (w_acons (PEw.mk pe_dnewK) w_anil))))))))))))
  (w_cons (Pw.mk (ps_for PassesOwn.never rfl (pi_list (pe_lst (pa_cons (pe_callB call_len_seq rfl B.len bt_len (pa_cons (pv 11) pa_nil)) (pa_cons (pe_callH G_law_some hr rfl (pa_cons (pv 3) (pa_cons (pv 14) pa_nil))) pa_nil)))) (pg_name (i:=12) sc_law.nd rfl (by first | exact Or.inl rfl | exact Or.inr rfl)) (PSw.h (w_one (Pw.mk (ps_if (pt_not (pt_val (PEw.h (PEw.mk (pe_callH G_law_refused hr rfl (PAw.h (w_acons w_str (w_acons (PEw.mk (pv 6)) (w_acons (PEw.mk (pv 9)) (w_acons (PEw.mk (pv 12)) w_anil)))))))))) (pss_one (ps_ret pe_bl)) pss_nil))))))
  (w_cons (w_set (i:=15) sc_law.nd rfl (by first | exact Or.inl rfl | exact Or.inr rfl) (PEw.mk (pe_bm PySem.F.plainAttrs_str PySem.F.slot_str_join PySem.F.type_str_join mt_join pe_str (pa_cons (pe_comp rfl (pi_list (pv 8)) (NL:=["text", "letters", "starred"]) (ix:=[]) (csc (defScope s_law) N_law) (fun cl C s₃ H₃ fp pins=>⟨(pg_tupK K (n:=3) rfl (pgs_cons (pg_name (i:=0) (show List.Nodup (["text", "letters", "starred"]:List Str) from by decide +kernel) rfl (by first | exact Or.inl rfl | exact Or.inr rfl)) (pgs_cons (pg_name (i:=1) (show List.Nodup (["text", "letters", "starred"]:List Str) from by decide +kernel) rfl (by first | exact Or.inl rfl | exact Or.inr rfl)) (pgs_cons (pg_name (i:=2) (show List.Nodup (["text", "letters", "starred"]:List Str) from by decide +kernel) rfl (by first | exact Or.inl rfl | exact Or.inr rfl)) pgs_nil)))),(pifs_one (pt_not (pt_val (pv 2)))),(pe_slice sl_str (pv 1) po_none (po_some pe_int))⟩)) pa_nil))))
  (w_cons (Pw.mk (ps_comp (i:=14) sc_law.nd rfl (by first | exact Or.inl rfl | exact Or.inr rfl) rfl (pi_list (PEw.h (w_op op_cat (PEw.mk (pv 10)) (w_lst (w_acons (PEw.mk (pv 15)) (w_acons (w_op op_add_str (PEw.mk (pv 15)) w_str) (w_acons w_str (w_acons w_str (w_acons w_str w_anil))))))))) (NL:=["word"]) (ix:=[11]) (csc (defScope s_law) N_law) (fun cl C s₃ H₃ fp pins=>⟨(pg_name (i:=0) (show List.Nodup (["word", "due"]:List Str) from by decide +kernel) rfl (by first | exact Or.inl rfl | exact Or.inr rfl)),(pifs_one (pt_cmpR (op_notIn_seqK K) (pv 0) (pv 1) (by with_unfolding_all rfl))),(pv 0)⟩)))
  (w_one (Pw.mk (ps_for PassesOwn.never rfl (pi_list (PEw.h (w_lst (w_acons w_str (w_acons (PEw.mk (pe_callH G_law_some hr rfl (pa_cons (pv 3) (pa_cons (pv 14) pa_nil)))) (w_acons (PEw.mk (pe_callH G_law_some hr rfl (PAw.h (w_acons (PEw.mk (pv 3)) (w_acons (w_lst (w_acons (PEw.mk pe_int) (w_acons (PEw.mk pe_non) (w_acons (PEw.mk (pe_lst pa_nil)) (w_acons (PEw.mk (pe_tup pa_nil)) (w_acons (PEw.mk pe_dnewK) (w_acons (PEw.mk pe_bl) (w_acons (w_lst (w_acons w_str w_anil)) (w_acons (w_tup (w_acons w_str w_anil)) w_anil))))))))) w_anil))))) w_anil)))))) (pg_name (i:=16) sc_law.nd rfl (by first | exact Or.inl rfl | exact Or.inr rfl)) (PSw.h (w_one (Pw.mk (ps_if (pt_not (pt_val (PEw.h (PEw.mk (pe_callH G_law_refused hr rfl (PAw.h (w_acons w_str (w_acons (PEw.mk (pv 6)) (w_acons (PEw.mk (pv 9)) (w_acons (PEw.mk (pv 16)) w_anil)))))))))) (pss_one (ps_ret pe_bl)) pss_nil)))))))))))))))))))))))
  (w_one (w_ret (PEw.mk (pe_and (PEw.h (PEw.mk (pe_cmpR op_eq (PEw.h (PEw.mk (pe_callE G_word_by passes_no hr rfl (PAw.h (w_acons (w_tup (w_acons (PEw.mk (pe_tup (pa_cons (pe_un un_neg pe_int) (pa_cons pe_int pa_nil)))) (w_acons w_str w_anil))) (w_acons w_str (w_acons (PEw.mk pe_int) w_anil))))))) (PEw.h w_str) (nomark _)))) (pe_one (PEw.h (PEw.mk (pe_cmpR op_eq (PEw.h (PEw.mk (pe_callE G_number_by passes_no hr rfl (PAw.h (w_acons (w_tup (w_acons (PEw.mk (pe_tup (pa_cons (pe_un un_neg pe_int) (pa_cons pe_int pa_nil)))) (w_acons w_str w_anil))) (w_acons w_str (w_acons w_str w_anil))))))) (PEw.h (PEw.mk pe_int)) (nomark _)))))))))),?_⟩
  refine mid (fun σ H'=>True) ?_ fun E2 nx=>?_
  rotate_left
  · refine ⟨_,rfl,_,rfl,a,_,rfl,hS,fun r1 hr1=>?_⟩
    have sx1:Same H (upd H r1 (.lst (cutV (ns.map V.int) none (some 63)))):=(Same.refl H).new hr1
    refine ⟨_,rfl,a,_,rfl,.inl (sx1.seq hS),(by show 1≤sizeLine;decide),fun r2 hr2=>?_⟩
    have cl:(cutV (ns.map V.int) none (some 63)).length≤63:=Nat.le_trans (cutV_length _ _ _) (by rw [List.length_map];exact h63)
    refine ⟨r1,r2,_,_,rfl,rfl,by rw [upd_ne (ne_of_none upd_same hr2)];exact upd_same,upd_same,?_,fun r3 hr3=>?_⟩
    · show (cutV (ns.map V.int) none (some 63)).length+1≤sizeLine
      exact Nat.le_of_lt (small1000 (by omega))
    have hxi:∀ x∈cutV (ns.map V.int) none (some 63)++[V.int (((ns.map V.int).length:Nat):Int)],∃ n:Int,x=.int n:=fun x hx=>by
      rcases List.mem_append.mp hx with hx | hx
      · obtain ⟨n,_,rfl⟩:=List.mem_map.mp (List.mem_of_mem_drop (List.mem_of_mem_take hx));exact ⟨n,rfl⟩
      · exact ⟨_,by simpa using hx⟩
    have hxl:(cutV (ns.map V.int) none (some 63)++[V.int (((ns.map V.int).length:Nat):Int)]).length≤64:=by rw [List.length_append,List.length_singleton];omega
    generalize cutV (ns.map V.int) none (some 63)++[V.int (((ns.map V.int).length:Nat):Int)]=xs at hxi hxl
    generalize hHx:upd (upd (upd H r1 (.lst (cutV (ns.map V.int) none (some 63)))) r2 (.lst [V.int (((ns.map V.int).length:Nat):Int)])) r3 (.lst xs)=Hx
    have hx3:Hx r3=some (.lst xs):=by rw [← hHx];exact upd_same
    refine ⟨.lst r3,rfl,⟨_,.inl hx3⟩,?_⟩
    refine for_enum (xs:=xs) (fun i σ H'=>∃ o1 o2 o3 o4 o5 o6 o7 o8 o9 o10 o11 o12 o13 o14 o15 o16:Option V,σ=[some (.ref a),o1,o2,o3,o4,o5,o6,o7,o8,o9,o10,o11,o12,o13,o14,o15,o16]∧Same Hx H') ⟨none,none,none,none,none,none,none,none,none,none,none,none,none,none,none,none,rfl,Same.refl _⟩
      (fun i σ H' hi h=>by obtain ⟨_,_,_,_,_,_,_,_,_,_,_,_,_,_,_,_,_,s1⟩:=h;exact .inl (s1 _ _ hx3)) ?_ (fun σ H' _=>nx _ _ trivial)
    rintro i x σ H' p hx ⟨o1,o2,o3,o4,o5,o6,o7,o8,o9,o10,o11,o12,o13,o14,o15,o16,rfl,s1⟩ hp
    have hi:i < xs.length:=(List.getElem?_eq_some_iff.mp hx).1
    obtain ⟨cell,rfl⟩:=hxi x (List.mem_of_getElem? hx)
    refine ⟨p,_,rfl,SqT.of upd_same,rfl,_,_,rfl,_,_,rfl,rfl,?_⟩
    have s2:Same Hx (upd H' p (.tup [.int i,.int cell])):=s1.new hp
    generalize upd H' p (.tup [.int i,.int cell])=H2 at s2
    refine ⟨_,rfl,_,rfl,cell,(i:Int),rfl,fun p1 x1 y1 hp1=>?_⟩
    have dk:Deck (upd H2 p1 (.lst [.int x1,.int y1,.int (40 * (i:Int))])) p1 2520:=⟨_,_,_,upd_same,by omega,by omega⟩
    have s3:Same Hx (upd H2 p1 (.lst [.int x1,.int y1,.int (40 * (i:Int))])):=s2.new hp1
    have hxp:∀ b o,Hx b=some o→b≠p1:=fun b o e=>ne_of_none (s2 b o e) hp1
    generalize upd H2 p1 (.lst [.int x1,.int y1,.int (40 * (i:Int))])=H3 at dk s3
    refine ⟨line_le (show 2≤1000 by omega),fun t1 ht1=>?_⟩
    have k1:Kd p1 2520 H3 (upd H3 t1 (.tup [.int 5,.int 4])):=(Kd.refl dk).new ht1
    have v1:upd H3 t1 (.tup [.int 5,.int 4]) t1=some (.tup [.int 5,.int 4]):=upd_same
    have t1p:t1≠p1:=dk.ne ht1
    show (fun HH=>_) (upd H3 t1 (.tup [.int 5,.int 4]))
    generalize upd H3 t1 (.tup [.int 5,.int 4])=J1 at k1 v1
    refine ⟨_,rfl,line_le (show 2≤1000 by omega),fun t2 ht2=>?_⟩
    have k2:Kd p1 2520 J1 (upd J1 t2 (.tup [.int 20,.int 8])):=(Kd.refl k1.deck).new ht2
    have v2:upd J1 t2 (.tup [.int 20,.int 8]) t2=some (.tup [.int 20,.int 8]):=upd_same
    have t2p:t2≠p1:=k1.deck.ne ht2
    have s12:Same J1 (upd J1 t2 (.tup [.int 20,.int 8])):=(Same.refl J1).new ht2
    replace v1:=s12 _ _ v1
    show (fun HH=>_) (upd J1 t2 (.tup [.int 20,.int 8]))
    generalize upd J1 t2 (.tup [.int 20,.int 8])=J2 at k2 v2 v1 s12
    refine ⟨line_le (show 2≤1000 by omega),fun t3 ht3=>?_⟩
    have k3:Kd p1 2520 J2 (upd J2 t3 (.tup [.int 8,.int 40])):=(Kd.refl k2.deck).new ht3
    have v3:upd J2 t3 (.tup [.int 8,.int 40]) t3=some (.tup [.int 8,.int 40]):=upd_same
    have t3p:t3≠p1:=k2.deck.ne ht3
    have s23:Same J2 (upd J2 t3 (.tup [.int 8,.int 40])):=(Same.refl J2).new ht3
    replace v1:=s23 _ _ v1
    replace v2:=s23 _ _ v2
    show (fun HH=>_) (upd J2 t3 (.tup [.int 8,.int 40]))
    generalize upd J2 t3 (.tup [.int 8,.int 40])=J3 at k3 v3 v1 v2 s23
    refine ⟨line_le (show 2≤1000 by omega),fun r5 hr5=>?_⟩
    have k4:Kd p1 2520 J3 (upd J3 r5 (.lst [.ref t2,.ref t3])):=(Kd.refl k3.deck).new hr5
    have s34:Same J3 (upd J3 r5 (.lst [.ref t2,.ref t3])):=(Same.refl J3).new hr5
    refine ⟨p1,_,k4.deck,by decide,.inl ⟨r5,_,rfl,upd_same,k3.deck.ne hr5,(by show 0 < 2;decide),(by show 2≤1000;decide),fun v J5 hv k5=>?_⟩⟩
    replace v1:=k5.keep _ _ t1p (s34 _ _ v1)
    replace v2:=k5.keep _ _ t2p (s34 _ _ v2)
    replace v3:=k5.keep _ _ t3p (s34 _ _ v3)
    have kk:Kd p1 2521 H3 J5:=((((k1.trans k2).trans k3).trans k4).trans k5).mono (by omega)
    clear k1 k2 k3 k4 k5 s12 s23 s34
    refine ⟨line_le (show 2≤1000 by omega),fun r6 hr6=>?_⟩
    have s6:Same J5 (upd J5 r6 (.lst [.ref t1,v])):=(Same.refl J5).new hr6
    refine ⟨_,rfl,rfl,.inr ⟨_,rfl,?_⟩⟩
    have pick:∃ (tt:Addr) (m1:Int) (m2:Nat),atI [V.ref t1,v] (if decide (V.int (i:Int)=V.int 0)=true then 1 else 0)=some (.ref tt)∧upd J5 r6 (.lst [.ref t1,v]) tt=some (.tup [.int m1,.int (m2:Int)])∧1≤m1∧m1≤20∧m2≤40:=by
      cases decide (V.int (i:Int)=V.int 0)
      · exact ⟨t1,5,4,rfl,s6 _ _ v1,by decide,by decide,by decide⟩
      · simp only [List.mem_cons,List.not_mem_nil,or_false] at hv
        rcases hv with rfl | rfl
        · exact ⟨t2,20,8,rfl,s6 _ _ v2,by decide,by decide,by decide⟩
        · exact ⟨t3,8,40,rfl,s6 _ _ v3,by decide,by decide,by decide⟩
    obtain ⟨tt,m1,m2,pe,pt,m1a,m1b,m2b⟩:=pick
    refine ⟨r6,_,_,_,rfl,rfl,SqL.of upd_same,pe,?_⟩
    refine ⟨tt,_,rfl,SqT.of pt,rfl,_,_,rfl,_,_,rfl,rfl,?_⟩
    replace kk:=kk.same s6
    show (fun HH=>_) (upd J5 r6 (.lst [.ref t1,v]))
    generalize upd J5 r6 (.lst [.ref t1,v])=J6 at kk
    clear pt pe s6 v1 v2 v3
    refine ⟨_,rfl,_,rfl,p1,m1,2521,rfl,kk.deck,by decide,by decide,m1a,by omega,fun t ups lab H5 kd5 tr5 low5 ulm=>?_⟩
    have k5:=(kk.trans kd5).mono (show (2521:Int)+250≤2771 by decide)
    obtain ⟨_,_,_,ok⟩:=id tr5
    have u20:ups.length≤20:=by omega
    have lpos:=ok.pos
    refine ⟨_,rfl,t,ups,lab,rfl,tr5,fun r7 H6 s6 hr7=>?_⟩
    have k6:=k5.same s6
    have tr6:=tr5.same s6
    have wll:(wordsV ups lab ups.length).length=ups.length:=by simp [wordsV]
    have hr7p:r7≠p1:=ne_deck k6.deck hr7 (lst_strs_ne (fun v hv=>by obtain ⟨j,_,e⟩:=words_get hv;exact ⟨_,e⟩) (by omega))
    clear kk kd5 k5 tr5 s6
    refine ⟨_,rfl,_,rfl,_,rfl,p1,_,k6.deck,by decide,.inl ⟨r7,_,rfl,hr7,hr7p,by omega,by omega,fun v H8 hv kd8=>?_⟩⟩
    obtain ⟨wj,wjl,rfl⟩:=words_get hv
    have wle:=W_len ok (wj+1) wj (Nat.lt_succ_self _) wjl
    have wlo:=W_low ok low5 (wj+1) wj (Nat.lt_succ_self _) wjl
    refine ⟨_,rfl,p1,mk (W ups lab.cps.toList wj),m2,_,rfl,kd8.deck,by decide,by decide,by rw [mk_len];omega,wlo,m2b,fun li xs H9 kd9 fli lip lit iok e40 x40=>?_⟩
    have k9:=(kd8.trans kd9).mono (show (2771:Int)+1+400≤3172 by decide)
    have kG:=k6.trans k9
    have tr9:=tr6.kd k6.deck k9
    have hr9:=k9.keep _ _ hr7p hr7
    clear k6 kd8 kd9 tr6 hr7 k9
    refine ⟨_,rfl,li,xs,rfl,lit,x40,e40,fun H10 s10=>?_⟩
    refine ⟨_,rfl,_,rfl,r7,li,ups,lab,xs,rfl,s10 _ _ hr9,lit.same s10,x40,ok,u20,fun tt e d es us H11 s11 He Hd htt he hd uq u420 e421=>?_⟩
    refine ⟨tt,_,rfl,SqT.of htt,rfl,_,_,rfl,_,_,rfl,rfl,?_⟩
    have kH:=(kG.same s10).same s11
    have tr11:=(tr9.same s10).same s11
    have li11:=(lit.same s10).same s11
    have ep:e≠p1:=(kG.same s10).deck.ne He
    have dp:d≠p1:=(kG.same s10).deck.ne Hd
    clear kG tr9 hr9 lit s10 s11 He Hd htt
    have uone:∀ {us':List Str},Uq us' (fwd (dec xs) ups lab ups.length)→us'=us:=fun h=>h.one uq
    have ulen:(us.map V.str).length=us.length:=List.length_map _
    refine ⟨_,rfl,_,rfl,t,ups,lab,xs,rfl,tr11,iok,e40,x40,u20,fun us' H12 s12 uq'=>?_⟩
    cases uone uq'
    refine ⟨_,rfl,d,_,rfl,.inl (SqL.of (s12 _ _ hd)),(us.length:Int),by rw [ulen];rfl,_,rfl,iteF ?_⟩
    have k12:=kH.same s12
    have tr12:=tr11.same s12
    have li12:=li11.same s12
    have he12:=s12 _ _ he
    have hd12:=s12 _ _ hd
    clear kH tr11 li11 he hd s12 uq'
    refine ⟨_,rfl,d,_,rfl,.inl (SqL.of hd12),_,rfl,d,_,rfl,.inl (SqL.of hd12),_,_,rfl,rfl,⟨by decide,by decide⟩,_,_,rfl,rfl,0,((us.map V.str).length:Int),1+((us.map V.str).length:Int) / 3,rfl,⟨by decide,by decide,by omega,by omega,by omega,by omega⟩,?_⟩
    have cp:(0:Int) < 1+((us.map V.str).length:Int) / 3:=by omega
    refine for_step (fun j σ HX=>∃ o12 o13 o14 o15 o16:Option V,σ=[some (.ref a),some (.int i),some (.int cell),some (.ref p1),some (.int m1),some (.int (m2:Int)),some (.ref t),some (.ref r7),some (.ref li),some (.str (mk (enc xs))),some (.ref e),some (.ref d),o12,o13,o14,o15,o16]∧Same H12 HX) ⟨_,_,_,_,_,rfl,Same.refl _⟩ ?_ ?_
    · rintro j σ HX hj ⟨o12',o13',o14',o15',o16',rfl,sX⟩
      have h1:=step_lt cp hj
      have h2:0≤(j:Int) * (1+((us.map V.str).length:Int) / 3):=Int.mul_nonneg (by omega) (by omega)
      have h0:0≤(0:Int)+(j:Int) * (1+((us.map V.str).length:Int) / 3):=by omega
      generalize (0:Int)+(j:Int) * (1+((us.map V.str).length:Int) / 3)=kk at h1 h0
      refine ⟨_,rfl,_,rfl,_,rfl,t,ups,lab,xs,.int kk,rfl,tr12.same sX,iok,e40,x40,u20,.int kk,fun us' uq'=>?_⟩
      cases uone uq'
      refine ⟨fun i2 z ei i0 hz H13 s13=>?_,fun eb=>?_⟩
      · cases ei
        have zi:=(List.getElem?_eq_some_iff.mp hz).1
        have ze:=(List.getElem?_eq_some_iff.mp hz).2
        have zm:z∈us:=List.mem_of_getElem? hz
        have at1:=atI_nat (xs:=us.map V.str) (j:=kk.toNat) (v:=.str z) (by rw [List.getElem?_map,hz];rfl)
        rw [show ((kk.toNat:Nat):Int)=kk by omega] at at1
        have ix:((us.idxOf z:Nat):Int)=kk:=by
          have:=uq.nd.idxOf_getElem kk.toNat zi
          rw [ze] at this
          omega
        have hd13:=s13 _ _ (sX _ _ hd12)
        refine ⟨_,rfl,_,_, "str", true,rfl,.str _,kit_same _ _,_,rfl,iteF ?_⟩
        refine ⟨_,rfl,_,rfl,_,rfl,d,_,_,_,rfl,rfl,SqL.of hd13,at1,rfl,?_⟩
        refine ⟨_,rfl,?_⟩
        simp only [decide_true,Bool.not_true]
        refine iteF ?_
        refine ⟨_,rfl,_,rfl,_,rfl,t,ups,lab,xs,.str z,rfl,(tr12.same sX).same s13,iok,e40,x40,u20,.str z,fun us2 uq2=>?_⟩
        cases uone uq2
        refine ⟨fun z2 ez hz2 H14 s14=>?_,fun no=>?_⟩
        · cases ez
          exact ⟨_,rfl,kk,by rw [ix];rfl,_,rfl,iteF ⟨_,_,_,_,_,rfl,(sX.trans s13).trans s14⟩⟩
        · exact (no z rfl zm).elim
      · exfalso
        have:below (.int kk) (us.length:Int)=true:=by
          show (decide (0≤kk) && decide (kk < _))=true
          rw [decide_eq_true h0,decide_eq_true (show kk < _ by omega)];rfl
        rw [this] at eb;cases eb
    rintro σ H15 ⟨o12',o13',o14',o15',o16',rfl,s15⟩
    have k15:=k12.same s15
    have tr15:=tr12.same s15
    have li15:=li12.same s15
    have he15:=s15 _ _ he12
    have hd15:=s15 _ _ hd12
    clear k12 tr12 li12 he12 hd12 s15
    refine ⟨_,rfl,_,rfl,d,_,rfl,.inl (SqL.of hd15),_,_,rfl,rfl,_,_,rfl,rfl,_,rfl,d,_,rfl,.inl (SqL.of hd15),_,rfl,_,_,rfl,rfl,⟨by decide,by decide,by decide⟩,p1,_,3172,rfl,k15.deck,by decide,by decide,by decide,fun n1 H16 a0 a1 kd16=>?_⟩
    refine ⟨_,_,rfl,rfl,_,_,rfl,rfl,⟨by decide,by decide,by decide⟩,(by show 1≤sizeLine;decide),fun e1 he1=>?_⟩
    clear a1
    have e1p:e1≠p1:=kd16.deck.ne he1
    generalize hJ:upd H16 e1 _=J1
    have s1:Same H16 J1:=by rw [← hJ];exact (Same.refl H16).new he1
    have g1:J1 e1=some (.lst [.int 0]):=by rw [← hJ];exact upd_same
    clear hJ
    have dk1:=(kd16.same s1).deck
    refine ⟨(by show 0≤sizeLine;decide),fun e2 he2=>?_⟩
    have e2p:e2≠p1:=dk1.ne he2
    generalize hJ:upd J1 e2 _=J2
    have s2:Same J1 J2:=by rw [← hJ];exact (Same.refl J1).new he2
    have g2:J2 e2=some (.tup []):=by rw [← hJ];exact upd_same
    clear hJ
    have dk2:=(kd16.same (s1.trans s2)).deck
    refine fun e3 he3=>?_
    have e3p:e3≠p1:=dk2.ne he3
    generalize hJ:upd J2 e3 _=J3
    have s3':Same J2 J3:=by rw [← hJ];exact (Same.refl J2).new he3
    have g3:J3 e3=some (.dK []):=by rw [← hJ];exact upd_same
    clear hJ
    have k17:=kd16.same ((s1.trans s2).trans s3')
    refine ⟨(by show 10≤sizeLine;decide),fun ro hro=>?_⟩
    generalize hJ:upd J3 ro _=J4
    have s4:Same J3 J4:=by rw [← hJ];exact (Same.refl J3).new hro
    have rop:ro≠p1:=k17.deck.ne hro
    have go:∃ xo:List V,J4 ro=some (.lst xo)∧xo.length=10∧∀ x∈xo,ThN J4 p1 x∧below x (us.length:Int)=false:=by
      rw [← hJ] at s4 ⊢
      refine ⟨_,upd_same,rfl,fun x hx=>?_⟩
      simp only [List.mem_cons,List.not_mem_nil,or_false] at hx
      rcases hx with rfl | rfl | rfl | rfl | rfl | rfl | rfl | rfl | rfl | rfl
      · exact ⟨⟨.int _,(fun z=>by cases z)⟩,bel_int (.inl (by decide))⟩
      · exact ⟨⟨.int _,(fun z=>by cases z)⟩,bel_int (.inl (by omega))⟩
      · exact ⟨⟨.int _,(fun z=>by cases z)⟩,bel_int (.inr (by omega))⟩
      · exact ⟨⟨.int _,(fun z=>by cases z)⟩,bel_int (.inr (Int.le_trans (by omega) ten59))⟩
      · exact ⟨⟨.bl _,(fun z=>by cases z)⟩,rfl⟩
      · exact ⟨⟨.non,(fun z=>by cases z)⟩,rfl⟩
      · exact ⟨⟨.str _,(fun z=>by cases z)⟩,rfl⟩
      · exact ⟨⟨.lst (s4 _ _ (s3' _ _ (s2 _ _ g1))),(fun z=>e1p (by injection z))⟩,rfl⟩
      · exact ⟨⟨.tup (s4 _ _ (s3' _ _ g2)),(fun z=>e2p (by injection z))⟩,rfl⟩
      · exact ⟨⟨.dct (s4 _ _ g3),(fun z=>e3p (by injection z))⟩,rfl⟩
    clear hJ
    obtain ⟨xo,go,xol,odd⟩:=go
    have k18:=k17.same s4
    have k18':=(k15.trans k18).mono (show (3172:Int)+1≤3173 by decide)
    have tr18:=tr15.kd k15.deck k18
    have li18:=li15.kd k18 lip k15.deck
    have he18:=k18.keep _ _ ep he15
    have hd18:=k18.keep _ _ dp hd15
    clear s1 s2 s3' s4 g1 g2 g3 dk1 dk2 k17 kd16 k15 tr15 li15 he15 hd15 k18 he1 he2 he3 hro e1p e2p e3p a0
    refine ⟨_,rfl,d,_,rfl,.inl (SqL.of hd18),_,rfl,_,rfl,p1,3173,k18'.deck,by decide,.inl ⟨ro,xo,rfl,go,rop,by omega,by omega,fun v1 H19 hv1 kd19=>?_⟩⟩
    refine ⟨(by show 2≤sizeLine;decide),fun r19 hr19=>?_⟩
    generalize hJ:upd H19 r19 _=J5
    have s5:Same H19 J5:=by rw [← hJ];exact (Same.refl H19).new hr19
    have g19:J5 r19=some (.lst [.int ((us.map V.str).length:Int),v1]):=by rw [← hJ];exact upd_same
    clear hJ
    have k19:=kd19.same s5
    have k19':=k18'.trans k19
    have tr19:=tr18.kd k18'.deck k19
    have li19:=li18.kd k19 lip k18'.deck
    have he19:=k19.keep _ _ ep he18
    have hd19:=k19.keep _ _ dp hd18
    have od:∀ x∈[V.int ((us.map V.str).length:Int),v1],ThN J5 p1 x∧below x (us.length:Int)=false:=fun x hx=>by
      simp only [List.mem_cons,List.not_mem_nil,or_false] at hx
      rcases hx with rfl | rfl
      · exact ⟨⟨.int _,(fun z=>by cases z)⟩,bel_int (.inr (by omega))⟩
      · exact ⟨(odd _ hv1).1.kd k19,(odd _ hv1).2⟩
    generalize [V.int ((us.map V.str).length:Int),v1]=vs1 at g19 od
    clear k18' tr18 li18 he18 hd18 kd19 s5 hr19 odd go hv1
    refine ⟨r19,rfl,⟨_,SqL.of g19⟩,?_⟩
    refine for_list (K:=K) (xs:=vs1) (fun j σ HX=>∃ o12 o13 o15 o16:Option V,σ=[some (.ref a),some (.int i),some (.int cell),some (.ref p1),some (.int m1),some (.int (m2:Int)),some (.ref t),some (.ref r7),some (.ref li),some (.str (mk (enc xs))),some (.ref e),some (.ref d),o12,o13,some (.ref ro),o15,o16]∧Same J5 HX) ⟨_,_,_,_,rfl,Same.refl _⟩ (fun j σ HX _ h=>by obtain ⟨_,_,_,_,_,s⟩:=h;exact SqL.of (s _ _ g19)) ?_ ?_
    · rintro j x σ HX hx ⟨o12',o13',o15',o16',rfl,sX⟩
      obtain ⟨th,tb⟩:=od x (List.mem_of_getElem? hx)
      refine ⟨_,rfl,_,rfl,_,rfl,t,ups,lab,xs,x,tr19.same sX,iok,e40,x40,u20,th.1.same sX,.inl ⟨rfl,fun us' uq'=>by cases uone uq';exact tb⟩,fun H2 s2=>?_⟩
      exact ⟨_,rfl,iteF ⟨_,_,_,_,rfl,sX.trans s2⟩⟩
    rintro σ H20 ⟨o12',o13',o15',o16',rfl,s20⟩
    have k20:=k19'.same s20
    have tr20:=tr19.same s20
    have li20:=li19.same s20
    have he20:=s20 _ _ he19
    have hd20:=s20 _ _ hd19
    clear k19' k19 tr19 li19 he19 hd19 s20 od g19
    obtain ⟨ivs,hiv,ivl,iat⟩:=id li20
    refine ⟨rfl,_,rfl,li,rfl,⟨_,SqL.of hiv⟩,fun acc hacc=>?_⟩
    refine comp_lst (K:=K) (a:=li) (xs:=ivs) (by omega) (fun j ys HX=>HX acc=some (.lst ys)∧Same H20 HX∧∃ zs:List Str,ys=zs.map V.str∧zs.length≤j∧∀ z∈zs,z.length≤1)
      (fun j ys HX h=>SqL.of (h.2.1 _ _ hiv)) (fun j ys HX h=>⟨h.1,by obtain ⟨_,_,zs,rfl,l,_⟩:=h;rw [List.length_map];exact l⟩) ⟨upd_same,(Same.refl H20).new hacc,[],rfl,Nat.le_refl _,fun z hz=>nomatch hz⟩ ?_ ?_
    rotate_left
    · rintro j v ys HX hx ⟨g1,g2,zs,rfl,zl,z1⟩
      have jl:j < xs.length:=by
        have:=(List.getElem?_eq_some_iff.mp hx).1
        omega
      obtain ⟨b,b1,b2⟩:=iat j _ (List.getElem?_eq_getElem jl)
      rw [hx] at b1
      cases b1
      refine ⟨b,_,rfl,SqT.of (g2 _ _ b2),rfl,_,_,rfl,_,_,rfl,_,_,rfl,rfl,?_⟩
      refine ⟨rfl,_,rfl,_,rfl,?_⟩
      have wo:=(iok _ (List.getElem_mem jl))
      cases xs[j].2 with
      | true=>exact iteF ⟨g1,g2,zs,rfl,by omega,z1⟩
      | false=>
        refine iteT ⟨_,rfl,_,rfl,mk xs[j].1.lets,rfl,?_,g1,upd_same,g2.write hacc,zs++[cutS (mk xs[j].1.lets) none (some 1)],by rw [List.map_append];rfl,by rw [List.length_append];show zs.length+1≤j+1;omega,fun z hz=>?_⟩
        · rw [mk_len]
          exact line_le (Nat.le_trans (W63.lets_len _ wo) (by decide))
        · rcases List.mem_append.mp hz with hz | hz
          · exact z1 z hz
          · rw [List.mem_singleton.mp hz];exact cut_first _
    rintro ys H21 ⟨ga,s21,zs,rfl,zl,z1⟩
    have zl40:zs.length≤40:=by omega
    refine ⟨_,acc,zs,rfl,rfl,SqL.of ga,join_ones z1 zl40,?_⟩
    have al40:=join_ones_len z1 zl40
    generalize Txt.join (Str.ofString "") zs=alone at al40
    have k21:=k20.same s21
    have tr21:=tr20.same s21
    have he21:=s21 _ _ he20
    have hd21:=s21 _ _ hd20
    clear k20 tr20 li20 he20 hd20 hiv iat ga s21 z1
    refine ⟨_,rfl,_,rfl,_,rfl,_,_,rfl,rfl,?_,(by show 5≤sizeLine;decide),fun r22 hr22=>?_⟩
    · exact line_le (by show alone.length+1≤1000;omega)
    generalize hJ:upd H21 r22 _=J6
    have s6:Same H21 J6:=by rw [← hJ];exact (Same.refl H21).new hr22
    have g22:J6 r22=some (.lst ([alone,alone++Str.ofString "q", Str.ofString "A", Str.ofString "a.", Str.ofString "-"].map V.str)):=by rw [← hJ];exact upd_same
    clear hJ
    have hl5:[alone,alone++Str.ofString "q", Str.ofString "A", Str.ofString "a.", Str.ofString "-"].length=5:=rfl
    have hA5:Str.ofString "A" ∈ [alone,alone++Str.ofString "q", Str.ofString "A", Str.ofString "a.", Str.ofString "-"]:=by simp
    generalize [alone,alone++Str.ofString "q", Str.ofString "A", Str.ofString "a.", Str.ofString "-"]=mo at g22 hl5 hA5
    refine ⟨e,r22,_,_,rfl,rfl,s6 _ _ he21,g22,by rw [List.length_map,List.length_map];exact line_le (by omega),fun r23 hr23=>?_⟩
    rw [← List.map_append]
    have s7:Same J6 (upd J6 r23 (.lst ((es++mo).map V.str))):=(Same.refl J6).new hr23
    have g23:upd J6 r23 (.lst ((es++mo).map V.str)) r23=some (.lst ((es++mo).map V.str)):=upd_same
    show (fun HH=>_) (upd J6 r23 (.lst ((es++mo).map V.str)))
    generalize upd J6 r23 (.lst ((es++mo).map V.str))=J7 at s7 g23
    have eml:(es++mo).length≤426:=by rw [List.length_append];omega
    have hAm:Str.ofString "A" ∈ es++mo:=List.mem_append_right _ hA5
    generalize es++mo=em at g23 eml hAm
    have k23:=(k21.same s6).same s7
    have tr23:=(tr21.same s6).same s7
    have hd23:=s7 _ _ (s6 _ _ hd21)
    clear s6 s7 g22 k21 tr21 hd21 he21 hr22 hr23 hl5 hA5
    refine ⟨r23,rfl,⟨_,SqL.of g23⟩,fun acc2 hacc2=>?_⟩
    refine comp_lst (K:=K) (a:=r23) (xs:=em.map V.str) (by rw [List.length_map];omega) (fun j ys HX=>HX acc2=some (.lst ys)∧Same J7 HX∧ys=(((em.take j).filter fun z=>!decide (z∈us)).map V.str))
      (fun j ys HX h=>SqL.of (h.2.1 _ _ g23)) (fun j ys HX h=>⟨h.1,by rw [h.2.2,List.length_map];exact Nat.le_trans (List.length_filter_le _ _) (by rw [List.length_take];omega)⟩) ⟨upd_same,(Same.refl J7).new hacc2,by simp⟩ ?_ ?_
    rotate_left
    · rintro j v ys HX hx ⟨g1,g2,rfl⟩
      obtain ⟨z,hz,rfl⟩:∃ z,em[j]?=some z∧v=.str z:=by
        rw [List.getElem?_map] at hx
        cases e:em[j]? with
        | none=>rw [e] at hx;cases hx
        | some z=>rw [e] at hx;exact ⟨z,rfl,(Option.some.inj hx).symm⟩
      have tk:=PySem.take_succ_filter (fun z=>!decide (z∈us)) em j z hz
      refine ⟨rfl,_,rfl,_,rfl,d,_,rfl,.inl (SqL.of (g2 _ _ hd23)),rfl,strs_flat us,_,rfl,?_⟩
      have ei:(if true=true then !inV (V.str z) (us.map V.str) else inV (V.str z) (us.map V.str))=!decide (z∈us):=by rw [if_pos rfl,inV_str]
      rw [ei]
      cases hz2:(!decide (z∈us)) with
      | true=>exact iteT ⟨_,rfl,g1,upd_same,g2.write hacc2,by rw [tk,hz2,List.map_append];rfl⟩
      | false=>exact iteF ⟨g1,g2,by rw [tk,hz2];simp⟩
    rintro ys H24 ⟨g24,s24,rfl⟩
    rw [List.length_map,List.take_length] at g24
    have okO:∀ z∈em.filter (fun z=>!decide (z∈us)),z ∉ us:=fun z hz=>by
      have:=(List.mem_filter.mp hz).2
      simpa using this
    have lwU:∀ z∈us,z.cps.toList≠[]∧∀ c∈z.cps.toList,Lw c:=fun z hz=>fwd_low ok low5 ((uq.mem z).mp hz)
    have nA:Str.ofString "A" ∉ us:=fun h=>by
      have:=(lwU _ h).2 65 (by decide +kernel)
      exact absurd this (by decide)
    have n0:Str.ofString "" ∉ us:=fun h=>(lwU _ h).1 rfl
    have olp:0 < (em.filter (fun z=>!decide (z∈us))).length:=List.length_pos_of_mem (List.mem_filter.mpr ⟨hAm,by simpa using nA⟩)
    have oll:(em.filter (fun z=>!decide (z∈us))).length≤426:=Nat.le_trans (List.length_filter_le _ _) eml
    generalize em.filter (fun z=>!decide (z∈us))=om at g24 okO olp oll
    have k24:=k23.same s24
    have tr24:=tr23.same s24
    have a2p:acc2≠p1:=k23.deck.ne hacc2
    clear k23 tr23 hd23 g23 hacc2 hacc s24 hAm eml
    refine ⟨_,rfl,_,rfl,p1,_,k24.deck,by decide,.inl ⟨acc2,_,rfl,g24,a2p,by rw [List.length_map];exact olp,by rw [List.length_map];omega,fun v2 H25 hv2 kd25=>?_⟩⟩
    obtain ⟨z2,hz2,rfl⟩:=List.mem_map.mp hv2
    have k25:=k24.trans kd25
    have tr25:=tr24.kd k24.deck kd25
    refine ⟨_,rfl,(by show 0≤sizeLine;decide),fun e1 he1=>?_⟩
    have e1p:e1≠p1:=k25.deck.ne he1
    generalize hJ:upd H25 e1 _=J1
    have s1:Same H25 J1:=by rw [← hJ];exact (Same.refl H25).new he1
    have g1:J1 e1=some (.lst []):=by rw [← hJ];exact upd_same
    clear hJ
    have dk1:=(k25.same s1).deck
    refine ⟨(by show 0≤sizeLine;decide),fun e2 he2=>?_⟩
    have e2p:e2≠p1:=dk1.ne he2
    generalize hJ:upd J1 e2 _=J2
    have s2:Same J1 J2:=by rw [← hJ];exact (Same.refl J1).new he2
    have g2:J2 e2=some (.tup []):=by rw [← hJ];exact upd_same
    clear hJ
    have dk2:=(k25.same (s1.trans s2)).deck
    refine fun e3 he3=>?_
    have e3p:e3≠p1:=dk2.ne he3
    generalize hJ:upd J2 e3 _=J3
    have s3':Same J2 J3:=by rw [← hJ];exact (Same.refl J2).new he3
    have g3:J3 e3=some (.dK []):=by rw [← hJ];exact upd_same
    clear hJ
    have dk3:=(k25.same ((s1.trans s2).trans s3')).deck
    refine ⟨(by show 1≤sizeLine;decide),fun e4 he4=>?_⟩
    have e4p:e4≠p1:=dk3.ne he4
    generalize hJ:upd J3 e4 _=J4
    have s4:Same J3 J4:=by rw [← hJ];exact (Same.refl J3).new he4
    have g4:J4 e4=some (.lst [.str "a"]):=by rw [← hJ];exact upd_same
    clear hJ
    have dk4:=(k25.same (((s1.trans s2).trans s3').trans s4)).deck
    refine ⟨(by show 1≤sizeLine;decide),fun e5 he5=>?_⟩
    have e5p:e5≠p1:=dk4.ne he5
    generalize hJ:upd J4 e5 _=J5
    have s5:Same J4 J5:=by rw [← hJ];exact (Same.refl J4).new he5
    have g5:J5 e5=some (.tup [.str "a"]):=by rw [← hJ];exact upd_same
    clear hJ
    have sA:=(((s1.trans s2).trans s3').trans s4).trans s5
    have k26:=k25.same sA
    refine ⟨(by show 8≤sizeLine;decide),fun r26 hr26=>?_⟩
    have r26p:r26≠p1:=k26.deck.ne hr26
    generalize hJ:upd J5 r26 _=J6
    have s6:Same J5 J6:=by rw [← hJ];exact (Same.refl J5).new hr26
    have gq:∃ xq:List V,J6 r26=some (.lst xq)∧xq.length=8∧∀ x∈xq,ThN J6 p1 x∧∀ z:Str,x≠.str z:=by
      rw [← hJ] at s6 ⊢
      refine ⟨_,upd_same,rfl,fun x hx=>?_⟩
      simp only [List.mem_cons,List.not_mem_nil,or_false] at hx
      rcases hx with rfl | rfl | rfl | rfl | rfl | rfl | rfl | rfl
      · exact ⟨⟨.int _,(fun z=>by cases z)⟩,fun z h=>by cases h⟩
      · exact ⟨⟨.non,(fun z=>by cases z)⟩,fun z h=>by cases h⟩
      · exact ⟨⟨.lst (s6 _ _ (s5 _ _ (s4 _ _ (s3' _ _ (s2 _ _ g1))))),(fun z=>e1p (by injection z))⟩,fun z h=>by cases h⟩
      · exact ⟨⟨.tup (s6 _ _ (s5 _ _ (s4 _ _ (s3' _ _ g2)))),(fun z=>e2p (by injection z))⟩,fun z h=>by cases h⟩
      · exact ⟨⟨.dct (s6 _ _ (s5 _ _ (s4 _ _ g3))),(fun z=>e3p (by injection z))⟩,fun z h=>by cases h⟩
      · exact ⟨⟨.bl _,(fun z=>by cases z)⟩,fun z h=>by cases h⟩
      · exact ⟨⟨.lst (s6 _ _ (s5 _ _ g4)),(fun z=>e4p (by injection z))⟩,fun z h=>by cases h⟩
      · exact ⟨⟨.tup (s6 _ _ g5),(fun z=>e5p (by injection z))⟩,fun z h=>by cases h⟩
    clear hJ
    obtain ⟨xq,gq,xql,oq⟩:=gq
    have k27:=k26.same s6
    have tr27:=(tr25.same sA).same s6
    clear s1 s2 s3' s4 s5 s6 g1 g2 g3 g4 g5 dk1 dk2 dk3 dk4 he1 he2 he3 he4 he5 hr26 e1p e2p e3p e4p e5p sA k26 k25 tr25 kd25 k24 tr24 g24
    refine ⟨p1,_,k27.deck,by decide,.inl ⟨r26,xq,rfl,gq,r26p,by omega,by omega,fun v3 H28 hv3 kd28=>?_⟩⟩
    have k28:=k27.trans kd28
    have tr28:=tr27.kd k27.deck kd28
    have th3:=(oq v3 hv3).1.kd kd28
    have ns3:=(oq v3 hv3).2
    refine ⟨(by show 3≤sizeLine;decide),fun r29 hr29=>?_⟩
    generalize hJ:upd H28 r29 _=J9
    have s9:Same H28 J9:=by rw [← hJ];exact (Same.refl H28).new hr29
    have g29:J9 r29=some (.lst [.str (Str.ofString ""),.str z2,v3]):=by rw [← hJ];exact upd_same
    clear hJ
    have k29:=k28.same s9
    have tr29:=tr28.same s9
    have ow:∀ x∈[V.str (Str.ofString ""),.str z2,v3],Thg J9 x∧∀ z:Str,x=.str z→z ∉ us:=fun x hx=>by
      simp only [List.mem_cons,List.not_mem_nil,or_false] at hx
      rcases hx with rfl | rfl | rfl
      · exact ⟨.str _,fun z h=>by cases h;exact n0⟩
      · exact ⟨.str _,fun z h=>by cases h;exact okO _ hz2⟩
      · exact ⟨(th3.same s9).1,fun z h=>absurd h (ns3 z)⟩
    generalize [V.str (Str.ofString ""),.str z2,v3]=vs2 at g29 ow
    have sEnd:∀ {HZ:Hp},Same J9 HZ→Same Hx HZ:=fun {HZ} sz b o eb=>sz _ _ (k29.keep b o (hxp b o eb) (s3 b o eb))
    refine ⟨r29,rfl,⟨_,SqL.of g29⟩,?_⟩
    refine for_list (K:=K) (xs:=vs2) (fun j σ HX=>∃ o1 o2 o3 o4 o5 o6 o7 o8 o10 o11 o12 o13 o14 o15 o16:Option V,σ=[some (.ref a),o1,o2,o3,o4,o5,some (.ref t),o7,o8,some (.str (mk (enc xs))),o10,o11,o12,o13,o14,o15,o16]∧Same J9 HX) ⟨_,_,_,_,_,none,_,_,_,_,_,_,_,_,_,rfl,Same.refl _⟩ (fun j σ HX _ h=>by obtain ⟨_,_,_,_,_,_,_,_,_,_,_,_,_,_,_,_,s⟩:=h;exact SqL.of (s _ _ g29)) ?_ ?_
    · rintro j x σ HX hx ⟨o1,o2,o3,o4,o5,o6,o7,o8,o10,o11,o12,o13,o14,o15,o16,rfl,sX⟩
      obtain ⟨th,tb⟩:=ow x (List.mem_of_getElem? hx)
      refine ⟨_,rfl,_,rfl,_,rfl,t,ups,lab,xs,x,tr29.same sX,iok,e40,x40,u20,th.same sX,.inr ⟨rfl,fun us' uq'=>by cases uone uq';exact tb⟩,fun H2 s2=>?_⟩
      exact ⟨_,rfl,iteF ⟨_,_,_,_,_,none,_,_,_,_,_,_,_,_,_,rfl,sX.trans s2⟩⟩
    rintro σ HZ ⟨o1,o2,o3,o4,o5,o6,o7,o8,o10,o11,o12,o13,o14,o15,o16,rfl,sZ⟩
    exact ⟨_,_,_,_,_,_,_,_,_,_,_,_,_,_,_,_,rfl,sEnd sZ⟩
  rintro σ H' -
  have u1:Uq [mk [98],mk [98,97]] (fwd (dec [(.one 98,false),(.dot,true)]) [-1,0] (Str.ofString "ab") [-1,0].length):=by
    have e:fwd (dec [(.one 98,false),(.dot,true)]) [-1,0] (Str.ofString "ab") [-1,0].length=[mk [98],mk [98,97]]:=by decide +kernel
    rw [e]
    exact ⟨by decide +kernel,fun x=>Iff.rfl,by decide +kernel⟩
  have u2:Uq [mk [97],mk [98]] (fwd (dec [(.br [97,98],false)]) [-1,0] (Str.ofString "ab") [-1,0].length):=by
    have e:fwd (dec [(.br [97,98],false)]) [-1,0] (Str.ofString "ab") [-1,0].length=[mk [97],mk [98]]:=by decide +kernel
    rw [e]
    exact ⟨by decide +kernel,fun x=>Iff.rfl,by decide +kernel⟩
  refine ⟨_,rfl,line_le (show 2≤1000 by omega),fun t1 ht1=>⟨line_le (show 2≤1000 by omega),fun t2 ht2=>?_⟩⟩
  refine ⟨t2,[-1,0],Str.ofString "ab", [(.one 98,false),(.dot,true)],.int 1,by rw [show Str.ofString "b.*" = mk (enc [(.one 98,false),(.dot,true)]) by decide +kernel];rfl,⟨t1,upd_same,by rw [upd_ne (ne_of_none upd_same ht2)];exact upd_same,ab_ok⟩,fun x hx=>?_,by decide,by decide,by decide,.int 1,fun us uq=>?_⟩
  · simp only [List.mem_cons,List.not_mem_nil,or_false] at hx
    rcases hx with rfl | rfl
    · exact (show Lw 98 by decide)
    · trivial
  cases uq.one u1
  refine ⟨fun i z ei i0 hz H1 s1=>?_,fun eb=>?_⟩
  rotate_left
  · exact absurd eb (by decide +kernel)
  cases ei
  have ez:z=Str.ofString "ba" := by
    have:some (mk [98,97])=some z:=hz
    rw [← Option.some.inj this];decide +kernel
  subst ez
  refine ⟨rfl,?_⟩
  rw [decide_eq_true rfl]
  refine ⟨_,rfl,iteT ?_⟩
  refine ⟨_,rfl,line_le (show 2≤1000 by omega),fun t3 ht3=>⟨line_le (show 2≤1000 by omega),fun t4 ht4=>?_⟩⟩
  refine ⟨t4,[-1,0],Str.ofString "ab", [(.br [97,98],false)],.str (Str.ofString "b"),by rw [show Str.ofString "[ab]" = mk (enc [(.br [97,98],false)]) by decide +kernel];rfl,⟨t3,upd_same,by rw [upd_ne (ne_of_none upd_same ht4)];exact upd_same,ab_ok⟩,fun x hx=>?_,by decide,by decide,by decide,.str _,fun us uq=>?_⟩
  · rw [List.mem_singleton.mp hx]
    exact (show Wr.Ok (.br [97,98]) from ⟨by decide,by decide,by decide⟩)
  cases uq.one u2
  refine ⟨fun z ez hz H2 s2=>?_,fun no=>?_⟩
  · cases ez
    refine ⟨rfl,?_⟩
    have e2:decide (V.int (([mk [97],mk [98]].idxOf (Str.ofString "b"):Nat):Int)=V.int 1)=true:=by decide +kernel
    rw [e2]
    exact q _
  · exact (no (Str.ofString "b") rfl (by decide +kernel)).elim
end
end S65
namespace S65
open PySem L2 W7
theorem df_mk {K:PySem.W.Frag} {h:Heap} {mg:Str→Option Value} {x:Str} {st:Stmt} {f:Addr} {oc:Value} {od an:Option Addr} {osl:Array (Option Value)} {kV doc pm cdv ct:Value} (X:K.In h) (G:h.Ns mainGlobals mg)
    (a:PySem.W.nsIn K mainGlobals x=some (some (.ref f))) (l:K.lookup f=some ⟨oc,od,.func (PySem.W.fnOf x x (defArgs st) (defBody st) (defScope st) .none kV doc pm an cdv ct),osl⟩) (c:PySem.W.codeIn K cdv x=true) (kk:PySem.W.keepIn K (.ref f)=true):Df K mg x st:=
  ⟨f,_,fun_mk l c kk,PySem.W.mg_of X G a⟩
def exs_mk {K:PySem.W.Frag} {h:Heap} {mg:Str→Option Value} (X:K.In h) (G:h.Ns mainGlobals mg) {UpError NoPlace NoNumber NoWord NoRows NoRuns NoCover NoText TooMany NoTries NoPattern NoLetter NoLeaf NoChange NoLine NoTree:Addr}
    (a_UpError:PySem.W.nsIn K mainGlobals "UpError" = some (some (.ref UpError)))
    (a_NoPlace:PySem.W.nsIn K mainGlobals "NoPlace" = some (some (.ref NoPlace)))
    (a_NoNumber:PySem.W.nsIn K mainGlobals "NoNumber" = some (some (.ref NoNumber)))
    (a_NoWord:PySem.W.nsIn K mainGlobals "NoWord" = some (some (.ref NoWord)))
    (a_NoRows:PySem.W.nsIn K mainGlobals "NoRows" = some (some (.ref NoRows)))
    (a_NoRuns:PySem.W.nsIn K mainGlobals "NoRuns" = some (some (.ref NoRuns)))
    (a_NoCover:PySem.W.nsIn K mainGlobals "NoCover" = some (some (.ref NoCover)))
    (a_NoText:PySem.W.nsIn K mainGlobals "NoText" = some (some (.ref NoText)))
    (a_TooMany:PySem.W.nsIn K mainGlobals "TooMany" = some (some (.ref TooMany)))
    (a_NoTries:PySem.W.nsIn K mainGlobals "NoTries" = some (some (.ref NoTries)))
    (a_NoPattern:PySem.W.nsIn K mainGlobals "NoPattern" = some (some (.ref NoPattern)))
    (a_NoLetter:PySem.W.nsIn K mainGlobals "NoLetter" = some (some (.ref NoLetter)))
    (a_NoLeaf:PySem.W.nsIn K mainGlobals "NoLeaf" = some (some (.ref NoLeaf)))
    (a_NoChange:PySem.W.nsIn K mainGlobals "NoChange" = some (some (.ref NoChange)))
    (a_NoLine:PySem.W.nsIn K mainGlobals "NoLine" = some (some (.ref NoLine)))
    (a_NoTree:PySem.W.nsIn K mainGlobals "NoTree" = some (some (.ref NoTree)))
    (q_NoNumber:PySem.W.excIn K NoNumber bmV "ValueError.__new__" = true)
    (ga_NoNumber:PySem.W.findIn K (.ref NoNumber) "__getattribute__" = some (some (.builtin "BaseException.__getattribute__")))
    (gn_NoNumber:PySem.W.findIn K (.ref NoNumber) "__getattr__" = some none)
    (cl_NoNumber:PySem.W.findIn K (.ref NoNumber) "__class__" = some (some (.builtin "object.__class__")))
    (ob_NoNumber:PySem.W.mroIn K NoNumber (.type "object")=some true)
    (be_NoNumber:PySem.W.mroIn K NoNumber (.type "BaseException")=some true)
    (cd_NoNumber:(PySem.W.clsIn K NoNumber).isSome=true)
    (u_NoNumber:PySem.W.exmOne K (.ref NoNumber) (.ref UpError)=some true)
    (q_NoWord:PySem.W.excIn K NoWord bmV "ValueError.__new__" = true)
    (ga_NoWord:PySem.W.findIn K (.ref NoWord) "__getattribute__" = some (some (.builtin "BaseException.__getattribute__")))
    (gn_NoWord:PySem.W.findIn K (.ref NoWord) "__getattr__" = some none)
    (cl_NoWord:PySem.W.findIn K (.ref NoWord) "__class__" = some (some (.builtin "object.__class__")))
    (ob_NoWord:PySem.W.mroIn K NoWord (.type "object")=some true)
    (be_NoWord:PySem.W.mroIn K NoWord (.type "BaseException")=some true)
    (cd_NoWord:(PySem.W.clsIn K NoWord).isSome=true)
    (u_NoWord:PySem.W.exmOne K (.ref NoWord) (.ref UpError)=some true)
    (gt:PySem.W.specialIn K (.builtin "object.__class__") "__get__" = some (some (.builtin "getset_descriptor.__get__")))
    (tk:PySem.W.takesIn K (.builtin "object.__class__")=some true)
    (n0:PySem.W.kitOne K (.ref NoNumber) (.ref NoNumber)=some true)
    (n1:PySem.W.kitOne K (.ref NoNumber) (.ref NoWord)=some false)
    (n2:PySem.W.kitOne K (.ref NoNumber) (.ref NoPattern)=some false)
    (nv:PySem.W.kitOne K (.ref NoNumber) (.type "ValueError")=some true)
    (n3:PySem.W.kitAny K (.ref NoNumber) ([NoPlace,NoRows,NoRuns,NoCover,NoText,TooMany,NoTries,NoLetter].map Value.ref)=some false)
    (n4:PySem.W.kitAny K (.ref NoNumber) ([NoLeaf,NoChange,NoLine,NoTree].map Value.ref)=some false)
    (w0:PySem.W.kitOne K (.ref NoWord) (.ref NoNumber)=some false)
    (w1:PySem.W.kitOne K (.ref NoWord) (.ref NoWord)=some true)
    (w2:PySem.W.kitOne K (.ref NoWord) (.ref NoPattern)=some false)
    (wv:PySem.W.kitOne K (.ref NoWord) (.type "ValueError")=some true)
    (w3:PySem.W.kitAny K (.ref NoWord) ([NoPlace,NoRows,NoRuns,NoCover,NoText,TooMany,NoTries,NoLetter].map Value.ref)=some false)
    (w4:PySem.W.kitAny K (.ref NoWord) ([NoLeaf,NoChange,NoLine,NoTree].map Value.ref)=some false):Exs K mg where
  c_UpError:=UpError
  m_UpError:=PySem.W.mg_of X G a_UpError
  c_NoPlace:=NoPlace
  m_NoPlace:=PySem.W.mg_of X G a_NoPlace
  c_NoNumber:=NoNumber
  m_NoNumber:=PySem.W.mg_of X G a_NoNumber
  c_NoWord:=NoWord
  m_NoWord:=PySem.W.mg_of X G a_NoWord
  c_NoRows:=NoRows
  m_NoRows:=PySem.W.mg_of X G a_NoRows
  c_NoRuns:=NoRuns
  m_NoRuns:=PySem.W.mg_of X G a_NoRuns
  c_NoCover:=NoCover
  m_NoCover:=PySem.W.mg_of X G a_NoCover
  c_NoText:=NoText
  m_NoText:=PySem.W.mg_of X G a_NoText
  c_TooMany:=TooMany
  m_TooMany:=PySem.W.mg_of X G a_TooMany
  c_NoTries:=NoTries
  m_NoTries:=PySem.W.mg_of X G a_NoTries
  c_NoPattern:=NoPattern
  m_NoPattern:=PySem.W.mg_of X G a_NoPattern
  c_NoLetter:=NoLetter
  m_NoLetter:=PySem.W.mg_of X G a_NoLetter
  c_NoLeaf:=NoLeaf
  m_NoLeaf:=PySem.W.mg_of X G a_NoLeaf
  c_NoChange:=NoChange
  m_NoChange:=PySem.W.mg_of X G a_NoChange
  c_NoLine:=NoLine
  m_NoLine:=PySem.W.mg_of X G a_NoLine
  c_NoTree:=NoTree
  m_NoTree:=PySem.W.mg_of X G a_NoTree
  q_NoNumber:=q_NoNumber
  z_NoNumber:=⟨ga_NoNumber,gn_NoNumber,cl_NoNumber,gt,tk,ob_NoNumber,be_NoNumber,cd_NoNumber⟩
  u_NoNumber:=u_NoNumber
  q_NoWord:=q_NoWord
  z_NoWord:=⟨ga_NoWord,gn_NoWord,cl_NoWord,gt,tk,ob_NoWord,be_NoWord,cd_NoWord⟩
  u_NoWord:=u_NoWord
  n0:=n0
  n1:=n1
  n2:=n2
  nv:=nv
  n3:=n3
  n4:=n4
  w0:=w0
  w1:=w1
  w2:=w2
  wv:=wv
  w3:=w3
  w4:=w4
theorem blt_mk {K:PySem.W.Frag} {h:Heap} {mg:Str→Option Value} (X:K.In h) (G:h.Ns mainGlobals mg)
    (z1:PySem.W.nsIn K mainGlobals "len" = some none) (z2:PySem.W.nsIn K mainGlobals "range" = some none) (z3:PySem.W.nsIn K mainGlobals "zip" = some none) (z4:PySem.W.nsIn K mainGlobals "enumerate" = some none)
    (z5:PySem.W.nsIn K mainGlobals "max" = some none) (z6:PySem.W.nsIn K mainGlobals "min" = some none) (z7:PySem.W.nsIn K mainGlobals "int" = some none) (z8:PySem.W.nsIn K mainGlobals "str" = some none)
    (z9:PySem.W.nsIn K mainGlobals "bool" = some none) (z10:PySem.W.nsIn K mainGlobals "list" = some none) (z11:PySem.W.nsIn K mainGlobals "tuple" = some none) (z12:PySem.W.nsIn K mainGlobals "isinstance" = some none):Blt mg:=
  ⟨PySem.W.mg_none_of X G z1,PySem.W.mg_none_of X G z2,PySem.W.mg_none_of X G z3,PySem.W.mg_none_of X G z4,PySem.W.mg_none_of X G z5,PySem.W.mg_none_of X G z6,PySem.W.mg_none_of X G z7,PySem.W.mg_none_of X G z8,
    PySem.W.mg_none_of X G z9,PySem.W.mg_none_of X G z10,PySem.W.mg_none_of X G z11,PySem.W.mg_none_of X G z12⟩
theorem all_ok {P:Program} {w:World} {K:PySem.W.Frag} {mg:Str→Option Value} {fa:Addr} (hfa:mg "law" = some (.ref fa)) (B:Blt7 mg)
    (d1:Df K mg "is_whole" s_is_whole) (d2:Df K mg "is_number_below" s_is_number_below) (d3:Df K mg "is_letters" s_is_letters) (d4:Df K mg "is_rising" s_is_rising) (d5:Df K mg "items_of" s_items_of) (d6:Df K mg "part_ahead" s_part_ahead) (d7:Df K mg "letters_by" s_letters_by) (d8:Df K mg "words_of" s_words_of) (d9:Df K mg "states_with" s_states_with) (d10:Df K mg "states_by" s_states_by) (d11:Df K mg "lengths_fitting" s_lengths_fitting) (d12:Df K mg "words_fitting" s_words_fitting) (d13:Df K mg "many_by" s_many_by) (d14:Df K mg "word_by" s_word_by) (d15:Df K mg "number_by" s_number_by) (d16:Df K mg "_law_mixed" s_law_mixed) (d17:Df K mg "_law_deck" s_law_deck) (d18:Df K mg "_law_draw" s_law_draw) (d19:Df K mg "_law_some" s_law_some) (d20:Df K mg "_law_letter" s_law_letter) (d21:Df K mg "_law_tree" s_law_tree) (d22:Df K mg "_law_words" s_law_words) (d23:Df K mg "_law_whole" s_law_whole) (d24:Df K mg "_law_kind" s_law_kind) (d25:Df K mg "_law_items" s_law_items) (d26:Df K mg "_law_written" s_law_written) (d27:Df K mg "_law_taken" s_law_taken) (d28:Df K mg "_law_refused" s_law_refused) (d29:Df K mg "_law_fitting_words" s_law_fitting_words) (d30:Df K mg "law" s_law) (EX:Exs K mg) :
    ∃ fd:FuncData,(∀ (s:Shared) (v:Value),BindsTo s fd ⟨[v],[]⟩ [("script", v)])∧∀ base:Heap,FnOk P w K mg base CX0 12 fa fd ["script"] (sp_law K):=by
  obtain ⟨f,fd,F,m⟩:=d30
  have e:=hfa.symm.trans m
  cases e
  refine ⟨fd,?_,fun base=>?_⟩
  · obtain ⟨oc,od,kV,doc,pm,an,cdv,ct,osl,rfl,_,_⟩:=F.ex
    exact fun s v=>.of_eq rfl
  have g_mixed:=has_mixed (P:=P) (w:=w) (base:=base) (k:=0) d16 B.toBlt
  have g_draw:=has_draw (k:=1) d18 B.toBlt g_mixed
  have g_some:=has_some (k:=2) d19 B.toBlt g_draw
  have g_letter:=has_letter (k:=2) d20 B.toBlt g_draw
  have g_tree:=has_tree (k:=3) d21 B.toBlt (g_draw.mono (by decide)) g_some g_letter
  have g_deck:=has_deck (P:=P) (w:=w) (base:=base) (k:=0) d17 B.toBlt
  have g_lwords:=has_lwords (P:=P) (w:=w) (base:=base) (k:=0) d22 B.toBlt
  have g_words:=has_words (P:=P) (w:=w) (base:=base) (k:=0) d8 B.toBlt
  have g_whole:=has_whole (P:=P) (w:=w) (base:=base) (k:=0) d23 B.toBlt
  have g_isl:=has_letters (P:=P) (w:=w) (base:=base) (k:=0) d3 B
  have g_rising:=has_rising (P:=P) (w:=w) (base:=base) (k:=0) d4 B
  have g_part:=has_part (P:=P) (w:=w) (base:=base) (k:=1) d6 B
  have g_lby:=has_lby (k:=1) d7 B g_isl g_rising
  have g_items:=has_items (k:=2) d5 B g_part g_lby
  have g_swith:=has_swith (P:=P) (w:=w) (base:=base) (k:=0) d9 B
  have g_sby:=has_sby (P:=P) (w:=w) (base:=base) (k:=0) d10 B
  have g_lens:=has_lens (k:=1) d11 B g_swith g_sby
  have g_wf:=has_wf (k:=3) d12 B g_items (g_words.mono (by decide)) (g_lens.mono (by decide))
  have g_many:=has_many (k:=4) d13 B g_wf
  have g_iswhole:=has_iswhole (P:=P) (w:=w) (base:=base) (k:=0) d1 B
  have g_below:=has_below (k:=1) d2 B g_iswhole
  have g_wby:=has_wby (k:=4) EX d14 B g_wf (g_below.mono (by decide))
  have g_nby:=has_nby (k:=4) EX d15 B g_wf
  have g_kindN:=has_kind (P:=P) (w:=w) (base:=base) (k:=0) EX d24 B
  have g_kindW:=has_kindW (P:=P) (w:=w) (base:=base) (k:=0) EX d24 B
  have g_ref:=has_ref (k:=5) EX d28 B g_wby g_nby (g_kindN.mono (by decide)) (g_kindW.mono (by decide))
  have g_litems:=has_litems (k:=3) d25 B (g_draw.mono (by decide)) g_some g_letter
  have g_lwrit:=has_lwrit (P:=P) (w:=w) (base:=base) (k:=0) d26 B
  have g_ltak:=has_ltak (P:=P) (w:=w) (base:=base) (k:=0) d27 B
  have g_fit:=has_fit (k:=1) d29 B g_ltak
  exact (ok_law (k:=6) EX F B (g_deck.mono (by decide)) (g_draw.mono (by decide)) (g_some.mono (by decide)) (g_tree.mono (by decide)) (g_lwords.mono (by decide)) (g_litems.mono (by decide)) (g_lwrit.mono (by decide)) (g_fit.mono (by decide)) (g_whole.mono (by decide)) (g_many.mono (by decide)) (g_wby.mono (by decide)) (g_nby.mono (by decide)) g_ref).mono (by decide)
end S65
def PySem.W.Fast.tw5899654839364362142 : Nat := 0
def PySem.W.Fast.tw9465250516527948132 : Nat := 0
def PySem.W.Fast.tw15192145431544834955 : Nat := 0
def PySem.W.Fast.tw1227105629021808253 : Nat := 0
def PySem.W.Fast.tw12235088677991367713 : Nat := 0
def PySem.W.Fast.tw17604155824594425304 : Nat := 0
def PySem.W.Fast.tw11737695125451274622 : Nat := 0
def PySem.W.Fast.tw17691345547933956292 : Nat := 0
def PySem.W.Fast.tw16281070379785231509 : Nat := 0
def PySem.W.Fast.tw6324494160950802592 : Nat := 0
def PySem.W.Fast.tw6191779934640857074 : Nat := 0
def PySem.W.Fast.tw2410681266511063538 : Nat := 0
def PySem.W.Fast.tw10786822441466384703 : Nat := 0
def PySem.W.Fast.tw4633400281965614605 : Nat := 0
def PySem.W.Fast.tw2205001614026948599 : Nat := 0
def PySem.W.Fast.tw14784462560323051998 : Nat := 0
def PySem.W.Fast.tw14664617553388129596 : Nat := 0
def PySem.W.Fast.tw17977347033023172725 : Nat := 0
def PySem.W.Fast.tw848171563703192871 : Nat := 0
def PySem.W.Fast.tw2524607370490430319 : Nat := 0
def PySem.W.Fast.tw6143423316018689501 : Nat := 0
def PySem.W.Fast.tw8981379014046967643 : Nat := 0
def PySem.W.Fast.tw13567968531448436983 : Nat := 0
def PySem.W.Fast.tw1338241816285398845 : Nat := 0
def PySem.W.Fast.tw7026495410785711019 : Nat := 0
def PySem.W.Fast.tw1142243780327608229 : Nat := 0
def PySem.W.Fast.tw7046113890650211252 : Nat := 0
def PySem.W.Fast.tw7255114505247276953 : Nat := 0
def PySem.W.Fast.tw1658646627454664127 : Nat := 0
def PySem.W.Fast.tw2207020070780851953 : Nat := 0
def PySem.W.Fast.tw17191092250484375272 : Nat := 0
def PySem.W.Fast.tw15730515221491090341 : Nat := 0
def PySem.W.Fast.tw10786668614741700063 : Nat := 0
def PySem.W.Fast.tw16669613491499800314 : Nat := 0
def PySem.W.Fast.tw5677215188595333372 : Nat := 0
def PySem.W.Fast.tw11360914030276076296 : Nat := 0
def PySem.W.Fast.tw18307467551270203606 : Nat := 0
def PySem.W.Fast.tw1739864315721975397 : Nat := 0
def PySem.W.Fast.tw10763904099641437151 : Nat := 0
open PySem PySem.W PyProof.Rows
set_option maxRecDepth 100000 in
set_option maxHeartbeats 0 in
theorem PySem.Challenge.cw_upwords_k65_words_that_fit_numbered_holds : PySem.Challenge.rw_upwords_k65_words_that_fit_numbered.Holds := by
  w_on; o_law; k_head; (case hw => w_witness2)
  k_fill
  refine L2.walk_ofK (l := PySem.Challenge.rw_upwords_k65_words_that_fit_numbered) (n := 63) (k := 12) (x := "script") (CX := L2.CX0) (sp := S65.sp_law) rfl (by decide) rfl ⟨rfl, by decide, by decide, rfl⟩ (fun w h Y => PySem.W.kIn_of Y) ?F
    (fun K H a ns hl _ hS => ⟨a, ns, rfl, hS, hl, fun _ => rfl⟩) (fun _ _ _ _ z => z)
  case F =>
    intro w mg fa h KX G hmg
    have B : L2.Blt mg := by
      refine' S65.blt_mk KX G ?z1 ?z2 ?z3 ?z4 ?z5 ?z6 ?z7 ?z8 ?z9 ?z10 ?z11 ?z12
      (case z1 => k_is); (case z2 => k_is); (case z3 => k_is); (case z4 => k_is); (case z5 => k_is); (case z6 => k_is); (case z7 => k_is); (case z8 => k_is); (case z9 => k_is); (case z10 => k_is); (case z11 => k_is); (case z12 => k_is)
    have Bx0 : mg "all" = none := by
      refine' PySem.W.mg_none_of KX G ?z
      (case z => k_is)
    have Bx1 : mg "dict" = none := by
      refine' PySem.W.mg_none_of KX G ?z
      (case z => k_is)
    have Bx2 : mg "sorted" = none := by
      refine' PySem.W.mg_none_of KX G ?z
      (case z => k_is)
    have Bx3 : mg "set" = none := by
      refine' PySem.W.mg_none_of KX G ?z
      (case z => k_is)
    have Bx4 : ∃ u, mg "LETTERS" = some u ∧ L2.RelV (.str "abcdefghijklmnopqrstuvwxyz") u := by
      refine' ⟨_, PySem.W.mg_of KX G ?z, ?r⟩
      (case z => k_is)
      (case r => exact ⟨_, rfl⟩)
    have Bx5 : ∃ u, mg "MOST_SIGNS" = some u ∧ L2.RelV (.int 40) u := by
      refine' ⟨_, PySem.W.mg_of KX G ?z, ?r⟩
      (case z => k_is)
      (case r => exact ⟨_, rfl⟩)
    have Bx6 : mg "ValueError" = none := by
      refine' PySem.W.mg_none_of KX G ?z
      (case z => k_is)
    have d1 : L2.Df (L2.KOf KX) mg "is_whole" S65.s_is_whole := by
      dsimp only [L2.KOf]; refine' S65.df_mk KX G ?a ?l ?c ?k
      (case a => k_is); (case l => k_is); (case c => k_is); (case k => k_is)
    have d2 : L2.Df (L2.KOf KX) mg "is_number_below" S65.s_is_number_below := by
      dsimp only [L2.KOf]; refine' S65.df_mk KX G ?a ?l ?c ?k
      (case a => k_is); (case l => k_is); (case c => k_is); (case k => k_is)
    have d3 : L2.Df (L2.KOf KX) mg "is_letters" S65.s_is_letters := by
      dsimp only [L2.KOf]; refine' S65.df_mk KX G ?a ?l ?c ?k
      (case a => k_is); (case l => k_is); (case c => k_is); (case k => k_is)
    have d4 : L2.Df (L2.KOf KX) mg "is_rising" S65.s_is_rising := by
      dsimp only [L2.KOf]; refine' S65.df_mk KX G ?a ?l ?c ?k
      (case a => k_is); (case l => k_is); (case c => k_is); (case k => k_is)
    have d5 : L2.Df (L2.KOf KX) mg "items_of" S65.s_items_of := by
      dsimp only [L2.KOf]; refine' S65.df_mk KX G ?a ?l ?c ?k
      (case a => k_is); (case l => k_is); (case c => k_is); (case k => k_is)
    have d6 : L2.Df (L2.KOf KX) mg "part_ahead" S65.s_part_ahead := by
      dsimp only [L2.KOf]; refine' S65.df_mk KX G ?a ?l ?c ?k
      (case a => k_is); (case l => k_is); (case c => k_is); (case k => k_is)
    have d7 : L2.Df (L2.KOf KX) mg "letters_by" S65.s_letters_by := by
      dsimp only [L2.KOf]; refine' S65.df_mk KX G ?a ?l ?c ?k
      (case a => k_is); (case l => k_is); (case c => k_is); (case k => k_is)
    have d8 : L2.Df (L2.KOf KX) mg "words_of" S65.s_words_of := by
      dsimp only [L2.KOf]; refine' S65.df_mk KX G ?a ?l ?c ?k
      (case a => k_is); (case l => k_is); (case c => k_is); (case k => k_is)
    have d9 : L2.Df (L2.KOf KX) mg "states_with" S65.s_states_with := by
      dsimp only [L2.KOf]; refine' S65.df_mk KX G ?a ?l ?c ?k
      (case a => k_is); (case l => k_is); (case c => k_is); (case k => k_is)
    have d10 : L2.Df (L2.KOf KX) mg "states_by" S65.s_states_by := by
      dsimp only [L2.KOf]; refine' S65.df_mk KX G ?a ?l ?c ?k
      (case a => k_is); (case l => k_is); (case c => k_is); (case k => k_is)
    have d11 : L2.Df (L2.KOf KX) mg "lengths_fitting" S65.s_lengths_fitting := by
      dsimp only [L2.KOf]; refine' S65.df_mk KX G ?a ?l ?c ?k
      (case a => k_is); (case l => k_is); (case c => k_is); (case k => k_is)
    have d12 : L2.Df (L2.KOf KX) mg "words_fitting" S65.s_words_fitting := by
      dsimp only [L2.KOf]; refine' S65.df_mk KX G ?a ?l ?c ?k
      (case a => k_is); (case l => k_is); (case c => k_is); (case k => k_is)
    have d13 : L2.Df (L2.KOf KX) mg "many_by" S65.s_many_by := by
      dsimp only [L2.KOf]; refine' S65.df_mk KX G ?a ?l ?c ?k
      (case a => k_is); (case l => k_is); (case c => k_is); (case k => k_is)
    have d14 : L2.Df (L2.KOf KX) mg "word_by" S65.s_word_by := by
      dsimp only [L2.KOf]; refine' S65.df_mk KX G ?a ?l ?c ?k
      (case a => k_is); (case l => k_is); (case c => k_is); (case k => k_is)
    have d15 : L2.Df (L2.KOf KX) mg "number_by" S65.s_number_by := by
      dsimp only [L2.KOf]; refine' S65.df_mk KX G ?a ?l ?c ?k
      (case a => k_is); (case l => k_is); (case c => k_is); (case k => k_is)
    have d16 : L2.Df (L2.KOf KX) mg "_law_mixed" S65.s_law_mixed := by
      dsimp only [L2.KOf]; refine' S65.df_mk KX G ?a ?l ?c ?k
      (case a => k_is); (case l => k_is); (case c => k_is); (case k => k_is)
    have d17 : L2.Df (L2.KOf KX) mg "_law_deck" S65.s_law_deck := by
      dsimp only [L2.KOf]; refine' S65.df_mk KX G ?a ?l ?c ?k
      (case a => k_is); (case l => k_is); (case c => k_is); (case k => k_is)
    have d18 : L2.Df (L2.KOf KX) mg "_law_draw" S65.s_law_draw := by
      dsimp only [L2.KOf]; refine' S65.df_mk KX G ?a ?l ?c ?k
      (case a => k_is); (case l => k_is); (case c => k_is); (case k => k_is)
    have d19 : L2.Df (L2.KOf KX) mg "_law_some" S65.s_law_some := by
      dsimp only [L2.KOf]; refine' S65.df_mk KX G ?a ?l ?c ?k
      (case a => k_is); (case l => k_is); (case c => k_is); (case k => k_is)
    have d20 : L2.Df (L2.KOf KX) mg "_law_letter" S65.s_law_letter := by
      dsimp only [L2.KOf]; refine' S65.df_mk KX G ?a ?l ?c ?k
      (case a => k_is); (case l => k_is); (case c => k_is); (case k => k_is)
    have d21 : L2.Df (L2.KOf KX) mg "_law_tree" S65.s_law_tree := by
      dsimp only [L2.KOf]; refine' S65.df_mk KX G ?a ?l ?c ?k
      (case a => k_is); (case l => k_is); (case c => k_is); (case k => k_is)
    have d22 : L2.Df (L2.KOf KX) mg "_law_words" S65.s_law_words := by
      dsimp only [L2.KOf]; refine' S65.df_mk KX G ?a ?l ?c ?k
      (case a => k_is); (case l => k_is); (case c => k_is); (case k => k_is)
    have d23 : L2.Df (L2.KOf KX) mg "_law_whole" S65.s_law_whole := by
      dsimp only [L2.KOf]; refine' S65.df_mk KX G ?a ?l ?c ?k
      (case a => k_is); (case l => k_is); (case c => k_is); (case k => k_is)
    have d24 : L2.Df (L2.KOf KX) mg "_law_kind" S65.s_law_kind := by
      dsimp only [L2.KOf]; refine' S65.df_mk KX G ?a ?l ?c ?k
      (case a => k_is); (case l => k_is); (case c => k_is); (case k => k_is)
    have d25 : L2.Df (L2.KOf KX) mg "_law_items" S65.s_law_items := by
      dsimp only [L2.KOf]; refine' S65.df_mk KX G ?a ?l ?c ?k
      (case a => k_is); (case l => k_is); (case c => k_is); (case k => k_is)
    have d26 : L2.Df (L2.KOf KX) mg "_law_written" S65.s_law_written := by
      dsimp only [L2.KOf]; refine' S65.df_mk KX G ?a ?l ?c ?k
      (case a => k_is); (case l => k_is); (case c => k_is); (case k => k_is)
    have d27 : L2.Df (L2.KOf KX) mg "_law_taken" S65.s_law_taken := by
      dsimp only [L2.KOf]; refine' S65.df_mk KX G ?a ?l ?c ?k
      (case a => k_is); (case l => k_is); (case c => k_is); (case k => k_is)
    have d28 : L2.Df (L2.KOf KX) mg "_law_refused" S65.s_law_refused := by
      dsimp only [L2.KOf]; refine' S65.df_mk KX G ?a ?l ?c ?k
      (case a => k_is); (case l => k_is); (case c => k_is); (case k => k_is)
    have d29 : L2.Df (L2.KOf KX) mg "_law_fitting_words" S65.s_law_fitting_words := by
      dsimp only [L2.KOf]; refine' S65.df_mk KX G ?a ?l ?c ?k
      (case a => k_is); (case l => k_is); (case c => k_is); (case k => k_is)
    have d30 : L2.Df (L2.KOf KX) mg "law" S65.s_law := by
      dsimp only [L2.KOf]; refine' S65.df_mk KX G ?a ?l ?c ?k
      (case a => k_is); (case l => k_is); (case c => k_is); (case k => k_is)
    have EX : S65.Exs (L2.KOf KX) mg := by
      dsimp only [L2.KOf]; refine' S65.exs_mk KX G ?a_UpError ?a_NoPlace ?a_NoNumber ?a_NoWord ?a_NoRows ?a_NoRuns ?a_NoCover ?a_NoText ?a_TooMany ?a_NoTries ?a_NoPattern ?a_NoLetter ?a_NoLeaf ?a_NoChange ?a_NoLine ?a_NoTree ?q_NoNumber ?ga_NoNumber ?gn_NoNumber ?cl_NoNumber ?ob_NoNumber ?be_NoNumber ?cd_NoNumber ?u_NoNumber ?q_NoWord ?ga_NoWord ?gn_NoWord ?cl_NoWord ?ob_NoWord ?be_NoWord ?cd_NoWord ?u_NoWord ?gt ?tk ?n0 ?n1 ?n2 ?nv ?n3 ?n4 ?w0 ?w1 ?w2 ?wv ?w3 ?w4
      (case a_UpError => k_is); (case a_NoPlace => k_is); (case a_NoNumber => k_is); (case a_NoWord => k_is); (case a_NoRows => k_is); (case a_NoRuns => k_is); (case a_NoCover => k_is); (case a_NoText => k_is); (case a_TooMany => k_is); (case a_NoTries => k_is); (case a_NoPattern => k_is); (case a_NoLetter => k_is); (case a_NoLeaf => k_is); (case a_NoChange => k_is); (case a_NoLine => k_is); (case a_NoTree => k_is); (case q_NoNumber => first | k_exc | k_is); (case ga_NoNumber => k_is); (case gn_NoNumber => k_is); (case cl_NoNumber => k_is); (case ob_NoNumber => k_is); (case be_NoNumber => k_is); (case cd_NoNumber => first | k_is | kernel_rfl); (case u_NoNumber => first | k_is | kernel_rfl); (case q_NoWord => first | k_exc | k_is); (case ga_NoWord => k_is); (case gn_NoWord => k_is); (case cl_NoWord => k_is); (case ob_NoWord => k_is); (case be_NoWord => k_is); (case cd_NoWord => first | k_is | kernel_rfl); (case u_NoWord => first | k_is | kernel_rfl); (case gt => k_is); (case tk => k_is); (case n0 => first | k_is | kernel_rfl); (case n1 => first | k_is | kernel_rfl); (case n2 => first | k_is | kernel_rfl); (case nv => first | k_is | kernel_rfl); (case n3 => first | k_is | kernel_rfl); (case n4 => first | k_is | kernel_rfl); (case w0 => first | k_is | kernel_rfl); (case w1 => first | k_is | kernel_rfl); (case w2 => first | k_is | kernel_rfl); (case wv => first | k_is | kernel_rfl); (case w3 => first | k_is | kernel_rfl); (case w4 => first | k_is | kernel_rfl)
    obtain ⟨fd, h1, h2⟩ := S65.all_ok (P := PySem.Challenge.rw_upwords_k65_words_that_fit_numbered.prog) (w := w) hmg ⟨B, Bx0, Bx1, Bx2, Bx3, Bx4, Bx5, Bx6⟩ d1 d2 d3 d4 d5 d6 d7 d8 d9 d10 d11 d12 d13 d14 d15 d16 d17 d18 d19 d20 d21 d22 d23 d24 d25 d26 d27 d28 d29 d30 EX
    exact ⟨fd, h1, fun base _ _ => h2 base⟩
