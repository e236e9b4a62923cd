import PyProof.Rows.All
import Wide.All
import OpenK.AllK
import Wide.FinOn
import Lean
import PyProof.EqAt
import PyProof.EqKinds
import PyProof.TupleCall
import PyProof.WalkInts
import PyProof.NeKinds
import KE.KSortTup
import KE.KLam
import PyProof.ListRange
import KE.KDictOf
import PyProof.DictWalks
import KE.KDictSum
import PyProof.FitsInt
import PyProof.FitsBits
import PyProof.StrWalks
import KE.KStrOpen
import PyProof.StrBlock
import PyProof.StrLaws
import PySem.Challenge.RW_upwords_k40_contexts_and_pieces
set_option Elab.async false
set_option linter.all false
set_option maxHeartbeats 16000000
namespace W56
open PySem
end W56
namespace W56
open PySem
end W56
set_option maxRecDepth 100000
namespace L2
open PySem PySem.Spec PyProof.Rows
abbrev Key:=Sum Int Str
def keyIs:Key→Value→Bool
  | .inl k,v=>Value.isInt k v
  | .inr x,v=>Value.isStrOf x v
def keyH (w:World):Key→Int
  | .inl k=>hashInt k
  | .inr x=>hashStr w x
theorem keyIs_shape:∀ {k:Key} {v:Value},keyIs k v=true→(∃ i t,k=Sum.inl i∧v=Value.int i t)∨(∃ x t,k=Sum.inr x∧v=Value.str x t)
  | .inl i,v,h=>by
    obtain ⟨t,e⟩:=Value.isInt_shape (k:=i) (v:=v) h
    exact .inl ⟨i,t,rfl,e⟩
  | .inr x,v,h=>by
    obtain ⟨t,e⟩:=Value.isStrOf_shape (x:=x) (v:=v) h
    exact .inr ⟨x,t,rfl,e⟩
theorem keyIs_int (i:Int) (t:Tok):keyIs (.inl i) (.int i t)=true:=by simp [keyIs,Value.isInt]
theorem keyIs_str (x:Str) (t:Tok):keyIs (.inr x) (.str x t)=true:=by simp [keyIs,Value.isStrOf]
theorem key_ll (a b:Int):decide ((Sum.inl a:Key)=Sum.inl b)=(a == b):=by
  by_cases e:a=b
  · subst e;simp
  · have h:¬ (Sum.inl a:Key)=Sum.inl b:=fun q=>e (Sum.inl.inj q)
    rw [decide_eq_false h]
    exact (beq_eq_false_iff_ne.mpr e).symm
theorem key_rr (a b:Str):decide ((Sum.inr a:Key)=Sum.inr b)=decide (a=b):=by
  by_cases e:a=b
  · subst e;simp
  · have h:¬ (Sum.inr a:Key)=Sum.inr b:=fun q=>e (Sum.inr.inj q)
    rw [decide_eq_false h,decide_eq_false e]
theorem key_lr (a:Int) (b:Str):decide ((Sum.inl a:Key)=Sum.inr b)=false:=decide_eq_false (fun q=>nomatch q)
theorem key_rl (a:Str) (b:Int):decide ((Sum.inr a:Key)=Sum.inl b)=false:=decide_eq_false (fun q=>nomatch q)
def mixKind (prog:Program) (w:World):PySem.KeyKind prog w Key where
  is:=keyIs
  hash:=keyH w
  inj:=fun v a b ha hb=>by
    rcases keyIs_shape ha with ⟨i,t,rfl,rfl⟩ | ⟨x,t,rfl,rfl⟩
    · rcases keyIs_shape hb with ⟨j,u,rfl,e⟩ | ⟨y,u,rfl,e⟩
      · injection e with e1 _;rw [e1]
      · exact nomatch e
    · rcases keyIs_shape hb with ⟨j,u,rfl,e⟩ | ⟨y,u,rfl,e⟩
      · exact nomatch e
      · injection e with e1 _;rw [e1]
  byValue:=fun k v h=>by
    rcases keyIs_shape h with ⟨i,t,rfl,rfl⟩ | ⟨x,t,rfl,rfl⟩ <;> rfl
  pyHash:=fun hv h=>by
    rcases keyIs_shape hv with ⟨i,t,rfl,rfl⟩ | ⟨x,t,rfl,rfl⟩
    · exact wpAny_pyHash_int h
    · exact wpAny_pyHash_str h
  eqBool:=fun hu hv h=>by
    rcases keyIs_shape hu with ⟨i,t,rfl,rfl⟩ | ⟨x,t,rfl,rfl⟩
    · rcases keyIs_shape hv with ⟨j,u,rfl,rfl⟩ | ⟨y,u,rfl,rfl⟩
      · rw [key_ll] at h;exact wpAny_eqBool_int h
      · rw [key_lr] at h;exact SeqAt.EqAt.int_str i t y u _ _ _ _ h
    · rcases keyIs_shape hv with ⟨j,u,rfl,rfl⟩ | ⟨y,u,rfl,rfl⟩
      · rw [key_rl] at h;exact SeqAt.EqAt.str_int x t j u _ _ _ _ h
      · rw [key_rr] at h;exact wpAny_eqBool_str h
  «strs»:=fun k x t v h=>by
    rcases keyIs_shape h with ⟨i,u,rfl,e⟩ | ⟨y,u,rfl,e⟩
    · exact nomatch e
    · injection e with e1 _
      subst e1
      cases v <;> rfl
theorem mixKind_int (prog:Program) (w:World) (i:Int) (t:Tok):(mixKind prog w).is (.inl i) (.int i t)=true:=keyIs_int i t
theorem mixKind_str (prog:Program) (w:World) (x:Str) (t:Tok):(mixKind prog w).is (.inr x) (.str x t)=true:=keyIs_str x t
end L2
namespace L2
open PySem PySem.Spec PyProof.Rows
inductive V where
  | non | bl (b:Bool) | int (i:Int) | str (x:Str) | byt (b:Array UInt8) | flt (b:UInt64) | ref (a:Addr) | ty (n:String)
  deriving DecidableEq
def RelV:V→Value→Prop
  | .non,u=>u=Value.none
  | .bl b,u=>u=Value.bool b
  | .int i,u=>∃ t,u=Value.int i t
  | .str x,u=>∃ t,u=Value.str x t
  | .byt b,u=>∃ t,u=Value.bytes b t
  | .flt b,u=>∃ t,u=Value.float b t
  | .ref a,u=>u=Value.ref a
  | .ty n,u=>u=Value.type n
abbrev Vals:List V→List Value→Prop:=Paired RelV
theorem Vals.length {xs:List V} {us:List Value} (r:Vals xs us):xs.length=us.length:=Paired.length r
theorem Vals.get:∀ {xs:List V} {us:List Value} {i:Nat} {x:V},Vals xs us→xs[i]?=some x→∃ u,us[i]?=some u∧RelV x u
  | _,_,_,_,.nil,e=>by simp at e
  | _,_,0,_,.cons r _,e=>by simp at e;subst e;exact ⟨_,rfl,r⟩
  | _,_,i+1,x,.cons _ t,e=>by
    obtain ⟨u,h1,h2⟩:=Vals.get (i:=i) (x:=x) t (by simpa using e)
    exact ⟨u,by simpa using h1,h2⟩
theorem Vals.set {x:V} {u:Value} (r:RelV x u):∀ {xs:List V} {us:List Value} (i:Nat),Vals xs us→Vals (xs.set i x) (us.set i u)
  | _,_,_,.nil=>.nil
  | _,_,0,.cons _ t=>.cons r t
  | _,_,i+1,.cons q t=>.cons q (Vals.set r i t)
theorem Vals.append:∀ {xs ys:List V} {us ws:List Value},Vals xs us→Vals ys ws→Vals (xs++ys) (us++ws)
  | _,_,_,_,.nil,s=>s
  | _,_,_,_,.cons r t,s=>.cons r (Vals.append t s)
def RelO:Option V→Option Value→Prop
  | some v,some u=>RelV v u
  | none,none=>True
  | _,_=>False
def KV {κ:Type}:List (κ × V)→List (κ × Value)→Prop:=Paired fun (p:κ × V) (q:κ × Value)=>p.1=q.1∧RelV p.2 q.2
def kV:Key→V
  | .inl i=>.int i
  | .inr x=>.str x
inductive HO where
  | lst (xs:List V)
  | tup (xs:List V)
  | dK (kvs:List (Key × V)) | dT (kvs:List (List Key × V))
  | set (S:Int→Bool) (n:Nat)
  | ins (C dx:Addr) (fs:List (Str × V))
  | own (x:Addr)
  | xd (fs:List (Str × V))
  | met (f x:Addr)
  | rng (lo hi:Int)
  | frz (o:Obj) (u:HO)
  | tbl (ps:Array Value)
  | ext (φ:Heap→Prop)
abbrev Hp:=Addr→Option HO
def upd (H:Hp) (a:Addr) (o:HO):Hp:=fun b=>if b=a then some o else H b
theorem upd_same {H:Hp} {a:Addr} {o:HO}:upd H a o a=some o:=by unfold upd;rw [if_pos rfl]
theorem upd_ne {H:Hp} {a b:Addr} {o:HO} (h:b≠a):upd H a o b=H b:=by unfold upd;rw [if_neg h]
theorem ne_of {H:Hp} {a b:Addr} {o u:HO} (h:H a=some o) (h':H b=some u) (d:o≠u):a≠b:=by
  intro e;subst e;rw [h] at h';exact d (Option.some.inj h')
theorem ne_of_none {H:Hp} {a b:Addr} {o:HO} (h:H a=some o) (h':H b=none):a≠b:=by
  intro e;subst e;rw [h] at h';cases h'
section
variable (P:Program) (w:World)
def ObjOk (H:Hp) (h:Heap) (a:Addr):HO→Prop
  | .lst xs=>xs.length≤sizeLine∧∃ (its:List Value) (n:Nat),Vals xs its∧h.get? a=some { cls:=.type "list", data:=.seq its.toArray n }
  | .tup xs=>(xs.length≤sizeLine∧∃ o,h.get? a=some o∧o.dict=none)∧∃ its:List Value,Vals xs its∧IsTup h a its.toArray
  | .dK kvs=>kvs.length≤sizeLine∧(a == sysModules)=false∧∃ vs,KV kvs vs∧h.DictOf (mixKind P w) a vs
  | .dT kvs=>kvs.length≤sizeLine∧(a == sysModules)=false∧∃ xs:List (List Key × Addr × Value),
      Paired (fun (p:List Key × V) (q:List Key × Addr × Value)=>p.1=q.1∧H q.2.1=some (.tup (p.1.map kV))∧RelV p.2 q.2.2) kvs xs ∧
      ∃ o es ep,h.get? a=some o∧o.ExactDict∧o.data=.dict es ep∧es.toList=xs.map (entryOfKey (tupleKind (mixKind P w)))∧(xs.map (·.1)).Nodup
  | .set S n=>h.SetOf (intKind P w) a S n
  | .ins C dx fs=>H dx=some (.own a)∧fs.length≤1000∧dx≠a∧h.get? a=some (PySem.W.instObj C dx) ∧
      ∃ mA,h.Ns1 dx mA∧(∀ f,RelO (fs.lookup f) (mA f))∧PySem.Within mA (fs.map (·.1))
  | .own _=>∃ o,h.get? a=some o
  | .xd fs=>∃ mA,h.Ns1 a mA∧∀ f,RelO (fs.lookup f) (mA f)
  | .rng lo hi=>∃ t u v,h.get? a=some { cls:=.type "range", data:=.fields #[.int lo t,.int hi u,.int 1 v] }
  | .frz o u=>h.get? a=some o∧ObjOk H h a u
  | .tbl ps=>h.get? a=some { cls:=.none,data:=.fields ps }
  | .met f x=>h.get? a=some (PySem.W.methodObj (.ref f) (.ref x))
  | .ext φ=>φ h∧(∃ o,h.get? a=some o)∧∀ h1 h2:Heap,φ h1→(∀ o,h1.get? a=some o→h2.get? a=some o)→φ h2
def HOk (H:Hp) (h:Heap):Prop:=∀ a o,H a=some o→ObjOk P w H h a o
end
section
variable {P:Program} {w:World} {H H':Hp} {h h':Heap} {a:Addr} {o:HO}
theorem ObjOk.lt (x:ObjOk P w H h a o):a < h.objs.size:=by
  cases o with
  | lst xs=>obtain ⟨_,_,_,_,e⟩:=x;exact Heap.lt_size e
  | tup xs=>obtain ⟨_,_,_,p⟩:=x;exact p.lt
  | dK kvs=>obtain ⟨_,_,_,_,o,_,_,e,_⟩:=x;exact Heap.lt_size e
  | dT kvs=>obtain ⟨_,_,_,_,o,_,_,e,_⟩:=x;exact Heap.lt_size e
  | set S n=>obtain ⟨o,_,_,_,e,_⟩:=x;exact Heap.lt_size e
  | ins C dx fs=>obtain ⟨_,_,_,e,_⟩:=x;exact Heap.lt_size e
  | own y=>obtain ⟨_,e⟩:=x;exact Heap.lt_size e
  | xd fs=>obtain ⟨_,⟨_,_,_,e,_⟩,_⟩:=x;exact Heap.lt_size e
  | rng lo hi=>obtain ⟨_,_,_,e⟩:=x;exact Heap.lt_size e
  | frz ob u=>obtain ⟨e,_⟩:=x;exact Heap.lt_size e
  | tbl ps=>exact Heap.lt_size (show h.get? a=some _ from x)
  | met f y=>exact Heap.lt_size (show h.get? a=some _ from x)
  | ext φ=>obtain ⟨_,⟨_,e⟩,_⟩:=x;exact Heap.lt_size e
theorem Paired.mapP {α β:Type} {F G:α→β→Prop}:∀ {l₁:List α} {l₂:List β},Paired F l₁ l₂→(∀ a b,F a b→G a b)→Paired G l₁ l₂
  | _,_,.nil,_=>.nil
  | _,_,.cons r t,f=>.cons (f _ _ r) (Paired.mapP t f)
theorem ObjOk.stay (x:ObjOk P w H h a o) (k:∀ b u,(b=a∨H b=some (.own a))→h.get? b=some u→h'.get? b=some u)
    (ho:∀ b,H b=some (.own a)→H' b=some (.own a)) (ht:∀ b xs,H b=some (.tup xs)→H' b=some (.tup xs)):ObjOk P w H' h' a o:=by
  induction o with
  | lst xs=>obtain ⟨z,its,n,r,e⟩:=x;exact ⟨z,its,n,r,k _ _ (.inl rfl) e⟩
  | tup xs=>obtain ⟨⟨z,o1,e1,c1⟩,its,r,ob,e,c⟩:=x;exact ⟨⟨z,o1,k _ _ (.inl rfl) e1,c1⟩,its,r,ob,k _ _ (.inl rfl) e,c⟩
  | dK kvs=>obtain ⟨z,y,vs,r,ob,es,ep,e,c⟩:=x;exact ⟨z,y,vs,r,ob,es,ep,k _ _ (.inl rfl) e,c⟩
  | dT kvs=>
    obtain ⟨z,y,xs,r,ob,es,ep,e,c⟩:=x
    exact ⟨z,y,xs,Paired.mapP r fun p q z=>⟨z.1,ht _ _ z.2.1,z.2.2⟩,ob,es,ep,k _ _ (.inl rfl) e,c⟩
  | set S n=>obtain ⟨ob,es,ep,t,e,c⟩:=x;exact ⟨ob,es,ep,t,k _ _ (.inl rfl) e,c⟩
  | ins C dx fs=>
    obtain ⟨d,z,ne,e,mA,⟨od,es,ep,e2,c⟩,r⟩:=x
    exact ⟨ho _ d,z,ne,k _ _ (.inl rfl) e,mA,⟨od,es,ep,k _ _ (.inr d) e2,c⟩,r⟩
  | own y=>obtain ⟨ob,e⟩:=x;exact ⟨ob,k _ _ (.inl rfl) e⟩
  | xd fs=>obtain ⟨mA,⟨od,es,ep,e,c⟩,r⟩:=x;exact ⟨mA,⟨od,es,ep,k _ _ (.inl rfl) e,c⟩,r⟩
  | rng lo hi=>obtain ⟨t,u,v,e⟩:=x;exact ⟨t,u,v,k _ _ (.inl rfl) e⟩
  | frz ob u ih=>obtain ⟨e,q⟩:=x;exact ⟨k _ _ (.inl rfl) e,ih q⟩
  | tbl ps=>
    have e:h.get? a=some { cls:=.none,data:=.fields ps }:=x
    show h'.get? a=some { cls:=.none,data:=.fields ps }
    exact k a _ (.inl rfl) e
  | met f y=>
    have e:h.get? a=some (PySem.W.methodObj (.ref f) (.ref y)):=x
    show h'.get? a=some (PySem.W.methodObj (.ref f) (.ref y))
    exact k a _ (.inl rfl) e
  | ext φ=>obtain ⟨p,⟨o,e⟩,st⟩:=x;exact ⟨st _ _ p fun o q=>k _ _ (.inl rfl) q,⟨o,k _ _ (.inl rfl) e⟩,st⟩
theorem HOk.lt (x:HOk P w H h) (e:H a=some o):a < h.objs.size:=(x a o e).lt
theorem HOk.fresh (x:HOk P w H h) (e:h.objs.size≤a):H a=none:=by
  cases q:H a with
  | none=>rfl
  | some u=>exact absurd (Nat.lt_of_lt_of_le (x.lt q) e) (Nat.lt_irrefl _)
theorem HOk.kept (x:HOk P w H h) (k:∀ b u,h.get? b=some u→h'.get? b=some u):HOk P w H h':=fun a o e=>
  (x a o e).stay (fun b u _ q=>k b u q) (fun _ q=>q) fun _ _ q=>q
theorem HOk.laid (x:HOk P w H h) (k:∀ b u,h.get? b=some u→h'.get? b=some u) (hp:h.objs.size≤a) (new:ObjOk P w (upd H a o) h' a o):HOk P w (upd H a o) h':=fun b u e=>by
  have hn:=x.fresh hp
  by_cases hb:b=a
  · subst hb;rw [upd_same] at e;cases e;exact new
  · rw [upd_ne hb] at e
    exact (x b u e).stay (fun c v _ q=>k c v q) (fun c q=>by rw [upd_ne (ne_of_none q hn)];exact q) fun c xs q=>by rw [upd_ne (ne_of_none q hn)];exact q
end
def Rd (H:Hp) (a:Addr) (u:HO):Prop:=H a=some u∨∃ o,H a=some (.frz o u)
theorem Rd.ok {P:Program} {w:World} {H:Hp} {h:Heap} {a:Addr} {u:HO} (r:Rd H a u) (x:HOk P w H h):ObjOk P w H h a u:=by
  rcases r with r | ⟨o,r⟩
  · exact x a u r
  · obtain ⟨_,q⟩:=x a _ r
    exact q
def Mut:Option HO→Prop
  | some (.lst _)=>True
  | some (.dK _)=>True
  | some (.dT _)=>True
  | some (.set _ _)=>True
  | some (.ins _ _ _)=>True
  | some (.ext _)=>True
  | _=>False
section
variable {P:Program} {w:World} {H:Hp} {h h':Heap} {x e:Addr} {o':HO}
theorem HOk.write (ok:HOk P w H h) (mu:Mut (H x)) (he:e=x∨H e=some (.own x)) (k:∀ b u,b≠e→h.get? b=some u→h'.get? b=some u) (heo:∃ u,h'.get? e=some u)
    (new:ObjOk P w (upd H x o') h' x o'):HOk P w (upd H x o') h':=fun b u q=>by
  have nown:∀ c y,H c=some (.own y)→c≠x:=fun c y r z=>by subst z;rw [r] at mu;exact mu
  have ntup:∀ c xs,H c=some (.tup xs)→c≠x:=fun c xs r z=>by subst z;rw [r] at mu;exact mu
  by_cases hb:b=x
  · subst hb;rw [upd_same] at q;cases q;exact new
  · rw [upd_ne hb] at q
    by_cases hbe:b=e
    · have q':H b=some (.own x):=by
        rcases he with z | z
        · exact absurd (hbe.trans z) hb
        · rw [hbe];exact z
      rw [q] at q';cases q'
      obtain ⟨v,hv⟩:=heo
      exact ⟨v,by rw [hbe];exact hv⟩
    · refine (ok b u q).stay (fun c v hc r=>k c v ?_ r) (fun c r=>by rw [upd_ne (nown c b r)];exact r) fun c xs r=>by rw [upd_ne (ntup c xs r)];exact r
      rcases hc with rfl | hc
      · exact hbe
      · rintro rfl
        rcases he with z | z
        · exact nown c b hc z
        · rw [hc] at z;cases z;exact hb rfl
end
structure Un (fs ex:List Addr) (H H':Hp) (h h':Heap):Prop where
  keep:∀ b o,h.get? b=some o→H b=none→b ∉ fs→b ∉ ex→h'.get? b=some o
  slot:∀ b o,h.get? b=some o→H b=none→b∈fs→b ∉ ex→∃ sl,h'.get? b=some { o with slots:=sl }
  free:∀ b o,h.get? b=some o→H b=none→b ∉ ex→H' b=none
  there:∀ b o,h.get? b=some o→b ∉ ex→∃ o',h'.get? b=some o'
  tups:∀ b xs,H b=some (.tup xs)→H' b=some (.tup xs)
  frzs:∀ b o u,H b=some (.frz o u)→H' b=some (.frz o u)
  tbls:∀ b ps,H b=some (.tbl ps)→∃ more,H' b=some (.tbl (ps++more))
section
variable {fs fs' ex ex':List Addr} {H H1 H2:Hp} {h h1 h2 h':Heap} {a x e:Addr} {o:HO}
theorem Un.any (u:Un fs ex H H1 h h1) {b:Addr} {ob:Obj} (q:h.get? b=some ob) (n:H b=none) (hx:b ∉ ex):∃ sl,h1.get? b=some { ob with slots:=sl }:=by
  by_cases hb:b∈fs
  · exact u.slot b ob q n hb hx
  · exact ⟨ob.slots,u.keep b ob q n hb hx⟩
theorem Un.kept (k:∀ b u,h.get? b=some u→h'.get? b=some u):Un fs ex H H h h':=
  ⟨fun b ob q _ _ _=>k b ob q,fun b ob q _ _ _=>⟨ob.slots,k b ob q⟩,fun _ _ _ n _=>n,fun b ob q _=>⟨ob,k b ob q⟩,fun _ _ q=>q,fun _ _ _ q=>q,fun _ ps q=>⟨#[],by rw [q];simp⟩⟩
theorem Un.refl:Un fs ex H H h h:=Un.kept fun _ _ q=>q
theorem Un.laid (k:∀ b u,h.get? b=some u→h'.get? b=some u) (hp:h.objs.size≤a) (hn:H a=none):Un fs ex H (upd H a o) h h' where
  keep:=fun b u q _ _ _=>k b u q
  slot:=fun b u q _ _ _=>⟨u.slots,k b u q⟩
  free:=fun b u q n _=>by rw [upd_ne (Nat.ne_of_lt (Nat.lt_of_lt_of_le (Heap.lt_size q) hp))];exact n
  there:=fun b u q _=>⟨u,k b u q⟩
  tups:=fun b xs q=>by rw [upd_ne (ne_of_none q hn)];exact q
  frzs:=fun b u xs q=>by rw [upd_ne (ne_of_none q hn)];exact q
  tbls:=fun b ps q=>⟨#[],by rw [upd_ne (ne_of_none q hn),q];simp⟩
theorem Un.write (mu:Mut (H x)) (he:e=x∨H e=some (.own x)) (k:∀ b u,b≠e→h.get? b=some u→h'.get? b=some u) (heo:∃ u,h'.get? e=some u):Un fs ex H (upd H x o) h h':=by
  have hx:∀ b,H b=none→b≠x:=fun b n z=>by subst z;rw [n] at mu;exact mu
  have hb:∀ b,H b=none→b≠e:=fun b n z=>by
    subst z
    rcases he with r | r
    · exact hx b n r
    · rw [n] at r;cases r
  have hm:∀ b u,H b=some u→¬ Mut (some u)→b≠x:=fun b u q nm z=>by subst z;rw [q] at mu;exact nm mu
  refine ⟨fun b u q n _ _=>k b u (hb b n) q,fun b u q n _ _=>⟨u.slots,k b u (hb b n) q⟩,fun b u q n _=>by rw [upd_ne (hx b n)];exact n,fun b u q _=>?_,
    fun b xs q=>by rw [upd_ne (hm b _ q fun z=>z)];exact q,fun b u xs q=>by rw [upd_ne (hm b _ q fun z=>z)];exact q,fun b ps q=>⟨#[],by rw [upd_ne (hm b _ q fun z=>z),q];simp⟩⟩
  by_cases hbe:b=e
  · subst hbe;exact heo
  · exact ⟨u,k b u hbe q⟩
end
def trk (h:Heap) (H:Hp):List Addr:=(List.range h.objs.size).filter fun a=>(H a).isSome
def hidT (h:Heap) (H:Hp):Heap:=PySem.W.hideAll h (trk h H)
theorem hidT_size (h:Heap) (H:Hp):(hidT h H).objs.size=h.objs.size:=PySem.W.hideAll_size _ _
theorem hidT_get {h:Heap} {H:Hp} {b:Addr} {o:Obj} (e:h.get? b=some o) (n:H b=none):(hidT h H).get? b=some o:=
  PySem.W.hideAll_get _ e fun hm=>by
    have q:(H b).isSome=true:=(List.mem_filter.mp hm).2
    rw [n] at q;simp at q
theorem of_hidT {h:Heap} {H:Hp} {b:Addr} {o:Obj} (e:(hidT h H).get? b=some o):h.get? b=some o∧H b=none:=by
  have e':h.get? b=some o:=PySem.W.of_hideAll (trk h H) e
  refine ⟨e',?_⟩
  cases q:H b with
  | none=>rfl
  | some x=>
    have hm:b∈trk h H:=List.mem_filter.mpr ⟨List.mem_range.mpr (Heap.lt_size e'),by simp [q]⟩
    have z:(hidT h H).get? b=none:=PySem.W.hideAll_none (trk h H) hm
    rw [z] at e;cases e
end L2
namespace L2
open PySem PySem.Spec PyProof.Rows
structure Mod (K:PySem.W.Frag) (mg:Str→Option Value) (base:Heap):Prop where
  kin:K.In base
  glob:base.Ns mainGlobals mg
  blt:∃ mb,base.Ns builtinsNs mb∧∀ x:Str,x ≠ "__name__" → mb x=bootBuiltins x
  nolimit:base.NoLimit
structure Cx where
  prog:Program
  w:World
  K:PySem.W.Frag
  mg:Str→Option Value
  base:Heap
  A:Around
  N:List Str
  s₀:Shared
  H₀:Hp
  env:Env
  outer:List Env
  stack:List Env
  ex:List Addr
  fn:Str→Bool
  calm:Bool
  pn:List (Addr × Obj)
  xe:Value→Shared→Prop
def frs (l:List Env):List Addr:=l.filterMap (·.frame)
abbrev Cx.fs (X:Cx):List Addr:=frs X.outer
def Vis (sc:Scope) (x:Str):Prop:=sc.names.lookup x=some .local∨sc.names.lookup x=some .cell∨sc.names.lookup x=some .free
def Loc (sc:Scope) (x:Str):Prop:=sc.names.lookup x=some .local∨sc.names.lookup x=some .cell
def Look (env:Env) (h:Heap) (m:Str→Option Value) (x:Str) (u:Value):Prop:=
  (env.kindOf x=some .local∧m x=some u)∨((env.kindOf x=some .cell∨env.kindOf x=some .free)∧∃ c,env.cells.lookup x=some c∧h.IsCell c (some u))
structure Cx.Ok (X:Cx):Prop where
  mod:Mod X.K X.mg X.base
  kind:X.env.scope.kind=.function
  glob:X.env.globals=mainGlobals
  blt:X.env.builtins=builtinsNs
  above:X.s₀.heap.objs.size≤X.env.locals
  inj:∀ x y c,X.env.cells.lookup x=some c→X.env.cells.lookup y=some c→x=y
  has:∀ x,(X.env.kindOf x=some .cell∨X.env.kindOf x=some .free)→∃ c,X.env.cells.lookup x=some c
  cab:∀ x c,X.fn x=true→X.env.cells.lookup x=some c→X.s₀.heap.objs.size≤c
  hd:X.calm=true→X.A.handled=none
  frames:X.A.frames=some X.stack
  stk:X.stack=X.outer∨(X.stack=X.env :: X.outer∧X.env.frame=some X.env.locals)
  exf:∀ b∈X.ex,b≠X.env.locals∧∀ x c,X.env.cells.lookup x=some c→c≠b
  bs:∀ b o,X.base.get? b=some o→X.s₀.heap.get? b=some o∧X.H₀ b=none
  bsz:X.base.objs.size≤X.s₀.heap.objs.size
  noex:∀ b o,X.base.get? b=some o→b ∉ X.ex
  exfs:∀ b∈X.ex,b ∉ X.fs
  funs:X.s₀.heap.FunFrames X.base X.outer
  frf:∀ b∈X.fs,X.H₀ b=none
structure Inv (X:Cx) (pins:List (Addr × Obj)) (σ:List (Option V)) (H:Hp) (s:Shared):Prop where
  ok:X.Ok
  os:s.os=X.s₀.os
  bare:AllBare s.gens
  base:Un X.fs X.ex X.H₀ H X.s₀.heap s.heap
  loc:∃ m,s.heap.Ns X.env.locals m∧∀ (i:Nat) (x:Str) (v:V),X.N[i]?=some x→σ[i]?=some (some v)→Vis X.env.scope x→∃ u,RelV v u∧Look X.env s.heap m x u
  cell:∀ x c,X.env.cells.lookup x=some c→∃ v,s.heap.IsCell c v
  free:H X.env.locals=none
  freeC:∀ x c,X.env.cells.lookup x=some c→H c=none
  pin:∀ p∈X.pn++pins,s.heap.get? p.1=some p.2∧H p.1=none∧p.1≠X.env.locals∧p.1 ∉ X.fs∧∀ v,p.2.data≠.cell v
  hok:HOk X.prog X.w H s.heap
  len:σ.length=X.N.length
section
variable {X:Cx} {pins:List (Addr × Obj)} {σ:List (Option V)} {H H':Hp} {s:Shared} {h':Heap}
theorem Cx.Ok.nofr (ok:X.Ok) {b:Addr} {o:Obj} (e:X.base.get? b=some o):b ∉ X.fs:=fun hb=>by
  have:=(ok.funs.mem hb).1
  rw [e] at this;cases this
theorem Inv.bs (I:Inv X pins σ H s):∀ b o,X.base.get? b=some o→s.heap.get? b=some o∧H b=none:=fun b o e=>
  ⟨I.base.keep b o (I.ok.bs b o e).1 (I.ok.bs b o e).2 (I.ok.nofr e) (I.ok.noex b o e),I.base.free b o (I.ok.bs b o e).1 (I.ok.bs b o e).2 (I.ok.noex b o e)⟩
theorem Inv.bk (I:Inv X pins σ H s):∀ b o,X.base.get? b=some o→s.heap.get? b=some o:=fun b o e=>(I.bs b o e).1
theorem Inv.mod (I:Inv X pins σ H s):Mod X.K X.mg X.base:=I.ok.mod
theorem Inv.kIn (I:Inv X pins σ H s):X.K.In s.heap:=I.ok.mod.kin.keeps I.bk
theorem Inv.nolimit (I:Inv X pins σ H s):s.heap.NoLimit:=I.ok.mod.nolimit.keeps I.bk
theorem Inv.lt (I:Inv X pins σ H s):X.env.locals < s.heap.objs.size:=let ⟨_,hn,_⟩:=I.loc;hn.lt
theorem Inv.sz (I:Inv X pins σ H s):X.s₀.heap.objs.size≤s.heap.objs.size:=Nat.le_trans I.ok.above (Nat.le_of_lt I.lt)
theorem Inv.nofs (I:Inv X pins σ H s) {a:Addr} (h:s.heap.objs.size≤a):a ∉ X.fs:=fun hb=>by
  obtain ⟨_,o,ho,_⟩:=I.ok.funs.mem hb
  exact absurd (Nat.lt_of_lt_of_le (Heap.lt_size ho) (Nat.le_trans I.sz h)) (Nat.lt_irrefl _)
theorem Inv.cne (I:Inv X pins σ H s):∀ x c,X.env.cells.lookup x=some c→c≠X.env.locals:=fun x c e z=>by
  obtain ⟨v,o,ho,hd⟩:=I.cell x c e
  obtain ⟨m,⟨o',es,ep,ho',hd',_⟩,_⟩:=I.loc
  rw [z,ho'] at ho;cases ho;rw [hd'] at hd;cases hd
theorem Inv.funs (I:Inv X pins σ H s):s.heap.FunFrames X.base X.outer:=by
  have all:∀ (l:List Env),(∀ b∈frs l,b∈X.fs)→X.s₀.heap.FunFrames X.base l→s.heap.FunFrames X.base l:=by
    intro l
    induction l with
    | nil=>intro _ _;trivial
    | cons env r ih=>
      intro hs hl
      obtain ⟨hk,⟨L,o,hf,hn,ho,hd⟩,hr⟩:=hl
      have hL:L∈X.fs:=hs L (by unfold frs;rw [List.filterMap_cons,hf];exact List.mem_cons_self)
      obtain ⟨sl,e⟩:=I.base.slot L o ho (I.ok.frf L hL) hL fun z=>I.ok.exfs L z hL
      exact ⟨hk,⟨L,_,hf,hn,e,hd⟩,ih (fun b hb=>hs b (by unfold frs;rw [List.filterMap_cons,hf];exact List.mem_cons_of_mem _ hb)) hr⟩
  exact all X.outer (fun _ hb=>hb) I.ok.funs
theorem Inv.stack (I:Inv X pins σ H s):s.heap.FunFrames X.base X.stack:=by
  rcases I.ok.stk with e | ⟨e,hf⟩
  · rw [e];exact I.funs
  · rw [e]
    obtain ⟨m,hn,_⟩:=I.loc
    refine .cons (by rw [I.ok.kind];decide) hf hn ?_ I.funs
    exact Heap.get?_none_of_le (Nat.le_trans I.ok.bsz I.ok.above)
theorem Inv.stkSub (I:Inv X pins σ H s):∀ b∈frs X.stack,b∈X.env.locals :: X.fs:=fun b hb=>by
  rcases I.ok.stk with e | ⟨e,hf⟩
  · rw [e] at hb;exact List.mem_cons_of_mem _ hb
  · rw [e] at hb
    unfold frs at hb
    rw [List.filterMap_cons,hf] at hb
    exact hb
theorem Inv.stkFree (I:Inv X pins σ H s):∀ b∈frs X.stack,H b=none:=fun b hb=>by
  rcases List.mem_cons.mp (I.stkSub b hb) with e | hb
  · rw [e];exact I.free
  · obtain ⟨_,o,ho,_⟩:=I.ok.funs.mem hb
    exact I.base.free b o ho (I.ok.frf b hb) fun z=>I.ok.exfs b z hb
theorem Inv.step {g':Array GenState} {t':Nat} {d':Drawn} {ch:List Addr} (I:Inv X pins σ H s)
    (hch:∀ b∈ch,(b∈X.ex∨X.s₀.heap.objs.size≤b)∧b≠X.env.locals∧(∀ x c,X.env.cells.lookup x=some c→c≠b)∧∀ p∈X.pn++pins,p.1≠b)
    (keep:∀ b o,b≠X.env.locals→b ∉ X.fs→b ∉ ch→s.heap.get? b=some o→H b=none→h'.get? b=some o)
    (slot:∀ b o,b≠X.env.locals→b∈X.fs→b ∉ ch→s.heap.get? b=some o→H b=none→∃ sl,h'.get? b=some { o with slots:=sl }) (free:∀ b o,b ∉ ch→s.heap.get? b=some o→H b=none→H' b=none)
    (there:∀ b o,b ∉ ch→s.heap.get? b=some o→∃ o',h'.get? b=some o')
    (tups:∀ b xs,H b=some (.tup xs)→H' b=some (.tup xs)) (frzs:∀ b o u,H b=some (.frz o u)→H' b=some (.frz o u)) (tbls:∀ b ps,H b=some (.tbl ps)→∃ more,H' b=some (.tbl (ps++more)))
    (ns:∀ m,s.heap.Ns X.env.locals m→h'.Ns X.env.locals m) (hok:HOk X.prog X.w H' h') (hg:AllBare g') :
    Inv X pins σ H' { s with heap:=h',gens:=g',drawn:=d',toks:=t' }:=by
  have neL:∀ b o,X.s₀.heap.get? b=some o→b≠X.env.locals:=fun b o e=>Nat.ne_of_lt (Nat.lt_of_lt_of_le (Heap.lt_size e) I.ok.above)
  have neC:∀ b o,X.s₀.heap.get? b=some o→b ∉ X.ex→b ∉ ch:=fun b o e hx hb=>by
    rcases (hch b hb).1 with z | z
    · exact hx z
    · exact absurd (Nat.lt_of_lt_of_le (Heap.lt_size e) z) (Nat.lt_irrefl _)
  have cellK:∀ x c,X.env.cells.lookup x=some c→∀ v,s.heap.IsCell c v→h'.IsCell c v:=fun x c e v ⟨o,ho,hd⟩=>by
    have nch:c ∉ ch:=fun z=>(hch c z).2.2.1 x c e rfl
    by_cases hc:c∈X.fs
    · obtain ⟨sl,q⟩:=slot c o (I.cne x c e) hc nch ho (I.freeC x c e)
      exact ⟨_,q,hd⟩
    · exact ⟨o,keep c o (I.cne x c e) hc nch ho (I.freeC x c e),hd⟩
  refine ⟨I.ok,I.os,hg,⟨fun b o e n hb hx=>?_,fun b o e n hb hx=>?_,fun b o e n hx=>?_,fun b o e hx=>?_,fun b xs e=>tups b xs (I.base.tups b xs e),fun b o xs e=>frzs b o xs (I.base.frzs b o xs e),fun b ps e=>?_⟩,?_,fun x c e=>?_,?_,fun x c e=>?_,fun p hp=>?_,hok,I.len⟩
  · exact keep b o (neL b o e) hb (neC b o e hx) (I.base.keep b o e n hb hx) (I.base.free b o e n hx)
  · obtain ⟨sl,e1⟩:=I.base.slot b o e n hb hx
    obtain ⟨sl',e2⟩:=slot b _ (neL b o e) hb (neC b o e hx) e1 (I.base.free b o e n hx)
    exact ⟨sl',e2⟩
  · obtain ⟨o',e1⟩:=I.base.there b o e hx
    exact free b o' (neC b o e hx) e1 (I.base.free b o e n hx)
  · obtain ⟨o',e1⟩:=I.base.there b o e hx
    exact there b o' (neC b o e hx) e1
  · obtain ⟨m1,e1⟩:=I.base.tbls b ps e
    obtain ⟨m2,e2⟩:=tbls b _ e1
    exact ⟨m1++m2,by rw [e2,Array.append_assoc]⟩
  · obtain ⟨m,hn,hl⟩:=I.loc
    refine ⟨m,ns m hn,fun i x v e1 e2 e3=>?_⟩
    obtain ⟨u,r,l⟩:=hl i x v e1 e2 e3
    refine ⟨u,r,?_⟩
    rcases l with l | ⟨k,c,e,z⟩
    · exact .inl l
    · exact .inr ⟨k,c,e,cellK x c e _ z⟩
  · obtain ⟨v,z⟩:=I.cell x c e
    exact ⟨v,cellK x c e v z⟩
  · obtain ⟨m,⟨o,_,_,ho,_⟩,_⟩:=I.loc
    exact free _ o (fun z=>(hch _ z).2.1 rfl) ho I.free
  · obtain ⟨v,o,ho,hd⟩:=I.cell x c e
    exact free c o (fun z=>(hch c z).2.2.1 x c e rfl) ho (I.freeC x c e)
  · obtain ⟨e,n,ne,nf,d⟩:=I.pin p hp
    have nch:p.1 ∉ ch:=fun z=>(hch p.1 z).2.2.2 p hp rfl
    exact ⟨keep p.1 p.2 ne nf nch e n,free p.1 p.2 nch e n,ne,nf,d⟩
theorem Inv.un {t':Nat} (I:Inv X pins σ H s) (u:Un X.fs [] H H' s.heap h') (hok:HOk X.prog X.w H' h'):Inv X pins σ H' { s with heap:=h',toks:=t' }:=by
  obtain ⟨m,⟨o,es,ep,ho,r⟩,_⟩:=id I.loc
  obtain ⟨sl,hL⟩:=u.any ho I.free (by simp)
  exact I.step (g':=s.gens) (d':=s.drawn) (ch:=[]) (fun _ z=>nomatch z) (fun b o _ hb _ e n=>u.keep b o e n hb (by simp)) (fun b o _ hb _ e n=>u.slot b o e n hb (by simp)) (fun b o _ e n=>u.free b o e n (by simp)) (fun b o _ e=>u.there b o e (by simp)) u.tups u.frzs u.tbls (fun m' hm=>by
    obtain ⟨o',es',ep',ho',r'⟩:=hm
    rw [ho] at ho';cases ho'
    exact ⟨_,es',ep',hL,r'⟩) hok I.bare
theorem Inv.call {g':Array GenState} {t':Nat} {d':Drawn} {ch:List Addr} (I:Inv X pins σ H s) (u:Un (frs X.stack) ch H H' s.heap h') (hok:HOk X.prog X.w H' h') (hg:AllBare g')
    (hch:∀ b∈ch,(b∈X.ex∨X.s₀.heap.objs.size≤b)∧b≠X.env.locals∧(∀ x c,X.env.cells.lookup x=some c→c≠b)∧∀ p∈X.pn++pins,p.1≠b) :
    Inv X pins σ H' { s with heap:=h',gens:=g',drawn:=d',toks:=t' }:=by
  obtain ⟨m,⟨o,es,ep,ho,r⟩,_⟩:=id I.loc
  obtain ⟨sl,hL⟩:=u.any ho I.free fun z=>(hch _ z).2.1 rfl
  exact I.step (ch:=ch) hch (fun b o hL hb hc e n=>u.keep b o e n (fun z=>(List.mem_cons.mp (I.stkSub b z)).elim hL hb) hc) (fun b o _ _ hc e n=>u.any e n hc) (fun b o hc e n=>u.free b o e n hc) (fun b o hc e=>u.there b o e hc) u.tups u.frzs u.tbls (fun m' hm=>by
    obtain ⟨o',es',ep',ho',r'⟩:=hm
    rw [ho] at ho';cases ho'
    exact ⟨_,es',ep',hL,r'⟩) hok hg
theorem Inv.turned {t':Nat} {it:Addr} (I:Inv X pins σ H s) (k:∀ b o,b≠it→s.heap.get? b=some o→h'.get? b=some o) (hn:H it=none) (hL:it≠X.env.locals)
    (h1:it∈X.ex∨X.s₀.heap.objs.size≤it) (h2:∀ x c,X.env.cells.lookup x=some c→c≠it) (h3:∀ p∈X.pn++pins,p.1≠it):Inv X pins σ H { s with heap:=h',toks:=t' }:=by
  have nit:∀ b u,H b=some u→b≠it:=fun b u e z=>by rw [z,hn] at e;cases e
  refine I.step (g':=s.gens) (d':=s.drawn) (ch:=[it]) (fun b hb=>?_) (fun b o _ _ hc e _=>k b o (fun z=>hc (by simp [z])) e) (fun b o _ _ hc e _=>⟨o.slots,k b o (fun z=>hc (by simp [z])) e⟩) (fun _ _ _ _ n=>n)
    (fun b o hc e=>⟨o,k b o (fun z=>hc (by simp [z])) e⟩) (fun _ _ e=>e) (fun _ _ _ e=>e) (fun b ps e=>⟨#[],by rw [e];simp⟩) (fun m hm=>?_) (fun b u e=>?_) I.bare
  · have e:b=it:=by simpa using hb
    subst e
    exact ⟨h1,hL,h2,h3⟩
  · obtain ⟨o,es,ep,ho,r⟩:=hm
    exact ⟨o,es,ep,k _ o (Ne.symm hL) ho,r⟩
  · refine (I.hok b u e).stay (fun c v hc q=>k c v ?_ q) (fun _ q=>q) fun _ _ q=>q
    rcases hc with z | z
    · rw [z];exact nit b u e
    · exact nit c _ z
theorem Inv.tok (I:Inv X pins σ H s) (t:Nat):Inv X pins σ H { s with toks:=t }:=I.un (h':=s.heap) (t':=t) Un.refl I.hok
theorem Inv.kept {t':Nat} (I:Inv X pins σ H s) (k:∀ b u,s.heap.get? b=some u→h'.get? b=some u):Inv X pins σ H { s with heap:=h',toks:=t' }:=I.un (Un.kept k) (I.hok.kept k)
theorem Inv.laid {a:Addr} {o:HO} {t':Nat} (I:Inv X pins σ H s) (k:∀ b u,s.heap.get? b=some u→h'.get? b=some u) (hp:s.heap.objs.size≤a) (new:ObjOk X.prog X.w (upd H a o) h' a o) :
    Inv X pins σ (upd H a o) { s with heap:=h',toks:=t' }:=I.un (Un.laid k hp (I.hok.fresh hp)) (I.hok.laid k hp new)
theorem Inv.write {x e:Addr} {o:HO} {t':Nat} (I:Inv X pins σ H s) (mu:Mut (H x)) (he:e=x∨H e=some (.own x)) (k:∀ b u,b≠e→s.heap.get? b=some u→h'.get? b=some u) (heo:∃ u,h'.get? e=some u)
    (new:ObjOk X.prog X.w (upd H x o) h' x o):Inv X pins σ (upd H x o) { s with heap:=h',toks:=t' }:=I.un (Un.write mu he k heo) (I.hok.write mu he k heo new)
theorem Inv.weak {σ':List (Option V)} (I:Inv X pins σ H s) (hl:σ'.length=σ.length) (w:∀ (i:Nat) v,σ'[i]?=some (some v)→σ[i]?=some (some v)):Inv X pins σ' H s:=
  ⟨I.ok,I.os,I.bare,I.base,let ⟨m,hn,hl'⟩:=I.loc;⟨m,hn,fun i x v e1 e2 e3=>hl' i x v e1 (w i v e2) e3⟩,I.cell,I.free,I.freeC,I.pin,I.hok,hl.trans I.len⟩
theorem Inv.pins_of {pins':List (Addr × Obj)} (I:Inv X pins σ H s) (h:∀ p∈pins',s.heap.get? p.1=some p.2∧H p.1=none∧p.1≠X.env.locals∧p.1 ∉ X.fs∧∀ v,p.2.data≠.cell v):Inv X pins' σ H s:=
  ⟨I.ok,I.os,I.bare,I.base,I.loc,I.cell,I.free,I.freeC,fun p hp=>(List.mem_append.mp hp).elim (fun z=>I.pin p (List.mem_append_left _ z)) (h p),I.hok,I.len⟩
theorem nodup_ix {N:List Str} (hN:N.Nodup) {i j:Nat} {x:Str} (a:N[i]?=some x) (b:N[j]?=some x):i=j:=by
  obtain ⟨h1,e1⟩:=List.getElem?_eq_some_iff.mp a
  obtain ⟨h2,e2⟩:=List.getElem?_eq_some_iff.mp b
  exact (List.getElem_inj hN).mp (e1.trans e2.symm)
theorem store_ok2 {M:Model} {A:Around} {E:Value→Shared→Prop} {i:Nat} {x:Str} {v:V} {u:Value} {Q:Unit→Shared→Prop} (I:Inv X pins σ H s) (hN:X.N.Nodup) (hi:X.N[i]?=some x) (hx:Loc X.env.scope x) (r:RelV v u)
    (h:∀ s',Inv X pins (σ.set i (some v)) H s'→(∃ a,Heap.SameBut a s.heap s'.heap∧(a=X.env.locals∨X.env.cells.lookup x=some a))→Q () s') (hf:X.fn x=true∨X.env.scope.names.lookup x=some .local:=by first | exact .inl rfl | exact .inr rfl | assumption):wpAny M A (storeName X.env x u) Q E s:=by
  obtain ⟨m,hn,hl⟩:=id I.loc
  have hcls:(X.env.scope.kind == .class || (X.env.scope.kind == .module && X.env.locals != X.env.globals))=false:=by rw [I.ok.kind];rfl
  have hiσ:i < σ.length:=by rw [I.len];exact (List.getElem?_eq_some_iff.mp hi).1
  have cne:=I.cne
  have tracked:∀ {a:Addr} {h':Heap},(∃ o,s.heap.get? a=some o∧H a=none)→Heap.SameBut a s.heap h'→HOk X.prog X.w H h':=fun {a h'} ha hs b ob e=>by
    obtain ⟨_,_,hfree⟩:=ha
    refine (I.hok b ob e).stay (fun c w' hc q=>(hs.2 c ?_).trans q) (fun _ q=>q) fun _ _ q=>q
    rintro rfl
    rcases hc with rfl | hc
    · rw [hfree] at e;cases e
    · rw [hfree] at hc;cases hc
  rcases hx with hk | hk
  · refine wpAny_storeName_local hk hn (fun h' hn' hs=>?_) hcls
    obtain ⟨oL,_,_,hoL,_⟩:=id hn
    refine h _ ⟨I.ok,I.os,I.bare,⟨fun b o e n hb hx=>?_,fun b o e n hb hx=>?_,I.base.free,fun b o e hx=>?_,I.base.tups,I.base.frzs,I.base.tbls⟩,⟨_,hn',fun j y v' e1 e2 e3=>?_⟩,fun y c e=>?_,I.free,I.freeC,fun p hp=>?_,tracked ⟨oL,hoL,I.free⟩ hs,by simpa using I.len⟩ ⟨_,hs,.inl rfl⟩
    · exact (hs.2 b (Nat.ne_of_lt (Nat.lt_of_lt_of_le (Heap.lt_size e) I.ok.above))).trans (I.base.keep b o e n hb hx)
    · obtain ⟨sl,e1⟩:=I.base.slot b o e n hb hx
      exact ⟨sl,(hs.2 b (Nat.ne_of_lt (Nat.lt_of_lt_of_le (Heap.lt_size e) I.ok.above))).trans e1⟩
    · obtain ⟨o',e1⟩:=I.base.there b o e hx
      exact ⟨o',(hs.2 b (Nat.ne_of_lt (Nat.lt_of_lt_of_le (Heap.lt_size e) I.ok.above))).trans e1⟩
    · by_cases hj:j=i
      · subst hj
        rw [hi] at e1;cases e1
        rw [List.getElem?_set_self hiσ] at e2
        cases e2
        exact ⟨u,r,.inl ⟨hk,by simp⟩⟩
      · rw [List.getElem?_set_ne (Ne.symm hj)] at e2
        obtain ⟨u',r',q⟩:=hl j y v' e1 e2 e3
        refine ⟨u',r',?_⟩
        rcases q with ⟨k,e⟩ | ⟨k,c,e,z⟩
        · refine .inl ⟨k,?_⟩
          have:y≠x:=fun e=>hj (nodup_ix hN e1 (e ▸ hi))
          simp [this,e]
        · exact .inr ⟨k,c,e,z.sameBut hs (cne y c e)⟩
    · obtain ⟨w',z⟩:=I.cell y c e
      exact ⟨w',z.sameBut hs (cne y c e)⟩
    · obtain ⟨e,n,ne,nf,d⟩:=I.pin p hp
      exact ⟨(hs.2 p.1 ne).trans e,n,ne,nf,d⟩
  · have hfn:X.fn x=true:=by
      rcases hf with z | z
      · exact z
      · rw [z] at hk;cases hk
    obtain ⟨c,hc⟩:=I.ok.has x (.inl hk)
    obtain ⟨w',z⟩:=I.cell x c hc
    refine wpAny_storeName_cell I.ok.kind hk hc z (fun h' hc' hs=>?_)
    obtain ⟨oc,hoc,hocd⟩:=id z
    refine h { s with heap:=h' } ⟨I.ok,I.os,I.bare,⟨fun b o e n hb hx=>?_,fun b o e n hb hx=>?_,I.base.free,fun b o e hx=>?_,I.base.tups,I.base.frzs,I.base.tbls⟩,⟨m,hn.sameBut hs (Ne.symm (cne x c hc)),fun j y v' e1 e2 e3=>?_⟩,fun y c' e=>?_,I.free,I.freeC,fun p hp=>?_,tracked ⟨oc,hoc,I.freeC x c hc⟩ hs,by simpa using I.len⟩ ⟨c,hs,.inr hc⟩
    · exact (hs.2 b (Nat.ne_of_lt (Nat.lt_of_lt_of_le (Heap.lt_size e) (I.ok.cab x c hfn hc)))).trans (I.base.keep b o e n hb hx)
    · obtain ⟨sl,e1⟩:=I.base.slot b o e n hb hx
      exact ⟨sl,(hs.2 b (Nat.ne_of_lt (Nat.lt_of_lt_of_le (Heap.lt_size e) (I.ok.cab x c hfn hc)))).trans e1⟩
    · obtain ⟨o',e1⟩:=I.base.there b o e hx
      exact ⟨o',(hs.2 b (Nat.ne_of_lt (Nat.lt_of_lt_of_le (Heap.lt_size e) (I.ok.cab x c hfn hc)))).trans e1⟩
    · by_cases hj:j=i
      · subst hj
        rw [hi] at e1;cases e1
        rw [List.getElem?_set_self hiσ] at e2
        cases e2
        exact ⟨u,r,.inr ⟨.inl hk,c,hc,hc'⟩⟩
      · rw [List.getElem?_set_ne (Ne.symm hj)] at e2
        obtain ⟨u',r',q⟩:=hl j y v' e1 e2 e3
        refine ⟨u',r',?_⟩
        rcases q with q | ⟨k,c',e,z'⟩
        · exact .inl q
        · refine .inr ⟨k,c',e,z'.sameBut hs ?_⟩
          rintro rfl
          exact hj (nodup_ix hN e1 (I.ok.inj _ _ _ e hc ▸ hi))
    · by_cases hcc:c'=c
      · subst hcc;exact ⟨_,hc'⟩
      · obtain ⟨w2,z2⟩:=I.cell y c' e
        exact ⟨w2,z2.sameBut hs hcc⟩
    · obtain ⟨e,n,ne,nf,d⟩:=I.pin p hp
      refine ⟨(hs.2 p.1 ?_).trans e,n,ne,nf,d⟩
      intro q
      rw [q,hoc] at e
      have q':oc=p.2:=Option.some.inj e
      exact d w' (by rw [← q'];exact hocd)
theorem store_ok {M:Model} {A:Around} {E:Value→Shared→Prop} {i:Nat} {x:Str} {v:V} {u:Value} {Q:Unit→Shared→Prop} (I:Inv X pins σ H s) (hN:X.N.Nodup) (hi:X.N[i]?=some x) (hx:Loc X.env.scope x) (r:RelV v u)
    (h:∀ s',Inv X pins (σ.set i (some v)) H s'→Q () s') (hf:X.fn x=true∨X.env.scope.names.lookup x=some .local:=by first | exact .inl rfl | exact .inr rfl | assumption):wpAny M A (storeName X.env x u) Q E s:=
  store_ok2 I hN hi hx r (fun s' I' _=>h s' I') hf
theorem Inv.call' {s':Shared} {ch:List Addr} (I:Inv X pins σ H s) (ho:s'.os=s.os) (u:Un (frs X.stack) ch H H' s.heap s'.heap) (hok:HOk X.prog X.w H' s'.heap) (hg:AllBare s'.gens)
    (hch:∀ b∈ch,(b∈X.ex∨X.s₀.heap.objs.size≤b)∧b≠X.env.locals∧(∀ x c,X.env.cells.lookup x=some c→c≠b)∧∀ p∈X.pn++pins,p.1≠b):Inv X pins σ H' s':=by
  obtain ⟨h',g',d',t',o'⟩:=s'
  have e:o'=s.os:=ho
  subst e
  exact I.call (g':=g') (t':=t') (d':=d') u hok hg hch
end
abbrev XK:=Value→Option Addr→Hp→Prop
abbrev St:=List (Option V)
abbrev VK:=V→Hp→Prop
abbrev TE:=St→Hp→VK→Prop
abbrev TT:=St→Hp→(Bool→Hp→Prop)→Prop
abbrev TA:=St→Hp→(List V→Hp→Prop)→Prop
structure Ends where
  nx:St→Hp→Prop
  rt:VK
  bk:St→Hp→Prop:=fun _ _=>False
  ct:St→Hp→Prop:=fun _ _=>False
abbrev TS:=Ends→St→Hp→Prop
def EP (X:Cx) (pins:List (Addr × Obj)) (σ:St) (Q:VK) (u:Value) (s':Shared):Prop:=∃ v H',Inv X pins σ H' s'∧RelV v u∧Q v H'
def TP (X:Cx) (pins:List (Addr × Obj)) (σ:St) (Q:Bool→Hp→Prop) (b:Bool) (s':Shared):Prop:=∃ H',Inv X pins σ H' s'∧Q b H'
def AP (X:Cx) (pins:List (Addr × Obj)) (σ:St) (Q:List V→Hp→Prop) (us:List Value) (s':Shared):Prop:=∃ vs H',Inv X pins σ H' s'∧Vals vs us∧Q vs H'
def SP (X:Cx) (pins:List (Addr × Obj)) (D:Ends) (f:Flow) (s':Shared):Prop:=
  match f with
  | .next=>∃ σ' H',Inv X pins σ' H' s'∧D.nx σ' H'
  | .brk=>∃ σ' H',Inv X pins σ' H' s'∧D.bk σ' H'
  | .cont=>∃ σ' H',Inv X pins σ' H' s'∧D.ct σ' H'
  | .ret u=>∃ v σ' H',Inv X pins σ' H' s'∧RelV v u∧D.rt v H'
def PE (X:Cx) (e:Expr) (t:TE):Prop:=
  ∀ (pins:List (Addr × Obj)) (s:Shared) (σ:St) (H:Hp) (Q:VK),Inv X pins σ H s→t σ H Q→wpAny (model X.prog X.w) X.A (eval e X.env) (EP X pins σ Q) X.xe s
def PT (X:Cx) (e:Expr) (t:TT):Prop:=
  ∀ (pins:List (Addr × Obj)) (s:Shared) (σ:St) (H:Hp) (Q:Bool→Hp→Prop),Inv X pins σ H s→t σ H Q→wpAny (model X.prog X.w) X.A (isTrue e X.env (eval e X.env)) (TP X pins σ Q) X.xe s
def PW (X:Cx) (e:Expr) (t:TT):Prop:=
  ∀ (whole:Sem Value) (pins:List (Addr × Obj)) (s:Shared) (σ:St) (H:Hp) (Q:Bool→Hp→Prop),Inv X pins σ H s→t σ H Q→wpAny (model X.prog X.w) X.A (isTrue e X.env whole) (TP X pins σ Q) X.xe s
theorem PW.pt {X:Cx} {e:Expr} {t:TT} (h:PW X e t):PT X e t:=h _
def PA (X:Cx) (es:List Expr) (t:TA):Prop:=
  ∀ (pos:Pos) (pins:List (Addr × Obj)) (s:Shared) (σ:St) (H:Hp) (Q:List V→Hp→Prop),Inv X pins σ H s→t σ H Q→wpAny (model X.prog X.w) X.A (spliced (backTo pos (starEach es X.env))) (AP X pins σ Q) X.xe s
def PS (X:Cx) (st:Stmt) (t:TS):Prop:=
  ∀ (pins:List (Addr × Obj)) (s:Shared) (σ:St) (H:Hp) (D:Ends),Inv X pins σ H s→t D σ H→wpAny (model X.prog X.w) X.A (exec st X.env) (SP X pins D) X.xe s
def PSs (X:Cx) (st:List Stmt) (t:TS):Prop:=
  ∀ (pins:List (Addr × Obj)) (s:Shared) (σ:St) (H:Hp) (D:Ends),Inv X pins σ H s→t D σ H→wpAny (model X.prog X.w) X.A (execs st X.env) (SP X pins D) X.xe s
theorem thn {α:Type} {t:Sem α} {Q Q':α→Shared→Prop} {M:Model} {A:Around} {E:Value→Shared→Prop} {s:Shared} (h:wpAny M A t Q E s) (hQ:∀ a s,Q a s→Q' a s):wpAny M A t Q' E s:=wpAny_mono h hQ fun _ _ x=>x
end L2
namespace L2
open PySem PySem.Spec PyProof.Rows
section
variable {X:Cx}
def tVar (i:Nat):TE:=fun σ H Q=>∃ v,σ[i]?=some (some v)∧Q v H
def tC (v:V):TE:=fun _ H Q=>Q v H
theorem pe_var {i:Nat} {x:Str} {pos:Pos} (hN:X.N[i]?=some x) (hv:Vis X.env.scope x) (hd:(x == ("__debug__" : Str))=false:=by decide) (hcd:(x == ("__classdict__" : Str))=false:=by decide):PE X (.Name x pos) (tVar i):=by
  intro pins s σ H Q I h
  obtain ⟨v,e,h⟩:=h
  obtain ⟨m,hn,hl⟩:=I.loc
  obtain ⟨u,r,l⟩:=hl i x v hN e hv
  have fin:EP X pins σ Q u s:=⟨v,H,I,r,h⟩
  rcases l with ⟨hk,hm⟩ | ⟨hk,c,hc,hcell⟩
  · exact wpAny_Name (wpAny_loadName_local I.ok.kind hk hn hm fin) hd
  · rcases hk with hk | hk
    · exact wpAny_Name (wpAny_loadName_cell I.ok.kind hk hc hcell fin) hd
    · exact wpAny_Name (wpAny_loadName_free I.ok.kind hk hc hcell fin hcd) hd
theorem pe_int {i j pos}:PE X (.Constant (.int i) j pos) (tC (.int i)):=fun _ _ _ H _ I h=>wpAny_Constant_int ⟨.int i,H,I.tok _,⟨_,rfl⟩,h⟩
theorem pe_bl {b j pos}:PE X (.Constant (.bool b) j pos) (tC (.bl b)):=fun _ _ _ H _ I h=>Constant_bool ⟨.bl b,H,I,rfl,h⟩
theorem pe_non {j pos}:PE X (.Constant .none j pos) (tC .non):=fun _ _ _ H _ I h=>Constant_none ⟨.non,H,I,rfl,h⟩
theorem pe_str {x j pos}:PE X (.Constant (.str x) j pos) (tC (.str x)):=fun _ _ _ H _ I h=>Calls.Constant_str ⟨.str x,H,I.tok _,⟨_,rfl⟩,h⟩
def Gl (X:Cx) (x:Str):Prop:=X.env.kindOf x=some .globalImplicit
theorem ld_glob {E:Value→Shared→Prop} {pins:List (Addr × Obj)} {s:Shared} {σ:St} {H:Hp} {x:Str} {u:Value} {pos:Pos} {Q:Value→Shared→Prop} (I:Inv X pins σ H s) (hg:Gl X x) (hm:X.mg x=some u) (h:Q u s)
    (hd:(x == ("__debug__" : Str))=false:=by decide):wpAny (model X.prog X.w) X.A (eval (.Name x pos) X.env) Q E s:=
  Calls.Name_function_global I.ok.kind hg (Calls.loadGlobal_global (by rw [I.ok.glob];exact I.mod.glob.keeps I.bk) hm h) hd
theorem ld_blt {E:Value→Shared→Prop} {pins:List (Addr × Obj)} {s:Shared} {σ:St} {H:Hp} {x:Str} {u:Value} {pos:Pos} {Q:Value→Shared→Prop} (I:Inv X pins σ H s) (hg:Gl X x) (hm:X.mg x=none) (hv:bootBuiltins x=some u) (h:Q u s)
    (hn:x ≠ "__name__" := by decide) (hd:(x == ("__debug__" : Str))=false:=by decide):wpAny (model X.prog X.w) X.A (eval (.Name x pos) X.env) Q E s:=by
  obtain ⟨mb,h1,h2⟩:=I.mod.blt
  exact Calls.Name_function_global I.ok.kind hg (Calls.loadGlobal_builtin (by rw [I.ok.glob];exact I.mod.glob.keeps I.bk) hm (by rw [I.ok.blt];exact h1.keeps I.bk) ((h2 x hn).trans hv) h) hd
theorem pe_bltn {x:Str} {v:V} {u:Value} {pos:Pos} (hg:Gl X x) (hm:X.mg x=none) (hv:bootBuiltins x=some u) (r:RelV v u) (hn:x ≠ "__name__" := by decide) (hd:(x == ("__debug__" : Str))=false:=by decide):PE X (.Name x pos) (tC v):=
  fun _ _ _ H _ I h=>ld_blt I hg hm hv ⟨v,H,I,r,h⟩ hn hd
variable {a b:Expr} {ta tb:TE} {pos:Pos}
def tB (t:TE):TT:=fun σ H Q=>t σ H fun x H1=>∃ c,x=.bl c∧Q c H1
theorem pt_val {e:Expr} {t:TE} (h:PE X e t) (he:∀ whole,isTrue e X.env whole=(do let v ← whole;standAt e.pos;holding [v] (truthy v)):=by intro _;rfl):PT X e (tB t):=by
  intro pins s σ H Q I hw
  refine isTrue_plain (thn (h pins s σ H _ I hw) fun v s1 ⟨x,H1,I1,r1,q1⟩=>?_) (he _)
  obtain ⟨d,rfl,q⟩:=q1
  cases r1
  exact wpAny_truthy_bool ⟨H1,I1,q⟩
variable {tA tB':TT} {rest:List Expr}
def tAnd (t u:TT):TT:=fun σ H Q=>t σ H fun c H1=>if c=true then u σ H1 Q else Q false H1
def tOr (t u:TT):TT:=fun σ H Q=>t σ H fun c H1=>if c=true then Q true H1 else u σ H1 Q
def tNot (t:TT):TT:=fun σ H Q=>t σ H fun c H1=>Q (!c) H1
theorem pw_and1 (ha:PT X a tA):PW X (.BoolOp .And [a] pos) tA:=by
  intro wh pins s σ H Q I h
  refine isTrue_and (thn (ha pins s σ H Q I h) fun c s1 e=>?_)
  cases c with
  | true=>exact isTrue_and_nil e
  | false=>exact e
theorem pw_or1 (ha:PT X a tA):PW X (.BoolOp .Or [a] pos) tA:=by
  intro wh pins s σ H Q I h
  refine isTrue_or (thn (ha pins s σ H Q I h) fun c s1 e=>?_)
  cases c with
  | false=>exact isTrue_or_nil e
  | true=>exact e
theorem pw_and (ha:PT X a tA) (hb:PW X (.BoolOp .And (b :: rest) pos) tB'):PW X (.BoolOp .And (a :: b :: rest) pos) (tAnd tA tB'):=by
  intro wh pins s σ H Q I h
  refine isTrue_and (thn (ha pins s σ H _ I h) fun c s1 ⟨H1,I1,q1⟩=>?_)
  cases c with
  | true=>exact hb wh pins s1 σ H1 Q I1 q1
  | false=>exact ⟨H1,I1,q1⟩
theorem pw_or (ha:PT X a tA) (hb:PW X (.BoolOp .Or (b :: rest) pos) tB'):PW X (.BoolOp .Or (a :: b :: rest) pos) (tOr tA tB'):=by
  intro wh pins s σ H Q I h
  refine isTrue_or (thn (ha pins s σ H _ I h) fun c s1 ⟨H1,I1,q1⟩=>?_)
  cases c with
  | true=>exact ⟨H1,I1,q1⟩
  | false=>exact hb wh pins s1 σ H1 Q I1 q1
theorem pt_not (ha:PT X a tA):PT X (.UnaryOp .Not a pos) (tNot tA):=by
  intro pins s σ H Q I h
  exact isTrue_not (ha pins s σ H (fun c H1=>Q (!c) H1) I h)
def tAndV (ta tb:TE):TE:=fun σ H Q=>ta σ H fun x H1=>∃ c,x=.bl c∧if c=true then tb σ H1 Q else Q (.bl false) H1
def tOrV (ta tb:TE):TE:=fun σ H Q=>ta σ H fun x H1=>∃ c,x=.bl c∧if c=true then Q (.bl true) H1 else tb σ H1 Q
theorem pe_one {op} {t:TE} (h:PE X a t):PE X (.BoolOp op [a] pos) t:=fun pins s σ H Q I hw=>BoolOp_one (h pins s σ H Q I hw)
theorem pe_and (ha:PE X a ta) (hb:PE X (.BoolOp .And (b :: rest) pos) tb):PE X (.BoolOp .And (a :: b :: rest) pos) (tAndV ta tb):=by
  intro pins s σ H Q I h
  refine BoolOp_and (thn (ha pins s σ H _ I h) fun v s1 ⟨x,H1,I1,r1,q1⟩=>?_)
  obtain ⟨c,rfl,q1⟩:=q1
  cases r1
  refine wpAny_truthy_bool ?_
  cases c with
  | true=>exact hb pins s1 σ H1 Q I1 q1
  | false=>exact ⟨.bl false,H1,I1,rfl,q1⟩
theorem pe_or (ha:PE X a ta) (hb:PE X (.BoolOp .Or (b :: rest) pos) tb):PE X (.BoolOp .Or (a :: b :: rest) pos) (tOrV ta tb):=by
  intro pins s σ H Q I h
  refine BoolOp_or (thn (ha pins s σ H _ I h) fun v s1 ⟨x,H1,I1,r1,q1⟩=>?_)
  obtain ⟨c,rfl,q1⟩:=q1
  cases r1
  refine wpAny_truthy_bool ?_
  cases c with
  | false=>exact hb pins s1 σ H1 Q I1 q1
  | true=>exact ⟨.bl true,H1,I1,rfl,q1⟩
def tIf (t:TT) (ta tb:TE):TE:=fun σ H Q=>t σ H fun c H1=>if c=true then ta σ H1 Q else tb σ H1 Q
theorem pe_ifExp {c:Expr} (hc:PT X c tA) (ha:PE X a ta) (hb:PE X b tb):PE X (.IfExp c a b pos) (tIf tA ta tb):=by
  intro pins s σ H Q I h
  refine wpAny_IfExp (thn (hc pins s σ H _ I h) fun d s1 ⟨H1,I1,q1⟩=>?_)
  cases d with
  | true=>exact ha pins s1 σ H1 Q I1 q1
  | false=>exact hb pins s1 σ H1 Q I1 q1
end
end L2
namespace L2
open PySem PySem.Spec PyProof.Rows
def SqL (K:PySem.W.Frag) (H:Hp) (a:Addr) (xs:List V):Prop:=
  Rd H a (.lst xs) ∨
    ∃ (o:Obj) (its:Array Value) (n:Nat),K.lookup a=some o∧o.cls=.type "list" ∧ o.dict=none∧o.data=.seq its n∧its.size≤sizeLine∧Vals xs its.toList
def SqT (K:PySem.W.Frag) (H:Hp) (a:Addr) (xs:List V):Prop:=
  Rd H a (.tup xs) ∨
    ∃ (o:Obj) (its:Array Value) (n:Nat),K.lookup a=some o∧o.cls=.type "tuple" ∧ o.data=.seq its n∧its.size≤sizeLine∧Vals xs its.toList
def absV:Value→Option V
  | .none=>some .non
  | .bool b=>some (.bl b)
  | .int i _=>some (.int i)
  | .str x _=>some (.str x)
  | .bytes b _=>some (.byt b)
  | .float b _=>some (.flt b)
  | .ref a=>some (.ref a)
  | .type n=>some (.ty n)
  | _=>none
theorem RelV.abs {x:V} {u:Value} (r:RelV x u):absV u=some x:=by
  cases x with
  | non=>cases r;rfl
  | bl _=>cases r;rfl
  | int _=>obtain ⟨t,rfl⟩:=r;rfl
  | str _=>obtain ⟨t,rfl⟩:=r;rfl
  | byt _=>obtain ⟨t,rfl⟩:=r;rfl
  | flt _=>obtain ⟨t,rfl⟩:=r;rfl
  | ref _=>cases r;rfl
  | ty _=>cases r;rfl
theorem RelV.inj {x y:V} {u:Value} (r:RelV x u) (q:RelV y u):x=y:=Option.some.inj (r.abs.symm.trans q.abs)
theorem Vals.inj:∀ {xs ys:List V} {us:List Value},Vals xs us→Vals ys us→xs=ys
  | _,_,_,.nil,.nil=>rfl
  | _,_,_,.cons r t,.cons r' t'=>by rw [r.inj r',Vals.inj t t']
section
variable {X:Cx} {pins:List (Addr × Obj)} {σ:St} {H:Hp} {s:Shared} {a:Addr} {xs ys:List V}
theorem SqL.of {K:PySem.W.Frag} (h:H a=some (.lst xs)):SqL K H a xs:=.inl (.inl h)
theorem SqT.of {K:PySem.W.Frag} (h:H a=some (.tup xs)):SqT K H a xs:=.inl (.inl h)
theorem Inv.list (I:Inv X pins σ H s) (h:SqL X.K H a xs):∃ its:List Value,Vals xs its∧PlainL s.heap a its.toArray∧xs.length≤sizeLine:=by
  rcases h with h | ⟨o,its,n,hk,hc,hd,hs,hz,r⟩
  · obtain ⟨z,its,n,r,e⟩:=h.ok I.hok
    exact ⟨its,r,⟨_,n,e,rfl,rfl,rfl⟩,z⟩
  · refine ⟨its.toList,r,⟨o,n,I.kIn a o hk,hc,hd,by simpa using hs⟩,?_⟩
    have e:=r.length
    simp only [Array.length_toList] at e
    omega
theorem Inv.tuple (I:Inv X pins σ H s) (h:SqT X.K H a xs):∃ its:List Value,Vals xs its∧IsTup s.heap a its.toArray∧xs.length≤sizeLine:=by
  rcases h with h | ⟨o,its,n,hk,hc,hs,hz,r⟩
  · obtain ⟨z,its,r,p⟩:=h.ok I.hok
    exact ⟨its,r,p,z.1⟩
  · refine ⟨its.toList,r,⟨o,I.kIn a o hk,hc,n,by simpa using hs⟩,?_⟩
    have e:=r.length
    simp only [Array.length_toList] at e
    omega
theorem Inv.list_inj (I:Inv X pins σ H s) (h:SqL X.K H a xs) (h':SqL X.K H a ys):xs=ys:=by
  obtain ⟨its,r,⟨o,n,e,_,_,d⟩,_⟩:=I.list h
  obtain ⟨its',r',⟨o',n',e',_,_,d'⟩,_⟩:=I.list h'
  rw [e] at e';cases e'
  rw [d] at d'
  injection d' with d1 _
  have:its=its':=by simpa using congrArg Array.toList d1
  subst this
  exact r.inj r'
theorem Inv.tuple_inj (I:Inv X pins σ H s) (h:SqT X.K H a xs) (h':SqT X.K H a ys):xs=ys:=by
  obtain ⟨its,r,⟨o,e,_,n,d⟩,_⟩:=I.tuple h
  obtain ⟨its',r',⟨o',e',_,n',d'⟩,_⟩:=I.tuple h'
  rw [e] at e';cases e'
  rw [d] at d'
  injection d' with d1 _
  have:its=its':=by simpa using congrArg Array.toList d1
  subst this
  exact r.inj r'
end
abbrev Cx.wish (X:Cx) (E:Value→Shared→Prop):Cx:={ X with xe:=E }
abbrev Cx.nox (X:Cx):Cx:=X.wish fun _ _=>False
theorem Cx.Ok.wish {X:Cx} (ok:X.Ok) (E:Value→Shared→Prop):(X.wish E).Ok:=
  ⟨ok.mod,ok.kind,ok.glob,ok.blt,ok.above,ok.inj,ok.has,ok.cab,ok.hd,ok.frames,ok.stk,ok.exf,ok.bs,ok.bsz,ok.noex,ok.exfs,ok.funs,ok.frf⟩
theorem Cx.Ok.unwish {X:Cx} {E:Value→Shared→Prop} (ok:(X.wish E).Ok):X.Ok:=
  ⟨ok.mod,ok.kind,ok.glob,ok.blt,ok.above,ok.inj,ok.has,ok.cab,ok.hd,ok.frames,ok.stk,ok.exf,ok.bs,ok.bsz,ok.noex,ok.exfs,ok.funs,ok.frf⟩
section
variable {X:Cx} {pins:List (Addr × Obj)} {σ:St} {H:Hp} {s:Shared} {E:Value→Shared→Prop}
theorem Inv.wish (I:Inv X pins σ H s) (E:Value→Shared→Prop):Inv (X.wish E) pins σ H s:=⟨I.ok.wish E,I.os,I.bare,I.base,I.loc,I.cell,I.free,I.freeC,I.pin,I.hok,I.len⟩
theorem Inv.unwish (I:Inv (X.wish E) pins σ H s):Inv X pins σ H s:=⟨I.ok.unwish,I.os,I.bare,I.base,I.loc,I.cell,I.free,I.freeC,I.pin,I.hok,I.len⟩
theorem SP.unwish {D:Ends} {f:Flow} {s':Shared} (h:SP (X.wish E) pins D f s'):SP X pins D f s':=by
  cases f with
  | next=>obtain ⟨σ',H',I,q⟩:=h;exact ⟨σ',H',I.unwish,q⟩
  | brk=>obtain ⟨σ',H',I,q⟩:=h;exact ⟨σ',H',I.unwish,q⟩
  | cont=>obtain ⟨σ',H',I,q⟩:=h;exact ⟨σ',H',I.unwish,q⟩
  | ret u=>obtain ⟨v,σ',H',I,r,q⟩:=h;exact ⟨v,σ',H',I.unwish,r,q⟩
theorem PSs.nox {st:List Stmt} {t:TS} (h:PSs X.nox st t):PSs X st t:=fun pins s σ H D I hw=>
  wpAny_mono (h pins s σ H D (I.wish _) hw) (fun _ _ q=>q.unwish) fun _ _ z=>False.elim z
end
section
variable {X:Cx} {st:Stmt} {rest:List Stmt} {t u:TS} {e:Expr} {te:TE} {pos:Pos}
def tNext:TS:=fun D σ H=>D.nx σ H
def tSeq (t u:TS):TS:=fun D σ H=>t { D with nx:=u D } σ H
theorem pss_nil:PSs X [] tNext:=fun _ _ σ H _ I h=>wpAny_execs_nil ⟨σ,H,I,h⟩
theorem pss_cons (h1:PS X st t) (h2:PSs X rest u):PSs X (st :: rest) (tSeq t u):=by
  intro pins s σ H D I h
  refine wpAny_execs_cons (thn (h1 pins s σ H { D with nx:=u D } I h) fun f s1 q=>?_)
  cases f with
  | next=>
    obtain ⟨σ',H',I',q⟩:=q
    exact h2 pins s1 σ' H' D I' q
  | ret v=>exact q
  | brk=>exact q
  | cont=>exact q
theorem pss_one (h1:PS X st t):PSs X [st] t:=by
  intro pins s σ H D I h
  refine wpAny_execs_cons (thn (h1 pins s σ H D I h) fun f s1 q=>?_)
  cases f with
  | next=>exact wpAny_execs_nil q
  | ret v=>exact q
  | brk=>exact q
  | cont=>exact q
theorem Inv.quiet {pins:List (Addr × Obj)} {σ:St} {H:Hp} {s:Shared} (I:Inv X pins σ H s):interactive X.env=false:=by simp [interactive,I.ok.kind]
def tDrop (te:TE):TS:=fun D σ H=>te σ H fun _ H1=>D.nx σ H1
theorem ps_expr (he:PE X e te) (hs:swapsWith e none pos.line X.env=pure false:=by rfl):PS X (.Expr e pos) (tDrop te):=by
  intro pins s σ H D I h
  exact wpAny_Expr_any (thn (he pins s σ H _ I h) fun v s1 ⟨x,H1,I1,r1,q1⟩=>⟨σ,H1,I1,q1⟩) I.quiet hs
def tRet (te:TE):TS:=fun D σ H=>te σ H D.rt
theorem ps_ret (he:PE X e te):PS X (.Return (some e) pos) (tRet te):=by
  intro pins s σ H D I h
  exact wpAny_Return_some (thn (he pins s σ H _ I h) fun v s1 ⟨x,H1,I1,r1,q1⟩=>⟨x,σ,H1,I1,r1,q1⟩)
def tIfS (c:TT) (t u:TS):TS:=fun D σ H=>c σ H fun b H1=>if b=true then t D σ H1 else u D σ H1
theorem ps_if {c:Expr} {a b:List Stmt} {tc:TT} (hc:PT X c tc) (ha:PSs X a t) (hb:PSs X b u):PS X (.If c a b pos) (tIfS tc t u):=by
  intro pins s σ H D I h
  refine wpAny_If (thn (hc pins s σ H _ I h) fun d s1 ⟨H1,I1,q1⟩=>?_)
  cases d with
  | true=>exact ha pins s1 σ H1 D I1 q1
  | false=>exact hb pins s1 σ H1 D I1 q1
end
abbrev TG:=V→St→Hp→(St→Hp→Prop)→Prop
abbrev TGs:=List V→St→Hp→(St→Hp→Prop)→Prop
def PG (X:Cx) (target:Expr) (t:TG):Prop:=
  ∀ (pins:List (Addr × Obj)) (s:Shared) (σ:St) (H:Hp) (v:V) (u:Value) (Q:St→Hp→Prop),Inv X pins σ H s→RelV v u→t v σ H Q →
    wpAny (model X.prog X.w) X.A (assign target X.env u) (fun _ s'=>∃ σ' H',Inv X pins σ' H' s'∧Q σ' H') X.xe s
def PGs (X:Cx) (ts:List Expr) (t:TGs):Prop:=
  ∀ (pins:List (Addr × Obj)) (s:Shared) (σ:St) (H:Hp) (vs:List V) (us:List Value) (Q:St→Hp→Prop),Inv X pins σ H s→Vals vs us→t vs σ H Q →
    wpAny (model X.prog X.w) X.A (assignInOrder ((assignEach ts X.env).map (·.2)) us) (fun _ s'=>∃ σ' H',Inv X pins σ' H' s'∧Q σ' H') X.xe s
abbrev TSet:=V→V→V→Hp→(Hp→Prop)→Prop
def PSet (X:Cx) (t:TSet):Prop:=
  ∀ (pins:List (Addr × Obj)) (s:Shared) (σ:St) (H:Hp) (o i v:V) (ov iv u:Value) (Q:Hp→Prop),Inv X pins σ H s→RelV o ov→RelV i iv→RelV v u→t o i v H Q →
    wpAny (model X.prog X.w) X.A (setItem ov iv u) (fun _ s'=>∃ H',Inv X pins σ H' s'∧Q H') X.xe s
section
variable {X:Cx} {pos:Pos}
def gName (i:Nat):TG:=fun v σ H Q=>Q (σ.set i (some v)) H
theorem pg_name {i:Nat} {x:Str} (hN:X.N.Nodup) (hi:X.N[i]?=some x) (hx:Loc X.env.scope x) (hf:X.fn x=true∨X.env.scope.names.lookup x=some .local:=by first | exact .inl rfl | exact .inr rfl | assumption):PG X (.Name x pos) (gName i):=by
  intro pins s σ H v u Q I r h
  exact wpAny_assign_Name (store_ok I hN hi hx r (fun s' I'=>⟨_,H,I',h⟩) hf)
def gNil:TGs:=fun vs σ H Q=>vs=[]∧Q σ H
def gCons (t:TG) (u:TGs):TGs:=fun vs σ H Q=>∃ v r,vs=v :: r∧t v σ H fun σ' H'=>u r σ' H' Q
theorem pgs_nil:PGs X [] gNil:=by
  intro pins s σ H vs us Q I r h
  obtain ⟨e,h⟩:=h
  subst e
  cases r
  exact assignInOrder_nil ⟨σ,H,I,h⟩
theorem pgs_cons {e:Expr} {es:List Expr} {t:TG} {u:TGs} (h1:PG X e t) (h2:PGs X es u)
    (hs:(assignEach (e :: es) X.env).map (·.2)=assign e X.env :: (assignEach es X.env).map (·.2):=by rfl):PGs X (e :: es) (gCons t u):=by
  intro pins s σ H vs us Q I r h
  obtain ⟨v,vr,e1,h⟩:=h
  subst e1
  cases r with
  | cons r rr=>
    rw [hs]
    refine assignInOrder_cons (thn (h1 pins s σ H _ _ _ I r h) fun _ s1 ⟨σ1,H1,I1,q1⟩=>?_)
    exact h2 pins s1 σ1 H1 _ _ Q I1 rr q1
def gTup (K:PySem.W.Frag) (n:Nat) (t:TGs):TG:=fun v σ H Q=>∃ a xs,v=.ref a∧SqT K H a xs∧xs.length=n∧t xs σ H Q
theorem pg_tup {es:List Expr} {k:Nat} {t:TGs} {n:Nat} (hc:X.calm=true) (h:PGs X es t)
    (hn:(assignEach es X.env).length=n:=by rfl) (hst:(assignEach es X.env).findIdx? (·.1)=none:=by rfl):PG X (.Tuple es k pos) (gTup X.K n t):=by
  intro pins s σ H v u Q I r hw
  obtain ⟨a,xs,e1,hq,hl,hw⟩:=hw
  subst e1
  cases r
  obtain ⟨its,rv,ht,hz⟩:=I.tuple hq
  refine assign_Tuple_tuple (I.ok.hd hc) ht (by simp [hn,← hl,rv.length]) hst fun h' hx=>?_
  have I1:Inv X pins σ H { s with heap:=h' }:=I.kept (t':=s.toks) fun b o e=>hx b o (Nat.ne_of_lt (Heap.lt_size e)) e
  exact h pins _ σ H xs _ Q I1 (by simpa using rv) hw
def gSub (to ti:TE) (t:TSet):TG:=fun v σ H Q=>to σ H fun o H1=>ti σ H1 fun i H2=>t o i v H2 fun H3=>Q σ H3
theorem pg_sub {o i:Expr} {to ti:TE} {t:TSet} (ho:PE X o to) (hi:PE X i ti) (hs:PSet X t)
    (ha:∀ v,assign (.Subscript o i pos) X.env v=(do
      let ov ← holding [v] (eval o X.env)
      let iv ← holding [v,ov] (eval i X.env)
      standAt pos
      holding [v,ov,iv] (setItem ov iv v)
      release [v,ov,iv] []):=by intro _;rfl):PG X (.Subscript o i pos) (gSub to ti t):=by
  intro pins s σ H v u Q I r h
  rw [ha]
  refine wpAny_bind (wpAny_holding (thn (ho pins s σ H _ I h) fun ov s1 ⟨x,H1,I1,r1,q1⟩=>?_))
  refine wpAny_bind (wpAny_holding (thn (hi pins s1 σ H1 _ I1 q1) fun iv s2 ⟨y,H2,I2,r2,q2⟩=>?_))
  refine wpAny_bind (wpAny_standAt (wpAny_bind (wpAny_holding (thn (hs pins s2 σ H2 x y v ov iv u _ I2 r1 r2 r q2) fun _ s3 ⟨H3,I3,q3⟩=>?_))))
  exact wpAny_release ⟨σ,H3,I3,q3⟩
def tAsg (te:TE) (g:TG):TS:=fun D σ H=>te σ H fun x H1=>g x σ H1 D.nx
theorem ps_asg {tg e:Expr} {te:TE} {g:TG} (he:PE X e te) (hg:PG X tg g) (hs:swapsWithSole [tg] e pos.line X.env=pure false:=by rfl) (hw:swappedStores [tg] e X.env=pure none:=by rfl)
    (h1:(assignEach [tg] X.env).map (·.2)=[assign tg X.env]:=by rfl):PS X (.Assign [tg] e pos) (tAsg te g):=by
  intro pins s σ H D I h
  refine wpAny_Assign_stores (thn (he pins s σ H _ I h) fun v s1 ⟨x,H1,I1,r1,q1⟩=>?_) hs hw
  rw [h1]
  exact thn (hg pins s1 σ H1 x v _ I1 r1 q1) fun _ s2 q=>q
theorem ps_set {i:Nat} {x:Str} {e:Expr} {te:TE} {pos':Pos} (hN:X.N.Nodup) (hi:X.N[i]?=some x) (hx:Loc X.env.scope x) (he:PE X e te) (hs:swapsWith e (some (.Name x pos')) pos.line X.env=pure false:=by rfl) (hf:X.fn x=true∨X.env.scope.names.lookup x=some .local:=by first | exact .inl rfl | exact .inr rfl | assumption) :
    PS X (.Assign [.Name x pos'] e pos) (tAsg te (gName i)):=by
  intro pins s σ H D I h
  refine wpAny_Assign_Name (thn (he pins s σ H _ I h) fun v s1 ⟨y,H1,I1,r1,q1⟩=>?_) hs
  exact store_ok I1 hN hi hx r1 (fun s2 I2=>⟨_,H1,I2,q1⟩) hf
end
section
variable {X:Cx} {pos:Pos}
end
structure It where
  go:Nat→Hp→Prop
  yld:Nat→Hp→V→Hp→Prop
  stop:Nat→Hp→Prop
def FpOk (X:Cx) (pins:List (Addr × Obj)) (H:Hp) (b:Addr):Prop:=
  H b=none∧b≠X.env.locals∧b ∉ X.fs∧(b∈X.ex∨X.s₀.heap.objs.size≤b)∧(∀ x c,X.env.cells.lookup x=some c→c≠b)∧∀ p∈X.pn++pins,p.1≠b
theorem Inv.fpOk {X:Cx} {pins:List (Addr × Obj)} {σ:St} {H H':Hp} {s:Shared} {b:Addr} (I:Inv X pins σ H s) (hb:s.heap.objs.size≤b) (hn:H' b=none):FpOk X pins H' b:=by
  refine ⟨hn,Nat.ne_of_gt (Nat.lt_of_lt_of_le I.lt hb),I.nofs hb,.inr (Nat.le_trans I.sz hb),fun x c e z=>?_,fun p hp z=>?_⟩
  · obtain ⟨v,q⟩:=I.cell x c e
    exact absurd (Nat.lt_of_lt_of_le q.lt (by rw [z];exact hb)) (Nat.lt_irrefl _)
  · exact absurd (Nat.lt_of_lt_of_le (Heap.lt_size (I.pin p hp).1) (by rw [z];exact hb)) (Nat.lt_irrefl _)
structure Turn (P:Program) (w:World) (K:PySem.W.Frag) (tg:Expr) (J:It) (fp:List Addr) (it:Addr) (tn:Nat→Heap→Prop):Prop where
  mem:it∈fp
  obj:∀ i h,tn i h→∀ b∈fp,∃ o,h.get? b=some o∧∀ v,o.data≠.cell v
  keep:∀ i h h',tn i h→(∀ b∈fp,∀ o,h.get? b=some o→h'.get? b=some o)→tn i h'
  item:∀ (X:Cx),X.prog=P→X.w=w→X.K=K→X.calm=true→∀ (i:Nat) (pins:List (Addr × Obj)) (s:Shared) (σ:St) (H:Hp) (E:Value→Shared→Prop),Inv X pins σ H s→(∀ b∈fp,FpOk X pins H b)→tn i s.heap→J.go i H →
    wpAny (model P w) X.A (pyNext (.ref it)) (fun r s1=>∃ u,r=some u ∧
      wpAny (model P w) X.A (letOwnedTupleGo tg (.ref it) u) (fun _ s2=>∃ x H',Inv X pins σ H' s2∧RelV x u∧J.yld i H x H'∧tn (i+1) s2.heap∧∀ b∈fp,H' b=none) E s1) E s
  done:∀ (X:Cx),X.prog=P→X.w=w→X.K=K→X.calm=true→∀ (i:Nat) (pins:List (Addr × Obj)) (s:Shared) (σ:St) (H:Hp) (E:Value→Shared→Prop),Inv X pins σ H s→(∀ b∈fp,FpOk X pins H b)→tn i s.heap→J.stop i H →
    wpAny (model P w) X.A (pyNext (.ref it)) (fun r s1=>r=none∧Inv X pins σ H s1) E s
  self:∀ (A:Around) (i:Nat) (s:Shared) (Q:Value→Shared→Prop) (E:Value→Shared→Prop),tn i s.heap→Q (.ref it) s→wpAny (model P w) A (pyIter (.ref it)) Q E s
abbrev TI:=St→Hp→(It→Hp→Prop)→Prop
def PIE (X:Cx) (pins:List (Addr × Obj)) (σ:St) (tg:Expr) (R:It→Hp→Prop) (itv:Value) (s2:Shared):Prop:=
  ∃ (it:Addr) (fp:List Addr) (tn:Nat→Heap→Prop) (J:It) (H':Hp),itv=.ref it∧Inv X pins σ H' s2∧Turn X.prog X.w X.K tg J fp it tn∧tn 0 s2.heap∧(∀ b∈fp,FpOk X pins H' b)∧R J H'
def PI (X:Cx) (tg iter:Expr) (wi:TI):Prop:=
  ∀ (pins:List (Addr × Obj)) (s:Shared) (σ:St) (H:Hp) (R:It→Hp→Prop),Inv X pins σ H s→wi σ H R →
    wpAny (model X.prog X.w) X.A (eval iter X.env) (fun v s1=>wpAny (model X.prog X.w) X.A (pyIter v) (PIE X pins σ tg R) X.xe s1) X.xe s
theorem go_of {M:Model} {A:Around} {E:Value→Shared→Prop} {s:Shared} {tg:Expr} {it:Addr} {u:Value} {o:Obj} {n:String} {vs:Array Value} {Q:Unit→Shared→Prop} (ho:s.heap.get? it=some o) (hc:o.cls=.type n) (hd:o.data=.fields vs)
    (hn:["enumerate", "zip", "dict_itemiterator", "dict_reverseitemiterator", "odict_iterator", "itertools.zip_longest", "itertools.pairwise"].contains n=false) (hQ:Q () s):wpAny M A (letOwnedTupleGo tg (.ref it) u) Q E s:=by
  unfold letOwnedTupleGo
  cases tg <;> first
    | exact wpAny_pure hQ
    | (cases u <;> first
        | exact wpAny_pure hQ
        | (refine wpAny_bind (wpAny_load ho ?_)
           rw [hc,hd]
           show wpAny M A (if (["enumerate", "zip", "dict_itemiterator", "dict_reverseitemiterator", "odict_iterator", "itertools.zip_longest", "itertools.pairwise"].contains n && vs[0]? == some (rawInt _))=true then _ else _) Q E s
           rw [if_neg (by intro h;rw [hn,Bool.false_and] at h;cases h)]
           exact wpAny_pure hQ))
def Itl (K:PySem.W.Frag) (a:Addr):It:=
  ⟨fun i H=>∃ xs x,SqL K H a xs∧xs[i]?=some x,fun i H x H'=>H'=H∧∀ xs,SqL K H a xs→xs[i]?=some x,fun i H=>∃ xs,SqL K H a xs∧xs.length≤i⟩
def Itt (K:PySem.W.Frag) (a:Addr):It:=
  ⟨fun i H=>∃ xs x,SqT K H a xs∧xs[i]?=some x,fun i H x H'=>H'=H∧∀ xs,SqT K H a xs→xs[i]?=some x,fun i H=>∃ xs,SqT K H a xs∧xs.length≤i⟩
def Itr (lo:Int) (n:Nat):It:=⟨fun i _=>i < n,fun i H x H'=>H'=H∧x=.int (lo+i),fun i _=>n≤i⟩
theorem turn_list {P:Program} {w:World} {K:PySem.W.Frag} {tg:Expr} (a it:Addr):Turn P w K tg (Itl K a) [it] it (fun i h=>h.IsListIter it a i) where
  mem:=by simp
  obj:=fun i h st b hb=>by
    have e:b=it:=by simpa using hb
    subst e
    obtain ⟨o,e,c,d⟩:=st
    exact ⟨o,e,fun v z=>by rw [d] at z;cases z⟩
  keep:=fun i h h' st k=>st.at fun o e=>k it (by simp) o e
  item:=by
    intro X hP hw hK hc i pins s σ H E I hf st hg
    subst hP hw hK
    obtain ⟨xs,x,hq,hx⟩:=hg
    obtain ⟨its,rv,p,hz⟩:=I.list hq
    obtain ⟨u,hu,ru⟩:=rv.get hx
    obtain ⟨f0,f1,f2,f3,f4,f5⟩:=hf it (by simp)
    refine wpAny_pyNext_list_item st p.isList (x:=u) (by simpa using hu) fun h' st' sb=>?_
    have I1:Inv X pins σ H { s with heap:=h' }:=I.turned (t':=s.toks) (fun b o hb e=>(sb.2 b hb).trans e) f0 f1 f3 f4 f5
    obtain ⟨o,e,c,d⟩:=id st'
    exact ⟨u,rfl,go_of (s:={ s with heap:=h' }) e c d (by decide) ⟨x,H,I1,ru,⟨rfl,fun ys hy=>by rw [I.list_inj hy hq];exact hx⟩,st',fun b hb=>(hf b hb).1⟩⟩
  done:=by
    intro X hP hw hK hc i pins s σ H E I hf st hg
    subst hP hw hK
    obtain ⟨xs,hq,hx⟩:=hg
    obtain ⟨its,rv,p,hz⟩:=I.list hq
    obtain ⟨f0,f1,f2,f3,f4,f5⟩:=hf it (by simp)
    have hl:=rv.length
    exact wpAny_pyNext_list_end (I.ok.hd hc) st p.isList (by simp;omega) fun h' eb=>⟨rfl,I.turned (t':=s.toks) (fun b o hb e=>eb b o hb e) f0 f1 f3 f4 f5⟩
  self:=fun _ _ _ _ _ st h=>wpAny_pyIter_listiter st h
theorem turn_tuple {P:Program} {w:World} {K:PySem.W.Frag} {tg:Expr} (a it:Addr):Turn P w K tg (Itt K a) [it] it (fun i h=>h.IsTupleIter it a i) where
  mem:=by simp
  obj:=fun i h st b hb=>by
    have e:b=it:=by simpa using hb
    subst e
    obtain ⟨o,e,c,d⟩:=st
    exact ⟨o,e,fun v z=>by rw [d] at z;cases z⟩
  keep:=fun i h h' st k=>st.at fun o e=>k it (by simp) o e
  item:=by
    intro X hP hw hK hc i pins s σ H E I hf st hg
    subst hP hw hK
    obtain ⟨xs,x,hq,hx⟩:=hg
    obtain ⟨its,rv,p,hz⟩:=I.tuple hq
    obtain ⟨u,hu,ru⟩:=rv.get hx
    obtain ⟨f0,f1,f2,f3,f4,f5⟩:=hf it (by simp)
    refine wpAny_pyNext_tuple_item st (show s.heap.IsTuple a its.toArray from p) (x:=u) (by simpa using hu) fun h' st' sb=>?_
    have I1:Inv X pins σ H { s with heap:=h' }:=I.turned (t':=s.toks) (fun b o hb e=>(sb.2 b hb).trans e) f0 f1 f3 f4 f5
    obtain ⟨o,e,c,d⟩:=id st'
    exact ⟨u,rfl,go_of (s:={ s with heap:=h' }) e c d (by decide) ⟨x,H,I1,ru,⟨rfl,fun ys hy=>by rw [I.tuple_inj hy hq];exact hx⟩,st',fun b hb=>(hf b hb).1⟩⟩
  done:=by
    intro X hP hw hK hc i pins s σ H E I hf st hg
    subst hP hw hK
    obtain ⟨xs,hq,hx⟩:=hg
    obtain ⟨its,rv,p,hz⟩:=I.tuple hq
    obtain ⟨f0,f1,f2,f3,f4,f5⟩:=hf it (by simp)
    have hl:=rv.length
    exact wpAny_pyNext_tuple_end (I.ok.hd hc) st (show s.heap.IsTuple a its.toArray from p) (by simp;omega) fun h' eb=>⟨rfl,I.turned (t':=s.toks) (fun b o hb e=>eb b o hb e) f0 f1 f3 f4 f5⟩
  self:=fun _ _ _ _ _ st h=>wpAny_pyIter_tupleiter st h
theorem turn_range {P:Program} {w:World} {K:PySem.W.Frag} {tg:Expr} (it:Addr) (lo:Int) (n:Nat):Turn P w K tg (Itr lo n) [it] it (fun i h=>IsRangeIter h it (lo+(i:Nat) * 1) ((n:Int) - (i:Nat)) 1) where
  mem:=by simp
  obj:=fun i h st b hb=>by
    have e:b=it:=by simpa using hb
    subst e
    exact ⟨_,st,fun v z=>by
      have z':Data.fields _=Data.cell v:=z
      cases z'⟩
  keep:=fun i h h' st k=>k it (by simp) _ st
  item:=by
    intro X hP hw hK hc i pins s σ H E I hf st hg
    subst hP hw hK
    obtain ⟨f0,f1,f2,f3,f4,f5⟩:=hf it (by simp)
    have W:=Walks.range (prog:=X.prog) (w:=X.w) (I.ok.hd hc) it lo 1 n
    refine W.item i s _ _ hg st fun v h' tk hv st' kk=>?_
    obtain ⟨t,rfl⟩:=hv
    have I1:Inv X pins σ H { s with heap:=h',toks:=tk }:=I.turned (fun b o hb e=>kk b o (by simpa using hb) e) f0 f1 f3 f4 f5
    refine ⟨_,rfl,go_of (s:={ s with heap:=h',toks:=tk }) (n := "range_iterator") st' rfl rfl (by decide) ⟨.int (lo+i),H,I1,⟨t,?_⟩,⟨rfl,rfl⟩,st',fun b hb=>(hf b hb).1⟩⟩
    rw [Int.mul_one]
  done:=by
    intro X hP hw hK hc i pins s σ H E I hf st hg
    subst hP hw hK
    obtain ⟨f0,f1,f2,f3,f4,f5⟩:=hf it (by simp)
    exact wpAny_pyNext_range_end (I.ok.hd hc) st (by have:n≤i:=hg;omega) fun h' eb=>⟨rfl,I.turned (t':=s.toks) (fun b o hb e=>eb b o hb e) f0 f1 f3 f4 f5⟩
  self:=fun _ _ _ _ _ st h=>wpAny_pyIter_rangeiter st h
end L2
namespace L2
open PySem PySem.Spec PyProof.Rows
section
variable {X:Cx} {tg:Expr}
def iList (K:PySem.W.Frag) (tl:TE):TI:=fun σ H R=>tl σ H fun x H1=>∃ a,x=.ref a∧(∃ xs,SqL K H1 a xs)∧R (Itl K a) H1
def iTup (K:PySem.W.Frag) (tl:TE):TI:=fun σ H R=>tl σ H fun x H1=>∃ a,x=.ref a∧(∃ xs,SqT K H1 a xs)∧R (Itt K a) H1
theorem pi_list {l:Expr} {tl:TE} (hl:PE X l tl):PI X tg l (iList X.K tl):=by
  intro pins s σ H R I h
  refine thn (hl pins s σ H _ I h) fun v s1 ⟨x,H1,I1,r1,q1⟩=>?_
  obtain ⟨a,e,⟨xs,hq⟩,q⟩:=q1
  subst e
  cases r1
  obtain ⟨its,rv,p,hz⟩:=I1.list hq
  refine wpAny_pyIter_list p.isList ?_
  refine ⟨s1.heap.objs.size,[s1.heap.objs.size],_,_,H1,rfl,I1.kept (t':=s1.toks) fun b o e=>Heap.get?_push_of_some _ e,turn_list a _,⟨_,Heap.get?_push_size _ rfl,rfl,rfl⟩,fun b hb=>?_,q⟩
  have e:b=s1.heap.objs.size:=by simpa using hb
  subst e
  exact I1.fpOk (Nat.le_refl _) (I1.hok.fresh (Nat.le_refl _))
theorem pi_tup {l:Expr} {tl:TE} (hl:PE X l tl):PI X tg l (iTup X.K tl):=by
  intro pins s σ H R I h
  refine thn (hl pins s σ H _ I h) fun v s1 ⟨x,H1,I1,r1,q1⟩=>?_
  obtain ⟨a,e,⟨xs,hq⟩,q⟩:=q1
  subst e
  cases r1
  obtain ⟨its,rv,p,hz⟩:=I1.tuple hq
  refine wpAny_pyIter_tuple (show s1.heap.IsTuple a its.toArray from p) ?_
  refine ⟨s1.heap.objs.size,[s1.heap.objs.size],_,_,H1,rfl,I1.kept (t':=s1.toks) fun b o e=>Heap.get?_push_of_some _ e,turn_tuple a _,⟨_,Heap.get?_push_size _ rfl,rfl,rfl⟩,fun b hb=>?_,q⟩
  have e:b=s1.heap.objs.size:=by simpa using hb
  subst e
  exact I1.fpOk (Nat.le_refl _) (I1.hok.fresh (Nat.le_refl _))
theorem range_it {pins:List (Addr × Obj)} {σ:St} {H:Hp} {s:Shared} {R:It→Hp→Prop} {E:Value→Shared→Prop} {lo hi:Int} {t u v:Tok} {tk:Nat} (I:Inv X pins σ H s) (h1:-(2 ^ 62)≤lo) (h2:lo < 2 ^ 62) (h3:-(2 ^ 62)≤hi) (h4:hi < 2 ^ 62)
    (q:R (Itr lo (hi - lo).toNat) H):wpAny (model X.prog X.w) X.A (pyIter (.ref s.heap.objs.size)) (PIE X pins σ tg R) E { s with heap:=s.heap.push { cls:=.type "range", data:=.fields #[.int lo t,.int hi u,.int 1 v] },toks:=tk }:=by
  refine wpAny_pyIter_range (IsRange.new ..) (small_one h1 h2 h3 h4) ?_
  have I1:Inv X pins σ H { s with heap:=s.heap.push { cls:=.type "range", data:=.fields #[.int lo t,.int hi u,.int 1 v] },toks:=tk }:=I.kept fun b o e=>Heap.get?_push_of_some _ e
  refine ⟨(s.heap.push { cls:=.type "range", data:=.fields #[.int lo t,.int hi u,.int 1 v] }).objs.size,[(s.heap.push { cls:=.type "range", data:=.fields #[.int lo t,.int hi u,.int 1 v] }).objs.size],_,_,H,rfl,
    I1.kept (t':=tk) fun b o e=>Heap.get?_push_of_some _ e,turn_range _ lo (hi - lo).toNat,?_,fun b hb=>?_,q⟩
  · have e1:lo+((0:Nat):Int) * 1=lo:=by simp
    have e2:(((hi - lo).toNat:Nat):Int) - ((0:Nat):Int)=Builtin.Range.rangeSize lo hi 1:=by rw [rangeSize_one];split <;> omega
    show IsRangeIter _ _ (lo+((0:Nat):Int) * 1) ((((hi - lo).toNat:Nat):Int) - ((0:Nat):Int)) 1
    rw [e1,e2]
    exact Heap.get?_push_size _ rfl
  · have e:b=(s.heap.push { cls:=.type "range", data:=.fields #[.int lo t,.int hi u,.int 1 v] }).objs.size:=by simpa using hb
    subst e
    exact I1.fpOk (Nat.le_refl _) (I1.hok.fresh (Nat.le_refl _))
def iRng1 (ta:TA):TI:=fun σ H R=>ta σ H fun vs H1=>∃ j:Int,vs=[.int j]∧-(2 ^ 62)≤j∧j < 2 ^ 62∧R (Itr 0 j.toNat) H1
def iRng2 (ta:TA):TI:=fun σ H R=>ta σ H fun vs H1=>∃ i j:Int,vs=[.int i,.int j]∧(-(2 ^ 62)≤i∧i < 2 ^ 62∧-(2 ^ 62)≤j∧j < 2 ^ 62)∧R (Itr i (j - i).toNat) H1
theorem pi_range1 {a:Expr} {ta:TA} {p pos:Pos} (hg:Gl X "range") (hm:X.mg "range" = none) (ha:PA X [a] ta) (hs:starEach [a] X.env=[(false,eval a X.env)]:=by rfl):PI X tg (.Call (.Name "range" p) [a] [] pos) (iRng1 ta):=by
  intro pins s σ H R I h
  refine Call_ (ld_blt I hg hm boot_range (PyProof.Rows.callWith_type1 (thn (ha pos pins s σ H _ I h) fun us s1 ⟨vs,H1,I1,r1,q1⟩=>?_) hs rfl))
  obtain ⟨j,e,q1,q2,q⟩:=q1
  subst e
  cases r1 with
  | cons r rr=>
    cases rr
    obtain ⟨t,rfl⟩:=r
    exact call_range_1 (range_it I1 (by omega) (by omega) q1 q2 (by simpa using q))
theorem pi_range2 {a b:Expr} {ta:TA} {p pos:Pos} (hg:Gl X "range") (hm:X.mg "range" = none) (ha:PA X [a,b] ta) (hs:starEach [a,b] X.env=[(false,eval a X.env),(false,eval b X.env)]:=by rfl) (hs2:starEach [b] X.env=[(false,eval b X.env)]:=by rfl) :
    PI X tg (.Call (.Name "range" p) [a,b] [] pos) (iRng2 ta):=by
  intro pins s σ H R I h
  refine Call_ (ld_blt I hg hm boot_range (PyProof.Rows.callWith_type1 (thn (ha pos pins s σ H _ I h) fun us s1 ⟨vs,H1,I1,r1,q1⟩=>?_) (by rw [hs,hs2]) (by rw [hs2];rfl)))
  obtain ⟨i,j,e,⟨q1,q2,q3,q4⟩,q⟩:=q1
  subst e
  cases r1 with
  | cons r rr=>
    cases rr with
    | cons r' rr=>
      cases rr
      obtain ⟨t,rfl⟩:=r
      obtain ⟨t',rfl⟩:=r'
      exact call_range_2 (range_it I1 q1 q2 q3 q4 q)
def tFor (wi:TI) (g:TG) (tb:TS):TS:=fun D σ H=>wi σ H fun J H1=>∃ W:Nat→Nat→St→Hp→Prop,(∃ m,W 0 m σ H1)∧∀ i m σ H,W i m σ H →
  (J.stop i H∧D.nx σ H)∨(J.go i H∧∃ N:St→Hp→Prop,(∀ σ' H',N σ' H'→∃ m',m' < m∧W (i+1) m' σ' H')∧∀ x H',J.yld i H x H'→g x σ H' fun σ2 H2=>tb { D with nx:=N,ct:=N,bk:=D.nx } σ2 H2)
def pinsAt (fp:List Addr) (h:Heap):List (Addr × Obj):=fp.filterMap fun b=>(h.get? b).map fun o=>(b,o)
theorem mem_pinsAt {fp:List Addr} {h:Heap} {b:Addr} {o:Obj} (hb:b∈fp) (e:h.get? b=some o):(b,o)∈pinsAt fp h:=List.mem_filterMap.mpr ⟨b,hb,by rw [e];rfl⟩
theorem of_pinsAt {fp:List Addr} {h:Heap} {p:Addr × Obj} (hp:p∈pinsAt fp h):p.1∈fp∧h.get? p.1=some p.2:=by
  obtain ⟨b,hb,e⟩:=List.mem_filterMap.mp hp
  cases q:h.get? b with
  | none=>rw [q] at e;cases e
  | some o=>
    rw [q] at e
    have e':(b,o)=p:=Option.some.inj e
    subst e'
    exact ⟨hb,q⟩
theorem Inv.pinned {pins:List (Addr × Obj)} {σ:St} {H:Hp} {s:Shared} {fp:List Addr} (I:Inv X pins σ H s) (hf:∀ b∈fp,FpOk X pins H b) (ho:∀ b∈fp,∃ o,s.heap.get? b=some o∧∀ v,o.data≠.cell v):Inv X (pins++pinsAt fp s.heap) σ H s:=
  I.pins_of fun p hp=>(List.mem_append.mp hp).elim (fun z=>I.pin p (List.mem_append_right _ z)) fun z=>by
    obtain ⟨hb,e⟩:=of_pinsAt z
    obtain ⟨f0,f1,f2,_⟩:=hf p.1 hb
    obtain ⟨o,e',d⟩:=ho p.1 hb
    rw [e] at e';cases e'
    exact ⟨e,f0,f1,f2,d⟩
theorem Inv.unpinned {pins pl:List (Addr × Obj)} {σ:St} {H:Hp} {s:Shared} (I:Inv X (pins++pl) σ H s):Inv X pins σ H s:=I.pins_of fun p hp=>I.pin p (List.mem_append_right _ (List.mem_append_left _ hp))
theorem ps_for {iter:Expr} {body:List Stmt} {wi:TI} {g:TG} {tb:TS} {pos:Pos} (hp:PassesOwn (model X.prog X.w) X.A X.env X.xe) (hc:X.calm=true) (hi:PI X tg iter wi) (hg:PG X tg g) (hb:PSs X body tb)
    (hs:∀ x,foldedSetIterable iter X.env x=pure x:=by intro _;rfl):PS X (.For tg iter body [] pos) (tFor wi g tb):=by
  intro pins s σ H D I h
  refine wpAny_For (thn (hi pins s σ H _ I h) fun v s1 h1=>thn h1 fun itv s2 h2=>?_) hs
  obtain ⟨it,fp,tn,J,H2,e,I2,T,st2,f2,W,⟨m0,w0⟩,turn⟩:=h2
  subst e
  have stat:∀ {H':Hp},(∀ b∈fp,H' b=none)→∀ b∈fp,FpOk X pins H' b:=fun hn b hb=>⟨hn b hb,(f2 b hb).2⟩
  refine codeAny_forLoop_any (fun n s'=>∃ i σ' H',Inv X pins σ' H' s'∧tn i s'.heap∧(∀ b∈fp,H' b=none)∧W i n σ' H') ?_ m0 ⟨0,σ,H2,I2,st2,fun b hb=>(f2 b hb).1,w0⟩
  rintro n s3 ⟨i,σ3,H3,I3,st3,fr3,w3⟩
  rcases turn i n σ3 H3 w3 with ⟨stop,qn⟩ | ⟨go,N,hN,step⟩
  · refine wpAny_passesOwn hp (thn (T.done X rfl rfl rfl hc i pins s3 σ3 H3 X.xe I3 (stat fr3) st3 stop) fun r s4 ⟨hr,I4⟩=>?_)
    subst hr
    exact wpAny_execs_nil ⟨σ3,H3,I4,qn⟩
  · refine wpAny_passesOwn hp (thn (T.item X rfl rfl rfl hc i pins s3 σ3 H3 X.xe I3 (stat fr3) st3 go) fun r s4 ⟨u,hr,h4⟩=>?_)
    subst hr
    refine wpAny_passesOwn hp (thn h4 fun _ s5 ⟨x,H5,I5,r5,y5,st5,fr5⟩=>?_)
    have I5':=I5.pinned (stat fr5) (T.obj _ _ st5)
    refine wpAny_passesOwn hp (thn (hg _ s5 σ3 H5 x u _ I5' r5 (step x H5 y5)) fun _ s6 ⟨σ6,H6,I6,q6⟩=>?_)
    refine wpAny_passesOwn hp (thn (hb _ s6 σ6 H6 _ I6 q6) fun f s7 q7=>?_)
    have again:∀ {σ7:St} {H7:Hp},Inv X (pins++pinsAt fp s5.heap) σ7 H7 s7→N σ7 H7→∃ m,m < n∧∃ i σ' H',Inv X pins σ' H' s7∧tn i s7.heap∧(∀ b∈fp,H' b=none)∧W i m σ' H':=fun {σ7 H7} I7 n7=>by
      obtain ⟨m',hm,w7⟩:=hN σ7 H7 n7
      refine ⟨m',hm,i+1,σ7,H7,I7.unpinned,T.keep _ _ _ st5 fun b hb o e=>(I7.pin (b,o) (List.mem_append_right _ (List.mem_append_right _ (mem_pinsAt hb e)))).1,fun b hb=>?_,w7⟩
      obtain ⟨o,e,d⟩:=T.obj _ _ st5 b hb
      exact (I7.pin (b,o) (List.mem_append_right _ (List.mem_append_right _ (mem_pinsAt hb e)))).2.1
    cases f with
    | next=>obtain ⟨σ7,H7,I7,n7⟩:=q7;exact again I7 n7
    | cont=>obtain ⟨σ7,H7,I7,n7⟩:=q7;exact again I7 n7
    | brk=>obtain ⟨σ7,H7,I7,q7⟩:=q7;exact ⟨σ7,H7,I7.unpinned,q7⟩
    | ret v=>obtain ⟨x7,σ7,H7,I7,r7,q7⟩:=q7;exact ⟨x7,σ7,H7,I7.unpinned,r7,q7⟩
end
theorem for_list {K:PySem.W.Frag} {a:Addr} {xs:List V} {g:TG} {tb:TS} {D:Ends} {σ:St} {H:Hp} (Pv:Nat→St→Hp→Prop) (h0:Pv 0 σ H) (hl:∀ i σ H,i≤xs.length→Pv i σ H→SqL K H a xs)
    (hs:∀ i x σ H,xs[i]?=some x→Pv i σ H→g x σ H fun σ2 H2=>tb { D with nx:=Pv (i+1),ct:=Pv (i+1),bk:=D.nx } σ2 H2) (hd:∀ σ H,Pv xs.length σ H→D.nx σ H) :
    ∃ W:Nat→Nat→St→Hp→Prop,(∃ m,W 0 m σ H)∧∀ i m σ H,W i m σ H →
      ((Itl K a).stop i H∧D.nx σ H)∨((Itl K a).go i H∧∃ N:St→Hp→Prop,(∀ σ' H',N σ' H'→∃ m',m' < m∧W (i+1) m' σ' H')∧∀ x H',(Itl K a).yld i H x H'→g x σ H' fun σ2 H2=>tb { D with nx:=N,ct:=N,bk:=D.nx } σ2 H2):=by
  refine ⟨fun i m σ H=>m=xs.length - i∧i≤xs.length∧Pv i σ H,⟨xs.length,by simp,Nat.zero_le _,h0⟩,?_⟩
  rintro i m σ H ⟨rfl,hi,p⟩
  have q:=hl i σ H hi p
  by_cases hlt:i < xs.length
  · refine .inr ⟨⟨xs,xs[i],q,by simp [hlt]⟩,Pv (i+1),fun σ' H' p'=>⟨xs.length - (i+1),by omega,rfl,hlt,p'⟩,fun x H' y=>?_⟩
    obtain ⟨e,y⟩:=y
    subst e
    exact hs i x σ _ (y xs q) p
  · have e:i=xs.length:=by omega
    subst e
    exact .inl ⟨⟨xs,q,Nat.le_refl _⟩,hd σ H p⟩
theorem for_range {lo:Int} {n:Nat} {g:TG} {tb:TS} {D:Ends} {σ:St} {H:Hp} (Pv:Nat→St→Hp→Prop) (h0:Pv 0 σ H)
    (hs:∀ i σ H,i < n→Pv i σ H→g (.int (lo+i)) σ H fun σ2 H2=>tb { D with nx:=Pv (i+1),ct:=Pv (i+1),bk:=D.nx } σ2 H2) (hd:∀ σ H,Pv n σ H→D.nx σ H) :
    ∃ W:Nat→Nat→St→Hp→Prop,(∃ m,W 0 m σ H)∧∀ i m σ H,W i m σ H →
      ((Itr lo n).stop i H∧D.nx σ H)∨((Itr lo n).go i H∧∃ N:St→Hp→Prop,(∀ σ' H',N σ' H'→∃ m',m' < m∧W (i+1) m' σ' H')∧∀ x H',(Itr lo n).yld i H x H'→g x σ H' fun σ2 H2=>tb { D with nx:=N,ct:=N,bk:=D.nx } σ2 H2):=by
  refine ⟨fun i m σ H=>m=n - i∧i≤n∧Pv i σ H,⟨n,by simp,Nat.zero_le _,h0⟩,?_⟩
  rintro i m σ H ⟨rfl,hi,p⟩
  by_cases hlt:i < n
  · refine .inr ⟨hlt,Pv (i+1),fun σ' H' p'=>⟨n - (i+1),by omega,rfl,hlt,p'⟩,fun x H' y=>?_⟩
    obtain ⟨e,y⟩:=y
    subst e y
    exact hs i σ _ hlt p
  · have e:i=n:=by omega
    subst e
    exact .inl ⟨Nat.le_refl _,hd σ H p⟩
end L2
namespace L2
open PySem PySem.Spec PyProof.Rows
abbrev R2:=V→V→Hp→VK→Prop
def OpR (X:Cx) (f:Value→Value→Sem Value) (r:R2):Prop:=
  ∀ (pins:List (Addr × Obj)) (s:Shared) (σ:St) (H:Hp) (x y:V) (v u:Value) (Q:VK),Inv X pins σ H s→RelV x v→RelV y u→r x y H Q →
    wpAny (model X.prog X.w) X.A (f v u) (EP X pins σ Q) X.xe s
def UnR (X:Cx) (f:Value→Sem Value) (r:V→Hp→VK→Prop):Prop:=
  ∀ (pins:List (Addr × Obj)) (s:Shared) (σ:St) (H:Hp) (x:V) (v:Value) (Q:VK),Inv X pins σ H s→RelV x v→r x H Q →
    wpAny (model X.prog X.w) X.A (f v) (EP X pins σ Q) X.xe s
def CallR (X:Cx) (f:Value) (r:List V→Hp→VK→Prop):Prop:=
  ∀ (pins:List (Addr × Obj)) (s:Shared) (σ:St) (H:Hp) (xs:List V) (us:List Value) (Q:VK),Inv X pins σ H s→Vals xs us→r xs H Q →
    wpAny (model X.prog X.w) X.A (call f us) (EP X pins σ Q) X.xe s
def tOp (r:R2) (ta tb:TE):TE:=fun σ H Q=>ta σ H fun x H1=>tb σ H1 fun y H2=>r x y H2 Q
def tUn (r:V→Hp→VK→Prop) (ta:TE):TE:=fun σ H Q=>ta σ H fun x H1=>r x H1 Q
def rI (C:Int→Int→Prop) (g:Int→Int→V):R2:=fun x y H Q=>∃ i j,x=.int i∧y=.int j∧C i j∧Q (g i j) H
def rI0 (g:Int→Int→V):R2:=fun x y H Q=>∃ i j,x=.int i∧y=.int j∧Q (g i j) H
def rU (g:Int→V):V→Hp→VK→Prop:=fun x H Q=>∃ i,x=.int i∧Q (g i) H
section
variable {X:Cx} {a b c:Expr} {ta tb tc:TE} {pos:Pos}
theorem binT (ha:PE X a ta) (hb:PE X b tb) {pins:List (Addr × Obj)} {s:Shared} {σ:St} {H:Hp} {R:V→V→Hp→Prop} (I:Inv X pins σ H s)
    (h:ta σ H fun x H1=>tb σ H1 fun y H2=>R x y H2) {Q:Value→Shared→Prop} {f:Value→Value→Sem Value}
    (hf:∀ v u s2 x y H2,Inv X pins σ H2 s2→RelV x v→RelV y u→R x y H2→wpAny (model X.prog X.w) X.A (f v u) Q X.xe s2) :
    wpAny (model X.prog X.w) X.A (eval a X.env) (fun v s₁=>wpAny (model X.prog X.w) X.A (eval b X.env) (fun u s₂=>wpAny (model X.prog X.w) X.A (f v u) Q X.xe s₂) X.xe s₁) X.xe s:=by
  refine thn (ha pins s σ H _ I h) fun v s1 ⟨x,H1,I1,r1,q1⟩=>?_
  refine thn (hb pins s1 σ H1 _ I1 q1) fun u s2 ⟨y,H2,I2,r2,q2⟩=>?_
  exact hf v u s2 x y H2 I2 r1 r2 q2
theorem pe_op {op:Operator} {r:R2} (ho:OpR X (binaryOp op) r) (ha:PE X a ta) (hb:PE X b tb):PE X (.BinOp a op b pos) (tOp r ta tb):=by
  intro pins s σ H Q I h
  exact wpAny_BinOp (binT ha hb I h fun v u s2 x y H2 I2 rx ry q=>ho pins s2 σ H2 x y v u Q I2 rx ry q)
theorem pe_un {op:UnaryOp} {r:V→Hp→VK→Prop} (ho:UnR X (unaryOp op) r) (ha:PE X a ta):PE X (.UnaryOp op a pos) (tUn r ta):=by
  intro pins s σ H Q I h
  exact UnaryOp_ (thn (ha pins s σ H _ I h) fun v s1 ⟨x,H1,I1,r1,q1⟩=>ho pins s1 σ H1 x v Q I1 r1 q1)
theorem opI {f:Value→Value→Sem Value} {C:Int→Int→Prop} {g:Int→Int→Int}
    (rule:∀ (i j:Int) (t u:Tok) (s:Shared) (Q:Value→Shared→Prop) (E:Value→Shared→Prop),C i j→Q (.int (g i j) s.toks) { s with toks:=s.toks+1 }→wpAny (model X.prog X.w) X.A (f (.int i t) (.int j u)) Q E s) :
    OpR X f (rI C fun i j=>.int (g i j)):=by
  intro pins s σ H x y v u Q I rx ry h
  obtain ⟨i,j,rfl,rfl,hc,q⟩:=h
  obtain ⟨t,rfl⟩:=rx
  obtain ⟨t',rfl⟩:=ry
  exact rule i j t t' s _ _ hc ⟨.int (g i j),H,I.tok _,⟨_,rfl⟩,q⟩
theorem opI0 {f:Value→Value→Sem Value} {g:Int→Int→Int}
    (rule:∀ (i j:Int) (t u:Tok) (s:Shared) (Q:Value→Shared→Prop) (E:Value→Shared→Prop),Q (.int (g i j) s.toks) { s with toks:=s.toks+1 }→wpAny (model X.prog X.w) X.A (f (.int i t) (.int j u)) Q E s) :
    OpR X f (rI0 fun i j=>.int (g i j)):=by
  intro pins s σ H x y v u Q I rx ry h
  obtain ⟨i,j,rfl,rfl,q⟩:=h
  obtain ⟨t,rfl⟩:=rx
  obtain ⟨t',rfl⟩:=ry
  exact rule i j t t' s _ _ ⟨.int (g i j),H,I.tok _,⟨_,rfl⟩,q⟩
theorem opB0 {f:Value→Value→Sem Value} {g:Int→Int→Bool}
    (rule:∀ (i j:Int) (t u:Tok) (s:Shared) (Q:Value→Shared→Prop) (E:Value→Shared→Prop),Q (.bool (g i j)) s→wpAny (model X.prog X.w) X.A (f (.int i t) (.int j u)) Q E s) :
    OpR X f (rI0 fun i j=>.bl (g i j)):=by
  intro pins s σ H x y v u Q I rx ry h
  obtain ⟨i,j,rfl,rfl,q⟩:=h
  obtain ⟨t,rfl⟩:=rx
  obtain ⟨t',rfl⟩:=ry
  exact rule i j t t' s _ _ ⟨.bl (g i j),H,I,rfl,q⟩
def CPow (i j:Int):Prop:=0≤j∧j≤1000000∧i.natAbs < 2 ^ 64
def CMul (i j:Int):Prop:=(-(2 ^ 64) < i∧i < 2 ^ 64)∨(-(2 ^ 64) < j∧j < 2 ^ 64)
theorem CMul.ok {i j:Int} (h:CMul i j):IntMulOk i j:=by
  rcases h with ⟨h1,h2⟩ | ⟨h1,h2⟩
  · exact .of_left (intBits_le_64 h1 h2)
  · exact .of_right (intBits_le_64 h1 h2)
theorem op_add:OpR X (binaryOp .Add) (rI0 fun i j=>.int (i+j)):=opI0 fun _ _ _ _ _ _ _ q=>add_int q
theorem op_sub:OpR X (binaryOp .Sub) (rI0 fun i j=>.int (i - j)):=opI0 fun _ _ _ _ _ _ _ q=>sub_int q
theorem op_mul:OpR X (binaryOp .Mult) (rI CMul fun i j=>.int (i * j)):=opI fun _ _ _ _ _ _ _ hc q=>mul_int q hc.ok
theorem op_mod:OpR X (binaryOp .Mod) (rI (fun _ j=>0 < j) fun i j=>.int (i % j)):=opI fun i j _ _ _ _ _ hc q=>by
  have h1:(0:Int) < j:=hc
  exact mod_int' (by omega) (by rw [Int.fmod_eq_emod_of_nonneg i (by omega)];exact q)
theorem op_pow:OpR X (binaryOp .Pow) (rI CPow fun i j=>.int (i ^ j.toNat)):=opI fun _ _ _ _ _ _ _ hc q=>pow_int_small hc.1 hc.2.1 hc.2.2 q
theorem unI {f:Value→Sem Value} {g:Int→Int}
    (rule:∀ (i:Int) (t:Tok) (s:Shared) (Q:Value→Shared→Prop) (E:Value→Shared→Prop),Q (.int (g i) s.toks) { s with toks:=s.toks+1 }→wpAny (model X.prog X.w) X.A (f (.int i t)) Q E s) :
    UnR X f (rU fun i=>.int (g i)):=by
  intro pins s σ H x v Q I rx h
  obtain ⟨i,rfl,q⟩:=h
  obtain ⟨t,rfl⟩:=rx
  exact rule i t s _ _ ⟨.int (g i),H,I.tok _,⟨_,rfl⟩,q⟩
theorem un_neg:UnR X (unaryOp .USub) (rU fun i=>.int (-i)):=unI fun _ _ _ _ _ q=>neg_int q
end
def scal:V→V→Bool
  | .non,.non=>true | .non,.int _=>true | .int _,.non=>true | .non,.bl _=>true | .bl _,.non=>true | .non,.str _=>true | .str _,.non=>true
  | .int _,.int _=>true | .bl _,.bl _=>true | .str _,.str _=>true | .byt _,.byt _=>true
  | .int _,.str _=>true | .str _,.int _=>true | .bl _,.str _=>true | .str _,.bl _=>true
  | _,_=>false
def rEq:R2:=fun x y H Q=>scal x y=true∧Q (.bl (decide (x=y))) H
def rNe:R2:=fun x y H Q=>scal x y=true∧Q (.bl (!decide (x=y))) H
theorem dec_int {i j:Int}:decide (V.int i=V.int j)=(i == j):=by
  rw [Bool.eq_iff_iff]
  simp
theorem dec_bl {i j:Bool}:decide (V.bl i=V.bl j)=(i == j):=by
  rw [Bool.eq_iff_iff]
  simp
theorem dec_str {i j:Str}:decide (V.str i=V.str j)=(i == j):=by
  rw [Bool.eq_iff_iff]
  simp
theorem dec_byt {i j:Array UInt8}:decide (V.byt i=V.byt j)=(i.toList == j.toList):=by
  rw [Bool.eq_iff_iff]
  cases i
  cases j
  simp
section
variable {X:Cx} {a b c:Expr} {ta tb tc:TE} {pos:Pos}
theorem fin_bl {pins:List (Addr × Obj)} {σ:St} {H:Hp} {s:Shared} {Q:VK} {k k':Bool} (I:Inv X pins σ H s) (q:Q (.bl k) H) (e:k=k'):EP X pins σ Q (.bool k') s:=by
  subst e
  exact ⟨.bl k,H,I,rfl,q⟩
theorem op_eq:OpR X (compareOp .Eq) rEq:=by
  intro pins s σ H x y v u Q I rx ry h
  obtain ⟨hs,q⟩:=h
  cases x with
  | non=>
    cases rx
    cases y with
    | non=>cases ry;exact PySem.EqNone.eq_none_none (fin_bl I q (by simp))
    | bl j=>cases ry;exact PySem.EqNone.eq_none_bool (fin_bl I q (by simp))
    | int j=>obtain ⟨t',rfl⟩:=ry;exact PySem.EqNone.eq_none_int (fin_bl I q (by simp))
    | str j=>obtain ⟨t',rfl⟩:=ry;exact PySem.EqNone.eq_none_str (fin_bl I q (by simp))
    | _=>exact absurd (show false=true from hs) Bool.false_ne_true
  | bl i=>
    cases rx
    cases y with
    | non=>cases ry;exact PySem.EqNone.eq_bool_none (fin_bl I q (by simp))
    | bl j=>cases ry;exact eq_bool (fin_bl I q dec_bl)
    | str j=>obtain ⟨t',rfl⟩:=ry;exact PySem.EqMixed.eq_bool_str (fin_bl I q (by simp))
    | _=>exact absurd (show false=true from hs) Bool.false_ne_true
  | int i=>
    obtain ⟨t,rfl⟩:=rx
    cases y with
    | non=>cases ry;exact PySem.EqNone.eq_int_none (fin_bl I q (by simp))
    | int j=>obtain ⟨t',rfl⟩:=ry;exact eq_int (fin_bl I q dec_int)
    | str j=>obtain ⟨t',rfl⟩:=ry;exact PySem.EqMixed.eq_int_str (fin_bl I q (by simp))
    | _=>exact absurd (show false=true from hs) Bool.false_ne_true
  | str i=>
    obtain ⟨t,rfl⟩:=rx
    cases y with
    | non=>cases ry;exact PySem.EqNone.eq_str_none (fin_bl I q (by simp))
    | bl j=>cases ry;exact PySem.EqMixed.eq_str_bool (fin_bl I q (by simp))
    | int j=>obtain ⟨t',rfl⟩:=ry;exact PySem.EqMixed.eq_str_int (fin_bl I q (by simp))
    | str j=>obtain ⟨t',rfl⟩:=ry;exact eq_str (fin_bl I q dec_str)
    | _=>exact absurd (show false=true from hs) Bool.false_ne_true
  | byt i=>
    obtain ⟨t,rfl⟩:=rx
    cases y with
    | byt j=>obtain ⟨t',rfl⟩:=ry;exact PySem.W.eq_bytes (fin_bl I q dec_byt)
    | _=>exact absurd (show false=true from hs) Bool.false_ne_true
  | _=>cases y <;> exact absurd (show false=true from hs) Bool.false_ne_true
theorem op_ne:OpR X (compareOp .NotEq) rNe:=by
  intro pins s σ H x y v u Q I rx ry h
  obtain ⟨hs,q⟩:=h
  cases x with
  | non=>
    cases rx
    cases y with
    | non=>cases ry;exact PySem.EqNone.ne_none_none (fin_bl I q (by simp))
    | bl j=>cases ry;exact PySem.EqNone.ne_none_bool (fin_bl I q (by simp))
    | int j=>obtain ⟨t',rfl⟩:=ry;exact PySem.EqNone.ne_none_int (fin_bl I q (by simp))
    | str j=>obtain ⟨t',rfl⟩:=ry;exact PySem.EqNone.ne_none_str (fin_bl I q (by simp))
    | _=>exact absurd (show false=true from hs) Bool.false_ne_true
  | bl i=>
    cases rx
    cases y with
    | non=>cases ry;exact PySem.EqNone.ne_bool_none (fin_bl I q (by simp))
    | bl j=>cases ry;exact ne_bool (fin_bl I q (congrArg not dec_bl))
    | str j=>obtain ⟨t',rfl⟩:=ry;exact PySem.EqMixed.ne_bool_str (fin_bl I q (by simp))
    | _=>exact absurd (show false=true from hs) Bool.false_ne_true
  | int i=>
    obtain ⟨t,rfl⟩:=rx
    cases y with
    | non=>cases ry;exact PySem.EqNone.ne_int_none (fin_bl I q (by simp))
    | int j=>obtain ⟨t',rfl⟩:=ry;exact ne_int (fin_bl I q (congrArg not dec_int))
    | str j=>obtain ⟨t',rfl⟩:=ry;exact PySem.EqMixed.ne_int_str (fin_bl I q (by simp))
    | _=>exact absurd (show false=true from hs) Bool.false_ne_true
  | str i=>
    obtain ⟨t,rfl⟩:=rx
    cases y with
    | non=>cases ry;exact PySem.EqNone.ne_str_none (fin_bl I q (by simp))
    | bl j=>cases ry;exact PySem.EqMixed.ne_str_bool (fin_bl I q (by simp))
    | int j=>obtain ⟨t',rfl⟩:=ry;exact PySem.EqMixed.ne_str_int (fin_bl I q (by simp))
    | str j=>obtain ⟨t',rfl⟩:=ry;exact ne_str (fin_bl I q (congrArg not dec_str))
    | _=>exact absurd (show false=true from hs) Bool.false_ne_true
  | byt i=>
    obtain ⟨t,rfl⟩:=rx
    cases y with
    | byt j=>obtain ⟨t',rfl⟩:=ry;exact PySem.W.ne_bytes (fin_bl I q (congrArg not dec_byt))
    | _=>exact absurd (show false=true from hs) Bool.false_ne_true
  | _=>cases y <;> exact absurd (show false=true from hs) Bool.false_ne_true
theorem op_lt:OpR X (compareOp .Lt) (rI0 fun i j=>.bl (decide (i < j))):=opB0 fun _ _ _ _ _ _ _ q=>lt_int q
theorem op_gt:OpR X (compareOp .Gt) (rI0 fun i j=>.bl (decide (j < i))):=opB0 fun _ _ _ _ _ _ _ q=>gt_int q
theorem op_ge:OpR X (compareOp .GtE) (rI0 fun i j=>.bl (decide (j≤i))):=opB0 fun _ _ _ _ _ _ _ q=>ge_int q
theorem op_lt_str:OpR X (compareOp .Lt) (fun x y H Q=>∃ i j,x=.str i∧y=.str j∧Q (.bl (decide (i.cps.toList < j.cps.toList))) H):=by
  intro pins s σ H x y v u Q I rx ry h
  obtain ⟨i,j,rfl,rfl,q⟩:=h
  obtain ⟨t,rfl⟩:=rx
  obtain ⟨t',rfl⟩:=ry
  exact lt_str (fin_bl I q rfl)
theorem nomark (b:Expr) {op:CmpOp} (h:op≠.In:=by decide) (h2:op≠.NotIn:=by decide):behindInMarks op b=false:=by
  have e1:(op == CmpOp.In)=false:=by cases op <;> first | rfl | exact absurd rfl h
  have e2:(op == CmpOp.NotIn)=false:=by cases op <;> first | rfl | exact absurd rfl h2
  cases b <;> simp [behindInMarks,e1,e2]
theorem pe_cmpR {op:CmpOp} {r:R2} (ho:OpR X (compareOp op) r) (ha:PE X a ta) (hb:PE X b tb) (hm:behindInMarks op b=false):PE X (.Compare a [op] [b] pos) (tOp r ta tb):=by
  intro pins s σ H Q I h
  exact wpAny_Compare1 (binT ha hb I h fun v u s2 x y H2 I2 rx ry q=>ho pins s2 σ H2 x y v u Q I2 rx ry q) hm
def tTest (t:TE):TT:=fun σ H Q=>t σ H fun x H'=>∃ k,x=.bl k∧Q k H'
theorem pt_cmpR {op:CmpOp} {r:R2} (ho:OpR X (compareOp op) r) (ha:PE X a ta) (hb:PE X b tb) (hm:behindInMarks op b=false):PT X (.Compare a [op] [b] pos) (tTest (tOp r ta tb)):=by
  intro pins s σ H Q I h
  refine wpAny_isTrue_Compare1 (thn (ha pins s σ H _ I h) fun v s1 ⟨x,H1,I1,r1,q1⟩=>thn (hb pins s1 σ H1 _ I1 q1) fun u s2 ⟨y,H2,I2,r2,q2⟩=>
    thn (ho pins s2 σ H2 x y v u _ I2 r1 r2 q2) fun c s3 ⟨z,H3,I3,r3,k,e,q3⟩=>?_) hm
  subst e
  cases r3
  exact wpAny_truthy_bool ⟨H3,I3,q3⟩
theorem line63:(sizeLine:Nat) < 2 ^ 63:=by rw [sizeLine_eq];decide
theorem op_add_str:OpR X (binaryOp .Add) (fun x y H Q=>∃ i j,x=.str i∧y=.str j∧i.length+j.length≤sizeLine∧Q (.str (i++j)) H):=by
  intro pins s σ H x y v u Q I rx ry h
  obtain ⟨i,j,rfl,rfl,hz,q⟩:=h
  obtain ⟨t,rfl⟩:=rx
  obtain ⟨t',rfl⟩:=ry
  exact add_str (fun t' tk=>⟨.str (i++j),H,I.tok _,⟨_,rfl⟩,q⟩) hz
theorem vals1 {x:V} {us:List Value} (r:Vals [x] us):∃ u,us=[u]∧RelV x u:=by
  cases r with
  | cons r1 r2=>cases r2;exact ⟨_,rfl,r1⟩
theorem vals2 {x y:V} {us:List Value} (r:Vals [x,y] us):∃ u w',us=[u,w']∧RelV x u∧RelV y w':=by
  cases r with
  | cons r1 r2=>
    cases r2 with
    | cons r3 r4=>cases r4;exact ⟨_,_,rfl,r1,r3⟩
theorem call_max2 (hc:X.calm=true):CallR X (.builtin "max") (fun xs H Q=>∃ i j,xs=[.int i,.int j]∧Q (.int (if j > i then j else i)) H):=by
  intro pins s σ H xs us Q I r h
  obtain ⟨i,j,rfl,q⟩:=h
  obtain ⟨u,w',rfl,⟨t,rfl⟩,⟨t',rfl⟩⟩:=vals2 r
  refine max_two_ints (I.ok.hd hc) fun h' tk k=>⟨_,H,I.kept k,?_,q⟩
  by_cases hj:j > i
  · rw [if_pos hj,if_pos hj];exact ⟨_,rfl⟩
  · rw [if_neg hj,if_neg hj];exact ⟨_,rfl⟩
theorem call_min2 (hc:X.calm=true):CallR X (.builtin "min") (fun xs H Q=>∃ i j,xs=[.int i,.int j]∧Q (.int (if j < i then j else i)) H):=by
  intro pins s σ H xs us Q I r h
  obtain ⟨i,j,rfl,q⟩:=h
  obtain ⟨u,w',rfl,⟨t,rfl⟩,⟨t',rfl⟩⟩:=vals2 r
  refine min_two_ints (I.ok.hd hc) fun h' tk k=>⟨_,H,I.kept k,?_,q⟩
  by_cases hj:j < i
  · rw [if_pos hj,if_pos hj];exact ⟨_,rfl⟩
  · rw [if_neg hj,if_neg hj];exact ⟨_,rfl⟩
theorem call_int1:CallR X (.type "int") (fun xs H Q=>(∃ i,xs=[.int i]∧Q (.int i) H)∨∃ k,xs=[.bl k]∧Q (.int (if k then 1 else 0)) H):=by
  intro pins s σ H xs us Q I r h
  rcases h with ⟨i,rfl,q⟩ | ⟨k,rfl,q⟩
  · obtain ⟨u,rfl,t,rfl⟩:=vals1 r
    exact call_int_int ⟨.int i,H,I,⟨_,rfl⟩,q⟩
  · obtain ⟨u,rfl,r1⟩:=vals1 r
    cases r1
    exact call_int_bool ⟨.int (if k then 1 else 0),H,I.tok _,⟨_,rfl⟩,q⟩
theorem call_str_int:CallR X (.type "str") (fun xs H Q=>∃ i,xs=[.int i]∧i.natAbs.log2 < 1920∧Q (.str (toString i)) H):=by
  intro pins s σ H xs us Q I r h
  obtain ⟨i,rfl,hz,q⟩:=h
  obtain ⟨u,rfl,t,rfl⟩:=vals1 r
  exact PySem.P.str_of_int hz ⟨.str _,H,I.tok _,⟨_,rfl⟩,q⟩
end
end L2
namespace L2
open PySem PySem.Spec PyProof.Rows
structure ObjM (h:Heap) (x dx C:Addr) (mA:Str→Option Value):Prop where
  obj:h.get? x=some (PySem.W.instObj C dx)
  ns:h.Ns1 dx mA
  ne:dx≠x
theorem lookIn_ns {h:Heap} {dx:Addr} {mA:Str→Option Value} (n:h.Ns1 dx mA):∃ od,h.get? dx=some od∧∀ name,PySem.W.lookIn name od=some (mA name):=by
  obtain ⟨o,es,ep,ho,hd,hk,_,hm⟩:=n
  refine ⟨o,ho,fun name=>?_⟩
  have e:=hm name
  unfold nsFind findBy at e
  rw [← Array.find?_toList] at e
  unfold PySem.W.lookIn
  rw [hd]
  dsimp only
  split
  · rename_i y q
    rw [q] at e
    exact congrArg some e
  · rename_i q
    rw [q] at e
    have a:es.toList.any (·.refKey)=false:=by
      rw [List.any_eq_false]
      intro y hy
      obtain ⟨z,t,hkey⟩:=hk y (Array.mem_toList_iff.mp hy)
      simp [DictEntry.refKey,hkey]
    have a':¬ es.toList.any (·.refKey)=true:=by rw [a];exact Bool.false_ne_true
    rw [if_neg a']
    exact congrArg some e
theorem ObjM.look {h:Heap} {x dx C:Addr} {mA:Str→Option Value} (I:ObjM h x dx C mA):∃ od,PySem.W.InstAt h x (PySem.W.instObj C dx) C (some od)∧∀ name,PySem.W.lookIn name od=some (mA name):=
  let ⟨od,ho,hl⟩:=lookIn_ns I.ns
  ⟨od,⟨I.obj,rfl,rfl,ho⟩,hl⟩
section
variable {prog:Program} {w:World} {A:Around} {E:Value→Shared→Prop} {s:Shared} {K:PySem.W.Frag} {x dx C f:Addr} {mA:Str→Option Value} {name:Str} {v:Value}
end
section
variable {P:Program} {w:World} {H H':Hp} {h h':Heap} {a C dx:Addr} {fs fs':List (Str × V)}
theorem ins_get (hok:HOk P w H h) (e:H a=some (.ins C dx fs)):∃ mA,ObjM h a dx C mA∧(∀ f,RelO (fs.lookup f) (mA f))∧PySem.Within mA (fs.map (·.1))∧fs.length≤1000∧H dx=some (.own a):=by
  obtain ⟨d,z,ne,ob,mA,n,r,q⟩:=(show ObjOk P w H h a (.ins C dx fs) from hok a _ e)
  exact ⟨mA,⟨ob,n,ne⟩,r,q,z,d⟩
end
structure Cls (K:PySem.W.Frag) (C:Addr):Prop where
  pg:PySem.W.plainGet K C Str.empty=true
  hd:PySem.W.hasDictIn K C=true
  po:PySem.W.plainOver K C=true
  sa:PySem.W.findIn K (.ref C) "__setattr__" = some (some (.builtin "object.__setattr__"))
theorem Cls.get {K:PySem.W.Frag} {C:Addr} (c:Cls K C) (f:Str):PySem.W.plainGet K C f=true:=c.pg
section
variable {X:Cx} {pins:List (Addr × Obj)} {σ:St} {H:Hp} {s:Shared} {a C dx:Addr} {fs:List (Str × V)} {f:Str} {v:V} {A:Around} {E:Value→Shared→Prop}
end
section
variable {X:Cx} {o e value:Expr} {f:Str} {pos pos' tpos:Pos} {ta tv:TE}
end
section
variable {X:Cx} {pins:List (Addr × Obj)} {σ:St} {H:Hp} {s:Shared} {A:Around} {E:Value→Shared→Prop} {Q:Value→Shared→Prop} {c:Value} {b:Bool}
inductive TyOf (K:PySem.W.Frag) (H:Hp):V→Value→Prop where
  | non:TyOf K H .non (.type "NoneType")
  | bl (x:Bool):TyOf K H (.bl x) (.type "bool")
  | int (i:Int):TyOf K H (.int i) (.type "int")
  | str (x:Str):TyOf K H (.str x) (.type "str")
  | flt (x:UInt64):TyOf K H (.flt x) (.type "float")
  | lst {a:Addr} {xs:List V} (e:H a=some (.lst xs)):TyOf K H (.ref a) (.type "list")
  | frz {a:Addr} {o:Obj} {xs:List V} (e:H a=some (.frz o (.lst xs))):TyOf K H (.ref a) (.type "list")
  | tup {a:Addr} {xs:List V} (e:H a=some (.tup xs)):TyOf K H (.ref a) (.type "tuple")
  | dK {a:Addr} {kvs:List (Key × V)} (e:H a=some (.dK kvs)):TyOf K H (.ref a) (.type "dict")
  | dT {a:Addr} {kvs:List (List Key × V)} (e:H a=some (.dT kvs)):TyOf K H (.ref a) (.type "dict")
  | ins {a C dx:Addr} {fs:List (Str × V)} (e:H a=some (.ins C dx fs)) (cl:Cls K C) (ha:PySem.W.findIn K (.ref C) "__class__" = some (some (.builtin "object.__class__")))
      (hn:PySem.W.specialIn K (.builtin "object.__class__") "__get__" = some (some (.builtin "getset_descriptor.__get__"))) (htk:PySem.W.takesIn K (.builtin "object.__class__")=some true)
      (hm:PySem.W.mroIn K C (.type "object")=some true):TyOf K H (.ref a) (.ref C)
theorem isinst_ok {x:V} {u t:Value} (I:Inv X pins σ H s) (rx:RelV x u) (ty:TyOf X.K H x t) (e:PySem.W.kitOne X.K t c=some b) (h:∀ tk,Q (.bool b) { s with toks:=tk }) :
    wpAny (model X.prog X.w) A (call (.builtin "isinstance") [u,c]) Q E s:=by
  cases ty with
  | non=>cases (show u=Value.none from rx);exact PySem.W.kia_one PySem.W.kitx_none I.kIn True.intro e (fun z=>nomatch z) h
  | bl y=>cases (show u=Value.bool y from rx);exact PySem.W.kia_one PySem.W.kitx_bool I.kIn True.intro e (fun z=>nomatch z) h
  | int i=>obtain ⟨t,q⟩:=(show ∃ t,u=Value.int i t from rx);cases q;exact PySem.W.kia_one PySem.W.kitx_int I.kIn True.intro e (fun z=>nomatch z) h
  | str y=>obtain ⟨t,q⟩:=(show ∃ t,u=Value.str y t from rx);cases q;exact PySem.W.kia_one PySem.W.kitx_str I.kIn True.intro e (fun z=>nomatch z) h
  | flt y=>obtain ⟨t,q⟩:=(show ∃ t,u=Value.float y t from rx);cases q;exact PySem.W.kia_one PySem.W.kitx_float I.kIn True.intro e (fun z=>nomatch z) h
  | @lst a xs ea=>
    cases (show u=Value.ref a from rx)
    obtain ⟨_,_,n,_,h1⟩:=(show ObjOk X.prog X.w H s.heap a (.lst xs) from I.hok a _ ea)
    exact PySem.W.kia_one PySem.W.kitx_list I.kIn ⟨_,h1,rfl⟩ e (fun z=>nomatch z) h
  | @frz a ob xs ea=>
    cases (show u=Value.ref a from rx)
    obtain ⟨_,_,_,n,_,h1⟩:=(show ObjOk X.prog X.w H s.heap a (.frz ob (.lst xs)) from I.hok a _ ea)
    exact PySem.W.kia_one PySem.W.kitx_list I.kIn ⟨_,h1,rfl⟩ e (fun z=>nomatch z) h
  | @tup a xs ea=>
    cases (show u=Value.ref a from rx)
    obtain ⟨_,_,_,p⟩:=(show ObjOk X.prog X.w H s.heap a (.tup xs) from I.hok a _ ea)
    obtain ⟨o,h1,h2,_⟩:=p
    exact PySem.W.kia_one PySem.W.kitx_tuple I.kIn ⟨o,h1,h2⟩ e (fun z=>nomatch z) h
  | @dK a kvs ea=>
    cases (show u=Value.ref a from rx)
    obtain ⟨_,_,vs,_,p⟩:=(show ObjOk X.prog X.w H s.heap a (.dK kvs) from I.hok a _ ea)
    obtain ⟨o,es,ep,h1,h2,_⟩:=p
    exact PySem.W.kia_one PySem.W.kitx_dict I.kIn ⟨o,h1,h2.1⟩ e (fun z=>nomatch z) h
  | @dT a kvs ea=>
    cases (show u=Value.ref a from rx)
    obtain ⟨_,_,xs,_,o,es,ep,h1,h2,_⟩:=(show ObjOk X.prog X.w H s.heap a (.dT kvs) from I.hok a _ ea)
    exact PySem.W.kia_one PySem.W.kitx_dict I.kIn ⟨o,h1,h2.1⟩ e (fun z=>nomatch z) h
  | @ins a C dx fs ea cl ha hn htk hm=>
    cases (show u=Value.ref a from rx)
    obtain ⟨mA,O,_⟩:=ins_get I.hok ea
    obtain ⟨od,J,_⟩:=O.look
    exact PySem.W.kia_one (PySem.W.kitx_own (cl.get _) cl.hd ha hn htk hm) I.kIn J e (fun z=>nomatch z) h
end
end L2
namespace L2
open PySem PySem.Spec PyProof.Rows
structure Room (k:Nat) (A:Around):Prop where
  hd:A.handled=none
  dp:A.depth+3 * k+5 < recursionLimit
  un:A.units+16 * k+200 < cLine
  gd:A.guards=some []
theorem Room.mono {j k:Nat} {A:Around} (r:Room k A) (h:j≤k):Room j A:=⟨r.hd,by have:=r.dp;omega,by have:=r.un;omega,by first | exact r.gd | (simpa [Around.under,Code.isGuard,guardIds] using r.gd)⟩
theorem Room.deeper {k:Nat} {A:Around} (r:Room (k+1) A) (env:Env):Room k (A.deeper env):=
  ⟨r.hd,by have:=r.dp;show A.depth+1+3 * k+5 < _;omega,by have:=r.un;show A.units+3+16 * k+200 < _;omega,by first | exact r.gd | (simpa [Around.under,Code.isGuard,guardIds] using r.gd)⟩
theorem Room.depth {k:Nat} {A:Around} (r:Room k A):A.depth < recursionLimit:=by have:=r.dp;omega
theorem Room.units {k:Nat} {A:Around} (r:Room k A):A.units+64 < cLine:=by have:=r.un;omega
theorem Room.units0 {k:Nat} {A:Around} (r:Room k A):A.units < cLine:=by have:=r.un;omega
def tNil:TA:=fun _ H Q=>Q [] H
def tCons (ta:TE) (tr:TA):TA:=fun σ H Q=>ta σ H fun x H1=>tr σ H1 fun xs H2=>Q (x :: xs) H2
section
variable {X:Cx} {e:Expr} {es:List Expr} {te:TE} {t:TA} {pos:Pos}
theorem pa_nil:PA X [] tNil:=fun _ _ _ _ H Q I h=>Calls.spliced_nil ⟨[],H,I,.nil,h⟩
theorem pa_cons (ha:PE X e te) (hr:PA X es t) (hs:starEach (e :: es) X.env=(false,eval e X.env) :: starEach es X.env:=by rfl):PA X (e :: es) (tCons te t):=by
  intro pos pins s σ H Q I h
  rw [hs]
  show wpAny _ _ (spliced ((false,eval e X.env) :: backTo pos (starEach es X.env))) _ _ s
  refine Calls.spliced_cons (thn (ha pins s σ H _ I h) fun u s1 ⟨x,H1,I1,r1,q1⟩=>?_)
  exact thn (hr pos pins s1 σ H1 _ I1 q1) fun us s2 ⟨xs,H2,I2,r2,q2⟩=>⟨x :: xs,H2,I2,.cons r1 r2,q2⟩
def tTup (t:TA):TE:=fun σ H Q=>t σ H fun xs H1=>xs.length≤sizeLine∧∀ p,H1 p=none→Q (.ref p) (upd H1 p (.tup xs))
def tLst (t:TA):TE:=fun σ H Q=>t σ H fun xs H1=>xs.length≤sizeLine∧∀ p,H1 p=none→Q (.ref p) (upd H1 p (.lst xs))
theorem pe_tup {x1} (h:PA X es t):PE X (.Tuple es x1 pos) (tTup t):=by
  intro pins s σ H Q I hq
  refine wpAny_Tuple_spliced (thn (h pos pins s σ H _ I hq) fun us s1 ⟨xs,H1,I1,r,z,q⟩=>⟨by rw [← r.length];exact z,?_⟩)
  have hf:H1 s1.heap.objs.size=none:=I1.hok.fresh (Nat.le_refl _)
  refine ⟨.ref s1.heap.objs.size,upd H1 s1.heap.objs.size (.tup xs),I1.laid (t':=s1.toks) (fun b u e=>Heap.get?_push_of_some _ e) (Nat.le_refl _) ?_,rfl,q _ hf⟩
  exact ⟨⟨z,_,Heap.get?_push_size _ rfl,rfl⟩,us,r,⟨_,Heap.get?_push_size _ rfl,rfl,_,rfl⟩⟩
theorem pe_lst (h:PA X es t):PE X (.List es pos) (tLst t):=by
  intro pins s σ H Q I hq
  refine wpAny_List_spliced (thn (h pos pins s σ H _ I hq) fun us s1 ⟨xs,H1,I1,r,z,q⟩=>⟨by rw [← r.length];exact z,?_⟩)
  have hf:H1 s1.heap.objs.size=none:=I1.hok.fresh (Nat.le_refl _)
  refine ⟨.ref s1.heap.objs.size,upd H1 s1.heap.objs.size (.lst xs),I1.laid (t':=s1.toks) (fun b u e=>Heap.get?_push_of_some _ e) (Nat.le_refl _) ?_,rfl,q _ hf⟩
  exact ⟨z,us,0,r,Heap.get?_push_size _ rfl⟩
end
abbrev Sp:=List V→Hp→VK→XK→Prop
abbrev CXT:=List Env→Hp→Shared→XK→Value→Shared→Prop
structure Env0 (P:Program) (w:World) (K:PySem.W.Frag) (mg:Str→Option Value) (base:Heap) (A:Around) (outer:List Env) (s:Shared) (H:Hp):Prop where
  frames:A.frames=some outer
  mod:Mod K mg base
  bs:∀ b o,base.get? b=some o→s.heap.get? b=some o∧H b=none
  bsz:base.objs.size≤s.heap.objs.size
  funs:s.heap.FunFrames base outer
  frf:∀ b∈frs outer,H b=none
  hok:HOk P w H s.heap
  bare:AllBare s.gens
def CE (outer:List Env) (P:Program) (w:World) (H:Hp) (s:Shared) (Q:VK) (u:Value) (s':Shared):Prop:=
  ∃ v H',s'.os=s.os∧AllBare s'.gens∧Un (frs outer) [] H H' s.heap s'.heap∧HOk P w H' s'.heap∧RelV v u∧Q v H'
def CR (CX:CXT) (outer:List Env) (P:Program) (w:World) (H:Hp) (s:Shared) (Q:VK) (E:XK) (r:Result) (s':Shared):Prop:=
  match r with
  | .ok (.ret u)=>CE outer P w H s Q u s'
  | .ok _=>False
  | .error e=>CX outer H s E e s'
structure FnOk (P:Program) (w:World) (K:PySem.W.Frag) (mg:Str→Option Value) (base:Heap) (CX:CXT) (k:Nat) (f:Addr) (fd:FuncData) (ps:List Str) (sp:Sp):Prop where
  len:∀ vs H Q E,sp vs H Q E→vs.length=ps.length
  run:∀ (A:Around) (outer:List Env) (s:Shared) (H:Hp) (args:Args) (us:List Value) (vs:List V) (Q:VK) (E:XK),Room k A→Env0 P w K mg base A outer s H→BindsTo s fd args (ps.zip us)→Vals vs us→sp vs H Q E →
    codeAny (model P w) A (.call (.ref f) args) (CR CX outer P w H s Q E) s
theorem FnOk.mono {P:Program} {w:World} {K:PySem.W.Frag} {mg:Str→Option Value} {base:Heap} {CX:CXT} {j k:Nat} {f:Addr} {fd:FuncData} {ps:List Str} {sp:Sp} (F:FnOk P w K mg base CX j f fd ps sp) (h:j≤k) :
    FnOk P w K mg base CX k f fd ps sp:=⟨F.len,fun A outer s H args us vs Q E hr=>F.run A outer s H args us vs Q E (hr.mono h)⟩
section
variable {X:Cx} {pins:List (Addr × Obj)} {σ:St} {H:Hp} {s s':Shared}
theorem Inv.env0 (I:Inv X pins σ H s):Env0 X.prog X.w X.K X.mg X.base X.A X.stack s H:=
  ⟨I.ok.frames,I.ok.mod,I.bs,Nat.le_trans I.ok.bsz I.sz,I.stack,I.stkFree,I.hok,I.bare⟩
theorem Inv.after {Q:VK} {u:Value} (I:Inv X pins σ H s) (h:CE X.stack X.prog X.w H s Q u s'):EP X pins σ Q u s':=by
  obtain ⟨v,H',os,bare,un,hok,r,q⟩:=h
  obtain ⟨hh,g,d,t,os'⟩:=s'
  obtain rfl:os'=s.os:=os
  exact ⟨v,H',I.call (h':=hh) (g':=g) (d':=d) (t':=t) (ch:=[]) un hok bare (fun b z=>absurd z (by simp)),r,q⟩
end
def tCall (sp:Sp) (dvs:List V) (E:XK) (t:TA):TE:=fun σ H Q=>t σ H fun vs H1=>sp (vs++dvs) H1 Q E
def Binds (K:PySem.W.Frag) (fd:FuncData) (ps:List Str) (ds:List Value):Prop:=
  ∀ (s:Shared) (us:List Value),K.In s.heap→(us++ds).length=ps.length→BindsTo s fd ⟨us,[]⟩ (ps.zip (us++ds))
theorem Binds.all {K:PySem.W.Frag} {fd:FuncData} {ps:List Str} (h:∀ us:List Value,us.length=ps.length→bindArgs fd ⟨us,[]⟩=pure (ps.zip us)):Binds K fd ps []:=fun s us _ hl=>by
  rw [List.append_nil] at hl ⊢
  exact .of_eq (h us hl)
def Passes (CX:CXT) (X:Cx) (E:XK):Prop:=∀ (pins:List (Addr × Obj)) (σ:St) (H:Hp) (s:Shared) (e:Value) (s':Shared),Inv X pins σ H s→CX X.stack H s E e s'→X.xe e s'
section
variable {X:Cx} {CX:CXT} {k:Nat} {f C:Addr} {fd:FuncData} {ps:List Str} {sp:Sp} {dvs:List V} {ds:List Value} {E:XK} {x m:Str} {p pos apos:Pos} {e o:Expr} {es:List Expr} {ta:TE} {t:TA}
theorem run_fn {pins:List (Addr × Obj)} {σ:St} {H:Hp} {s:Shared} {Q:VK} {us:List Value} {vs:List V} (F:FnOk X.prog X.w X.K X.mg X.base CX k f fd ps sp) (hr:Room k X.A) (hb:Binds X.K fd ps ds) (hd:Vals dvs ds) (hx:Passes CX X E)
    (I:Inv X pins σ H s) (r:Vals vs us) (h:sp (vs++dvs) H Q E):wpAny (model X.prog X.w) X.A (call (.ref f) us) (EP X pins σ Q) X.xe s:=by
  have r2:Vals (vs++dvs) (us++ds):=r.append hd
  have hl:(us++ds).length=ps.length:=by rw [← r2.length];exact F.len _ _ _ _ h
  refine wpAny_call (codeAny_mono (F.run X.A X.stack s H ⟨us,[]⟩ (us++ds) (vs++dvs) Q E hr I.env0 (hb s us I.kIn hl) r2 h) fun r s' hq=>?_)
  cases r with
  | error e=>exact hx pins σ H s e s' I hq
  | ok fl=>
    cases fl with
    | ret u=>exact I.after hq
    | next=>exact False.elim hq
    | brk=>exact False.elim hq
    | cont=>exact False.elim hq
theorem pe_call (F:FnOk X.prog X.w X.K X.mg X.base CX k f fd ps sp) (hr:Room k X.A) (hg:Gl X x) (hm:X.mg x=some (.ref f)) (hk:PySem.W.keepIn X.K (.ref f)=true) (hb:Binds X.K fd ps ds) (hd:Vals dvs ds) (hx:Passes CX X E)
    (ha:PA X (e :: es) t) (hdb:(x == ("__debug__" : Str))=false:=by decide) (he:starEach (e :: es) X.env=(false,eval e X.env) :: starEach es X.env:=by rfl) (hpl:(backTo pos (starEach es X.env)).any (·.1)=false:=by rfl) :
    PE X (.Call (.Name x p) (e :: es) [] pos) (tCall sp dvs E t):=by
  intro pins s σ H Q I h
  refine wpAny_Call_Name_kw (ld_glob I hg hm ?_ hdb)
  refine PySem.W.callWith_K (h₀:=X.base) I.ok.mod.kin hk (thn (ha pos pins s σ H _ I h) fun us s1 ⟨vs,H1,I1,r,q⟩=>⟨I1.kIn,?_⟩) he hpl
  exact run_fn F hr hb hd hx I1 r q
end
section
variable {X:Cx} {CX:CXT} {k:Nat} {f C:Addr} {fd:FuncData} {ps ks:List Str} {sp:Sp} {E:XK} {x m:Str} {p pos apos kpos:Pos} {e o:Expr} {es:List Expr} {kws:List Keyword} {te ta:TE} {t tk:TA} {nm:Option Str}
variable {g:List Value→List Value→List Value} {gV:List V→List V→List V}
end
structure FnScope (N P:List Str) (sc:Scope):Prop where
  kind:sc.kind=.function
  co:sc.isCoroutine=false
  gen:sc.isGenerator=false
  nd:N.Nodup
  pre:N.take P.length=P
  par:∀ x∈P,sc.names.lookup x=some .local∨sc.names.lookup x=some .cell
  nofree:∀ y∈sc.names,y.2≠.free
theorem bindL_out {kindOf:Str→Option NameKind} {x:Str}:∀ {binds:List (Str × Value)} {m:Str→Option Value},(∀ v,(x,v) ∉ binds)→bindL kindOf binds m x=m x
  | [],_,_=>rfl
  | (n,v) :: r,m,h=>by
    unfold bindL
    rw [bindL_out fun w hw=>h w (List.mem_cons_of_mem _ hw)]
    split
    · have:x≠n:=by rintro rfl;exact h v List.mem_cons_self
      simp [this]
    · rfl
theorem bindC_out {kindOf:Str→Option NameKind} {x:Str}:∀ {binds:List (Str × Value)} {m:Str→Option Value},(∀ v,(x,v) ∉ binds)→bindC kindOf binds m x=m x
  | [],_,_=>rfl
  | (n,v) :: r,m,h=>by
    unfold bindC
    rw [bindC_out fun w hw=>h w (List.mem_cons_of_mem _ hw)]
    split
    · rfl
    · have:x≠n:=by rintro rfl;exact h v List.mem_cons_self
      simp [this]
theorem bindL_get {kindOf:Str→Option NameKind} {x:Str} {v:Value}:∀ {P:List Str} {vs:List Value} {i:Nat} {m:Str→Option Value},P.Nodup→P[i]?=some x→vs[i]?=some v→kindOf x=some .local →
    bindL kindOf (P.zip vs) m x=some v
  | [],_,_,_,_,h,_,_=>by simp at h
  | _ :: _,[],_,_,_,_,h,_=>by simp at h
  | p :: P,w :: vs,0,m,nd,h1,h2,hk=>by
    simp at h1 h2;subst h1;subst h2
    show bindL kindOf ((p,w) :: P.zip vs) m p=_
    unfold bindL
    rw [bindL_out fun v hv=>(List.nodup_cons.mp nd).1 (List.of_mem_zip hv).1,if_pos hk]
    simp
  | p :: P,w :: vs,i+1,m,nd,h1,h2,hk=>by
    show bindL kindOf ((p,w) :: P.zip vs) m x=_
    unfold bindL
    exact bindL_get (i:=i) (List.nodup_cons.mp nd).2 (by simpa using h1) (by simpa using h2) hk
theorem bindC_get {kindOf:Str→Option NameKind} {x:Str} {v:Value}:∀ {P:List Str} {vs:List Value} {i:Nat} {m:Str→Option Value},P.Nodup→P[i]?=some x→vs[i]?=some v→kindOf x≠some .local →
    bindC kindOf (P.zip vs) m x=some v
  | [],_,_,_,_,h,_,_=>by simp at h
  | _ :: _,[],_,_,_,_,h,_=>by simp at h
  | p :: P,w :: vs,0,m,nd,h1,h2,hk=>by
    simp at h1 h2;subst h1;subst h2
    show bindC kindOf ((p,w) :: P.zip vs) m p=_
    unfold bindC
    rw [bindC_out fun v hv=>(List.nodup_cons.mp nd).1 (List.of_mem_zip hv).1,if_neg hk]
    simp
  | p :: P,w :: vs,i+1,m,nd,h1,h2,hk=>by
    show bindC kindOf ((p,w) :: P.zip vs) m x=_
    unfold bindC
    exact bindC_get (i:=i) (List.nodup_cons.mp nd).2 (by simpa using h1) (by simpa using h2) hk
def start (N:List Str) (vs:List V):St:=vs.map some++List.replicate (N.length - vs.length) none
def cxOf (CX:CXT) (P:Program) (w:World) (K:PySem.W.Frag) (mg:Str→Option Value) (base:Heap) (N:List Str) (qual:Str) (scope:Scope) (f:Addr) (cd:Value) (A:Around) (outer:List Env) (s:Shared) (H:Hp) (E:XK):Cx where
  prog:=P
  w:=w
  K:=K
  mg:=mg
  base:=base
  A:=A.deeper (envOfC qual scope s.heap.objs.size f cd)
  N:=N
  s₀:=s
  H₀:=H
  env:=envOfC qual scope s.heap.objs.size f cd
  outer:=outer
  stack:=envOfC qual scope s.heap.objs.size f cd :: outer
  ex:=[]
  calm:=true
  fn:=fun _=>true
  pn:=[]
  xe:=fun e s'=>wpAny (model P w) (A.deeper (envOfC qual scope s.heap.objs.size f cd)) (leaving (envOfC qual scope s.heap.objs.size f cd) e) (fun _ s''=>CX outer H s E e s'') (fun e' s''=>CX outer H s E e' s'') s'
theorem cell_has {sc:Scope} {n:Nat} {x:Str} (h:sc.names.lookup x=some .cell):∃ c,(cellsFrom n sc.names []).lookup x=some c:=by
  have q:=PySem.W.cellsFrom_some sc.names n [] (.inl h)
  exact Option.isSome_iff_exists.mp q
theorem inv_start {CX:CXT} {P:Program} {w:World} {K:PySem.W.Frag} {mg:Str→Option Value} {base:Heap} {N ps:List Str} {qual:Str} {scope:Scope} {f:Addr} {cd:Value} {A:Around} {outer:List Env} {s s1:Shared} {H:Hp} {E:XK} {us:List Value} {vs:List V}
    (S:FnScope N ps scope) (hd:A.handled=none) (e0:Env0 P w K mg base A outer s H) (hl:vs.length=ps.length) (r:Vals vs us)
    (x:InCallC s s.heap.objs.size (bindL (envOfC qual scope s.heap.objs.size f cd).kindOf (ps.zip us) fun _=>none) (cellsFrom (s.heap.objs.size+1) scope.names []) (bindC (envOfC qual scope s.heap.objs.size f cd).kindOf (ps.zip us) fun _=>none) s1) :
    Inv (cxOf CX P w K mg base N qual scope f cd A outer s H E) [] (start N vs) H s1:=by
  have hpl:ps.length≤N.length:=by have:=congrArg List.length S.pre;rw [List.length_take] at this;omega
  obtain ⟨h1,tk,rfl,hk⟩:=x.done
  have noA:∀ b:Addr,b ∉ (cxOf CX P w K mg base N qual scope f cd A outer s H E).ex:=fun b z=>absurd (show b∈([]:List Addr) from z) (by simp)
  refine ⟨⟨e0.mod,S.kind,rfl,rfl,Nat.le_refl _,fun y z c h1 h2=>?_,fun y hy=>?_,fun y c _ h=>?_,fun _=>hd,Around.frames_deeper e0.frames,.inr ⟨rfl,rfl⟩,fun b z=>absurd z (noA b),e0.bs,e0.bsz,fun b _ _=>noA b,fun b z=>absurd z (noA b),e0.funs,e0.frf⟩,
    rfl,e0.bare,Un.kept hk,⟨_,x.toInCall.ns,fun i y v h1 h2 h3=>?_⟩,fun y c h=>⟨_,x.cell y c h⟩,e0.hok.fresh (Nat.le_refl _),fun y c h=>?_,fun p hp=>absurd (show p∈([]:List (Addr × Obj)) from hp) (by simp),e0.hok.kept hk,?_⟩
  · exact name_of_addr x.apart (PySem.mem_of_lookup h1) (PySem.mem_of_lookup h2)
  · have hy:scope.names.lookup y=some .cell∨scope.names.lookup y=some .free:=hy
    rcases hy with hy | hy
    · exact cell_has hy
    · exact absurd rfl (S.nofree _ (PySem.mem_of_lookup hy))
  · exact Nat.le_of_lt (x.above y c (PySem.mem_of_lookup h))
  · have hi:i < vs.length:=by
      unfold start at h2
      by_cases hi:i < vs.length
      · exact hi
      · rw [List.getElem?_append_right (by simpa using hi)] at h2
        rw [List.getElem?_replicate] at h2
        split at h2 <;> cases h2
    have ha:vs[i]?=some v:=by
      unfold start at h2
      rw [List.getElem?_append_left (by simpa using hi),List.getElem?_map] at h2
      cases e:vs[i]? with
      | none=>rw [e] at h2;cases h2
      | some a=>rw [e] at h2;cases h2;rfl
    obtain ⟨u,hu,rv⟩:=r.get ha
    have hp:ps[i]?=some y:=by
      rw [← S.pre,List.getElem?_take_of_lt (by omega)];exact h1
    have ndP:ps.Nodup:=by rw [← S.pre];exact S.nd.sublist (List.take_sublist _ _)
    refine ⟨u,rv,?_⟩
    rcases S.par y (List.mem_of_getElem? hp) with k | k
    · exact .inl ⟨k,bindL_get ndP hp hu k⟩
    · obtain ⟨c,e⟩:=cell_has (n:=s.heap.objs.size+1) k
      refine .inr ⟨.inl k,c,e,?_⟩
      have q:=x.cell y c e
      rw [bindC_get ndP hp hu (by show scope.names.lookup y≠_;rw [k];decide)] at q
      exact q
  · exact e0.hok.fresh (Nat.le_of_lt (x.above y c (PySem.mem_of_lookup h)))
  · unfold start
    show _=N.length
    rw [List.length_append,List.length_map,List.length_replicate]
    omega
theorem fn_of {CX:CXT} {P:Program} {w:World} {K:PySem.W.Frag} {mg:Str→Option Value} {base:Heap} {k:Nat} {f:Addr} {name qual:Str} {params:Arguments} {body:List Stmt} {scope:Scope} {dV kV doc pm cdv ct oc:Value} {an od:Option Addr}
    {osl:Array (Option Value)} {N ps:List Str} {sp:Sp} (lk:K.lookup f=some ⟨oc,od,.func (PySem.W.fnOf name qual params body scope dV kV doc pm an cdv ct),osl⟩) (hcd:PySem.W.codeIn K cdv qual=true) (S:FnScope N ps scope)
    (len:∀ vs H Q E,sp vs H Q E→vs.length=ps.length)
    (hbody:∀ (A:Around) (outer:List Env) (s:Shared) (H:Hp) (vs:List V) (Q:VK) (E:XK),Room k (A.deeper (envOfC qual scope s.heap.objs.size f cdv))→sp vs H Q E →
      ∃ t,PSs (cxOf CX P w K mg base N qual scope f cdv A outer s H E) body t∧t { nx:=fun _ H'=>Q .non H',rt:=Q } (start N vs) H) :
    FnOk P w K mg base CX (k+1) f (PySem.W.fnOf name qual params body scope dV kV doc pm an cdv ct) ps sp:=by
  refine ⟨len,fun A outer s H args us vs Q E hr e0 hb r hsp=>?_⟩
  have hl:=len _ _ _ _ hsp
  have KX:K.In s.heap:=e0.mod.kin.keeps fun b o e=>(e0.bs b o e).1
  have lim:s.heap.NoLimit:=e0.mod.nolimit.keeps fun b o e=>(e0.bs b o e).1
  have hkind:∀ y∈ps.zip us,scope.names.lookup y.1=some .local∨(scope.names.lookup y.1=some .cell∧((cellsFrom (s.heap.objs.size+1) scope.names []).lookup y.1).isSome=true):=fun ⟨n,v⟩ hy=>by
    rcases S.par n (List.of_mem_zip hy).1 with q | q
    · exact .inl q
    · exact .inr ⟨q,PySem.W.cellsFrom_some _ _ _ (.inl q)⟩
  refine codeAny_call_function hr.depth (KX _ _ lk) rfl S.co S.gen rfl (PySem.W.codeRec_of KX hcd) (hb _ _ _ _ ?_)
  refine wpAny_newFunctionEnv_cells S.kind hkind fun env he s1 x=>?_
  subst he
  refine ⟨lim.keeps x.toInCall.keep,codeAny_func ?_⟩
  obtain ⟨t,ht,hq⟩:=hbody A outer s H vs Q E (hr.deeper _) hsp
  have I:Inv (cxOf CX P w K mg base N qual scope f cdv A outer s H E) [] (start N vs) H s1:=inv_start S hr.hd e0 hl r x
  refine wpAny_mono (ht [] s1 (start N vs) H _ I hq) (fun fl s' hs=>?_) fun e s' hs=>hs
  have fin:∀ {σ':St} {H':Hp} {v:V} {u:Value},Inv (cxOf CX P w K mg base N qual scope f cdv A outer s H E) [] σ' H' s'→RelV v u→Q v H'→CE outer P w H s Q u s':=
    fun {σ' H' v u} J rv q=>⟨v,H',J.os,J.bare,J.base,J.hok,rv,q⟩
  cases fl with
  | ret u=>
    obtain ⟨v,σ',H',J,rv,q⟩:=hs
    exact fin J rv q
  | next=>
    obtain ⟨σ',H',J,q⟩:=hs
    exact fin (v:=V.non) (u:=Value.none) J rfl q
  | brk=>
    obtain ⟨_,_,_,q⟩:=hs
    exact False.elim q
  | cont=>
    obtain ⟨_,_,_,q⟩:=hs
    exact False.elim q
end L2
namespace L2
open PySem PySem.Spec PyProof.Rows
section
variable {X:Cx} {x:Str} {p pos:Pos} {e:Expr} {es:List Expr} {t:TA} {id T:String} {r:List V→Hp→VK→Prop}
def tCB (r:List V→Hp→VK→Prop) (t:TA):TE:=fun σ H Q=>t σ H fun vs H1=>r vs H1 Q
theorem pe_callB (hc:CallR X (.builtin id) r) (hg:Gl X x) (hm:X.mg x=none) (hv:bootBuiltins x=some (.builtin id)) (ha:PA X (e :: es) t) (hn:x ≠ "__name__" := by decide) (hdb:(x == ("__debug__" : Str))=false:=by decide)
    (he:starEach (e :: es) X.env=(false,eval e X.env) :: starEach es X.env:=by rfl) (hpl:(backTo pos (starEach es X.env)).any (·.1)=false:=by rfl):PE X (.Call (.Name x p) (e :: es) [] pos) (tCB r t):=by
  intro pins s σ H Q I h
  refine wpAny_Call_Name_kw (ld_blt I hg hm hv ?_ hn hdb)
  exact PyProof.Rows.callWith_builtin1 (thn (ha pos pins s σ H _ I h) fun us s1 ⟨vs,H1,I1,r1,q1⟩=>hc pins s1 σ H1 vs us Q I1 r1 q1) he hpl
theorem pe_callTy (hc:CallR X (.type T) r) (hg:Gl X x) (hm:X.mg x=none) (hv:bootBuiltins x=some (.type T)) (ha:PA X (e :: es) t) (hn:x ≠ "__name__" := by decide) (hdb:(x == ("__debug__" : Str))=false:=by decide)
    (he:starEach (e :: es) X.env=(false,eval e X.env) :: starEach es X.env:=by rfl) (hpl:(backTo pos (starEach es X.env)).any (·.1)=false:=by rfl):PE X (.Call (.Name x p) (e :: es) [] pos) (tCB r t):=by
  intro pins s σ H Q I h
  refine wpAny_Call_Name_kw (ld_blt I hg hm hv ?_ hn hdb)
  exact PyProof.Rows.callWith_type1 (thn (ha pos pins s σ H _ I h) fun us s1 ⟨vs,H1,I1,r1,q1⟩=>hc pins s1 σ H1 vs us Q I1 r1 q1) he hpl
end
end L2
namespace HT
open PySem PyProof.Rows
section
open PySem.SeqAt
open PySem.AutoSeq1 (wpAny_loadPart')
open PySem.MeetsSeq PySem.MeetsSeq2 PySem.MeetsSeq3
end
section
variable {prog:Program} {w:World} {A:Around} {E:Value→Shared→Prop} {s:Shared}
def sIx (n d:Nat):Option Int→Nat
  | none=>d
  | some v=>if v < 0 then (v+(n:Int)).toNat else min v.toNat n
theorem sIx_none (n d:Nat):sIx n d none=d:=rfl
theorem sIx_nat (n d k:Nat):sIx n d (some (k:Int))=min k n:=by
  show (if (k:Int) < 0 then ((k:Int)+(n:Int)).toNat else min (k:Int).toNat n)=min k n
  rw [if_neg (by omega),Int.toNat_natCast]
theorem sIx_le (n d:Nat) (hd:d≤n) (o:Option Int):sIx n d o≤n:=by
  cases o with
  | none=>exact hd
  | some v=>
    show (if v < 0 then (v+(n:Int)).toNat else min v.toNat n)≤n
    by_cases hv:v < 0
    · rw [if_pos hv];omega
    · rw [if_neg hv];exact Nat.min_le_right _ _
end
end HT
namespace L2
open PySem PySem.Spec PyProof.Rows
abbrev TO:=St→Hp→(Option Int→Hp→Prop)→Prop
def PO (X:Cx) (e:Option Expr) (t:TO):Prop:=
  ∀ (pins:List (Addr × Obj)) (s:Shared) (σ:St) (H:Hp) (Q:Option Int→Hp→Prop),Inv X pins σ H s→t σ H Q →
    wpAny (model X.prog X.w) X.A (evalPart e X.env) (fun u s'=>∃ o H',Inv X pins σ H' s'∧IsPart u o∧Q o H') X.xe s
def tNoPart:TO:=fun _ H Q=>Q none H
def tPart (t:TE):TO:=fun σ H Q=>t σ H fun x H1=>∃ i,x=.int i∧Q (some i) H1
section
variable {X:Cx} {e:Expr} {te:TE} {lo hi:Option Expr} {tl th:TO} {pos p2:Pos}
theorem po_none:PO X none tNoPart:=by
  intro pins s σ H Q I h
  rw [evalPart_none]
  exact wpAny_pure ⟨none,H,I,.none,h⟩
theorem po_some (h:PE X e te):PO X (some e) (tPart te):=by
  intro pins s σ H Q I hw
  rw [evalPart_some]
  refine thn (h pins s σ H _ I hw) fun u s1 ⟨x,H1,I1,r1,q1⟩=>?_
  obtain ⟨i,rfl,q⟩:=q1
  obtain ⟨t,rfl⟩:=r1
  exact ⟨some i,H1,I1,.int i t,q⟩
def SlR (X:Cx) (r:V→Option Int→Option Int→Hp→VK→Prop):Prop:=
  ∀ (pins:List (Addr × Obj)) (s:Shared) (σ:St) (H:Hp) (x:V) (v vl vu:Value) (lo hi:Option Int) (sl:Addr) (Q:VK),Inv X pins σ H s→RelV x v→s.heap.IsSliceOf sl vl vu .none→IsPart vl lo→IsPart vu hi→r x lo hi H Q →
    ∃ T id,typeLookup (.type T) "__getitem__" = pure (some (.builtin id))∧s.TypeIs v T∧wpAny (model X.prog X.w) X.A (getItem v (.ref sl)) (EP X pins σ Q) X.xe s
def tSl (r:V→Option Int→Option Int→Hp→VK→Prop) (te:TE) (tl th:TO):TE:=fun σ H Q=>te σ H fun x H1=>tl σ H1 fun l H2=>th σ H2 fun u H3=>r x l u H3 Q
theorem pe_slice {r:V→Option Int→Option Int→Hp→VK→Prop} (hr:SlR X r) (he:PE X e te) (hl:PO X lo tl) (hu:PO X hi th):PE X (.Subscript e (.Slice lo hi none p2) pos) (tSl r te tl th):=by
  intro pins s σ H Q I h
  refine Subscript_ (thn (he pins s σ H _ I h) fun v s1 ⟨x,H1,I1,r1,q1⟩=>?_)
  refine wpAny_Slice (thn (hl pins s1 σ H1 _ I1 q1) fun vl s2 ⟨l,H2,I2,pl,q2⟩=>thn (hu pins s2 σ H2 _ I2 q2) fun vu s3 ⟨u,H3,I3,pu,q3⟩=>?_)
  rw [evalPart_none]
  refine wpAny_pure ?_
  have I4:Inv X pins σ H3 { s3 with heap:=s3.heap.push { cls:=.type "slice", data:=.fields #[vl,vu,.none] } }:=I3.kept (t':=s3.toks) fun b ob q=>Heap.get?_push_of_some _ q
  obtain ⟨T,id,hT,ht,hg⟩:=hr pins { s3 with heap:=s3.heap.push { cls:=.type "slice", data:=.fields #[vl,vu,.none] } } σ H3 x v vl vu l u s3.heap.objs.size Q I4 r1 (Heap.IsSliceOf.new ..) pl pu q3
  show wpAny (model X.prog X.w) X.A (subscriptTail e (.Slice lo hi none p2) v (.ref s3.heap.objs.size)) (EP X pins σ Q) X.xe { s3 with heap:=s3.heap.push { cls:=.type "slice", data:=.fields #[vl,vu,.none] } }
  exact tail_any (ops:=[.ref s3.heap.objs.size,v]) ht hT hg (by with_unfolding_all rfl)
end
end L2
namespace L2
open PySem PySem.Spec PyProof.Rows
def ixN (n:Nat) (i:Int):Option Nat:=if 0≤i then (if i < n then some i.toNat else none) else if -(n:Int)≤i then some (i+n).toNat else none
def atI {α:Type} (xs:List α) (i:Int):Option α:=(ixN xs.length i).bind fun j=>xs[j]?
theorem ixN_seq {n:Nat} {i:Int} {j:Nat} (h:ixN n i=some j):seqIndex? i n=some j∧j < n∧-(n:Int)≤i∧i < n:=by
  unfold ixN at h
  by_cases h0:0≤i
  · rw [if_pos h0] at h
    by_cases h1:i < n
    · rw [if_pos h1] at h
      have e:i.toNat=j:=Option.some.inj h
      exact ⟨by rw [seqIndex_of h0 h1,e],by omega,by omega,h1⟩
    · rw [if_neg h1] at h;cases h
  · rw [if_neg h0] at h
    by_cases h1:-(n:Int)≤i
    · rw [if_pos h1] at h
      have e:(i+n).toNat=j:=Option.some.inj h
      exact ⟨by rw [seqIndex_neg (by omega) h1,e],by omega,h1,by omega⟩
    · rw [if_neg h1] at h;cases h
theorem atI_get {α:Type} {xs:List α} {i:Int} {v:α} (h:atI xs i=some v):∃ j,seqIndex? i xs.length=some j∧xs[j]?=some v∧j < xs.length∧-(xs.length:Int)≤i∧i < xs.length:=by
  unfold atI at h
  cases e:ixN xs.length i with
  | none=>rw [e] at h;cases h
  | some j=>
    rw [e] at h
    obtain ⟨h1,h2,h3,h4⟩:=ixN_seq e
    exact ⟨j,h1,h,h2,h3,h4⟩
theorem atI_nat {α:Type} {xs:List α} {j:Nat} {v:α} (h:xs[j]?=some v):atI xs (j:Int)=some v:=by
  have hj:j < xs.length:=(List.getElem?_eq_some_iff.mp h).1
  have e:ixN xs.length (j:Int)=some j:=by
    unfold ixN
    rw [if_pos (by omega),if_pos (by omega)];simp
  unfold atI;rw [e];exact h
theorem atI_last {α:Type} (xs:List α) (v:α):atI (xs++[v]) (-1)=some v:=by
  have hl:(xs++[v]).length=xs.length+1:=by simp
  have e:ixN (xs++[v]).length (-1)=some xs.length:=by
    unfold ixN
    rw [hl,if_neg (by decide),if_pos (by omega)]
    congr 1
    omega
  unfold atI
  rw [e]
  show (xs++[v])[xs.length]?=some v
  simp
def PlainIx (b:Expr):Prop:=∀ o i,subscripted b false o i=operate [o,i] (getItem o i)
def IxR (X:Cx) (r:R2):Prop:=
  ∀ (value slice:Expr) (pins:List (Addr × Obj)) (s:Shared) (σ:St) (H:Hp) (x y:V) (v u:Value) (Q:VK),Inv X pins σ H s→RelV x v→RelV y u→r x y H Q →
    subscripted slice false v u=operate [v,u] (getItem v u)→wpAny (model X.prog X.w) X.A (subscriptTail value slice v u) (EP X pins σ Q) X.xe s
def MtR (X:Cx) (id:String) (r:V→List V→Hp→VK→Prop):Prop:=
  ∀ (pins:List (Addr × Obj)) (s:Shared) (σ:St) (H:Hp) (x:V) (xs:List V) (v:Value) (us:List Value) (Q:VK),Inv X pins σ H s→RelV x v→Vals xs us→r x xs H Q →
    wpAny (model X.prog X.w) X.A (call (.builtin id) (v :: us)) (EP X pins σ Q) X.xe s
section
variable {X:Cx} {a b:Expr} {ta tb:TE} {pos:Pos}
theorem pe_ix {r:R2} (hr:IxR X r) (ha:PE X a ta) (hb:PE X b tb) (hs:PlainIx b):PE X (.Subscript a b pos) (tOp r ta tb):=by
  intro pins s σ H Q I h
  exact Subscript_ (binT ha hb I h fun v u s2 x y H2 I2 rx ry q=>hr a b pins s2 σ H2 x y v u Q I2 rx ry q (hs _ _))
def rIxL (K:PySem.W.Frag):R2:=fun x y H Q=>∃ p xs i v,x=.ref p∧y=.int i∧SqL K H p xs∧atI xs i=some v∧Q v H
def rIxT (K:PySem.W.Frag):R2:=fun x y H Q=>∃ p xs i v,x=.ref p∧y=.int i∧SqT K H p xs∧atI xs i=some v∧Q v H
def rIxS:R2:=fun x y H Q=>∃ z i c,x=.str z∧y=.int i∧z.length≤sizeLine∧atI z.cps.toList i=some c∧Q (.str ⟨#[c]⟩) H
theorem ix_list:IxR X (rIxL X.K):=by
  intro value slice pins s σ H x y v u Q I rx ry h hs
  obtain ⟨p,xs,i,z,rfl,rfl,hq,he,q⟩:=h
  cases rx
  obtain ⟨t,rfl⟩:=ry
  obtain ⟨its,r,pl,hz⟩:=I.list hq
  obtain ⟨j,h1,h2,h3,h4,h5⟩:=atI_get he
  obtain ⟨w,ew,rw'⟩:=r.get h2
  have hl:=r.length
  have hn:=line63
  have fin:EP X pins σ Q w s:=⟨z,H,I,rw',q⟩
  by_cases h0:0≤i
  · have hj:i.toNat=j:=by
      rw [seqIndex_of h0 h5] at h1
      exact Option.some.inj h1
    exact item_listR pl.isList h0 (by omega) (by rw [hj];simpa using ew) fin hs
  · have hj:(i+(its.toArray.size:Int)).toNat=j:=by
      rw [seqIndex_neg (by omega) h4] at h1
      rw [List.size_toArray,← hl]
      exact Option.some.inj h1
    exact subscriptTail_builtinR (x:=w) pl.isList.typeIs slot_list_getitem.lookup
      (wpAny_getItem_list_neg (Q:=fun r s'=>r=w∧EP X pins σ Q r s') pl.isList (by omega) (by rw [List.size_toArray] <;> omega) (by omega) (by rw [hj];simpa using ew) ⟨rfl,fin⟩) hs
theorem ix_tup:IxR X (rIxT X.K):=by
  intro value slice pins s σ H x y v u Q I rx ry h hs
  obtain ⟨p,xs,i,z,rfl,rfl,hq,he,q⟩:=h
  cases rx
  obtain ⟨t,rfl⟩:=ry
  obtain ⟨its,r,pl,hz⟩:=I.tuple hq
  obtain ⟨j,h1,h2,h3,h4,h5⟩:=atI_get he
  obtain ⟨w,ew,rw'⟩:=r.get h2
  have hl:=r.length
  have hn:=line63
  have fin:EP X pins σ Q w s:=⟨z,H,I,rw',q⟩
  exact subscriptTail_builtinR (x:=w) pl.typeIs slot_tuple_getitem.lookup
    (getItem_tuple (j:=j) (Q:=fun r s'=>r=w∧EP X pins σ Q r s') pl (by omega) (by omega) (by rw [List.size_toArray,← hl];exact h1) (by simpa using ew) ⟨rfl,fin⟩) hs
theorem ix_str:IxR X rIxS:=by
  intro value slice pins s σ H x y v u Q I rx ry h hs
  obtain ⟨z,i,c,rfl,rfl,hz,he,q⟩:=h
  obtain ⟨t,rfl⟩:=rx
  obtain ⟨t',rfl⟩:=ry
  obtain ⟨j,h1,h2,h3,h4,h5⟩:=atI_get he
  have hl:z.cps.toList.length=z.length:=by simp [Str.length]
  rw [hl] at h1 h4 h5
  have hn:=line63
  exact tail_any (typeIs_str s z t) slot_str_getitem.lookup (getItem_str (c:=c) (by
    have e1:decide (i < -(2 ^ 63:Int))=false:=decide_eq_false (by omega)
    have e2:decide (i ≥ 2 ^ 63)=false:=decide_eq_false (by omega)
    rw [e1,e2,Bool.or_false]) (by rw [h1];simpa using h2) ⟨.str ⟨#[c]⟩,H,I.tok _,⟨_,rfl⟩,q⟩) hs
theorem mapSeq_set (its:List Value) (n j:Nat) (u:Value):Obj.mapSeq (·.setIfInBounds j u) { cls:=.type "list", data:=.seq its.toArray n }={ cls:=.type "list", data:=.seq (its.set j u).toArray n }:=by
  simp [Obj.mapSeq]
theorem Inv.lst {pins:List (Addr × Obj)} {σ:St} {H:Hp} {s:Shared} {p:Addr} {xs:List V} (I:Inv X pins σ H s) (h:H p=some (.lst xs)) :
    ∃ (its:List Value) (n:Nat),Vals xs its∧s.heap.get? p=some { cls:=.type "list", data:=.seq its.toArray n }∧xs.length≤sizeLine:=by
  obtain ⟨z,its,n,r,e⟩:=I.hok p _ h
  exact ⟨its,n,r,e,z⟩
theorem Inv.lstUpd {pins:List (Addr × Obj)} {σ:St} {H:Hp} {s:Shared} {p:Addr} {xs ys:List V} {its its':List Value} {n n':Nat} {f:Obj→Obj} (I:Inv X pins σ H s) (h:H p=some (.lst xs))
    (ho:s.heap.get? p=some { cls:=.type "list", data:=.seq its.toArray n }) (hf:f { cls:=.type "list", data:=.seq its.toArray n }={ cls:=.type "list", data:=.seq its'.toArray n' }) (r:Vals ys its') (hz:ys.length≤sizeLine) (t:Nat) :
    Inv X pins σ (upd H p (.lst ys)) { s with heap:=s.heap.update p f,toks:=t }:=by
  have e:(s.heap.update p f).get? p=some { cls:=.type "list", data:=.seq its'.toArray n' }:=by
    rw [Heap.get?_update_self f ho (by rw [hf] <;> rfl),hf]
  refine I.write (x:=p) (e:=p) (by rw [h];trivial) (.inl rfl) (fun b u hb q=>(Heap.get?_update_other _ _ (Ne.symm hb)).trans q) ⟨_,e⟩ ?_
  exact ⟨hz,its',n',r,e⟩
def rSetL:V→V→V→Hp→(Hp→Prop)→Prop:=fun o i v H Q=>∃ p xs k j,o=.ref p∧i=.int k∧H p=some (.lst xs)∧ixN xs.length k=some j∧Q (upd H p (.lst (xs.set j v)))
theorem set_list:PSet X rSetL:=by
  intro pins s σ H o i v ov iv u Q I ro ri rv h
  obtain ⟨p,xs,k,j,rfl,rfl,hp,hj,q⟩:=h
  cases ro
  obtain ⟨t,rfl⟩:=ri
  obtain ⟨its,n,r,ho,hz⟩:=I.lst hp
  obtain ⟨h1,h2,h3,h4⟩:=ixN_seq hj
  have hl:=r.length
  have hn:=line63
  have I':Inv X pins σ (upd H p (.lst (xs.set j v))) { s with heap:=s.heap.update p (Obj.mapSeq (·.setIfInBounds j u)) }:=
    I.lstUpd hp ho (mapSeq_set its n j u) (r.set rv j) (by rw [List.length_set];exact hz) s.toks
  by_cases h0:0≤k
  · have hk:k.toNat=j:=by
      rw [seqIndex_of h0 h4] at h1
      exact Option.some.inj h1
    exact PySem.W.ki_setAt ho h0 (by omega) (by rw [List.size_toArray,← hl];exact h4) (by rw [hk];exact ⟨_,I',q⟩)
  · have hk:(k+(its.toArray.size:Int)).toNat=j:=by
      rw [seqIndex_neg (by omega) h3] at h1
      rw [List.size_toArray,← hl]
      exact Option.some.inj h1
    exact PySem.W.ki_setBack ho (by omega) (by rw [List.size_toArray,← hl];exact h3) (by omega) (by rw [hk];exact ⟨_,I',q⟩)
def flatV:V→Bool
  | .non=>true
  | .bl _=>true
  | .int _=>true
  | .str _=>true
  | _=>false
def eqV:V→V→Bool
  | .non,.non=>true
  | .bl a,.bl b=>a == b
  | .bl a,.int b=>(if a then 1 else 0) == b
  | .int a,.bl b=>a == (if b then 1 else 0)
  | .int a,.int b=>a == b
  | .str a,.str b=>a == b
  | _,_=>false
theorem eqAt_V {A:Around} {s:Shared} {y x:V} {u v:Value} (ry:RelV y u) (rx:RelV x v) (fy:flatV y=true) (fx:flatV x=true):SeqAt.EqAt A s u v (eqV y x):=by
  cases y with
  | non=>
    cases ry
    cases x with
    | non=>cases rx;exact SeqAt.EqAt.same _
    | bl b=>cases rx;exact SeqAt.EqAt.none_bool b
    | int b=>obtain ⟨t,rfl⟩:=rx;exact SeqAt.EqAt.none_int b t
    | str b=>obtain ⟨t,rfl⟩:=rx;exact SeqAt.EqAt.none_str b t
    | _=>exact absurd (show false=true from fx) Bool.false_ne_true
  | bl a=>
    cases ry
    cases x with
    | non=>cases rx;exact SeqAt.EqAt.bool_none a
    | bl b=>cases rx;exact SeqAt.EqAt.bool_bool a b
    | int b=>obtain ⟨t,rfl⟩:=rx;exact SeqAt.EqAt.bool_int a b t
    | str b=>obtain ⟨t,rfl⟩:=rx;exact SeqAt.EqAt.bool_str a b t
    | _=>exact absurd (show false=true from fx) Bool.false_ne_true
  | int a=>
    obtain ⟨t',rfl⟩:=ry
    cases x with
    | non=>cases rx;exact SeqAt.EqAt.int_none a t'
    | bl b=>cases rx;exact SeqAt.EqAt.int_bool a t' b
    | int b=>obtain ⟨t,rfl⟩:=rx;exact SeqAt.EqAt.int_int a t' b t
    | str b=>obtain ⟨t,rfl⟩:=rx;exact SeqAt.EqAt.int_str a t' b t
    | _=>exact absurd (show false=true from fx) Bool.false_ne_true
  | str a=>
    obtain ⟨t',rfl⟩:=ry
    cases x with
    | non=>cases rx;exact SeqAt.EqAt.str_none a t'
    | bl b=>cases rx;exact SeqAt.EqAt.str_bool a t' b
    | int b=>obtain ⟨t,rfl⟩:=rx;exact SeqAt.EqAt.str_int a t' b t
    | str b=>obtain ⟨t,rfl⟩:=rx;exact SeqAt.EqAt.str_str a t' b t
    | _=>exact absurd (show false=true from fx) Bool.false_ne_true
  | _=>exact absurd (show false=true from fy) Bool.false_ne_true
def eqU (x:V) (u:Value):Bool:=match u with
  | .none=>eqV .non x
  | .bool b=>eqV (.bl b) x
  | .int i _=>eqV (.int i) x
  | .str z _=>eqV (.str z) x
  | _=>false
theorem eqU_of {x y:V} {u:Value} (r:RelV y u) (f:flatV y=true):eqU x u=eqV y x:=by
  cases y with
  | non=>cases r;rfl
  | bl b=>cases r;rfl
  | int i=>obtain ⟨t,rfl⟩:=r;rfl
  | str z=>obtain ⟨t,rfl⟩:=r;rfl
  | _=>exact absurd (show false=true from f) Bool.false_ne_true
theorem any_eqU {x:V}:∀ {xs:List V} {us:List Value},Vals xs us→xs.all flatV=true→us.any (eqU x)=xs.any fun y=>eqV y x
  | _,_,.nil,_=>rfl
  | y :: xs,u :: us,.cons r t,f=>by
    rw [List.all_cons,Bool.and_eq_true] at f
    rw [List.any_cons,List.any_cons,eqU_of r f.1,any_eqU t f.2]
theorem mem_eqAt {A:Around} {s:Shared} {x:V} {v:Value} (rx:RelV x v) (fx:flatV x=true):∀ {xs:List V} {us:List Value},Vals xs us→xs.all flatV=true→∀ u∈us,SeqAt.EqAt A s u v (eqU x u)
  | _,_,.nil,_=>fun u hu=>by cases hu
  | y :: xs,u :: us,.cons r t,f=>fun u' hu=>by
    rw [List.all_cons,Bool.and_eq_true] at f
    rcases List.mem_cons.mp hu with rfl | hu
    · rw [eqU_of r f.1];exact eqAt_V r rx f.1 fx
    · exact mem_eqAt rx fx t f.2 u' hu
def inV (x:V) (xs:List V):Bool:=xs.any fun y=>eqV y x
def rIn (K:PySem.W.Frag) (neg:Bool):R2:=fun x y H Q=>∃ p xs,y=.ref p∧(SqL K H p xs∨SqT K H p xs)∧flatV x=true∧xs.all flatV=true∧Q (.bl (if neg then !inV x xs else inV x xs)) H
theorem op_in_seq:OpR X (compareOp .In) (rIn X.K false):=by
  intro pins s σ H x y v u Q I rx ry h
  obtain ⟨p,xs,rfl,hq,fx,fs,q⟩:=h
  cases ry
  rcases hq with hq | hq
  · obtain ⟨its,r,pl,hz⟩:=I.list hq
    refine SeqAt.in_listAt (eqU x) pl.isList (fun w hw=>mem_eqAt rx fx r fs w (by simpa using hw)) ⟨.bl _,H,I,rfl,?_⟩
    rw [show its.toArray.any (eqU x)=its.any (eqU x) by simp,any_eqU r fs]
    exact q
  · obtain ⟨its,r,pl,hz⟩:=I.tuple hq
    refine SeqAt.in_tupleAt (eqU x) pl (fun w hw=>mem_eqAt rx fx r fs w (by simpa using hw)) ⟨.bl _,H,I,rfl,?_⟩
    rw [show its.toArray.any (eqU x)=its.any (eqU x) by simp,any_eqU r fs]
    exact q
theorem op_notIn_seq:OpR X (compareOp .NotIn) (rIn X.K true):=by
  intro pins s σ H x y v u Q I rx ry h
  obtain ⟨p,xs,rfl,hq,fx,fs,q⟩:=h
  cases ry
  rcases hq with hq | hq
  · obtain ⟨its,r,pl,hz⟩:=I.list hq
    refine SeqAt.notIn_listAt (eqU x) pl.isList (fun w hw=>mem_eqAt rx fx r fs w (by simpa using hw)) ⟨.bl _,H,I,rfl,?_⟩
    rw [show its.toArray.any (eqU x)=its.any (eqU x) by simp,any_eqU r fs]
    exact q
  · obtain ⟨its,r,pl,hz⟩:=I.tuple hq
    refine SeqAt.notIn_tupleAt (eqU x) pl (fun w hw=>mem_eqAt rx fx r fs w (by simpa using hw)) ⟨.bl _,H,I,rfl,?_⟩
    rw [show its.toArray.any (eqU x)=its.any (eqU x) by simp,any_eqU r fs]
    exact q
theorem call_len_seq:CallR X (.builtin "len") (fun xs H Q=>∃ p ys,xs=[.ref p]∧(SqL X.K H p ys∨SqT X.K H p ys)∧Q (.int ys.length) H):=by
  intro pins s σ H xs us Q I r h
  obtain ⟨p,ys,rfl,hq,q⟩:=h
  obtain ⟨u,rfl,rx⟩:=vals1 r
  cases rx
  have hn:=line63
  rcases hq with hq | hq
  · obtain ⟨its,r',pl,hz⟩:=I.list hq
    have hlen:=r'.length
    exact Calls.call_len_list pl.isList (by simp only [List.size_toArray] <;> omega) ⟨.int ys.length,H,I.tok _,⟨s.toks+1,by rw [List.size_toArray,hlen]⟩,q⟩
  · obtain ⟨its,r',pl,hz⟩:=I.tuple hq
    have hlen:=r'.length
    exact len_tuple pl (by simp only [List.size_toArray] <;> omega) ⟨.int ys.length,H,I.tok _,⟨s.toks+1,by rw [List.size_toArray,hlen]⟩,q⟩
theorem call_len_str:CallR X (.builtin "len") (fun xs H Q=>∃ z,xs=[.str z]∧z.length≤sizeLine∧Q (.int z.length) H):=by
  intro pins s σ H xs us Q I r h
  obtain ⟨z,rfl,hz,q⟩:=h
  obtain ⟨u,rfl,t,rfl⟩:=vals1 r
  have hn:=line63
  exact len_str (by omega) ⟨.int z.length,H,I.tok _,⟨_,rfl⟩,q⟩
theorem call_tuple_of:CallR X (.type "tuple") (fun xs H Q=>∃ p ys,xs=[.ref p]∧((SqL X.K H p ys∧∀ l,H l=none→Q (.ref l) (upd H l (.tup ys)))∨(SqT X.K H p ys∧Q (.ref p) H))):=by
  intro pins s σ H xs us Q I r h
  obtain ⟨p,ys,rfl,h⟩:=h
  obtain ⟨u,rfl,rx⟩:=vals1 r
  cases rx
  rcases h with ⟨hq,q⟩ | ⟨hq,q⟩
  · obtain ⟨its,r',pl,hz⟩:=I.list hq
    have hlen:=r'.length
    refine call_tuple_list pl.isList (fun h' kp=>?_) (by simp only [List.size_toArray] <;> omega)
    have I1:Inv X pins σ H { s with heap:=h' }:=I.kept (t':=s.toks) kp
    have I2:Inv X pins σ (upd H h'.objs.size (.tup ys)) { s with heap:=h'.push { cls:=.type "tuple", data:=.seq its.toArray } }:=
      I1.laid (t':=s.toks) (fun b o e=>Heap.get?_push_of_some _ e) (Nat.le_refl _) (show ObjOk X.prog X.w _ _ _ (.tup ys) from ⟨⟨hz,_,Heap.get?_push_size _ rfl,rfl⟩,its,r',IsTup.new _ _⟩)
    exact ⟨.ref h'.objs.size,_,I2,rfl,q _ (I1.hok.fresh (Nat.le_refl _))⟩
  · obtain ⟨its,r',pl,hz⟩:=I.tuple hq
    exact call_tuple_same pl ⟨.ref p,H,I,rfl,q⟩
def tyV (K:PySem.W.Frag) (T:String) (x:V) (H:Hp):Prop:=match x with
  | .str _=>T = "str"
  | .int _=>T = "int"
  | .ref p=>(T = "list" ∧ ∃ xs,SqL K H p xs)∨(T = "tuple" ∧ ∃ o,K.lookup p=some o∧o.cls=.type "tuple" ∧ o.dict=none) ∨
      (T = "dict" ∧ ((∃ kvs,H p=some (.dK kvs))∨∃ kvs,H p=some (.dT kvs)))∨(T = "set" ∧ ∃ S n,H p=some (.set S n))
  | _=>False
theorem tyV_is {pins:List (Addr × Obj)} {σ:St} {H:Hp} {s:Shared} {T:String} {x:V} {v:Value} (I:Inv X pins σ H s) (r:RelV x v) (ty:tyV X.K T x H) :
    s.TypeIs v T∧∀ a,v=.ref a→∃ ob,s.heap.get? a=some ob∧ob.dict=none:=by
  cases x with
  | str z=>
    obtain ⟨t,rfl⟩:=r
    cases (show T = "str" from ty)
    exact ⟨typeIs_str s z t,fun _ e=>nomatch e⟩
  | int i=>
    obtain ⟨t,rfl⟩:=r
    cases (show T = "int" from ty)
    exact ⟨typeIs_int s i t,fun _ e=>nomatch e⟩
  | ref p=>
    cases r
    rcases ty with ⟨rfl,xs,hq⟩ | ⟨rfl,o,hk,hc,hd⟩ | ⟨rfl,hk⟩ | ⟨rfl,S,n,hk⟩
    · obtain ⟨its,_,pl,_⟩:=I.list hq
      refine ⟨pl.isList.typeIs,fun a e=>?_⟩
      cases e
      obtain ⟨o,n,e,c,hd,_⟩:=pl
      exact ⟨o,e,hd⟩
    · refine ⟨⟨o,I.kIn p o hk,hc⟩,fun a e=>?_⟩
      cases e
      exact ⟨o,I.kIn _ o hk,hd⟩
    · have z:∃ o,s.heap.get? p=some o∧o.ExactDict:=by
        rcases hk with ⟨kvs,hk⟩ | ⟨kvs,hk⟩
        · obtain ⟨_,_,_,_,o,_,_,e,ex,_⟩:=I.hok p _ hk
          exact ⟨o,e,ex⟩
        · obtain ⟨_,_,_,_,o,_,_,e,ex,_⟩:=I.hok p _ hk
          exact ⟨o,e,ex⟩
      obtain ⟨o,e,ex⟩:=z
      refine ⟨⟨o,e,ex.1⟩,fun a e2=>?_⟩
      cases e2
      exact ⟨o,e,ex.2.1⟩
    · obtain ⟨o,_,_,_,e,ex,_⟩:=I.hok p _ hk
      refine ⟨⟨o,e,ex.1⟩,fun a e2=>?_⟩
      cases e2
      exact ⟨o,e,ex.2.1⟩
  | _=>exact False.elim ty
def tBM (K:PySem.W.Frag) (T:String) (r:V→List V→Hp→VK→Prop) (to:TE) (t:TA):TE:=fun σ H Q=>to σ H fun x H1=>tyV K T x H1∧t σ H1 fun xs H2=>r x xs H2 Q
variable {o e:Expr} {es:List Expr} {to:TE} {t:TA} {name:Str} {apos cpos:Pos} {T id:String} {r:V→List V→Hp→VK→Prop}
theorem pe_bm (pa:PlainAttrs T) (slot:Slot T name id) (hty:typeOf (.builtin id)=pure (.type "method_descriptor")) (hm:MtR X id r) (ho:PE X o to) (ha:PA X (e :: es) t)
    (hbase:attributeBase o name X.env (eval o X.env)=eval o X.env:=by rfl)
    (hfew:((backTo cpos (starEach (e :: es) X.env)).all (fun x=>!x.1) && (backToKw cpos (keywordEach [] X.env)).all (fun x=>x.1.isSome)
      && decide ((e :: es).length+([]:List Keyword).length+(if ([]:List Keyword).isEmpty then 0 else 1) < 30))=true:=by rfl)
    (hline:(apos.endLine == cpos.line)=true:=by rfl) (hs:starEach (e :: es) X.env=(false,eval e X.env) :: starEach es X.env:=by rfl) (hplain:(backTo cpos (starEach es X.env)).any (·.1)=false:=by rfl) :
    PE X (.Call (.Attribute o name apos) (e :: es) [] cpos) (tBM X.K T r to t):=by
  intro pins s σ H Q I h
  refine wpAny_Call_method_late hbase hfew hline rfl (thn (ho pins s σ H _ I h) fun v s1 ⟨x,H1,I1,r1,ty,q1⟩=>?_)
  obtain ⟨h1,h2⟩:=tyV_is I1 r1 ty
  refine ⟨T,id,pa,slot,hty,h1,h2,?_⟩
  have hA:=ha cpos pins s1 σ H1 _ I1 q1
  rw [hs] at hA ⊢
  refine Calls.callWith_builtin (by show (false || (backTo cpos (starEach es X.env)).any (·.1))=false;rw [hplain] <;> rfl) (Calls.evalArgs_plain ?_)
  exact thn hA fun us s2 ⟨vs,H2,I2,r2,q2⟩=>hm pins s2 σ H2 x vs v us Q I2 r1 r2 q2
/- xs.append(e),list.index on a module's tuple .. are MtR facts of 06m -/
end
end L2
namespace L2
open PySem PySem.Spec PyProof.Rows
def MtM (X:Cx) (id:String) (r:V→List V→Hp→VK→Prop):Prop:=
  ∀ (pins:List (Addr × Obj)) (s:Shared) (σ:St) (H:Hp) (x:V) (xs:List V) (v:Value) (us:List Value) (Q:VK),Inv X pins σ H s→RelV x v→Vals xs us→r x xs H Q →
    wpAny (model X.prog X.w) X.A (call (.builtin id) (v :: us)) (EP X pins σ Q) X.xe s
theorem Vals.one:∀ {x:V} {us:List Value},Vals [x] us→∃ u,us=[u]∧RelV x u
  | _,_,.cons r .nil=>⟨_,rfl,r⟩
theorem Vals.rep {xs:List V} {us:List Value} (h:Vals xs us):∀ k:Nat,Vals (List.replicate k xs).flatten (List.replicate k us).flatten
  | 0=>.nil
  | k+1=>by
    rw [List.replicate_succ,List.replicate_succ,List.flatten_cons,List.flatten_cons]
    exact Vals.append h (Vals.rep h k)
theorem foldl_rep (its:List Value):∀ (k:Nat) (acc:List Value),
    List.foldl (fun x1 x2=>x1++x2) acc.toArray (List.replicate k its.toArray)=(acc++(List.replicate k its).flatten).toArray
  | 0,acc=>by simp
  | k+1,acc=>by
    have e:acc.toArray++its.toArray=(acc++its).toArray:=by simp
    have e2:(acc++its)++(List.replicate k its).flatten=acc++(List.replicate (k+1) its).flatten:=by
      rw [List.replicate_succ,List.flatten_cons,List.append_assoc]
    rw [← e2,← foldl_rep its k (acc++its),← e,List.replicate_succ,List.foldl_cons]
section
variable {X:Cx} {pins:List (Addr × Obj)} {σ:St} {H:Hp} {s:Shared} {l b:Addr} {xs ys zs:List V}
theorem Inv.lset {its its':List Value} {n:Nat} {f:Array Value→Array Value} {t':Nat} (I:Inv X pins σ H s) (hH:H l=some (.lst xs))
    (e:s.heap.get? l=some { cls:=.type "list", data:=.seq its.toArray n }) (hf:f its.toArray=its'.toArray) (hv:Vals ys its') (hz:ys.length≤sizeLine) :
    Inv X pins σ (upd H l (.lst ys)) { s with heap:=s.heap.update l (Obj.mapSeq f),toks:=t' }:=by
  have q:=PySem.IsL.update e f
  rw [hf] at q
  refine I.write (x:=l) (e:=l) (by rw [hH];exact trivial) (.inl rfl) (fun b' u hb hu=>(Heap.get?_update_other s.heap (Obj.mapSeq f) (Ne.symm hb)).trans hu) ⟨_,q⟩ ?_
  exact ⟨hz,its',_,hv,q⟩
theorem Inv.lnew {its:List Value} {t':Nat} (I:Inv X pins σ H s) (hv:Vals ys its) (hz:ys.length≤sizeLine) :
    Inv X pins σ (upd H s.heap.objs.size (.lst ys)) { s with heap:=s.heap.push { cls:=.type "list", data:=.seq its.toArray },toks:=t' }:=
  I.laid (fun _ _ q=>Heap.get?_push_of_some _ q) (Nat.le_refl _) ⟨hz,its,0,hv,Heap.get?_push_size _ rfl⟩
theorem Inv.fresh (I:Inv X pins σ H s):H s.heap.objs.size=none:=I.hok.fresh (Nat.le_refl _)
theorem Inv.lstM (I:Inv X pins σ H s) (hH:H l=some (.lst xs)):xs.length≤sizeLine∧∃ (its:List Value) (n:Nat),Vals xs its∧xs.length=its.length∧s.heap.get? l=some { cls:=.type "list", data:=.seq its.toArray n }:=by
  obtain ⟨z,its,n,r,e⟩:=I.hok l _ hH
  exact ⟨z,its,n,r,r.length,e⟩
theorem notLongL {n:Nat} (h:n≤sizeLine):Builtin.List.listTooLong n=false:=by
  unfold Builtin.List.listTooLong
  exact decide_eq_false (by omega)
end
section
variable {X:Cx}
def rAppend:V→List V→Hp→VK→Prop:=fun x vs H Q=>∃ l xs y,x=.ref l∧vs=[y]∧H l=some (.lst xs)∧xs.length < sizeLine∧Q .non (upd H l (.lst (xs++[y])))
theorem mt_append:MtM X "list.append" rAppend:=by
  intro pins s σ H x vs v us Q I rx rv h
  obtain ⟨l,xs,y,rfl,rfl,hH,hz,q⟩:=h
  cases rx
  obtain ⟨u,rfl,ru⟩:=rv.one
  obtain ⟨z,its,n,r,hl,e⟩:=I.lstM hH
  refine call_meets F.slot_list_append ⟨_,e,rfl⟩ F.entry_list_append (F.args_list_append_2 _ _) (PySem.list_append l its.toArray n u (by rw [List.size_toArray];omega)) ⟨e,?_⟩
  refine ⟨.non,_,I.lset (its':=its++[u]) hH e (by simp) (r.append (.cons ru .nil)) ?_,rfl,q⟩
  rw [List.length_append,List.length_singleton]
  omega
def rCat:R2:=fun x y H Q=>∃ l b xs zs,x=.ref l∧y=.ref b∧H l=some (.lst xs)∧H b=some (.lst zs)∧xs.length+zs.length≤sizeLine∧∀ p,H p=none→Q (.ref p) (upd H p (.lst (xs++zs)))
theorem op_cat:OpR X (binaryOp .Add) rCat:=by
  intro pins s σ H x y v u Q I rx ry h
  obtain ⟨l,b,xs,zs,rfl,rfl,hH,hB,hz,q⟩:=h
  cases rx
  cases ry
  obtain ⟨z,its,n,r,hl,e⟩:=I.lstM hH
  obtain ⟨z2,its2,n2,r2,hl2,e2⟩:=I.lstM hB
  refine PySem.P.add_list e e2 ?_ (by rw [List.size_toArray,List.size_toArray];omega)
  have ea:its.toArray++its2.toArray=(its++its2).toArray:=by simp
  rw [ea]
  exact ⟨.ref _,_,I.lnew (t':=s.toks) (r.append r2) (by rw [List.length_append];omega),rfl,q _ I.fresh⟩
def rRep:R2:=fun x y H Q=>∃ l k xs,x=.ref l∧y=.int k∧H l=some (.lst xs)∧-(2 ^ 63)≤k∧k < 2 ^ 63∧xs.length * k.toNat≤sizeLine ∧
  ∀ p,H p=none→Q (.ref p) (upd H p (.lst (List.replicate k.toNat xs).flatten))
theorem len_rep {α:Type} (xs:List α) (k:Nat):(List.replicate k xs).flatten.length=k * xs.length:=by
  induction k with
  | zero=>simp
  | succ k ih=>rw [List.replicate_succ,List.flatten_cons,List.length_append,ih,Nat.succ_mul,Nat.add_comm]
theorem op_rep:OpR X (binaryOp .Mult) rRep:=by
  intro pins s σ H x y v u Q I rx ry h
  obtain ⟨l,k,xs,rfl,rfl,hH,h1,h2,hz,q⟩:=h
  cases rx
  obtain ⟨t,rfl⟩:=ry
  obtain ⟨z,its,n,r,hl,e⟩:=I.lstM hH
  have hlen:its.toArray.size * k.toNat≤sizeLine:=by rw [List.size_toArray,← hl];exact hz
  have hcap:¬ its.toArray.size * k.toNat > (2 ^ 63 - 1) / 8:=by
    have:(sizeLine:Nat)≤(2 ^ 63 - 1) / 8:=by decide
    omega
  have hfit:¬ (!Builtin.List.listFitsIndex k)=true:=by
    rw [fitsIndex_both h1 h2]
    exact Bool.false_ne_true
  have hlong:¬ Builtin.List.listTooLong (its.toArray.size * k.toNat)=true:=by
    rw [notLongL hlen]
    exact Bool.false_ne_true
  have hnew:List.foldl (fun x1 x2=>x1++x2) #[] (List.replicate (if its.toArray.isEmpty=true then 0 else k.toNat) its.toArray)=(List.replicate k.toNat its).flatten.toArray:=by
    have f0:∀ m:Nat,List.foldl (fun x1 x2=>x1++x2) #[] (List.replicate m its.toArray)=(List.replicate m its).flatten.toArray:=fun m=>by
      have:=foldl_rep its m []
      rw [List.nil_append] at this
      exact this
    rw [f0]
    cases its with
    | nil=>simp
    | cons a r'=>rw [if_neg (by simp)]
  refine wpAny_binaryOp_repeat_ref (T := "list") (U := "int") (by decide) ⟨_,e,rfl⟩ (fun s'=>typeIs_int s' k t) noFill_list_mul F.fills_int_mul F.slot_int_rmul repeat_list F.slot_int_index.lookup
    (call_meets F.slot_int_rmul (typeIs_int s k t) F.entry_int_rmul (F.args_int_rmul_2 _ _) (int___rmul___int_list k t l its.toArray n)
      ⟨e,rfl,⟨_,e,rfl⟩,call_meets F.slot_list_mul ⟨_,e,rfl⟩ F.entry_list_mul (F.args_list_mul_2 _ _) (AutoListH.list___mul___list_int_3 l its.toArray n k t hfit hcap hlong) ⟨e,?_⟩⟩)
  rw [hnew]
  exact ⟨.ref _,_,I.lnew (t':=s.toks) (r.rep k.toNat) (by rw [len_rep,Nat.mul_comm];exact hz),rfl,q _ I.fresh⟩
end
section
variable {prog:Program} {w:World} {A:Around} {E:Value→Shared→Prop} {s:Shared}
end
section
variable {X:Cx}
end
end L2
namespace Att
open PySem PySem.W PySem.Calls PyProof.Rows
theorem ints_of_wellAll {P:Params} {h:Heap}:∀ (ns:List Int) (vs:List Value),WellAll P h vs (ns.map WData.int)→IntsAre vs ns:=by
  intro ns
  induction ns with
  | nil=>
    intro vs w
    rw [List.map_nil] at w
    cases w
    exact .nil
  | cons n ns ih=>
    intro vs w
    rw [List.map_cons] at w
    cases w with
    | cons a b=>
      cases a
      exact .cons _ _ (ih _ b)
theorem script_of {l:OpenLaw} {n:Nat} (hn:l.most=some n) {P:Params} {h:Heap} {args:List WData} {vals:List Value}
    (hpre:l.row.toRowW.claim.pre args=true) (hwl:WellAll P h vals args) :
    ∃ a vs ns,vals=[Value.ref a]∧args=[WData.list (ns.map WData.int)]∧h.get? a=some { cls:=.type "list", data:=.seq vs.toArray }∧IntsAre vs ns∧ns.length≤n:=by
  have hsh:WShape.hasAll [] args [.list .int]=true:=(pre_splitW hpre).1
  have hc:l.pre.holds [] { args:=args }=true:=(pre_splitW hpre).2
  obtain ⟨d,r,rfl,h1,h2⟩:=hasAllW_cons hsh
  obtain rfl:=hasAllW_nil h2
  obtain ⟨xs,rfl,h3⟩:=hasW_list h1
  obtain ⟨ns,rfl⟩:=items_int h3
  have hlen:ns.length≤n:=by
    unfold OpenLaw.pre at hc
    have h4:(WTm.not (.lt (.lit (.int (n:Int))) (.len (.arg 0)))).holds [] { args:=[.list (ns.map .int)] }=true:=by
      have h4:=(holds_andW hc).1
      rw [hn] at h4
      exact h4
    have h5:=condW_of h4 (w_not (w_lt w_lit (w_len_list (w_arg rfl))))
    rw [List.length_map] at h5
    refine Nat.le_of_not_lt fun q=>?_
    have q':(n:Int) < ((ns.length:Nat):Int):=by omega
    first
      | (rw [decide_eq_true q'] at h5;exact absurd h5 (by decide))
      | (simp at h5;omega)
  cases hwl with
  | cons w1 w2=>
    cases w2
    cases w1 with
    | list ho hall=>exact ⟨_,_,ns,rfl,rfl,ho,ints_of_wellAll ns _ hall,hlen⟩
theorem post_true (l:OpenLaw) (args:List WData):l.row.toRowW.claim.post args (.bool true) args=true:=
  postW_of (r:=l.row.toRowW) (X:=(true == true))
    (show WShape.has [] (.bool true) .bool=true by first | rfl | decide | simp [WShape.has,WShape.arms,WShape.armsAll])
    (show (WTm.eq .res (.lit (.bool true))).value [] { args:=args,res:=some (.bool true),after:=args }=some (.bool (true == true)) from w_eq_bool (w_res rfl) w_lit) rfl
theorem attach_call {l:OpenLaw} {n:Nat} {q:Program} {loose:List Str} {XP:(Str→Option Value)→Heap→Prop} {YP:World→Heap→Prop} {d:DefRec}
    (hn:l.most=some n) (hdf:d.params.defaults=[])
    (call:∀ (w:World) (s₀ s₁:Shared) (mg mb:Str→Option Value) (fa:Addr) (o:Obj) (pm cd doc:Value) (a:Addr) (vs:List Value) (ns:List Int),
      Ground q loose [] XP w s₀ mg mb s₁.heap→YP w s₁.heap →
      s₁.heap.get? fa=some o→o.data=.func (docDef d.name d.params d.body d.scope pm cd doc)→s₁.heap.CodeRec cd d.name→mg d.name=some (.ref fa) →
      s₁.heap.get? a=some { cls:=.type "list", data:=.seq vs.toArray }→IntsAre vs ns→ns.length≤n→s₁.gens=#[] →
      codeAny (model l.prog w) callerA (.call (.ref fa) ⟨[.ref a],[]⟩) (fun r s'=>r=.ok (.ret (.bool true))∧OldK s₁.heap s'.heap∧s'.os=s₁.os∧AllBare s'.gens) s₁) :
    WalkO q loose XP YP l.row.toRowW d [] (fun f vs=>PySem.call f vs):=by
  intro w s₀ s₁ mg mb G Y fa o pm cd doc dV kV ho hd hcd hD hmg hg args vals as hpre hlay hrd hwl hlo
  obtain rfl:dV=.none:=Dflts.none hD hdf
  obtain rfl:kV=.none:=Dflts.noKw hD
  obtain ⟨a,vs,ns,rfl,rfl,hobj,hints,hlen⟩:=script_of hn hpre hwl
  refine enter_call (codeAny_mono (call w s₀ s₁ mg mb fa o pm cd doc a vs ns G Y ho (fd_plain hd) hcd hmg hobj hints hlen hg) fun r s' hq=>?_)
  obtain ⟨rfl,h2,h3,h4⟩:=hq
  exact ⟨.inl ⟨.bool true,.bool true,[],rfl,fun _=>rfl,.bool true,post_true l _,fun _=>⟨List.Pairwise.nil,fun _ hm=>(nomatch hm)⟩⟩,h2,h3,h4⟩
section
variable {prog:Program} {w:World} {A:Around} {E:Value→Shared→Prop} {s:Shared} {K:Frag}
end
end Att
namespace L2
open PySem PySem.Spec PyProof.Rows
theorem vals_ints:∀ {vs:List Value} {ns:List Int},IntsAre vs ns→Vals (ns.map V.int) vs
  | _,_,.nil=>.nil
  | _,_,.cons n t h=>.cons ⟨t,rfl⟩ (vals_ints h)
end L2
namespace L2
open PySem PySem.Spec PyProof.Rows
abbrev KOf {K:PySem.W.Frag} {h:Heap} (_:K.In h):PySem.W.Frag:=K
end L2
namespace L2
open PySem PySem.Spec PyProof.Rows
def defArgs (s:Stmt):Arguments:=match s with
  | .FunctionDef _ a _ _ _ _ _ _ _ _=>a
  | _=>{ posonlyargs:=[],args:=[],vararg:=none,kwonlyargs:=[],kw_defaults:=[],kwarg:=none,defaults:=[] }
def defBody (s:Stmt):List Stmt:=match s with
  | .FunctionDef _ _ b _ _ _ _ _ _ _=>b
  | _=>[]
def defScope (s:Stmt):Scope:=match s with
  | .FunctionDef _ _ _ _ _ _ sc _ _ _=>sc
  | _=>{ kind:=.function,names:=[],isGenerator:=false,isCoroutine:=false }
abbrev CX0:CXT:=fun _ _ _ _ _ _=>False
abbrev E0:XK:=fun _ _ _=>False
theorem pass0 {X:Cx}:Passes CX0 X E0:=fun _ _ _ _ _ _ _ h=>h.elim
structure Fun (K:PySem.W.Frag) (x qual:Str) (st:Stmt) (f:Addr) (fd:FuncData):Prop where
  ex:∃ (oc:Value) (od:Option Addr) (kV doc pm:Value) (an:Option Addr) (cdv ct:Value) (osl:Array (Option Value)),
    fd=PySem.W.fnOf x qual (defArgs st) (defBody st) (defScope st) .none kV doc pm an cdv ct∧K.lookup f=some ⟨oc,od,.func fd,osl⟩∧PySem.W.codeIn K cdv qual=true
  kp:PySem.W.keepIn K (.ref f)=true
section
variable {P:Program} {w:World} {K:PySem.W.Frag} {mg:Str→Option Value} {base:Heap}
theorem Fun.ok {x qual:Str} {st:Stmt} {f:Addr} {fd:FuncData} {N ps:List Str} {k:Nat} {sp:Sp} (F:Fun K x qual st f fd) (S:FnScope N ps (defScope st)) (len:∀ vs H Q E,sp vs H Q E→vs.length=ps.length)
    (hbody:∀ (cdv:Value) (A:Around) (outer:List Env) (s:Shared) (H:Hp) (vs:List V) (Q:VK) (E:XK),Room k (A.deeper (envOfC qual (defScope st) s.heap.objs.size f cdv))→sp vs H Q E →
      ∃ t,PSs (cxOf CX0 P w K mg base N qual (defScope st) f cdv A outer s H E).nox (defBody st) t∧t { nx:=fun _ H'=>Q .non H',rt:=Q } (start N vs) H):FnOk P w K mg base CX0 (k+1) f fd ps sp:=by
  obtain ⟨oc,od,kV,doc,pm,an,cdv,ct,osl,rfl,lk,hcd⟩:=F.ex
  refine fn_of lk hcd S len fun A outer s H vs Q E hr hsp=>?_
  obtain ⟨t,h,q⟩:=hbody cdv A outer s H vs Q E hr hsp
  exact ⟨t,h.nox,q⟩
theorem Fun.binds {x qual:Str} {st:Stmt} {f:Addr} {fd:FuncData} {ps:List Str} (F:Fun K x qual st f fd)
    (h:∀ (kV doc pm:Value) (an:Option Addr) (cdv ct:Value) (us:List Value),us.length=ps.length→bindArgs (PySem.W.fnOf x qual (defArgs st) (defBody st) (defScope st) .none kV doc pm an cdv ct) ⟨us,[]⟩=pure (ps.zip us)):Binds K fd ps []:=by
  obtain ⟨oc,od,kV,doc,pm,an,cdv,ct,osl,rfl,lk,hcd⟩:=F.ex
  exact .all (h kV doc pm an cdv ct)
theorem fun_mk {x qual:Str} {st:Stmt} {f:Addr} {oc:Value} {od an:Option Addr} {osl:Array (Option Value)} {kV doc pm cdv ct:Value} (l:K.lookup f=some ⟨oc,od,.func (PySem.W.fnOf x qual (defArgs st) (defBody st) (defScope st) .none kV doc pm an cdv ct),osl⟩)
    (c:PySem.W.codeIn K cdv qual=true) (k:PySem.W.keepIn K (.ref f)=true):Fun K x qual st f (PySem.W.fnOf x qual (defArgs st) (defBody st) (defScope st) .none kV doc pm an cdv ct):=⟨⟨oc,od,kV,doc,pm,an,cdv,ct,osl,rfl,l,c⟩,k⟩
end
theorem hu_of {A:Around} {k:Nat} (hr:Room k A):A.units+1 < cLine:=Nat.lt_of_le_of_lt (Nat.add_le_add_left (by decide:1≤64) _) hr.units
theorem small1000 {n:Nat} (h:n≤1000):n < sizeLine:=Nat.lt_of_le_of_lt h (by decide)
section
variable {X:Cx}
theorem pv (i:Nat) {x:Str} {pos:Pos} (hN:X.N[i]?=some x:=by rfl) (hv:Vis X.env.scope x:=by first | exact Or.inl rfl | exact Or.inr (Or.inl rfl) | exact Or.inr (Or.inr rfl)) (hd:(x == ("__debug__" : Str))=false:=by decide)
    (hcd:(x == ("__classdict__" : Str))=false:=by decide):PE X (.Name x pos) (tVar i):=pe_var hN hv hd hcd
end
theorem iteF {A B:Prop} (h:B):if false=true then A else B:=by
  rw [if_neg Bool.false_ne_true]
  exact h
theorem iteT {A B:Prop} (h:A):if true=true then A else B:=by
  rw [if_pos rfl]
  exact h
theorem ite2 {c A B:Prop} [Decidable c] (h1:c→A) (h2:¬ c→B):if c then A else B:=by
  by_cases h:c
  · rw [if_pos h]
    exact h1 h
  · rw [if_neg h]
    exact h2 h
def Same (H H':Hp):Prop:=∀ b o,H b=some o→H' b=some o
theorem Same.refl (H:Hp):Same H H:=fun _ _ h=>h
theorem Same.trans {H H1 H2:Hp} (a:Same H H1) (b:Same H1 H2):Same H H2:=fun c o h=>b c o (a c o h)
theorem Same.free {H H':Hp} (e:Same H H') {l:Addr} (h:H' l=Option.none):H l=Option.none:=by
  cases q:H l with
  | none=>rfl
  | some o=>
    rw [e l o q] at h
    cases h
end L2
namespace L2
open PySem PySem.Spec PyProof.Rows
theorem lookup_mem {α:Type}:∀ {cl:List (Str × α)} {x:Str} {c:α},cl.lookup x=some c→(x,c)∈cl
  | [],_,_,h=>by simp at h
  | (y,d) :: r,x,c,h=>by
    rw [List.lookup_cons] at h
    cases e:x == y with
    | true=>
      rw [e] at h
      have e':x=y:=eq_of_beq e
      cases h
      rw [e'];exact List.mem_cons_self
    | false=>
      rw [e] at h
      exact List.mem_cons_of_mem _ (lookup_mem h)
theorem lookup_of_mem {α:Type}:∀ {cl:List (Str × α)} {x:Str} {c:α},(x,c)∈cl→∃ c',cl.lookup x=some c'
  | [],_,_,h=>nomatch h
  | (y,d) :: r,x,c,h=>by
    rw [List.lookup_cons]
    cases e:x == y with
    | true=>exact ⟨d,rfl⟩
    | false=>
      rcases List.mem_cons.mp h with h | h
      · cases h
        simp at e
      · exact lookup_of_mem h
theorem closure_go {env:Env} {f:(Str × NameKind)→List (Str × Addr)→Sem (ForInStep (List (Str × Addr)))}
    (h1:∀ x k cs,k≠NameKind.free→f (x,k) cs=pure (.yield cs)) (h2:∀ x cs c,env.cells.lookup x=some c→f (x,NameKind.free) cs=pure (.yield ((x,c) :: cs))) :
    ∀ (names:List (Str × NameKind)) (acc:List (Str × Addr)),(∀ x,(x,NameKind.free)∈names→∃ c,env.cells.lookup x=some c) →
      ∃ cl,forIn names acc f=pure cl∧(∀ p∈cl,p∈acc∨env.cells.lookup p.1=some p.2)∧(∀ p∈acc,p∈cl)∧∀ x,(x,NameKind.free)∈names→∃ c,(x,c)∈cl
  | [],acc,_=>⟨acc,rfl,fun _ h=>.inl h,fun _ h=>h,fun _ h=>nomatch h⟩
  | (x,k) :: r,acc,h=>by
    by_cases hk:k=NameKind.free
    · subst hk
      obtain ⟨c,hc⟩:=h x List.mem_cons_self
      obtain ⟨cl,e,a,b,d⟩:=closure_go h1 h2 r ((x,c) :: acc) fun y hy=>h y (List.mem_cons_of_mem _ hy)
      refine ⟨cl,?_,fun p hp=>?_,fun p hp=>b p (List.mem_cons_of_mem _ hp),fun y hy=>?_⟩
      · rw [List.forIn_cons,h2 x acc c hc,pure_bind];exact e
      · rcases a p hp with q | q
        · rcases List.mem_cons.mp q with q | q
          · subst q;exact .inr hc
          · exact .inl q
        · exact .inr q
      · rcases List.mem_cons.mp hy with q | q
        · cases q;exact ⟨c,b _ List.mem_cons_self⟩
        · exact d y q
    · obtain ⟨cl,e,a,b,d⟩:=closure_go h1 h2 r acc fun y hy=>h y (List.mem_cons_of_mem _ hy)
      refine ⟨cl,?_,a,b,fun y hy=>?_⟩
      · rw [List.forIn_cons,h1 x k acc hk,pure_bind];exact e
      · rcases List.mem_cons.mp hy with q | q
        · cases q;exact absurd rfl hk
        · exact d y q
theorem closure_ok {scope:Scope} {env:Env} (h:∀ x,(x,NameKind.free)∈scope.names→∃ c,env.cells.lookup x=some c) :
    ∃ cl,closureFor scope env=pure cl∧(∀ x c,cl.lookup x=some c→env.cells.lookup x=some c)∧∀ x,(x,NameKind.free)∈scope.names→∃ c,cl.lookup x=some c:=by
  have go:=closure_go (env:=env) (f:=fun x cs=>match x with | (name,kind)=>if (kind == NameKind.free)=true then do let a ← cellOf env name;pure (.yield ((name,a) :: cs)) else pure (.yield cs))
    (fun x k cs hk=>by
      have:(k == NameKind.free)=false:=by simpa using hk
      simp only [this,Bool.false_eq_true,if_false])
    (fun x cs c hc=>by
      simp only [beq_self_eq_true,if_true]
      unfold cellOf
      rw [hc,pure_bind])
    scope.names [] h
  obtain ⟨cl,e,a,_,d⟩:=go
  refine ⟨cl,?_,fun x c hx=>?_,fun x hx=>?_⟩
  · unfold closureFor
    simp only [bind_pure]
    exact e
  · rcases a _ (lookup_mem hx) with q | q
    · exact nomatch q
    · exact q
  · obtain ⟨c,hc⟩:=d x hx
    exact lookup_of_mem hc
theorem relabel_lookup {env:Env} {x:Str} {k:NameKind}:∀ {names:List (Str × NameKind)},
    (names.map fun (n,k)=>if (k == NameKind.free && env.scope.kind == .function && env.kindOf n == some .cell) then (n,NameKind.cell) else (n,k)).lookup x=some k →
      names.lookup x=some k∨(k=.cell∧names.lookup x=some .free)
  | [],h=>by simp at h
  | (n,j) :: r,h=>by
    have ih:=@relabel_lookup env x k r
    rw [List.lookup_cons]
    change List.lookup x ((if (j == NameKind.free && env.scope.kind == .function && env.kindOf n == some .cell)=true then (n,NameKind.cell) else (n,j)) :: _)=_ at h
    by_cases hc:(j == NameKind.free && env.scope.kind == .function && env.kindOf n == some .cell)=true
    · rw [if_pos hc,List.lookup_cons] at h
      have hj:j=NameKind.free:=by
        simp only [Bool.and_eq_true] at hc
        exact eq_of_beq hc.1.1
      cases hx:x == n with
      | true=>rw [hx] at h;cases h;exact .inr ⟨rfl,by rw [hj]⟩
      | false=>rw [hx] at h;exact ih h
    · rw [if_neg hc,List.lookup_cons] at h
      cases hx:x == n with
      | true=>rw [hx] at h;exact .inl h
      | false=>rw [hx] at h;exact ih h
def cxComp (X:Cx) (scope:Scope) (NL:List Str) (ix:List Nat) (cl:List (Str × Addr)) (C:Addr) (s₃:Shared) (H₃:Hp) (fp:List Addr) (pins:List (Addr × Obj)):Cx where
  prog:=X.prog
  w:=X.w
  K:=X.K
  mg:=X.mg
  base:=X.base
  A:=X.A
  N:=NL++ix.map fun j=>X.N.getD j ""
  s₀:=s₃
  H₀:=H₃
  env:=compEnvC scope cl C X.env
  outer:=X.stack
  stack:=X.stack
  ex:=fp
  fn:=fun _=>false
  calm:=X.calm
  pn:=X.pn++pins
  xe:=fun _ _=>False
def comp0 (NL:List Str) (ix:List Nat) (σ:St):St:=NL.map (fun _=>none)++ix.map fun j=>σ.getD j none
def PIfs (X:Cx) (ifs:List Expr) (t:TT):Prop:=
  ∀ (pins:List (Addr × Obj)) (s:Shared) (σ:St) (H:Hp) (Q:Bool→Hp→Prop),Inv X pins σ H s→t σ H Q →
    wpAny (model X.prog X.w) X.A (forIn ifs true fun c r=>if r=true then do let ok ← isTrue c X.env (eval c X.env);pure (ForInStep.yield ok) else pure (ForInStep.yield r)) (TP X pins σ Q) X.xe s
def tYes:TT:=fun _ H Q=>Q true H
theorem pifs_nil {X:Cx}:PIfs X [] tYes:=fun _ _ _ H _ I h=>wpAny_tests_nil ⟨H,I,h⟩
theorem pifs_one {X:Cx} {c:Expr} {t:TT} (h:PT X c t):PIfs X [c] t:=fun pins s σ H Q I q=>wpAny_tests_one (h pins s σ H Q I q)
def tComp (NL:List Str) (ix:List Nat) (wi:TI) (g:TG) (tt:TT) (te:TE):TE:=fun σ H Q=>
  wi σ H fun J H1=>∀ acc,H1 acc=none→∃ W:Nat→Nat→List V→Hp→Prop,(∃ m,W 0 m [] (upd H1 acc (.lst []))) ∧
    ∀ i m ys H2,W i m ys H2→H2 acc=some (.lst ys)∧ys.length < sizeLine ∧
      ((J.stop i H2∧Q (.ref acc) H2)∨(J.go i H2∧∃ N:List V→Hp→Prop,(∀ ys' H',N ys' H'→∃ m',m' < m∧W (i+1) m' ys' H') ∧
        ∀ x H3,J.yld i H2 x H3→g x (comp0 NL ix σ) H3 fun σ' H4=>σ'.drop NL.length=ix.map (fun j=>σ.getD j none)∧tt σ' H4 fun b H5=>
          if b=true then te σ' H5 fun v H6=>H6 acc=some (.lst ys)∧N (ys++[v]) (upd H6 acc (.lst (ys++[v]))) else N ys H5))
section
variable {X:Cx} {pins:List (Addr × Obj)} {σ:St} {H:Hp} {s:Shared}
structure CompScope (X:Cx) (scope:Scope) (NL:List Str) (ix:List Nat):Prop where
  kind:scope.kind=.function
  cell:∀ y∈scope.names,y.2≠.cell
  names:∀ y∈scope.names,y.2=.local→scope.names.lookup y.1=some .local
  free:∀ y∈scope.names,y.2=.free→X.env.kindOf y.1=some .cell∨X.env.kindOf y.1=some .free
  cap:∀ j∈ix,∃ x,X.N[j]?=some x∧scope.names.lookup x=some .free
theorem comp_inv {scope:Scope} {NL:List Str} {ix:List Nat} {cl:List (Str × Addr)} {fp:List Addr} {tn:Nat→Heap→Prop} {s₃:Shared} {h₁:Heap} {m:Str→Option Value} {tk:Nat}
    (S:CompScope X scope NL ix) (I:Inv X pins σ H s₃) (c1:∀ x c,cl.lookup x=some c→X.env.cells.lookup x=some c) (c2:∀ x,(x,NameKind.free)∈scope.names→∃ c,cl.lookup x=some c)
    (hf:∀ b∈fp,FpOk X pins H b) (ho:∀ b∈fp,∃ o,s₃.heap.get? b=some o) (hn:h₁.Ns s₃.heap.objs.size m) (old:∀ b o,s₃.heap.get? b=some o→h₁.get? b=some o) :
    Inv (cxComp X scope NL ix cl s₃.heap.objs.size s₃ H fp pins) [] (comp0 NL ix σ) H { s₃ with heap:=h₁,toks:=tk }:=by
  have e0:=I.env0
  have lt:∀ b o,s₃.heap.get? b=some o→b≠s₃.heap.objs.size:=fun b o e=>Nat.ne_of_lt (Heap.lt_size e)
  have nst:∀ b,b≠X.env.locals→b ∉ X.fs→b ∉ frs X.stack:=fun b h1 h2 h3=>(List.mem_cons.mp (I.stkSub b h3)).elim h1 h2
  have ok:(cxComp X scope NL ix cl s₃.heap.objs.size s₃ H fp pins).Ok:=
    { mod:=I.ok.mod
      kind:=S.kind
      glob:=I.ok.glob
      blt:=I.ok.blt
      above:=Nat.le_refl _
      inj:=fun x y c h1 h2=>I.ok.inj x y c (c1 x c h1) (c1 y c h2)
      has:=fun x hx=>by
        have hfree:scope.names.lookup x=some .free:=by
          rcases hx with hx | hx
          · rcases relabel_lookup hx with q | ⟨_,q⟩
            · exact absurd rfl (S.cell _ (lookup_mem q))
            · exact q
          · rcases relabel_lookup hx with q | ⟨z,_⟩
            · exact q
            · cases z
        exact c2 x (lookup_mem hfree)
      cab:=fun _ _ z=>nomatch z
      hd:=I.ok.hd
      frames:=I.ok.frames
      stk:=.inl rfl
      exf:=fun b hb=>⟨let ⟨o,e⟩:=ho b hb;lt b o e,fun x c hx=>(hf b hb).2.2.2.2.1 x c (c1 x c hx)⟩
      bs:=I.bs
      bsz:=e0.bsz
      noex:=fun b o e hb=>by
        rcases (hf b hb).2.2.2.1 with z | z
        · exact I.ok.noex b o e z
        · exact absurd (Nat.lt_of_lt_of_le (Heap.lt_size e) (Nat.le_trans I.ok.bsz z)) (Nat.lt_irrefl _)
      exfs:=fun b hb=>nst b (hf b hb).2.1 (hf b hb).2.2.1
      funs:=e0.funs
      frf:=e0.frf }
  refine ⟨ok,rfl,I.bare,Un.kept old,⟨m,hn,fun i x v e1 e2 e3=>?_⟩,fun x c e=>?_,I.hok.fresh (Nat.le_refl _),fun x c e=>I.freeC x c (c1 x c e),fun p hp=>?_,I.hok.kept old,?_⟩
  · have hl:NL.length≤i:=by
      rcases Nat.lt_or_ge i NL.length with z | z
      · exfalso
        unfold comp0 at e2
        rw [List.getElem?_append_left (by simpa using z),List.getElem?_map] at e2
        cases q:NL[i]? with
        | none=>rw [q] at e2;cases e2
        | some y=>rw [q] at e2;cases e2
      · exact z
    unfold comp0 at e2
    rw [List.getElem?_append_right (by simpa using hl),List.length_map,List.getElem?_map] at e2
    change (NL++ix.map fun j=>X.N.getD j "")[i]?=some x at e1
    rw [List.getElem?_append_right hl,List.getElem?_map] at e1
    cases q:ix[i - NL.length]? with
    | none=>rw [q] at e1;cases e1
    | some j=>
      rw [q] at e1 e2
      have e1':X.N.getD j "" = x:=Option.some.inj e1
      have e2':σ.getD j none=some v:=Option.some.inj e2
      obtain ⟨x',hx',hfr⟩:=S.cap j (List.mem_of_getElem? q)
      have exx:x'=x:=by
        rw [← e1',List.getD_eq_getElem?_getD,hx'];rfl
      subst exx
      have hσ:σ[j]?=some (some v):=by
        rw [List.getD_eq_getElem?_getD] at e2'
        cases z:σ[j]? with
        | none=>rw [z] at e2';cases e2'
        | some o=>rw [z] at e2';exact congrArg some e2'
      have kd:=S.free _ (lookup_mem hfr) rfl
      have vis:Vis X.env.scope x':=by
        rcases kd with z | z
        · exact .inr (.inl z)
        · exact .inr (.inr z)
      obtain ⟨m',hn',hl'⟩:=I.loc
      obtain ⟨u,r,l⟩:=hl' j x' v hx' hσ vis
      refine ⟨u,r,.inr ?_⟩
      have hk':(compEnvC scope cl s₃.heap.objs.size X.env).kindOf x'=some .cell∨(compEnvC scope cl s₃.heap.objs.size X.env).kindOf x'=some .free:=by
        rcases e3 with z | z | z
        · rcases relabel_lookup z with w | ⟨w,_⟩
          · rw [hfr] at w;cases w
          · cases w
        · exact .inl z
        · exact .inr z
      refine ⟨hk',?_⟩
      obtain ⟨c,hc⟩:=c2 x' (lookup_mem hfr)
      rcases l with ⟨k,_⟩ | ⟨k,c',ec,o,ho',hd⟩
      · rcases kd with z | z
        · rw [k] at z;cases z
        · rw [k] at z;cases z
      · have:c'=c:=by
          have:=c1 x' c hc
          rw [ec] at this
          exact Option.some.inj this
        subst this
        exact ⟨c',hc,o,old _ _ ho',hd⟩
  · obtain ⟨v,o,ho',hd⟩:=I.cell x c (c1 x c e)
    exact ⟨v,o,old _ _ ho',hd⟩
  · have hp':p∈X.pn++pins:=by
      rcases List.mem_append.mp hp with z | z
      · exact z
      · exact nomatch z
    obtain ⟨e,n,ne,nf,d⟩:=I.pin p hp'
    exact ⟨old _ _ e,n,lt _ _ e,nst _ ne nf,d⟩
  · show (NL.map (fun _=>(none:Option V))++ix.map fun j=>σ.getD j none).length=(NL++ix.map fun j=>X.N.getD j "").length
    simp
theorem comp_run {scope:Scope} {NL:List Str} {ix:List Nat} {elt tg iter:Expr} {ifs:List Expr} {pos:Pos} {g:TG} {tt:TT} {te:TE} {cl:List (Str × Addr)} {fp:List Addr} {it:Addr} {tn:Nat→Heap→Prop} {J:It} {Q:VK}
    {E:Value→Shared→Prop} {RR:Value→Addr→Result→Shared→Prop}
    (hc:X.calm=true) (S:CompScope X scope NL ix) (c1:∀ x c,cl.lookup x=some c→X.env.cells.lookup x=some c) (c2:∀ x,(x,NameKind.free)∈scope.names→∃ c,cl.lookup x=some c)
    (hb:∀ (cl:List (Str × Addr)) (C:Addr) (s₃:Shared) (H₃:Hp) (fp:List Addr) (pins:List (Addr × Obj)),PG (cxComp X scope NL ix cl C s₃ H₃ fp pins) tg g∧PIfs (cxComp X scope NL ix cl C s₃ H₃ fp pins) ifs tt∧PE (cxComp X scope NL ix cl C s₃ H₃ fp pins) elt te)
    (I:Inv X pins σ H s) (T:Turn X.prog X.w X.K tg J fp it tn) (st:tn 0 s.heap) (hf:∀ b∈fp,FpOk X pins H b)
    (q:∀ acc,H acc=none→∃ W:Nat→Nat→List V→Hp→Prop,(∃ m,W 0 m [] (upd H acc (.lst []))) ∧
      ∀ i m ys H2,W i m ys H2→H2 acc=some (.lst ys)∧ys.length < sizeLine ∧
      ((J.stop i H2∧Q (.ref acc) H2)∨(J.go i H2∧∃ N:List V→Hp→Prop,(∀ ys' H',N ys' H'→∃ m',m' < m∧W (i+1) m' ys' H') ∧
        ∀ x H3,J.yld i H2 x H3→g x (comp0 NL ix σ) H3 fun σ' H4=>σ'.drop NL.length=ix.map (fun j=>σ.getD j none)∧tt σ' H4 fun b H5=>
          if b=true then te σ' H5 fun v H6=>H6 acc=some (.lst ys)∧N (ys++[v]) (upd H6 acc (.lst (ys++[v]))) else N ys H5)))
    (hRR:∀ (acc C:Addr) (H':Hp) (s':Shared) (m':Str→Option Value),Inv X pins σ H' s'→s'.heap.Ns C m'→FpOk X pins H' C→Q (.ref acc) H'→RR (.ref acc) C (.ok .next) s') :
    wpAny (model X.prog X.w) X.A (newList []) (fun acc s₃=>wpAny (model X.prog X.w) X.A (newFunctionEnv scope X.env.globals cl [] X.env.qual none .none (some X.env)) (fun cenv s₄=>
      codeAny (model X.prog X.w) X.A (.compStart (.ListComp elt [⟨tg,iter,ifs,0⟩] scope pos) 0 (.ref it) acc { cenv with scope:=relabel scope X.env }) (RR acc cenv.locals) s₄) E s₃) E s:=by
  refine wpAny_newObj_type (wpAny_newFunctionEnv S.cell (by intro y hy;simp at hy) (fun h₁ hns₁ hsb₁=>?_) S.kind)
  have I3:Inv X pins σ (upd H s.heap.objs.size (.lst [])) { s with heap:=s.heap.push { cls:=.type "list", data:=.seq ([]:List Value).toArray },toks:=s.toks }:=I.lnew (its:=[]) .nil (Nat.zero_le _)
  have hfr:H s.heap.objs.size=none:=I.hok.fresh (Nat.le_refl _)
  generalize hs3:({ s with heap:=s.heap.push { cls:=.type "list", data:=.seq ([]:List Value).toArray },toks:=s.toks }:Shared)=s₃ at I3
  have hsz:s₃.heap.objs.size=s.heap.objs.size+1:=by rw [← hs3];exact Heap.size_push ..
  have old1:∀ b o,s.heap.get? b=some o→s₃.heap.get? b=some o:=fun b o e=>by rw [← hs3];exact Heap.get?_push_of_some _ e
  have key:codeAny (model X.prog X.w) X.A (.compStart (.ListComp elt [⟨tg,iter,ifs,0⟩] scope pos) 0 (.ref it) (.ref s.heap.objs.size) (compEnvC scope cl s₃.heap.objs.size X.env))
      (RR (.ref s.heap.objs.size) s₃.heap.objs.size) { s₃ with heap:=h₁,toks:=s₃.toks+0 }:=by
    have hns:h₁.Ns s₃.heap.objs.size (fun _=>none):=by
      have:=hns₁
      rw [← hs3]
      exact this
    have hsb:Heap.SameBut s₃.heap.objs.size (s₃.heap.push { cls:=.type "dict", data:=.dict #[] }) h₁:=by
      have:=hsb₁
      rw [← hs3]
      exact this
    have old:∀ b o,s₃.heap.get? b=some o→h₁.get? b=some o:=fun b o e=>hsb.extBut b o (Nat.ne_of_lt (Heap.lt_size e)) (Heap.get?_push_of_some _ e)
    have hf3:∀ b∈fp,FpOk X pins (upd H s.heap.objs.size (.lst [])) b:=fun b hb'=>by
      obtain ⟨o,e,_⟩:=T.obj 0 _ st b hb'
      have ne:b≠s.heap.objs.size:=Nat.ne_of_lt (Heap.lt_size e)
      exact ⟨by rw [upd_ne ne];exact (hf b hb').1,(hf b hb').2⟩
    have ho3:∀ b∈fp,∃ o,s₃.heap.get? b=some o:=fun b hb'=>by
      obtain ⟨o,e,_⟩:=T.obj 0 _ st b hb'
      exact ⟨o,old1 b o e⟩
    have st1:tn 0 h₁:=T.keep 0 _ _ st fun b hb' o e=>old b o (old1 b o e)
    have I4:=comp_inv (tn:=tn) (tk:=s₃.toks+0) S I3 c1 c2 hf3 ho3 hns old
    obtain ⟨W,⟨m0,w0⟩,turn⟩:=q s.heap.objs.size hfr
    obtain ⟨hg,ht,he⟩:=hb cl s₃.heap.objs.size s₃ (upd H s.heap.objs.size (.lst [])) fp pins
    generalize hX':cxComp X scope NL ix cl s₃.heap.objs.size s₃ (upd H s.heap.objs.size (.lst [])) fp pins=X' at I4 hg ht he
    have p1:X'.prog=X.prog:=by rw [← hX'];rfl
    have p2:X'.w=X.w:=by rw [← hX'];rfl
    have p3:X'.K=X.K:=by rw [← hX'];rfl
    have p4:X'.A=X.A:=by rw [← hX'];rfl
    have p5:X'.env=compEnvC scope cl s₃.heap.objs.size X.env:=by rw [← hX'];rfl
    have p6:X'.calm=true:=by rw [← hX'];exact hc
    have p7:X'.xe=fun _ _=>False:=by rw [← hX'];rfl
    have stat:∀ {H':Hp},(∀ b∈fp,H' b=none)→∀ b∈fp,FpOk X' [] H' b:=fun {H'} hn b hb'=>by
      have z:=hf3 b hb'
      obtain ⟨o,eo⟩:=ho3 b hb'
      rw [← hX']
      refine ⟨hn b hb',Nat.ne_of_lt (Heap.lt_size eo),fun q=>(List.mem_cons.mp (I3.stkSub b q)).elim z.2.1 z.2.2.1,.inl hb',fun x c hx=>z.2.2.2.2.1 x c (c1 x c hx),fun p hp=>?_⟩
      rcases List.mem_append.mp hp with w | w
      · exact z.2.2.2.2.2 p w
      · exact nomatch w
    have fin:∀ i n ys H' s',Inv X' [] (comp0 NL ix σ) H' s'→W i n ys H'→Q (.ref s.heap.objs.size) H'→RR (.ref s.heap.objs.size) s₃.heap.objs.size (.ok .next) s':=fun i n ys H' s' I' w' q'=>by
      obtain ⟨m',hn',_⟩:=I'.loc
      have hos:s'.os=s₃.os:=by have:=I'.os;rw [← hX'] at this;exact this
      have hu:Un (frs X.stack) fp (upd H s.heap.objs.size (.lst [])) H' s₃.heap s'.heap:=by have:=I'.base;rw [← hX'] at this;exact this
      have hk:HOk X.prog X.w H' s'.heap:=by have:=I'.hok;rw [← hX'] at this;exact this
      have hfC:H' s₃.heap.objs.size=none:=by have:=I'.free;rw [← hX'] at this;exact this
      have hnC:s'.heap.Ns s₃.heap.objs.size m':=by rw [p5] at hn';exact hn'
      exact hRR _ _ H' s' m' (I3.call' hos hu hk I'.bare fun b hb'=>⟨(hf3 b hb').2.2.2.1,(hf3 b hb').2.1,(hf3 b hb').2.2.2.2.1,(hf3 b hb').2.2.2.2.2⟩) hnC (I3.fpOk (Nat.le_refl _) hfC) q'
    have loop:∀ s₄:Shared,Inv X' [] (comp0 NL ix σ) (upd H s.heap.objs.size (.lst [])) s₄→tn 0 s₄.heap→codeAny (model X.prog X.w) X.A (.compLoop (.ListComp elt [⟨tg,iter,ifs,0⟩] scope pos) 0 (.ref it) (.ref s.heap.objs.size) (compEnvC scope cl s₃.heap.objs.size X.env))
        (RR (.ref s.heap.objs.size) s₃.heap.objs.size) s₄:=fun s₄ I4 st1=>by
      refine codeAny_loop rfl (fun n s'=>∃ i ys H',Inv X' [] (comp0 NL ix σ) H' s'∧tn i s'.heap∧(∀ b∈fp,H' b=none)∧W i n ys H') (fun n s' hI=>?_) m0 ⟨0,[],_,I4,st1,fun b hb'=>(hf3 b hb').1,w0⟩
      obtain ⟨i,ys,H',I',st',fr',w'⟩:=hI
      show wpAny _ X.A ((compTurn (.ListComp elt [⟨tg,iter,ifs,0⟩] scope pos) 0 (.ref it) (.ref s.heap.objs.size) (compEnvC scope cl s₃.heap.objs.size X.env)).onRaise (fun x=>do noteFrame x (compEnvC scope cl s₃.heap.objs.size X.env);theTreesLotGoes x)) _ _ s'
      refine wpAny_noted ?_
      rw [compTurn_list]
      obtain ⟨hacc,hz8,alt⟩:=turn i n ys H' w'
      rcases alt with ⟨stop,qn⟩ | ⟨go,N,hN,step⟩
      · have d:=T.done X' p1 p2 p3 p6 i [] s' (comp0 NL ix σ) H' (notedBy (model X.prog X.w) X.A (compEnvC scope cl s₃.heap.objs.size X.env) fun e s'=>RR (.ref s.heap.objs.size) s₃.heap.objs.size (.error e) s') I' (stat fr') st' stop
        rw [p4] at d
        refine wpAny_bind (wpAny_standAt (wpAny_bind (thn d fun r s1 ⟨hr,I1⟩=>?_)))
        subst hr
        exact wpAny_pure (fin i n ys H' s1 I1 w' qn)
      · have d:=T.item X' p1 p2 p3 p6 i [] s' (comp0 NL ix σ) H' (notedBy (model X.prog X.w) X.A (compEnvC scope cl s₃.heap.objs.size X.env) fun e s'=>RR (.ref s.heap.objs.size) s₃.heap.objs.size (.error e) s') I' (stat fr') st' go
        rw [p4] at d
        refine wpAny_bind (wpAny_standAt (wpAny_bind (thn d fun r s1 ⟨u,hr,h4⟩=>?_)))
        subst hr
        refine wpAny_bind (thn h4 fun _ s5 ⟨x,H5,I5,r5,y5,st5,fr5⟩=>?_)
        have I5':=I5.pinned (stat fr5) (T.obj _ _ st5)
        have nofail:∀ {α:Type} {t:Sem α} {R:α→Shared→Prop} {sx:Shared},wpAny (model X'.prog X'.w) X'.A t R X'.xe sx→wpAny (model X.prog X.w) X.A t R (notedBy (model X.prog X.w) X.A (compEnvC scope cl s₃.heap.objs.size X.env) fun e s'=>RR (.ref s.heap.objs.size) s₃.heap.objs.size (.error e) s') sx:=fun {α t R sx} hh=>by
          rw [p1,p2,p4,p7] at hh
          exact wpAny_mono hh (fun _ _ z=>z) fun _ _ z=>z.elim
        have again:∀ {σ7:St} {H7:Hp} {s7:Shared} {ys':List V},σ7.drop NL.length=ix.map (fun j=>σ.getD j none)→Inv X' ([]++pinsAt fp s5.heap) σ7 H7 s7→(∃ m',m' < n∧W (i+1) m' ys' H7)→∃ m,m < n∧∃ i ys H',Inv X' [] (comp0 NL ix σ) H' s7∧tn i s7.heap∧(∀ b∈fp,H' b=none)∧W i m ys H':=fun {σ7 H7 s7 ys'} hσ I7 n7=>by
          obtain ⟨m',hm,w7⟩:=n7
          have Iw:Inv X' ([]++pinsAt fp s5.heap) (comp0 NL ix σ) H7 s7:=I7.weak (by rw [I7.len,I'.len]) fun j v hj=>by
            have hlj:NL.length≤j:=by
              rcases Nat.lt_or_ge j NL.length with z | z
              · exfalso
                unfold comp0 at hj
                rw [List.getElem?_append_left (by simpa using z),List.getElem?_map] at hj
                cases q:NL[j]? with
                | none=>rw [q] at hj;cases hj
                | some y=>rw [q] at hj;cases hj
              · exact z
            unfold comp0 at hj
            rw [List.getElem?_append_right (by simpa using hlj),List.length_map,← hσ,List.getElem?_drop] at hj
            rw [← hj]
            congr 1
            omega
          refine ⟨m',hm,i+1,ys',H7,Iw.unpinned,T.keep _ _ _ st5 fun b hb' o e=>(I7.pin (b,o) (List.mem_append_right _ (List.mem_append_right _ (mem_pinsAt hb' e)))).1,fun b hb'=>?_,w7⟩
          obtain ⟨o,e,d⟩:=T.obj _ _ st5 b hb'
          exact (I7.pin (b,o) (List.mem_append_right _ (List.mem_append_right _ (mem_pinsAt hb' e)))).2.1
        have hg':=nofail (hg _ s5 (comp0 NL ix σ) H5 x u _ I5' r5 (step x H5 y5))
        rw [p5] at hg'
        refine wpAny_bind (thn hg' fun _ s6 ⟨σ6,H6,I6,hσ6,q6⟩=>?_)
        have ht':=nofail (ht _ s6 σ6 H6 _ I6 q6)
        rw [p5] at ht'
        refine wpAny_bind (thn ht' fun ok s7 ⟨H7,I7,q7⟩=>?_)
        cases ok with
        | false=>
          have q7':N ys H7:=by simpa using q7
          exact wpAny_pure ⟨rfl,again hσ6 I7 (hN _ _ q7')⟩
        | true=>
          have q7':=(if_pos rfl).mp q7
          have he':=nofail (he _ s7 σ6 H7 _ I7 q7')
          rw [p5] at he'
          refine wpAny_bind (wpAny_bind (thn he' fun v s8 ⟨y,H8,I8,r8,ha8,q8⟩=>?_))
          have ap:=nofail (mt_append _ s8 σ6 H8 (.ref s.heap.objs.size) [y] (.ref s.heap.objs.size) [v] (fun _ H9=>H9=upd H8 s.heap.objs.size (.lst (ys++[y]))) I8 rfl (.cons r8 .nil) ⟨_,ys,y,rfl,rfl,ha8,hz8,rfl⟩)
          refine wpAny_bind (thn ap fun _ s9 ⟨z,H9,I9,r9,e9⟩=>wpAny_pure (wpAny_pure ⟨rfl,?_⟩))
          subst e9
          exact again hσ6 I9 (hN _ _ q8)
    exact codeAny_compStart_list (loop _ I4 st1) (T.self X.A 0 _ _ _ st1 (loop _ I4 st1))
  exact key
theorem pe_comp {scope:Scope} {NL:List Str} {ix:List Nat} {elt tg iter:Expr} {ifs:List Expr} {pos:Pos} {wi:TI} {g:TG} {tt:TT} {te:TE}
    (hc:X.calm=true) (hi:PI X tg iter wi) (S:CompScope X scope NL ix)
    (hb:∀ (cl:List (Str × Addr)) (C:Addr) (s₃:Shared) (H₃:Hp) (fp:List Addr) (pins:List (Addr × Obj)),PG (cxComp X scope NL ix cl C s₃ H₃ fp pins) tg g∧PIfs (cxComp X scope NL ix cl C s₃ H₃ fp pins) ifs tt∧PE (cxComp X scope NL ix cl C s₃ H₃ fp pins) elt te)
    (hs:∀ x,foldedSetIterable iter X.env x=pure x:=by intro _;rfl):PE X (.ListComp elt [⟨tg,iter,ifs,0⟩] scope pos) (tComp NL ix wi g tt te):=by
  intro pins s σ H Q I h
  obtain ⟨cl,hcl,c1,c2⟩:=closure_ok (scope:=scope) (env:=X.env) fun x hx=>by
    rcases S.free _ hx rfl with z | z
    · exact I.ok.has x (.inl z)
    · exact I.ok.has x (.inr z)
  rw [eval_ListComp]
  refine wpAny_comprehension_free (use:=none) rfl hs hcl S.kind S.names (thn (hi pins s σ H _ I h) fun xv s1 h1=>thn h1 fun itv s2 h2=>?_)
  obtain ⟨it,fp,tn,J,H2,rfl,I2,T,st2,f2,q⟩:=h2
  refine comp_run (RR:=fun acc C=>compPost (model X.prog X.w) X.A X.xe none (EP X pins σ Q) acc C) hc S c1 c2 hb I2 T st2 f2 q ?_
  intro acc C H' s' m' I' hn fC q'
  refine ⟨m',hn,fun h' sb=>⟨.ref acc,H',?_,rfl,q'⟩⟩
  exact I'.turned (t':=s'.toks) (fun b o hb e=>sb.extBut b o hb e) fC.1 fC.2.1 fC.2.2.2.1 fC.2.2.2.2.1 fC.2.2.2.2.2
theorem ps_comp {i:Nat} {y:Str} {py spos:Pos} {scope:Scope} {NL:List Str} {ix:List Nat} {elt tg iter:Expr} {ifs:List Expr} {pos:Pos} {wi:TI} {g:TG} {tt:TT} {te:TE}
    (hN:X.N.Nodup) (hiy:X.N[i]?=some y) (hy:Loc X.env.scope y)
    (hc:X.calm=true) (hi:PI X tg iter wi) (S:CompScope X scope NL ix)
    (hb:∀ (cl:List (Str × Addr)) (C:Addr) (s₃:Shared) (H₃:Hp) (fp:List Addr) (pins:List (Addr × Obj)),PG (cxComp X scope NL ix cl C s₃ H₃ fp pins) tg g∧PIfs (cxComp X scope NL ix cl C s₃ H₃ fp pins) ifs tt∧PE (cxComp X scope NL ix cl C s₃ H₃ fp pins) elt te)
    (hsw:swapsWith (.ListComp elt [⟨tg,iter,ifs,0⟩] scope pos) (some (.Name y py)) spos.line X.env=pure true:=by rfl)
    (hs:∀ x,foldedSetIterable iter X.env x=pure x:=by intro _;rfl)
    (hf:X.fn y=true∨X.env.scope.names.lookup y=some .local:=by first | exact .inl rfl | exact .inr rfl | assumption) :
    PS X (.Assign [.Name y py] (.ListComp elt [⟨tg,iter,ifs,0⟩] scope pos) spos) (tAsg (tComp NL ix wi g tt te) (gName i)):=by
  intro pins s σ H D I h
  obtain ⟨cl,hcl,c1,c2⟩:=closure_ok (scope:=scope) (env:=X.env) fun x hx=>by
    rcases S.free _ hx rfl with z | z
    · exact I.ok.has x (.inl z)
    · exact I.ok.has x (.inr z)
  rw [exec_Assign_Name_used _ _ _ _ hsw]
  refine wpAny_bind (wpAny_standAt (wpAny_bind ?_))
  show wpAny _ X.A (do let _ ← comprehension (.ListComp elt [⟨tg,iter,ifs,0⟩] scope pos) scope X.env _ (newList []) false (eval iter X.env) (some (assign (.Name y py) X.env))) _ _ s
  refine wpAny_bind (thn (wpAny_comprehension_free (use:=some (assign (.Name y py) X.env)) (Q:=fun _ s'=>SP X pins D .next s') rfl hs hcl S.kind S.names
    (thn (hi pins s σ H _ I h) fun xv s1 h1=>thn h1 fun itv s2 h2=>?_)) fun _ s' hq=>wpAny_pure (wpAny_pure hq))
  obtain ⟨it,fp,tn,J,H2,rfl,I2,T,st2,f2,q⟩:=h2
  refine comp_run (RR:=fun acc C=>compPost (model X.prog X.w) X.A X.xe (some (assign (.Name y py) X.env)) (fun _ s'=>SP X pins D .next s') acc C) (Q:=fun x H1=>gName i x σ H1 D.nx) hc S c1 c2 hb I2 T st2 f2 q ?_
  intro acc C H' s' m' I' hn fC q'
  show wpAny _ X.A (assign (.Name y py) X.env (.ref acc)) _ _ _
  refine wpAny_assign_Name (store_ok2 I' hN hiy hy (v:=.ref acc) rfl (fun s'' I'' hsb=>?_) hf)
  obtain ⟨a,sb,ha⟩:=hsb
  have hne:C≠a:=by
    rcases ha with z | z
    · rw [z];exact fC.2.1
    · exact fun w=>fC.2.2.2.2.1 y a z w.symm
  refine ⟨m',hn.sameBut sb hne,fun h' sb'=>⟨_,H',?_,q'⟩⟩
  exact I''.turned (t':=s''.toks) (fun b o hb e=>sb'.extBut b o hb e) fC.1 fC.2.1 fC.2.2.2.1 fC.2.2.2.2.1 fC.2.2.2.2.2
theorem comp_by {J:It} {NL:List Str} {ix:List Nat} {g:TG} {tt:TT} {te:TE} {σ:St} {H1:Hp} {Qs:Hp→Prop} {acc:Addr} (n:Nat) (hn:n < 1000) (Pv:Nat→List V→Hp→Prop)
    (hacc:∀ i ys H2,Pv i ys H2→H2 acc=some (.lst ys)∧ys.length≤i) (h0:Pv 0 [] (upd H1 acc (.lst []))) (hstop:∀ ys H2,Pv n ys H2→J.stop n H2∧Qs H2)
    (hturn:∀ i ys H2,i < n→Pv i ys H2→J.go i H2∧∀ x H3,J.yld i H2 x H3→g x (comp0 NL ix σ) H3 fun σ' H4=>σ'.drop NL.length=ix.map (fun j=>σ.getD j none)∧tt σ' H4 fun b H5=>
      if b=true then te σ' H5 fun v H6=>H6 acc=some (.lst ys)∧Pv (i+1) (ys++[v]) (upd H6 acc (.lst (ys++[v]))) else Pv (i+1) ys H5) :
    ∃ W:Nat→Nat→List V→Hp→Prop,(∃ m,W 0 m [] (upd H1 acc (.lst []))) ∧
    ∀ i m ys H2,W i m ys H2→H2 acc=some (.lst ys)∧ys.length < sizeLine ∧
      ((J.stop i H2∧Qs H2)∨(J.go i H2∧∃ N:List V→Hp→Prop,(∀ ys' H',N ys' H'→∃ m',m' < m∧W (i+1) m' ys' H') ∧
        ∀ x H3,J.yld i H2 x H3→g x (comp0 NL ix σ) H3 fun σ' H4=>σ'.drop NL.length=ix.map (fun j=>σ.getD j none)∧tt σ' H4 fun b H5=>
          if b=true then te σ' H5 fun v H6=>H6 acc=some (.lst ys)∧N (ys++[v]) (upd H6 acc (.lst (ys++[v]))) else N ys H5)):=by
  refine ⟨fun i m ys H2=>i≤n∧m=n - i∧Pv i ys H2,⟨n,Nat.zero_le _,rfl,h0⟩,fun i m ys H2 ⟨hi,hm,hp⟩=>?_⟩
  obtain ⟨a1,a2⟩:=hacc i ys H2 hp
  refine ⟨a1,small1000 (by omega),?_⟩
  rcases Nat.lt_or_ge i n with lt | ge
  · obtain ⟨go,tn⟩:=hturn i ys H2 lt hp
    exact .inr ⟨go,Pv (i+1),fun ys' H' hN=>⟨n - (i+1),by omega,by omega,rfl,hN⟩,tn⟩
  · have e:i=n:=by omega
    subst e
    exact .inl (hstop ys H2 hp)
end
end L2
namespace L2
open PySem PySem.Spec PyProof.Rows
section
variable {prog:Program} {w:World} {A:Around} {E:Value→Shared→Prop} {s:Shared}
theorem nextOf_tuple_item {it t:Addr} {i:Nat} {items:Array Value} {x:Value} {Q:Value→Shared→Prop} (hit:s.heap.IsTupleIter it t i)
    (ht:s.heap.IsTuple t items) (hx:items[i]?=some x)
    (hQ:∀ h',h'.IsTupleIter it t (i+1)→Heap.SameBut it s.heap h'→Q x { s with heap:=h' }) :
    wpAny (model prog w) A (Builtin.SmallTypes.nextOf (.ref it)) Q E s:=by
  obtain ⟨o,ho,hc,hd⟩:=id hit
  obtain ⟨ol,hol,_,nl,hdl⟩:=ht
  unfold Builtin.SmallTypes.nextOf
  refine wpAny_bind (wpAny_callSpecial?_slot (name:=Str.ofString "__next__") hit.typeIs F.slot_tuple_iterator_next
    (wpAny_call_entry F.slot_tuple_iterator_next hit.typeIs F.entry_tuple_iterator_next ?_ (F.args_tuple_iterator_next_1 _)))
  show wpAny _ _ (field (.ref it) 0 >>= _) _ _ s
  refine wpAny_bind (wpAny_field ho hd (x:=.ref t) rfl ?_)
  show wpAny _ _ (if (Value.ref t == Value.none)=true then _ else _) _ _ s
  rw [if_neg (show ¬ ((Value.ref t == Value.none)=true) from Bool.false_ne_true)]
  show wpAny _ _ (field (.ref it) 1 >>= _) _ _ s
  refine wpAny_bind (wpAny_field ho hd (x:=.int i 0) rfl ?_)
  show wpAny _ _ (seqItems? (.ref t) >>= _) _ _ s
  refine wpAny_bind (wpAny_seqItems hol hdl ?_)
  simp only [Int.toNat_natCast,hx]
  refine wpAny_bind (wpAny_setField ho hd (by simp) (wpAny_pure ⟨x,rfl,wpAny_pure (hQ _ ?_ (Heap.SameBut.update ..))⟩))
  exact ⟨_,Heap.get?_update_self _ ho (Obj.isFreed_of_fields (Obj.data_mapFields hd _)),(Obj.cls_mapFields ..).trans hc,by
    rw [Obj.data_mapFields hd];simp [rawInt]⟩
theorem nextOf_tuple_end {it t:Addr} {i:Nat} {items:Array Value} {Q:Value→Shared→Prop} (hh:A.handled=none)
    (hit:s.heap.IsTupleIter it t i) (ht:s.heap.IsTuple t items) (hx:items[i]?=none)
    (hE:∀ h' e,Heap.ExtBut it s.heap h'→(∃ o,h'.get? e=some o∧o.cls=.type "StopIteration")→E (.ref e) { s with heap:=h' }) :
    wpAny (model prog w) A (Builtin.SmallTypes.nextOf (.ref it)) Q E s:=by
  obtain ⟨o,ho,hc,hd⟩:=id hit
  obtain ⟨ol,hol,_,nl,hdl⟩:=ht
  unfold Builtin.SmallTypes.nextOf
  refine wpAny_bind (wpAny_callSpecial?_slot (name:=Str.ofString "__next__") hit.typeIs F.slot_tuple_iterator_next
    (wpAny_call_entry F.slot_tuple_iterator_next hit.typeIs F.entry_tuple_iterator_next ?_ (F.args_tuple_iterator_next_1 _)))
  show wpAny _ _ (field (.ref it) 0 >>= _) _ _ s
  refine wpAny_bind (wpAny_field ho hd (x:=.ref t) rfl ?_)
  show wpAny _ _ (if (Value.ref t == Value.none)=true then _ else _) _ _ s
  rw [if_neg (show ¬ ((Value.ref t == Value.none)=true) from Bool.false_ne_true)]
  show wpAny _ _ (field (.ref it) 1 >>= _) _ _ s
  refine wpAny_bind (wpAny_field ho hd (x:=.int i 0) rfl ?_)
  show wpAny _ _ (seqItems? (.ref t) >>= _) _ _ s
  refine wpAny_bind (wpAny_seqItems hol hdl ?_)
  simp only [Int.toNat_natCast,hx]
  refine wpAny_bind (wpAny_rule (wpAny_bind (wpAny_setField ho hd (by simp) ?_)))
  show wpAny _ _ (newExc (.type "StopIteration") [] >>= _) _ _ _
  refine wpAny_bind ?_
  simp only [newExc,newTuple]
  refine wpAny_bind (wpAny_newObj_type ?_ (by size_fits))
  refine wpAny_bind (m:=firstArgMember _ _) (wpAny_of_eq (a:=Value.none) (by first | rfl | (simp only [firstArgMember];rfl)) ?_)
  refine wpAny_newObj_type ?_ (by size_fits)
  simp only [raiseNew]
  refine wpAny_bind (wpAny_handled ?_)
  first | rw [show A.in1.handled=none from hh] | rw [hh]
  refine wpAny_bind (wpAny_pure (wpAny_throw ?_))
  exact hE _ _ (((Heap.SameBut.update ..).extBut.push _).push _) ⟨_,Heap.get?_push_size _ rfl,rfl⟩
end
theorem draws_tuple {prog:Program} {w:World} {A:Around} (hh:A.handled=none) (it l:Addr) (hne:l≠it) (items:Array Value) :
    Draws prog w A it [it,l] items.size (fun i v=>items[i]?=some v) (fun i h=>h.IsTupleIter it l i∧h.IsTuple l items) where
  live:=fun _ _ st=>let ⟨o,ho,_⟩:=st.1;⟨o,ho⟩
  frame:=fun _ _ _ st hk=>⟨st.1.at fun o e=>hk it (by simp) o e,let ⟨o,ho,r⟩:=st.2;⟨o,hk l (by simp) o ho,r⟩⟩
  item:=fun i s Q E hi st hQ=>by
    refine nextOf_tuple_item st.1 st.2 (x:=items[i]) (by simp [hi]) fun h' hit' hs'=>?_
    exact hQ _ h' s.toks (by simp [hi]) ⟨hit',st.2.extBut hs'.extBut hne⟩ hs'
  done:=fun s Q E st hE=>nextOf_tuple_end hh st.1 st.2 (by simp) hE
theorem draws_str {prog:Program} {w:World} {A:Around} (hh:A.handled=none) (it:Addr) (x:Str) (t:Tok) :
    Draws prog w A it [it] x.cps.size (fun i v=>∃ c u,x.cps[i]?=some c∧v=.str ⟨#[c]⟩ u) (fun i h=>h.IsStrIter it (strIterType x) x t i):=by
  unfold strIterType
  cases x.cps.all (· < 128) with
  | true=>exact Draws.strAscii hh it x t
  | false=>exact Draws.strWide hh it x t
inductive SK where
  | lst (a:Addr) | tup (a:Addr) | str (x:Str)
def SK.val:SK→V
  | .lst a=>.ref a
  | .tup a=>.ref a
  | .str x=>.str x
def signs (x:Str):List V:=x.cps.toList.map fun c=>.str ⟨#[c]⟩
def SK.has (H:Hp):SK→List V→Prop
  | .lst a,xs=>Rd H a (.lst xs)
  | .tup a,xs=>Rd H a (.tup xs)
  | .str x,xs=>xs=signs x
def SK.own (it:Addr) (k:Nat) (h:Heap):SK→Prop
  | .lst a=>h.IsListIter it a k
  | .tup a=>h.IsTupleIter it a k
  | .str x=>∃ t,h.IsStrIter it (strIterType x) x t k
theorem SK.own_at {it:Addr} {k:Nat} {h h':Heap} {κ:SK} (x:κ.own it k h) (e:∀ o,h.get? it=some o→h'.get? it=some o):κ.own it k h':=by
  cases κ with
  | lst a=>exact Heap.IsListIter.at x e
  | tup a=>exact Heap.IsTupleIter.at x e
  | str y=>obtain ⟨t,o,ho,r⟩:=x;exact ⟨t,o,e o ho,r⟩
theorem SK.own_obj {it:Addr} {k:Nat} {h:Heap} {κ:SK} (x:κ.own it k h):∃ o,h.get? it=some o∧(∀ v,o.data≠.cell v)∧o.cls≠.type "tuple" ∧ o.cls≠.type "zip" ∧ o.cls≠.type "enumerate" := by
  cases κ with
  | lst a=>obtain ⟨o,ho,c,d⟩:=x;exact ⟨o,ho,(fun v z=>by rw [d] at z;cases z),(fun z=>by rw [c] at z;simp at z),(fun z=>by rw [c] at z;simp at z),(fun z=>by rw [c] at z;simp at z)⟩
  | tup a=>obtain ⟨o,ho,c,d⟩:=x;exact ⟨o,ho,(fun v z=>by rw [d] at z;cases z),(fun z=>by rw [c] at z;simp at z),(fun z=>by rw [c] at z;simp at z),(fun z=>by rw [c] at z;simp at z)⟩
  | str y=>
    obtain ⟨t,o,ho,c,d⟩:=x
    refine ⟨o,ho,(fun v z=>by rw [d] at z;cases z),?_,?_,?_⟩ <;>
    · intro z
      rw [c] at z
      unfold strIterType at z
      split at z <;> simp at z
theorem Rd.inj {H:Hp} {a:Addr} {u v:HO} (hu:∀ o w,u≠.frz o w) (hv:∀ o w,v≠.frz o w) (x:Rd H a u) (y:Rd H a v):u=v:=by
  rcases x with x | ⟨o,x⟩ <;> rcases y with y | ⟨p,y⟩ <;> rw [x] at y
  · exact Option.some.inj y
  · exact absurd (Option.some.inj y) (hu p v)
  · exact absurd (Option.some.inj y).symm (hv o u)
  · have:=Option.some.inj y
    injection this
theorem SK.inj {H:Hp} {κ:SK} {xs ys:List V} (x:κ.has H xs) (y:κ.has H ys):xs=ys:=by
  cases κ with
  | lst a=>have:=Rd.inj (u:=.lst xs) (v:=.lst ys) (fun _ _ z=>nomatch z) (fun _ _ z=>nomatch z) x y;injection this
  | tup a=>have:=Rd.inj (u:=.tup xs) (v:=.tup ys) (fun _ _ z=>nomatch z) (fun _ _ z=>nomatch z) x y;injection this
  | str z=>exact Eq.trans x (Eq.symm y)
def SK.box:SK→List Addr
  | .lst a=>[a]
  | .tup a=>[a]
  | .str _=>[]
theorem SK.box_some {H:Hp} {κ:SK} {xs:List V} (x:κ.has H xs) {b:Addr} (hb:b∈κ.box):H b≠none:=by
  cases κ with
  | lst a => have e:b=a:=by simpa [SK.box] using hb
             subst e;intro z;rcases x with q | ⟨o,q⟩ <;> (rw [z] at q;cases q)
  | tup a => have e:b=a:=by simpa [SK.box] using hb
             subst e;intro z;rcases x with q | ⟨o,q⟩ <;> (rw [z] at q;cases q)
  | str z=>simp [SK.box] at hb
section
variable {X:Cx} {pins:List (Addr × Obj)} {σ:St} {H:Hp} {s:Shared}
theorem sk_draws {κ:SK} {it:Addr} {k:Nat} {xs:List V} {A:Around} (I:Inv X pins σ H s) (hv:κ.has H xs) (hit:κ.own it k s.heap) (hn:H it=none) (hh:A.handled=none) :
    ∃ (P:Nat→Value→Prop) (St:Nat→Heap→Prop),Draws X.prog X.w A it (it :: κ.box) xs.length P St∧St k s.heap∧(∀ i u,P i u→∃ x,xs[i]?=some x∧RelV x u)∧(∀ i h,St i h→κ.own it i h):=by
  have ne:∀ b∈κ.box,b≠it:=fun b hb z=>SK.box_some hv hb (by rw [z];exact hn)
  cases κ with
  | lst a=>
    obtain ⟨_,its,n,r,e⟩:=Rd.ok hv I.hok
    have hl:s.heap.IsList a its.toArray:=⟨_,e,rfl,n,rfl⟩
    have D:=Draws.list (prog:=X.prog) (w:=X.w) hh it a (ne a (by simp [SK.box])) its.toArray
    rw [List.size_toArray,← r.length] at D
    refine ⟨_,_,D,⟨hit,hl⟩,fun i u hu=>?_,fun i h st=>st.1⟩
    · have hu':its[i]?=some u:=by simpa using hu
      have hlt:i < xs.length:=by rw [r.length];exact (List.getElem?_eq_some_iff.mp hu').1
      obtain ⟨u',e1,e2⟩:=r.get (List.getElem?_eq_getElem hlt)
      rw [hu'] at e1;cases e1
      exact ⟨_,List.getElem?_eq_getElem hlt,e2⟩
  | tup a=>
    obtain ⟨_,its,r,ht⟩:=Rd.ok hv I.hok
    have hl:s.heap.IsTuple a its.toArray:=ht
    have D:=draws_tuple (prog:=X.prog) (w:=X.w) hh it a (ne a (by simp [SK.box])) its.toArray
    rw [List.size_toArray,← r.length] at D
    refine ⟨_,_,D,⟨hit,hl⟩,fun i u hu=>?_,fun i h st=>st.1⟩
    · have hu':its[i]?=some u:=by simpa using hu
      have hlt:i < xs.length:=by rw [r.length];exact (List.getElem?_eq_some_iff.mp hu').1
      obtain ⟨u',e1,e2⟩:=r.get (List.getElem?_eq_getElem hlt)
      rw [hu'] at e1;cases e1
      exact ⟨_,List.getElem?_eq_getElem hlt,e2⟩
  | str z=>
    obtain ⟨t,hit⟩:=hit
    have hv':xs=signs z:=hv
    subst hv'
    have D:=draws_str (prog:=X.prog) (w:=X.w) hh it z t
    have e:(signs z).length=z.cps.size:=by simp [signs]
    rw [← e] at D
    refine ⟨_,_,D,hit,fun i u hu=>?_,fun i h st=>⟨t,st⟩⟩
    · obtain ⟨c,u',hc,rfl⟩:=hu
      refine ⟨.str ⟨#[c]⟩,?_,⟨u',rfl⟩⟩
      simp only [signs,List.getElem?_map,Array.getElem?_toList,hc,Option.map_some]
theorem Inv.turnedNew {ch:List Addr} {p:Addr} {o:HO} {h':Heap} {tk:Nat} (I:Inv X pins σ H s)
    (hch:∀ b∈ch,FpOk X pins H b) (k:∀ b ob,b ∉ ch→s.heap.get? b=some ob→h'.get? b=some ob) (hp:s.heap.objs.size≤p) (new:ObjOk X.prog X.w (upd H p o) h' p o) :
    Inv X pins σ (upd H p o) { s with heap:=h',toks:=tk }:=by
  have hn:H p=none:=I.hok.fresh hp
  refine I.call (g':=s.gens) (d':=s.drawn) (ch:=ch) ⟨fun b u q _ _ hx=>k b u hx q,fun b u q _ _ hx=>⟨u.slots,k b u hx q⟩,fun b u q n _=>?_,fun b u q hx=>⟨u,k b u hx q⟩,fun b xs q=>?_,fun b u xs q=>?_,fun b ps q=>⟨#[],?_⟩⟩ (fun b u e=>?_) I.bare
    fun b hb=>⟨(hch b hb).2.2.2.1,(hch b hb).2.1,(hch b hb).2.2.2.2.1,(hch b hb).2.2.2.2.2⟩
  · rw [upd_ne (Nat.ne_of_lt (Nat.lt_of_lt_of_le (Heap.lt_size q) hp))];exact n
  · rw [upd_ne (ne_of_none q hn)];exact q
  · rw [upd_ne (ne_of_none q hn)];exact q
  · rw [upd_ne (ne_of_none q hn),q];simp
  · by_cases hb:b=p
    · subst hb;rw [upd_same] at e;cases e;exact new
    · rw [upd_ne hb] at e
      refine (I.hok b u e).stay (fun c v hc q=>k c v (fun hm=>?_) q) (fun c q=>by rw [upd_ne (ne_of_none q hn)];exact q) fun c xs q=>by rw [upd_ne (ne_of_none q hn)];exact q
      have z:=(hch c hm).1
      rcases hc with hc | hc
      · rw [hc,e] at z;cases z
      · rw [hc] at z;cases z
theorem Inv.turnedMany {ch:List Addr} {h':Heap} {tk:Nat} (I:Inv X pins σ H s)
    (hch:∀ b∈ch,FpOk X pins H b) (k:∀ b ob,b ∉ ch→s.heap.get? b=some ob→h'.get? b=some ob):Inv X pins σ H { s with heap:=h',toks:=tk }:=by
  refine I.call (g':=s.gens) (d':=s.drawn) (ch:=ch) ⟨fun b u q _ _ hx=>k b u hx q,fun b u q _ _ hx=>⟨u.slots,k b u hx q⟩,fun b u q n _=>n,fun b u q hx=>⟨u,k b u hx q⟩,fun b xs q=>q,fun b u xs q=>q,fun b ps q=>⟨#[],by rw [q];simp⟩⟩ (fun b u e=>?_) I.bare
    fun b hb=>⟨(hch b hb).2.2.2.1,(hch b hb).2.1,(hch b hb).2.2.2.2.1,(hch b hb).2.2.2.2.2⟩
  refine (I.hok b u e).stay (fun c v hc q=>k c v (fun hm=>?_) q) (fun _ q=>q) fun _ _ q=>q
  have z:=(hch c hm).1
  rcases hc with hc | hc
  · rw [hc,e] at z;cases z
  · rw [hc] at z;cases z
end
def Ite (κ:SK):It:=
  ⟨fun i H=>∃ xs x,κ.has H xs∧xs[i]?=some x,fun i H v H'=>∃ p x,v=.ref p∧H p=none∧H'=upd H p (.tup [.int i,x])∧∀ xs,κ.has H xs→xs[i]?=some x,fun i H=>∃ xs,κ.has H xs∧xs.length=i⟩
theorem turn_enum {P:Program} {w:World} {K:PySem.W.Frag} {elts:List Expr} {x1:Nat} {tpos:Pos} (κ:SK) (e it:Addr) (hei:e≠it) :
    Turn P w K (.Tuple elts x1 tpos) (Ite κ) [e,it] e (fun i h=>(∃ old,IsEnum h e it i old)∧κ.own it i h) where
  mem:=by simp
  obj:=fun i h st b hb=>by
    obtain ⟨⟨old,he⟩,ho⟩:=st
    simp only [List.mem_cons,List.not_mem_nil,or_false] at hb
    rcases hb with rfl | rfl
    · exact ⟨_,he,fun v z=>by
        have z':Data.fields _=Data.cell v:=z
        cases z'⟩
    · obtain ⟨o,h1,h2,_⟩:=SK.own_obj ho
      exact ⟨o,h1,h2⟩
  keep:=fun i h h' st k=>by
    obtain ⟨⟨old,he⟩,ho⟩:=st
    exact ⟨⟨old,k e (by simp) _ he⟩,SK.own_at ho fun o q=>k it (by simp) o q⟩
  item:=by
    intro X hP hw hK hc i pins s σ H E I hf st hg
    subst hP hw hK
    obtain ⟨⟨old,he⟩,ho⟩:=st
    obtain ⟨xs,x,hx,hxi⟩:=hg
    have hlt:i < xs.length:=(List.getElem?_eq_some_iff.mp hxi).1
    have hh:X.A.in1.handled=none:=I.ok.hd hc
    obtain ⟨Pp,St,D,hst,hrel,hown⟩:=sk_draws (A:=X.A.in1) I hx ho (hf it (by simp)).1 hh
    have hef:e ∉ it :: κ.box:=fun z=>by
      rcases List.mem_cons.mp z with z | z
      · exact hei z
      · exact SK.box_some hx z (hf e (by simp)).1
    refine wpAny_pyNext_enum_itemD D he hst hlt hei hef fun y h' tk hy ho' hst' hT hsz hk=>⟨_,rfl,?_⟩
    refine wpAny_letOwnedTupleGo_enum ho' fun h'' he'' hs''=>?_
    obtain ⟨x',hx',rx⟩:=hrel i y hy
    have exx:x'=x:=Option.some.inj (hx'.symm.trans hxi)
    subst exx
    have kk:∀ b ob,b ∉ [e,it]→s.heap.get? b=some ob→h''.get? b=some ob:=fun b ob hb q=>
      (hs''.2 b (fun z=>hb (by simp [z]))).trans (hk b ob (fun z=>hb (by simp [z])) (fun z=>hb (by simp [z])) q)
    have ne:s.heap.objs.size≠e:=Nat.ne_of_gt (Heap.lt_size he)
    have hT':h''.get? s.heap.objs.size=some { cls:=.type "tuple", data:=.seq #[.int i tk,y] }:=(hs''.2 _ ne).trans hT
    refine ⟨.ref s.heap.objs.size,upd H s.heap.objs.size (.tup [.int i,x']),I.turnedNew (tk:=tk+1) hf kk (Nat.le_refl _) ⟨⟨(by show 2≤sizeLine;decide),_,hT',rfl⟩,[.int i tk,y],.cons ⟨tk,rfl⟩ (.cons rx .nil),_,hT',rfl,0,rfl⟩,rfl,
      ⟨_,x',rfl,I.hok.fresh (Nat.le_refl _),rfl,fun ys hy'=>by rw [SK.inj hy' hx];exact hxi⟩,⟨⟨y,by simpa using he''⟩,SK.own_at (hown _ _ hst') fun o q=>(hs''.2 it (Ne.symm hei)).trans q⟩,fun b hb=>?_⟩
    obtain ⟨o,hob,_⟩:∃ o,s.heap.get? b=some o∧True:=by
      simp only [List.mem_cons,List.not_mem_nil,or_false] at hb
      rcases hb with rfl | rfl
      · exact ⟨_,he,trivial⟩
      · obtain ⟨o,h1,_⟩:=SK.own_obj ho;exact ⟨o,h1,trivial⟩
    rw [upd_ne (Nat.ne_of_lt (Heap.lt_size hob))]
    exact (hf b hb).1
  done:=by
    intro X hP hw hK hc i pins s σ H E I hf st hg
    subst hP hw hK
    obtain ⟨⟨old,he⟩,ho⟩:=st
    obtain ⟨xs,hx,hlen⟩:=hg
    have hh:X.A.in1.handled=none:=I.ok.hd hc
    obtain ⟨Pp,St,D,hst,hrel,hown⟩:=sk_draws (A:=X.A.in1) I hx ho (hf it (by simp)).1 hh
    have hst':St xs.length s.heap:=by rw [hlen];exact hst
    refine wpAny_pyNext_enum_endD D he hst' fun h' hx'=>⟨rfl,?_⟩
    have f:=hf it (by simp)
    exact I.turned (t':=s.toks) (fun b o hb q=>hx' b o hb q) f.1 f.2.1 f.2.2.2.1 f.2.2.2.2.1 f.2.2.2.2.2
  self:=fun _ _ _ _ _ st h=>let ⟨⟨_,he⟩,_⟩:=st;wpAny_pyIter_enum he h
open AutoSeq1 (wpAny_loadPart') in
set_option maxHeartbeats 4000000 in
theorem meets_enumerate_newT (l:Addr) (items:Array Value) (n:Nat) (dct:Option Addr) (sl:Array (Option Value)) :
    Meets (Builtin.«enumerate.__new__» ⟨[.type "enumerate", .ref l],[]⟩) (fun _ R s=>s.heap.get? l=some { cls:=.type "tuple", dict:=dct,data:=.seq items n,slots:=sl } ∧
      R (.ok (.ret (.ref (s.heap.push { cls:=.type "tuple_iterator", data:=.fields #[.ref l,.int 0 0] }).objs.size)))
        { s with heap:=(s.heap.push { cls:=.type "tuple_iterator", data:=.fields #[.ref l,.int 0 0] }).push { cls:=.type "enumerate", data:=.fields #[.none,.bool false,.ref s.heap.objs.size,rawInt 0,.none,.none] } }):=
  .of_wp fun prog w A R s h=>by
    obtain ⟨hp,g,d,tk,os⟩:=s;obtain ⟨hl,h⟩:=h
    have hsub:=sub_enumerate
    have hL:Heap.IsTuple (Shared.heap ⟨hp,g,d,tk,os⟩) l items:=⟨_,hl,rfl,n,rfl⟩
    wp_walk using wpAny_loadPart' hl
    refine wpAny_stack_any fun st=>wpAny_pure ?_
    split
    · rename_i c _ _ _ _ _
      cases (c == Value.type "enumerate")
      · wp_walk using wpAny_loadPart' hl,wpAny_pyIter_tuple hL
        exact ⟨_,rfl,h⟩
      · wp_walk using wpAny_loadPart' hl,wpAny_pyIter_tuple hL
        exact ⟨_,rfl,h⟩
    · wp_walk using wpAny_loadPart' hl,wpAny_pyIter_tuple hL
      exact ⟨_,rfl,h⟩
theorem call_enumerate_tuple {prog:Program} {w:World} {A:Around} {E:Value→Shared→Prop} {s:Shared} {l:Addr} {items:Array Value} {Q:Value→Shared→Prop} (hL:s.heap.IsTuple l items)
    (h:∀ h',IsEnum h' (s.heap.objs.size+1) s.heap.objs.size 0 .none→h'.IsTupleIter s.heap.objs.size l 0→h'.objs.size=s.heap.objs.size+2 →
      (∀ b o,s.heap.get? b=some o→h'.get? b=some o)→Q (.ref (s.heap.objs.size+1)) { s with heap:=h' }) :
    wpAny (model prog w) A (call (.type "enumerate") [.ref l]) Q E s:=by
  obtain ⟨⟨c,dct,dt,sl⟩,hl,hc,n,hd⟩:=hL
  replace hc:c=.type "tuple" := hc
  replace hd:dt=.seq items n:=hd
  subst hc hd
  refine callType_new F.called_enumerate (by decide) (F.typeCall_enumerate_1 _) (F.newCall_enumerate_1 _) (fun obj=>F.args_object_init_2 obj _) F.entry_enumerate_new
    (meets_enumerate_newT l items n dct sl) ⟨hl,?_⟩
  have hz:(s.heap.push { cls:=.type "tuple_iterator", data:=.fields #[.ref l,.int 0 0] }).objs.size=s.heap.objs.size+1:=Heap.size_push ..
  show _∧_
  rw [hz]
  have he:IsEnum ((s.heap.push { cls:=.type "tuple_iterator", data:=.fields #[.ref l,.int 0 0] }).push
      { cls:=.type "enumerate", data:=.fields #[.none,.bool false,.ref s.heap.objs.size,rawInt 0,.none,.none] }) (s.heap.objs.size+1) s.heap.objs.size 0 .none:=by
    have:=Heap.get?_push_size (s.heap.push { cls:=.type "tuple_iterator", data:=.fields #[.ref l,.int 0 0] })
      (o:={ cls:=.type "enumerate", data:=.fields #[.none,.bool false,.ref s.heap.objs.size,rawInt 0,.none,.none] }) rfl
    rw [hz] at this;exact this
  refine ⟨⟨_,he,rfl⟩,h _ he ⟨_,Heap.get?_push_of_some _ (Heap.get?_push_size _ rfl),rfl,rfl⟩ (by rw [Heap.size_push,hz]) fun b o x=>Heap.get?_push_of_some _ (Heap.get?_push_of_some _ x)⟩
section
variable {X:Cx} {pins:List (Addr × Obj)} {σ:St} {H:Hp} {s:Shared}
theorem call_enum {κ:SK} {xs:List V} {u:Value} {E:Value→Shared→Prop} {Q:Value→Shared→Prop} (I:Inv X pins σ H s) (hv:κ.has H xs) (r:RelV κ.val u)
    (h:∀ h',IsEnum h' (s.heap.objs.size+1) s.heap.objs.size 0 .none→κ.own s.heap.objs.size 0 h'→(∀ b o,s.heap.get? b=some o→h'.get? b=some o)→Q (.ref (s.heap.objs.size+1)) { s with heap:=h' }) :
    wpAny (model X.prog X.w) X.A (call (.type "enumerate") [u]) Q E s:=by
  cases κ with
  | lst a=>
    cases (show u=Value.ref a from r)
    obtain ⟨_,its,n,rr,e⟩:=Rd.ok hv I.hok
    exact call_enumerate_list ⟨_,e,rfl,n,rfl⟩ fun h' a1 a2 _ a4=>h h' a1 a2 a4
  | tup a=>
    cases (show u=Value.ref a from r)
    obtain ⟨_,its,rr,e⟩:=Rd.ok hv I.hok
    exact call_enumerate_tuple e fun h' a1 a2 _ a4=>h h' a1 a2 a4
  | str x=>
    obtain ⟨t,q⟩:=(show ∃ t,u=Value.str x t from r)
    subst q
    exact call_enumerate_str fun h' a1 a2 _ a4=>h h' a1 ⟨t,a2⟩ a4
def iEnum (ta:TA):TI:=fun σ H R=>ta σ H fun vs H1=>∃ κ:SK,vs=[κ.val]∧(∃ xs,κ.has H1 xs)∧R (Ite κ) H1
theorem pi_enum {a:Expr} {ta:TA} {p pos:Pos} {elts:List Expr} {x1:Nat} {tpos:Pos} (hg:Gl X "enumerate") (hm:X.mg "enumerate" = none) (ha:PA X [a] ta)
    (hs:starEach [a] X.env=[(false,eval a X.env)]:=by rfl):PI X (.Tuple elts x1 tpos) (.Call (.Name "enumerate" p) [a] [] pos) (iEnum ta):=by
  intro pins s σ H R I h
  refine Call_ (ld_blt I hg hm boot_enumerate (PyProof.Rows.callWith_type1 (thn (ha pos pins s σ H _ I h) fun us s1 ⟨vs,H1,I1,r1,q1⟩=>?_) hs rfl))
  obtain ⟨κ,e,⟨xs,hx⟩,q⟩:=q1
  subst e
  obtain ⟨u,rfl,ru⟩:=vals1 r1
  refine call_enum I1 hx ru fun h' he hi hk=>?_
  refine wpAny_pyIter_enum he ⟨s1.heap.objs.size+1,[s1.heap.objs.size+1,s1.heap.objs.size],_,_,H1,rfl,I1.kept (t':=s1.toks) hk,turn_enum κ _ _ (Nat.ne_of_gt (Nat.lt_succ_self _)),⟨⟨_,he⟩,hi⟩,fun b hb=>?_,q⟩
  have hge:s1.heap.objs.size≤b:=by
    simp only [List.mem_cons,List.not_mem_nil,or_false] at hb
    rcases hb with rfl | rfl
    · exact Nat.le_succ _
    · exact Nat.le_refl _
  exact I1.fpOk hge (I1.hok.fresh hge)
end
structure ZA (z TI TO i1 i2:Addr) (fp1 fp2:List Addr):Prop where
  TIz:TI≠z
  TOz:TO≠z
  i1z:i1≠z
  i2z:i2≠z
  TITO:TI≠TO
  TIi1:TI≠i1
  TIi2:TI≠i2
  TOi1:TO≠i1
  TOi2:TO≠i2
  i12:i1≠i2
  z1:z ∉ fp1
  z2:z ∉ fp2
  o1:TO ∉ fp1
  o2:TO ∉ fp2
  a1:i2 ∉ fp1
  a2:i1 ∉ fp2
section
variable {prog:Program} {w:World} {A:Around} {E:Value→Shared→Prop} {s:Shared}
theorem zip_next_itemD {z TI TO i1 i2:Addr} {fp1 fp2:List Addr} {n1 n2 k:Nat} {P1 P2:Nat→Value→Prop} {S1 S2:Nat→Heap→Prop} {a b:Value} {Q:Value→Shared→Prop} (Z:ZA z TI TO i1 i2 fp1 fp2)
    (D1:Draws prog w A i1 fp1 n1 P1 S1) (D2:Draws prog w A i2 fp2 n2 P2 S2)
    (hz:IsZip s.heap z TI TO .none) (hTI:IsPair s.heap TI (.ref i1) (.ref i2)) (hTO:IsPair s.heap TO a b) (h1:S1 k s.heap) (h2:S2 k s.heap) (l1:k < n1) (l2:k < n2)
    (hQ:∀ x y h' tk,P1 k x→P2 k y→IsZip h' z TI TO (rawInt s.heap.objs.size)→IsPair h' TO x y→S1 (k+1) h'→S2 (k+1) h'→IsPair h' s.heap.objs.size x y→h'.objs.size=s.heap.objs.size+1 →
      (∀ c o,c≠z→c≠TO→c≠i1→c≠i2→s.heap.get? c=some o→h'.get? c=some o)→Q (.ref s.heap.objs.size) { s with heap:=h',toks:=tk }) :
    wpAny (model prog w) A (Builtin.«zip.__next__» ⟨[.ref z],[]⟩) (fun fin s'=>∃ v,fin=.done (.ret v)∧Q v s') E s:=by
  obtain ⟨hp,g,d,tk₀,os⟩:=s
  show wpAny _ _ (field (.ref z) 2 >>= _) _ _ _
  refine wpAny_bind (wpAny_field hz rfl (x:=.bool false) rfl ?_)
  show wpAny _ _ (field (.ref z) 3 >>= _) _ _ _
  refine wpAny_bind (wpAny_field hz rfl (x:=.ref TI) rfl ?_)
  refine wpAny_bind (wpAny_seqItems hTI rfl ?_)
  show wpAny _ _ (Builtin.SmallTypes.ownedTupleIsFree (.ref z) >>= _) _ _ _
  refine wpAny_bind ?_
  unfold Builtin.SmallTypes.ownedTupleIsFree
  refine wpAny_bind (wpAny_field hz rfl (x:=.none) rfl (wpAny_pure ?_))
  simp only [if_true]
  refine wpAny_bind (wpAny_rule ?_)
  refine wpAny_bind (wpAny_field hz rfl (x:=.ref TO) rfl ?_)
  refine wpAny_bind (wpAny_setField_rec hz (by simp) fun h₁ hz₁ hs₁=>?_)
  replace hz₁:IsZip h₁ z TI TO .ellipsis:=hz₁
  replace hs₁:Heap.SameBut z hp h₁:=hs₁
  refine wpAny_bind ?_
  simp only [List.zipIdx_cons,List.zipIdx_nil,List.forIn_cons,List.forIn_nil]
  refine wpAny_bind (wpAny_bind (wpAny_onRaise ?_))
  show wpAny _ _ (Builtin.SmallTypes.nextOf (.ref i1) >>= _) _ _ _
  have h1₁:S1 k h₁:=D1.frame _ _ _ h1 fun c hc o e=>hs₁.extBut _ _ (fun q=>Z.z1 (q ▸ hc)) e
  refine wpAny_bind (D1.item k _ _ _ l1 h1₁ fun x h₂ tk₂ hx h1₂ hs₂=>wpAny_pure ?_)
  replace hs₂:Heap.SameBut i1 h₁ h₂:=hs₂
  have hTO₂:IsPair h₂ TO a b:=hs₂.extBut _ _ Z.TOi1 (hs₁.extBut _ _ Z.TOz hTO)
  refine wpAny_bind (wpAny_seqItems (s:=⟨h₂,g,d,tk₂,os⟩) hTO₂ rfl ?_)
  refine wpAny_bind (wpAny_updateSeq_pair (s:=⟨h₂,g,d,tk₂,os⟩) hTO₂ fun h₃ hTO₃ hs₃=>?_)
  replace hTO₃:IsPair h₃ TO x b:=hTO₃
  replace hs₃:Heap.SameBut TO h₂ h₃:=hs₃
  refine wpAny_bind (wpAny_letGo (wpAny_pure ?_))
  refine wpAny_bind (wpAny_bind (wpAny_onRaise ?_))
  show wpAny _ _ (Builtin.SmallTypes.nextOf (.ref i2) >>= _) _ _ _
  have h2₃:S2 k h₃:=D2.frame _ _ _ h2 fun c hc o e=>hs₃.extBut _ _ (fun q=>Z.o2 (q ▸ hc)) (hs₂.extBut _ _ (fun q=>Z.a2 (q ▸ hc)) (hs₁.extBut _ _ (fun q=>Z.z2 (q ▸ hc)) e))
  refine wpAny_bind (D2.item k _ _ _ l2 h2₃ fun y h₄ tk₄ hy h2₄ hs₄=>wpAny_pure ?_)
  replace hs₄:Heap.SameBut i2 h₃ h₄:=hs₄
  have hTO₄:IsPair h₄ TO x b:=hs₄.extBut _ _ Z.TOi2 hTO₃
  refine wpAny_bind (wpAny_seqItems (s:=⟨h₄,g,d,tk₄,os⟩) hTO₄ rfl ?_)
  refine wpAny_bind (wpAny_updateSeq_pair (s:=⟨h₄,g,d,tk₄,os⟩) hTO₄ fun h₅ hTO₅ hs₅=>?_)
  replace hTO₅:IsPair h₅ TO x y:=hTO₅
  replace hs₅:Heap.SameBut TO h₄ h₅:=hs₅
  refine wpAny_bind (wpAny_letGo (wpAny_pure (wpAny_pure ?_)))
  refine wpAny_bind (wpAny_seqItems (s:=⟨h₅,g,d,tk₄,os⟩) hTO₅ rfl ?_)
  refine wpAny_bind (wpAny_newTuple ?_)
  have hsz:h₅.objs.size=hp.objs.size:=by rw [hs₅.1,hs₄.1,hs₃.1,hs₂.1,hs₁.1]
  have hz₅:IsZip h₅ z TI TO .ellipsis:=hs₅.extBut _ _ Z.TOz.symm (hs₄.extBut _ _ Z.i2z.symm (hs₃.extBut _ _ Z.TOz.symm (hs₂.extBut _ _ Z.i1z.symm hz₁)))
  have hk₅:∀ c o,c≠z→c≠TO→c≠i1→c≠i2→hp.get? c=some o→h₅.get? c=some o:=fun c o c1 c2 c3 c4 e=>
    hs₅.extBut _ _ c2 (hs₄.extBut _ _ c4 (hs₃.extBut _ _ c2 (hs₂.extBut _ _ c3 (hs₁.extBut _ _ c1 e))))
  have h1₅:S1 (k+1) h₅:=D1.frame _ _ _ h1₂ fun c hc o e=>hs₅.extBut _ _ (fun q=>Z.o1 (q ▸ hc)) (hs₄.extBut _ _ (fun q=>Z.a1 (q ▸ hc)) (hs₃.extBut _ _ (fun q=>Z.o1 (q ▸ hc)) e))
  have h2₅:S2 (k+1) h₅:=D2.frame _ _ _ h2₄ fun c hc o e=>hs₅.extBut _ _ (fun q=>Z.o2 (q ▸ hc)) e
  have hzlt:z < h₅.objs.size:=Heap.lt_size hz₅
  show wpAny _ _ (Builtin.SmallTypes.ownedTupleHandOut (.ref z) (.ref h₅.objs.size) >>= _) _ _ _
  refine wpAny_bind ?_
  unfold Builtin.SmallTypes.ownedTupleHandOut
  have hz₆:IsZip (h₅.push { cls:=.type "tuple", data:=.seq #[x,y] }) z TI TO .ellipsis:=Heap.get?_push_of_some _ hz₅
  refine wpAny_bind (wpAny_setField_rec hz₆ (by simp) fun h₇ hz₇ hs₇=>?_)
  replace hz₇:IsZip h₇ z TI TO (rawInt h₅.objs.size):=hz₇
  replace hs₇:Heap.SameBut z (h₅.push { cls:=.type "tuple", data:=.seq #[x,y] }) h₇:=hs₇
  refine wpAny_setField_rec hz₇ (by simp) fun h₈ hz₈ hs₈=>?_
  replace hz₈:IsZip h₈ z TI TO (rawInt h₅.objs.size):=hz₈
  replace hs₈:Heap.SameBut z h₇ h₈:=hs₈
  have up:∀ c o,c≠z→h₅.get? c=some o→h₈.get? c=some o:=fun c o c1 e=>hs₈.extBut _ _ c1 (hs₇.extBut _ _ c1 (Heap.get?_push_of_some _ e))
  have hT₈:IsPair h₈ h₅.objs.size x y:=hs₈.extBut _ _ (Nat.ne_of_gt hzlt) (hs₇.extBut _ _ (Nat.ne_of_gt hzlt) (Heap.get?_push_size _ rfl))
  have hz8:h₈.objs.size=h₅.objs.size+1:=by rw [hs₈.1,hs₇.1,Heap.size_push]
  rw [hsz] at hz₈ hT₈ hz8
  refine wpAny_pure ⟨_,rfl,?_⟩
  show Q (.ref h₅.objs.size) _
  rw [hsz]
  exact hQ x y h₈ tk₄ hx hy hz₈ (up _ _ Z.TOz hTO₅) (D1.frame _ _ _ h1₅ fun c hc o e=>up c o (fun q=>Z.z1 (q ▸ hc)) e) (D2.frame _ _ _ h2₅ fun c hc o e=>up c o (fun q=>Z.z2 (q ▸ hc)) e) hT₈ hz8 fun c o c1 c2 c3 c4 e=>up c o c1 (hk₅ c o c1 c2 c3 c4 e)
theorem zip_next_endD {z TI TO i1 i2:Addr} {fp1 fp2:List Addr} {n1 n2 k:Nat} {P1 P2:Nat→Value→Prop} {S1 S2:Nat→Heap→Prop} {a b:Value} {Q:Fin→Shared→Prop} (Z:ZA z TI TO i1 i2 fp1 fp2)
    (D1:Draws prog w A i1 fp1 n1 P1 S1) (D2:Draws prog w A i2 fp2 n2 P2 S2)
    (hz:IsZip s.heap z TI TO .none) (hTI:IsPair s.heap TI (.ref i1) (.ref i2)) (hTO:IsPair s.heap TO a b) (h1:S1 k s.heap) (h2:S2 k s.heap) (hend:n1=k∨(k < n1∧n2=k))
    (hE:∀ h' e tk,(∀ c o,c≠z→c≠TO→c≠i1→c≠i2→s.heap.get? c=some o→h'.get? c=some o)→(∃ o,h'.get? e=some o∧o.cls=.type "StopIteration")→E (.ref e) { s with heap:=h',toks:=tk }) :
    wpAny (model prog w) A (Builtin.«zip.__next__» ⟨[.ref z],[]⟩) Q E s:=by
  obtain ⟨hp,g,d,tk₀,os⟩:=s
  show wpAny _ _ (field (.ref z) 2 >>= _) _ _ _
  refine wpAny_bind (wpAny_field hz rfl (x:=.bool false) rfl ?_)
  show wpAny _ _ (field (.ref z) 3 >>= _) _ _ _
  refine wpAny_bind (wpAny_field hz rfl (x:=.ref TI) rfl ?_)
  refine wpAny_bind (wpAny_seqItems hTI rfl ?_)
  show wpAny _ _ (Builtin.SmallTypes.ownedTupleIsFree (.ref z) >>= _) _ _ _
  refine wpAny_bind ?_
  unfold Builtin.SmallTypes.ownedTupleIsFree
  refine wpAny_bind (wpAny_field hz rfl (x:=.none) rfl (wpAny_pure ?_))
  simp only [if_true]
  refine wpAny_bind (wpAny_rule ?_)
  refine wpAny_bind (wpAny_field hz rfl (x:=.ref TO) rfl ?_)
  refine wpAny_bind (wpAny_setField_rec hz (by simp) fun h₁ hz₁ hs₁=>?_)
  replace hz₁:IsZip h₁ z TI TO .ellipsis:=hz₁
  replace hs₁:Heap.SameBut z hp h₁:=hs₁
  refine wpAny_bind ?_
  simp only [List.zipIdx_cons,List.zipIdx_nil,List.forIn_cons,List.forIn_nil]
  refine wpAny_bind (wpAny_bind (wpAny_onRaise ?_))
  show wpAny _ _ (Builtin.SmallTypes.nextOf (.ref i1) >>= _) _ _ _
  have h1₁:S1 k h₁:=D1.frame _ _ _ h1 fun c hc o e=>hs₁.extBut _ _ (fun q=>Z.z1 (q ▸ hc)) e
  rcases hend with hn | ⟨l1,hn⟩
  · subst hn
    refine wpAny_bind (D1.done _ _ _ h1₁ fun h₂ e hs₂ he=>?_)
    obtain ⟨oe,hoe,hce⟩:=he
    replace hs₂:Heap.ExtBut i1 h₁ h₂:=hs₂
    have hz₂:IsZip h₂ z TI TO .ellipsis:=hs₂ _ _ Z.i1z.symm hz₁
    have hez:e≠z:=fun x=>by subst x;rw [hz₂] at hoe;cases hoe;simp at hce
    exact wpAny_setField_rec hz₂ (by simp) fun h₃ _ hs₃=>hE h₃ e _ (fun c o c1 _ c3 _ x=>hs₃.extBut _ _ c1 (hs₂ _ _ c3 (hs₁.extBut _ _ c1 x))) ⟨oe,hs₃.extBut _ _ hez hoe,hce⟩
  · subst hn
    refine wpAny_bind (D1.item _ _ _ _ l1 h1₁ fun x h₂ tk₂ hx h1₂ hs₂=>wpAny_pure ?_)
    replace hs₂:Heap.SameBut i1 h₁ h₂:=hs₂
    have hTO₂:IsPair h₂ TO a b:=hs₂.extBut _ _ Z.TOi1 (hs₁.extBut _ _ Z.TOz hTO)
    refine wpAny_bind (wpAny_seqItems (s:=⟨h₂,g,d,tk₂,os⟩) hTO₂ rfl ?_)
    refine wpAny_bind (wpAny_updateSeq_pair (s:=⟨h₂,g,d,tk₂,os⟩) hTO₂ fun h₃ hTO₃ hs₃=>?_)
    replace hs₃:Heap.SameBut TO h₂ h₃:=hs₃
    refine wpAny_bind (wpAny_letGo (wpAny_pure ?_))
    refine wpAny_bind (wpAny_bind (wpAny_onRaise ?_))
    show wpAny _ _ (Builtin.SmallTypes.nextOf (.ref i2) >>= _) _ _ _
    have h2₃:=D2.frame _ _ h₃ h2 fun c hc o e=>hs₃.extBut _ _ (fun q=>Z.o2 (q ▸ hc)) (hs₂.extBut _ _ (fun q=>Z.a2 (q ▸ hc)) (hs₁.extBut _ _ (fun q=>Z.z2 (q ▸ hc)) e))
    refine wpAny_bind (D2.done _ _ _ h2₃ fun h₄ e hs₄ he=>?_)
    obtain ⟨oe,hoe,hce⟩:=he
    replace hs₄:Heap.ExtBut i2 h₃ h₄:=hs₄
    have hz₄:IsZip h₄ z TI TO .ellipsis:=hs₄ _ _ Z.i2z.symm (hs₃.extBut _ _ Z.TOz.symm (hs₂.extBut _ _ Z.i1z.symm hz₁))
    have hez:e≠z:=fun x=>by subst x;rw [hz₄] at hoe;cases hoe;simp at hce
    exact wpAny_setField_rec hz₄ (by simp) fun h₅ _ hs₅=>hE h₅ e _ (fun c o c1 c2 c3 c4 x=>hs₅.extBut _ _ c1 (hs₄ _ _ c4 (hs₃.extBut _ _ c2 (hs₂.extBut _ _ c3 (hs₁.extBut _ _ c1 x))))) ⟨oe,hs₅.extBut _ _ hez hoe,hce⟩
end
def Itz (κ1 κ2:SK):It:=
  ⟨fun i H=>∃ xs ys x y,κ1.has H xs∧κ2.has H ys∧xs[i]?=some x∧ys[i]?=some y,
   fun i H v H'=>∃ p x y,v=.ref p∧H p=none∧H'=upd H p (.tup [x,y])∧(∀ xs,κ1.has H xs→xs[i]?=some x)∧∀ ys,κ2.has H ys→ys[i]?=some y,
   fun i H=>∃ xs ys,κ1.has H xs∧κ2.has H ys∧(xs.length=i∨(i < xs.length∧ys.length=i))⟩
theorem turn_zip {P:Program} {w:World} {K:PySem.W.Frag} {elts:List Expr} {x1:Nat} {tpos:Pos} (κ1 κ2:SK) (z TI TO i1 i2:Addr) (hnd:[z,TI,TO,i1,i2].Nodup) :
    Turn P w K (.Tuple elts x1 tpos) (Itz κ1 κ2) [z,TI,TO,i1,i2] z (fun i h=>IsZip h z TI TO .none∧IsPair h TI (.ref i1) (.ref i2)∧(∃ a b,IsPair h TO a b)∧κ1.own i1 i h∧κ2.own i2 i h) where
  mem:=by simp
  obj:=fun i h st b hb=>by
    obtain ⟨hz,hTI,⟨a,c,hTO⟩,h1,h2⟩:=st
    simp only [List.mem_cons,List.not_mem_nil,or_false] at hb
    rcases hb with rfl | rfl | rfl | rfl | rfl
    · exact ⟨_,hz,fun v y=>by have y':Data.fields _=Data.cell v:=y;cases y'⟩
    · exact ⟨_,hTI,fun v y=>by have y':Data.seq _ _=Data.cell v:=y;cases y'⟩
    · exact ⟨_,hTO,fun v y=>by have y':Data.seq _ _=Data.cell v:=y;cases y'⟩
    · obtain ⟨o,e1,e2,_⟩:=SK.own_obj h1;exact ⟨o,e1,e2⟩
    · obtain ⟨o,e1,e2,_⟩:=SK.own_obj h2;exact ⟨o,e1,e2⟩
  keep:=fun i h h' st k=>by
    obtain ⟨hz,hTI,⟨a,c,hTO⟩,h1,h2⟩:=st
    exact ⟨k z (by simp) _ hz,k TI (by simp) _ hTI,⟨a,c,k TO (by simp) _ hTO⟩,SK.own_at h1 fun o q=>k i1 (by simp) o q,SK.own_at h2 fun o q=>k i2 (by simp) o q⟩
  item:=by
    intro X hP hw hK hc i pins s σ H E I hf st hg
    subst hP hw hK
    obtain ⟨hz,hTI,⟨a,c,hTO⟩,h1,h2⟩:=st
    obtain ⟨xs,ys,x,y,hx,hy,hxi,hyi⟩:=hg
    have l1:i < xs.length:=(List.getElem?_eq_some_iff.mp hxi).1
    have l2:i < ys.length:=(List.getElem?_eq_some_iff.mp hyi).1
    have hh:X.A.in1.handled=none:=I.ok.hd hc
    obtain ⟨P1,S1,D1,s1,r1,w1⟩:=sk_draws (A:=X.A.in1) I hx h1 (hf i1 (by simp)).1 hh
    obtain ⟨P2,S2,D2,s2,r2,w2⟩:=sk_draws (A:=X.A.in1) I hy h2 (hf i2 (by simp)).1 hh
    simp only [List.nodup_cons,List.mem_cons,List.not_mem_nil,or_false,not_or] at hnd
    obtain ⟨⟨n1,n2,n3,n4⟩,⟨n5,n6,n7⟩,⟨n8,n9⟩,n10,_⟩:=hnd
    have nb:∀ {κ:SK} {zs:List V} {b it:Addr},κ.has H zs→H b=none→b≠it→b ∉ it :: κ.box:=fun {κ zs b it} hκ hb hne q=>by
      rcases List.mem_cons.mp q with q | q
      · exact hne q
      · exact SK.box_some hκ q hb
    have Z:ZA z TI TO i1 i2 (i1 :: κ1.box) (i2 :: κ2.box):=
      { TIz:=Ne.symm n1,TOz:=Ne.symm n2,i1z:=Ne.symm n3,i2z:=Ne.symm n4,TITO:=n5,TIi1:=n6,TIi2:=n7,TOi1:=n8,TOi2:=n9,i12:=n10
        z1:=nb hx (hf z (by simp)).1 n3,z2:=nb hy (hf z (by simp)).1 n4,o1:=nb hx (hf TO (by simp)).1 n8,o2:=nb hy (hf TO (by simp)).1 n9,a1:=nb hx (hf i2 (by simp)).1 (Ne.symm n10),a2:=nb hy (hf i1 (by simp)).1 n10 }
    have hT:s.TypeIs (.ref z) "zip" := ⟨_,hz,rfl⟩
    unfold pyNext
    refine wpAny_bind (wpAny_attempt (wpAny_callSpecial?_slot (name:=Str.ofString "__next__") hT F.slot_zip_next
      (wpAny_call_entry F.slot_zip_next hT F.entry_zip_next
        (zip_next_itemD Z D1 D2 hz hTI hTO s1 s2 l1 l2 fun u v h' tk hu hv hz' hTO' s1' s2' hT' hsz hk=>wpAny_pure ⟨_,rfl,?_⟩) (F.args_zip_next_1 _))))
    refine wpAny_letOwnedTupleGo_zip hz' fun h'' hz'' hs''=>?_
    obtain ⟨x',hx',rx⟩:=r1 i u hu
    obtain ⟨y',hy',ry⟩:=r2 i v hv
    have ex:x'=x:=Option.some.inj (hx'.symm.trans hxi)
    have ey:y'=y:=Option.some.inj (hy'.symm.trans hyi)
    subst ex ey
    have kk:∀ b ob,b ∉ [z,TI,TO,i1,i2]→s.heap.get? b=some ob→h''.get? b=some ob:=fun b ob hb q=>
      (hs''.2 b (fun e=>hb (by simp [e]))).trans (hk b ob (fun e=>hb (by simp [e])) (fun e=>hb (by simp [e])) (fun e=>hb (by simp [e])) (fun e=>hb (by simp [e])) q)
    have ne:s.heap.objs.size≠z:=Nat.ne_of_gt (Heap.lt_size hz)
    have hT'':h''.get? s.heap.objs.size=some { cls:=.type "tuple", data:=.seq #[u,v] }:=(hs''.2 _ ne).trans hT'
    refine ⟨.ref s.heap.objs.size,upd H s.heap.objs.size (.tup [x',y']),I.turnedNew (tk:=tk) hf kk (Nat.le_refl _) ⟨⟨(by show 2≤sizeLine;decide),_,hT'',rfl⟩,[u,v],.cons rx (.cons ry .nil),_,hT'',rfl,0,rfl⟩,rfl,
      ⟨_,x',y',rfl,I.hok.fresh (Nat.le_refl _),rfl,fun zs hzs=>by rw [SK.inj hzs hx];exact hxi,fun zs hzs=>by rw [SK.inj hzs hy];exact hyi⟩,
      ⟨hz'',hs''.extBut _ _ (Ne.symm n1) (hk _ _ (Ne.symm n1) n5 n6 n7 hTI),⟨_,_,hs''.extBut _ _ (Ne.symm n2) hTO'⟩,SK.own_at (w1 _ _ s1') fun o q=>(hs''.2 i1 (Ne.symm n3)).trans q,SK.own_at (w2 _ _ s2') fun o q=>(hs''.2 i2 (Ne.symm n4)).trans q⟩,fun b hb=>?_⟩
    have hob:∃ o,s.heap.get? b=some o:=by
      simp only [List.mem_cons,List.not_mem_nil,or_false] at hb
      rcases hb with rfl | rfl | rfl | rfl | rfl
      · exact ⟨_,hz⟩
      · exact ⟨_,hTI⟩
      · exact ⟨_,hTO⟩
      · obtain ⟨o,e1,_⟩:=SK.own_obj h1;exact ⟨o,e1⟩
      · obtain ⟨o,e1,_⟩:=SK.own_obj h2;exact ⟨o,e1⟩
    obtain ⟨o,hob⟩:=hob
    rw [upd_ne (Nat.ne_of_lt (Heap.lt_size hob))]
    exact (hf b hb).1
  done:=by
    intro X hP hw hK hc i pins s σ H E I hf st hg
    subst hP hw hK
    obtain ⟨hz,hTI,⟨a,c,hTO⟩,h1,h2⟩:=st
    obtain ⟨xs,ys,hx,hy,hend⟩:=hg
    have hh:X.A.in1.handled=none:=I.ok.hd hc
    obtain ⟨P1,S1,D1,s1,r1,w1⟩:=sk_draws (A:=X.A.in1) I hx h1 (hf i1 (by simp)).1 hh
    obtain ⟨P2,S2,D2,s2,r2,w2⟩:=sk_draws (A:=X.A.in1) I hy h2 (hf i2 (by simp)).1 hh
    simp only [List.nodup_cons,List.mem_cons,List.not_mem_nil,or_false,not_or] at hnd
    obtain ⟨⟨n1,n2,n3,n4⟩,⟨n5,n6,n7⟩,⟨n8,n9⟩,n10,_⟩:=hnd
    have nb:∀ {κ:SK} {zs:List V} {b it:Addr},κ.has H zs→H b=none→b≠it→b ∉ it :: κ.box:=fun {κ zs b it} hκ hb hne q=>by
      rcases List.mem_cons.mp q with q | q
      · exact hne q
      · exact SK.box_some hκ q hb
    have Z:ZA z TI TO i1 i2 (i1 :: κ1.box) (i2 :: κ2.box):=
      { TIz:=Ne.symm n1,TOz:=Ne.symm n2,i1z:=Ne.symm n3,i2z:=Ne.symm n4,TITO:=n5,TIi1:=n6,TIi2:=n7,TOi1:=n8,TOi2:=n9,i12:=n10
        z1:=nb hx (hf z (by simp)).1 n3,z2:=nb hy (hf z (by simp)).1 n4,o1:=nb hx (hf TO (by simp)).1 n8,o2:=nb hy (hf TO (by simp)).1 n9,a1:=nb hx (hf i2 (by simp)).1 (Ne.symm n10),a2:=nb hy (hf i1 (by simp)).1 n10 }
    have hT:s.TypeIs (.ref z) "zip" := ⟨_,hz,rfl⟩
    unfold pyNext
    refine wpAny_bind (wpAny_attempt (wpAny_callSpecial?_slot (name:=Str.ofString "__next__") hT F.slot_zip_next
      (wpAny_call_entry F.slot_zip_next hT F.entry_zip_next (zip_next_endD Z D1 D2 hz hTI hTO s1 s2 hend fun h' e tk hk he=>?_) (F.args_zip_next_1 _))))
    obtain ⟨o,ho,hcl⟩:=he
    refine wpAny_bind (wpAny_isInstance (T := "StopIteration") (b:=true) ⟨o,ho,hcl⟩ isSubtype_stop ?_)
    exact wpAny_pure ⟨rfl,I.turnedMany hf fun b ob hb q=>hk b ob (fun e=>hb (by simp [e])) (fun e=>hb (by simp [e])) (fun e=>hb (by simp [e])) (fun e=>hb (by simp [e])) q⟩
  self:=fun _ _ _ _ _ st h=>wpAny_pyIter_zip st.1 h
def itObj (v:Value):SK→Obj
  | .lst _=>{ cls:=.type "list_iterator", data:=.fields #[v,.int 0 0] }
  | .tup _=>{ cls:=.type "tuple_iterator", data:=.fields #[v,.int 0 0] }
  | .str x=>{ cls:=.type (strIterType x),data:=.fields #[v,.int 0 0] }
theorem itObj_live (v:Value) (κ:SK):(itObj v κ).isFreed=false:=by cases κ <;> rfl
def Iters (h:Heap) (v:Value) (o:Obj):Prop:=∀ (prog:Program) (w:World) (A:Around) (E:Value→Shared→Prop) (s:Shared) (Q:Value→Shared→Prop),(∀ b ob,h.get? b=some ob→s.heap.get? b=some ob)→Q (.ref s.heap.objs.size) { s with heap:=s.heap.push o }→wpAny (model prog w) A (pyIter v) Q E s
theorem sk_iters {X:Cx} {pins:List (Addr × Obj)} {σ:St} {H:Hp} {s:Shared} {κ:SK} {xs:List V} {u:Value} (I:Inv X pins σ H s) (hv:κ.has H xs) (r:RelV κ.val u):Iters s.heap u (itObj u κ):=by
  intro prog w A E s' Q k h
  cases κ with
  | lst a=>
    cases (show u=Value.ref a from r)
    obtain ⟨_,its,n,rr,e⟩:=Rd.ok hv I.hok
    exact wpAny_pyIter_list (items:=its.toArray) ⟨_,k _ _ e,rfl,n,rfl⟩ h
  | tup a=>
    cases (show u=Value.ref a from r)
    obtain ⟨_,its,rr,o,e,c⟩:=Rd.ok hv I.hok
    exact wpAny_pyIter_tuple (items:=its.toArray) ⟨o,k _ _ e,c⟩ h
  | str x=>
    obtain ⟨t,q⟩:=(show ∃ t,u=Value.str x t from r)
    subst q
    exact wpAny_pyIter_strU h
theorem sk_own0 {κ:SK} {u:Value} {h h':Heap} {it:Addr} (r:RelV κ.val u) (e:h.get? it=some (itObj u κ)):κ.own it 0 h:=by
  cases κ with
  | lst a=>cases (show u=Value.ref a from r);exact ⟨_,e,rfl,rfl⟩
  | tup a=>cases (show u=Value.ref a from r);exact ⟨_,e,rfl,rfl⟩
  | str x=>obtain ⟨t,q⟩:=(show ∃ t,u=Value.str x t from r);subst q;exact ⟨t,_,e,rfl,rfl⟩
abbrev zH1 (h:Heap) (o1:Obj):Heap:=h.push o1
abbrev zH2 (h:Heap) (o1 o2:Obj):Heap:=(zH1 h o1).push o2
abbrev zH3 (h:Heap) (o1 o2:Obj):Heap:=(zH2 h o1 o2).push { cls:=.type "tuple", data:=.seq #[.ref h.objs.size,.ref (zH1 h o1).objs.size] }
abbrev zH4 (h:Heap) (o1 o2:Obj):Heap:=(zH3 h o1 o2).push { cls:=.type "tuple", data:=.seq #[.none,.none] }
abbrev zH5 (h:Heap) (o1 o2:Obj):Heap:=(zH4 h o1 o2).push { cls:=.type "zip", data:=.fields #[.none,.bool false,.bool false,.ref (zH2 h o1 o2).objs.size,.ref (zH3 h o1 o2).objs.size] }
set_option maxHeartbeats 4000000 in
theorem meets_zipG (v1 v2:Value) (o1 o2:Obj) :
    Meets (Builtin.«zip.__new__» ⟨[.type "zip", v1,v2],[]⟩) (fun _ R s=>Iters s.heap v1 o1∧Iters s.heap v2 o2 ∧
      R (.ok (.ret (.ref (zH4 s.heap o1 o2).objs.size))) { s with heap:=zH5 s.heap o1 o2 }):=
  .of_wp fun prog w A R s h=>by
    obtain ⟨hp,g,d,tk,os⟩:=s;obtain ⟨hl1,hl2,h⟩:=h
    have hsub:=sub_zip
    have g1:∀ (A:Around) (E:Value→Shared→Prop) (Q:Value→Shared→Prop),Q (.ref hp.objs.size) ⟨hp.push o1,g,d,tk,os⟩→wpAny (model prog w) A (pyIter v1) Q E ⟨hp,g,d,tk,os⟩:=fun A E Q q=>hl1 prog w A E ⟨hp,g,d,tk,os⟩ Q (fun _ _ e=>e) q
    have g2:∀ (A:Around) (E:Value→Shared→Prop) (Q:Value→Shared→Prop),Q (.ref (hp.push o1).objs.size) ⟨(hp.push o1).push o2,g,d,tk,os⟩→wpAny (model prog w) A (pyIter v2) Q E ⟨hp.push o1,g,d,tk,os⟩:=fun A E Q q=>hl2 prog w A E ⟨hp.push o1,g,d,tk,os⟩ Q (fun _ _ e=>Heap.get?_push_of_some _ e) q
    wp_walk using g1 _ _ _,g2 _ _ _
    exact ⟨_,rfl,h⟩
theorem call_zipG {prog:Program} {w:World} {A:Around} {E:Value→Shared→Prop} {s:Shared} {v1 v2:Value} {o1 o2:Obj} {Q:Value→Shared→Prop} (f1:o1.isFreed=false) (f2:o2.isFreed=false) (hl1:Iters s.heap v1 o1) (hl2:Iters s.heap v2 o2)
    (h:∀ h',IsZip h' (s.heap.objs.size+4) (s.heap.objs.size+2) (s.heap.objs.size+3) .none→IsPair h' (s.heap.objs.size+2) (.ref s.heap.objs.size) (.ref (s.heap.objs.size+1)) →
      IsPair h' (s.heap.objs.size+3) .none .none→h'.get? s.heap.objs.size=some o1→h'.get? (s.heap.objs.size+1)=some o2 →
      (∀ c o,s.heap.get? c=some o→h'.get? c=some o)→Q (.ref (s.heap.objs.size+4)) { s with heap:=h' }) :
    wpAny (model prog w) A (call (.type "zip") [v1,v2]) Q E s:=by
  refine callType_new F.called_zip (by decide) (F.typeCall_zip_2 _ _) (F.newCall_zip_2 _ _) (fun obj=>F.args_object_init_3 obj _ _) F.entry_zip_new
    (meets_zipG v1 v2 o1 o2) ⟨hl1,hl2,?_⟩
  have z1:(zH1 s.heap o1).objs.size=s.heap.objs.size+1:=Heap.size_push ..
  have z2:(zH2 s.heap o1 o2).objs.size=s.heap.objs.size+2:=by rw [Heap.size_push,z1]
  have z3:(zH3 s.heap o1 o2).objs.size=s.heap.objs.size+3:=by rw [Heap.size_push,z2]
  have z4:(zH4 s.heap o1 o2).objs.size=s.heap.objs.size+4:=by rw [Heap.size_push,z3]
  have g5:(zH5 s.heap o1 o2).get? (zH4 s.heap o1 o2).objs.size=some _:=Heap.get?_push_size _ rfl
  have g4:(zH5 s.heap o1 o2).get? (zH3 s.heap o1 o2).objs.size=some _:=Heap.get?_push_of_some _ (Heap.get?_push_size _ rfl)
  have g3:(zH5 s.heap o1 o2).get? (zH2 s.heap o1 o2).objs.size=some _:=Heap.get?_push_of_some _ (Heap.get?_push_of_some _ (Heap.get?_push_size _ rfl))
  have g2:(zH5 s.heap o1 o2).get? (zH1 s.heap o1).objs.size=some _:=Heap.get?_push_of_some _ (Heap.get?_push_of_some _ (Heap.get?_push_of_some _ (Heap.get?_push_size _ f2)))
  have g1:(zH5 s.heap o1 o2).get? s.heap.objs.size=some _:=Heap.get?_push_of_some _ (Heap.get?_push_of_some _ (Heap.get?_push_of_some _ (Heap.get?_push_of_some _ (Heap.get?_push_size _ f1))))
  show _∧_
  rw [z2,z3,z4] at g5
  rw [z1,z2] at g3
  rw [z3] at g4
  rw [z1] at g2
  rw [z4]
  exact ⟨⟨_,g5,rfl⟩,h _ g5 g3 g4 g1 g2 fun c o x=>
    Heap.get?_push_of_some _ (Heap.get?_push_of_some _ (Heap.get?_push_of_some _ (Heap.get?_push_of_some _ (Heap.get?_push_of_some _ x))))⟩
section
variable {X:Cx}
def iZip (ta:TA):TI:=fun σ H R=>ta σ H fun vs H1=>∃ κ1 κ2:SK,vs=[κ1.val,κ2.val]∧(∃ xs,κ1.has H1 xs)∧(∃ ys,κ2.has H1 ys)∧R (Itz κ1 κ2) H1
theorem pi_zip {a b:Expr} {ta:TA} {p pos:Pos} {elts:List Expr} {x1:Nat} {tpos:Pos} (hg:Gl X "zip") (hm:X.mg "zip" = none) (ha:PA X [a,b] ta)
    (hs:starEach [a,b] X.env=[(false,eval a X.env),(false,eval b X.env)]:=by rfl) (hs2:starEach [b] X.env=[(false,eval b X.env)]:=by rfl):PI X (.Tuple elts x1 tpos) (.Call (.Name "zip" p) [a,b] [] pos) (iZip ta):=by
  intro pins s σ H R I h
  refine Call_ (ld_blt I hg hm boot_zip (PyProof.Rows.callWith_type1 (thn (ha pos pins s σ H _ I h) fun us s1 ⟨vs,H1,I1,r1,q1⟩=>?_) (by rw [hs,hs2]) (by rw [hs2];rfl)))
  obtain ⟨κ1,κ2,e,⟨xs,hx⟩,⟨ys,hy⟩,q⟩:=q1
  subst e
  obtain ⟨u,v,rfl,ru,rv⟩:=vals2 r1
  refine call_zipG (itObj_live u κ1) (itObj_live v κ2) (sk_iters I1 hx ru) (sk_iters I1 hy rv) fun h' hz hTI hTO h1 h2 hk=>?_
  refine wpAny_pyIter_zip hz ⟨s1.heap.objs.size+4,[s1.heap.objs.size+4,s1.heap.objs.size+2,s1.heap.objs.size+3,s1.heap.objs.size,s1.heap.objs.size+1],_,_,H1,rfl,I1.kept (t':=s1.toks) hk,
    turn_zip κ1 κ2 _ _ _ _ _ (by simp),⟨hz,hTI,⟨_,_,hTO⟩,sk_own0 (h':=h') ru h1,sk_own0 (h':=h') rv h2⟩,fun b hb=>?_,q⟩
  have hge:s1.heap.objs.size≤b:=by
    simp only [List.mem_cons,List.not_mem_nil,or_false] at hb
    rcases hb with rfl | rfl | rfl | rfl | rfl <;> first | exact Nat.le_add_right _ _ | exact Nat.le_refl _
  exact I1.fpOk hge (I1.hok.fresh hge)
end
theorem for_zip {κ1 κ2:SK} {xs ys:List V} {g:TG} {tb:TS} {D:Ends} {σ:St} {H:Hp} (Pv:Nat→St→Hp→Prop) (h0:Pv 0 σ H) (hlen:xs.length=ys.length) (hl:∀ i σ H,i≤xs.length→Pv i σ H→κ1.has H xs∧κ2.has H ys)
    (hs:∀ i x y σ H p,xs[i]?=some x→ys[i]?=some y→Pv i σ H→H p=none→g (.ref p) σ (upd H p (.tup [x,y])) fun σ2 H2=>tb { D with nx:=Pv (i+1),ct:=Pv (i+1),bk:=D.nx } σ2 H2) (hd:∀ σ H,Pv xs.length σ H→D.nx σ H) :
    ∃ W:Nat→Nat→St→Hp→Prop,(∃ m,W 0 m σ H)∧∀ i m σ H,W i m σ H →
      ((Itz κ1 κ2).stop i H∧D.nx σ H)∨((Itz κ1 κ2).go i H∧∃ N:St→Hp→Prop,(∀ σ' H',N σ' H'→∃ m',m' < m∧W (i+1) m' σ' H')∧∀ x H',(Itz κ1 κ2).yld i H x H'→g x σ H' fun σ2 H2=>tb { D with nx:=N,ct:=N,bk:=D.nx } σ2 H2):=by
  refine ⟨fun i m σ H=>i≤xs.length∧m=xs.length - i∧Pv i σ H,⟨xs.length,Nat.zero_le _,rfl,h0⟩,fun i m σ H ⟨hi,hm,hp⟩=>?_⟩
  obtain ⟨a1,a2⟩:=hl i σ H hi hp
  rcases Nat.lt_or_ge i xs.length with lt | ge
  · have lt2:i < ys.length:=by omega
    refine .inr ⟨⟨xs,ys,xs[i],ys[i],a1,a2,List.getElem?_eq_getElem lt,List.getElem?_eq_getElem lt2⟩,Pv (i+1),fun σ' H' hn=>⟨xs.length - (i+1),by omega,by omega,rfl,hn⟩,fun x H' hy=>?_⟩
    obtain ⟨p,x',y',rfl,hpn,rfl,e1,e2⟩:=hy
    exact hs i x' y' σ H p (e1 xs a1) (e2 ys a2) hp hpn
  · have e:i=xs.length:=by omega
    subst e
    exact .inl ⟨⟨xs,ys,a1,a2,.inl rfl⟩,hd σ H hp⟩
theorem for_enum {κ:SK} {xs:List V} {g:TG} {tb:TS} {D:Ends} {σ:St} {H:Hp} (Pv:Nat→St→Hp→Prop) (h0:Pv 0 σ H) (hl:∀ i σ H,i≤xs.length→Pv i σ H→κ.has H xs)
    (hs:∀ (i:Nat) x σ H p,xs[i]?=some x→Pv i σ H→H p=none→g (.ref p) σ (upd H p (.tup [.int i,x])) fun σ2 H2=>tb { D with nx:=Pv (i+1),ct:=Pv (i+1),bk:=D.nx } σ2 H2) (hd:∀ σ H,Pv xs.length σ H→D.nx σ H) :
    ∃ W:Nat→Nat→St→Hp→Prop,(∃ m,W 0 m σ H)∧∀ i m σ H,W i m σ H →
      ((Ite κ).stop i H∧D.nx σ H)∨((Ite κ).go i H∧∃ N:St→Hp→Prop,(∀ σ' H',N σ' H'→∃ m',m' < m∧W (i+1) m' σ' H')∧∀ x H',(Ite κ).yld i H x H'→g x σ H' fun σ2 H2=>tb { D with nx:=N,ct:=N,bk:=D.nx } σ2 H2):=by
  refine ⟨fun i m σ H=>i≤xs.length∧m=xs.length - i∧Pv i σ H,⟨xs.length,Nat.zero_le _,rfl,h0⟩,fun i m σ H ⟨hi,hm,hp⟩=>?_⟩
  have a1:=hl i σ H hi hp
  rcases Nat.lt_or_ge i xs.length with lt | ge
  · refine .inr ⟨⟨xs,xs[i],a1,List.getElem?_eq_getElem lt⟩,Pv (i+1),fun σ' H' hn=>⟨xs.length - (i+1),by omega,by omega,rfl,hn⟩,fun x H' hy=>?_⟩
    obtain ⟨p,x',rfl,hpn,rfl,e1⟩:=hy
    exact hs i x' σ H p (e1 xs a1) hp hpn
  · have e:i=xs.length:=by omega
    subst e
    exact .inl ⟨⟨xs,a1,rfl⟩,hd σ H hp⟩
def cutS (z:Str) (lo hi:Option Int):Str:=⟨((z.cps.toList.drop (HT.sIx z.length 0 lo)).take (HT.sIx z.length z.length hi - HT.sIx z.length 0 lo)).toArray⟩
theorem clip_s (i:Int) (n d:Nat):max 0 (min (if i < 0 then i+(n:Int) else i) (n:Int))=((HT.sIx n d (some i):Nat):Int):=by
  simp only [HT.sIx]
  split
  · omega
  · omega
theorem range_cut (a b:Nat):sliceRange (a:Int) (b:Int) 1=(List.range (b - a)).map fun k=>a+k:=by
  unfold sliceRange
  simp only [show ((1:Int) > 0)=True from by simp,if_true]
  by_cases hlt:(a:Int) < b
  · have e3:(((b:Int) - a+1 - 1) / 1).toNat=b - a:=by
      rw [Int.ediv_one];omega
    simp only [hlt,if_true,e3]
    refine List.map_congr_left fun k _=>?_
    omega
  · have:b - a=0:=by omega
    simp [hlt,this]
theorem sliceIdx_cut (lo hi:Option Int) (n:Nat):Builtin.Str.strSliceIndices lo hi 1 n=(List.range (HT.sIx n n hi - HT.sIx n 0 lo)).map fun k=>HT.sIx n 0 lo+k:=by
  unfold Builtin.Str.strSliceIndices
  simp only [show ((1:Int) > 0)=True from by simp,if_true]
  cases lo with
  | none=>
    cases hi with
    | none=>exact range_cut 0 n
    | some j=>dsimp only;rw [clip_s j n n];exact range_cut 0 _
  | some i=>
    cases hi with
    | none=>dsimp only;rw [clip_s i n 0];exact range_cut _ n
    | some j=>dsimp only;rw [clip_s i n 0,clip_s j n n];exact range_cut _ _
theorem slice_text (z:Str) (t:Tok) (l u:Option (Int × Tok)):∀ (Q:Value→Shared→Prop) (s:Shared),z.length≤sizeLine→(∀ t' s',s'.heap=s.heap→s'.gens=s.gens→s'.drawn=s.drawn→s'.os=s.os→Q (.str (cutS z (l.map (·.1)) (u.map (·.1))) t') s')→(sliceMade z t l u none).post Q s:=by
  intro Q s hz h
  have hidx:=sliceIdx_cut (l.map (·.1)) (u.map (·.1)) z.length
  have hle:HT.sIx z.length z.length (u.map (·.1))≤z.length:=HT.sIx_le _ _ (Nat.le_refl _) _
  have hlo:HT.sIx z.length 0 (l.map (·.1))≤z.length:=HT.sIx_le _ _ (Nat.zero_le _) _
  have hzl:z.length=z.cps.toList.length:=by simp [Str.length]
  have cut:((slicePicked z l u none).filterMap (z.cps[·]?))=(z.cps.toList.drop (HT.sIx z.length 0 (l.map (·.1)))).take (HT.sIx z.length z.length (u.map (·.1)) - HT.sIx z.length 0 (l.map (·.1))):=by
    have p:=StrLaws.picks z.cps.toList (HT.sIx z.length z.length (u.map (·.1)) - HT.sIx z.length 0 (l.map (·.1))) (HT.sIx z.length 0 (l.map (·.1))) (by omega)
    rw [← p]
    unfold slicePicked
    simp only [Option.map_none,Option.getD_none]
    rw [hidx]
    congr 1
    funext k
    simp
  unfold sliceMade
  split
  · rename_i c
    have whole:cutS z (l.map (·.1)) (u.map (·.1))=z:=by
      unfold cutS
      have e:(slicePicked z l u none).length=z.length:=by
        simp only [Bool.and_eq_true,beq_iff_eq] at c
        exact c.2
      have e':HT.sIx z.length z.length (u.map (·.1)) - HT.sIx z.length 0 (l.map (·.1))=z.length:=by
        unfold slicePicked at e
        simp only [Option.map_none,Option.getD_none] at e
        rw [hidx] at e
        simpa using e
      have e0:HT.sIx z.length 0 (l.map (·.1))=0:=by omega
      rw [e',e0,List.drop_zero,hzl,List.take_length]
    have:=h t s rfl rfl rfl rfl
    rw [whole] at this
    exact this
  · rw [cut]
    have hl':(⟨((z.cps.toList.drop (HT.sIx z.length 0 (l.map (·.1)))).take (HT.sIx z.length z.length (u.map (·.1)) - HT.sIx z.length 0 (l.map (·.1)))).toArray⟩:Str).length≤sizeLine:=by
      have:(⟨((z.cps.toList.drop (HT.sIx z.length 0 (l.map (·.1)))).take (HT.sIx z.length z.length (u.map (·.1)) - HT.sIx z.length 0 (l.map (·.1)))).toArray⟩:Str).length≤z.length:=by
        simp only [Str.length,List.size_toArray,List.length_take,List.length_drop]
        have:z.cps.size=z.length:=rfl
        omega
      omega
    first
      | exact ⟨hl',h _ _ rfl rfl rfl rfl⟩
      | exact h _ _ rfl rfl rfl rfl
def rSlS:V→Option Int→Option Int→Hp→VK→Prop:=fun x lo hi H Q=>∃ z,x=.str z∧z.length≤sizeLine∧Q (.str (cutS z lo hi)) H
theorem sl_str {X:Cx}:SlR X rSlS:=by
  intro pins s σ H x v vl vu lo hi sl Q I rx hs pl pu h
  obtain ⟨z,rfl,hz,q⟩:=h
  obtain ⟨t,rfl⟩:=rx
  refine ⟨"str", _,F.slot_str_getitem.lookup,typeIs_str s z t,?_⟩
  have part:∀ {v:Value} {o:Option Int},IsPart v o→∃ p:Option (Int × Tok),v=partValue p∧p.map (·.1)=o:=fun {v o} p=>by
    cases p with
    | none=>exact ⟨none,rfl,rfl⟩
    | int i t=>exact ⟨some (i,t),rfl,rfl⟩
  obtain ⟨l,rfl,rfl⟩:=part pl
  obtain ⟨u,rfl,rfl⟩:=part pu
  refine wpAny_getItem_str_slice (l:=l) (u:=u) (st:=none) hs rfl (slice_text z t l u _ s hz fun t' s' e1 e2 e3 e4=>⟨.str _,H,?_,⟨t',rfl⟩,q⟩)
  obtain ⟨hp,g,d,tk,os⟩:=s'
  cases e1;cases e2;cases e3;cases e4
  exact I.tok tk
theorem cutS_from (z:Str) (k:Nat):(cutS z (some (k:Int)) none).cps.toList=z.cps.toList.drop k:=by
  unfold cutS
  have hzl:z.length=z.cps.toList.length:=by simp [Str.length]
  simp only [HT.sIx_nat,HT.sIx_none]
  rcases Nat.le_total k z.length with h | h
  · rw [Nat.min_eq_left h]
    exact List.take_of_length_le (by rw [List.length_drop];omega)
  · rw [Nat.min_eq_right h,Nat.sub_self,List.take_zero]
    exact (List.drop_eq_nil_of_le (by omega)).symm
theorem cutS_to (z:Str) (k:Nat):(cutS z none (some (k:Int))).cps.toList=z.cps.toList.take k:=by
  unfold cutS
  have hzl:z.length=z.cps.toList.length:=by simp [Str.length]
  simp only [HT.sIx_nat,HT.sIx_none,List.drop_zero,Nat.sub_zero]
  rcases Nat.le_total k z.length with h | h
  · rw [Nat.min_eq_left h]
  · rw [Nat.min_eq_right h,hzl,List.take_length]
    exact (List.take_of_length_le (by omega)).symm
theorem call_isinst {X:Cx}:CallR X (.builtin "isinstance") (fun vs H Q=>∃ x t T b,vs=[x,.ty T]∧TyOf X.K H x t∧PySem.W.kitOne X.K t (.type T)=some b∧Q (.bl b) H):=by
  intro pins s σ H xs us Q I r h
  obtain ⟨x,t,T,b,rfl,ty,e,q⟩:=h
  obtain ⟨u,v,rfl,ru,rv⟩:=vals2 r
  cases (show v=Value.type T from rv)
  exact isinst_ok I ru ty e fun tk=>⟨.bl b,H,I.tok tk,rfl,q⟩
end L2
namespace L2
open PySem PySem.Spec PyProof.Rows
theorem csc {X:Cx} {scope:Scope} {NL:List Str} {ix:List Nat} (esc:Scope) (N:List Str) (h1:X.env.scope=esc:=by rfl) (h2:X.N=N:=by rfl) (c1:scope.kind=.function:=by rfl)
    (c2:∀ y∈scope.names,y.2≠.cell:=by decide +kernel) (c3:∀ y∈scope.names,y.2=.local→scope.names.lookup y.1=some .local:=by decide +kernel)
    (c4:∀ y∈scope.names,y.2=.free→esc.names.lookup y.1=some .cell∨esc.names.lookup y.1=some .free:=by decide +kernel)
    (c5:∀ j∈ix,(N[j]?).bind (fun x=>scope.names.lookup x)=some .free:=by decide +kernel):CompScope X scope NL ix where
  kind:=c1
  cell:=c2
  names:=c3
  free:=fun y hy hf=>by
    have:=c4 y hy hf
    rw [← h1] at this
    exact this
  cap:=fun j hj=>by
    have:=c5 j hj
    rw [h2]
    cases e:N[j]? with
    | none=>rw [e] at this;cases this
    | some x=>rw [e] at this;exact ⟨x,rfl,this⟩
def Has (P:Program) (w:World) (K:PySem.W.Frag) (mg:Str→Option Value) (base:Heap) (x:Str) (k:Nat) (ps:List Str) (sp:Sp):Prop:=
  ∃ f fd,FnOk P w K mg base CX0 k f fd ps sp∧Binds K fd ps []∧PySem.W.keepIn K (.ref f)=true∧mg x=some (.ref f)
section
variable {P:Program} {w:World} {K:PySem.W.Frag} {mg:Str→Option Value} {base:Heap}
theorem Has.mono {x:Str} {j k:Nat} {ps:List Str} {sp:Sp} (G:Has P w K mg base x j ps sp) (h:j≤k):Has P w K mg base x k ps sp:=
  let ⟨f,fd,F,r⟩:=G;⟨f,fd,F.mono h,r⟩
def Df (K:PySem.W.Frag) (mg:Str→Option Value) (x:Str) (st:Stmt):Prop:=∃ f fd,Fun K x x st f fd∧mg x=some (.ref f)
theorem Df.has {x:Str} {st:Stmt} {N ps:List Str} {k:Nat} {sp:Sp} (D:Df K mg x st) (S:FnScope N ps (defScope st))
    (hb:∀ (kV doc pm:Value) (an:Option Addr) (cdv ct:Value) (us:List Value),us.length=ps.length→bindArgs (PySem.W.fnOf x x (defArgs st) (defBody st) (defScope st) .none kV doc pm an cdv ct) ⟨us,[]⟩=pure (ps.zip us))
    (len:∀ vs H Q E,sp vs H Q E→vs.length=ps.length)
    (hbody:∀ (f:Addr) (cdv:Value) (A:Around) (outer:List Env) (s:Shared) (H:Hp) (vs:List V) (Q:VK) (E:XK),Room k (A.deeper (envOfC x (defScope st) s.heap.objs.size f cdv))→sp vs H Q E →
      ∃ t,PSs (cxOf CX0 P w K mg base N x (defScope st) f cdv A outer s H E).nox (defBody st) t∧t { nx:=fun _ H'=>Q .non H',rt:=Q } (start N vs) H):Has P w K mg base x (k+1) ps sp:=by
  obtain ⟨f,fd,F,m⟩:=D
  exact ⟨f,fd,F.ok S len fun cdv A outer s H vs Q E hr h=>hbody f cdv A outer s H vs Q E hr h,F.binds hb,F.kp,m⟩
end
theorem pe_callH {X:Cx} {x:Str} {k:Nat} {ps:List Str} {sp:Sp} {p pos:Pos} {e:Expr} {es:List Expr} {t:TA} (G:Has X.prog X.w X.K X.mg X.base x k ps sp) (hr:Room k X.A) (hg:Gl X x) (ha:PA X (e :: es) t)
    (hdb:(x == ("__debug__" : Str))=false:=by decide) (he:starEach (e :: es) X.env=(false,eval e X.env) :: starEach es X.env:=by rfl) (hpl:(backTo pos (starEach es X.env)).any (·.1)=false:=by rfl) :
    PE X (.Call (.Name x p) (e :: es) [] pos) (tCall sp [] E0 t):=by
  obtain ⟨f,fd,F,b,kp,m⟩:=G
  exact pe_call F hr hg m kp b .nil pass0 ha hdb he hpl
structure Blt (mg:Str→Option Value):Prop where
  len:mg "len" = none
  range:mg "range" = none
  zip:mg "zip" = none
  enumerate:mg "enumerate" = none
  max:mg "max" = none
  min:mg "min" = none
  int_:mg "int" = none
  str_:mg "str" = none
  bool_:mg "bool" = none
  list_:mg "list" = none
  tuple_:mg "tuple" = none
  isinstance:mg "isinstance" = none
section
variable {p q:Addr} {H H1 H2:Hp} {o:HO}
end
theorem bt_len:bootBuiltins "len" = some (.builtin "len"):=by decide +kernel
theorem bt_max:bootBuiltins "max" = some (.builtin "max"):=by decide +kernel
theorem bt_min:bootBuiltins "min" = some (.builtin "min"):=by decide +kernel
theorem bt_sorted:bootBuiltins "sorted" = some (.builtin "sorted"):=by decide +kernel
theorem bt_isinstance:bootBuiltins "isinstance" = some (.builtin "isinstance"):=by decide +kernel
theorem bt_int:bootBuiltins "int" = some (.type "int"):=by decide +kernel
theorem bt_str:bootBuiltins "str" = some (.type "str"):=by decide +kernel
theorem bt_list:bootBuiltins "list" = some (.type "list"):=by decide +kernel
theorem bt_tuple:bootBuiltins "tuple" = some (.type "tuple"):=by decide +kernel
theorem Same.new {H0 H:Hp} {q:Addr} {o:HO} (h:Same H0 H) (hq:H q=none):Same H0 (upd H q o):=fun b u e=>by
  have:=h b u e
  rw [upd_ne (ne_of_none this hq)];exact this
theorem Same.write {H0 H:Hp} {q:Addr} {o:HO} (h:Same H0 H) (hq:H0 q=none):Same H0 (upd H q o):=fun b u e=>by
  rw [upd_ne (ne_of_none e hq)];exact h b u e
theorem app_list (a y:Str):(a++y).cps.toList=a.cps.toList++y.cps.toList:=by
  show (a.cps++y.cps).toList=_
  simp
end L2
namespace L2
open PySem PySem.Spec PyProof.Rows
section
variable {X:Cx}
theorem mt_startswith:MtR X "str.startswith" (fun x vs H Q=>∃ z p,x=.str z∧vs=[.str p]∧Q (.bl (Txt.startswith z p)) H):=by
  intro pins s σ H x xs v us Q I rx rv h
  obtain ⟨z,p,rfl,rfl,q⟩:=h
  obtain ⟨t,rfl⟩:=rx
  obtain ⟨u,rfl,t',rfl⟩:=rv.one
  exact SC.startswith ⟨.bl _,H,I,rfl,q⟩
theorem pe_starts {o e:Expr} {to te:TE} {apos cpos:Pos} (ho:PE X o to) (he:PE X e te) (hbase:attributeBase o "startswith" X.env (eval o X.env)=eval o X.env:=by rfl)
    (h1:starEach [e] X.env=[(false,eval e X.env)]:=by rfl) (hl:(apos.endLine == cpos.line)=true:=by rfl) :
    PE X (.Call (.Attribute o "startswith" apos) [e] [] cpos) (tBM X.K "str" (fun x vs H Q=>∃ z p,x=.str z∧vs=[.str p]∧Q (.bl (Txt.startswith z p)) H) to (tCons te tNil)):=
  pe_bm PySem.F.plainAttrs_str PySem.F.slot_str_startswith PySem.F.type_str_startswith mt_startswith ho (pa_cons he pa_nil h1) hbase (by rw [h1];rfl) hl h1 (by rfl)
theorem pifs_startsK (K:PySem.W.Frag) {o e:Expr} {to te:TE} {apos cpos:Pos} (ho:PE X o to) (he:PE X e te) (hK:X.K=K:=by rfl) (hbase:attributeBase o "startswith" X.env (eval o X.env)=eval o X.env:=by rfl)
    (h1:starEach [e] X.env=[(false,eval e X.env)]:=by rfl) (hl:(apos.endLine == cpos.line)=true:=by rfl) :
    PIfs X [.Call (.Attribute o "startswith" apos) [e] [] cpos] (tB (tBM K "str" (fun x vs H Q=>∃ z p,x=.str z∧vs=[.str p]∧Q (.bl (Txt.startswith z p)) H) to (tCons te tNil))):=by
  subst hK
  exact pifs_one (pt_val (pe_starts ho he hbase h1 hl))
theorem pg_tupK (K:PySem.W.Frag) {es:List Expr} {k:Nat} {t:TGs} {n:Nat} {pos:Pos} (hc:X.calm=true) (h:PGs X es t) (hK:X.K=K:=by rfl) (hn:(assignEach es X.env).length=n:=by rfl)
    (hst:(assignEach es X.env).findIdx? (·.1)=none:=by rfl):PG X (.Tuple es k pos) (gTup K n t):=by
  subst hK
  exact pg_tup hc h hn hst
theorem strsAre_of:∀ {ys:List Str} {us:List Value},Vals (ys.map V.str) us→StrsAre us ys
  | [],[],_=>.nil
  | [],_ :: _,h=>nomatch h
  | _ :: _,[],h=>nomatch h
  | y :: r,u :: us,h=>by
    cases h with
    | cons a b=>
      obtain ⟨t,rfl⟩:=a
      exact .cons y t (strsAre_of b)
theorem mt_join:MtR X "str.join" (fun x vs H Q=>∃ z a ys,x=.str z∧vs=[.ref a]∧SqL X.K H a (ys.map V.str)∧(ys.map (·.length)).sum+ys.length * z.length≤16777216∧Q (.str (Txt.join z ys)) H):=by
  intro pins s σ H x xs v us Q I rx rv h
  obtain ⟨z,a,ys,rfl,rfl,hl,hok,q⟩:=h
  obtain ⟨t,rfl⟩:=rx
  obtain ⟨u,rfl,ru⟩:=rv.one
  cases (show u=Value.ref a from ru)
  obtain ⟨its,r,ht,hz⟩:=I.list hl
  exact join_list ht.isList (strsAre_of (by simpa using r)) hok fun t' k=>⟨.str _,H,I.tok k,⟨t',rfl⟩,q⟩
theorem op_mul_str:OpR X (binaryOp .Mult) (fun x y H Q=>∃ z n,x=.str z∧y=.int n∧MulOk z n∧Q (.str (Txt.mul z n)) H):=by
  intro pins s σ H x y v u Q I rx ry h
  obtain ⟨z,n,rfl,rfl,hok,q⟩:=h
  obtain ⟨t,rfl⟩:=rx
  obtain ⟨t',rfl⟩:=ry
  exact SB.mul hok fun t' k=>⟨.str _,H,I.tok k,⟨t',rfl⟩,q⟩
def eqAtJ (xs ys:List V) (j:Nat):Bool:=match xs[j]?,ys[j]? with
  | some x,some y=>eqV x y
  | _,_=>false
def eqVs (xs ys:List V):Bool:=xs.length == ys.length && (List.range xs.length).all (eqAtJ xs ys)
theorem eqVs_ints (ns ms:List Int):eqVs (ns.map V.int) (ms.map V.int)=decide (ns=ms):=by
  rw [Bool.eq_iff_iff]
  unfold eqVs
  simp only [Bool.and_eq_true,beq_iff_eq,List.length_map,List.all_eq_true,List.mem_range,decide_eq_true_eq]
  constructor
  · rintro ⟨h1,h2⟩
    apply List.ext_getElem h1
    intro j a b
    have:=h2 j a
    unfold eqAtJ at this
    rw [List.getElem?_map,List.getElem?_map,List.getElem?_eq_getElem a,List.getElem?_eq_getElem b] at this
    simpa [eqV] using this
  · rintro rfl
    refine ⟨rfl,fun j hj=>?_⟩
    unfold eqAtJ
    rw [List.getElem?_map,List.getElem?_eq_getElem hj]
    simp [eqV]
theorem eqVs_strs (ns ms:List Str):eqVs (ns.map V.str) (ms.map V.str)=decide (ns=ms):=by
  rw [Bool.eq_iff_iff]
  unfold eqVs
  simp only [Bool.and_eq_true,beq_iff_eq,List.length_map,List.all_eq_true,List.mem_range,decide_eq_true_eq]
  constructor
  · rintro ⟨h1,h2⟩
    apply List.ext_getElem h1
    intro j a b
    have:=h2 j a
    unfold eqAtJ at this
    rw [List.getElem?_map,List.getElem?_map,List.getElem?_eq_getElem a,List.getElem?_eq_getElem b] at this
    simpa [eqV] using this
  · rintro rfl
    refine ⟨rfl,fun j hj=>?_⟩
    unfold eqAtJ
    rw [List.getElem?_map,List.getElem?_eq_getElem hj]
    simp [eqV]
theorem flat_ints (ns:List Int):(ns.map V.int).all flatV=true:=by
  rw [List.all_eq_true];intro x hx;obtain ⟨n,_,rfl⟩:=List.mem_map.mp hx;rfl
theorem flat_strs (ns:List Str):(ns.map V.str).all flatV=true:=by
  rw [List.all_eq_true];intro x hx;obtain ⟨n,_,rfl⟩:=List.mem_map.mp hx;rfl
theorem eqAt_items {A:Around} {s:Shared} {xs ys:List V} {us ws:List Value} (r1:Vals xs us) (r2:Vals ys ws) (f1:xs.all flatV=true) (f2:ys.all flatV=true) (j:Nat) (h1:j < us.toArray.size) (h2:j < ws.toArray.size) :
    SeqAt.EqAt A s us.toArray[j] ws.toArray[j] (eqAtJ xs ys j):=by
  have g1:j < xs.length:=by rw [r1.length];simpa using h1
  have g2:j < ys.length:=by rw [r2.length];simpa using h2
  obtain ⟨u,e1,q1⟩:=r1.get (List.getElem?_eq_getElem g1)
  obtain ⟨v,e2,q2⟩:=r2.get (List.getElem?_eq_getElem g2)
  have d1:us.toArray[j]=u:=by
    rw [List.getElem?_eq_getElem (by simpa using h1)] at e1
    simpa using Option.some.inj e1
  have d2:ws.toArray[j]=v:=by
    rw [List.getElem?_eq_getElem (by simpa using h2)] at e2
    simpa using Option.some.inj e2
  rw [d1,d2]
  unfold eqAtJ
  rw [List.getElem?_eq_getElem g1,List.getElem?_eq_getElem g2]
  exact eqAt_V q1 q2 (List.all_eq_true.mp f1 _ (List.getElem_mem g1)) (List.all_eq_true.mp f2 _ (List.getElem_mem g2))
theorem op_eq_tup (hu:X.A.units < cLine):OpR X (compareOp .Eq) (fun x y H Q=>∃ a b xs ys,x=.ref a∧y=.ref b∧SqT X.K H a xs∧SqT X.K H b ys∧xs.all flatV=true∧ys.all flatV=true∧Q (.bl (eqVs xs ys)) H):=by
  intro pins s σ H x y v u Q I rx ry h
  obtain ⟨a,b,xs,ys,rfl,rfl,h1,h2,f1,f2,q⟩:=h
  cases (show v=Value.ref a from rx)
  cases (show u=Value.ref b from ry)
  obtain ⟨us,r1,l1,_⟩:=I.tuple h1
  obtain ⟨ws,r2,l2,_⟩:=I.tuple h2
  have e1:=r1.length
  have e2:=r2.length
  refine SeqAt.eq_tupleAt (e:=eqAtJ xs ys) l1 l2 hu (fun j g1 g2=>eqAt_items r1 r2 f1 f2 j g1 g2) ⟨.bl _,H,I,rfl,?_⟩
  have:eqVs xs ys=((List.range (min us.toArray.size ws.toArray.size)).all (eqAtJ xs ys) && us.toArray.size == ws.toArray.size):=by
    unfold eqVs
    rw [List.size_toArray,List.size_toArray,← e1,← e2]
    by_cases hl:xs.length=ys.length
    · rw [← hl,Nat.min_self,Bool.and_comm]
    · have:(xs.length == ys.length)=false:=by simpa using hl
      rw [this,Bool.and_false];rfl
  rw [← this];exact q
end
section
variable {NL:List Str} {ix:List Nat} {g:TG} {tt:TT} {te:TE} {σ:St} {H1:Hp} {Qs:Hp→Prop} {acc:Addr}
theorem comp_lst {K:PySem.W.Frag} {a:Addr} {xs:List V} (hn:xs.length < 1000) (Pv:Nat→List V→Hp→Prop)
    (hl:∀ i ys H2,Pv i ys H2→SqL K H2 a xs) (hacc:∀ i ys H2,Pv i ys H2→H2 acc=some (.lst ys)∧ys.length≤i) (h0:Pv 0 [] (upd H1 acc (.lst []))) (hstop:∀ ys H2,Pv xs.length ys H2→Qs H2)
    (hturn:∀ i x ys H2,xs[i]?=some x→Pv i ys H2→g x (comp0 NL ix σ) H2 fun σ' H4=>σ'.drop NL.length=ix.map (fun j=>σ.getD j none)∧tt σ' H4 fun b H5=>
      if b=true then te σ' H5 fun v H6=>H6 acc=some (.lst ys)∧Pv (i+1) (ys++[v]) (upd H6 acc (.lst (ys++[v]))) else Pv (i+1) ys H5) :
    ∃ W:Nat→Nat→List V→Hp→Prop,(∃ m,W 0 m [] (upd H1 acc (.lst []))) ∧
    ∀ i m ys H2,W i m ys H2→H2 acc=some (.lst ys)∧ys.length < sizeLine ∧
      (((Itl K a).stop i H2∧Qs H2)∨((Itl K a).go i H2∧∃ N:List V→Hp→Prop,(∀ ys' H',N ys' H'→∃ m',m' < m∧W (i+1) m' ys' H') ∧
        ∀ x H3,(Itl K a).yld i H2 x H3→g x (comp0 NL ix σ) H3 fun σ' H4=>σ'.drop NL.length=ix.map (fun j=>σ.getD j none)∧tt σ' H4 fun b H5=>
          if b=true then te σ' H5 fun v H6=>H6 acc=some (.lst ys)∧N (ys++[v]) (upd H6 acc (.lst (ys++[v]))) else N ys H5)):=by
  refine comp_by xs.length hn Pv hacc h0 (fun ys H2 hp=>⟨⟨xs,hl _ _ _ hp,Nat.le_refl _⟩,hstop ys H2 hp⟩) fun i ys H2 hi hp=>?_
  have hs:=hl _ _ _ hp
  refine ⟨⟨xs,xs[i],hs,List.getElem?_eq_getElem hi⟩,?_⟩
  rintro x H3 ⟨rfl,hx⟩
  exact hturn i x ys H3 (hx xs hs) hp
theorem comp_enum {κ:SK} {xs:List V} (hn:xs.length < 1000) (Pv:Nat→List V→Hp→Prop)
    (hl:∀ i ys H2,Pv i ys H2→κ.has H2 xs) (hacc:∀ i ys H2,Pv i ys H2→H2 acc=some (.lst ys)∧ys.length≤i) (h0:Pv 0 [] (upd H1 acc (.lst []))) (hstop:∀ ys H2,Pv xs.length ys H2→Qs H2)
    (hturn:∀ (i:Nat) x ys H2 p,xs[i]?=some x→Pv i ys H2→H2 p=none→g (.ref p) (comp0 NL ix σ) (upd H2 p (.tup [.int i,x])) fun σ' H4=>σ'.drop NL.length=ix.map (fun j=>σ.getD j none)∧tt σ' H4 fun b H5=>
      if b=true then te σ' H5 fun v H6=>H6 acc=some (.lst ys)∧Pv (i+1) (ys++[v]) (upd H6 acc (.lst (ys++[v]))) else Pv (i+1) ys H5) :
    ∃ W:Nat→Nat→List V→Hp→Prop,(∃ m,W 0 m [] (upd H1 acc (.lst []))) ∧
    ∀ i m ys H2,W i m ys H2→H2 acc=some (.lst ys)∧ys.length < sizeLine ∧
      (((Ite κ).stop i H2∧Qs H2)∨((Ite κ).go i H2∧∃ N:List V→Hp→Prop,(∀ ys' H',N ys' H'→∃ m',m' < m∧W (i+1) m' ys' H') ∧
        ∀ x H3,(Ite κ).yld i H2 x H3→g x (comp0 NL ix σ) H3 fun σ' H4=>σ'.drop NL.length=ix.map (fun j=>σ.getD j none)∧tt σ' H4 fun b H5=>
          if b=true then te σ' H5 fun v H6=>H6 acc=some (.lst ys)∧N (ys++[v]) (upd H6 acc (.lst (ys++[v]))) else N ys H5)):=by
  refine comp_by xs.length hn Pv hacc h0 (fun ys H2 hp=>⟨⟨xs,hl _ _ _ hp,rfl⟩,hstop ys H2 hp⟩) fun i ys H2 hi hp=>?_
  have hs:=hl _ _ _ hp
  refine ⟨⟨xs,xs[i],hs,List.getElem?_eq_getElem hi⟩,?_⟩
  rintro x H3 ⟨p,x',rfl,hpn,rfl,hx⟩
  exact hturn i x' ys H2 p (hx xs hs) hp hpn
theorem comp_zip {κ1 κ2:SK} {xs zs:List V} (hn:xs.length < 1000) (hlen:xs.length=zs.length) (Pv:Nat→List V→Hp→Prop)
    (hl:∀ i ys H2,Pv i ys H2→κ1.has H2 xs∧κ2.has H2 zs) (hacc:∀ i ys H2,Pv i ys H2→H2 acc=some (.lst ys)∧ys.length≤i) (h0:Pv 0 [] (upd H1 acc (.lst []))) (hstop:∀ ys H2,Pv xs.length ys H2→Qs H2)
    (hturn:∀ (i:Nat) x z ys H2 p,xs[i]?=some x→zs[i]?=some z→Pv i ys H2→H2 p=none→g (.ref p) (comp0 NL ix σ) (upd H2 p (.tup [x,z])) fun σ' H4=>σ'.drop NL.length=ix.map (fun j=>σ.getD j none)∧tt σ' H4 fun b H5=>
      if b=true then te σ' H5 fun v H6=>H6 acc=some (.lst ys)∧Pv (i+1) (ys++[v]) (upd H6 acc (.lst (ys++[v]))) else Pv (i+1) ys H5) :
    ∃ W:Nat→Nat→List V→Hp→Prop,(∃ m,W 0 m [] (upd H1 acc (.lst []))) ∧
    ∀ i m ys H2,W i m ys H2→H2 acc=some (.lst ys)∧ys.length < sizeLine ∧
      (((Itz κ1 κ2).stop i H2∧Qs H2)∨((Itz κ1 κ2).go i H2∧∃ N:List V→Hp→Prop,(∀ ys' H',N ys' H'→∃ m',m' < m∧W (i+1) m' ys' H') ∧
        ∀ x H3,(Itz κ1 κ2).yld i H2 x H3→g x (comp0 NL ix σ) H3 fun σ' H4=>σ'.drop NL.length=ix.map (fun j=>σ.getD j none)∧tt σ' H4 fun b H5=>
          if b=true then te σ' H5 fun v H6=>H6 acc=some (.lst ys)∧N (ys++[v]) (upd H6 acc (.lst (ys++[v]))) else N ys H5)):=by
  refine comp_by xs.length hn Pv hacc h0 (fun ys H2 hp=>⟨⟨xs,zs,(hl _ _ _ hp).1,(hl _ _ _ hp).2,.inl rfl⟩,hstop ys H2 hp⟩) fun i ys H2 hi hp=>?_
  have hs:=hl _ _ _ hp
  refine ⟨⟨xs,zs,xs[i],zs[i],hs.1,hs.2,List.getElem?_eq_getElem hi,List.getElem?_eq_getElem (by omega)⟩,?_⟩
  rintro x H3 ⟨p,x',z',rfl,hpn,rfl,hx,hz⟩
  exact hturn i x' z' ys H2 p (hx xs hs.1) (hz zs hs.2) hp hpn
end
theorem kit_same (K:PySem.W.Frag) (T:String):PySem.W.kitOne K (.type T) (.type T)=some true:=by
  unfold PySem.W.kitOne
  rw [if_pos (beq_self_eq_true _)]
section
variable {p q:Addr} {H H1 H2:Hp} {o:HO} {c d:Int}
end
end L2
namespace L2
open PySem PySem.Spec PyProof.Rows
section
variable {X:Cx}
theorem op_ne_lst (hu:X.A.units < cLine):OpR X (compareOp .NotEq) (fun x y H Q=>∃ a b xs ys,x=.ref a∧y=.ref b∧SqL X.K H a xs∧SqL X.K H b ys∧xs.all flatV=true∧ys.all flatV=true∧Q (.bl (!eqVs xs ys)) H):=by
  intro pins s σ H x y v u Q I rx ry h
  obtain ⟨a,b,xs,ys,rfl,rfl,h1,h2,f1,f2,q⟩:=h
  cases (show v=Value.ref a from rx)
  cases (show u=Value.ref b from ry)
  obtain ⟨us,r1,l1,_⟩:=I.list h1
  obtain ⟨ws,r2,l2,_⟩:=I.list h2
  have e1:=r1.length
  have e2:=r2.length
  by_cases hl:xs.length=ys.length
  · refine SeqAt.RcNeAt.lists (e:=eqAtJ xs ys) l1.isList l2.isList (by simp;omega) hu (fun j g1 g2=>eqAt_items r1 r2 f1 f2 j g1 g2) _ _ _ _ ⟨.bl _,H,I,rfl,?_⟩
    have:eqVs xs ys=(List.range us.toArray.size).all (eqAtJ xs ys):=by
      unfold eqVs
      rw [List.size_toArray,← e1,beq_iff_eq.mpr hl,Bool.true_and]
    rw [← this];exact q
  · refine SeqAt.RcNeAt.lists_lengths l1.isList l2.isList (by simp;omega) hu _ _ _ _ ⟨.bl _,H,I,rfl,?_⟩
    have:eqVs xs ys=false:=by
      unfold eqVs
      have:(xs.length == ys.length)=false:=by simpa using hl
      rw [this];rfl
    rw [this] at q;exact q
end
end L2
namespace L2
open PySem PySem.Spec PyProof.Rows
section
variable {X:Cx}
theorem strsAre_get {vs:List Value} {ss:List Str} (h:StrsAre vs ss):Vals (ss.map V.str) vs:=by
  induction h with
  | nil=>exact .nil
  | cons y t _ ih=>exact .cons ⟨t,rfl⟩ ih
end
end L2
namespace L2
open PySem.W PyProof.Rows
section
variable {α β:Type} {n:Nat} {lt:Nat→Nat→Bool}
def okT (n:Nat) (lt:Nat→Nat→Bool):KasT α→(α→Prop)→Prop
  | .ret a,Q=>Q a
  | .ask i j k,Q=>i < n∧j < n∧okT n lt (k (lt i j)) Q
theorem okT_bind {f:α→KasT β} {Q:β→Prop}:∀ t:KasT α,okT n lt t (fun a=>okT n lt (f a) Q)→okT n lt (t.bind f) Q
  | .ret _,h=>h
  | .ask i j k,h=>⟨h.1,h.2.1,okT_bind (k (lt i j)) h.2.2⟩
structure TotB (n:Nat) (lt:Nat→Nat→Bool):Prop where
  asym:∀ i j,lt i j=true→lt j i=false
  tr:∀ i j k,lt j i=false→lt k j=false→lt k i=false
  tot:∀ i j,i < n→j < n→lt i j=false→lt j i=false→i=j
def PermN (n:Nat) (p:Array Nat):Prop:=p.toList.Perm (List.range n)
abbrev Rise (lt:Nat→Nat→Bool) (p:Array Nat) (m:Nat):Prop:=∀ i j,i < j→j < m→lt (p.getD j 0) (p.getD i 0)=false
abbrev Fall (lt:Nat→Nat→Bool) (p:Array Nat) (m:Nat):Prop:=∀ i j,i < j→j < m→lt (p.getD i 0) (p.getD j 0)=false
theorem PermN.sz {p:Array Nat} (h:PermN n p):p.size=n:=by
  have:=List.Perm.length_eq h
  simpa using this
theorem PermN.below {p:Array Nat} (h:PermN n p) (h0:0 < n) (k:Nat):p.getD k 0 < n:=by
  rw [Array.getD_eq_getD_getElem?]
  cases e:p[k]? with
  | none=>exact h0
  | some x=>
    have:x∈p.toList:=by
      have:=Array.mem_of_getElem? e
      exact Array.mem_toList_iff.mpr this
    exact List.mem_range.mp ((List.Perm.mem_iff h).mp this)
theorem PermN.inj {p:Array Nat} (h:PermN n p) {i j:Nat} (hi:i < n) (hj:j < n) (e:p.getD i 0=p.getD j 0):i=j:=by
  have nd:p.toList.Nodup:=(List.Perm.nodup_iff h).mpr List.nodup_range
  have s:=h.sz
  have hi':i < p.toList.length:=by rw [Array.length_toList,s];exact hi
  have hj':j < p.toList.length:=by rw [Array.length_toList,s];exact hj
  rw [Array.getD_eq_getD_getElem?,Array.getD_eq_getD_getElem?,Array.getElem?_eq_getElem (by omega),Array.getElem?_eq_getElem (by omega)] at e
  have e':p.toList[i]=p.toList[j]:=by simpa using e
  exact (List.getElem_inj nd).mp e'
theorem rev_at {p:Array Nat} {m:Nat} (hm:m≤p.size) (k:Nat):(kas_rev p 0 m).getD k 0=if k < m then p.getD (m - 1 - k) 0 else p.getD k 0:=by
  unfold kas_rev
  rw [Array.getD_eq_getD_getElem?,getElem?_mirror_all hm]
  by_cases h:k < m
  · rw [if_pos ⟨Nat.zero_le _,h⟩,if_pos h,Array.getD_eq_getD_getElem?,Nat.zero_add]
  · rw [if_neg (by omega),if_neg h,Array.getD_eq_getD_getElem?]
theorem rev_perm {p:Array Nat} {m:Nat} (h:PermN n p):PermN n (kas_rev p 0 m):=List.Perm.trans (Array.perm_iff_toList_perm.mp (mirror_perm p 0 m _)) h
theorem rev_rise {p:Array Nat} {m:Nat} (hm:m≤p.size) (h:Fall lt p m):Rise lt (kas_rev p 0 m) m:=fun i j hij hj=>by
  rw [rev_at hm,rev_at hm,if_pos hj,if_pos (by omega)]
  exact h _ _ (by omega) (by omega)
variable (o:TotB n lt)
include o
theorem asc_ok {p:Array Nat} (hp:PermN n p) {Q:Nat→Prop}:∀ f m,1≤m→m+f≤n→Rise lt p m→(∀ k,m≤k→k≤m+f→Rise lt p k→(k=m+f∨lt (p.getD k 0) (p.getD (k - 1) 0)=true)→Q k)→okT n lt (kas_asc p f m) Q
  | 0,m,h1,h2,hr,hq=>hq m (Nat.le_refl _) (Nat.le_refl _) hr (.inl rfl)
  | f+1,m,h1,h2,hr,hq=>by
    refine ⟨hp.below (by omega) _,hp.below (by omega) _,?_⟩
    cases e:lt (p.getD m 0) (p.getD (m - 1) 0) with
    | true=>exact hq m (Nat.le_refl _) (by omega) hr (.inr e)
    | false=>
      refine asc_ok hp f (m+1) (by omega) (by omega) (fun i j hij hj=>?_) fun k a b c d=>hq k (by omega) (by omega) c (by rcases d with d | d;exact .inl (by omega);exact .inr d)
      rcases Nat.lt_or_ge j m with q | q
      · exact hr i j hij q
      · have:j=m:=by omega
        subst this
        rcases Nat.lt_or_ge i (j - 1) with z | z
        · exact o.tr _ _ _ (hr i (j - 1) z (by omega)) e
        · have:i=j - 1:=by omega
          rw [this];exact e
theorem desc_ok {p:Array Nat} (hp:PermN n p) {Q:Array Nat × Nat × Nat→Prop}:∀ f m,1≤m→m+f≤n→Fall lt p m→(∀ k,m≤k→k≤m+f→Fall lt p k→Q (p,k,0))→okT n lt (kas_desc f p m 0) Q
  | 0,m,h1,h2,hr,hq=>hq m (Nat.le_refl _) (Nat.le_refl _) hr
  | f+1,m,h1,h2,hr,hq=>by
    refine ⟨hp.below (by omega) _,hp.below (by omega) _,?_⟩
    cases e:lt (p.getD m 0) (p.getD (m - 1) 0) with
    | true=>
      simp only [if_true,Nat.lt_irrefl,gt_iff_lt,if_false]
      refine desc_ok hp f (m+1) (by omega) (by omega) (fun i j hij hj=>?_) fun k a b c=>hq k (by omega) (by omega) c
      rcases Nat.lt_or_ge j m with q | q
      · exact hr i j hij q
      · have:j=m:=by omega
        subst this
        have e':=o.asym _ _ e
        rcases Nat.lt_or_ge i (j - 1) with z | z
        · exact o.tr _ _ _ e' (hr i (j - 1) z (by omega))
        · have:i=j - 1:=by omega
          rw [this];exact e'
    | false=>
      simp only [Bool.false_eq_true,if_false]
      refine ⟨hp.below (by omega) _,hp.below (by omega) _,?_⟩
      cases d:lt (p.getD (m - 1) 0) (p.getD m 0) with
      | true=>exact hq m (Nat.le_refl _) (by omega) hr
      | false=>
        have z:=hp.inj (by omega) (by omega) (o.tot _ _ (hp.below (by omega) _) (hp.below (by omega) _) d e)
        omega
theorem tail_ok {p:Array Nat} (hp:PermN n p) {Q:Nat × Array Nat→Prop} {m:Nat} (h1:1≤m) (h2:m≤n) (hf:Fall lt p m) (hq:∀ k p',1≤k→k≤n→PermN n p'→Rise lt p' k→Q (k,p')):okT n lt (kas_tail3 m n p) Q:=by
  have s:=hp.sz
  exact okT_bind _ (asc_ok o (rev_perm hp) (n - m) m h1 (by omega) (rev_rise (by omega) hf) fun k a b c _=>hq k _ (by omega) (by omega) (rev_perm hp) c)
theorem part_ok {p:Array Nat} (hp:PermN n p) {Q:Nat × Array Nat→Prop} {m:Nat} (h1:1≤m) (h2:m+1≤n) (hf:Fall lt p (m+1)) (hq:∀ k p',1≤k→k≤n→PermN n p'→Rise lt p' k→Q (k,p')):okT n lt (kas_descPart m n p) Q:=by
  refine okT_bind _ (desc_ok o hp (n - (m+1)) (m+1) (by omega) (by omega) hf fun k a b c=>?_)
  show okT n lt (if 0 > 0 then _ else kas_tail3 k n p) Q
  rw [if_neg (by omega)]
  exact tail_ok o hp (by omega) (by omega) c hq
theorem count_ok {p:Array Nat} (hp:PermN n p) {Q:Nat × Array Nat→Prop} (h1:1≤n) (hq:∀ k p',1≤k→k≤n→PermN n p'→Rise lt p' k→Q (k,p')):okT n lt (kas_count n p) Q:=by
  refine okT_bind _ (asc_ok o hp (n - 1) 1 (Nat.le_refl _) (by omega) (fun i j a b=>by omega) fun k a b c d=>?_)
  by_cases e:k=n
  · rw [if_pos (by rw [e];exact beq_self_eq_true _)]
    exact hq k p a (by omega) hp c
  · rw [if_neg (by simpa using e)]
    have dk:lt (p.getD k 0) (p.getD (k - 1) 0)=true:=by rcases d with d | d;exact absurd (by omega) e;exact d
    by_cases g:k > 1
    · rw [if_pos g]
      refine ⟨hp.below (by omega) _,hp.below (by omega) _,?_⟩
      cases f:lt (p.getD 0 0) (p.getD (k - 1) 0) with
      | true=>exact hq k p a (by omega) hp c
      | false=>
        have z:=hp.inj (by omega) (by omega) (o.tot _ _ (hp.below (by omega) _) (hp.below (by omega) _) f (c 0 (k - 1) (by omega) (by omega)))
        omega
    · rw [if_neg g]
      have hk:k=1:=by omega
      subst hk
      refine part_ok o hp (Nat.le_refl _) (by omega) (fun i j hij hj=>?_) hq
      have:i=0∧j=1:=by omega
      rw [this.1,this.2]
      exact o.asym _ _ dk
theorem place_ok {p:Array Nat} (hp:PermN n p) {k:Nat} (hk:k < n) (hr:Rise lt p k) {Q:Nat→Prop} (hq:∀ x,x≤k→(∀ i,i < x→lt (p.getD k 0) (p.getD i 0)=false)→(∀ i,x≤i→i < k→lt (p.getD k 0) (p.getD i 0)=true)→Q x) :
    ∀ f l r,l≤r→r≤k→r - l≤f→(∀ i,i < l→lt (p.getD k 0) (p.getD i 0)=false)→(∀ i,r≤i→i < k→lt (p.getD k 0) (p.getD i 0)=true)→okT n lt (kas_place p k f l r) Q
  | 0,l,r,h1,h2,h3,a,b=>hq l (by omega) a fun i x y=>b i (by omega) y
  | f+1,l,r,h1,h2,h3,a,b=>by
    unfold kas_place
    by_cases g:l ≥ r
    · rw [if_pos g]
      exact hq l (by omega) a fun i x y=>b i (by omega) y
    · rw [if_neg g]
      refine ⟨hp.below (by omega) _,hp.below (by omega) _,?_⟩
      cases e:lt (p.getD k 0) (p.getD ((l+r) / 2) 0) with
      | true=>
        show okT n lt (kas_place p k f l ((l+r) / 2)) Q
        refine place_ok hp hk hr hq f l ((l+r) / 2) (by omega) (by omega) (by omega) a fun i x y=>?_
        rcases Nat.lt_or_ge ((l+r) / 2) i with z | z
        · cases w:lt (p.getD k 0) (p.getD i 0) with
          | true=>rfl
          | false=>
            have:=o.tr _ _ _ (hr _ i z y) w
            rw [e] at this;cases this
        · have:i=(l+r) / 2:=by omega
          rw [this];exact e
      | false=>
        show okT n lt (kas_place p k f ((l+r) / 2+1) r) Q
        refine place_ok hp hk hr hq f ((l+r) / 2+1) r (by omega) h2 (by omega) (fun i x=>?_) b
        rcases Nat.lt_or_ge i ((l+r) / 2) with z | z
        · exact o.tr _ _ _ (hr i _ z (by omega)) e
        · have:i=(l+r) / 2:=by omega
          rw [this];exact e
theorem bin_ok {Q:Array Nat→Prop} (hq:∀ p,PermN n p→Rise lt p n→Q p):∀ f k (p:Array Nat),k+f=n→PermN n p→Rise lt p k→okT n lt (kas_bin f p k) Q
  | 0,k,p,hk,hp,hr=>by
    have:k=n:=by omega
    subst this
    exact hq p hp hr
  | f+1,k,p,hk,hp,hr=>by
    have s:=hp.sz
    refine okT_bind _ (place_ok o hp (by omega) hr (fun x hx lo hi=>?_) k 0 k (Nat.zero_le _) (Nat.le_refl _) (by omega) (fun i hi=>absurd hi (Nat.not_lt_zero _)) fun i a b=>absurd b (by omega))
    have e:k - (k - x)=x:=by omega
    have at':∀ y,(bubble p k (k - x)).getD y 0=if y=x then p.getD k 0 else if x < y∧y≤k then p.getD (y - 1) 0 else p.getD y 0:=fun y=>by
      rw [Array.getD_eq_getD_getElem?,getElem?_bubble (by omega) (k - x) (by omega) y,e]
      split
      · rw [Array.getD_eq_getD_getElem?]
      · split <;> rw [Array.getD_eq_getD_getElem?]
    refine bin_ok hq f (k+1) _ (by omega) (List.Perm.trans (Array.perm_iff_toList_perm.mp (bubble_perm p k _)) hp) fun i j hij hj=>?_
    rw [at',at']
    by_cases jx:j=x
    · rw [if_pos jx,if_neg (by omega),if_neg (by omega)]
      exact lo i (by omega)
    · rw [if_neg jx]
      by_cases ix:i=x
      · rw [if_pos ix,if_pos ⟨by omega,by omega⟩]
        exact o.asym _ _ (hi (j - 1) (by omega) (by omega))
      · rw [if_neg ix]
        by_cases jg:x < j∧j≤k
        · rw [if_pos jg]
          by_cases ig:x < i∧i≤k
          · rw [if_pos ig];exact hr _ _ (by omega) (by omega)
          · rw [if_neg ig];exact hr _ _ (by omega) (by omega)
        · rw [if_neg jg,if_neg (by omega)];exact hr _ _ hij (by omega)
theorem sort_ok (h1:1≤n):okT n lt (kas_sort n) fun p=>PermN n p∧Rise lt p n:=by
  refine okT_bind _ (count_ok o (by unfold PermN;simp) h1 fun k p a b hp hr=>?_)
  show okT n lt (if k < n then kas_bin (n - max k 1) p (max k 1) else .ret p) _
  by_cases g:k < n
  · rw [if_pos g]
    have e:max k 1=k:=by omega
    rw [e]
    exact bin_ok o (fun p hp hr=>⟨hp,hr⟩) (n - k) k p (by omega) hp hr
  · rw [if_neg g]
    have:k=n:=by omega
    subst this
    exact ⟨hp,hr⟩
end
open PySem PySem.Spec
theorem okT_wp {α:Type} {n:Nat} {lt:Nat→Nat→Bool} {cmp:Nat→Nat→(Bool→Shared→Prop)→Shared→Prop} {J:Shared→Prop} {Q:α→Prop} {G:α→Shared→Prop}
    (hc:∀ i j C s,i < n→j < n→J s→(∀ s',J s'→C (lt i j) s')→cmp i j C s) (hG:∀ a s',Q a→J s'→G a s'):∀ (t:KasT α) (s:Shared),J s→okT n lt t Q→t.kasWp cmp G s
  | .ret a,s,hi,h=>hG a s h hi
  | .ask i j k,s,hi,h=>hc i j _ s h.1 h.2.1 hi fun s' hi'=>okT_wp hc hG (k (lt i j)) s' hi' h.2.2
def shV:V→Nat
  | .int _=>1
  | .str _=>2
  | _=>0
def ltV:V→V→Bool
  | .int i,.int j=>decide (i < j)
  | .str a,.str b=>decide (a.cps.toList < b.cps.toList)
  | _,_=>false
def lexV:List V→List V→Bool
  | x :: xs,y :: ys=>if x=y then lexV xs ys else ltV x y
  | [],_ :: _=>true
  | _,_=>false
theorem str_eq {a b:Str} (h:a.cps.toList=b.cps.toList):a=b:=by
  obtain ⟨x⟩:=a;obtain ⟨y⟩:=b
  have:x=y:=Array.toList_inj.mp h
  rw [this]
theorem two_kinds {x y:V} (hs:shV x=shV y) (h0:shV x≠0):(∃ i j,x=.int i∧y=.int j)∨∃ a b,x=.str a∧y=.str b:=by
  cases x <;> cases y <;> simp [shV] at hs h0 ⊢
theorem ltV_asym {x y:V} (h:ltV x y=true):ltV y x=false:=by
  cases x <;> cases y <;> simp [ltV] at h ⊢
  · omega
  · exact List.not_lt.mp (List.lt_asymm h)
theorem ltV_tot {x y:V} (hs:shV x=shV y) (h0:shV x≠0) (h1:ltV x y=false) (h2:ltV y x=false):x=y:=by
  rcases two_kinds hs h0 with ⟨i,j,rfl,rfl⟩ | ⟨a,b,rfl,rfl⟩
  · have h1':¬ i < j:=of_decide_eq_false h1
    have h2':¬ j < i:=of_decide_eq_false h2
    rw [show i=j by omega]
  · have h1':¬ a.cps.toList < b.cps.toList:=of_decide_eq_false h1
    have h2':¬ b.cps.toList < a.cps.toList:=of_decide_eq_false h2
    rw [str_eq (List.le_antisymm (List.not_lt.mp h2') (List.not_lt.mp h1'))]
theorem ltV_tr {x y z:V} (hs:shV x=shV y) (ht:shV y=shV z) (h0:shV x≠0) (h1:ltV y x=false) (h2:ltV z y=false):ltV z x=false:=by
  rcases two_kinds hs h0 with ⟨i,j,rfl,rfl⟩ | ⟨a,b,rfl,rfl⟩
  · rcases two_kinds ht (by simp [shV]) with ⟨_,k,e,rfl⟩ | ⟨_,_,e,_⟩
    · have h1':¬ j < i:=of_decide_eq_false h1
      cases e
      have h2':¬ k < j:=of_decide_eq_false h2
      exact decide_eq_false (by omega)
    · cases e
  · rcases two_kinds ht (by simp [shV]) with ⟨_,_,e,_⟩ | ⟨_,c,e,rfl⟩
    · cases e
    · cases e
      have h1':¬ b.cps.toList < a.cps.toList:=of_decide_eq_false h1
      have h2':¬ c.cps.toList < b.cps.toList:=of_decide_eq_false h2
      exact decide_eq_false (List.not_lt.mpr (List.le_trans (List.not_lt.mp h1') (List.not_lt.mp h2')))
theorem lexV_asym:∀ (xs ys:List V),lexV xs ys=true→lexV ys xs=false
  | x :: xs,y :: ys,h=>by
    unfold lexV at h ⊢
    by_cases e:x=y
    · rw [if_pos e] at h;rw [if_pos e.symm];exact lexV_asym xs ys h
    · rw [if_neg e] at h;rw [if_neg (Ne.symm e)];exact ltV_asym h
  | [],_ :: _,_=>rfl
  | [],[],h=>by cases h
  | _ :: _,[],h=>by cases h
theorem lexV_tot:∀ (xs ys:List V),xs.map shV=ys.map shV→0 ∉ xs.map shV→lexV xs ys=false→lexV ys xs=false→xs=ys
  | x :: xs,y :: ys,hs,h0,h1,h2=>by
    simp only [List.map_cons,List.cons.injEq] at hs
    simp only [List.map_cons,List.mem_cons,not_or] at h0
    unfold lexV at h1 h2
    by_cases e:x=y
    · rw [if_pos e] at h1;rw [if_pos e.symm] at h2
      rw [e,lexV_tot xs ys hs.2 h0.2 h1 h2]
    · rw [if_neg e] at h1;rw [if_neg (Ne.symm e)] at h2
      exact absurd (ltV_tot hs.1 (Ne.symm h0.1) h1 h2) e
  | [],[],_,_,_,_=>rfl
  | [],_ :: _,hs,_,_,_=>by cases hs
  | _ :: _,[],hs,_,_,_=>by cases hs
theorem lexV_tr:∀ (xs ys zs:List V),xs.map shV=ys.map shV→ys.map shV=zs.map shV→0 ∉ xs.map shV→lexV ys xs=false→lexV zs ys=false→lexV zs xs=false
  | x :: xs,y :: ys,z :: zs,hs,ht,h0,h1,h2=>by
    simp only [List.map_cons,List.cons.injEq] at hs ht
    simp only [List.map_cons,List.mem_cons,not_or] at h0
    unfold lexV at h1 h2 ⊢
    by_cases e:y=x
    · rw [if_pos e] at h1
      by_cases f:z=y
      · rw [if_pos f] at h2;rw [if_pos (f.trans e)];exact lexV_tr xs ys zs hs.2 ht.2 h0.2 h1 h2
      · rw [if_neg f] at h2;rw [if_neg (fun q=>f (q.trans e.symm)),← e];exact h2
    · rw [if_neg e] at h1
      by_cases f:z=y
      · rw [if_pos f] at h2;rw [if_neg (fun q=>e (f.symm.trans q)),f];exact h1
      · rw [if_neg f] at h2
        by_cases g:z=x
        · exact absurd (ltV_tot hs.1.symm (by rw [← hs.1];exact Ne.symm h0.1) h1 (by rw [← g];exact h2)) e
        · rw [if_neg g];exact ltV_tr hs.1 ht.1 (Ne.symm h0.1) h1 h2
  | [],[],[],_,_,_,_,_=>rfl
  | [],_ :: _,_,hs,_,_,_,_=>by cases hs
  | _ :: _,[],_,hs,_,_,_,_=>by cases hs
  | [],[],_ :: _,_,ht,_,_,_=>by cases ht
  | _ :: _,_ :: _,[],_,ht,_,_,_=>by cases ht
structure Keys (n:Nat) (K:Nat→List V) (sh:List Nat):Prop where
  shp:∀ i,(K i).map shV=sh
  ne:sh≠[]
  z:0 ∉ sh
  inj:∀ i j,i < n→j < n→K i=K j→i=j
theorem Keys.tot {n:Nat} {K:Nat→List V} {sh:List Nat} (k:Keys n K sh):TotB n (fun i j=>lexV (K i) (K j)) where
  asym:=fun i j h=>lexV_asym _ _ h
  tr:=fun i j l h1 h2=>lexV_tr _ _ _ ((k.shp i).trans (k.shp j).symm) ((k.shp j).trans (k.shp l).symm) (by rw [k.shp];exact k.z) h1 h2
  tot:=fun i j hi hj h1 h2=>k.inj i j hi hj (lexV_tot _ _ ((k.shp i).trans (k.shp j).symm) (by rw [k.shp];exact k.z) h1 h2)
section
variable {prog:Program} {w:World} {A:Around} {E:Value→Shared→Prop} {s:Shared} {Q:Bool→Shared→Prop}
theorem eq_VB {x y:V} {u v:Value} (hx:RelV x u) (hy:RelV y v) (hs:shV x=shV y) (h0:shV x≠0) (h:Q (decide (x=y)) s):wpAny (model prog w) A (eqBool u v) Q E s:=by
  rcases two_kinds hs h0 with ⟨i,j,rfl,rfl⟩ | ⟨a,b,rfl,rfl⟩
  · obtain ⟨t,rfl⟩:=hx
    obtain ⟨t',rfl⟩:=hy
    refine wpAny_eqBool_int ?_
    have e:(i == j)=decide (V.int i=V.int j):=by by_cases q:i=j <;> simp [q]
    rw [e];exact h
  · obtain ⟨t,rfl⟩:=hx
    obtain ⟨t',rfl⟩:=hy
    refine wpAny_eqBool_str ?_
    have e:decide (a=b)=decide (V.str a=V.str b):=by by_cases q:a=b <;> simp [q]
    rw [e];exact h
theorem lt_VB (flag:Bool) {x y:V} {u v:Value} (hx:RelV x u) (hy:RelV y v) (hs:shV x=shV y) (h0:shV x≠0) (h:Q (ltV x y) s):wpAny (model prog w) A (oneLt' flag u v) Q E s:=by
  rcases two_kinds hs h0 with ⟨i,j,rfl,rfl⟩ | ⟨a,b,rfl,rfl⟩
  · obtain ⟨t,rfl⟩:=hx
    obtain ⟨t',rfl⟩:=hy
    cases flag
    · exact kat_one _ _ (PyProof.Rows.lt_int h)
    · exact oneLt_int h
  · obtain ⟨t,rfl⟩:=hx
    obtain ⟨t',rfl⟩:=hy
    cases flag
    · exact kat_one _ _ (PyProof.Rows.lt_str h)
    · exact oneLt_str h
theorem lex_kat:∀ {xs ys:List V} {us ws:List Value} (i:Nat),Vals xs us→Vals ys ws→xs.map shV=ys.map shV→0 ∉ xs.map shV→Q (lexV xs ys) s→KatLex prog w A true false Q (us.zip ws) i s
  | [],[],_,_,i,.nil,.nil,_,_,h=>kat_nil h
  | x :: xs,y :: ys,_,_,i,.cons (b:=u) r1 t1,.cons (b:=v) r2 t2,hs,h0,h=>by
    simp only [List.map_cons,List.cons.injEq] at hs
    simp only [List.map_cons,List.mem_cons,not_or] at h0
    rw [List.zip_cons_cons]
    refine kat_cons (eq_VB r1 r2 hs.1 (Ne.symm h0.1) ?_)
    unfold lexV at h
    by_cases e:x=y
    · rw [if_pos e] at h
      rw [decide_eq_true e]
      exact kat_yes (lex_kat (i+1) t1 t2 hs.2 h0.2 h)
    · rw [if_neg e] at h
      rw [decide_eq_false e]
      exact kat_no (lt_VB _ r1 r2 hs.1 (Ne.symm h0.1) h)
  | [],_ :: _,_,_,_,_,_,hs,_,_=>by cases hs
  | _ :: _,[],_,_,_,_,_,hs,_,_=>by cases hs
def KeysOn (h:Heap) (ks:List Value) (K:Nat→List V):Prop:=∀ (i:Nat) (v:Value),ks[i]?=some v→∃ a its,v=.ref a∧IsTup h a its.toArray∧Vals (K i) its
theorem KeysOn.keeps {h h':Heap} {ks:List Value} {K:Nat→List V} (x:KeysOn h ks K) (k:∀ b o,o.cls=.type "tuple" → h.get? b=some o→h'.get? b=some o):KeysOn h' ks K:=fun i v hv=>by
  obtain ⟨a,its,rfl,⟨o,ho,hc,r⟩,q⟩:=x i v hv
  exact ⟨a,its,rfl,⟨o,k _ _ hc ho,hc,r⟩,q⟩
theorem katTups_of {h:Heap}:∀ (ks:List Value) (K:Nat→List V),KeysOn h ks K→(∀ i,K i≠[])→∃ fs,KatTups h ks fs∧fs.length=ks.length∧∀ f∈fs,∃ i x r,K i=x :: r∧RelV x f
  | [],K,_,_=>⟨[],.nil,rfl,fun _ h=>nomatch h⟩
  | v :: ks,K,hk,ne=>by
    obtain ⟨a,its,rfl,⟨o,ho,hc,n,hd⟩,r⟩:=hk 0 v rfl
    obtain ⟨fs,t,l,q⟩:=katTups_of ks (fun i=>K (i+1)) (fun i v hv=>hk (i+1) v (by simpa using hv)) fun i=>ne (i+1)
    cases e:K 0 with
    | nil=>exact absurd e (ne 0)
    | cons x rr=>
      rw [e] at r
      cases r with
      | cons rx rt=>
        refine ⟨_ :: fs,.cons ho hc hd rfl t,by simp [l],fun f hf=>?_⟩
        rcases List.mem_cons.mp hf with rfl | hf
        · exact ⟨0,x,rr,e,rx⟩
        · obtain ⟨i,x,r,h1,h2⟩:=q f hf
          exact ⟨i+1,x,r,h1,h2⟩
theorem looks_ty {M:Model} {h:Heap} {x:V} {u:Value} (r:RelV x u) (h0:shV x≠0):Looks M h (typeOf u) (.type (if shV x=1 then "int" else "str")):=by
  rcases two_kinds (rfl:shV x=shV x) h0 with ⟨i,_,rfl,_⟩ | ⟨a,_,rfl,_⟩
  · obtain ⟨t,rfl⟩:=r;exact Looks.now
  · obtain ⟨t,rfl⟩:=r;exact Looks.now
variable {n:Nat} {K:Nat→List V} {sh:List Nat} {ks:List Value}
theorem keys_kind {Q:SortKind→Shared→Prop} (k:Keys n K sh) (hk:KeysOn s.heap ks K) (h1:0 < ks.length) (h:Q (tuples' true) s):wpAny (model prog w) A (keyKind' ks.toArray) Q E s:=by
  have ne:∀ i,K i≠[]:=fun i e=>k.ne (by rw [← k.shp i,e];rfl)
  obtain ⟨fs,t,l,q⟩:=katTups_of ks K hk ne
  obtain ⟨d,dr,hd⟩:∃ d dr,sh=d :: dr:=by
    cases e:sh with
    | nil=>exact absurd e k.ne
    | cons d dr=>exact ⟨d,dr,rfl⟩
  refine kat_kind (T:=.type (if d=1 then "int" else "str")) t (by omega) (fun v hv=>?_) (by split <;> rfl) (by split <;> exact h)
  obtain ⟨i,x,r,e,rx⟩:=q v hv
  have e2:=k.shp i
  rw [e,hd,List.map_cons] at e2
  have e3:shV x=d:=(List.cons.inj e2).1
  rw [← e3]
  exact looks_ty rx (fun z=>k.z (by rw [hd,← e3,z];exact List.mem_cons_self))
theorem keys_run {G:Array Nat→Shared→Prop} (k:Keys n K sh) (hk:KeysOn s.heap ks K) (hl:ks.length=n) (h1:1≤n) (h:∀ p,PermN n p→Rise (fun i j=>lexV (K i) (K j)) p n→G p s) :
    (kas_sort n).kasWp (kas_ask prog w A (tuples' true) ks) G s:=by
  refine okT_wp (n:=n) (lt:=fun i j=>lexV (K i) (K j)) (J:=fun s'=>s'=s) (Q:=fun p=>PermN n p∧Rise (fun i j=>lexV (K i) (K j)) p n) (fun i j C s' hi hj es hC=>?_) (fun p s' hp es=>?_) _ s rfl (sort_ok k.tot h1)
  · subst es
    have gi:ks[i]?=some ks[i]:=List.getElem?_eq_getElem (by omega)
    have gj:ks[j]?=some ks[j]:=List.getElem?_eq_getElem (by omega)
    obtain ⟨a,xs,ea,⟨o,ho,_,m,hd⟩,r1⟩:=hk i _ gi
    obtain ⟨b,ys,eb,⟨o',ho',_,m',hd'⟩,r2⟩:=hk j _ gj
    unfold kas_ask
    rw [List.getD_eq_getElem?_getD,List.getD_eq_getElem?_getD,gi,gj,Option.getD_some,Option.getD_some,ea,eb]
    have l1:=r1.length
    have l2:=r2.length
    have l3:(K i).length=(K j).length:=by
      have:=congrArg List.length ((k.shp i).trans (k.shp j).symm)
      simpa using this
    have ef:decide (xs.toArray.size < ys.toArray.size)=false:=by
      rw [List.size_toArray,List.size_toArray];exact decide_eq_false (by omega)
    refine kat_lt ho hd ho' hd' ?_
    rw [ef]
    exact lex_kat 0 r1 r2 ((k.shp i).trans (k.shp j).symm) (by rw [k.shp];exact k.z) (hC _ rfl)
  · subst es
    exact h p hp.1 hp.2
end
end L2
namespace L2
open PySem PySem.Spec PyProof.Rows PySem.W
theorem vals_refs:∀ {as:List Addr} {its:List Value},Vals (as.map V.ref) its→its=as.map Value.ref
  | [],_,.nil=>rfl
  | a :: as,_,.cons r t=>by
    cases (show _=Value.ref a from r)
    rw [vals_refs t];rfl
theorem refs_vals (as:List Addr):Vals (as.map V.ref) (as.map Value.ref):=by
  induction as with
  | nil=>exact .nil
  | cons a r ih=>exact .cons rfl ih
section
variable {prog:Program} {w:World} {A:Around} {E:Value→Shared→Prop} {s:Shared} {K:Nat→List V} {sh:List Nat} {vs:List Value}
abbrev outOf (vs:List Value) (p:Array Nat):List Value:=p.toList.map fun i=>vs.getD i Value.none
theorem few_out {xs:Array Value} (hl:xs.size=vs.length) (h2:vs.length < 2):(xs.zip vs.toArray).map (·.2)=(outOf vs (List.range vs.length).toArray).toArray:=by
  apply Array.toList_inj.mp
  match vs,h2 with
  | [],_=>
    have:xs=#[]:=Array.eq_empty_of_size_eq_zero (by simpa using hl)
    subst this;simp [outOf]
  | [v],_=>
    obtain ⟨x,rfl⟩:∃ x,xs=#[x]:=Array.size_eq_one_iff.mp (by simpa using hl)
    simp [outOf]
theorem range_perm (n:Nat):PermN n (List.range n).toArray:=by unfold PermN;simp
theorem plain_sort {D:Addr} {c0:Nat} {P:PySem.Fin→Shared→Prop} (hD:s.heap.get? D=some (seqObj "list" vs.toArray c0)) (h64:vs.length < 64) (k:Keys vs.length K sh) (hk:KeysOn s.heap vs K)
    (h:∀ (p:Array Nat) (h':Heap) (c:Nat),PermN vs.length p→Rise (fun i j=>lexV (K i) (K j)) p vs.length→(∀ b o,b≠D→s.heap.get? b=some o→h'.get? b=some o) →
      h'.get? D=some (seqObj "list" (outOf vs p).toArray c)→P (.done (.ret .none)) { s with heap:=h' }) :
    wpAny (model prog w) A (Builtin.«list.sort» ⟨[.ref D],[]⟩) P E s:=by
  have ltD:D < s.heap.objs.size:=Heap.lt_size hD
  rw [list_sort_plain]
  refine wpAny_bind (listItems_at (a:=D) hD rfl ?_)
  refine wpAny_bind (listUpdate_at (a:=D) hD rfl ?_ (by rw [List.size_toArray,sizeLine_eq];omega) (Nat.zero_le _))
  obtain ⟨e1,hD1⟩:∃ e1,(s.heap.update D (Obj.mapSeq fun _=>#[])).get? D=some (seqObj "list" #[] e1):=⟨_,get?_update_seq hD (fun _=>#[])⟩
  refine wpAny_bind (seqEpoch_at (a:=D) hD1 rfl ?_)
  refine wpAny_bind (wpAny_newTuple ?_ (by show vs.length≤_;rw [sizeLine_eq];omega))
  refine wpAny_bind (wpAny_newList ?_ (Nat.zero_le _))
  refine wpAny_holding ?_
  generalize hg:((s.heap.update D (Obj.mapSeq fun _=>#[])).push (seqObj "tuple" vs.toArray 0)).push (seqObj "list" #[] 0)=g
  have keep:∀ b o,b≠D→s.heap.get? b=some o→g.get? b=some o:=fun b o hb e=>by
    rw [← hg]
    exact Heap.get?_push_of_some _ (Heap.get?_push_of_some _ ((Heap.get?_update_ne _ _ _ _ hb).trans e))
  have hDg:g.get? D=some (seqObj "list" #[] e1):=by
    rw [← hg]
    exact Heap.get?_push_of_some _ (Heap.get?_push_of_some _ hD1)
  have hkg:KeysOn g vs K:=hk.keeps fun b o hc e=>keep b o (fun z=>by subst z;rw [hD] at e;cases e;exact absurd (Value.type.inj hc) (by decide)) e
  have sz:vs.toArray.size=vs.length:=List.size_toArray ..
  have fin:∀ (p:Array Nat),PermN vs.length p→Rise (fun i j=>lexV (K i) (K j)) p vs.length →
      P (.done (.ret .none)) { s with heap:=g.update D (Obj.mapSeq fun _=>(outOf vs p).toArray) }:=fun p hp hr=>
    h p _ _ hp hr (fun b o hb e=>(Heap.get?_update_ne _ _ _ _ hb).trans (keep b o hb e)) (get?_update_seq hDg _)
  have fit:∀ (p:Array Nat),PermN vs.length p→(outOf vs p).toArray.size≤sizeLine+1:=fun p hp=>by
    rw [List.size_toArray,List.length_map,Array.length_toList,hp.sz,sizeLine_eq];omega
  show wpAny (model prog w) A _ P E { s with heap:=g }
  dsimp only
  by_cases h2:vs.toArray.size < 2
  · rw [if_pos h2,if_pos h2]
    refine wpAny_bind (wpAny_pure ?_)
    rw [StateT.run_pure]
    refine wpAny_bind (wpAny_pure ?_)
    dsimp only
    have eo:(arrOf (SortSt.mk' general' (vs.toArray.zip vs.toArray) #[] 7 none)).map (·.2)=(outOf vs (List.range vs.length).toArray).toArray:=few_out sz (by omega)
    rw [eo]
    refine wpAny_bind (seqEpoch_at (a:=D) (s:={ s with heap:=g }) hDg rfl ?_)
    refine wpAny_bind (listUpdate_at (a:=D) (s:={ s with heap:=g }) hDg rfl ?_ (Nat.zero_le _) (fit _ (range_perm _)))
    simp only [bne_self_eq_false,Bool.false_eq_true,if_false]
    exact wpAny_pure (fin _ (range_perm _) fun i j hij hj=>by omega)
  · rw [if_neg h2,if_neg h2]
    refine wpAny_bind (keys_kind (s:={ s with heap:=g }) (n:=vs.length) k hkg (by omega) ?_)
    refine wpAny_bind (wpAny_mono (kat_run (ks:=vs) (vs:=vs) (s:={ s with heap:=g }) (Q:=fun st' s'=>∃ p:Array Nat,s'={ s with heap:=g }∧PermN vs.length p∧Rise (fun i j=>lexV (K i) (K j)) p vs.length∧arrOf st'=p.map (kas_item (vs.toArray.zip vs.toArray))∧failedOf st'=none)
      (G:=fun p s'=>s'={ s with heap:=g }∧PermN vs.length p∧Rise (fun i j=>lexV (K i) (K j)) p vs.length) rfl (by omega) h64 (fun p st' s' a1 a2 a3 a4=>⟨p,a4.1,a4.2.1,a4.2.2,a2,a3⟩)
      (keys_run (s:={ s with heap:=g }) k hkg rfl (by omega) fun p hp hr=>⟨rfl,hp,hr⟩)) ?_ fun _ _ e=>e)
    rintro ⟨⟨⟩,st'⟩ s' ⟨p,rfl,hp,hr,har,hf⟩
    dsimp only
    rw [kat_snds rfl har]
    refine wpAny_bind (seqEpoch_at (a:=D) (s:={ s with heap:=g }) hDg rfl ?_)
    refine wpAny_bind (listUpdate_at (a:=D) (s:={ s with heap:=g }) hDg rfl ?_ (Nat.zero_le _) (fit p hp))
    rw [hf]
    simp only [bne_self_eq_false,Bool.false_eq_true,if_false]
    exact wpAny_pure (fin p hp hr)
end
theorem out_refs (as:List Addr) (p:Array Nat) (hp:PermN as.length p):outOf (as.map Value.ref) p=(p.toList.map fun i=>as.getD i 0).map Value.ref:=by
  unfold outOf
  rw [List.map_map]
  refine List.map_congr_left fun i hi=>?_
  have hi':i < as.length:=List.mem_range.mp ((List.Perm.mem_iff hp).mp hi)
  show (as.map Value.ref).getD i Value.none=Value.ref (as.getD i 0)
  rw [List.getD_eq_getElem?_getD,List.getD_eq_getElem?_getD,List.getElem?_map,List.getElem?_eq_getElem hi'];rfl
theorem rise_list {n:Nat} {lt:Nat→Nat→Bool} {p:Array Nat} (h:Rise lt p n):∀ i j,i < j→j < n→lt (p.toList.getD j 0) (p.toList.getD i 0)=false:=fun i j a b=>by
  have:=h i j a b
  rw [Array.getD_eq_getD_getElem?,Array.getD_eq_getD_getElem?] at this
  rw [List.getD_eq_getElem?_getD,List.getD_eq_getElem?_getD,Array.getElem?_toList,Array.getElem?_toList];exact this
section
variable {X:Cx}
theorem call_sorted_tups:CallR X (.builtin "sorted") (fun vs H Q=>∃ (a:Addr) (as:List Addr) (K:Nat→List V) (sh:List Nat),vs=[.ref a]∧SqL X.K H a (as.map V.ref)∧as.length < 64∧(∀ i b,as[i]?=some b→SqT X.K H b (K i))∧Keys as.length K sh ∧
    ∀ (p:List Nat) (l:Addr),p.Perm (List.range as.length)→(∀ i j,i < j→j < as.length→lexV (K (p.getD j 0)) (K (p.getD i 0))=false)→H l=none→Q (.ref l) (upd H l (.lst ((p.map fun i=>as.getD i 0).map V.ref)))):=by
  intro pins s σ H xs us Q I r h
  obtain ⟨a,as,K,sh,rfl,hl,h64,hT,k,q⟩:=h
  obtain ⟨u,rfl,ru⟩:=vals1 r
  cases (show u=Value.ref a from ru)
  obtain ⟨its,rv,ht,hz⟩:=I.list hl
  have ei:=vals_refs rv
  subst ei
  have lm:(as.map Value.ref).length=as.length:=List.length_map _
  have fz:(as.map Value.ref).length≤sizeLine:=by rw [lm,sizeLine_eq];omega
  refine Calls.call_function_entry kind_sorted plain_sorted entry_sorted (args_sorted1 _) ?_
  unfold Builtin.«sorted»
  refine wpAny_bind (m:=checkCount "sorted" 1 1 _) (wpAny_pure ?_)
  refine wpAny_bind (collect_list (l:=a) ht.isList ?_ fz)
  refine wpAny_bind (wpAny_newList ?_ fz)
  generalize hg:(s.heap.push (seqObj "list" #[] 0)).update s.heap.objs.size (Obj.mapSeq (·++(as.map Value.ref).toArray))=g
  have szg:g.objs.size=s.heap.objs.size+1:=by rw [← hg,Heap.size_update,size_push']
  have kg:∀ b o,s.heap.get? b=some o→g.get? b=some o:=fun b o e=>by
    have hlt:b≠s.heap.objs.size:=Nat.ne_of_lt (Heap.lt_size e)
    rw [← hg,Heap.get?_update_ne _ _ _ _ hlt]
    exact Heap.get?_push_of_some _ e
  have hDL:(g.push (seqObj "list" (as.map Value.ref).toArray 0)).get? g.objs.size=some (seqObj "list" (as.map Value.ref).toArray 0):=Heap.get?_push_size _ rfl
  have kp1:∀ b o,s.heap.get? b=some o→(g.push (seqObj "list" (as.map Value.ref).toArray 0)).get? b=some o:=fun b o e=>Heap.get?_push_of_some _ (kg b o e)
  have hks:KeysOn (g.push (seqObj "list" (as.map Value.ref).toArray 0)) (as.map Value.ref) K:=fun i v hv=>by
    rw [List.getElem?_map] at hv
    cases e:as[i]? with
    | none=>rw [e] at hv;cases hv
    | some b=>
      rw [e] at hv
      cases hv
      obtain ⟨ys,ry,⟨o,ho,r⟩,_⟩:=I.tuple (hT i b e)
      exact ⟨b,ys,rfl,⟨o,kp1 _ _ ho,r⟩,ry⟩
  refine wpAny_bind (wpAny_holding (wpAny_call_entry slot_list_sort ⟨_,hDL,rfl⟩ entry_list_sort (plain_sort (s:={ s with heap:=g.push (seqObj "list" (as.map Value.ref).toArray 0) }) hDL (by rw [lm];exact h64) (by rw [lm];exact k) hks fun p h' c hp hr kp at'=>⟨_,rfl,?_⟩) (args_list_sort _)))
  rw [lm] at hp hr
  rw [out_refs as p hp] at at'
  refine wpAny_pure ⟨_,rfl,⟨.ref g.objs.size,_,I.laid (t':=s.toks) (fun b o e=>kp b o (Nat.ne_of_lt (Nat.lt_of_lt_of_le (Heap.lt_size e) (show s.heap.objs.size≤g.objs.size by omega))) (kp1 b o e)) (show s.heap.objs.size≤g.objs.size by omega) ?_,rfl,q p.toList g.objs.size hp (rise_list hr) (I.hok.fresh (show s.heap.objs.size≤g.objs.size by omega))⟩⟩
  have lp:(p.toList.map fun i=>as.getD i 0).length=as.length:=by rw [List.length_map,Array.length_toList,hp.sz]
  exact ⟨by rw [List.length_map,lp,sizeLine_eq];omega,_,_,refs_vals _,at'⟩
end
end L2
namespace L2
open PySem PySem.Spec PyProof.Rows PySem.W
section
variable {X:Cx} {pins:List (Addr × Obj)} {σ:St} {H:Hp} {s:Shared}
theorem Inv.adopt {D:Addr} {o:HO} {h':Heap} {t':Nat} {oD:Obj} (I:Inv X pins σ H s) (f:FpOk X pins H D) (k:∀ b u,b≠D→s.heap.get? b=some u→h'.get? b=some u) (new:ObjOk X.prog X.w (upd H D o) h' D o) (hD:s.heap.get? D=some oD) :
    Inv X pins σ (upd H D o) { s with heap:=h',toks:=t' }:=by
  have nD:∀ b u,H b=some u→b≠D:=fun b u e=>ne_of_none e f.1
  refine I.step (g':=s.gens) (d':=s.drawn) (ch:=[D]) (fun b hb=>?_) (fun b u _ _ hc e _=>k b u (fun z=>hc (by simp [z])) e) (fun b u _ _ hc e _=>⟨u.slots,k b u (fun z=>hc (by simp [z])) e⟩)
    (fun b u hc e n=>by rw [upd_ne (fun z=>hc (by simp [z]))];exact n) (fun b u hc e=>⟨u,k b u (fun z=>hc (by simp [z])) e⟩)
    (fun b xs e=>by rw [upd_ne (nD b _ e)];exact e) (fun b ob u e=>by rw [upd_ne (nD b _ e)];exact e) (fun b ps e=>⟨#[],by rw [upd_ne (nD b _ e),e];simp⟩) (fun m hm=>?_) (fun b u e=>?_) I.bare
  · have e:b=D:=by simpa using hb
    subst e
    exact ⟨f.2.2.2.1,f.2.1,f.2.2.2.2.1,f.2.2.2.2.2⟩
  · obtain ⟨ob,es,ep,ho,r⟩:=hm
    exact ⟨ob,es,ep,k _ ob (Ne.symm f.2.1) ho,r⟩
  · by_cases hb:b=D
    · subst hb;rw [upd_same] at e;cases e;exact new
    · rw [upd_ne hb] at e
      refine (I.hok b u e).stay (fun c v hc q=>k c v ?_ q) (fun c q=>by rw [upd_ne (nD c _ q)];exact q) fun c xs q=>by rw [upd_ne (nD c _ q)];exact q
      rcases hc with z | z
      · rw [z];exact hb
      · exact nD c _ z
def KeyFn (X:Cx) (A1:Around) (pins0:List (Addr × Obj)) (σ:St) (H0:Hp) (fv:Value) (vs:List Value) (K:Nat→List V):Prop:=
  ∀ (i:Nat) (v:Value) (pins:List (Addr × Obj)) (H:Hp) (s:Shared),vs[i]?=some v→(∀ p∈pins0,p∈pins)→Inv X pins σ H s→Same H0 H →
    wpAny (model X.prog X.w) A1 (call fv [v]) (EP X pins σ fun k H'=>∃ a,k=.ref a∧H' a=some (.tup (K i))∧Same H H') (fun _ _=>False) s
theorem keysOn_of {as:List Addr} {K:Nat→List V} (I:Inv X pins σ H s) (h:∀ j a,as[j]?=some a→H a=some (.tup (K j))):KeysOn s.heap (as.map Value.ref) K:=fun i v hv=>by
  rw [List.getElem?_map] at hv
  cases e:as[i]? with
  | none=>rw [e] at hv;cases hv
  | some b=>
    rw [e] at hv
    cases hv
    obtain ⟨_,ys,ry,t⟩:=I.hok b _ (h i b e)
    exact ⟨b,ys,rfl,t,ry⟩
theorem key_sort {A1:Around} {E:Value→Shared→Prop} {D fa:Addr} {c0:Nat} {vs:List Value} {vV:List V} {K:Nat→List V} {sh:List Nat} {P:PySem.Fin→Shared→Prop} (I:Inv X pins σ H s) (hD:s.heap.get? D=some (seqObj "list" vs.toArray c0)) (fD:FpOk X pins H D)
    (rv:Vals vV vs) (h64:vs.length < 64) (k:Keys vs.length K sh) (F:KeyFn X A1 pins σ H (.ref fa) vs K)
    (h:∀ (p:Array Nat) (H':Hp) (s':Shared) (c:Nat),PermN vs.length p→Rise (fun i j=>lexV (K i) (K j)) p vs.length→Same H H'→H' D=none→Inv X pins σ (upd H' D (.lst (p.toList.map fun i=>vV.getD i .non))) s'→P (.done (.ret .none)) s') :
    wpAny (model X.prog X.w) A1 (ksk_tree D (.ref fa) false) P E s:=by
  have lv:=rv.length
  unfold ksk_tree
  refine wpAny_bind (listItems_at (a:=D) hD rfl ?_)
  refine wpAny_bind (listUpdate_at (a:=D) hD rfl ?_ (by rw [List.size_toArray,sizeLine_eq];omega) (Nat.zero_le _))
  obtain ⟨e1,hD1⟩:∃ e1,(s.heap.update D (Obj.mapSeq fun _=>#[])).get? D=some (seqObj "list" #[] e1):=⟨_,get?_update_seq hD (fun _=>#[])⟩
  have I1:Inv X pins σ H { s with heap:=s.heap.update D (Obj.mapSeq fun _=>#[]),toks:=s.toks }:=I.turned (t':=s.toks) (fun b o hb e=>(Heap.get?_update_ne _ _ _ _ hb).trans e) fD.1 fD.2.1 fD.2.2.2.1 fD.2.2.2.2.1 fD.2.2.2.2.2
  refine wpAny_bind (seqEpoch_at (a:=D) hD1 rfl ?_)
  refine wpAny_bind (wpAny_newTuple ?_ (by show vs.length≤_;rw [sizeLine_eq];omega))
  have I2:Inv X pins σ H { s with heap:=(s.heap.update D (Obj.mapSeq fun _=>#[])).push (seqObj "tuple" vs.toArray 0),toks:=s.toks }:=I1.kept (t':=s.toks) fun b o e=>Heap.get?_push_of_some _ e
  have hD2:((s.heap.update D (Obj.mapSeq fun _=>#[])).push (seqObj "tuple" vs.toArray 0)).get? D=some (seqObj "list" #[] e1):=Heap.get?_push_of_some _ hD1
  generalize hg2:(s.heap.update D (Obj.mapSeq fun _=>#[])).push (seqObj "tuple" vs.toArray 0)=g2 at I2 hD2
  have e2:((s.heap.update D (Obj.mapSeq fun _=>(#[]:Array Value))).push { cls:=.type "tuple", data:=.seq vs.toArray })=g2:=hg2
  refine wpAny_bind (wpAny_newList ?_ (Nat.zero_le _))
  refine wpAny_holding ?_
  have fk:H g2.objs.size=none:=I2.hok.fresh (Nat.le_refl _)
  have I3:Inv X pins σ (upd H g2.objs.size (.lst [])) { s with heap:=g2.push { cls:=.type "list", data:=.seq ([]:List Value).toArray },toks:=s.toks }:=I2.lnew (its:=[]) (t':=s.toks) .nil (Nat.zero_le _)
  have hD3:(g2.push { cls:=.type "list", data:=.seq ([]:List Value).toArray }).get? D=some (seqObj "list" #[] e1):=Heap.get?_push_of_some _ hD2
  have kD:g2.objs.size≠D:=Nat.ne_of_gt (Heap.lt_size hD2)
  simp only [e2]
  generalize hkS:g2.objs.size=kS at I3 fk kD ⊢
  have fD3:FpOk X pins (upd H kS (.lst [])) D:=⟨by rw [upd_ne (Ne.symm kD)];exact fD.1,fD.2⟩
  have I4:Inv X (pins++[(D,seqObj "list" #[] e1)]) σ (upd H kS (.lst [])) { s with heap:=g2.push { cls:=.type "list", data:=.seq ([]:List Value).toArray },toks:=s.toks }:=I3.pins_of fun p hp=>by
    rcases List.mem_append.mp hp with q | q
    · exact I3.pin p (List.mem_append_right _ q)
    · obtain rfl:p=(D,seqObj "list" #[] e1):=by simpa using q
      exact ⟨hD3,fD3.1,fD3.2.1,fD3.2.2.1,fun v z=>by cases z⟩
  generalize ({ s with heap:=g2.push { cls:=.type "list", data:=.seq ([]:List Value).toArray },toks:=s.toks }:Shared)=s4 at I4 ⊢
  unfold ksk_rest
  refine wpAny_bind (wpAny_rule ?_)
  rw [List.forIn_toArray]
  refine wpAny_bind (ksk_fold (fun i s'=>∃ (H':Hp) (as:List Addr),Inv X (pins++[(D,seqObj "list" #[] e1)]) σ H' s'∧Same H H'∧H' kS=some (.lst (as.map V.ref))∧as.length=i∧∀ j a,as[j]?=some a→H' a=some (.tup (K j))) vs 0 s4
    ⟨_,[],I4,(Same.refl H).new fk,upd_same,rfl,fun j a e=>by simp at e⟩ (fun j x s' hx hJ=>?_) fun s' hJ=>?_)
  · obtain ⟨H',as,I',S',hk',hl',ht'⟩:=hJ
    rw [Nat.zero_add] at hl' ⊢
    refine wpAny_bind (wpAny_attempt (wpAny_mono (F j x _ H' s' hx (fun p hp=>List.mem_append_left _ hp) I' S') (fun u s'' hu=>?_) fun _ _ z=>z.elim))
    obtain ⟨v,H'',I'',ru,a,rfl,ha,S''⟩:=hu
    cases (show u=Value.ref a from ru)
    have hk'':=S'' _ _ hk'
    obtain ⟨z,its,m,r,hl,e⟩:=I''.lstM hk''
    have jl:j < vs.length:=(List.getElem?_eq_some_iff.mp hx).1
    have il:its.length=j:=by rw [← hl,List.length_map,hl']
    dsimp only
    refine wpAny_bind (listUpdate_at (a:=kS) e rfl ?_ (by rw [List.size_toArray,sizeLine_eq];omega) (by rw [Array.size_push,List.size_toArray,sizeLine_eq];omega))
    refine wpAny_pure ⟨rfl,_,as++[a],I''.lset (ys:=as.map V.ref++[V.ref a]) (its':=its++[.ref a]) (t':=s''.toks) hk'' e (by simp) (r.append (.cons (show RelV (V.ref a) (Value.ref a) from rfl) .nil)) (by rw [List.length_append,List.length_map,List.length_singleton,sizeLine_eq];omega),(S'.trans S'').write fk,by rw [upd_same,List.map_append];rfl,by simp [hl'],fun i b hb=>?_⟩
    rcases Nat.lt_or_ge i as.length with q | q
    · rw [List.getElem?_append_left q] at hb
      have:=S'' _ _ (ht' i b hb)
      rw [upd_ne (ne_of this hk'' (by intro z;cases z))];exact this
    · rw [List.getElem?_append_right q] at hb
      have q0:i - as.length=0:=by
        rcases Nat.eq_zero_or_pos (i - as.length) with z | z
        · exact z
        · rw [List.getElem?_eq_none (by simp;omega)] at hb;cases hb
      rw [q0] at hb
      have eb:a=b:=by simpa using hb
      subst eb
      have ei:i=j:=by omega
      subst ei
      rw [upd_ne (ne_of ha hk'' (by intro z;cases z))];exact ha
  · obtain ⟨H',as,I',S',hk',hl',ht'⟩:=hJ
    rw [Nat.zero_add] at hl'
    obtain ⟨z,its,m,r,hl,e⟩:=I'.lstM hk'
    have ei:=vals_refs r
    subst ei
    have lm:(as.map Value.ref).length=vs.length:=by rw [List.length_map,hl']
    refine wpAny_bind (listItems_at (a:=kS) e rfl ?_)
    have hks:KeysOn s'.heap (as.map Value.ref) K:=keysOn_of I' ht'
    have fin:∀ (st:SortSt) (p:Array Nat),PermN vs.length p→Rise (fun i j=>lexV (K i) (K j)) p vs.length→(arrOf st).map (·.2)=(outOf vs p).toArray→failedOf st=none→wpAny (model X.prog X.w) A1 (ksk_tail D false e1 (.ref kS) st) P E s':=fun st p hp hr ho hf=>by
      have pD:s'.heap.get? D=some (seqObj "list" #[] e1):=(I'.pin (D,seqObj "list" #[] e1) (List.mem_append_right _ (List.mem_append_right _ List.mem_cons_self))).1
      have nD:H' D=none:=(I'.pin (D,seqObj "list" #[] e1) (List.mem_append_right _ (List.mem_append_right _ List.mem_cons_self))).2.1
      unfold ksk_tail
      dsimp only
      rw [ho]
      refine wpAny_bind (listUpdate_at (a:=kS) e rfl ?_ (by rw [List.size_toArray,lm,sizeLine_eq];omega) (Nat.zero_le _))
      refine wpAny_bind (wpAny_letGo ?_)
      have I5:=I'.lset (its':=[]) (ys:=[]) (t':=s'.toks) (f:=fun _=>#[]) hk' e rfl .nil (Nat.zero_le _)
      have pD5:(s'.heap.update kS (Obj.mapSeq fun _=>#[])).get? D=some (seqObj "list" #[] e1):=(Heap.get?_update_ne _ _ _ _ (Ne.symm kD)).trans pD
      refine wpAny_bind (seqEpoch_at (a:=D) (s:={ s' with heap:=s'.heap.update kS (Obj.mapSeq fun _=>#[]) }) pD5 rfl ?_)
      refine wpAny_bind (listUpdate_at (a:=D) (s:={ s' with heap:=s'.heap.update kS (Obj.mapSeq fun _=>#[]) }) pD5 rfl ?_ (Nat.zero_le _) (by rw [if_neg (by simp),List.size_toArray,List.length_map,Array.length_toList,hp.sz,sizeLine_eq];omega))
      rw [hf]
      simp only [bne_self_eq_false,Bool.false_eq_true,if_false]
      refine wpAny_pure (h p (upd H' kS (.lst [])) _ 0 hp hr (S'.write fk) (by rw [upd_ne (Ne.symm kD)];exact nD) ?_)
      refine Inv.adopt (s:={ s' with heap:=s'.heap.update kS (Obj.mapSeq fun _=>#[]),toks:=s'.toks }) (t':=s'.toks) I5.unpinned ⟨by rw [upd_ne (Ne.symm kD)];exact nD,fD.2⟩ (fun b u hb q=>(Heap.get?_update_ne _ _ _ _ hb).trans q) ?_ pD5
      refine ⟨by rw [List.length_map,Array.length_toList,hp.sz,sizeLine_eq];omega,outOf vs p,_,?_,get?_update_seq pD5 _⟩
      have all:∀ l:List Nat,(∀ i∈l,i < vs.length)→Vals (l.map fun i=>vV.getD i .non) (l.map fun i=>vs.getD i Value.none):=fun l=>by
        induction l with
        | nil=>exact fun _=>.nil
        | cons i r ih=>
          intro hl
          have hi:i < vV.length:=by rw [lv];exact hl i List.mem_cons_self
          obtain ⟨u,hu,ru⟩:=rv.get (List.getElem?_eq_getElem hi)
          refine .cons ?_ (ih fun j hj=>hl j (List.mem_cons_of_mem _ hj))
          show RelV (vV.getD i .non) (vs.getD i Value.none)
          rw [List.getD_eq_getElem?_getD,List.getD_eq_getElem?_getD,hu,List.getElem?_eq_getElem hi]
          exact ru
      exact all p.toList fun i hi=>List.mem_range.mp ((List.Perm.mem_iff hp).mp hi)
    unfold ksk_end
    dsimp only
    simp only [Bool.false_eq_true,if_false]
    have sz:vs.toArray.size=vs.length:=List.size_toArray ..
    by_cases h2:vs.toArray.size < 2
    · rw [if_pos h2,if_pos h2]
      refine wpAny_bind (wpAny_pure ?_)
      rw [StateT.run_pure]
      refine wpAny_bind (wpAny_pure ?_)
      exact fin _ _ (range_perm _) (fun i j hij hj=>by omega) (few_out (by rw [List.size_toArray,lm]) (by omega)) rfl
    · rw [if_neg h2,if_neg h2]
      refine wpAny_bind (keys_kind (n:=vs.length) k hks (by omega) ?_)
      refine wpAny_bind (wpAny_mono (kat_run (ks:=as.map Value.ref) (vs:=vs) (Q:=fun st' t'=>∃ p:Array Nat,t'=s'∧PermN vs.length p∧Rise (fun i j=>lexV (K i) (K j)) p vs.length∧arrOf st'=p.map (kas_item ((as.map Value.ref).toArray.zip vs.toArray))∧failedOf st'=none)
        (G:=fun p t'=>t'=s'∧PermN vs.length p∧Rise (fun i j=>lexV (K i) (K j)) p vs.length) lm (by omega) h64 (fun p st' t' a1 a2 a3 a4=>⟨p,a4.1,a4.2.1,a4.2.2,a2,a3⟩)
        (keys_run k hks lm (by omega) fun p hp hr=>⟨rfl,hp,hr⟩)) ?_ fun _ _ e=>e)
      rintro ⟨⟨⟩,st'⟩ t' ⟨p,rfl,hp,hr,har,hf⟩
      exact fin st' p hp hr (kat_snds lm har) hf
end
end L2
namespace L2
open PySem PySem.Spec PyProof.Rows PySem.W
def codeO (c:Addr) (qual:Str):HO:=.ext fun h=>h.CodeRec (.ref c) qual
def LamAt (P:Addr) (lp:Pos) (qual:Str) (H:Hp):Prop:=∃ ps,H P=some (.tbl ps)∧TriplesOk ps.toList∧(codeAmong lp ps.toList=none∨∃ c,codeAmong lp ps.toList=some (.ref c)∧H c=some (codeO c qual))
abbrev Lm:=Addr × Pos × Str
def Lams (ls:List Lm) (H:Hp):Prop:=∀ l∈ls,LamAt l.1 l.2.1 l.2.2 H
def LmOk (ls:List Lm):Prop:=∀ l∈ls,∀ m∈ls,l=m∨¬ (l.2.1.line=m.2.1.line∧l.2.1.col=m.2.1.col)
structure Kt (ls:List Lm) (H H':Hp):Prop where
  lam:Lams ls H'
  keep:∀ b o,(∀ ps,o≠.tbl ps)→H b=some o→H' b=some o
  here:∀ b,H' b=none→H b=none
theorem codeAmong_other {pos p2:Pos} {c:Value} (hne:¬ (p2.line=pos.line∧p2.col=pos.col)) (l:List Value) (h:TriplesOk l):codeAmong pos (l++[rawInt p2.line,rawInt p2.col,c])=codeAmong pos l:=by
  fun_induction TriplesOk l with
  | case1=>
    have e:((p2.line:Int) == (pos.line:Int) && (p2.col:Int) == (pos.col:Int))=false:=by
      rw [Bool.eq_false_iff]
      intro z
      rw [Bool.and_eq_true,beq_iff_eq,beq_iff_eq] at z
      exact hne ⟨by have:=z.1;omega,by have:=z.2;omega⟩
    show (if ((p2.line:Int) == (pos.line:Int) && (p2.col:Int) == (pos.col:Int)) then some c else codeAmong pos [])=codeAmong pos []
    rw [e];rfl
  | case2 a t b u x rest ih=>
    simp only [List.cons_append,codeAmong]
    rw [ih h]
  | case3 l h1 h2=>exact h.elim
section
variable {P q:Addr} {lp:Pos} {qual:Str} {H H1 H2:Hp} {o:HO} {ls:List Lm} {xs:List V}
theorem LamAt.same (a:LamAt P lp qual H) (s:Same H H1):LamAt P lp qual H1:=by
  obtain ⟨ps,a,b,c⟩:=a
  refine ⟨ps,s _ _ a,b,?_⟩
  rcases c with c | ⟨d,c,e⟩
  · exact .inl c
  · exact .inr ⟨d,c,s _ _ e⟩
theorem LamAt.start (h:H P=some (.tbl #[])):LamAt P lp qual H:=⟨#[],h,trivial,.inl rfl⟩
theorem Lams.same (a:Lams ls H) (s:Same H H1):Lams ls H1:=fun l hl=>(a l hl).same s
theorem LamAt.write (a:LamAt P lp qual H) (h:H q=some (.lst xs)):LamAt P lp qual (upd H q o):=by
  obtain ⟨ps,a,b,c⟩:=a
  refine ⟨ps,by rw [upd_ne (ne_of a h (by intro z;cases z))];exact a,b,?_⟩
  rcases c with c | ⟨d,c,e⟩
  · exact .inl c
  · exact .inr ⟨d,c,by rw [upd_ne (ne_of e h (by intro z;cases z))];exact e⟩
theorem Kt.refl (a:Lams ls H):Kt ls H H:=⟨a,fun _ _ _ e=>e,fun _ e=>e⟩
theorem Kt.trans (a:Kt ls H H1) (b:Kt ls H1 H2):Kt ls H H2:=⟨b.lam,fun c u hc e=>b.keep c u hc (a.keep c u hc e),fun c e=>a.here c (b.here c e)⟩
theorem Kt.same (a:Kt ls H H1) (s:Same H1 H2):Kt ls H H2:=⟨a.lam.same s,fun c u hc e=>s _ _ (a.keep c u hc e),fun c e=>a.here c (s.free e)⟩
theorem Same.kt (s:Same H H1) (b:Kt ls H1 H2):Kt ls H H2:=⟨b.lam,fun c u hc e=>b.keep c u hc (s _ _ e),fun c e=>s.free (b.here c e)⟩
theorem Kt.of (s:Same H H1) (a:Lams ls H):Kt ls H H1:=(Kt.refl a).same s
theorem Kt.write (a:Kt ls H H1) (hq:H q=none) (h:H1 q=some (.lst xs)):Kt ls H (upd H1 q o):=
  ⟨fun l hl=>(a.lam l hl).write h,fun b u hb e=>by rw [upd_ne (ne_of_none e hq)];exact a.keep b u hb e,fun b e=>by
    by_cases z:b=q
    · rw [z,upd_same] at e;cases e
    · rw [upd_ne z] at e;exact a.here b e⟩
theorem Kt.lst (a:Kt ls H H1) (h:H q=some (.lst xs)):H1 q=some (.lst xs):=a.keep _ _ (fun _ z=>by cases z) h
theorem Kt.tup (a:Kt ls H H1) (h:H q=some (.tup xs)):H1 q=some (.tup xs):=a.keep _ _ (fun _ z=>by cases z) h
theorem Kt.seq {K:PySem.W.Frag} (a:Kt ls H H1) (h:SqL K H q xs):SqL K H1 q xs:=by
  rcases h with (h | ⟨ob,h⟩) | h
  · exact .inl (.inl (a.lst h))
  · exact .inl (.inr ⟨ob,a.keep _ _ (fun _ z=>by cases z) h⟩)
  · exact .inr h
end
def cxLam (X:Cx) (scope:Scope) (NL:List Str) (ix:List Nat) (qual:Str) (cl:List (Str × Addr)) (fa:Addr) (cd:Value) (A1:Around) (s₃:Shared) (H₃:Hp) (pins:List (Addr × Obj)):Cx where
  prog:=X.prog
  w:=X.w
  K:=X.K
  mg:=X.mg
  base:=X.base
  A:=A1.deeper (envX qual scope s₃.heap.objs.size fa cd cl)
  N:=NL++ix.map fun j=>X.N.getD j ""
  s₀:=s₃
  H₀:=H₃
  env:=envX qual scope s₃.heap.objs.size fa cd cl
  outer:=X.stack
  stack:=envX qual scope s₃.heap.objs.size fa cd cl :: X.stack
  ex:=[]
  fn:=fun _=>false
  calm:=X.calm
  pn:=X.pn++pins
  xe:=fun _ _=>False
def lam0 (v:V) (ix:List Nat) (σ:St):St:=some v :: ix.map fun j=>σ.getD j none
section
variable {X:Cx} {pins:List (Addr × Obj)} {σ:St} {H:Hp} {s:Shared}
theorem lam_inv {scope:Scope} {x:Str} {ix:List Nat} {qual:Str} {cl:List (Str × Addr)} {fa:Addr} {cd:Value} {A1:Around} {s₃:Shared} {h₁:Heap} {m:Str→Option Value} {tk:Nat} {v:V} {u:Value}
    (S:CompScope X scope [x] ix) (I:Inv X pins σ H s₃) (c1:∀ x c,cl.lookup x=some c→X.env.cells.lookup x=some c) (c2:∀ x,(x,NameKind.free)∈scope.names→∃ c,cl.lookup x=some c)
    (hfr:A1.frames=some X.stack) (hh:A1.handled=none) (hx:scope.names.lookup x=some .local) (hmx:m x=some u) (ru:RelV v u)
    (hn:h₁.Ns s₃.heap.objs.size m) (old:∀ b o,s₃.heap.get? b=some o→h₁.get? b=some o) :
    Inv (cxLam X scope [x] ix qual cl fa cd A1 s₃ H pins) [] (lam0 v ix σ) H { s₃ with heap:=h₁,toks:=tk }:=by
  have e0:=I.env0
  have lt:∀ b o,s₃.heap.get? b=some o→b≠s₃.heap.objs.size:=fun b o e=>Nat.ne_of_lt (Heap.lt_size e)
  have noA:∀ b:Addr,b ∉ (cxLam X scope [x] ix qual cl fa cd A1 s₃ H pins).ex:=fun b z=>absurd (show b∈([]:List Addr) from z) (by simp)
  have nst:∀ b,b≠X.env.locals→b ∉ X.fs→b ∉ frs X.stack:=fun b h1 h2 h3=>(List.mem_cons.mp (I.stkSub b h3)).elim h1 h2
  have ok:(cxLam X scope [x] ix qual cl fa cd A1 s₃ H pins).Ok:=
    { mod:=I.ok.mod
      kind:=S.kind
      glob:=rfl
      blt:=rfl
      above:=Nat.le_refl _
      inj:=fun x y c h1 h2=>I.ok.inj x y c (c1 x c h1) (c1 y c h2)
      has:=fun y hy=>by
        have hy':scope.names.lookup y=some .cell∨scope.names.lookup y=some .free:=hy
        rcases hy' with q | q
        · exact absurd rfl (S.cell _ (lookup_mem q))
        · exact c2 y (lookup_mem q)
      cab:=fun _ _ z=>nomatch z
      hd:=fun _=>hh
      frames:=Around.frames_deeper hfr
      stk:=.inr ⟨rfl,rfl⟩
      exf:=fun b hb=>absurd hb (noA b)
      bs:=I.bs
      bsz:=e0.bsz
      noex:=fun b _ _=>noA b
      exfs:=fun b hb=>absurd hb (noA b)
      funs:=e0.funs
      frf:=e0.frf }
  refine ⟨ok,rfl,I.bare,Un.kept old,⟨m,hn,fun i y w e1 e2 e3=>?_⟩,fun y c e=>?_,I.hok.fresh (Nat.le_refl _),fun y c e=>I.freeC y c (c1 y c e),fun p hp=>?_,I.hok.kept old,?_⟩
  · cases i with
    | zero=>
      have ey:x=y:=by simpa [cxLam] using e1
      have ev:v=w:=by simpa [lam0] using e2
      subst ey;subst ev
      exact ⟨u,ru,.inl ⟨hx,hmx⟩⟩
    | succ i=>
      have e1':(ix.map fun j=>X.N.getD j "")[i]?=some y:=by simpa [cxLam] using e1
      have e2':(ix.map fun j=>σ.getD j none)[i]?=some (some w):=by simpa [lam0] using e2
      rw [List.getElem?_map] at e1' e2'
      cases q:ix[i]? with
      | none=>rw [q] at e1';cases e1'
      | some j=>
        rw [q] at e1' e2'
        have e1'':X.N.getD j "" = y:=Option.some.inj e1'
        have e2'':σ.getD j none=some w:=Option.some.inj e2'
        obtain ⟨x',hx',hfr'⟩:=S.cap j (List.mem_of_getElem? q)
        have exx:x'=y:=by
          rw [← e1'',List.getD_eq_getElem?_getD,hx'];rfl
        subst exx
        have hσ:σ[j]?=some (some w):=by
          rw [List.getD_eq_getElem?_getD] at e2''
          cases z:σ[j]? with
          | none=>rw [z] at e2'';cases e2''
          | some o=>rw [z] at e2'';exact congrArg some e2''
        have kd:=S.free _ (lookup_mem hfr') rfl
        have vis:Vis X.env.scope x':=by
          rcases kd with z | z
          · exact .inr (.inl z)
          · exact .inr (.inr z)
        obtain ⟨m',hn',hl'⟩:=I.loc
        obtain ⟨u',r,l⟩:=hl' j x' w hx' hσ vis
        refine ⟨u',r,.inr ⟨.inr hfr',?_⟩⟩
        obtain ⟨c,hc⟩:=c2 x' (lookup_mem hfr')
        rcases l with ⟨k,_⟩ | ⟨k,c',ec,o,ho',hd⟩
        · rcases kd with z | z
          · rw [k] at z;cases z
          · rw [k] at z;cases z
        · have:c'=c:=by
            have:=c1 x' c hc
            rw [ec] at this
            exact Option.some.inj this
          subst this
          exact ⟨c',hc,o,old _ _ ho',hd⟩
  · obtain ⟨v',o,ho',hd⟩:=I.cell y c (c1 y c e)
    exact ⟨v',o,old _ _ ho',hd⟩
  · have hp':p∈X.pn++pins:=by
      rcases List.mem_append.mp hp with z | z
      · exact z
      · exact nomatch z
    obtain ⟨e,n,ne,nf,d⟩:=I.pin p hp'
    exact ⟨old _ _ e,n,lt _ _ e,nst _ ne nf,d⟩
  · show (some v :: ix.map fun j=>σ.getD j none).length=([x]++ix.map fun j=>X.N.getD j "").length
    simp
theorem lam_call {scope:Scope} {x:Str} {ix:List Nat} {nm qual:Str} {params:Arguments} {body:Expr} {cl:List (Str × Addr)} {fa c:Addr} {pm ctv:Value} {A1:Around} {te:TE} {v:V} {u:Value} {Q:VK}
    (S:CompScope X scope [x] ix) (I:Inv X pins σ H s) (c1:∀ x c,cl.lookup x=some c→X.env.cells.lookup x=some c) (c2:∀ x,(x,NameKind.free)∈scope.names→∃ c,cl.lookup x=some c)
    (ho:s.heap.get? fa=some (kla_obj nm qual params body scope cl pm c ctv)) (hcd:s.heap.CodeRec (.ref c) qual) (hfr:A1.frames=some X.stack) (hh:A1.handled=none) (hroom:A1.depth < recursionLimit)
    (hbind:∀ u:Value,bindArgs (kla_fn nm qual params body scope cl pm (.ref c) ctv) ⟨[u],[]⟩=pure [(x,u)]) (hx:scope.names.lookup x=some .local) (hco:scope.isCoroutine=false) (hgen:scope.isGenerator=false)
    (hb:∀ (s₃:Shared) (H₃:Hp),PE (cxLam X scope [x] ix qual cl fa (.ref c) A1 s₃ H₃ pins) body te) (ru:RelV v u) (q:te (lam0 v ix σ) H Q) :
    wpAny (model X.prog X.w) A1 (call (.ref fa) [u]) (EP X pins σ Q) (fun _ _=>False) s:=by
  refine wpAny_call (kla_callFunE hroom ho rfl hco hgen rfl hcd ?_)
  rw [hbind u]
  refine wpAny_pure (wpAny_newFunctionEnv S.cell (fun y hy=>?_) (fun h₁ hns hsb=>⟨(I.nolimit).fresh _ hsb,?_⟩) S.kind)
  · obtain rfl:y=(x,u):=by simpa using hy
    exact hx
  show codeAny _ _ (.expr body (envX qual scope s.heap.objs.size fa (.ref c) cl)) _ _
  have hk₁:∀ b o,s.heap.get? b=some o→h₁.get? b=some o:=fun b o e=>hsb.extBut b o (Nat.ne_of_lt (Heap.lt_size e)) (Heap.get?_push_of_some _ e)
  have I1:=lam_inv (qual:=qual) (fa:=fa) (cd:=.ref c) (A1:=A1) (tk:=s.toks+[(x,u)].length) S I c1 c2 hfr hh hx (show (fun y=>[(x,u)].reverse.lookup y) x=some u by simp) ru hns hk₁
  refine kla_codeExpr (wpAny_mono (hb s H [] _ (lam0 v ix σ) H Q I1 q) (fun v' s' hv=>?_) fun _ _ z=>z.elim)
  obtain ⟨v2,H',J,rv,q'⟩:=hv
  exact I.after ⟨v2,H',J.os,J.bare,J.base,J.hok,rv,q'⟩
theorem lam_make {scope:Scope} {params:Arguments} {body:Expr} {lp:Pos} {cl:List (Str × Addr)} {c0 P:Addr} {ls:List Lm} {E:Value→Shared→Prop} {Q:Value→Shared→Prop} (I:Inv X pins σ H s) (hcl:closureFor scope X.env=pure cl) (hcode:X.env.code=.ref c0) (CH:CodeHd X.base c0 P)
    (hb:X.base.BuiltinsAt X.mg P) (lo:LmOk ls) (li:(P,lp,X.env.qual ++ "<lambda>")∈ls) (LL:Lams ls H) (hdef:defaultsOf params X.env=([],[]))
    (h:∀ (fa c:Addr) (pm ctv:Value) (H':Hp) (s':Shared),Kt ls H H'→H' c=some (codeO c (X.env.qual ++ "<lambda>"))→Inv X (pins++[(fa,kla_obj "<lambda>" (X.env.qual ++ "<lambda>") params body scope cl pm c ctv)]) σ H' s'→Q (.ref fa) s') :
    wpAny (model X.prog X.w) X.A (eval (.Lambda params body scope lp) X.env) Q E s:=by
  refine kla_eval hdef ?_
  have hgs:s.heap.Ns mainGlobals X.mg:=I.mod.glob.keeps I.bk
  have C:=CH.keeps I.bk
  have pinIt:∀ {fa c:Addr} {pm ctv:Value} {H':Hp} {h':Heap} {tk:Nat},Inv X pins σ H' { s with heap:=h',toks:=tk }→fa=h'.objs.size →
      Inv X (pins++[(fa,kla_obj "<lambda>" (X.env.qual ++ "<lambda>") params body scope cl pm c ctv)]) σ H' { s with heap:=h'.push (kla_obj "<lambda>" (X.env.qual ++ "<lambda>") params body scope cl pm c ctv),toks:=tk }:=fun {fa c pm ctv H' h' tk} J e=>by
    subst e
    have J2:=J.kept (t':=tk) (h':=h'.push (kla_obj "<lambda>" (X.env.qual ++ "<lambda>") params body scope cl pm c ctv)) fun b o e=>Heap.get?_push_of_some _ e
    have f:=J.fpOk (Nat.le_refl _) (J.hok.fresh (Nat.le_refl _))
    refine J2.pins_of fun p hp=>?_
    rcases List.mem_append.mp hp with z | z
    · exact J2.pin p (List.mem_append_right _ z)
    · obtain rfl:=List.mem_singleton.mp z
      exact ⟨Heap.get?_push_size _ rfl,f.1,f.2.1,f.2.2.1,fun v z=>by cases z⟩
  obtain ⟨bm,ob,b1,b2,b3,b4,b5,b6⟩:=hb
  have hbs:s.heap.BuiltinsAt X.mg P:=⟨bm,ob,b1,b2,b3,b4,I.bk _ _ b5,b6⟩
  obtain ⟨ps,L,tok,Lc⟩:=LL _ li
  dsimp only at L Lc
  rcases Lc with Lno | ⟨c,Lc,Hc⟩
  · have hP:s.heap.get? P=some (tabObj ps):=I.hok P _ L
    have hgP:mainGlobals≠P:=fun q=>by
      obtain ⟨o,es,ep,e,hd,_⟩:=hgs
      rw [q,hP] at e;cases e;cases hd
    refine kla_makeFunction (mg:=X.mg) hcl I.ok.glob hgs hcode C hP tok Lno hgP hbs fun c ctv h' tk hx hge hlt hrec htb=>?_
    have hc0:H c=none:=I.hok.fresh hge
    have ncP:c≠P:=fun e=>by rw [e,L] at hc0;cases hc0
    have nP:∀ b,H b=none→b≠P:=fun b e z=>by rw [z,L] at e;cases e
    have htb':h'.get? P=some (tabObj (ps++#[rawInt lp.line,rawInt lp.col,.ref c])):=htb
    have hc1:∃ oc,h'.get? c=some oc:=by
      obtain ⟨_,oc,_,_,e,ho,_⟩:=id hrec
      cases e;exact ⟨oc,ho⟩
    have J:Inv X pins σ (upd (upd H P (.tbl (ps++#[rawInt lp.line,rawInt lp.col,.ref c]))) c (codeO c (X.env.qual ++ "<lambda>"))) { s with heap:=h',toks:=tk }:=by
      have at1:∀ b,b≠P→b≠c→upd (upd H P (.tbl (ps++#[rawInt lp.line,rawInt lp.col,.ref c]))) c (codeO c (X.env.qual ++ "<lambda>")) b=H b:=fun b h1 h2=>by rw [upd_ne h2,upd_ne h1]
      have atP:upd (upd H P (.tbl (ps++#[rawInt lp.line,rawInt lp.col,.ref c]))) c (codeO c (X.env.qual ++ "<lambda>")) P=some (.tbl (ps++#[rawInt lp.line,rawInt lp.col,.ref c])):=by rw [upd_ne (Ne.symm ncP),upd_same]
      have old:∀ b o,s.heap.get? b=some o→b≠c:=fun b o e z=>absurd (Heap.lt_size e) (by rw [z];exact Nat.not_lt.mpr hge)
      have trk:∀ b o,H b=some o→b≠c:=fun b o e=>ne_of_none e hc0
      refine I.step (g':=s.gens) (d':=s.drawn) (ch:=[]) (fun _ z=>nomatch z) (fun b o _ _ _ e n=>hx b o (nP b n) e) (fun b o _ _ _ e n=>⟨o.slots,hx b o (nP b n) e⟩) (fun b o _ e n=>by rw [at1 b (nP b n) (old b o e)];exact n) (fun b o _ e=>?_)
        (fun b xs e=>by rw [at1 b (fun z=>by rw [z,L] at e;cases e) (trk b _ e)];exact e) (fun b ob u e=>by rw [at1 b (fun z=>by rw [z,L] at e;cases e) (trk b _ e)];exact e) (fun b ps e=>?_) (fun m hm=>?_) (fun b u e=>?_) I.bare
      · by_cases z:b=P
        · exact ⟨_,by rw [z];exact htb'⟩
        · exact ⟨o,hx b o z e⟩
      · by_cases z:b=P
        · subst z
          rw [L] at e;cases e
          exact ⟨_,atP⟩
        · exact ⟨#[],by rw [at1 b z (trk b _ e),e];simp⟩
      · obtain ⟨o,es,ep,e,r⟩:=hm
        exact ⟨o,es,ep,hx _ o (nP _ I.free) e,r⟩
      · by_cases z1:b=c
        · subst z1
          rw [upd_same] at e;cases e
          refine ⟨hrec,hc1,fun h1 h2 p k=>?_⟩
          obtain ⟨c2,o2,vs2,t2,e2,g2,r2⟩:=p
          cases e2
          exact ⟨b,o2,vs2,t2,rfl,k _ g2,r2⟩
        · by_cases z2:b=P
          · subst z2
            rw [atP] at e;cases e
            exact htb'
          · rw [at1 b z2 z1] at e
            refine (I.hok b u e).stay (fun d v hd q=>hx d v ?_ q) (fun d q=>by rw [at1 d (fun z=>by rw [z,L] at q;cases q) (trk d _ q)];exact q) fun d xs q=>by rw [at1 d (fun z=>by rw [z,L] at q;cases q) (trk d _ q)];exact q
            rcases hd with z | z
            · rw [z];exact z2
            · exact fun y=>by rw [y,L] at z;cases z
    refine h h'.objs.size c _ ctv _ _ ⟨fun l hl=>?_,fun b o hb e=>?_,fun b e=>?_⟩ upd_same (pinIt J rfl)
    · obtain ⟨qs,q1,q2,q3⟩:=LL l hl
      by_cases z:l.1=P
      · rw [z] at q1 ⊢
        rw [L] at q1
        cases q1
        refine ⟨_,by rw [upd_ne (Ne.symm ncP),upd_same],by rw [Array.toList_append];exact TriplesOk_snoc _ _ _ _ q2,?_⟩
        rw [Array.toList_append]
        rcases lo _ li l hl with y | y
        · subst y
          exact .inr ⟨c,codeAmong_snoc _ tok Lno,upd_same⟩
        · show codeAmong l.2.1 (ps.toList++[rawInt lp.line,rawInt lp.col,.ref c])=none∨_
          have eo:=codeAmong_other (c:=.ref c) y ps.toList tok
          dsimp only at eo
          rcases q3 with q3 | ⟨d,q3,q4⟩
          · exact .inl (eo.trans q3)
          · exact .inr ⟨d,eo.trans q3,by rw [upd_ne (ne_of_none q4 hc0),upd_ne (fun y=>by rw [y,L] at q4;cases q4)];exact q4⟩
      · refine ⟨qs,by rw [upd_ne (ne_of_none q1 hc0),upd_ne z];exact q1,q2,?_⟩
        rcases q3 with q3 | ⟨d,q3,q4⟩
        · exact .inl q3
        · exact .inr ⟨d,q3,by rw [upd_ne (ne_of_none q4 hc0),upd_ne (fun y=>by rw [y,L] at q4;cases q4)];exact q4⟩
    · rw [upd_ne (ne_of_none e hc0),upd_ne (fun z=>by rw [z,L] at e;cases e;exact hb _ rfl)];exact e
    · by_cases z1:b=c
      · rw [z1];exact hc0
      · rw [upd_ne z1] at e
        by_cases z2:b=P
        · rw [z2,upd_same] at e;cases e
        · rw [upd_ne z2] at e;exact e
  · have hP:s.heap.get? P=some (tabObj ps):=I.hok P _ L
    refine kla_makeFunctionHit (mg:=X.mg) (cv:=.ref c) hcl I.ok.glob hgs hcode C hP tok Lc hbs fun ctv h' tk hk hsz=>?_
    exact h h'.objs.size c _ ctv H _ (Kt.refl LL) Hc (pinIt (I.kept (t':=tk) hk) rfl)
end
end L2
namespace L2
open PySem PySem.Spec PyProof.Rows PySem.W
section
variable {prog:Program} {w:World} {A:Around} {E:Value→Shared→Prop} {s:Shared}
theorem collect_rng {r:Addr} {lo hi:Int} {t u v:Tok} {n:Nat} {Q:List Value→Shared→Prop} (hh:A.handled=none) (hr:IsRange s.heap r lo hi 1 t u v) (hsmall:Builtin.Range.small lo hi 1=true) (hn:Builtin.Range.rangeSize lo hi 1=n) (hlen:n≤2 ^ 24)
    (h:∀ (h':Heap) (tk:Nat) (acc:Array Value),(∀ b o,s.heap.get? b=some o→h'.get? b=some o)→s.heap.objs.size≤h'.objs.size→ItemsOf (fun i v=>∃ t,v=.int (lo+i * 1) t) acc n→Q acc.toList { s with heap:=h',toks:=tk }) :
    wpAny (model prog w) A (collect (.ref r)) Q E s:=by
  unfold collect
  refine wpAny_bind (wpAny_runValue (codeAny_builtin F.entry_proto_collect ?_))
  rw [Around.under_plainId F.plain_proto_collect _]
  show wpAny _ A.in1 (newList [] >>= fun l=>again (.builtin "list.__iadd__" ⟨[l,.ref r],[]⟩)) _ _ s
  refine wpAny_bind (wpAny_newObj_type ?_)
  refine wpAny_pure ⟨plainId_quiet F.plain_list_iadd _,codeAny_builtin F.entry_list_iadd ?_⟩
  rw [Around.under_plainId F.plain_list_iadd _]
  show wpAny _ A.in1 (Builtin.List.listExtendWith (.ref s.heap.objs.size) (.ref r) (.ref s.heap.objs.size)) _ _ _
  have hS₁:(s.heap.push { cls:=.type "list", data:=.seq ([]:List Value).toArray }).get? s.heap.objs.size=some { cls:=.type "list", data:=.seq #[] 0 }:=Heap.get?_push_size _ rfl
  refine wpAny_mono (wpAny_extend_range (s:={ s with heap:=s.heap.push { cls:=.type "list", data:=.seq ([]:List Value).toArray } }) (R:=fun r' s'=>r'=.ok (.ret (.ref s.heap.objs.size))∧∃ h' tk acc' c',s'={ s with heap:=h',toks:=tk }∧(∀ b o,b≠s.heap.objs.size→(s.heap.push { cls:=.type "list", data:=.seq ([]:List Value).toArray }).get? b=some o→h'.get? b=some o) ∧
      h'.get? s.heap.objs.size=some { cls:=.type "list", dict:=none,data:=.seq acc' c',slots:=#[] }∧ItemsOf (fun i v=>∃ t,v=.int (lo+i * 1) t) acc' n)
    hh (Heap.get?_push_of_some _ hr) hsmall hn hlen s.heap.objs.size (.ref s.heap.objs.size) 0 hS₁ fun h' tk acc' c' kp hS' hacc=>⟨rfl,h',tk,acc',c',rfl,kp,hS',hacc⟩) (fun fin s' hf=>?_) (fun e s' hf=>?_)
  · have key:∀ {f:Flow} {s':Shared},((Except.ok f:Result)=.ok (.ret (.ref s.heap.objs.size))∧∃ h' tk acc' c',s'={ s with heap:=h',toks:=tk }∧(∀ b o,b≠s.heap.objs.size→(s.heap.push { cls:=.type "list", data:=.seq ([]:List Value).toArray }).get? b=some o→h'.get? b=some o) ∧
      h'.get? s.heap.objs.size=some { cls:=.type "list", dict:=none,data:=.seq acc' c',slots:=#[] }∧ItemsOf (fun i v=>∃ t,v=.int (lo+i * 1) t) acc' n)→f=.ret (.ref s.heap.objs.size)∧wpAny (model prog w) A (do
          let __do_lift ← load s.heap.objs.size
          match __do_lift.data with
            | .seq xs _=>pure xs.toList
            | _=>unsupported "internal:collect") Q E s':=fun {f s'} hz=>by
      obtain ⟨e1,h',tk,acc',c',rfl,kp,hS',hacc⟩:=hz
      refine ⟨by injection e1,?_⟩
      refine wpAny_bind (wpAny_load (s:={ s with heap:=h',toks:=tk }) hS' ?_)
      exact wpAny_pure (h h' tk acc' (fun b o e=>kp b o (Nat.ne_of_lt (Heap.lt_size e)) (Heap.get?_push_of_some _ e)) (Nat.le_of_lt (Heap.lt_size hS')) hacc)
    cases fin with
    | done f=>
      obtain ⟨rfl,hw⟩:=key hf
      exact hw
    | again c'=>
      refine ⟨hf.1,codeAny_mono hf.2 fun r' s'' hr'=>?_⟩
      cases r' with
      | error e=>exact absurd hr'.1 (by intro z;cases z)
      | ok f=>
        obtain ⟨rfl,hw⟩:=key hr'
        exact hw
  · exact absurd hf.1 (by intro z;cases z)
end
theorem vals_at:∀ {xs:List V} {us:List Value},xs.length=us.length→(∀ (i:Nat) (x:V) (u:Value),xs[i]?=some x→us[i]?=some u→RelV x u)→Vals xs us
  | [],[],_,_=>.nil
  | [],_ :: _,h,_=>by cases h
  | _ :: _,[],h,_=>by cases h
  | x :: xs,u :: us,h,k=>.cons (k 0 x u rfl rfl) (vals_at (by simpa using h) fun i y v a b=>k (i+1) y v (by simpa using a) (by simpa using b))
section
variable {X:Cx}
def tRng1 (ta:TA):TE:=fun σ H Q=>ta σ H fun vs H1=>∃ j:Int,vs=[.int j]∧∀ r,H1 r=none→Q (.ref r) (upd H1 r (.rng 0 j))
def tRng2 (ta:TA):TE:=fun σ H Q=>ta σ H fun vs H1=>∃ i j:Int,vs=[.int i,.int j]∧∀ r,H1 r=none→Q (.ref r) (upd H1 r (.rng i j))
theorem pe_rng1 {a:Expr} {ta:TA} {p pos:Pos} (hg:Gl X "range") (hm:X.mg "range" = none) (ha:PA X [a] ta) (hs:starEach [a] X.env=[(false,eval a X.env)]:=by rfl):PE X (.Call (.Name "range" p) [a] [] pos) (tRng1 ta):=by
  intro pins s σ H Q I h
  refine Call_ (ld_blt I hg hm boot_range (PyProof.Rows.callWith_type1 (thn (ha pos pins s σ H _ I h) fun us s1 ⟨vs,H1,I1,r1,q1⟩=>?_) hs rfl))
  obtain ⟨j,e,q⟩:=q1
  subst e
  cases r1 with
  | cons r rr=>
    cases rr
    obtain ⟨t,rfl⟩:=r
    exact call_range_1 ⟨.ref s1.heap.objs.size,_,I1.laid (o:=.rng 0 j) (t':=s1.toks+1+1) (fun b o e=>Heap.get?_push_of_some _ e) (Nat.le_refl _) ⟨_,_,_,Heap.get?_push_size _ rfl⟩,rfl,q _ I1.fresh⟩
theorem pe_rng2 {a b:Expr} {ta:TA} {p pos:Pos} (hg:Gl X "range") (hm:X.mg "range" = none) (ha:PA X [a,b] ta) (hs:starEach [a,b] X.env=[(false,eval a X.env),(false,eval b X.env)]:=by rfl) (hs2:starEach [b] X.env=[(false,eval b X.env)]:=by rfl) :
    PE X (.Call (.Name "range" p) [a,b] [] pos) (tRng2 ta):=by
  intro pins s σ H Q I h
  refine Call_ (ld_blt I hg hm boot_range (PyProof.Rows.callWith_type1 (thn (ha pos pins s σ H _ I h) fun us s1 ⟨vs,H1,I1,r1,q1⟩=>?_) (by rw [hs,hs2]) (by rw [hs2];rfl)))
  obtain ⟨i,j,e,q⟩:=q1
  subst e
  cases r1 with
  | cons r rr=>
    cases rr with
    | cons r' rr=>
      cases rr
      obtain ⟨t,rfl⟩:=r
      obtain ⟨t',rfl⟩:=r'
      exact call_range_2 ⟨.ref s1.heap.objs.size,_,I1.laid (o:=.rng i j) (t':=s1.toks+1) (fun b o e=>Heap.get?_push_of_some _ e) (Nat.le_refl _) ⟨_,_,_,Heap.get?_push_size _ rfl⟩,rfl,q _ I1.fresh⟩
def tSortEnd (ls:List Lm) (ix:List Nat) (tb:TE) (σ:St) (Q:VK) (x:V) (H1:Hp):Prop:=∃ (r:Addr) (lo hi:Int) (K:Nat→List V) (sh:List Nat),x=.ref r∧H1 r=some (.rng lo hi)∧(-(2 ^ 62)≤lo∧lo < 2 ^ 62∧-(2 ^ 62)≤hi∧hi < 2 ^ 62)∧(hi - lo).toNat < 64 ∧
  Lams ls H1∧Keys (hi - lo).toNat K sh ∧
  (∀ (i:Nat) (H2:Hp),i < (hi - lo).toNat→Kt ls H1 H2→tb (lam0 (.int (lo+i)) ix σ) H2 fun k H3=>∃ a,k=.ref a∧H3 a=some (.tup (K i))∧Same H2 H3) ∧
  ∀ (p:List Nat) (l:Addr) (H2:Hp),p.Perm (List.range (hi - lo).toNat)→(∀ i j,i < j→j < (hi - lo).toNat→lexV (K (p.getD j 0)) (K (p.getD i 0))=false)→Kt ls H1 H2→H1 l=none→H2 l=some (.lst (p.map fun i:Nat=>V.int (lo+(i:Int))))→Q (.ref l) H2
def tSortLam (ls:List Lm) (ix:List Nat) (te tb:TE):TE:=fun σ H Q=>te σ H (tSortEnd ls ix tb σ Q)
theorem pe_sortLam {k:Nat} {P c0:Addr} {ls:List Lm} {x:Str} {ix:List Nat} {e:Expr} {params:Arguments} {body:Expr} {scope:Scope} {lp kpos p pos:Pos} {te tb:TE}
    (hr:Room k X.A) (hcalm:X.calm=true) (hg:Gl X "sorted") (hm:X.mg "sorted" = none) (he:PE X e te) (hcode:X.env.code=.ref c0) (CH:CodeHd X.base c0 P) (hb:X.base.BuiltinsAt X.mg P) (lk:LmOk ls) (li:(P,lp,X.env.qual ++ "<lambda>")∈ls) (S:CompScope X scope [x] ix)
    (ht:∀ (qual:Str) (cl:List (Str × Addr)) (fa:Addr) (cd:Value) (A1:Around) (s₃:Shared) (H₃:Hp) (pins:List (Addr × Obj)),PE (cxLam X scope [x] ix qual cl fa cd A1 s₃ H₃ pins) body tb)
    (hx:scope.names.lookup x=some .local:=by rfl) (hco:scope.isCoroutine=false:=by rfl) (hgen:scope.isGenerator=false:=by rfl) (hdef:defaultsOf params X.env=([],[]):=by rfl)
    (hbind:∀ (qual:Str) (cl:List (Str × Addr)) (pm:Value) (c:Addr) (ctv u:Value),bindArgs (kla_fn "<lambda>" qual params body scope cl pm (.ref c) ctv) ⟨[u],[]⟩=pure [(x,u)]:=by intros;rfl)
    (hs:starEach [e] X.env=[(false,eval e X.env)]:=by rfl) :
    PE X (.Call (.Name "sorted" p) [e] [⟨some "key", .Lambda params body scope lp,kpos⟩] pos) (tSortLam ls ix te tb):=by
  intro pins s σ H Q I h
  obtain ⟨cl,hcl,c1,c2⟩:=closure_ok (scope:=scope) (env:=X.env) fun y hy=>by
    rcases S.free _ hy rfl with z | z
    · exact I.ok.has y (.inl z)
    · exact I.ok.has y (.inr z)
  refine wpAny_Call_Name_kw (ld_blt I hg hm L2.bt_sorted ?_)
  refine callWith_kw (thn ((pa_cons he pa_nil hs) pos pins s σ H (fun xs H1=>match xs with | [x]=>tSortEnd ls ix tb σ Q x H1 | _=>False) I h) fun us s1 ⟨xs,H1,I1,r1,q1⟩=>?_) (by rw [hs];rfl) (by rw [hs];rfl)
  obtain ⟨x0,ex0,q1⟩:∃ x0,xs=[x0]∧tSortEnd ls ix tb σ Q x0 H1:=by
    cases xs with
    | nil=>exact False.elim q1
    | cons x0 rest=>
      cases rest with
      | nil=>exact ⟨x0,rfl,q1⟩
      | cons _ _=>exact False.elim q1
  subst ex0
  obtain ⟨r,lo,hi,K,sh,rfl,hrng,⟨l1,l2,l3,l4⟩,h64,L,kk,hbody,hend⟩:=q1
  obtain ⟨u,rfl,ru⟩:=vals1 r1
  cases (show u=Value.ref r from ru)
  show wpAny _ _ (evalAll [do let v ← eval (.Lambda params body scope lp) X.env;standAt pos;pure v]) _ _ s1
  refine wpAny_evalAll_cons (wpAny_bind (lam_make (P:=P) (c0:=c0) I1 hcl hcode CH hb lk li L hdef fun fa c pm ctv H2 s2 kt hc I2=>wpAny_bind (wpAny_standAt (wpAny_pure (wpAny_evalAll_nil ?_)))))
  show wpAny _ _ (call (.builtin "sorted") [.ref r] [(Str.ofString "key", .ref fa)]) _ _ s2
  obtain ⟨t,t',t'',hr2⟩:=I2.hok r _ (kt.keep r _ (fun ps z=>by cases z) hrng)
  have hA:X.A.handled=none:=I.ok.hd hcalm
  have en:Builtin.Range.rangeSize lo hi 1=(((hi - lo).toNat:Nat):Int):=by rw [rangeSize_one];split <;> omega
  refine call_function_entry_kw kind_sorted plain_sorted entry_sorted (ksk_s1 _ _) ?_
  unfold Builtin.«sorted»
  refine wpAny_bind (m:=checkCount "sorted" 1 1 _) (wpAny_pure ?_)
  refine wpAny_bind (collect_rng (A:=X.A.in1) hA hr2 (small_one l1 l2 l3 l4) en (by omega) fun h3 tk acc kp3 sz3 hacc=>?_)
  have la:acc.toList.length=(hi - lo).toNat:=by rw [Array.length_toList];exact hacc.1
  refine wpAny_bind (wpAny_newList ?_ (by rw [la,sizeLine_eq];omega))
  have I3:=I2.kept (t':=tk) kp3
  have vals:Vals ((List.range (hi - lo).toNat).map fun i:Nat=>V.int (lo+(i:Int))) acc.toList:=by
    refine (vals_at ?_ ?_)
    · rw [List.length_map,List.length_range,la]
    · intro i x u hx' hu
      rw [List.getElem?_map] at hx'
      cases e1:(List.range (hi - lo).toNat)[i]? with
      | none=>rw [e1] at hx';cases hx'
      | some j=>
        rw [e1] at hx'
        have ej:j=i:=by
          have:=List.getElem?_eq_some_iff.mp e1
          obtain ⟨a,b⟩:=this
          rw [List.getElem_range] at b;exact b.symm
        subst ej
        cases hx'
        obtain ⟨tt,e2⟩:=hacc.2 j u (by rw [← Array.getElem?_toList];exact hu)
        rw [Int.mul_one] at e2
        exact ⟨tt,e2⟩
  generalize hg3:(h3.push { cls:=.type "list", data:=.seq acc.toList.toArray }:Heap)=g
  have hDg:g.get? h3.objs.size=some (seqObj "list" acc.toList.toArray 0):=by rw [← hg3];exact Heap.get?_push_size _ rfl
  have I4:Inv X (pins++[(fa,kla_obj "<lambda>" (X.env.qual ++ "<lambda>") params body scope cl pm c ctv)]) σ H2 { s2 with heap:=g,toks:=tk }:=I3.kept (t':=tk) fun b o e=>by rw [← hg3];exact Heap.get?_push_of_some _ e
  have fD:FpOk X (pins++[(fa,kla_obj "<lambda>" (X.env.qual ++ "<lambda>") params body scope cl pm c ctv)]) H2 h3.objs.size:=I3.fpOk (Nat.le_refl _) (I3.hok.fresh (Nat.le_refl _))
  refine wpAny_bind (wpAny_holding (wpAny_call_entry_kw slot_list_sort ⟨_,hDg,rfl⟩ entry_list_sort ?body (ksk_l1 _ _)))
  case body=>
    show wpAny (model X.prog X.w) X.A.in1.in1 (Builtin.«list.sort» ⟨[.ref h3.objs.size],[(Str.ofString "key", .ref fa)]⟩) _ _ _
    rw [ksk_t1]
    refine key_sort (K:=K) (sh:=sh) I4 hDg fD vals (by rw [la];exact h64) (by rw [la];exact kk) (fun i v pins' H' s' hv hsub I' S'=>?_) fun p H' s' c' hp hr' S' hD' J=>⟨_,rfl,?_⟩
    · have hi':i < (hi - lo).toNat:=by rw [← la];exact (List.getElem?_eq_some_iff.mp hv).1
      obtain ⟨u',hu',rv⟩:=vals.get (i:=i) (x:=V.int (lo+(i:Int))) (by rw [List.getElem?_map,List.getElem?_range hi'];rfl)
      rw [hv] at hu'
      cases hu'
      have pf:=(I'.pin (fa,kla_obj "<lambda>" (X.env.qual ++ "<lambda>") params body scope cl pm c ctv) (List.mem_append_right _ (hsub _ (List.mem_append_right _ List.mem_cons_self)))).1
      have hcd:=(I'.hok c _ (S' _ _ hc)).1
      exact lam_call (te:=tb) S I' c1 c2 pf hcd I.ok.frames hA hr.depth (hbind _ _ _ _ _) hx hco hgen (fun s₃ H₃=>ht _ _ _ _ _ s₃ H₃ pins') rv (hbody i H' hi' (kt.same S'))
    · rw [la] at hp hr'
      have J2:Inv X pins σ _ s':=J.unpinned
      refine wpAny_pure ⟨_,rfl,⟨.ref h3.objs.size,_,J2,rfl,hend p.toList h3.objs.size _ hp (rise_list hr') ((kt.same S').same ((Same.refl H').new hD')) (kt.here _ fD.1) ?_⟩⟩
      rw [upd_same]
      congr 2
      refine List.map_congr_left fun i hi'=>?_
      have:i < (hi - lo).toNat:=List.mem_range.mp ((List.Perm.mem_iff hp).mp hi')
      rw [List.getD_eq_getElem?_getD,List.getElem?_map,List.getElem?_range this];rfl
end
end L2
namespace L2
open PySem PySem.Spec PyProof.Rows PySem.W
theorem noTabs_none {K:Frag} {h:Heap} {P:Addr} {ps:Array Value} (X:K.In h) (hK:noTabs K=true) (hP:h.get? P=some (tabObj ps)):K.lookup P=none:=by
  cases e:K.lookup P with
  | none=>rfl
  | some o=>
    have e1:=X P o e
    rw [hP] at e1
    cases e1
    have h2:=List.all_eq_true.mp hK (P,tabObj ps) (mem_of_lookupK e)
    exact absurd (show false=true from h2) Bool.false_ne_true
structure TabAt (base:Heap) (mg:Str→Option Value) (nm:Str) (T:Addr):Prop where
  fn:∃ a o fd c,mg nm=some (.ref a)∧base.get? a=some o∧o.data=.func fd∧fd.code=.ref c∧CodeHd base c T
  blt:base.BuiltinsAt mg T
inductive Two {α β:Type} (R:α→β→Prop):List α→List β→Prop
  | nil:Two R [] []
  | cons {a b xs ys}:R a b→Two R xs ys→Two R (a :: xs) (b :: ys)
theorem forall2_imp {α β:Type} {R S:α→β→Prop} (h:∀ a b,R a b→S a b):∀ {xs:List α} {ys:List β},Two R xs ys→Two S xs ys
  | [],[],_=>.nil
  | _ :: _,_ :: _,.cons a b=>.cons (h _ _ a) (forall2_imp h b)
theorem law_callT {P:Program} {w:World} {K:Frag} {mg mb:Str→Option Value} {CX:CXT} {k:Nat} {fa a:Addr} {Ts:List Addr} {nms:List Str} {fd:FuncData} {x:Str} {sp:Sp} {s₁:Shared} {vs:List Value} {ns:List Int}
    (KX:K.In s₁.heap) (hns:s₁.heap.Ns mainGlobals mg) (hb:s₁.heap.Ns builtinsNs mb) (hbb:∀ x:Str,x ≠ "__name__" → mb x=bootBuiltins x) (hlim:s₁.heap.NoLimit) (hg:s₁.gens=#[])
    (ha:s₁.heap.get? a=some { cls:=.type "list", data:=.seq vs.toArray }) (hi:IntsAre vs ns) (hl:ns.length≤sizeLine) (hr:Room k callerA)
    (hT:∀ T∈Ts,s₁.heap.get? T=some (tabObj #[])) (hTc:∀ T∈Ts,isCodeTable s₁.heap T) (hTA:Two (TabAt s₁.heap mg) nms Ts) (hnt:noTabs K=true)
    (F:∀ base:Heap,K.In base→base.Ns mainGlobals mg→Two (TabAt base mg) nms Ts→FnOk P w K mg base CX k fa fd [x] sp) (hbind:∀ (s:Shared) (u:Value),BindsTo s fd ⟨[u],[]⟩ [(x,u)])
    (hsp:∀ H:Hp,(∀ T∈Ts,H T=some (.tbl #[]))→SqL K H a (ns.map V.int)→sp [.ref a] H (fun v _=>v=.bl true) fun _ _ _=>False)
    (hCX:∀ H e s',CX [] H s₁ (fun _ _ _=>False) e s'→False) :
    codeAny (model P w) callerA (.call (.ref fa) ⟨[.ref a],[]⟩) (fun r s'=>r=.ok (.ret (.bool true))∧OldK s₁.heap s'.heap∧s'.os=s₁.os∧AllBare s'.gens) s₁:=by
  have rv:=vals_ints hi
  have lenV:=hi.length
  have aT:a ∉ Ts:=fun e=>by rw [hT a e] at ha;cases ha
  have core:∀ H:Hp,(∀ T∈Ts,H T=some (.tbl #[]))→SqL K H a (ns.map V.int)→HOk P w H s₁.heap→(∀ b,H b≠none→b=a∨b∈Ts)→(H a≠none→K.lookup a=none)→(∀ u,H a=some u→∃ xs,u=.frz { cls:=.type "list", data:=.seq vs.toArray } (.lst xs)) →
      codeAny (model P w) callerA (.call (.ref fa) ⟨[.ref a],[]⟩) (fun r s'=>r=.ok (.ret (.bool true))∧OldK s₁.heap s'.heap∧s'.os=s₁.os∧AllBare s'.gens) s₁:=by
    intro H hHT hS hok hA hK hF
    have base_of:∀ {b:Addr} {o:Obj},s₁.heap.get? b=some o→H b=none→(hidT s₁.heap H).get? b=some o:=fun e n=>hidT_get e n
    have free:∀ {b:Addr} {o:Obj},s₁.heap.get? b=some o→o.cls≠.type "list" → o.cls≠.none→H b=none:=fun {b o} e c1 c2=>by
      cases q:H b with
      | none=>rfl
      | some u=>
        rcases hA b (by rw [q];simp) with z | z
        · subst z;rw [ha] at e;cases e;exact absurd rfl c1
        · rw [hT b z] at e;cases e;exact absurd rfl c2
    have noA:∀ {b:Addr} {o:Obj} {es:Array DictEntry} {ep:Nat},s₁.heap.get? b=some o→o.data=.dict es ep→H b=none:=fun {b o es ep} e d=>by
      cases q:H b with
      | none=>rfl
      | some u=>
        rcases hA b (by rw [q];simp) with z | z
        · subst z;rw [ha] at e;cases e;cases d
        · rw [hT b z] at e;cases e;cases d
    have nsK:∀ {b:Addr} {m:Str→Option Value},s₁.heap.Ns b m→(hidT s₁.heap H).Ns b m:=fun {b m} ⟨o,es,ep,e,d,r⟩=>⟨o,es,ep,base_of e (noA e d),d,r⟩
    have hKb:K.In (hidT s₁.heap H):=fun b o e=>base_of (KX b o e) (by
      cases q:H b with
      | none=>rfl
      | some u=>
        rcases hA b (by rw [q];simp) with z | z
        · subst z;rw [hK (by rw [q];simp)] at e;cases e
        · rw [noTabs_none KX hnt (hT b z)] at e;cases e)
    have hM:Mod K mg (hidT s₁.heap H):=⟨hKb,nsK hns,⟨mb,nsK hb,hbb⟩,let ⟨mc,h1,h2⟩:=hlim;⟨mc,nsK h1,h2⟩⟩
    have hTb:Two (TabAt (hidT s₁.heap H) mg) nms Ts:=forall2_imp (fun nm T hTA=>by
      obtain ⟨⟨f,o,fd',c,e1,e2,e3,e4,o5,vs5,file,tf,flags,tg,inF,text,tt,f1,f2,r5⟩,bm,ob,b1,b2,b3,b4,b5,b6,b7⟩:=hTA
      refine ⟨⟨f,o,fd',c,e1,base_of e2 ?_,e3,e4,o5,vs5,file,tf,flags,tg,inF,text,tt,base_of f1 (free f1 (by rw [f2];intro z;exact absurd (Value.type.inj z) (by decide)) (by rw [f2];intro z;cases z)),f2,r5⟩,bm,ob,b1,b2,b3,b4,base_of b5 (free b5 (by rw [b6];intro z;exact absurd (Value.type.inj z) (by decide)) (by rw [b6];intro z;cases z)),b6,b7⟩
      cases q:H f with
      | none=>rfl
      | some u=>
        rcases hA f (by rw [q];simp) with z | z
        · subst z;rw [ha] at e2;cases e2;cases e3
        · rw [hT f z] at e2;cases e2;cases e3) hTA
    have e0:Env0 P w K mg (hidT s₁.heap H) callerA [] s₁ H:=⟨rfl,hM,fun b o e=>of_hidT e,Nat.le_of_eq (hidT_size _ _),trivial,fun b hb=>absurd (show b∈([]:List Addr) from hb) (by simp),hok,.of_eq hg⟩
    refine codeAny_mono ((F _ hKb (nsK hns) hTb).run callerA [] s₁ H ⟨[.ref a],[]⟩ [.ref a] [.ref a] _ _ hr e0 (hbind s₁ (.ref a)) (.cons rfl .nil) (hsp H hHT hS)) fun r s' h=>?_
    cases r with
    | error e=>exact (hCX H e s' h).elim
    | ok fl=>
      cases fl with
      | next=>exact False.elim h
      | brk=>exact False.elim h
      | cont=>exact False.elim h
      | ret u=>
        obtain ⟨v,H',os,bare,un,hok',r',q⟩:=h
        have q':v=.bl true:=q
        subst q'
        obtain rfl:u=Value.bool true:=r'
        have kept:∀ b o,b ∉ Ts→s₁.heap.get? b=some o→s'.heap.get? b=some o:=fun b o hbT e=>by
          cases q:H b with
          | none=>exact un.keep b o e q (by intro z;exact absurd (show b∈([]:List Addr) from z) (by simp)) (by simp)
          | some u=>
            rcases hA b (by rw [q];simp) with z | z
            · subst z
              obtain ⟨xs,z⟩:=hF u q
              subst z
              obtain ⟨e2,_⟩:=hok' b _ (un.frzs b _ _ q)
              rw [ha] at e;cases e
              exact e2
            · exact absurd z hbT
        have hT':∀ T∈Ts,∃ more,s'.heap.get? T=some (tabObj (#[]++more)):=fun T hTm=>by
          obtain ⟨more,eT⟩:=un.tbls T _ (hHT T hTm)
          exact ⟨more,hok' T _ eT⟩
        refine ⟨rfl,⟨fun b o e=>?_,fun b o e=>?_⟩,os,bare⟩
        · by_cases z:b∈Ts
          · rw [hT b z] at e;cases e
            obtain ⟨more,hT''⟩:=hT' b z
            exact .inr (.inl ⟨hTc b z,rfl,#[],more,rfl,hT''⟩)
          · exact .inl (kept b o z e)
        · by_cases z:b∈Ts
          · obtain ⟨more,hT''⟩:=hT' b z
            exact ⟨_,hT''⟩
          · exact ⟨o,kept b o z e⟩
  cases hk:K.lookup a with
  | some o=>
    have e:=KX a o hk
    rw [ha] at e
    cases e
    refine core (fun b=>if b∈Ts then some (.tbl #[]) else none) (fun T hTm=>if_pos hTm) (.inr ⟨_,vs.toArray,_,hk,rfl,rfl,rfl,by rw [List.size_toArray,lenV];exact hl,by simpa using rv⟩) (fun b u z=>?_) (fun b z=>?_) (fun z=>absurd (if_neg aT) z) (fun u z=>by rw [if_neg aT] at z;cases z)
    · dsimp only at z
      by_cases hb:b∈Ts
      · rw [if_pos hb] at z;cases z;exact hT b hb
      · rw [if_neg hb] at z;cases z
    · by_cases hb:b∈Ts
      · exact .inr hb
      · exact absurd (if_neg hb) z
  | none=>
    refine core (fun b=>if b∈Ts then some (.tbl #[]) else if b=a then some (.frz { cls:=.type "list", data:=.seq vs.toArray } (.lst (ns.map V.int))) else none) (fun T hTm=>if_pos hTm)
      (.inl (.inr ⟨{ cls:=.type "list", data:=.seq vs.toArray },by show (if a∈Ts then _ else _)=_;rw [if_neg aT,if_pos rfl]⟩)) (fun b u z=>?_) (fun b z=>?_) (fun _=>hk) (fun u z=>?_)
    · dsimp only at z
      by_cases hb:b∈Ts
      · rw [if_pos hb] at z;cases z;exact hT b hb
      · rw [if_neg hb] at z
        by_cases hb2:b=a
        · rw [if_pos hb2] at z;cases z;subst hb2
          exact ⟨ha,by rw [List.length_map];exact hl,vs,_,rv,ha⟩
        · rw [if_neg hb2] at z;cases z
    · by_cases hb:b∈Ts
      · exact .inr hb
      · by_cases hb2:b=a
        · exact .inl hb2
        · exact absurd (show (if b∈Ts then _ else if b=a then _ else none)=none by rw [if_neg hb,if_neg hb2]) z
    · have z':(if a∈Ts then some (HO.tbl #[]) else if a=a then some (.frz { cls:=.type "list", data:=.seq vs.toArray } (.lst (ns.map V.int))) else none)=some u:=z
      rw [if_neg aT,if_pos rfl] at z'
      cases z'
      exact ⟨_,rfl⟩
theorem walk_ofT {l:PySem.W.OpenLaw} {n k:Nat} {q:Program} {loose:List Str} {XP:(Str→Option Value)→Heap→Prop} {YP:World→Heap→Prop} {d:DefRec} {dns:List DefRec} {K:Params→PySem.W.Frag} {CX:CXT} {sp:List Addr→PySem.W.Frag→Sp} {x:Str} {nms:List Str}
    (hn:l.most=some n) (hn2:n≤sizeLine) (hdf:d.params.defaults=[]) (hr:Room k callerA)
    (hY:∀ (w:World) (h:Heap),YP w h→(K w.params).In h) (hfind:Two (fun nm dn=>(recsOf q).find? (fun e=>e.name == nm)=some dn) nms dns) (hnt:∀ w:World,noTabs (K w.params)=true)
    (F:∀ (w:World) (mg:Str→Option Value) (fa:Addr) (h:Heap),(K w.params).In h→h.Ns mainGlobals mg→mg d.name=some (.ref fa) →
      ∃ fd:FuncData,(∀ (s:Shared) (u:Value),BindsTo s fd ⟨[u],[]⟩ [(x,u)]) ∧
        ∀ (Ts:List Addr) (base:Heap),(K w.params).In base→base.Ns mainGlobals mg→Two (TabAt base mg) nms Ts→FnOk l.prog w (K w.params) mg base CX k fa fd [x] (sp Ts (K w.params)))
    (hsp:∀ (K:PySem.W.Frag) (Ts:List Addr) (H:Hp) (a:Addr) (ns:List Int),ns.length≤n→Ts.length=nms.length→(∀ T∈Ts,H T=some (.tbl #[]))→SqL K H a (ns.map V.int)→sp Ts K [.ref a] H (fun v _=>v=.bl true) fun _ _ _=>False)
    (hCX:∀ (H:Hp) (s:Shared) (e:Value) (s':Shared),CX [] H s (fun _ _ _=>False) e s'→False) :
    PySem.W.WalkO q loose XP YP l.row.toRowW d [] (fun f vs=>PySem.call f vs):=by
  refine Att.attach_call hn hdf fun w s₀ s₁ mg mb fa o pm cd doc a vs ns G Y ho hd hcd hmg hobj hints hlen hg=>?_
  have KX:=hY w _ Y
  obtain ⟨fd,hb,hF⟩:=F w mg fa _ KX G.T.g hmg
  have all:∀ {nms:List Str} {dns:List DefRec},Two (fun nm dn=>(recsOf q).find? (fun e=>e.name == nm)=some dn) nms dns→∃ Ts:List Addr,Two (TabAt s₁.heap mg) nms Ts∧Ts.length=nms.length∧(∀ T∈Ts,s₁.heap.get? T=some (tabObj #[]))∧∀ T∈Ts,isCodeTable s₁.heap T:=by
    intro nms dns hf
    induction hf with
    | nil=>exact ⟨[],.nil,rfl,fun T h=>(by simp at h),fun T h=>(by simp at h)⟩
    | @cons nm dn _ _ hfind _ ih=>
      obtain ⟨Ts,i1,i2,i3,i4⟩:=ih
      have en:dn.name=nm:=beq_iff_eq.mp (List.find?_some (p:=fun e:DefRec=>e.name == nm) hfind)
      obtain ⟨f,o',fd',c,T,t1,t2,t3,t4,t5,t6⟩:=G.T.tab dn (List.mem_of_find?_eq_some hfind)
      rw [en] at t1
      obtain ⟨bm,ob,b1,b2,b3,b4,b5,b6⟩:=G.T.bmain
      have hbP:bm≠T:=fun q=>by
        have e:=b3
        rw [q,t6.2] at e;cases e;cases b4
      have hbG:bm≠mainGlobals:=fun q=>by
        obtain ⟨o,es,ep,e,hd,_⟩:=G.T.g
        rw [q,e] at b3;cases b3;rw [hd] at b6;cases b6
      refine ⟨T :: Ts,.cons ⟨⟨f,o',fd',c,t1,t2,t3,t4,CodeHd.of t5 t6⟩,bm,ob,b1,b2,hbG,hbP,b3,b4,b5,b6⟩ i1,by simp [i2],fun T' h=>?_,fun T' h=>?_⟩
      · rcases List.mem_cons.mp h with z | z
        · rw [z];exact t6.2
        · exact i3 T' z
      · rcases List.mem_cons.mp h with z | z
        · rw [z];exact t6.isCodeTable
        · exact i4 T' z
  obtain ⟨Ts,i1,i2,i3,i4⟩:=all hfind
  exact law_callT (nms:=nms) (Ts:=Ts) KX G.T.g G.T.b G.T.builtins G.T.nolimit hg hobj hints (Nat.le_trans hlen hn2) hr i3 i4 i1 (hnt w)
    (fun base h1 h2 h3=>hF Ts base h1 h2 h3) hb (fun H hH hS=>hsp (K w.params) Ts H a ns hlen i2 hH hS) fun H e s'=>hCX H s₁ e s'
end L2
namespace L2
open PySem PySem.Spec PyProof.Rows PySem.W
theorem Df.hasT {P:Program} {w:World} {K:PySem.W.Frag} {mg:Str→Option Value} {base:Heap} {T:Addr} {x:Str} {st:Stmt} {N ps:List Str} {k:Nat} {sp:Sp} (D:Df K mg x st) (kb:K.In base) (TA:TabAt base mg x T) (S:FnScope N ps (defScope st))
    (hb:∀ (kV doc pm:Value) (an:Option Addr) (cdv ct:Value) (us:List Value),us.length=ps.length→bindArgs (PySem.W.fnOf x x (defArgs st) (defBody st) (defScope st) .none kV doc pm an cdv ct) ⟨us,[]⟩=pure (ps.zip us))
    (len:∀ vs H Q E,sp vs H Q E→vs.length=ps.length)
    (hbody:∀ (f c:Addr) (A:Around) (outer:List Env) (s:Shared) (H:Hp) (vs:List V) (Q:VK) (E:XK),CodeHd base c T→Room k (A.deeper (envOfC x (defScope st) s.heap.objs.size f (.ref c)))→sp vs H Q E →
      ∃ t,PSs (cxOf CX0 P w K mg base N x (defScope st) f (.ref c) A outer s H E).nox (defBody st) t∧t { nx:=fun _ H'=>Q .non H',rt:=Q } (start N vs) H):Has P w K mg base x (k+1) ps sp:=by
  obtain ⟨f,fd,F,m⟩:=D
  have bd:=F.binds hb
  have kp:=F.kp
  obtain ⟨oc,od,kV,doc,pm,an,cdv,ct,osl,e,lk,hcd⟩:=F.ex
  obtain ⟨a,o,fd',c,t1,t2,t3,t4,t5⟩:=TA.fn
  have ea:=m.symm.trans t1
  cases ea
  have eo:=kb f _ lk
  rw [t2] at eo
  cases eo
  cases t3
  subst e
  have ec:cdv=.ref c:=t4
  subst ec
  refine ⟨f,_,fn_of lk hcd S len fun A outer s H vs Q E hr hsp=>?_,bd,kp,m⟩
  obtain ⟨t,h,q⟩:=hbody f c A outer s H vs Q E t5 hr hsp
  exact ⟨t,h.nox,q⟩
theorem ix_listK {X:Cx} (K:PySem.W.Frag) (hK:X.K=K:=by rfl):IxR X (rIxL K):=by
  subst hK;exact ix_list
theorem rise_one {n:Nat} {K:Nat→List V} {sh:List Nat} (k:Keys n K sh) {p q:List Nat} (hp:p.Perm (List.range n)) (hq:q.Perm (List.range n)) (rp:∀ i j,i < j→j < n→lexV (K (p.getD j 0)) (K (p.getD i 0))=false)
    (rq:∀ i j,i < j→j < n→lexV (K (q.getD j 0)) (K (q.getD i 0))=false):p=q:=by
  have pw:∀ {r:List Nat},r.Perm (List.range n)→(∀ i j,i < j→j < n→lexV (K (r.getD j 0)) (K (r.getD i 0))=false)→r.Pairwise (fun a b=>lexV (K b) (K a)=false):=fun {r} hr h=>by
    have ln:r.length=n:=by have:=hr.length_eq;simpa using this
    rw [List.pairwise_iff_getElem]
    intro i j hi hj hij
    have:=h i j hij (by omega)
    rw [List.getD_eq_getElem?_getD,List.getD_eq_getElem?_getD,List.getElem?_eq_getElem hi,List.getElem?_eq_getElem hj] at this
    exact this
  refine (hp.trans hq.symm).eq_of_pairwise (fun a b ha hb h1 h2=>?_) (pw hp rp) (pw hq rq)
  exact k.inj a b (List.mem_range.mp (hp.mem_iff.mp ha)) (List.mem_range.mp (hq.mem_iff.mp hb)) (lexV_tot _ _ ((k.shp a).trans (k.shp b).symm) (by rw [k.shp];exact k.z) h2 h1)
end L2
namespace L2
open PySem PySem.Spec PyProof.Rows PySem.W
theorem ints_showable {ns:List Int} (h:∀ n∈ns,n.natAbs < 10 ^ 12):PyData.showable (.list (ns.map .int))=true:=by
  simp only [PyData.showable]
  refine PyData.showableAll_ints ns fun n hn=>?_
  rcases Nat.eq_zero_or_pos n.natAbs with z | z
  · rw [z];decide
  · exact (Nat.log2_lt (by omega)).mpr (Nat.lt_of_lt_of_le (Nat.lt_trans (h n hn) (show 10 ^ 12 < 2 ^ 40 by decide)) (Nat.pow_le_pow_right (by decide) (by decide)))
section
variable {X:Cx} {k:Nat}
theorem bt_repr:bootBuiltins "repr" = some (.builtin "repr"):=by kernel_rfl
theorem ix_tupK (K:PySem.W.Frag) (hK:X.K=K:=by rfl):IxR X (rIxT K):=by
  subst hK;exact ix_tup
end
end L2
namespace L2
open PySem PySem.Spec PyProof.Rows PySem.W
end L2
namespace L2
open PySem PySem.Spec PyProof.Rows PySem.W
theorem weight_ints:∀ ns:List Int,(∀ n∈ns,n.natAbs < 10 ^ 12)→PyData.weightAll (ns.map .int)≤42 * ns.length
  | [],_=>by simp [PyData.weightAll]
  | n :: r,h=>by
    have a:=weight_ints r fun m hm=>h m (List.mem_cons_of_mem _ hm)
    have b:PyData.weight (.int n)≤41:=by
      simp only [PyData.weight]
      split
      · omega
      · rename_i z
        have nz:n.natAbs≠0:=fun e=>z (by rw [Int.natAbs_eq_zero.mp e];rfl)
        have:=(Nat.log2_lt nz (k:=40)).mpr (Nat.lt_trans (h n List.mem_cons_self) (by decide))
        omega
    simp only [List.map_cons,PyData.weightAll,List.length_cons]
    omega
section
variable {X:Cx} {k:Nat}
end
end L2
namespace L2
open PySem PySem.Spec PyProof.Rows PySem.W
section
variable {X:Cx}
abbrev rngV (lo:Int) (n:Nat):List V:=(List.range n).map fun i:Nat=>V.int (lo+(i:Int))
theorem rng_vals {lo:Int} {n:Nat} {acc:Array Value} (hacc:ItemsOf (fun i v=>∃ t,v=.int (lo+i * 1) t) acc n):Vals (rngV lo n) acc.toList:=by
  have la:acc.toList.length=n:=by rw [Array.length_toList];exact hacc.1
  refine vals_at (by rw [List.length_map,List.length_range,la]) ?_
  intro i x u hx' hu
  rw [List.getElem?_map] at hx'
  cases e1:(List.range n)[i]? with
  | none=>rw [e1] at hx';cases hx'
  | some j=>
    rw [e1] at hx'
    have ej:j=i:=by
      obtain ⟨a,b⟩:=List.getElem?_eq_some_iff.mp e1
      rw [List.getElem_range] at b;exact b.symm
    subst ej
    cases hx'
    obtain ⟨tt,e2⟩:=hacc.2 j u (by rw [← Array.getElem?_toList];exact hu)
    rw [Int.mul_one] at e2
    exact ⟨tt,e2⟩
theorem call_list_rng (hc:X.calm=true):CallR X (.type "list") (fun xs H Q=>∃ (r:Addr) (lo hi:Int),xs=[.ref r]∧H r=some (.rng lo hi)∧(-(2 ^ 62)≤lo∧lo < 2 ^ 62∧-(2 ^ 62)≤hi∧hi < 2 ^ 62)∧(hi - lo).toNat≤1000∧∀ l,H l=none→Q (.ref l) (upd H l (.lst (rngV lo (hi - lo).toNat)))):=by
  intro pins s σ H xs us Q I r h
  obtain ⟨a,lo,hi,rfl,hr,⟨l1,l2,l3,l4⟩,hn,q⟩:=h
  obtain ⟨u,rfl,rx⟩:=vals1 r
  cases rx
  obtain ⟨t,t',t'',hr2⟩:=I.hok a _ hr
  have en:Builtin.Range.rangeSize lo hi 1=(((hi - lo).toNat:Nat):Int):=by rw [rangeSize_one];split <;> omega
  refine call_list_range (I.ok.hd hc) hr2 (small_one l1 l2 l3 l4) en (by omega) fun h' tk acc c' kp hS hacc=>?_
  have v:=rng_vals hacc
  refine ⟨.ref s.heap.objs.size,_,I.laid (t':=tk) kp (Nat.le_refl _) (show ObjOk X.prog X.w _ h' _ (.lst (rngV lo (hi - lo).toNat)) from ⟨?_,acc.toList,c',v,hS⟩),rfl,q _ (I.hok.fresh (Nat.le_refl _))⟩
  rw [List.length_map,List.length_range]
  exact Nat.le_of_lt (Nat.lt_of_le_of_lt hn (by decide +kernel))
end
end L2
namespace L2
open PySem PySem.Spec PyProof.Rows PySem.W
section
variable {X:Cx} {k:Nat}
theorem call_len_seqK (K:PySem.W.Frag) (hK:X.K=K:=by rfl):CallR X (.builtin "len") (fun xs H Q=>∃ p ys,xs=[.ref p]∧(SqL K H p ys∨SqT K H p ys)∧Q (.int (ys.length:Nat)) H):=by
  subst hK;exact call_len_seq
end
end L2
namespace L2
open PySem PySem.Spec PyProof.Rows PySem.W
def keyOf (e:Int × Value):Str:=match e.2 with | .str x _=>x | _=>Str.empty
structure SetS (w:World) (led:Bool) (es:Array (Int × Value)) (t:SetTable) (S:List Str):Prop where
  ent:∀ e∈es.toList,∃ x tk,e=(hashStr w x,Value.str x tk)
  nd:(es.toList.map keyOf).Nodup
  mem:∀ x,x∈es.toList.map keyOf ↔ x∈S
  fit:t.fits es.size=true
  led:t.led=led
  pl:es.size=0∨t.plain=false
theorem relay_led (t:SetTable) (es:Array (Int × Value)) (n:Nat):(relayAll t es n).2.1.led=t.led∧(t.plain=false→(relayAll t es n).2.1.plain=false):=by
  unfold relayAll
  cases e:t.relaid (es.map (·.1)) n with
  | none=>exact ⟨rfl,fun _=>rfl⟩
  | some p=>
    obtain ⟨t',order⟩:=p
    dsimp only
    have hl:t'.led=t.led∧t'.plain=t.plain:=by
      unfold SetTable.relaid SetTable.laid at e
      cases e2:SetTable.layClean (SetTable.sizeAbove n - 1) (es.map (·.1)) with
      | none=>rw [e2] at e;cases e
      | some o=>
        rw [e2] at e
        injection e with e
        injection e with e1 e3
        rw [← e1]
        exact ⟨rfl,rfl⟩
    split
    · exact ⟨hl.1,fun h=>by rw [hl.2];exact h⟩
    · exact ⟨rfl,fun _=>rfl⟩
theorem or_led (t:SetTable) (n:Nat):(t.orStandIn n).led=t.led:=by
  unfold SetTable.orStandIn
  split <;> rfl
theorem lay_led (t:SetTable) (es:Array (Int × Value)) (h:Int) (x:Value):(layNew t es h x).2.1.led=t.led:=by
  unfold layNew
  cases e:t.freeSlot h with
  | none=>rfl
  | some p=>
    obtain ⟨slot,wd⟩:=p
    exact or_led _ _
theorem keyOf_perm {a b:List (Int × Value)} (p:a.Perm b):(a.map keyOf).Perm (b.map keyOf):=p.map _
theorem SetS.grow {w:World} {led:Bool} {es es':Array (Int × Value)} {t t':SetTable} {S:List Str} {x:Str} {tk:Tok} (h:SetS w led es t S) (nx:x ∉ S) (p:es'.toList.Perm (es.push (hashStr w x,.str x tk)).toList) (f:t'.fits es'.size=true) (l:t'.led=led) (q:t'.plain=false):SetS w led es' t' (S++[x]) where
  ent:=fun e he=>by
    have:=p.mem_iff.mp he
    rw [Array.toList_push] at this
    rcases List.mem_append.mp this with z | z
    · exact h.ent e z
    · exact ⟨x,tk,List.mem_singleton.mp z⟩
  nd:=by
    rw [(keyOf_perm p).nodup_iff,Array.toList_push,List.map_append,List.nodup_append]
    refine ⟨h.nd,by simp,fun a ha b hb=>?_⟩
    have hb':b=x:=by simpa [keyOf] using hb
    subst hb'
    exact fun e=>nx (by rw [← e];exact (h.mem a).mp ha)
  mem:=fun y=>by
    rw [(keyOf_perm p).mem_iff,Array.toList_push,List.map_append,List.mem_append,List.mem_append,h.mem y]
    simp [keyOf]
  fit:=f
  led:=l
  pl:=.inr q
theorem SetS.relay {w:World} {led:Bool} {es:Array (Int × Value)} {t:SetTable} {S:List Str} (h:SetS w led es t S) (q:t.plain=false) (n:Nat):SetS w led (relayAll t es n).1 (relayAll t es n).2.1 S where
  ent:=fun e he=>h.ent e ((relayAll_perm t es n).mem_iff.mp he)
  nd:=by rw [(keyOf_perm (relayAll_perm t es n)).nodup_iff];exact h.nd
  mem:=fun y=>by rw [(keyOf_perm (relayAll_perm t es n)).mem_iff];exact h.mem y
  fit:=relayAll_fits t es n
  led:=(relay_led t es n).1.trans h.led
  pl:=.inr ((relay_led t es n).2 q)
structure SetA (w:World) (led:Bool) (h:Heap) (a:Addr) (S:List Str) (n:Nat):Prop where
  ex:∃ es ep t,h.get? a=some { cls:=.type "set", data:=.set es ep t }∧SetS w led es t S∧es.size≤n
section
variable {prog:Program} {w:World} {A:Around} {E:Value→Shared→Prop} {s:Shared}
theorem store_set {a:Addr} {es es':Array (Int × Value)} {ep:Nat} {t t':SetTable} {Q:Unit→Shared→Prop} (ha:s.heap.get? a=some { cls:=.type "set", data:=.set es ep t }) (hz:es'.size≤sizeLine)
    (h:∀ h',Heap.SameBut a s.heap h'→h'.get? a=some { cls:=.type "set", data:=.set es' (ep+1) t' }→Q () { s with heap:=h' }):wpAny (model prog w) A (storeSet a es' t') Q E s:=by
  unfold storeSet
  refine wpAny_bind (wpAny_load ha ?_)
  dsimp only
  rw [if_neg (by omega)]
  refine wpAny_update ha (h _ (Heap.SameBut.update ..) ?_)
  rw [Heap.get?_update_self _ ha rfl]
  rfl
theorem gave_ok {b:Bool} {Q:Unit→Shared→Prop} (h:Q () s):wpAny (model prog w) A (match b with | true=>rule "set.scan.the-table-gave-way" | false=>pure ()) Q E s:=by
  cases b with
  | true=>exact wpAny_rule h
  | false=>exact wpAny_pure h
theorem add_text {a:Addr} {S:List Str} {n:Nat} {led:Bool} {x:Str} {tk:Tok} {Q:Bool→Shared→Prop} (ha:SetA w led s.heap a S n) (hn:n+1 < scanBound)
    (h:∀ b h',Heap.SameBut a s.heap h'→SetA w led h' a (S++[x]) (n+1)→Q b { s with heap:=h',toks:=s.toks+1 }):wpAny (model prog w) A (setAdd a (.str x tk)) Q E s:=by
  obtain ⟨es,ep,t,hget,hS,hsz⟩:=ha
  have hsc:scanBound=4096:=rfl
  have is:(strKind prog w).is x (.str x tk)=true:=by show (x == x)=true;exact beq_self_eq_true x
  have elems:ElemsOf (strKind prog w) es.toList:=fun e he=>by
    obtain ⟨y,tk',rfl⟩:=hS.ent e he
    exact ⟨⟨y,by show (y == y)=true;exact beq_self_eq_true y,rfl⟩,rfl⟩
  unfold setAdd
  refine wpAny_holding (wpAny_bind ((strKind prog w).pyHash is ?_))
  unfold setAddHashed
  refine wpAny_holding ?_
  rw [setAddHashedIn.eq_def]
  show wpAny _ _ (setState a >>= _) _ _ _
  refine wpAny_bind (wpAny_setState_of (s:={ s with toks:=s.toks+1 }) hget rfl hS.fit ?_)
  have bs:byScan (.str x tk) es=true:=by
    unfold byScan
    have h1:(Value.str x tk).scannable=true:=rfl
    have h2:(es.all fun e=>e.2.scannable)=true:=by
      rw [Array.all_eq_true_iff_forall_mem]
      intro e he
      exact (elems e (Array.mem_toList_iff.mpr he)).2
    rw [h1,h2,decide_eq_true (by omega)];rfl
  dsimp only
  rw [if_pos bs]
  refine wpAny_bind ?_
  unfold setAddByScan
  refine wpAny_bind (wpAny_rule (wpAny_bind (wpAny_setScan_of (s:={ s with toks:=s.toks+1 }) is hget rfl hS.fit elems ?_)))
  cases ef:List.findIdx? (fun e=>(strKind prog w).is x e.2) es.toList with
  | some j=>
    dsimp only
    refine wpAny_pure (wpAny_pure ?_)
    have xin:x∈S:=by
      rw [← hS.mem x]
      obtain ⟨hj,hp,_⟩:=List.findIdx?_eq_some_iff_getElem.mp ef
      have hm:=List.getElem_mem hj
      obtain ⟨y,tk',e⟩:=hS.ent _ hm
      rw [e] at hp
      have:y=x:=eq_of_beq (show (y == x)=true from hp)
      subst this
      exact List.mem_map.mpr ⟨_,hm,by rw [e];rfl⟩
    refine h false s.heap (Heap.SameBut.refl ..) ⟨es,ep,t,hget,⟨hS.ent,hS.nd,fun y=>?_,hS.fit,hS.led,hS.pl⟩,by omega⟩
    rw [hS.mem y,List.mem_append]
    constructor
    · exact .inl
    · rintro (z | z)
      · exact z
      · rw [List.mem_singleton.mp z];exact xin
  | none=>
    dsimp only
    have xout:x ∉ S:=fun hin=>by
      rw [← hS.mem x] at hin
      obtain ⟨e,he,ek⟩:=List.mem_map.mp hin
      have:=List.findIdx?_eq_none_iff.mp ef e he
      obtain ⟨y,tk',rfl⟩:=hS.ent e he
      have ey:y=x:=ek
      subst ey
      exact absurd (show (strKind prog w).is y (.str y tk')=true from (by show (y == y)=true;exact beq_self_eq_true y)) (by rw [this];simp)
    have lp:=layNew_perm t es ((strKind prog w).hash x) (.str x tk)
    have lf:=layNew_fits t es ((strKind prog w).hash x) (.str x tk)
    have ll:=lay_led t es ((strKind prog w).hash x) (.str x tk)
    have lz:=lp.length_eq
    rw [Array.length_toList,Array.length_toList,Array.size_push] at lz
    generalize layNew t es ((strKind prog w).hash x) (.str x tk)=L at lp lf ll lz
    obtain ⟨es1,t1,wd,gv⟩:=L
    dsimp only at lp lf ll lz ⊢
    have zl:sizeLine=268435455∨4096≤sizeLine:=.inr (by rw [sizeLine_eq];decide)
    have zz:es1.size≤sizeLine:=by rcases zl with z | z <;> omega
    refine wpAny_bind (gave_ok ?_)
    have fin:∀ t2:SetTable,t2.fits es1.size=true→t2.led=led→t2.plain=false →
        wpAny (model prog w) A (do
          storeSet a es1 t2
          have __do_jp:Unit→Sem (Option Bool):=fun __r=>pure (some true)
          if (!wd && t2.tooFull)=true then
            match relayAll t2 es1 (SetTable.grown es1.size) with
            | (es,t,gave)=>do
              (match gave with | true=>rule "set.scan.the-table-gave-way" | false=>pure ())
              let __r ← storeSet a es t
              __do_jp __r
          else __do_jp ()) (fun r s'=>wpAny (model prog w) A (match r with | some added=>pure added | none=>setAddHashedIn a (.str x tk) ((strKind prog w).hash x) 99999) Q E s') E { s with toks:=s.toks+1 }:=fun t2 f2 l2 p2=>by
      have g:=hS.grow (es':=es1) (t':=t2) (tk:=tk) xout lp f2 l2 p2
      refine wpAny_bind (store_set (s:={ s with toks:=s.toks+1 }) hget zz fun h1 sb1 hg1=>?_)
      dsimp only
      split
      · have gr:=g.relay p2 (SetTable.grown es1.size)
        have rz:=(relayAll_perm t2 es1 (SetTable.grown es1.size)).length_eq
        rw [Array.length_toList,Array.length_toList] at rz
        generalize relayAll t2 es1 (SetTable.grown es1.size)=Rr at gr rz
        obtain ⟨es3,t3,gv3⟩:=Rr
        dsimp only at gr rz ⊢
        refine wpAny_bind (gave_ok ?_)
        refine wpAny_bind (store_set (s:={ s with heap:=h1,toks:=s.toks+1 }) hg1 (by omega) fun h2 sb2 hg2=>?_)
        refine wpAny_pure (wpAny_pure ?_)
        exact h true h2 (sb1.trans sb2) ⟨es3,_,t3,hg2,gr,by omega⟩
      · refine wpAny_pure (wpAny_pure ?_)
        exact h true h1 sb1 ⟨es1,_,t2,hg1,g,by omega⟩
    by_cases hp:t1.plain=true
    · rw [if_pos hp,hashByValue.eq_5]
      refine wpAny_bind (wpAny_pure ?_)
      have ff:=fin { mask:=t1.mask,place:=t1.place,dummies:=t1.dummies,finger:=t1.finger,led:=t1.led,moves:=t1.moves,plain:=false } lf (ll.trans hS.led) rfl
      exact ff
    · rw [if_neg hp]
      refine wpAny_bind (wpAny_pure ?_)
      have ff:=fin t1 lf (ll.trans hS.led) (by simpa using hp)
      exact ff
end
end L2
namespace L2
open PySem PySem.Spec PyProof.Rows PySem.W
def ledOf (w:World):Bool:=!w.params.followText "set-order"
section
variable {prog:Program} {w:World} {A:Around} {E:Value→Shared→Prop} {s:Shared}
theorem by_text {Q:Bool→Shared→Prop} (h:Q (w.params.followText "set-order") s):wpAny (model prog w) A setsByText Q E s:=by
  unfold setsByText
  exact wpAny_bind (wpAny_askSetting (wpAny_pure h))
theorem code_set_new_led (a:Value) {Q₁:Value→Shared→Prop} (h:Q₁ (.ref s.heap.objs.size) { s with heap:=s.heap.push { cls:=.type "set", data:=.set #[] 0 (SetTable.fresh 0 0 (ledOf w)) } }) :
    codeAny (model prog w) A (.call (.builtin "set.__new__") ⟨[.type "set", a],[]⟩) (wants Q₁ E) s:=by
  refine codeAny_call_builtin F.plain_set_new F.entry_set_new ?_
  rw [F.newCall_set_1]
  refine wpAny_pure ?_
  unfold Builtin.«set.__new__» Builtin.Frozenset.newClass
  dsimp only
  refine wpAny_bind (wpAny_bind ?_)
  show wpAny _ _ (pure true) _ _ _
  refine wpAny_pure ?_
  rw [if_neg (by decide)]
  refine wpAny_bind ?_
  rw [F.sub_set_set]
  refine wpAny_pure ?_
  rw [if_neg (by decide)]
  refine wpAny_pure ?_
  unfold newSet
  refine wpAny_bind (wpAny_bind (by_text ?_))
  dsimp only
  refine wpAny_newObj_type ?_
  exact wpAny_pure h
theorem SetA.keeps {led:Bool} {h h':Heap} {a:Addr} {S:List Str} {n:Nat} (x:SetA w led h a S n) (k:∀ o,h.get? a=some o→h'.get? a=some o):SetA w led h' a S n:=by
  obtain ⟨es,ep,t,e,r⟩:=x
  exact ⟨es,ep,t,k _ e,r⟩
theorem SetA.start {h:Heap} {a:Addr} {led:Bool} (e:h.get? a=some { cls:=.type "set", data:=.set #[] 0 (SetTable.fresh 0 0 led) }):SetA w led h a [] 0:=
  ⟨#[],0,_,e,⟨fun x hx=>by simp at hx,by simp,fun x=>by simp,by rfl,rfl,.inl rfl⟩,Nat.le_refl _⟩
end
end L2
namespace L2
open PySem PySem.Spec PyProof.Rows PySem.W
section
variable {prog:Program} {w:World} {A:Around} {E:Value→Shared→Prop} {s:Shared}
theorem name_set:typeNameCut 200 (Value.type "set")=pure "set" := by kernel_rfl
end
end L2
namespace L2
open PySem PySem.Spec PyProof.Rows PySem.W
theorem slot_seti_next:Slot "set_iterator" (Str.ofString "__next__") "set_iterator.__next__" := Slot.of (owner := "set_iterator") (n := "__next__") (by kernel_rfl) (by kernel_rfl) (by kernel_rfl) (by kernel_rfl) (.inl (by kernel_rfl)) (by kernel_rfl)
theorem entry_seti_next:entryFor table "set_iterator.__next__" = some Builtin.«set_iterator.__next__»:=by kernel_rfl
theorem entry_set_iter:entryFor table "set.__iter__" = some Builtin.«frozenset.__iter__»:=by kernel_rfl
theorem own_seti:List.lookup (String.ofList ['r','o','t','a','r','e','t','i','_','t','e','s'].reverse) Manifest.owners=some Manifest.sig_set_iterator:=by kernel_rfl
theorem args_seti_next (a:Value):argsOk "set_iterator.__next__" { pos:=[a] }:=by
  show (match Manifest.signature? "set_iterator.__next__" with | some sig=>Bind.checkArgs "set_iterator.__next__" sig { pos:=[a] } | none=>pure ())=pure ()
  rw [signature?_of (id := "set_iterator.__next__") (n:=['_','_','t','x','e','n','_','_']) (o:=['r','o','t','a','r','e','t','i','_','t','e','s']) (by kernel_rfl) own_seti]
  kernel_rfl
theorem perm_pick {α:Type}:∀ {xs:List α} {i:Nat} {x:α},xs[i]?=some x→(x :: xs.eraseIdx i).Perm xs
  | [],i,x,h=>by simp at h
  | y :: ys,0,x,h=>by
    have:y=x:=by simpa using h
    subst this
    exact List.Perm.refl _
  | y :: ys,i+1,x,h=>by
    have ih:=perm_pick (xs:=ys) (i:=i) (x:=x) (by simpa using h)
    rw [List.eraseIdx_cons_succ]
    exact (List.Perm.swap y x _).trans (ih.cons y)
theorem pick_go {α:Type} (next:Nat→Nat):∀ (fuel k:Nat) (left:List α) (out:Array α),left.length=fuel→(pickOrder.go next fuel k left out).toList.Perm (out.toList++left)
  | 0,k,left,out,h=>by
    rw [pickOrder.go.eq_1]
    have:left=[]:=List.length_eq_zero_iff.mp h
    rw [this,List.append_nil]
  | fuel+1,k,left,out,h=>by
    have lt:next k % left.length < left.length:=Nat.mod_lt _ (by omega)
    have e:left[next k % left.length]?=some left[next k % left.length]:=List.getElem?_eq_getElem lt
    rw [pickOrder.go.eq_2,e]
    dsimp only
    refine (pick_go next fuel (k+1) _ _ (by rw [List.length_eraseIdx_of_lt lt];omega)).trans ?_
    rw [Array.toList_push,List.append_assoc]
    exact List.Perm.append_left _ (perm_pick e)
theorem pick_perm {α:Type} (next:Nat→Nat) (xs:Array α):(pickOrder next xs).toList.Perm xs.toList:=by
  unfold pickOrder
  have:=pick_go next xs.size 0 xs.toList #[] (by simp)
  simpa using this
section
variable {prog:Program} {w:World} {A:Around} {E:Value→Shared→Prop}
theorem choose_ok {s:Shared} {src:Source} {n:Nat} {Q:Nat→Shared→Prop} (hn:n≠0) (h:∀ i d,i < n→Q i { s with drawn:=d }):wpAny (model prog w) A (choose src n) Q E s:=by
  intro Γ p hΓ
  unfold choose
  rw [Sem.wp_choose]
  refine ⟨hn,?_⟩
  rw [Sem.wp_pure]
  exact h _ _ (Nat.mod_lt _ (by omega))
theorem draw_ok {α:Type}:∀ (n:Nat) (xs:List α) (s:Shared) (Q:List α→Shared→Prop),xs.length=n→(∀ ys d,ys.Perm xs→Q ys { s with drawn:=d })→wpAny (model prog w) A (drawOrder n xs) Q E s
  | 0,xs,s,Q,h,q=>by
    rw [drawOrder.eq_1]
    have:xs=[]:=List.length_eq_zero_iff.mp h
    subst this
    exact wpAny_pure (q [] s.drawn (List.Perm.refl _))
  | n+1,xs,s,Q,h,q=>by
    rw [drawOrder.eq_3 _ _ (fun e=>by rw [e] at h;cases h)]
    refine wpAny_bind (choose_ok (by omega) fun i d hi=>?_)
    have e:xs[i]?=some xs[i]:=List.getElem?_eq_getElem hi
    rw [e]
    dsimp only
    refine wpAny_bind (draw_ok n (xs.eraseIdx i) _ _ (by rw [List.length_eraseIdx_of_lt hi];omega) fun ys d' hp=>?_)
    exact wpAny_pure (q _ _ ((hp.cons _).trans (perm_pick e)))
theorem below_one (p:Nat):SetTable.below #[p] 0=0∧SetTable.below #[p] (p+1)=1:=by
  constructor
  · simp [SetTable.below,SetTable.below.go]
  · simp [SetTable.below,SetTable.below.go]
abbrev setIt (f:Value) (i:Nat) (D:Addr) (n ep:Nat):Obj:={ cls:=.type "set_iterator", data:=.fields #[f,rawInt (i:Int),.ref D,rawInt (n:Int),rawInt (ep:Int)] }
theorem seti_get {h:Heap} {I:Addr} {f g:Value} {i j:Nat} {D:Addr} {n ep:Nat} (e:h.get? I=some (setIt f i D n ep)):(h.update I (Obj.mapFields fun vs=>vs.setIfInBounds 1 (rawInt ((i:Int)+1)))).get? I=some (setIt f (i+1) D n ep):=by
  rw [Heap.get?_update_self _ e rfl]
  rfl
variable {s:Shared}
theorem seti_stop {I:Addr} {o:Obj} {vs:Array Value} {Pf:PySem.Fin→Shared→Prop} (hh:A.handled=none) (ho:s.heap.get? I=some o) (hd:o.data=.fields vs) (h2:2 < vs.size)
    (hE:∀ h' e,Heap.ExtBut I s.heap h'→(∃ o,h'.get? e=some o∧o.cls=.type "StopIteration")→E (.ref e) { s with heap:=h' }) :
    wpAny (model prog w) A (do setField (.ref I) 2 .none;let __do_lift ← newExc (.type "StopIteration") [];raiseNew __do_lift) Pf E s:=by
  refine wpAny_bind (wpAny_setField ho hd h2 ?_)
  refine wpAny_bind ?_
  simp only [newExc,newTuple]
  refine wpAny_bind (wpAny_newObj_type ?_ (by size_fits))
  refine wpAny_bind (m:=firstArgMember _ _) (wpAny_of_eq (a:=Value.none) (by first | rfl | (simp only [firstArgMember];rfl)) ?_)
  refine wpAny_newObj_type ?_ (by size_fits)
  simp only [raiseNew]
  refine wpAny_bind (wpAny_handled ?_)
  rw [hh]
  refine wpAny_bind (wpAny_pure (wpAny_throw ?_))
  exact hE _ _ (((Heap.SameBut.update ..).extBut.push _).push _) ⟨_,Heap.get?_push_size _ rfl,rfl⟩
theorem seti_pre {I D:Addr} {f:Value} {i ep:Nat} {es:Array (Int × Value)} {t:SetTable} {Pf:PySem.Fin→Shared→Prop} (hI:s.heap.get? I=some (setIt f i D es.size ep)) (hD:s.heap.get? D=some { cls:=.type "set", data:=.set es ep t }) (hf:t.fits es.size=true)
    (h:wpAny (model prog w) A (match f with
          | .int slot tok=>do
            let __do_lift ← setNext D slot.toNat i ep
            match __do_lift with
              | some (x,next)=>do
                setField (.ref I) 0 (rawInt next)
                setField (.ref I) 1 (rawInt ((i:Int)+1))
                ret x
              | none=>do
                setField (.ref I) 2 .none
                let __do_lift ← newExc (.type "StopIteration") []
                raiseNew __do_lift
          | x=>do
            let __x ← seqItems? f
            match __x with
              | some places=>
                match places[i]? with
                | some (.int place tok)=>do
                  let x ← setNextDrawn D place.toNat ep
                  setField (.ref I) 1 (rawInt ((i:Int)+1))
                  ret x
                | some val=>unsupported "internal:set_iterator"
                | none=>do
                  setField (.ref I) 0 (rawInt 0)
                  setField (.ref I) 2 .none
                  let __do_lift ← newExc (.type "StopIteration") []
                  raiseNew __do_lift
              | x=>unsupported "internal:set_iterator") Pf E s) :
    wpAny (model prog w) A (Builtin.«set_iterator.__next__» ⟨[.ref I],[]⟩) Pf E s:=by
  unfold Builtin.«set_iterator.__next__»
  refine wpAny_bind ?_
  show wpAny _ _ (pure (Value.ref I,[])) _ _ _
  refine wpAny_pure ?_
  dsimp only
  refine wpAny_bind (wpAny_fieldsOf hI rfl ?_)
  show wpAny _ _ (setEntries D >>= _) _ _ s
  unfold setEntries
  refine wpAny_bind (wpAny_bind (wpAny_setState_of hD rfl hf (wpAny_pure ?_)))
  dsimp only
  rw [if_neg (by simp)]
  simp only [Int.toNat_natCast]
  exact h
theorem setNext_text {D:Addr} {slot i ep:Nat} {es:Array (Int × Value)} {t:SetTable} {Q:Option (Value × Nat)→Shared→Prop} (bt:w.params.followText "set-order" = true) (hD:s.heap.get? D=some { cls:=.type "set", data:=.set es ep t }) (hf:t.fits es.size=true)
    (h:Q (((pickOrder (w.params.setOrder D ep) es)[i]?).map fun e=>(e.2,slot)) s):wpAny (model prog w) A (setNext D slot i ep) Q E s:=by
  unfold setNext
  refine wpAny_bind (wpAny_setState_of hD rfl hf ?_)
  dsimp only
  refine wpAny_bind (by_text ?_)
  rw [bt,if_pos rfl,if_neg (by simp)]
  unfold setWalk
  refine wpAny_bind (wpAny_bind (wpAny_setState_of hD rfl hf ?_))
  dsimp only
  refine wpAny_bind (by_text ?_)
  rw [bt,if_pos rfl]
  refine wpAny_bind (wpAny_askSetting (wpAny_pure (wpAny_pure h)))
theorem setNext_led {D:Addr} {slot i ep:Nat} {es:Array (Int × Value)} {t:SetTable} {Q:Option (Value × Nat)→Shared→Prop} (bt:w.params.followText "set-order" = false) (hD:s.heap.get? D=some { cls:=.type "set", data:=.set es ep t }) (hf:t.fits es.size=true) (hl:t.led=true) (hz:es.size≤1)
    (h:Q (match es[SetTable.below t.place slot]?,t.place[SetTable.below t.place slot]? with | some (_,x),some j=>some (x,j+1) | _,_=>none) s):wpAny (model prog w) A (setNext D slot i ep) Q E s:=by
  unfold setNext
  refine wpAny_bind (wpAny_setState_of hD rfl hf ?_)
  dsimp only
  refine wpAny_bind (by_text ?_)
  rw [bt,if_neg (by decide)]
  rw [if_neg (by
    show ¬ ((!t.plain && decide (es.size > 1))=true)
    rw [decide_eq_false (by omega)]
    simp)]
  refine wpAny_bind ?_
  show wpAny _ _ (if (!t.led && !es.isEmpty)=true then _ else pure ()) _ _ _
  rw [if_neg (by rw [hl];simp)]
  exact wpAny_pure (wpAny_pure h)
end
end L2
namespace L2
open PySem PySem.Spec PyProof.Rows PySem.W
theorem slot_seti_iter:Slot "set_iterator" (Str.ofString "__iter__") "set_iterator.__iter__" := Slot.of (owner := "set_iterator") (n := "__iter__") (by kernel_rfl) (by kernel_rfl) (by kernel_rfl) (by kernel_rfl) (.inl (by kernel_rfl)) (by kernel_rfl)
theorem entry_seti_iter:entryFor table "set_iterator.__iter__" = some Builtin.«dict_keyiterator.__iter__»:=by kernel_rfl
theorem args_seti_iter (a:Value):argsOk "set_iterator.__iter__" { pos:=[a] }:=by
  show (match Manifest.signature? "set_iterator.__iter__" with | some sig=>Bind.checkArgs "set_iterator.__iter__" sig { pos:=[a] } | none=>pure ())=pure ()
  rw [signature?_of (id := "set_iterator.__iter__") (n:=['_','_','r','e','t','i','_','_']) (o:=['r','o','t','a','r','e','t','i','_','t','e','s']) (by kernel_rfl) own_seti]
  kernel_rfl
section
variable {prog:Program} {w:World} {A:Around}
theorem seti_self {E:Value→Shared→Prop} {s:Shared} {I D:Addr} {f:Value} {i n ep:Nat} {Q:Value→Shared→Prop} (hI:s.heap.get? I=some (setIt f i D n ep)) (q:Q (.ref I) s):wpAny (model prog w) A (pyIter (.ref I)) Q E s:=by
  have hT:s.TypeIs (.ref I) "set_iterator" := ⟨_,hI,rfl⟩
  refine wpAny_pyIter_slot hT slot_seti_iter (wpAny_call_entry slot_seti_iter hT entry_seti_iter ?_ (args_seti_iter _))
  exact wpAny_pure ⟨.ref I,rfl, "set_iterator", _,hT,slot_seti_next.lookup,q⟩
theorem seti_next {E:Value→Shared→Prop} {s:Shared} {I D:Addr} {f:Value} {i n ep:Nat} {Q:Option Value→Shared→Prop} (hI:s.heap.get? I=some (setIt f i D n ep))
    (h:wpAny (model prog w) A.in1 (Builtin.«set_iterator.__next__» ⟨[.ref I],[]⟩) (fun fin s'=>∃ v,fin=Fin.done (Flow.ret v)∧Q (some v) s') (fun e s'=>(∃ o,s'.heap.get? (match e with | .ref a=>a | _=>0)=some o∧o.cls=.type "StopIteration")∧(∃ a,e=.ref a)∧Q none s') s) :
    wpAny (model prog w) A (pyNext (.ref I)) Q E s:=by
  have hT:s.TypeIs (.ref I) "set_iterator" := ⟨_,hI,rfl⟩
  unfold pyNext
  refine wpAny_bind (wpAny_attempt (wpAny_callSpecial?_slot (name:=Str.ofString "__next__") hT slot_seti_next (wpAny_call_entry slot_seti_next hT entry_seti_next ?_ (args_seti_next _))))
  refine wpAny_mono h (fun fin s' hf=>?_) (fun e s' he=>?_)
  · obtain ⟨v,e1,q⟩:=hf
    exact ⟨v,e1,wpAny_pure q⟩
  · obtain ⟨⟨o,ho,hc⟩,⟨a,rfl⟩,q⟩:=he
    refine wpAny_bind (wpAny_isInstance (T := "StopIteration") (b:=true) ⟨o,ho,hc⟩ isSubtype_stop ?_)
    exact wpAny_pure q
abbrev setAt (D:Addr) (es:Array (Int × Value)) (ep:Nat) (t:SetTable) (h:Heap):Prop:=h.get? D=some { cls:=.type "set", data:=.set es ep t }
theorem walks_text (bt:w.params.followText "set-order" = true) (hh:A.handled=none) {I D:Addr} (DI:D≠I) {es:Array (Int × Value)} {ep:Nat} {t:SetTable} (hf:t.fits es.size=true) :
    Walks prog w A I [I,D] [I] es.size (fun i v=>((pickOrder (w.params.setOrder D ep) es).toList.map (·.2))[i]?=some v) (fun i h=>h.get? I=some (setIt (rawInt 0) i D es.size ep)∧setAt D es ep t h) where
  sub:=fun b hb=>by simp at hb;simp [hb]
  frame:=fun i h h' st k=>⟨k I (by simp) _ st.1,k D (by simp) _ st.2⟩
  item:=fun i s Q E hi st hQ=>by
    have pz:(pickOrder (w.params.setOrder D ep) es).size=es.size:=by
      have:=(pick_perm (w.params.setOrder D ep) es).length_eq
      simpa using this
    have e:(pickOrder (w.params.setOrder D ep) es)[i]?=some ((pickOrder (w.params.setOrder D ep) es)[i]'(by omega)):=Array.getElem?_eq_getElem _
    refine seti_next st.1 (seti_pre st.1 st.2 hf ?_)
    show wpAny _ _ (setNext D 0 i ep >>= _) _ _ s
    refine wpAny_bind (setNext_text bt st.2 hf ?_)
    rw [e]
    dsimp only [Option.map_some]
    refine wpAny_bind (wpAny_setField st.1 rfl (by simp) ?_)
    have e1:(s.heap.update I (Obj.mapFields fun vs=>vs.setIfInBounds 0 (rawInt ((0:Nat):Int)))).get? I=some (setIt (rawInt 0) i D es.size ep):=by
      rw [Heap.get?_update_self _ st.1 rfl];rfl
    refine wpAny_bind (wpAny_setField (s:={ s with heap:=s.heap.update I (Obj.mapFields fun vs=>vs.setIfInBounds 0 (rawInt ((0:Nat):Int))) }) e1 rfl (by simp) (wpAny_pure ⟨_,rfl,?_⟩))
    refine hQ _ _ s.toks ?_ ⟨seti_get (g:=rawInt 0) (j:=0) e1,?_⟩ (fun b o hb eb=>?_)
    · rw [List.getElem?_map,Array.getElem?_toList,e];rfl
    · exact (Heap.get?_update_ne _ _ _ _ DI).trans ((Heap.get?_update_ne _ _ _ _ DI).trans st.2)
    · have nb:b≠I:=by simpa using hb
      rw [Heap.get?_update_ne _ _ _ _ nb,Heap.get?_update_ne _ _ _ _ nb];exact eb
  done:=fun s Q E st hQ=>by
    have pz:(pickOrder (w.params.setOrder D ep) es).size=es.size:=by
      have:=(pick_perm (w.params.setOrder D ep) es).length_eq
      simpa using this
    refine seti_next st.1 (seti_pre st.1 st.2 hf ?_)
    show wpAny _ _ (setNext D 0 es.size ep >>= _) _ _ s
    refine wpAny_bind (setNext_text bt st.2 hf ?_)
    rw [Array.getElem?_eq_none (by omega)]
    dsimp only [Option.map_none]
    refine seti_stop (show A.in1.handled=none from hh) st.1 rfl (by simp) fun h' e x ho=>⟨ho,⟨e,rfl⟩,hQ h' s.toks fun b o hb eb=>x b o (by simpa using hb) eb⟩
  self:=fun i s Q E st q=>seti_self st.1 q
theorem walks_led (bt:w.params.followText "set-order" = false) (hh:A.handled=none) {I D:Addr} (DI:D≠I) {es:Array (Int × Value)} {ep:Nat} {t:SetTable} (hf:t.fits es.size=true) (hl:t.led=true) (hz:es.size≤1) :
    Walks prog w A I [I,D] [I] es.size (fun i v=>(es.toList.map (·.2))[i]?=some v) (fun i h=>h.get? I=some (setIt (rawInt (if i=0 then 0 else ((t.place.getD 0 0:Nat):Int)+1)) i D es.size ep)∧setAt D es ep t h) where
  sub:=fun b hb=>by simp at hb;simp [hb]
  frame:=fun i h h' st k=>⟨k I (by simp) _ st.1,k D (by simp) _ st.2⟩
  item:=fun i s Q E hi st hQ=>by
    have i0:i=0:=by omega
    subst i0
    have pz:t.place.size=es.size:=by
      unfold SetTable.fits at hf
      simp only [Bool.and_eq_true,beq_iff_eq] at hf
      exact hf.1
    obtain ⟨p,hp⟩:∃ p,t.place=#[p]:=Array.size_eq_one_iff.mp (by omega)
    obtain ⟨en,hen⟩:∃ en,es=#[en]:=Array.size_eq_one_iff.mp (by omega)
    refine seti_next st.1 (seti_pre st.1 st.2 hf ?_)
    show wpAny _ _ (setNext D 0 0 ep >>= _) _ _ s
    refine wpAny_bind (setNext_led bt st.2 hf hl hz ?_)
    rw [hp,(below_one p).1,hen]
    show wpAny _ _ (do setField (.ref I) 0 (rawInt ((p+1:Nat):Int));setField (.ref I) 1 (rawInt (((0:Nat):Int)+1));ret en.2) _ _ s
    refine wpAny_bind (wpAny_setField st.1 rfl (by simp) ?_)
    have e1:(s.heap.update I (Obj.mapFields fun vs=>vs.setIfInBounds 0 (rawInt ((p+1:Nat):Int)))).get? I=some (setIt (rawInt ((p+1:Nat):Int)) 0 D es.size ep):=by
      rw [Heap.get?_update_self _ st.1 rfl];rfl
    refine wpAny_bind (wpAny_setField (s:={ s with heap:=s.heap.update I (Obj.mapFields fun vs=>vs.setIfInBounds 0 (rawInt ((p+1:Nat):Int))) }) e1 rfl (by simp) (wpAny_pure ⟨_,rfl,?_⟩))
    refine hQ _ _ s.toks ?_ ⟨?_,?_⟩ (fun b o hb eb=>?_)
    · rw [hen];rfl
    · have:=seti_get (g:=rawInt 0) (j:=0) e1
      rw [hp]
      exact this
    · exact (Heap.get?_update_ne _ _ _ _ DI).trans ((Heap.get?_update_ne _ _ _ _ DI).trans st.2)
    · have nb:b≠I:=by simpa using hb
      rw [Heap.get?_update_ne _ _ _ _ nb,Heap.get?_update_ne _ _ _ _ nb];exact eb
  done:=fun s Q E st hQ=>by
    have pz:t.place.size=es.size:=by
      unfold SetTable.fits at hf
      simp only [Bool.and_eq_true,beq_iff_eq] at hf
      exact hf.1
    refine seti_next st.1 (seti_pre st.1 st.2 hf ?_)
    have fin:wpAny (model prog w) A.in1 (do setField (.ref I) 2 .none;let __do_lift ← newExc (.type "StopIteration") [];raiseNew __do_lift) (fun fin s'=>∃ v,fin=Fin.done (Flow.ret v)∧Q (some v) s') (fun e s'=>(∃ o,s'.heap.get? (match e with | .ref a=>a | _=>0)=some o∧o.cls=.type "StopIteration")∧(∃ a,e=.ref a)∧Q none s') s:=
      seti_stop (show A.in1.handled=none from hh) st.1 rfl (by simp) fun h' e x ho=>⟨ho,⟨e,rfl⟩,hQ h' s.toks fun b o hb eb=>x b o (by simpa using hb) eb⟩
    rcases Nat.eq_zero_or_pos es.size with z | z
    · rw [if_pos z]
      show wpAny _ _ (setNext D 0 es.size ep >>= _) _ _ s
      refine wpAny_bind (setNext_led bt st.2 hf hl hz ?_)
      have:es=#[]:=Array.eq_empty_of_size_eq_zero z
      rw [this]
      exact fin
    · rw [if_neg (by omega)]
      obtain ⟨p,hp⟩:∃ p,t.place=#[p]:=Array.size_eq_one_iff.mp (by omega)
      obtain ⟨en,hen⟩:∃ en,es=#[en]:=Array.size_eq_one_iff.mp (by omega)
      have e0:((t.place.getD 0 0:Nat):Int)+1=((p+1:Nat):Int):=by rw [hp];rfl
      rw [e0]
      show wpAny _ _ (setNext D (p+1) es.size ep >>= _) _ _ s
      refine wpAny_bind (setNext_led bt st.2 hf hl hz ?_)
      rw [hp,(below_one p).2,hen]
      exact fin
  self:=fun i s Q E st q=>seti_self st.1 q
theorem walks_drawn (hh:A.handled=none) {I D T:Addr} (DI:D≠I) (TI:T≠I) {es:Array (Int × Value)} {ep:Nat} {t:SetTable} (hf:t.fits es.size=true) {ps:List Nat} (hp:ps.Perm (List.range es.size)) :
    Walks prog w A I [I,D,T] [I] es.size (fun i v=>(ps.map fun p=>(es.toList.getD p (0,.none)).2)[i]?=some v) (fun i h=>h.get? I=some (setIt (.ref T) i D es.size ep)∧setAt D es ep t h∧h.get? T=some { cls:=.type "tuple", data:=.seq (ps.map fun p:Nat=>rawInt (p:Int)).toArray }) where
  sub:=fun b hb=>by simp at hb;simp [hb]
  frame:=fun i h h' st k=>⟨k I (by simp) _ st.1,k D (by simp) _ st.2.1,k T (by simp) _ st.2.2⟩
  item:=fun i s Q E hi st hQ=>by
    have pl:ps.length=es.size:=by have:=hp.length_eq;simpa using this
    have ei:ps[i]?=some (ps[i]'(by omega)):=List.getElem?_eq_getElem _
    have pil:ps[i]'(by omega) < es.size:=List.mem_range.mp (hp.mem_iff.mp (List.getElem_mem _))
    refine seti_next st.1 (seti_pre st.1 st.2.1 hf ?_)
    show wpAny _ _ (seqItems? (.ref T) >>= _) _ _ s
    refine wpAny_bind (wpAny_seqItems st.2.2 rfl ?_)
    dsimp only
    have eg:(ps.map fun p:Nat=>rawInt (p:Int)).toArray[i]?=some (.int ((ps[i]'(by omega):Nat):Int) 0):=by
      rw [List.getElem?_toArray,List.getElem?_map,ei];rfl
    rw [eg]
    dsimp only
    unfold setNextDrawn
    refine wpAny_bind (wpAny_bind (wpAny_setState_of st.2.1 rfl hf ?_))
    dsimp only
    rw [if_neg (by simp),Int.toNat_natCast,Array.getElem?_eq_getElem pil]
    dsimp only
    refine wpAny_pure ?_
    refine wpAny_bind (wpAny_setField st.1 rfl (by simp) (wpAny_pure ⟨_,rfl,?_⟩))
    refine hQ _ _ s.toks ?_ ⟨seti_get (g:=rawInt 0) (j:=0) st.1,?_,?_⟩ (fun b o hb eb=>?_)
    · rw [List.getElem?_map,ei]
      show some ((es.toList.getD (ps[i]'(by omega)) (0,.none)).2)=_
      rw [List.getD_eq_getElem?_getD,Array.getElem?_toList,Array.getElem?_eq_getElem pil];rfl
    · exact (Heap.get?_update_ne _ _ _ _ DI).trans st.2.1
    · rw [Heap.get?_update_ne _ _ _ _ TI];exact st.2.2
    · have nb:b≠I:=by simpa using hb
      rw [Heap.get?_update_ne _ _ _ _ nb];exact eb
  done:=fun s Q E st hQ=>by
    have pl:ps.length=es.size:=by have:=hp.length_eq;simpa using this
    refine seti_next st.1 (seti_pre st.1 st.2.1 hf ?_)
    show wpAny _ _ (seqItems? (.ref T) >>= _) _ _ s
    refine wpAny_bind (wpAny_seqItems st.2.2 rfl ?_)
    dsimp only
    rw [show (ps.map fun p:Nat=>rawInt (p:Int)).toArray[es.size]?=none by rw [List.getElem?_toArray,List.getElem?_map,List.getElem?_eq_none (by omega)];rfl]
    dsimp only
    refine wpAny_bind (wpAny_setField st.1 rfl (by simp) ?_)
    have e1:(s.heap.update I (Obj.mapFields fun vs=>vs.setIfInBounds 0 (rawInt 0))).get? I=some (setIt (rawInt 0) es.size D es.size ep):=by
      rw [Heap.get?_update_self _ st.1 rfl];rfl
    refine seti_stop (s:={ s with heap:=s.heap.update I (Obj.mapFields fun vs=>vs.setIfInBounds 0 (rawInt 0)) }) (show A.in1.handled=none from hh) e1 rfl (by simp) fun h' e x ho=>⟨ho,⟨e,rfl⟩,hQ h' s.toks fun b o hb eb=>x b o (by simpa using hb) (by
      have nb:b≠I:=by simpa using hb
      rw [Heap.get?_update_ne _ _ _ _ nb];exact eb)⟩
  self:=fun i s Q E st q=>seti_self st.1 q
end
end L2
namespace L2
open PySem PySem.Spec PyProof.Rows PySem.W
section
variable {prog:Program} {w:World} {A:Around} {E:Value→Shared→Prop} {s:Shared}
theorem range_map_getD {α β:Type} (f:α→β) (l:List α) (d:α):((List.range l.length).map fun p=>f (l.getD p d))=l.map f:=by
  apply List.ext_getElem
  · simp
  · intro i h1 h2
    simp only [List.length_map] at h2
    rw [List.getElem_map,List.getElem_range,List.getElem_map,List.getD_eq_getElem?_getD,List.getElem?_eq_getElem h2];rfl
theorem set_iter {D:Addr} {es:Array (Int × Value)} {ep:Nat} {t:SetTable} {S:List Str} {Q:Value→Shared→Prop} (hD:setAt D es ep t s.heap) (hS:SetS w (ledOf w) es t S) (hz:es.size≤1000)
    (h:∀ (I:Addr) (fp:List Addr) (St:Nat→Heap→Prop) (vs:List Value) (h1:Heap) (d:Drawn),(∀ A':Around,A'.handled=none→Walks prog w A' I fp [I] es.size (fun i v=>vs[i]?=some v) St)→St 0 h1→s.heap.objs.size≤I→(∀ b∈fp,b < h1.objs.size)→(∀ b o,s.heap.get? b=some o→h1.get? b=some o)→vs.Perm (es.toList.map (·.2))→h1.get? I≠none→(∀ b∈fp,b=I∨b=D∨s.heap.objs.size≤b)→Q (.ref I) { s with heap:=h1,drawn:=d }) :
    wpAny (model prog w) A (pyIter (.ref D)) Q E s:=by
  have hT:s.TypeIs (.ref D) "set" := ⟨_,hD,rfl⟩
  have Dlt:D < s.heap.objs.size:=Heap.lt_size hD
  refine wpAny_pyIter_slot hT F.slot_set_iter (wpAny_call_entry F.slot_set_iter hT entry_set_iter ?_ (F.args_set_iter_1 _))
  unfold Builtin.«frozenset.__iter__» Builtin.Frozenset.slot0
  refine wpAny_bind (wpAny_bind ?_)
  show wpAny _ _ (pure (Value.ref D,[])) _ _ _
  refine wpAny_pure ?_
  show wpAny _ _ (pure D) _ _ _
  refine wpAny_pure ?_
  unfold Builtin.Frozenset.sizeOf setEntries
  refine wpAny_bind (wpAny_bind (wpAny_bind (wpAny_setState_of hD rfl hS.fit (wpAny_pure (wpAny_pure ?_)))))
  unfold setDrawn
  refine wpAny_bind (wpAny_bind (wpAny_setState_of hD rfl hS.fit ?_))
  dsimp only
  refine wpAny_bind (by_text (wpAny_pure ?_))
  have szp:∀ (g:Heap) (o:Obj),(g.push o).objs.size=g.objs.size+1:=fun g o=>Heap.size_push ..
  by_cases dr:(!w.params.followText "set-order" && (!t.plain && decide (es.size > 1)))=true
  · refine wpAny_ite_true ?_ ?_
    · exact decide_eq_true dr
    refine wpAny_bind (draw_ok es.size (List.range es.size) _ _ (by simp) fun ps d hp=>?_)
    have pl:ps.length=es.size:=by have:=hp.length_eq;simpa using this
    unfold newTuple
    refine wpAny_bind (wpAny_newObj_type ?_ (by
      show (ps.map fun i:Nat=>rawInt (i:Int)).toArray.size≤sizeLine
      rw [List.size_toArray,List.length_map,sizeLine_eq];omega))
    unfold setEpoch
    have hD1:setAt D es ep t (s.heap.push { cls:=.type "tuple", data:=.seq (ps.map fun i:Nat=>rawInt (i:Int)).toArray }):=Heap.get?_push_of_some _ hD
    refine wpAny_bind (wpAny_bind (wpAny_setState_of (s:={ s with heap:=s.heap.push { cls:=.type "tuple", data:=.seq (ps.map fun i:Nat=>rawInt (i:Int)).toArray },drawn:=d }) hD1 rfl hS.fit (wpAny_pure ?_)))
    dsimp only
    unfold newFields
    refine wpAny_bind (wpAny_newObj_type ?_)
    refine wpAny_pure ⟨_,rfl, "set_iterator", _,⟨_,Heap.get?_push_size _ rfl,rfl⟩,slot_seti_next.lookup,?_⟩
    have TI:s.heap.objs.size≠(s.heap.push { cls:=.type "tuple", data:=.seq (ps.map fun i:Nat=>rawInt (i:Int)).toArray }).objs.size:=by rw [szp];omega
    have DI:D≠(s.heap.push { cls:=.type "tuple", data:=.seq (ps.map fun i:Nat=>rawInt (i:Int)).toArray }).objs.size:=by rw [szp];exact Nat.ne_of_lt (Nat.lt_succ_of_lt Dlt)
    refine h _ _ _ _ _ d (fun A' hA'=>walks_drawn (T:=s.heap.objs.size) hA' DI TI hS.fit hp) ⟨Heap.get?_push_size _ rfl,Heap.get?_push_of_some _ hD1,Heap.get?_push_of_some _ (Heap.get?_push_size _ rfl)⟩ ?_ ?_ (fun b o e=>Heap.get?_push_of_some _ (Heap.get?_push_of_some _ e)) ?_ ?_ ?_
    · rw [szp];omega
    · intro b hb
      rw [szp,szp]
      simp only [List.mem_cons,List.not_mem_nil,or_false] at hb
      rcases hb with rfl | rfl | rfl
      · rw [szp];exact Nat.lt_succ_self _
      · exact Nat.lt_succ_of_lt (Nat.lt_succ_of_lt Dlt)
      · exact Nat.lt_succ_of_lt (Nat.lt_succ_self _)
    · have:=hp.map (fun p=>(es.toList.getD p (0,.none)).2)
      have e2:=range_map_getD (fun e:Int × Value=>e.2) es.toList (0,.none)
      rw [Array.length_toList] at e2
      rw [e2] at this
      exact this
    · rw [Heap.get?_push_size _ rfl];simp
    · intro b hb
      simp only [List.mem_cons,List.not_mem_nil,or_false] at hb
      rcases hb with rfl | rfl | rfl
      · exact .inl rfl
      · exact .inr (.inl rfl)
      · exact .inr (.inr (Nat.le_refl _))
  · refine wpAny_ite_false ?_ ?_
    · exact decide_eq_false dr
    refine wpAny_bind (wpAny_pure ?_)
    unfold setEpoch
    refine wpAny_bind (wpAny_bind (wpAny_setState_of hD rfl hS.fit (wpAny_pure ?_)))
    dsimp only
    unfold newFields
    refine wpAny_bind (wpAny_newObj_type ?_)
    refine wpAny_pure ⟨_,rfl, "set_iterator", _,⟨_,Heap.get?_push_size _ rfl,rfl⟩,slot_seti_next.lookup,?_⟩
    have DI:D≠s.heap.objs.size:=Nat.ne_of_lt Dlt
    have fpl:∀ b∈[s.heap.objs.size,D],b < (s.heap.push (setIt (rawInt 0) 0 D es.size ep)).objs.size:=fun b hb=>by
      rw [szp]
      simp only [List.mem_cons,List.not_mem_nil,or_false] at hb
      rcases hb with rfl | rfl
      · exact Nat.lt_succ_self _
      · exact Nat.lt_succ_of_lt Dlt
    have fpw:∀ b∈[s.heap.objs.size,D],b=s.heap.objs.size∨b=D∨s.heap.objs.size≤b:=fun b hb=>by
      simp only [List.mem_cons,List.not_mem_nil,or_false] at hb
      rcases hb with rfl | rfl
      · exact .inl rfl
      · exact .inr (.inl rfl)
    cases bt:w.params.followText "set-order" with
    | true=>
      refine h _ _ _ _ _ s.drawn (fun A' hA'=>walks_text bt hA' DI hS.fit) ⟨Heap.get?_push_size _ rfl,Heap.get?_push_of_some _ hD⟩ (Nat.le_refl _) fpl (fun b o e=>Heap.get?_push_of_some _ e) ((pick_perm _ es).map _) (by rw [Heap.get?_push_size _ rfl];simp) fpw
    | false=>
      have hl:t.led=true:=by rw [hS.led];unfold ledOf;rw [bt];rfl
      have z1:es.size≤1:=by
        rcases hS.pl with z | z
        · omega
        · rw [bt,z] at dr
          have:¬ es.size > 1:=fun c=>dr (by simp [c])
          omega
      refine h _ _ _ _ _ s.drawn (fun A' hA'=>walks_led bt hA' DI hS.fit hl z1) ⟨Heap.get?_push_size _ rfl,Heap.get?_push_of_some _ hD⟩ (Nat.le_refl _) fpl (fun b o e=>Heap.get?_push_of_some _ e) (List.Perm.refl _) (by rw [Heap.get?_push_size _ rfl];simp) fpw
theorem hint_set {r:Addr} {Q:Bool→Shared→Prop} (hT:s.TypeIs (.ref r) "set") (h:Q false s):wpAny (model prog w) A (Builtin.List.listLengthHint (.ref r)) Q E s:=by
  unfold Builtin.List.listLengthHint
  refine wpAny_bind (wpAny_specialOf hT F.slot_set_len.lookup ?_)
  dsimp only
  rw [show splitId "set.__len__" = some ("set", "__len__") by kernel_rfl]
  dsimp only
  refine wpAny_bind (wpAny_isInstance hT F.sub_set_set ?_)
  rw [if_neg (by decide)]
  refine wpAny_ite_true (by kernel_rfl) ?_
  refine wpAny_bind (wpAny_typeOf hT ?_)
  exact wpAny_pure h
end
end L2
namespace L2
open PySem PySem.Spec PyProof.Rows PySem.W
section
variable {prog:Program} {w:World} {A:Around} {E:Value→Shared→Prop} {s:Shared}
theorem set_collect {D:Addr} {es:Array (Int × Value)} {ep:Nat} {t:SetTable} {S:List Str} {Q:List Value→Shared→Prop} (hD:setAt D es ep t s.heap) (hS:SetS w (ledOf w) es t S) (hh:A.handled=none) (hz:es.size≤1000)
    (h:∀ h' tk d acc,(∀ b o,s.heap.get? b=some o→h'.get? b=some o)→s.heap.objs.size≤h'.objs.size→acc.Perm (es.toList.map (·.2))→Q acc { s with heap:=h',toks:=tk,drawn:=d }) :
    wpAny (model prog w) A (collect (.ref D)) Q E s:=by
  have Dlt:D < s.heap.objs.size:=Heap.lt_size hD
  unfold collect
  refine wpAny_bind (wpAny_runValue (codeAny_builtin F.entry_proto_collect ?_))
  rw [Around.under_plainId F.plain_proto_collect _]
  show wpAny _ A.in1 (newList [] >>= fun l=>again (.builtin "list.__iadd__" ⟨[l,.ref D],[]⟩)) _ _ s
  refine wpAny_bind (wpAny_newObj_type ?_)
  refine wpAny_pure ⟨plainId_quiet F.plain_list_iadd _,codeAny_builtin F.entry_list_iadd ?_⟩
  rw [Around.under_plainId F.plain_list_iadd _]
  show wpAny _ A.in1 (Builtin.List.listExtendWith (.ref s.heap.objs.size) (.ref D) (.ref s.heap.objs.size)) _ _ _
  have hS₁:(s.heap.push { cls:=.type "list", data:=.seq ([]:List Value).toArray }).get? s.heap.objs.size=some { cls:=.type "list", data:=.seq #[] 0 }:=Heap.get?_push_size _ rfl
  have hD1:setAt D es ep t (s.heap.push { cls:=.type "list", data:=.seq ([]:List Value).toArray }):=Heap.get?_push_of_some _ hD
  have szp:(s.heap.push { cls:=.type "list", data:=.seq ([]:List Value).toArray }).objs.size=s.heap.objs.size+1:=Heap.size_push ..
  have old1:∀ b o,s.heap.get? b=some o→(s.heap.push { cls:=.type "list", data:=.seq ([]:List Value).toArray }).get? b=some o:=fun b o e=>Heap.get?_push_of_some _ e
  generalize s.heap.push { cls:=.type "list", data:=.seq ([]:List Value).toArray }=g at hS₁ hD1 szp old1
  have hT:({ s with heap:=g }:Shared).TypeIs (.ref D) "set" := ⟨_,hD1,rfl⟩
  unfold Builtin.List.listExtendWith
  refine wpAny_bind (wpAny_typeOf hT ?_)
  rw [if_neg (by
    have:(s.heap.objs.size == D)=false:=by simpa using Nat.ne_of_gt Dlt
    show ¬ (((s.heap.objs.size == D) || _ || _)=true)
    rw [this];decide)]
  refine wpAny_bind (set_iter (s:={ s with heap:=g }) hD1 hS hz fun I fp St vs h1 d Wk st0 Ige fpl old2 vp hI fpw=>?_)
  have hT2:({ s with heap:=h1,drawn:=d }:Shared).TypeIs (.ref D) "set" := ⟨_,old2 _ _ hD1,rfl⟩
  refine wpAny_bind (wpAny_holding (hint_set hT2 ?_))
  dsimp only
  have Ige':s.heap.objs.size+1≤I:=by rw [← szp];exact Ige
  have vl:vs.length=es.size:=by have:=vp.length_eq;simpa using this
  have hS2:=old2 _ _ hS₁
  have nfp:s.heap.objs.size ∉ fp:=fun hm=>by
    rcases fpw _ hm with z | z | z
    · have z':s.heap.objs.size=I:=z
      rw [← z'] at Ige'
      exact Nat.not_succ_le_self _ Ige'
    · have z':s.heap.objs.size=D:=z
      rw [z'] at Dlt
      exact Nat.lt_irrefl _ Dlt
    · rw [szp] at z
      have z':s.heap.objs.size+1≤s.heap.objs.size:=z
      omega
  have fin:∀ (c0:Nat) (h2:Heap),h2.get? s.heap.objs.size=some { cls:=.type "list", data:=.seq #[] c0 }→(∀ b o,b≠s.heap.objs.size→h1.get? b=some o→h2.get? b=some o) →
      codeAny (model prog w) A (.builtin "list.extend.loop" ⟨[.ref s.heap.objs.size,.ref I,.ref s.heap.objs.size],[]⟩) (fun r s'=>match r with | .ok (.ret v)=>wpAny (model prog w) A (match v with | .ref a=>(do let __do_lift ← load a;match __do_lift.data with | .seq xs _=>pure xs.toList | _=>unsupported "internal:collect") | _=>unsupported "internal:collect") Q E s' | .ok _=>False | .error e=>E e s') { s with heap:=h2,drawn:=d }:=fun c0 h2 hg2 k2=>by
    refine codeAny_extend_loopS (Wk A.in1 hh).toS (by rw [sizeLine_eq];omega) s.heap.objs.size nfp (.ref s.heap.objs.size) es.size 0 _ #[] c0 (Nat.sub_zero _) (Nat.zero_le _) ((Wk A.in1 hh).frame 0 _ _ st0 fun b hb o e=>k2 b o (fun z=>nfp (by rw [← z];exact hb)) e) hg2 ⟨rfl,fun j v hj=>by simp at hj⟩ fun s' acc' c' mv hg3 it=>?_
    obtain ⟨hp',gn',dr',tk',os'⟩:=s'
    have e1:gn'=s.gens:=mv.gens
    have e2:dr'=d:=mv.drawn
    have e3:os'=s.os:=mv.os
    subst e1;subst e2;subst e3
    refine wpAny_bind (wpAny_load hg3 (wpAny_pure ?_))
    have ea:acc'.toList=vs:=by
      apply List.ext_getElem?
      intro i
      rcases Nat.lt_or_ge i es.size with c | c
      · have hi:i < acc'.size:=by rw [it.1];exact c
        have:=it.2 i acc'[i] (Array.getElem?_eq_getElem hi)
        rw [Array.getElem?_toList,Array.getElem?_eq_getElem hi,this]
      · rw [Array.getElem?_toList,Array.getElem?_eq_none (by rw [it.1];exact c),List.getElem?_eq_none (by omega)]
    rw [ea]
    refine h hp' tk' _ vs (fun b o e=>?_) ?_ vp
    · have bl:b≠s.heap.objs.size:=Nat.ne_of_lt (Heap.lt_size e)
      have bI:b≠I:=fun z=>by
        have h1:b < s.heap.objs.size:=Heap.lt_size e
        have h2:b=I:=z
        have h3:I < s.heap.objs.size:=by rw [← h2];exact h1
        exact absurd (Nat.lt_of_lt_of_le h3 (Nat.le_of_succ_le Ige')) (Nat.lt_irrefl _)
      exact mv.heap b o (by simp [bl,bI]) (k2 b o bl (old2 _ _ (old1 _ _ e)))
    · exact Nat.le_of_lt (Heap.lt_size hg3)
  rw [if_pos (by decide +kernel)]
  refine wpAny_bind (wpAny_rule (wpAny_bind ?_))
  unfold Builtin.List.listTouch
  refine wpAny_bind (listUpdate_at (a:=s.heap.objs.size) (s:={ s with heap:=h1,drawn:=d }) hS2 rfl ?_ (Nat.zero_le _) (by show 1≤sizeLine+1;omega))
  have g1:=get?_update_seq hS2 (fun x=>x.push Value.none)
  refine listUpdate_at (a:=s.heap.objs.size) (s:={ s with heap:=h1.update s.heap.objs.size (Obj.mapSeq fun x=>x.push Value.none),drawn:=d }) g1 rfl ?_ (by show 1≤sizeLine;rw [sizeLine_eq];decide) (Nat.zero_le _)
  have g2:=get?_update_seq g1 (fun x=>x.pop)
  refine wpAny_pure ⟨plainId_quiet (by kernel_rfl) _,?_⟩
  exact fin _ _ g2 fun b o n e=>(Heap.get?_update_ne _ _ _ _ n).trans ((Heap.get?_update_ne _ _ _ _ n).trans e)
theorem perm_strs:∀ {es:List (Int × Value)} {acc:List Value},(∀ e∈es,∃ x tk,e=(hashStr w x,Value.str x tk))→acc.Perm (es.map (·.2))→∃ ss,StrsAre acc ss∧ss.Perm (es.map keyOf):=fun {es acc} he hp=>by
  let f:Value→Str:=fun v=>match v with | .str x _=>x | _=>Str.empty
  have hall:∀ v∈acc,∃ x tk,v=Value.str x tk:=fun v hv=>by
    obtain ⟨e,hm,rfl⟩:=List.mem_map.mp (hp.mem_iff.mp hv)
    obtain ⟨x,tk,rfl⟩:=he e hm
    exact ⟨x,tk,rfl⟩
  have go:∀ (l:List Value),(∀ v∈l,∃ x tk,v=Value.str x tk)→StrsAre l (l.map f):=fun l=>by
    induction l with
    | nil=>intro _;exact .nil
    | cons v r ih=>
      intro hl
      obtain ⟨x,tk,rfl⟩:=hl v List.mem_cons_self
      exact .cons x tk (ih fun u hu=>hl u (List.mem_cons_of_mem _ hu))
  refine ⟨acc.map f,go acc hall,?_⟩
  have:=hp.map f
  rw [List.map_map] at this
  have e2:es.map (f ∘ fun e=>e.2)=es.map keyOf:=List.map_congr_left fun e _=>rfl
  rw [e2] at this
  exact this
theorem set_sorted {D:Addr} {S:List Str} {n:Nat} {Q:Value→Shared→Prop} (hA:SetA w (ledOf w) s.heap D S n) (hh:A.handled=none) (hn:n < 64)
    (h:∀ h' tk d l out ss' e,(∀ b o,s.heap.get? b=some o→h'.get? b=some o)→s.heap.objs.size≤l→h'.get? l=some (seqObj "list" out e)→StrsAre out.toList ss'→ss'.Nodup→(∀ x,x∈ss' ↔ x∈S)→sortedS ss'=true→ss'.length≤n→Q (.ref l) { s with heap:=h',toks:=tk,drawn:=d }) :
    wpAny (model prog w) A (call (.builtin "sorted") [.ref D]) Q E s:=by
  obtain ⟨es,ep,t,hD,hS,hsz⟩:=hA
  refine Calls.call_function_entry kind_sorted plain_sorted entry_sorted (args_sorted1 _) ?_
  unfold Builtin.«sorted»
  refine wpAny_bind (m:=checkCount "sorted" 1 1 _) (wpAny_pure ?_)
  refine wpAny_bind (set_collect (A:=A.in1) hD hS hh (by omega) fun h1 tk d acc old1 sz1 hp=>?_)
  obtain ⟨ss,hv,hpk⟩:=perm_strs hS.ent hp
  have al:acc.length=es.size:=by have:=hp.length_eq;simpa using this
  have fz:acc.length≤sizeLine:=by rw [sizeLine_eq];omega
  refine wpAny_bind (wpAny_newList ?_ fz)
  have hDL:(h1.push (seqObj "list" acc.toArray 0)).get? h1.objs.size=some (seqObj "list" acc.toArray 0):=Heap.get?_push_size _ rfl
  refine wpAny_bind (wpAny_holding (wpAny_call_entry slot_list_sort ⟨_,hDL,rfl⟩ entry_list_sort (list_sort_treeK (s:={ s with heap:=h1.push (seqObj "list" acc.toArray 0),toks:=tk,drawn:=d }) strKind_oneLt hDL (StrsAre.keysOf hv) (fun v₁ v₂ rest e=>keyKind_strs (by rw [← e];exact hv)) (by omega) fun st' a1 a2=>⟨_,rfl,?_⟩) (args_list_sort _)))
  obtain ⟨ss',b1,b2,b3⟩:=sorted_out_str hv a1 a2
  obtain ⟨e,he⟩:=sortedHeap_at hDL
  refine wpAny_pure ⟨_,rfl,h _ tk d h1.objs.size _ ss' e (fun b o eb=>?_) sz1 he b1 ?_ (fun x=>?_) b3 ?_⟩
  · have lt:=Heap.lt_size (old1 _ _ eb)
    rw [sortedHeap_old (Nat.ne_of_lt lt) (by rw [show (h1.push (seqObj "list" acc.toArray 0)).objs.size=h1.objs.size+1 from Heap.size_push ..];exact Nat.lt_succ_of_lt lt)]
    exact Heap.get?_push_of_some _ (old1 _ _ eb)
  · exact (b2.trans hpk).nodup_iff.mpr hS.nd
  · rw [(b2.trans hpk).mem_iff];exact hS.mem x
  · have t1:(es.toList.map keyOf).length=es.size:=by rw [List.length_map,Array.length_toList]
    have t2:=(b2.trans hpk).length_eq
    exact Nat.le_trans (Nat.le_of_eq (t2.trans t1)) hsz
end
end L2
namespace L2
open PySem PySem.Spec PyProof.Rows PySem.W
theorem Inv.drawn {X:Cx} {pins:List (Addr × Obj)} {σ:St} {H:Hp} {s:Shared} (I:Inv X pins σ H s) (d:Drawn):Inv X pins σ H { s with drawn:=d }:=
  ⟨I.ok,I.os,I.bare,I.base,I.loc,I.cell,I.free,I.freeC,I.pin,I.hok,I.len⟩
theorem bt_set:bootBuiltins "set" = some (.type "set"):=by kernel_rfl
theorem bt_sorted':bootBuiltins "sorted" = some (.builtin "sorted"):=by kernel_rfl
section
variable {X:Cx} {a:Expr} {ta:TA} {p p2 pos pos2:Pos}
end
end L2
namespace L2
open PySem PySem.Spec PyProof.Rows
section
variable {κ:Type} [DecidableEq κ]
def valV (kvs:List (κ × V)) (k:κ):Option V:=(kvs.find? fun kv=>decide (kv.1=k)).map (·.2)
def putK (kvs:List (κ × V)) (k:κ) (v:V):List (κ × V):=
  if (kvs.any fun kv=>decide (kv.1=k))=true then kvs.map (fun kv=>if kv.1=k then (kv.1,v) else kv) else kvs++[(k,v)]
theorem valV_pos {p:κ × V} {r:List (κ × V)} {k:κ} (e:p.1=k):valV (p :: r) k=some p.2:=by simp [valV,List.find?_cons,e]
theorem valV_neg {p:κ × V} {r:List (κ × V)} {k:κ} (e:¬ p.1=k):valV (p :: r) k=valV r k:=by simp [valV,List.find?_cons,e]
theorem valV_any (k:κ):∀ kvs:List (κ × V),(kvs.any fun kv=>decide (kv.1=k))=(valV kvs k).isSome
  | []=>rfl
  | p :: r=>by
    rw [List.any_cons]
    by_cases e:p.1=k
    · simp only [valV_pos e,decide_eq_true e,Bool.true_or,Option.isSome_some]
    · rw [valV_neg e,decide_eq_false e,Bool.false_or];exact valV_any k r
theorem length_putK (kvs:List (κ × V)) (k:κ) (v:V):(putK kvs k v).length≤kvs.length+1:=by
  unfold putK
  split
  · rw [List.length_map];omega
  · rw [List.length_append,List.length_cons,List.length_nil];omega
theorem RelO.isSome_eq {o:Option V} {u:Option Value} (r:RelO o u):o.isSome=u.isSome:=by
  cases o with
  | none=>cases u with
    | none=>rfl
    | some _=>exact (show False from r).elim
  | some _=>cases u with
    | none=>exact (show False from r).elim
    | some _=>rfl
theorem KV.any {kvs:List (κ × V)} {vs:List (κ × Value)} (r:KV kvs vs) (k:κ):(kvs.any fun kv=>decide (kv.1=k))=vs.any fun kv=>decide (kv.1=k):=by
  unfold KV at r
  induction r with
  | nil=>rfl
  | cons h t ih=>rw [List.any_cons,List.any_cons,ih,h.1]
theorem KV.repl {kvs:List (κ × V)} {vs:List (κ × Value)} (r:KV kvs vs) (k:κ) {y:V} {u:Value} (ry:RelV y u) :
    KV (kvs.map fun kv=>if kv.1=k then (kv.1,y) else kv) (vs.map fun kv=>if kv.1=k then (kv.1,u) else kv):=by
  unfold KV at r ⊢
  induction r with
  | nil=>exact .nil
  | @cons p q ps qs h t ih=>
    rw [List.map_cons,List.map_cons]
    refine .cons ?_ ih
    obtain ⟨h1,h2⟩:=h
    by_cases e:p.1=k
    · rw [if_pos e,if_pos (h1.symm.trans e)];exact ⟨h1,ry⟩
    · rw [if_neg e,if_neg (fun z=>e (h1.trans z))];exact ⟨h1,h2⟩
theorem KV.put {kvs:List (κ × V)} {vs:List (κ × Value)} (r:KV kvs vs) (k:κ) {y:V} {u:Value} (ry:RelV y u):KV (putK kvs k y) (stored vs k u):=by
  unfold putK stored
  rw [r.any k]
  by_cases e:(vs.any fun kv=>decide (kv.1=k))=true
  · rw [if_pos e,if_pos e];exact r.repl k ry
  · rw [if_neg e,if_neg e];exact Paired.snoc r ⟨rfl,ry⟩
theorem KV.length {kvs:List (κ × V)} {vs:List (κ × Value)} (r:KV kvs vs):kvs.length=vs.length:=Paired.length r
end
theorem kV_is {P:Program} {w:World} {k:Key} {u:Value} (r:RelV (kV k) u):(mixKind P w).is k u=true:=by
  cases k with
  | inl i=>obtain ⟨t,e⟩:=(show ∃ t,u=Value.int i t from r);subst e;exact mixKind_int P w i t
  | inr x=>obtain ⟨t,e⟩:=(show ∃ t,u=Value.str x t from r);subst e;exact mixKind_str P w x t
theorem items_are {P:Program} {w:World}:∀ {ks:List Key} {us:List Value},Vals (ks.map kV) us→ItemsAre (mixKind P w) ks us
  | [],_,r=>by rw [List.map_nil] at r;cases r;exact .nil
  | k :: ks,_,r=>by
    rw [List.map_cons] at r
    cases r with
    | cons h t=>exact .cons (kV_is h) (items_are t)
abbrev KT (H:Hp):List (List Key × V)→List (List Key × Addr × Value)→Prop:=Paired fun p q=>p.1=q.1∧H q.2.1=some (.tup (p.1.map kV))∧RelV p.2 q.2.2
theorem KT.val {H:Hp} {kvs:List (List Key × V)} {xs:List (List Key × Addr × Value)} (r:KT H kvs xs) (k:List Key):RelO (valV kvs k) ((atKey xs k).map (·.2)):=by
  induction r with
  | nil=>exact True.intro
  | @cons p q ps qs h t ih=>
    obtain ⟨h1,_,h2⟩:=h
    by_cases e:p.1=k
    · have e':q.1=k:=h1.symm.trans e
      have b:atKey (q :: qs) k=some q.2:=by simp [atKey,List.find?_cons,e']
      rw [valV_pos e,b];exact h2
    · have e':¬ q.1=k:=fun z=>e (h1.trans z)
      have b:atKey (q :: qs) k=atKey qs k:=by simp [atKey,List.find?_cons,e']
      rw [valV_neg e,b];exact ih
theorem KT.repl {H:Hp} {kvs:List (List Key × V)} {xs:List (List Key × Addr × Value)} (r:KT H kvs xs) (k:List Key) {y:V} {u:Value} (ry:RelV y u) :
    KT H (kvs.map fun kv=>if kv.1=k then (kv.1,y) else kv) (xs.map (putAt k u)):=by
  induction r with
  | nil=>exact .nil
  | @cons p q ps qs h t ih=>
    rw [List.map_cons,List.map_cons]
    refine .cons ?_ ih
    obtain ⟨h1,h2,h3⟩:=h
    unfold putAt
    by_cases e:p.1=k
    · rw [if_pos e,if_pos (h1.symm.trans e)];exact ⟨h1,h2,ry⟩
    · rw [if_neg e,if_neg (fun z=>e (h1.trans z))];exact ⟨h1,h2,h3⟩
theorem KT.put {H:Hp} {kvs:List (List Key × V)} {xs:List (List Key × Addr × Value)} (r:KT H kvs xs) (k:List Key) {b:Addr} {y:V} {u:Value} (hb:H b=some (.tup (k.map kV))) (ry:RelV y u) :
    KT H (putK kvs k y) (storedH xs k b u):=by
  have e:(kvs.any fun kv=>decide (kv.1=k))=(atKey xs k).isSome:=by
    rw [valV_any,(r.val k).isSome_eq,Option.isSome_map]
  unfold putK storedH
  rw [e]
  by_cases q:(atKey xs k).isSome=true
  · rw [if_pos q,if_pos q];exact r.repl k ry
  · rw [if_neg q,if_neg q];exact Paired.snoc r ⟨rfl,hb,ry⟩
theorem KT.keeps {H H':Hp} {kvs:List (List Key × V)} {xs:List (List Key × Addr × Value)} (r:KT H kvs xs) (ht:∀ b ys,H b=some (.tup ys)→H' b=some (.tup ys)):KT H' kvs xs:=
  Paired.mapP r fun _ _ z=>⟨z.1,ht _ _ z.2.1,z.2.2⟩
section
variable {P:Program} {w:World} {H:Hp} {h:Heap} {a:Addr}
theorem rd_of {u:HO} (ok:HOk P w H h) (e:Rd H a u):ObjOk P w H h a u:=e.ok ok
theorem dk_rd {kvs:List (Key × V)} (ok:HOk P w H h) (e:Rd H a (.dK kvs)):kvs.length≤sizeLine∧(a == sysModules)=false∧∃ vs,KV kvs vs∧h.DictOf (mixKind P w) a vs:=
  show ObjOk P w H h a (.dK kvs) from rd_of ok e
theorem dk_of {kvs:List (Key × V)} (ok:HOk P w H h) (e:H a=some (.dK kvs)):kvs.length≤sizeLine∧(a == sysModules)=false∧∃ vs,KV kvs vs∧h.DictOf (mixKind P w) a vs:=dk_rd ok (.inl e)
theorem key_of {ks:List Key} (ok:HOk P w H h) (e:H a=some (.tup (ks.map kV))):(tupleKind (mixKind P w)).is h ks a:=by
  obtain ⟨_,its,r,o,h1,h2,n,h3⟩:=(show ObjOk P w H h a (.tup (ks.map kV)) from ok a _ e)
  exact ⟨o,its.toArray,n,h1,h2,h3,by simpa using items_are r⟩
theorem dt_rd {kvs:List (List Key × V)} (ok:HOk P w H h) (e:Rd H a (.dT kvs)):kvs.length≤sizeLine∧(a == sysModules)=false ∧
    ∃ xs,KT H kvs xs∧h.DictOfH (tupleKind (mixKind P w)) a xs:=by
  obtain ⟨z,y,xs,r,o,es,ep,h1,h2,h3,h4,h5⟩:=(show ObjOk P w H h a (.dT kvs) from rd_of ok e)
  refine ⟨z,y,xs,r,o,es,ep,h1,h2,h3,h4,fun x hx=>?_,h5⟩
  have all:∀ {l:List (List Key × V)} {m:List (List Key × Addr × Value)},KT H l m→∀ x∈m,(tupleKind (mixKind P w)).is h x.1 x.2.1:=by
    intro l m q
    induction q with
    | nil=>intro x hx;exact nomatch hx
    | @cons p q ps qs hq t ih=>
      intro x hx
      rcases List.mem_cons.mp hx with e | hx
      · subst e
        exact key_of ok (by rw [← hq.1];exact hq.2.1)
      · exact ih x hx
  exact all r x hx
theorem dt_of {kvs:List (List Key × V)} (ok:HOk P w H h) (e:H a=some (.dT kvs)):kvs.length≤sizeLine∧(a == sysModules)=false ∧
    ∃ xs,KT H kvs xs∧h.DictOfH (tupleKind (mixKind P w)) a xs:=dt_rd ok (.inl e)
end
def DPut (H:Hp) (a:Addr) (y v:V) (H':Hp):Prop:=
  (∃ kvs k,H a=some (.dK kvs)∧y=kV k∧kvs.length < sizeLine∧H'=upd H a (.dK (putK kvs k v))) ∨
  ∃ kvs k b,H a=some (.dT kvs)∧y=.ref b∧H b=some (.tup (k.map kV))∧kvs.length < sizeLine∧H'=upd H a (.dT (putK kvs k v))
section
variable {X:Cx} {pins:List (Addr × Obj)} {σ:St} {H:Hp} {s:Shared} {a:Addr} {y v:V} {u r:Value} {o:Option V} {A:Around} {E:Value→Shared→Prop}
theorem Inv.big (I:Inv X pins σ H s):sysModules < s.heap.objs.size:=by
  have h:mainGlobals < s.heap.objs.size:=(I.mod.glob.keeps I.bk).lt
  exact Nat.lt_trans (by decide) h
theorem d_write {h':Heap} {t':Nat} {ob:HO} (I:Inv X pins σ H s) (mu:Mut (H a)) (hs:Heap.SameBut a s.heap h') (he:∃ q,h'.get? a=some q) (new:ObjOk X.prog X.w (upd H a ob) h' a ob) :
    Inv X pins σ (upd H a ob) { s with heap:=h',toks:=t' }:=
  I.write (x:=a) (e:=a) mu (.inl rfl) (fun b q hb z=>(hs.2 b hb).trans z) he new
theorem dk_new {P:Program} {w:World} {H':Hp} {h':Heap} {kvs:List (Key × V)} {vs:List (Key × Value)} (z:kvs.length≤sizeLine) (hd:(a == sysModules)=false) (rel:KV kvs vs) (dd:h'.DictOf (mixKind P w) a vs) :
    ObjOk P w H' h' a (.dK kvs):=⟨z,hd,vs,rel,dd⟩
theorem d_setItem {H':Hp} {Q:Unit→Shared→Prop} (hu:A.units+1 < cLine) (I:Inv X pins σ H s) (g:DPut H a y v H') (ry:RelV y u) (rv:RelV v r) (h:∀ s',Inv X pins σ H' s'→Q () s') :
    wpAny (model X.prog X.w) A (setItem (.ref a) u r) Q E s:=by
  rcases g with ⟨kvs,k,e,ey,l,eH⟩ | ⟨kvs,k,b,e,ey,eb,l,eH⟩
  · subst ey eH
    obtain ⟨z,hd,vs,rel,dd⟩:=dk_of I.hok e
    have hz:vs.length≤sizeLine:=by rw [← rel.length];exact z
    have hl:(putK kvs k v).length≤sizeLine:=by have:=length_putK kvs k v;omega
    refine wpAny_setItem_pairs (hsz:=hz) (kV_is ry) dd fun h' dd' hs=>h _ ?_
    have he:∃ q,h'.get? a=some q:=let ⟨q,_,_,hq,_⟩:=dd';⟨q,hq⟩
    exact d_write I (by rw [e];exact True.intro) hs he (dk_new hl hd (rel.put k rv) dd')
  · subst ey eH
    cases (show u=Value.ref b from ry)
    obtain ⟨z,hd,xs,rel,dd⟩:=dt_of I.hok e
    have hz:xs.length≤sizeLine:=by rw [← Paired.length rel];exact z
    have hl:(putK kvs k v).length≤sizeLine:=by have:=length_putK kvs k v;omega
    refine wpAny_setItem_heap (hsz:=hz) (tupleKind_room_in1 hu) (key_of I.hok eb) dd fun h' dd' hs=>h _ ?_
    obtain ⟨q,es,ep,hq,h2,h3,h4,_,h5⟩:=dd'
    refine d_write I (by rw [e];exact True.intro) hs ⟨q,hq⟩ ⟨hl,hd,_,(rel.put k eb rv).keeps fun c ys ec=>?_,q,es,ep,hq,h2,h3,h4,h5⟩
    rw [upd_ne (ne_of ec e (fun z=>nomatch z))]
    exact ec
end
section
variable {X:Cx} {pins:List (Addr × Obj)} {σ:St} {H:Hp} {s:Shared} {a:Addr} {kvs:List (Key × V)} {k:Key} {u:Value} {A:Around} {E:Value→Shared→Prop}
end
def sDPut (td ty tv:TE):TS:=fun D σ H=>tv σ H fun v H1=>td σ H1 fun x H2=>ty σ H2 fun y H3=>∃ a H4,x=.ref a∧DPut H3 a y v H4∧D.nx σ H4
section
variable {X:Cx} {o i e value:Expr} {pos pos' tpos:Pos} {td ty tv:TE}
theorem ps_dput (hu:X.A.units+1 < cLine) (ho:PE X o td) (hi:PE X i ty) (hv:PE X value tv) (hs:swapsWith value (some (.Subscript o i pos')) pos.line X.env=pure false) :
    PS X (.Assign [.Subscript o i pos'] value pos) (sDPut td ty tv):=by
  intro pins s σ H D I h
  refine wpAny_Assign_Subscript (thn (hv pins s σ H _ I h) fun r s1 ⟨v,H1,I1,rv,q1⟩=>thn (ho pins s1 σ H1 _ I1 q1) fun u s2 ⟨x,H2,I2,rx,q2⟩=>thn (hi pins s2 σ H2 _ I2 q2) fun iv s3 ⟨y,H3,I3,ry,a,H4,ex,g,q3⟩=>?_) hs
  subst ex
  obtain rfl:u=Value.ref a:=rx
  exact d_setItem hu I3 g ry rv fun s4 I4=>⟨σ,H4,I4,q3⟩
end
theorem dk_empty {P:Program} {w:World} {H:Hp} (h:Heap) (hb:sysModules < h.objs.size):ObjOk P w H (h.push { cls:=.type "dict", data:=.dict #[] }) h.objs.size (.dK []):=
  ⟨Nat.zero_le _,beq_eq_false_iff_ne.mpr (Ne.symm (Nat.ne_of_lt hb)),[],.nil,Heap.DictOf.new h⟩
def tDNewK:TE:=fun _ H Q=>∀ p,H p=none→Q (.ref p) (upd H p (.dK []))
section
variable {X:Cx} {pos:Pos}
theorem pe_dnewK:PE X (.Dict [] [] pos) tDNewK:=fun pins s σ H Q I h=>
  wpAny_Dict_empty ⟨.ref s.heap.objs.size,_,I.laid (a:=s.heap.objs.size) (o:=.dK []) (t':=s.toks) (fun _ _ q=>Heap.get?_push_of_some _ q) (Nat.le_refl _) (dk_empty s.heap I.big),rfl,h _ (I.hok.fresh (Nat.le_refl _))⟩
end
section
variable {X:Cx} {pins:List (Addr × Obj)} {σ:St} {H:Hp} {s:Shared} {a:Addr} {y d:V} {u r:Value} {o:Option V} {A:Around} {E:Value→Shared→Prop}
end
section
variable {X:Cx} {o e f:Expr} {apos cpos:Pos} {td ty tx:TE}
end
section
variable {X:Cx} {pins:List (Addr × Obj)} {σ:St} {H:Hp} {s:Shared} {a:Addr} {kvs:List (Key × V)} {A:Around} {E:Value→Shared→Prop}
end
section
variable {X:Cx} {pins:List (Addr × Obj)} {σ:St} {H:Hp} {s:Shared} {a:Addr} {y:V} {u:Value} {A:Around} {E:Value→Shared→Prop}
end
end L2
namespace L2
open PySem PySem.Spec PyProof.Rows PySem.W
open MeetsSeq MeetsSeq2 MeetsSeq3 SeqRoads2 SeqAt
theorem is_kV {P:Program} {w:World} {k:Key} {u:Value} (h:(mixKind P w).is k u=true):RelV (kV k) u:=by
  cases k with
  | inl i=>obtain ⟨t,e⟩:=PySem.Value.isInt_shape (show Value.isInt i u=true from h);exact ⟨t,e⟩
  | inr x=>obtain ⟨t,e⟩:=PySem.Value.isStrOf_shape (show Value.isStrOf x u=true from h);exact ⟨t,e⟩
theorem kv_get {kvs:List (Key × V)} {vs:List (Key × Value)} (r:KV kvs vs):∀ {i:Nat} {k:Key} {v:V},kvs[i]?=some (k,v)→∃ x,vs[i]?=some (k,x)∧RelV v x:=by
  unfold KV at r
  induction r with
  | nil=>intro i k v h;simp at h
  | @cons p q _ _ h t ih=>
    intro i k v e
    cases i with
    | zero=>
      have e':p=(k,v):=by simpa using e
      subst e'
      obtain ⟨k',x⟩:=q
      obtain ⟨rfl,h2⟩:=h
      exact ⟨x,rfl,h2⟩
    | succ i=>exact ih (by simpa using e)
section
variable {X:Cx} {tg:Expr}
end
section
theorem small10000 {n:Nat} (h:n < 10000):n < sizeLine:=by
  rw [sizeLine_eq];omega
end
section
variable {NL:List Str} {ix:List Nat} {g:TG} {tt:TT} {te:TE} {σ:St} {H1:Hp} {Qs:Hp→Prop} {acc:Addr}
end
section
variable {X:Cx}
def rCountI:V→List V→Hp→VK→Prop:=fun x vs H Q=>∃ (l:Addr) (ns:List Int) (y:Int),x=.ref l∧vs=[.int y]∧H l=some (.lst (ns.map V.int))∧Q (.int ((ns.count y:Nat):Int)) H
theorem mt_countI:MtM X "list.count" rCountI:=by
  intro pins s σ H x vs v us Q I rx rv h
  obtain ⟨l,ns,y,rfl,rfl,hH,q⟩:=h
  cases rx
  obtain ⟨u,rfl,ru⟩:=rv.one
  have ru0:=ru
  obtain ⟨ty,rfl⟩:=ru
  obtain ⟨z,its,n,r,hz,e⟩:=I.lstM hH
  refine call_meets F.slot_list_count ⟨_,e,rfl⟩ F.entry_list_count (F.args_list_count_2 _ _) (SeqAt.list_countAt l its.toArray n none #[] (.int y ty) (eqU (V.int y))) ⟨e,fun u hu=>mem_eqAt (x:=V.int y) ru0 rfl r (flat_ints ns) u (by simpa using hu),?_⟩
  have key:∀ (ms:List Int) (us:List Value),Vals (ms.map V.int) us→us.countP (eqU (V.int y))=ms.count y:=by
    intro ms
    induction ms with
    | nil=>intro us hv;cases hv;rfl
    | cons m ms ih=>
      intro us hv
      cases hv with
      | cons h t=>
        obtain ⟨tk,rfl⟩:=h
        rw [List.countP_cons,List.count_cons,ih _ t]
        rfl
  have ek:its.toArray.toList.countP (eqU (V.int y))=ns.count y:=by rw [List.toList_toArray];exact key ns its r
  exact ⟨.int _,H,I.tok _,⟨_,by rw [ek]⟩,q⟩
theorem pe_countI (K:PySem.W.Frag) {o e:Expr} {to te:TE} {apos cpos:Pos} (ho:PE X o to) (he:PE X e te) (hK:X.K=K:=by rfl) (hbase:attributeBase o "count" X.env (eval o X.env)=eval o X.env:=by rfl)
    (h1:starEach [e] X.env=[(false,eval e X.env)]:=by rfl) (hl:(apos.endLine == cpos.line)=true:=by rfl) :
    PE X (.Call (.Attribute o "count" apos) [e] [] cpos) (tBM K "list" rCountI to (tCons te tNil)):=by
  subst hK
  exact pe_bm PySem.F.plainAttrs_list PySem.F.slot_list_count PySem.F.type_list_count mt_countI ho (pa_cons he pa_nil h1) hbase (by rw [h1];rfl) hl h1 (by rfl)
end
end L2
namespace L2
open PySem PySem.Spec PyProof.Rows PySem.W
end L2
namespace Tim
open PySem PyProof.Rows
abbrev SM:=StateT SortSt Sem
def gal:Bool→Keyed→Array Keyed→Nat→Nat→Nat→SM (Option Nat):=sortPriv% PySem.Builtin.gallop
def mLo:Array Keyed→Array Keyed→SM (Array Keyed):=sortPriv% PySem.Builtin.mergeLo
def mHi:Array Keyed→Array Keyed→SM (Array Keyed):=sortPriv% PySem.Builtin.mergeHi
abbrev setG (st:SortSt) (g:Nat):SortSt:=SortSt.mk' (kindOf st) (arrOf st) (pendingOf st) g (failedOf st)
def bey (left:Bool) (x:Keyed) (xs:Array Keyed) (b:Nat) (i:Nat):SM (Option Bool):=do
  let p ← elem' xs (b+i)
  if left then lt' p x else return (← lt' x p).map (!·)
theorem gal_eq (left:Bool) (x:Keyed) (xs:Array Keyed) (b n h:Nat):gal left x xs b n h=(do
  let mut la:=0
  let mut o:=1
  let mut l:=0
  let mut r:=0
  let some right ← bey left x xs b h | return none
  if right then
    let mo:=n - h
    for _ in [0:n] do
      if o ≥ mo then break
      let some more ← bey left x xs b (h+o) | return none
      if !more then break
      la:=o
      o:=2 * o+1
    l:=h+la+1
    r:=h+min o mo
  else
    let mo:=h+1
    for _ in [0:n] do
      if o ≥ mo then break
      let some f ← bey left x xs b (h - o) | return none
      if f then break
      la:=o
      o:=2 * o+1
    l:=h+1 - min o mo
    r:=h - la
  for _ in [0:n] do
    if l ≥ r then break
    let m:=l+(r - l) / 2
    let some more ← bey left x xs b m | return none
    if more then l:=m+1 else r:=m
  return some r):=rfl
def putG (g:Nat):SM Unit:=modify fun s=>setG s g
theorem mLo_eq (a b:Array Keyed):mLo a b=(do
  rule "list.sort.merge-lo"
  let tt:=a.size+b.size
  let dn (o:Array Keyed) (p q:Nat):=o++a.extract p a.size++b.extract q b.size
  let la (o:Array Keyed) (p q:Nat):=o++b.extract q b.size++a.extract p a.size
  let mut o:Array Keyed:=#[← elem' b 0]
  let mut p:=0
  let mut q:=1
  if q == b.size then return dn o p q
  if p+1 == a.size then return la o p q
  let mut g:=gallopOf (← get)
  for _ in [0:tt] do
    let mut c:=0
    let mut d:=0
    for _ in [0:tt] do
      let some w ← lt' (← elem' b q) (← elem' a p) | return dn o p q
      if w then
        o:=o.push (← elem' b q);q:=q+1;d:=d+1;c:=0
        if q == b.size then return dn o p q
        if d ≥ g then break
      else
        o:=o.push (← elem' a p);p:=p+1;c:=c+1;d:=0
        if p+1 == a.size then return la o p q
        if c ≥ g then break
    rule "list.sort.gallop"
    g:=g+1
    for _ in [0:tt] do
      if g > 1 then g:=g - 1
      putG g
      let some k ← gal false (← elem' b q) a p (a.size - p) 0 | return dn o p q
      c:=k
      if k > 0 then
        o:=o++a.extract p (p+k);p:=p+k
        if p+1 == a.size then return la o p q
        if p == a.size then return dn o p q
      o:=o.push (← elem' b q);q:=q+1
      if q == b.size then return dn o p q
      let some k ← gal true (← elem' a p) b q (b.size - q) 0 | return dn o p q
      d:=k
      if k > 0 then
        o:=o++b.extract q (q+k);q:=q+k
        if q == b.size then return dn o p q
      o:=o.push (← elem' a p);p:=p+1
      if p+1 == a.size then return la o p q
      if c < 7 && d < 7 then break
    g:=g+1
    putG g
  unsupported "internal:list.sort.merge-bound"):=rfl
theorem mHi_eq (a b:Array Keyed):mHi a b=(do
  rule "list.sort.merge-hi"
  let tt:=a.size+b.size
  let dn (o:Array Keyed) (p q:Nat):=a.extract 0 p++b.extract 0 q++o.reverse
  let fb (o:Array Keyed) (p q:Nat):=b.extract 0 q++a.extract 0 p++o.reverse
  let mut p:=a.size - 1
  let mut q:=b.size
  let mut o:Array Keyed:=#[← elem' a p]
  if p == 0 then return dn o p q
  if q == 1 then return fb o p q
  let mut g:=gallopOf (← get)
  for _ in [0:tt] do
    let mut c:=0
    let mut d:=0
    for _ in [0:tt] do
      let some w ← lt' (← elem' b (q - 1)) (← elem' a (p - 1)) | return dn o p q
      if w then
        p:=p - 1;o:=o.push (← elem' a p);c:=c+1;d:=0
        if p == 0 then return dn o p q
        if c ≥ g then break
      else
        q:=q - 1;o:=o.push (← elem' b q);d:=d+1;c:=0
        if q == 1 then return fb o p q
        if d ≥ g then break
    rule "list.sort.gallop"
    g:=g+1
    for _ in [0:tt] do
      if g > 1 then g:=g - 1
      putG g
      let some f ← gal false (← elem' b (q - 1)) a 0 p (p - 1) | return dn o p q
      let k:=p - f
      c:=k
      if k > 0 then
        o:=o++(a.extract f p).reverse;p:=f
        if p == 0 then return dn o p q
      q:=q - 1;o:=o.push (← elem' b q)
      if q == 1 then return fb o p q
      let some f ← gal true (← elem' a (p - 1)) b 0 q (q - 1) | return dn o p q
      let k:=q - f
      d:=k
      if k > 0 then
        o:=o++(b.extract f q).reverse;q:=f
        if q == 1 then return fb o p q
        if q == 0 then return dn o p q
      p:=p - 1;o:=o.push (← elem' a p)
      if p == 0 then return dn o p q
      if c < 7 && d < 7 then break
    g:=g+1
    putG g
  unsupported "internal:list.sort.merge-bound"):=rfl
theorem mAt_eq (i:Nat):mergeAt' i=(do
  let s ← get
  let (some (u,n,w),some (v,m,_)):=((pendingOf s)[i]?,(pendingOf s)[i+1]?) | unsupported "internal:list.sort.pending"
  set (setPending s (((pendingOf s).setIfInBounds i (u,n+m,w)).eraseIdxIfInBounds (i+1)))
  let some k ← gal false (← elem' (arrOf s) v) (arrOf s) u n 0 | return false
  let (u,n):=(u+k,n - k)
  if n == 0 then return true
  let some m ← gal true (← elem' (arrOf s) (u+n - 1)) (arrOf s) v m (m - 1) | return false
  if m == 0 then return true
  let x:=(arrOf s).extract u v
  let y:=(arrOf s).extract v (v+m)
  let r ← if n≤m then mLo x y else mHi x y
  modify fun s=>setArr s (r.toList.zipIdx.foldl (fun a (p,j)=>a.setIfInBounds (u+j) p) (arrOf s))
  return (failedOf (← get)).isNone):=rfl
end Tim
namespace Tim
open PySem PyProof.Rows
section
variable {prog:Program} {w:World} {A:Around} {E:Value→Shared→Prop} {s:Shared} {a₀:Array Keyed} {κ:SortKind} {O:KeyOrd} {key:Keyed→O.α}
def Cmp (prog:Program) (w:World) (A:Around) (E:Value→Shared→Prop) (s:Shared) (a₀:Array Keyed) (κ:SortKind) (O:KeyOrd) (key:Keyed→O.α):Prop:=
  ∀ (x y:Keyed) (st:SortSt) (Q:Option Bool→SortSt→Prop),x∈a₀→y∈a₀→kindOf st=κ→Q (some (O.blt (key x) (key y))) st→wpS (model prog w) A E s (lt' x y) Q st
theorem wp_elem {xs:Array Keyed} {i:Nat} {p:Keyed} {st:SortSt} {Q:Keyed→SortSt→Prop} (e:xs[i]?=some p) (h:Q p st):wpS (model prog w) A E s (elem' xs i) Q st:=by
  rw [elem'_eq,e]
  exact wpS_pure h
abbrev isB (key:Keyed→O.α) (left:Bool) (x p:Keyed):Bool:=if left then O.blt (key p) (key x) else !O.blt (key x) (key p)
theorem wp_bey (C:Cmp prog w A E s a₀ κ O key) {left:Bool} {x p:Keyed} {xs:Array Keyed} {b i:Nat} {st:SortSt} {Q:Option Bool→SortSt→Prop} (hx:x∈a₀) (hp:p∈a₀) (e:xs[b+i]?=some p) (hk:kindOf st=κ)
    (h:Q (some (isB key left x p)) st):wpS (model prog w) A E s (bey left x xs b i) Q st:=by
  unfold bey
  refine wpS_bind (wp_elem e ?_)
  cases left with
  | true=>exact C p x st Q hp hx hk h
  | false=>exact wpS_bind (C x p st _ hx hp hk (wpS_pure h))
def binL (left:Bool) (x:Keyed) (xs:Array Keyed) (b n l0 r0:Nat):SM (Option Nat):=do
  let mut l:=l0
  let mut r:=r0
  for _ in [0:n] do
    if l ≥ r then break
    let m:=l+(r - l) / 2
    let some more ← bey left x xs b m | return none
    if more then l:=m+1 else r:=m
  return some r
theorem wp_binL {left:Bool} {x:Keyed} {xs:Array Keyed} {b n l0 r0:Nat} {st:SortSt} {Q:Option Nat→SortSt→Prop} (B:Nat→Bool)
    (ask:∀ (i:Nat) (Q':Option Bool→SortSt→Prop),i < n→Q' (some (B i)) st→wpS (model prog w) A E s (bey left x xs b i) Q' st)
    (mono:∀ i j,i≤j→j < n→B j=true→B i=true) (h1:l0≤r0) (h2:r0≤n) (h3:∀ i,i < l0→B i=true) (h4:∀ i,r0≤i→i < n→B i=false)
    (h:∀ k,k≤n→(∀ i,i < k→B i=true)→(∀ i,k≤i→i < n→B i=false)→Q (some k) st):wpS (model prog w) A E s (binL left x xs b n l0 r0) Q st:=by
  unfold binL
  refine wpS_bind (wpS_mono (wpS_forRange (I:=fun t c st'=>st'=st∧∃ l r,c=(none,l,r)∧l≤r∧r≤n∧r - l≤n - t∧(∀ i,i < l→B i=true)∧(∀ i,r≤i→i < n→B i=false))
    (Q:=fun c st'=>st'=st∧∃ l,c=(none,l,l)∧l≤n∧(∀ i,i < l→B i=true)∧(∀ i,l≤i→i < n→B i=false)) ?step ?fin ⟨rfl,l0,r0,rfl,h1,h2,by omega,h3,h4⟩) ?post)
  case post=>
    rintro c st' ⟨rfl,l,rfl,a,b,c⟩
    exact wpS_pure (h l a b c)
  case fin=>
    rintro c st' ⟨rfl,l,r,rfl,a1,a2,a3,a4,a5⟩
    have:r=l:=by omega
    subst this
    exact ⟨rfl,r,rfl,a2,a4,a5⟩
  case step=>
    rintro t c st' _ ht ⟨rfl,l,r,rfl,a1,a2,a3,a4,a5⟩
    dsimp only
    by_cases g:l ≥ r
    · rw [if_pos g]
      have:r=l:=by omega
      subst this
      exact wpS_pure ⟨rfl,r,rfl,a2,a4,a5⟩
    · rw [if_neg g]
      refine wpS_bind (ask _ _ (by omega) ?_)
      dsimp only
      cases e:B (l+(r - l) / 2) with
      | true=>
        rw [if_pos rfl]
        exact wpS_pure ⟨rfl,_,r,rfl,by omega,a2,by omega,fun i hi=>mono i _ (by omega) (by omega) e,a5⟩
      | false=>
        rw [if_neg (by simp)]
        refine wpS_pure ⟨rfl,l,_,rfl,by omega,by omega,by omega,a4,fun i hi hn=>?_⟩
        cases e':B i with
        | false=>rfl
        | true=>rw [mono _ i hi hn e'] at e;cases e
theorem wp_gal (C:Cmp prog w A E s a₀ κ O key) {left:Bool} {x:Keyed} {xs:Array Keyed} {b n hn:Nat} {st:SortSt} {Q:Option Nat→SortSt→Prop} (B:Nat→Bool) (hx:x∈a₀) (hk:kindOf st=κ)
    (hB:∀ i,i < n→∃ p,xs[b+i]?=some p∧p∈a₀∧B i=isB key left x p) (mono:∀ i j,i≤j→j < n→B j=true→B i=true) (hh:hn < n)
    (h:∀ k,k≤n→(∀ i,i < k→B i=true)→(∀ i,k≤i→i < n→B i=false)→Q (some k) st):wpS (model prog w) A E s (gal left x xs b n hn) Q st:=by
  have ask:∀ (i:Nat) (Q':Option Bool→SortSt→Prop),i < n→Q' (some (B i)) st→wpS (model prog w) A E s (bey left x xs b i) Q' st:=fun i Q' hi hq=>by
    obtain ⟨p,e1,e2,e3⟩:=hB i hi
    rw [e3] at hq
    exact wp_bey C hx e2 e1 hk hq
  have off:∀ i j,i≤j→j < n→B i=false→B j=false:=fun i j hij hj e=>by
    cases e':B j with
    | false=>rfl
    | true=>rw [mono i j hij hj e'] at e;cases e
  rw [gal_eq]
  refine wpS_bind (ask hn _ hh ?_)
  dsimp only
  cases e:B hn with
  | true=>
    rw [if_pos rfl]
    refine wpS_bind (wpS_mono (wpS_forRange (I:=fun t c st'=>st'=st∧∃ la o,c=(none,la,o)∧la < o∧t < o∧hn+la < n∧B (hn+la)=true)
      (Q:=fun c st'=>st'=st∧∃ la o,c=(none,la,o)∧la < o∧hn+la < n∧B (hn+la)=true∧(n - hn≤o∨(hn+o < n∧B (hn+o)=false))) ?step ?fin ⟨rfl,0,1,rfl,by omega,by omega,hh,e⟩) ?post)
    case post=>
      rintro c st' ⟨rfl,la,o,rfl,a1,a2,a3,a4⟩
      exact wp_binL (l0:=hn+la+1) (r0:=hn+min o (n - hn)) B ask mono (by omega) (by omega) (fun i hi=>mono i _ (by omega) a2 a3) (fun i hi hn'=>by
        rcases a4 with a4 | a4
        · omega
        · exact off _ i (by omega) hn' a4.2) h
    case fin=>
      rintro c st' ⟨rfl,la,o,rfl,a1,a2,a3,a4⟩
      exact ⟨rfl,la,o,rfl,a1,a3,a4,.inl (by omega)⟩
    case step=>
      rintro t c st' _ ht ⟨rfl,la,o,rfl,a1,a2,a3,a4⟩
      dsimp only
      by_cases g:o ≥ n - hn
      · rw [if_pos g]
        exact wpS_pure ⟨rfl,la,o,rfl,a1,a3,a4,.inl g⟩
      · rw [if_neg g]
        refine wpS_bind (ask _ _ (by omega) ?_)
        dsimp only
        cases e':B (hn+o) with
        | true=>
          rw [if_neg (by simp)]
          exact wpS_pure ⟨rfl,o,_,rfl,by omega,by omega,by omega,e'⟩
        | false=>
          rw [if_pos (by simp)]
          exact wpS_pure ⟨rfl,la,o,rfl,a1,a3,a4,.inr ⟨by omega,e'⟩⟩
  | false=>
    rw [if_neg (by simp)]
    refine wpS_bind (wpS_mono (wpS_forRange (I:=fun t c st'=>st'=st∧∃ la o,c=(none,la,o)∧la < o∧t < o∧la≤hn∧B (hn - la)=false)
      (Q:=fun c st'=>st'=st∧∃ la o,c=(none,la,o)∧la < o∧la≤hn∧B (hn - la)=false∧(hn+1≤o∨(o≤hn∧B (hn - o)=true))) ?step ?fin ⟨rfl,0,1,rfl,by omega,by omega,by omega,e⟩) ?post)
    case post=>
      rintro c st' ⟨rfl,la,o,rfl,a1,a2,a3,a4⟩
      exact wp_binL (l0:=hn+1 - min o (hn+1)) (r0:=hn - la) B ask mono (by omega) (by omega) (fun i hi=>by
        rcases a4 with a4 | a4
        · omega
        · exact mono i _ (by omega) (by omega) a4.2) (fun i hi hn'=>off _ i (by omega) hn' a3) h
    case fin=>
      rintro c st' ⟨rfl,la,o,rfl,a1,a2,a3,a4⟩
      exact ⟨rfl,la,o,rfl,a1,a3,a4,.inl (by omega)⟩
    case step=>
      rintro t c st' _ ht ⟨rfl,la,o,rfl,a1,a2,a3,a4⟩
      dsimp only
      by_cases g:o ≥ hn+1
      · rw [if_pos g]
        exact wpS_pure ⟨rfl,la,o,rfl,a1,a3,a4,.inl g⟩
      · rw [if_neg g]
        refine wpS_bind (ask _ _ (by omega) ?_)
        dsimp only
        cases e':B (hn - o) with
        | false=>
          rw [if_neg (by simp)]
          exact wpS_pure ⟨rfl,o,_,rfl,by omega,by omega,by omega,e'⟩
        | true=>
          rw [if_pos rfl]
          exact wpS_pure ⟨rfl,la,o,rfl,a1,a3,a4,.inr ⟨by omega,e'⟩⟩
def mrg (key:Keyed→O.α):List Keyed→List Keyed→List Keyed
  | [],ys=>ys
  | x :: xs,[]=>x :: xs
  | x :: xs,y :: ys=>if O.blt (key y) (key x)=true then y :: mrg key (x :: xs) ys else x :: mrg key xs (y :: ys)
termination_by xs ys=>xs.length+ys.length
abbrev Srt (key:Keyed→O.α) (l:List Keyed):Prop:=l.Pairwise fun x y=>O.blt (key y) (key x)=false
theorem mrg_nil (ys:List Keyed):mrg key [] ys=ys:=by unfold mrg;rfl
theorem mrg_nil':∀ (xs:List Keyed),mrg key xs []=xs
  | []=>mrg_nil _
  | x :: xs=>by unfold mrg;rfl
theorem mrg_cons (x y:Keyed) (xs ys:List Keyed):mrg key (x :: xs) (y :: ys)=if O.blt (key y) (key x)=true then y :: mrg key (x :: xs) ys else x :: mrg key xs (y :: ys):=by
  rw [mrg]
theorem mrg_lefts (y:Keyed) (ys xs:List Keyed):∀ us:List Keyed,(∀ x∈us,O.blt (key y) (key x)=false)→mrg key (us++xs) (y :: ys)=us++mrg key xs (y :: ys)
  | [],_=>rfl
  | u :: us,h=>by
    rw [List.cons_append,mrg_cons,if_neg (by rw [h u List.mem_cons_self];simp),mrg_lefts y ys xs us fun x hx=>h x (List.mem_cons_of_mem _ hx)]
    rfl
theorem mrg_rights (x:Keyed) (xs ys:List Keyed):∀ us:List Keyed,(∀ y∈us,O.blt (key y) (key x)=true)→mrg key (x :: xs) (us++ys)=us++mrg key (x :: xs) ys
  | [],_=>rfl
  | u :: us,h=>by
    rw [List.cons_append,mrg_cons,if_pos (h u List.mem_cons_self),mrg_rights x xs ys us fun x hx=>h x (List.mem_cons_of_mem _ hx)]
    rfl
theorem mrg_one (x:Keyed) (ys:List Keyed) (h:∀ y∈ys,O.blt (key y) (key x)=true):mrg key [x] ys=ys++[x]:=by
  have:=mrg_rights (O:=O) x [] [] ys h
  rw [List.append_nil,mrg_nil'] at this
  exact this
theorem mrg_first (y:Keyed) (xs:List Keyed) (h:∀ x∈xs,O.blt (key y) (key x)=true):mrg key xs [y]=y :: xs:=by
  cases xs with
  | nil=>exact mrg_nil _
  | cons x xs=>rw [mrg_cons,if_pos (h x List.mem_cons_self),mrg_nil']
theorem mrg_snocL (x:Keyed):∀ (xs zs:List Keyed),(∀ z∈zs,O.blt (key z) (key x)=true)→mrg key (xs++[x]) zs=mrg key xs zs++[x]
  | [],zs,h=>by rw [List.nil_append,mrg_one x zs h,mrg_nil]
  | u :: us,[],h=>by rw [mrg_nil',mrg_nil']
  | u :: us,z :: zs,h=>by
    rw [List.cons_append,mrg_cons,mrg_cons]
    split
    · have:=mrg_snocL x (u :: us) zs fun z hz=>h z (List.mem_cons_of_mem _ hz)
      rw [← List.cons_append,this];rfl
    · rw [mrg_snocL x us (z :: zs) h];rfl
termination_by xs zs=>xs.length+zs.length
theorem mrg_snocR (y:Keyed):∀ (xs zs:List Keyed),(∀ x∈xs,O.blt (key y) (key x)=false)→mrg key xs (zs++[y])=mrg key xs zs++[y]
  | [],zs,h=>by rw [mrg_nil,mrg_nil]
  | u :: us,[],h=>by
    have:=mrg_lefts (O:=O) y [] [] (u :: us) h
    rw [List.append_nil,mrg_nil] at this
    rw [List.nil_append,mrg_nil']
    exact this
  | u :: us,z :: zs,h=>by
    rw [List.cons_append,mrg_cons,mrg_cons]
    split
    · rw [mrg_snocR y (u :: us) zs h];rfl
    · have:=mrg_snocR y us (z :: zs) fun x hx=>h x (List.mem_cons_of_mem _ hx)
      rw [← List.cons_append,this];rfl
termination_by xs zs=>xs.length+zs.length
theorem mrg_snocLs (zs:List Keyed):∀ (us xs:List Keyed),(∀ u∈us,∀ z∈zs,O.blt (key z) (key u)=true)→mrg key (xs++us) zs=mrg key xs zs++us
  | [],xs,_=>by rw [List.append_nil,List.append_nil]
  | u :: us,xs,h=>by
    have e:=mrg_snocLs zs us (xs++[u]) fun v hv=>h v (List.mem_cons_of_mem _ hv)
    rw [mrg_snocL u _ _ (h u List.mem_cons_self),List.append_assoc,List.append_assoc] at e
    exact e
theorem mrg_snocRs (xs:List Keyed):∀ (us zs:List Keyed),(∀ u∈us,∀ x∈xs,O.blt (key u) (key x)=false)→mrg key xs (zs++us)=mrg key xs zs++us
  | [],zs,_=>by rw [List.append_nil,List.append_nil]
  | u :: us,zs,h=>by
    have e:=mrg_snocRs xs us (zs++[u]) fun v hv=>h v (List.mem_cons_of_mem _ hv)
    rw [mrg_snocR u _ _ (h u List.mem_cons_self),List.append_assoc,List.append_assoc] at e
    exact e
theorem mrg_perm:∀ (xs ys:List Keyed),(mrg key xs ys).Perm (xs++ys)
  | [],ys=>by rw [mrg_nil];exact .refl _
  | x :: xs,[]=>by rw [mrg_nil',List.append_nil]
  | x :: xs,y :: ys=>by
    rw [mrg_cons]
    split
    · exact ((mrg_perm (x :: xs) ys).cons y).trans List.perm_middle.symm
    · exact (mrg_perm xs (y :: ys)).cons x
termination_by xs ys=>xs.length+ys.length
theorem kle_tr {x y z:Keyed} (h1:O.blt (key y) (key x)=false) (h2:O.blt (key z) (key y)=false):O.blt (key z) (key x)=false:=KeyOrd.kle_trans (O:=O) (a:=key x) (b:=key y) (c:=key z) h1 h2
theorem kle_lt {x y:Keyed} (h:O.blt (key x) (key y)=true):O.blt (key y) (key x)=false:=KeyOrd.klt_asymm (O:=O) (a:=key x) (b:=key y) h
theorem mrg_srt:∀ (xs ys:List Keyed),Srt key xs→Srt key ys→Srt key (mrg key xs ys)
  | [],ys,_,h=>by rw [mrg_nil];exact h
  | x :: xs,[],h,_=>by rw [mrg_nil'];exact h
  | x :: xs,y :: ys,h1,h2=>by
    have k1:=List.pairwise_cons.mp h1
    have k2:=List.pairwise_cons.mp h2
    rw [mrg_cons]
    split
    · rename_i e
      refine List.pairwise_cons.mpr ⟨fun z hz=>?_,mrg_srt (x :: xs) ys h1 k2.2⟩
      rcases List.mem_append.mp ((mrg_perm _ _).mem_iff.mp hz) with hz | hz
      · rcases List.mem_cons.mp hz with rfl | hz
        · exact kle_lt e
        · exact kle_tr (kle_lt e) (k1.1 z hz)
      · exact k2.1 z hz
    · rename_i e
      have e':O.blt (key y) (key x)=false:=by simpa using e
      refine List.pairwise_cons.mpr ⟨fun z hz=>?_,mrg_srt xs (y :: ys) k1.2 h2⟩
      rcases List.mem_append.mp ((mrg_perm _ _).mem_iff.mp hz) with hz | hz
      · exact k1.1 z hz
      · rcases List.mem_cons.mp hz with rfl | hz
        · exact e'
        · exact kle_tr e' (k2.1 z hz)
termination_by xs ys=>xs.length+ys.length
end
end Tim
namespace Tim
open PySem PyProof.Rows
section
variable {prog:Program} {w:World} {A:Around} {E:Value→Shared→Prop} {s:Shared} {a₀:Array Keyed} {κ:SortKind} {O:KeyOrd} {key:Keyed→O.α}
structure Two (key:Keyed→O.α) (a₀ a b:Array Keyed):Prop where
  ma:∀ x∈a,x∈a₀
  mb:∀ x∈b,x∈a₀
  na:1≤a.size
  nb:1≤b.size
  sa:Srt key a.toList
  sb:Srt key b.toList
  fst:∀ x∈a,∀ y,b[0]?=some y→O.blt (key y) (key x)=true
  lst:∀ y∈b,∀ x,a[a.size - 1]?=some x→O.blt (key y) (key x)=true
theorem drop_at {a:Array Keyed} {p:Nat} {x:Keyed} (e:a[p]?=some x):a.toList.drop p=x :: a.toList.drop (p+1):=by
  obtain ⟨h,rfl⟩:=Array.getElem?_eq_some_iff.mp e
  rw [List.drop_eq_getElem_cons (by simpa using h)]
  simp
theorem ext_all (a:Array Keyed) (p:Nat):(a.extract p a.size).toList=a.toList.drop p:=by
  rw [Array.toList_extract,List.extract_eq_drop_take]
  exact List.take_of_length_le (by simp)
theorem ext_mid (a:Array Keyed) (p k:Nat):(a.extract p (p+k)).toList=(a.toList.drop p).take k:=by
  rw [Array.toList_extract,List.extract_eq_drop_take,Nat.add_sub_cancel_left]
theorem mem_mid {a:Array Keyed} {p k:Nat} {z:Keyed} (hz:z∈(a.toList.drop p).take k):∃ i,i < k∧a[p+i]?=some z:=by
  obtain ⟨i,hi,rfl⟩:=List.getElem_of_mem hz
  have hi':i < min k (a.size - p):=by simpa using hi
  refine ⟨i,by omega,?_⟩
  rw [List.getElem_take,List.getElem_drop,Array.getElem_toList,Array.getElem?_eq_getElem]
theorem mem_at {a:Array Keyed} {i:Nat} {x:Keyed} (e:a[i]?=some x):x∈a:=Array.mem_of_getElem? e
theorem at_lt {a:Array Keyed} {i:Nat} (h:i < a.size):∃ x,a[i]?=some x:=⟨_,Array.getElem?_eq_getElem h⟩
def LoI (key:Keyed→O.α) (a b o:Array Keyed) (p q:Nat):Prop:=o.toList++mrg key (a.toList.drop p) (b.toList.drop q)=mrg key a.toList b.toList
section
variable {a b o:Array Keyed} {p q k:Nat} {x y:Keyed}
theorem lo_b (I:LoI key a b o p q) (ex:a[p]?=some x) (ey:b[q]?=some y) (h:O.blt (key y) (key x)=true):LoI key a b (o.push y) p (q+1):=by
  unfold LoI at I ⊢
  rw [drop_at ex,drop_at ey,mrg_cons,if_pos h] at I
  rw [drop_at ex,Array.toList_push,List.append_assoc]
  exact I
theorem lo_a (I:LoI key a b o p q) (ex:a[p]?=some x) (ey:b[q]?=some y) (h:O.blt (key y) (key x)=false):LoI key a b (o.push x) (p+1) q:=by
  unfold LoI at I ⊢
  rw [drop_at ex,drop_at ey,mrg_cons,if_neg (by rw [h];simp)] at I
  rw [drop_at ey,Array.toList_push,List.append_assoc]
  exact I
theorem lo_as (I:LoI key a b o p q) (ey:b[q]?=some y) (h:∀ i x,i < k→a[p+i]?=some x→O.blt (key y) (key x)=false):LoI key a b (o++a.extract p (p+k)) (p+k) q:=by
  unfold LoI at I ⊢
  rw [drop_at ey] at I ⊢
  rw [Array.toList_append,ext_mid,List.append_assoc,← I]
  conv=>rhs;rw [← List.take_append_drop k (a.toList.drop p)]
  rw [mrg_lefts y _ _ _ fun z hz=>by obtain ⟨i,hi,e⟩:=mem_mid hz;exact h i z hi e,List.drop_drop]
theorem lo_bs (I:LoI key a b o p q) (ex:a[p]?=some x) (h:∀ i y,i < k→b[q+i]?=some y→O.blt (key y) (key x)=true):LoI key a b (o++b.extract q (q+k)) p (q+k):=by
  unfold LoI at I ⊢
  rw [drop_at ex] at I ⊢
  rw [Array.toList_append,ext_mid,List.append_assoc,← I]
  conv=>rhs;rw [← List.take_append_drop k (b.toList.drop q)]
  rw [mrg_rights x _ _ _ fun z hz=>by obtain ⟨i,hi,e⟩:=mem_mid hz;exact h i z hi e,List.drop_drop]
theorem lo_dnB (I:LoI key a b o p q) (h:q=b.size):(o++a.extract p a.size++b.extract q b.size).toList=mrg key a.toList b.toList:=by
  unfold LoI at I
  rw [Array.toList_append,Array.toList_append,ext_all,ext_all,← I,List.drop_of_length_le (l:=b.toList) (by simp [h]),mrg_nil',List.append_nil]
theorem lo_dnA (I:LoI key a b o p q) (h:p=a.size):(o++a.extract p a.size++b.extract q b.size).toList=mrg key a.toList b.toList:=by
  unfold LoI at I
  rw [Array.toList_append,Array.toList_append,ext_all,ext_all,← I,List.drop_of_length_le (l:=a.toList) (by simp [h]),mrg_nil,List.append_nil]
theorem lo_la (T:Two key a₀ a b) (I:LoI key a b o p q) (h:p+1=a.size):(o++b.extract q b.size++a.extract p a.size).toList=mrg key a.toList b.toList:=by
  obtain ⟨x,ex⟩:=at_lt (a:=a) (i:=p) (by omega)
  unfold LoI at I
  rw [drop_at ex,List.drop_of_length_le (l:=a.toList) (i:=p+1) (by simp [h]),mrg_one x _ fun y hy=>T.lst y (Array.mem_toList_iff.mp (List.mem_of_mem_drop hy)) x (by rw [← ex];congr 1;omega)] at I
  rw [Array.toList_append,Array.toList_append,ext_all,ext_all,← I,drop_at ex,List.drop_of_length_le (l:=a.toList) (i:=p+1) (by simp [h]),List.append_assoc]
end
abbrev LSt:=Option (Array Keyed) × Array Keyed × Nat × Nat × Nat × Nat × Nat
def loD (a b o:Array Keyed) (p q g c d:Nat):SM (ForInStep LSt):=do
  let x ← elem' a p
  if p+1+1 == a.size then return .done (some (o.push x++b.extract q b.size++a.extract (p+1) a.size),o.push x,p+1,q,g,c,d)
  else if c < 7 && d < 7 then return .done (none,o.push x,p+1,q,g,c,d)
  else return .yield (none,o.push x,p+1,q,g,c,d)
def loC (a b o:Array Keyed) (p q g c d:Nat):SM (ForInStep LSt):=do
  let y ← elem' b q
  if q+1 == b.size then return .done (some (o.push y++a.extract p a.size++b.extract (q+1) b.size),o.push y,p,q+1,g,c,d)
  else
    let x ← elem' a p
    let some k ← gal true x b (q+1) (b.size - (q+1)) 0 | return .done (some (o.push y++a.extract p a.size++b.extract (q+1) b.size),o.push y,p,q+1,g,c,d)
    if k > 0 then
      if q+1+k == b.size then return .done (some (o.push y++b.extract (q+1) (q+1+k)++a.extract p a.size++b.extract (q+1+k) b.size),o.push y++b.extract (q+1) (q+1+k),p,q+1+k,g,c,k)
      else loD a b (o.push y++b.extract (q+1) (q+1+k)) p (q+1+k) g c k
    else loD a b (o.push y) p (q+1) g c k
def loB (a b o:Array Keyed) (p q g c d:Nat):SM (ForInStep LSt):=do
  putG g
  let y ← elem' b q
  let some k ← gal false y a p (a.size - p) 0 | return .done (some (o++a.extract p a.size++b.extract q b.size),o,p,q,g,c,d)
  if k > 0 then
    if p+k+1 == a.size then return .done (some (o++a.extract p (p+k)++b.extract q b.size++a.extract (p+k) a.size),o++a.extract p (p+k),p+k,q,g,k,d)
    else if p+k == a.size then return .done (some (o++a.extract p (p+k)++a.extract (p+k) a.size++b.extract q b.size),o++a.extract p (p+k),p+k,q,g,k,d)
    else loC a b (o++a.extract p (p+k)) (p+k) q g k d
  else loC a b o p q g k d
def loA (a b:Array Keyed) (c:LSt):SM (ForInStep LSt):=
  if c.2.2.2.2.1 > 1 then loB a b c.2.1 c.2.2.1 c.2.2.2.1 (c.2.2.2.2.1 - 1) c.2.2.2.2.2.1 c.2.2.2.2.2.2
  else loB a b c.2.1 c.2.2.1 c.2.2.2.1 c.2.2.2.2.1 c.2.2.2.2.2.1 c.2.2.2.2.2.2
structure GoesOn (key:Keyed→O.α) (a b:Array Keyed) (st:SortSt) (m:Nat) (R:ForInStep LSt→SortSt→Prop):Prop where
  fin:∀ (out:Array Keyed) c g,out.toList=mrg key a.toList b.toList→R (.done (some out,c)) (setG st g)
  brk:∀ o p q g c d g',LoI key a b o p q→p+1 < a.size→q < b.size→m≤p+q→R (.done (none,o,p,q,g,c,d)) (setG st g')
  yld:∀ o p q g c d g',LoI key a b o p q→p+1 < a.size→q < b.size→m≤p+q→R (.yield (none,o,p,q,g,c,d)) (setG st g')
section
variable {a b o:Array Keyed} {p q k g c d m g':Nat} {x y:Keyed} {st:SortSt} {R:ForInStep LSt→SortSt→Prop}
theorem wp_loD (T:Two key a₀ a b) (G:GoesOn key a b st m R) (I:LoI key a b o p q) (hp:p+1 < a.size) (hq:q < b.size) (hm:m≤p+1+q) (h:∀ x y,a[p]?=some x→b[q]?=some y→O.blt (key y) (key x)=false) :
    wpS (model prog w) A E s (loD a b o p q g c d) R (setG st g'):=by
  obtain ⟨x,ex⟩:=at_lt (a:=a) (i:=p) (by omega)
  obtain ⟨y,ey⟩:=at_lt hq
  unfold loD
  refine wpS_bind (wp_elem ex ?_)
  have I':=lo_a I ex ey (h x y ex ey)
  by_cases e:p+1+1=a.size
  · rw [if_pos (by simpa using e)]
    exact wpS_pure (G.fin _ _ _ (lo_la T I' e))
  · rw [if_neg (by simpa using e)]
    split
    · exact wpS_pure (G.brk _ _ _ _ _ _ _ I' (by omega) hq hm)
    · exact wpS_pure (G.yld _ _ _ _ _ _ _ I' (by omega) hq hm)
theorem wp_loC (C:Cmp prog w A E s a₀ κ O key) (T:Two key a₀ a b) (hk:kindOf st=κ) (G:GoesOn key a b st m R) (I:LoI key a b o p q) (hp:p+1 < a.size) (hq:q < b.size) (hm:m≤p+1+(q+1)) (h:∀ x y,a[p]?=some x→b[q]?=some y→O.blt (key y) (key x)=true) :
    wpS (model prog w) A E s (loC a b o p q g c d) R (setG st g'):=by
  obtain ⟨x,ex⟩:=at_lt (a:=a) (i:=p) (by omega)
  obtain ⟨y,ey⟩:=at_lt hq
  unfold loC
  refine wpS_bind (wp_elem ey ?_)
  have I':=lo_b I ex ey (h x y ex ey)
  by_cases e:q+1=b.size
  · rw [if_pos (by simpa using e)]
    exact wpS_pure (G.fin _ _ _ (lo_dnB I' e))
  · rw [if_neg (by simpa using e)]
    refine wpS_bind (wp_elem ex ?_)
    refine wpS_bind (wp_gal C (fun i=>match b[q+1+i]? with | some y=>O.blt (key y) (key x) | none=>false) (T.ma x (mem_at ex)) hk (fun i hi=>?_) (fun i j hij hj=>?_) (by omega) fun k hk' ht hf=>?_)
    · obtain ⟨z,ez⟩:=at_lt (a:=b) (i:=q+1+i) (by omega)
      refine ⟨z,ez,T.mb z (mem_at ez),?_⟩
      rw [ez];rfl
    · obtain ⟨z,ez⟩:=at_lt (a:=b) (i:=q+1+i) (by omega)
      obtain ⟨v,ev⟩:=at_lt (a:=b) (i:=q+1+j) (by omega)
      rw [ez,ev]
      dsimp only
      intro hv
      rcases Nat.lt_or_ge i j with l | l
      · have:=List.pairwise_iff_getElem.mp T.sb (q+1+i) (q+1+j) (by simp;omega) (by simp;omega) (by omega)
        rw [Array.getElem_toList,Array.getElem_toList,(Array.getElem?_eq_some_iff.mp ez).2,(Array.getElem?_eq_some_iff.mp ev).2] at this
        exact KeyOrd.klt_of_kle_of_klt (O:=O) (a:=key z) (b:=key v) (c:=key x) this hv
      · have:i=j:=by omega
        subst this
        rw [ez] at ev;cases ev;exact hv
    · have fs:∀ i y,i < k→b[q+1+i]?=some y→O.blt (key y) (key x)=true:=fun i y hi e=>by
        have:=ht i hi
        rw [e] at this
        exact this
      have nx:q+1+k < b.size→∀ x' y',a[p]?=some x'→b[q+1+k]?=some y'→O.blt (key y') (key x')=false:=fun hlt x' y' e1 e2=>by
        have:=hf k (Nat.le_refl _) (by omega)
        rw [e2] at this
        rw [ex] at e1;cases e1
        exact this
      dsimp only
      by_cases k0:k > 0
      · rw [if_pos k0]
        have I2:=lo_bs I' ex fs
        by_cases e2:q+1+k=b.size
        · rw [if_pos (by simpa using e2)]
          exact wpS_pure (G.fin _ _ _ (lo_dnB I2 e2))
        · rw [if_neg (by simpa using e2)]
          exact wp_loD T G I2 hp (by omega) (by omega) (nx (by omega))
      · rw [if_neg k0]
        have:k=0:=by omega
        subst this
        exact wp_loD T G I' hp (by omega) (by omega) (nx (by omega))
theorem wp_loB (C:Cmp prog w A E s a₀ κ O key) (T:Two key a₀ a b) (hk:kindOf st=κ) (G:GoesOn key a b st m R) (I:LoI key a b o p q) (hp:p+1 < a.size) (hq:q < b.size) (hm:m≤p+1+(q+1)) :
    wpS (model prog w) A E s (loB a b o p q g c d) R (setG st g'):=by
  obtain ⟨y,ey⟩:=at_lt hq
  unfold loB
  refine wpS_bind (wpS_modify ?_)
  refine wpS_bind (wp_elem ey ?_)
  refine wpS_bind (wp_gal C (fun i=>match a[p+i]? with | some x=>!O.blt (key y) (key x) | none=>false) (T.mb y (mem_at ey)) hk (fun i hi=>?_) (fun i j hij hj=>?_) (by omega) fun k hk' ht hf=>?_)
  · obtain ⟨z,ez⟩:=at_lt (a:=a) (i:=p+i) (by omega)
    refine ⟨z,ez,T.ma z (mem_at ez),?_⟩
    rw [ez];rfl
  · obtain ⟨z,ez⟩:=at_lt (a:=a) (i:=p+i) (by omega)
    obtain ⟨v,ev⟩:=at_lt (a:=a) (i:=p+j) (by omega)
    rw [ez,ev]
    dsimp only
    intro hv
    have hv:O.blt (key y) (key v)=false:=by simpa using hv
    rcases Nat.lt_or_ge i j with l | l
    · have:=List.pairwise_iff_getElem.mp T.sa (p+i) (p+j) (by simp;omega) (by simp;omega) (by omega)
      rw [Array.getElem_toList,Array.getElem_toList,(Array.getElem?_eq_some_iff.mp ez).2,(Array.getElem?_eq_some_iff.mp ev).2] at this
      rw [kle_tr this hv];rfl
    · have:i=j:=by omega
      subst this
      rw [ez] at ev;cases ev;rw [hv];rfl
  · have fs:∀ i x,i < k→a[p+i]?=some x→O.blt (key y) (key x)=false:=fun i x hi e=>by
      have:=ht i hi
      rw [e] at this
      simpa using this
    have nx:p+k < a.size→∀ x' y',a[p+k]?=some x'→b[q]?=some y'→O.blt (key y') (key x')=true:=fun hlt x' y' e1 e2=>by
      have:=hf k (Nat.le_refl _) (by omega)
      rw [e1] at this
      rw [ey] at e2;cases e2
      simpa using this
    dsimp only
    by_cases k0:k > 0
    · rw [if_pos k0]
      have I2:=lo_as I ey fs
      by_cases e1:p+k+1=a.size
      · rw [if_pos (by simpa using e1)]
        exact wpS_pure (G.fin _ _ _ (lo_la T I2 e1))
      · rw [if_neg (by simpa using e1)]
        by_cases e2:p+k=a.size
        · rw [if_pos (by simpa using e2)]
          exact wpS_pure (G.fin _ _ _ (lo_dnA I2 e2))
        · rw [if_neg (by simpa using e2)]
          exact wp_loC (st:=st) C T hk G I2 (by omega) hq (by omega) (nx (by omega))
    · rw [if_neg k0]
      have:k=0:=by omega
      subst this
      exact wp_loC (st:=st) C T hk G I hp hq hm (nx (by omega))
theorem wp_loA (C:Cmp prog w A E s a₀ κ O key) (T:Two key a₀ a b) (hk:kindOf st=κ) (G:GoesOn key a b st m R) (I:LoI key a b o p q) (hp:p+1 < a.size) (hq:q < b.size) (hm:m≤p+1+(q+1)) :
    wpS (model prog w) A E s (loA a b (none,o,p,q,g,c,d)) R (setG st g'):=by
  unfold loA
  split
  · exact wp_loB C T hk G I hp hq hm
  · exact wp_loB C T hk G I hp hq hm
end
theorem wp_mLo (C:Cmp prog w A E s a₀ κ O key) {a b:Array Keyed} (T:Two key a₀ a b) {st:SortSt} (hk:kindOf st=κ) {Q:Array Keyed→SortSt→Prop} (h:∀ (o:Array Keyed) (g:Nat),o.toList=mrg key a.toList b.toList→Q o (setG st g)) :
    wpS (model prog w) A E s (mLo a b) Q st:=by
  have na:=T.na
  have nb:=T.nb
  obtain ⟨y0,ey⟩:=at_lt (a:=b) (i:=0) (by omega)
  obtain ⟨x0,ex⟩:=at_lt (a:=a) (i:=0) (by omega)
  rw [mLo_eq]
  refine wpS_bind (wpS_lift (wpAny_rule ⟨rfl,?_⟩))
  dsimp only
  refine wpS_bind (wp_elem ey ?_)
  have I0:LoI key a b #[y0] 0 1:=lo_b (o:=#[]) (by unfold LoI;rfl) ex ey (T.fst x0 (mem_at ex) y0 ey)
  have e0:st=setG st (gallopOf st):=rfl
  by_cases e1:1=b.size
  · rw [if_pos (by simpa using e1)]
    exact wpS_pure (h _ (gallopOf st) (lo_dnB I0 e1))
  rw [if_neg (by simpa using e1)]
  by_cases e2:0+1=a.size
  · rw [if_pos (by simpa using e2)]
    exact wpS_pure (h _ (gallopOf st) (lo_la T I0 e2))
  rw [if_neg (by simpa using e2)]
  refine wpS_bind (wpS_get ?_)
  refine wpS_bind (wpS_mono (wpS_forRange (I:=fun t c st'=>∃ o p q g g',c=(none,o,p,q,g)∧st'=setG st g'∧LoI key a b o p q∧p+1 < a.size∧q < b.size∧t+1≤p+q)
    (Q:=fun c st'=>∃ out c' g',c=(some out,c')∧st'=setG st g'∧out.toList=mrg key a.toList b.toList) ?step ?fin ⟨_,_,_,_,_,rfl,e0,I0,by omega,by omega,by omega⟩) ?post)
  case post=>
    rintro c st' ⟨out,c',g',rfl,rfl,e⟩
    exact wpS_pure (h _ _ e)
  case fin=>
    rintro c st' ⟨o,p,q,g,g',rfl,rfl,I,a1,a2,a3⟩
    omega
  case step=>
    rintro t c st' _ ht ⟨o,p,q,g,g',rfl,rfl,I,a1,a2,a3⟩
    dsimp only
    refine wpS_bind (wpS_mono (wpS_forRange (I:=fun t' c st'=>∃ o' p' q' c' d',c=(none,o',p',q',c',d')∧st'=setG st g'∧LoI key a b o' p' q'∧p'+1 < a.size∧q' < b.size∧p+q+t'≤p'+q')
      (Q:=fun c st'=>st'=setG st g'∧((∃ out c',c=(some out,c')∧out.toList=mrg key a.toList b.toList)∨∃ o' p' q' c' d',c=(none,o',p',q',c',d')∧LoI key a b o' p' q'∧p'+1 < a.size∧q' < b.size∧p+q+1≤p'+q')) ?s1 ?f1 ⟨_,_,_,_,_,rfl,rfl,I,a1,a2,by omega⟩) ?p1)
    case f1=>
      rintro c st' ⟨o',p',q',c',d',rfl,rfl,I',b1,b2,b3⟩
      omega
    case s1=>
      rintro t' c st' _ ht' ⟨o',p',q',c',d',rfl,rfl,I',b1,b2,b3⟩
      dsimp only
      obtain ⟨x,ex'⟩:=at_lt (a:=a) (i:=p') (by omega)
      obtain ⟨y,ey'⟩:=at_lt b2
      refine wpS_bind (wp_elem ey' (wpS_bind (wp_elem ex' (wpS_bind (C y x _ _ (T.mb y (mem_at ey')) (T.ma x (mem_at ex')) hk ?_)))))
      dsimp only
      cases e:O.blt (key y) (key x) with
      | true=>
        rw [if_pos rfl]
        refine wpS_bind (wp_elem ey' ?_)
        have I2:=lo_b I' ex' ey' e
        by_cases f1:q'+1=b.size
        · rw [if_pos (by simpa using f1)]
          exact wpS_pure ⟨rfl,.inl ⟨_,_,rfl,lo_dnB I2 f1⟩⟩
        · rw [if_neg (by simpa using f1)]
          split
          · exact wpS_pure ⟨rfl,.inr ⟨_,_,_,_,_,rfl,I2,b1,by omega,by omega⟩⟩
          · exact wpS_pure ⟨_,_,_,_,_,rfl,rfl,I2,b1,by omega,by omega⟩
      | false=>
        rw [if_neg (by simp)]
        refine wpS_bind (wp_elem ex' ?_)
        have I2:=lo_a I' ex' ey' e
        by_cases f1:p'+1+1=a.size
        · rw [if_pos (by simpa using f1)]
          exact wpS_pure ⟨rfl,.inl ⟨_,_,rfl,lo_la T I2 f1⟩⟩
        · rw [if_neg (by simpa using f1)]
          split
          · exact wpS_pure ⟨rfl,.inr ⟨_,_,_,_,_,rfl,I2,by omega,b2,by omega⟩⟩
          · exact wpS_pure ⟨_,_,_,_,_,rfl,rfl,I2,by omega,b2,by omega⟩
    case p1=>
      rintro c st' ⟨rfl,⟨out,c',rfl,e⟩ | ⟨o',p',q',c',d',rfl,I',b1,b2,b3⟩⟩
      · exact wpS_pure ⟨_,_,_,rfl,rfl,e⟩
      · dsimp only
        refine wpS_bind (wpS_lift (wpAny_rule ⟨rfl,?_⟩))
        refine wpS_bind (wpS_mono (wpS_forRange (I:=fun t' c st'=>∃ o' p' q' g c' d' g',c=(none,o',p',q',g,c',d')∧st'=setG st g'∧LoI key a b o' p' q'∧p'+1 < a.size∧q' < b.size∧p+q+1+t'≤p'+q')
          (Q:=fun c st'=>(∃ out c' g',c=(some out,c')∧st'=setG st g'∧out.toList=mrg key a.toList b.toList)∨∃ o' p' q' g c' d' g',c=(none,o',p',q',g,c',d')∧st'=setG st g'∧LoI key a b o' p' q'∧p'+1 < a.size∧q' < b.size∧p+q+1≤p'+q') ?s2 ?f2 ⟨_,_,_,_,_,_,_,rfl,rfl,I',b1,b2,by omega⟩) ?p2)
        case f2=>
          rintro c st' ⟨o',p',q',g,c',d',g',rfl,rfl,I',b1,b2,b3⟩
          omega
        case s2=>
          rintro t' c st' _ ht' ⟨o',p',q',g,c',d',g',rfl,rfl,I',b1,b2,b3⟩
          exact wp_loA (m:=p'+q'+2) C T hk ⟨fun out c g e=>.inl ⟨_,_,_,rfl,rfl,e⟩,fun o p q g c d g' I h1 h2 h3=>.inr ⟨_,_,_,_,_,_,_,rfl,rfl,I,h1,h2,by omega⟩,fun o p q g c d g' I h1 h2 h3=>⟨_,_,_,_,_,_,_,rfl,rfl,I,h1,h2,by omega⟩⟩ I' b1 b2 (by omega)
        case p2=>
          rintro c st' (⟨out,c',g',rfl,rfl,e⟩ | ⟨o',p',q',g,c',d',g',rfl,rfl,I',b1,b2,b3⟩)
          · exact wpS_pure ⟨_,_,_,rfl,rfl,e⟩
          · exact wpS_bind (wpS_modify (wpS_pure ⟨o',p',q',_,_,rfl,rfl,I',b1,b2,by omega⟩))
end
end Tim
namespace Tim
open PySem PyProof.Rows
section
variable {prog:Program} {w:World} {A:Around} {E:Value→Shared→Prop} {s:Shared} {a₀:Array Keyed} {κ:SortKind} {O:KeyOrd} {key:Keyed→O.α}
theorem ext_to (a:Array Keyed) (p:Nat):(a.extract 0 p).toList=a.toList.take p:=by
  rw [Array.toList_extract,List.extract_eq_drop_take,List.drop_zero,Nat.sub_zero]
theorem take_at {a:Array Keyed} {p:Nat} {x:Keyed} (e:a[p]?=some x):a.toList.take (p+1)=a.toList.take p++[x]:=by
  obtain ⟨h,rfl⟩:=Array.getElem?_eq_some_iff.mp e
  rw [List.take_succ_eq_append_getElem (by simpa using h)]
  simp
theorem take_mid (a:Array Keyed) {f p:Nat} (h:f≤p):a.toList.take p=a.toList.take f++(a.extract f p).toList:=by
  rw [Array.toList_extract,List.extract_eq_drop_take]
  have e:p=f+(p - f):=by omega
  conv=>lhs;rw [e]
  rw [List.take_add]
theorem mem_to {a:Array Keyed} {p:Nat} {z:Keyed} (hz:z∈a.toList.take p):∃ i,i < p∧a[i]?=some z:=by
  obtain ⟨i,hi,rfl⟩:=List.getElem_of_mem hz
  have hi':i < min p a.size:=by simpa using hi
  refine ⟨i,by omega,?_⟩
  rw [List.getElem_take,Array.getElem_toList,Array.getElem?_eq_getElem]
theorem mem_ext {a:Array Keyed} {f p:Nat} {z:Keyed} (hz:z∈(a.extract f p).toList):∃ i,f≤i∧i < p∧a[i]?=some z:=by
  rw [Array.toList_extract,List.extract_eq_drop_take] at hz
  obtain ⟨i,hi,e⟩:=mem_mid hz
  exact ⟨f+i,by omega,by omega,e⟩
theorem srt_at {a:Array Keyed} (h:Srt key a.toList) {i j:Nat} {x y:Keyed} (ex:a[i]?=some x) (ey:a[j]?=some y) (hij:i≤j):O.blt (key y) (key x)=false:=by
  obtain ⟨h1,rfl⟩:=Array.getElem?_eq_some_iff.mp ex
  obtain ⟨h2,rfl⟩:=Array.getElem?_eq_some_iff.mp ey
  rcases Nat.lt_or_ge i j with l | l
  · have:=List.pairwise_iff_getElem.mp h i j (by simpa using h1) (by simpa using h2) l
    simpa using this
  · have:i=j:=by omega
    subst this
    exact O.irrefl _
def HiI (key:Keyed→O.α) (a b o:Array Keyed) (p q:Nat):Prop:=mrg key (a.toList.take p) (b.toList.take q)++o.toList.reverse=mrg key a.toList b.toList
section
variable {a b o:Array Keyed} {p q f:Nat} {x y:Keyed}
theorem hi_a (I:HiI key a b o (p+1) q) (ex:a[p]?=some x) (h:∀ i z,i < q→b[i]?=some z→O.blt (key z) (key x)=true):HiI key a b (o.push x) p q:=by
  unfold HiI at I ⊢
  rw [take_at ex,mrg_snocL x _ _ fun z hz=>by obtain ⟨i,hi,e⟩:=mem_to hz;exact h i z hi e,List.append_assoc] at I
  rw [Array.toList_push,List.reverse_append]
  exact I
theorem hi_b (I:HiI key a b o p (q+1)) (ey:b[q]?=some y) (h:∀ i z,i < p→a[i]?=some z→O.blt (key y) (key z)=false):HiI key a b (o.push y) p q:=by
  unfold HiI at I ⊢
  rw [take_at ey,mrg_snocR y _ _ fun z hz=>by obtain ⟨i,hi,e⟩:=mem_to hz;exact h i z hi e,List.append_assoc] at I
  rw [Array.toList_push,List.reverse_append]
  exact I
theorem hi_as (I:HiI key a b o p q) (hf:f≤p) (h:∀ i u j z,f≤i→i < p→a[i]?=some u→j < q→b[j]?=some z→O.blt (key z) (key u)=true):HiI key a b (o++(a.extract f p).reverse) f q:=by
  unfold HiI at I ⊢
  rw [take_mid a hf,mrg_snocLs _ _ _ fun u hu z hz=>by
    obtain ⟨i,h1,h2,e⟩:=mem_ext hu
    obtain ⟨j,hj,e'⟩:=mem_to hz
    exact h i u j z h1 h2 e hj e',List.append_assoc] at I
  rw [Array.toList_append,List.reverse_append,Array.toList_reverse,List.reverse_reverse]
  exact I
theorem hi_bs (I:HiI key a b o p q) (hf:f≤q) (h:∀ i u j z,f≤i→i < q→b[i]?=some u→j < p→a[j]?=some z→O.blt (key u) (key z)=false):HiI key a b (o++(b.extract f q).reverse) p f:=by
  unfold HiI at I ⊢
  rw [take_mid b hf,mrg_snocRs _ _ _ fun u hu z hz=>by
    obtain ⟨i,h1,h2,e⟩:=mem_ext hu
    obtain ⟨j,hj,e'⟩:=mem_to hz
    exact h i u j z h1 h2 e hj e',List.append_assoc] at I
  rw [Array.toList_append,List.reverse_append,Array.toList_reverse,List.reverse_reverse]
  exact I
theorem hi_dnA (I:HiI key a b o p q) (h:p=0):(a.extract 0 p++b.extract 0 q++o.reverse).toList=mrg key a.toList b.toList:=by
  subst h
  unfold HiI at I
  rw [Array.toList_append,Array.toList_append,ext_to,ext_to,← I,List.take_zero,mrg_nil,Array.toList_reverse,List.nil_append]
theorem hi_dnB (I:HiI key a b o p q) (h:q=0):(a.extract 0 p++b.extract 0 q++o.reverse).toList=mrg key a.toList b.toList:=by
  subst h
  unfold HiI at I
  rw [Array.toList_append,Array.toList_append,ext_to,ext_to,← I,List.take_zero,mrg_nil',Array.toList_reverse,List.append_nil]
theorem hi_fb (T:Two key a₀ a b) (I:HiI key a b o p q) (h:q=1):(b.extract 0 q++a.extract 0 p++o.reverse).toList=mrg key a.toList b.toList:=by
  subst h
  obtain ⟨y,ey⟩:=at_lt (a:=b) (i:=0) T.nb
  have e:b.toList.take 1=[y]:=take_at ey
  unfold HiI at I
  rw [e,mrg_first y _ fun z hz=>by obtain ⟨i,hi,e'⟩:=mem_to hz;exact T.fst z (mem_at e') y ey] at I
  rw [Array.toList_append,Array.toList_append,ext_to,ext_to,← I,e,Array.toList_reverse]
  rfl
end
abbrev HSt:=Option (Array Keyed) × Nat × Nat × Array Keyed × Nat × Nat × Nat
def hiD (a b o:Array Keyed) (p q g c d:Nat):SM (ForInStep HSt):=do
  let x ← elem' a (p - 1)
  if p - 1 == 0 then return .done (some (a.extract 0 (p - 1)++b.extract 0 q++(o.push x).reverse),p - 1,q,o.push x,g,c,d)
  else if c < 7 && d < 7 then return .done (none,p - 1,q,o.push x,g,c,d)
  else return .yield (none,p - 1,q,o.push x,g,c,d)
def hiC (a b o:Array Keyed) (p q g c d:Nat):SM (ForInStep HSt):=do
  let y ← elem' b (q - 1)
  if q - 1 == 1 then return .done (some (b.extract 0 (q - 1)++a.extract 0 p++(o.push y).reverse),p,q - 1,o.push y,g,c,d)
  else
    let x ← elem' a (p - 1)
    let some f ← gal true x b 0 (q - 1) (q - 1 - 1) | return .done (some (a.extract 0 p++b.extract 0 (q - 1)++(o.push y).reverse),p,q - 1,o.push y,g,c,d)
    if q - 1 - f > 0 then
      if f == 1 then return .done (some (b.extract 0 f++a.extract 0 p++(o.push y++(b.extract f (q - 1)).reverse).reverse),p,f,o.push y++(b.extract f (q - 1)).reverse,g,c,q - 1 - f)
      else if f == 0 then return .done (some (a.extract 0 p++b.extract 0 f++(o.push y++(b.extract f (q - 1)).reverse).reverse),p,f,o.push y++(b.extract f (q - 1)).reverse,g,c,q - 1 - f)
      else hiD a b (o.push y++(b.extract f (q - 1)).reverse) p f g c (q - 1 - f)
    else hiD a b (o.push y) p (q - 1) g c (q - 1 - f)
def hiB (a b o:Array Keyed) (p q g c d:Nat):SM (ForInStep HSt):=do
  putG g
  let y ← elem' b (q - 1)
  let some f ← gal false y a 0 p (p - 1) | return .done (some (a.extract 0 p++b.extract 0 q++o.reverse),p,q,o,g,c,d)
  if p - f > 0 then
    if f == 0 then return .done (some (a.extract 0 f++b.extract 0 q++(o++(a.extract f p).reverse).reverse),f,q,o++(a.extract f p).reverse,g,p - f,d)
    else hiC a b (o++(a.extract f p).reverse) f q g (p - f) d
  else hiC a b o p q g (p - f) d
def hiA (a b:Array Keyed) (c:HSt):SM (ForInStep HSt):=
  if c.2.2.2.2.1 > 1 then hiB a b c.2.2.2.1 c.2.1 c.2.2.1 (c.2.2.2.2.1 - 1) c.2.2.2.2.2.1 c.2.2.2.2.2.2
  else hiB a b c.2.2.2.1 c.2.1 c.2.2.1 c.2.2.2.2.1 c.2.2.2.2.2.1 c.2.2.2.2.2.2
structure GoesHi (key:Keyed→O.α) (a b:Array Keyed) (st:SortSt) (m:Nat) (R:ForInStep HSt→SortSt→Prop):Prop where
  fin:∀ (out:Array Keyed) c g,out.toList=mrg key a.toList b.toList→R (.done (some out,c)) (setG st g)
  brk:∀ o p q g c d g',HiI key a b o p q→0 < p→p≤a.size→1 < q→q≤b.size→p+q≤m→R (.done (none,p,q,o,g,c,d)) (setG st g')
  yld:∀ o p q g c d g',HiI key a b o p q→0 < p→p≤a.size→1 < q→q≤b.size→p+q≤m→R (.yield (none,p,q,o,g,c,d)) (setG st g')
section
variable {a b o:Array Keyed} {p q k g c d m g':Nat} {x y:Keyed} {st:SortSt} {R:ForInStep HSt→SortSt→Prop}
theorem wp_hiD (G:GoesHi key a b st m R) (I:HiI key a b o (p+1) q) (hp:p+1≤a.size) (hq:1 < q) (hq':q≤b.size) (hm:p+q≤m) (h:∀ x i z,a[p]?=some x→i < q→b[i]?=some z→O.blt (key z) (key x)=true) :
    wpS (model prog w) A E s (hiD a b o (p+1) q g c d) R (setG st g'):=by
  obtain ⟨x,ex⟩:=at_lt (a:=a) (i:=p) (by omega)
  unfold hiD
  rw [Nat.add_sub_cancel]
  refine wpS_bind (wp_elem ex ?_)
  have I':=hi_a I ex fun i z=>h x i z ex
  by_cases e:p=0
  · rw [if_pos (by simpa using e)]
    exact wpS_pure (G.fin _ _ _ (hi_dnA I' e))
  · rw [if_neg (by simpa using e)]
    split
    · exact wpS_pure (G.brk _ _ _ _ _ _ _ I' (by omega) (by omega) hq hq' hm)
    · exact wpS_pure (G.yld _ _ _ _ _ _ _ I' (by omega) (by omega) hq hq' hm)
theorem wp_hiC (C:Cmp prog w A E s a₀ κ O key) (T:Two key a₀ a b) (hk:kindOf st=κ) (G:GoesHi key a b st m R) (I:HiI key a b o (p+1) (q+1)) (hp:p+1≤a.size) (hq:1 < q+1) (hq':q+1≤b.size) (hm:p+q≤m)
    (h:∀ y i z,b[q]?=some y→i < p+1→a[i]?=some z→O.blt (key y) (key z)=false) :
    wpS (model prog w) A E s (hiC a b o (p+1) (q+1) g c d) R (setG st g'):=by
  obtain ⟨x,ex⟩:=at_lt (a:=a) (i:=p) (by omega)
  obtain ⟨y,ey⟩:=at_lt (a:=b) (i:=q) (by omega)
  unfold hiC
  rw [Nat.add_sub_cancel,Nat.add_sub_cancel]
  refine wpS_bind (wp_elem ey ?_)
  have I':=hi_b I ey fun i z=>h y i z ey
  by_cases e:q=1
  · rw [if_pos (by simpa using e)]
    exact wpS_pure (G.fin _ _ _ (hi_fb T I' e))
  · rw [if_neg (by simpa using e)]
    refine wpS_bind (wp_elem ex ?_)
    refine wpS_bind (wp_gal C (fun i=>match b[0+i]? with | some y=>O.blt (key y) (key x) | none=>false) (T.ma x (mem_at ex)) hk (fun i hi=>?_) (fun i j hij hj=>?_) (by omega) fun f hf' ht hf=>?_)
    · obtain ⟨z,ez⟩:=at_lt (a:=b) (i:=0+i) (by omega)
      refine ⟨z,ez,T.mb z (mem_at ez),?_⟩
      rw [ez];rfl
    · obtain ⟨z,ez⟩:=at_lt (a:=b) (i:=0+i) (by omega)
      obtain ⟨v,ev⟩:=at_lt (a:=b) (i:=0+j) (by omega)
      rw [ez,ev]
      exact fun hv=>KeyOrd.klt_of_kle_of_klt (O:=O) (a:=key z) (b:=key v) (c:=key x) (srt_at T.sb ez ev (by omega)) hv
    · have fs:∀ i y,i < f→b[i]?=some y→O.blt (key y) (key x)=true:=fun i y hi e=>by
        have:=ht i hi
        rw [Nat.zero_add,e] at this
        exact this
      have nx:∀ i u,f≤i→i < q→b[i]?=some u→O.blt (key u) (key x)=false:=fun i u h1 h2 e=>by
        have:=hf i h1 h2
        rw [Nat.zero_add,e] at this
        exact this
      have go:∀ x' i z,a[p]?=some x'→i < f→b[i]?=some z→O.blt (key z) (key x')=true:=fun x' i z e1 hi e=>by
        rw [ex] at e1;cases e1
        exact fs i z hi e
      dsimp only
      by_cases k0:q - f > 0
      · rw [if_pos k0]
        have I2:=hi_bs I' hf' fun i u j z h1 h2 e1 hj e2=>kle_tr (srt_at T.sa e2 ex (by omega)) (nx i u h1 h2 e1)
        by_cases e1:f=1
        · rw [if_pos (by simpa using e1)]
          exact wpS_pure (G.fin _ _ _ (hi_fb T I2 e1))
        · rw [if_neg (by simpa using e1)]
          by_cases e2:f=0
          · rw [if_pos (by simpa using e2)]
            exact wpS_pure (G.fin _ _ _ (hi_dnB I2 e2))
          · rw [if_neg (by simpa using e2)]
            exact wp_hiD G I2 hp (by omega) (by omega) (by omega) go
      · rw [if_neg k0]
        have:f=q:=by omega
        subst this
        exact wp_hiD G I' hp (by omega) (by omega) (by omega) go
theorem wp_hiB (C:Cmp prog w A E s a₀ κ O key) (T:Two key a₀ a b) (hk:kindOf st=κ) (G:GoesHi key a b st m R) (I:HiI key a b o p (q+1)) (hp:0 < p) (hp':p≤a.size) (hq:1 < q+1) (hq':q+1≤b.size) (hm:p+q≤m+1) :
    wpS (model prog w) A E s (hiB a b o p (q+1) g c d) R (setG st g'):=by
  obtain ⟨y,ey⟩:=at_lt (a:=b) (i:=q) (by omega)
  unfold hiB
  rw [Nat.add_sub_cancel]
  refine wpS_bind (wpS_modify ?_)
  refine wpS_bind (wp_elem ey ?_)
  refine wpS_bind (wp_gal C (fun i=>match a[0+i]? with | some x=>!O.blt (key y) (key x) | none=>false) (T.mb y (mem_at ey)) hk (fun i hi=>?_) (fun i j hij hj=>?_) (by omega) fun f hf' ht hf=>?_)
  · obtain ⟨z,ez⟩:=at_lt (a:=a) (i:=0+i) (by omega)
    refine ⟨z,ez,T.ma z (mem_at ez),?_⟩
    rw [ez];rfl
  · obtain ⟨z,ez⟩:=at_lt (a:=a) (i:=0+i) (by omega)
    obtain ⟨v,ev⟩:=at_lt (a:=a) (i:=0+j) (by omega)
    rw [ez,ev]
    dsimp only
    intro hv
    have hv:O.blt (key y) (key v)=false:=by simpa using hv
    rw [kle_tr (srt_at T.sa ez ev (by omega)) hv];rfl
  · have fs:∀ i x,i < f→a[i]?=some x→O.blt (key y) (key x)=false:=fun i x hi e=>by
      have:=ht i hi
      rw [Nat.zero_add,e] at this
      simpa using this
    have nx:∀ i u,f≤i→i < p→a[i]?=some u→O.blt (key y) (key u)=true:=fun i u h1 h2 e=>by
      have:=hf i h1 h2
      rw [Nat.zero_add,e] at this
      simpa using this
    have go:∀ y' i z,b[q]?=some y'→i < f→a[i]?=some z→O.blt (key y') (key z)=false:=fun y' i z e1 hi e=>by
      rw [ey] at e1;cases e1
      exact fs i z hi e
    dsimp only
    by_cases k0:p - f > 0
    · rw [if_pos k0]
      have I2:=hi_as I hf' fun i u j z h1 h2 e1 hj e2=>KeyOrd.klt_of_kle_of_klt (O:=O) (a:=key z) (b:=key y) (c:=key u) (srt_at T.sb e2 ey (by omega)) (nx i u h1 h2 e1)
      by_cases e2:f=0
      · rw [if_pos (by simpa using e2)]
        exact wpS_pure (G.fin _ _ _ (hi_dnA I2 e2))
      · rw [if_neg (by simpa using e2)]
        obtain ⟨f',rfl⟩:∃ f',f=f'+1:=⟨f - 1,by omega⟩
        exact wp_hiC (st:=st) C T hk G I2 (by omega) hq hq' (by omega) go
    · rw [if_neg k0]
      have:f=p:=by omega
      subst this
      obtain ⟨f',rfl⟩:∃ f',f=f'+1:=⟨f - 1,by omega⟩
      exact wp_hiC (st:=st) C T hk G I (by omega) hq hq' (by omega) go
theorem wp_hiA (C:Cmp prog w A E s a₀ κ O key) (T:Two key a₀ a b) (hk:kindOf st=κ) (G:GoesHi key a b st m R) (I:HiI key a b o p q) (hp:0 < p) (hp':p≤a.size) (hq:1 < q) (hq':q≤b.size) (hm:p+q≤m+2) :
    wpS (model prog w) A E s (hiA a b (none,p,q,o,g,c,d)) R (setG st g'):=by
  obtain ⟨q,rfl⟩:∃ q',q=q'+1:=⟨q - 1,by omega⟩
  unfold hiA
  split
  · exact wp_hiB (p:=p) (q:=q) C T hk G I hp hp' hq hq' (by omega)
  · exact wp_hiB (p:=p) (q:=q) C T hk G I hp hp' hq hq' (by omega)
end
theorem wp_mHi (C:Cmp prog w A E s a₀ κ O key) {a b:Array Keyed} (T:Two key a₀ a b) {st:SortSt} (hk:kindOf st=κ) {Q:Array Keyed→SortSt→Prop} (h:∀ (o:Array Keyed) (g:Nat),o.toList=mrg key a.toList b.toList→Q o (setG st g)) :
    wpS (model prog w) A E s (mHi a b) Q st:=by
  have na:=T.na
  have nb:=T.nb
  obtain ⟨x0,ex⟩:=at_lt (a:=a) (i:=a.size - 1) (by omega)
  rw [mHi_eq]
  refine wpS_bind (wpS_lift (wpAny_rule ⟨rfl,?_⟩))
  dsimp only
  refine wpS_bind (wp_elem ex ?_)
  have I0:HiI key a b #[x0] (a.size - 1) b.size:=hi_a (o:=#[]) (by
    unfold HiI
    rw [show a.size - 1+1=a.size by omega,List.take_of_length_le (l:=a.toList) (by simp),List.take_of_length_le (l:=b.toList) (by simp)]
    simp) ex fun i z hi e=>T.lst z (mem_at e) x0 ex
  have e0:st=setG st (gallopOf st):=rfl
  by_cases e1:a.size - 1=0
  · rw [if_pos (by simpa using e1)]
    exact wpS_pure (h _ (gallopOf st) (hi_dnA I0 e1))
  rw [if_neg (by simpa using e1)]
  by_cases e2:b.size=1
  · rw [if_pos (by simpa using e2)]
    exact wpS_pure (h _ (gallopOf st) (hi_fb T I0 e2))
  rw [if_neg (by simpa using e2)]
  refine wpS_bind (wpS_get ?_)
  refine wpS_bind (wpS_mono (wpS_forRange (I:=fun t c st'=>∃ o p q g g',c=(none,p,q,o,g)∧st'=setG st g'∧HiI key a b o p q∧0 < p∧p≤a.size∧1 < q∧q≤b.size∧t+1+p+q≤a.size+b.size)
    (Q:=fun c st'=>∃ out c' g',c=(some out,c')∧st'=setG st g'∧out.toList=mrg key a.toList b.toList) ?step ?fin ⟨_,_,_,_,_,rfl,e0,I0,by omega,by omega,by omega,by omega,by omega⟩) ?post)
  case post=>
    rintro c st' ⟨out,c',g',rfl,rfl,e⟩
    exact wpS_pure (h _ _ e)
  case fin=>
    rintro c st' ⟨o,p,q,g,g',rfl,rfl,I,a1,a2,a3,a4,a5⟩
    omega
  case step=>
    rintro t c st' _ ht ⟨o,p,q,g,g',rfl,rfl,I,a1,a2,a3,a4,a5⟩
    dsimp only
    refine wpS_bind (wpS_mono (wpS_forRange (I:=fun t' c st'=>∃ o' p' q' c' d',c=(none,p',q',o',c',d')∧st'=setG st g'∧HiI key a b o' p' q'∧0 < p'∧p'≤a.size∧1 < q'∧q'≤b.size∧p'+q'+t'≤p+q)
      (Q:=fun c st'=>st'=setG st g'∧((∃ out c',c=(some out,c')∧out.toList=mrg key a.toList b.toList)∨∃ o' p' q' c' d',c=(none,p',q',o',c',d')∧HiI key a b o' p' q'∧0 < p'∧p'≤a.size∧1 < q'∧q'≤b.size∧p'+q'+1≤p+q)) ?s1 ?f1 ⟨_,_,_,_,_,rfl,rfl,I,a1,a2,a3,a4,by omega⟩) ?p1)
    case f1=>
      rintro c st' ⟨o',p',q',c',d',rfl,rfl,I',b1,b2,b3,b4,b5⟩
      omega
    case s1=>
      rintro t' c st' _ ht' ⟨o',p',q',c',d',rfl,rfl,I',b1,b2,b3,b4,b5⟩
      obtain ⟨p',rfl⟩:∃ z,p'=z+1:=⟨p' - 1,by omega⟩
      obtain ⟨q',rfl⟩:∃ z,q'=z+1:=⟨q' - 1,by omega⟩
      simp only [Nat.add_sub_cancel]
      obtain ⟨x,ex'⟩:=at_lt (a:=a) (i:=p') (by omega)
      obtain ⟨y,ey'⟩:=at_lt (a:=b) (i:=q') (by omega)
      refine wpS_bind (wp_elem ey' (wpS_bind (wp_elem ex' (wpS_bind (C y x _ _ (T.mb y (mem_at ey')) (T.ma x (mem_at ex')) hk ?_)))))
      dsimp only
      cases e:O.blt (key y) (key x) with
      | true=>
        rw [if_pos rfl]
        refine wpS_bind (wp_elem ex' ?_)
        have I2:=hi_a I' ex' fun i z hi ez=>KeyOrd.klt_of_kle_of_klt (O:=O) (a:=key z) (b:=key y) (c:=key x) (srt_at T.sb ez ey' (by omega)) e
        by_cases f1:p'=0
        · rw [if_pos (by simpa using f1)]
          exact wpS_pure ⟨rfl,.inl ⟨_,_,rfl,hi_dnA I2 f1⟩⟩
        · rw [if_neg (by simpa using f1)]
          split
          · exact wpS_pure ⟨rfl,.inr ⟨_,_,_,_,_,rfl,I2,by omega,by omega,by omega,by omega,by omega⟩⟩
          · exact wpS_pure ⟨_,_,_,_,_,rfl,rfl,I2,by omega,by omega,by omega,by omega,by omega⟩
      | false=>
        rw [if_neg (by simp)]
        refine wpS_bind (wp_elem ey' ?_)
        have I2:=hi_b I' ey' fun i z hi ez=>kle_tr (srt_at T.sa ez ex' (by omega)) e
        by_cases f1:q'=1
        · rw [if_pos (by simpa using f1)]
          exact wpS_pure ⟨rfl,.inl ⟨_,_,rfl,hi_fb T I2 f1⟩⟩
        · rw [if_neg (by simpa using f1)]
          split
          · exact wpS_pure ⟨rfl,.inr ⟨_,_,_,_,_,rfl,I2,by omega,by omega,by omega,by omega,by omega⟩⟩
          · exact wpS_pure ⟨_,_,_,_,_,rfl,rfl,I2,by omega,by omega,by omega,by omega,by omega⟩
    case p1=>
      rintro c st' ⟨rfl,⟨out,c',rfl,e⟩ | ⟨o',p',q',c',d',rfl,I',b1,b2,b3,b4,b5⟩⟩
      · exact wpS_pure ⟨_,_,_,rfl,rfl,e⟩
      · dsimp only
        refine wpS_bind (wpS_lift (wpAny_rule ⟨rfl,?_⟩))
        refine wpS_bind (wpS_mono (wpS_forRange (I:=fun t' c st'=>∃ o' p' q' g c' d' g',c=(none,p',q',o',g,c',d')∧st'=setG st g'∧HiI key a b o' p' q'∧0 < p'∧p'≤a.size∧1 < q'∧q'≤b.size∧p'+q'+1+t'≤p+q)
          (Q:=fun c st'=>(∃ out c' g',c=(some out,c')∧st'=setG st g'∧out.toList=mrg key a.toList b.toList)∨∃ o' p' q' g c' d' g',c=(none,p',q',o',g,c',d')∧st'=setG st g'∧HiI key a b o' p' q'∧0 < p'∧p'≤a.size∧1 < q'∧q'≤b.size∧p'+q'+1≤p+q) ?s2 ?f2 ⟨_,_,_,_,_,_,_,rfl,rfl,I',b1,b2,b3,b4,by omega⟩) ?p2)
        case f2=>
          rintro c st' ⟨o',p',q',g,c',d',g',rfl,rfl,I',b1,b2,b3,b4,b5⟩
          omega
        case s2=>
          rintro t' c st' _ ht' ⟨o',p',q',g,c',d',g',rfl,rfl,I',b1,b2,b3,b4,b5⟩
          exact wp_hiA (m:=p'+q' - 2) C T hk ⟨fun out c g e=>.inl ⟨_,_,_,rfl,rfl,e⟩,fun o p q g c d g' I h1 h2 h3 h4 h5=>.inr ⟨_,_,_,_,_,_,_,rfl,rfl,I,h1,h2,h3,h4,by omega⟩,fun o p q g c d g' I h1 h2 h3 h4 h5=>⟨_,_,_,_,_,_,_,rfl,rfl,I,h1,h2,h3,h4,by omega⟩⟩ I' b1 b2 b3 b4 (by omega)
        case p2=>
          rintro c st' (⟨out,c',g',rfl,rfl,e⟩ | ⟨o',p',q',g,c',d',g',rfl,rfl,I',b1,b2,b3,b4,b5⟩)
          · exact wpS_pure ⟨_,_,_,rfl,rfl,e⟩
          · exact wpS_bind (wpS_modify (wpS_pure ⟨o',p',q',_,_,rfl,rfl,I',b1,b2,b3,b4,by omega⟩))
end
end Tim
namespace Tim
open PySem PyProof.Rows
section
variable {prog:Program} {w:World} {A:Around} {E:Value→Shared→Prop} {s:Shared} {a₀:Array Keyed} {κ:SortKind} {O:KeyOrd} {key:Keyed→O.α}
theorem wr_list:∀ (l:List Keyed) (b m:Nat) (xs:Array Keyed),b+m+l.length≤xs.size →
    ((l.zipIdx m).foldl (fun a (p,j)=>a.setIfInBounds (b+j) p) xs).toList=xs.toList.take (b+m)++l++xs.toList.drop (b+m+l.length)
  | [],b,m,xs,h=>by simp
  | x :: l,b,m,xs,h=>by
    rw [List.length_cons] at h
    rw [List.zipIdx_cons,List.foldl_cons]
    have:=wr_list l b (m+1) (xs.setIfInBounds (b+m) x) (by rw [Array.size_setIfInBounds];omega)
    rw [this,Array.toList_setIfInBounds,List.length_cons,← Nat.add_assoc b m 1]
    have hl:b+m < xs.toList.length:=by simp;omega
    have e1:(xs.toList.set (b+m) x).take (b+m+1)=xs.toList.take (b+m)++[x]:=by
      rw [List.take_succ_eq_append_getElem (by simpa using hl),List.take_set_of_le (Nat.le_refl _),List.getElem_set_self]
    have e2:(xs.toList.set (b+m) x).drop (b+m+1+l.length)=xs.toList.drop (b+m+(l.length+1)):=by
      rw [List.drop_set_of_lt (by omega)]
      congr 1
      omega
    rw [e1,e2,List.append_assoc,List.append_assoc,List.append_assoc]
    rfl
abbrev Seg (key:Keyed→O.α) (xs:Array Keyed) (i j:Nat):Prop:=∀ p q x y,i≤p→p≤q→q < j→xs[p]?=some x→xs[q]?=some y→O.blt (key y) (key x)=false
theorem seg_srt {xs:Array Keyed} {i j:Nat} (h:Seg key xs i j):Srt key (xs.extract i j).toList:=by
  refine List.pairwise_iff_getElem.mpr fun p q hp hq hpq=>?_
  rw [Array.getElem_toList,Array.getElem_toList,Array.getElem_extract,Array.getElem_extract]
  have hq':q < min (j - i) (xs.size - i):=by simpa using hq
  exact h (i+p) (i+q) _ _ (by omega) (by omega) (by omega) (Array.getElem?_eq_getElem _) (Array.getElem?_eq_getElem _)
theorem seg_sub {xs:Array Keyed} {i j i' j':Nat} (h:Seg key xs i j) (h1:i≤i') (h2:j'≤j):Seg key xs i' j':=fun p q x y a b c=>h p q x y (by omega) b (by omega)
theorem seg_eq {xs ys:Array Keyed} {i j:Nat} (h:Seg key xs i j) (e:∀ t,i≤t→t < j→ys[t]?=xs[t]?):Seg key ys i j:=fun p q x y a b c ex ey=>h p q x y a b c (by rw [← e p a (by omega)];exact ex) (by rw [← e q (by omega) c];exact ey)
theorem perm_mem {xs ys:Array Keyed} (h:xs.Perm ys) {x:Keyed} (hx:x∈xs):x∈ys:=(Array.perm_iff_toList_perm.mp h).mem_iff.mp (Array.mem_toList_iff.mpr hx) |> Array.mem_toList_iff.mp
theorem three (L:List Keyed) {u v:Nat} (h:u≤v):L=L.take u++(L.drop u).take (v - u)++L.drop v:=by
  have e:L.drop v=(L.drop u).drop (v - u):=by rw [List.drop_drop];congr 1;omega
  rw [e,List.append_assoc,List.take_append_drop,List.take_append_drop]
abbrev pendM (p:Array (Nat × Nat × Nat)) (i sa n pw:Nat):Array (Nat × Nat × Nat):=(p.setIfInBounds i (sa,n,pw)).eraseIdxIfInBounds (i+1)
theorem wp_mAt (C:Cmp prog w A E s a₀ κ O key) {st:SortSt} {i sa na pw sb nb pw':Nat} {Q:Bool→SortSt→Prop} (hk:kindOf st=κ) (hf:failedOf st=none) (hp:(arrOf st).Perm a₀)
    (e1:(pendingOf st)[i]?=some (sa,na,pw)) (e2:(pendingOf st)[i+1]?=some (sb,nb,pw')) (hsb:sb=sa+na) (n1:1≤na) (n2:1≤nb) (hz:sb+nb≤(arrOf st).size)
    (s1:Seg key (arrOf st) sa sb) (s2:Seg key (arrOf st) sb (sb+nb))
    (h:∀ (arr':Array Keyed) (g:Nat),arr'.Perm a₀→(∀ t,t < sa∨sb+nb≤t→arr'[t]?=(arrOf st)[t]?)→Seg key arr' sa (sb+nb)→Q true (SortSt.mk' κ arr' (pendM (pendingOf st) i sa (na+nb) pw) g none)) :
    wpS (model prog w) A E s (mergeAt' i) Q st:=by
  subst hk
  rw [mAt_eq]
  refine wpS_bind (wpS_get ?_)
  rw [e1,e2]
  dsimp only
  generalize hL:arrOf st=xs at *
  refine wpS_bind (show wpS _ _ _ _ (modify fun _=>setPending st (pendM (pendingOf st) i sa (na+nb) pw)) _ _ from wpS_modify ?_)
  have stay:Q true (setPending st (pendM (pendingOf st) i sa (na+nb) pw)) ↔ Q true (SortSt.mk' (kindOf st) xs (pendM (pendingOf st) i sa (na+nb) pw) (gallopOf st) none):=by
    show Q true (SortSt.mk' (kindOf st) (arrOf st) _ (gallopOf st) (failedOf st)) ↔ _
    rw [hL,hf]
  obtain ⟨y0,ey⟩:=at_lt (a:=xs) (i:=sb) (by omega)
  refine wpS_bind (wp_elem ey ?_)
  have mem:∀ {t z},xs[t]?=some z→z∈a₀:=fun e=>perm_mem hp (mem_at e)
  refine wpS_bind (wp_gal C (fun t=>match xs[sa+t]? with | some x=>!O.blt (key y0) (key x) | none=>false) (mem ey) rfl (fun t ht=>?_) (fun t u htu hu=>?_) (by omega) fun k hk' ht hf'=>?_)
  · obtain ⟨z,ez⟩:=at_lt (a:=xs) (i:=sa+t) (by omega)
    refine ⟨z,ez,mem ez,?_⟩
    rw [ez];rfl
  · obtain ⟨z,ez⟩:=at_lt (a:=xs) (i:=sa+t) (by omega)
    obtain ⟨v,ev⟩:=at_lt (a:=xs) (i:=sa+u) (by omega)
    rw [ez,ev]
    dsimp only
    intro hv
    have hv:O.blt (key y0) (key v)=false:=by simpa using hv
    rw [kle_tr (s1 _ _ _ _ (by omega) (by omega) (by omega) ez ev) hv];rfl
  have lowA:∀ t x,sa≤t→t < sa+k→xs[t]?=some x→O.blt (key y0) (key x)=false:=fun t x h1 h2 e=>by
    have:=ht (t - sa) (by omega)
    rw [show sa+(t - sa)=t by omega,e] at this
    simpa using this
  have highA:∀ t x,sa+k≤t→t < sb→xs[t]?=some x→O.blt (key y0) (key x)=true:=fun t x h1 h2 e=>by
    have:=hf' (t - sa) (by omega) (by omega)
    rw [show sa+(t - sa)=t by omega,e] at this
    simpa using this
  dsimp only
  by_cases c1:na - k=0
  · rw [if_pos (by simpa using c1)]
    refine wpS_pure (stay.mpr (h xs _ hp (fun _ _=>rfl) fun p q x y a b c ex ey'=>?_))
    rcases Nat.lt_or_ge q sb with l | l
    · exact s1 p q x y a b l ex ey'
    · rcases Nat.lt_or_ge p sb with l' | l'
      · exact kle_tr (lowA p x a (by omega) ex) (s2 sb q y0 y (Nat.le_refl _) l c ey ey')
      · exact s2 p q x y l' b c ex ey'
  rw [if_neg (by simpa using c1)]
  obtain ⟨x1,ex⟩:=at_lt (a:=xs) (i:=sa+k+(na - k) - 1) (by omega)
  have ex1:xs[sb - 1]?=some x1:=by rw [← ex];congr 1;omega
  refine wpS_bind (wp_elem ex ?_)
  refine wpS_bind (wp_gal C (fun t=>match xs[sb+t]? with | some y=>O.blt (key y) (key x1) | none=>false) (mem ex) rfl (fun t ht=>?_) (fun t u htu hu=>?_) (by omega) fun m hm' gt gf=>?_)
  · obtain ⟨z,ez⟩:=at_lt (a:=xs) (i:=sb+t) (by omega)
    refine ⟨z,ez,mem ez,?_⟩
    rw [ez];rfl
  · obtain ⟨z,ez⟩:=at_lt (a:=xs) (i:=sb+t) (by omega)
    obtain ⟨v,ev⟩:=at_lt (a:=xs) (i:=sb+u) (by omega)
    rw [ez,ev]
    exact fun hv=>KeyOrd.klt_of_kle_of_klt (O:=O) (a:=key z) (b:=key v) (c:=key x1) (s2 _ _ _ _ (by omega) (by omega) (by omega) ez ev) hv
  have lowB:∀ t y,sb≤t→t < sb+m→xs[t]?=some y→O.blt (key y) (key x1)=true:=fun t y h1 h2 e=>by
    have:=gt (t - sb) (by omega)
    rw [show sb+(t - sb)=t by omega,e] at this
    exact this
  have highB:∀ t y,sb+m≤t→t < sb+nb→xs[t]?=some y→O.blt (key y) (key x1)=false:=fun t y h1 h2 e=>by
    have:=gf (t - sb) (by omega) (by omega)
    rw [show sb+(t - sb)=t by omega,e] at this
    exact this
  dsimp only
  by_cases c2:m=0
  · exfalso
    have a1:=highB sb y0 (by omega) (by omega) ey
    have a2:=highA (sb - 1) x1 (by omega) (by omega) ex1
    rw [a1] at a2;cases a2
  rw [if_neg (by simpa using c2)]
  have T:Two key a₀ (xs.extract (sa+k) sb) (xs.extract sb (sb+m)):=by
    have za:(xs.extract (sa+k) sb).size=sb - (sa+k):=by simp;omega
    refine ⟨fun x hx=>?_,fun x hx=>?_,by omega,by simp;omega,seg_srt (seg_sub s1 (by omega) (Nat.le_refl _)),seg_srt (seg_sub s2 (Nat.le_refl _) (by omega)),fun x hx y e=>?_,fun y hy x e=>?_⟩
    · obtain ⟨t,_,_,e⟩:=mem_ext (Array.mem_toList_iff.mpr hx);exact mem e
    · obtain ⟨t,_,_,e⟩:=mem_ext (Array.mem_toList_iff.mpr hx);exact mem e
    · obtain ⟨t,b1,b2,et⟩:=mem_ext (Array.mem_toList_iff.mpr hx)
      rw [Array.getElem?_extract,if_pos (by omega),Nat.add_zero,ey] at e
      cases e
      exact highA t x b1 b2 et
    · obtain ⟨t,b1,b2,et⟩:=mem_ext (Array.mem_toList_iff.mpr hy)
      rw [za,Array.getElem?_extract,if_pos (by omega),show sa+k+(sb - (sa+k) - 1)=sb - 1 by omega,ex1] at e
      cases e
      exact lowB t y b1 b2 et
  have fin:∀ (o:Array Keyed) (g:Nat),o.toList=mrg key (xs.extract (sa+k) sb).toList (xs.extract sb (sb+m)).toList →
      wpS (model prog w) A E s (do
        modify fun s=>setArr s (o.toList.zipIdx.foldl (fun a (p,j)=>a.setIfInBounds (sa+k+j) p) (arrOf s))
        return (failedOf (← get)).isNone) Q (setG (setPending st (pendM (pendingOf st) i sa (na+nb) pw)) g):=fun o g ho=>by
    refine wpS_bind (wpS_modify (wpS_bind (wpS_get (wpS_pure ?_))))
    show Q (failedOf st).isNone (SortSt.mk' (kindOf st) (o.toList.zipIdx.foldl (fun a (p,j)=>a.setIfInBounds (sa+k+j) p) (arrOf st)) _ g (failedOf st))
    rw [hL,hf]
    have pm:o.toList.Perm ((xs.extract (sa+k) sb).toList++(xs.extract sb (sb+m)).toList):=by rw [ho];exact mrg_perm _ _
    have ln:o.toList.length=sb+m - (sa+k):=by
      rw [pm.length_eq];simp;omega
    have wl:=wr_list o.toList (sa+k) 0 xs (by rw [ln];omega)
    rw [Nat.add_zero,ln,show sa+k+(sb+m - (sa+k))=sb+m by omega] at wl
    generalize List.foldl (fun a (x:Keyed × Nat)=>a.setIfInBounds (sa+k+x.snd) x.fst) xs o.toList.zipIdx=arr' at wl
    have z1:∀ t,t < sa+k→arr'[t]?=xs[t]?:=fun t h1=>by
      rw [← Array.getElem?_toList,wl,List.append_assoc,List.getElem?_append_left (by simp;omega),List.getElem?_take_of_lt h1,Array.getElem?_toList]
    have tk:(xs.toList.take (sa+k)).length=sa+k:=by simp;omega
    have z2:∀ t,sa+k≤t→t < sb+m→arr'[t]?=o.toList[t - (sa+k)]?:=fun t h1 h2=>by
      rw [← Array.getElem?_toList,wl,List.append_assoc,List.getElem?_append_right (by rw [tk];exact h1),tk,List.getElem?_append_left (by rw [ln];omega)]
    have z3:∀ t,sb+m≤t→arr'[t]?=xs[t]?:=fun t h1=>by
      rw [← Array.getElem?_toList,wl,List.getElem?_append_right (by rw [List.length_append,tk,ln];omega),List.length_append,tk,ln,List.getElem?_drop,← Array.getElem?_toList]
      congr 1
      omega
    have at2:∀ t z,sa+k≤t→t < sb+m→arr'[t]?=some z→∃ t',xs[t']?=some z∧sa+k≤t'∧t' < sb+m:=fun t z h1 h2 e=>by
      rw [z2 t h1 h2] at e
      rcases List.mem_append.mp (pm.mem_iff.mp (List.mem_of_getElem? e)) with hz' | hz'
      · obtain ⟨t',b1,b2,e'⟩:=mem_ext hz';exact ⟨t',e',b1,by omega⟩
      · obtain ⟨t',b1,b2,e'⟩:=mem_ext hz';exact ⟨t',e',by omega,b2⟩
    refine h arr' g ?_ (fun t ht=>?_) fun p q x y a b c ex' ey'=>?_
    · refine Array.Perm.trans (Array.perm_iff_toList_perm.mpr ?_) hp
      rw [wl,three xs.toList (u:=sa+k) (v:=sb+m) (by omega)]
      have e3:(xs.toList.drop (sa+k)).take (sb+m - (sa+k))=(xs.extract (sa+k) sb).toList++(xs.extract sb (sb+m)).toList:=by
        have q1:=take_mid xs (f:=sb) (p:=sb+m) (by omega)
        have q2:=take_mid xs (f:=sa+k) (p:=sb) (by omega)
        have q3:=take_mid xs (f:=sa+k) (p:=sb+m) (by omega)
        rw [q1,q2,List.append_assoc] at q3
        have:=List.append_cancel_left q3
        rw [this,Array.toList_extract,List.extract_eq_drop_take]
      have len:(List.take (sa+k) xs.toList++List.take (sb+m - (sa+k)) (List.drop (sa+k) xs.toList)++List.drop (sb+m) xs.toList)=xs.toList:=(three xs.toList (by omega)).symm
      rw [len]
      conv=>rhs;rw [three xs.toList (u:=sa+k) (v:=sb+m) (by omega),e3]
      exact ((List.Perm.refl _).append pm).append (.refl _)
    · rcases ht with ht | ht
      · exact z1 t (by omega)
      · exact z3 t (by omega)
    · have y0le:∀ t z,sb≤t→t < sb+nb→xs[t]?=some z→O.blt (key z) (key y0)=false:=fun t z h1 h2 e=>s2 sb t y0 z (Nat.le_refl _) h1 h2 ey e
      have lex1:∀ t z,sa≤t→t < sb→xs[t]?=some z→O.blt (key x1) (key z)=false:=fun t z h1 h2 e=>s1 t (sb - 1) z x1 h1 (by omega) (by omega) e ex1
      rcases Nat.lt_or_ge p (sa+k) with p1 | p1
      · rw [z1 p p1] at ex'
        have lo1:=lowA p x a p1 ex'
        have low:∀ t z,p≤t→t < sb+nb→xs[t]?=some z→O.blt (key z) (key x)=false:=fun t z h1 h2 e=>by
          rcases Nat.lt_or_ge t sb with l | l
          · exact s1 p t x z a h1 l ex' e
          · exact kle_tr lo1 (y0le t z l h2 e)
        rcases Nat.lt_or_ge q (sa+k) with q1 | q1
        · rw [z1 q q1] at ey';exact low q y b c ey'
        · rcases Nat.lt_or_ge q (sb+m) with q2 | q2
          · obtain ⟨t,e,b1,b2⟩:=at2 q y q1 q2 ey'
            exact low t y (by omega) (by omega) e
          · rw [z3 q q2] at ey';exact low q y b c ey'
      · rcases Nat.lt_or_ge p (sb+m) with p2 | p2
        · rcases Nat.lt_or_ge q (sb+m) with q2 | q2
          · rw [z2 p p1 p2] at ex'
            rw [z2 q (by omega) q2] at ey'
            rcases Nat.lt_or_ge p q with l | l
            · obtain ⟨g1,rfl⟩:=List.getElem?_eq_some_iff.mp ex'
              obtain ⟨g2,rfl⟩:=List.getElem?_eq_some_iff.mp ey'
              have so:Srt key o.toList:=by rw [ho];exact mrg_srt _ _ T.sa T.sb
              exact List.pairwise_iff_getElem.mp so _ _ g1 g2 (by omega)
            · have:p=q:=by omega
              subst this
              rw [ex'] at ey';cases ey'
              exact O.irrefl _
          · obtain ⟨t,e,b1,b2⟩:=at2 p x p1 p2 ex'
            rw [z3 q q2] at ey'
            rcases Nat.lt_or_ge t sb with l | l
            · exact kle_tr (lex1 t x (by omega) l e) (highB q y q2 c ey')
            · exact s2 t q x y l (by omega) c e ey'
        · rw [z3 p p2] at ex'
          rw [z3 q (by omega)] at ey'
          exact s2 p q x y (by omega) b c ex' ey'
  split
  · exact wpS_bind (wp_mLo (st:=setPending st (pendM (pendingOf st) i sa (na+nb) pw)) C T rfl fun o g ho=>fin o g ho)
  · exact wpS_bind (wp_mHi (st:=setPending st (pendM (pendingOf st) i sa (na+nb) pw)) C T rfl fun o g ho=>fin o g ho)
end
end Tim
namespace Tim
open PySem PyProof.Rows
section
variable {prog:Program} {w:World} {A:Around} {E:Value→Shared→Prop} {s:Shared} {a₀:Array Keyed} {κ:SortKind} {O:KeyOrd} {key:Keyed→O.α}
def Dist (key:Keyed→O.α) (a₀:Array Keyed):Prop:=(a₀.toList.map key).Nodup
theorem Dist.inj (D:Dist key a₀) {xs:Array Keyed} (h:xs.Perm a₀) {i j:Nat} {x y:Keyed} (ex:xs[i]?=some x) (ey:xs[j]?=some y) (h1:O.blt (key x) (key y)=false) (h2:O.blt (key y) (key x)=false):i=j:=by
  have nd:(xs.toList.map key).Nodup:=(List.Perm.nodup_iff ((Array.perm_iff_toList_perm.mp h).map key)).mpr D
  obtain ⟨g1,rfl⟩:=Array.getElem?_eq_some_iff.mp ex
  obtain ⟨g2,rfl⟩:=Array.getElem?_eq_some_iff.mp ey
  refine (List.getElem_inj (h₀:=by simpa using g1) (h₁:=by simpa using g2) nd).mp ?_
  rw [List.getElem_map,List.getElem_map,Array.getElem_toList,Array.getElem_toList]
  exact O.total _ _ h1 h2
theorem wp_ltAt (C:Cmp prog w A E s a₀ κ O key) {st:SortSt} {i j:Nat} {x y:Keyed} {Q:Option Bool→SortSt→Prop} (hk:kindOf st=κ) (hp:(arrOf st).Perm a₀) (ex:(arrOf st)[i]?=some x) (ey:(arrOf st)[j]?=some y)
    (h:Q (some (O.blt (key x) (key y))) st):wpS (model prog w) A E s (ltAt' i j) Q st:=by
  rw [ltAt'_eq]
  exact wpS_bind (wpS_get (wpS_bind (wp_elem ex (wpS_bind (wp_elem ey (C x y st Q (perm_mem hp (mem_at ex)) (perm_mem hp (mem_at ey)) hk h))))))
abbrev Fal (key:Keyed→O.α) (xs:Array Keyed) (i j:Nat):Prop:=∀ p q x y,i≤p→p≤q→q < j→xs[p]?=some x→xs[q]?=some y→O.blt (key x) (key y)=false
theorem seg_up {xs:Array Keyed} {lo n:Nat} {x y:Keyed} (h:Seg key xs lo (lo+n)) (h1:1≤n) (ex:xs[lo+n]?=some x) (ey:xs[lo+n - 1]?=some y) (hl:O.blt (key x) (key y)=false):Seg key xs lo (lo+(n+1)):=fun p q u v a b c eu ev=>by
  rcases Nat.lt_or_ge q (lo+n) with l | l
  · exact h p q u v a b l eu ev
  · have:q=lo+n:=by omega
    subst this
    rw [ex] at ev;cases ev
    rcases Nat.lt_or_ge p (lo+n) with l' | l'
    · exact kle_tr (h p (lo+n - 1) u y a (by omega) (by omega) eu ey) hl
    · have:p=lo+n:=by omega
      subst this
      rw [ex] at eu;cases eu
      exact O.irrefl _
theorem fal_up {xs:Array Keyed} {lo n:Nat} {x y:Keyed} (h:Fal key xs lo (lo+n)) (h1:1≤n) (ex:xs[lo+n]?=some x) (ey:xs[lo+n - 1]?=some y) (hl:O.blt (key y) (key x)=false):Fal key xs lo (lo+(n+1)):=fun p q u v a b c eu ev=>by
  rcases Nat.lt_or_ge q (lo+n) with l | l
  · exact h p q u v a b l eu ev
  · have:q=lo+n:=by omega
    subst this
    rw [ex] at ev;cases ev
    rcases Nat.lt_or_ge p (lo+n) with l' | l'
    · exact kle_tr hl (h p (lo+n - 1) u y a (by omega) (by omega) eu ey)
    · have:p=lo+n:=by omega
      subst this
      rw [ex] at eu;cases eu
      exact O.irrefl _
theorem seg_one (xs:Array Keyed) (lo:Nat):Seg key xs lo (lo+1):=fun p q x y a b c ex ey=>by
  have:p=q:=by omega
  subst this
  rw [ex] at ey;cases ey
  exact O.irrefl _
theorem wp_cnt (C:Cmp prog w A E s a₀ κ O key) (D:Dist key a₀) {st:SortSt} {lo nrem:Nat} {Q:Option Nat→SortSt→Prop} (hk:kindOf st=κ) (hp:(arrOf st).Perm a₀) (hn:lo+nrem≤(arrOf st).size) (h1:1≤nrem)
    (h:∀ (m:Nat) (arr':Array Keyed),arr'.Perm a₀→(∀ t,t < lo→arr'[t]?=(arrOf st)[t]?)→1≤m→m≤nrem→Seg key arr' lo (lo+m)→Q (some m) (setArr st arr')) :
    wpS (model prog w) A E s (countRun' lo nrem) Q st:=by
  have own:st=setArr st (arrOf st):=rfl
  rw [countRun'_eq]
  refine wpS_bind (wpS_mono (wpS_forRange (I:=fun t c st'=>st'=st∧c=(none,t)∧Seg key (arrOf st) lo (lo+t))
    (Q:=fun c st'=>st'=st∧∃ n,c=(none,n)∧1≤n∧n≤nrem∧Seg key (arrOf st) lo (lo+n)∧(n=nrem∨∀ x y,(arrOf st)[lo+n]?=some x→(arrOf st)[lo+n - 1]?=some y→O.blt (key x) (key y)=true)) ?step ?fin ⟨rfl,rfl,seg_one _ _⟩) ?post)
  case fin=>
    rintro c st' ⟨rfl,rfl,g⟩
    rw [show max 1 nrem=nrem by omega] at g ⊢
    exact ⟨rfl,nrem,rfl,h1,Nat.le_refl _,g,.inl rfl⟩
  case step=>
    rintro t c st' ht1 ht2 ⟨rfl,rfl,g⟩
    dsimp only
    obtain ⟨x,ex⟩:=at_lt (a:=arrOf st') (i:=lo+t) (by omega)
    obtain ⟨y,ey⟩:=at_lt (a:=arrOf st') (i:=lo+t - 1) (by omega)
    refine wpS_bind (wp_ltAt C hk hp ex ey ?_)
    dsimp only
    cases e:O.blt (key x) (key y) with
    | true=>
      rw [if_pos rfl]
      refine wpS_pure ⟨rfl,t,rfl,ht1,by omega,g,.inr fun x' y' a b=>?_⟩
      rw [ex] at a;cases a
      rw [ey] at b;cases b
      exact e
    | false=>
      rw [if_neg (by simp)]
      exact wpS_pure ⟨rfl,rfl,seg_up g ht1 ex ey e⟩
  case post=>
    rintro c st' ⟨rfl,n,rfl,n1,n2,g,g2⟩
    dsimp only
    by_cases e1:n=nrem
    · rw [if_pos (by simpa using e1)]
      exact wpS_pure (h n (arrOf st') hp (fun _ _=>rfl) n1 n2 g)
    rw [if_neg (by simpa using e1)]
    have g2:=g2.resolve_left e1
    by_cases e2:n > 1
    · rw [if_pos e2]
      obtain ⟨x,ex⟩:=at_lt (a:=arrOf st') (i:=lo) (by omega)
      obtain ⟨y,ey⟩:=at_lt (a:=arrOf st') (i:=lo+n - 1) (by omega)
      refine wpS_bind (wp_ltAt C hk hp ex ey ?_)
      dsimp only
      cases e:O.blt (key x) (key y) with
      | true=>
        rw [if_pos rfl]
        exact wpS_pure (h n (arrOf st') hp (fun _ _=>rfl) n1 n2 g)
      | false=>
        have:=D.inj hp ex ey e (g lo (lo+n - 1) x y (Nat.le_refl _) (by omega) (by omega) ex ey)
        omega
    · rw [if_neg e2]
      have:n=1:=by omega
      subst this
      refine wpS_bind (wpS_lift (wpAny_rule ⟨rfl,?_⟩))
      have f2:Fal key (arrOf st') lo (lo+(1+1)):=by
        obtain ⟨x,ex⟩:=at_lt (a:=arrOf st') (i:=lo+1) (by omega)
        obtain ⟨y,ey⟩:=at_lt (a:=arrOf st') (i:=lo+1 - 1) (by omega)
        refine fal_up (n:=1) (fun p q u v a b c eu ev=>?_) (Nat.le_refl _) ex ey (kle_lt (g2 x y ex ey))
        have:p=q:=by omega
        subst this
        rw [eu] at ev;cases ev
        exact O.irrefl _
      refine wpS_bind (wpS_mono (wpS_forRange (I:=fun t c st''=>st''=st'∧c=(none,t,0)∧Fal key (arrOf st') lo (lo+t))
        (Q:=fun c st''=>st''=st'∧∃ n,c=(none,n,0)∧2≤n∧n≤nrem∧Fal key (arrOf st') lo (lo+n)) ?s1 ?f1 ⟨rfl,rfl,f2⟩) ?p1)
      case f1=>
        rintro c st'' ⟨rfl,rfl,g⟩
        rw [show max (1+1) nrem=nrem by omega] at g ⊢
        exact ⟨rfl,nrem,rfl,by omega,Nat.le_refl _,g⟩
      case s1=>
        rintro t c st'' ht1 ht2 ⟨rfl,rfl,g⟩
        dsimp only
        obtain ⟨x,ex⟩:=at_lt (a:=arrOf st'') (i:=lo+t) (by omega)
        obtain ⟨y,ey⟩:=at_lt (a:=arrOf st'') (i:=lo+t - 1) (by omega)
        refine wpS_bind (wp_ltAt C hk hp ex ey ?_)
        dsimp only
        cases e:O.blt (key x) (key y) with
        | true=>
          rw [if_pos rfl,if_neg (by omega)]
          exact wpS_pure ⟨rfl,rfl,fal_up g (by omega) ex ey (kle_lt e)⟩
        | false=>
          rw [if_neg (by simp)]
          refine wpS_bind (wp_ltAt C hk hp ey ex ?_)
          dsimp only
          cases e':O.blt (key y) (key x) with
          | true=>
            rw [if_pos rfl]
            exact wpS_pure ⟨rfl,t,rfl,by omega,by omega,g⟩
          | false=>
            have:=D.inj hp ex ey e e'
            omega
      case p1=>
        rintro c st'' ⟨rfl,m,rfl,m1,m2,g⟩
        dsimp only
        rw [if_neg (by omega)]
        refine wpS_bind (wpS_reverse ?_)
        have mg:∀ t,(mirror (arrOf st'') lo (lo+m) ((lo+m - lo) / 2))[t]?=if lo≤t∧t < lo+m then (arrOf st'')[lo+(lo+m) - 1 - t]? else (arrOf st'')[t]?:=fun t=>getElem?_mirror_all (by omega) t
        have mp:=mirror_perm (arrOf st'') lo (lo+m) ((lo+m - lo) / 2)
        generalize mirror (arrOf st'') lo (lo+m) ((lo+m - lo) / 2)=xs at mg mp
        have hz:xs.size=(arrOf st'').size:=mp.size_eq
        have g3:Seg key xs lo (lo+m):=fun p q u v a b c eu ev=>by
          rw [mg,if_pos (by omega)] at eu ev
          exact g _ _ v u (by omega) (by omega) (by omega) ev eu
        have hp':xs.Perm a₀:=mp.trans hp
        have out:∀ t,t < lo→xs[t]?=(arrOf st'')[t]?:=fun t ht=>by rw [mg,if_neg (by omega)]
        refine wpS_bind (wpS_mono (wpS_forRange (I:=fun t c st3=>st3=setArr st'' xs∧c=(none,t)∧Seg key xs lo (lo+t))
          (Q:=fun c st3=>st3=setArr st'' xs∧∃ n,c=(none,n)∧1≤n∧n≤nrem∧Seg key xs lo (lo+n)) ?s2 ?f2 ⟨rfl,rfl,g3⟩) ?p2)
        case f2=>
          rintro c st3 ⟨rfl,rfl,g⟩
          rw [show max m nrem=nrem by omega] at g ⊢
          exact ⟨rfl,nrem,rfl,h1,Nat.le_refl _,g⟩
        case s2=>
          rintro t c st3 ht1 ht2 ⟨rfl,rfl,g⟩
          dsimp only
          obtain ⟨x,ex⟩:=at_lt (a:=xs) (i:=lo+t) (by omega)
          obtain ⟨y,ey⟩:=at_lt (a:=xs) (i:=lo+t - 1) (by omega)
          refine wpS_bind (wp_ltAt (st:=setArr st'' xs) C hk hp' ex ey ?_)
          dsimp only
          cases e:O.blt (key x) (key y) with
          | true=>
            rw [if_pos rfl]
            exact wpS_pure ⟨rfl,t,rfl,by omega,by omega,g⟩
          | false=>
            rw [if_neg (by simp)]
            exact wpS_pure ⟨rfl,rfl,seg_up g (by omega) ex ey e⟩
        case p2=>
          rintro c st3 ⟨rfl,n,rfl,n1,n2,g⟩
          exact wpS_pure (h n xs hp' out n1 n2 g)
theorem wp_bin (C:Cmp prog w A E s a₀ κ O key) {st:SortSt} {lo n ok:Nat} {Q:Bool→SortSt→Prop} (hk:kindOf st=κ) (hp:(arrOf st).Perm a₀) (hn:lo+n≤(arrOf st).size) (h1:1≤ok) (h2:ok≤n) (hs:Seg key (arrOf st) lo (lo+ok))
    (h:∀ (arr':Array Keyed),arr'.Perm a₀→(∀ t,t < lo→arr'[t]?=(arrOf st)[t]?)→Seg key arr' lo (lo+n)→Q true (setArr st arr')) :
    wpS (model prog w) A E s (binarySort' lo n ok) Q st:=by
  rw [binarySort'_eq]
  refine wpS_bind (wpS_mono (wpS_forRange (I:=fun t c st'=>c=(none,())∧∃ xs,st'=setArr st xs∧xs.Perm a₀∧(∀ t,t < lo→xs[t]?=(arrOf st)[t]?)∧Seg key xs lo (lo+t))
    (Q:=fun c st'=>c=(none,())∧∃ xs,st'=setArr st xs∧xs.Perm a₀∧(∀ t,t < lo→xs[t]?=(arrOf st)[t]?)∧Seg key xs lo (lo+n)) ?step ?fin ?init) ?post)
  case init=>
    rw [show max ok 1=ok by omega]
    exact ⟨rfl,_,rfl,hp,fun _ _=>rfl,hs⟩
  case fin=>
    rintro c st' ⟨rfl,xs,rfl,a1,a2,a3⟩
    rw [show max (max ok 1) n=n by omega] at a3
    exact ⟨rfl,xs,rfl,a1,a2,a3⟩
  case post=>
    rintro c st' ⟨rfl,xs,rfl,a1,a2,a3⟩
    exact wpS_pure (h xs a1 a2 a3)
  case step=>
    rintro k c st' hk1 hk2 ⟨rfl,xs,rfl,a1,a2,a3⟩
    have hz:xs.size=(arrOf st).size:=(a1.trans hp.symm).size_eq
    obtain ⟨x,ex⟩:=at_lt (a:=xs) (i:=lo+k) (by omega)
    refine wpS_bind (wpS_mono (wpS_forRange (I:=fun t c st''=>st''=setArr st xs∧∃ l r,c=(none,l,r)∧l≤r∧r≤k∧r - l≤k - t ∧
        (∀ i y,i < l→xs[lo+i]?=some y→O.blt (key x) (key y)=false)∧(∀ i y,r≤i→i < k→xs[lo+i]?=some y→O.blt (key x) (key y)=true))
      (Q:=fun c st''=>st''=setArr st xs∧∃ l r,c=(none,l,r)∧l≤k ∧
        (∀ i y,i < l→xs[lo+i]?=some y→O.blt (key x) (key y)=false)∧(∀ i y,l≤i→i < k→xs[lo+i]?=some y→O.blt (key x) (key y)=true)) ?s1 ?f1 ⟨rfl,0,k,rfl,by omega,by omega,by omega,fun i y hi=>by omega,fun i y b1 b2=>by omega⟩) ?p1)
    case f1=>
      rintro c st'' ⟨rfl,l,r,rfl,b1,b2,b3,b4,b5⟩
      have:l=r:=by omega
      subst this
      exact ⟨rfl,l,l,rfl,b2,b4,b5⟩
    case s1=>
      rintro t c st'' _ ht ⟨rfl,l,r,rfl,b1,b2,b3,b4,b5⟩
      dsimp only
      by_cases g:l ≥ r
      · rw [if_pos g]
        have:l=r:=by omega
        subst this
        exact wpS_pure ⟨rfl,l,l,rfl,b2,b4,b5⟩
      · rw [if_neg g]
        obtain ⟨y,ey⟩:=at_lt (a:=xs) (i:=lo+(l+r) / 2) (by omega)
        refine wpS_bind (wp_ltAt (st:=setArr st xs) C hk a1 ex ey ?_)
        dsimp only
        cases e:O.blt (key x) (key y) with
        | true=>
          rw [if_pos rfl]
          exact wpS_pure ⟨rfl,l,(l+r) / 2,rfl,by omega,by omega,by omega,b4,fun i z q1 q2 ez=>KeyOrd.klt_of_klt_of_kle (O:=O) (a:=key x) (b:=key y) (c:=key z) e (a3 _ _ y z (by omega) (by omega) (by omega) ey ez)⟩
        | false=>
          rw [if_neg (by simp)]
          exact wpS_pure ⟨rfl,(l+r) / 2+1,r,rfl,by omega,by omega,by omega,fun i z q1 ez=>kle_tr (a3 _ _ z y (by omega) (by omega) (by omega) ez ey) e,b5⟩
    case p1=>
      rintro c st'' ⟨rfl,l,r,rfl,b1,b2,b3⟩
      dsimp only
      rw [moveDown'_eq]
      have bg:∀ t,(bubble xs (lo+k) (lo+k - (lo+l)))[t]?=if t=lo+l then xs[lo+k]? else if lo+l < t∧t≤lo+k then xs[t - 1]? else xs[t]?:=fun t=>by
        rw [getElem?_bubble (by omega) _ (by omega),show lo+k - (lo+k - (lo+l))=lo+l by omega]
      have bp:=bubble_perm xs (lo+k) (lo+k - (lo+l))
      refine wpS_bind (wpS_modify (wpS_pure ⟨rfl,bubble xs (lo+k) (lo+k - (lo+l)),rfl,bp.trans a1,fun t ht=>?_,fun p q u v a b c eu ev=>?_⟩))
      · rw [bg,if_neg (by omega),if_neg (by omega)]
        exact a2 t ht
      · rw [bg] at eu ev
        by_cases p1:p=lo+l
        · rw [if_pos p1,ex] at eu
          cases eu
          by_cases q1:q=lo+l
          · rw [if_pos q1,ex] at ev
            cases ev
            exact O.irrefl _
          · rw [if_neg q1,if_pos (by omega)] at ev
            exact kle_lt (b3 (q - 1 - lo) v (by omega) (by omega) (by rw [← ev];congr 1;omega))
        · rw [if_neg p1] at eu
          by_cases q1:q=lo+l
          · rw [if_pos q1,ex] at ev
            cases ev
            rw [if_neg (by omega)] at eu
            exact b2 (p - lo) u (by omega) (by rw [← eu];congr 1;omega)
          · rw [if_neg q1] at ev
            split at eu <;> split at ev
            · exact a3 _ _ u v (by omega) (by omega) (by omega) eu ev
            · omega
            · exact a3 _ _ u v (by omega) (by omega) (by omega) eu ev
            · exact a3 _ _ u v (by omega) (by omega) (by omega) eu ev
end
end Tim
namespace Tim
open PySem PyProof.Rows
section
variable {prog:Program} {w:World} {A:Around} {E:Value→Shared→Prop} {s:Shared} {a₀:Array Keyed} {κ:SortKind} {O:KeyOrd} {key:Keyed→O.α}
abbrev Run3:=Nat × Nat × Nat
def Runs (key:Keyed→O.α) (xs:Array Keyed):List Run3→Nat→Nat→Prop
  | [],i,j=>i=j
  | r :: rs,i,j=>r.1=i∧1≤r.2.1∧Seg key xs i (i+r.2.1)∧Runs key xs rs (i+r.2.1) j
theorem runs_len {xs:Array Keyed}:∀ (l:List Run3) (i j:Nat),Runs key xs l i j→i+l.length≤j
  | [],i,j,h=>Nat.le_of_eq h
  | r :: rs,i,j,h=>by
    have:=runs_len rs _ j h.2.2.2
    have:=h.2.1
    rw [List.length_cons]
    omega
theorem runs_eq {xs ys:Array Keyed}:∀ (l:List Run3) (i j:Nat),Runs key xs l i j→(∀ t,i≤t→t < j→ys[t]?=xs[t]?)→Runs key ys l i j
  | [],i,j,h,_=>h
  | r :: rs,i,j,h,e=>by
    have:=runs_len rs _ j h.2.2.2
    exact ⟨h.1,h.2.1,seg_eq h.2.2.1 fun t t1 t2=>e t t1 (by omega),runs_eq rs _ j h.2.2.2 fun t t1 t2=>e t (by omega) t2⟩
theorem runs_snoc {xs:Array Keyed} {lo n:Nat}:∀ {l:List Run3} {i:Nat},Runs key xs l i lo→1≤n→Seg key xs lo (lo+n)→Runs key xs (l++[(lo,n,0)]) i (lo+n)
  | [],i,h,h1,h2=>by
    cases (show i=lo from h)
    exact ⟨rfl,h1,h2,rfl⟩
  | r :: rs,i,h,h1,h2=>⟨h.1,h.2.1,h.2.2.1,runs_snoc h.2.2.2 h1 h2⟩
theorem runs_modify {xs:Array Keyed} (f:Run3→Run3) (f1:∀ r,(f r).1=r.1) (f2:∀ r,(f r).2.1=r.2.1):∀ (l:List Run3) (k i j:Nat),Runs key xs l i j→Runs key xs (l.modify k f) i j
  | [],k,i,j,h=>by cases k <;> exact h
  | r :: rs,0,i,j,h=>by
    rw [List.modify_zero_cons]
    unfold Runs
    rw [f1,f2]
    exact h
  | r :: rs,k+1,i,j,h=>by
    rw [List.modify_succ_cons]
    exact ⟨h.1,h.2.1,h.2.2.1,runs_modify f f1 f2 rs k _ j h.2.2.2⟩
theorem runs_two {xs:Array Keyed}:∀ (k:Nat) (l:List Run3) (i j:Nat),Runs key xs l i j→k+1 < l.length→∃ sa na pw sb nb pw',l[k]?=some (sa,na,pw)∧l[k+1]?=some (sb,nb,pw')∧sb=sa+na∧1≤na∧1≤nb∧i≤sa∧sb+nb≤j ∧
    Seg key xs sa sb∧Seg key xs sb (sb+nb)∧∀ ys:Array Keyed,(∀ t,t < sa∨sb+nb≤t→ys[t]?=xs[t]?)→Seg key ys sa (sb+nb)→Runs key ys ((l.set k (sa,na+nb,pw)).eraseIdx (k+1)) i j
  | 0,(sa,na,pw) :: (sb,nb,pw') :: rs,i,j,h,_=>by
    obtain ⟨h1,h2,h3,h4,h5,h6,h7⟩:=h
    cases (show sa=i from h1)
    cases (show sb=sa+na from h4)
    have l:sa+na+nb+rs.length≤j:=runs_len rs _ j h7
    refine ⟨sa,na,pw,sa+na,nb,pw',rfl,rfl,rfl,h2,h5,Nat.le_refl _,by omega,h3,h6,fun ys e sg=>?_⟩
    show Runs key ys ((sa,na+nb,pw) :: rs) sa j
    refine ⟨rfl,by show 1≤na+nb;exact Nat.le_trans h2 (Nat.le_add_right _ _),?_,?_⟩
    · show Seg key ys sa (sa+(na+nb))
      rw [← Nat.add_assoc];exact sg
    · show Runs key ys rs (sa+(na+nb)) j
      rw [← Nat.add_assoc]
      exact runs_eq rs _ j h7 fun t t1 t2=>e t (.inr t1)
  | k+1,r :: rs,i,j,h,hl=>by
    rw [List.length_cons] at hl
    obtain ⟨sa,na,pw,sb,nb,pw',e1,e2,e3,e4,e5,e6,e7,e8,e9,e10⟩:=runs_two k rs _ j h.2.2.2 (by omega)
    have hr:=h.2.1
    refine ⟨sa,na,pw,sb,nb,pw',e1,e2,e3,e4,e5,by omega,e7,e8,e9,fun ys e sg=>?_⟩
    exact ⟨h.1,h.2.1,seg_eq h.2.2.1 fun t t1 t2=>e t (.inl (by omega)),e10 ys e sg⟩
  | 0,[_],_,_,_,hl=>by simp at hl
  | 0,[],_,_,_,hl=>by simp at hl
  | _+1,[],_,_,_,hl=>by simp at hl
theorem pendM_list (p:Array Run3) (i sa n pw:Nat):(pendM p i sa n pw).toList=(p.toList.set i (sa,n,pw)).eraseIdx (i+1):=by
  unfold pendM
  rw [Array.toList_eraseIdxIfInBounds,Array.toList_setIfInBounds]
theorem pendM_size (p:Array Run3) (i sa n pw:Nat) (h:i+1 < p.size):(pendM p i sa n pw).size=p.size - 1:=by
  rw [← Array.length_toList,pendM_list,List.length_eraseIdx,if_pos (by simpa using h),List.length_set,Array.length_toList]
theorem wp_mAt2 (C:Cmp prog w A E s a₀ κ O key) {st:SortSt} {i j:Nat} {Q:Bool→SortSt→Prop} (hk:kindOf st=κ) (hf:failedOf st=none) (hp:(arrOf st).Perm a₀) (hi:i+1 < (pendingOf st).size) (hr:Runs key (arrOf st) (pendingOf st).toList 0 j) (hj:j≤(arrOf st).size)
    (h:∀ (arr':Array Keyed) (pd':Array Run3) (g:Nat),arr'.Perm a₀→(∀ t,j≤t→arr'[t]?=(arrOf st)[t]?)→Runs key arr' pd'.toList 0 j→pd'.size+1=(pendingOf st).size→Q true (SortSt.mk' κ arr' pd' g none)) :
    wpS (model prog w) A E s (mergeAt' i) Q st:=by
  obtain ⟨sa,na,pw,sb,nb,pw',e1,e2,e3,e4,e5,e6,e7,e8,e9,e10⟩:=runs_two i _ 0 j hr (by simpa using hi)
  rw [Array.getElem?_toList] at e1 e2
  refine wp_mAt C hk hf hp e1 e2 e3 e4 e5 (by omega) e8 e9 fun arr' g c1 c2 c3=>h arr' _ g c1 (fun t ht=>c2 t (.inr (by omega))) ?_ ?_
  · rw [pendM_list];exact e10 arr' c2 c3
  · rw [pendM_size _ _ _ _ _ hi];omega
def RI (key:Keyed→O.α) (a₀:Array Keyed) (κ:SortKind) (lo:Nat) (st:SortSt):Prop:=∃ ys pd g,st=SortSt.mk' κ ys pd g none∧ys.Perm a₀∧Runs key ys pd.toList 0 lo∧lo≤a₀.size
theorem wp_runs (C:Cmp prog w A E s a₀ κ O key) (D:Dist key a₀) {g:Nat} {Q:Unit→SortSt→Prop}
    (h:∀ (arr':Array Keyed) (pd:Array Run3) (g:Nat),arr'.Perm a₀→Srt key arr'.toList→Q () (SortSt.mk' κ arr' pd g none)) :
    wpS (model prog w) A E s sortRuns' Q (SortSt.mk' κ a₀ #[] g none):=by
  rw [sortRuns'_eq]
  refine wpS_bind (wpS_get ?_)
  dsimp only
  show wpS _ _ _ _ (forIn [:a₀.size] _ _ >>= _) Q _
  refine wpS_bind (wpS_mono (wpS_forRange (I:=fun t c st'=>∃ lo,c=(none,lo)∧RI key a₀ κ lo st'∧t≤lo)
    (Q:=fun c st'=>∃ lo,c=(none,lo)∧RI key a₀ κ lo st'∧a₀.size≤lo) ?step ?fin ⟨0,rfl,⟨a₀,#[],g,rfl,.refl _,rfl,Nat.zero_le _⟩,Nat.le_refl _⟩) ?post)
  case fin=>
    rintro c st' ⟨lo,rfl,r,hl⟩
    exact ⟨lo,rfl,r,by omega⟩
  case step=>
    rintro t c st' _ ht ⟨lo,rfl,⟨xs,pd,g,rfl,p1,p2,p3⟩,hl⟩
    dsimp only
    by_cases c1:lo ≥ a₀.size
    · rw [if_pos c1]
      exact wpS_pure ⟨lo,rfl,⟨xs,pd,g,rfl,p1,p2,p3⟩,c1⟩
    rw [if_neg c1]
    have hz:xs.size=a₀.size:=p1.size_eq
    refine wpS_bind (wp_cnt (st:=SortSt.mk' κ xs pd g none) C D rfl p1 (by show lo+(a₀.size - lo)≤xs.size;omega) (by show 1≤a₀.size - lo;omega) fun found xs1 f1 f2 f3 f4 f5=>?_)
    have f4:found≤a₀.size - lo:=f4
    have r1:Runs key xs1 pd.toList 0 lo:=runs_eq _ 0 lo p2 fun t _ t2=>f2 t t2
    dsimp only
    generalize hmr:minRun' (arrOf (SortSt.mk' κ a₀ #[] _ none)).size (arrOf (SortSt.mk' κ a₀ #[] _ none)).size 0=mr
    by_cases c2:found < mr
    · rw [if_pos c2]
      refine wpS_bind (wpS_lift (wpAny_rule ⟨rfl,?_⟩))
      have hn:min (a₀.size - lo) mr≤a₀.size - lo:=Nat.min_le_left _ _
      have hn2:found≤min (a₀.size - lo) mr:=by omega
      show wpS _ _ _ _ (binarySort' lo (min (a₀.size - lo) mr) found >>= _) _ _
      generalize hnn:min ((arrOf (SortSt.mk' κ a₀ #[] _ none)).size - lo) mr=n
      have hnn:min (a₀.size - lo) mr=n:=hnn
      rw [hnn] at hn hn2
      have zz:xs1.size=a₀.size:=f1.size_eq
      refine wpS_bind (wp_bin (st:=setArr (SortSt.mk' κ xs pd g none) xs1) C rfl f1 (by show lo+n≤xs1.size;omega) f3 hn2 f5 fun xs2 q1 out q3=>?_)
      have q2:Runs key xs2 pd.toList 0 lo:=runs_eq _ 0 lo r1 fun t _ t2=>out t t2
      have n1:1≤n:=by omega
      rw [if_neg (by simp)]
      refine wpS_bind (wpS_get ?_)
      have push:∀ (ys:Array Keyed) (pd:Array (Nat × Nat × Nat)) (g':Nat),ys.Perm a₀→Runs key ys pd.toList 0 lo→Seg key ys lo (lo+n)→RI key a₀ κ (lo+n) (SortSt.mk' κ ys (pd.push (lo,n,0)) g' none):=fun ys pd g' b1 b2 b3=>
        ⟨ys,_,g',rfl,b1,by rw [Array.toList_push];exact runs_snoc b2 n1 b3,by omega⟩
      split
      · rename_i s1 m1 pw1 eb
        refine wpS_bind (wpS_mono (wpS_forRange (I:=fun t c st'=>c=(none,())∧∃ ys pd g',st'=SortSt.mk' κ ys pd g' none∧ys.Perm a₀∧Runs key ys pd.toList 0 lo∧Seg key ys lo (lo+n))
          (Q:=fun c st'=>c=(none,())∧∃ ys pd g',st'=SortSt.mk' κ ys pd g' none∧ys.Perm a₀∧Runs key ys pd.toList 0 lo∧Seg key ys lo (lo+n)) ?sA ?fA ⟨rfl,_,_,_,rfl,q1,q2,q3⟩) ?pA)
        case fA=>
          rintro c st' hh
          exact hh
        case sA=>
          rintro t c st' _ _ ⟨rfl,ys,pd,g',rfl,b1,b2,b3⟩
          refine wpS_bind (wpS_get ?_)
          split
          · rename_i x1 x2 older eo
            have big:pd.size > 1:=by
              rcases Nat.lt_or_ge 1 pd.size with l | l
              · exact l
              · have l':¬ (pendingOf (SortSt.mk' κ ys pd g' none)).size > 1:=by show ¬ pd.size > 1;omega
                rw [if_neg l'] at eo;cases eo
            split
            · exact wpS_pure ⟨rfl,ys,pd,g',rfl,b1,b2,b3⟩
            · have hz':ys.size=a₀.size:=b1.size_eq
              refine wpS_bind (wp_mAt2 C (st:=SortSt.mk' κ ys pd g' none) (i:=pd.size - 2) (j:=lo) rfl rfl b1 (by show pd.size - 2+1 < pd.size;omega) b2 (by show lo≤ys.size;omega) fun ys' pd' g2 c1 c2 c3 c4=>?_)
              rw [if_neg (by simp)]
              exact wpS_pure ⟨rfl,ys',pd',g2,rfl,c1,c3,seg_eq b3 fun t t1 t2=>c2 t t1⟩
          · exact wpS_pure ⟨rfl,ys,pd,g',rfl,b1,b2,b3⟩
        case pA=>
          rintro c st' ⟨rfl,ys,pd,g',rfl,b1,b2,b3⟩
          refine wpS_bind (wpS_modify (wpS_bind (wpS_modify (wpS_pure ⟨lo+n,rfl,push ys _ g' b1 ?_ b3,by omega⟩))))
          rw [Array.toList_modify]
          apply runs_modify
          · intro _;rfl
          · intro _;rfl
          · exact b2
      · exact wpS_bind (wpS_modify (wpS_pure ⟨lo+n,rfl,push _ _ _ q1 q2 q3,by omega⟩))
    · rw [if_neg c2]
      have q1:=f1
      have q2:=r1
      have q3:=f5
      have n1:=f3
      have hn:=f4
      generalize found=n at *
      refine wpS_bind (wpS_get ?_)
      have push:∀ (ys:Array Keyed) (pd:Array (Nat × Nat × Nat)) (g':Nat),ys.Perm a₀→Runs key ys pd.toList 0 lo→Seg key ys lo (lo+n)→RI key a₀ κ (lo+n) (SortSt.mk' κ ys (pd.push (lo,n,0)) g' none):=fun ys pd g' b1 b2 b3=>
        ⟨ys,_,g',rfl,b1,by rw [Array.toList_push];exact runs_snoc b2 n1 b3,by omega⟩
      split
      · rename_i s1 m1 pw1 eb
        refine wpS_bind (wpS_mono (wpS_forRange (I:=fun t c st'=>c=(none,())∧∃ ys pd g',st'=SortSt.mk' κ ys pd g' none∧ys.Perm a₀∧Runs key ys pd.toList 0 lo∧Seg key ys lo (lo+n))
          (Q:=fun c st'=>c=(none,())∧∃ ys pd g',st'=SortSt.mk' κ ys pd g' none∧ys.Perm a₀∧Runs key ys pd.toList 0 lo∧Seg key ys lo (lo+n)) ?sB ?fB ⟨rfl,_,_,_,rfl,q1,q2,q3⟩) ?pB)
        case fB=>
          rintro c st' hh
          exact hh
        case sB=>
          rintro t c st' _ _ ⟨rfl,ys,pd,g',rfl,b1,b2,b3⟩
          refine wpS_bind (wpS_get ?_)
          split
          · rename_i x1 x2 older eo
            have big:pd.size > 1:=by
              rcases Nat.lt_or_ge 1 pd.size with l | l
              · exact l
              · have l':¬ (pendingOf (SortSt.mk' κ ys pd g' none)).size > 1:=by show ¬ pd.size > 1;omega
                rw [if_neg l'] at eo;cases eo
            split
            · exact wpS_pure ⟨rfl,ys,pd,g',rfl,b1,b2,b3⟩
            · have hz':ys.size=a₀.size:=b1.size_eq
              refine wpS_bind (wp_mAt2 C (st:=SortSt.mk' κ ys pd g' none) (i:=pd.size - 2) (j:=lo) rfl rfl b1 (by show pd.size - 2+1 < pd.size;omega) b2 (by show lo≤ys.size;omega) fun ys' pd' g2 c1 c2 c3 c4=>?_)
              rw [if_neg (by simp)]
              exact wpS_pure ⟨rfl,ys',pd',g2,rfl,c1,c3,seg_eq b3 fun t t1 t2=>c2 t t1⟩
          · exact wpS_pure ⟨rfl,ys,pd,g',rfl,b1,b2,b3⟩
        case pB=>
          rintro c st' ⟨rfl,ys,pd,g',rfl,b1,b2,b3⟩
          refine wpS_bind (wpS_modify (wpS_bind (wpS_modify (wpS_pure ⟨lo+n,rfl,push ys _ g' b1 ?_ b3,by omega⟩))))
          rw [Array.toList_modify]
          apply runs_modify
          · intro _;rfl
          · intro _;rfl
          · exact b2
      · exact wpS_bind (wpS_modify (wpS_pure ⟨lo+n,rfl,push _ _ _ q1 q2 q3,by omega⟩))
  case post=>
    rintro c st' ⟨lo,rfl,⟨xs,pd,g,rfl,p1,p2,p3⟩,hl⟩
    have:lo=a₀.size:=by omega
    subst this
    dsimp only
    have l0:=runs_len _ _ _ p2
    rw [Array.length_toList] at l0
    refine wpS_bind (wpS_mono (wpS_forRange (I:=fun t c st'=>c=(none,())∧∃ ys pd g',st'=SortSt.mk' κ ys pd g' none∧ys.Perm a₀∧Runs key ys pd.toList 0 a₀.size∧pd.size+t≤a₀.size)
      (Q:=fun c st'=>c=(none,())∧∃ ys pd g',st'=SortSt.mk' κ ys pd g' none∧ys.Perm a₀∧Runs key ys pd.toList 0 a₀.size∧pd.size≤1) ?s3 ?f3 ⟨rfl,xs,pd,g,rfl,p1,p2,by omega⟩) ?p3)
    case f3=>
      rintro c st' ⟨rfl,ys,pd,g',rfl,b1,b2,b3⟩
      refine ⟨rfl,ys,pd,g',rfl,b1,b2,?_⟩
      have b3:pd.size+max 0 a₀.size≤a₀.size:=b3
      omega
    case s3=>
      rintro t c st' _ _ ⟨rfl,ys,pd,g',rfl,b1,b2,b3⟩
      refine wpS_bind (wpS_get ?_)
      by_cases c3:pd.size≤1
      · rw [if_pos (show (pendingOf (SortSt.mk' κ ys pd g' none)).size≤1 from c3)]
        exact wpS_pure ⟨rfl,ys,pd,g',rfl,b1,b2,c3⟩
      · rw [if_neg (show ¬ (pendingOf (SortSt.mk' κ ys pd g' none)).size≤1 from c3)]
        have hz':ys.size=a₀.size:=b1.size_eq
        refine wpS_bind (wp_mAt2 C (st:=SortSt.mk' κ ys pd g' none) (j:=a₀.size) rfl rfl b1 ?_ b2 (by show a₀.size≤ys.size;omega) fun ys' pd' g2 c1 c2 c3 c4=>?_)
        · have ix:∀ (P:Prop) [Decidable P],(if P then pd.size - 2 - 1 else pd.size - 2)+1 < pd.size:=fun P _=>by split <;> omega
          exact ix _
        · rw [if_neg (by simp)]
          have c4:pd'.size+1=pd.size:=c4
          exact wpS_pure ⟨rfl,ys',pd',g2,rfl,c1,c3,by omega⟩
    case p3=>
      rintro c st' ⟨rfl,ys,pd,g',rfl,b1,b2,b3⟩
      refine wpS_pure (h ys pd g' b1 ?_)
      have hz':ys.size=a₀.size:=b1.size_eq
      have sg:Seg key ys 0 a₀.size:=by
        rw [← Array.length_toList] at b3
        match e:pd.toList,b2,b3 with
        | [],b2,_=>exact fun p q x y a b c=>by have:0=a₀.size:=b2;omega
        | [r],b2,_=>
          have e2:0+r.2.1=a₀.size:=b2.2.2.2
          rw [← e2]
          exact b2.2.2.1
        | _ :: _ :: _,_,b3=>simp at b3
      have:=seg_srt sg
      rw [← hz',ext_to,List.take_of_length_le (by simp)] at this
      exact this
end
end Tim
namespace L2
open PySem PySem.Spec PyProof.Rows PySem.W Tim
section
variable {prog:Program} {w:World} {A:Around} {E:Value→Shared→Prop} {s:Shared}
theorem sort_big {a:Addr} {vs:List Value} {n:Nat} {P:PySem.Fin→Shared→Prop} (ho:s.heap.get? a=some (seqObj "list" vs.toArray n)) (h2:2≤vs.length) (hz:vs.length≤sizeLine) {κ:SortKind} {O:KeyOrd} {key:Keyed→O.α} (D:Dist key (pairsOf vs))
    (hk:∀ g:Heap,(∀ b o,b≠a→s.heap.get? b=some o→g.get? b=some o)→(∀ R:SortKind→Shared→Prop,R κ { s with heap:=g }→wpAny (model prog w) A (keyKind' vs.toArray) R E { s with heap:=g })∧Cmp prog w A E { s with heap:=g } (pairsOf vs) κ O key)
    (h:∀ xs:Array Keyed,xs.Perm (pairsOf vs)→Srt key xs.toList→P (.done (.ret .none)) { s with heap:=sortedHeap s.heap a vs (xs.map (·.2)) }) :
    wpAny (model prog w) A (Builtin.«list.sort» ⟨[.ref a],[]⟩) P E s:=by
  have al:a < s.heap.objs.size:=Heap.lt_size ho
  have nb:¬ vs.toArray.size < 2:=by rw [List.size_toArray];omega
  rw [list_sort_plain]
  refine wpAny_bind (listItems_at ho rfl (wpAny_bind (listUpdate_at ho rfl ?_ (by rw [List.size_toArray];exact hz) (Nat.zero_le _))))
  obtain ⟨e1,g1⟩:∃ e1,(s.heap.update a (Obj.mapSeq fun _=>(#[]:Array Value))).get? a=some (seqObj "list" #[] e1):=⟨_,get?_update_seq ho fun _=>#[]⟩
  refine wpAny_bind (seqEpoch_at g1 rfl (wpAny_bind (wpAny_newTuple ?_ (by show vs.length≤_;exact hz))))
  refine wpAny_bind (wpAny_newList (wpAny_holding ?_))
  have sz1:(s.heap.update a (Obj.mapSeq fun _=>(#[]:Array Value))).objs.size=s.heap.objs.size:=Heap.size_update ..
  have g2:=Heap.get?_push_of_some (seqObj "list" #[] 0) (Heap.get?_push_of_some (seqObj "tuple" vs.toArray 0) g1)
  have old:∀ b o,b≠a→s.heap.get? b=some o→(((s.heap.update a (Obj.mapSeq fun _=>(#[]:Array Value))).push (seqObj "tuple" vs.toArray 0)).push (seqObj "list" #[] 0)).get? b=some o:=fun b o hb e=>
    Heap.get?_push_of_some _ (Heap.get?_push_of_some _ ((Heap.get?_update_ne _ _ _ _ hb).trans e))
  obtain ⟨hkind,C⟩:=hk _ old
  show wpAny (model prog w) A _ P E { s with heap:=((s.heap.update a (Obj.mapSeq fun _=>(#[]:Array Value))).push (seqObj "tuple" vs.toArray 0)).push (seqObj "list" #[] 0) }
  have hfin:=h
  unfold sortedHeap at hfin
  generalize ((s.heap.update a (Obj.mapSeq fun _=>(#[]:Array Value))).push (seqObj "tuple" vs.toArray 0)).push (seqObj "list" #[] 0)=g at g2 hkind C hfin
  rw [if_neg nb,if_neg nb]
  refine wpAny_bind (hkind _ ?_)
  refine wpAny_bind (wpAny_mono (wp_runs (s:={ s with heap:=g }) (E:=E) C D (g:=7) (Q:=fun _ st'=>∃ xs pd g',st'=SortSt.mk' κ xs pd g' none∧xs.Perm (pairsOf vs)∧Srt key xs.toList) fun xs pd g' a1 a2=>⟨xs,pd,g',rfl,a1,a2⟩) ?_ fun _ _ e=>e)
  rintro ⟨⟨⟩,st'⟩ s' ⟨rfl,xs,pd,g',rfl,a1,a2⟩
  refine wpAny_bind (seqEpoch_at g2 rfl (wpAny_bind (listUpdate_at g2 rfl ?_ (Nat.zero_le _) ?_)))
  · show wpAny _ _ (if (e1 != e1)=true then _ else _) _ _ _
    rw [if_neg (by simp)]
    exact wpAny_pure (hfin xs a1 a2)
  · show (xs.map _).size≤_
    rw [Array.size_map,a1.size_eq,pairsOf_size]
    exact Nat.le_succ_of_le hz
abbrev keyS (p:Keyed):strKind.α:=(strOf p.1).cps.toList
theorem cmp_strs {vs:List Value} {ss:List Str} (hS:StrsAre vs ss):Cmp prog w A E s (pairsOf vs) oneType' strKind.toKeyOrd keyS:=by
  have is:∀ x:Keyed,x∈pairsOf vs→∃ z t,x.1=.str z t:=fun x hx=>by
    have:=Array.mem_toList_iff.mpr hx
    rw [pairsOf_toList] at this
    exact hS.all _ (mem_zip_self this).2
  intro x y st Q hx hy hk h
  obtain ⟨x1,t1,e1⟩:=is x hx
  obtain ⟨y1,u1,e2⟩:=is y hy
  rw [lt'_eq]
  refine wpS_bind (wpS_get ?_)
  rw [hk,keyLt'_oneType,e1,e2]
  refine wpS_bind (wpS_lift (wpAny_attempt (oneLt_str ⟨rfl,wpS_pure ?_⟩)))
  unfold keyS at h
  rw [e1,e2] at h
  exact h
theorem dist_strs {vs:List Value} {ss:List Str} (hS:StrsAre vs ss) (nd:ss.Nodup):Dist (O:=strKind.toKeyOrd) keyS (pairsOf vs):=by
  unfold Dist
  rw [pairsOf_toList]
  have e:(vs.zip vs).map keyS=ss.map fun z=>z.cps.toList:=by
    rw [← hS.strs,List.map_map]
    have:(vs.zip vs).map keyS=((vs.zip vs).map Prod.fst).map fun v=>(strOf v).cps.toList:=by rw [List.map_map];rfl
    rw [this,List.map_fst_zip (Nat.le_refl _)];rfl
  rw [e]
  unfold List.Nodup at nd ⊢
  rw [List.pairwise_map]
  exact nd.imp fun h e=>h (str_eq e)
theorem sort_strs {a:Addr} {vs:List Value} {ss:List Str} {n:Nat} {P:PySem.Fin→Shared→Prop} (ho:s.heap.get? a=some (seqObj "list" vs.toArray n)) (hS:StrsAre vs ss) (nd:ss.Nodup) (hz:vs.length≤sizeLine)
    (h:∀ (out:Array Value) (ss':List Str),StrsAre out.toList ss'→ss'.Perm ss→sortedS ss'=true→P (.done (.ret .none)) { s with heap:=sortedHeap s.heap a vs out }) :
    wpAny (model prog w) A (Builtin.«list.sort» ⟨[.ref a],[]⟩) P E s:=by
  rcases Nat.lt_or_ge vs.length 64 with l | l
  · refine list_sort_treeK strKind_oneLt ho hS.keysOf (fun v₁ v₂ rest e=>keyKind_strs (by rw [← e];exact hS)) l fun st' a1 a2=>?_
    obtain ⟨ss',b1,b2,b3⟩:=sorted_out_str hS a1 a2
    exact h _ ss' b1 b2 b3
  · obtain ⟨v₁,v₂,rest,rfl⟩:∃ v₁ v₂ rest,vs=v₁ :: v₂ :: rest:=by
      match vs,l with
      | v₁ :: v₂ :: rest,_=>exact ⟨v₁,v₂,rest,rfl⟩
    refine sort_big ho (by simp) hz (κ:=oneType') (O:=strKind.toKeyOrd) (key:=keyS) (dist_strs hS nd) (fun g _=>⟨fun R hR=>?_,cmp_strs hS⟩) fun xs a1 a2=>?_
    · rw [keyKind_strs hS];exact wpAny_pure hR
    · have mem:∀ i (hi:i < xs.size),∃ z t,xs[i].1=.str z t:=fun i hi=>by
        have m:xs[i]∈(pairsOf (v₁ :: v₂ :: rest)).toList:=(Array.perm_iff_toList_perm.mp a1).mem_iff.mp (by simp)
        rw [pairsOf_toList] at m
        exact hS.all _ (mem_zip_self m).2
      have kk:∀ i (hi:i < xs.size),KK strKind xs i=keyS xs[i]:=fun i hi=>by
        obtain ⟨z,t,e⟩:=mem i hi
        rw [KK_str hi (x:=z) (t:=t) (q:=xs[i].2) (Prod.ext e rfl)]
        unfold keyS;rw [e];rfl
      obtain ⟨ss',b1,b2,b3⟩:=sorted_out_str hS a1 (fun i j hij hj=>by
        rw [← a1.size_eq] at hj
        rw [kk i (by omega),kk j hj]
        rcases Nat.lt_or_ge i j with l | l
        · have:=List.pairwise_iff_getElem.mp a2 i j (by simp;omega) (by simpa using hj) l
          rw [Array.getElem_toList,Array.getElem_toList] at this
          exact this
        · have:i=j:=by omega
          subst this
          exact KeyOrd.kle_refl _)
      exact h _ ss' b1 b2 b3
end
section
variable {prog:Program} {w:World} {A:Around} {E:Value→Shared→Prop} {s:Shared} {T:String} {r d:Addr} {n:Nat} {P:Nat→Value→Prop} {OK:Heap→Prop}
theorem collect_src {R:List Value→Shared→Prop} (K:KdlSrc prog w T r d n P OK) (hh:A.handled=none) (hok:OK s.heap) (hn:n≤sizeLine)
    (h:∀ (g:Heap) (tk:Nat) (acc:Array Value),s.heap.objs.size≤g.objs.size→(∀ b o,s.heap.get? b=some o→g.get? b=some o)→ItemsOf P acc n→R acc.toList { s with heap:=g,toks:=tk }) :
    wpAny (model prog w) A (collect (.ref r)) R E s:=by
  obtain ⟨l1,l2⟩:=K.there _ hok
  unfold collect
  refine wpAny_bind (wpAny_runValue (codeAny_builtin F.entry_proto_collect ?_))
  rw [Around.under_plainId F.plain_proto_collect _]
  refine wpAny_bind (wpAny_newObj_type (wpAny_pure ⟨plainId_quiet F.plain_list_iadd _,codeAny_builtin F.entry_list_iadd ?_⟩))
  rw [Around.under_plainId F.plain_list_iadd _]
  have g0:(s.heap.push { cls:=.type "list", data:=.seq ([]:List Value).toArray }).get? s.heap.objs.size=some { cls:=.type "list", data:=.seq #[] }:=Heap.get?_push_size _ rfl
  refine wpAny_mono (kdl_extend (A:=A) (s:={ s with heap:=s.heap.push { cls:=.type "list", data:=.seq ([]:List Value).toArray } })
    (R:=fun (q:Result) (s':Shared)=>∃ (g:Heap) (tk:Nat) (xs:Array Value) (c':Nat),q=.ok (.ret (.ref s.heap.objs.size))∧s'={ s with heap:=g,toks:=tk }∧(∀ b o,s.heap.get? b=some o→g.get? b=some o) ∧
      g.get? s.heap.objs.size=some { cls:=.type "list", dict:=none,data:=.seq xs c',slots:=#[] }∧ItemsOf P xs n)
    K hh (K.keep _ _ hok fun b _ o e=>Heap.get?_push_of_some _ e) s.heap.objs.size (Nat.ne_of_gt l1) (Nat.ne_of_gt l2) (.ref s.heap.objs.size) 0 g0
    (fun g tk xs c' k1 k2 k3=>⟨g,tk,xs,c',rfl,rfl,fun b o e=>k1 b o (Nat.ne_of_lt (Heap.lt_size e)) (Heap.get?_push_of_some _ e),k2,k3⟩) hn) (fun f s' x=>?_) fun e s' x=>?_
  · cases f with
    | done f=>
      obtain ⟨g,tk,xs,c',e,rfl,k1,k2,k3⟩:=x
      cases e
      exact wpAny_bind (wpAny_load k2 (wpAny_pure (h g tk xs (Nat.le_of_lt (Heap.lt_size k2)) k1 k3)))
    | again c₁=>
      refine ⟨x.1,codeAny_mono x.2 fun q s₂ y=>?_⟩
      obtain ⟨g,tk,xs,c',rfl,rfl,k1,k2,k3⟩:=y
      exact wpAny_bind (wpAny_load k2 (wpAny_pure (h g tk xs (Nat.le_of_lt (Heap.lt_size k2)) k1 k3)))
  · obtain ⟨_,_,_,_,z,_⟩:=x
    cases z
end
section
variable {X:Cx}
theorem call_sortedD (hc:X.calm=true):CallR X (.builtin "sorted") (fun vs H Q=>∃ (a:Addr) (kvs:List (Key × V)) (zs:List Str),vs=[.ref a]∧Rd H a (.dK kvs)∧kvs.map (·.1)=zs.map Sum.inr∧zs.Nodup ∧
    ∀ (ss':List Str) (l:Addr),ss'.Perm zs→sortedS ss'=true→H l=none→Q (.ref l) (upd H l (.lst (ss'.map V.str)))):=by
  intro pins s σ H xs us Q I r h
  obtain ⟨a,kvs,zs,rfl,hq,hk,nd,q⟩:=h
  obtain ⟨u,rfl,ru⟩:=vals1 r
  cases (show u=Value.ref a from ru)
  have hh:X.A.in1.handled=none:=I.ok.hd hc
  obtain ⟨z,hy,vs,rv,dd⟩:=dk_rd I.hok hq
  obtain ⟨o,es,ep,ho,hrest⟩:=id dd
  have da:s.heap.DictAt (mixKind X.prog X.w) a vs ep:=⟨o,es,ho,hrest⟩
  have vl:=rv.length
  refine Calls.call_function_entry kind_sorted plain_sorted entry_sorted (args_sorted1 _) ?_
  unfold Builtin.«sorted»
  refine wpAny_bind (m:=checkCount "sorted" 1 1 _) (wpAny_pure ?_)
  have K:=kdl_dict (prog:=X.prog) (w:=X.w) (knd:=mixKind X.prog X.w) (kvs:=vs) (ep:=ep) hy
  refine wpAny_bind (collect_src (A:=X.A.in1) K hh da (by rw [← vl];exact z) fun h1 tk acc sz old1 hacc=>?_)
  have zl:zs.length=vs.length:=by
    have:=congrArg List.length hk
    rw [List.length_map,List.length_map] at this
    omega
  have hS:StrsAre acc.toList zs:=by
    refine strsAre_of (vals_at ?_ fun i x u hx hu=>?_)
    · simp [hacc.1,zl]
    · rw [List.getElem?_map] at hx
      rw [Array.getElem?_toList] at hu
      have il:i < zs.length:=by
        rw [zl,← hacc.1];exact (Array.getElem?_eq_some_iff.mp hu).1
      obtain ⟨kk,xx,e1,e2⟩:=hacc.2 i u hu
      have ki:(kvs.map (·.1))[i]?=some kk:=by
        have il':i < kvs.length:=by omega
        rw [List.getElem?_map,List.getElem?_eq_getElem il']
        obtain ⟨y,ey,_⟩:=kv_get rv (k:=kvs[i].1) (v:=kvs[i].2) (List.getElem?_eq_getElem il')
        rw [ey] at e1
        cases e1;rfl
      rw [hk,List.getElem?_map,List.getElem?_eq_getElem il] at ki
      rw [List.getElem?_eq_getElem il] at hx
      cases hx
      cases ki
      exact is_kV e2
  have al:acc.toList.length≤sizeLine:=by rw [Array.length_toList,hacc.1,← vl];exact z
  refine wpAny_bind (wpAny_newList ?_ al)
  have hL:(h1.push (seqObj "list" acc.toList.toArray 0)).get? h1.objs.size=some (seqObj "list" acc.toList.toArray 0):=Heap.get?_push_size _ rfl
  refine wpAny_bind (wpAny_holding (wpAny_call_entry slot_list_sort ⟨_,hL,rfl⟩ entry_list_sort (sort_strs (s:={ s with heap:=h1.push (seqObj "list" acc.toList.toArray 0),toks:=tk }) hL hS nd al fun out ss' b1 b2 b3=>⟨_,rfl,?_⟩) (args_list_sort _)))
  obtain ⟨e,he⟩:=sortedHeap_at (out:=out) hL
  have old:∀ b o,s.heap.get? b=some o→(sortedHeap (h1.push (seqObj "list" acc.toList.toArray 0)) h1.objs.size acc.toList out).get? b=some o:=fun b o eb=>by
    have lt:=Heap.lt_size (old1 _ _ eb)
    rw [sortedHeap_old (Nat.ne_of_lt lt) (by rw [show (h1.push (seqObj "list" acc.toList.toArray 0)).objs.size=h1.objs.size+1 from Heap.size_push ..];exact Nat.lt_succ_of_lt lt)]
    exact Heap.get?_push_of_some _ (old1 _ _ eb)
  have I2:=I.laid (t':=tk) old sz (show ObjOk X.prog X.w _ _ _ (.lst (ss'.map V.str)) from ⟨by rw [List.length_map,b2.length_eq,zl,← vl];exact z,out.toList,e,strsAre_get b1,he⟩)
  exact wpAny_pure ⟨_,rfl,.ref h1.objs.size,_,I2,rfl,q ss' _ b2 b3 (I.hok.fresh sz)⟩
end
end L2
namespace L2
open PySem PySem.Spec PyProof.Rows PySem.W
section
variable {X:Cx}
variable {e st:Expr} {te:TE} {ts:TO} {pos p2:Pos}
end
def Itx (x:Str):It:=⟨fun i _=>i < x.cps.size,fun i H v H'=>H'=H∧∃ c,x.cps[i]?=some c∧v=.str ⟨#[c]⟩,fun i _=>x.cps.size≤i⟩
theorem turn_str {P:Program} {w:World} {K:PySem.W.Frag} {tg:Expr} (x:Str) (t:Tok) (it:Addr):Turn P w K tg (Itx x) [it] it (fun i h=>h.IsStrIter it (strIterType x) x t i) where
  mem:=by simp
  obj:=fun i h st b hb=>by
    have e:b=it:=by simpa using hb
    subst e
    obtain ⟨o,e,c,d⟩:=st
    exact ⟨o,e,fun v z=>by rw [d] at z;cases z⟩
  keep:=fun i h h' st k=>by
    obtain ⟨o,e,c,d⟩:=st
    exact ⟨o,k it (by simp) o e,c,d⟩
  item:=by
    intro X hP hw hK hc i pins s σ H E I hf st hg
    subst hP hw hK
    have hg:i < x.cps.size:=hg
    obtain ⟨f0,f1,f2,f3,f4,f5⟩:=hf it (by simp)
    have hx:x.cps[i]?=some (x.cps[i]'hg):=Array.getElem?_eq_getElem hg
    have go:∀ (h':Heap),h'.IsStrIter it (strIterType x) x t (i+1)→Heap.SameBut it s.heap h'→∃ u,some (Value.str ⟨#[x.cps[i]'hg]⟩ s.toks)=some u ∧
        wpAny (model X.prog X.w) X.A (letOwnedTupleGo tg (.ref it) u) (fun _ s2=>∃ v H',Inv X pins σ H' s2∧RelV v u∧(Itx x).yld i H v H'∧s2.heap.IsStrIter it (strIterType x) x t (i+1)∧∀ b∈[it],H' b=none) E { s with heap:=h',toks:=s.toks+1 }:=fun h' st' sb=>by
      have I1:Inv X pins σ H { s with heap:=h',toks:=s.toks+1 }:=I.turned (t':=s.toks+1) (fun b o hb e=>(sb.2 b hb).trans e) f0 f1 f3 f4 f5
      obtain ⟨o,e,c,d⟩:=id st'
      refine ⟨_,rfl,go_of (s:={ s with heap:=h',toks:=s.toks+1 }) e c d ?_ ⟨.str ⟨#[x.cps[i]'hg]⟩,H,I1,⟨_,rfl⟩,⟨rfl,_,hx,rfl⟩,st',fun b hb=>(hf b hb).1⟩⟩
      unfold strIterType
      split <;> decide
    cases c:x.cps.all (· < 128) with
    | true=>
      have e:strIterType x = "str_ascii_iterator" := by unfold strIterType;rw [c];rfl
      rw [e] at st
      exact wpAny_pyNext_ascii_item st hx fun h' st' sb=>go h' (by rw [e];exact st') sb
    | false=>
      have e:strIterType x = "str_iterator" := by unfold strIterType;rw [c];rfl
      rw [e] at st
      exact wpAny_pyNext_wide_item st hx fun h' st' sb=>go h' (by rw [e];exact st') sb
  done:=by
    intro X hP hw hK hc i pins s σ H E I hf st hg
    subst hP hw hK
    have hg:x.cps.size≤i:=hg
    obtain ⟨f0,f1,f2,f3,f4,f5⟩:=hf it (by simp)
    have hx:x.cps[i]?=none:=Array.getElem?_eq_none hg
    cases c:x.cps.all (· < 128) with
    | true=>
      have e:strIterType x = "str_ascii_iterator" := by unfold strIterType;rw [c];rfl
      rw [e] at st
      exact wpAny_pyNext_ascii_end (I.ok.hd hc) st hx fun h' eb=>⟨rfl,I.turned (t':=s.toks) (fun b o hb e=>eb b o hb e) f0 f1 f3 f4 f5⟩
    | false=>
      have e:strIterType x = "str_iterator" := by unfold strIterType;rw [c];rfl
      rw [e] at st
      exact wpAny_pyNext_wide_end (I.ok.hd hc) st hx fun h' eb=>⟨rfl,I.turned (t':=s.toks) (fun b o hb e=>eb b o hb e) f0 f1 f3 f4 f5⟩
  self:=fun _ _ _ _ _ st h=>by
    cases c:x.cps.all (· < 128) with
    | true=>
      have e:strIterType x = "str_ascii_iterator" := by unfold strIterType;rw [c];rfl
      rw [e] at st
      exact wpAny_pyIter_striter_ascii st h
    | false=>
      have e:strIterType x = "str_iterator" := by unfold strIterType;rw [c];rfl
      rw [e] at st
      exact wpAny_pyIter_striter_wide st h
section
variable {X:Cx} {tg:Expr}
def iStr (tl:TE):TI:=fun σ H R=>tl σ H fun x H1=>∃ z,x=.str z∧R (Itx z) H1
theorem pi_str {l:Expr} {tl:TE} (hl:PE X l tl):PI X tg l (iStr tl):=by
  intro pins s σ H R I h
  refine thn (hl pins s σ H _ I h) fun v s1 ⟨x,H1,I1,r1,q1⟩=>?_
  obtain ⟨z,rfl,q⟩:=q1
  obtain ⟨t,rfl⟩:=r1
  refine wpAny_pyIter_strU ?_
  refine ⟨s1.heap.objs.size,[s1.heap.objs.size],_,_,H1,rfl,I1.kept (t':=s1.toks) fun b o e=>Heap.get?_push_of_some _ e,turn_str z t _,⟨_,Heap.get?_push_size _ rfl,rfl,rfl⟩,fun b hb=>?_,q⟩
  have e:b=s1.heap.objs.size:=by simpa using hb
  subst e
  exact I1.fpOk (Nat.le_refl _) (I1.hok.fresh (Nat.le_refl _))
end
section
variable {NL:List Str} {ix:List Nat} {g:TG} {tt:TT} {te:TE} {σ:St} {H1:Hp} {Qs:Hp→Prop} {acc:Addr}
end
section
variable {X:Cx}
end
end L2
namespace L2
open PySem PySem.Spec PyProof.Rows PySem.W
@[irreducible] def bigL:Int:=2 ^ 1000
section
variable {X:Cx}
theorem op_fdivL:OpR X (binaryOp .FloorDiv) (rI (fun _ j=>0 < j∧j < bigL) fun i j=>.int (i / j)):=opI fun i j _ _ _ _ _ hc q=>by
  have h1:(0:Int) < j:=hc.1
  have h2:j < 2 ^ 1000:=by have:=hc.2;unfold bigL at this;exact this
  refine floordiv_int (by omega) (by rw [Int.fdiv_eq_ediv_of_nonneg i (by omega)];exact q) (.inl (PyProof.noPylong_of_log2 ?_))
  have h3:j.natAbs < 2 ^ 1000:=by
    have:(j.natAbs:Int) < ((2 ^ 1000:Nat):Int):=by
      rw [Int.natAbs_of_nonneg (by omega)]
      exact_mod_cast h2
    exact_mod_cast this
  have h4:=(Nat.log2_lt (by omega)).mpr h3
  omega
end
end L2
namespace L2
open PySem PySem.Spec PyProof.Rows PySem.W
section
variable {X:Cx}
def rIndexI:V→List V→Hp→VK→Prop:=fun x vs H Q=>∃ (l:Addr) (ss:List Int) (y:Int),x=.ref l∧vs=[.int y]∧H l=some (.lst (ss.map V.int))∧y∈ss∧ss.length≤10000∧Q (.int ((ss.idxOf y:Nat):Int)) H
theorem mt_indexI:MtM X "list.index" rIndexI:=by
  intro pins s σ H x vs v us Q I rx rv h
  obtain ⟨l,ss,y,rfl,rfl,hH,hm,hl,q⟩:=h
  cases rx
  obtain ⟨u,rfl,ru⟩:=rv.one
  have ru0:=ru
  obtain ⟨ty,rfl⟩:=ru
  obtain ⟨z,its,n,r,hz,e⟩:=I.lstM hH
  have rl:=r.length
  rw [List.length_map] at rl
  have jl:ss.idxOf y < ss.length:=List.idxOf_lt_length_of_mem hm
  have key:∀ (j:Nat) (hj:j < its.toArray.size),eqU (V.int y) its.toArray[j]=(ss[j]'(by rw [rl];simpa using hj) == y):=fun j hj=>by
    have hj':j < ss.length:=by rw [rl];simpa using hj
    obtain ⟨w',e1,e2⟩:=r.get (i:=j) (x:=V.int (ss[j])) (by rw [List.getElem?_map,List.getElem?_eq_getElem hj'];rfl)
    obtain ⟨t',rfl⟩:=e2
    have:its.toArray[j]=Value.int ss[j] t':=by
      rw [List.getElem?_eq_getElem (by omega)] at e1
      simpa using Option.some.inj e1
    rw [this]
    rfl
  refine call_meets F.slot_list_index ⟨_,e,rfl⟩ F.entry_list_index (F.args_list_index_2 _ _) (SeqAt.list_indexAt l its.toArray n none #[] (.int y ty) (eqU (V.int y)) (ss.idxOf y) (by rw [List.size_toArray];omega) (by omega) ?_ ?_) ⟨e,fun u hu=>mem_eqAt (x:=V.int y) ru0 rfl r (flat_ints ss) u (by simpa using hu),?_⟩
  · rw [key _ (by rw [List.size_toArray];omega),List.getElem_idxOf jl];exact beq_self_eq_true y
  · intro m hm' hlt
    rw [key m hm']
    have:=List.not_of_lt_findIdx (p:=(· == y)) (xs:=ss) (i:=m) hlt
    simpa using this
  · exact ⟨.int _,H,I.tok _,⟨_,rfl⟩,q⟩
theorem pe_indexI (K:PySem.W.Frag) {o e:Expr} {to te:TE} {apos cpos:Pos} (ho:PE X o to) (he:PE X e te) (hK:X.K=K:=by rfl) (hbase:attributeBase o "index" X.env (eval o X.env)=eval o X.env:=by rfl)
    (h1:starEach [e] X.env=[(false,eval e X.env)]:=by rfl) (hl:(apos.endLine == cpos.line)=true:=by rfl) :
    PE X (.Call (.Attribute o "index" apos) [e] [] cpos) (tBM K "list" rIndexI to (tCons te tNil)):=by
  subst hK
  exact pe_bm PySem.F.plainAttrs_list PySem.F.slot_list_index PySem.F.type_list_index mt_indexI ho (pa_cons he pa_nil h1) hbase (by rw [h1];rfl) hl h1 (by rfl)
end
end L2
namespace L2
section
variable {NL:List PySem.Str} {ix:List Nat} {g:TG} {tt:TT} {te:TE} {σ:St} {H1:Hp} {Qs:Hp→Prop} {acc:PySem.Addr}
theorem comp_tupI {K:PySem.W.Frag} {a:PySem.Addr} {xs:List V} (hn:xs.length < 1000) (Pv:Nat→List V→Hp→Prop)
    (hl:∀ i ys H2,Pv i ys H2→SqT K H2 a xs) (hacc:∀ i ys H2,Pv i ys H2→H2 acc=some (.lst ys)∧ys.length≤i) (h0:Pv 0 [] (upd H1 acc (.lst []))) (hstop:∀ ys H2,Pv xs.length ys H2→Qs H2)
    (hturn:∀ i x ys H2,xs[i]?=some x→Pv i ys H2→g x (comp0 NL ix σ) H2 fun σ' H4=>σ'.drop NL.length=ix.map (fun j=>σ.getD j none)∧tt σ' H4 fun b H5=>
      if b=true then te σ' H5 fun v H6=>H6 acc=some (.lst ys)∧Pv (i+1) (ys++[v]) (upd H6 acc (.lst (ys++[v]))) else Pv (i+1) ys H5) :
    ∃ W:Nat→Nat→List V→Hp→Prop,(∃ m,W 0 m [] (upd H1 acc (.lst []))) ∧
    ∀ i m ys H2,W i m ys H2→H2 acc=some (.lst ys)∧ys.length < PySem.sizeLine ∧
      (((Itt K a).stop i H2∧Qs H2)∨((Itt K a).go i H2∧∃ N:List V→Hp→Prop,(∀ ys' H',N ys' H'→∃ m',m' < m∧W (i+1) m' ys' H') ∧
        ∀ x H3,(Itt K a).yld i H2 x H3→g x (comp0 NL ix σ) H3 fun σ' H4=>σ'.drop NL.length=ix.map (fun j=>σ.getD j none)∧tt σ' H4 fun b H5=>
          if b=true then te σ' H5 fun v H6=>H6 acc=some (.lst ys)∧N (ys++[v]) (upd H6 acc (.lst (ys++[v]))) else N ys H5)):=by
  refine comp_by xs.length hn Pv hacc h0 (fun ys H2 hp=>⟨⟨xs,hl _ _ _ hp,Nat.le_refl _⟩,hstop ys H2 hp⟩) fun i ys H2 hi hp=>?_
  have hs:=hl _ _ _ hp
  refine ⟨⟨xs,xs[i],hs,List.getElem?_eq_getElem hi⟩,?_⟩
  rintro x H3 ⟨rfl,hx⟩
  exact hturn i x ys H3 (hx xs hs) hp
end
end L2
namespace L2
open PySem PySem.Spec PyProof.Rows PySem.W
section
variable {prog:Program} {w:World} {A:Around} {E:Value→Shared→Prop} {s:Shared}
end
def setO (w:World) (a:Addr) (S:List Str) (n:Nat):HO:=.ext fun h=>SetA w (ledOf w) h a S n
theorem setO_ok {P:Program} {w:World} {H:Hp} {h:Heap} {a:Addr} {S:List Str} {n:Nat} (x:SetA w (ledOf w) h a S n):ObjOk P w H h a (setO w a S n):=by
  refine ⟨x,?_,fun h1 h2 p k=>SetA.keeps p k⟩
  obtain ⟨es,ep,t,e,_⟩:=x
  exact ⟨_,e⟩
section
variable {X:Cx}
theorem setO_at {pins:List (Addr × Obj)} {σ:St} {H:Hp} {s:Shared} (I:Inv X pins σ H s) {a:Addr} {S:List Str} {n:Nat} (h:H a=some (setO X.w a S n)):SetA X.w (ledOf X.w) s.heap a S n:=(I.hok a _ h).1
end
end L2
namespace L2
open PySem
theorem mid {t u:TS} {D:Ends} {σ:St} {H:Hp} (P:St→Hp→Prop) (h2:∀ σ' H',P σ' H'→u D σ' H') (h1:∀ E:Ends,(∀ σ' H',P σ' H'→E.nx σ' H')→t E σ H):tSeq t u D σ H:=h1 { D with nx:=u D } h2
end L2
namespace L2
open PySem PySem.Spec PyProof.Rows PySem.W
theorem shown_intB {i:Int} (h:i.natAbs < 2 ^ 400):(PyData.shown (.int i)).length≤401:=by
  have l:i.natAbs.log2 < 400:=by
    rcases Nat.eq_zero_or_pos i.natAbs with z | z
    · rw [z];decide
    · exact (Nat.log2_lt (by omega)).mpr h
  have e:=int_text_length_le (k:=400) (by decide) l
  show (Str.ofString (toString i)).length≤401
  rw [PySem.ofString_length];exact e
end L2
namespace L2
open PySem PySem.Spec PyProof.Rows PySem.W
section
variable {X:Cx}
theorem op_mulB:OpR X (binaryOp .Mult) (rI IntMulOk fun i j=>.int (i * j)):=opI fun _ _ _ _ _ _ _ hc q=>mul_int q hc
variable {e st:Expr} {te:TE} {ts:TO} {pos p2:Pos}
end
end L2
namespace L2
open PySem PySem.Spec PyProof.Rows PySem.W
mutual
inductive Td (H:Hp):V→PyData→Prop
  | non:Td H .non .none
  | bl (b:Bool):Td H (.bl b) (.bool b)
  | int (i:Int):Td H (.int i) (.int i)
  | str (z:Str):Td H (.str z) (.str z)
  | lst {a:Addr} {xs:List V} {ds:List PyData}:H a=some (.lst xs)→Tds H xs ds→Td H (.ref a) (.list ds)
  | tup {a:Addr} {xs:List V} {ds:List PyData}:H a=some (.tup xs)→Tds H xs ds→Td H (.ref a) (.tuple ds)
  | dct {a:Addr} {kvs:List (Key × V)} {ps:List (PyData × PyData)}:H a=some (.dK kvs)→Tds H (kvs.map fun p=>kV p.1) (ps.map (·.1))→Tds H (kvs.map (·.2)) (ps.map (·.2))→Td H (.ref a) (.dict ps)
inductive Tds (H:Hp):List V→List PyData→Prop
  | nil:Tds H [] []
  | cons {v:V} {d:PyData} {vs:List V} {ds:List PyData}:Td H v d→Tds H vs ds→Tds H (v :: vs) (d :: ds)
end
mutual
theorem Td.same {H H':Hp} (s:Same H H'):∀ {v:V} {d:PyData},Td H v d→Td H' v d
  | _,_,.non=>.non
  | _,_,.bl b=>.bl b
  | _,_,.int i=>.int i
  | _,_,.str z=>.str z
  | _,_,.lst e t=>.lst (s _ _ e) (t.same s)
  | _,_,.tup e t=>.tup (s _ _ e) (t.same s)
  | _,_,.dct e t u=>.dct (s _ _ e) (t.same s) (u.same s)
theorem Tds.same {H H':Hp} (s:Same H H'):∀ {vs:List V} {ds:List PyData},Tds H vs ds→Tds H' vs ds
  | _,_,.nil=>.nil
  | _,_,.cons t u=>.cons (t.same s) (u.same s)
end
mutual
def noList:PyData→Bool
  | .none | .bool _ | .int _ | .str _=>true
  | .list _=>false
  | .tuple xs=>noListAll xs
  | .dict kvs=>noListKv kvs
def noListAll:List PyData→Bool
  | []=>true
  | x :: xs=>noList x && noListAll xs
def noListKv:List (PyData × PyData)→Bool
  | []=>true
  | (k,v) :: r=>noList k && noList v && noListKv r
end
theorem noListKv_keys:∀ kvs:List (PyData × PyData),noListKv kvs=true→noListAll (kvs.map (·.1))=true∧noListAll (kvs.map (·.2))=true
  | [],_=>⟨by simp only [List.map_nil,noListAll],by simp only [List.map_nil,noListAll]⟩
  | (k,v) :: r,h=>by
    simp only [noListKv,Bool.and_eq_true] at h
    obtain ⟨a,b⟩:=noListKv_keys r h.2
    simp only [List.map_cons,noListAll,Bool.and_eq_true]
    exact ⟨⟨h.1.1,a⟩,⟨h.1.2,b⟩⟩
theorem pairs_vals {P:Program} {w:World} {es:List DictEntry} {vs:List (Key × Value)} (h:Pairs (mixKind P w) es vs):∀ {kvs:List (Key × V)},KV kvs vs→Vals (kvs.map fun p=>kV p.1) (es.map (·.key))∧Vals (kvs.map (·.2)) (es.map (·.val)):=by
  induction h with
  | nil=>intro kvs r;cases r;exact ⟨.nil,.nil⟩
  | cons hk hv _ ih=>
    intro kvs r
    cases r with
    | cons r1 r2=>
      obtain ⟨a,b⟩:=ih r2
      refine ⟨.cons ?_ a,.cons (by show RelV _ _;simp only [hv];exact r1.2) b⟩
      show RelV (kV _) _
      simp only [r1.1]
      rcases keyIs_shape hk with ⟨i,t,e,e'⟩ | ⟨x,t,e,e'⟩
      · rw [e,e'];exact ⟨t,rfl⟩
      · rw [e,e'];exact ⟨t,rfl⟩
section
variable {X:Cx} {pins:List (Addr × Obj)} {σ:St} {H:Hp} {s:Shared}
mutual
theorem reads_td (I:Inv X pins σ H s):∀ {v:V} {d:PyData},Td H v d→∀ {u:Value},RelV v u→∃ as,Reads s.heap u d as∧(noList d=true→sysModules ∉ as)
  | _,_,.non,_,r=>by cases r;exact ⟨[],.none,fun _ h=>by cases h⟩
  | _,_,.bl b,_,r=>by cases r;exact ⟨[],.bool b,fun _ h=>by cases h⟩
  | _,_,.int i,_,r=>by obtain ⟨t,rfl⟩:=r;exact ⟨[],.int i t,fun _ h=>by cases h⟩
  | _,_,.str z,_,r=>by obtain ⟨t,rfl⟩:=r;exact ⟨[],.str z t,fun _ h=>by cases h⟩
  | _,_,.lst e t,_,r=>by
    cases r
    obtain ⟨_,its,n,rv,g⟩:=I.hok _ _ e
    obtain ⟨as,ra,_⟩:=reads_tds I t rv
    exact ⟨_,.list g rfl rfl ra,fun h=>by simp only [noList] at h;cases h⟩
  | _,_,.tup e t,_,r=>by
    cases r
    obtain ⟨_,its,rv,o,g,c,n,dd⟩:=I.hok _ _ e
    obtain ⟨as,ra,na⟩:=reads_tds I t rv
    exact ⟨as,.tuple g c dd ra,fun h=>na (by simpa only [noList] using h)⟩
  | _,_,.dct e t u,_,r=>by
    cases r
    obtain ⟨_,hs,vs,kv,o,es,ep,g,ex,dd,_,pr,_⟩:=I.hok _ _ e
    obtain ⟨v1,v2⟩:=pairs_vals pr kv
    obtain ⟨as,ra,na⟩:=reads_tds I t v1
    obtain ⟨bs,rb,nb⟩:=reads_tds I u v2
    refine ⟨_,.dict g ex.1 dd ra rb,fun h=>?_⟩
    simp only [noList] at h
    obtain ⟨h1,h2⟩:=noListKv_keys _ h
    intro m
    rcases List.mem_append.mp m with m | m
    · rcases List.mem_cons.mp m with m | m
      · exact beq_eq_false_iff_ne.mp hs m.symm
      · exact na h1 m
    · exact nb h2 m
theorem reads_tds (I:Inv X pins σ H s):∀ {vs:List V} {ds:List PyData},Tds H vs ds→∀ {us:List Value},Vals vs us→∃ as,ReadsAll s.heap us ds as∧(noListAll ds=true→sysModules ∉ as)
  | _,_,.nil,_,r=>by cases r;exact ⟨[],.nil,fun _ h=>by cases h⟩
  | _,_,.cons t u,_,r=>by
    cases r with
    | cons r1 r2=>
      obtain ⟨as,ra,na⟩:=reads_td I t r1
      obtain ⟨bs,rb,nb⟩:=reads_tds I u r2
      refine ⟨as++bs,.cons ra rb,fun h=>?_⟩
      simp only [noListAll,Bool.and_eq_true] at h
      intro m
      rcases List.mem_append.mp m with m | m
      · exact na h.1 m
      · exact nb h.2 m
end
structure Fit (d:PyData):Prop where
  sh:d.showable=true
  lv:d.leavesShort 61=true
  wt:d.weight≤200000
  dp:d.depth≤20
  md:d.hasDict=false∨noList d=true
theorem Fit.sz {d:PyData} (f:Fit d):d.shown.length≤sizeLine:=by
  have h:=PyData.shown_le 61 (by decide) d f.lv
  have:=f.wt
  rw [sizeLine_eq]
  omega
variable {k:Nat}
theorem call_repr_any (hr:Room k X.A):CallR X (.builtin "repr") (fun xs H Q=>∃ v d,xs=[v]∧Td H v d∧Fit d∧Q (.str d.shown) H):=by
  intro pins s σ H xs us Q I r h
  obtain ⟨v,d,rfl,t,f,q⟩:=h
  obtain ⟨u,rfl,rx⟩:=vals1 r
  have fin:∀ (h':Heap) (u:Tok) (tk:Tok),(∀ b o,s.heap.get? b=some o→h'.get? b=some o)→EP X pins σ Q (.str d.shown u) { s with heap:=h',toks:=tk }:=fun h' u tk hk=>⟨.str d.shown,H,I.kept (t':=tk) hk,⟨u,rfl⟩,q⟩
  have sz:=f.sz
  have ref:∀ a:Addr,u=.ref a→wpAny (model X.prog X.w) X.A (call (.builtin "repr") [u]) (EP X pins σ Q) X.xe s:=fun a e=>by
    subst e
    obtain ⟨as,rd,na⟩:=reads_td I t rx
    have un:=hr.un
    have dp:=f.dp
    refine repr_of_reads' rd f.sh (fun z=>?_) hr.gd (by omega) (fun _ _ e=>e) (fun h' u tk hk=>fin h' u tk hk) sz
    rcases f.md with m | m
    · rw [m] at z;cases z
    · exact na m
  cases t with
  | non=>cases rx;exact P.repr_of_none (fin _ _ _ fun _ _ e=>e)
  | bl b=>cases rx;exact P.repr_of_bool (by cases b <;> exact fin _ _ _ fun _ _ e=>e)
  | int i=>obtain ⟨t,rfl⟩:=rx;exact P.repr_of_int (of_decide_eq_true f.sh) (fin _ _ _ fun _ _ e=>e)
  | str z=>obtain ⟨t,rfl⟩:=rx;exact P.repr_of_str (fin _ _ _ fun _ _ e=>e) sz
  | lst e t=>cases rx;exact ref _ rfl
  | tup e t=>cases rx;exact ref _ rfl
  | dct e t u=>cases rx;exact ref _ rfl
end
section
variable {H:Hp}
end
structure Gd (hd hl:Bool) (c e:Nat) (d:PyData):Prop where
  sh:d.showable=true
  lv:d.leavesShort 61=true
  wt:d.weight≤c
  dp:d.depth≤e
  nd:hd=false→d.hasDict=false
  nl:hl=false→noList d=true
structure Gs (hd hl:Bool) (c e:Nat) (ds:List PyData):Prop where
  sh:PyData.showableAll ds=true
  lv:PyData.leavesShortAll 61 ds=true
  wt:PyData.weightAll ds≤c
  dp:PyData.depthAll ds≤e
  nd:hd=false→PyData.hasDictAll ds=false
  nl:hl=false→noListAll ds=true
section
variable {hd hl:Bool} {c c' e e':Nat} {d:PyData} {ds es:List PyData}
theorem Gd.fit (g:Gd hd hl c e d) (h:hd=false∨hl=false) (hc:c≤200000) (he:e≤20):Fit d:=
  ⟨g.sh,g.lv,Nat.le_trans g.wt hc,Nat.le_trans g.dp he,h.imp g.nd g.nl⟩
theorem Gs.mono (g:Gs hd hl c e ds) (hc:c≤c') (he:e≤e'):Gs hd hl c' e' ds:=⟨g.sh,g.lv,Nat.le_trans g.wt hc,Nat.le_trans g.dp he,g.nd,g.nl⟩
theorem Gs.nil:Gs hd hl 0 0 []:=⟨by simp only [PyData.showableAll],by simp only [PyData.leavesShortAll],by simp only [PyData.weightAll];omega,by simp only [PyData.depthAll];omega,fun _=>by simp only [PyData.hasDictAll],fun _=>by simp only [noListAll]⟩
theorem Gs.cons (g:Gd hd hl c e d) (h:Gs hd hl c' e ds):Gs hd hl (c+1+c') e (d :: ds):=by
  have:=g.wt;have:=h.wt;have:=g.dp;have:=h.dp
  refine ⟨?_,?_,?_,?_,fun z=>?_,fun z=>?_⟩
  · simp only [PyData.showableAll,g.sh,h.sh,Bool.and_self]
  · simp only [PyData.leavesShortAll,g.lv,h.lv,Bool.and_self]
  · simp only [PyData.weightAll];omega
  · simp only [PyData.depthAll];omega
  · simp only [PyData.hasDictAll,g.nd z,h.nd z,Bool.or_self]
  · simp only [noListAll,g.nl z,h.nl z,Bool.and_self]
theorem Gs.one (g:Gd hd hl c e d):Gs hd hl (c+1) e [d]:=(Gs.cons g (Gs.nil.mono (Nat.le_refl 0) (Nat.zero_le e))).mono (by omega) (Nat.le_refl _)
theorem Gd.tup (g:Gs hd hl c e ds):Gd hd hl c (e+1) (.tuple ds):=
  ⟨by simp only [PyData.showable];exact g.sh,by simp only [PyData.leavesShort];exact g.lv,by simp only [PyData.weight];exact g.wt,by simp only [PyData.depth];have:=g.dp;omega,fun z=>by simp only [PyData.hasDict];exact g.nd z,fun z=>by simp only [noList];exact g.nl z⟩
end
end L2
namespace L2
open PySem PySem.Spec PyProof.Rows PySem.W
theorem SetA.tight {w:World} {led:Bool} {h:Heap} {a:Addr} {S:List Str} {n:Nat} (x:SetA w led h a S n) {us:List Str} (sub:∀ z∈S,z∈us):SetA w led h a S us.length:=by
  obtain ⟨es,ep,t,e,hS,_⟩:=x
  refine ⟨es,ep,t,e,hS,?_⟩
  have:=hS.nd.length_le_of_subset (l₂:=us) fun z hz=>sub z ((hS.mem z).mp hz)
  rw [List.length_map,Array.length_toList] at this
  exact this
section
variable {X:Cx}
theorem call_sorted_setT (w:World) (hc:X.calm=true) (hw:X.w=w:=by rfl):CallR X (.builtin "sorted") (fun xs H Q=>∃ (a:Addr) (S:List Str) (n:Nat) (us:List Str),xs=[.ref a]∧H a=some (setO w a S n)∧(∀ z∈S,z∈us)∧us.length < 64 ∧
    ∀ (ss:List Str) (r:Addr),ss.Nodup→(∀ x,x∈ss ↔ x∈S)→sortedS ss=true→H r=none→Q (.ref r) (upd H r (.lst (ss.map V.str)))):=by
  subst hw
  intro pins s σ H xs us' Q I r h
  obtain ⟨a,S,n,us,rfl,ha,sub,n64,q⟩:=h
  obtain ⟨u,rfl,ru⟩:=vals1 r
  cases (show u=Value.ref a from ru)
  have hh:X.A.handled=none:=I.ok.hd hc
  refine set_sorted ((setO_at I ha).tight sub) hh n64 fun h3 tk3 d l3 out ss' e old3 lge hg3 hv3 nd3 mem3 srt3 len3=>?_
  have I3:=I.laid (t':=tk3) (h':=h3) (a:=l3) (o:=.lst (ss'.map V.str)) old3 lge (show ObjOk X.prog X.w _ _ _ (.lst (ss'.map V.str)) from ⟨by rw [List.length_map];exact Nat.le_of_lt (small1000 (by omega)),out.toList,e,strsAre_get hv3,hg3⟩)
  exact ⟨.ref l3,_,I3.drawn d,rfl,q ss' l3 nd3 mem3 srt3 (I.hok.fresh lge)⟩
end
theorem Gd.int {hd hl:Bool} {i:Int} (h:i.natAbs < 10 ^ 12):Gd hd hl 41 0 (.int i):=by
  have s1:=ints_showable (ns:=[i]) (fun n hn=>by rw [List.mem_singleton.mp hn];exact h)
  simp only [PyData.showable,List.map_cons,List.map_nil,PyData.showableAll,Bool.and_true] at s1
  refine ⟨by simp only [PyData.showable];exact s1,?_,?_,by simp only [PyData.depth];omega,fun _=>by simp only [PyData.hasDict],fun _=>by simp only [noList]⟩
  · simp only [PyData.leavesShort,decide_eq_true_eq]
    exact Nat.le_trans (PyData.shown_int_le h) (by decide)
  · have:=weight_ints [i] (fun n hn=>by rw [List.mem_singleton.mp hn];exact h)
    simp only [List.map_cons,List.map_nil,PyData.weightAll,List.length_singleton] at this
    omega
end L2
namespace L2
open PySem PySem.Spec PyProof.Rows PySem.W
section
variable {prog:Program} {w:World} {A:Around} {E:Value→Shared→Prop} {s:Shared}
theorem set_loopW {led:Bool} {I S:Addr} {fp:List Addr} {n:Nat} {Pv:Nat→Value→Prop} {St:Nat→Heap→Prop} {ss:List Str} {R:Result→Shared→Prop} (Wk:Walks prog w A.in1 I fp [I] n Pv St) (hP:∀ i v,Pv i v→∃ x tk,v=.str x tk∧ss[i]?=some x) (sl:ss.length=n) (SI:S≠I) (Sf:S ∉ fp) (hn:n+1 < scanBound) :
    ∀ (k i:Nat) (s:Shared),n - i=k→i≤n→St i s.heap→SetA w led s.heap S (ss.take i) i →
      (∀ h' tk,(∀ b o,b≠I→b≠S→s.heap.get? b=some o→h'.get? b=some o)→SetA w led h' S ss n→R (.ok (.ret .none)) { s with heap:=h',toks:=tk }) →
      codeAny (model prog w) A (.builtin "set.update.loop" ⟨[.ref S,.ref I],[]⟩) R s
  | 0,i,s,hk,hi,h1,h3,h=>by
    have ei:i=n:=by omega
    subst ei
    refine codeAny_builtin F.entry_set_update_loop ?_
    rw [Around.under_plainId F.plain_set_update_loop _]
    show wpAny _ A.in1 (pyNext (.ref I) >>= _) _ _ s
    refine wpAny_bind (Wk.done s _ _ h1 fun h' tk kp=>wpAny_pure ?_)
    refine h h' tk (fun b o n1 _ e=>kp b o (by simpa using n1) e) ?_
    have:=h3.keeps (h':=h') fun o e=>kp S o (by simpa using SI) e
    rw [List.take_of_length_le (by omega)] at this
    exact this
  | k+1,i,s,hk,hi,h1,h3,h=>by
    have il:i < n:=by omega
    refine codeAny_builtin F.entry_set_update_loop ?_
    rw [Around.under_plainId F.plain_set_update_loop _]
    show wpAny _ A.in1 (pyNext (.ref I) >>= _) _ _ s
    refine wpAny_bind (Wk.item i s _ _ il h1 fun v h' tk hv hSt kp=>?_)
    obtain ⟨x,tkx,rfl,hx⟩:=hP i v hv
    have h3':=h3.keeps (h':=h') fun o e=>kp S o (by simpa using SI) e
    dsimp only
    refine wpAny_bind (wpAny_holding (add_text (s:={ s with heap:=h',toks:=tk }) h3' (by omega) fun b h2' sb hA=>?_))
    refine wpAny_pure ⟨plainId_quiet F.plain_set_update_loop _,?_⟩
    have et:ss.take i++[x]=ss.take (i+1):=by rw [List.take_succ,hx];rfl
    rw [et] at hA
    refine set_loopW Wk hP sl SI Sf hn k (i+1) { s with heap:=h2',toks:=tk+1 } (by omega) (by omega) ?_ hA fun h4 tk4 k4 hA4=>?_
    · exact Wk.frame _ _ _ hSt fun b hb o e=>sb.extBut _ _ (fun z=>Sf (by rw [← z];exact hb)) e
    · exact h h4 tk4 (fun b o n1 n2 e=>k4 b o n1 n2 (sb.extBut _ _ n2 (kp b o (by simpa using n1) e))) hA4
theorem set_initS {D:Addr} {z:Str} {t:Tok} {Pf:PySem.Fin→Shared→Prop} (hget:s.heap.get? D=some { cls:=.type "set", data:=.set #[] 0 (SetTable.fresh 0 0 (ledOf w)) }) (hh:A.handled=none) (hn:z.cps.size+1 < scanBound)
    (h:∀ h' tk,(∀ b o,b≠D→s.heap.get? b=some o→h'.get? b=some o)→SetA w (ledOf w) h' D (z.cps.toList.map fun c=>(⟨#[c]⟩:Str)) z.cps.size→Pf (.done (.ret .none)) { s with heap:=h',toks:=tk }) :
    wpAny (model prog w) A (Builtin.«set.__init__» ⟨[.ref D,.str z t],[]⟩) Pf E s:=by
  have hT:s.TypeIs (.ref D) "set" := ⟨_,hget,rfl⟩
  have hTl:s.TypeIs (.str z t) "str" := typeIs_str _ _ _
  unfold Builtin.«set.__init__»
  refine wpAny_bind ?_
  unfold noKeywords
  show wpAny _ _ (pure ()) _ _ _
  refine wpAny_pure ?_
  dsimp only
  unfold typeNameOfCut shownTypeOf
  refine wpAny_bind (wpAny_bind (wpAny_bind (wpAny_typeOf hT ?_)))
  rw [if_neg (by decide)]
  refine wpAny_pure ?_
  rw [name_set]
  refine wpAny_pure ?_
  refine wpAny_bind ?_
  unfold checkCount
  show wpAny _ _ (pure ()) _ _ _
  refine wpAny_pure ?_
  refine wpAny_bind ?_
  show wpAny _ _ (pure D) _ _ _
  refine wpAny_pure ?_
  refine wpAny_bind ?_
  unfold setUsed
  refine wpAny_bind (wpAny_setState_of hget rfl rfl (wpAny_pure ?_))
  have hfill:(((#[],0,SetTable.fresh 0 0 (ledOf w)):Array (Int × Value) × Nat × SetTable).2.2.fill != 0)=false:=rfl
  rw [hfill,if_neg (by decide)]
  refine wpAny_bind ?_
  unfold Builtin.Frozenset.updateFrom
  refine wpAny_bind ?_
  unfold Builtin.Frozenset.isAnySet
  refine wpAny_bind (wpAny_isInstance hTl F.sub_str_set ?_)
  refine wpAny_isInstance hTl F.sub_str_frozenset ?_
  rw [if_neg (by decide)]
  refine wpAny_bind (wpAny_typeOf hTl ?_)
  rw [if_neg (by decide)]
  have DD:D < s.heap.objs.size:=Heap.lt_size hget
  refine wpAny_bind (wpAny_pyIter_str fun o St Wk st0=>?_)
  refine wpAny_bind (wpAny_runValue ?_)
  refine set_loopW (led:=ledOf w) (ss:=z.cps.toList.map fun c=>(⟨#[c]⟩:Str)) (Wk A.in1 hh) (fun i v hv=>?_) (by rw [List.length_map,Array.length_toList]) (Nat.ne_of_lt DD) (fun m=>Nat.ne_of_lt DD (List.mem_singleton.mp m)) hn z.cps.size 0 { s with heap:=s.heap.push o } (Nat.sub_zero _) (Nat.zero_le _) st0 (SetA.start (Heap.get?_push_of_some _ hget)) fun h' tk kp hA=>?_
  · obtain ⟨c,u,hc,rfl⟩:=hv
    exact ⟨_,_,rfl,by rw [List.getElem?_map,Array.getElem?_toList,hc];rfl⟩
  refine wpAny_pure (wpAny_pure ?_)
  exact h h' tk (fun b o n e=>kp b o (Nat.ne_of_lt (Heap.lt_size e)) n (Heap.get?_push_of_some _ e)) hA
theorem set_callS {z:Str} {t:Tok} {Q:Value→Shared→Prop} (hh:A.handled=none) (hn:z.cps.size+1 < scanBound)
    (h:∀ h' tk,(∀ b o,s.heap.get? b=some o→h'.get? b=some o)→SetA w (ledOf w) h' s.heap.objs.size (z.cps.toList.map fun c=>(⟨#[c]⟩:Str)) z.cps.size→Q (.ref s.heap.objs.size) { s with heap:=h',toks:=tk }) :
    wpAny (model prog w) A (call (.type "set") [.str z t]) Q E s:=by
  obtain ⟨c,tl,hmro⟩:=F.called_set.mro
  refine wpAny_call (codeAny_of_tree ?_)
  show wpAny _ _ (pure (Fin.again (.builtin "type.__call__" ⟨[.type "set", .str z t],[]⟩))) _ _ _
  refine wpAny_pure ⟨Code.quiet_builtin _ (by decide +kernel),codeAny_builtin F.entry_type_call ?_⟩
  rw [Around.under_plain (weight_type_call_type "set" [.str z t] []) rfl]
  unfold Builtin.«type.__call__»
  dsimp only
  rw [if_neg (by decide),if_neg (by rw [F.called_set.canCreate];decide)]
  refine wpAny_bind ?_
  rw [F.typeCall_set_1]
  refine wpAny_pure ?_
  refine wpAny_bind ?_
  rw [hmro]
  refine wpAny_pure ?_
  rw [if_neg (by simp)]
  refine wpAny_bind ?_
  rw [F.called_set.made]
  refine wpAny_pure ?_
  dsimp only
  refine wpAny_bind (wpAny_pure ?_)
  refine wpAny_bind (wpAny_holding (wpAny_call ?_))
  refine code_set_new_led _ ?_
  have hget:(s.heap.push { cls:=.type "set", data:=.set #[] 0 (SetTable.fresh 0 0 (ledOf w)) }).get? s.heap.objs.size=some { cls:=.type "set", data:=.set #[] 0 (SetTable.fresh 0 0 (ledOf w)) }:=Heap.get?_push_size _ rfl
  have hT:({ s with heap:=s.heap.push { cls:=.type "set", data:=.set #[] 0 (SetTable.fresh 0 0 (ledOf w)) } }:Shared).TypeIs (.ref s.heap.objs.size) "set" := ⟨_,hget,rfl⟩
  refine wpAny_bind (wpAny_isInstance hT F.called_set.sub ?_)
  rw [if_neg (by decide)]
  refine wpAny_bind (wpAny_holding ?_)
  refine wpAny_callSpecial?_slot hT F.called_set.init (wpAny_call (codeAny_call_builtin F.called_set.init.plain F.entry_set_init (check_set_init_1 hT ?_)))
  refine set_initS (s:={ s with heap:=s.heap.push { cls:=.type "set", data:=.set #[] 0 (SetTable.fresh 0 0 (ledOf w)) } }) hget hh hn fun h' tk kp hA=>?_
  dsimp only
  rw [if_neg (by decide)]
  refine wpAny_pure ?_
  exact h h' tk (fun b o e=>kp b o (Nat.ne_of_lt (Heap.lt_size e)) (Heap.get?_push_of_some _ e)) hA
end
section
variable {X:Cx}
theorem call_set_txt (hc:X.calm=true):CallR X (.type "set") (fun xs H Q=>∃ (z:Str),xs=[.str z]∧z.length < 4000∧∀ r,H r=none→Q (.ref r) (upd H r (setO X.w r (z.cps.toList.map fun c=>(⟨#[c]⟩:Str)) z.length))):=by
  intro pins s σ H xs us Q I r h
  obtain ⟨z,rfl,h4,q⟩:=h
  obtain ⟨u,rfl,t,rfl⟩:=vals1 r
  have hh:X.A.handled=none:=I.ok.hd hc
  have hz:z.cps.size < 4000:=h4
  refine set_callS hh (by show z.cps.size+1 < 4096;omega) fun h2 tk2 old2 hA=>?_
  exact ⟨.ref s.heap.objs.size,_,I.laid (t':=tk2) (h':=h2) (a:=s.heap.objs.size) (o:=setO X.w s.heap.objs.size _ _) old2 (Nat.le_refl _) (setO_ok hA),rfl,q _ (I.hok.fresh (Nat.le_refl _))⟩
theorem call_set_txtW (w:World) (hc:X.calm=true) (hw:X.w=w:=by rfl):CallR X (.type "set") (fun xs H Q=>∃ (z:Str),xs=[.str z]∧z.length < 4000∧∀ r,H r=none→Q (.ref r) (upd H r (setO w r (z.cps.toList.map fun c=>(⟨#[c]⟩:Str)) z.length))):=by
  subst hw;exact call_set_txt hc
end
end L2
namespace L2
open PySem PySem.Spec PyProof.Rows PySem.W PySem.StrLaws PySem.Builtin PySem.Builtin.Str
theorem occ_full (s sub:Str) (hi:Nat):∀ (l:List Nat) (st:Array Nat × Nat),st.fst.size=1→(forIn l st (occBody s sub hi 1)).run.fst=st.fst
  | [],st,h=>rfl
  | a :: l,st,h=>by
    rw [List.forIn_cons]
    unfold occBody
    rw [if_neg (by omega)]
    exact occ_full s sub hi l (st.fst,st.snd) h
theorem occ_first (s:Str) (c:Nat):∀ (l:List Nat) (pre:List Nat) (i:Nat) (post:List Nat),l=pre++i :: post→(∀ j∈pre,s.cps.toList[j]?≠some c)→s.cps.toList[i]?=some c→(forIn l ((#[]:Array Nat),0) (occBody s ⟨#[c]⟩ s.length 1)).run.fst=#[i]
  | l,[],i,post,e,_,h=>by
    subst e
    show (forIn (i :: post) ((#[]:Array Nat),0) (occBody s ⟨#[c]⟩ s.length 1)).run.fst=_
    rw [List.forIn_cons]
    have:=(subAt_one s c i).mpr h
    unfold occBody
    rw [if_pos ⟨⟨⟨by decide,Nat.zero_le _⟩,this.1⟩,this.2⟩]
    exact occ_full s _ _ post (#[i],i+(⟨#[c]⟩:Str).length) rfl
  | l,a :: pre,i,post,e,hn,h=>by
    subst e
    show (forIn (a :: (pre++i :: post)) ((#[]:Array Nat),0) (occBody s ⟨#[c]⟩ s.length 1)).run.fst=_
    rw [List.forIn_cons]
    have na:=hn a List.mem_cons_self
    unfold occBody
    rw [if_neg (fun z=>na ((subAt_one s c a).mp ⟨z.1.2,z.2⟩))]
    exact occ_first s c _ pre i post rfl (fun j hj=>hn j (List.mem_cons_of_mem _ hj)) h
theorem occ_at {s:Str} {a b:List Nat} {c:Nat} (e:s.cps.toList=a++c :: b) (h:c ∉ a):occurrences s ⟨#[c]⟩ 0 s.length 1=[a.length]:=by
  have sl:s.length=a.length+b.length+1:=by
    have:=congrArg List.length e
    rw [List.length_append,List.length_cons] at this
    have e2:s.cps.toList.length=s.length:=Array.length_toList
    omega
  rw [occ_eq]
  rw [occ_first s c _ (List.range' 0 a.length) a.length (List.range' (a.length+1) (b.length+1)) ?_ ?_ ?_]
  · have e1:(b.length+1+1)=b.length+2:=rfl
    have e2:a.length :: List.range' (a.length+1) (b.length+1)=List.range' (0+1 * a.length) (b.length+2):=by
      rw [show (0+1 * a.length)=a.length by omega];rfl
    rw [e2,List.range'_append]
    congr 1
    omega
  · intro j hj z
    have hj':j < a.length:=by
      obtain ⟨i,hi,rfl⟩:=List.mem_range'.mp hj
      omega
    rw [e,List.getElem?_append_left hj'] at z
    exact h (List.mem_of_getElem? z)
  · rw [e,List.getElem?_append_right (Nat.le_refl _),Nat.sub_self];rfl
end L2
namespace W100
open PySem PySem.SetTable
end W100
namespace L2
open PySem PySem.Spec PyProof.Rows PySem.W
theorem for_str {z:Str} {g:TG} {tb:TS} {D:Ends} {σ:St} {H:Hp} (Pv:Nat→St→Hp→Prop) (h0:Pv 0 σ H)
    (hs:∀ i c σ H,z.cps.toList[i]?=some c→Pv i σ H→g (.str ⟨#[c]⟩) σ H fun σ2 H2=>tb { D with nx:=Pv (i+1),ct:=Pv (i+1),bk:=D.nx } σ2 H2) (hd:∀ σ H,Pv z.cps.toList.length σ H→D.nx σ H) :
    ∃ W:Nat→Nat→St→Hp→Prop,(∃ m,W 0 m σ H)∧∀ i m σ H,W i m σ H →
      ((Itx z).stop i H∧D.nx σ H)∨((Itx z).go i H∧∃ N:St→Hp→Prop,(∀ σ' H',N σ' H'→∃ m',m' < m∧W (i+1) m' σ' H')∧∀ x H',(Itx z).yld i H x H'→g x σ H' fun σ2 H2=>tb { D with nx:=N,ct:=N,bk:=D.nx } σ2 H2):=by
  refine ⟨fun i m σ H=>m=z.cps.size - i∧i≤z.cps.size∧Pv i σ H,⟨z.cps.size,by simp,Nat.zero_le _,h0⟩,?_⟩
  rintro i m σ H ⟨rfl,hi,p⟩
  by_cases hlt:i < z.cps.size
  · refine .inr ⟨hlt,Pv (i+1),fun σ' H' p'=>⟨z.cps.size - (i+1),by omega,rfl,hlt,p'⟩,fun x H' y=>?_⟩
    obtain ⟨e,c,hc,rfl⟩:=y
    subst e
    exact hs i c σ _ (by rw [Array.getElem?_toList];exact hc) p
  · have e:i=z.cps.size:=by omega
    subst e
    exact .inl ⟨Nat.le_refl _,hd σ H (by rw [Array.length_toList];exact p)⟩
section
variable {X:Cx}
end
end L2
namespace L2
open PySem PySem.Spec PyProof.Rows PySem.W
abbrev TJ:=St→Hp→Str→(Str→Hp→Prop)→Prop
section
variable {X:Cx}
def PJ (X:Cx) (ps:List Expr) (t:TJ):Prop:=
  ∀ (pins:List (Addr × Obj)) (s:Shared) (σ:St) (H:Hp) (acc:Str) (Q:Str→Hp→Prop) (Q':Str→Shared→Prop),Inv X pins σ H s→t σ H acc Q→(∀ out H1 s1,Inv X pins σ H1 s1→Q out H1→Q' out s1)→Joins (model X.prog X.w) X.A X.xe (evalEach ps X.env) acc Q' s
def j0:TJ:=fun _ H acc Q=>Q acc H
theorem pj_nil:PJ X [] j0:=fun _ s _ H acc _ _ I h k=>by
  show Joins _ _ _ [] _ _ _
  rw [Joins.eq_1];exact k acc H s I h
def jLit (c:Str) (t:TJ):TJ:=fun σ H acc Q=>(acc++c).length≤sizeLine∧t σ H (acc++c) Q
theorem pj_lit {ps:List Expr} {t:TJ} {c:Str} {j pos} (h:PJ X ps t):PJ X (.Constant (.str c) j pos :: ps) (jLit c t):=by
  intro pins s σ H acc Q Q' I ⟨l,q⟩ k
  show Joins _ _ _ (eval (.Constant (.str c) j pos) X.env :: evalEach ps X.env) _ _ _
  rw [Joins.eq_2]
  exact Calls.Constant_str ⟨c,_,rfl,l,h pins _ σ H _ Q Q' (I.tok _) q k⟩
def jInt (te:TE) (t:TJ):TJ:=fun σ H acc Q=>te σ H fun v H1=>∃ i,v=.int i∧i.natAbs.log2 < 1920∧(acc++Str.ofString (toString i)).length≤sizeLine∧t σ H1 (acc++Str.ofString (toString i)) Q
theorem pj_int {ps:List Expr} {t:TJ} {e:Expr} {te:TE} {pos:Pos} (he:PE X e te) (h:PJ X ps t):PJ X (.FormattedValue e (-1) none pos :: ps) (jInt te t):=by
  intro pins s σ H acc Q Q' I h0 k
  show Joins _ _ _ (eval (.FormattedValue e (-1) none pos) X.env :: evalEach ps X.env) _ _ _
  rw [Joins.eq_2]
  refine wpAny_FormattedValue_plain (thn (he pins s σ H _ I h0) fun v s1 ⟨x,H1,I1,r1,i,ex,lg,le,q1⟩=>?_)
  subst ex
  obtain ⟨u,rfl⟩:=r1
  exact wpAny_formatField_int lg ⟨_,_,rfl,le,h pins _ σ H1 _ Q Q' (I1.tok _) q1 k⟩
def jStr (te:TE) (t:TJ):TJ:=fun σ H acc Q=>te σ H fun v H1=>∃ z,v=.str z∧z.length≤sizeLine∧(acc++z).length≤sizeLine∧t σ H1 (acc++z) Q
theorem pj_str {ps:List Expr} {t:TJ} {e:Expr} {te:TE} {pos:Pos} (he:PE X e te) (h:PJ X ps t):PJ X (.FormattedValue e (-1) none pos :: ps) (jStr te t):=by
  intro pins s σ H acc Q Q' I h0 k
  show Joins _ _ _ (eval (.FormattedValue e (-1) none pos) X.env :: evalEach ps X.env) _ _ _
  rw [Joins.eq_2]
  refine wpAny_FormattedValue_plain (thn (he pins s σ H _ I h0) fun v s1 ⟨x,H1,I1,r1,z,ex,lz,le,q1⟩=>?_)
  subst ex
  obtain ⟨u,rfl⟩:=r1
  exact wpAny_formatField_str ⟨_,_,rfl,le,h pins _ σ H1 _ Q Q' I1 q1 k⟩ ⟨_,_,rfl,le,h pins _ σ H1 _ Q Q' (I1.tok _) q1 k⟩ lz
def tFS (t:TJ):TE:=fun σ H Q=>t σ H Str.empty fun out H1=>out.length≤sizeLine∧Q (.str out) H1
theorem pe_fs {a b:Expr} {rest:List Expr} {t:TJ} {pos:Pos} (h:PJ X (a :: b :: rest) t):PE X (.JoinedStr (a :: b :: rest) pos) (tFS t):=by
  intro pins s σ H Q I h0
  exact wpAny_JoinedStr (h pins s σ H _ _ _ I h0 fun out H1 s1 I1 ⟨l,q⟩=>⟨l,.str out,H1,I1.tok _,⟨_,rfl⟩,q⟩)
theorem mt_zfill:MtR X "str.zfill" (fun x vs H Q=>∃ z i,x=.str z∧vs=[.int i]∧0≤i∧i≤1000∧Q (.str (Txt.zfill z i)) H):=by
  intro pins s σ H x xs v us Q I rx rv h
  obtain ⟨z,i,rfl,rfl,h0,h1,q⟩:=h
  obtain ⟨t,rfl⟩:=rx
  obtain ⟨u,rfl,ru⟩:=vals1 rv
  obtain ⟨t',rfl⟩:=ru
  refine SC.zfill ?_ fun t2 k=>⟨.str _,H,I.tok _,⟨_,rfl⟩,q⟩
  have a:fitsSsize i=true:=by
    unfold fitsSsize
    rw [decide_eq_false (by omega),decide_eq_false (by omega)];rfl
  have b:Builtin.Str.tooLong i.toNat=false:=decide_eq_false (Nat.not_lt.mpr (Nat.le_of_lt (small1000 (by omega))))
  unfold PadOk
  rw [a,b];rfl
end
end L2
namespace L2
open PySem PySem.Spec PyProof.Rows
section
variable {X:Cx}
theorem mt_sindex:MtR X "str.index" (fun x vs H Q=>∃ (z p:Str) (i:Nat) (rest:List Nat),x=.str z∧vs=[.str p]∧Builtin.Str.occurrences z p 0 z.length 1=i :: rest∧Q (.int (i:Int)) H):=by
  intro pins s σ H x xs v us Q I rx rv h
  obtain ⟨z,p,i,rest,rfl,rfl,ho,q⟩:=h
  obtain ⟨t,rfl⟩:=rx
  obtain ⟨u,rfl,t',rfl⟩:=rv.one
  exact SC.index ho ⟨.int _,H,I.tok _,⟨_,rfl⟩,q⟩
theorem pe_sindex {o e:Expr} {to te:TE} {apos cpos:Pos} (ho:PE X o to) (he:PE X e te) (hbase:attributeBase o "index" X.env (eval o X.env)=eval o X.env:=by rfl)
    (h1:starEach [e] X.env=[(false,eval e X.env)]:=by rfl) (hl:(apos.endLine == cpos.line)=true:=by rfl) :
    PE X (.Call (.Attribute o "index" apos) [e] [] cpos) (tBM X.K "str" (fun x vs H Q=>∃ (z p:Str) (i:Nat) (rest:List Nat),x=.str z∧vs=[.str p]∧Builtin.Str.occurrences z p 0 z.length 1=i :: rest∧Q (.int (i:Int)) H) to (tCons te tNil)):=
  pe_bm PySem.F.plainAttrs_str PySem.F.slot_str_index PySem.F.type_str_index mt_sindex ho (pa_cons he pa_nil h1) hbase (by rw [h1];rfl) hl h1 (by rfl)
end
end L2
namespace W16
open PySem
theorem starts_iff (z p:Str):Txt.startswith z p=true ↔ p.cps.toList <+: z.cps.toList:=by
  unfold Txt.startswith
  rw [StrLaws.subAt_eq,List.drop_zero]
  have lp:p.length=p.cps.toList.length:=by first | rfl | simp [Str.length]
  have lz:z.length=z.cps.toList.length:=by first | rfl | simp [Str.length]
  rw [lp,lz,Bool.and_eq_true,decide_eq_true_iff,beq_iff_eq,List.prefix_iff_eq_take]
  constructor
  · rintro ⟨_,h⟩;exact h.symm
  · intro h
    refine ⟨?_,h.symm⟩
    have:=congrArg List.length h
    rw [List.length_take] at this
    omega
end W16
namespace W7
def wd (ups:List Int) (lab:List Nat):Nat→Nat→List Nat
  | 0,_=>[]
  | f+1,k=>lab.getD k 0 :: (if ups.getD k 0 < 0 then [] else wd ups lab f (ups.getD k 0).toNat)
structure TreeOk (ups:List Int) (lab:List Nat):Prop where
  len:ups.length=lab.length
  pos:0 < ups.length
  most:ups.length≤60
  root:ups.getD 0 0=-1
  up:∀ k,0 < k→k < ups.length→0≤ups.getD k 0∧ups.getD k 0 < (k:Int)
theorem TreeOk.lt {ups:List Int} {lab:List Nat} (t:TreeOk ups lab) {k:Nat} (h:k < ups.length) (h0:¬ ups.getD k 0 < 0):(ups.getD k 0).toNat < k:=by
  rcases Nat.eq_zero_or_pos k with e | e
  · subst e;have:=t.root;omega
  · have:=t.up k e h;omega
theorem TreeOk.neg {ups:List Int} {lab:List Nat} (t:TreeOk ups lab) {k:Nat} (h:k < ups.length):ups.getD k 0 < 0 ↔ ups.getD k 0=-1:=by
  rcases Nat.eq_zero_or_pos k with e | e
  · subst e;have:=t.root;omega
  · have:=t.up k e h;omega
theorem wd_fuel {ups:List Int} {lab:List Nat} (t:TreeOk ups lab):∀ (f g k:Nat),k < ups.length→k < f→k < g→wd ups lab f k=wd ups lab g k
  | 0,_,_,_,h,_=>absurd h (Nat.not_lt_zero _)
  | _+1,0,_,_,_,h=>absurd h (Nat.not_lt_zero _)
  | f+1,g+1,k,hk,hf,hg=>by
    simp only [wd]
    congr 1
    split
    · rfl
    · rename_i h0
      have:=t.lt hk h0
      exact wd_fuel t f g _ (by omega) (by omega) (by omega)
def W (ups:List Int) (lab:List Nat) (k:Nat):List Nat:=wd ups lab (k+1) k
theorem W_eq {ups:List Int} {lab:List Nat} (t:TreeOk ups lab) {k:Nat} (hk:k < ups.length):W ups lab k=lab.getD k 0 :: (if ups.getD k 0 < 0 then [] else W ups lab (ups.getD k 0).toNat):=by
  unfold W
  rw [wd]
  congr 1
  split
  · rfl
  · rename_i h0
    have:=t.lt hk h0
    exact wd_fuel t _ _ _ (by omega) (by omega) (by omega)
theorem W_len {ups:List Int} {lab:List Nat} (t:TreeOk ups lab):∀ (n k:Nat),k < n→k < ups.length→(W ups lab k).length≤k+1
  | 0,_,h,_=>absurd h (Nat.not_lt_zero _)
  | n+1,k,hn,hk=>by
    rw [W_eq t hk]
    split
    · simp
    · rename_i h0
      have:=t.lt hk h0
      have ih:=W_len t n (ups.getD k 0).toNat (by omega) (by omega)
      simp only [List.length_cons]
      omega
end W7
namespace W7
end W7
namespace S40
open PySem L2 W7
def top (i:Nat):Stmt:=PySem.Challenge.pw_upwords_k40_contexts_and_pieces.main.body.getD i (.Pass ⟨0,0,0,0⟩)
abbrev s_words_of:Stmt:=top 1
abbrev N_words_of:List Str:=["tree", "words", "letter", "up"]
theorem sc_words_of:FnScope N_words_of ["tree"] (defScope s_words_of):=⟨rfl,rfl,rfl,by decide +kernel,rfl,by decide +kernel,by decide +kernel⟩
abbrev s_word_of:Stmt:=top 2
abbrev N_word_of:List Str:=["tree", "place"]
theorem sc_word_of:FnScope N_word_of ["tree", "place"] (defScope s_word_of):=⟨rfl,rfl,rfl,by decide +kernel,rfl,by decide +kernel,by decide +kernel⟩
abbrev s_word_above:Stmt:=top 3
abbrev N_word_above:List Str:=["tree", "place"]
theorem sc_word_above:FnScope N_word_above ["tree", "place"] (defScope s_word_above):=⟨rfl,rfl,rfl,by decide +kernel,rfl,by decide +kernel,by decide +kernel⟩
abbrev s_order_of:Stmt:=top 5
abbrev N_order_of:List Str:=["tree", "words"]
theorem sc_order_of:FnScope N_order_of ["tree"] (defScope s_order_of):=⟨rfl,rfl,rfl,by decide +kernel,rfl,by decide +kernel,by decide +kernel⟩
abbrev s_ranks_of:Stmt:=top 6
abbrev N_ranks_of:List Str:=["tree", "order", "ranks", "rank", "place"]
theorem sc_ranks_of:FnScope N_ranks_of ["tree"] (defScope s_ranks_of):=⟨rfl,rfl,rfl,by decide +kernel,rfl,by decide +kernel,by decide +kernel⟩
abbrev s_beneath_of:Stmt:=top 8
abbrev N_beneath_of:List Str:=["tree", "place"]
theorem sc_beneath_of:FnScope N_beneath_of ["tree", "place"] (defScope s_beneath_of):=⟨rfl,rfl,rfl,by decide +kernel,rfl,by decide +kernel,by decide +kernel⟩
abbrev s_is_leaf:Stmt:=top 9
abbrev N_is_leaf:List Str:=["tree", "place"]
theorem sc_is_leaf:FnScope N_is_leaf ["tree", "place"] (defScope s_is_leaf):=⟨rfl,rfl,rfl,by decide +kernel,rfl,by decide +kernel,by decide +kernel⟩
abbrev s_kept_order:Stmt:=top 11
abbrev N_kept_order:List Str:=["tree", "ups", "ranks"]
theorem sc_kept_order:FnScope N_kept_order ["tree"] (defScope s_kept_order):=⟨rfl,rfl,rfl,by decide +kernel,rfl,by decide +kernel,by decide +kernel⟩
abbrev s_rows_of:Stmt:=top 12
abbrev N_rows_of:List Str:=["tree", "order", "labels", "lasts", "leaves"]
theorem sc_rows_of:FnScope N_rows_of ["tree"] (defScope s_rows_of):=⟨rfl,rfl,rfl,by decide +kernel,rfl,by decide +kernel,by decide +kernel⟩
abbrev s_is_last:Stmt:=top 13
abbrev N_is_last:List Str:=["tree", "place"]
theorem sc_is_last:FnScope N_is_last ["tree", "place"] (defScope s_is_last):=⟨rfl,rfl,rfl,by decide +kernel,rfl,by decide +kernel,by decide +kernel⟩
abbrev s_stretch_in:Stmt:=top 15
abbrev N_stretch_in:List Str:=["words", "word", "first"]
theorem sc_stretch_in:FnScope N_stretch_in ["words", "word"] (defScope s_stretch_in):=⟨rfl,rfl,rfl,by decide +kernel,rfl,by decide +kernel,by decide +kernel⟩
abbrev s_count_read:Stmt:=top 16
abbrev N_count_read:List Str:=["words", "word"]
theorem sc_count_read:FnScope N_count_read ["words", "word"] (defScope s_count_read):=⟨rfl,rfl,rfl,by decide +kernel,rfl,by decide +kernel,by decide +kernel⟩
abbrev s_context_of:Stmt:=top 18
abbrev N_context_of:List Str:=["tree", "place"]
theorem sc_context_of:FnScope N_context_of ["tree", "place"] (defScope s_context_of):=⟨rfl,rfl,rfl,by decide +kernel,rfl,by decide +kernel,by decide +kernel⟩
abbrev s_contexts_of:Stmt:=top 19
abbrev N_contexts_of:List Str:=["tree"]
theorem sc_contexts_of:FnScope N_contexts_of ["tree"] (defScope s_contexts_of):=⟨rfl,rfl,rfl,by decide +kernel,rfl,by decide +kernel,by decide +kernel⟩
abbrev s_beginnings_of:Stmt:=top 20
abbrev N_beginnings_of:List Str:=["tree", "found", "context", "length"]
theorem sc_beginnings_of:FnScope N_beginnings_of ["tree"] (defScope s_beginnings_of):=⟨rfl,rfl,rfl,by decide +kernel,rfl,by decide +kernel,by decide +kernel⟩
abbrev s_rows_under:Stmt:=top 21
abbrev N_rows_under:List Str:=["tree", "beginning"]
theorem sc_rows_under:FnScope N_rows_under ["tree", "beginning"] (defScope s_rows_under):=⟨rfl,rfl,rfl,by decide +kernel,rfl,by decide +kernel,by decide +kernel⟩
abbrev s_piece_of:Stmt:=top 22
abbrev N_piece_of:List Str:=["tree", "beginning"]
theorem sc_piece_of:FnScope N_piece_of ["tree", "beginning"] (defScope s_piece_of):=⟨rfl,rfl,rfl,by decide +kernel,rfl,by decide +kernel,by decide +kernel⟩
abbrev s_pieces_of:Stmt:=top 23
abbrev N_pieces_of:List Str:=["tree", "beginnings", "contexts", "labels", "stretches"]
theorem sc_pieces_of:FnScope N_pieces_of ["tree", "beginnings"] (defScope s_pieces_of):=⟨rfl,rfl,rfl,by decide +kernel,rfl,by decide +kernel,by decide +kernel⟩
abbrev s_piece_by:Stmt:=top 24
abbrev N_piece_by:List Str:=["labels", "many", "letters", "number", "label", "figures"]
theorem sc_piece_by:FnScope N_piece_by ["labels"] (defScope s_piece_by):=⟨rfl,rfl,rfl,by decide +kernel,rfl,by decide +kernel,by decide +kernel⟩
abbrev s_figures_for:Stmt:=top 25
abbrev N_figures_for:List Str:=["base", "many", "behind", "k"]
theorem sc_figures_for:FnScope N_figures_for ["base", "many"] (defScope s_figures_for):=⟨rfl,rfl,rfl,by decide +kernel,rfl,by decide +kernel,by decide +kernel⟩
abbrev s_law_pot:Stmt:=top 27
abbrev N_law_pot:List Str:=["script", "k", "cell", "prime"]
theorem sc_law_pot:FnScope N_law_pot ["script", "k"] (defScope s_law_pot):=⟨rfl,rfl,rfl,by decide +kernel,rfl,by decide +kernel,by decide +kernel⟩
abbrev s_law_take:Stmt:=top 28
abbrev N_law_take:List Str:=["pot", "many", "found", "at", "one", "two"]
theorem sc_law_take:FnScope N_law_take ["pot", "many"] (defScope s_law_take):=⟨rfl,rfl,rfl,by decide +kernel,rfl,by decide +kernel,by decide +kernel⟩
abbrev s_law_line:Stmt:=top 29
abbrev N_law_line:List Str:=["ups", "k", "found", "turn"]
theorem sc_law_line:FnScope N_law_line ["ups", "k"] (defScope s_law_line):=⟨rfl,rfl,rfl,by decide +kernel,rfl,by decide +kernel,by decide +kernel⟩
abbrev s_law_up:Stmt:=top 30
abbrev N_law_up:List Str:=["pot", "ups", "k", "way", "period", "line", "some", "at"]
theorem sc_law_up:FnScope N_law_up ["pot", "ups", "k", "way", "period"] (defScope s_law_up):=⟨rfl,rfl,rfl,by decide +kernel,rfl,by decide +kernel,by decide +kernel⟩
abbrev s_law_labels:Stmt:=top 31
abbrev N_law_labels:List Str:=["pot", "ups", "period", "letters", "many", "base", "way", "found", "k", "at"]
theorem sc_law_labels:FnScope N_law_labels ["pot", "ups", "period"] (defScope s_law_labels):=⟨rfl,rfl,rfl,by decide +kernel,rfl,by decide +kernel,by decide +kernel⟩
abbrev s_law_tree:Stmt:=top 32
abbrev N_law_tree:List Str:=["pot", "most", "n", "way", "period", "ups", "k"]
theorem sc_law_tree:FnScope N_law_tree ["pot", "most"] (defScope s_law_tree):=⟨rfl,rfl,rfl,by decide +kernel,rfl,by decide +kernel,by decide +kernel⟩
abbrev s_law_words:Stmt:=top 33
abbrev N_law_words:List Str:=["tree", "found", "up", "label"]
theorem sc_law_words:FnScope N_law_words ["tree"] (defScope s_law_words):=⟨rfl,rfl,rfl,by decide +kernel,rfl,by decide +kernel,by decide +kernel⟩
abbrev s_law_kept:Stmt:=top 34
abbrev N_law_kept:List Str:=["tree", "words", "some"]
theorem sc_law_kept:FnScope N_law_kept ["tree"] (defScope s_law_kept):=⟨rfl,rfl,rfl,by decide +kernel,rfl,by decide +kernel,by decide +kernel⟩
abbrev s_law_letters:Stmt:=top 35
abbrev N_law_letters:List Str:=["tree"]
theorem sc_law_letters:FnScope N_law_letters ["tree"] (defScope s_law_letters):=⟨rfl,rfl,rfl,by decide +kernel,rfl,by decide +kernel,by decide +kernel⟩
abbrev s_law_contexts:Stmt:=top 36
abbrev N_law_contexts:List Str:=["tree", "words"]
theorem sc_law_contexts:FnScope N_law_contexts ["tree"] (defScope s_law_contexts):=⟨rfl,rfl,rfl,by decide +kernel,rfl,by decide +kernel,by decide +kernel⟩
abbrev s_law_beginnings:Stmt:=top 37
abbrev N_law_beginnings:List Str:=["contexts", "found", "context", "length"]
theorem sc_law_beginnings:FnScope N_law_beginnings ["contexts"] (defScope s_law_beginnings):=⟨rfl,rfl,rfl,by decide +kernel,rfl,by decide +kernel,by decide +kernel⟩
abbrev s_law_piece:Stmt:=top 38
abbrev N_law_piece:List Str:=["labels", "letters", "head", "number", "most", "label", "told"]
theorem sc_law_piece:FnScope N_law_piece ["labels"] (defScope s_law_piece):=⟨rfl,rfl,rfl,by decide +kernel,rfl,by decide +kernel,by decide +kernel⟩
abbrev s_law_under:Stmt:=top 39
abbrev N_law_under:List Str:=["labels", "contexts", "beginning"]
theorem sc_law_under:FnScope N_law_under ["labels", "contexts", "beginning"] (defScope s_law_under):=⟨rfl,rfl,rfl,by decide +kernel,rfl,by decide +kernel,by decide +kernel⟩
abbrev s_law_stretch:Stmt:=top 40
abbrev N_law_stretch:List Str:=["contexts", "beginning", "some"]
theorem sc_law_stretch:FnScope N_law_stretch ["contexts", "beginning"] (defScope s_law_stretch):=⟨rfl,rfl,rfl,by decide +kernel,rfl,by decide +kernel,by decide +kernel⟩
abbrev s_law_right:Stmt:=top 41
abbrev N_law_right:List Str:=["tree", "contexts", "labels", "beginning", "told", "piece"]
theorem sc_law_right:FnScope N_law_right ["tree", "contexts", "labels", "beginning"] (defScope s_law_right):=⟨rfl,rfl,rfl,by decide +kernel,rfl,by decide +kernel,by decide +kernel⟩
abbrev s_law:Stmt:=top 42
abbrev N_law:List Str:=["script", "k", "pot", "tree", "contexts", "labels", "words", "place", "up", "known", "told", "turn", "beginning"]
theorem sc_law:FnScope N_law ["script"] (defScope s_law):=⟨rfl,rfl,rfl,by decide +kernel,rfl,by decide +kernel,by decide +kernel⟩
structure Blt7 (mg:Str→Option Value):Prop extends Blt mg where
  sorted:mg "sorted" = none
  repr:mg "repr" = none
  set_:mg "set" = none
theorem line_le {n:Nat} (h:n≤1000):n≤sizeLine:=Nat.le_of_lt (small1000 h)
section
variable {P:Program} {w:World} {K:PySem.W.Frag} {mg:Str→Option Value} {base:Heap} {k:Nat}
def mk (l:List Nat):Str:=⟨l.toArray⟩
theorem mk_cps (l:List Nat):(mk l).cps.toList=l:=rfl
theorem mk_len (l:List Nat):(mk l).length=l.length:=by simp [mk,Str.length]
theorem str_ext {a b:Str} (h:a.cps.toList=b.cps.toList):a=b:=by
  obtain ⟨x⟩:=a;obtain ⟨y⟩:=b
  have:x=y:=Array.toList_inj.mp h
  rw [this]
theorem mk_app (c:Nat) (l:List Nat):(⟨#[c]⟩:Str)++mk l=mk (c :: l):=by
  apply str_ext
  rw [app_list]
  rfl
def TreeAt (H:Hp) (t:Addr) (ups:List Int) (lab:Str):Prop:=∃ u,H t=some (.tup [.ref u,.str lab])∧H u=some (.tup (ups.map V.int))∧TreeOk ups lab.cps.toList
theorem TreeAt.same {H H':Hp} {t:Addr} {ups:List Int} {lab:Str} (h:TreeAt H t ups lab) (s:Same H H'):TreeAt H' t ups lab:=by
  obtain ⟨u,a,b,c⟩:=h
  exact ⟨u,s _ _ a,s _ _ b,c⟩
theorem ints_at {us:List Int} {i:Int} (h0:0≤i) (h1:i < (us.length:Int)):atI (us.map V.int) i=some (.int (us.getD i.toNat 0)):=by
  have hk:i.toNat < us.length:=by omega
  have e:=atI_nat (xs:=us.map V.int) (j:=i.toNat) (v:=.int (us.getD i.toNat 0)) (by rw [List.getElem?_map,List.getElem?_eq_getElem hk,List.getD_eq_getElem?_getD,List.getElem?_eq_getElem hk];rfl)
  rw [show ((i.toNat:Nat):Int)=i by omega] at e
  exact e
abbrev Lw (c:Nat):Prop:=97≤c∧c < 123
theorem alph_at {i:Int} (h0:0≤i) (h1:i < 26):∃ c,atI (Str.ofString "abcdefghijklmnopqrstuvwxyz").cps.toList i=some c∧Lw c:=by
  have hl:(Str.ofString "abcdefghijklmnopqrstuvwxyz").cps.toList.length=26:=by decide +kernel
  have hk:i.toNat < (Str.ofString "abcdefghijklmnopqrstuvwxyz").cps.toList.length:=by omega
  have e:=atI_nat (xs:=(Str.ofString "abcdefghijklmnopqrstuvwxyz").cps.toList) (j:=i.toNat) (List.getElem?_eq_getElem hk)
  rw [show ((i.toNat:Nat):Int)=i by omega] at e
  have all:∀ c∈(Str.ofString "abcdefghijklmnopqrstuvwxyz").cps.toList,Lw c:=by decide +kernel
  exact ⟨_,e,all _ (List.getElem_mem hk)⟩
theorem menu {us:List Int} {n lo hi:Int} (h0:0≤n) (h1:n < (us.length:Int)) (hb:∀ v∈us,lo≤v∧v≤hi):∃ v:Int,atI (us.map V.int) n=some (.int v)∧lo≤v∧v≤hi:=by
  refine ⟨_,ints_at h0 h1,?_⟩
  have hk:n.toNat < us.length:=by omega
  rw [List.getD_eq_getElem?_getD,List.getElem?_eq_getElem hk]
  exact hb _ (List.getElem_mem hk)
def wordsV (ups:List Int) (lab:Str) (n:Nat):List V:=(List.range n).map fun j=>.str (mk (W ups lab.cps.toList j))
def sp_words:Sp:=fun vs H Q _=>∃ (t:Addr) (ups:List Int) (lab:Str),vs=[.ref t]∧TreeAt H t ups lab∧∀ (q:Addr) (H':Hp),Same H H'→H' q=some (.lst (wordsV ups lab ups.length))→Q (.ref q) H'
theorem has_words (D:Df K mg "words_of" s_words_of) (B:Blt mg):Has P w K mg base "words_of" (k+1) ["tree"] sp_words:=by
  refine D.has sc_words_of (fun _ _ _ _ _ _ us hl=>match us,hl with | [_],_=>rfl) (fun vs H Q E h=>by obtain ⟨t,ups,lab,rfl,_⟩:=h;rfl) (fun f cdv A outer s H vs Q E hr h=>?_)
  obtain ⟨t,ups,lab,rfl,⟨u,ht,hu,ok⟩,q⟩:=h
  refine ⟨_,(pss_cons (ps_set (i:=1) sc_words_of.nd rfl (by first | exact Or.inl rfl | exact Or.inr rfl) (pe_lst pa_nil))
  (pss_cons (ps_for PassesOwn.never rfl (pi_zip rfl B.zip (pa_cons (pe_ix ix_tup (pv 0) pe_int (fun _ _=>rfl)) (pa_cons (pe_ix ix_tup (pv 0) pe_int (fun _ _=>rfl)) pa_nil))) (pg_tup rfl (pgs_cons (pg_name (i:=2) sc_words_of.nd rfl (by first | exact Or.inl rfl | exact Or.inr rfl)) (pgs_cons (pg_name (i:=3) sc_words_of.nd rfl (by first | exact Or.inl rfl | exact Or.inr rfl)) pgs_nil)))
  (pss_one (ps_expr (pe_bm PySem.F.plainAttrs_list PySem.F.slot_list_append PySem.F.type_list_append mt_append (pv 1) (pa_cons (pe_ifExp (pt_cmpR op_eq (pv 3) (pe_un un_neg pe_int) (nomark _)) (pv 2) (pe_op op_add_str (pv 2) (pe_ix ix_list (pv 1) (pv 3) (fun _ _=>rfl)))) pa_nil)))))
  (pss_one (ps_ret (pv 1))))),?_⟩
  have hlen:(signs lab).length=(ups.map V.int).length:=by rw [List.length_map,ok.len];simp [signs]
  refine ⟨(by show 0≤sizeLine;decide),fun r hr0=>?_⟩
  have s0:Same H (upd H r (.lst [])):=(Same.refl H).new hr0
  refine ⟨_,rfl,t,_,_,_,rfl,rfl,SqT.of (s0 _ _ ht),rfl,_,rfl,t,_,_,_,rfl,rfl,SqT.of (s0 _ _ ht),rfl,.str lab,.tup u,rfl,⟨_,rfl⟩,⟨_,.inl (s0 _ _ hu)⟩,?_⟩
  refine for_zip (xs:=signs lab) (ys:=ups.map V.int) (fun i σ H'=>∃ o1 o2:Option V,σ=[some (.ref t),some (.ref r),o1,o2]∧Same H H'∧H' r=some (.lst (wordsV ups lab i))) ⟨none,none,rfl,s0,upd_same⟩ hlen
    (fun i σ H' hi h=>by obtain ⟨o1,o2,_,s1,_⟩:=h;exact ⟨rfl,.inl (s1 _ _ hu)⟩) ?_ ?_
  · rintro i x y σ H' p hx hy ⟨o1,o2,rfl,s1,hr1⟩ hp
    obtain ⟨c,hc,rfl⟩:∃ c,lab.cps.toList[i]?=some c∧x=.str ⟨#[c]⟩:=by
      simp only [signs,List.getElem?_map] at hx
      cases e:lab.cps.toList[i]? with
      | none=>rw [e] at hx;cases hx
      | some c=>rw [e] at hx;exact ⟨c,rfl,(Option.some.inj hx).symm⟩
    obtain ⟨v,hv,rfl⟩:∃ v,ups[i]?=some v∧y=.int v:=by
      simp only [List.getElem?_map] at hy
      cases e:ups[i]? with
      | none=>rw [e] at hy;cases hy
      | some v=>rw [e] at hy;exact ⟨v,rfl,(Option.some.inj hy).symm⟩
    have hi:i < ups.length:=(List.getElem?_eq_some_iff.mp hv).1
    have ev:ups.getD i 0=v:=by rw [List.getD_eq_getElem?_getD,hv];rfl
    have ec:lab.cps.toList.getD i 0=c:=by rw [List.getD_eq_getElem?_getD,hc];rfl
    have hm:=ok.most
    have s2:Same H (upd H' p (.tup [.str ⟨#[c]⟩,.int v])):=s1.new hp
    have hr2:upd H' p (.tup [.str ⟨#[c]⟩,.int v]) r=some (.lst (wordsV ups lab i)):=by rw [upd_ne (ne_of_none hr1 hp)];exact hr1
    have wl:(wordsV ups lab i).length=i:=by simp [wordsV]
    have step:wordsV ups lab (i+1)=wordsV ups lab i++[.str (mk (W ups lab.cps.toList i))]:=by
      unfold wordsV
      rw [List.range_succ,List.map_append];rfl
    refine ⟨p,_,rfl,SqT.of upd_same,rfl,_,_,rfl,_,_,rfl,rfl,?_⟩
    refine ⟨_,rfl,.inl ⟨rfl,_,SqL.of hr2⟩,_,rfl,_,rfl,rfl,_,rfl,ite2 (fun cnd=>?_) (fun cnd=>?_)⟩
    · have e1:V.int v=V.int (-1):=of_decide_eq_true cnd
      have e2:v=-1:=by injection e1
      have ew:W ups lab.cps.toList i=[c]:=by rw [W_eq ok hi,ev,ec,if_pos (by omega)]
      refine ⟨_,rfl,r,_,_,rfl,rfl,hr2,by rw [wl];exact small1000 (by omega),⟨_,_,rfl,s2.write hr0,?_⟩⟩
      rw [upd_same,step,ew]
      rfl
    · have e1:¬ V.int v=V.int (-1):=of_decide_eq_false (Bool.eq_false_iff.mpr cnd)
      have e2:v≠-1:=fun z=>e1 (by rw [z])
      have e3:¬ v < 0:=by
        have:=ok.neg hi
        rw [ev] at this
        omega
      have lt:=ok.lt hi (by rw [ev];exact e3)
      rw [ev] at lt
      have hat:atI (wordsV ups lab i) v=some (.str (mk (W ups lab.cps.toList v.toNat))):=by
        have e:atI (wordsV ups lab i) ((v.toNat:Nat):Int)=some (.str (mk (W ups lab.cps.toList v.toNat))):=atI_nat (by
          unfold wordsV
          rw [List.getElem?_map,List.getElem?_range lt];rfl)
        rw [show ((v.toNat:Nat):Int)=v by omega] at e
        exact e
      have wle:=W_len ok (v.toNat+1) v.toNat (by omega) (by omega)
      have ew:W ups lab.cps.toList i=c :: W ups lab.cps.toList v.toNat:=by rw [W_eq ok hi,ev,ec,if_neg e3]
      refine ⟨_,rfl,_,rfl,_,rfl,r,_,_,_,rfl,rfl,SqL.of hr2,hat,_,_,rfl,rfl,?_,r,_,_,rfl,rfl,hr2,by rw [wl];exact small1000 (by omega),⟨_,_,rfl,s2.write hr0,?_⟩⟩
      · rw [mk_len]
        have:(⟨#[c]⟩:Str).length=1:=rfl
        rw [this]
        exact Nat.le_of_lt (small1000 (by omega))
      · rw [upd_same,step,ew,mk_app]
  · rintro σ H' ⟨o1,o2,rfl,s1,hr1⟩
    refine ⟨_,rfl,q r H' s1 ?_⟩
    rw [hr1]
    congr 2
    simp [signs,ok.len]
end
end S40
namespace S40
open PySem L2 W7
def Pt (H:Hp) (p:Addr) (c:Int):Prop:=∃ x y z:Int,H p=some (.lst [.int x,.int y,.int z])∧0≤y∧y < 2147483648∧0≤z∧z≤c
structure Kq (p:Addr) (c:Int) (H H':Hp):Prop where
  pt:Pt H' p c
  keep:∀ b o,b≠p→H b=some o→H' b=some o
section
variable {p q:Addr} {c d:Int} {H H1 H2:Hp} {o:HO}
theorem Pt.mono (h:Pt H p c) (e:c≤d):Pt H p d:=let ⟨x,y,z,a,b,f,g,i⟩:=h;⟨x,y,z,a,b,f,g,Int.le_trans i e⟩
theorem Kq.mono (h:Kq p c H H1) (e:c≤d):Kq p d H H1:=⟨h.pt.mono e,h.keep⟩
theorem Kq.refl (h:Pt H p c):Kq p c H H:=⟨h,fun _ _ _ e=>e⟩
theorem Kq.trans (a:Kq p c H H1) (b:Kq p d H1 H2):Kq p d H H2:=⟨b.pt,fun k u hc e=>b.keep k u hc (a.keep k u hc e)⟩
theorem Pt.ne (h:Pt H p c) (hq:H q=none):q≠p:=fun e=>by
  obtain ⟨x,y,z,a,_⟩:=h
  rw [e,a] at hq;cases hq
theorem Pt.neT {xs:List V} (h:Pt H p c) (hq:H q=some (.tup xs)):q≠p:=fun e=>by
  obtain ⟨x,y,z,a,_⟩:=h
  rw [e,a] at hq;cases hq
theorem Kq.new (a:Kq p c H H1) (hq:H1 q=none):Kq p c H (upd H1 q o):=by
  obtain ⟨⟨x,y,z,e,r⟩,k⟩:=a
  refine ⟨⟨x,y,z,by rw [upd_ne (ne_of_none e hq)];exact e,r⟩,fun b u hb h=>?_⟩
  have:=k b u hb h
  rw [upd_ne (ne_of_none this hq)];exact this
theorem Kq.write (a:Kq p c H H1) (hq:H q=none) (hp:q≠p):Kq p c H (upd H1 q o):=by
  obtain ⟨⟨x,y,z,e,r⟩,k⟩:=a
  refine ⟨⟨x,y,z,by rw [upd_ne (Ne.symm hp)];exact e,r⟩,fun b u hb h=>?_⟩
  rw [upd_ne (ne_of_none h hq)];exact k b u hb h
theorem Kq.same (a:Kq p c H H1) (s:Same H1 H2):Kq p c H H2:=by
  obtain ⟨⟨x,y,z,e,r⟩,k⟩:=a
  exact ⟨⟨x,y,z,s _ _ e,r⟩,fun b u hb h=>s _ _ (k b u hb h)⟩
end
section
variable {P:Program} {w:World} {K:PySem.W.Frag} {mg:Str→Option Value} {base:Heap} {k:Nat}
theorem big18 {m:Int} (h:m < 1000000000000000000):m < bigL:=by
  have e:(1000000000000000000:Int) < bigL:=by unfold bigL;decide +kernel
  exact Int.lt_trans h e
theorem big60:IntMulOk ((10:Int) ^ (60:Int).toNat) ((10:Int) ^ (60:Int).toNat):=.of_bits (by decide +kernel) (by decide +kernel)
theorem big120:IntMulOk ((10:Int) ^ (60:Int).toNat * (10:Int) ^ (60:Int).toNat) ((10:Int) ^ (60:Int).toNat):=.of_bits (by decide +kernel) (by decide +kernel)
def sp_pot:PySem.W.Frag→Sp:=fun K vs H Q _=>∃ (a:Addr) (ns:List Int) (i:Int),vs=[.ref a,.int i]∧SqL K H a (ns.map V.int)∧ns.length≤63∧0≤i∧i≤63∧∀ (p:Addr) (H':Hp),H p=none→Same H H'→Pt H' p 0→Q (.ref p) H'
theorem has_pot (D:Df K mg "_law_pot" s_law_pot) (B:Blt7 mg):Has P w K mg base "_law_pot" (k+1) ["script", "k"] (sp_pot K):=by
  refine D.has sc_law_pot (fun _ _ _ _ _ _ us hl=>match us,hl with | [_,_],_=>rfl) (fun vs H Q E h=>by obtain ⟨a,ns,i,rfl,_⟩:=h;rfl) (fun f cdv A outer s H vs Q E hr h=>?_)
  obtain ⟨a,ns,i,rfl,hS,n63,i0,i63,q⟩:=h
  refine ⟨_,(pss_cons (ps_set (i:=2) sc_law_pot.nd rfl (by first | exact Or.inl rfl | exact Or.inr rfl) pe_int)
  (pss_cons (ps_if (pt_cmpR op_lt (pv 1) (pe_callB call_len_seq rfl B.len bt_len (pa_cons (pv 0) pa_nil)) (nomark _))
  (pss_one (ps_set (i:=2) sc_law_pot.nd rfl (by first | exact Or.inl rfl | exact Or.inr rfl) (pe_op op_mod (pe_ix ix_list (pv 0) (pv 1) (fun _ _=>rfl)) (pe_op op_mulB (pe_op op_mulB (pe_op op_pow pe_int pe_int) (pe_op op_pow pe_int pe_int)) (pe_op op_pow pe_int pe_int)))))
  pss_nil)
  (pss_cons (ps_set (i:=3) sc_law_pot.nd rfl (by first | exact Or.inl rfl | exact Or.inr rfl) (pe_ix ix_list (pe_lst (pa_cons pe_int (pa_cons pe_int (pa_cons pe_int (pa_cons pe_int (pa_cons pe_int pa_nil)))))) (pe_op op_mod (pv 1) pe_int) (fun _ _=>rfl)))
  (pss_one (ps_ret (pe_lst (pa_cons (pe_callB (call_max2 rfl) rfl B.max bt_max (pa_cons pe_int (pa_cons (pe_op op_sub (pv 2) (pe_op op_pow pe_int pe_int)) pa_nil))) (pa_cons (pe_op op_mod (pe_op op_pow (pe_op op_add (pe_op op_add (pe_op op_mod (pv 2) (pv 3)) (pe_op op_mul pe_int (pv 1))) pe_int) pe_int) pe_int) (pa_cons pe_int pa_nil))))))))),?_⟩
  have nl:(ns.map V.int).length=ns.length:=List.length_map _
  refine mid (fun σ' H'=>σ'=[some (.ref a),some (.int i),some (.int 5),none]∧H'=H) ?_ fun E nx=>nx _ _ ⟨rfl,rfl⟩
  rintro σ1 H1 ⟨rfl,rfl⟩
  refine mid (fun σ' H'=>∃ cell:Int,σ'=[some (.ref a),some (.int i),some (.int cell),none]∧H'=H1) ?_ fun E nx=>?_
  rotate_left
  · refine ⟨_,rfl,_,rfl,a,_,rfl,.inl hS,_,_,rfl,rfl,_,rfl,ite2 (fun c=>?_) (fun c=>?_)⟩
    · have c':=of_decide_eq_true c
      refine ⟨_,rfl,_,rfl,a,_,_,_,rfl,rfl,hS,ints_at i0 (by omega),_,_,rfl,rfl,⟨by decide,by decide,by decide⟩,_,_,rfl,rfl,⟨by decide,by decide,by decide⟩,_,_,rfl,rfl,big60,_,_,rfl,rfl,⟨by decide,by decide,by decide⟩,_,_,rfl,rfl,big120,_,_,rfl,rfl,(by show (0:Int) < 10 ^ (60:Int).toNat * 10 ^ (60:Int).toNat * 10 ^ (60:Int).toNat;decide +kernel),?_⟩
      exact nx _ _ ⟨_,rfl,rfl⟩
    · exact nx _ _ ⟨_,rfl,rfl⟩
  rintro σ1 H1' ⟨cell,rfl,rfl⟩
  refine ⟨line_le (show 5≤1000 by omega),fun l hl=>?_⟩
  generalize hJ:upd H1' l _=H2
  have s2:Same H1' H2:=by rw [← hJ];exact (Same.refl H1').new hl
  have g2:H2 l=some (.lst ([2147483629,2147483587,2147483579,2147483563,2147483549].map V.int)):=by rw [← hJ];exact upd_same
  clear hJ
  obtain ⟨v,hv,v0,v1⟩:=menu (us:=[2147483629,2147483587,2147483579,2147483563,2147483549]) (n:=i % 5) (lo:=1) (hi:=2147483647) (Int.emod_nonneg _ (by decide)) (Int.emod_lt_of_pos _ (by decide)) (by decide)
  refine ⟨_,rfl,_,_,rfl,rfl,(by decide:(0:Int) < 5),l,_,_,_,rfl,rfl,SqL.of g2,hv,?_⟩
  refine ⟨_,rfl,_,_,rfl,rfl,⟨by decide,by decide,by decide⟩,_,_,rfl,rfl,_,_,rfl,?_⟩
  have y1:=Int.emod_nonneg cell (show v≠0 by omega)
  have y2:=Int.emod_lt_of_pos cell (show 0 < v by omega)
  refine ⟨_,rfl,_,rfl,_,_,rfl,rfl,(show 0 < v by omega),_,rfl,_,_,rfl,rfl,.inl ⟨by decide,by decide⟩,_,_,rfl,rfl,_,_,rfl,rfl,_,_,rfl,rfl,⟨by decide,by decide,by omega⟩,_,_,rfl,rfl,(by decide:(0:Int) < 2147483647),line_le (show 3≤1000 by omega),fun p hp=>?_⟩
  exact q p _ (s2.free hp) (s2.new hp) ⟨_,_,0,upd_same,Int.emod_nonneg _ (by decide),Int.lt_trans (Int.emod_lt_of_pos _ (by decide)) (by decide),Int.le_refl _,Int.le_refl _⟩
def sp_take:Sp:=fun vs H Q _=>∃ (p:Addr) (m c:Int),vs=[.ref p,.int m]∧Pt H p c∧c < 1000000∧0 < m∧m < 1000000000000000000∧∀ (n:Int) (H':Hp),0≤n→n < m→Kq p (c+1) H H'→Q (.int n) H'
theorem has_take (D:Df K mg "_law_take" s_law_take) (B:Blt7 mg):Has P w K mg base "_law_take" (k+1) ["pot", "many"] sp_take:=by
  refine D.has sc_law_take (fun _ _ _ _ _ _ us hl=>match us,hl with | [_,_],_=>rfl) (fun vs H Q E h=>by obtain ⟨p,m,c,rfl,_⟩:=h;rfl) (fun f cdv A outer s H vs Q E hr h=>?_)
  obtain ⟨p,m,c,rfl,⟨x,y,z,hp,y0,y1,z0,z1⟩,c6,m0,m1,q⟩:=h
  refine ⟨_,(pss_cons (ps_if (pt_cmpR op_gt (pe_ix ix_list (pv 0) pe_int (fun _ _=>rfl)) pe_int (nomark _))
  (pss_cons (ps_set (i:=2) sc_law_take.nd rfl (by first | exact Or.inl rfl | exact Or.inr rfl) (pe_op op_mod (pe_ix ix_list (pv 0) pe_int (fun _ _=>rfl)) (pv 1)))
  (pss_cons (ps_asg (pe_op op_fdivL (pe_ix ix_list (pv 0) pe_int (fun _ _=>rfl)) (pv 1)) (pg_sub (pv 0) pe_int set_list))
  (pss_one (ps_ret (pv 2)))))
  pss_nil)
  (pss_cons (ps_set (i:=3) sc_law_take.nd rfl (by first | exact Or.inl rfl | exact Or.inr rfl) (pe_op op_add (pe_ix ix_list (pv 0) pe_int (fun _ _=>rfl)) pe_int))
  (pss_cons (ps_asg (pv 3) (pg_sub (pv 0) pe_int set_list))
  (pss_cons (ps_set (i:=4) sc_law_take.nd rfl (by first | exact Or.inl rfl | exact Or.inr rfl) (pe_op op_mod (pe_op op_pow (pe_op op_add (pe_op op_add (pe_op op_add (pe_ix ix_list (pv 0) pe_int (fun _ _=>rfl)) (pe_op op_mul (pe_op op_mul pe_int (pv 3)) (pv 3))) (pe_op op_mul pe_int (pv 3))) pe_int) pe_int) pe_int))
  (pss_cons (ps_set (i:=5) sc_law_take.nd rfl (by first | exact Or.inl rfl | exact Or.inr rfl) (pe_op op_mod (pe_op op_pow (pe_op op_add (pe_op op_mul (pv 4) (pe_op op_add (pv 3) pe_int)) pe_int) pe_int) pe_int))
  (pss_one (ps_ret (pe_op op_mod (pe_op op_fdivL (pv 5) pe_int) (pv 1))))))))),?_⟩
  refine ⟨_,rfl,p,_,_,_,rfl,rfl,SqL.of hp,rfl,_,_,rfl,rfl,_,rfl,ite2 (fun cnd=>?_) (fun cnd=>?_)⟩
  · refine ⟨_,rfl,p,_,_,_,rfl,rfl,SqL.of hp,rfl,_,rfl,_,_,rfl,rfl,m0,?_⟩
    refine ⟨_,rfl,p,_,_,_,rfl,rfl,SqL.of hp,rfl,_,rfl,_,_,rfl,rfl,⟨m0,big18 m1⟩,?_⟩
    refine ⟨_,rfl,p,_,_,0,rfl,rfl,hp,rfl,_,rfl,?_⟩
    exact q _ _ (Int.emod_nonneg _ (by omega)) (Int.emod_lt_of_pos _ m0) ⟨⟨_,y,z,upd_same,y0,y1,z0,by omega⟩,fun b o hb e=>by rw [upd_ne hb];exact e⟩
  · refine ⟨_,rfl,p,_,_,_,rfl,rfl,SqL.of hp,rfl,_,_,rfl,rfl,?_⟩
    refine ⟨_,rfl,_,rfl,p,_,_,2,rfl,rfl,hp,rfl,?_⟩
    have hp':upd H p (.lst [.int x,.int y,.int (z+1)]) p=some (.lst [.int x,.int y,.int (z+1)]):=upd_same
    have hk':∀ b o,b≠p→H b=some o→upd H p (.lst [.int x,.int y,.int (z+1)]) b=some o:=fun b o hb e=>by rw [upd_ne hb];exact e
    show (fun HH=>_) (upd H p (.lst [.int x,.int y,.int (z+1)]))
    generalize upd H p (.lst [.int x,.int y,.int (z+1)])=H1 at hp' hk'
    have zz:0≤(z+1) * (z+1)∧(z+1) * (z+1)≤1000001 * 1000001:=⟨Int.mul_nonneg (by omega) (by omega),Int.mul_le_mul (by omega) (by omega) (by omega) (by omega)⟩
    have ez:7919 * (z+1) * (z+1)=7919 * ((z+1) * (z+1)):=Int.mul_assoc _ _ _
    have big:(y+7919 * (z+1) * (z+1)+104729 * (z+1)+5).natAbs < 2 ^ 64:=by
      rw [ez]
      have e64:(2:Nat) ^ 64=18446744073709551616:=by decide
      rw [e64]
      omega
    refine ⟨_,rfl,p,_,_,_,rfl,rfl,SqL.of hp',rfl,_,rfl,_,_,rfl,rfl,.inl ⟨by decide,by decide⟩,_,rfl,_,_,rfl,rfl,.inr ⟨by omega,by omega⟩,_,_,rfl,rfl,_,rfl,_,_,rfl,rfl,.inl ⟨by decide,by decide⟩,_,_,rfl,rfl,_,_,rfl,rfl,_,_,rfl,rfl,⟨by decide,by decide,big⟩,_,_,rfl,rfl,(by decide:(0:Int) < 2147483629),?_⟩
    generalize (y+7919 * (z+1) * (z+1)+104729 * (z+1)+5) ^ (3:Int).toNat=yy
    have o1:=Int.emod_nonneg yy (show (2147483629:Int)≠0 by decide)
    have o2:=Int.emod_lt_of_pos yy (show (0:Int) < 2147483629 by decide)
    generalize hoo:yy % 2147483629=oo at o1 o2
    have oz:0≤oo * (z+1+40692)∧oo * (z+1+40692)≤2147483629 * 1040693:=⟨Int.mul_nonneg (by omega) (by omega),Int.mul_le_mul (by omega) (by omega) (by omega) (by omega)⟩
    refine ⟨_,rfl,_,rfl,_,_,rfl,rfl,_,_,rfl,rfl,.inr ⟨by omega,by omega⟩,_,_,rfl,rfl,_,_,rfl,rfl,⟨by decide,by decide,by
      show (yy % 2147483629 * (z+1+40692)+11).natAbs < 2 ^ 64
      rw [hoo]
      have e64:(2:Nat) ^ 64=18446744073709551616:=by decide
      rw [e64]
      omega⟩,_,_,rfl,rfl,(by decide:(0:Int) < 2147483563),?_⟩
    refine ⟨_,rfl,_,_,rfl,rfl,⟨by decide,big18 (by decide)⟩,_,rfl,_,_,rfl,rfl,m0,?_⟩
    exact q _ _ (Int.emod_nonneg _ (by omega)) (Int.emod_lt_of_pos _ m0) ⟨⟨x,y,z+1,hp',y0,y1,by omega,by omega⟩,hk'⟩
end
end S40
namespace S40
open PySem L2 W7
section
variable {P:Program} {w:World} {K:PySem.W.Frag} {mg:Str→Option Value} {base:Heap} {k:Nat}
abbrev lpO:Pos:=⟨14,41,14,76⟩
abbrev qO:Str:=(("order_of" : Str) ++ ".<locals>.") ++ "<lambda>"
def Kw (ups:List Int) (lab:Str) (i:Nat):List V:=[.str (mk (W ups lab.cps.toList i)),.int (i:Int)]
theorem kw_keys (ups:List Int) (lab:Str) (n:Nat):Keys n (Kw ups lab) [2,1] where
  shp:=fun i=>rfl
  ne:=by simp
  z:=by simp
  inj:=fun i j _ _ h=>by
    have h2:[V.str (mk (W ups lab.cps.toList i)),.int (i:Int)]=[.str (mk (W ups lab.cps.toList j)),.int (j:Int)]:=h
    simp only [List.cons.injEq,V.int.injEq,and_true] at h2
    omega
structure OrderOk (ups:List Int) (lab:Str) (os:List Nat):Prop where
  perm:os.Perm (List.range ups.length)
  rise:∀ i j,i < j→j < ups.length→lexV (Kw ups lab (os.getD j 0)) (Kw ups lab (os.getD i 0))=false
theorem OrderOk.len {ups:List Int} {lab:Str} {os:List Nat} (h:OrderOk ups lab os):os.length=ups.length:=by have:=h.perm.length_eq;simpa using this
abbrev natV (l:List Nat):List V:=l.map fun i:Nat=>V.int (i:Int)
theorem natV_ints (l:List Nat):natV l=(l.map fun i:Nat=>(i:Int)).map V.int:=by unfold natV;rw [List.map_map];rfl
theorem wordsV_at {ups:List Int} {lab:Str} {i n:Nat} (h:i < n):atI (wordsV ups lab n) (i:Int)=some (.str (mk (W ups lab.cps.toList i))):=atI_nat (by unfold wordsV;rw [List.getElem?_map,List.getElem?_range h];rfl)
def sp_order (ls:List Lm):Sp:=fun vs H Q _=>∃ (t:Addr) (ups:List Int) (lab:Str),vs=[.ref t]∧TreeAt H t ups lab∧Lams ls H ∧
  ∀ (os:List Nat) (r:Addr) (H':Hp),OrderOk ups lab os→Kt ls H H'→H r=none→H' r=some (.lst (natV os))→Q (.ref r) H'
theorem has_order {T:Addr} {ls:List Lm} (D:Df K mg "order_of" s_order_of) (B:Blt7 mg) (kb:K.In base) (TA:TabAt base mg "order_of" T) (LK:LmOk ls) (LI:(T,lpO,qO)∈ls) (G_words_of:Has P w K mg base "words_of" k ["tree"] sp_words):Has P w K mg base "order_of" (k+1) ["tree"] (sp_order ls):=by
  refine D.hasT kb TA sc_order_of (fun _ _ _ _ _ _ us hl=>match us,hl with | [_],_=>rfl) (fun vs H Q E h=>by obtain ⟨t,ups,lab,rfl,_⟩:=h;rfl) (fun f c A outer s H vs Q E CH hr h=>?_)
  have BA:=TA.blt
  obtain ⟨t,ups,lab,rfl,tr,L,q⟩:=h
  refine ⟨_,(pss_cons (ps_set (i:=1) sc_order_of.nd rfl (by first | exact Or.inl rfl | exact Or.inr rfl) (pe_callH G_words_of hr rfl (pa_cons (pv 0) pa_nil)))
  (pss_one (ps_ret (pe_sortLam (x := "place") (ix:=[1]) hr rfl rfl B.sorted (pe_rng1 rfl B.range (pa_cons (pe_callB call_len_seq rfl B.len bt_len (pa_cons (pv 1) pa_nil)) pa_nil)) rfl CH BA LK LI (csc (defScope s_order_of) N_order_of) (fun qual cl fa cd A1 s₃ H₃ pins=>(pe_tup (pa_cons (pe_ix (ix_listK K) (pv 1) (pv 0) (fun _ _=>rfl)) (pa_cons (pv 0) pa_nil)))))))),?_⟩
  obtain ⟨_,_,_,ok⟩:=id tr
  have m60:=ok.most
  have lpos:=ok.pos
  refine ⟨_,rfl,t,ups,lab,rfl,tr,fun r H1 s1 hr1=>?_⟩
  have wl:(wordsV ups lab ups.length).length=ups.length:=by simp [wordsV]
  have L1:=L.same s1
  refine ⟨_,rfl,r,_,rfl,.inl (SqL.of hr1),_,rfl,fun g hg=>?_⟩
  have s2:Same H1 (upd H1 g (.rng 0 (((wordsV ups lab ups.length).length:Nat):Int))):=(Same.refl H1).new hg
  refine ⟨g,0,_,Kw ups lab,[2,1],rfl,upd_same,⟨by decide,by decide,by omega,by omega⟩,by omega,L1.same s2,kw_keys _ _ _,fun i H2 hi kt=>?_,fun p l H2 hp hrise kt hl hl2=>?_⟩
  · have hr2:=kt.lst (s2 _ _ hr1)
    rw [wl] at hi
    have e0:(0:Int)+(i:Int)=(i:Int):=Int.zero_add _
    refine ⟨_,rfl,_,rfl,r,_,_,_,rfl,rfl,SqL.of hr2,by rw [e0];exact wordsV_at (by omega),_,rfl,(by show 2≤sizeLine;decide),fun a ha=>⟨a,rfl,?_,(Same.refl H2).new ha⟩⟩
    rw [upd_same]
    unfold Kw
    rw [e0]
  · have e1:((((wordsV ups lab ups.length).length:Nat):Int) - 0).toNat=ups.length:=by rw [wl];omega
    rw [e1] at hp hrise
    refine q p l H2 ⟨hp,hrise⟩ ((s1.trans s2).kt kt) ((s1.trans s2).free hl) ?_
    rw [hl2]
    congr 2
    unfold natV
    refine List.map_congr_left fun i _=>?_
    rw [Int.zero_add]
theorem rise_true {ups:List Int} {lab:Str} {os:List Nat} (h:OrderOk ups lab os) {i j:Nat} (hij:i < j) (hj:j < ups.length):lexV (Kw ups lab (os.getD i 0)) (Kw ups lab (os.getD j 0))=true:=by
  cases e:lexV (Kw ups lab (os.getD i 0)) (Kw ups lab (os.getD j 0)) with
  | true=>rfl
  | false=>
    exfalso
    have z:=(kw_keys ups lab ups.length)
    have ek:=lexV_tot _ _ ((z.shp (os.getD i 0)).trans (z.shp (os.getD j 0)).symm) (by rw [z.shp];exact z.z) e (h.rise i j hij hj)
    have ln:=h.len
    have e2:os.getD i 0=os.getD j 0:=by
      have h2:[V.str (mk (W ups lab.cps.toList (os.getD i 0))),.int ((os.getD i 0:Nat):Int)]=[.str (mk (W ups lab.cps.toList (os.getD j 0))),.int ((os.getD j 0:Nat):Int)]:=ek
      simp only [List.cons.injEq,V.int.injEq,and_true] at h2
      omega
    have nd:os.Nodup:=h.perm.nodup_iff.mpr List.nodup_range
    rw [List.getD_eq_getElem?_getD,List.getD_eq_getElem?_getD,List.getElem?_eq_getElem (by omega),List.getElem?_eq_getElem (by omega)] at e2
    have:=(List.getElem_inj nd).mp (show os[i]'(by omega)=os[j]'(by omega) from e2)
    omega
theorem count_split (f:Nat→Bool):∀ (l:List Nat) (j:Nat),j≤l.length→(∀ i,i < j→f (l.getD i 0)=true)→(∀ i,j≤i→i < l.length→f (l.getD i 0)=false)→(l.filter f).length=j
  | [],j,h,_,_=>by simp at h;simp [h]
  | x :: l,0,_,_,b=>by
    have hx:f x=false:=b 0 (Nat.le_refl _) (by simp)
    rw [List.filter_cons_of_neg (by rw [hx];simp)]
    exact count_split f l 0 (Nat.zero_le _) (fun i hi=>absurd hi (Nat.not_lt_zero _)) fun i _ hi=>b (i+1) (Nat.zero_le _) (by simpa using hi)
  | x :: l,j+1,h,a,b=>by
    have hx:f x=true:=a 0 (Nat.succ_pos _)
    rw [List.filter_cons_of_pos hx,List.length_cons,count_split f l j (by simpa using h) (fun i hi=>a (i+1) (by omega)) fun i h1 h2=>b (i+1) (by omega) (by simpa using h2)]
def cnt (ups:List Int) (lab:Str) (p:Nat):Nat:=((List.range ups.length).filter fun i=>lexV (Kw ups lab i) (Kw ups lab p)).length
theorem cnt_rank {ups:List Int} {lab:Str} {os:List Nat} (h:OrderOk ups lab os) {j:Nat} (hj:j < ups.length):cnt ups lab (os.getD j 0)=j:=by
  have ln:=h.len
  have e:(os.filter fun i=>lexV (Kw ups lab i) (Kw ups lab (os.getD j 0))).length=j:=by
    refine count_split _ os j (by omega) (fun i hi=>rise_true h hi hj) fun i h1 h2=>?_
    rcases Nat.eq_or_lt_of_le h1 with q | q
    · rw [← q]
      cases e:lexV (Kw ups lab (os.getD j 0)) (Kw ups lab (os.getD j 0)) with
      | false=>rfl
      | true=>have:=lexV_asym _ _ e;rw [e] at this;cases this
    · exact h.rise j i q (by omega)
  have e2:=(h.perm.filter (fun i=>lexV (Kw ups lab i) (Kw ups lab (os.getD j 0)))).length_eq
  unfold cnt
  rw [← e2]
  exact e
def sp_ranks (ls:List Lm):Sp:=fun vs H Q _=>∃ (t:Addr) (ups:List Int) (lab:Str),vs=[.ref t]∧TreeAt H t ups lab∧Lams ls H ∧
  ∀ (os:List Nat) (r:Addr) (H':Hp),OrderOk ups lab os→Kt ls H H'→H r=none→H' r=some (.lst (natV ((List.range ups.length).map (cnt ups lab))))→Q (.ref r) H'
theorem has_ranks {ls:List Lm} (D:Df K mg "ranks_of" s_ranks_of) (B:Blt7 mg) (G_order_of:Has P w K mg base "order_of" k ["tree"] (sp_order ls)):Has P w K mg base "ranks_of" (k+1) ["tree"] (sp_ranks ls):=by
  refine D.has sc_ranks_of (fun _ _ _ _ _ _ us hl=>match us,hl with | [_],_=>rfl) (fun vs H Q E h=>by obtain ⟨t,ups,lab,rfl,_⟩:=h;rfl) (fun f cdv A outer s H vs Q E hr h=>?_)
  obtain ⟨t,ups,lab,rfl,tr,L,q⟩:=h
  refine ⟨_,(pss_cons (ps_set (i:=1) sc_ranks_of.nd rfl (by first | exact Or.inl rfl | exact Or.inr rfl) (pe_callH G_order_of hr rfl (pa_cons (pv 0) pa_nil)))
  (pss_cons (ps_set (i:=2) sc_ranks_of.nd rfl (by first | exact Or.inl rfl | exact Or.inr rfl) (pe_op op_rep (pe_lst (pa_cons pe_int pa_nil)) (pe_callB call_len_seq rfl B.len bt_len (pa_cons (pv 1) pa_nil))))
  (pss_cons (ps_for PassesOwn.never rfl (pi_enum rfl B.enumerate (pa_cons (pv 1) pa_nil)) (pg_tup rfl (pgs_cons (pg_name (i:=3) sc_ranks_of.nd rfl (by first | exact Or.inl rfl | exact Or.inr rfl)) (pgs_cons (pg_name (i:=4) sc_ranks_of.nd rfl (by first | exact Or.inl rfl | exact Or.inr rfl)) pgs_nil)))
  (pss_one (ps_asg (pv 3) (pg_sub (pv 2) (pv 4) set_list))))
  (pss_one (ps_ret (pv 2)))))),?_⟩
  obtain ⟨_,_,_,ok⟩:=id tr
  have m60:=ok.most
  have lpos:=ok.pos
  refine ⟨_,rfl,t,ups,lab,rfl,tr,L,fun os r H1 oo k1 hf1 hr1=>?_⟩
  have ol:=oo.len
  have nl:(natV os).length=ups.length:=by rw [List.length_map,ol]
  refine ⟨(by show 1≤sizeLine;decide),fun z hz=>?_⟩
  have s2:Same H1 (upd H1 z (.lst [.int 0])):=(Same.refl H1).new hz
  refine ⟨_,rfl,r,_,rfl,.inl (SqL.of (s2 _ _ hr1)),z,_,_,rfl,rfl,upd_same,by omega,by omega,?_,fun r2 hr2=>?_⟩
  · rw [nl,List.length_singleton,Nat.one_mul]
    exact Nat.le_of_lt (small1000 (by omega))
  have eF:(List.replicate ((((natV os).length:Nat):Int)).toNat [V.int 0]).flatten=(List.replicate ups.length (0:Int)).map V.int:=by
    rw [nl,Int.toNat_natCast]
    induction ups.length with
    | zero=>rfl
    | succ m ih=>rw [List.replicate_succ,List.flatten_cons,ih,List.replicate_succ];rfl
  rw [eF]
  have s3:Same (upd H1 z (.lst [.int 0])) (upd (upd H1 z (.lst [.int 0])) r2 (.lst ((List.replicate ups.length (0:Int)).map V.int))):=(Same.refl _).new hr2
  have h22:upd (upd H1 z (.lst [.int 0])) r2 (.lst ((List.replicate ups.length (0:Int)).map V.int)) r2=some (.lst ((List.replicate ups.length (0:Int)).map V.int)):=upd_same
  have f2:H1 r2=none:=s2.free hr2
  have s4:=s2.trans s3
  generalize upd (upd H1 z (.lst [.int 0])) r2 (.lst ((List.replicate ups.length (0:Int)).map V.int))=H4 at s4 h22
  have h41:=s4 _ _ hr1
  have rr:r≠r2:=ne_of_none hr1 f2
  refine ⟨_,rfl,.lst r,rfl,⟨_,.inl h41⟩,?_⟩
  refine for_enum (xs:=natV os) (fun j σ H'=>∃ o3 o4:Option V,∃ rs:List Int,σ=[some (.ref t),some (.ref r),some (.ref r2),o3,o4]∧Kt ls H H'∧H' r=some (.lst (natV os))∧H' r2=some (.lst (rs.map V.int))∧rs.length=ups.length∧∀ i p,i < j→os[i]?=some p→rs[p]?=some (i:Int))
    ⟨none,none,_,rfl,k1.same s4,h41,h22,List.length_replicate ..,fun i p hi=>absurd hi (Nat.not_lt_zero _)⟩ (fun j σ H' _ h=>by obtain ⟨_,_,_,_,_,h,_⟩:=h;exact .inl h) ?_ ?_
  · rintro j x σ H' p hx ⟨o3,o4,rs,rfl,kt,g1,g2,rl,hrs⟩ hp
    rw [natV,List.getElem?_map] at hx
    cases e1:os[j]? with
    | none=>rw [e1] at hx;cases hx
    | some pl=>
      rw [e1] at hx
      cases hx
      have pll:pl < ups.length:=List.mem_range.mp (oo.perm.mem_iff.mp (List.mem_of_getElem? e1))
      have jl:j < os.length:=(List.getElem?_eq_some_iff.mp e1).1
      refine ⟨p,_,rfl,SqT.of upd_same,rfl,_,_,rfl,_,_,rfl,rfl,?_⟩
      have g1':upd H' p (.tup [.int (j:Int),.int (pl:Int)]) r=some (.lst (natV os)):=by rw [upd_ne (ne_of_none g1 hp)];exact g1
      have g2':upd H' p (.tup [.int (j:Int),.int (pl:Int)]) r2=some (.lst (rs.map V.int)):=by rw [upd_ne (ne_of_none g2 hp)];exact g2
      have kt':Kt ls H (upd H' p (.tup [.int (j:Int),.int (pl:Int)])):=kt.same ((Same.refl H').new hp)
      refine ⟨_,rfl,_,rfl,_,rfl,r2,_,_,pl,rfl,rfl,g2',?_,_,_,rs.set pl (j:Int),rfl,kt'.write ?_ g2',?_,?_,by rw [List.length_set];exact rl,fun i p' hi hp'=>?_⟩
      · unfold ixN
        rw [List.length_map,rl,if_pos (by omega),if_pos (by omega),Int.toNat_natCast]
      · exact k1.here _ f2
      · rw [upd_ne rr];exact g1'
      · rw [upd_same,List.map_set]
      · rcases Nat.lt_or_ge i j with c | c
        · have nd:os.Nodup:=oo.perm.nodup_iff.mpr List.nodup_range
          have ne:pl≠p':=fun e=>by
            subst e
            have i1:=(List.getElem?_eq_some_iff.mp hp')
            have i2:=(List.getElem?_eq_some_iff.mp e1)
            have:=(List.getElem_inj nd).mp (i1.2.trans i2.2.symm)
            omega
          rw [List.getElem?_set_ne ne]
          exact hrs i p' c hp'
        · have ei:i=j:=by omega
          subst ei
          rw [e1] at hp';cases hp'
          rw [List.getElem?_set_self (by omega)]
  · rintro σ H' ⟨o3,o4,rs,rfl,kt,g1,g2,rl,hrs⟩
    refine ⟨_,rfl,q os r2 H' oo kt (k1.here _ f2) ?_⟩
    rw [g2]
    congr 2
    rw [natV_ints]
    congr 1
    apply List.ext_getElem?
    intro p
    rcases Nat.lt_or_ge p ups.length with c | c
    · have hm:p∈os:=oo.perm.mem_iff.mpr (List.mem_range.mpr c)
      obtain ⟨i,hi,e⟩:=List.getElem_of_mem hm
      have ei:os[i]?=some p:=by rw [List.getElem?_eq_getElem hi,e]
      rw [hrs i p (by rw [nl];omega) ei,List.getElem?_map,List.getElem?_map,List.getElem?_range c]
      have ec:=cnt_rank oo (j:=i) (by omega)
      rw [List.getD_eq_getElem?_getD,ei,Option.getD_some] at ec
      show _=some ((cnt ups lab p:Nat):Int)
      rw [ec]
    · rw [List.getElem?_eq_none (by omega),List.getElem?_eq_none (by simp;omega)]
abbrev lpK:Pos:=⟨30,48,30,88⟩
abbrev qK:Str:=(("kept_order" : Str) ++ ".<locals>.") ++ "<lambda>"
theorem cnt_pos {ups:List Int} {lab:Str} {os:List Nat} (h:OrderOk ups lab os) {a:Nat} (ha:a < ups.length):∃ i,i < ups.length∧os.getD i 0=a∧cnt ups lab a=i:=by
  have ln:=h.len
  have hm:a∈os:=h.perm.mem_iff.mpr (List.mem_range.mpr ha)
  obtain ⟨i,hi,e⟩:=List.getElem_of_mem hm
  have e2:os.getD i 0=a:=by rw [List.getD_eq_getElem?_getD,List.getElem?_eq_getElem hi];exact e
  have e3:=cnt_rank h (j:=i) (by omega)
  rw [e2] at e3
  exact ⟨i,by omega,e2,e3⟩
theorem cnt_lex {ups:List Int} {lab:Str} {os:List Nat} (h:OrderOk ups lab os) {a b:Nat} (ha:a < ups.length) (hb:b < ups.length) (hab:a≠b):cnt ups lab a≠cnt ups lab b∧lexV (Kw ups lab a) (Kw ups lab b)=decide (cnt ups lab a < cnt ups lab b):=by
  obtain ⟨i,i1,i2,i3⟩:=cnt_pos h ha
  obtain ⟨j,j1,j2,j3⟩:=cnt_pos h hb
  have ne:i≠j:=fun e=>hab (by rw [← i2,← j2,e])
  rw [i3,j3]
  refine ⟨ne,?_⟩
  rcases Nat.lt_or_gt_of_ne ne with c | c
  · have:=rise_true h c j1
    rw [i2,j2] at this
    rw [this,decide_eq_true c]
  · have:=h.rise j i c i1
    rw [i2,j2] at this
    rw [this,decide_eq_false (by omega)]
def upN (ups:List Int) (i:Nat):Nat:=(ups.getD (i+1) 0).toNat
def Kr (ups:List Int) (lab:Str) (i:Nat):List V:=[.int ((cnt ups lab (upN ups i):Nat):Int),.int (1+(i:Int))]
def Kl (ups:List Int) (lab:Str) (i:Nat):List V:=[.str (mk (W ups lab.cps.toList (upN ups i))),.int ((upN ups i:Nat):Int),.int (1+(i:Int))]
theorem kr_keys (ups:List Int) (lab:Str) (n:Nat):Keys n (Kr ups lab) [1,1] where
  shp:=fun i=>rfl
  ne:=by simp
  z:=by simp
  inj:=fun i j _ _ h=>by
    unfold Kr at h
    simp only [List.cons.injEq,V.int.injEq,and_true] at h
    omega
theorem kl_keys (ups:List Int) (lab:Str) (n:Nat):Keys n (Kl ups lab) [2,1,1] where
  shp:=fun i=>rfl
  ne:=by simp
  z:=by simp
  inj:=fun i j _ _ h=>by
    unfold Kl at h
    simp only [List.cons.injEq,V.int.injEq,and_true] at h
    omega
theorem lex_cons (x y:V) (xs ys:List V):lexV (x :: xs) (y :: ys)=if x=y then lexV xs ys else ltV x y:=by rw [lexV]
theorem up_lt {ups:List Int} {lab:List Nat} (ok:TreeOk ups lab) {i:Nat} (hi:i < ups.length - 1):upN ups i < ups.length∧ups.getD (i+1) 0=((upN ups i:Nat):Int):=by
  have:=ok.up (i+1) (by omega) (by omega)
  unfold upN
  omega
theorem lex_same {ups:List Int} {lab:Str} {os:List Nat} (h:OrderOk ups lab os) (ok:TreeOk ups lab.cps.toList) {i j:Nat} (hi:i < ups.length - 1) (hj:j < ups.length - 1):lexV (Kr ups lab i) (Kr ups lab j)=lexV (Kl ups lab i) (Kl ups lab j):=by
  have ai:=(up_lt ok hi).1
  have aj:=(up_lt ok hj).1
  unfold Kr Kl
  generalize upN ups i=a at ai
  generalize upN ups j=b at aj
  by_cases e:a=b
  · subst e
    rw [lex_cons,if_pos rfl,lex_cons (.str _),if_pos rfl,lex_cons (.int (a:Int)),if_pos rfl]
  · obtain ⟨c1,c2⟩:=cnt_lex h ai aj e
    have n1:¬ (V.int ((cnt ups lab a:Nat):Int)=V.int ((cnt ups lab b:Nat):Int)):=fun z=>c1 (by injection z;omega)
    have n2:¬ (V.int (a:Int)=V.int (b:Int)):=fun z=>e (by injection z;omega)
    unfold Kw at c2
    rw [lex_cons,lex_cons (.int (a:Int)),if_neg n2] at c2
    rw [lex_cons,if_neg n1,lex_cons (.str _),lex_cons (.int (a:Int)),if_neg n2,c2]
    show decide (((cnt ups lab a:Nat):Int) < ((cnt ups lab b:Nat):Int))=_
    rw [Bool.eq_iff_iff,decide_eq_true_eq,decide_eq_true_eq]
    omega
structure KeptOk (ups:List Int) (lab:Str) (ks:List Nat):Prop where
  perm:ks.Perm (List.range (ups.length - 1))
  rise:∀ i j,i < j→j < ups.length - 1→lexV (Kl ups lab (ks.getD j 0)) (Kl ups lab (ks.getD i 0))=false
theorem KeptOk.len {ups:List Int} {lab:Str} {ks:List Nat} (h:KeptOk ups lab ks):ks.length=ups.length - 1:=by have:=h.perm.length_eq;simpa using this
theorem KeptOk.one {ups:List Int} {lab:Str} {os os':List Nat} (h:KeptOk ups lab os) (h':KeptOk ups lab os'):os=os':=rise_one (kl_keys ups lab (ups.length - 1)) h.perm h'.perm h.rise h'.rise
abbrev keptI (ks:List Nat):List Int:=0 :: ks.map fun i:Nat=>1+(i:Int)
def sp_kept (ls:List Lm):Sp:=fun vs H Q _=>∃ (t:Addr) (ups:List Int) (lab:Str),vs=[.ref t]∧TreeAt H t ups lab∧Lams ls H ∧
  ∀ (ks:List Nat) (r:Addr) (H':Hp),KeptOk ups lab ks→Kt ls H H'→H r=none→H' r=some (.lst ((keptI ks).map V.int))→Q (.ref r) H'
theorem has_kept {T:Addr} {ls:List Lm} (D:Df K mg "kept_order" s_kept_order) (B:Blt7 mg) (kb:K.In base) (TA:TabAt base mg "kept_order" T) (LK:LmOk ls) (LI:(T,lpK,qK)∈ls) (G_ranks_of:Has P w K mg base "ranks_of" k ["tree"] (sp_ranks ls)):Has P w K mg base "kept_order" (k+1) ["tree"] (sp_kept ls):=by
  refine D.hasT kb TA sc_kept_order (fun _ _ _ _ _ _ us hl=>match us,hl with | [_],_=>rfl) (fun vs H Q E h=>by obtain ⟨t,ups,lab,rfl,_⟩:=h;rfl) (fun f c A outer s H vs Q E CH hr h=>?_)
  have BA:=TA.blt
  obtain ⟨t,ups,lab,rfl,tr,L,q⟩:=h
  refine ⟨_,(pss_cons (ps_set (i:=1) sc_kept_order.nd rfl (by first | exact Or.inl rfl | exact Or.inr rfl) (pe_ix ix_tup (pv 0) pe_int (fun _ _=>rfl)))
  (pss_cons (ps_set (i:=2) sc_kept_order.nd rfl (by first | exact Or.inl rfl | exact Or.inr rfl) (pe_callH G_ranks_of hr rfl (pa_cons (pv 0) pa_nil)))
  (pss_one (ps_ret (pe_op op_cat (pe_lst (pa_cons pe_int pa_nil)) (pe_sortLam (x := "place") (ix:=[2,1]) hr rfl rfl B.sorted (pe_rng2 rfl B.range (pa_cons pe_int (pa_cons (pe_callB call_len_seq rfl B.len bt_len (pa_cons (pv 1) pa_nil)) pa_nil))) rfl CH BA LK LI (csc (defScope s_kept_order) N_kept_order) (fun qual cl fa cd A1 s₃ H₃ pins=>(pe_tup (pa_cons (pe_ix (ix_listK K) (pv 1) (pe_ix (ix_tupK K) (pv 2) (pv 0) (fun _ _=>rfl)) (fun _ _=>rfl)) (pa_cons (pv 0) pa_nil)))))))))),?_⟩
  obtain ⟨u,ht,hu,ok⟩:=id tr
  have m60:=ok.most
  have lpos:=ok.pos
  refine ⟨_,rfl,t,_,_,_,rfl,rfl,SqT.of ht,rfl,?_⟩
  refine ⟨_,rfl,t,ups,lab,rfl,tr,L,fun os r H1 oo k1 hf1 hr1=>?_⟩
  have hu1:=k1.tup hu
  refine ⟨(by show 1≤sizeLine;decide),fun z hz=>?_⟩
  have s2:Same H1 (upd H1 z (.lst [.int 0])):=(Same.refl H1).new hz
  have z2:upd H1 z (.lst [.int 0]) z=some (.lst [.int 0]):=upd_same
  generalize upd H1 z (.lst [.int 0])=H2 at s2 z2
  have hr2:=s2 _ _ hr1
  have hu2:=s2 _ _ hu1
  have L2':Lams ls H2:=k1.lam.same s2
  refine ⟨_,rfl,u,_,rfl,.inr (SqT.of hu2),_,_,rfl,fun g hg=>?_⟩
  have s3:Same H2 (upd H2 g (.rng 1 (((ups.map V.int).length:Nat):Int))):=(Same.refl H2).new hg
  have ul:(ups.map V.int).length=ups.length:=List.length_map _
  refine ⟨g,1,_,Kr ups lab,[1,1],rfl,upd_same,⟨by decide,by decide,by omega,by omega⟩,by omega,L2'.same s3,kr_keys _ _ _,fun i H3 hi kt=>?_,fun p l H3 hp hrise kt hl hl2=>?_⟩
  · have hi':i < ups.length - 1:=by omega
    have hr3:=kt.lst (s3 _ _ hr2)
    have hu3:=kt.tup (s3 _ _ hu2)
    have e1:(1+(i:Int)).toNat=i+1:=by omega
    obtain ⟨ul1,ul2⟩:=up_lt ok hi'
    refine ⟨_,rfl,_,rfl,_,rfl,u,_,_,_,rfl,rfl,SqT.of hu3,(ints_at (us:=ups) (i:=1+(i:Int)) (by omega) (by omega)),r,_,_,_,rfl,rfl,SqL.of hr3,?_,_,rfl,(by show 2≤sizeLine;decide),fun a ha=>⟨a,rfl,upd_same,(Same.refl H3).new ha⟩⟩
    rw [e1,ul2]
    refine atI_nat ?_
    rw [natV,List.map_map,List.getElem?_map,List.getElem?_range ul1];rfl
  · have e1:((((ups.map V.int).length:Nat):Int) - 1).toNat=ups.length - 1:=by omega
    rw [e1] at hp hrise
    have mem:∀ i,i < ups.length - 1→p.getD i 0 < ups.length - 1:=fun i hi=>by
      have pl:p.length=ups.length - 1:=by have:=hp.length_eq;simpa using this
      rw [List.getD_eq_getElem?_getD,List.getElem?_eq_getElem (by omega)]
      exact List.mem_range.mp (hp.mem_iff.mp (List.getElem_mem _))
    have ko:KeptOk ups lab p:=⟨hp,fun i j hij hj=>by
      rw [← lex_same oo ok (mem j hj) (mem i (by omega))];exact hrise i j hij hj⟩
    have kl:=ko.len
    have z3:=kt.lst (s3 _ _ z2)
    refine ⟨z,l,_,_,rfl,rfl,z3,hl2,?_,fun pp hpp=>q p pp _ ko ?_ ?_ ?_⟩
    · rw [List.length_map,kl]
      exact Nat.le_of_lt (small1000 (by simp only [List.length_cons,List.length_nil];omega))
    · exact (k1.same (s2.trans s3)).trans (kt.same ((Same.refl H3).new hpp))
    · exact k1.here _ ((s2.trans s3).free (kt.here _ hpp))
    · rw [upd_same,List.map_cons,List.map_map];rfl
end
end S40
namespace S40
open PySem L2 W7
section
variable {P:Program} {w:World} {K:PySem.W.Frag} {mg:Str→Option Value} {base:Heap} {k:Nat}
def ben (ups:List Int) (p:Int) (m:Nat):List Nat:=(List.range m).filter fun j=>decide (ups.getD j 0=p)
theorem ben_succ (ups:List Int) (p:Int) (m:Nat):ben ups p (m+1)=if ups.getD m 0=p then ben ups p m++[m] else ben ups p m:=by
  unfold ben
  rw [List.range_succ,List.filter_append]
  by_cases h:ups.getD m 0=p
  · rw [if_pos h,List.filter_cons_of_pos (by simpa using h)];rfl
  · rw [if_neg h,List.filter_cons_of_neg (by simpa using h)];simp
theorem ben_le (ups:List Int) (p:Int) (m:Nat):(ben ups p m).length≤m:=by
  have:=List.length_filter_le (fun j=>decide (ups.getD j 0=p)) (List.range m)
  simpa [ben] using this
def sp_beneath:Sp:=fun vs H Q _=>∃ (t:Addr) (ups:List Int) (lab:Str) (p:Int),vs=[.ref t,.int p]∧TreeAt H t ups lab ∧
  ∀ (r:Addr) (H':Hp),Same H H'→H r=none→H' r=some (.lst (natV (ben ups p ups.length)))→Q (.ref r) H'
theorem has_beneath (D:Df K mg "beneath_of" s_beneath_of) (B:Blt7 mg):Has P w K mg base "beneath_of" (k+1) ["tree", "place"] sp_beneath:=by
  refine D.has sc_beneath_of (fun _ _ _ _ _ _ us hl=>match us,hl with | [_,_],_=>rfl) (fun vs H Q E h=>by obtain ⟨t,ups,lab,p,rfl,_⟩:=h;rfl) (fun f cdv A outer s H vs Q E hr h=>?_)
  obtain ⟨t,ups,lab,p,rfl,tr,q⟩:=h
  refine ⟨_,(pss_one (ps_ret (pe_comp rfl (pi_enum rfl B.enumerate (pa_cons (pe_ix ix_tup (pv 0) pe_int (fun _ _=>rfl)) pa_nil)) (NL:=["other", "up"]) (ix:=[1]) (csc (defScope s_beneath_of) N_beneath_of) (fun cl C s₃ H₃ fp pins=>⟨(pg_tupK K (n:=2) rfl (pgs_cons (pg_name (i:=0) (show List.Nodup (["other", "up", "place"]:List Str) from by decide +kernel) rfl (by first | exact Or.inl rfl | exact Or.inr rfl)) (pgs_cons (pg_name (i:=1) (show List.Nodup (["other", "up", "place"]:List Str) from by decide +kernel) rfl (by first | exact Or.inl rfl | exact Or.inr rfl)) pgs_nil))),(pifs_one (pt_cmpR op_eq (pv 1) (pv 2) (nomark _))),(pv 0)⟩)))),?_⟩
  obtain ⟨u,ht,hu,ok⟩:=id tr
  have m60:=ok.most
  refine ⟨_,rfl,t,_,_,_,rfl,rfl,SqT.of ht,rfl,.tup u,rfl,⟨_,.inl hu⟩,fun acc hacc=>?_⟩
  refine comp_enum (xs:=ups.map V.int) (by rw [List.length_map];omega) (fun i ys H2=>H2 acc=some (.lst ys)∧ys=natV (ben ups p i)∧Same H H2)
    (fun i ys H2 h=>.inl (h.2.2 _ _ hu)) (fun i ys H2 h=>⟨h.1,by rw [h.2.1,natV,List.length_map];exact ben_le _ _ _⟩) ⟨upd_same,rfl,(Same.refl H).new hacc⟩ ?_ ?_
  · rintro ys H2 ⟨g1,rfl,g3⟩
    rw [List.length_map] at g1
    exact q acc H2 g3 hacc g1
  · rintro i x ys H2 pp hx ⟨g1,rfl,g3⟩ hpp
    rw [List.getElem?_map] at hx
    cases e1:ups[i]? with
    | none=>rw [e1] at hx;cases hx
    | some v=>
      rw [e1] at hx
      cases hx
      have ev:ups.getD i 0=v:=by rw [List.getD_eq_getElem?_getD,e1];rfl
      refine ⟨pp,_,rfl,SqT.of upd_same,rfl,_,_,rfl,_,_,rfl,rfl,?_⟩
      refine ⟨rfl,?_⟩
      have g1':upd H2 pp (.tup [.int (i:Int),.int v]) acc=some (.lst (natV (ben ups p i))):=by rw [upd_ne (ne_of_none g1 hpp)];exact g1
      refine ⟨_,rfl,_,rfl,rfl,_,rfl,ite2 (fun cnd=>?_) (fun cnd=>?_)⟩
      · have ec:v=p:=by
          have:=of_decide_eq_true cnd
          injection this
        exact ⟨_,rfl,g1',upd_same,by rw [ben_succ,if_pos (ev.trans ec),natV,natV,List.map_append];rfl,(g3.new hpp).write hacc⟩
      · have ec:v≠p:=fun z=>cnd (by rw [z];exact decide_eq_true rfl)
        exact ⟨g1',by rw [ben_succ,if_neg (by rw [ev];exact ec)],g3.new hpp⟩
def leafB (ups:List Int) (p:Int):Bool:=!inV (.int p) (ups.map V.int)
def sp_leaf:Sp:=fun vs H Q _=>∃ (t:Addr) (ups:List Int) (lab:Str) (p:Int),vs=[.ref t,.int p]∧TreeAt H t ups lab∧Q (.bl (leafB ups p)) H
theorem has_leaf (D:Df K mg "is_leaf" s_is_leaf) (B:Blt7 mg):Has P w K mg base "is_leaf" (k+1) ["tree", "place"] sp_leaf:=by
  refine D.has sc_is_leaf (fun _ _ _ _ _ _ us hl=>match us,hl with | [_,_],_=>rfl) (fun vs H Q E h=>by obtain ⟨t,ups,lab,p,rfl,_⟩:=h;rfl) (fun f cdv A outer s H vs Q E hr h=>?_)
  obtain ⟨t,ups,lab,p,rfl,tr,q⟩:=h
  refine ⟨_,(pss_one (ps_ret (pe_cmpR op_notIn_seq (pv 1) (pe_ix ix_tup (pv 0) pe_int (fun _ _=>rfl)) (by with_unfolding_all rfl)))),?_⟩
  obtain ⟨u,ht,hu,ok⟩:=id tr
  exact ⟨_,rfl,_,rfl,t,_,_,_,rfl,rfl,SqT.of ht,rfl,u,_,rfl,.inr (SqT.of hu),rfl,flat_ints _,q⟩
def lastB (ups:List Int) (j:Nat):Bool:=decide (j=0) || decide ((ben ups (ups.getD j 0) ups.length).getLast?=some j)
def sp_last:Sp:=fun vs H Q _=>∃ (t:Addr) (ups:List Int) (lab:Str) (j:Nat),vs=[.ref t,.int (j:Int)]∧TreeAt H t ups lab∧j < ups.length∧∀ H':Hp,Same H H'→Q (.bl (lastB ups j)) H'
theorem has_last (D:Df K mg "is_last" s_is_last) (B:Blt7 mg) (G_beneath_of:Has P w K mg base "beneath_of" k ["tree", "place"] sp_beneath):Has P w K mg base "is_last" (k+1) ["tree", "place"] sp_last:=by
  refine D.has sc_is_last (fun _ _ _ _ _ _ us hl=>match us,hl with | [_,_],_=>rfl) (fun vs H Q E h=>by obtain ⟨t,ups,lab,p,rfl,_⟩:=h;rfl) (fun f cdv A outer s H vs Q E hr h=>?_)
  obtain ⟨t,ups,lab,j,rfl,tr,hj,q⟩:=h
  refine ⟨_,(pss_one (ps_ret (pe_or (pe_cmpR op_eq (pv 1) pe_int (nomark _)) (pe_one (pe_cmpR op_eq (pv 1) (pe_ix ix_list (pe_callH G_beneath_of hr rfl (pa_cons (pv 0) (pa_cons (pe_ix ix_tup (pe_ix ix_tup (pv 0) pe_int (fun _ _=>rfl)) (pv 1) (fun _ _=>rfl)) pa_nil))) (pe_un un_neg pe_int) (fun _ _=>rfl)) (nomark _)))))),?_⟩
  obtain ⟨u,ht,hu,ok⟩:=id tr
  have m60:=ok.most
  refine ⟨_,rfl,rfl,_,rfl,ite2 (fun cnd=>?_) (fun cnd=>?_)⟩
  · have z:=of_decide_eq_true cnd
    have z0:j=0:=by injection z with z;omega
    have e:lastB ups j=true:=by unfold lastB;rw [z0];rfl
    have:=q H (Same.refl H)
    rw [e] at this
    exact this
  · have nz:j≠0:=fun e=>cnd (by rw [e];exact decide_eq_true rfl)
    have hat:=ints_at (us:=ups) (i:=(j:Int)) (by omega) (by omega)
    rw [Int.toNat_natCast] at hat
    refine ⟨_,rfl,_,rfl,_,rfl,t,_,_,_,rfl,rfl,SqT.of ht,rfl,_,rfl,u,_,_,_,rfl,rfl,SqT.of hu,hat,t,ups,lab,_,rfl,tr,fun r H1 s1 hf1 hr1=>?_⟩
    have hm:j∈ben ups (ups.getD j 0) ups.length:=by
      unfold ben
      rw [List.mem_filter]
      exact ⟨List.mem_range.mpr hj,decide_eq_true rfl⟩
    have el:lastB ups j=decide ((ben ups (ups.getD j 0) ups.length).getLast?=some j):=by unfold lastB;rw [decide_eq_false nz,Bool.false_or]
    generalize ben ups (ups.getD j 0) ups.length=bs at hm el hr1
    rcases List.eq_nil_or_concat bs with eb | ⟨bi,bl,eb⟩
    · rw [eb] at hm;cases hm
    · rw [List.concat_eq_append] at eb
      subst eb
      have hat2:atI (natV (bi++[bl])) (-1)=some (.int (bl:Int)):=by rw [natV,List.map_append];exact atI_last _ _
      refine ⟨_,rfl,r,_,_,_,rfl,rfl,SqL.of hr1,hat2,rfl,?_⟩
      have:=q H1 s1
      rw [el,List.getLast?_concat] at this
      have e2:decide (V.int (j:Int)=V.int (bl:Int))=decide (some bl=some j):=by
        rw [Bool.eq_iff_iff,decide_eq_true_eq,decide_eq_true_eq]
        constructor
        · intro z;injection z with z;rw [show bl=j by omega]
        · intro z;injection z with z;rw [z]
      rw [e2]
      exact this
abbrev keptN (ks:List Nat):List Nat:=0 :: ks.map (·+1)
def oneS (lab:Str) (j:Nat):Str:=⟨#[lab.cps.toList.getD j 0]⟩
def rowsText (lab:Str) (ks:List Nat):Str:=Txt.join (Str.ofString "") ((keptN ks).map (oneS lab))
def sp_rows (ls:List Lm):Sp:=fun vs H Q _=>∃ (t:Addr) (ups:List Int) (lab:Str),vs=[.ref t]∧TreeAt H t ups lab∧Lams ls H ∧
  ∀ (ks:List Nat) (r a b:Addr) (H':Hp),KeptOk ups lab ks→Kt ls H H'→H r=none→H' r=some (.tup [.str (rowsText lab ks),.ref a,.ref b]) →
    H' a=some (.tup ((keptN ks).map fun j=>.bl (lastB ups j)))→H' b=some (.tup ((keptN ks).map fun j:Nat=>.bl (leafB ups (j:Int))))→Q (.ref r) H'
theorem has_rows {ls:List Lm} (D:Df K mg "rows_of" s_rows_of) (B:Blt7 mg) (G_kept_order:Has P w K mg base "kept_order" k ["tree"] (sp_kept ls)) (G_is_last:Has P w K mg base "is_last" k ["tree", "place"] sp_last) (G_is_leaf:Has P w K mg base "is_leaf" k ["tree", "place"] sp_leaf):Has P w K mg base "rows_of" (k+1) ["tree"] (sp_rows ls):=by
  refine D.has sc_rows_of (fun _ _ _ _ _ _ us hl=>match us,hl with | [_],_=>rfl) (fun vs H Q E h=>by obtain ⟨t,ups,lab,rfl,_⟩:=h;rfl) (fun f cdv A outer s H vs Q E hr h=>?_)
  obtain ⟨t,ups,lab,rfl,tr,L,q⟩:=h
  refine ⟨_,(pss_cons (ps_set (i:=1) sc_rows_of.nd rfl (by first | exact Or.inl rfl | exact Or.inr rfl) (pe_callH G_kept_order hr rfl (pa_cons (pv 0) pa_nil)))
  (pss_cons (ps_set (i:=2) sc_rows_of.nd rfl (by first | exact Or.inl rfl | exact Or.inr rfl) (pe_bm PySem.F.plainAttrs_str PySem.F.slot_str_join PySem.F.type_str_join mt_join pe_str (pa_cons (pe_comp rfl (pi_list (pv 1)) (NL:=["place"]) (ix:=[0]) (csc (defScope s_rows_of) N_rows_of) (fun cl C s₃ H₃ fp pins=>⟨(pg_name (i:=0) (show List.Nodup (["place", "tree"]:List Str) from by decide +kernel) rfl (by first | exact Or.inl rfl | exact Or.inr rfl)),pifs_nil,(pe_ix ix_str (pe_ix (ix_tupK K) (pv 1) pe_int (fun _ _=>rfl)) (pv 0) (fun _ _=>rfl))⟩)) pa_nil)))
  (pss_cons (ps_set (i:=3) sc_rows_of.nd rfl (by first | exact Or.inl rfl | exact Or.inr rfl) (pe_callTy call_tuple_of rfl B.tuple_ bt_tuple (pa_cons (pe_comp rfl (pi_list (pv 1)) (NL:=["place"]) (ix:=[0]) (csc (defScope s_rows_of) N_rows_of) (fun cl C s₃ H₃ fp pins=>⟨(pg_name (i:=0) (show List.Nodup (["place", "tree"]:List Str) from by decide +kernel) rfl (by first | exact Or.inl rfl | exact Or.inr rfl)),pifs_nil,(pe_callH G_is_last hr rfl (pa_cons (pv 1) (pa_cons (pv 0) pa_nil)))⟩)) pa_nil)))
  (pss_cons (ps_set (i:=4) sc_rows_of.nd rfl (by first | exact Or.inl rfl | exact Or.inr rfl) (pe_callTy call_tuple_of rfl B.tuple_ bt_tuple (pa_cons (pe_comp rfl (pi_list (pv 1)) (NL:=["place"]) (ix:=[0]) (csc (defScope s_rows_of) N_rows_of) (fun cl C s₃ H₃ fp pins=>⟨(pg_name (i:=0) (show List.Nodup (["place", "tree"]:List Str) from by decide +kernel) rfl (by first | exact Or.inl rfl | exact Or.inr rfl)),pifs_nil,(pe_callH G_is_leaf hr rfl (pa_cons (pv 1) (pa_cons (pv 0) pa_nil)))⟩)) pa_nil)))
  (pss_one (ps_ret (pe_tup (pa_cons (pv 2) (pa_cons (pv 3) (pa_cons (pv 4) pa_nil)))))))))),?_⟩
  obtain ⟨u,ht,hu,ok⟩:=id tr
  have m60:=ok.most
  have lpos:=ok.pos
  refine ⟨_,rfl,t,ups,lab,rfl,tr,L,fun ks r1 H1 ko k1 hf1 hr1=>?_⟩
  have kl:=ko.len
  have ek:(keptI ks).map V.int=natV (keptN ks):=by
    rw [natV,keptI,keptN,List.map_cons,List.map_cons,List.map_map,List.map_map]
    congr 1
    refine List.map_congr_left fun i _=>?_
    show V.int (1+(i:Int))=V.int ((i+1:Nat):Int)
    congr 1;omega
  rw [ek] at hr1
  have kn:(keptN ks).length=ups.length:=by simp only [keptN,List.length_cons,List.length_map];omega
  have kin:∀ j∈keptN ks,j < ups.length:=fun j hj=>by
    rcases List.mem_cons.mp hj with z | z
    · omega
    · obtain ⟨i,hi,rfl⟩:=List.mem_map.mp z
      have:=List.mem_range.mp (ko.perm.mem_iff.mp hi)
      omega
  have q':=fun (r a b:Addr) (H':Hp)=>q ks r a b H' ko
  unfold rowsText at q'
  generalize keptN ks=ns at kn kin hr1 q'
  have nl:(natV ns).length=ups.length:=by rw [natV,List.length_map,kn]
  have ht1:=k1.tup ht
  have hu1:=k1.tup hu
  have tr1:TreeAt H1 t ups lab:=⟨u,ht1,hu1,ok⟩
  have ll:lab.cps.toList.length=ups.length:=ok.len.symm
  have lz:lab.length≤sizeLine:=Nat.le_of_lt (small1000 (by simp only [Str.length];rw [← Array.length_toList,ll];omega))
  have nget:∀ {i:Nat} {x:V},(natV ns)[i]?=some x→∃ j,ns[i]?=some j∧j < ups.length∧x=.int (j:Int):=fun {i x} hx=>by
    rw [natV,List.getElem?_map] at hx
    cases e1:ns[i]? with
    | none=>rw [e1] at hx;cases hx
    | some j=>rw [e1] at hx;cases hx;exact ⟨j,rfl,kin j (List.mem_of_getElem? e1),rfl⟩
  refine ⟨rfl,_,rfl,r1,rfl,⟨_,SqL.of hr1⟩,fun acc hacc=>?_⟩
  refine comp_lst (xs:=natV ns) (by omega) (fun i ys H2=>H2 acc=some (.lst ys)∧ys=((ns.take i).map (oneS lab)).map V.str∧Same H1 H2)
    (fun i ys H2 h=>SqL.of (h.2.2 _ _ hr1)) (fun i ys H2 h=>⟨h.1,by rw [h.2.1,List.length_map,List.length_map,List.length_take];exact Nat.min_le_left _ _⟩) ⟨upd_same,rfl,(Same.refl H1).new hacc⟩ ?_ ?_
  rotate_left
  · rintro i x ys H2 hx ⟨g1,rfl,g3⟩
    obtain ⟨j,e1,jl,rfl⟩:=nget hx
    refine ⟨rfl,?_⟩
    refine ⟨_,rfl,t,_,_,_,rfl,rfl,SqT.of (g3 _ _ ht1),rfl,_,rfl,lab,_,_,rfl,rfl,lz,atI_nat (List.getElem?_eq_getElem (by omega:j < lab.cps.toList.length)),g1,upd_same,?_,g3.write hacc⟩
    rw [List.take_succ,e1,List.map_append,List.map_append]
    congr 1
    show _=[V.str (oneS lab j)]
    unfold oneS
    rw [List.getD_eq_getElem?_getD,List.getElem?_eq_getElem (by omega:j < lab.cps.toList.length)];rfl
  rintro ys H2 ⟨g1,rfl,g3⟩
  rw [nl,← kn,List.take_length] at g1
  refine ⟨_,acc,_,rfl,rfl,SqL.of g1,?_,?_⟩
  · have:∀ l:List Nat,((l.map (oneS lab)).map (·.length)).sum=l.length:=fun l=>by
      induction l with
      | nil=>rfl
      | cons a r ih=>rw [List.map_cons,List.map_cons,List.sum_cons,ih,List.length_cons];show 1+_=_;omega
    rw [this,List.length_map]
    have e0:(Str.ofString "").length=0:=rfl
    rw [e0];omega
  have hr2:=g3 _ _ hr1
  refine ⟨_,rfl,r1,rfl,⟨_,SqL.of hr2⟩,fun ac2 hac2=>?_⟩
  refine comp_lst (xs:=natV ns) (by omega) (fun i ys H3=>H3 ac2=some (.lst ys)∧ys=(ns.take i).map (fun j=>V.bl (lastB ups j))∧Same H2 H3)
    (fun i ys H3 h=>SqL.of (h.2.2 _ _ hr2)) (fun i ys H3 h=>⟨h.1,by rw [h.2.1,List.length_map,List.length_take];exact Nat.min_le_left _ _⟩) ⟨upd_same,rfl,(Same.refl H2).new hac2⟩ ?_ ?_
  rotate_left
  · rintro i x ys H3 hx ⟨g4,rfl,g5⟩
    obtain ⟨j,e1,jl,rfl⟩:=nget hx
    refine ⟨rfl,?_⟩
    refine ⟨_,rfl,_,rfl,t,ups,lab,j,rfl,(tr1.same g3).same g5,jl,fun H4 s4=>?_⟩
    refine ⟨s4 _ _ g4,upd_same,?_,(g5.trans s4).write hac2⟩
    rw [List.take_succ,e1,List.map_append];rfl
  rintro ys H3 ⟨g4,rfl,g5⟩
  rw [nl,← kn,List.take_length] at g4
  refine ⟨ac2,_,rfl,.inl ⟨SqL.of g4,fun la hla=>?_⟩⟩
  have s6:Same H3 (upd H3 la (.tup (ns.map fun j=>V.bl (lastB ups j)))):=(Same.refl H3).new hla
  have h6:upd H3 la (.tup (ns.map fun j=>V.bl (lastB ups j))) la=some (.tup (ns.map fun j=>V.bl (lastB ups j))):=upd_same
  generalize upd H3 la (.tup (ns.map fun j=>V.bl (lastB ups j)))=H6 at s6 h6
  have hr6:=s6 _ _ (g5 _ _ hr2)
  refine ⟨_,rfl,r1,rfl,⟨_,SqL.of hr6⟩,fun ac3 hac3=>?_⟩
  refine comp_lst (xs:=natV ns) (by omega) (fun i ys H7=>H7 ac3=some (.lst ys)∧ys=(ns.take i).map (fun j:Nat=>V.bl (leafB ups (j:Int)))∧Same H6 H7)
    (fun i ys H7 h=>SqL.of (h.2.2 _ _ hr6)) (fun i ys H7 h=>⟨h.1,by rw [h.2.1,List.length_map,List.length_take];exact Nat.min_le_left _ _⟩) ⟨upd_same,rfl,(Same.refl H6).new hac3⟩ ?_ ?_
  rotate_left
  · rintro i x ys H7 hx ⟨g7,rfl,g8⟩
    obtain ⟨j,e1,jl,rfl⟩:=nget hx
    refine ⟨rfl,?_⟩
    refine ⟨_,rfl,_,rfl,t,ups,lab,_,rfl,(((tr1.same g3).same g5).same s6).same g8,g7,upd_same,?_,g8.write hac3⟩
    rw [List.take_succ,e1,List.map_append];rfl
  rintro ys H7 ⟨g7,rfl,g8⟩
  rw [nl,← kn,List.take_length] at g7
  refine ⟨ac3,_,rfl,.inl ⟨SqL.of g7,fun le hle=>?_⟩⟩
  have s9:Same H7 (upd H7 le (.tup (ns.map fun j:Nat=>V.bl (leafB ups (j:Int))))):=(Same.refl H7).new hle
  have h9:upd H7 le (.tup (ns.map fun j:Nat=>V.bl (leafB ups (j:Int)))) le=some (.tup (ns.map fun j:Nat=>V.bl (leafB ups (j:Int)))):=upd_same
  generalize upd H7 le (.tup (ns.map fun j:Nat=>V.bl (leafB ups (j:Int))))=H9 at s9 h9
  refine ⟨_,rfl,_,rfl,_,rfl,(by show 3≤sizeLine;decide),fun rr hrr=>?_⟩
  have s19:Same H1 H9:=((((g3.trans g5).trans s6).trans g8).trans s9)
  have sR:Same H9 (upd H9 rr (.tup [.str (Txt.join (Str.ofString "") (ns.map (oneS lab))),.ref la,.ref le])):=(Same.refl H9).new hrr
  exact q' rr la le _ (k1.same (s19.trans sR)) (k1.here _ (s19.free hrr)) upd_same (sR _ _ ((g8.trans s9) _ _ h6)) (sR _ _ h9)
end
end S40
namespace W18
open W16
theorem btw:∀ p a b c:List Nat,p <+: a→p <+: c→¬ b < a→¬ c < b→p <+: b
  | [],_,b,_,_,_,_,_=>List.nil_prefix
  | x :: p,a,b,c,ha,hc,h1,h2=>by
    obtain ⟨a',rfl⟩:=ha
    obtain ⟨c',rfl⟩:=hc
    cases b with
    | nil=>exact absurd (List.nil_lt_cons _ _) h1
    | cons y b=>
      rw [List.cons_append,List.cons_lt_cons_iff] at h1 h2
      have e:y=x:=by
        have n1:¬ y < x:=fun h=>h1 (.inl h)
        have n2:¬ x < y:=fun h=>h2 (.inl h)
        omega
      subst e
      obtain ⟨r,hr⟩:=btw p (p++a') b (p++c') (List.prefix_append _ _) (List.prefix_append _ _) (fun h=>h1 (.inr ⟨rfl,h⟩)) (fun h=>h2 (.inr ⟨rfl,h⟩))
      exact ⟨r,by rw [List.cons_append,hr]⟩
end W18
namespace W40
theorem lt_le {x y b:List Nat} (u:¬ y < x) (h:y < b):x < b:=Classical.byContradiction fun g=>by
  exact List.not_lt.mpr (List.le_trans (List.not_lt.mp g) (List.not_lt.mp u)) h
theorem pre_not {b x:List Nat} (h:b <+: x):¬ x < b:=by
  obtain ⟨t,rfl⟩:=h
  intro l
  have:b≤b++t:=by
    induction b with
    | nil=>exact List.nil_le _
    | cons c b ih=>
      rw [List.cons_append]
      rw [List.cons_append] at l
      rcases List.cons_lt_cons_iff.mp l with l | ⟨_,l⟩
      · omega
      · exact absurd l (List.not_lt.mpr (ih l))
  exact List.not_lt.mpr this l
theorem first_few {α:Type} {p:α→Bool}:∀ {l:List α},(∀ (i j:Nat) (x y:α),i < j→l[i]?=some x→l[j]?=some y→p y=true→p x=true)→∀ (i:Nat) (x:α),l[i]?=some x→(p x=true ↔ i < l.countP p)
  | [],_,i,x,e=>by simp at e
  | a :: l,h,i,x,e=>by
    have ih:=first_few (l:=l) (p:=p) fun i j x y ij a b=>h (i+1) (j+1) x y (by omega) a b
    rw [List.countP_cons]
    by_cases c:p a=true
    · rw [if_pos c]
      cases i with
      | zero=>cases e;exact ⟨fun _=>by omega,fun _=>c⟩
      | succ i=>
        have:=ih i x e
        rw [this];omega
    · rw [if_neg c]
      have none:l.countP p=0:=by
        rw [List.countP_eq_zero]
        intro y hy py
        obtain ⟨j,hj,ej⟩:=List.getElem_of_mem hy
        exact c (h 0 (j+1) a y (by omega) rfl (by show l[j]?=some y;rw [List.getElem?_eq_getElem hj,ej]) py)
      rw [none]
      constructor
      · intro px
        cases i with
        | zero=>cases e;exact absurd px c
        | succ i=>exact absurd (h 0 (i+1) a x (by omega) rfl e px) c
      · intro z;omega
theorem count_or {α:Type} {a b c:α→Bool}:∀ {l:List α},(∀ x∈l,a x=(b x || c x))→(∀ x∈l,¬ (b x=true∧c x=true))→l.countP a=l.countP b+l.countP c
  | [],_,_=>rfl
  | x :: l,h,d=>by
    have ih:=count_or (l:=l) (fun y hy=>h y (List.mem_cons_of_mem _ hy)) (fun y hy=>d y (List.mem_cons_of_mem _ hy))
    have hx:=h x List.mem_cons_self
    have dx:=d x List.mem_cons_self
    rw [List.countP_cons,List.countP_cons,List.countP_cons,ih,hx]
    cases e1:b x <;> cases e2:c x <;> simp_all <;> omega
variable {ss:List (List Nat)} {b:List Nat}
def less (ss:List (List Nat)) (b:List Nat):Nat:=ss.countP fun x=>decide (x < b)
def many (ss:List (List Nat)) (b:List Nat):Nat:=ss.countP fun x=>b.isPrefixOf x
theorem stretch (hs:ss.Pairwise fun a b=>¬ b < a) (i:Nat) (x:List Nat) (e:ss[i]?=some x):b <+: x ↔ less ss b≤i∧i < less ss b+many ss b:=by
  have up:∀ i j x y,i < j→ss[i]?=some x→ss[j]?=some y→¬ y < x:=fun i j x y ij a c=>by
    obtain ⟨hi,rfl⟩:=List.getElem?_eq_some_iff.mp a
    obtain ⟨hj,rfl⟩:=List.getElem?_eq_some_iff.mp c
    exact List.pairwise_iff_getElem.mp hs i j hi hj ij
  have p1:=first_few (p:=fun x=>decide (x < b)) (l:=ss) (fun i j x y ij a c h=>decide_eq_true (by
    have h:=of_decide_eq_true h
    have u:=up i j x y ij a c
    exact lt_le u h)) i x e
  have p2:=first_few (p:=fun x=>decide (x < b) || b.isPrefixOf x) (l:=ss) (fun i j x y ij a c h=>by
    have u:=up i j x y ij a c
    rw [Bool.or_eq_true,decide_eq_true_eq,List.isPrefixOf_iff_prefix] at h ⊢
    rcases h with h | h
    · exact .inl (lt_le u h)
    · by_cases g:x < b
      · exact .inl g
      · exact .inr (W18.btw _ _ _ _ (List.prefix_refl b) h g u)) i x e
  have two:ss.countP (fun x=>decide (x < b) || b.isPrefixOf x)=less ss b+many ss b:=count_or (fun _ _=>rfl) fun x _ ⟨h1,h2⟩=>pre_not (List.isPrefixOf_iff_prefix.mp h2) (of_decide_eq_true h1)
  rw [two] at p2
  rw [decide_eq_true_eq] at p1
  rw [Bool.or_eq_true,decide_eq_true_eq,List.isPrefixOf_iff_prefix] at p2
  have l:less ss b=ss.countP fun x=>decide (x < b):=rfl
  rw [← l] at p1
  constructor
  · intro h
    have a:¬ x < b:=pre_not h
    have:=mt p1.mpr a
    have:=p2.mp (.inr h)
    omega
  · rintro ⟨h1,h2⟩
    rcases p2.mpr h2 with h | h
    · have:=p1.mp h;omega
    · exact h
theorem stretch_le (ss:List (List Nat)) (b:List Nat):less ss b+many ss b≤ss.length:=by
  have two:ss.countP (fun x=>decide (x < b) || b.isPrefixOf x)=less ss b+many ss b:=count_or (fun _ _=>rfl) fun x _ ⟨h1,h2⟩=>pre_not (List.isPrefixOf_iff_prefix.mp h2) (of_decide_eq_true h1)
  rw [← two]
  exact List.countP_le_length
theorem dot {u v:List Nat} {d:Nat} (hu:∀ c∈u,d < c) (hv:∀ c∈v,d < c):∀ (_:¬ v < u),¬ v++[d] < u++[d]:=by
  induction u generalizing v with
  | nil=>
    intro _ l
    cases v with
    | nil=>exact List.lt_irrefl _ l
    | cons b v=>
      have:=hv b List.mem_cons_self
      rcases List.cons_lt_cons_iff.mp l with l | ⟨l,_⟩ <;> omega
  | cons a u ih=>
    intro h l
    cases v with
    | nil=>exact h (List.nil_lt_cons _ _)
    | cons b v=>
      rw [List.cons_append,List.cons_append] at l
      rcases List.cons_lt_cons_iff.mp l with l | ⟨l,l2⟩
      · exact h (List.cons_lt_cons_iff.mpr (.inl l))
      · subst l
        refine ih (fun c hc=>hu c (List.mem_cons_of_mem _ hc)) (fun c hc=>hv c (List.mem_cons_of_mem _ hc)) (fun q=>h (List.cons_lt_cons_iff.mpr (.inr ⟨rfl,q⟩))) l2
end W40
namespace S40
open PySem L2 W7
theorem cps_len (z:Str):z.cps.toList.length=z.length:=by simp [Str.length]
theorem app_len (x y:Str):(x++y).length=x.length+y.length:=by
  have:=congrArg List.length (app_list x y)
  rw [List.length_append] at this
  simpa [Str.length] using this
theorem strs_get {ss:List Str} {i:Nat} {x:V} (h:(ss.map V.str)[i]?=some x):∃ z,ss[i]?=some z∧x=.str z:=by
  rw [List.getElem?_map] at h
  cases e:ss[i]? with
  | none=>rw [e] at h;cases h
  | some z=>rw [e] at h;exact ⟨z,rfl,(Option.some.inj h).symm⟩
theorem filt_step {ss:List Str} {i:Nat} {z:Str} {f:Str→Bool} (h:ss[i]?=some z) (b:Bool) (hb:f z=b):(((ss.take (i+1)).filter f).map V.str)=((ss.take i).filter f).map V.str++(if b=true then [V.str z] else []):=by
  rw [PySem.take_succ_filter f ss i z h,hb,List.map_append]
  cases b <;> rfl
theorem filt_len {ss:List Str} {i:Nat} {f:Str→Bool}:(((ss.take i).filter f).map V.str).length≤i:=by
  rw [List.length_map]
  exact Nat.le_trans (List.length_filter_le _ _) (by rw [List.length_take];omega)
def cs (ss:List Str):List (List Nat):=ss.map fun z=>z.cps.toList
theorem cs_len (ss:List Str):(cs ss).length=ss.length:=by unfold cs;rw [List.length_map]
theorem glue_cps:∀ (ss:List Str) (acc:Array Nat),(List.foldl (fun acc (p:Str)=>acc++(Str.ofString "").cps++p.cps) acc ss).toList=acc.toList++(ss.map fun z:Str=>z.cps.toList).flatten
  | [],acc=>by simp
  | x :: r,acc=>by
    rw [List.foldl_cons,glue_cps r,Array.toList_append,Array.toList_append]
    have e:(Str.ofString "").cps.toList=[]:=rfl
    rw [e,List.append_nil,List.map_cons,List.flatten_cons,List.append_assoc]
theorem join_cps (ss:List Str):(Txt.join (Str.ofString "") ss).cps.toList=(ss.map fun z:Str=>z.cps.toList).flatten:=by
  cases ss with
  | nil=>rfl
  | cons x r=>
    have:=glue_cps r x.cps
    rw [List.map_cons,List.flatten_cons]
    exact this
theorem join_mk (l:List Nat):Txt.join (Str.ofString "") (l.map fun c=>(⟨#[c]⟩:Str))=mk l:=by
  apply str_ext
  rw [join_cps,mk_cps,List.map_map]
  induction l with
  | nil=>rfl
  | cons a l ih=>rw [List.map_cons,List.flatten_cons,ih];rfl
theorem ones_sum (l:List Nat):((l.map fun c=>(⟨#[c]⟩:Str)).map fun x=>x.length).sum=l.length:=by
  induction l with
  | nil=>rfl
  | cons a l ih=>rw [List.map_cons,List.map_cons,List.sum_cons,ih,List.length_cons];show 1+_=_;omega
theorem rowsText_cps (lab:Str) (ks:List Nat):(rowsText lab ks).cps.toList=(keptN ks).map fun j=>lab.cps.toList.getD j 0:=by
  unfold rowsText
  rw [join_cps,List.map_map]
  have:∀ l:List Nat,(l.map ((fun z:Str=>z.cps.toList) ∘ oneS lab)).flatten=l.map fun j=>lab.cps.toList.getD j 0:=fun l=>by
    induction l with
    | nil=>rfl
    | cons a r ih=>rw [List.map_cons,List.flatten_cons,ih];rfl
  exact this _
section
variable {P:Program} {w:World} {K:PySem.W.Frag} {mg:Str→Option Value} {base:Heap} {k:Nat}
def sp_word:Sp:=fun vs H Q _=>∃ (t:Addr) (ups:List Int) (lab:Str) (j:Nat),vs=[.ref t,.int (j:Int)]∧TreeAt H t ups lab∧j < ups.length∧∀ H',Same H H'→Q (.str (mk (W ups lab.cps.toList j))) H'
theorem has_word (D:Df K mg "word_of" s_word_of) (B:Blt7 mg) (G_words_of:Has P w K mg base "words_of" k ["tree"] sp_words):Has P w K mg base "word_of" (k+1) ["tree", "place"] sp_word:=by
  refine D.has sc_word_of (fun _ _ _ _ _ _ us hl=>match us,hl with | [_,_],_=>rfl) (fun vs H Q E h=>by obtain ⟨t,ups,lab,j,rfl,_⟩:=h;rfl) (fun f cdv A outer s H vs Q E hr h=>?_)
  obtain ⟨t,ups,lab,j,rfl,tr,hj,q⟩:=h
  refine ⟨_,(pss_one (ps_ret (pe_ix ix_list (pe_callH G_words_of hr rfl (pa_cons (pv 0) pa_nil)) (pv 1) (fun _ _=>rfl)))),?_⟩
  exact ⟨_,rfl,t,ups,lab,rfl,tr,fun r H1 s1 hr1=>⟨_,rfl,r,_,_,_,rfl,rfl,SqL.of hr1,wordsV_at hj,q H1 s1⟩⟩
def abv (ups:List Int) (lab:Str) (j:Nat):List Nat:=(W ups lab.cps.toList j).drop 1
def sp_above:Sp:=fun vs H Q _=>∃ (t:Addr) (ups:List Int) (lab:Str) (j:Nat),vs=[.ref t,.int (j:Int)]∧TreeAt H t ups lab∧j < ups.length∧∀ H',Same H H'→Q (.str (mk (abv ups lab j))) H'
theorem has_above (D:Df K mg "word_above" s_word_above) (B:Blt7 mg) (G_word_of:Has P w K mg base "word_of" k ["tree", "place"] sp_word):Has P w K mg base "word_above" (k+1) ["tree", "place"] sp_above:=by
  refine D.has sc_word_above (fun _ _ _ _ _ _ us hl=>match us,hl with | [_,_],_=>rfl) (fun vs H Q E h=>by obtain ⟨t,ups,lab,j,rfl,_⟩:=h;rfl) (fun f cdv A outer s H vs Q E hr h=>?_)
  obtain ⟨t,ups,lab,j,rfl,tr,hj,q⟩:=h
  refine ⟨_,(pss_one (ps_ret (pe_slice sl_str (pe_callH G_word_of hr rfl (pa_cons (pv 0) (pa_cons (pv 1) pa_nil))) (po_some pe_int) po_none))),?_⟩
  obtain ⟨_,_,_,ok⟩:=id tr
  have m60:=ok.most
  have wl:=W_len ok (j+1) j (by omega) hj
  refine ⟨_,rfl,_,rfl,t,ups,lab,j,rfl,tr,hj,fun H1 s1=>⟨_,rfl,_,rfl,by rw [mk_len];exact line_le (by omega),?_⟩⟩
  have e:cutS (mk (W ups lab.cps.toList j)) (some 1) none=mk (abv ups lab j):=str_ext (by
    have:=cutS_from (mk (W ups lab.cps.toList j)) 1
    exact this)
  rw [e]
  exact q H1 s1
def ctx (ups:List Int) (lab:Str) (j:Nat):Str:=mk (abv ups lab j++[46])
theorem ctx_len {ups:List Int} {lab:Str} (ok:TreeOk ups lab.cps.toList) {j:Nat} (hj:j < ups.length):(ctx ups lab j).length≤61:=by
  have m60:=ok.most
  have wl:=W_len ok (j+1) j (by omega) hj
  unfold ctx abv
  rw [mk_len,List.length_append,List.length_drop,List.length_singleton]
  omega
def sp_ctx:Sp:=fun vs H Q _=>∃ (t:Addr) (ups:List Int) (lab:Str) (j:Nat),vs=[.ref t,.int (j:Int)]∧TreeAt H t ups lab∧j < ups.length∧∀ H',Same H H'→Q (.str (ctx ups lab j)) H'
theorem has_ctx (D:Df K mg "context_of" s_context_of) (B:Blt7 mg) (G_word_above:Has P w K mg base "word_above" k ["tree", "place"] sp_above):Has P w K mg base "context_of" (k+1) ["tree", "place"] sp_ctx:=by
  refine D.has sc_context_of (fun _ _ _ _ _ _ us hl=>match us,hl with | [_,_],_=>rfl) (fun vs H Q E h=>by obtain ⟨t,ups,lab,j,rfl,_⟩:=h;rfl) (fun f cdv A outer s H vs Q E hr h=>?_)
  obtain ⟨t,ups,lab,j,rfl,tr,hj,q⟩:=h
  refine ⟨_,(pss_one (ps_ret (pe_op op_add_str (pe_callH G_word_above hr rfl (pa_cons (pv 0) (pa_cons (pv 1) pa_nil))) pe_str))),?_⟩
  obtain ⟨_,_,_,ok⟩:=id tr
  have cl:=ctx_len ok hj
  refine ⟨_,rfl,_,rfl,t,ups,lab,j,rfl,tr,hj,fun H1 s1=>⟨_,_,rfl,rfl,?_,?_⟩⟩
  · have d1:(Str.ofString ".").length=1:=by decide
    unfold ctx at cl
    rw [mk_len,List.length_append] at cl
    rw [d1,mk_len]
    exact line_le (by simp only [List.length_singleton] at cl;omega)
  · have e:mk (abv ups lab j)++Str.ofString "." = ctx ups lab j:=str_ext (by rw [app_list];rfl)
    show Q (.str (mk (abv ups lab j)++Str.ofString ".")) H1
    rw [e];exact q H1 s1
def ctxs (ups:List Int) (lab:Str) (ks:List Nat):List Str:=(keptN ks).map (ctx ups lab)
theorem kept_in {ups:List Int} {lab:Str} {ks:List Nat} (h:KeptOk ups lab ks) (pos:0 < ups.length):∀ j∈keptN ks,j < ups.length:=fun j hj=>by
  rcases List.mem_cons.mp hj with z | z
  · omega
  · obtain ⟨i,hi,rfl⟩:=List.mem_map.mp z
    have:=List.mem_range.mp (h.perm.mem_iff.mp hi)
    omega
theorem kept_len {ups:List Int} {lab:Str} {ks:List Nat} (h:KeptOk ups lab ks) (pos:0 < ups.length):(keptN ks).length=ups.length:=by
  have:=h.len
  simp only [keptN,List.length_cons,List.length_map];omega
def sp_ctxs (ls:List Lm):Sp:=fun vs H Q _=>∃ (t:Addr) (ups:List Int) (lab:Str),vs=[.ref t]∧TreeAt H t ups lab∧Lams ls H ∧
  ∀ (ks:List Nat) (r:Addr) (H':Hp),KeptOk ups lab ks→Kt ls H H'→H r=none→H' r=some (.lst ((ctxs ups lab ks).map V.str))→Q (.ref r) H'
theorem has_ctxs {ls:List Lm} (D:Df K mg "contexts_of" s_contexts_of) (B:Blt7 mg) (G_kept_order:Has P w K mg base "kept_order" k ["tree"] (sp_kept ls)) (G_context_of:Has P w K mg base "context_of" k ["tree", "place"] sp_ctx):Has P w K mg base "contexts_of" (k+1) ["tree"] (sp_ctxs ls):=by
  refine D.has sc_contexts_of (fun _ _ _ _ _ _ us hl=>match us,hl with | [_],_=>rfl) (fun vs H Q E h=>by obtain ⟨t,ups,lab,rfl,_⟩:=h;rfl) (fun f cdv A outer s H vs Q E hr h=>?_)
  obtain ⟨t,ups,lab,rfl,tr,L,q⟩:=h
  refine ⟨_,(pss_one (ps_ret (pe_comp rfl (pi_list (pe_callH G_kept_order hr rfl (pa_cons (pv 0) pa_nil))) (NL:=["place"]) (ix:=[0]) (csc (defScope s_contexts_of) N_contexts_of) (fun cl C s₃ H₃ fp pins=>⟨(pg_name (i:=0) (show List.Nodup (["place", "tree"]:List Str) from by decide +kernel) rfl (by first | exact Or.inl rfl | exact Or.inr rfl)),pifs_nil,(pe_callH G_context_of hr rfl (pa_cons (pv 1) (pa_cons (pv 0) pa_nil)))⟩)))),?_⟩
  obtain ⟨u,ht,hu,ok⟩:=id tr
  have m60:=ok.most
  have lpos:=ok.pos
  refine ⟨_,rfl,t,ups,lab,rfl,tr,L,fun ks r1 H1 ko k1 hf1 hr1=>?_⟩
  have ek:(keptI ks).map V.int=natV (keptN ks):=by
    rw [natV,keptI,keptN,List.map_cons,List.map_cons,List.map_map,List.map_map]
    congr 1
    refine List.map_congr_left fun i _=>?_
    show V.int (1+(i:Int))=V.int ((i+1:Nat):Int)
    congr 1;omega
  rw [ek] at hr1
  have kn:=kept_len ko lpos
  have kin:=kept_in ko lpos
  have q':=q ks
  unfold ctxs at q'
  generalize keptN ks=ns at kn kin hr1 q'
  have nl:(natV ns).length=ups.length:=by rw [natV,List.length_map,kn]
  have tr1:TreeAt H1 t ups lab:=⟨u,k1.tup ht,k1.tup hu,ok⟩
  refine ⟨r1,rfl,⟨_,SqL.of hr1⟩,fun acc hacc=>?_⟩
  refine comp_lst (xs:=natV ns) (by omega) (fun i ys HX=>HX acc=some (.lst ys)∧ys=((ns.take i).map (ctx ups lab)).map V.str∧Same H1 HX)
    (fun i ys HX h=>SqL.of (h.2.2 _ _ hr1)) (fun i ys HX h=>⟨h.1,by rw [h.2.1,List.length_map,List.length_map,List.length_take];exact Nat.min_le_left _ _⟩) ⟨upd_same,rfl,(Same.refl H1).new hacc⟩ ?_ ?_
  · rintro ys H2 ⟨g1,rfl,g3⟩
    rw [nl,← kn,List.take_length] at g1
    exact q' acc H2 ko (k1.same g3) (k1.here _ hacc) g1
  · rintro i x ys HX hx ⟨g1,rfl,g3⟩
    rw [natV,List.getElem?_map] at hx
    cases e:ns[i]? with
    | none=>rw [e] at hx;cases hx
    | some j=>
    rw [e] at hx
    cases hx
    have hj:=kin j (List.mem_of_getElem? e)
    refine ⟨rfl,_,rfl,_,rfl,t,ups,lab,j,rfl,tr1.same g3,hj,fun HY sY=>?_⟩
    refine ⟨sY _ _ g1,upd_same,?_,(g3.trans sY).write hacc⟩
    rw [List.take_succ,e,List.map_append,List.map_append];rfl
def cntR (ss:List Str) (word:Str):List Str:=ss.filter fun z=>Txt.startswith z word
def lss (ss:List Str) (word:Str):List Str:=ss.filter fun z=>decide (z.cps.toList < word.cps.toList)
theorem cntR_many (ss:List Str) (b:Str):(cntR ss b).length=W40.many (cs ss) b.cps.toList:=by
  unfold cntR W40.many cs
  rw [List.countP_map,← List.countP_eq_length_filter]
  refine List.countP_congr fun z _=>?_
  rw [W16.starts_iff];exact List.isPrefixOf_iff_prefix.symm
theorem lss_less (ss:List Str) (b:Str):(lss ss b).length=W40.less (cs ss) b.cps.toList:=by
  unfold lss W40.less cs
  rw [List.countP_map,← List.countP_eq_length_filter];rfl
def sp_count:Sp:=fun vs H Q _=>∃ (r:Addr) (ss:List Str) (word:Str),vs=[.ref r,.str word]∧H r=some (.lst (ss.map V.str))∧ss.length≤60∧∀ H':Hp,Same H H'→Q (.int ((cntR ss word).length:Int)) H'
theorem has_count (D:Df K mg "count_read" s_count_read) (B:Blt mg):Has P w K mg base "count_read" (k+1) ["words", "word"] sp_count:=by
  refine D.has sc_count_read (fun _ _ _ _ _ _ us hl=>match us,hl with | [_,_],_=>rfl) (fun vs H Q E h=>by obtain ⟨r,ss,word,rfl,_⟩:=h;rfl) (fun f cdv A outer s H vs Q E hr h=>?_)
  obtain ⟨r,ss,word,rfl,hr0,s60,q⟩:=h
  refine ⟨_,(pss_one (ps_ret (pe_callB call_len_seq rfl B.len bt_len (pa_cons (pe_comp rfl (pi_list (pv 0)) (NL:=["other"]) (ix:=[1]) (csc (defScope s_count_read) N_count_read) (fun cl C s₃ H₃ fp pins=>⟨(pg_name (i:=0) (show List.Nodup (["other", "word"]:List Str) from by decide +kernel) rfl (by first | exact Or.inl rfl | exact Or.inr rfl)),(pifs_startsK K (pv 0) (pv 1)),(pv 0)⟩)) pa_nil)))),?_⟩
  refine ⟨_,rfl,r,rfl,⟨_,SqL.of hr0⟩,fun acc hacc=>?_⟩
  refine comp_lst (xs:=ss.map V.str) (by rw [List.length_map];omega) (fun i ys H2=>H2 acc=some (.lst ys)∧ys=((ss.take i).filter fun z=>Txt.startswith z word).map V.str∧Same H H2)
    (fun i ys H2 h=>SqL.of (h.2.2 _ _ hr0)) (fun i ys H2 h=>⟨h.1,by rw [h.2.1];exact filt_len⟩) ⟨upd_same,by simp,(Same.refl H).new hacc⟩ ?_ ?_
  · rintro ys H2 ⟨g1,rfl,g3⟩
    refine ⟨acc,_,rfl,.inl (SqL.of g1),?_⟩
    have e:((List.map V.str (List.filter (fun z=>Txt.startswith z word) (List.take (List.map V.str ss).length ss))).length:Int)=((cntR ss word).length:Int):=by
      rw [List.length_map,List.length_map,List.take_length];rfl
    rw [e];exact q H2 g3
  · rintro i x ys H2 hx ⟨g1,rfl,g3⟩
    obtain ⟨z,hz,rfl⟩:=strs_get hx
    refine ⟨rfl,_,rfl,rfl,_,rfl,_,_,rfl,rfl,_,rfl,ite2 (fun cnd=>?_) (fun cnd=>?_)⟩
    · exact ⟨_,rfl,g1,upd_same,by rw [filt_step hz true cnd];rfl,g3.write hacc⟩
    · exact ⟨g1,by rw [filt_step hz false (Bool.eq_false_iff.mpr cnd)];simp,g3⟩
def sp_in:Sp:=fun vs H Q _=>∃ (r:Addr) (ss:List Str) (word:Str),vs=[.ref r,.str word]∧H r=some (.lst (ss.map V.str))∧ss.length≤60 ∧
  ∀ (r':Addr) (H':Hp),Same H H'→H r'=none→H' r'=some (.tup [.int ((lss ss word).length:Int),.int (((lss ss word).length:Int)+((cntR ss word).length:Int))])→Q (.ref r') H'
theorem has_in (D:Df K mg "stretch_in" s_stretch_in) (B:Blt mg) (G_count_read:Has P w K mg base "count_read" k ["words", "word"] sp_count):Has P w K mg base "stretch_in" (k+1) ["words", "word"] sp_in:=by
  refine D.has sc_stretch_in (fun _ _ _ _ _ _ us hl=>match us,hl with | [_,_],_=>rfl) (fun vs H Q E h=>by obtain ⟨r,ss,word,rfl,_⟩:=h;rfl) (fun f cdv A outer s H vs Q E hr h=>?_)
  obtain ⟨r,ss,word,rfl,hr1,wl,q⟩:=h
  refine ⟨_,(pss_cons (ps_set (i:=2) sc_stretch_in.nd rfl (by first | exact Or.inl rfl | exact Or.inr rfl) (pe_callB call_len_seq rfl B.len bt_len (pa_cons (pe_comp rfl (pi_list (pv 0)) (NL:=["other"]) (ix:=[1]) (csc (defScope s_stretch_in) N_stretch_in) (fun cl C s₃ H₃ fp pins=>⟨(pg_name (i:=0) (show List.Nodup (["other", "word"]:List Str) from by decide +kernel) rfl (by first | exact Or.inl rfl | exact Or.inr rfl)),(pifs_one (pt_cmpR op_lt_str (pv 0) (pv 1) (nomark _))),(pv 0)⟩)) pa_nil)))
  (pss_one (ps_ret (pe_tup (pa_cons (pv 2) (pa_cons (pe_op op_add (pv 2) (pe_callH G_count_read hr rfl (pa_cons (pv 0) (pa_cons (pv 1) pa_nil)))) pa_nil)))))),?_⟩
  refine ⟨_,rfl,r,rfl,⟨_,SqL.of hr1⟩,fun acc hacc=>?_⟩
  refine comp_lst (xs:=ss.map V.str) (by rw [List.length_map];omega) (fun i ys H2=>H2 acc=some (.lst ys)∧ys=((ss.take i).filter fun z=>decide (z.cps.toList < word.cps.toList)).map V.str∧Same H H2)
    (fun i ys H2 h=>SqL.of (h.2.2 _ _ hr1)) (fun i ys H2 h=>⟨h.1,by rw [h.2.1];exact filt_len⟩) ⟨upd_same,by simp,(Same.refl H).new hacc⟩ ?_ ?_
  · rintro ys H2 ⟨g1,rfl,g3⟩
    refine ⟨acc,_,rfl,.inl (SqL.of g1),?_⟩
    have e:((List.map V.str (List.filter (fun z=>decide (z.cps.toList < word.cps.toList)) (List.take (List.map V.str ss).length ss))).length:Int)=((lss ss word).length:Int):=by
      rw [List.length_map,List.length_map,List.take_length];rfl
    rw [e]
    refine ⟨_,rfl,_,rfl,_,rfl,_,rfl,r,ss,word,rfl,g3 _ _ hr1,by omega,fun H3 s3=>?_⟩
    refine ⟨_,_,rfl,rfl,(by show 2≤sizeLine;decide),fun r4 hr4=>?_⟩
    exact q r4 _ ((g3.trans s3).new hr4) ((g3.trans s3).free hr4) upd_same
  · rintro i x ys H2 hx ⟨g1,rfl,g3⟩
    obtain ⟨z,hz,rfl⟩:=strs_get hx
    refine ⟨rfl,_,rfl,_,rfl,_,_,rfl,rfl,_,rfl,ite2 (fun cnd=>?_) (fun cnd=>?_)⟩
    · exact ⟨_,rfl,g1,upd_same,by rw [filt_step hz true cnd];rfl,g3.write hacc⟩
    · exact ⟨g1,by rw [filt_step hz false (Bool.eq_false_iff.mpr cnd)];simp,g3⟩
def lo (ups:List Int) (lab:Str) (ks:List Nat) (b:Str):Nat:=W40.less (cs (ctxs ups lab ks)) b.cps.toList
def hm (ups:List Int) (lab:Str) (ks:List Nat) (b:Str):Nat:=W40.many (cs (ctxs ups lab ks)) b.cps.toList
def sp_under (ls:List Lm):Sp:=fun vs H Q _=>∃ (t:Addr) (ups:List Int) (lab b:Str),vs=[.ref t,.str b]∧TreeAt H t ups lab∧Lams ls H ∧
  ∀ (ks:List Nat) (r:Addr) (H':Hp),KeptOk ups lab ks→Kt ls H H'→H r=none→H' r=some (.tup [.int (lo ups lab ks b:Nat),.int (((lo ups lab ks b:Nat):Int)+((hm ups lab ks b:Nat):Int))])→Q (.ref r) H'
theorem has_under {ls:List Lm} (D:Df K mg "rows_under" s_rows_under) (B:Blt7 mg) (G_contexts_of:Has P w K mg base "contexts_of" k ["tree"] (sp_ctxs ls)) (G_stretch_in:Has P w K mg base "stretch_in" k ["words", "word"] sp_in):Has P w K mg base "rows_under" (k+1) ["tree", "beginning"] (sp_under ls):=by
  refine D.has sc_rows_under (fun _ _ _ _ _ _ us hl=>match us,hl with | [_,_],_=>rfl) (fun vs H Q E h=>by obtain ⟨t,ups,lab,b,rfl,_⟩:=h;rfl) (fun f cdv A outer s H vs Q E hr h=>?_)
  obtain ⟨t,ups,lab,b,rfl,tr,L,q⟩:=h
  refine ⟨_,(pss_one (ps_ret (pe_callH G_stretch_in hr rfl (pa_cons (pe_callH G_contexts_of hr rfl (pa_cons (pv 0) pa_nil)) (pa_cons (pv 1) pa_nil))))),?_⟩
  obtain ⟨_,_,_,ok⟩:=id tr
  have m60:=ok.most
  refine ⟨_,rfl,t,ups,lab,rfl,tr,L,fun ks r1 H1 ko k1 hf1 hr1=>?_⟩
  have cl:(ctxs ups lab ks).length=ups.length:=by unfold ctxs;rw [List.length_map,kept_len ko ok.pos]
  refine ⟨_,rfl,r1,_,b,rfl,hr1,by omega,fun r2 H2 s2 hf2 hr2=>?_⟩
  rw [cntR_many,lss_less] at hr2
  exact q ks r2 H2 ko (k1.same s2) (k1.here _ hf2) hr2
end
end S40
namespace S40
open PySem L2 W7
theorem log_ok {i:Int} (h:i.natAbs < 2 ^ 400):i.natAbs.log2 < 1920:=by
  rcases Nat.eq_zero_or_pos i.natAbs with z | z
  · rw [z];decide
  · exact (Nat.log2_lt (by omega)).mpr (Nat.lt_of_lt_of_le h (Nat.pow_le_pow_right (by decide) (by decide)))
def tx (i:Int):Str:=Str.ofString (toString i)
theorem tx_len {i:Int} (h:i.natAbs < 2 ^ 400):(tx i).length≤401:=shown_intB h
theorem pow26 {b m:Nat} (hb:b≤26) (hm:m≤60):b ^ m < 2 ^ 399:=by
  refine Nat.lt_of_le_of_lt (Nat.pow_le_pow_left hb m) (Nat.lt_of_le_of_lt (Nat.pow_le_pow_right (by decide) hm) (by decide +kernel))
def one (c:Nat):Str:=⟨#[c]⟩
def letL (l:List Nat):List Nat:=(List.range 123).filter fun c=>decide (c∈l)
theorem letL_mem {l:List Nat} (low:∀ c∈l,Lw c) {c:Nat}:c∈letL l ↔ c∈l:=by
  unfold letL
  rw [List.mem_filter,List.mem_range,decide_eq_true_eq]
  exact ⟨fun h=>h.2,fun h=>⟨(low c h).2,h⟩⟩
theorem letL_rise (l:List Nat):(letL l).Pairwise (· < ·):=List.pairwise_lt_range.filter _
theorem letL_nodup (l:List Nat):(letL l).Nodup:=List.nodup_range.filter _
theorem letL_len {l:List Nat} (low:∀ c∈l,Lw c):(letL l).length≤26:=by
  have:=(letL_nodup l).length_le_of_subset (l₂:=List.range' 97 26) fun c hc=>by
    have:=low c ((letL_mem low).mp hc)
    rw [List.mem_range'_1];omega
  rw [List.length_range'] at this
  exact this
theorem lt_asymm':∀ x y:List Nat,¬ y < x→¬ x < y→x=y:=fun x y h1 h2=>List.le_antisymm (List.not_lt.mp h1) (List.not_lt.mp h2)
theorem rising_pair:∀ (l:List Str) (p:Str),PyProof.Rows.risingS p l=true→(p :: l).Pairwise (fun a b=>¬ b.cps.toList < a.cps.toList)
  | [],p,_=>List.pairwise_singleton _ _
  | x :: r,p,h=>by
    have h':(!PySem.Spec.ltCps x.cps.toList p.cps.toList && PyProof.Rows.risingS x r)=true:=h
    obtain ⟨h1,h2⟩:=(Bool.and_eq_true _ _).mp h'
    have ih:=rising_pair r x h2
    have px:¬ x.cps.toList < p.cps.toList:=by
      rw [PyProof.Rows.ltCps_eq] at h1
      simpa using h1
    refine List.pairwise_cons.mpr ⟨fun y hy=>?_,ih⟩
    rcases List.mem_cons.mp hy with rfl | hy
    · exact px
    · have xy:=List.rel_of_pairwise_cons ih hy
      exact List.not_lt.mpr (List.le_trans (List.not_lt.mp px) (List.not_lt.mp xy))
theorem sorted_pair:∀ ss:List Str,PyProof.Rows.sortedS ss=true→ss.Pairwise (fun a b=>¬ b.cps.toList < a.cps.toList)
  | [],_=>List.Pairwise.nil
  | x :: r,h=>rising_pair r x h
theorem sorted_one {a b:List Str} (h1:PyProof.Rows.sortedS a=true) (h2:PyProof.Rows.sortedS b=true) (p:a.Perm b):a=b:=
  p.eq_of_pairwise (fun x y _ _ l1 l2=>by
    have:=lt_asymm' x.cps.toList y.cps.toList l1 l2
    exact str_ext this) (sorted_pair a h1) (sorted_pair b h2)
theorem sortedS_of:∀ l:List Str,l.Pairwise (fun a b=>¬ b.cps.toList < a.cps.toList)→PyProof.Rows.sortedS l=true:=fun l h=>
  PyProof.Rows.sortedS_of_pairwise l (h.imp fun {a b} n=>by rw [PyProof.Rows.ltCps_eq];simpa using n)
theorem one_inj {a b:Nat} (h:one a=one b):a=b:=by
  have:=congrArg (fun z:Str=>z.cps.toList) h
  have:[a]=[b]:=this
  injection this
theorem ones_rise {l:List Nat} (h:l.Pairwise (· < ·)):PyProof.Rows.sortedS (l.map one)=true:=sortedS_of _ (by
  rw [List.pairwise_map]
  exact h.imp fun {a b} lt q=>by
    have q:[b] < [a]:=q
    rcases List.cons_lt_cons_iff.mp q with q | ⟨_,q⟩
    · omega
    · exact List.lt_irrefl _ q)
theorem let_of {l:List Nat} (low:∀ c∈l,Lw c) {ss:List Str} (nd:ss.Nodup) (mem:∀ x,x∈ss ↔ x∈l.map one) (so:PyProof.Rows.sortedS ss=true):ss=(letL l).map one:=by
  refine sorted_one so (ones_rise (letL_rise l)) ((List.perm_ext_iff_of_nodup nd ?_).mpr fun x=>?_)
  · unfold List.Nodup
    rw [List.pairwise_map]
    exact (letL_nodup l).imp fun {a b} n e=>n (one_inj e)
  · rw [mem,List.mem_map,List.mem_map]
    exact ⟨fun ⟨c,hc,e⟩=>⟨c,(letL_mem low).mpr hc,e⟩,fun ⟨c,hc,e⟩=>⟨c,(letL_mem low).mp hc,e⟩⟩
def numL (L:List Nat) (l:List Nat):Nat:=l.foldl (fun n c=>n * L.length+L.idxOf c) 0
theorem numL_snoc (L l:List Nat) (c:Nat):numL L (l++[c])=numL L l * L.length+L.idxOf c:=by unfold numL;rw [List.foldl_append];rfl
theorem numL_lt {L:List Nat} (hL:0 < L.length):∀ (n:Nat) (l:List Nat),l.length=n→(∀ c∈l,c∈L)→numL L l < L.length ^ n
  | 0,l,e,_=>by
    have:l=[]:=List.eq_nil_of_length_eq_zero e
    rw [this];show 0 < 1;decide
  | n+1,l,e,h=>by
    obtain ⟨r,c,rfl⟩:=(List.eq_nil_or_concat l).resolve_left (fun z=>by rw [z] at e;simp at e)
    rw [List.concat_eq_append] at e h ⊢
    have ih:=numL_lt hL n r (by simpa using e) fun x hx=>h x (List.mem_append_left _ hx)
    have ic:L.idxOf c < L.length:=List.idxOf_lt_length_of_mem (h c (by simp))
    rw [numL_snoc,Nat.pow_succ]
    have:numL L r * L.length+L.length≤L.length ^ n * L.length:=by
      rw [← Nat.succ_mul]
      exact Nat.mul_le_mul_right _ ih
    omega
theorem occ_idx {L:List Nat} {c:Nat} (h:c∈L):Builtin.Str.occurrences (mk L) (one c) 0 (mk L).length 1=[L.idxOf c]:=by
  obtain ⟨a,b,e,n⟩:=List.eq_append_cons_of_mem h
  have:=occ_at (s:=mk L) (a:=a) (b:=b) (c:=c) (by rw [mk_cps];exact e) n
  rw [e,List.idxOf_append,if_neg n,List.idxOf_cons_self,Nat.zero_add]
  rw [e] at this
  exact this
def figs (b m:Nat):Int:=((tx (((b ^ m:Nat):Int) - 1)).length:Nat)
def headS (l:List Nat):Str:=(Str.empty++tx ((l.length:Nat):Int))++Str.ofString " " ++ mk (letL l)
def pieceS (l:List Nat):Str:=if (letL l).length=1 then headS l else (headS l++Str.ofString " ")++Txt.zfill (tx ((numL (letL l) l:Nat):Int)) (figs (letL l).length l.length)
section
variable {P:Program} {w:World} {K:PySem.W.Frag} {mg:Str→Option Value} {base:Heap} {k:Nat}
def sp_figs:Sp:=fun vs H Q _=>∃ b m:Nat,vs=[.int (b:Int),.int (m:Int)]∧b≤26∧m≤60∧Q (.int (figs b m)) H
theorem has_figs (D:Df K mg "figures_for" s_figures_for) (B:Blt7 mg):Has P w K mg base "figures_for" (k+1) ["base", "many"] sp_figs:=by
  refine D.has sc_figures_for (fun _ _ _ _ _ _ us hl=>match us,hl with | [_,_],_=>rfl) (fun vs H Q E h=>by obtain ⟨b,m,rfl,_⟩:=h;rfl) (fun f cdv A outer s H vs Q E hr h=>?_)
  obtain ⟨b,m,rfl,hb,hm,q⟩:=h
  refine ⟨_,(pss_cons (ps_set (i:=2) sc_figures_for.nd rfl (by first | exact Or.inl rfl | exact Or.inr rfl) pe_int)
  (pss_cons (ps_for PassesOwn.never rfl (pi_range1 rfl B.range (pa_cons (pv 1) pa_nil)) (pg_name (i:=3) sc_figures_for.nd rfl (by first | exact Or.inl rfl | exact Or.inr rfl))
  (pss_one (ps_set (i:=2) sc_figures_for.nd rfl (by first | exact Or.inl rfl | exact Or.inr rfl) (pe_op op_mul (pv 2) (pv 0)))))
  (pss_one (ps_ret (pe_callB call_len_str rfl B.len bt_len (pa_cons (pe_callTy call_str_int rfl B.str_ bt_str (pa_cons (pe_op op_sub (pv 2) pe_int) pa_nil)) pa_nil)))))),?_⟩
  refine ⟨_,rfl,_,rfl,by omega,by omega,?_⟩
  rw [Int.toNat_natCast]
  refine for_range (lo:=0) (n:=m) (fun i σ H'=>∃ o3:Option V,σ=[some (.int (b:Int)),some (.int (m:Int)),some (.int ((b ^ i:Nat):Int)),o3]∧H'=H) ⟨none,rfl,rfl⟩ ?_ ?_
  · rintro i σ H' hi ⟨o3,rfl,rfl⟩
    refine ⟨_,rfl,_,rfl,_,_,rfl,rfl,.inr ⟨by omega,by omega⟩,some (.int (0+(i:Int))),?_,rfl⟩
    rw [Nat.pow_succ,Int.natCast_mul];rfl
  · rintro σ H' ⟨o3,rfl,rfl⟩
    have p:=pow26 hb hm
    have a:(((b ^ m:Nat):Int) - 1).natAbs < 2 ^ 400:=by
      have:(2:Nat) ^ 400=2 ^ 399 * 2:=by rw [← Nat.pow_succ]
      omega
    refine ⟨_,rfl,_,_,rfl,rfl,_,rfl,log_ok a,_,rfl,?_,q⟩
    have:=tx_len a
    exact line_le (Nat.le_trans this (by decide))
end
end S40
namespace S40
open PySem L2 W7
theorem nat_digits (n:Nat):∀ c∈(tx (n:Int)).cps.toList,48≤c:=by
  intro c hc
  have e:(tx (n:Int)).cps.toList=(Nat.repr n).toList.map Char.toNat:=by
    show (cpsOfBytes 0 0 (Nat.repr n).toByteArray.data.toList).toArray.toList=_
    rw [List.toList_toArray]
    exact cpsOfBytes_string _
  rw [e] at hc
  obtain ⟨ch,hch,rfl⟩:=List.mem_map.mp hc
  rw [Nat.toList_repr] at hch
  exact (PyProof.Rows.digit_range (Nat.isDigit_of_mem_toDigits (by decide) (by decide) hch)).1
theorem zero_mul (m:Int):(Txt.mul (Str.ofString "0") m).cps.toList=List.replicate m.toNat 48:=by
  unfold Txt.mul
  by_cases h:m < 1
  · rw [if_pos h,show m.toNat=0 by omega];rfl
  · rw [if_neg h]
    by_cases g:m=1
    · subst g;rfl
    · have l:(Str.ofString "0").length=1:=by decide
      rw [if_neg (by rw [l];simp [g])]
      show (List.foldl (fun x1 x2:Array Nat=>x1++x2) #[] (List.replicate m.toNat (Str.ofString "0").cps)).toList=_
      have key:∀ (n:Nat) (acc:Array Nat),(List.foldl (fun x1 x2:Array Nat=>x1++x2) acc (List.replicate n (Str.ofString "0").cps)).toList=acc.toList++List.replicate n 48:=fun n=>by
        induction n with
        | zero=>intro acc;simp
        | succ n ih=>
          intro acc
          rw [List.replicate_succ,List.foldl_cons,ih,Array.toList_append,List.replicate_succ,List.append_assoc]
          rfl
      rw [key];rfl
theorem zfill_eq (n:Nat) (f:Int):Txt.zfill (tx (n:Int)) f=Txt.mul (Str.ofString "0") (f - ((tx (n:Int)).length:Int))++tx (n:Int):=by
  apply str_ext
  rw [app_list,zero_mul]
  unfold Txt.zfill
  have d:=nat_digits n
  generalize tx (n:Int)=x at d
  by_cases h:f≤(x.length:Int)
  · rw [if_pos h,show (f - (x.length:Int)).toNat=0 by omega];rfl
  · rw [if_neg h]
    have e:zfilled x (f.toNat - x.length)=Builtin.Str.padded x (f.toNat - x.length) 0 48:=by
      unfold zfilled
      split
      · rename_i e
        have:=d 43 (by rw [← Array.getElem?_toList] at e;exact List.mem_of_getElem? e)
        omega
      · rename_i e
        have:=d 45 (by rw [← Array.getElem?_toList] at e;exact List.mem_of_getElem? e)
        omega
      · rfl
    rw [e]
    unfold Builtin.Str.padded
    show (Array.replicate _ 48++x.cps++Array.replicate 0 48).toList=_
    rw [Array.toList_append,Array.toList_append,Array.toList_replicate,Array.toList_replicate,List.replicate_zero,List.append_nil]
    congr 2
    omega
theorem zfill_len (x:Str) (f:Int):(Txt.zfill x f).length≤x.length+f.toNat:=by
  have:=PyProof.Rows.len_zfill x f
  split at this <;> omega
section
variable {P:Program} {w:World} {K:PySem.W.Frag} {mg:Str→Option Value} {base:Heap} {k:Nat}
theorem figs_le {b m:Nat} (hb:b≤26) (hm:m≤60):0≤figs b m∧figs b m≤401:=by
  have p:=pow26 hb hm
  have a:(((b ^ m:Nat):Int) - 1).natAbs < 2 ^ 400:=by
    have:(2:Nat) ^ 400=2 ^ 399 * 2:=by rw [← Nat.pow_succ]
    omega
  have:=tx_len a
  unfold figs
  omega
theorem num_small {L l:List Nat} (h26:L.length≤26) (h60:l.length≤60) (mem:∀ c∈l,c∈L):numL L l < 2 ^ 399:=by
  rcases Nat.eq_zero_or_pos l.length with z | z
  · have:l=[]:=List.eq_nil_of_length_eq_zero z
    rw [this];show 0 < 2 ^ 399;exact Nat.two_pow_pos _
  · have hL:0 < L.length:=by
      obtain ⟨c,hc⟩:=List.exists_mem_of_length_pos z
      exact List.length_pos_of_mem (mem c hc)
    exact Nat.lt_trans (numL_lt hL l.length l rfl mem) (pow26 h26 h60)
theorem empty_app (x:Str):Str.empty++x=x:=str_ext (by rw [app_list];rfl)
theorem lit1:(Str.ofString " ").length=1:=by decide
theorem head_len {l:List Nat} (low:∀ c∈l,Lw c) (l60:l.length≤60):(headS l).length≤428:=by
  have a:=tx_len (i:=((l.length:Nat):Int)) (Nat.lt_of_le_of_lt (show _≤60 by omega) (by decide +kernel))
  have b:=letL_len low
  unfold headS
  rw [app_len,app_len,empty_app,mk_len,lit1]
  omega
def sp_piece:Sp:=fun vs H Q _=>∃ z:Str,vs=[.str z]∧z.length≤60∧(∀ c∈z.cps.toList,Lw c)∧∀ H',Same H H'→Q (.str (pieceS z.cps.toList)) H'
theorem has_piece (D:Df K mg "piece_by" s_piece_by) (B:Blt7 mg) (G_figures_for:Has P w K mg base "figures_for" k ["base", "many"] sp_figs):Has P w K mg base "piece_by" (k+1) ["labels"] sp_piece:=by
  refine D.has sc_piece_by (fun _ _ _ _ _ _ us hl=>match us,hl with | [_],_=>rfl) (fun vs H Q E h=>by obtain ⟨z,rfl,_⟩:=h;rfl) (fun f cdv A outer s H vs Q E hr h=>?_)
  obtain ⟨z,rfl,z60,low,q⟩:=h
  refine ⟨_,(pss_cons (ps_set (i:=1) sc_piece_by.nd rfl (by first | exact Or.inl rfl | exact Or.inr rfl) (pe_callB call_len_str rfl B.len bt_len (pa_cons (pv 0) pa_nil)))
  (pss_cons (ps_set (i:=2) sc_piece_by.nd rfl (by first | exact Or.inl rfl | exact Or.inr rfl) (pe_bm PySem.F.plainAttrs_str PySem.F.slot_str_join PySem.F.type_str_join mt_join pe_str (pa_cons (pe_callB (call_sorted_setT w rfl) rfl B.sorted bt_sorted' (pa_cons (pe_callTy (call_set_txtW w rfl) rfl B.set_ bt_set (pa_cons (pv 0) pa_nil)) pa_nil)) pa_nil)))
  (pss_cons (ps_if (pt_cmpR op_eq (pe_callB call_len_str rfl B.len bt_len (pa_cons (pv 2) pa_nil)) pe_int (nomark _))
  (pss_one (ps_ret (pe_fs (pj_int (pv 1) (pj_lit (pj_str (pv 2) pj_nil))))))
  pss_nil)
  (pss_cons (ps_set (i:=3) sc_piece_by.nd rfl (by first | exact Or.inl rfl | exact Or.inr rfl) pe_int)
  (pss_cons (ps_for PassesOwn.never rfl (pi_str (pv 0)) (pg_name (i:=4) sc_piece_by.nd rfl (by first | exact Or.inl rfl | exact Or.inr rfl))
  (pss_one (ps_set (i:=3) sc_piece_by.nd rfl (by first | exact Or.inl rfl | exact Or.inr rfl) (pe_op op_add (pe_op op_mul (pv 3) (pe_callB call_len_str rfl B.len bt_len (pa_cons (pv 2) pa_nil))) (pe_sindex (pv 2) (pv 4))))))
  (pss_cons (ps_set (i:=5) sc_piece_by.nd rfl (by first | exact Or.inl rfl | exact Or.inr rfl) (pe_bm PySem.F.plainAttrs_str PySem.F.slot_str_zfill PySem.F.type_str_zfill mt_zfill (pe_callTy call_str_int rfl B.str_ bt_str (pa_cons (pv 3) pa_nil)) (pa_cons (pe_callH G_figures_for hr rfl (pa_cons (pe_callB call_len_str rfl B.len bt_len (pa_cons (pv 2) pa_nil)) (pa_cons (pv 1) pa_nil))) pa_nil)))
  (pss_one (ps_ret (pe_fs (pj_int (pv 1) (pj_lit (pj_str (pv 2) (pj_lit (pj_str (pv 5) pj_nil)))))))))))))),?_⟩
  have zl:=cps_len z
  have zs:z.length≤sizeLine:=line_le (by omega)
  have l26:=letL_len low
  have lm:∀ c,c∈letL z.cps.toList ↔ c∈z.cps.toList:=fun c=>letL_mem low
  have hl:=head_len low (by omega)
  have ps:pieceS z.cps.toList=if (letL z.cps.toList).length=1 then headS z.cps.toList else (headS z.cps.toList++Str.ofString " ")++Txt.zfill (tx ((numL (letL z.cps.toList) z.cps.toList:Nat):Int)) (figs (letL z.cps.toList).length z.cps.toList.length):=rfl
  have lo:∀ {ss:List Str},ss.Nodup→(∀ x,x∈ss ↔ x∈z.cps.toList.map one)→PyProof.Rows.sortedS ss=true→ss=(letL z.cps.toList).map one:=fun {ss} a b c=>let_of low a b c
  have hd:headS z.cps.toList=(Str.empty++tx ((z.length:Nat):Int))++Str.ofString " " ++ mk (letL z.cps.toList):=by unfold headS;rw [zl]
  rw [zl] at ps
  generalize letL z.cps.toList=L at l26 lm ps lo hd
  refine ⟨_,rfl,z,rfl,zs,?_⟩
  refine ⟨rfl,_,rfl,z,rfl,by omega,fun r hr0=>?_⟩
  have s1:Same H (upd H r (setO w r (z.cps.toList.map fun c=>(⟨#[c]⟩:Str)) z.length)):=(Same.refl H).new hr0
  refine ⟨r,_,_,L.map one,rfl,upd_same,fun x hx=>?_,by rw [List.length_map];omega,fun ss l nd mem so hl0=>?_⟩
  · obtain ⟨c,hc,rfl⟩:=List.mem_map.mp hx
    exact List.mem_map.mpr ⟨c,(lm c).mpr hc,rfl⟩
  have ess:=lo nd mem so
  subst ess
  have s2:=s1.new (o:=.lst ((L.map one).map V.str)) hl0
  refine ⟨_,l,L.map one,rfl,rfl,SqL.of upd_same,?_,?_⟩
  · have:=ones_sum L
    show ((L.map one).map fun x=>x.length).sum+_≤_
    rw [show ((L.map one).map fun x=>x.length).sum=L.length from this]
    have e0:(Str.ofString "").length=0:=rfl
    rw [e0];omega
  have ej:Txt.join (Str.ofString "") (L.map one)=mk L:=join_mk L
  rw [ej]
  generalize upd (upd H r (setO w r (z.cps.toList.map fun c=>(⟨#[c]⟩:Str)) z.length)) l (.lst ((L.map one).map V.str))=H2 at s2
  have ml:(mk L).length=L.length:=mk_len L
  have mls:(mk L).length≤sizeLine:=line_le (by omega)
  have t1:((z.length:Nat):Int).natAbs < 2 ^ 400:=Nat.lt_of_le_of_lt (show _≤60 by omega) (by decide +kernel)
  have t1l:=tx_len t1
  have a1:(Str.empty++tx ((z.length:Nat):Int)).length≤sizeLine:=line_le (by rw [empty_app];omega)
  have a2:(Str.empty++tx ((z.length:Nat):Int)++Str.ofString " ").length≤sizeLine:=line_le (by rw [app_len,empty_app,lit1];omega)
  have a3:(Str.empty++tx ((z.length:Nat):Int)++Str.ofString " " ++ mk L).length≤sizeLine:=line_le (by rw [app_len,app_len,empty_app,lit1];omega)
  refine ⟨_,rfl,_,rfl,mls,rfl,_,rfl,ite2 (fun c=>?_) (fun c=>?_)⟩
  · have c:=of_decide_eq_true c
    injection c with c
    refine ⟨_,rfl,_,rfl,log_ok t1,a1,a2,_,rfl,_,rfl,mls,a3,a3,?_⟩
    have:=q H2 s2
    rw [ps,if_pos (by omega),hd] at this
    exact this
  have c:=of_decide_eq_false (Bool.eq_false_iff.mpr c)
  have n1:L.length≠1:=fun e=>c (by rw [ml,e];rfl)
  rw [if_neg n1] at ps
  refine ⟨_,rfl,_,rfl,?_⟩
  have memL:∀ i,∀ c∈z.cps.toList.take i,c∈L:=fun i c hc=>(lm c).mpr (List.mem_of_mem_take hc)
  have nsm:∀ i,numL L (z.cps.toList.take i) < 2 ^ 399:=fun i=>num_small l26 (by rw [List.length_take];omega) (memL i)
  refine for_str (z:=z) (fun i σ HX=>∃ o4 o5:Option V,σ=[some (.str z),some (.int ((z.length:Nat):Int)),some (.str (mk L)),some (.int ((numL L (z.cps.toList.take i):Nat):Int)),o4,o5]∧HX=H2) ⟨none,none,rfl,rfl⟩ ?_ ?_
  · rintro i ch σ HX hc ⟨o4,o5,rfl,rfl⟩
    have cL:ch∈L:=(lm ch).mpr (List.mem_of_getElem? hc)
    refine ⟨_,rfl,_,rfl,_,rfl,mls,_,_,rfl,rfl,.inr ⟨by omega,by omega⟩,_,rfl,rfl,_,rfl,_,_,_,_,rfl,rfl,occ_idx cL,_,_,rfl,rfl,some (.str ⟨#[ch]⟩),o5,?_,rfl⟩
    have tk:z.cps.toList.take (i+1)=z.cps.toList.take i++[ch]:=by rw [List.take_succ,hc];rfl
    have e:((numL L (z.cps.toList.take (i+1)):Nat):Int)=((numL L (z.cps.toList.take i):Nat):Int) * (((mk L).length:Nat):Int)+((L.idxOf ch:Nat):Int):=by
      rw [tk,numL_snoc,ml,Int.natCast_add,Int.natCast_mul]
    rw [e];rfl
  · rintro σ HX ⟨o4,o5,rfl,rfl⟩
    rw [List.take_length]
    have nn:=nsm z.cps.toList.length
    rw [List.take_length] at nn
    have n400:((numL L z.cps.toList:Nat):Int).natAbs < 2 ^ 400:=by
      have:(2:Nat) ^ 400=2 ^ 399 * 2:=by rw [← Nat.pow_succ]
      omega
    have fl:=figs_le l26 z60
    have tl:=tx_len n400
    refine ⟨_,rfl,_,rfl,log_ok n400,rfl,_,rfl,_,rfl,mls,_,rfl,L.length,z.length,by rw [ml];rfl,l26,z60,_,_,rfl,rfl,fl.1,by omega,?_⟩
    have zfl:=zfill_len (tx ((numL L z.cps.toList:Nat):Int)) (figs L.length z.length)
    have a4:(Str.empty++tx ((z.length:Nat):Int)++Str.ofString " " ++ mk L++Str.ofString " ").length≤sizeLine:=line_le (by rw [app_len,app_len,app_len,empty_app,lit1];omega)
    have a5:(Str.empty++tx ((z.length:Nat):Int)++Str.ofString " " ++ mk L++Str.ofString " " ++ Txt.zfill (tx ((numL L z.cps.toList:Nat):Int)) (figs L.length z.length)).length≤sizeLine:=Nat.le_of_lt (small10000 (by rw [app_len,app_len,app_len,app_len,empty_app,lit1];omega))
    have a6:(Txt.zfill (tx ((numL L z.cps.toList:Nat):Int)) (figs L.length z.length)).length≤sizeLine:=Nat.le_of_lt (small10000 (by omega))
    refine ⟨_,rfl,_,rfl,log_ok t1,a1,a2,_,rfl,_,rfl,mls,a3,a4,_,rfl,_,rfl,a6,a5,a5,?_⟩
    have:=q HX s2
    rw [ps,hd] at this
    exact this
end
end S40
namespace S40
open PySem L2 W7
theorem cutS_two (z:Str) (a m:Nat) (h:a+m≤z.length):(cutS z (some (a:Int)) (some ((a:Int)+(m:Int)))).cps.toList=(z.cps.toList.drop a).take m:=by
  have e:(a:Int)+(m:Int)=((a+m:Nat):Int):=by omega
  rw [e]
  have e1:=HT.sIx_nat z.length 0 a
  have e2:=HT.sIx_nat z.length z.length (a+m)
  show (z.cps.toList.drop (HT.sIx z.length 0 (some (a:Int)))).take (HT.sIx z.length z.length (some ((a+m:Nat):Int)) - HT.sIx z.length 0 (some (a:Int)))=_
  rw [e1,e2,Nat.min_eq_left (by omega),Nat.min_eq_left (by omega),Nat.add_sub_cancel_left]
theorem rows_len {ups:List Int} {lab:Str} {ks:List Nat} (h:KeptOk ups lab ks) (pos:0 < ups.length):(rowsText lab ks).length=ups.length:=by
  rw [← cps_len,rowsText_cps,List.length_map,kept_len h pos]
theorem rows_low {ups:List Int} {lab:Str} {ks:List Nat} (ok:TreeOk ups lab.cps.toList) (low:∀ c∈lab.cps.toList,Lw c) (h:KeptOk ups lab ks):∀ c∈(rowsText lab ks).cps.toList,Lw c:=fun c hc=>by
  rw [rowsText_cps] at hc
  obtain ⟨j,hj,rfl⟩:=List.mem_map.mp hc
  have jl:j < lab.cps.toList.length:=by rw [← ok.len];exact kept_in h ok.pos j hj
  rw [List.getD_eq_getElem?_getD,List.getElem?_eq_getElem jl]
  exact low _ (List.getElem_mem jl)
def und (ups:List Int) (lab:Str) (ks:List Nat) (b:Str):List Nat:=((rowsText lab ks).cps.toList.drop (lo ups lab ks b)).take (hm ups lab ks b)
theorem lo_hm {ups:List Int} {lab:Str} {ks:List Nat} (h:KeptOk ups lab ks) (pos:0 < ups.length) (b:Str):lo ups lab ks b+hm ups lab ks b≤ups.length:=by
  have:=W40.stretch_le (cs (ctxs ups lab ks)) b.cps.toList
  rw [cs_len] at this
  have cl:(ctxs ups lab ks).length=ups.length:=by unfold ctxs;rw [List.length_map,kept_len h pos]
  rw [cl] at this
  exact this
def StAt (H:Hp) (as:List Addr) (ps:List (Nat × Nat)):Prop:=as.length=ps.length∧∀ (i:Nat) a p,as[i]?=some a→ps[i]?=some p→H a=some (.tup [.int (p.1:Nat),.int ((p.1:Int)+(p.2:Int))])
theorem StAt.wr {H H':Hp} {as:List Addr} {ps:List (Nat × Nat)} {q:Addr} {xs:List V} {o:HO} (h:StAt H as ps) (e:H q=some (.lst xs)) (s:Same H H'):StAt (upd H' q o) as ps:=⟨h.1,fun i a p f g=>by
  have:=h.2 i a p f g
  rw [upd_ne (ne_of this e (by intro c;cases c))]
  exact s _ _ this⟩
theorem StAt.snoc {H:Hp} {as:List Addr} {ps:List (Nat × Nat)} {a:Addr} {p:Nat × Nat} (h:StAt H as ps) (e:H a=some (.tup [.int (p.1:Nat),.int ((p.1:Int)+(p.2:Int))])):StAt H (as++[a]) (ps++[p]):=by
  refine ⟨by rw [List.length_append,List.length_append,h.1];rfl,fun i b q hb hq=>?_⟩
  rcases Nat.lt_or_ge i as.length with l | l
  · rw [List.getElem?_append_left l] at hb
    rw [List.getElem?_append_left (by rw [← h.1];exact l)] at hq
    exact h.2 i b q hb hq
  · rw [List.getElem?_append_right l] at hb
    rw [List.getElem?_append_right (by rw [← h.1];exact l),← h.1] at hq
    rcases Nat.eq_zero_or_pos (i - as.length) with z | z
    · rw [z] at hb hq
      cases hb;cases hq
      exact e
    · rw [List.getElem?_eq_none (by simp;omega)] at hb
      cases hb
section
variable {P:Program} {w:World} {K:PySem.W.Frag} {mg:Str→Option Value} {base:Heap} {k:Nat}
def sp_pieces (ls:List Lm):Sp:=fun vs H Q _=>∃ (t bt:Addr) (ups:List Int) (lab:Str) (bs:List Str),vs=[.ref t,.ref bt]∧TreeAt H t ups lab∧(∀ c∈lab.cps.toList,Lw c)∧H bt=some (.tup (bs.map V.str))∧bs.length≤60∧Lams ls H ∧
  ∀ (ks:List Nat) (r:Addr) (H':Hp),KeptOk ups lab ks→Kt ls H H'→H r=none→H' r=some (.lst ((bs.map fun b=>pieceS (und ups lab ks b)).map V.str))→Q (.ref r) H'
theorem has_pieces {ls:List Lm} (D:Df K mg "pieces_of" s_pieces_of) (B:Blt7 mg) (G_contexts_of:Has P w K mg base "contexts_of" k ["tree"] (sp_ctxs ls)) (G_rows_of:Has P w K mg base "rows_of" k ["tree"] (sp_rows ls)) (G_stretch_in:Has P w K mg base "stretch_in" k ["words", "word"] sp_in) (G_piece_by:Has P w K mg base "piece_by" k ["labels"] sp_piece) :
    Has P w K mg base "pieces_of" (k+1) ["tree", "beginnings"] (sp_pieces ls):=by
  refine D.has sc_pieces_of (fun _ _ _ _ _ _ us hl=>match us,hl with | [_,_],_=>rfl) (fun vs H Q E h=>by obtain ⟨t,bt,ups,lab,bs,rfl,_⟩:=h;rfl) (fun f cdv A outer s H vs Q E hr h=>?_)
  obtain ⟨t,bt,ups,lab,bs,rfl,tr,low,hbt,b60,L,q⟩:=h
  refine ⟨_,(pss_cons (ps_set (i:=2) sc_pieces_of.nd rfl (by first | exact Or.inl rfl | exact Or.inr rfl) (pe_callH G_contexts_of hr rfl (pa_cons (pv 0) pa_nil)))
  (pss_cons (ps_set (i:=3) sc_pieces_of.nd rfl (by first | exact Or.inl rfl | exact Or.inr rfl) (pe_ix ix_tup (pe_callH G_rows_of hr rfl (pa_cons (pv 0) pa_nil)) pe_int (fun _ _=>rfl)))
  (pss_cons (ps_comp (i:=4) sc_pieces_of.nd rfl (by first | exact Or.inl rfl | exact Or.inr rfl) rfl (pi_tup (pv 1)) (NL:=["beginning"]) (ix:=[2]) (csc (defScope s_pieces_of) N_pieces_of) (fun cl C s₃ H₃ fp pins=>⟨(pg_name (i:=0) (show List.Nodup (["beginning", "contexts"]:List Str) from by decide +kernel) rfl (by first | exact Or.inl rfl | exact Or.inr rfl)),pifs_nil,(pe_callH G_stretch_in hr rfl (pa_cons (pv 1) (pa_cons (pv 0) pa_nil)))⟩))
  (pss_one (ps_ret (pe_comp rfl (pi_list (pv 4)) (NL:=["stretch"]) (ix:=[3]) (csc (defScope s_pieces_of) N_pieces_of) (fun cl C s₃ H₃ fp pins=>⟨(pg_name (i:=0) (show List.Nodup (["stretch", "labels"]:List Str) from by decide +kernel) rfl (by first | exact Or.inl rfl | exact Or.inr rfl)),pifs_nil,(pe_callH G_piece_by hr rfl (pa_cons (pe_slice sl_str (pv 1) (po_some (pe_ix (ix_tupK K) (pv 0) pe_int (fun _ _=>rfl))) (po_some (pe_ix (ix_tupK K) (pv 0) pe_int (fun _ _=>rfl)))) pa_nil))⟩))))))),?_⟩
  obtain ⟨u,ht,hu,ok⟩:=id tr
  have m60:=ok.most
  have lpos:=ok.pos
  refine ⟨_,rfl,t,ups,lab,rfl,tr,L,fun ks c1 H1 ko k1 hf1 hc1=>?_⟩
  have tr1:TreeAt H1 t ups lab:=⟨u,k1.tup ht,k1.tup hu,ok⟩
  have cl:(ctxs ups lab ks).length=ups.length:=by unfold ctxs;rw [List.length_map,kept_len ko lpos]
  refine ⟨_,rfl,t,ups,lab,rfl,tr1,k1.lam,fun ks' r2 a2 b2 H2 ko' k2 hf2 hr2 ha2 hb2=>?_⟩
  have eks:ks'=ks:=ko'.one ko
  subst eks
  refine ⟨r2,_,_,_,rfl,rfl,SqT.of hr2,rfl,?_⟩
  have k12:=k1.trans k2
  have hc2:=k2.lst hc1
  have hbt2:=k12.tup hbt
  have rl:=rows_len ko lpos
  have rlow:=rows_low ok low ko
  have lh:=fun b=>lo_hm ko lpos b
  refine ⟨_,rfl,bt,rfl,⟨_,SqT.of hbt2⟩,fun acc hacc=>?_⟩
  refine comp_tupI (xs:=bs.map V.str) (by rw [List.length_map];omega) (fun i ys HX=>HX acc=some (.lst ys)∧Same H2 HX∧∃ as:List Addr,ys=as.map V.ref∧StAt HX as ((bs.take i).map fun b=>(lo ups lab ks' b,hm ups lab ks' b)))
    (fun i ys HX h=>SqT.of (h.2.1 _ _ hbt2)) (fun i ys HX h=>⟨h.1,by obtain ⟨as,e,l,_⟩:=h.2.2;rw [e,List.length_map,l,List.length_map,List.length_take];exact Nat.min_le_left _ _⟩) ⟨upd_same,(Same.refl H2).new hacc,[],rfl,rfl,fun i a p e=>by simp at e⟩ ?_ ?_
  rotate_left
  · rintro i x ys HX hx ⟨g1,g2,as,rfl,sa⟩
    obtain ⟨b,hb,rfl⟩:=strs_get hx
    refine ⟨rfl,_,rfl,_,rfl,c1,_,b,rfl,g2 _ _ hc2,by omega,fun e HY sY hf he=>?_⟩
    rw [cntR_many,lss_less] at he
    refine ⟨sY _ _ g1,upd_same,(g2.trans sY).write hacc,as++[e],by rw [List.map_append];rfl,?_⟩
    have tk:bs.take (i+1)=bs.take i++[b]:=by rw [List.take_succ,hb];rfl
    rw [tk,List.map_append]
    refine (sa.wr g1 sY).snoc ?_
    have ae:e≠acc:=(ne_of_none g1 hf).symm
    rw [upd_ne ae];exact he
  rintro ys H3 ⟨g1,s3,as,rfl,sa⟩
  rw [List.length_map,List.take_length] at sa
  have al:as.length=bs.length:=by rw [sa.1,List.length_map]
  have k3:=k12.same s3
  refine ⟨_,rfl,acc,rfl,⟨_,SqL.of g1⟩,fun ac2 hac2=>?_⟩
  refine comp_lst (xs:=as.map V.ref) (by rw [List.length_map];omega) (fun i ys HX=>HX ac2=some (.lst ys)∧ys=((bs.take i).map fun b=>pieceS (und ups lab ks' b)).map V.str∧Same H3 HX)
    (fun i ys HX h=>SqL.of (h.2.2 _ _ g1)) (fun i ys HX h=>⟨h.1,by rw [h.2.1,List.length_map,List.length_map,List.length_take];exact Nat.min_le_left _ _⟩) ⟨upd_same,rfl,(Same.refl H3).new hac2⟩ ?_ ?_
  · rintro ys H4 ⟨x1,rfl,x3⟩
    rw [List.length_map,al,List.take_length] at x1
    exact q ks' ac2 H4 ko (k3.same x3) (k3.here _ hac2) x1
  · rintro i x ys HX hx ⟨x1,rfl,x3⟩
    rw [List.getElem?_map] at hx
    cases ea:as[i]? with
    | none=>rw [ea] at hx;cases hx
    | some a=>
    rw [ea] at hx
    cases hx
    have ib:i < bs.length:=by rw [← al];exact (List.getElem?_eq_some_iff.mp ea).1
    have eb:bs[i]?=some bs[i]:=List.getElem?_eq_getElem ib
    have ha:=x3 _ _ (sa.2 i a _ ea (by rw [List.getElem?_map,eb];rfl))
    have ls:=lh bs[i]
    have rs:(rowsText lab ks').length≤sizeLine:=line_le (by omega)
    refine ⟨rfl,_,rfl,_,rfl,a,_,_,_,rfl,rfl,SqT.of ha,rfl,_,rfl,_,rfl,a,_,_,_,rfl,rfl,SqT.of ha,rfl,_,rfl,_,rfl,rs,?_⟩
    have ec:=cutS_two (rowsText lab ks') (lo ups lab ks' bs[i]) (hm ups lab ks' bs[i]) (by omega)
    have eu:(cutS (rowsText lab ks') (some ((lo ups lab ks' bs[i]:Nat):Int)) (some (((lo ups lab ks' bs[i]:Nat):Int)+((hm ups lab ks' bs[i]:Nat):Int)))).cps.toList=und ups lab ks' bs[i]:=ec
    have ul:(und ups lab ks' bs[i]).length≤60:=by
      unfold und
      rw [List.length_take,List.length_drop,cps_len];omega
    refine ⟨_,rfl,by rw [← cps_len,eu];exact ul,by rw [eu];intro c hc;exact rlow c (List.mem_of_mem_drop (List.mem_of_mem_take hc)),fun HY sY=>?_⟩
    refine ⟨sY _ _ x1,upd_same,?_,(x3.trans sY).write hac2⟩
    rw [eu,List.take_succ,eb,List.map_append,List.map_append];rfl
def sp_pieceof (ls:List Lm):Sp:=fun vs H Q _=>∃ (t:Addr) (ups:List Int) (lab b:Str),vs=[.ref t,.str b]∧TreeAt H t ups lab∧(∀ c∈lab.cps.toList,Lw c)∧Lams ls H ∧
  ∀ (ks:List Nat) (H':Hp),KeptOk ups lab ks→Kt ls H H'→Q (.str (pieceS (und ups lab ks b))) H'
theorem has_pieceof {ls:List Lm} (D:Df K mg "piece_of" s_piece_of) (B:Blt7 mg) (G_pieces_of:Has P w K mg base "pieces_of" k ["tree", "beginnings"] (sp_pieces ls)):Has P w K mg base "piece_of" (k+1) ["tree", "beginning"] (sp_pieceof ls):=by
  refine D.has sc_piece_of (fun _ _ _ _ _ _ us hl=>match us,hl with | [_,_],_=>rfl) (fun vs H Q E h=>by obtain ⟨t,ups,lab,b,rfl,_⟩:=h;rfl) (fun f cdv A outer s H vs Q E hr h=>?_)
  obtain ⟨t,ups,lab,b,rfl,tr,low,L,q⟩:=h
  refine ⟨_,(pss_one (ps_ret (pe_ix ix_list (pe_callH G_pieces_of hr rfl (pa_cons (pv 0) (pa_cons (pe_tup (pa_cons (pv 1) pa_nil)) pa_nil))) pe_int (fun _ _=>rfl)))),?_⟩
  refine ⟨_,rfl,_,rfl,(by show 1≤sizeLine;decide),fun e he=>?_⟩
  have s1:Same H (upd H e (.tup [.str b])):=(Same.refl H).new he
  refine ⟨t,e,ups,lab,[b],rfl,tr.same s1,low,upd_same,(by show 1≤60;decide),L.same s1,fun ks r H' ko k1 hf hr1=>?_⟩
  exact ⟨r,_,_,_,rfl,rfl,SqL.of hr1,rfl,q ks H' ko ((Kt.of s1 L).trans k1)⟩
end
end S40
namespace S40
open PySem L2 W7
structure Kp (kvs:List (Key × V)) (S:Str→Prop):Prop where
  nd:(kvs.map (·.1)).Nodup
  is:∀ k∈kvs.map (·.1),∃ z,k=Sum.inr z∧S z
  all:∀ z,S z→Sum.inr z∈kvs.map (·.1)
theorem putK_in {kvs:List (Key × V)} {k:Key} (v:V) (h:k∈kvs.map (·.1)):(putK kvs k v).map (·.1)=kvs.map (·.1):=by
  have a:(kvs.any fun kv=>decide (kv.1=k))=true:=by
    obtain ⟨p,hp,e⟩:=List.mem_map.mp h
    exact List.any_eq_true.mpr ⟨p,hp,decide_eq_true e⟩
  unfold putK
  rw [if_pos a,List.map_map]
  refine List.map_congr_left fun p _=>?_
  show (if p.1=k then (p.1,v) else p).1=p.1
  split <;> rfl
theorem putK_out {kvs:List (Key × V)} {k:Key} (v:V) (h:¬ k∈kvs.map (·.1)):(putK kvs k v).map (·.1)=kvs.map (·.1)++[k]:=by
  have a:¬ (kvs.any fun kv=>decide (kv.1=k))=true:=fun a=>by
    obtain ⟨p,hp,e⟩:=List.any_eq_true.mp a
    exact h (List.mem_map.mpr ⟨p,hp,of_decide_eq_true e⟩)
  unfold putK
  rw [if_neg a,List.map_append];rfl
theorem Kp.put {kvs:List (Key × V)} {S S':Str→Prop} (h:Kp kvs S) (z:Str) (v:V) (e:∀ y,S' y ↔ S y∨y=z):Kp (putK kvs (.inr z) v) S':=by
  by_cases c:(Sum.inr z:Key)∈kvs.map (·.1)
  · refine ⟨?_,?_,?_⟩
    · rw [putK_in v c];exact h.nd
    · rw [putK_in v c]
      intro k hk
      obtain ⟨y,e1,e2⟩:=h.is k hk
      exact ⟨y,e1,(e y).mpr (.inl e2)⟩
    · rw [putK_in v c]
      intro y hy
      rcases (e y).mp hy with hy | hy
      · exact h.all y hy
      · subst hy;exact c
  · refine ⟨?_,?_,?_⟩
    · rw [putK_out v c,List.nodup_append]
      exact ⟨h.nd,by simp,fun a ha b hb e=>c (by rw [← List.mem_singleton.mp hb,← e];exact ha)⟩
    · rw [putK_out v c]
      intro k hk
      rcases List.mem_append.mp hk with hk | hk
      · obtain ⟨y,e1,e2⟩:=h.is k hk
        exact ⟨y,e1,(e y).mpr (.inl e2)⟩
      · exact ⟨z,List.mem_singleton.mp hk,(e z).mpr (.inr rfl)⟩
    · rw [putK_out v c]
      intro y hy
      rcases (e y).mp hy with hy | hy
      · exact List.mem_append_left _ (h.all y hy)
      · subst hy;exact List.mem_append_right _ (List.mem_singleton.mpr rfl)
theorem Kp.congr {kvs:List (Key × V)} {S S':Str→Prop} (h:Kp kvs S) (e:∀ y,S' y ↔ S y):Kp kvs S':=
  ⟨h.nd,fun k hk=>let ⟨z,a,b⟩:=h.is k hk;⟨z,a,(e z).mpr b⟩,fun z hz=>h.all z ((e z).mp hz)⟩
def kst:Key→Str
  | .inr z=>z
  | .inl _=>Str.empty
def kzs (kvs:List (Key × V)):List Str:=kvs.map fun kv=>kst kv.1
theorem kzs_keys {kvs:List (Key × V)} {S:Str→Prop} (h:Kp kvs S):kvs.map (·.1)=(kzs kvs).map Sum.inr:=by
  unfold kzs
  rw [List.map_map]
  refine List.map_congr_left fun p hp=>?_
  obtain ⟨z,e,_⟩:=h.is p.1 (List.mem_map.mpr ⟨p,hp,rfl⟩)
  show p.1=Sum.inr (kst p.1)
  rw [e];rfl
theorem kzs_mem {kvs:List (Key × V)} {S:Str→Prop} (h:Kp kvs S) (z:Str):z∈kzs kvs ↔ S z:=by
  constructor
  · intro m
    obtain ⟨p,hp,e⟩:=List.mem_map.mp m
    obtain ⟨y,e1,e2⟩:=h.is p.1 (List.mem_map.mpr ⟨p,hp,rfl⟩)
    rw [e1] at e
    rw [← e];exact e2
  · intro s
    have:=h.all z s
    rw [kzs_keys h] at this
    obtain ⟨y,hy,e⟩:=List.mem_map.mp this
    cases e;exact hy
theorem kzs_nodup {kvs:List (Key × V)} {S:Str→Prop} (h:Kp kvs S):(kzs kvs).Nodup:=by
  have:=h.nd
  rw [kzs_keys h] at this
  unfold List.Nodup at this ⊢
  rw [List.pairwise_map] at this
  exact this.imp fun a b=>a (by rw [b])
theorem Lams.but {ls:List Lm} {p:Addr} {o:HO} {H H':Hp} (a:Lams ls H) (hp:H p=some o) (h1:∀ ps,o≠.tbl ps) (h2:∀ c q,o≠codeO c q) (k:∀ b u,b≠p→H b=some u→H' b=some u):Lams ls H':=fun m hm=>by
  obtain ⟨ps,a,b,c⟩:=a m hm
  refine ⟨ps,k _ _ (fun e=>h1 ps (by rw [e,hp] at a;exact Option.some.inj a)) a,b,?_⟩
  rcases c with c | ⟨d,c,e⟩
  · exact .inl c
  · exact .inr ⟨d,c,k _ _ (fun z=>h2 d _ (by rw [z,hp] at e;rw [z];exact Option.some.inj e)) e⟩
theorem Kt.dput {ls:List Lm} {d:Addr} {kvs kvs':List (Key × V)} {H0 H:Hp} (a:Kt ls H0 H) (hd:H0 d=none) (h:H d=some (.dK kvs)):Kt ls H0 (upd H d (.dK kvs')):=
  ⟨Lams.but a.lam h (fun _ z=>by cases z) (fun _ _ z=>by cases z) (fun b u n e=>by rw [upd_ne n];exact e),fun b o ho e=>by rw [upd_ne (ne_of_none e hd)];exact a.keep b o ho e,fun b e=>by
    by_cases z:b=d
    · rw [z];exact hd
    · rw [upd_ne z] at e;exact a.here b e⟩
def Pre (ss:List Str) (z:Str):Prop:=∃ c∈ss,z.cps.toList <+: c.cps.toList
theorem Pre.snoc {ss:List Str} {c z:Str}:Pre (ss++[c]) z ↔ Pre ss z∨z.cps.toList <+: c.cps.toList:=by
  unfold Pre
  constructor
  · rintro ⟨x,hx,p⟩
    rcases List.mem_append.mp hx with h | h
    · exact .inl ⟨x,h,p⟩
    · rw [List.mem_singleton.mp h] at p;exact .inr p
  · rintro (⟨x,hx,p⟩ | p)
    · exact ⟨x,List.mem_append_left _ hx,p⟩
    · exact ⟨c,by simp,p⟩
theorem pre_take {c y:Str} {j:Nat} (hj:j≤c.length):(y.cps.toList <+: c.cps.toList∧y.length < j+1) ↔ (y.cps.toList <+: c.cps.toList∧y.length < j)∨y=mk (c.cps.toList.take j):=by
  have cl:=cps_len c
  have yl:=cps_len y
  constructor
  · rintro ⟨p,l⟩
    rcases Nat.lt_or_ge y.length j with g | g
    · exact .inl ⟨p,g⟩
    · refine .inr (str_ext ?_)
      have e:=List.prefix_iff_eq_take.mp p
      rw [e,mk_cps];congr 1;omega
  · rintro (⟨p,l⟩ | rfl)
    · exact ⟨p,by omega⟩
    · refine ⟨List.take_prefix _ _,?_⟩
      rw [mk_len,List.length_take];omega
section
variable {P:Program} {w:World} {K:PySem.W.Frag} {mg:Str→Option Value} {base:Heap} {k:Nat}
structure Begs (ss zs:List Str):Prop where
  nd:zs.Nodup
  so:PyProof.Rows.sortedS zs=true
  mem:∀ z,z∈zs ↔ Pre ss z
theorem Begs.one {ss zs ys:List Str} (a:Begs ss zs) (b:Begs ss ys):zs=ys:=sorted_one a.so b.so ((List.perm_ext_iff_of_nodup a.nd b.nd).mpr fun z=>by rw [a.mem,b.mem])
def sp_beg (ls:List Lm):Sp:=fun vs H Q _=>∃ (t:Addr) (ups:List Int) (lab:Str),vs=[.ref t]∧TreeAt H t ups lab∧Lams ls H ∧
  ∀ (ks:List Nat) (zs:List Str) (r:Addr) (H':Hp),KeptOk ups lab ks→Begs (ctxs ups lab ks) zs→zs.length≤3720→Kt ls H H'→H r=none→H' r=some (.tup (zs.map V.str))→Q (.ref r) H'
theorem has_beg {ls:List Lm} (D:Df K mg "beginnings_of" s_beginnings_of) (B:Blt7 mg) (G_contexts_of:Has P w K mg base "contexts_of" k ["tree"] (sp_ctxs ls)):Has P w K mg base "beginnings_of" (k+1) ["tree"] (sp_beg ls):=by
  refine D.has sc_beginnings_of (fun _ _ _ _ _ _ us hl=>match us,hl with | [_],_=>rfl) (fun vs H Q E h=>by obtain ⟨t,ups,lab,rfl,_⟩:=h;rfl) (fun f cdv A outer s H vs Q E hr h=>?_)
  obtain ⟨t,ups,lab,rfl,tr,L,q⟩:=h
  refine ⟨_,(pss_cons (ps_set (i:=1) sc_beginnings_of.nd rfl (by first | exact Or.inl rfl | exact Or.inr rfl) pe_dnewK)
  (pss_cons (ps_for PassesOwn.never rfl (pi_list (pe_callH G_contexts_of hr rfl (pa_cons (pv 0) pa_nil))) (pg_name (i:=2) sc_beginnings_of.nd rfl (by first | exact Or.inl rfl | exact Or.inr rfl))
  (pss_one (ps_for PassesOwn.never rfl (pi_range1 rfl B.range (pa_cons (pe_op op_add (pe_callB call_len_str rfl B.len bt_len (pa_cons (pv 2) pa_nil)) pe_int) pa_nil)) (pg_name (i:=3) sc_beginnings_of.nd rfl (by first | exact Or.inl rfl | exact Or.inr rfl))
  (pss_one (ps_dput (hu_of hr) (pv 1) (pe_slice sl_str (pv 2) po_none (po_some (pv 3))) pe_bl rfl)))))
  (pss_one (ps_ret (pe_callTy call_tuple_of rfl B.tuple_ bt_tuple (pa_cons (pe_callB (call_sortedD rfl) rfl B.sorted bt_sorted (pa_cons (pv 1) pa_nil)) pa_nil)))))),?_⟩
  obtain ⟨u,ht,hu,ok⟩:=id tr
  have m60:=ok.most
  have lpos:=ok.pos
  refine fun d hd=>?_
  have s0:Same H (upd H d (.dK [])):=(Same.refl H).new hd
  have h0:upd H d (.dK []) d=some (.dK []):=upd_same
  generalize upd H d (.dK [])=H0 at s0 h0
  refine ⟨_,rfl,t,ups,lab,rfl,tr.same s0,L.same s0,fun ks c1 H1 ko k01 hf1 hc1=>?_⟩
  have k1:Kt ls H H1:=(Kt.of s0 L).trans k01
  have hd1:=k01.keep _ _ (fun _ z=>by cases z) h0
  have sl:(ctxs ups lab ks).length=ups.length:=by unfold ctxs;rw [List.length_map,kept_len ko lpos]
  have cl:∀ c∈ctxs ups lab ks,c.length≤61:=fun c hc=>by
    obtain ⟨j,hj,rfl⟩:=List.mem_map.mp hc
    exact ctx_len ok (kept_in ko lpos j hj)
  have q:=q ks
  generalize ctxs ups lab ks=ss at hc1 sl cl q
  refine ⟨c1,rfl,⟨_,SqL.of hc1⟩,?_⟩
  refine for_list (xs:=ss.map V.str) (fun i σ H'=>∃ (o2 o3:Option V) (kvs:List (Key × V)),σ=[some (.ref t),some (.ref d),o2,o3]∧Kt ls H H'∧H' c1=some (.lst (ss.map V.str))∧H' d=some (.dK kvs)∧Kp kvs (Pre (ss.take i))∧kvs.length≤62 * i)
    ⟨none,none,[],rfl,k1,hc1,hd1,⟨by simp,by simp,fun z hz=>by obtain ⟨_,hc,_⟩:=hz;simp at hc⟩,Nat.le_refl _⟩ (fun i σ H' _ h=>by obtain ⟨_,_,_,_,_,h,_⟩:=h;exact SqL.of h) ?_ ?_
  · rintro i x σ H' hx ⟨o2,o3,kvs,rfl,kX,gc,gd,kp,kl⟩
    obtain ⟨c,hc,rfl⟩:=strs_get hx
    have il:i < ss.length:=(List.getElem?_eq_some_iff.mp hc).1
    have cb:=cl c (List.mem_of_getElem? hc)
    have cz:c.length≤sizeLine:=line_le (by omega)
    refine ⟨_,rfl,c,rfl,cz,_,_,rfl,rfl,_,rfl,by omega,by omega,?_⟩
    have eN:((c.length:Int)+1).toNat=c.length+1:=by omega
    refine for_range (lo:=0) (n:=((c.length:Int)+1).toNat) (fun j σ H'=>∃ (o3:Option V) (kvs:List (Key × V)),σ=[some (.ref t),some (.ref d),some (.str c),o3]∧Kt ls H H'∧H' c1=some (.lst (ss.map V.str))∧H' d=some (.dK kvs)∧Kp kvs (fun z=>Pre (ss.take i) z∨(z.cps.toList <+: c.cps.toList∧z.length < j))∧kvs.length≤62 * i+j)
      ⟨_,kvs,rfl,kX,gc,gd,kp.congr (fun z=>⟨fun h=>h.elim id fun ⟨_,b⟩=>absurd b (Nat.not_lt_zero _),.inl⟩),kl⟩ ?_ ?_
    · rintro j σ H' hj ⟨o3,kvs,rfl,kX,gc,gd,kp,kl⟩
      have dc:d≠c1:=ne_of gd gc (by intro e;cases e)
      refine ⟨_,rfl,_,rfl,_,rfl,_,rfl,c,rfl,cz,d,_,rfl,.inl ⟨kvs,Sum.inr (cutS c none (some (0+(j:Int)))),gd,rfl,Nat.lt_of_lt_of_le (show kvs.length < 10000 by omega) (by decide),rfl⟩,?_⟩
      have ec:cutS c none (some (0+(j:Int)))=mk (c.cps.toList.take j):=str_ext (by rw [Int.zero_add];exact cutS_to c j)
      rw [ec]
      refine ⟨some (.int (0+(j:Int))),putK kvs (.inr (mk (c.cps.toList.take j))) (.bl true),rfl,Kt.dput kX hd gd,by rw [upd_ne (Ne.symm dc)];exact gc,upd_same,kp.put _ _ (fun y=>?_),?_⟩
      · rw [pre_take (by omega)]
        constructor
        · rintro (h | h | h)
          · exact .inl (.inl h)
          · exact .inl (.inr h)
          · exact .inr h
        · rintro ((h | h) | h)
          · exact .inl h
          · exact .inr (.inl h)
          · exact .inr (.inr h)
      · by_cases m:(Sum.inr (mk (c.cps.toList.take j)):Key)∈kvs.map (·.1)
        · have:=congrArg List.length (putK_in (.bl true) m)
          rw [List.length_map,List.length_map] at this
          omega
        · have:=congrArg List.length (putK_out (.bl true) m)
          rw [List.length_map,List.length_append,List.length_map,List.length_singleton] at this
          omega
    · rintro σ H' ⟨o3,kvs,rfl,kX,gc,gd,kp,kl⟩
      refine ⟨_,o3,kvs,rfl,kX,gc,gd,kp.congr (fun z=>?_),by omega⟩
      have tk:ss.take (i+1)=ss.take i++[c]:=by rw [List.take_succ,hc];rfl
      rw [tk,Pre.snoc,eN]
      constructor
      · rintro (h | h)
        · exact .inl h
        · refine .inr ⟨h,?_⟩
          have:=h.length_le
          rw [cps_len,cps_len] at this
          omega
      · rintro (h | ⟨h,_⟩)
        · exact .inl h
        · exact .inr h
  · rintro σ H' ⟨o2,o3,kvs,rfl,kX,gc,gd,kp,kl⟩
    rw [List.length_map,List.take_length] at kp
    rw [List.length_map] at kl
    refine ⟨_,rfl,d,kvs,kzs kvs,rfl,.inl gd,kzs_keys kp,kzs_nodup kp,fun zs l zp zo hl=>?_⟩
    have zl:zs.length≤3720:=by
      rw [zp.length_eq];unfold kzs;rw [List.length_map];omega
    have s2:Same H' (upd H' l (.lst (zs.map V.str))):=(Same.refl H').new hl
    refine ⟨l,_,rfl,.inl ⟨SqL.of upd_same,fun r hr=>?_⟩⟩
    exact q zs r _ ko ⟨zp.nodup_iff.mpr (kzs_nodup kp),zo,fun z=>by rw [zp.mem_iff,kzs_mem kp]⟩ zl (kX.same (s2.new hr)) (kX.here _ (s2.free hr)) upd_same
def sp_lbeg:Sp:=fun vs H Q _=>∃ (t:Addr) (ss:List Str),vs=[.ref t]∧H t=some (.lst (ss.map V.str))∧ss.length≤60∧(∀ c∈ss,c.length≤61) ∧
  ∀ (zs:List Str) (r:Addr) (H':Hp),Begs ss zs→zs.length≤3720→Same H H'→H r=none→H' r=some (.lst (zs.map V.str))→Q (.ref r) H'
theorem has_lbeg (D:Df K mg "_law_beginnings" s_law_beginnings) (B:Blt7 mg):Has P w K mg base "_law_beginnings" (k+1) ["contexts"] sp_lbeg:=by
  refine D.has sc_law_beginnings (fun _ _ _ _ _ _ us hl=>match us,hl with | [_],_=>rfl) (fun vs H Q E h=>by obtain ⟨t,ss,rfl,_⟩:=h;rfl) (fun f cdv A outer s H vs Q E hr h=>?_)
  obtain ⟨t,ss,rfl,hc0,sl,cl,q⟩:=h
  refine ⟨_,(pss_cons (ps_set (i:=1) sc_law_beginnings.nd rfl (by first | exact Or.inl rfl | exact Or.inr rfl) pe_dnewK)
  (pss_cons (ps_for PassesOwn.never rfl (pi_list (pv 0)) (pg_name (i:=2) sc_law_beginnings.nd rfl (by first | exact Or.inl rfl | exact Or.inr rfl))
  (pss_one (ps_for PassesOwn.never rfl (pi_range1 rfl B.range (pa_cons (pe_op op_add (pe_callB call_len_str rfl B.len bt_len (pa_cons (pv 2) pa_nil)) pe_int) pa_nil)) (pg_name (i:=3) sc_law_beginnings.nd rfl (by first | exact Or.inl rfl | exact Or.inr rfl))
  (pss_one (ps_dput (hu_of hr) (pv 1) (pe_slice sl_str (pv 2) po_none (po_some (pv 3))) pe_bl rfl)))))
  (pss_one (ps_ret (pe_callB (call_sortedD rfl) rfl B.sorted bt_sorted (pa_cons (pv 1) pa_nil)))))),?_⟩
  refine fun d hd=>?_
  have s1:Same H (upd H d (.dK [])):=(Same.refl H).new hd
  have hd1:upd H d (.dK []) d=some (.dK []):=upd_same
  obtain ⟨c1,ec1⟩:∃ c1,c1=t:=⟨t,rfl⟩
  have hc1:upd H d (.dK []) c1=some (.lst (ss.map V.str)):=by rw [ec1];exact s1 _ _ hc0
  generalize upd H d (.dK [])=H1 at s1 hd1 hc1
  refine ⟨_,rfl,c1,by rw [ec1],⟨_,SqL.of hc1⟩,?_⟩
  refine for_list (xs:=ss.map V.str) (fun i σ H'=>∃ (o2 o3:Option V) (kvs:List (Key × V)),σ=[some (.ref t),some (.ref d),o2,o3]∧Same H H'∧H' c1=some (.lst (ss.map V.str))∧H' d=some (.dK kvs)∧Kp kvs (Pre (ss.take i))∧kvs.length≤62 * i)
    ⟨none,none,[],rfl,s1,hc1,hd1,⟨by simp,by simp,fun z hz=>by obtain ⟨_,hc,_⟩:=hz;simp at hc⟩,Nat.le_refl _⟩ (fun i σ H' _ h=>by obtain ⟨_,_,_,_,_,h,_⟩:=h;exact SqL.of h) ?_ ?_
  · rintro i x σ H' hx ⟨o2,o3,kvs,rfl,kX,gc,gd,kp,kl⟩
    obtain ⟨c,hc,rfl⟩:=strs_get hx
    have il:i < ss.length:=(List.getElem?_eq_some_iff.mp hc).1
    have cb:=cl c (List.mem_of_getElem? hc)
    have cz:c.length≤sizeLine:=line_le (by omega)
    refine ⟨_,rfl,c,rfl,cz,_,_,rfl,rfl,_,rfl,by omega,by omega,?_⟩
    have eN:((c.length:Int)+1).toNat=c.length+1:=by omega
    refine for_range (lo:=0) (n:=((c.length:Int)+1).toNat) (fun j σ H'=>∃ (o3:Option V) (kvs:List (Key × V)),σ=[some (.ref t),some (.ref d),some (.str c),o3]∧Same H H'∧H' c1=some (.lst (ss.map V.str))∧H' d=some (.dK kvs)∧Kp kvs (fun z=>Pre (ss.take i) z∨(z.cps.toList <+: c.cps.toList∧z.length < j))∧kvs.length≤62 * i+j)
      ⟨_,kvs,rfl,kX,gc,gd,kp.congr (fun z=>⟨fun h=>h.elim id fun ⟨_,b⟩=>absurd b (Nat.not_lt_zero _),.inl⟩),kl⟩ ?_ ?_
    · rintro j σ H' hj ⟨o3,kvs,rfl,kX,gc,gd,kp,kl⟩
      have dc:d≠c1:=ne_of gd gc (by intro e;cases e)
      refine ⟨_,rfl,_,rfl,_,rfl,_,rfl,c,rfl,cz,d,_,rfl,.inl ⟨kvs,Sum.inr (cutS c none (some (0+(j:Int)))),gd,rfl,Nat.lt_of_lt_of_le (show kvs.length < 10000 by omega) (by decide),rfl⟩,?_⟩
      have ec:cutS c none (some (0+(j:Int)))=mk (c.cps.toList.take j):=str_ext (by rw [Int.zero_add];exact cutS_to c j)
      rw [ec]
      refine ⟨some (.int (0+(j:Int))),putK kvs (.inr (mk (c.cps.toList.take j))) (.bl true),rfl,kX.write hd,by rw [upd_ne (Ne.symm dc)];exact gc,upd_same,kp.put _ _ (fun y=>?_),?_⟩
      · rw [pre_take (by omega)]
        constructor
        · rintro (h | h | h)
          · exact .inl (.inl h)
          · exact .inl (.inr h)
          · exact .inr h
        · rintro ((h | h) | h)
          · exact .inl h
          · exact .inr (.inl h)
          · exact .inr (.inr h)
      · by_cases m:(Sum.inr (mk (c.cps.toList.take j)):Key)∈kvs.map (·.1)
        · have:=congrArg List.length (putK_in (.bl true) m)
          rw [List.length_map,List.length_map] at this
          omega
        · have:=congrArg List.length (putK_out (.bl true) m)
          rw [List.length_map,List.length_append,List.length_map,List.length_singleton] at this
          omega
    · rintro σ H' ⟨o3,kvs,rfl,kX,gc,gd,kp,kl⟩
      refine ⟨_,o3,kvs,rfl,kX,gc,gd,kp.congr (fun z=>?_),by omega⟩
      have tk:ss.take (i+1)=ss.take i++[c]:=by rw [List.take_succ,hc];rfl
      rw [tk,Pre.snoc,eN]
      constructor
      · rintro (h | h)
        · exact .inl h
        · refine .inr ⟨h,?_⟩
          have:=h.length_le
          rw [cps_len,cps_len] at this
          omega
      · rintro (h | ⟨h,_⟩)
        · exact .inl h
        · exact .inr h
  · rintro σ H' ⟨o2,o3,kvs,rfl,kX,gc,gd,kp,kl⟩
    rw [List.length_map,List.take_length] at kp
    rw [List.length_map] at kl
    refine ⟨_,rfl,d,kvs,kzs kvs,rfl,.inl gd,kzs_keys kp,kzs_nodup kp,fun zs l zp zo hl=>?_⟩
    have zl:zs.length≤3720:=by
      rw [zp.length_eq];unfold kzs;rw [List.length_map];omega
    exact q zs l _ ⟨zp.nodup_iff.mpr (kzs_nodup kp),zo,fun z=>by rw [zp.mem_iff,kzs_mem kp]⟩ zl (kX.new hl) (kX.free hl) upd_same
end
end S40
namespace S40
open PySem L2 W7
structure GU (us:List Int):Prop where
  pos:0 < us.length
  root:us.getD 0 0=-1
  up:∀ k,0 < k→k < us.length→0≤us.getD k 0∧us.getD k 0 < (k:Int)
theorem GU.one:GU [-1]:=⟨by decide,rfl,fun k h1 h2=>by simp at h2;omega⟩
theorem GU.snoc {us:List Int} {v:Int} (g:GU us) (v0:0≤v) (v1:v < (us.length:Int)):GU (us++[v]):=by
  refine ⟨by rw [List.length_append];have:=g.pos;omega,?_,fun k h1 h2=>?_⟩
  · rw [List.getD_eq_getElem?_getD,List.getElem?_append_left g.pos,← List.getD_eq_getElem?_getD];exact g.root
  · rw [List.length_append,List.length_singleton] at h2
    rcases Nat.lt_or_ge k us.length with l | l
    · rw [List.getD_eq_getElem?_getD,List.getElem?_append_left l,← List.getD_eq_getElem?_getD];exact g.up k h1 l
    · have e:k=us.length:=by omega
      subst e
      rw [List.getD_eq_getElem?_getD,List.getElem?_append_right (Nat.le_refl _),Nat.sub_self]
      exact ⟨v0,v1⟩
theorem GU.lt {us:List Int} (g:GU us) {k:Int} (h0:0≤k) (h1:k < (us.length:Int)):us.getD k.toNat 0 < k∧-1≤us.getD k.toNat 0:=by
  rcases Nat.eq_zero_or_pos k.toNat with z | z
  · have:=g.root
    rw [← z] at this
    omega
  · have:=g.up k.toNat z (by omega)
    omega
theorem ints_mem {ns:List Int} {i:Int} (h0:0≤i) (h1:i < (ns.length:Int)):ns.getD i.toNat 0∈ns:=by
  rw [List.getD_eq_getElem?_getD,List.getElem?_eq_getElem (show i.toNat < ns.length by omega)]
  exact List.getElem_mem _
section
variable {P:Program} {w:World} {K:PySem.W.Frag} {mg:Str→Option Value} {base:Heap} {k:Nat}
def sp_line:Sp:=fun vs H Q _=>∃ (u:Addr) (us:List Int) (i:Int),vs=[.ref u,.int i]∧H u=some (.lst (us.map V.int))∧GU us∧us.length≤60∧0≤i∧i < (us.length:Int) ∧
  ∀ (ns:List Int) (r:Addr) (H':Hp),Same H H'→H r=none→H' r=some (.lst (ns.map V.int))→0 < ns.length→ns.length≤61→(∀ v∈ns,0≤v∧v≤i)→Q (.ref r) H'
theorem has_line (D:Df K mg "_law_line" s_law_line) (B:Blt7 mg):Has P w K mg base "_law_line" (k+1) ["ups", "k"] sp_line:=by
  refine D.has sc_law_line (fun _ _ _ _ _ _ us hl=>match us,hl with | [_,_],_=>rfl) (fun vs H Q E h=>by obtain ⟨u,us,i,rfl,_⟩:=h;rfl) (fun f cdv A outer s H vs Q E hr h=>?_)
  obtain ⟨u,us,i,rfl,hu,gu,u60,i0,i1,q⟩:=h
  refine ⟨_,(pss_cons (ps_set (i:=2) sc_law_line.nd rfl (by first | exact Or.inl rfl | exact Or.inr rfl) (pe_lst (pa_cons (pv 1) pa_nil)))
  (pss_cons (ps_for PassesOwn.never rfl (pi_range1 rfl B.range (pa_cons (pv 1) pa_nil)) (pg_name (i:=3) sc_law_line.nd rfl (by first | exact Or.inl rfl | exact Or.inr rfl))
  (pss_one (ps_if (pt_cmpR op_ge (pe_ix ix_list (pv 0) (pe_ix ix_list (pv 2) (pe_un un_neg pe_int) (fun _ _=>rfl)) (fun _ _=>rfl)) pe_int (nomark _))
  (pss_one (ps_expr (pe_bm PySem.F.plainAttrs_list PySem.F.slot_list_append PySem.F.type_list_append mt_append (pv 2) (pa_cons (pe_ix ix_list (pv 0) (pe_ix ix_list (pv 2) (pe_un un_neg pe_int) (fun _ _=>rfl)) (fun _ _=>rfl)) pa_nil))))
  pss_nil)))
  (pss_one (ps_ret (pv 2))))),?_⟩
  refine ⟨_,rfl,(by show 1≤sizeLine;decide),fun r hr0=>?_⟩
  have s1:Same H (upd H r (.lst [.int i])):=(Same.refl H).new hr0
  have h1:upd H r (.lst [.int i]) r=some (.lst (([]++[i]:List Int).map V.int)):=upd_same
  show (fun HH=>_) (upd H r (.lst [.int i]))
  generalize upd H r (.lst [.int i])=H1 at s1 h1
  have ru:r≠u:=(ne_of_none hu hr0).symm
  refine ⟨_,rfl,_,rfl,by omega,by omega,?_⟩
  refine for_range (lo:=0) (n:=i.toNat) (fun j σ H'=>∃ (o3:Option V) (ns:List Int) (last:Int),σ=[some (.ref u),some (.int i),some (.ref r),o3]∧Same H H'∧H' r=some (.lst ((ns++[last]).map V.int))∧ns.length≤j∧(∀ v∈ns++[last],0≤v∧v≤i))
    ⟨none,[],i,rfl,s1,h1,Nat.le_refl _,fun v hv=>by rw [List.mem_singleton.mp hv];omega⟩ ?_ ?_
  · rintro j σ H' hj ⟨o3,ns,last,rfl,sX,hX,nl,av⟩
    have hu':=sX _ _ hu
    obtain ⟨la0,la1⟩:=av last (by simp)
    have hlast:atI ((ns++[last]).map V.int) (-1)=some (.int last):=by rw [List.map_append];exact atI_last _ _
    have hat:=ints_at (us:=us) (i:=last) la0 (by omega)
    obtain ⟨g1,g2⟩:=gu.lt la0 (show last < (us.length:Int) by omega)
    refine ⟨_,rfl,_,rfl,_,rfl,r,_,_,_,rfl,rfl,SqL.of hX,hlast,u,_,_,_,rfl,rfl,SqL.of hu',hat,_,_,rfl,rfl,_,rfl,ite2 (fun c=>?_) (fun c=>?_)⟩
    · have c:=of_decide_eq_true c
      refine ⟨_,rfl,.inl ⟨rfl,_,SqL.of hX⟩,_,rfl,_,rfl,_,rfl,r,_,_,_,rfl,rfl,SqL.of hX,hlast,u,_,_,_,rfl,rfl,SqL.of hu',hat,r,_,_,rfl,rfl,hX,?_,?_⟩
      · rw [List.length_map,List.length_append,List.length_singleton];exact small1000 (by omega)
      · refine ⟨some (.int (0+(j:Int))),ns++[last],us.getD last.toNat 0,rfl,sX.write hr0,?_,by rw [List.length_append,List.length_singleton];omega,fun v hv=>?_⟩
        · rw [upd_same,List.map_append (l₁:=ns++[last])];rfl
        · rcases List.mem_append.mp hv with h | h
          · exact av v h
          · rw [List.mem_singleton.mp h];omega
    · exact ⟨some (.int (0+(j:Int))),ns,last,rfl,sX,hX,by omega,av⟩
  · rintro σ H' ⟨o3,ns,last,rfl,sX,hX,nl,av⟩
    exact ⟨_,rfl,q _ r H' sX hr0 hX (by rw [List.length_append];simp) (by rw [List.length_append,List.length_singleton];omega) av⟩
def sp_up:Sp:=fun vs H Q _=>∃ (p u:Addr) (us:List Int) (i way period c:Int),vs=[.ref p,.ref u,.int i,.int way,.int period]∧Pt H p c∧c < 900000∧H u=some (.lst (us.map V.int))∧u≠p∧GU us∧us.length < 60∧i=(us.length:Int)∧0 < period∧period < 1000 ∧
  ∀ (v:Int) (H':Hp),0≤v→v < i→Kq p (c+2) H H'→Q (.int v) H'
theorem has_up (D:Df K mg "_law_up" s_law_up) (B:Blt7 mg) (G_law_line:Has P w K mg base "_law_line" k ["ups", "k"] sp_line) (G_law_take:Has P w K mg base "_law_take" k ["pot", "many"] sp_take):Has P w K mg base "_law_up" (k+1) ["pot", "ups", "k", "way", "period"] sp_up:=by
  refine D.has sc_law_up (fun _ _ _ _ _ _ us hl=>match us,hl with | [_,_,_,_,_],_=>rfl) (fun vs H Q E h=>by obtain ⟨p,u,us,i,way,period,c,rfl,_⟩:=h;rfl) (fun f cdv A outer s H vs Q E hr h=>?_)
  obtain ⟨p,u,us,i,way,period,c,rfl,pt,c9,hu,up,gu,u60,ei,p0,p1,q⟩:=h
  refine ⟨_,(pss_cons (ps_set (i:=5) sc_law_up.nd rfl (by first | exact Or.inl rfl | exact Or.inr rfl) (pe_callH G_law_line hr rfl (pa_cons (pv 1) (pa_cons (pe_op op_sub (pv 2) pe_int) pa_nil))))
  (pss_cons (ps_if (pt_cmpR op_eq (pv 3) pe_int (nomark _))
  (pss_one (ps_ret (pe_op op_sub (pv 2) pe_int)))
  pss_nil)
  (pss_cons (ps_if (pt_cmpR op_eq (pv 3) pe_int (nomark _))
  (pss_one (ps_ret pe_int))
  pss_nil)
  (pss_cons (ps_if (pt_cmpR op_eq (pv 3) pe_int (nomark _))
  (pss_one (ps_ret (pe_ix ix_list (pv 5) (pe_callB (call_min2 rfl) rfl B.min bt_min (pa_cons (pe_op op_sub (pe_callB call_len_seq rfl B.len bt_len (pa_cons (pv 5) pa_nil)) pe_int) (pa_cons (pe_op op_mod (pe_op op_add (pv 2) pe_int) pe_int) pa_nil))) (fun _ _=>rfl))))
  pss_nil)
  (pss_cons (ps_if (pt_cmpR op_eq (pv 3) pe_int (nomark _))
  (pss_cons (ps_comp (i:=6) sc_law_up.nd rfl (by first | exact Or.inl rfl | exact Or.inr rfl) rfl (pi_list (pv 5)) (NL:=["place"]) (ix:=[1,5]) (csc (defScope s_law_up) N_law_up) (fun cl C s₃ H₃ fp pins=>⟨(pg_name (i:=0) (show List.Nodup (["place", "ups", "line"]:List Str) from by decide +kernel) rfl (by first | exact Or.inl rfl | exact Or.inr rfl)),(pifs_one (PW.pt (pw_and (pt_cmpR op_lt (pe_countI K (pv 1) (pv 0)) pe_int (nomark _)) (pw_and1 (pt_cmpR op_lt (pe_op op_sub (pe_callB (call_len_seqK K) rfl B.len bt_len (pa_cons (pv 2) pa_nil)) (pe_indexI K (pv 2) (pv 0))) pe_int (nomark _)))))),(pv 0)⟩))
  (pss_one (ps_ret (pe_ix ix_list (pe_op op_cat (pv 6) (pe_lst (pa_cons pe_int pa_nil))) pe_int (fun _ _=>rfl)))))
  pss_nil)
  (pss_cons (ps_if (pt_cmpR op_eq (pv 3) pe_int (nomark _))
  (pss_one (ps_ret (pe_ix ix_list (pe_lst (pa_cons (pe_op op_sub (pv 2) pe_int) (pa_cons pe_int pa_nil))) (pe_callTy call_int1 rfl B.int_ bt_int (pa_cons (pe_cmpR op_eq (pe_op op_mod (pv 2) (pv 4)) pe_int (nomark _)) pa_nil)) (fun _ _=>rfl))))
  pss_nil)
  (pss_cons (ps_set (i:=7) sc_law_up.nd rfl (by first | exact Or.inl rfl | exact Or.inr rfl) (pe_callH G_law_take hr rfl (pa_cons (pv 0) (pa_cons (pe_callB call_len_seq rfl B.len bt_len (pa_cons (pv 5) pa_nil)) pa_nil))))
  (pss_one (ps_ret (pe_ix ix_list (pv 5) (pe_ifExp (pt_cmpR op_eq (pv 3) pe_int (nomark _)) (pv 7) (pe_callB (call_min2 rfl) rfl B.min bt_min (pa_cons (pv 7) (pa_cons (pe_callH G_law_take hr rfl (pa_cons (pv 0) (pa_cons pe_int pa_nil))) pa_nil)))) (fun _ _=>rfl))))))))))),?_⟩
  have gpos:=gu.pos
  refine ⟨_,rfl,_,rfl,_,_,rfl,rfl,u,us,i - 1,rfl,hu,gu,by omega,by omega,by omega,fun ns r H1 s1 hf1 hr1 n0 n61 av=>?_⟩
  have kq1:Kq p c H H1:=(Kq.refl pt).same s1
  have rp:r≠p:=pt.ne hf1
  have fin:∀ (v:Int) {H':Hp},0≤v→v < i→Kq p (c+2) H H'→Q (.int v) H':=fun v {H'} a b kq=>q v H' a b kq
  have k2:=kq1.mono (show c≤c+2 by omega)
  refine ⟨_,rfl,rfl,_,rfl,ite2 (fun _=>?_) (fun _=>?_)⟩
  · exact ⟨_,rfl,_,_,rfl,rfl,fin _ (by omega) (by omega) k2⟩
  refine ⟨_,rfl,rfl,_,rfl,ite2 (fun _=>?_) (fun _=>?_)⟩
  · exact fin 0 (by omega) (by omega) k2
  refine ⟨_,rfl,rfl,_,rfl,ite2 (fun _=>?_) (fun _=>?_)⟩
  · have m0:=Int.emod_nonneg (i+1) (show (2:Int)≠0 by decide)
    have m1:=Int.emod_lt_of_pos (i+1) (show (0:Int) < 2 by decide)
    refine ⟨_,rfl,_,rfl,r,_,rfl,.inl (SqL.of hr1),_,_,rfl,rfl,_,rfl,_,_,rfl,rfl,_,_,rfl,rfl,(by decide:(0:Int) < 2),_,_,rfl,?_⟩
    rw [List.length_map]
    obtain ⟨ix,hix,x0,x1⟩:∃ ix:Int,ix=(if (i+1) % 2 < ((ns.length:Nat):Int) - 1 then (i+1) % 2 else ((ns.length:Nat):Int) - 1)∧0≤ix∧ix < (ns.length:Int):=⟨_,rfl,by split <;> omega,by split <;> omega⟩
    rw [← hix]
    obtain ⟨v0,v1⟩:=av _ (ints_mem x0 x1)
    exact ⟨r,_,_,_,rfl,rfl,SqL.of hr1,ints_at x0 x1,fin _ v0 (by omega) k2⟩
  refine ⟨_,rfl,rfl,_,rfl,ite2 (fun _=>?_) (fun _=>?_)⟩
  · refine ⟨_,rfl,r,rfl,⟨_,SqL.of hr1⟩,fun acc hacc=>?_⟩
    have accp:acc≠p:=kq1.pt.ne hacc
    refine comp_lst (xs:=ns.map V.int) (by rw [List.length_map];omega) (fun j ys HX=>HX acc=some (.lst ys)∧Same H1 HX∧ys.length≤j∧∃ ms:List Int,ys=ms.map V.int∧∀ v∈ms,0≤v∧v≤i - 1)
      (fun j ys HX h=>SqL.of (h.2.1 _ _ hr1)) (fun j ys HX h=>⟨h.1,h.2.2.1⟩) ⟨upd_same,(Same.refl H1).new hacc,Nat.le_refl _,[],rfl,fun v hv=>by cases hv⟩ ?_ ?_
    rotate_left
    · rintro j x ys HX hx ⟨g1,g2,g3,ms,rfl,g5⟩
      rw [List.getElem?_map] at hx
      cases ev:ns[j]? with
      | none=>rw [ev] at hx;cases hx
      | some v=>
      rw [ev] at hx
      cases hx
      have vn:=List.mem_of_getElem? ev
      have hu2:=g2 _ _ (s1 _ _ hu)
      have hr2:=g2 _ _ hr1
      have more:∀ HY:Hp,HY=HX→(HY acc=some (.lst (ms.map V.int))∧(upd HY acc (.lst (ms.map V.int++[V.int v]))) acc=some (.lst (ms.map V.int++[V.int v]))∧Same H1 (upd HY acc (.lst (ms.map V.int++[V.int v])))∧(ms.map V.int++[V.int v]).length≤j+1∧∃ ls:List Int,ms.map V.int++[V.int v]=ls.map V.int∧∀ v∈ls,0≤v∧v≤i - 1):=fun HY e=>by
        subst e
        refine ⟨g1,upd_same,g2.write hacc,by rw [List.length_append,List.length_singleton];omega,ms++[v],by rw [List.map_append];rfl,fun y hy=>?_⟩
        rcases List.mem_append.mp hy with h | h
        · exact g5 y h
        · rw [List.mem_singleton.mp h];exact av v vn
      refine ⟨rfl,_,rfl,.inl ⟨rfl,_,SqL.of hu2⟩,_,rfl,u,_,_,rfl,rfl,hu2,_,_,rfl,rfl,_,rfl,ite2 (fun cnd=>?_) (fun cnd=>?_)⟩
      · refine ⟨_,rfl,r,_,rfl,.inl (SqL.of hr2),_,rfl,.inl ⟨rfl,_,SqL.of hr2⟩,_,rfl,r,_,_,rfl,rfl,hr2,vn,by omega,_,_,rfl,rfl,_,_,rfl,rfl,_,rfl,ite2 (fun cnd=>?_) (fun cnd=>?_)⟩
        · exact ⟨_,rfl,more HX rfl⟩
        · exact ⟨g1,g2,by omega,ms,rfl,g5⟩
      · exact ⟨g1,g2,by omega,ms,rfl,g5⟩
    rintro ys H2 ⟨g1,g2,g3,ms,rfl,g5⟩
    rw [List.length_map] at g3
    rw [List.length_map] at g3
    refine ⟨_,rfl,(by show 1≤sizeLine;decide),fun e he=>?_⟩
    have ae:acc≠e:=ne_of_none g1 he
    refine ⟨acc,e,_,_,rfl,rfl,by rw [upd_ne ae];exact g1,upd_same,line_le (by rw [List.length_map];show _+1≤_;omega),fun e2 he2=>?_⟩
    have e0:ms.map V.int++[V.int 0]=(ms++[0]).map V.int:=by rw [List.map_append];rfl
    rw [e0]
    have a0:=ints_at (us:=ms++[0]) (i:=0) (by omega) (by rw [List.length_append,List.length_singleton];omega)
    have am:=ints_mem (ns:=ms++[0]) (i:=0) (by omega) (by rw [List.length_append,List.length_singleton];omega)
    have vb:0≤(ms++[0]).getD (0:Int).toNat 0∧(ms++[0]).getD (0:Int).toNat 0≤i - 1:=by
      rcases List.mem_append.mp am with h | h
      · exact g5 _ h
      · rw [List.mem_singleton.mp h];omega
    exact ⟨e2,_,_,_,rfl,rfl,SqL.of upd_same,a0,fin _ vb.1 (by omega) (((k2.same g2).new he).new he2)⟩
  refine ⟨_,rfl,rfl,_,rfl,ite2 (fun _=>?_) (fun _=>?_)⟩
  · refine ⟨_,rfl,_,_,rfl,rfl,(by show 2≤sizeLine;decide),fun e he=>?_⟩
    refine ⟨_,rfl,_,rfl,_,_,rfl,rfl,p0,rfl,.inr ⟨_,rfl,?_⟩⟩
    generalize decide (V.int (i % period)=V.int 1)=bb
    cases bb
    · exact ⟨e,_,_,_,rfl,rfl,SqL.of upd_same,rfl,fin _ (by omega) (by omega) (k2.new he)⟩
    · exact ⟨e,_,_,_,rfl,rfl,SqL.of upd_same,rfl,fin _ (by omega) (by omega) (k2.new he)⟩
  refine ⟨_,rfl,_,rfl,r,_,rfl,.inl (SqL.of hr1),p,_,c,rfl,kq1.pt,by omega,by rw [List.length_map];omega,by rw [List.length_map];omega,fun at_ H2 a0 a1 kq2=>?_⟩
  rw [List.length_map] at a1
  have kq12:=kq1.trans kq2
  have hr2:=kq2.keep _ _ rp hr1
  refine ⟨_,rfl,_,rfl,rfl,_,rfl,ite2 (fun _=>?_) (fun _=>?_)⟩
  · obtain ⟨v0,v1⟩:=av _ (ints_mem a0 a1)
    exact ⟨_,rfl,r,_,_,_,rfl,rfl,SqL.of hr2,ints_at a0 a1,fin _ v0 (by omega) (kq12.mono (by omega))⟩
  · refine ⟨_,rfl,_,rfl,p,2,_,rfl,kq12.pt,by omega,by decide,by decide,fun n2 H3 b0 b1 kq3=>?_⟩
    have hr3:=kq3.keep _ _ rp hr2
    refine ⟨_,_,rfl,?_⟩
    obtain ⟨ix,hix,x0,x1⟩:∃ ix:Int,ix=(if n2 < at_ then n2 else at_)∧0≤ix∧ix < (ns.length:Int):=⟨_,rfl,by split <;> omega,by split <;> omega⟩
    rw [← hix]
    obtain ⟨v0,v1⟩:=av _ (ints_mem x0 x1)
    exact ⟨r,_,_,_,rfl,rfl,SqL.of hr3,ints_at x0 x1,fin _ v0 (by omega) ((kq12.trans kq3).mono (by omega))⟩
end
end S40
namespace S40
open PySem L2 W7
section
variable {P:Program} {w:World} {K:PySem.W.Frag} {mg:Str→Option Value} {base:Heap} {k:Nat}
def sp_labels:Sp:=fun vs H Q _=>∃ (p u:Addr) (us:List Int) (period c:Int),vs=[.ref p,.ref u,.int period]∧Pt H p c∧c < 900000∧H u=some (.lst (us.map V.int))∧u≠p∧GU us∧us.length≤60∧0 < period∧period < 1000 ∧
  ∀ (z:Str) (H':Hp),z.length=us.length→(∀ c∈z.cps.toList,Lw c)→Kq p (c+300) H H'→Q (.str z) H'
theorem has_labels (D:Df K mg "_law_labels" s_law_labels) (B:Blt7 mg) (G_law_line:Has P w K mg base "_law_line" k ["ups", "k"] sp_line) (G_law_take:Has P w K mg base "_law_take" k ["pot", "many"] sp_take):Has P w K mg base "_law_labels" (k+1) ["pot", "ups", "period"] sp_labels:=by
  refine D.has sc_law_labels (fun _ _ _ _ _ _ us hl=>match us,hl with | [_,_,_],_=>rfl) (fun vs H Q E h=>by obtain ⟨p,u,us,period,c,rfl,_⟩:=h;rfl) (fun f cdv A outer s H vs Q E hr h=>?_)
  obtain ⟨p,u,us,period,c,rfl,pt,c9,hu,up,gu,u60,p0,p1,q⟩:=h
  refine ⟨_,(pss_cons (ps_set (i:=3) sc_law_labels.nd rfl (by first | exact Or.inl rfl | exact Or.inr rfl) pe_str)
  (pss_cons (ps_set (i:=4) sc_law_labels.nd rfl (by first | exact Or.inl rfl | exact Or.inr rfl) (pe_ix ix_list (pe_lst (pa_cons pe_int (pa_cons pe_int (pa_cons pe_int (pa_cons pe_int (pa_cons pe_int pa_nil)))))) (pe_callH G_law_take hr rfl (pa_cons (pv 0) (pa_cons pe_int pa_nil))) (fun _ _=>rfl)))
  (pss_cons (ps_set (i:=5) sc_law_labels.nd rfl (by first | exact Or.inl rfl | exact Or.inr rfl) (pe_callH G_law_take hr rfl (pa_cons (pv 0) (pa_cons (pe_op op_sub pe_int (pv 4)) pa_nil))))
  (pss_cons (ps_set (i:=6) sc_law_labels.nd rfl (by first | exact Or.inl rfl | exact Or.inr rfl) (pe_callH G_law_take hr rfl (pa_cons (pv 0) (pa_cons pe_int pa_nil))))
  (pss_cons (ps_set (i:=7) sc_law_labels.nd rfl (by first | exact Or.inl rfl | exact Or.inr rfl) pe_str)
  (pss_cons (ps_for PassesOwn.never rfl (pi_range1 rfl B.range (pa_cons (pe_callB call_len_seq rfl B.len bt_len (pa_cons (pv 1) pa_nil)) pa_nil)) (pg_name (i:=8) sc_law_labels.nd rfl (by first | exact Or.inl rfl | exact Or.inr rfl))
  (pss_cons (ps_set (i:=9) sc_law_labels.nd rfl (by first | exact Or.inl rfl | exact Or.inr rfl) (pe_op op_mod (pv 8) (pv 2)))
  (pss_cons (ps_if (pt_cmpR op_eq (pv 6) pe_int (nomark _))
  (pss_one (ps_set (i:=9) sc_law_labels.nd rfl (by first | exact Or.inl rfl | exact Or.inr rfl) (pe_op op_sub (pe_callB call_len_seq rfl B.len bt_len (pa_cons (pe_callH G_law_line hr rfl (pa_cons (pv 1) (pa_cons (pv 8) pa_nil))) pa_nil)) pe_int)))
  pss_nil)
  (pss_cons (ps_if (pt_cmpR op_eq (pv 6) pe_int (nomark _))
  (pss_one (ps_set (i:=9) sc_law_labels.nd rfl (by first | exact Or.inl rfl | exact Or.inr rfl) (pe_op op_fdivL (pe_callH G_law_take hr rfl (pa_cons (pv 0) (pa_cons pe_int pa_nil))) pe_int)))
  pss_nil)
  (pss_cons (ps_if (pt_cmpR op_in_seq (pv 6) (pe_tup (pa_cons pe_int (pa_cons pe_int pa_nil))) (by with_unfolding_all rfl))
  (pss_one (ps_set (i:=9) sc_law_labels.nd rfl (by first | exact Or.inl rfl | exact Or.inr rfl) (pe_callH G_law_take hr rfl (pa_cons (pv 0) (pa_cons (pv 4) pa_nil)))))
  pss_nil)
  (pss_one (ps_set (i:=7) sc_law_labels.nd rfl (by first | exact Or.inl rfl | exact Or.inr rfl) (pe_op op_add_str (pv 7) (pe_ix ix_str (pv 3) (pe_op op_add (pv 5) (pe_op op_mod (pv 9) (pv 4))) (fun _ _=>rfl))))))))))
  (pss_one (ps_ret (pv 7))))))))),?_⟩
  refine ⟨line_le (show 5≤1000 by omega),fun l hl=>?_⟩
  generalize hJ:upd H l _=H1
  have s1:Same H H1:=by rw [← hJ];exact (Same.refl H).new hl
  have h1:H1 l=some (.lst ([1,2,2,3,26].map V.int)):=by rw [← hJ];exact upd_same
  clear hJ
  have kq1:=(Kq.refl pt).same s1
  have lp:l≠p:=pt.ne hl
  refine ⟨_,rfl,p,5,c,rfl,kq1.pt,by omega,by decide,by decide,fun n1 H2 a0 a1 kq2=>?_⟩
  obtain ⟨many,hm,m0,m1⟩:=menu (us:=[1,2,2,3,26]) (n:=n1) (lo:=1) (hi:=26) a0 a1 (by decide)
  refine ⟨l,_,_,_,rfl,rfl,SqL.of (kq2.keep _ _ lp h1),hm,?_⟩
  have kq12:=kq1.trans kq2
  refine ⟨_,rfl,_,rfl,_,_,rfl,rfl,p,_,_,rfl,kq12.pt,by omega,by omega,by omega,fun bs H3 b0 b1 kq3=>?_⟩
  have kq13:=kq12.trans kq3
  refine ⟨_,rfl,p,5,_,rfl,kq13.pt,by omega,by decide,by decide,fun way H4 w0 w1 kq4=>?_⟩
  have kq14:=(kq13.trans kq4).mono (show c+1+1+1≤c+3 by omega)
  have hu4:=kq14.keep _ _ up hu
  refine ⟨_,rfl,u,_,rfl,.inl (SqL.of hu4),_,rfl,by rw [List.length_map];omega,by rw [List.length_map];omega,?_⟩
  rw [List.length_map,Int.toNat_natCast]
  refine for_range (lo:=0) (n:=us.length) (fun i σ H'=>∃ (o8 o9:Option V) (z:Str),σ=[some (.ref p),some (.ref u),some (.int period),some (.str (Str.ofString "abcdefghijklmnopqrstuvwxyz")),some (.int many),some (.int bs),some (.int way),some (.str z),o8,o9]∧z.length=i∧(∀ c∈z.cps.toList,Lw c)∧Kq p (c+3+3 * i) H H')
    ⟨none,none,Str.ofString "", rfl,rfl,(fun c hc=>by cases hc),kq14.mono (by omega)⟩ ?_ ?_
  · rintro i σ H' hi ⟨o8,o9,z,rfl,zl,zlow,kX⟩
    dsimp only [gName]
    refine mid (fun σ' HX=>∃ at_:Int,σ'=[some (V.ref p),some (.ref u),some (.int period),some (.str (Str.ofString "abcdefghijklmnopqrstuvwxyz")),some (.int many),some (.int bs),some (.int way),some (.str z),some (.int (0+(i:Int))),some (.int at_)]∧Kq p (c+3+3 * i) H HX) ?_ fun E nx=>?_
    rotate_left
    · exact ⟨_,rfl,_,rfl,_,_,rfl,rfl,p0,nx _ _ ⟨_,rfl,kX⟩⟩
    rintro σ1 HX ⟨at1,rfl,k1⟩
    refine mid (fun σ' HX=>∃ at_:Int,σ'=[some (V.ref p),some (.ref u),some (.int period),some (.str (Str.ofString "abcdefghijklmnopqrstuvwxyz")),some (.int many),some (.int bs),some (.int way),some (.str z),some (.int (0+(i:Int))),some (.int at_)]∧Kq p (c+3+3 * i) H HX) ?_ fun E nx=>?_
    rotate_left
    · refine ⟨_,rfl,rfl,_,rfl,ite2 (fun _=>?_) (fun _=>?_)⟩
      · refine ⟨_,rfl,_,rfl,u,us,0+(i:Int),rfl,k1.keep _ _ up hu,gu,by omega,by omega,by omega,fun ns r HY sY hf hr n0 n61 av=>?_⟩
        exact ⟨r,_,rfl,.inl (SqL.of hr),_,_,rfl,rfl,nx _ _ ⟨_,rfl,k1.same sY⟩⟩
      · exact nx _ _ ⟨_,rfl,k1⟩
    rintro σ2 HX2 ⟨at2,rfl,k2⟩
    refine mid (fun σ' HX=>∃ at_:Int,σ'=[some (V.ref p),some (.ref u),some (.int period),some (.str (Str.ofString "abcdefghijklmnopqrstuvwxyz")),some (.int many),some (.int bs),some (.int way),some (.str z),some (.int (0+(i:Int))),some (.int at_)]∧Kq p (c+4+3 * i) H HX) ?_ fun E nx=>?_
    rotate_left
    · refine ⟨_,rfl,rfl,_,rfl,ite2 (fun _=>?_) (fun _=>?_)⟩
      · refine ⟨_,rfl,p,4,_,rfl,k2.pt,by omega,by decide,by decide,fun n HY y0 y1 kY=>?_⟩
        exact ⟨_,_,rfl,rfl,⟨by decide,big18 (by decide)⟩,nx _ _ ⟨_,rfl,(k2.trans kY).mono (by omega)⟩⟩
      · exact nx _ _ ⟨_,rfl,k2.mono (by omega)⟩
    rintro σ3 HX3 ⟨at3,rfl,k3⟩
    refine mid (fun σ' HX=>∃ at_:Int,σ'=[some (V.ref p),some (.ref u),some (.int period),some (.str (Str.ofString "abcdefghijklmnopqrstuvwxyz")),some (.int many),some (.int bs),some (.int way),some (.str z),some (.int (0+(i:Int))),some (.int at_)]∧Kq p (c+5+3 * i) H HX) ?_ fun E nx=>?_
    rotate_left
    · refine ⟨_,rfl,(by show 2≤sizeLine;decide),fun e he=>?_⟩
      refine ⟨e,_,rfl,.inr (SqT.of upd_same),rfl,rfl,_,rfl,ite2 (fun _=>?_) (fun _=>?_)⟩
      · refine ⟨_,rfl,_,rfl,p,many,_,rfl,(k3.new he).pt,by omega,by omega,by omega,fun n HY y0 y1 kY=>?_⟩
        exact nx _ _ ⟨_,rfl,((k3.new he).trans kY).mono (by omega)⟩
      · exact nx _ _ ⟨_,rfl,(k3.new he).mono (by omega)⟩
    rintro σ4 HX4 ⟨at4,rfl,k4⟩
    have e0:=Int.emod_nonneg at4 (show many≠0 by omega)
    have e1:=Int.emod_lt_of_pos at4 (show 0 < many by omega)
    obtain ⟨ch,hch,chl⟩:=alph_at (i:=bs+at4 % many) (by omega) (by omega)
    refine ⟨_,rfl,_,rfl,_,rfl,_,rfl,_,rfl,_,_,rfl,rfl,by omega,_,_,rfl,rfl,_,_,_,rfl,rfl,by decide +kernel,hch,_,_,rfl,rfl,?_,?_⟩
    · exact line_le (by rw [zl];show i+1≤1000;omega)
    · refine ⟨_,_,_,rfl,?_,fun x hx=>?_,k4.mono (by omega)⟩
      · rw [app_len,zl];rfl
      · rw [app_list] at hx
        rcases List.mem_append.mp hx with h | h
        · exact zlow x h
        · rw [show x=ch by simpa using h];exact chl
  · rintro σ H' ⟨o8,o9,z,rfl,zl,zlow,kX⟩
    exact ⟨_,rfl,q z H' zl zlow (kX.mono (by omega))⟩
def sp_tree:Sp:=fun vs H Q _=>∃ (p:Addr) (most c:Int),vs=[.ref p,.int most]∧Pt H p c∧c < 800000∧1≤most∧most≤60 ∧
  ∀ (t:Addr) (ups:List Int) (lab:Str) (H':Hp),Kq p (c+600) H H'→TreeAt H' t ups lab→(∀ c∈lab.cps.toList,Lw c)→H t=none→Q (.ref t) H'
theorem has_tree (D:Df K mg "_law_tree" s_law_tree) (B:Blt7 mg) (G_law_take:Has P w K mg base "_law_take" k ["pot", "many"] sp_take) (G_law_up:Has P w K mg base "_law_up" k ["pot", "ups", "k", "way", "period"] sp_up) (G_law_labels:Has P w K mg base "_law_labels" k ["pot", "ups", "period"] sp_labels):Has P w K mg base "_law_tree" (k+1) ["pot", "most"] sp_tree:=by
  refine D.has sc_law_tree (fun _ _ _ _ _ _ us hl=>match us,hl with | [_,_],_=>rfl) (fun vs H Q E h=>by obtain ⟨p,most,c,rfl,_⟩:=h;rfl) (fun f cdv A outer s H vs Q E hr h=>?_)
  obtain ⟨p,most,c,rfl,pt,c9,m1,m60,q⟩:=h
  refine ⟨_,(pss_cons (ps_set (i:=2) sc_law_tree.nd rfl (by first | exact Or.inl rfl | exact Or.inr rfl) (pe_ix ix_list (pe_lst (pa_cons (pv 1) (pa_cons (pe_op op_add pe_int (pe_callH G_law_take hr rfl (pa_cons (pv 0) (pa_cons (pv 1) pa_nil)))) (pa_cons (pe_op op_add pe_int (pe_callH G_law_take hr rfl (pa_cons (pv 0) (pa_cons (pe_callB (call_min2 rfl) rfl B.min bt_min (pa_cons (pv 1) (pa_cons pe_int pa_nil))) pa_nil)))) (pa_cons pe_int pa_nil))))) (pe_ix ix_list (pe_lst (pa_cons pe_int (pa_cons pe_int (pa_cons pe_int (pa_cons pe_int (pa_cons pe_int (pa_cons pe_int pa_nil))))))) (pe_callH G_law_take hr rfl (pa_cons (pv 0) (pa_cons pe_int pa_nil))) (fun _ _=>rfl)) (fun _ _=>rfl)))
  (pss_cons (ps_set (i:=3) sc_law_tree.nd rfl (by first | exact Or.inl rfl | exact Or.inr rfl) (pe_callH G_law_take hr rfl (pa_cons (pv 0) (pa_cons pe_int pa_nil))))
  (pss_cons (ps_set (i:=4) sc_law_tree.nd rfl (by first | exact Or.inl rfl | exact Or.inr rfl) (pe_op op_add pe_int (pe_callH G_law_take hr rfl (pa_cons (pv 0) (pa_cons pe_int pa_nil)))))
  (pss_cons (ps_set (i:=5) sc_law_tree.nd rfl (by first | exact Or.inl rfl | exact Or.inr rfl) (pe_lst (pa_cons (pe_un un_neg pe_int) pa_nil)))
  (pss_cons (ps_for PassesOwn.never rfl (pi_range2 rfl B.range (pa_cons pe_int (pa_cons (pv 2) pa_nil))) (pg_name (i:=6) sc_law_tree.nd rfl (by first | exact Or.inl rfl | exact Or.inr rfl))
  (pss_one (ps_expr (pe_bm PySem.F.plainAttrs_list PySem.F.slot_list_append PySem.F.type_list_append mt_append (pv 5) (pa_cons (pe_callH G_law_up hr rfl (pa_cons (pv 0) (pa_cons (pv 5) (pa_cons (pv 6) (pa_cons (pv 3) (pa_cons (pv 4) pa_nil)))))) pa_nil)))))
  (pss_one (ps_ret (pe_tup (pa_cons (pe_callTy call_tuple_of rfl B.tuple_ bt_tuple (pa_cons (pv 5) pa_nil)) (pa_cons (pe_callH G_law_labels hr rfl (pa_cons (pv 0) (pa_cons (pv 5) (pa_cons (pv 4) pa_nil)))) pa_nil)))))))))),?_⟩
  refine ⟨_,rfl,_,rfl,_,rfl,p,most,c,rfl,pt,by omega,by omega,by omega,fun n1 H1 a0 a1 kq1=>?_⟩
  obtain ⟨m7,hm7,z0,z1⟩:∃ m7:Int,m7=(if 7 < most then 7 else most)∧0 < m7∧m7≤most:=⟨_,rfl,by split <;> omega,by split <;> omega⟩
  refine ⟨_,_,rfl,rfl,_,rfl,_,rfl,_,_,rfl,p,_,_,rfl,kq1.pt,by omega,by rw [← hm7];omega,by rw [← hm7];omega,fun n2 H2 b0 b1 kq2=>?_⟩
  rw [← hm7] at b1
  refine ⟨_,_,rfl,rfl,(by show 4≤sizeLine;decide),fun r hr0=>?_⟩
  have kq12:=kq1.trans kq2
  obtain ⟨xs,exs,xb,xl⟩:∃ xs:List Int,xs=[most,1+n1,1+n2,1]∧(∀ v∈xs,1≤v∧v≤60)∧xs.length=4:=by
    refine ⟨_,rfl,fun v hv=>?_,rfl⟩
    simp only [List.mem_cons,List.not_mem_nil,or_false] at hv
    rcases hv with rfl | rfl | rfl | rfl <;> omega
  have e0:([.int most,.int (1+n1),.int (1+n2),.int 1]:List V)=xs.map V.int:=by rw [exs];rfl
  show (fun HH=>_) (upd H2 r (.lst [.int most,.int (1+n1),.int (1+n2),.int 1]))
  rw [e0]
  have h3:upd H2 r (.lst (xs.map V.int)) r=some (.lst (xs.map V.int)):=upd_same
  have kq3:=kq12.new (o:=.lst (xs.map V.int)) hr0
  have rp:r≠p:=kq12.pt.ne hr0
  generalize upd H2 r (.lst (xs.map V.int))=H3 at h3 kq3
  refine ⟨line_le (show 6≤1000 by omega),fun r6 hr6=>?_⟩
  generalize hJ:upd H3 r6 _=H4
  have h4:H4 r6=some (.lst ([0,0,1,1,2,3].map V.int)):=by rw [← hJ];exact upd_same
  have kq4:Kq p (c+1+1) H H4:=by rw [← hJ];exact kq3.new hr6
  have h34:H4 r=some (.lst (xs.map V.int)):=by rw [← hJ,upd_ne (ne_of_none h3 hr6)];exact h3
  clear hJ
  have r6p:r6≠p:=kq3.pt.ne hr6
  refine ⟨_,rfl,p,6,_,rfl,kq4.pt,by omega,by decide,by decide,fun n3 H5 d0 d1 kq5=>?_⟩
  obtain ⟨wy,hwy,wy0,wy1⟩:=menu (us:=[0,0,1,1,2,3]) (n:=n3) (lo:=0) (hi:=3) d0 d1 (by decide)
  refine ⟨r6,_,_,_,rfl,rfl,SqL.of (kq5.keep _ _ r6p h4),hwy,?_⟩
  have hn:=ints_at (us:=xs) (i:=wy) wy0 (by omega)
  obtain ⟨nb0,nb1⟩:=xb _ (ints_mem wy0 (show wy < (xs.length:Int) by omega))
  generalize xs.getD wy.toNat 0=n at hn nb0 nb1
  refine ⟨r,_,_,_,rfl,rfl,SqL.of (kq5.keep _ _ rp h34),hn,?_⟩
  have kq45:=kq4.trans kq5
  refine ⟨_,rfl,p,7,_,rfl,kq45.pt,by omega,by decide,by decide,fun way H6 w0 w1 kq6=>?_⟩
  have kq46:=kq45.trans kq6
  refine ⟨_,rfl,p,5,_,rfl,kq46.pt,by omega,by decide,by decide,fun pe H7 p0 p1 kq7=>?_⟩
  have kq47:=(kq46.trans kq7).mono (show c+1+1+1+1+1≤c+5 by omega)
  refine ⟨_,_,rfl,rfl,?_⟩
  refine ⟨_,rfl,(by show 1≤sizeLine;decide),fun u hu0=>?_⟩
  have up:u≠p:=kq47.pt.ne hu0
  have e1:([.int (-1)]:List V)=[(-1:Int)].map V.int:=rfl
  have h8:upd H7 u (.lst ([(-1:Int)].map V.int)) u=some (.lst ([(-1:Int)].map V.int)):=upd_same
  have kq8:=kq47.new (o:=.lst ([(-1:Int)].map V.int)) hu0
  have fu:H u=none:=by
    cases e:H u with
    | none=>rfl
    | some o=>have:=kq47.keep u o up e;rw [hu0] at this;cases this
  show (fun HH=>_) (upd H7 u (.lst ([(-1:Int)].map V.int)))
  generalize upd H7 u (.lst ([(-1:Int)].map V.int))=H8 at h8 kq8
  refine ⟨_,rfl,_,_,rfl,⟨by omega,by omega,by omega,by omega⟩,?_⟩
  refine for_range (lo:=1) (n:=(n - 1).toNat) (fun i σ H'=>∃ (o6:Option V) (us:List Int),σ=[some (.ref p),some (.int most),some (.int n),some (.int way),some (.int (2+pe)),some (.ref u),o6]∧Kq p (c+5+2 * i) H H'∧H' u=some (.lst (us.map V.int))∧GU us∧us.length=i+1)
    ⟨none,[-1],rfl,kq8.mono (by omega),h8,GU.one,rfl⟩ ?_ ?_
  · rintro i σ H' hi ⟨o6,us,rfl,kX,hu',gu,ul⟩
    refine ⟨_,rfl,.inl ⟨rfl,_,SqL.of hu'⟩,_,rfl,_,rfl,_,rfl,_,rfl,_,rfl,p,u,us,1+(i:Int),way,2+pe,_,rfl,kX.pt,by omega,hu',up,gu,by omega,by omega,by omega,by omega,fun v HY v0 v1 kY=>?_⟩
    have hu2:=kY.keep _ _ up hu'
    refine ⟨u,_,_,rfl,rfl,hu2,by rw [List.length_map];exact small1000 (by omega),?_⟩
    refine ⟨some (.int (1+(i:Int))),us++[v],rfl,((kX.trans kY).write fu up).mono (by omega),?_,gu.snoc v0 (by omega),by rw [List.length_append,List.length_singleton];omega⟩
    rw [upd_same,List.map_append];rfl
  · rintro σ H' ⟨o6,us,rfl,kX,hu',gu,ul⟩
    refine ⟨_,rfl,u,_,rfl,.inl ⟨SqL.of hu',fun tu htu=>?_⟩⟩
    have h9:upd H' tu (.tup (us.map V.int)) tu=some (.tup (us.map V.int)):=upd_same
    have k9:=kX.new (o:=.tup (us.map V.int)) htu
    have hu9:upd H' tu (.tup (us.map V.int)) u=some (.lst (us.map V.int)):=by rw [upd_ne (ne_of_none hu' htu)];exact hu'
    have tup_:tu≠p:=kX.pt.ne htu
    generalize upd H' tu (.tup (us.map V.int))=H9 at h9 k9 hu9
    refine ⟨_,rfl,_,rfl,_,rfl,p,u,us,2+pe,_,rfl,k9.pt,by omega,hu9,up,gu,by omega,by omega,by omega,fun lab HA ll low kA=>?_⟩
    refine ⟨(by show 2≤sizeLine;decide),fun t ht=>?_⟩
    have kB:=((k9.trans kA).new (o:=.tup [.ref tu,.str lab]) ht)
    have ft:H t=none:=by
      have tp:t≠p:=(k9.trans kA).pt.ne ht
      cases e:H t with
      | none=>rfl
      | some o=>have:=(k9.trans kA).keep t o tp e;rw [ht] at this;cases this
    have hA:=kA.keep _ _ tup_ h9
    refine q t us lab _ (kB.mono (by omega)) ⟨tu,upd_same,by rw [upd_ne (ne_of_none hA ht)];exact hA,⟨by rw [← ll,cps_len],gu.pos,by omega,gu.root,gu.up⟩⟩ low ft
end
end S40
namespace S40
open PySem L2 W7
section
variable {P:Program} {w:World} {K:PySem.W.Frag} {mg:Str→Option Value} {base:Heap} {k:Nat}
theorem has_lwords (D:Df K mg "_law_words" s_law_words) (B:Blt7 mg):Has P w K mg base "_law_words" (k+1) ["tree"] sp_words:=by
  refine D.has sc_law_words (fun _ _ _ _ _ _ us hl=>match us,hl with | [_],_=>rfl) (fun vs H Q E h=>by obtain ⟨t,ups,lab,rfl,_⟩:=h;rfl) (fun f cdv A outer s H vs Q E hr h=>?_)
  obtain ⟨t,ups,lab,rfl,⟨u,ht,hu,ok⟩,q⟩:=h
  refine ⟨_,(pss_cons (ps_set (i:=1) sc_law_words.nd rfl (by first | exact Or.inl rfl | exact Or.inr rfl) (pe_lst pa_nil))
  (pss_cons (ps_for PassesOwn.never rfl (pi_zip rfl B.zip (pa_cons (pe_ix ix_tup (pv 0) pe_int (fun _ _=>rfl)) (pa_cons (pe_ix ix_tup (pv 0) pe_int (fun _ _=>rfl)) pa_nil))) (pg_tup rfl (pgs_cons (pg_name (i:=2) sc_law_words.nd rfl (by first | exact Or.inl rfl | exact Or.inr rfl)) (pgs_cons (pg_name (i:=3) sc_law_words.nd rfl (by first | exact Or.inl rfl | exact Or.inr rfl)) pgs_nil)))
  (pss_one (ps_expr (pe_bm PySem.F.plainAttrs_list PySem.F.slot_list_append PySem.F.type_list_append mt_append (pv 1) (pa_cons (pe_op op_add_str (pv 3) (pe_ifExp (pt_cmpR op_ge (pv 2) pe_int (nomark _)) (pe_ix ix_list (pv 1) (pv 2) (fun _ _=>rfl)) pe_str)) pa_nil)))))
  (pss_one (ps_ret (pv 1))))),?_⟩
  have hlen:(ups.map V.int).length=(signs lab).length:=by rw [List.length_map,ok.len];simp [signs]
  refine ⟨(by show 0≤sizeLine;decide),fun r hr0=>?_⟩
  have s0:Same H (upd H r (.lst [])):=(Same.refl H).new hr0
  refine ⟨_,rfl,t,_,_,_,rfl,rfl,SqT.of (s0 _ _ ht),rfl,_,rfl,t,_,_,_,rfl,rfl,SqT.of (s0 _ _ ht),rfl,.tup u,.str lab,rfl,⟨_,.inl (s0 _ _ hu)⟩,⟨_,rfl⟩,?_⟩
  refine for_zip (xs:=ups.map V.int) (ys:=signs lab) (fun i σ H'=>∃ o1 o2:Option V,σ=[some (.ref t),some (.ref r),o1,o2]∧Same H H'∧H' r=some (.lst (wordsV ups lab i))) ⟨none,none,rfl,s0,upd_same⟩ hlen
    (fun i σ H' hi h=>by obtain ⟨o1,o2,_,s1,_⟩:=h;exact ⟨.inl (s1 _ _ hu),rfl⟩) ?_ ?_
  · rintro i y x σ H' p hy hx ⟨o1,o2,rfl,s1,hr1⟩ hp
    obtain ⟨c,hc,rfl⟩:∃ c,lab.cps.toList[i]?=some c∧x=.str ⟨#[c]⟩:=by
      simp only [signs,List.getElem?_map] at hx
      cases e:lab.cps.toList[i]? with
      | none=>rw [e] at hx;cases hx
      | some c=>rw [e] at hx;exact ⟨c,rfl,(Option.some.inj hx).symm⟩
    obtain ⟨v,hv,rfl⟩:∃ v,ups[i]?=some v∧y=.int v:=by
      simp only [List.getElem?_map] at hy
      cases e:ups[i]? with
      | none=>rw [e] at hy;cases hy
      | some v=>rw [e] at hy;exact ⟨v,rfl,(Option.some.inj hy).symm⟩
    have hi:i < ups.length:=(List.getElem?_eq_some_iff.mp hv).1
    have ev:ups.getD i 0=v:=by rw [List.getD_eq_getElem?_getD,hv];rfl
    have ec:lab.cps.toList.getD i 0=c:=by rw [List.getD_eq_getElem?_getD,hc];rfl
    have hm:=ok.most
    have s2:Same H (upd H' p (.tup [.int v,.str ⟨#[c]⟩])):=s1.new hp
    have hr2:upd H' p (.tup [.int v,.str ⟨#[c]⟩]) r=some (.lst (wordsV ups lab i)):=by rw [upd_ne (ne_of_none hr1 hp)];exact hr1
    have wl:(wordsV ups lab i).length=i:=by simp [wordsV]
    have step:wordsV ups lab (i+1)=wordsV ups lab i++[.str (mk (W ups lab.cps.toList i))]:=by
      unfold wordsV
      rw [List.range_succ,List.map_append];rfl
    have c1:(⟨#[c]⟩:Str).length=1:=rfl
    refine ⟨p,_,rfl,SqT.of upd_same,rfl,_,_,rfl,_,_,rfl,rfl,?_⟩
    refine ⟨_,rfl,.inl ⟨rfl,_,SqL.of hr2⟩,_,rfl,_,rfl,_,_,rfl,rfl,_,rfl,ite2 (fun cnd=>?_) (fun cnd=>?_)⟩
    · have e3:0≤v:=of_decide_eq_true cnd
      have lt:=ok.lt hi (by rw [ev];omega)
      rw [ev] at lt
      have hat:atI (wordsV ups lab i) v=some (.str (mk (W ups lab.cps.toList v.toNat))):=by
        have e:atI (wordsV ups lab i) ((v.toNat:Nat):Int)=some (.str (mk (W ups lab.cps.toList v.toNat))):=atI_nat (by
          unfold wordsV
          rw [List.getElem?_map,List.getElem?_range lt];rfl)
        rw [show ((v.toNat:Nat):Int)=v by omega] at e
        exact e
      have wle:=W_len ok (v.toNat+1) v.toNat (by omega) (by omega)
      have ew:W ups lab.cps.toList i=c :: W ups lab.cps.toList v.toNat:=by rw [W_eq ok hi,ev,ec,if_neg (by omega)]
      refine ⟨_,rfl,_,rfl,r,_,_,_,rfl,rfl,SqL.of hr2,hat,_,_,rfl,rfl,?_,r,_,_,rfl,rfl,hr2,by rw [wl];exact small1000 (by omega),⟨_,_,rfl,s2.write hr0,?_⟩⟩
      · rw [mk_len,c1];exact line_le (by omega)
      · rw [upd_same,step,ew,mk_app]
    · have e3:v < 0:=by have:=of_decide_eq_false (Bool.eq_false_iff.mpr cnd);omega
      have ew:W ups lab.cps.toList i=[c]:=by rw [W_eq ok hi,ev,ec,if_pos e3]
      refine ⟨_,_,rfl,rfl,?_,r,_,_,rfl,rfl,hr2,by rw [wl];exact small1000 (by omega),⟨_,_,rfl,s2.write hr0,?_⟩⟩
      · rw [c1];exact line_le (by decide)
      · have e0:(⟨#[c]⟩:Str)++Str.ofString "" = mk [c]:=str_ext (by rw [app_list];rfl)
        rw [upd_same,step,ew,e0]
  · rintro σ H' ⟨o1,o2,rfl,s1,hr1⟩
    refine ⟨_,rfl,q r H' s1 ?_⟩
    rw [hr1,List.length_map]
def sp_lkept:Sp:=fun vs H Q _=>∃ (t:Addr) (ups:List Int) (lab:Str),vs=[.ref t]∧TreeAt H t ups lab∧∀ (ks:List Nat) (r:Addr) (H':Hp),KeptOk ups lab ks→Same H H'→H r=none→H' r=some (.lst (natV (keptN ks)))→Q (.ref r) H'
theorem has_lkept (D:Df K mg "_law_kept" s_law_kept) (B:Blt7 mg) (G_law_words:Has P w K mg base "_law_words" k ["tree"] sp_words):Has P w K mg base "_law_kept" (k+1) ["tree"] sp_lkept:=by
  refine D.has sc_law_kept (fun _ _ _ _ _ _ us hl=>match us,hl with | [_],_=>rfl) (fun vs H Q E h=>by obtain ⟨t,ups,lab,rfl,_⟩:=h;rfl) (fun f cdv A outer s H vs Q E hr h=>?_)
  obtain ⟨t,ups,lab,rfl,tr,q⟩:=h
  refine ⟨_,(pss_cons (ps_set (i:=1) sc_law_kept.nd rfl (by first | exact Or.inl rfl | exact Or.inr rfl) (pe_callH G_law_words hr rfl (pa_cons (pv 0) pa_nil)))
  (pss_cons (ps_comp (i:=2) sc_law_kept.nd rfl (by first | exact Or.inl rfl | exact Or.inr rfl) rfl (pi_enum rfl B.enumerate (pa_cons (pe_ix ix_tup (pv 0) pe_int (fun _ _=>rfl)) pa_nil)) (NL:=["k", "up"]) (ix:=[1]) (csc (defScope s_law_kept) N_law_kept) (fun cl C s₃ H₃ fp pins=>⟨(pg_tupK K (n:=2) rfl (pgs_cons (pg_name (i:=0) (show List.Nodup (["k", "up", "words"]:List Str) from by decide +kernel) rfl (by first | exact Or.inl rfl | exact Or.inr rfl)) (pgs_cons (pg_name (i:=1) (show List.Nodup (["k", "up", "words"]:List Str) from by decide +kernel) rfl (by first | exact Or.inl rfl | exact Or.inr rfl)) pgs_nil))),(pifs_one (pt_cmpR op_ge (pv 1) pe_int (nomark _))),(pe_tup (pa_cons (pe_ix (ix_listK K) (pv 2) (pv 1) (fun _ _=>rfl)) (pa_cons (pv 1) (pa_cons (pv 0) pa_nil))))⟩))
  (pss_one (ps_ret (pe_op op_cat (pe_lst (pa_cons pe_int pa_nil)) (pe_comp rfl (pi_list (pe_callB call_sorted_tups rfl B.sorted bt_sorted (pa_cons (pv 2) pa_nil))) (NL:=["word", "up", "k"]) (ix:=[]) (csc (defScope s_law_kept) N_law_kept) (fun cl C s₃ H₃ fp pins=>⟨(pg_tupK K (n:=3) rfl (pgs_cons (pg_name (i:=0) (show List.Nodup (["word", "up", "k"]:List Str) from by decide +kernel) rfl (by first | exact Or.inl rfl | exact Or.inr rfl)) (pgs_cons (pg_name (i:=1) (show List.Nodup (["word", "up", "k"]:List Str) from by decide +kernel) rfl (by first | exact Or.inl rfl | exact Or.inr rfl)) (pgs_cons (pg_name (i:=2) (show List.Nodup (["word", "up", "k"]:List Str) from by decide +kernel) rfl (by first | exact Or.inl rfl | exact Or.inr rfl)) pgs_nil)))),pifs_nil,(pv 2)⟩))))))),?_⟩
  obtain ⟨u,ht,hu,ok⟩:=id tr
  have m60:=ok.most
  have lpos:=ok.pos
  refine ⟨_,rfl,t,ups,lab,rfl,tr,fun qw H1 s1 hqw=>?_⟩
  have ht1:=s1 _ _ ht
  have hu1:=s1 _ _ hu
  refine ⟨_,rfl,t,_,_,_,rfl,rfl,SqT.of ht1,rfl,.tup u,rfl,⟨_,.inl hu1⟩,fun acc hacc=>?_⟩
  refine comp_enum (xs:=ups.map V.int) (by rw [List.length_map];omega) (fun i ys HX=>HX acc=some (.lst ys)∧Same H1 HX∧∃ as:List Addr,ys=as.map V.ref∧as.length=i - 1∧∀ j b,as[j]?=some b→HX b=some (.tup (Kl ups lab j)))
    (fun i ys HX h=>.inl (h.2.1 _ _ hu1)) (fun i ys HX h=>⟨h.1,by obtain ⟨as,e,l,_⟩:=h.2.2;rw [e,List.length_map,l];omega⟩) ⟨upd_same,(Same.refl H1).new hacc,[],rfl,rfl,fun j b e=>by simp at e⟩ ?_ ?_
  rotate_left
  · rintro i x ys HX pp hx ⟨g1,g2,as,rfl,al,at'⟩ hpp
    rw [List.getElem?_map] at hx
    cases e1:ups[i]? with
    | none=>rw [e1] at hx;cases hx
    | some v=>
    rw [e1] at hx
    cases hx
    have hi:i < ups.length:=(List.getElem?_eq_some_iff.mp e1).1
    have ev:ups.getD i 0=v:=by rw [List.getD_eq_getElem?_getD,e1];rfl
    have s3:Same H1 (upd HX pp (.tup [.int (i:Int),.int v])):=g2.new hpp
    have hqw3:=s3 _ _ hqw
    have g1':upd HX pp (.tup [.int (i:Int),.int v]) acc=some (.lst (as.map V.ref)):=by rw [upd_ne (ne_of_none g1 hpp)];exact g1
    have at2:∀ j b,as[j]?=some b→upd HX pp (.tup [.int (i:Int),.int v]) b=some (.tup (Kl ups lab j)):=fun j b e=>by rw [upd_ne (ne_of_none (at' j b e) hpp)];exact at' j b e
    have hq2:upd HX pp (.tup [.int (i:Int),.int v]) pp=some (.tup [.int (i:Int),.int v]):=upd_same
    generalize upd HX pp (.tup [.int (i:Int),.int v])=HY at s3 hqw3 g1' at2 hq2
    refine ⟨pp,_,rfl,SqT.of hq2,rfl,_,_,rfl,_,_,rfl,rfl,rfl,_,rfl,_,_,rfl,rfl,_,rfl,ite2 (fun cnd=>?_) (fun cnd=>?_)⟩
    · have v0:0≤v:=of_decide_eq_true cnd
      have i0:i≠0:=fun e=>by subst e;have:=ok.root;omega
      have lt:=ok.lt hi (by rw [ev];omega)
      rw [ev] at lt
      have hat:atI (wordsV ups lab ups.length) v=some (.str (mk (W ups lab.cps.toList v.toNat))):=by
        have:=wordsV_at (ups:=ups) (lab:=lab) (i:=v.toNat) (n:=ups.length) (by omega)
        rw [show ((v.toNat:Nat):Int)=v by omega] at this
        exact this
      have eK:Kl ups lab (i - 1)=[.str (mk (W ups lab.cps.toList v.toNat)),.int v,.int (i:Int)]:=by
        unfold Kl upN
        rw [show i - 1+1=i by omega,ev,show ((v.toNat:Nat):Int)=v by omega,show (1:Int)+((i - 1:Nat):Int)=(i:Int) by omega]
      refine ⟨_,rfl,_,rfl,qw,_,_,_,rfl,rfl,SqL.of hqw3,hat,_,rfl,_,rfl,(by show 3≤sizeLine;decide),fun e he=>?_⟩
      have ae:acc≠e:=ne_of_none g1' he
      refine ⟨by rw [upd_ne ae];exact g1',upd_same,(s3.new he).write hacc,as++[e],by rw [List.map_append];rfl,by rw [List.length_append,al,List.length_singleton];omega,fun j b hb=>?_⟩
      rcases Nat.lt_or_ge j as.length with z | z
      · rw [List.getElem?_append_left z] at hb
        have h1:=at2 j b hb
        rw [upd_ne (ne_of h1 g1' (by intro z;cases z)),upd_ne (ne_of_none h1 he)];exact h1
      · rw [List.getElem?_append_right z] at hb
        have q0:j - as.length=0:=by
          rcases Nat.eq_zero_or_pos (j - as.length) with y | y
          · exact y
          · rw [List.getElem?_eq_none (by simp;omega)] at hb;cases hb
        rw [q0] at hb
        have eb:e=b:=by simpa using hb
        subst eb
        have ej:j=i - 1:=by omega
        subst ej
        rw [upd_ne (Ne.symm ae),upd_same,eK]
    · have v0:v < 0:=by have:=of_decide_eq_false (Bool.eq_false_iff.mpr cnd);omega
      have i0:i=0:=by
        rcases Nat.eq_zero_or_pos i with z | z
        · exact z
        · have:=ok.up i z hi;omega
      subst i0
      exact ⟨g1',s3,as,rfl,by rw [al],at2⟩
  rintro ys H2 ⟨g1,g2,as,rfl,al,at'⟩
  rw [List.length_map] at al
  refine ⟨(by show 1≤sizeLine;decide),fun e he=>?_⟩
  have s3:Same H2 (upd H2 e (.lst [.int 0])):=(Same.refl H2).new he
  have h3:upd H2 e (.lst [.int 0]) e=some (.lst [.int 0]):=upd_same
  generalize upd H2 e (.lst [.int 0])=H3 at s3 h3
  refine ⟨_,rfl,acc,as,Kl ups lab,[2,1,1],rfl,SqL.of (s3 _ _ g1),by omega,fun i b hb=>SqT.of (s3 _ _ (at' i b hb)),kl_keys _ _ _,fun po r2 hpo hrise hr2=>?_⟩
  rw [al] at hpo hrise
  have ko:KeptOk ups lab po:=⟨hpo,hrise⟩
  have pol:=ko.len
  have s4:Same H3 (upd H3 r2 (.lst ((po.map fun i=>as.getD i 0).map V.ref))):=(Same.refl H3).new hr2
  have h4:upd H3 r2 (.lst ((po.map fun i=>as.getD i 0).map V.ref)) r2=some (.lst ((po.map fun i=>as.getD i 0).map V.ref)):=upd_same
  generalize upd H3 r2 (.lst ((po.map fun i=>as.getD i 0).map V.ref))=H4 at s4 h4
  refine ⟨r2,rfl,⟨_,SqL.of h4⟩,fun ac2 hac2=>?_⟩
  refine comp_lst (xs:=(po.map fun i=>as.getD i 0).map V.ref) (by rw [List.length_map,List.length_map];omega) (fun i ys HX=>HX ac2=some (.lst ys)∧ys=natV ((po.take i).map (·+1))∧Same H4 HX)
    (fun i ys HX h=>SqL.of (h.2.2 _ _ h4)) (fun i ys HX h=>⟨h.1,by rw [h.2.1,natV,List.length_map,List.length_map,List.length_take];exact Nat.min_le_left _ _⟩) ⟨upd_same,rfl,(Same.refl H4).new hac2⟩ ?_ ?_
  rotate_left
  · rintro i x ys HX hx ⟨x1,rfl,x3⟩
    rw [List.getElem?_map,List.getElem?_map] at hx
    cases ep:po[i]? with
    | none=>rw [ep] at hx;cases hx
    | some j=>
    rw [ep] at hx
    cases hx
    have jl:j < as.length:=by rw [al];exact List.mem_range.mp (hpo.mem_iff.mp (List.mem_of_getElem? ep))
    have ej:as[j]?=some (as.getD j 0):=by rw [List.getD_eq_getElem?_getD,List.getElem?_eq_getElem jl];rfl
    have hb:=x3 _ _ (s4 _ _ (s3 _ _ (at' j _ ej)))
    refine ⟨as.getD j 0,_,rfl,SqT.of hb,rfl,_,_,rfl,_,_,rfl,_,_,rfl,rfl,rfl,_,rfl,x1,upd_same,?_,x3.write hac2⟩
    rw [List.take_succ,ep,List.map_append,natV,natV,List.map_append]
    congr 1
    show [V.int (1+(j:Int))]=[V.int ((j+1:Nat):Int)]
    congr 2;omega
  rintro ys H5 ⟨x1,rfl,x3⟩
  rw [List.length_map,List.length_map,List.take_length] at x1
  have h35:=x3 _ _ (s4 _ _ h3)
  refine ⟨e,ac2,_,_,rfl,rfl,h35,x1,line_le (by rw [natV,List.length_map,List.length_map];show 1+_≤_;omega),fun r hr0=>?_⟩
  have s05:=((s1.trans g2).trans s3).trans (s4.trans x3)
  exact q po r _ ko (s05.new hr0) (s05.free hr0) (by rw [upd_same];rfl)
def sp_llet:Sp:=fun vs H Q _=>∃ (t:Addr) (ups:List Int) (lab:Str),vs=[.ref t]∧TreeAt H t ups lab∧∀ (ks:List Nat) (H':Hp),KeptOk ups lab ks→Same H H'→Q (.str (rowsText lab ks)) H'
theorem has_llet (D:Df K mg "_law_letters" s_law_letters) (B:Blt7 mg) (G_law_kept:Has P w K mg base "_law_kept" k ["tree"] sp_lkept):Has P w K mg base "_law_letters" (k+1) ["tree"] sp_llet:=by
  refine D.has sc_law_letters (fun _ _ _ _ _ _ us hl=>match us,hl with | [_],_=>rfl) (fun vs H Q E h=>by obtain ⟨t,ups,lab,rfl,_⟩:=h;rfl) (fun f cdv A outer s H vs Q E hr h=>?_)
  obtain ⟨t,ups,lab,rfl,tr,q⟩:=h
  refine ⟨_,(pss_one (ps_ret (pe_bm PySem.F.plainAttrs_str PySem.F.slot_str_join PySem.F.type_str_join mt_join pe_str (pa_cons (pe_comp rfl (pi_list (pe_callH G_law_kept hr rfl (pa_cons (pv 0) pa_nil))) (NL:=["k"]) (ix:=[0]) (csc (defScope s_law_letters) N_law_letters) (fun cl C s₃ H₃ fp pins=>⟨(pg_name (i:=0) (show List.Nodup (["k", "tree"]:List Str) from by decide +kernel) rfl (by first | exact Or.inl rfl | exact Or.inr rfl)),pifs_nil,(pe_ix ix_str (pe_ix (ix_tupK K) (pv 1) pe_int (fun _ _=>rfl)) (pv 0) (fun _ _=>rfl))⟩)) pa_nil)))),?_⟩
  obtain ⟨u,ht,hu,ok⟩:=id tr
  have m60:=ok.most
  have lpos:=ok.pos
  refine ⟨rfl,_,rfl,t,ups,lab,rfl,tr,fun ks r1 H1 ko s1 hf1 hr1=>?_⟩
  have kn:=kept_len ko lpos
  have kin:=kept_in ko lpos
  have q':=fun (H':Hp)=>q ks H' ko
  unfold rowsText at q'
  generalize keptN ks=ns at kn kin hr1 q'
  have nl:(natV ns).length=ups.length:=by rw [natV,List.length_map,kn]
  have ht1:=s1 _ _ ht
  have ll:lab.cps.toList.length=ups.length:=ok.len.symm
  have lz:lab.length≤sizeLine:=line_le (by have:=cps_len lab;omega)
  refine ⟨r1,rfl,⟨_,SqL.of hr1⟩,fun acc hacc=>?_⟩
  refine comp_lst (xs:=natV ns) (by omega) (fun i ys H2=>H2 acc=some (.lst ys)∧ys=((ns.take i).map (oneS lab)).map V.str∧Same H1 H2)
    (fun i ys H2 h=>SqL.of (h.2.2 _ _ hr1)) (fun i ys H2 h=>⟨h.1,by rw [h.2.1,List.length_map,List.length_map,List.length_take];exact Nat.min_le_left _ _⟩) ⟨upd_same,rfl,(Same.refl H1).new hacc⟩ ?_ ?_
  rotate_left
  · rintro i x ys H2 hx ⟨g1,rfl,g3⟩
    rw [natV,List.getElem?_map] at hx
    cases e1:ns[i]? with
    | none=>rw [e1] at hx;cases hx
    | some j=>
    rw [e1] at hx
    cases hx
    have jl:=kin j (List.mem_of_getElem? e1)
    refine ⟨rfl,?_⟩
    refine ⟨_,rfl,t,_,_,_,rfl,rfl,SqT.of (g3 _ _ ht1),rfl,_,rfl,lab,_,_,rfl,rfl,lz,atI_nat (List.getElem?_eq_getElem (by omega:j < lab.cps.toList.length)),g1,upd_same,?_,g3.write hacc⟩
    rw [List.take_succ,e1,List.map_append,List.map_append]
    congr 1
    show _=[V.str (oneS lab j)]
    unfold oneS
    rw [List.getD_eq_getElem?_getD,List.getElem?_eq_getElem (by omega:j < lab.cps.toList.length)];rfl
  rintro ys H2 ⟨g1,rfl,g3⟩
  rw [nl,← kn,List.take_length] at g1
  refine ⟨_,acc,_,rfl,rfl,SqL.of g1,?_,q' H2 (s1.trans g3)⟩
  have:∀ l:List Nat,((l.map (oneS lab)).map (·.length)).sum=l.length:=fun l=>by
    induction l with
    | nil=>rfl
    | cons a r ih=>rw [List.map_cons,List.map_cons,List.sum_cons,ih,List.length_cons];show 1+_=_;omega
  rw [this,List.length_map]
  have e0:(Str.ofString "").length=0:=rfl
  rw [e0];omega
def sp_lctx:Sp:=fun vs H Q _=>∃ (t:Addr) (ups:List Int) (lab:Str),vs=[.ref t]∧TreeAt H t ups lab∧∀ (ks:List Nat) (r:Addr) (H':Hp),KeptOk ups lab ks→Same H H'→H r=none→H' r=some (.lst ((ctxs ups lab ks).map V.str))→Q (.ref r) H'
theorem has_lctx (D:Df K mg "_law_contexts" s_law_contexts) (B:Blt7 mg) (G_law_words:Has P w K mg base "_law_words" k ["tree"] sp_words) (G_law_kept:Has P w K mg base "_law_kept" k ["tree"] sp_lkept):Has P w K mg base "_law_contexts" (k+1) ["tree"] sp_lctx:=by
  refine D.has sc_law_contexts (fun _ _ _ _ _ _ us hl=>match us,hl with | [_],_=>rfl) (fun vs H Q E h=>by obtain ⟨t,ups,lab,rfl,_⟩:=h;rfl) (fun f cdv A outer s H vs Q E hr h=>?_)
  obtain ⟨t,ups,lab,rfl,tr,q⟩:=h
  refine ⟨_,(pss_cons (ps_set (i:=1) sc_law_contexts.nd rfl (by first | exact Or.inl rfl | exact Or.inr rfl) (pe_callH G_law_words hr rfl (pa_cons (pv 0) pa_nil)))
  (pss_one (ps_ret (pe_comp rfl (pi_list (pe_callH G_law_kept hr rfl (pa_cons (pv 0) pa_nil))) (NL:=["k"]) (ix:=[1,0]) (csc (defScope s_law_contexts) N_law_contexts) (fun cl C s₃ H₃ fp pins=>⟨(pg_name (i:=0) (show List.Nodup (["k", "words", "tree"]:List Str) from by decide +kernel) rfl (by first | exact Or.inl rfl | exact Or.inr rfl)),pifs_nil,(pe_op op_add_str (pe_ifExp (pt_cmpR op_gt (pv 0) pe_int (nomark _)) (pe_ix (ix_listK K) (pv 1) (pe_ix (ix_tupK K) (pe_ix (ix_tupK K) (pv 2) pe_int (fun _ _=>rfl)) (pv 0) (fun _ _=>rfl)) (fun _ _=>rfl)) pe_str) pe_str)⟩))))),?_⟩
  obtain ⟨u,ht,hu,ok⟩:=id tr
  have m60:=ok.most
  have lpos:=ok.pos
  refine ⟨_,rfl,t,ups,lab,rfl,tr,fun qw H0 s0 hqw=>?_⟩
  refine ⟨_,rfl,t,ups,lab,rfl,tr.same s0,fun ks r1 H1 ko s1 hf1 hr1=>?_⟩
  have kn:=kept_len ko lpos
  have kin:=kept_in ko lpos
  have q':=q ks
  unfold ctxs at q'
  generalize keptN ks=ns at kn kin hr1 q'
  have nl:(natV ns).length=ups.length:=by rw [natV,List.length_map,kn]
  have s01:=s0.trans s1
  have ht1:=s01 _ _ ht
  have hu1:=s01 _ _ hu
  have hqw1:=s1 _ _ hqw
  refine ⟨r1,rfl,⟨_,SqL.of hr1⟩,fun acc hacc=>?_⟩
  refine comp_lst (xs:=natV ns) (by omega) (fun i ys H2=>H2 acc=some (.lst ys)∧ys=((ns.take i).map (ctx ups lab)).map V.str∧Same H1 H2)
    (fun i ys H2 h=>SqL.of (h.2.2 _ _ hr1)) (fun i ys H2 h=>⟨h.1,by rw [h.2.1,List.length_map,List.length_map,List.length_take];exact Nat.min_le_left _ _⟩) ⟨upd_same,rfl,(Same.refl H1).new hacc⟩ ?_ ?_
  · rintro ys H2 ⟨g1,rfl,g3⟩
    rw [nl,← kn,List.take_length] at g1
    exact q' acc H2 ko (s01.trans g3) (s01.free hacc) g1
  · rintro i x ys H2 hx ⟨g1,rfl,g3⟩
    rw [natV,List.getElem?_map] at hx
    cases e1:ns[i]? with
    | none=>rw [e1] at hx;cases hx
    | some j=>
    rw [e1] at hx
    cases hx
    have jl:=kin j (List.mem_of_getElem? e1)
    have d1:(Str.ofString ".").length=1:=by decide
    have stp:((ns.take (i+1)).map (ctx ups lab)).map V.str=((ns.take i).map (ctx ups lab)).map V.str++[.str (ctx ups lab j)]:=by rw [List.take_succ,e1,List.map_append,List.map_append];rfl
    refine ⟨rfl,_,rfl,_,_,rfl,rfl,_,rfl,ite2 (fun cnd=>?_) (fun cnd=>?_)⟩
    · have j0:0 < j:=by have:=of_decide_eq_true cnd;omega
      obtain ⟨up0,up1⟩:=ok.up j j0 jl
      have hat:=ints_at (us:=ups) (i:=(j:Int)) (by omega) (by omega)
      rw [Int.toNat_natCast] at hat
      have hw:atI (wordsV ups lab ups.length) (ups.getD j 0)=some (.str (mk (W ups lab.cps.toList (ups.getD j 0).toNat))):=by
        have:=wordsV_at (ups:=ups) (lab:=lab) (i:=(ups.getD j 0).toNat) (n:=ups.length) (by omega)
        rw [show (((ups.getD j 0).toNat:Nat):Int)=ups.getD j 0 by omega] at this
        exact this
      have wle:=W_len ok ((ups.getD j 0).toNat+1) (ups.getD j 0).toNat (by omega) (by omega)
      have ec:ctx ups lab j=mk (W ups lab.cps.toList (ups.getD j 0).toNat)++Str.ofString "." := str_ext (by
        unfold ctx abv
        rw [app_list,mk_cps,W_eq ok jl,if_neg (by omega)];rfl)
      refine ⟨_,rfl,_,rfl,t,_,_,_,rfl,rfl,SqT.of (g3 _ _ ht1),rfl,_,rfl,u,_,_,_,rfl,rfl,SqT.of (g3 _ _ hu1),hat,qw,_,_,_,rfl,rfl,SqL.of (g3 _ _ hqw1),hw,_,_,rfl,rfl,?_,g1,upd_same,?_,g3.write hacc⟩
      · rw [mk_len,d1];exact line_le (by omega)
      · rw [stp,ec]
    · have j0:j=0:=by have:=of_decide_eq_false (Bool.eq_false_iff.mpr cnd);omega
      subst j0
      have ec:ctx ups lab 0=Str.ofString "" ++ Str.ofString "." := str_ext (by
        unfold ctx abv
        rw [app_list,mk_cps,W_eq ok lpos,if_pos (by have:=ok.root;omega)];rfl)
      refine ⟨_,_,rfl,rfl,?_,g1,upd_same,?_,g3.write hacc⟩
      · rw [d1];exact line_le (by decide)
      · rw [stp,ec]
end
end S40
namespace S40
open PySem L2 W7
theorem app_assoc (x y z:Str):x++(y++z)=x++y++z:=str_ext (by rw [app_list,app_list,app_list,app_list,List.append_assoc])
section
variable {P:Program} {w:World} {K:PySem.W.Frag} {mg:Str→Option Value} {base:Heap} {k:Nat}
theorem has_lpiece (D:Df K mg "_law_piece" s_law_piece) (B:Blt7 mg):Has P w K mg base "_law_piece" (k+1) ["labels"] sp_piece:=by
  refine D.has sc_law_piece (fun _ _ _ _ _ _ us hl=>match us,hl with | [_],_=>rfl) (fun vs H Q E h=>by obtain ⟨z,rfl,_⟩:=h;rfl) (fun f cdv A outer s H vs Q E hr h=>?_)
  obtain ⟨z,rfl,z60,low,q⟩:=h
  refine ⟨_,(pss_cons (ps_set (i:=1) sc_law_piece.nd rfl (by first | exact Or.inl rfl | exact Or.inr rfl) (pe_bm PySem.F.plainAttrs_str PySem.F.slot_str_join PySem.F.type_str_join mt_join pe_str (pa_cons (pe_callB (call_sorted_setT w rfl) rfl B.sorted bt_sorted' (pa_cons (pe_callTy (call_set_txtW w rfl) rfl B.set_ bt_set (pa_cons (pv 0) pa_nil)) pa_nil)) pa_nil)))
  (pss_cons (ps_set (i:=2) sc_law_piece.nd rfl (by first | exact Or.inl rfl | exact Or.inr rfl) (pe_op op_add_str (pe_op op_add_str (pe_callTy call_str_int rfl B.str_ bt_str (pa_cons (pe_callB call_len_str rfl B.len bt_len (pa_cons (pv 0) pa_nil)) pa_nil)) pe_str) (pv 1)))
  (pss_cons (ps_set (i:=3) sc_law_piece.nd rfl (by first | exact Or.inl rfl | exact Or.inr rfl) pe_int)
  (pss_cons (ps_set (i:=4) sc_law_piece.nd rfl (by first | exact Or.inl rfl | exact Or.inr rfl) pe_int)
  (pss_cons (ps_for PassesOwn.never rfl (pi_str (pv 0)) (pg_name (i:=5) sc_law_piece.nd rfl (by first | exact Or.inl rfl | exact Or.inr rfl))
  (pss_cons (ps_set (i:=3) sc_law_piece.nd rfl (by first | exact Or.inl rfl | exact Or.inr rfl) (pe_op op_add (pe_op op_mul (pv 3) (pe_callB call_len_str rfl B.len bt_len (pa_cons (pv 1) pa_nil))) (pe_sindex (pv 1) (pv 5))))
  (pss_one (ps_set (i:=4) sc_law_piece.nd rfl (by first | exact Or.inl rfl | exact Or.inr rfl) (pe_op op_mul (pv 4) (pe_callB call_len_str rfl B.len bt_len (pa_cons (pv 1) pa_nil)))))))
  (pss_cons (ps_if (pt_cmpR op_eq (pe_callB call_len_str rfl B.len bt_len (pa_cons (pv 1) pa_nil)) pe_int (nomark _))
  (pss_one (ps_ret (pv 2)))
  pss_nil)
  (pss_cons (ps_set (i:=6) sc_law_piece.nd rfl (by first | exact Or.inl rfl | exact Or.inr rfl) (pe_callTy call_str_int rfl B.str_ bt_str (pa_cons (pv 3) pa_nil)))
  (pss_one (ps_ret (pe_op op_add_str (pe_op op_add_str (pe_op op_add_str (pv 2) pe_str) (pe_op op_mul_str pe_str (pe_op op_sub (pe_callB call_len_str rfl B.len bt_len (pa_cons (pe_callTy call_str_int rfl B.str_ bt_str (pa_cons (pe_op op_sub (pv 4) pe_int) pa_nil)) pa_nil)) (pe_callB call_len_str rfl B.len bt_len (pa_cons (pv 6) pa_nil))))) (pv 6))))))))))),?_⟩
  have zl:=cps_len z
  have zs:z.length≤sizeLine:=line_le (by omega)
  have l26:=letL_len low
  have lm:∀ c,c∈letL z.cps.toList ↔ c∈z.cps.toList:=fun c=>letL_mem low
  have ps:pieceS z.cps.toList=if (letL z.cps.toList).length=1 then headS z.cps.toList else (headS z.cps.toList++Str.ofString " ")++Txt.zfill (tx ((numL (letL z.cps.toList) z.cps.toList:Nat):Int)) (figs (letL z.cps.toList).length z.cps.toList.length):=rfl
  have lo:∀ {ss:List Str},ss.Nodup→(∀ x,x∈ss ↔ x∈z.cps.toList.map one)→PyProof.Rows.sortedS ss=true→ss=(letL z.cps.toList).map one:=fun {ss} a b c=>let_of low a b c
  have hd:headS z.cps.toList=tx ((z.length:Nat):Int)++Str.ofString " " ++ mk (letL z.cps.toList):=by unfold headS;rw [zl,empty_app]
  rw [zl] at ps
  generalize letL z.cps.toList=L at l26 lm ps lo hd
  refine ⟨rfl,_,rfl,z,rfl,by omega,fun r hr0=>?_⟩
  have s1:Same H (upd H r (setO w r (z.cps.toList.map fun c=>(⟨#[c]⟩:Str)) z.length)):=(Same.refl H).new hr0
  refine ⟨r,_,_,L.map one,rfl,upd_same,fun x hx=>?_,by rw [List.length_map];omega,fun ss l nd mem so hl0=>?_⟩
  · obtain ⟨c,hc,rfl⟩:=List.mem_map.mp hx
    exact List.mem_map.mpr ⟨c,(lm c).mpr hc,rfl⟩
  have ess:=lo nd mem so
  subst ess
  have s2:=s1.new (o:=.lst ((L.map one).map V.str)) hl0
  refine ⟨_,l,L.map one,rfl,rfl,SqL.of upd_same,?_,?_⟩
  · have:=ones_sum L
    show ((L.map one).map fun x=>x.length).sum+_≤_
    rw [show ((L.map one).map fun x=>x.length).sum=L.length from this]
    have e0:(Str.ofString "").length=0:=rfl
    rw [e0];omega
  have ej:Txt.join (Str.ofString "") (L.map one)=mk L:=join_mk L
  rw [ej]
  generalize upd (upd H r (setO w r (z.cps.toList.map fun c=>(⟨#[c]⟩:Str)) z.length)) l (.lst ((L.map one).map V.str))=H2 at s2
  have ml:(mk L).length=L.length:=mk_len L
  have mls:(mk L).length≤sizeLine:=line_le (by omega)
  have t1:((z.length:Nat):Int).natAbs < 2 ^ 400:=Nat.lt_of_le_of_lt (show _≤60 by omega) (by decide +kernel)
  have t1l:=tx_len t1
  have a1:(tx ((z.length:Nat):Int)).length+(Str.ofString " ").length≤sizeLine:=line_le (by rw [lit1];omega)
  have a2:(tx ((z.length:Nat):Int)++Str.ofString " ").length+(mk L).length≤sizeLine:=line_le (by rw [app_len,lit1];omega)
  refine ⟨_,rfl,z,rfl,zs,_,rfl,log_ok t1,_,_,rfl,rfl,a1,_,rfl,_,_,rfl,rfl,a2,?_⟩
  have memL:∀ i,∀ c∈z.cps.toList.take i,c∈L:=fun i c hc=>(lm c).mpr (List.mem_of_mem_take hc)
  have nsm:∀ i,numL L (z.cps.toList.take i) < 2 ^ 399:=fun i=>num_small l26 (by rw [List.length_take];omega) (memL i)
  refine ⟨_,rfl,_,rfl,?_⟩
  refine for_str (z:=z) (fun i σ HX=>∃ o5 o6:Option V,σ=[some (.str z),some (.str (mk L)),some (.str (tx ((z.length:Nat):Int)++Str.ofString " " ++ mk L)),some (.int ((numL L (z.cps.toList.take i):Nat):Int)),some (.int ((L.length ^ i:Nat):Int)),o5,o6]∧HX=H2) ⟨none,none,rfl,rfl⟩ ?_ ?_
  · rintro i ch σ HX hc ⟨o5,o6,rfl,rfl⟩
    have cL:ch∈L:=(lm ch).mpr (List.mem_of_getElem? hc)
    refine ⟨_,rfl,_,rfl,_,rfl,mls,_,_,rfl,rfl,.inr ⟨by omega,by omega⟩,_,rfl,rfl,_,rfl,_,_,_,_,rfl,rfl,occ_idx cL,_,_,rfl,rfl,?_⟩
    refine ⟨_,rfl,_,rfl,_,rfl,mls,_,_,rfl,rfl,.inr ⟨by omega,by omega⟩,some (.str ⟨#[ch]⟩),o6,?_,rfl⟩
    have tk:z.cps.toList.take (i+1)=z.cps.toList.take i++[ch]:=by rw [List.take_succ,hc];rfl
    have e:((numL L (z.cps.toList.take (i+1)):Nat):Int)=((numL L (z.cps.toList.take i):Nat):Int) * (((mk L).length:Nat):Int)+((L.idxOf ch:Nat):Int):=by
      rw [tk,numL_snoc,ml,Int.natCast_add,Int.natCast_mul]
    have e2:((L.length ^ (i+1):Nat):Int)=((L.length ^ i:Nat):Int) * (((mk L).length:Nat):Int):=by rw [Nat.pow_succ,ml,Int.natCast_mul]
    rw [e,e2];rfl
  · rintro σ HX ⟨o5,o6,rfl,rfl⟩
    rw [List.take_length,zl]
    refine ⟨_,rfl,_,rfl,mls,rfl,_,rfl,ite2 (fun c=>?_) (fun c=>?_)⟩
    · have c:=of_decide_eq_true c
      injection c with c
      refine ⟨_,rfl,?_⟩
      have:=q HX s2
      rw [ps,if_pos (by omega),hd] at this
      exact this
    have c:=of_decide_eq_false (Bool.eq_false_iff.mpr c)
    have n1:L.length≠1:=fun e=>c (by rw [ml,e];rfl)
    rw [if_neg n1] at ps
    have nn:=nsm z.cps.toList.length
    rw [List.take_length] at nn
    have e400:(2:Nat) ^ 400=2 ^ 399 * 2:=by rw [← Nat.pow_succ]
    have n400:((numL L z.cps.toList:Nat):Int).natAbs < 2 ^ 400:=by omega
    have pw:=pow26 l26 z60
    have p400:(((L.length ^ z.length:Nat):Int) - 1).natAbs < 2 ^ 400:=by omega
    have tl:=tx_len n400
    have tp:=tx_len p400
    have tls:(tx ((numL L z.cps.toList:Nat):Int)).length≤sizeLine:=line_le (by omega)
    have tps:(tx (((L.length ^ z.length:Nat):Int) - 1)).length≤sizeLine:=line_le (by omega)
    refine ⟨_,rfl,_,rfl,log_ok n400,?_⟩
    have f1:figs L.length z.length=(((tx (((L.length ^ z.length:Nat):Int) - 1)).length:Nat):Int):=rfl
    have hl2:(tx ((z.length:Nat):Int)++Str.ofString " " ++ mk L).length≤428:=by rw [app_len,app_len,lit1];omega
    have b1:(tx ((z.length:Nat):Int)++Str.ofString " " ++ mk L).length+(Str.ofString " ").length≤sizeLine:=line_le (by rw [lit1];omega)
    have z1:(Str.ofString "0").length=1:=by decide
    have mo:MulOk (Str.ofString "0") ((((tx (((L.length ^ z.length:Nat):Int) - 1)).length:Nat):Int) - (((tx ((numL L z.cps.toList:Nat):Int)).length:Nat):Int)):=PyProof.Rows.mulOk_of 1 1000 (by rw [z1];decide) (by omega) (by omega) (by decide) (by decide)
    have mul_l:(Txt.mul (Str.ofString "0") ((((tx (((L.length ^ z.length:Nat):Int) - 1)).length:Nat):Int) - (((tx ((numL L z.cps.toList:Nat):Int)).length:Nat):Int))).length≤401:=by
      rw [← cps_len,zero_mul,List.length_replicate];omega
    have b2:(tx ((z.length:Nat):Int)++Str.ofString " " ++ mk L++Str.ofString " ").length+(Txt.mul (Str.ofString "0") ((((tx (((L.length ^ z.length:Nat):Int) - 1)).length:Nat):Int) - (((tx ((numL L z.cps.toList:Nat):Int)).length:Nat):Int))).length≤sizeLine:=line_le (by rw [app_len,lit1];omega)
    have b3:(tx ((z.length:Nat):Int)++Str.ofString " " ++ mk L++Str.ofString " " ++ Txt.mul (Str.ofString "0") ((((tx (((L.length ^ z.length:Nat):Int) - 1)).length:Nat):Int) - (((tx ((numL L z.cps.toList:Nat):Int)).length:Nat):Int))).length+(tx ((numL L z.cps.toList:Nat):Int)).length≤sizeLine:=Nat.le_of_lt (small10000 (by rw [app_len,app_len,lit1];omega))
    refine ⟨_,rfl,_,_,rfl,rfl,b1,_,rfl,_,_,rfl,rfl,_,rfl,log_ok p400,_,rfl,tps,_,rfl,_,rfl,tls,_,_,rfl,rfl,_,_,rfl,rfl,mo,_,_,rfl,rfl,b2,_,rfl,_,_,rfl,rfl,b3,?_⟩
    have:=q HX s2
    rw [ps,hd,zfill_eq,f1] at this
    have e:tx ((z.length:Nat):Int)++Str.ofString " " ++ mk L++Str.ofString " " ++ (Txt.mul (Str.ofString "0") ((((tx (((L.length ^ z.length:Nat):Int) - 1)).length:Nat):Int) - (((tx ((numL L z.cps.toList:Nat):Int)).length:Nat):Int))++tx ((numL L z.cps.toList:Nat):Int))=tx ((z.length:Nat):Int)++Str.ofString " " ++ mk L++Str.ofString " " ++ Txt.mul (Str.ofString "0") ((((tx (((L.length ^ z.length:Nat):Int) - 1)).length:Nat):Int) - (((tx ((numL L z.cps.toList:Nat):Int)).length:Nat):Int))++tx ((numL L z.cps.toList:Nat):Int):=app_assoc _ _ _
    rw [e] at this
    exact this
def cutN (a m i:Nat):Nat:=min m (i - a)
def pickN {α:Type} (g:Nat→α) (a m i:Nat):List α:=(List.range (cutN a m i)).map fun j=>g (a+j)
theorem pickN_in {α:Type} (g:Nat→α) {a m i:Nat} (h1:a≤i) (h2:i < a+m):pickN g a m (i+1)=pickN g a m i++[g i]:=by
  unfold pickN cutN
  rw [show min m (i+1 - a)=min m (i - a)+1 by omega,List.range_succ,List.map_append]
  show _++[g (a+min m (i - a))]=_
  rw [show a+min m (i - a)=i by omega]
theorem pickN_out {α:Type} (g:Nat→α) {a m i:Nat} (h:¬ (a≤i∧i < a+m)):pickN g a m (i+1)=pickN g a m i:=by
  unfold pickN cutN
  rw [show min m (i+1 - a)=min m (i - a) by omega]
theorem pickN_zero {α:Type} (g:Nat→α) (a m:Nat):pickN g a m 0=[]:=by
  unfold pickN cutN
  rw [show min m (0 - a)=0 by omega];rfl
theorem pickN_len {α:Type} (g:Nat→α) (a m i:Nat):(pickN g a m i).length≤i:=by
  unfold pickN cutN
  rw [List.length_map,List.length_range];omega
theorem pickN_all {l:List Nat} {a m:Nat} (h:a+m≤l.length):pickN (fun j=>l.getD j 0) a m l.length=(l.drop a).take m:=by
  unfold pickN cutN
  rw [show min m (l.length - a)=m by omega]
  apply List.ext_getElem
  · rw [List.length_map,List.length_range,List.length_take,List.length_drop];omega
  · intro i h1 h2
    rw [List.length_map,List.length_range] at h1
    rw [List.getElem_map,List.getElem_range,List.getElem_take,List.getElem_drop]
    show l.getD (a+i) 0=_
    rw [List.getD_eq_getElem?_getD,List.getElem?_eq_getElem (by omega)];rfl
structure Rise (ss:List Str):Prop where
  up:(cs ss).Pairwise fun a b=>¬ b < a
theorem Rise.at {ss:List Str} (h:Rise ss) {b x:Str} {i:Nat} (e:ss[i]?=some x):Txt.startswith x b=true ↔ W40.less (cs ss) b.cps.toList≤i∧i < W40.less (cs ss) b.cps.toList+W40.many (cs ss) b.cps.toList:=by
  rw [W16.starts_iff]
  exact W40.stretch h.up i x.cps.toList (by unfold cs;rw [List.getElem?_map,e];rfl)
def sp_lunder:Sp:=fun vs H Q _=>∃ (z b:Str) (l:Addr) (ss:List Str),vs=[.str z,.ref l,.str b]∧H l=some (.lst (ss.map V.str))∧z.length=ss.length∧ss.length≤60∧Rise ss ∧
  ∀ H',Same H H'→Q (.str (mk ((z.cps.toList.drop (W40.less (cs ss) b.cps.toList)).take (W40.many (cs ss) b.cps.toList)))) H'
theorem has_lunder (D:Df K mg "_law_under" s_law_under) (B:Blt7 mg):Has P w K mg base "_law_under" (k+1) ["labels", "contexts", "beginning"] sp_lunder:=by
  refine D.has sc_law_under (fun _ _ _ _ _ _ us hl=>match us,hl with | [_,_,_],_=>rfl) (fun vs H Q E h=>by obtain ⟨z,b,l,ss,rfl,_⟩:=h;rfl) (fun f cdv A outer s H vs Q E hr h=>?_)
  obtain ⟨z,b,l,ss,rfl,hl,zl,s60,ri,q⟩:=h
  refine ⟨_,(pss_one (ps_ret (pe_bm PySem.F.plainAttrs_str PySem.F.slot_str_join PySem.F.type_str_join mt_join pe_str (pa_cons (pe_comp rfl (pi_zip rfl B.zip (pa_cons (pv 0) (pa_cons (pv 1) pa_nil))) (NL:=["label", "context"]) (ix:=[2]) (csc (defScope s_law_under) N_law_under) (fun cl C s₃ H₃ fp pins=>⟨(pg_tupK K (n:=2) rfl (pgs_cons (pg_name (i:=0) (show List.Nodup (["label", "context", "beginning"]:List Str) from by decide +kernel) rfl (by first | exact Or.inl rfl | exact Or.inr rfl)) (pgs_cons (pg_name (i:=1) (show List.Nodup (["label", "context", "beginning"]:List Str) from by decide +kernel) rfl (by first | exact Or.inl rfl | exact Or.inr rfl)) pgs_nil))),(pifs_startsK K (pv 1) (pv 2)),(pv 0)⟩)) pa_nil)))),?_⟩
  have cl:=cps_len z
  have le:=W40.stretch_le (cs ss) b.cps.toList
  rw [cs_len] at le
  have pa:=pickN_all (l:=z.cps.toList) (a:=W40.less (cs ss) b.cps.toList) (m:=W40.many (cs ss) b.cps.toList) (by omega)
  have rat:=fun {x:Str} {i:Nat} (e:ss[i]?=some x)=>ri.at (b:=b) e
  generalize W40.less (cs ss) b.cps.toList=a at *
  generalize W40.many (cs ss) b.cps.toList=m at *
  refine ⟨rfl,_,rfl,_,rfl,.str z,.lst l,rfl,⟨_,rfl⟩,⟨_,.inl hl⟩,fun acc hacc=>?_⟩
  have sl:(signs z).length=z.length:=by simp [signs,← cl]
  refine comp_zip (xs:=signs z) (zs:=ss.map V.str) (by omega) (by rw [List.length_map];omega) (fun i ys HX=>HX acc=some (.lst ys)∧ys=((pickN (fun j=>z.cps.toList.getD j 0) a m i).map one).map V.str∧Same H HX)
    (fun i ys HX h=>⟨rfl,.inl (h.2.2 _ _ hl)⟩) (fun i ys HX h=>⟨h.1,by rw [h.2.1,List.length_map,List.length_map];exact pickN_len _ _ _ _⟩) ⟨upd_same,by rw [pickN_zero];rfl,(Same.refl H).new hacc⟩ ?_ ?_
  · rintro ys H2 ⟨g1,rfl,g3⟩
    rw [sl,← cl,pa] at g1
    refine ⟨_,acc,_,rfl,rfl,SqL.of g1,?_,?_⟩
    · rw [show (((z.cps.toList.drop a).take m).map one).map (·.length)=(((z.cps.toList.drop a).take m).map fun c=>(⟨#[c]⟩:Str)).map fun x=>x.length from rfl,ones_sum,List.length_map,List.length_take,List.length_drop]
      have e0:(Str.ofString "").length=0:=rfl
      rw [e0];omega
    · rw [show ((z.cps.toList.drop a).take m).map one=((z.cps.toList.drop a).take m).map fun c=>(⟨#[c]⟩:Str) from rfl,join_mk]
      exact q H2 g3
  · rintro i x y ys HX r hx hy ⟨g1,rfl,g3⟩ hr0
    obtain ⟨c,hc,rfl⟩:∃ c,z.cps.toList[i]?=some c∧x=.str ⟨#[c]⟩:=by
      simp only [signs,List.getElem?_map] at hx
      cases e:z.cps.toList[i]? with
      | none=>rw [e] at hx;cases hx
      | some c=>rw [e] at hx;exact ⟨c,rfl,(Option.some.inj hx).symm⟩
    obtain ⟨t,ht,rfl⟩:=strs_get hy
    have gc:z.cps.toList.getD i 0=c:=by rw [List.getD_eq_getElem?_getD,hc];rfl
    have iff:=rat ht
    have sX:Same H (upd HX r (.tup [.str ⟨#[c]⟩,.str t])):=g3.new hr0
    have g1':upd HX r (.tup [.str ⟨#[c]⟩,.str t]) acc=some (.lst (((pickN (fun j=>z.cps.toList.getD j 0) a m i).map one).map V.str)):=by rw [upd_ne (ne_of_none g1 hr0)];exact g1
    refine ⟨r,_,rfl,SqT.of upd_same,rfl,_,_,rfl,_,_,rfl,rfl,rfl,_,rfl,rfl,_,rfl,_,_,rfl,rfl,_,rfl,ite2 (fun cnd=>?_) (fun cnd=>?_)⟩
    · obtain ⟨h1,h2⟩:=iff.mp cnd
      exact ⟨_,rfl,g1',upd_same,by rw [pickN_in _ h1 h2,gc,List.map_append,List.map_append];rfl,sX.write hacc⟩
    · exact ⟨g1',by rw [pickN_out _ (fun h=>cnd (iff.mpr h))],sX⟩
def sp_lstr:Sp:=fun vs H Q _=>∃ (b:Str) (l:Addr) (ss:List Str),vs=[.ref l,.str b]∧H l=some (.lst (ss.map V.str))∧ss.length≤60∧Rise ss∧0 < W40.many (cs ss) b.cps.toList ∧
  ∀ (r:Addr) (H':Hp),Same H H'→H' r=some (.tup [.int (W40.less (cs ss) b.cps.toList:Nat),.int (((W40.less (cs ss) b.cps.toList:Nat):Int)+((W40.many (cs ss) b.cps.toList:Nat):Int))])→Q (.ref r) H'
theorem has_lstr (D:Df K mg "_law_stretch" s_law_stretch) (B:Blt7 mg):Has P w K mg base "_law_stretch" (k+1) ["contexts", "beginning"] sp_lstr:=by
  refine D.has sc_law_stretch (fun _ _ _ _ _ _ us hl=>match us,hl with | [_,_],_=>rfl) (fun vs H Q E h=>by obtain ⟨b,l,ss,rfl,_⟩:=h;rfl) (fun f cdv A outer s H vs Q E hr h=>?_)
  obtain ⟨b,l,ss,rfl,hl,s60,ri,pos,q⟩:=h
  refine ⟨_,(pss_cons (ps_comp (i:=2) sc_law_stretch.nd rfl (by first | exact Or.inl rfl | exact Or.inr rfl) rfl (pi_enum rfl B.enumerate (pa_cons (pv 0) pa_nil)) (NL:=["row", "context"]) (ix:=[1]) (csc (defScope s_law_stretch) N_law_stretch) (fun cl C s₃ H₃ fp pins=>⟨(pg_tupK K (n:=2) rfl (pgs_cons (pg_name (i:=0) (show List.Nodup (["row", "context", "beginning"]:List Str) from by decide +kernel) rfl (by first | exact Or.inl rfl | exact Or.inr rfl)) (pgs_cons (pg_name (i:=1) (show List.Nodup (["row", "context", "beginning"]:List Str) from by decide +kernel) rfl (by first | exact Or.inl rfl | exact Or.inr rfl)) pgs_nil))),(pifs_startsK K (pv 1) (pv 2)),(pv 0)⟩))
  (pss_cons (ps_if (pt_cmpR (op_ne_lst hr.units0) (pv 2) (pe_callTy (call_list_rng rfl) rfl B.list_ bt_list (pa_cons (pe_rng2 rfl B.range (pa_cons (pe_ix ix_list (pv 2) pe_int (fun _ _=>rfl)) (pa_cons (pe_op op_add (pe_ix ix_list (pv 2) pe_int (fun _ _=>rfl)) (pe_callB call_len_seq rfl B.len bt_len (pa_cons (pv 2) pa_nil))) pa_nil))) pa_nil)) (nomark _))
  (pss_one (ps_ret pe_non))
  pss_nil)
  (pss_one (ps_ret (pe_tup (pa_cons (pe_ix ix_list (pv 2) pe_int (fun _ _=>rfl)) (pa_cons (pe_op op_add (pe_ix ix_list (pv 2) (pe_un un_neg pe_int) (fun _ _=>rfl)) pe_int) pa_nil))))))),?_⟩
  have le:=W40.stretch_le (cs ss) b.cps.toList
  rw [cs_len] at le
  have rat:=fun {x:Str} {i:Nat} (e:ss[i]?=some x)=>ri.at (b:=b) e
  generalize W40.less (cs ss) b.cps.toList=a at *
  generalize W40.many (cs ss) b.cps.toList=m at *
  refine ⟨_,rfl,.lst l,rfl,⟨_,.inl hl⟩,fun acc hacc=>?_⟩
  refine comp_enum (xs:=ss.map V.str) (by rw [List.length_map];omega) (fun i ys HX=>HX acc=some (.lst ys)∧ys=(pickN (fun j:Nat=>(j:Int)) a m i).map V.int∧Same H HX)
    (fun i ys HX h=>.inl (h.2.2 _ _ hl)) (fun i ys HX h=>⟨h.1,by rw [h.2.1,List.length_map];exact pickN_len _ _ _ _⟩) ⟨upd_same,by rw [pickN_zero];rfl,(Same.refl H).new hacc⟩ ?_ ?_
  rotate_left
  · rintro i x ys HX r hx ⟨g1,rfl,g3⟩ hr0
    obtain ⟨t,ht,rfl⟩:=strs_get hx
    have iff:=rat ht
    have sX:Same H (upd HX r (.tup [.int (i:Int),.str t])):=g3.new hr0
    have g1':upd HX r (.tup [.int (i:Int),.str t]) acc=some (.lst ((pickN (fun j:Nat=>(j:Int)) a m i).map V.int)):=by rw [upd_ne (ne_of_none g1 hr0)];exact g1
    refine ⟨r,_,rfl,SqT.of upd_same,rfl,_,_,rfl,_,_,rfl,rfl,rfl,_,rfl,rfl,_,rfl,_,_,rfl,rfl,_,rfl,ite2 (fun cnd=>?_) (fun cnd=>?_)⟩
    · obtain ⟨h1,h2⟩:=iff.mp cnd
      exact ⟨_,rfl,g1',upd_same,by rw [pickN_in _ h1 h2,List.map_append];rfl,sX.write hacc⟩
    · exact ⟨g1',by rw [pickN_out _ (fun h=>cnd (iff.mpr h))],sX⟩
  rintro ys H2 ⟨g1,rfl,g3⟩
  have ep:pickN (fun j:Nat=>(j:Int)) a m (ss.map V.str).length=(List.range m).map fun j:Nat=>((a+j:Nat):Int):=by
    unfold pickN cutN
    rw [List.length_map,show min m (ss.length - a)=m by omega]
  rw [ep] at g1
  obtain ⟨ns,ens⟩:∃ ns:List Int,ns=(List.range m).map fun j:Nat=>((a+j:Nat):Int):=⟨_,rfl⟩
  have nl:ns.length=m:=by rw [ens,List.length_map,List.length_range]
  have n0:atI (ns.map V.int) 0=some (.int (a:Int)):=by
    have:=ints_at (us:=ns) (i:=0) (by omega) (by omega)
    rw [this,ens,List.getD_eq_getElem?_getD,List.getElem?_map,List.getElem?_range (by omega)];rfl
  have nn:atI (ns.map V.int) (-1)=some (.int ((a+(m - 1):Nat):Int)):=by
    rw [ens,show m=(m - 1)+1 by omega,List.range_succ,List.map_append,List.map_append]
    exact atI_last _ _
  rw [← ens] at g1
  refine ⟨_,rfl,_,rfl,acc,_,_,_,rfl,rfl,SqL.of g1,n0,_,rfl,acc,_,_,_,rfl,rfl,SqL.of g1,n0,_,rfl,acc,_,rfl,.inl (SqL.of g1),_,_,rfl,rfl,_,_,rfl,fun g hg=>?_⟩
  have s3:Same H2 (upd H2 g (.rng (a:Int) ((a:Int)+(((ns.map V.int).length:Nat):Int)))):=(Same.refl H2).new hg
  have h3:upd H2 g (.rng (a:Int) ((a:Int)+(((ns.map V.int).length:Nat):Int))) g=some (.rng (a:Int) ((a:Int)+(((ns.map V.int).length:Nat):Int))):=upd_same
  generalize upd H2 g (.rng (a:Int) ((a:Int)+(((ns.map V.int).length:Nat):Int)))=H3 at s3 h3
  have ml:(ns.map V.int).length=m:=by rw [List.length_map,nl]
  refine ⟨g,_,_,rfl,h3,⟨by omega,by omega,by omega,by omega⟩,by omega,fun l2 hl2=>?_⟩
  have er:rngV (a:Int) (((a:Int)+(((ns.map V.int).length:Nat):Int)) - (a:Int)).toNat=ns.map V.int:=by
    rw [ml,show ((a:Int)+(m:Int) - (a:Int)).toNat=m by omega,ens,List.map_map]
    refine List.map_congr_left fun j _=>?_
    show V.int ((a:Int)+(j:Int))=V.int ((a+j:Nat):Int)
    congr 1
  rw [er]
  have s4:Same H3 (upd H3 l2 (.lst (ns.map V.int))):=(Same.refl H3).new hl2
  have h4:upd H3 l2 (.lst (ns.map V.int)) l2=some (.lst (ns.map V.int)):=upd_same
  generalize upd H3 l2 (.lst (ns.map V.int))=H4 at s4 h4
  have g4:=s4 _ _ (s3 _ _ g1)
  refine ⟨acc,l2,_,_,rfl,rfl,SqL.of g4,SqL.of h4,flat_ints _,flat_ints _,_,rfl,?_⟩
  rw [eqVs_ints,decide_eq_true rfl]
  refine iteF ?_
  refine ⟨_,rfl,acc,_,_,_,rfl,rfl,SqL.of g4,n0,_,rfl,_,rfl,acc,_,_,_,rfl,rfl,SqL.of g4,nn,_,_,rfl,rfl,(by show 2≤sizeLine;decide),fun r hr0=>?_⟩
  refine q r _ (((g3.trans s3).trans s4).new hr0) ?_
  rw [upd_same]
  congr 4
  show V.int (((a+(m - 1):Nat):Int)+1)=V.int ((a:Int)+(m:Int))
  congr 1;omega
end
end S40
namespace S40
open PySem L2 W7
theorem iteN {c:Bool} {A B:Prop} (e:c=false) (h:B):if c=true then A else B:=by subst e;exact h
theorem neq {x y:V} (e:x=y):(!decide (x=y))=false:=by rw [decide_eq_true e];rfl
theorem W_low {ups:List Int} {lab:Str} (ok:TreeOk ups lab.cps.toList) (low:∀ c∈lab.cps.toList,Lw c):∀ n j,j < n→j < ups.length→∀ c∈W ups lab.cps.toList j,Lw c
  | 0,j,h,_=>absurd h (Nat.not_lt_zero _)
  | n+1,j,h,hj=>by
    intro c hc
    rw [W_eq ok hj] at hc
    rcases List.mem_cons.mp hc with rfl | hc
    · have jl:j < lab.cps.toList.length:=by rw [← ok.len];exact hj
      rw [List.getD_eq_getElem?_getD,List.getElem?_eq_getElem jl]
      exact low _ (List.getElem_mem jl)
    · split at hc
      · cases hc
      · rename_i c0
        have lt:=ok.lt hj c0
        exact W_low ok low n _ (by omega) (by omega) c hc
theorem abv_up {ups:List Int} {lab:Str} (ok:TreeOk ups lab.cps.toList) {i:Nat} (hi:i+1 < ups.length):abv ups lab (i+1)=W ups lab.cps.toList (upN ups i)∧upN ups i < ups.length:=by
  have:=ok.up (i+1) (by omega) hi
  unfold abv upN
  rw [W_eq ok hi,if_neg (by omega)]
  exact ⟨rfl,by omega⟩
theorem rise_of {ups:List Int} {lab:Str} {ks:List Nat} (ok:TreeOk ups lab.cps.toList) (low:∀ c∈lab.cps.toList,Lw c) (ko:KeptOk ups lab ks):Rise (ctxs ups lab ks):=by
  have kl:=ko.len
  have pos:=ok.pos
  have dotW:∀ i,i < ups.length→∀ c∈W ups lab.cps.toList i,46 < c:=fun i hi c hc=>by have:=W_low ok low (i+1) i (by omega) hi c hc;omega
  constructor
  unfold ctxs cs keptN
  rw [List.map_cons,List.map_cons,List.pairwise_cons]
  constructor
  · intro x hx
    rw [List.map_map,List.map_map] at hx
    obtain ⟨i,hi,rfl⟩:=List.mem_map.mp hx
    have il:=List.mem_range.mp (ko.perm.mem_iff.mp hi)
    obtain ⟨e,l⟩:=abv_up ok (i:=i) (by omega)
    have e0:abv ups lab 0=[]:=by
      unfold abv
      rw [W_eq ok pos,if_pos (by have:=ok.root;omega)];rfl
    show ¬ abv ups lab (i+1)++[46] < abv ups lab 0++[46]
    rw [e,e0]
    exact W40.dot (u:=[]) (by intro c hc;cases hc) (dotW _ l) (by intro h;cases h)
  · rw [List.map_map,List.map_map,List.pairwise_map,List.pairwise_iff_getElem]
    intro i j hi hj ij
    have r:=ko.rise i j ij (by omega)
    rw [List.getD_eq_getElem?_getD,List.getD_eq_getElem?_getD,List.getElem?_eq_getElem hi,List.getElem?_eq_getElem hj] at r
    have r:lexV (Kl ups lab ks[j]) (Kl ups lab ks[i])=false:=r
    have il:=List.mem_range.mp (ko.perm.mem_iff.mp (List.getElem_mem hi))
    have jl:=List.mem_range.mp (ko.perm.mem_iff.mp (List.getElem_mem hj))
    obtain ⟨e1,l1⟩:=abv_up ok (i:=ks[i]) (by omega)
    obtain ⟨e2,l2⟩:=abv_up ok (i:=ks[j]) (by omega)
    show ¬ abv ups lab (ks[j]+1)++[46] < abv ups lab (ks[i]+1)++[46]
    rw [e1,e2]
    refine W40.dot (dotW _ l1) (dotW _ l2) fun h=>?_
    unfold Kl at r
    rw [lex_cons] at r
    by_cases g:V.str (mk (W ups lab.cps.toList (upN ups ks[j])))=V.str (mk (W ups lab.cps.toList (upN ups ks[i])))
    · injection g with g
      have g2:=congrArg (fun z:Str=>z.cps.toList) g
      have g2:W ups lab.cps.toList (upN ups ks[j])=W ups lab.cps.toList (upN ups ks[i]):=g2
      rw [g2] at h
      exact List.lt_irrefl _ h
    · rw [if_neg g] at r
      have r:decide (W ups lab.cps.toList (upN ups ks[j]) < W ups lab.cps.toList (upN ups ks[i]))=false:=r
      exact of_decide_eq_false r h
theorem many_pos {ss:List Str} {b:Str} (h:Pre ss b):0 < W40.many (cs ss) b.cps.toList:=by
  obtain ⟨c,hc,p⟩:=h
  exact List.countP_pos_iff.mpr ⟨c.cps.toList,List.mem_map.mpr ⟨c,hc,rfl⟩,List.isPrefixOf_iff_prefix.mpr p⟩
section
variable {P:Program} {w:World} {K:PySem.W.Frag} {mg:Str→Option Value} {base:Heap} {k:Nat}
def sp_right (ls:List Lm):Sp:=fun vs H Q _=>∃ (t l:Addr) (ups:List Int) (lab b:Str) (ks:List Nat),vs=[.ref t,.ref l,.str (rowsText lab ks),.str b]∧TreeAt H t ups lab∧(∀ c∈lab.cps.toList,Lw c)∧KeptOk ups lab ks∧H l=some (.lst ((ctxs ups lab ks).map V.str))∧Lams ls H∧Pre (ctxs ups lab ks) b ∧
  ∀ H',Kt ls H H'→Q (.bl true) H'
theorem has_right {ls:List Lm} (D:Df K mg "_law_right" s_law_right) (B:Blt7 mg) (G_rows_under:Has P w K mg base "rows_under" k ["tree", "beginning"] (sp_under ls)) (G_law_stretch:Has P w K mg base "_law_stretch" k ["contexts", "beginning"] sp_lstr) (G_piece_of:Has P w K mg base "piece_of" k ["tree", "beginning"] (sp_pieceof ls))
    (G_law_piece:Has P w K mg base "_law_piece" k ["labels"] sp_piece) (G_law_under:Has P w K mg base "_law_under" k ["labels", "contexts", "beginning"] sp_lunder):Has P w K mg base "_law_right" (k+1) ["tree", "contexts", "labels", "beginning"] (sp_right ls):=by
  refine D.has sc_law_right (fun _ _ _ _ _ _ us hl=>match us,hl with | [_,_,_,_],_=>rfl) (fun vs H Q E h=>by obtain ⟨t,l,ups,lab,b,ks,rfl,_⟩:=h;rfl) (fun f cdv A outer s H vs Q E hr h=>?_)
  obtain ⟨t,l,ups,lab,b,ks,rfl,tr,low,ko,hl,L,pre,q⟩:=h
  refine ⟨_,(pss_cons (ps_set (i:=4) sc_law_right.nd rfl (by first | exact Or.inl rfl | exact Or.inr rfl) (pe_callH G_rows_under hr rfl (pa_cons (pv 0) (pa_cons (pv 3) pa_nil))))
  (pss_cons (ps_if (PW.pt (pw_or (pt_not (pt_val (pe_callB call_isinst rfl B.isinstance bt_isinstance (pa_cons (pv 4) (pa_cons (pe_bltn (v:=.ty "tuple") rfl B.tuple_ bt_tuple rfl) pa_nil))))) (pw_or1 (pt_cmpR op_ne (pe_callB (call_repr_any hr) rfl B.repr bt_repr (pa_cons (pv 4) pa_nil)) (pe_callB (call_repr_any hr) rfl B.repr bt_repr (pa_cons (pe_callH G_law_stretch hr rfl (pa_cons (pv 1) (pa_cons (pv 3) pa_nil))) pa_nil)) (nomark _)))))
  (pss_one (ps_ret pe_bl))
  pss_nil)
  (pss_cons (ps_set (i:=5) sc_law_right.nd rfl (by first | exact Or.inl rfl | exact Or.inr rfl) (pe_callH G_piece_of hr rfl (pa_cons (pv 0) (pa_cons (pv 3) pa_nil))))
  (pss_one (ps_ret (pe_and (pe_callB call_isinst rfl B.isinstance bt_isinstance (pa_cons (pv 5) (pa_cons (pe_bltn (v:=.ty "str") rfl B.str_ bt_str rfl) pa_nil))) (pe_one (pe_cmpR op_eq (pv 5) (pe_callH G_law_piece hr rfl (pa_cons (pe_callH G_law_under hr rfl (pa_cons (pv 2) (pa_cons (pv 1) (pa_cons (pv 3) pa_nil)))) pa_nil)) (nomark _))))))))),?_⟩
  obtain ⟨u,ht,hu,ok⟩:=id tr
  have m60:=ok.most
  have lpos:=ok.pos
  have ri:=rise_of ok low ko
  have mp:=many_pos pre
  have cl:(ctxs ups lab ks).length=ups.length:=by unfold ctxs;rw [List.length_map,kept_len ko lpos]
  have lh:=lo_hm ko lpos b
  have rl:=rows_len ko lpos
  have rlow:=rows_low ok low ko
  refine ⟨_,rfl,_,rfl,t,ups,lab,b,rfl,tr,L,fun ks' r1 H1 ko' k1 hf1 hr1=>?_⟩
  have ek:ks'=ks:=ko'.one ko
  subst ek
  have hl1:=k1.lst hl
  have tr1:TreeAt H1 t ups lab:=⟨u,k1.tup ht,k1.tup hu,ok⟩
  have fit:Fit (.tuple [.int ((lo ups lab ks' b:Nat):Int),.int (((lo ups lab ks' b:Nat):Int)+((hm ups lab ks' b:Nat):Int))]):=by
    have e:(10:Nat) ^ 12=1000000000000:=by decide
    exact (Gd.tup (Gs.cons (Gd.int (hd:=false) (hl:=false) (by rw [e];omega)) (Gs.one (Gd.int (by rw [e];omega))))).fit (.inl rfl) (by decide) (by decide)
  refine ⟨_,rfl,_,_,_,true,rfl,.tup hr1,kit_same _ _,_,rfl,iteF ?_⟩
  refine ⟨_,rfl,_,_,rfl,.tup hr1 (.cons (.int _) (.cons (.int _) .nil)),fit,?_⟩
  refine ⟨_,rfl,_,rfl,b,l,ctxs ups lab ks',rfl,hl1,by omega,ri,mp,fun r2 H2 s2 hr2=>?_⟩
  refine ⟨_,_,rfl,.tup hr2 (.cons (.int _) (.cons (.int _) .nil)),fit,rfl,_,rfl,iteN (neq rfl) ?_⟩
  have k2:=k1.same s2
  refine ⟨_,rfl,_,rfl,t,ups,lab,b,rfl,tr1.same s2,low,k2.lam,fun ks2 H3 ko2 k3=>?_⟩
  have ek:ks2=ks':=ko2.one ko
  subst ek
  have k13:=k2.trans k3
  refine ⟨_,rfl,_,.type "str", "str", true,rfl,.str _,kit_same _ _,_,rfl,iteT ?_⟩
  refine ⟨_,rfl,_,rfl,_,rfl,_,rfl,rowsText lab ks2,b,l,ctxs ups lab ks2,rfl,k13.lst hl,by omega,by omega,ri,fun H4 s4=>?_⟩
  refine ⟨mk (und ups lab ks2 b),rfl,?_,fun c hc=>rlow c (List.mem_of_mem_drop (List.mem_of_mem_take hc)),fun H5 s5=>?_⟩
  · rw [mk_len];unfold und;rw [List.length_take,List.length_drop,cps_len];omega
  refine ⟨rfl,?_⟩
  have e:pieceS (und ups lab ks2 b)=pieceS (mk (und ups lab ks2 b)).cps.toList:=rfl
  rw [← e,decide_eq_true rfl]
  exact q _ ((k13.same s4).same s5)
end
end S40
namespace L2
open PySem PySem.Spec PyProof.Rows
section
variable {X:Cx}
theorem op_ne_tup (hu:X.A.units < cLine):OpR X (compareOp .NotEq) (fun x y H Q=>∃ a b xs ys,x=.ref a∧y=.ref b∧SqT X.K H a xs∧SqT X.K H b ys∧xs.all flatV=true∧ys.all flatV=true∧Q (.bl (!eqVs xs ys)) H):=by
  intro pins s σ H x y v u Q I rx ry h
  obtain ⟨a,b,xs,ys,rfl,rfl,h1,h2,f1,f2,q⟩:=h
  cases (show v=Value.ref a from rx)
  cases (show u=Value.ref b from ry)
  obtain ⟨us,r1,l1,_⟩:=I.tuple h1
  obtain ⟨ws,r2,l2,_⟩:=I.tuple h2
  have e1:=r1.length
  have e2:=r2.length
  refine SeqAt.RcNeAt.tuples (e:=eqAtJ xs ys) l1 l2 hu (fun j g1 g2=>eqAt_items r1 r2 f1 f2 j g1 g2) _ _ _ _ ⟨.bl _,H,I,rfl,?_⟩
  have:eqVs xs ys=((List.range (min us.toArray.size ws.toArray.size)).all (eqAtJ xs ys) && us.toArray.size == ws.toArray.size):=by
    unfold eqVs
    rw [List.size_toArray,List.size_toArray,← e1,← e2]
    by_cases hl:xs.length=ys.length
    · rw [← hl,Nat.min_self,Bool.and_comm]
    · have:(xs.length == ys.length)=false:=by simpa using hl
      rw [this,Bool.and_false];rfl
  rw [← this];exact q
end
end L2
namespace S40
open PySem L2 W7
def lamsOf (Ts:List Addr):List Lm:=[(Ts.getD 0 0,lpO,qO),(Ts.getD 1 0,lpK,qK)]
theorem lm_ok (Ts:List Addr):LmOk (lamsOf Ts):=by
  intro l hl m hm
  simp only [lamsOf,List.mem_cons,List.not_mem_nil,or_false] at hl hm
  rcases hl with rfl | rfl <;> rcases hm with rfl | rfl
  · exact .inl rfl
  · exact .inr (show ¬ (_∧_) from by dsimp only;decide)
  · exact .inr (show ¬ (_∧_) from by dsimp only;decide)
  · exact .inl rfl
theorem lams_start {Ts:List Addr} {H:Hp} (hl:Ts.length=2) (h:∀ T∈Ts,H T=some (.tbl #[])):Lams (lamsOf Ts) H:=by
  match Ts,hl with
  | [T1,T2],_=>
    intro l hl
    simp only [lamsOf,List.mem_cons,List.not_mem_nil,or_false] at hl
    rcases hl with rfl | rfl
    · exact LamAt.start (h T1 (by simp))
    · exact LamAt.start (h T2 (by simp))
theorem Lams.kq {ls:List Lm} {p:Addr} {c d:Int} {H H':Hp} (a:Lams ls H) (pt:Pt H p c) (k:Kq p d H H'):Lams ls H':=by
  obtain ⟨x,y,z,e0,_⟩:=pt
  exact Lams.but a e0 (fun _ z=>by cases z) (fun _ _ z=>by cases z) k.keep
theorem Kt.kq {ls:List Lm} {p:Addr} {c d:Int} {H0 H H':Hp} (a:Kt ls H0 H) (pt:Pt H p c) (hp:H0 p=none) (k:Kq p d H H'):Kt ls H0 H':=
  ⟨Lams.kq a.lam pt k,fun b o ho e=>k.keep b o (ne_of_none e hp) (a.keep b o ho e),fun b e=>by
    by_cases z:b=p
    · rw [z];exact hp
    · cases g:H b with
      | none=>exact a.here b g
      | some o=>rw [k.keep b o z g] at e;cases e⟩
theorem TreeAt.kt {ls:List Lm} {H H':Hp} {t:Addr} {ups:List Int} {lab:Str} (h:TreeAt H t ups lab) (k:Kt ls H H'):TreeAt H' t ups lab:=by
  obtain ⟨u,a,b,c⟩:=h
  exact ⟨u,k.tup a,k.tup b,c⟩
theorem TreeAt.kq {p:Addr} {c d:Int} {H H':Hp} {t:Addr} {ups:List Int} {lab:Str} (h:TreeAt H t ups lab) (pt:Pt H p c) (k:Kq p d H H'):TreeAt H' t ups lab:=by
  obtain ⟨u,a,b,c⟩:=h
  exact ⟨u,k.keep _ _ (pt.neT a) a,k.keep _ _ (pt.neT b) b,c⟩
theorem Pt.same {p:Addr} {c:Int} {H H':Hp} (h:Pt H p c) (s:Same H H'):Pt H' p c:=by
  obtain ⟨x,y,z,e,r⟩:=h
  exact ⟨x,y,z,s _ _ e,r⟩
theorem Pt.kt {ls:List Lm} {p:Addr} {c:Int} {H H':Hp} (h:Pt H p c) (k:Kt ls H H'):Pt H' p c:=by
  obtain ⟨x,y,z,e,r⟩:=h
  exact ⟨x,y,z,k.lst e,r⟩
theorem ctx_root {ups:List Int} {lab:Str} (ok:TreeOk ups lab.cps.toList):ctx ups lab 0=mk [46]:=by
  unfold ctx abv
  rw [W_eq ok ok.pos,if_pos (by have:=ok.root;omega)];rfl
def tA:List Int:=[-1,0]
def tB:List Int:=[-1,0,0]
theorem okA:TreeOk tA (Str.ofString "ab").cps.toList:=⟨rfl,by decide,by decide,rfl,fun k h1 h2=>by
  have:k=1:=by simp [tA] at h2;omega
  subst this;decide⟩
theorem okB:TreeOk tB (Str.ofString "aab").cps.toList:=⟨rfl,by decide,by decide,rfl,fun k h1 h2=>by
  have:k=1∨k=2:=by simp [tB] at h2;omega
  rcases this with rfl | rfl <;> decide⟩
theorem keptA:KeptOk tA (Str.ofString "ab") [0]:=⟨List.Perm.refl _,fun i j ij jl=>by simp [tA] at jl;omega⟩
theorem keptB:KeptOk tB (Str.ofString "aab") [0,1]:=⟨List.Perm.refl _,fun i j ij jl=>by
  have:i=0∧j=1:=by simp [tB] at jl;omega
  obtain ⟨rfl,rfl⟩:=this
  decide +kernel⟩
def begA:List Str:=[Str.ofString "", Str.ofString ".", Str.ofString "a", Str.ofString "a."]
theorem ctxA:ctxs tA (Str.ofString "ab") [0]=[Str.ofString ".", Str.ofString "a."]:=by decide +kernel
theorem begsA:Begs (ctxs tA (Str.ofString "ab") [0]) begA:=by
  rw [ctxA]
  refine ⟨by decide +kernel,by decide +kernel,fun z=>?_⟩
  have e1:(Str.ofString ".").cps.toList=[46]:=by decide +kernel
  have e2:(Str.ofString "a.").cps.toList=[97,46]:=by decide +kernel
  have f0:(Str.ofString "").cps.toList=[]:=by decide +kernel
  have f2:(Str.ofString "a").cps.toList=[97]:=by decide +kernel
  unfold Pre begA
  simp only [List.mem_cons,List.not_mem_nil,or_false]
  constructor
  · rintro (rfl | rfl | rfl | rfl)
    · exact ⟨_,.inl rfl,by rw [f0];exact List.nil_prefix⟩
    · exact ⟨_,.inl rfl,List.prefix_refl _⟩
    · exact ⟨_,.inr rfl,by rw [f2,e2];exact ⟨[46],rfl⟩⟩
    · exact ⟨_,.inr rfl,List.prefix_refl _⟩
  · rintro ⟨c,rfl | rfl,h⟩
    · rw [e1,List.prefix_cons_iff] at h
      rcases h with h | ⟨t,h,h2⟩
      · exact .inl (str_ext (by rw [h,f0]))
      · rw [List.prefix_nil.mp h2] at h
        exact .inr (.inl (str_ext (by rw [h,e1])))
    · rw [e2,List.prefix_cons_iff] at h
      rcases h with h | ⟨t,h,h2⟩
      · exact .inl (str_ext (by rw [h,f0]))
      · rw [List.prefix_cons_iff] at h2
        rcases h2 with h2 | ⟨t2,h2,h3⟩
        · rw [h2] at h
          exact .inr (.inr (.inl (str_ext (by rw [h,f2]))))
        · rw [h2,List.prefix_nil.mp h3] at h
          exact .inr (.inr (.inr (str_ext (by rw [h,e2]))))
theorem pieceB:pieceS (und tB (Str.ofString "aab") [0,1] (Str.ofString ""))=Str.ofString "3 ab 1" := by decide +kernel
section
variable {P:Program} {w:World} {K:PySem.W.Frag} {mg:Str→Option Value} {base:Heap} {k:Nat}
def sp_law (ls:List Lm):PySem.W.Frag→Sp:=fun K vs H Q _=>∃ (a:Addr) (ns:List Int),vs=[.ref a]∧SqL K H a (ns.map V.int)∧ns.length≤63∧Lams ls H∧∀ H',Q (.bl true) H'
theorem ok_law {ls:List Lm} {f:Addr} {fd:FuncData} (F:Fun K "law" "law" s_law f fd) (B:Blt7 mg) (G_law_pot:Has P w K mg base "_law_pot" k ["script", "k"] (sp_pot K)) (G_law_tree:Has P w K mg base "_law_tree" k ["pot", "most"] sp_tree) (G_law_contexts:Has P w K mg base "_law_contexts" k ["tree"] sp_lctx)
    (G_law_letters:Has P w K mg base "_law_letters" k ["tree"] sp_llet) (G_law_words:Has P w K mg base "_law_words" k ["tree"] sp_words) (G_context_of:Has P w K mg base "context_of" k ["tree", "place"] sp_ctx) (G_law_beginnings:Has P w K mg base "_law_beginnings" k ["contexts"] sp_lbeg)
    (G_beginnings_of:Has P w K mg base "beginnings_of" k ["tree"] (sp_beg ls)) (G_law_take:Has P w K mg base "_law_take" k ["pot", "many"] sp_take) (G_law_right:Has P w K mg base "_law_right" k ["tree", "contexts", "labels", "beginning"] (sp_right ls)) (G_piece_of:Has P w K mg base "piece_of" k ["tree", "beginning"] (sp_pieceof ls)) :
    FnOk P w K mg base CX0 (k+1) f fd ["script"] (sp_law ls K):=by
  refine F.ok sc_law (fun vs H Q E h=>by obtain ⟨a,ns,rfl,_⟩:=h;rfl) (fun cdv A outer s H vs Q E hr h=>?_)
  obtain ⟨a,ns,rfl,hS,h63,LL,q⟩:=h
  refine ⟨_,(pss_cons (ps_for PassesOwn.never rfl (pi_range1 rfl B.range (pa_cons (pe_callB (call_max2 rfl) rfl B.max bt_max (pa_cons pe_int (pa_cons (pe_callB (call_min2 rfl) rfl B.min bt_min (pa_cons pe_int (pa_cons (pe_callB call_len_seq rfl B.len bt_len (pa_cons (pv 0) pa_nil)) pa_nil))) pa_nil))) pa_nil)) (pg_name (i:=1) sc_law.nd rfl (by first | exact Or.inl rfl | exact Or.inr rfl))
  (pss_cons (ps_set (i:=2) sc_law.nd rfl (by first | exact Or.inl rfl | exact Or.inr rfl) (pe_callH G_law_pot hr rfl (pa_cons (pv 0) (pa_cons (pv 1) pa_nil))))
  (pss_cons (ps_set (i:=3) sc_law.nd rfl (by first | exact Or.inl rfl | exact Or.inr rfl) (pe_callH G_law_tree hr rfl (pa_cons (pv 2) (pa_cons (pe_ix ix_list (pe_lst (pa_cons pe_int (pa_cons pe_int (pa_cons pe_int (pa_cons pe_int (pa_cons pe_int pa_nil)))))) (pv 1) (fun _ _=>rfl)) pa_nil))))
  (pss_cons (ps_set (i:=4) sc_law.nd rfl (by first | exact Or.inl rfl | exact Or.inr rfl) (pe_callH G_law_contexts hr rfl (pa_cons (pv 3) pa_nil)))
  (pss_cons (ps_set (i:=5) sc_law.nd rfl (by first | exact Or.inl rfl | exact Or.inr rfl) (pe_callH G_law_letters hr rfl (pa_cons (pv 3) pa_nil)))
  (pss_cons (ps_set (i:=6) sc_law.nd rfl (by first | exact Or.inl rfl | exact Or.inr rfl) (pe_callH G_law_words hr rfl (pa_cons (pv 3) pa_nil)))
  (pss_cons (ps_for PassesOwn.never rfl (pi_enum rfl B.enumerate (pa_cons (pe_ix ix_tup (pv 3) pe_int (fun _ _=>rfl)) pa_nil)) (pg_tup rfl (pgs_cons (pg_name (i:=7) sc_law.nd rfl (by first | exact Or.inl rfl | exact Or.inr rfl)) (pgs_cons (pg_name (i:=8) sc_law.nd rfl (by first | exact Or.inl rfl | exact Or.inr rfl)) pgs_nil)))
  (pss_one (ps_if (pt_cmpR op_ne (pe_callH G_context_of hr rfl (pa_cons (pv 3) (pa_cons (pv 7) pa_nil))) (pe_op op_add_str (pe_ifExp (pt_cmpR op_ge (pv 8) pe_int (nomark _)) (pe_ix ix_list (pv 6) (pv 8) (fun _ _=>rfl)) pe_str) pe_str) (nomark _))
  (pss_one (ps_ret pe_bl))
  pss_nil)))
  (pss_cons (ps_set (i:=9) sc_law.nd rfl (by first | exact Or.inl rfl | exact Or.inr rfl) (pe_callH G_law_beginnings hr rfl (pa_cons (pv 4) pa_nil)))
  (pss_cons (ps_set (i:=10) sc_law.nd rfl (by first | exact Or.inl rfl | exact Or.inr rfl) (pe_callH G_beginnings_of hr rfl (pa_cons (pv 3) pa_nil)))
  (pss_cons (ps_if (PW.pt (pw_or (pt_not (pt_val (pe_callB call_isinst rfl B.isinstance bt_isinstance (pa_cons (pv 10) (pa_cons (pe_bltn (v:=.ty "tuple") rfl B.tuple_ bt_tuple rfl) pa_nil))))) (pw_or1 (pt_cmpR (op_ne_tup hr.units0) (pv 10) (pe_callTy call_tuple_of rfl B.tuple_ bt_tuple (pa_cons (pv 9) pa_nil)) (nomark _)))))
  (pss_one (ps_ret pe_bl))
  pss_nil)
  (pss_one (ps_for PassesOwn.never rfl (pi_range1 rfl B.range (pa_cons pe_int pa_nil)) (pg_name (i:=11) sc_law.nd rfl (by first | exact Or.inl rfl | exact Or.inr rfl))
  (pss_cons (ps_set (i:=12) sc_law.nd rfl (by first | exact Or.inl rfl | exact Or.inr rfl) (pe_ifExp (pt_cmpR op_lt (pv 11) pe_int (nomark _)) (pe_ix ix_list (pe_lst (pa_cons pe_str (pa_cons (pe_ix ix_list (pv 9) (pe_un un_neg pe_int) (fun _ _=>rfl)) (pa_cons pe_str pa_nil)))) (pv 11) (fun _ _=>rfl)) (pe_ix ix_list (pv 9) (pe_callH G_law_take hr rfl (pa_cons (pv 2) (pa_cons (pe_callB call_len_seq rfl B.len bt_len (pa_cons (pv 9) pa_nil)) pa_nil))) (fun _ _=>rfl))))
  (pss_one (ps_if (pt_not (pt_val (pe_callH G_law_right hr rfl (pa_cons (pv 3) (pa_cons (pv 4) (pa_cons (pv 5) (pa_cons (pv 12) pa_nil)))))))
  (pss_one (ps_ret pe_bl))
  pss_nil)))))))))))))))
  (pss_one (ps_ret (pe_and (pe_cmpR (op_eq_tup hr.units0) (pe_callH G_beginnings_of hr rfl (pa_cons (pe_tup (pa_cons (pe_tup (pa_cons (pe_un un_neg pe_int) (pa_cons pe_int pa_nil))) (pa_cons pe_str pa_nil))) pa_nil)) (pe_tup (pa_cons pe_str (pa_cons pe_str (pa_cons pe_str (pa_cons pe_str pa_nil))))) (nomark _)) (pe_one (pe_cmpR op_eq (pe_callH G_piece_of hr rfl (pa_cons (pe_tup (pa_cons (pe_tup (pa_cons (pe_un un_neg pe_int) (pa_cons pe_int (pa_cons pe_int pa_nil)))) (pa_cons pe_str pa_nil))) (pa_cons pe_str pa_nil))) pe_str (nomark _))))))),?_⟩
  have hl:(ns.map V.int).length=ns.length:=List.length_map _
  refine ⟨_,rfl,a,_,rfl,.inl hS,_,_,rfl,_,_,rfl,_,rfl,?_,?_,?_⟩
  · split <;> (try split) <;> omega
  · split <;> (try split) <;> omega
  have hbound:(if (if (((ns.map V.int).length:Nat):Int) < 5 then (((ns.map V.int).length:Nat):Int) else 5) > 2 then (if (((ns.map V.int).length:Nat):Int) < 5 then (((ns.map V.int).length:Nat):Int) else 5) else 2:Int).toNat≤5:=by
    split <;> (try split) <;> omega
  generalize (if (if (((ns.map V.int).length:Nat):Int) < 5 then (((ns.map V.int).length:Nat):Int) else 5) > 2 then (if (((ns.map V.int).length:Nat):Int) < 5 then (((ns.map V.int).length:Nat):Int) else 5) else 2:Int).toNat=n at hbound
  refine for_range (lo:=0) (n:=n) (fun i σ HX=>∃ o1 o2 o3 o4 o5 o6 o7 o8 o9 oA oB oC:Option V,σ=[some (.ref a),o1,o2,o3,o4,o5,o6,o7,o8,o9,oA,oB,oC]∧Kt ls H HX) ⟨none,none,none,none,none,none,none,none,none,none,none,none,rfl,Kt.refl LL⟩ ?_ ?_
  rotate_left
  · rintro σ HX ⟨o1,o2,o3,o4,o5,o6,o7,o8,o9,oA,oB,oC,rfl,kX⟩
    refine ⟨_,rfl,(by show 2≤sizeLine;decide),fun u hu=>?_⟩
    have s1:Same HX (upd HX u (.tup [.int (-1),.int 0])):=(Same.refl HX).new hu
    have h1:upd HX u (.tup [.int (-1),.int 0]) u=some (.tup (tA.map V.int)):=upd_same
    show (fun HH=>_) (upd HX u (.tup [.int (-1),.int 0]))
    generalize upd HX u (.tup [.int (-1),.int 0])=H1 at s1 h1
    refine ⟨(by show 2≤sizeLine;decide),fun t ht=>?_⟩
    have s2:Same H1 (upd H1 t (.tup [.ref u,.str (Str.ofString "ab")])):=(Same.refl H1).new ht
    have h2:upd H1 t (.tup [.ref u,.str (Str.ofString "ab")]) t=some (.tup [.ref u,.str (Str.ofString "ab")]):=upd_same
    show (fun HH=>_) (upd H1 t (.tup [.ref u,.str (Str.ofString "ab")]))
    generalize upd H1 t (.tup [.ref u,.str (Str.ofString "ab")])=H2 at s2 h2
    have k2:=(kX.same s1).same s2
    refine ⟨t,tA,Str.ofString "ab", rfl,⟨u,h2,s2 _ _ h1,okA⟩,k2.lam,fun ks zs r H3 ko bg zl k3 hf hr3=>?_⟩
    have ek:=ko.one keptA
    subst ek
    have ez:=bg.one begsA
    subst ez
    refine ⟨(by show 4≤sizeLine;decide),fun e he=>?_⟩
    have s4:Same H3 (upd H3 e (.tup (begA.map V.str))):=(Same.refl H3).new he
    have h4:upd H3 e (.tup (begA.map V.str)) e=some (.tup (begA.map V.str)):=upd_same
    have e4:([.str (Str.ofString ""),.str (Str.ofString "."),.str (Str.ofString "a"),.str (Str.ofString "a.")]:List V)=begA.map V.str:=rfl
    show (fun HH=>_) (upd H3 e (.tup [.str (Str.ofString ""),.str (Str.ofString "."),.str (Str.ofString "a"),.str (Str.ofString "a.")]))
    rw [e4]
    generalize upd H3 e (.tup (begA.map V.str))=H4 at s4 h4
    refine ⟨r,e,_,_,rfl,rfl,SqT.of (s4 _ _ hr3),SqT.of h4,flat_strs _,flat_strs _,_,rfl,?_⟩
    rw [eqVs_strs,decide_eq_true rfl]
    refine iteT ?_
    have k4:=(k2.trans k3).same s4
    refine ⟨_,rfl,(by show 3≤sizeLine;decide),fun u2 hu2=>?_⟩
    have s5:Same H4 (upd H4 u2 (.tup [.int (-1),.int 0,.int 0])):=(Same.refl H4).new hu2
    have h5:upd H4 u2 (.tup [.int (-1),.int 0,.int 0]) u2=some (.tup (tB.map V.int)):=upd_same
    show (fun HH=>_) (upd H4 u2 (.tup [.int (-1),.int 0,.int 0]))
    generalize upd H4 u2 (.tup [.int (-1),.int 0,.int 0])=H5 at s5 h5
    refine ⟨(by show 2≤sizeLine;decide),fun t2 ht2=>?_⟩
    have s6:Same H5 (upd H5 t2 (.tup [.ref u2,.str (Str.ofString "aab")])):=(Same.refl H5).new ht2
    have h6:upd H5 t2 (.tup [.ref u2,.str (Str.ofString "aab")]) t2=some (.tup [.ref u2,.str (Str.ofString "aab")]):=upd_same
    show (fun HH=>_) (upd H5 t2 (.tup [.ref u2,.str (Str.ofString "aab")]))
    generalize upd H5 t2 (.tup [.ref u2,.str (Str.ofString "aab")])=H6 at s6 h6
    refine ⟨t2,tB,Str.ofString "aab", Str.ofString "", rfl,⟨u2,h6,s6 _ _ h5,okB⟩,by decide +kernel,((k4.same s5).same s6).lam,fun ks2 H7 ko2 k7=>?_⟩
    have ek:=ko2.one keptB
    subst ek
    refine ⟨rfl,?_⟩
    rw [pieceB,decide_eq_true rfl]
    exact q H7
  rintro i σ H0 hi ⟨o1,o2,o3,o4,o5,o6,o7,o8,o9,oA,oB,oC,rfl,k0⟩
  refine ⟨_,rfl,_,rfl,a,ns,0+(i:Int),rfl,k0.seq hS,h63,by omega,by omega,fun p H1 hp s1 pt=>?_⟩
  have k1:Kt ls H0 H1:=(Kt.refl k0.lam).same s1
  refine ⟨_,rfl,line_le (show 5≤1000 by omega),fun l5 hl5=>?_⟩
  generalize hJ:upd H1 l5 _=H2
  have s2:Same H1 H2:=by rw [← hJ];exact (Same.refl H1).new hl5
  have h2:H2 l5=some (.lst ([60,24,40,12,60].map V.int)):=by rw [← hJ];exact upd_same
  clear hJ
  obtain ⟨most,hm,m1,m60⟩:=menu (us:=[60,24,40,12,60]) (n:=0+(i:Int)) (lo:=1) (hi:=60) (by omega) (by show 0+(i:Int) < 5;omega) (by decide)
  refine ⟨_,rfl,l5,_,_,_,rfl,rfl,SqL.of h2,hm,p,most,0,rfl,pt.same s2,by decide,m1,m60,fun t ups lab H3 kq3 tr3 low ft=>?_⟩
  have k3:Kt ls H0 H3:=Kt.kq (k1.same s2) (pt.same s2) hp kq3
  obtain ⟨_,_,_,ok⟩:=id tr3
  have u60:=ok.most
  have lpos:=ok.pos
  refine ⟨_,rfl,t,ups,lab,rfl,tr3,fun ks lc H4 ko s4 hfc hlc=>?_⟩
  have tr4:=tr3.same s4
  have k4:=k3.same s4
  have pt4:=kq3.pt.same s4
  have lcp:lc≠p:=kq3.pt.ne hfc
  refine ⟨_,rfl,t,ups,lab,rfl,tr4,fun ks2 H5 ko2 s5=>?_⟩
  have ek:=ko2.one ko
  subst ek
  refine ⟨_,rfl,t,ups,lab,rfl,tr4.same s5,fun qw H6 s6 hqw=>?_⟩
  have s46:=s5.trans s6
  have tr6:=tr4.same s46
  have k6:=k4.same s46
  have pt6:=pt4.same s46
  have hlc6:=s46 _ _ hlc
  obtain ⟨u6,ht6,hu6,_⟩:=id tr6
  refine ⟨_,rfl,t,_,_,_,rfl,rfl,SqT.of ht6,rfl,.tup u6,rfl,⟨_,.inl hu6⟩,?_⟩
  refine for_enum (xs:=ups.map V.int) (fun j σ H'=>∃ o7 o8:Option V,σ=[some (.ref a),some (.int (0+(i:Int))),some (.ref p),some (.ref t),some (.ref lc),some (.str (rowsText lab ks2)),some (.ref qw),o7,o8,o9,oA,oB,oC]∧Same H6 H') ⟨_,_,rfl,Same.refl H6⟩ (fun j σ H' _ h=>by obtain ⟨_,_,_,sX⟩:=h;exact .inl (sX _ _ hu6)) ?_ ?_
  · rintro j x σ H' pp hx ⟨o7,o8,rfl,sX⟩ hpp
    rw [List.getElem?_map] at hx
    cases e1:ups[j]? with
    | none=>rw [e1] at hx;cases hx
    | some v=>
    rw [e1] at hx
    cases hx
    have hj:j < ups.length:=(List.getElem?_eq_some_iff.mp e1).1
    have ev:ups.getD j 0=v:=by rw [List.getD_eq_getElem?_getD,e1];rfl
    refine ⟨pp,_,rfl,SqT.of upd_same,rfl,_,_,rfl,_,_,rfl,rfl,?_⟩
    have sY:Same H6 (upd H' pp (.tup [.int (j:Int),.int v])):=sX.new hpp
    show (fun HH=>_) (upd H' pp (.tup [.int (j:Int),.int v]))
    generalize upd H' pp (.tup [.int (j:Int),.int v])=HY at sY
    refine ⟨_,rfl,_,rfl,t,ups,lab,j,rfl,tr6.same sY,hj,fun HZ sZ=>?_⟩
    have sYZ:=sY.trans sZ
    have d1:(Str.ofString ".").length=1:=by decide
    refine ⟨_,rfl,_,_,rfl,rfl,_,rfl,ite2 (fun cnd=>?_) (fun cnd=>?_)⟩
    · have v0:0≤v:=of_decide_eq_true cnd
      have lt:=ok.lt hj (by rw [ev];omega)
      rw [ev] at lt
      have hw:atI (wordsV ups lab ups.length) v=some (.str (mk (W ups lab.cps.toList v.toNat))):=by
        have:=wordsV_at (ups:=ups) (lab:=lab) (i:=v.toNat) (n:=ups.length) (by omega)
        rw [show ((v.toNat:Nat):Int)=v by omega] at this
        exact this
      have wle:=W_len ok (v.toNat+1) v.toNat (by omega) (by omega)
      have ec:ctx ups lab j=mk (W ups lab.cps.toList v.toNat)++Str.ofString "." := str_ext (by
        unfold ctx abv
        rw [app_list,mk_cps,W_eq ok hj,ev,if_neg (by omega)];rfl)
      refine ⟨_,rfl,_,rfl,qw,_,_,_,rfl,rfl,SqL.of (sYZ _ _ hqw),hw,_,_,rfl,rfl,?_,rfl,_,rfl,iteN (neq (by rw [ec])) ⟨_,_,rfl,sYZ⟩⟩
      rw [mk_len,d1];exact line_le (by omega)
    · have v0:v < 0:=by have:=of_decide_eq_false (Bool.eq_false_iff.mpr cnd);omega
      have ec:ctx ups lab j=Str.ofString "" ++ Str.ofString "." := str_ext (by
        unfold ctx abv
        rw [app_list,mk_cps,W_eq ok hj,ev,if_pos v0];rfl)
      refine ⟨_,_,rfl,rfl,?_,rfl,_,rfl,iteN (neq (by rw [ec])) ⟨_,_,rfl,sYZ⟩⟩
      rw [d1];exact line_le (by decide)
  rintro σ H7 ⟨o7,o8,rfl,s7⟩
  have tr7:=tr6.same s7
  have k7:=k6.same s7
  have pt7:=pt6.same s7
  have hlc7:=s7 _ _ hlc6
  have cl:(ctxs ups lab ks2).length=ups.length:=by unfold ctxs;rw [List.length_map,kept_len ko lpos]
  refine ⟨_,rfl,lc,_,rfl,hlc7,by omega,fun c hc=>by obtain ⟨j,hj,rfl⟩:=List.mem_map.mp hc;exact ctx_len ok (kept_in ko lpos j hj),fun zs kn H8 bg zl s8 hfk hkn=>?_⟩
  have tr8:=tr7.same s8
  have k8:=k7.same s8
  have pt8:=pt7.same s8
  have knp:kn≠p:=pt7.ne hfk
  refine ⟨_,rfl,t,ups,lab,rfl,tr8,k8.lam,fun ks3 ys rt H9 ko3 bg3 yl k89 hft hrt=>?_⟩
  have ek:=ko3.one ko
  subst ek
  have ez:=bg3.one bg
  subst ez
  have tr9:=tr8.kt k89
  have k9:=k8.trans k89
  have pt9:=pt8.kt k89
  have hkn9:=k89.lst hkn
  have hlc9:=k89.lst (s8 _ _ hlc7)
  refine ⟨_,rfl,_,_,_,true,rfl,.tup hrt,kit_same _ _,_,rfl,iteF ?_⟩
  refine ⟨_,rfl,_,rfl,kn,_,rfl,.inl ⟨SqL.of hkn9,fun tt htt=>?_⟩⟩
  have s10:Same H9 (upd H9 tt (.tup (ys.map V.str))):=(Same.refl H9).new htt
  have h10:upd H9 tt (.tup (ys.map V.str)) tt=some (.tup (ys.map V.str)):=upd_same
  generalize upd H9 tt (.tup (ys.map V.str))=H10 at s10 h10
  refine ⟨rt,tt,_,_,rfl,rfl,SqT.of (s10 _ _ hrt),SqT.of h10,flat_strs _,flat_strs _,_,rfl,iteN (by rw [eqVs_strs,decide_eq_true rfl];rfl) ?_⟩
  have tr10:=tr9.same s10
  have k10:=k9.same s10
  have pt10:=pt9.same s10
  have hkn10:=s10 _ _ hkn9
  have hlc10:=s10 _ _ hlc9
  have pre0:Pre (ctxs ups lab ks3) (Str.ofString ""):=⟨ctx ups lab 0,List.mem_map.mpr ⟨0,List.mem_cons_self,rfl⟩,List.nil_prefix⟩
  have pre1:Pre (ctxs ups lab ks3) (Str.ofString "."):=⟨ctx ups lab 0,List.mem_map.mpr ⟨0,List.mem_cons_self,rfl⟩,by rw [ctx_root ok];exact List.prefix_refl _⟩
  have ypos:0 < ys.length:=List.length_pos_of_mem ((bg.mem _).mpr pre0)
  have yat:∀ ix:Int,0≤ix→ix < (ys.length:Int)→∃ y,atI (ys.map V.str) ix=some (.str y)∧Pre (ctxs ups lab ks3) y:=fun ix a b=>by
    have e:=atI_nat (xs:=ys.map V.str) (j:=ix.toNat) (v:=.str (ys[ix.toNat]'(by omega))) (by rw [List.getElem?_map,List.getElem?_eq_getElem (by omega)];rfl)
    rw [show ((ix.toNat:Nat):Int)=ix by omega] at e
    exact ⟨_,e,(bg.mem _).mp (List.getElem_mem _)⟩
  have ylast:∃ y,atI (ys.map V.str) (-1)=some (.str y)∧Pre (ctxs ups lab ks3) y:=by
    obtain ⟨r,y,e⟩:=(List.eq_nil_or_concat ys).resolve_left (by intro e;rw [e] at ypos;simp at ypos)
    rw [List.concat_eq_append] at e
    refine ⟨y,by rw [e,List.map_append];exact atI_last _ _,(bg.mem _).mp (by rw [e];simp)⟩
  refine ⟨_,rfl,by decide,by decide,?_⟩
  refine for_range (lo:=0) (n:=(7:Int).toNat) (fun j σ H'=>∃ oB oC:Option V,σ=[some (.ref a),some (.int (0+(i:Int))),some (.ref p),some (.ref t),some (.ref lc),some (.str (rowsText lab ks3)),some (.ref qw),o7,o8,some (.ref kn),some (.ref rt),oB,oC]∧Kt ls H0 H'∧TreeAt H' t ups lab∧Pt H' p (100000+j)∧H' kn=some (.lst (ys.map V.str))∧H' lc=some (.lst ((ctxs ups lab ks3).map V.str)))
    ⟨_,_,rfl,k10,tr10,pt10.mono (by omega),hkn10,hlc10⟩ ?_ ?_
  rotate_left
  · rintro σ H' ⟨oB,oC,rfl,kX,_⟩
    exact ⟨_,_,_,_,_,_,_,_,_,_,_,_,rfl,k0.trans kX⟩
  rintro j σ H' hj ⟨oB,oC,rfl,kX,trX,ptX,knX,lcX⟩
  have j7:j < 7:=hj
  have fin:∀ (y:Str) (HY:Hp),Pre (ctxs ups lab ks3) y→Kt ls H0 HY→TreeAt HY t ups lab→Pt HY p (100000+(j:Int)+1)→HY kn=some (.lst (ys.map V.str))→HY lc=some (.lst ((ctxs ups lab ks3).map V.str)) →
      ∃ (t' l':Addr) (ups':List Int) (lab' b':Str) (ks':List Nat),([.ref t,.ref lc,.str (rowsText lab ks3),.str y]:List V)=[.ref t',.ref l',.str (rowsText lab' ks'),.str b']∧TreeAt HY t' ups' lab'∧(∀ c∈lab'.cps.toList,Lw c)∧KeptOk ups' lab' ks'∧HY l'=some (.lst ((ctxs ups' lab' ks').map V.str))∧Lams ls HY∧Pre (ctxs ups' lab' ks') b' ∧
        ∀ HZ,Kt ls HY HZ→(Kt ls H0 HZ∧TreeAt HZ t ups lab∧Pt HZ p (100000+((j+1:Nat):Int))∧HZ kn=some (.lst (ys.map V.str))∧HZ lc=some (.lst ((ctxs ups lab ks3).map V.str))):=fun y HY py kY tY pY nY cY=>
    ⟨t,lc,ups,lab,y,ks3,rfl,tY,low,ko,cY,kY.lam,py,fun HZ kZ=>⟨kY.trans kZ,tY.kt kZ,(pY.kt kZ).mono (by omega),kZ.lst nY,kZ.lst cY⟩⟩
  refine ⟨_,rfl,_,_,rfl,rfl,_,rfl,ite2 (fun cnd=>?_) (fun cnd=>?_)⟩
  · have j3:j < 3:=by have:=of_decide_eq_true cnd;omega
    obtain ⟨yl,hyl,pyl⟩:=ylast
    refine ⟨_,rfl,_,rfl,kn,_,_,_,rfl,rfl,SqL.of knX,hyl,(by show 3≤sizeLine;decide),fun e he=>?_⟩
    generalize hJ:upd H' e _=HE
    have sE:Same H' HE:=by rw [← hJ];exact (Same.refl H').new he
    have hE:HE e=some (.lst ([Str.ofString "", yl,Str.ofString "."].map V.str)):=by rw [← hJ];exact upd_same
    clear hJ
    obtain ⟨y,hy,py⟩:∃ y,atI ([Str.ofString "", yl,Str.ofString "."].map V.str) (0+(j:Int))=some (.str y)∧Pre (ctxs ups lab ks3) y:=by
      rcases j with _ | _ | _ | j
      · exact ⟨_,rfl,pre0⟩
      · exact ⟨_,rfl,pyl⟩
      · exact ⟨_,rfl,pre1⟩
      · omega
    refine ⟨_,rfl,e,_,_,_,rfl,rfl,SqL.of hE,hy,?_⟩
    obtain ⟨t',l',ups',lab',b',ks',e1,e2,e3,e4,e5,e6,e7,e8⟩:=fin y HE py (kX.same sE) (trX.same sE) ((ptX.same sE).mono (by omega)) (sE _ _ knX) (sE _ _ lcX)
    refine ⟨_,rfl,_,rfl,_,rfl,_,rfl,t',l',ups',lab',b',ks',e1,e2,e3,e4,e5,e6,e7,fun HZ kZ=>⟨_,rfl,iteF ⟨_,_,rfl,e8 HZ kZ⟩⟩⟩
  · refine ⟨_,rfl,_,rfl,_,rfl,kn,_,rfl,.inl (SqL.of knX),p,_,_,rfl,ptX,by omega,by rw [List.length_map];omega,by rw [List.length_map];omega,fun n1 HE a0 a1 kq=>?_⟩
    rw [List.length_map] at a1
    obtain ⟨y,hy,py⟩:=yat n1 a0 a1
    have knE:=kq.keep _ _ knp knX
    refine ⟨kn,_,_,_,rfl,rfl,SqL.of knE,hy,?_⟩
    obtain ⟨t',l',ups',lab',b',ks',e1,e2,e3,e4,e5,e6,e7,e8⟩:=fin y HE py (Kt.kq kX ptX hp kq) (trX.kq ptX kq) kq.pt knE (kq.keep _ _ lcp lcX)
    refine ⟨_,rfl,_,rfl,_,rfl,_,rfl,t',l',ups',lab',b',ks',e1,e2,e3,e4,e5,e6,e7,fun HZ kZ=>⟨_,rfl,iteF ⟨_,_,rfl,e8 HZ kZ⟩⟩⟩
end
end S40
namespace S40
open PySem L2 W7
theorem df_mk {K:PySem.W.Frag} {h:Heap} {mg:Str→Option Value} {x:Str} {st:Stmt} {f:Addr} {oc:Value} {od an:Option Addr} {osl:Array (Option Value)} {kV doc pm cdv ct:Value} (X:K.In h) (G:h.Ns mainGlobals mg)
    (a:PySem.W.nsIn K mainGlobals x=some (some (.ref f))) (l:K.lookup f=some ⟨oc,od,.func (PySem.W.fnOf x x (defArgs st) (defBody st) (defScope st) .none kV doc pm an cdv ct),osl⟩) (c:PySem.W.codeIn K cdv x=true) (kk:PySem.W.keepIn K (.ref f)=true):Df K mg x st:=
  ⟨f,_,fun_mk l c kk,PySem.W.mg_of X G a⟩
theorem blt_mk {K:PySem.W.Frag} {h:Heap} {mg:Str→Option Value} (X:K.In h) (G:h.Ns mainGlobals mg)
    (z1:PySem.W.nsIn K mainGlobals "len" = some none) (z2:PySem.W.nsIn K mainGlobals "range" = some none) (z3:PySem.W.nsIn K mainGlobals "zip" = some none) (z4:PySem.W.nsIn K mainGlobals "enumerate" = some none)
    (z5:PySem.W.nsIn K mainGlobals "max" = some none) (z6:PySem.W.nsIn K mainGlobals "min" = some none) (z7:PySem.W.nsIn K mainGlobals "int" = some none) (z8:PySem.W.nsIn K mainGlobals "str" = some none)
    (z9:PySem.W.nsIn K mainGlobals "bool" = some none) (z10:PySem.W.nsIn K mainGlobals "list" = some none) (z11:PySem.W.nsIn K mainGlobals "tuple" = some none) (z12:PySem.W.nsIn K mainGlobals "isinstance" = some none):Blt mg:=
  ⟨PySem.W.mg_none_of X G z1,PySem.W.mg_none_of X G z2,PySem.W.mg_none_of X G z3,PySem.W.mg_none_of X G z4,PySem.W.mg_none_of X G z5,PySem.W.mg_none_of X G z6,PySem.W.mg_none_of X G z7,PySem.W.mg_none_of X G z8,
    PySem.W.mg_none_of X G z9,PySem.W.mg_none_of X G z10,PySem.W.mg_none_of X G z11,PySem.W.mg_none_of X G z12⟩
theorem all_ok {P:Program} {w:World} {K:PySem.W.Frag} {mg:Str→Option Value} {fa:Addr} (hfa:mg "law" = some (.ref fa)) (B:Blt7 mg)
    (d1:Df K mg "words_of" s_words_of) (d2:Df K mg "word_of" s_word_of) (d3:Df K mg "word_above" s_word_above) (d4:Df K mg "order_of" s_order_of) (d5:Df K mg "ranks_of" s_ranks_of) (d6:Df K mg "beneath_of" s_beneath_of) (d7:Df K mg "is_leaf" s_is_leaf) (d8:Df K mg "kept_order" s_kept_order) (d9:Df K mg "rows_of" s_rows_of) (d10:Df K mg "is_last" s_is_last) (d11:Df K mg "stretch_in" s_stretch_in) (d12:Df K mg "count_read" s_count_read) (d13:Df K mg "context_of" s_context_of) (d14:Df K mg "contexts_of" s_contexts_of) (d15:Df K mg "beginnings_of" s_beginnings_of) (d16:Df K mg "rows_under" s_rows_under) (d17:Df K mg "piece_of" s_piece_of) (d18:Df K mg "pieces_of" s_pieces_of) (d19:Df K mg "piece_by" s_piece_by) (d20:Df K mg "figures_for" s_figures_for) (d21:Df K mg "_law_pot" s_law_pot) (d22:Df K mg "_law_take" s_law_take) (d23:Df K mg "_law_line" s_law_line) (d24:Df K mg "_law_up" s_law_up) (d25:Df K mg "_law_labels" s_law_labels) (d26:Df K mg "_law_tree" s_law_tree) (d27:Df K mg "_law_words" s_law_words) (d28:Df K mg "_law_kept" s_law_kept) (d29:Df K mg "_law_letters" s_law_letters) (d30:Df K mg "_law_contexts" s_law_contexts) (d31:Df K mg "_law_beginnings" s_law_beginnings) (d32:Df K mg "_law_piece" s_law_piece) (d33:Df K mg "_law_under" s_law_under) (d34:Df K mg "_law_stretch" s_law_stretch) (d35:Df K mg "_law_right" s_law_right) (d36:Df K mg "law" s_law) :
    ∃ fd:FuncData,(∀ (s:Shared) (v:Value),BindsTo s fd ⟨[v],[]⟩ [("script", v)])∧∀ (Ts:List Addr) (base:Heap),K.In base→Two (TabAt base mg) ["order_of", "kept_order"] Ts→FnOk P w K mg base CX0 12 fa fd ["script"] (sp_law (lamsOf Ts) K):=by
  obtain ⟨f,fd,F,m⟩:=d36
  have e:=hfa.symm.trans m
  cases e
  refine ⟨fd,?_,fun Ts base kb TT=>?_⟩
  · obtain ⟨oc,od,kV,doc,pm,an,cdv,ct,osl,rfl,_,_⟩:=F.ex
    exact fun s v=>.of_eq rfl
  cases TT with
  | cons TA1 TT2=>
    rename_i T1 _
    cases TT2 with
    | cons TA2 TT3=>
      rename_i T2 _
      cases TT3
      have LK:LmOk (lamsOf [T1,T2]):=lm_ok _
      have LI1:(T1,lpO,qO)∈lamsOf [T1,T2]:=List.mem_cons_self ..
      have LI2:(T2,lpK,qK)∈lamsOf [T1,T2]:=List.mem_cons_of_mem _ (List.mem_cons_self ..)
      have g_words:=has_words (P:=P) (w:=w) (base:=base) (k:=0) d1 B.toBlt
      have g_order:=has_order (k:=1) d4 B kb TA1 LK LI1 g_words
      have g_ranks:=has_ranks (k:=2) d5 B g_order
      have g_kept:=has_kept (k:=3) d8 B kb TA2 LK LI2 g_ranks
      have g_ben:=has_beneath (P:=P) (w:=w) (base:=base) (k:=0) d6 B
      have g_leaf:=has_leaf (P:=P) (w:=w) (base:=base) (k:=0) d7 B
      have g_last:=has_last (k:=1) d10 B g_ben
      have g_rows:=has_rows (k:=4) d9 B g_kept (g_last.mono (by decide)) (g_leaf.mono (by decide))
      have g_word:=has_word (k:=1) d2 B g_words
      have g_above:=has_above (k:=2) d3 B g_word
      have g_ctx:=has_ctx (k:=3) d13 B g_above
      have g_ctxs:=has_ctxs (k:=4) d14 B g_kept g_ctx
      have g_count:=has_count (P:=P) (w:=w) (base:=base) (k:=0) d12 B.toBlt
      have g_in:=has_in (k:=1) d11 B.toBlt g_count
      have g_under:=has_under (k:=5) d16 B g_ctxs (g_in.mono (by decide))
      have g_figs:=has_figs (P:=P) (w:=w) (base:=base) (k:=0) d20 B
      have g_piece:=has_piece (k:=1) d19 B g_figs
      have g_pieces:=has_pieces (k:=5) d18 B g_ctxs g_rows (g_in.mono (by decide)) (g_piece.mono (by decide))
      have g_pieceof:=has_pieceof (k:=6) d17 B g_pieces
      have g_beg:=has_beg (k:=5) d15 B g_ctxs
      have g_pot:=has_pot (P:=P) (w:=w) (base:=base) (k:=0) d21 B
      have g_take:=has_take (P:=P) (w:=w) (base:=base) (k:=0) d22 B
      have g_line:=has_line (P:=P) (w:=w) (base:=base) (k:=0) d23 B
      have g_up:=has_up (k:=1) d24 B g_line g_take
      have g_labels:=has_labels (k:=1) d25 B g_line g_take
      have g_tree:=has_tree (k:=2) d26 B (g_take.mono (by decide)) g_up g_labels
      have g_lwords:=has_lwords (P:=P) (w:=w) (base:=base) (k:=0) d27 B
      have g_lkept:=has_lkept (k:=1) d28 B g_lwords
      have g_llet:=has_llet (k:=2) d29 B g_lkept
      have g_lctx:=has_lctx (k:=2) d30 B (g_lwords.mono (by decide)) g_lkept
      have g_lbeg:=has_lbeg (P:=P) (w:=w) (base:=base) (k:=0) d31 B
      have g_lpiece:=has_lpiece (P:=P) (w:=w) (base:=base) (k:=0) d32 B
      have g_lunder:=has_lunder (P:=P) (w:=w) (base:=base) (k:=0) d33 B
      have g_lstr:=has_lstr (P:=P) (w:=w) (base:=base) (k:=0) d34 B
      have g_right:=has_right (k:=7) d35 B (g_under.mono (by decide)) (g_lstr.mono (by decide)) g_pieceof (g_lpiece.mono (by decide)) (g_lunder.mono (by decide))
      exact (ok_law (k:=8) F B (g_pot.mono (by decide)) (g_tree.mono (by decide)) (g_lctx.mono (by decide)) (g_llet.mono (by decide)) (g_lwords.mono (by decide)) (g_ctx.mono (by decide)) (g_lbeg.mono (by decide)) (g_beg.mono (by decide)) (g_take.mono (by decide)) g_right (g_pieceof.mono (by decide))).mono (by decide)
end S40
def PySem.W.Fast.tw13108786697426228117 : Nat := 0
def PySem.W.Fast.tw5453993647274155738 : Nat := 0
def PySem.W.Fast.tw2029161281495496588 : Nat := 0
def PySem.W.Fast.tw9199422892074748492 : Nat := 0
def PySem.W.Fast.tw13197087521031951600 : Nat := 0
def PySem.W.Fast.tw15217732443721912634 : Nat := 0
def PySem.W.Fast.tw8972510395366515889 : Nat := 0
def PySem.W.Fast.tw14679218240298908122 : Nat := 0
def PySem.W.Fast.tw10251212967204610388 : Nat := 0
def PySem.W.Fast.tw2438133354282685863 : Nat := 0
def PySem.W.Fast.tw4213047854128916244 : Nat := 0
def PySem.W.Fast.tw5732337948761903121 : Nat := 0
def PySem.W.Fast.tw3637363663512739635 : Nat := 0
def PySem.W.Fast.tw45014700518841576 : Nat := 0
def PySem.W.Fast.tw17149068601379858555 : Nat := 0
def PySem.W.Fast.tw3956785060370932178 : Nat := 0
def PySem.W.Fast.tw1809800999281732151 : Nat := 0
def PySem.W.Fast.tw16976568161873274880 : Nat := 0
def PySem.W.Fast.tw12083422695242658674 : Nat := 0
def PySem.W.Fast.tw11544483275691804022 : Nat := 0
def PySem.W.Fast.tw7873608921396752686 : Nat := 0
def PySem.W.Fast.tw9703867241943764145 : Nat := 0
def PySem.W.Fast.tw2429089294095909896 : Nat := 0
def PySem.W.Fast.tw2306779961344715262 : Nat := 0
def PySem.W.Fast.tw11961000583174588657 : Nat := 0
def PySem.W.Fast.tw13661744134514307426 : Nat := 0
def PySem.W.Fast.tw9755330100462371362 : Nat := 0
def PySem.W.Fast.tw14462431714886506169 : Nat := 0
def PySem.W.Fast.tw12746405248466797313 : Nat := 0
def PySem.W.Fast.tw3387697914081869232 : Nat := 0
def PySem.W.Fast.tw5064020805083233980 : Nat := 0
def PySem.W.Fast.tw9340002034505277583 : Nat := 0
def PySem.W.Fast.tw13690737792405901467 : Nat := 0
def PySem.W.Fast.tw17265167104910343163 : Nat := 0
def PySem.W.Fast.tw82477314229211321 : Nat := 0
def PySem.W.Fast.tw3755132216720613599 : Nat := 0
def PySem.W.Fast.tw14101565871936532256 : Nat := 0
open PySem PySem.W PyProof.Rows
set_option maxRecDepth 100000 in
set_option maxHeartbeats 0 in
theorem PySem.Challenge.cw_upwords_k40_contexts_and_pieces_holds : PySem.Challenge.rw_upwords_k40_contexts_and_pieces.Holds := by
  w_on; o_law; k_head; (case hw => w_witness2)
  k_fill
  refine L2.walk_ofT (l := PySem.Challenge.rw_upwords_k40_contexts_and_pieces) (n := 63) (k := 12) (x := "script") (nms := ["order_of", "kept_order"]) (CX := L2.CX0) (sp := fun Ts => S40.sp_law (S40.lamsOf Ts)) rfl (by decide) rfl ⟨rfl, by decide, by decide, rfl⟩ (fun w h Y => PySem.W.km_in_of Y) (.cons rfl (.cons rfl .nil)) (fun w => by kernel_rfl) ?F
    (fun K Ts H a ns hl hlen hT hS => ⟨a, ns, rfl, hS, hl, S40.lams_start hlen hT, fun _ => rfl⟩) (fun _ _ _ _ z => z)
  case F =>
    intro w mg fa h KX G hmg
    have B : L2.Blt mg := by
      refine' S40.blt_mk KX G ?z1 ?z2 ?z3 ?z4 ?z5 ?z6 ?z7 ?z8 ?z9 ?z10 ?z11 ?z12
      (case z1 => k_is); (case z2 => k_is); (case z3 => k_is); (case z4 => k_is); (case z5 => k_is); (case z6 => k_is); (case z7 => k_is); (case z8 => k_is); (case z9 => k_is); (case z10 => k_is); (case z11 => k_is); (case z12 => k_is)
    have Bx0 : mg "sorted" = none := by
      refine' PySem.W.mg_none_of KX G ?z
      (case z => k_is)
    have Bx1 : mg "repr" = none := by
      refine' PySem.W.mg_none_of KX G ?z
      (case z => k_is)
    have Bx2 : mg "set" = none := by
      refine' PySem.W.mg_none_of KX G ?z
      (case z => k_is)
    have d1 : L2.Df (L2.KOf KX) mg "words_of" S40.s_words_of := by
      dsimp only [L2.KOf]; refine' S40.df_mk KX G ?a ?l ?c ?k
      (case a => k_is); (case l => k_is); (case c => k_is); (case k => k_is)
    have d2 : L2.Df (L2.KOf KX) mg "word_of" S40.s_word_of := by
      dsimp only [L2.KOf]; refine' S40.df_mk KX G ?a ?l ?c ?k
      (case a => k_is); (case l => k_is); (case c => k_is); (case k => k_is)
    have d3 : L2.Df (L2.KOf KX) mg "word_above" S40.s_word_above := by
      dsimp only [L2.KOf]; refine' S40.df_mk KX G ?a ?l ?c ?k
      (case a => k_is); (case l => k_is); (case c => k_is); (case k => k_is)
    have d4 : L2.Df (L2.KOf KX) mg "order_of" S40.s_order_of := by
      dsimp only [L2.KOf]; refine' S40.df_mk KX G ?a ?l ?c ?k
      (case a => k_is); (case l => k_is); (case c => k_is); (case k => k_is)
    have d5 : L2.Df (L2.KOf KX) mg "ranks_of" S40.s_ranks_of := by
      dsimp only [L2.KOf]; refine' S40.df_mk KX G ?a ?l ?c ?k
      (case a => k_is); (case l => k_is); (case c => k_is); (case k => k_is)
    have d6 : L2.Df (L2.KOf KX) mg "beneath_of" S40.s_beneath_of := by
      dsimp only [L2.KOf]; refine' S40.df_mk KX G ?a ?l ?c ?k
      (case a => k_is); (case l => k_is); (case c => k_is); (case k => k_is)
    have d7 : L2.Df (L2.KOf KX) mg "is_leaf" S40.s_is_leaf := by
      dsimp only [L2.KOf]; refine' S40.df_mk KX G ?a ?l ?c ?k
      (case a => k_is); (case l => k_is); (case c => k_is); (case k => k_is)
    have d8 : L2.Df (L2.KOf KX) mg "kept_order" S40.s_kept_order := by
      dsimp only [L2.KOf]; refine' S40.df_mk KX G ?a ?l ?c ?k
      (case a => k_is); (case l => k_is); (case c => k_is); (case k => k_is)
    have d9 : L2.Df (L2.KOf KX) mg "rows_of" S40.s_rows_of := by
      dsimp only [L2.KOf]; refine' S40.df_mk KX G ?a ?l ?c ?k
      (case a => k_is); (case l => k_is); (case c => k_is); (case k => k_is)
    have d10 : L2.Df (L2.KOf KX) mg "is_last" S40.s_is_last := by
      dsimp only [L2.KOf]; refine' S40.df_mk KX G ?a ?l ?c ?k
      (case a => k_is); (case l => k_is); (case c => k_is); (case k => k_is)
    have d11 : L2.Df (L2.KOf KX) mg "stretch_in" S40.s_stretch_in := by
      dsimp only [L2.KOf]; refine' S40.df_mk KX G ?a ?l ?c ?k
      (case a => k_is); (case l => k_is); (case c => k_is); (case k => k_is)
    have d12 : L2.Df (L2.KOf KX) mg "count_read" S40.s_count_read := by
      dsimp only [L2.KOf]; refine' S40.df_mk KX G ?a ?l ?c ?k
      (case a => k_is); (case l => k_is); (case c => k_is); (case k => k_is)
    have d13 : L2.Df (L2.KOf KX) mg "context_of" S40.s_context_of := by
      dsimp only [L2.KOf]; refine' S40.df_mk KX G ?a ?l ?c ?k
      (case a => k_is); (case l => k_is); (case c => k_is); (case k => k_is)
    have d14 : L2.Df (L2.KOf KX) mg "contexts_of" S40.s_contexts_of := by
      dsimp only [L2.KOf]; refine' S40.df_mk KX G ?a ?l ?c ?k
      (case a => k_is); (case l => k_is); (case c => k_is); (case k => k_is)
    have d15 : L2.Df (L2.KOf KX) mg "beginnings_of" S40.s_beginnings_of := by
      dsimp only [L2.KOf]; refine' S40.df_mk KX G ?a ?l ?c ?k
      (case a => k_is); (case l => k_is); (case c => k_is); (case k => k_is)
    have d16 : L2.Df (L2.KOf KX) mg "rows_under" S40.s_rows_under := by
      dsimp only [L2.KOf]; refine' S40.df_mk KX G ?a ?l ?c ?k
      (case a => k_is); (case l => k_is); (case c => k_is); (case k => k_is)
    have d17 : L2.Df (L2.KOf KX) mg "piece_of" S40.s_piece_of := by
      dsimp only [L2.KOf]; refine' S40.df_mk KX G ?a ?l ?c ?k
      (case a => k_is); (case l => k_is); (case c => k_is); (case k => k_is)
    have d18 : L2.Df (L2.KOf KX) mg "pieces_of" S40.s_pieces_of := by
      dsimp only [L2.KOf]; refine' S40.df_mk KX G ?a ?l ?c ?k
      (case a => k_is); (case l => k_is); (case c => k_is); (case k => k_is)
    have d19 : L2.Df (L2.KOf KX) mg "piece_by" S40.s_piece_by := by
      dsimp only [L2.KOf]; refine' S40.df_mk KX G ?a ?l ?c ?k
      (case a => k_is); (case l => k_is); (case c => k_is); (case k => k_is)
    have d20 : L2.Df (L2.KOf KX) mg "figures_for" S40.s_figures_for := by
      dsimp only [L2.KOf]; refine' S40.df_mk KX G ?a ?l ?c ?k
      (case a => k_is); (case l => k_is); (case c => k_is); (case k => k_is)
    have d21 : L2.Df (L2.KOf KX) mg "_law_pot" S40.s_law_pot := by
      dsimp only [L2.KOf]; refine' S40.df_mk KX G ?a ?l ?c ?k
      (case a => k_is); (case l => k_is); (case c => k_is); (case k => k_is)
    have d22 : L2.Df (L2.KOf KX) mg "_law_take" S40.s_law_take := by
      dsimp only [L2.KOf]; refine' S40.df_mk KX G ?a ?l ?c ?k
      (case a => k_is); (case l => k_is); (case c => k_is); (case k => k_is)
    have d23 : L2.Df (L2.KOf KX) mg "_law_line" S40.s_law_line := by
      dsimp only [L2.KOf]; refine' S40.df_mk KX G ?a ?l ?c ?k
      (case a => k_is); (case l => k_is); (case c => k_is); (case k => k_is)
    have d24 : L2.Df (L2.KOf KX) mg "_law_up" S40.s_law_up := by
      dsimp only [L2.KOf]; refine' S40.df_mk KX G ?a ?l ?c ?k
      (case a => k_is); (case l => k_is); (case c => k_is); (case k => k_is)
    have d25 : L2.Df (L2.KOf KX) mg "_law_labels" S40.s_law_labels := by
      dsimp only [L2.KOf]; refine' S40.df_mk KX G ?a ?l ?c ?k
      (case a => k_is); (case l => k_is); (case c => k_is); (case k => k_is)
    have d26 : L2.Df (L2.KOf KX) mg "_law_tree" S40.s_law_tree := by
      dsimp only [L2.KOf]; refine' S40.df_mk KX G ?a ?l ?c ?k
      (case a => k_is); (case l => k_is); (case c => k_is); (case k => k_is)
    have d27 : L2.Df (L2.KOf KX) mg "_law_words" S40.s_law_words := by
      dsimp only [L2.KOf]; refine' S40.df_mk KX G ?a ?l ?c ?k
      (case a => k_is); (case l => k_is); (case c => k_is); (case k => k_is)
    have d28 : L2.Df (L2.KOf KX) mg "_law_kept" S40.s_law_kept := by
      dsimp only [L2.KOf]; refine' S40.df_mk KX G ?a ?l ?c ?k
      (case a => k_is); (case l => k_is); (case c => k_is); (case k => k_is)
    have d29 : L2.Df (L2.KOf KX) mg "_law_letters" S40.s_law_letters := by
      dsimp only [L2.KOf]; refine' S40.df_mk KX G ?a ?l ?c ?k
      (case a => k_is); (case l => k_is); (case c => k_is); (case k => k_is)
    have d30 : L2.Df (L2.KOf KX) mg "_law_contexts" S40.s_law_contexts := by
      dsimp only [L2.KOf]; refine' S40.df_mk KX G ?a ?l ?c ?k
      (case a => k_is); (case l => k_is); (case c => k_is); (case k => k_is)
    have d31 : L2.Df (L2.KOf KX) mg "_law_beginnings" S40.s_law_beginnings := by
      dsimp only [L2.KOf]; refine' S40.df_mk KX G ?a ?l ?c ?k
      (case a => k_is); (case l => k_is); (case c => k_is); (case k => k_is)
    have d32 : L2.Df (L2.KOf KX) mg "_law_piece" S40.s_law_piece := by
      dsimp only [L2.KOf]; refine' S40.df_mk KX G ?a ?l ?c ?k
      (case a => k_is); (case l => k_is); (case c => k_is); (case k => k_is)
    have d33 : L2.Df (L2.KOf KX) mg "_law_under" S40.s_law_under := by
      dsimp only [L2.KOf]; refine' S40.df_mk KX G ?a ?l ?c ?k
      (case a => k_is); (case l => k_is); (case c => k_is); (case k => k_is)
    have d34 : L2.Df (L2.KOf KX) mg "_law_stretch" S40.s_law_stretch := by
      dsimp only [L2.KOf]; refine' S40.df_mk KX G ?a ?l ?c ?k
      (case a => k_is); (case l => k_is); (case c => k_is); (case k => k_is)
    have d35 : L2.Df (L2.KOf KX) mg "_law_right" S40.s_law_right := by
      dsimp only [L2.KOf]; refine' S40.df_mk KX G ?a ?l ?c ?k
      (case a => k_is); (case l => k_is); (case c => k_is); (case k => k_is)
    have d36 : L2.Df (L2.KOf KX) mg "law" S40.s_law := by
      dsimp only [L2.KOf]; refine' S40.df_mk KX G ?a ?l ?c ?k
      (case a => k_is); (case l => k_is); (case c => k_is); (case k => k_is)
    obtain ⟨fd, h1, h2⟩ := S40.all_ok (P := PySem.Challenge.rw_upwords_k40_contexts_and_pieces.prog) (w := w) hmg ⟨B, Bx0, Bx1, Bx2⟩ d1 d2 d3 d4 d5 d6 d7 d8 d9 d10 d11 d12 d13 d14 d15 d16 d17 d18 d19 d20 d21 d22 d23 d24 d25 d26 d27 d28 d29 d30 d31 d32 d33 d34 d35 d36
    exact ⟨fd, h1, fun Ts base kb _ TA => h2 Ts base kb TA⟩
